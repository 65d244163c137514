import PyProof.Rows.All
import Wide.All
import OpenK.AllK
import Wide.FinOn
import Lean
import PyProof.EqAt
import PyProof.EqKinds
import PyProof.TupleCall
import PySem.Challenge.RW_stepledger_k71_one_sum
namespace L3
set_option compiler.extract_closed false
set_option genSizeOf false in
set_option genInjectivity false in
inductive AE where
 | v (i:Nat)
 | k (n:Nat)
 | a (x y:AE)
 | m (n:Nat) (x:AE)
noncomputable def Zny:List Nat → Nat → Nat
 | [],_=>0
 | x :: _,0=>x
 | _ :: l,n + 1=>Zny l n
noncomputable def AE.ev (c:List Nat):AE → Nat
 | .v i=>Zny c i
 | .k n=>n
 | .a x y=>x.ev c + y.ev c
 | .m n x=>n * x.ev c
noncomputable def aL:List Nat → List Nat → List Nat
 | [],r=>r
 | x :: l,[]=>x :: l
 | x :: l,y :: r=>(x + y) :: aL l r
noncomputable def sL (n:Nat):List Nat → List Nat
 | []=>[]
 | x :: l=>(n * x) :: sL n l
noncomputable def uL:Nat → List Nat
 | 0=>[1]
 | n + 1=>0 :: uL n
noncomputable def AE.li:AE → List Nat
 | .v i=>0 :: uL i
 | .k n=>[n]
 | .a x y=>aL x.li y.li
 | .m n x=>sL n x.li
noncomputable def dt:List Nat → List Nat → Nat
 | x :: c,y :: l=>x * y + dt c l
 | [],_=>0
 | _,[]=>0
noncomputable def leL:List Nat → List Nat → Bool
 | [],_=>true
 | x :: l,[]=>Nat.ble x 0 && leL l []
 | x :: l,y :: r=>Nat.ble x y && leL l r
theorem Zcg:∀ c,dt c [] = 0
 | []=>rfl
 | _ :: _=>rfl
theorem Zd3:∀ c l r,dt c (aL l r) = dt c l + dt c r
 | c,[],r=>by rw [Zcg,Nat.zero_add]; rfl
 | c,x :: l,[]=>by rw [Zcg]; rfl
 | [],x :: l,y :: r=>rfl
 | z :: c,x :: l,y :: r=>by
  show z * (x + y) + dt c (aL l r) = _
  rw [Zd3 c l r,Nat.mul_add]; exact Nat.add_add_add_comm _ _ _ _
theorem Zio (n:Nat):∀ c l,dt c (sL n l) = n * dt c l
 | c,[]=>by rw [Zcg]; exact Zcg c
 | [],x :: l=>rfl
 | z :: c,x :: l=>by
  show z * (n * x) + dt c (sL n l) = n * (z * x + dt c l)
  rw [Zio n c l,Nat.mul_add,Nat.mul_left_comm]
theorem ZoW:∀ c i,dt c (uL i) = Zny c i
 | [],0=>rfl
 | [],_ + 1=>rfl
 | x :: c,0=>by show x * 1 + dt c [] = x; rw [Zcg,Nat.mul_one]; rfl
 | x :: c,n + 1=>by show x * 0 + dt c (uL n) = Zny c n; rw [ZoW c n,Nat.mul_zero,Nat.zero_add]
theorem ZeQ:∀ c l r,leL l r = true → dt c l ≤ dt c r
 | c,[],r,_=>by rw [Zcg]; exact Nat.zero_le _
 | [],x :: l,r,_=>Nat.zero_le _
 | z :: c,x :: l,[],h=>by
  have h:=(Bool.and_eq_true _ _).mp h
  have e:x = 0:=Nat.le_zero.1 (Nat.le_of_ble_eq_true h.1)
  have i:=ZeQ c l [] h.2
  rw [Zcg] at i
  show z * x + dt c l ≤ 0
  rw [e,Nat.le_zero.1 i]; exact Nat.le_refl 0
 | z :: c,x :: l,y :: r,h=>
  have h:=(Bool.and_eq_true _ _).mp h
  Nat.add_le_add (Nat.mul_le_mul_left z (Nat.le_of_ble_eq_true h.1)) (ZeQ c l r h.2)
theorem AE.li_ev (c:List Nat):∀ e:AE,dt (1 :: c) e.li = e.ev c
 | .v i=>(Nat.zero_add _).trans (ZoW c i)
 | .k n=>by show 1 * n + dt c [] = n; rw [Zcg,Nat.one_mul]; rfl
 | .a x y=>(Zd3 _ _ _).trans (congr (congrArg _ (x.li_ev c)) (y.li_ev c))
 | .m n x=>(Zio n _ _).trans (congrArg _ (x.li_ev c))
noncomputable def rdE:Nat → Nat → AE × Nat
 | 0,s=>(.k 0,s)
 | f + 1,s=>bif Nat.ble (s % 16) 9 then (.v (s % 16),s / 16) else bif Nat.beq (s % 16) 10 then (.k 1,s / 16)
  else bif Nat.beq (s % 16) 11 then (.k (s / 256 % 16 ^ (s / 16 % 16)),s / 256 / 16 ^ (s / 16 % 16))
  else bif Nat.beq (s % 16) 12 then (.a (rdE f (s / 16)).1 (rdE f (rdE f (s / 16)).2).1,(rdE f (rdE f (s / 16)).2).2)
  else bif Nat.beq (s % 16) 13 then (.m (s / 16 % 256) (rdE f (s / 4096)).1,(rdE f (s / 4096)).2)
  else (.k 0,s / 16)
noncomputable def ZlW:Nat → Nat → Nat → Prop
 | 0,x,y=>x ≤ y
 | 1,x,y=>x < y
 | 2,x,y=>x = y
 | 3,x,y=>x = y
 | 4,x,y=>¬ x ≤ y
 | 5,x,y=>¬ x < y
 | _,_,_=>False
noncomputable def loN:Nat → AE → AE → List Nat
 | 0,x,_=>x.li
 | 1,x,_=>aL [1] x.li
 | 2,x,_=>x.li
 | 4,_,y=>aL [1] y.li
 | _,_,y=>y.li
noncomputable def hiN:Nat → AE → AE → List Nat
 | 0,_,y=>y.li
 | 1,_,y=>y.li
 | 2,_,y=>y.li
 | _,x,_=>x.li
noncomputable def Ziv (c:List Nat):Nat → Nat → Prop
 | 0,s=>ZlW (s % 16) ((rdE 9 (s / 16)).1.ev c) ((rdE 9 (rdE 9 (s / 16)).2).1.ev c)
 | n + 1,s=>ZlW (s / 16 % 16) ((rdE 9 (s / 256)).1.ev c) ((rdE 9 (rdE 9 (s / 256)).2).1.ev c) → Ziv c n (rdE 9 (rdE 9 (s / 256)).2).2
noncomputable def gN:Nat → AE → AE → List Nat → List Nat → Bool
 | 0,x,y,L,R=>leL (aL R x.li) (aL L y.li)
 | 1,x,y,L,R=>leL (aL [1] (aL R x.li)) (aL L y.li)
 | _,_,_,L,R=>leL (aL [1] R) L
noncomputable def chN:Nat → Nat → List Nat → List Nat → Bool
 | 0,s,L,R=>gN (s % 16) (rdE 9 (s / 16)).1 (rdE 9 (rdE 9 (s / 16)).2).1 L R
 | n + 1,s,L,R=>chN n (rdE 9 (rdE 9 (s / 256)).2).2 (aL L (sL (s % 16) (loN (s / 16 % 16) (rdE 9 (s / 256)).1 (rdE 9 (rdE 9 (s / 256)).2).1))) (aL R (sL (s % 16) (hiN (s / 16 % 16) (rdE 9 (s / 256)).1 (rdE 9 (rdE 9 (s / 256)).2).1)))
theorem ZfR (c l:List Nat):dt (1 :: c) (aL [1] l) = dt (1 :: c) l + 1:=by
 rw [Zd3]; show 1 * 1 + dt c [] + _ = _; rw [Zcg]; exact Nat.add_comm _ _
theorem ZmA (c:List Nat) (x y:AE):∀ r,ZlW r (x.ev c) (y.ev c) → dt (1 :: c) (loN r x y) ≤ dt (1 :: c) (hiN r x y)
 | 0,h=>by show dt _ x.li ≤ dt _ y.li; rw [x.li_ev,y.li_ev]; exact h
 | 1,h=>by show dt _ (aL [1] x.li) ≤ dt _ y.li; rw [ZfR,x.li_ev,y.li_ev]; exact h
 | 2,h=>by show dt _ x.li ≤ dt _ y.li; rw [x.li_ev,y.li_ev]; exact Nat.le_of_eq h
 | 3,h=>by show dt _ y.li ≤ dt _ x.li; rw [x.li_ev,y.li_ev]; exact Nat.le_of_eq h.symm
 | 4,h=>by show dt _ (aL [1] y.li) ≤ dt _ x.li; rw [ZfR,x.li_ev,y.li_ev]; exact Nat.lt_of_not_le h
 | 5,h=>by show dt _ y.li ≤ dt _ x.li; rw [x.li_ev,y.li_ev]; exact Nat.le_of_not_lt h
 | _ + 6,h=>h.elim
theorem Zsk (c:List Nat) (x y:AE) (L R:List Nat) (h:dt (1 :: c) L ≤ dt (1 :: c) R):∀ r,gN r x y L R = true → ZlW r (x.ev c) (y.ev c)
 | 0,k=>by
  have e:=ZeQ (1 :: c) _ _ k
  rw [Zd3,Zd3,x.li_ev,y.li_ev] at e
  exact Nat.le_of_add_le_add_left (Nat.le_trans e (Nat.add_le_add_right h _))
 | 1,k=>by
  have e:=ZeQ (1 :: c) _ _ k
  rw [ZfR,Zd3,Zd3,x.li_ev,y.li_ev] at e
  exact Nat.lt_of_add_lt_add_left (Nat.le_trans e (Nat.add_le_add_right h _))
 | r + 2,k=>by
  have e:=ZeQ (1 :: c) _ _ k
  rw [ZfR] at e
  exact absurd (Nat.le_trans e h) (Nat.not_succ_le_self _)
theorem arN (c:List Nat):∀ (n s:Nat) (L R:List Nat),dt (1 :: c) L ≤ dt (1 :: c) R → chN n s L R = true → Ziv c n s
 | 0,s,L,R,h,k=>Zsk c _ _ L R h _ k
 | n + 1,s,L,R,h,k=>fun g=>arN c n _ _ _ (by
   rw [Zd3,Zd3,Zio,Zio]; exact Nat.add_le_add h (Nat.mul_le_mul_left _ (ZmA c _ _ _ g))) k
end L3
theorem lN (c:List Nat) (n s:Nat) (h:L3.chN n s [] [] = true):L3.Ziv c n s:=L3.arN c n s [] [] (Nat.le_refl _) h
theorem sbA (a b:Nat):a ≤ a - b + b:=Nat.le_add_of_sub_le (Nat.le_refl _)
theorem T1:true = true:=rfl
theorem lA {a:Nat} (n s:Nat) (y:L3.chN n s [] [] = true):L3.Ziv [a] n s:=lN _ n s y
theorem lB {a b:Nat} (n s:Nat) (y:L3.chN n s [] [] = true):L3.Ziv [a,b] n s:=lN _ n s y
theorem lC {a b c:Nat} (n s:Nat) (y:L3.chN n s [] [] = true):L3.Ziv [a,b,c] n s:=lN _ n s y
theorem lD {a b c d:Nat} (n s:Nat) (y:L3.chN n s [] [] = true):L3.Ziv [a,b,c,d] n s:=lN _ n s y
theorem lE {a b c d e:Nat} (n s:Nat) (y:L3.chN n s [] [] = true):L3.Ziv [a,b,c,d,e] n s:=lN _ n s y
theorem clA (w:Int):max w 0 = (w.toNat:Int):=(Int.ofNat_toNat w).symm
theorem clB (v:Int) (n:Nat) (h:¬ v < 0):min v (n:Int) = ((min v.toNat n:Nat):Int):=by
 obtain ⟨k,rfl⟩:=Int.eq_ofNat_of_zero_le (Int.not_lt.1 h)
 rcases Nat.le_total k n with z | z
 ·rw [Int.min_eq_left (Int.ofNat_le.2 z)]; exact congrArg Int.ofNat (Nat.min_eq_left z).symm
 ·rw [Int.min_eq_right (Int.ofNat_le.2 z)]; exact congrArg Int.ofNat (Nat.min_eq_right z).symm
theorem clC (v:Int) (n:Nat) (h:v < 0):max 0 (min (v + (n:Int)) (n:Int)) = ((v + (n:Int)).toNat:Int):=by
 rw [Int.min_eq_left (Int.le_of_lt (Int.lt_of_lt_of_le (Int.add_lt_add_right h _) (Int.le_of_eq (Int.zero_add _)))),Int.max_comm]; exact clA _
theorem clD (v:Int) (n:Nat) (h:¬ v < 0):max 0 (min v (n:Int)) = ((min v.toNat n:Nat):Int):=by
 rw [clB v n h]; exact Int.max_eq_right (Int.natCast_nonneg _)
namespace L3
set_option genSizeOf false in
set_option genInjectivity false in
inductive AI where
 | v (i:Nat)
 | k (n:Nat)
 | c (e:AE)
 | a (x y:AI)
 | s (x y:AI)
 | g (x:AI)
 | m (n:Nat) (x:AI)
noncomputable def Zmt:List Int → Nat → Int
 | [],_=>0
 | x :: _,0=>x
 | _ :: l,n + 1=>Zmt l n
noncomputable def AI.ev (c:List Nat) (d:List Int):AI → Int
 | .v i=>Zmt d i
 | .k n=>Int.ofNat n
 | .c e=>((e.ev c:Nat):Int)
 | .a x y=>x.ev c d + y.ev c d
 | .s x y=>x.ev c d - y.ev c d
 | .g x=>-x.ev c d
 | .m n x=>Int.ofNat n * x.ev c d
noncomputable def pL (u w:List Nat × List Nat):List Nat × List Nat:=(aL u.1 w.1,aL u.2 w.2)
noncomputable def AI.li:AI → Bool → List Nat × List Nat
 | .v i,b=>bif b then ([],uL i) else ([],[])
 | .k n,b=>bif b then ([n],[]) else ([],[])
 | .c e,b=>bif b then (e.li,[]) else ([],[])
 | .a x y,b=>pL (x.li b) (y.li b)
 | .s x y,b=>pL (x.li b) (y.li (!b))
 | .g x,b=>x.li (!b)
 | .m n x,b=>(sL n (x.li b).1,sL n (x.li b).2)
noncomputable def dtI:List Int → List Nat → Int
 | x :: c,y :: l=>x * (y:Int) + dtI c l
 | [],_=>0
 | _,[]=>0
noncomputable def dI (c:List Nat) (d:List Int) (u:List Nat × List Nat):Int:=((dt (1 :: c) u.1:Nat):Int) + dtI d u.2
theorem Zo1 (p q r s:Int):p + q + (r + s) = p + r + (q + s):=by omega
theorem ZbE:∀ c,dtI c [] = 0
 | []=>rfl
 | _ :: _=>rfl
theorem Zmf:∀ c l r,dtI c (aL l r) = dtI c l + dtI c r
 | c,[],r=>by rw [ZbE,Int.zero_add]; rfl
 | c,x :: l,[]=>by rw [ZbE,Int.add_zero]; rfl
 | [],x :: l,y :: r=>rfl
 | z :: c,x :: l,y :: r=>by
  show z * ((x + y:Nat):Int) + dtI c (aL l r) = (z * x + dtI c l) + (z * y + dtI c r)
  rw [Zmf c l r,Int.natCast_add,Int.mul_add]; exact Zo1 _ _ _ _
theorem Zmo (n:Nat):∀ c l,dtI c (sL n l) = Int.ofNat n * dtI c l
 | c,[]=>by rw [ZbE,Int.mul_zero]; exact ZbE c
 | [],x :: l=>(Int.mul_zero _).symm
 | z :: c,x :: l=>by
  show z * ((n * x:Nat):Int) + dtI c (sL n l) = Int.ofNat n * (z * x + dtI c l)
  rw [Zmo n c l,Int.mul_add,Int.natCast_mul,Int.mul_left_comm]; rfl
theorem ZlO:∀ c i,dtI c (uL i) = Zmt c i
 | [],0=>rfl
 | [],_ + 1=>rfl
 | x :: c,0=>by show x * 1 + dtI c [] = x; rw [ZbE,Int.mul_one,Int.add_zero]
 | x :: c,n + 1=>by show x * 0 + dtI c (uL n) = Zmt c n; rw [ZlO c n,Int.mul_zero,Int.zero_add]
section
variable (c:List Nat) (d:List Int)
theorem Zcr (u w:List Nat × List Nat):dI c d (pL u w) = dI c d u + dI c d w:=by
 show ((dt (1 :: c) (aL u.1 w.1):Nat):Int) + dtI d (aL u.2 w.2) = _
 rw [Zd3,Zmf,Int.natCast_add]; exact Zo1 _ _ _ _
theorem Zkp (n:Nat) (u:List Nat × List Nat):dI c d (sL n u.1,sL n u.2) = Int.ofNat n * dI c d u:=by
 show ((dt (1 :: c) (sL n u.1):Nat):Int) + dtI d (sL n u.2) = _
 rw [Zio,Zmo,Int.natCast_mul]; exact (Int.mul_add _ _ _).symm
theorem Zp0:dI c d ([],[]) = 0:=by
 show ((dt (1 :: c) []:Nat):Int) + dtI d [] = 0
 rw [Zcg,ZbE]; rfl
theorem ZqC (p q r s:Int):p - q + (r - s) = p + r - (q + s):=by omega
theorem ZlH (p q r s:Int):p - q - (r - s) = p + s - (q + r):=by omega
theorem AI.li_ev:∀ e:AI,e.ev c d = dI c d (e.li true) - dI c d (e.li false)
 | .v i=>by show Zmt d i = dI c d ([],uL i) - dI c d ([],[]); rw [Zp0,Int.sub_zero]; show _ = ((dt (1 :: c) []:Nat):Int) + dtI d (uL i); rw [Zcg,ZlO]; exact (Int.zero_add _).symm
 | .k n=>by show Int.ofNat n = dI c d ([n],[]) - dI c d ([],[]); rw [Zp0,Int.sub_zero]; show _ = ((dt (1 :: c) [n]:Nat):Int) + dtI d []; rw [ZbE,Int.add_zero]; show _ = ((1 * n + dt c []:Nat):Int); rw [Zcg,Nat.one_mul]; rfl
 | .c e=>by show ((e.ev c:Nat):Int) = dI c d (e.li,[]) - dI c d ([],[]); rw [Zp0,Int.sub_zero]; show _ = ((dt (1 :: c) e.li:Nat):Int) + dtI d []; rw [ZbE,Int.add_zero,e.li_ev]
 | .a x y=>by show x.ev c d + y.ev c d = dI c d (pL (x.li true) (y.li true)) - dI c d (pL (x.li false) (y.li false)); rw [Zcr,Zcr,x.li_ev,y.li_ev]; exact ZqC _ _ _ _
 | .s x y=>by show x.ev c d - y.ev c d = dI c d (pL (x.li true) (y.li false)) - dI c d (pL (x.li false) (y.li true)); rw [Zcr,Zcr,x.li_ev,y.li_ev]; exact ZlH _ _ _ _
 | .g x=>by show -x.ev c d = dI c d (x.li false) - dI c d (x.li true); rw [x.li_ev]; exact Int.neg_sub _ _
 | .m n x=>by show Int.ofNat n * x.ev c d = dI c d (sL n (x.li true).1,sL n (x.li true).2) - dI c d (sL n (x.li false).1,sL n (x.li false).2); rw [Zkp,Zkp,x.li_ev]; exact Int.mul_sub _ _ _
noncomputable def cI (x y:AI):List Nat × List Nat:=pL (x.li true) (y.li false)
noncomputable def Zjl (u:List Nat × List Nat):List Nat × List Nat:=(aL [1] u.1,u.2)
theorem Zht (u:List Nat × List Nat):dI c d (Zjl u) = dI c d u + 1:=by
 show ((dt (1 :: c) (aL [1] u.1):Nat):Int) + dtI d u.2 = ((dt (1 :: c) u.1:Nat):Int) + dtI d u.2 + 1
 rw [ZfR,Int.natCast_add,Int.add_right_comm]; rfl
theorem ZhP (x y:AI):dI c d (cI x y) - dI c d (cI y x) = x.ev c d - y.ev c d:=by
 unfold cI
 rw [Zcr,Zcr,x.li_ev,y.li_ev,ZlH,Int.add_comm (dI c d (y.li true))]
theorem Zkl {x y:AI} (h:x.ev c d ≤ y.ev c d):dI c d (cI x y) ≤ dI c d (cI y x):=by
 have:=ZhP c d x y; omega
theorem Zrt {x y:AI} (h:dI c d (cI x y) ≤ dI c d (cI y x)):x.ev c d ≤ y.ev c d:=by
 have:=ZhP c d x y; omega
noncomputable def ZrW:Nat → Int → Int → Prop
 | 0,x,y=>x ≤ y
 | 1,x,y=>x < y
 | 2,x,y=>x = y
 | 3,x,y=>x = y
 | 4,x,y=>¬ x ≤ y
 | 5,x,y=>¬ x < y
 | _,_,_=>False
noncomputable def loI:Nat → AI → AI → List Nat × List Nat
 | 0,x,y=>cI x y
 | 1,x,y=>Zjl (cI x y)
 | 2,x,y=>cI x y
 | 4,x,y=>Zjl (cI y x)
 | _,x,y=>cI y x
noncomputable def hiI:Nat → AI → AI → List Nat × List Nat
 | 0,x,y=>cI y x
 | 1,x,y=>cI y x
 | 2,x,y=>cI y x
 | _,x,y=>cI x y
theorem Zo6 {x y:AI} (h:x.ev c d < y.ev c d):dI c d (Zjl (cI x y)) ≤ dI c d (cI y x):=by
 have:=ZhP c d x y; rw [Zht]; omega
theorem Zpz (x y:AI):∀ r,ZrW r (x.ev c d) (y.ev c d) → dI c d (loI r x y) ≤ dI c d (hiI r x y)
 | 0,h=>Zkl c d h
 | 1,h=>Zo6 c d h
 | 2,h=>Zkl c d (Int.le_of_eq h)
 | 3,h=>Zkl c d (Int.le_of_eq h.symm)
 | 4,h=>Zo6 c d (Int.not_le.1 h)
 | 5,h=>Zkl c d (Int.not_lt.1 h)
 | _ + 6,h=>h.elim
end
noncomputable def rdI:Nat → Nat → AI × Nat
 | 0,s=>(.k 0,s)
 | f + 1,s=>bif Nat.ble (s % 16) 7 then (.v (s % 16),s / 16) else bif Nat.beq (s % 16) 8 then (.c (rdE 9 (s / 16)).1,(rdE 9 (s / 16)).2)
  else bif Nat.beq (s % 16) 9 then (.g (rdI f (s / 16)).1,(rdI f (s / 16)).2) else bif Nat.beq (s % 16) 10 then (.k 1,s / 16)
  else bif Nat.beq (s % 16) 11 then (.k (s / 256 % 16 ^ (s / 16 % 16)),s / 256 / 16 ^ (s / 16 % 16))
  else bif Nat.beq (s % 16) 12 then (.a (rdI f (s / 16)).1 (rdI f (rdI f (s / 16)).2).1,(rdI f (rdI f (s / 16)).2).2)
  else bif Nat.beq (s % 16) 13 then (.m (s / 16 % 256) (rdI f (s / 4096)).1,(rdI f (s / 4096)).2)
  else bif Nat.beq (s % 16) 14 then (.k 0,s / 16) else (.s (rdI f (s / 16)).1 (rdI f (rdI f (s / 16)).2).1,(rdI f (rdI f (s / 16)).2).2)
def hP (c:List Nat) (d:List Int) (r s:Nat):Prop:=bif Nat.ble 8 r then ZrW (r - 8) ((rdI 9 s).1.ev c d) ((rdI 9 (rdI 9 s).2).1.ev c d) else ZlW r ((rdE 9 s).1.ev c) ((rdE 9 (rdE 9 s).2).1.ev c)
noncomputable def hR (r s:Nat):Nat:=bif Nat.ble 8 r then (rdI 9 (rdI 9 s).2).2 else (rdE 9 (rdE 9 s).2).2
noncomputable def hL (r s:Nat):List Nat × List Nat:=bif Nat.ble 8 r then loI (r - 8) (rdI 9 s).1 (rdI 9 (rdI 9 s).2).1 else (loN r (rdE 9 s).1 (rdE 9 (rdE 9 s).2).1,[])
noncomputable def hH (r s:Nat):List Nat × List Nat:=bif Nat.ble 8 r then hiI (r - 8) (rdI 9 s).1 (rdI 9 (rdI 9 s).2).1 else (hiN r (rdE 9 s).1 (rdE 9 (rdE 9 s).2).1,[])
theorem Zsy (c:List Nat) (d:List Int) (r s:Nat) (h:hP c d r s):dI c d (hL r s) ≤ dI c d (hH r s):=by
 unfold hP at h
 unfold hL hH
 cases e:Nat.ble 8 r <;> rw [e] at h
 ·exact Int.add_le_add_right (Int.ofNat_le.2 (ZmA c _ _ _ h)) _
 ·exact Zpz c d _ _ _ h
noncomputable def zL:List Nat → Bool
 | []=>true
 | x :: l=>Nat.beq x 0 && zL l
noncomputable def eqL:List Nat → List Nat → Bool
 | [],r=>zL r
 | x :: l,[]=>Nat.beq x 0 && zL l
 | x :: l,y :: r=>Nat.beq x y && eqL l r
theorem ZmM:∀ c l,zL l = true → dtI c l = 0
 | c,[],_=>ZbE c
 | [],x :: l,_=>rfl
 | z :: c,x :: l,h=>by
  have h:=(Bool.and_eq_true _ _).mp h
  show z * (x:Int) + dtI c l = 0
  rw [Nat.eq_of_beq_eq_true h.1,ZmM c l h.2,Int.add_zero]; exact Int.mul_zero z
theorem ZlX:∀ c l r,eqL l r = true → dtI c l = dtI c r
 | c,[],r,h=>(ZbE c).trans (ZmM c r h).symm
 | c,x :: l,[],h=>(ZmM c (x :: l) h).trans (ZbE c).symm
 | [],x :: l,y :: r,_=>rfl
 | z :: c,x :: l,y :: r,h=>by
  have h:=(Bool.and_eq_true _ _).mp h
  show z * (x:Int) + dtI c l = z * (y:Int) + dtI c r
  rw [Nat.eq_of_beq_eq_true h.1,ZlX c l r h.2]
noncomputable def leP (u w:List Nat × List Nat):Bool:=leL u.1 w.1 && eqL u.2 w.2
theorem Zf8 (c:List Nat) (d:List Int) {u w:List Nat × List Nat} (h:leP u w = true):dI c d u ≤ dI c d w:=by
 have h:=(Bool.and_eq_true _ _).mp h
 exact Int.add_le_add (Int.ofNat_le.2 (ZeQ _ _ _ h.1)) (Int.le_of_eq (ZlX d _ _ h.2))
noncomputable def ZqO (c:List Nat) (d:List Int):Nat → Nat → Prop
 | 0,s=>hP c d (s % 16) (s / 16)
 | n + 1,s=>hP c d (s / 16 % 16) (s / 256) → ZqO c d n (hR (s / 16 % 16) (s / 256))
noncomputable def gI (r s:Nat) (L R:List Nat × List Nat):Bool:=bif Nat.beq r 0 then leP (pL R ((rdE 9 s).1.li,[])) (pL L ((rdE 9 (rdE 9 s).2).1.li,[]))
 else bif Nat.beq r 1 then leP (Zjl (pL R ((rdE 9 s).1.li,[]))) (pL L ((rdE 9 (rdE 9 s).2).1.li,[]))
 else bif Nat.beq r 8 then leP (pL R (cI (rdI 9 s).1 (rdI 9 (rdI 9 s).2).1)) (pL L (cI (rdI 9 (rdI 9 s).2).1 (rdI 9 s).1))
 else bif Nat.beq r 9 then leP (Zjl (pL R (cI (rdI 9 s).1 (rdI 9 (rdI 9 s).2).1))) (pL L (cI (rdI 9 (rdI 9 s).2).1 (rdI 9 s).1))
 else leP (Zjl R) L
noncomputable def chI:Nat → Nat → List Nat × List Nat → List Nat × List Nat → Bool
 | 0,s,L,R=>gI (s % 16) (s / 16) L R
 | n + 1,s,L,R=>chI n (hR (s / 16 % 16) (s / 256)) (pL L (sL (s % 16) (hL (s / 16 % 16) (s / 256)).1,sL (s % 16) (hL (s / 16 % 16) (s / 256)).2)) (pL R (sL (s % 16) (hH (s / 16 % 16) (s / 256)).1,sL (s % 16) (hH (s / 16 % 16) (s / 256)).2))
theorem Zkn (c:List Nat) (d:List Int) (e:AE):dI c d (e.li,[]) = ((e.ev c:Nat):Int):=by
 show ((dt (1 :: c) e.li:Nat):Int) + dtI d [] = _
 rw [ZbE,Int.add_zero,e.li_ev]
theorem Zlv {a b l r:Int} (h:l ≤ r) (e:r + a ≤ l + b):a ≤ b:=by omega
theorem ZmN {a b l r:Int} (h:l ≤ r) (e:r + a + 1 ≤ l + b):a < b:=by omega
theorem ZpU {l r:Int} (h:l ≤ r) (e:r + 1 ≤ l):False:=by omega
theorem Zrn (c:List Nat) (d:List Int) (r s:Nat) (L R:List Nat × List Nat) (h:dI c d L ≤ dI c d R) (k:gI r s L R = true):hP c d r s:=by
 unfold gI at k
 cases e0:Nat.beq r 0 with
 | true=>
  rw [Nat.eq_of_beq_eq_true e0] at k ⊢
  have e:=Zf8 c d k
  rw [Zcr,Zcr,Zkn,Zkn] at e
  exact Int.ofNat_le.1 (Zlv h e)
 | false=>
  cases e1:Nat.beq r 1 with
  | true=>
   rw [Nat.eq_of_beq_eq_true e1] at k ⊢
   have e:=Zf8 c d k
   rw [Zht,Zcr,Zcr,Zkn,Zkn] at e
   exact Int.ofNat_lt.1 (ZmN h e)
  | false=>
   cases e8:Nat.beq r 8 with
   | true=>
    rw [Nat.eq_of_beq_eq_true e8] at k ⊢
    have e:=Zf8 c d k
    rw [Zcr,Zcr] at e
    exact Zrt c d (Zlv h e)
   | false=>
    cases e9:Nat.beq r 9 with
    | true=>
     rw [Nat.eq_of_beq_eq_true e9] at k ⊢
     have e:=Zf8 c d k
     rw [Zht,Zcr,Zcr] at e
     have z:=ZmN h e
     have y:=ZhP c d (rdI 9 s).1 (rdI 9 (rdI 9 s).2).1
     show (rdI 9 s).1.ev c d < (rdI 9 (rdI 9 s).2).1.ev c d
     exact Int.lt_of_sub_neg (y ▸ Int.sub_neg_of_lt z)
    | false=>
     rw [e0,e1,e8,e9] at k
     have e:=Zf8 c d k
     rw [Zht] at e
     exact (ZpU h e).elim
theorem arI (c:List Nat) (d:List Int):∀ (n s:Nat) (L R:List Nat × List Nat),dI c d L ≤ dI c d R → chI n s L R = true → ZqO c d n s
 | 0,s,L,R,h,k=>Zrn c d _ _ L R h k
 | n + 1,s,L,R,h,k=>fun g=>arI c d n _ _ _ (by
   rw [Zcr,Zcr,Zkp,Zkp]; exact Int.add_le_add h (Int.mul_le_mul_of_nonneg_left (Zsy c d _ _ g) (Int.natCast_nonneg _))) k
end L3
theorem iN (c:List Nat) (d:List Int) (n s:Nat) (h:L3.chI n s ([],[]) ([],[]) = true):L3.ZqO c d n s:=L3.arI c d n s ([],[]) ([],[]) (Int.le_refl _) h
set_option Elab.async false
set_option linter.all false
set_option maxRecDepth 100000
namespace L2
open PySem PySem.Spec PyProof.Rows
noncomputable abbrev Key:=Sum Int Str
noncomputable def ZgD:Key → Value → Bool
 | .inl k,v=>Value.isInt k v
 | .inr x,v=>Value.isStrOf x v
noncomputable def ZtD (w:World):Key → Int
 | .inl k=>hashInt k
 | .inr x=>hashStr w x
theorem ZaN:∀ {k:Key} {v:Value},ZgD k v = true → (∃ i t,k = Sum.inl i ∧ v = Value.int i t) ∨ (∃ x t,k = Sum.inr x ∧ v = Value.str x t)
 | .inl i,v,h=>by
  obtain ⟨t,e⟩:=Value.isInt_shape (k:=i) (v:=v) h
  exact .inl ⟨i,t,rfl,e⟩
 | .inr x,v,h=>by
  obtain ⟨t,e⟩:=Value.isStrOf_shape (x:=x) (v:=v) h
  exact .inr ⟨x,t,rfl,e⟩
theorem ZkL (i:Int) (t:Tok):ZgD (.inl i) (.int i t) = true:=by simp [ZgD,Value.isInt]
theorem Zk9 (x:Str) (t:Tok):ZgD (.inr x) (.str x t) = true:=by simp [ZgD,Value.isStrOf]
theorem Zpn (a b:Int):decide ((Sum.inl a:Key) = Sum.inl b) = (a == b):=by
 by_cases e:a = b
 ·subst e; simp
 ·have h:¬ (Sum.inl a:Key) = Sum.inl b:=fun q=>e (Sum.inl.inj q)
  rw [decide_eq_false h]
  exact (beq_eq_false_iff_ne.mpr e).symm
theorem ZpQ (a b:Str):decide ((Sum.inr a:Key) = Sum.inr b) = decide (a = b):=by
 by_cases e:a = b
 ·subst e; simp
 ·have h:¬ (Sum.inr a:Key) = Sum.inr b:=fun q=>e (Sum.inr.inj q)
  rw [decide_eq_false h,decide_eq_false e]
theorem Zpe (a:Int) (b:Str):decide ((Sum.inl a:Key) = Sum.inr b) = false:=decide_eq_false (fun q=>nomatch q)
theorem Zqb (a:Str) (b:Int):decide ((Sum.inr a:Key) = Sum.inl b) = false:=decide_eq_false (fun q=>nomatch q)
noncomputable def Zas (prog:Program) (w:World):PySem.KeyKind prog w Key where
 is:=ZgD
 hash:=ZtD w
 inj:=fun v a b ha hb=>by
  rcases ZaN ha with ⟨i,t,rfl,rfl⟩ | ⟨x,t,rfl,rfl⟩
  ·rcases ZaN hb with ⟨j,u,rfl,e⟩ | ⟨y,u,rfl,e⟩
   ·injection e with e1 _; rw [e1]
   ·exact nomatch e
  ·rcases ZaN hb with ⟨j,u,rfl,e⟩ | ⟨y,u,rfl,e⟩
   ·exact nomatch e
   ·injection e with e1 _; rw [e1]
 byValue:=fun k v h=>by
  rcases ZaN h with ⟨i,t,rfl,rfl⟩ | ⟨x,t,rfl,rfl⟩ <;> rfl
 pyHash:=fun hv h=>by
  rcases ZaN hv with ⟨i,t,rfl,rfl⟩ | ⟨x,t,rfl,rfl⟩
  ·exact wpAny_pyHash_int h
  ·exact wpAny_pyHash_str h
 eqBool:=fun hu hv h=>by
  rcases ZaN hu with ⟨i,t,rfl,rfl⟩ | ⟨x,t,rfl,rfl⟩
  ·rcases ZaN hv with ⟨j,u,rfl,rfl⟩ | ⟨y,u,rfl,rfl⟩
   ·rw [Zpn] at h; exact wpAny_eqBool_int h
   ·rw [Zpe] at h; exact SeqAt.EqAt.int_str i t y u _ _ _ _ h
  ·rcases ZaN hv with ⟨j,u,rfl,rfl⟩ | ⟨y,u,rfl,rfl⟩
   ·rw [Zqb] at h; exact SeqAt.EqAt.str_int x t j u _ _ _ _ h
   ·rw [ZpQ] at h; exact wpAny_eqBool_str h
 «strs»:=fun k x t v h=>by
  rcases ZaN h with ⟨i,u,rfl,e⟩ | ⟨y,u,rfl,e⟩
  ·exact nomatch e
  ·injection e with e1 _
   subst e1
   cases v <;> rfl
theorem Ziy (prog:Program) (w:World) (i:Int) (t:Tok):(Zas prog w).is (.inl i) (.int i t) = true:=ZkL i t
theorem ZiI (prog:Program) (w:World) (x:Str) (t:Tok):(Zas prog w).is (.inr x) (.str x t) = true:=Zk9 x t
end L2
namespace L2
open PySem PySem.Spec PyProof.Rows
inductive V where
 | non | bl (b:Bool) | int (i:Int) | str (x:Str) | byt (b:Array UInt8) | flt (b:UInt64) | ref (a:Addr) | ty (n:String)
 deriving DecidableEq
noncomputable def RelV:V → Value → Prop
 | .non,u=>u = Value.none
 | .bl b,u=>u = Value.bool b
 | .int i,u=>∃ t,u = Value.int i t
 | .str x,u=>∃ t,u = Value.str x t
 | .byt b,u=>∃ t,u = Value.bytes b t
 | .flt b,u=>∃ t,u = Value.float b t
 | .ref a,u=>u = Value.ref a
 | .ty n,u=>u = Value.type n
noncomputable abbrev Vals:List V → List Value → Prop:=Paired RelV
theorem Vals.length {xs:List V} {us:List Value} (r:Vals xs us):xs.length = us.length:=Paired.length r
theorem Vals.get:∀ {xs:List V} {us:List Value} {i:Nat} {x:V},Vals xs us → xs[i]? = some x → ∃ u,us[i]? = some u ∧ RelV x u
 | _,_,_,_,.nil,e=>by simp at e
 | _,_,0,_,.cons r _,e=>by simp at e; subst e; exact ⟨_,rfl,r⟩
 | _,_,i + 1,x,.cons _ t,e=>by
  obtain ⟨u,h1,h2⟩:=Vals.get (i:=i) (x:=x) t (by simpa using e)
  exact ⟨u,by simpa using h1,h2⟩
theorem Vals.set {x:V} {u:Value} (r:RelV x u):∀ {xs:List V} {us:List Value} (i:Nat),Vals xs us → Vals (xs.set i x) (us.set i u)
 | _,_,_,.nil=>.nil
 | _,_,0,.cons _ t=>.cons r t
 | _,_,i + 1,.cons q t=>.cons q (Vals.set r i t)
theorem Vals.append:∀ {xs ys:List V} {us ws:List Value},Vals xs us → Vals ys ws → Vals (xs ++ ys) (us ++ ws)
 | _,_,_,_,.nil,s=>s
 | _,_,_,_,.cons r t,s=>.cons r (Vals.append t s)
theorem Vals.take:∀ {xs:List V} {us:List Value} (n:Nat),Vals xs us → Vals (xs.take n) (us.take n)
 | _,_,0,_=>.nil
 | _,_,_ + 1,.nil=>.nil
 | _,_,n + 1,.cons r t=>.cons r (Vals.take n t)
theorem Vals.drop:∀ {xs:List V} {us:List Value} (n:Nat),Vals xs us → Vals (xs.drop n) (us.drop n)
 | _,_,0,r=>r
 | _,_,_ + 1,.nil=>.nil
 | _,_,n + 1,.cons _ t=>Vals.drop n t
noncomputable def Zdr:Option V → Option Value → Prop
 | some v,some u=>RelV v u
 | none,none=>True
 | _,_=>False
noncomputable def KV {κ:Type}:List (κ × V) → List (κ × Value) → Prop:=Paired fun (p:κ × V) (q:κ × Value)=>p.1 = q.1 ∧ RelV p.2 q.2
noncomputable def kV:Key → V
 | .inl i=>.int i
 | .inr x=>.str x
inductive HO where
 /-- a list -/
 | lst (xs:List V)
 /-- a tuple (never changes) -/
 | tup (xs:List V)
 /-- a dict whose keys are ints and texts; one whose keys are tuples of ints and texts (the empty one is both) -/
 | dK (kvs:List (Key × V)) | dT (kvs:List (List Key × V))
 /-- a set of ints: its members,its size -/
 | set (S:Int → Bool) (n:Nat)
 /-- an instance of the class at C,its dict at dx,its attributes -/
 | ins (C dx:Addr) (fs:List (Str × V))
 /-- the dict of the instance at x -/
 | own (x:Addr)
 /-- the dict of an exception -/
 | xd (fs:List (Str × V))
 /-- a bound method,f of x -/
 | met (f x:Addr)
 /-- a range object lo,lo + 1,.. below hi -/
 | rng (lo hi:Int)
 /-- a thing that is known to the object (the script; a dict while a loop walks it): read,never written while it is so -/
 | frz (o:Obj) (u:HO)
 /-- a code object's table -/
 | tbl (ps:Array Value)
 /-- any other thing,by what is true of its one object (a def of one's own: SetO a S n:=HO.ext fun h=>..) -/
 | ext (φ:Heap → Prop)
noncomputable abbrev Hp:=Addr → Option HO
noncomputable def upd (H:Hp) (a:Addr) (o:HO):Hp:=fun b=>if b = a then some o else H b
theorem Zbw {H:Hp} {a:Addr} {o:HO}:upd H a o a = some o:=by unfold upd; rw [if_pos rfl]
theorem Zay {H:Hp} {a b:Addr} {o:HO} (h:b ≠ a):upd H a o b = H b:=by unfold upd; rw [if_neg h]
theorem Zri {H:Hp} {a b:Addr} {o u:HO} (h:H a = some o) (h':H b = some u) (d:o ≠ u):a ≠ b:=by
 intro e; subst e; rw [h] at h'; exact d (Option.some.inj h')
theorem ZcG {H:Hp} {a b:Addr} {o:HO} (h:H a = some o) (h':H b = none):a ≠ b:=by
 intro e; subst e; rw [h] at h'; cases h'
section
variable (P:Program) (w:World)
def ZcT (h:Heap) (a:Addr) (items:Array Value):Prop:=∃ o,h.get? a = some o ∧ (o.cls = .type "tuple" ∧ o.dict = none) ∧ ∃ n,o.data = .seq items n
theorem ZcT.tup {h:Heap} {a:Addr} {items:Array Value} (x:ZcT h a items):IsTup h a items:=let ⟨o,e,c,d⟩:=x; ⟨o,e,c.1,d⟩
theorem ZcT.new (h:Heap) (items:Array Value):ZcT (h.push { cls:=.type "tuple",data:=.seq items }) h.objs.size items:=⟨_,Heap.get?_push_size _ rfl,⟨rfl,rfl⟩,0,rfl⟩
noncomputable def ZaV (H:Hp) (h:Heap) (a:Addr):HO → Prop
 | .lst xs=>xs.length ≤ sizeLine ∧ ∃ (its:List Value) (n:Nat),Vals xs its ∧ h.get? a = some { cls:=.type "list",data:=.seq its.toArray n }
 | .tup xs=>xs.length ≤ sizeLine ∧ ∃ its:List Value,Vals xs its ∧ ZcT h a its.toArray
 | .dK kvs=>kvs.length ≤ sizeLine ∧ (a == sysModules) = false ∧ ∃ vs,KV kvs vs ∧ h.DictOf (Zas P w) a vs
 | .dT kvs=>kvs.length ≤ sizeLine ∧ (a == sysModules) = false ∧ ∃ xs:List (List Key × Addr × Value),
   Paired (fun (p:List Key × V) (q:List Key × Addr × Value)=>p.1 = q.1 ∧ H q.2.1 = some (.tup (p.1.map kV)) ∧ RelV p.2 q.2.2) kvs xs ∧
   ∃ o es ep,h.get? a = some o ∧ o.ExactDict ∧ o.data = .dict es ep ∧ es.toList = xs.map (entryOfKey (tupleKind (Zas P w))) ∧ (xs.map (·.1)).Nodup
 | .set S n=>h.SetOf (intKind P w) a S n
 | .ins C dx fs=>H dx = some (.own a) ∧ fs.length ≤ 1000 ∧ dx ≠ a ∧ h.get? a = some (PySem.W.instObj C dx) ∧
   ∃ mA,h.Ns1 dx mA ∧ (∀ f,Zdr (fs.lookup f) (mA f)) ∧ PySem.Within mA (fs.map (·.1))
 | .own _=>∃ o,h.get? a = some o
 | .xd fs=>∃ mA,h.Ns1 a mA ∧ ∀ f,Zdr (fs.lookup f) (mA f)
 | .rng lo hi=>∃ t u v,h.get? a = some { cls:=.type "range",data:=.fields #[.int lo t,.int hi u,.int 1 v] }
 | .frz o u=>h.get? a = some o ∧ ZaV H h a u
 | .tbl ps=>h.get? a = some { cls:=.none,data:=.fields ps }
 | .met f x=>h.get? a = some (PySem.W.methodObj (.ref f) (.ref x))
 | .ext φ=>φ h ∧ (∃ o,h.get? a = some o) ∧ ∀ h1 h2:Heap,φ h1 → (∀ o,h1.get? a = some o → h2.get? a = some o) → φ h2
def HOk (H:Hp) (h:Heap):Prop:=∀ a o,H a = some o → ZaV P w H h a o
end
section
variable {P:Program} {w:World} {H H':Hp} {h h':Heap} {a:Addr} {o:HO}
theorem ZaV.lt (x:ZaV P w H h a o):a < h.objs.size:=by
 cases o with
 | lst xs=>obtain ⟨_,_,_,_,e⟩:=x; exact Heap.lt_size e
 | tup xs=>obtain ⟨_,_,_,p⟩:=x; exact p.tup.lt
 | dK kvs=>obtain ⟨_,_,_,_,o,_,_,e,_⟩:=x; exact Heap.lt_size e
 | dT kvs=>obtain ⟨_,_,_,_,o,_,_,e,_⟩:=x; exact Heap.lt_size e
 | set S n=>obtain ⟨o,_,_,_,e,_⟩:=x; exact Heap.lt_size e
 | ins C dx fs=>obtain ⟨_,_,_,e,_⟩:=x; exact Heap.lt_size e
 | own y=>obtain ⟨_,e⟩:=x; exact Heap.lt_size e
 | xd fs=>obtain ⟨_,⟨_,_,_,e,_⟩,_⟩:=x; exact Heap.lt_size e
 | rng lo hi=>obtain ⟨_,_,_,e⟩:=x; exact Heap.lt_size e
 | frz ob u=>obtain ⟨e,_⟩:=x; exact Heap.lt_size e
 | tbl ps=>exact Heap.lt_size (show h.get? a = some _ from x)
 | met f y=>exact Heap.lt_size (show h.get? a = some _ from x)
 | ext φ=>obtain ⟨_,⟨_,e⟩,_⟩:=x; exact Heap.lt_size e
theorem Paired.mapP {α β:Type} {F G:α → β → Prop}:∀ {l₁:List α} {l₂:List β},Paired F l₁ l₂ → (∀ a b,F a b → G a b) → Paired G l₁ l₂
 | _,_,.nil,_=>.nil
 | _,_,.cons r t,f=>.cons (f _ _ r) (Paired.mapP t f)
theorem ZaV.stay (x:ZaV P w H h a o) (k:∀ b u,(b = a ∨ H b = some (.own a)) → h.get? b = some u → h'.get? b = some u)
  (ho:∀ b,H b = some (.own a) → H' b = some (.own a)) (ht:∀ b xs,H b = some (.tup xs) → H' b = some (.tup xs)):ZaV P w H' h' a o:=by
 induction o with
 | lst xs=>obtain ⟨z,its,n,r,e⟩:=x; exact ⟨z,its,n,r,k _ _ (.inl rfl) e⟩
 | tup xs=>obtain ⟨z,its,r,ob,e,c⟩:=x; exact ⟨z,its,r,ob,k _ _ (.inl rfl) e,c⟩
 | dK kvs=>obtain ⟨z,y,vs,r,ob,es,ep,e,c⟩:=x; exact ⟨z,y,vs,r,ob,es,ep,k _ _ (.inl rfl) e,c⟩
 | dT kvs=>
  obtain ⟨z,y,xs,r,ob,es,ep,e,c⟩:=x
  exact ⟨z,y,xs,Paired.mapP r fun p q z=>⟨z.1,ht _ _ z.2.1,z.2.2⟩,ob,es,ep,k _ _ (.inl rfl) e,c⟩
 | set S n=>obtain ⟨ob,es,ep,t,e,c⟩:=x; exact ⟨ob,es,ep,t,k _ _ (.inl rfl) e,c⟩
 | ins C dx fs=>
  obtain ⟨d,z,ne,e,mA,⟨od,es,ep,e2,c⟩,r⟩:=x
  exact ⟨ho _ d,z,ne,k _ _ (.inl rfl) e,mA,⟨od,es,ep,k _ _ (.inr d) e2,c⟩,r⟩
 | own y=>obtain ⟨ob,e⟩:=x; exact ⟨ob,k _ _ (.inl rfl) e⟩
 | xd fs=>obtain ⟨mA,⟨od,es,ep,e,c⟩,r⟩:=x; exact ⟨mA,⟨od,es,ep,k _ _ (.inl rfl) e,c⟩,r⟩
 | rng lo hi=>obtain ⟨t,u,v,e⟩:=x; exact ⟨t,u,v,k _ _ (.inl rfl) e⟩
 | frz ob u ih=>obtain ⟨e,q⟩:=x; exact ⟨k _ _ (.inl rfl) e,ih q⟩
 | tbl ps=>
  have e:h.get? a = some { cls:=.none,data:=.fields ps }:=x
  show h'.get? a = some { cls:=.none,data:=.fields ps }
  exact k a _ (.inl rfl) e
 | met f y=>
  have e:h.get? a = some (PySem.W.methodObj (.ref f) (.ref y)):=x
  show h'.get? a = some (PySem.W.methodObj (.ref f) (.ref y))
  exact k a _ (.inl rfl) e
 | ext φ=>obtain ⟨p,⟨o,e⟩,st⟩:=x; exact ⟨st _ _ p fun o q=>k _ _ (.inl rfl) q,⟨o,k _ _ (.inl rfl) e⟩,st⟩
theorem HOk.lt (x:HOk P w H h) (e:H a = some o):a < h.objs.size:=(x a o e).lt
theorem HOk.fresh (x:HOk P w H h) (e:h.objs.size ≤ a):H a = none:=by
 cases q:H a with
 | none=>rfl
 | some u=>exact absurd (Nat.lt_of_lt_of_le (x.lt q) e) (Nat.lt_irrefl _)
theorem HOk.kept (x:HOk P w H h) (k:∀ b u,h.get? b = some u → h'.get? b = some u):HOk P w H h':=fun a o e=>
 (x a o e).stay (fun b u _ q=>k b u q) (fun _ q=>q) fun _ _ q=>q
theorem HOk.laid (x:HOk P w H h) (k:∀ b u,h.get? b = some u → h'.get? b = some u) (hp:h.objs.size ≤ a) (new:ZaV P w (upd H a o) h' a o):HOk P w (upd H a o) h':=fun b u e=>by
 have hn:=x.fresh hp
 by_cases hb:b = a
 ·subst hb; rw [Zbw] at e; cases e; exact new
 ·rw [Zay hb] at e
  exact (x b u e).stay (fun c v _ q=>k c v q) (fun c q=>by rw [Zay (ZcG q hn)]; exact q) fun c xs q=>by rw [Zay (ZcG q hn)]; exact q
end
def Rd (H:Hp) (a:Addr) (u:HO):Prop:=H a = some u ∨ ∃ o,H a = some (.frz o u)
theorem Rd.ok {P:Program} {w:World} {H:Hp} {h:Heap} {a:Addr} {u:HO} (r:Rd H a u) (x:HOk P w H h):ZaV P w H h a u:=by
 rcases r with r | ⟨o,r⟩
 ·exact x a u r
 ·obtain ⟨_,q⟩:=x a _ r
  exact q
noncomputable def Mut:Option HO → Prop
 | some (.lst _)=>True
 | some (.dK _)=>True
 | some (.dT _)=>True
 | some (.set _ _)=>True
 | some (.ins _ _ _)=>True
 | some (.ext _)=>True
 | _=>False
section
variable {P:Program} {w:World} {H:Hp} {h h':Heap} {x e:Addr} {o':HO}
theorem HOk.write (ok:HOk P w H h) (mu:Mut (H x)) (he:e = x ∨ H e = some (.own x)) (k:∀ b u,b ≠ e → h.get? b = some u → h'.get? b = some u) (heo:∃ u,h'.get? e = some u)
  (new:ZaV P w (upd H x o') h' x o'):HOk P w (upd H x o') h':=fun b u q=>by
 have nown:∀ c y,H c = some (.own y) → c ≠ x:=fun c y r z=>by subst z; rw [r] at mu; exact mu
 have ntup:∀ c xs,H c = some (.tup xs) → c ≠ x:=fun c xs r z=>by subst z; rw [r] at mu; exact mu
 by_cases hb:b = x
 ·subst hb; rw [Zbw] at q; cases q; exact new
 ·rw [Zay hb] at q
  by_cases hbe:b = e
  ·have q':H b = some (.own x):=by
    rcases he with z | z
    ·exact absurd (hbe.trans z) hb
    ·rw [hbe]; exact z
   rw [q] at q'; cases q'
   obtain ⟨v,hv⟩:=heo
   exact ⟨v,by rw [hbe]; exact hv⟩
  ·refine (ok b u q).stay (fun c v hc r=>k c v ?_ r) (fun c r=>by rw [Zay (nown c b r)]; exact r) fun c xs r=>by rw [Zay (ntup c xs r)]; exact r
   rcases hc with rfl | hc
   ·exact hbe
   ·rintro rfl
    rcases he with z | z
    ·exact nown c b hc z
    ·rw [hc] at z; cases z; exact hb rfl
end
structure Un (fs ex:List Addr) (H H':Hp) (h h':Heap):Prop where
 keep:∀ b o,h.get? b = some o → H b = none → b ∉ fs → b ∉ ex → h'.get? b = some o
 slot:∀ b o,h.get? b = some o → H b = none → b ∈ fs → b ∉ ex → ∃ sl,h'.get? b = some { o with slots:=sl }
 free:∀ b o,h.get? b = some o → H b = none → b ∉ ex → H' b = none
 there:∀ b o,h.get? b = some o → b ∉ ex → ∃ o',h'.get? b = some o'
 tups:∀ b xs,H b = some (.tup xs) → H' b = some (.tup xs)
 frzs:∀ b o u,H b = some (.frz o u) → H' b = some (.frz o u)
 tbls:∀ b ps,H b = some (.tbl ps) → ∃ more,H' b = some (.tbl (ps ++ more))
section
variable {fs fs' ex ex':List Addr} {H H1 H2:Hp} {h h1 h2 h':Heap} {a x e:Addr} {o:HO}
theorem Un.any (u:Un fs ex H H1 h h1) {b:Addr} {ob:Obj} (q:h.get? b = some ob) (n:H b = none) (hx:b ∉ ex):∃ sl,h1.get? b = some { ob with slots:=sl }:=by
 by_cases hb:b ∈ fs
 ·exact u.slot b ob q n hb hx
 ·exact ⟨ob.slots,u.keep b ob q n hb hx⟩
theorem Un.trans (a:Un fs ex H H1 h h1) (b:Un fs ex H1 H2 h1 h2):Un fs ex H H2 h h2 where
 keep:=fun c ob q n hc hx=>b.keep c ob (a.keep c ob q n hc hx) (a.free c ob q n hx) hc hx
 slot:=fun c ob q n hc hx=>by
  obtain ⟨sl,e1⟩:=a.slot c ob q n hc hx
  obtain ⟨sl',e2⟩:=b.slot c _ e1 (a.free c ob q n hx) hc hx
  exact ⟨sl',e2⟩
 free:=fun c ob q n hx=>by
  obtain ⟨o',e1⟩:=a.there c ob q hx
  exact b.free c o' e1 (a.free c ob q n hx) hx
 there:=fun c ob q hx=>by
  obtain ⟨o',e1⟩:=a.there c ob q hx
  exact b.there c o' e1 hx
 tups:=fun c xs q=>b.tups c xs (a.tups c xs q)
 frzs:=fun c ob xs q=>b.frzs c ob xs (a.frzs c ob xs q)
 tbls:=fun c ps q=>by
  obtain ⟨m1,e1⟩:=a.tbls c ps q
  obtain ⟨m2,e2⟩:=b.tbls c _ e1
  exact ⟨m1 ++ m2,by rw [e2,Array.append_assoc]⟩
theorem Un.kept (k:∀ b u,h.get? b = some u → h'.get? b = some u):Un fs ex H H h h':=
 ⟨fun b ob q _ _ _=>k b ob q,fun b ob q _ _ _=>⟨ob.slots,k b ob q⟩,fun _ _ _ n _=>n,fun b ob q _=>⟨ob,k b ob q⟩,fun _ _ q=>q,fun _ _ _ q=>q,fun _ ps q=>⟨#[],by rw [q]; simp⟩⟩
theorem Un.refl:Un fs ex H H h h:=Un.kept fun _ _ q=>q
theorem Un.laid (k:∀ b u,h.get? b = some u → h'.get? b = some u) (hp:h.objs.size ≤ a) (hn:H a = none):Un fs ex H (upd H a o) h h' where
 keep:=fun b u q _ _ _=>k b u q
 slot:=fun b u q _ _ _=>⟨u.slots,k b u q⟩
 free:=fun b u q n _=>by rw [Zay (Nat.ne_of_lt (Nat.lt_of_lt_of_le (Heap.lt_size q) hp))]; exact n
 there:=fun b u q _=>⟨u,k b u q⟩
 tups:=fun b xs q=>by rw [Zay (ZcG q hn)]; exact q
 frzs:=fun b u xs q=>by rw [Zay (ZcG q hn)]; exact q
 tbls:=fun b ps q=>⟨#[],by rw [Zay (ZcG q hn),q]; simp⟩
theorem Un.write (mu:Mut (H x)) (he:e = x ∨ H e = some (.own x)) (k:∀ b u,b ≠ e → h.get? b = some u → h'.get? b = some u) (heo:∃ u,h'.get? e = some u):Un fs ex H (upd H x o) h h':=by
 have hx:∀ b,H b = none → b ≠ x:=fun b n z=>by subst z; rw [n] at mu; exact mu
 have hb:∀ b,H b = none → b ≠ e:=fun b n z=>by
  subst z
  rcases he with r | r
  ·exact hx b n r
  ·rw [n] at r; cases r
 have hm:∀ b u,H b = some u → ¬ Mut (some u) → b ≠ x:=fun b u q nm z=>by subst z; rw [q] at mu; exact nm mu
 refine ⟨fun b u q n _ _=>k b u (hb b n) q,fun b u q n _ _=>⟨u.slots,k b u (hb b n) q⟩,fun b u q n _=>by rw [Zay (hx b n)]; exact n,fun b u q _=>?_,
  fun b xs q=>by rw [Zay (hm b _ q fun z=>z)]; exact q,fun b u xs q=>by rw [Zay (hm b _ q fun z=>z)]; exact q,fun b ps q=>⟨#[],by rw [Zay (hm b _ q fun z=>z),q]; simp⟩⟩
 by_cases hbe:b = e
 ·subst hbe; exact heo
 ·exact ⟨u,k b u hbe q⟩
end
noncomputable def trk (h:Heap) (H:Hp):List Addr:=(List.range h.objs.size).filter fun a=>(H a).isSome
noncomputable def ZhX (h:Heap) (H:Hp):Heap:=PySem.W.hideAll h (trk h H)
theorem ZkC (h:Heap) (H:Hp):(ZhX h H).objs.size = h.objs.size:=PySem.W.hideAll_size _ _
theorem Zmi {h:Heap} {H:Hp} {b:Addr} {o:Obj} (e:h.get? b = some o) (n:H b = none):(ZhX h H).get? b = some o:=
 PySem.W.hideAll_get _ e fun hm=>by
  have q:(H b).isSome = true:=(List.mem_filter.mp hm).2
  rw [n] at q; simp at q
theorem Zos {h:Heap} {H:Hp} {b:Addr} {o:Obj} (e:(ZhX h H).get? b = some o):h.get? b = some o ∧ H b = none:=by
 have e':h.get? b = some o:=PySem.W.of_hideAll (trk h H) e
 refine ⟨e',?_⟩
 cases q:H b with
 | none=>rfl
 | some x=>
  have hm:b ∈ trk h H:=List.mem_filter.mpr ⟨List.mem_range.mpr (Heap.lt_size e'),by simp [q]⟩
  have z:(ZhX h H).get? b = none:=PySem.W.hideAll_none (trk h H) hm
  rw [z] at e; cases e
noncomputable def Zop (g h:Heap) (L:Addr):List (Addr × Obj):=(List.range h.objs.size).filterMap fun a=>if a = L ∨ (g.get? a).isSome = true then none else (h.get? a).map fun o=>(a,o)
noncomputable def rest (g h:Heap) (L d:Addr):List (Addr × Obj):=(Zop g h L).filter fun p=>decide (p.1 ≠ d)
end L2
namespace L2
open PySem PySem.Spec PyProof.Rows
structure Mod (K:PySem.W.Frag) (mg:Str → Option Value) (base:Heap):Prop where
 kin:K.In base
 glob:base.Ns mainGlobals mg
 blt:∃ mb,base.Ns builtinsNs mb ∧ ∀ x:Str,x ≠ "__name__" → mb x = bootBuiltins x
 nolimit:base.NoLimit
/-- the context: a def's body (or a comprehension's block) running. base: fixed through the whole law; s₀,H₀: the entry; outer: the frames whose slots others may change (a def's callers); stack: all frames that run;
  ex: iterators that were made ahead of the entry and are walked here (a comprehension's); fn: the names whose cells were made at the entry (a def: all; a comprehension's block: its own); calm: not within an except suite; pn: pins that every state bears; xe: what is wanted of an exception that leaves the code -/
structure Cx where
 prog:Program
 w:World
 K:PySem.W.Frag
 mg:Str → Option Value
 base:Heap
 A:Around
 N:List Str
 s₀:Shared
 H₀:Hp
 env:Env
 outer:List Env
 stack:List Env
 ex:List Addr
 fn:Str → Bool
 calm:Bool
 pn:List (Addr × Obj)
 xe:Value → Shared → Prop
noncomputable def frs (l:List Env):List Addr:=l.filterMap (·.frame)
noncomputable abbrev Cx.fs (X:Cx):List Addr:=frs X.outer
def Vis (sc:Scope) (x:Str):Prop:=sc.names.lookup x = some .local ∨ sc.names.lookup x = some .cell ∨ sc.names.lookup x = some .free
def Loc (sc:Scope) (x:Str):Prop:=sc.names.lookup x = some .local ∨ sc.names.lookup x = some .cell
def Look (env:Env) (h:Heap) (m:Str → Option Value) (x:Str) (u:Value):Prop:=
 (env.kindOf x = some .local ∧ m x = some u) ∨ ((env.kindOf x = some .cell ∨ env.kindOf x = some .free) ∧ ∃ c,env.cells.lookup x = some c ∧ h.IsCell c (some u))
structure Cx.Ok (X:Cx):Prop where
 mod:Mod X.K X.mg X.base
 kind:X.env.scope.kind = .function
 glob:X.env.globals = mainGlobals
 blt:X.env.builtins = builtinsNs
 above:X.s₀.heap.objs.size ≤ X.env.locals
 inj:∀ x y c,X.env.cells.lookup x = some c → X.env.cells.lookup y = some c → x = y
 has:∀ x,(X.env.kindOf x = some .cell ∨ X.env.kindOf x = some .free) → ∃ c,X.env.cells.lookup x = some c
 cab:∀ x c,X.fn x = true → X.env.cells.lookup x = some c → X.s₀.heap.objs.size ≤ c
 hd:X.calm = true → X.A.handled = none
 frames:X.A.frames = some X.stack
 stk:X.stack = X.outer ∨ (X.stack = X.env :: X.outer ∧ X.env.frame = some X.env.locals)
 exf:∀ b ∈ X.ex,b ≠ X.env.locals ∧ ∀ x c,X.env.cells.lookup x = some c → c ≠ b
 bs:∀ b o,X.base.get? b = some o → X.s₀.heap.get? b = some o ∧ X.H₀ b = none
 bsz:X.base.objs.size ≤ X.s₀.heap.objs.size
 noex:∀ b o,X.base.get? b = some o → b ∉ X.ex
 exfs:∀ b ∈ X.ex,b ∉ X.fs
 funs:X.s₀.heap.FunFrames X.base X.outer
 frf:∀ b ∈ X.fs,X.H₀ b = none
structure Inv (X:Cx) (pins:List (Addr × Obj)) (σ:List (Option V)) (H:Hp) (s:Shared):Prop where
 ok:X.Ok
 os:s.os = X.s₀.os
 bare:AllBare s.gens
 base:Un X.fs X.ex X.H₀ H X.s₀.heap s.heap
 loc:∃ m,s.heap.Ns X.env.locals m ∧ ∀ (i:Nat) (x:Str) (v:V),X.N[i]? = some x → σ[i]? = some (some v) → Vis X.env.scope x → ∃ u,RelV v u ∧ Look X.env s.heap m x u
 cell:∀ x c,X.env.cells.lookup x = some c → ∃ v,s.heap.IsCell c v
 free:H X.env.locals = none
 freeC:∀ x c,X.env.cells.lookup x = some c → H c = none
 pin:∀ p ∈ X.pn ++ pins,s.heap.get? p.1 = some p.2 ∧ H p.1 = none ∧ p.1 ≠ X.env.locals ∧ p.1 ∉ X.fs ∧ ∀ v,p.2.data ≠ .cell v
 hok:HOk X.prog X.w H s.heap
 len:σ.length = X.N.length
section
variable {X:Cx} {pins:List (Addr × Obj)} {σ:List (Option V)} {H H':Hp} {s:Shared} {h':Heap}
theorem Cx.Ok.nofr (ok:X.Ok) {b:Addr} {o:Obj} (e:X.base.get? b = some o):b ∉ X.fs:=fun hb=>by
 have:=(ok.funs.mem hb).1
 rw [e] at this; cases this
theorem Inv.bs (I:Inv X pins σ H s):∀ b o,X.base.get? b = some o → s.heap.get? b = some o ∧ H b = none:=fun b o e=>
 ⟨I.base.keep b o (I.ok.bs b o e).1 (I.ok.bs b o e).2 (I.ok.nofr e) (I.ok.noex b o e),I.base.free b o (I.ok.bs b o e).1 (I.ok.bs b o e).2 (I.ok.noex b o e)⟩
theorem Inv.bk (I:Inv X pins σ H s):∀ b o,X.base.get? b = some o → s.heap.get? b = some o:=fun b o e=>(I.bs b o e).1
theorem Inv.mod (I:Inv X pins σ H s):Mod X.K X.mg X.base:=I.ok.mod
theorem Inv.kIn (I:Inv X pins σ H s):X.K.In s.heap:=I.ok.mod.kin.keeps I.bk
theorem Inv.nolimit (I:Inv X pins σ H s):s.heap.NoLimit:=I.ok.mod.nolimit.keeps I.bk
theorem Inv.fr (I:Inv X pins σ H s):∃ m,Fr X.base X.env.locals s.heap m:=
 let ⟨m,hn,_⟩:=I.loc
 ⟨m,hn,I.bk,Nat.le_trans I.ok.bsz I.ok.above⟩
theorem Inv.lt (I:Inv X pins σ H s):X.env.locals < s.heap.objs.size:=let ⟨_,hn,_⟩:=I.loc; hn.lt
theorem Inv.sz (I:Inv X pins σ H s):X.s₀.heap.objs.size ≤ s.heap.objs.size:=Nat.le_trans I.ok.above (Nat.le_of_lt I.lt)
theorem Inv.nofs (I:Inv X pins σ H s) {a:Addr} (h:s.heap.objs.size ≤ a):a ∉ X.fs:=fun hb=>by
 obtain ⟨_,o,ho,_⟩:=I.ok.funs.mem hb
 exact absurd (Nat.lt_of_lt_of_le (Heap.lt_size ho) (Nat.le_trans I.sz h)) (Nat.lt_irrefl _)
theorem Inv.cne (I:Inv X pins σ H s):∀ x c,X.env.cells.lookup x = some c → c ≠ X.env.locals:=fun x c e z=>by
 obtain ⟨v,o,ho,hd⟩:=I.cell x c e
 obtain ⟨m,⟨o',es,ep,ho',hd',_⟩,_⟩:=I.loc
 rw [z,ho'] at ho; cases ho; rw [hd'] at hd; cases hd
theorem Inv.funs (I:Inv X pins σ H s):s.heap.FunFrames X.base X.outer:=by
 have all:∀ (l:List Env),(∀ b ∈ frs l,b ∈ X.fs) → X.s₀.heap.FunFrames X.base l → s.heap.FunFrames X.base l:=by
  intro l
  induction l with
  | nil=>intro _ _; trivial
  | cons env r ih=>
   intro hs hl
   obtain ⟨hk,⟨L,o,hf,hn,ho,hd⟩,hr⟩:=hl
   have hL:L ∈ X.fs:=hs L (by unfold frs; rw [List.filterMap_cons,hf]; exact List.mem_cons_self)
   obtain ⟨sl,e⟩:=I.base.slot L o ho (I.ok.frf L hL) hL fun z=>I.ok.exfs L z hL
   exact ⟨hk,⟨L,_,hf,hn,e,hd⟩,ih (fun b hb=>hs b (by unfold frs; rw [List.filterMap_cons,hf]; exact List.mem_cons_of_mem _ hb)) hr⟩
 exact all X.outer (fun _ hb=>hb) I.ok.funs
theorem Inv.stack (I:Inv X pins σ H s):s.heap.FunFrames X.base X.stack:=by
 rcases I.ok.stk with e | ⟨e,hf⟩
 ·rw [e]; exact I.funs
 ·rw [e]
  obtain ⟨m,hn,_⟩:=I.loc
  refine .cons (by rw [I.ok.kind]; decide) hf hn ?_ I.funs
  exact Heap.get?_none_of_le (Nat.le_trans I.ok.bsz I.ok.above)
theorem Inv.stkSub (I:Inv X pins σ H s):∀ b ∈ frs X.stack,b ∈ X.env.locals :: X.fs:=fun b hb=>by
 rcases I.ok.stk with e | ⟨e,hf⟩
 ·rw [e] at hb; exact List.mem_cons_of_mem _ hb
 ·rw [e] at hb
  unfold frs at hb
  rw [List.filterMap_cons,hf] at hb
  exact hb
theorem Inv.stkFree (I:Inv X pins σ H s):∀ b ∈ frs X.stack,H b = none:=fun b hb=>by
 rcases List.mem_cons.mp (I.stkSub b hb) with e | hb
 ·rw [e]; exact I.free
 ·obtain ⟨_,o,ho,_⟩:=I.ok.funs.mem hb
  exact I.base.free b o ho (I.ok.frf b hb) fun z=>I.ok.exfs b z hb
theorem Inv.step {g':Array GenState} {t':Nat} {d':Drawn} {ch:List Addr} (I:Inv X pins σ H s)
  (hch:∀ b ∈ ch,(b ∈ X.ex ∨ X.s₀.heap.objs.size ≤ b) ∧ b ≠ X.env.locals ∧ (∀ x c,X.env.cells.lookup x = some c → c ≠ b) ∧ ∀ p ∈ X.pn ++ pins,p.1 ≠ b)
  (keep:∀ b o,b ≠ X.env.locals → b ∉ X.fs → b ∉ ch → s.heap.get? b = some o → H b = none → h'.get? b = some o)
  (slot:∀ b o,b ≠ X.env.locals → b ∈ X.fs → b ∉ ch → s.heap.get? b = some o → H b = none → ∃ sl,h'.get? b = some { o with slots:=sl }) (free:∀ b o,b ∉ ch → s.heap.get? b = some o → H b = none → H' b = none)
  (there:∀ b o,b ∉ ch → s.heap.get? b = some o → ∃ o',h'.get? b = some o')
  (tups:∀ b xs,H b = some (.tup xs) → H' b = some (.tup xs)) (frzs:∀ b o u,H b = some (.frz o u) → H' b = some (.frz o u)) (tbls:∀ b ps,H b = some (.tbl ps) → ∃ more,H' b = some (.tbl (ps ++ more)))
  (ns:∀ m,s.heap.Ns X.env.locals m → h'.Ns X.env.locals m) (hok:HOk X.prog X.w H' h') (hg:AllBare g'):
  Inv X pins σ H' { s with heap:=h',gens:=g',drawn:=d',toks:=t' }:=by
 have neL:∀ b o,X.s₀.heap.get? b = some o → b ≠ X.env.locals:=fun b o e=>Nat.ne_of_lt (Nat.lt_of_lt_of_le (Heap.lt_size e) I.ok.above)
 have neC:∀ b o,X.s₀.heap.get? b = some o → b ∉ X.ex → b ∉ ch:=fun b o e hx hb=>by
  rcases (hch b hb).1 with z | z
  ·exact hx z
  ·exact absurd (Nat.lt_of_lt_of_le (Heap.lt_size e) z) (Nat.lt_irrefl _)
 have cellK:∀ x c,X.env.cells.lookup x = some c → ∀ v,s.heap.IsCell c v → h'.IsCell c v:=fun x c e v zz1=>by
  obtain ⟨o,ho,hd⟩:=zz1
  have nch:c ∉ ch:=fun z=>(hch c z).2.2.1 x c e rfl
  by_cases hc:c ∈ X.fs
  ·obtain ⟨sl,q⟩:=slot c o (I.cne x c e) hc nch ho (I.freeC x c e)
   exact ⟨_,q,hd⟩
  ·exact ⟨o,keep c o (I.cne x c e) hc nch ho (I.freeC x c e),hd⟩
 refine ⟨I.ok,I.os,hg,⟨fun b o e n hb hx=>?_,fun b o e n hb hx=>?_,fun b o e n hx=>?_,fun b o e hx=>?_,fun b xs e=>tups b xs (I.base.tups b xs e),fun b o xs e=>frzs b o xs (I.base.frzs b o xs e),fun b ps e=>?_⟩,?_,fun x c e=>?_,?_,fun x c e=>?_,fun p hp=>?_,hok,I.len⟩
 ·exact keep b o (neL b o e) hb (neC b o e hx) (I.base.keep b o e n hb hx) (I.base.free b o e n hx)
 ·obtain ⟨sl,e1⟩:=I.base.slot b o e n hb hx
  obtain ⟨sl',e2⟩:=slot b _ (neL b o e) hb (neC b o e hx) e1 (I.base.free b o e n hx)
  exact ⟨sl',e2⟩
 ·obtain ⟨o',e1⟩:=I.base.there b o e hx
  exact free b o' (neC b o e hx) e1 (I.base.free b o e n hx)
 ·obtain ⟨o',e1⟩:=I.base.there b o e hx
  exact there b o' (neC b o e hx) e1
 ·obtain ⟨m1,e1⟩:=I.base.tbls b ps e
  obtain ⟨m2,e2⟩:=tbls b _ e1
  exact ⟨m1 ++ m2,by rw [e2,Array.append_assoc]⟩
 ·obtain ⟨m,hn,hl⟩:=I.loc
  refine ⟨m,ns m hn,fun i x v e1 e2 e3=>?_⟩
  obtain ⟨u,r,l⟩:=hl i x v e1 e2 e3
  refine ⟨u,r,?_⟩
  rcases l with l | ⟨k,c,e,z⟩
  ·exact .inl l
  ·exact .inr ⟨k,c,e,cellK x c e _ z⟩
 ·obtain ⟨v,z⟩:=I.cell x c e
  exact ⟨v,cellK x c e v z⟩
 ·obtain ⟨m,⟨o,_,_,ho,_⟩,_⟩:=I.loc
  exact free _ o (fun z=>(hch _ z).2.1 rfl) ho I.free
 ·obtain ⟨v,o,ho,hd⟩:=I.cell x c e
  exact free c o (fun z=>(hch c z).2.2.1 x c e rfl) ho (I.freeC x c e)
 ·obtain ⟨e,n,ne,nf,d⟩:=I.pin p hp
  have nch:p.1 ∉ ch:=fun z=>(hch p.1 z).2.2.2 p hp rfl
  exact ⟨keep p.1 p.2 ne nf nch e n,free p.1 p.2 nch e n,ne,nf,d⟩
theorem Inv.un {t':Nat} (I:Inv X pins σ H s) (u:Un X.fs [] H H' s.heap h') (hok:HOk X.prog X.w H' h'):Inv X pins σ H' { s with heap:=h',toks:=t' }:=by
 obtain ⟨m,⟨o,es,ep,ho,r⟩,_⟩:=id I.loc
 obtain ⟨sl,hL⟩:=u.any ho I.free (by simp)
 exact I.step (g':=s.gens) (d':=s.drawn) (ch:=[]) (fun _ z=>nomatch z) (fun b o _ hb _ e n=>u.keep b o e n hb (by simp)) (fun b o _ hb _ e n=>u.slot b o e n hb (by simp)) (fun b o _ e n=>u.free b o e n (by simp)) (fun b o _ e=>u.there b o e (by simp)) u.tups u.frzs u.tbls (fun m' hm=>by
  obtain ⟨o',es',ep',ho',r'⟩:=hm
  rw [ho] at ho'; cases ho'
  exact ⟨_,es',ep',hL,r'⟩) hok I.bare
theorem Inv.call {g':Array GenState} {t':Nat} {d':Drawn} {ch:List Addr} (I:Inv X pins σ H s) (u:Un (frs X.stack) ch H H' s.heap h') (hok:HOk X.prog X.w H' h') (hg:AllBare g')
  (hch:∀ b ∈ ch,(b ∈ X.ex ∨ X.s₀.heap.objs.size ≤ b) ∧ b ≠ X.env.locals ∧ (∀ x c,X.env.cells.lookup x = some c → c ≠ b) ∧ ∀ p ∈ X.pn ++ pins,p.1 ≠ b):
  Inv X pins σ H' { s with heap:=h',gens:=g',drawn:=d',toks:=t' }:=by
 obtain ⟨m,⟨o,es,ep,ho,r⟩,_⟩:=id I.loc
 obtain ⟨sl,hL⟩:=u.any ho I.free fun z=>(hch _ z).2.1 rfl
 exact I.step (ch:=ch) hch (fun b o hL hb hc e n=>u.keep b o e n (fun z=>(List.mem_cons.mp (I.stkSub b z)).elim hL hb) hc) (fun b o _ _ hc e n=>u.any e n hc) (fun b o hc e n=>u.free b o e n hc) (fun b o hc e=>u.there b o e hc) u.tups u.frzs u.tbls (fun m' hm=>by
  obtain ⟨o',es',ep',ho',r'⟩:=hm
  rw [ho] at ho'; cases ho'
  exact ⟨_,es',ep',hL,r'⟩) hok hg
theorem Inv.turned {t':Nat} {it:Addr} (I:Inv X pins σ H s) (k:∀ b o,b ≠ it → s.heap.get? b = some o → h'.get? b = some o) (hn:H it = none) (hL:it ≠ X.env.locals)
  (h1:it ∈ X.ex ∨ X.s₀.heap.objs.size ≤ it) (h2:∀ x c,X.env.cells.lookup x = some c → c ≠ it) (h3:∀ p ∈ X.pn ++ pins,p.1 ≠ it):Inv X pins σ H { s with heap:=h',toks:=t' }:=by
 have nit:∀ b u,H b = some u → b ≠ it:=fun b u e z=>by rw [z,hn] at e; cases e
 refine I.step (g':=s.gens) (d':=s.drawn) (ch:=[it]) (fun b hb=>?_) (fun b o _ _ hc e _=>k b o (fun z=>hc (by simp [z])) e) (fun b o _ _ hc e _=>⟨o.slots,k b o (fun z=>hc (by simp [z])) e⟩) (fun _ _ _ _ n=>n)
  (fun b o hc e=>⟨o,k b o (fun z=>hc (by simp [z])) e⟩) (fun _ _ e=>e) (fun _ _ _ e=>e) (fun b ps e=>⟨#[],by rw [e]; simp⟩) (fun m hm=>?_) (fun b u e=>?_) I.bare
 ·have e:b = it:=by simpa using hb
  subst e
  exact ⟨h1,hL,h2,h3⟩
 ·obtain ⟨o,es,ep,ho,r⟩:=hm
  exact ⟨o,es,ep,k _ o (Ne.symm hL) ho,r⟩
 ·refine (I.hok b u e).stay (fun c v hc q=>k c v ?_ q) (fun _ q=>q) fun _ _ q=>q
  rcases hc with z | z
  ·rw [z]; exact nit b u e
  ·exact nit c _ z
theorem Inv.tok (I:Inv X pins σ H s) (t:Nat):Inv X pins σ H { s with toks:=t }:=I.un (h':=s.heap) (t':=t) Un.refl I.hok
theorem Inv.kept {t':Nat} (I:Inv X pins σ H s) (k:∀ b u,s.heap.get? b = some u → h'.get? b = some u):Inv X pins σ H { s with heap:=h',toks:=t' }:=I.un (Un.kept k) (I.hok.kept k)
theorem Inv.laid {a:Addr} {o:HO} {t':Nat} (I:Inv X pins σ H s) (k:∀ b u,s.heap.get? b = some u → h'.get? b = some u) (hp:s.heap.objs.size ≤ a) (new:ZaV X.prog X.w (upd H a o) h' a o):
  Inv X pins σ (upd H a o) { s with heap:=h',toks:=t' }:=I.un (Un.laid k hp (I.hok.fresh hp)) (I.hok.laid k hp new)
theorem Inv.write {x e:Addr} {o:HO} {t':Nat} (I:Inv X pins σ H s) (mu:Mut (H x)) (he:e = x ∨ H e = some (.own x)) (k:∀ b u,b ≠ e → s.heap.get? b = some u → h'.get? b = some u) (heo:∃ u,h'.get? e = some u)
  (new:ZaV X.prog X.w (upd H x o) h' x o):Inv X pins σ (upd H x o) { s with heap:=h',toks:=t' }:=I.un (Un.write mu he k heo) (I.hok.write mu he k heo new)
theorem Inv.pins_of {pins':List (Addr × Obj)} (I:Inv X pins σ H s) (h:∀ p ∈ pins',s.heap.get? p.1 = some p.2 ∧ H p.1 = none ∧ p.1 ≠ X.env.locals ∧ p.1 ∉ X.fs ∧ ∀ v,p.2.data ≠ .cell v):Inv X pins' σ H s:=
 ⟨I.ok,I.os,I.bare,I.base,I.loc,I.cell,I.free,I.freeC,fun p hp=>(List.mem_append.mp hp).elim (fun z=>I.pin p (List.mem_append_left _ z)) (h p),I.hok,I.len⟩
theorem Zik {N:List Str} (hN:N.Nodup) {i j:Nat} {x:Str} (a:N[i]? = some x) (b:N[j]? = some x):i = j:=by
 obtain ⟨h1,e1⟩:=List.getElem?_eq_some_iff.mp a
 obtain ⟨h2,e2⟩:=List.getElem?_eq_some_iff.mp b
 exact (List.getElem_inj hN).mp (e1.trans e2.symm)
theorem ZgS {M:Model} {A:Around} {E:Value → Shared → Prop} {i:Nat} {x:Str} {v:V} {u:Value} {Q:Unit → Shared → Prop} (I:Inv X pins σ H s) (hN:X.N.Nodup) (hi:X.N[i]? = some x) (hx:Loc X.env.scope x) (r:RelV v u)
  (h:∀ s',Inv X pins (σ.set i (some v)) H s' → (∃ a,Heap.SameBut a s.heap s'.heap ∧ (a = X.env.locals ∨ X.env.cells.lookup x = some a)) → Q () s') (hf:X.fn x = true ∨ X.env.scope.names.lookup x = some .local:=by first | exact .inl rfl | exact .inr rfl | assumption):wpAny M A (storeName X.env x u) Q E s:=by
 obtain ⟨m,hn,hl⟩:=id I.loc
 have hcls:(X.env.scope.kind == .class || (X.env.scope.kind == .module && X.env.locals != X.env.globals)) = false:=by rw [I.ok.kind]; rfl
 have hiσ:i < σ.length:=by rw [I.len]; exact (List.getElem?_eq_some_iff.mp hi).1
 have cne:=I.cne
 have tracked:∀ {a:Addr} {h':Heap},(∃ o,s.heap.get? a = some o ∧ H a = none) → Heap.SameBut a s.heap h' → HOk X.prog X.w H h':=fun {a h'} ha hs b ob e=>by
  obtain ⟨_,_,hfree⟩:=ha
  refine (I.hok b ob e).stay (fun c w' hc q=>(hs.2 c ?_).trans q) (fun _ q=>q) fun _ _ q=>q
  rintro rfl
  rcases hc with rfl | hc
  ·rw [hfree] at e; cases e
  ·rw [hfree] at hc; cases hc
 rcases hx with hk | hk
 ·refine wpAny_storeName_local hk hn (fun h' hn' hs=>?_) hcls
  obtain ⟨oL,_,_,hoL,_⟩:=id hn
  refine h _ ⟨I.ok,I.os,I.bare,⟨fun b o e n hb hx=>?_,fun b o e n hb hx=>?_,I.base.free,fun b o e hx=>?_,I.base.tups,I.base.frzs,I.base.tbls⟩,⟨_,hn',fun j y v' e1 e2 e3=>?_⟩,fun y c e=>?_,I.free,I.freeC,fun p hp=>?_,tracked ⟨oL,hoL,I.free⟩ hs,by simpa using I.len⟩ ⟨_,hs,.inl rfl⟩
  ·exact (hs.2 b (Nat.ne_of_lt (Nat.lt_of_lt_of_le (Heap.lt_size e) I.ok.above))).trans (I.base.keep b o e n hb hx)
  ·obtain ⟨sl,e1⟩:=I.base.slot b o e n hb hx
   exact ⟨sl,(hs.2 b (Nat.ne_of_lt (Nat.lt_of_lt_of_le (Heap.lt_size e) I.ok.above))).trans e1⟩
  ·obtain ⟨o',e1⟩:=I.base.there b o e hx
   exact ⟨o',(hs.2 b (Nat.ne_of_lt (Nat.lt_of_lt_of_le (Heap.lt_size e) I.ok.above))).trans e1⟩
  ·by_cases hj:j = i
   ·subst hj
    rw [hi] at e1; cases e1
    rw [List.getElem?_set_self hiσ] at e2
    cases e2
    exact ⟨u,r,.inl ⟨hk,by simp⟩⟩
   ·rw [List.getElem?_set_ne (Ne.symm hj)] at e2
    obtain ⟨u',r',q⟩:=hl j y v' e1 e2 e3
    refine ⟨u',r',?_⟩
    rcases q with ⟨k,e⟩ | ⟨k,c,e,z⟩
    ·refine .inl ⟨k,?_⟩
     have:y ≠ x:=fun e=>hj (Zik hN e1 (e ▸ hi))
     simp [this,e]
    ·exact .inr ⟨k,c,e,z.sameBut hs (cne y c e)⟩
  ·obtain ⟨w',z⟩:=I.cell y c e
   exact ⟨w',z.sameBut hs (cne y c e)⟩
  ·obtain ⟨e,n,ne,nf,d⟩:=I.pin p hp
   exact ⟨(hs.2 p.1 ne).trans e,n,ne,nf,d⟩
 ·have hfn:X.fn x = true:=by
   rcases hf with z | z
   ·exact z
   ·rw [z] at hk; cases hk
  obtain ⟨c,hc⟩:=I.ok.has x (.inl hk)
  obtain ⟨w',z⟩:=I.cell x c hc
  refine wpAny_storeName_cell I.ok.kind hk hc z (fun h' hc' hs=>?_)
  obtain ⟨oc,hoc,hocd⟩:=id z
  refine h { s with heap:=h' } ⟨I.ok,I.os,I.bare,⟨fun b o e n hb hx=>?_,fun b o e n hb hx=>?_,I.base.free,fun b o e hx=>?_,I.base.tups,I.base.frzs,I.base.tbls⟩,⟨m,hn.sameBut hs (Ne.symm (cne x c hc)),fun j y v' e1 e2 e3=>?_⟩,fun y c' e=>?_,I.free,I.freeC,fun p hp=>?_,tracked ⟨oc,hoc,I.freeC x c hc⟩ hs,by simpa using I.len⟩ ⟨c,hs,.inr hc⟩
  ·exact (hs.2 b (Nat.ne_of_lt (Nat.lt_of_lt_of_le (Heap.lt_size e) (I.ok.cab x c hfn hc)))).trans (I.base.keep b o e n hb hx)
  ·obtain ⟨sl,e1⟩:=I.base.slot b o e n hb hx
   exact ⟨sl,(hs.2 b (Nat.ne_of_lt (Nat.lt_of_lt_of_le (Heap.lt_size e) (I.ok.cab x c hfn hc)))).trans e1⟩
  ·obtain ⟨o',e1⟩:=I.base.there b o e hx
   exact ⟨o',(hs.2 b (Nat.ne_of_lt (Nat.lt_of_lt_of_le (Heap.lt_size e) (I.ok.cab x c hfn hc)))).trans e1⟩
  ·by_cases hj:j = i
   ·subst hj
    rw [hi] at e1; cases e1
    rw [List.getElem?_set_self hiσ] at e2
    cases e2
    exact ⟨u,r,.inr ⟨.inl hk,c,hc,hc'⟩⟩
   ·rw [List.getElem?_set_ne (Ne.symm hj)] at e2
    obtain ⟨u',r',q⟩:=hl j y v' e1 e2 e3
    refine ⟨u',r',?_⟩
    rcases q with q | ⟨k,c',e,z'⟩
    ·exact .inl q
    ·refine .inr ⟨k,c',e,z'.sameBut hs ?_⟩
     rintro rfl
     exact hj (Zik hN e1 (I.ok.inj _ _ _ e hc ▸ hi))
  ·by_cases hcc:c' = c
   ·subst hcc; exact ⟨_,hc'⟩
   ·obtain ⟨w2,z2⟩:=I.cell y c' e
    exact ⟨w2,z2.sameBut hs hcc⟩
  ·obtain ⟨e,n,ne,nf,d⟩:=I.pin p hp
   refine ⟨(hs.2 p.1 ?_).trans e,n,ne,nf,d⟩
   intro q
   rw [q,hoc] at e
   have q':oc = p.2:=Option.some.inj e
   exact d w' (by rw [← q']; exact hocd)
theorem ZiC {M:Model} {A:Around} {E:Value → Shared → Prop} {i:Nat} {x:Str} {v:V} {u:Value} {Q:Unit → Shared → Prop} (I:Inv X pins σ H s) (hN:X.N.Nodup) (hi:X.N[i]? = some x) (hx:Loc X.env.scope x) (r:RelV v u)
  (h:∀ s',Inv X pins (σ.set i (some v)) H s' → Q () s') (hf:X.fn x = true ∨ X.env.scope.names.lookup x = some .local:=by first | exact .inl rfl | exact .inr rfl | assumption):wpAny M A (storeName X.env x u) Q E s:=
 ZgS I hN hi hx r (fun s' I' _=>h s' I') hf
theorem Inv.call' {s':Shared} {ch:List Addr} (I:Inv X pins σ H s) (ho:s'.os = s.os) (u:Un (frs X.stack) ch H H' s.heap s'.heap) (hok:HOk X.prog X.w H' s'.heap) (hg:AllBare s'.gens)
  (hch:∀ b ∈ ch,(b ∈ X.ex ∨ X.s₀.heap.objs.size ≤ b) ∧ b ≠ X.env.locals ∧ (∀ x c,X.env.cells.lookup x = some c → c ≠ b) ∧ ∀ p ∈ X.pn ++ pins,p.1 ≠ b):Inv X pins σ H' s':=by
 obtain ⟨h',g',d',t',o'⟩:=s'
 have e:o' = s.os:=ho
 subst e
 exact I.call (g':=g') (t':=t') (d':=d') u hok hg hch
end
noncomputable abbrev XK:=Value → Option Addr → Hp → Prop
noncomputable abbrev St:=List (Option V)
noncomputable abbrev VK:=V → Hp → Prop
noncomputable abbrev TE:=St → Hp → VK → Prop
noncomputable abbrev TT:=St → Hp → (Bool → Hp → Prop) → Prop
noncomputable abbrev TA:=St → Hp → (List V → Hp → Prop) → Prop
structure Ends where
 nx:St → Hp → Prop
 rt:VK
 bk:St → Hp → Prop:=fun _ _=>False
 ct:St → Hp → Prop:=fun _ _=>False
noncomputable abbrev TS:=Ends → St → Hp → Prop
inductive EP (X:Cx) (pins:List (Addr × Obj)) (σ:St) (Q:VK) (u:Value) (s':Shared):Prop where
 | mk (v:V) (H':Hp) (I:Inv X pins σ H' s') (r:RelV v u) (q:Q v H'):EP X pins σ Q u s'
inductive TP (X:Cx) (pins:List (Addr × Obj)) (σ:St) (Q:Bool → Hp → Prop) (b:Bool) (s':Shared):Prop where
 | mk (H':Hp) (I:Inv X pins σ H' s') (q:Q b H'):TP X pins σ Q b s'
inductive AP (X:Cx) (pins:List (Addr × Obj)) (σ:St) (Q:List V → Hp → Prop) (us:List Value) (s':Shared):Prop where
 | mk (vs:List V) (H':Hp) (I:Inv X pins σ H' s') (r:Vals vs us) (q:Q vs H'):AP X pins σ Q us s'
def SP (X:Cx) (pins:List (Addr × Obj)) (D:Ends) (f:Flow) (s':Shared):Prop:=
 match f with
 | .next=>∃ σ' H',Inv X pins σ' H' s' ∧ D.nx σ' H'
 | .brk=>∃ σ' H',Inv X pins σ' H' s' ∧ D.bk σ' H'
 | .cont=>∃ σ' H',Inv X pins σ' H' s' ∧ D.ct σ' H'
 | .ret u=>∃ v σ' H',Inv X pins σ' H' s' ∧ RelV v u ∧ D.rt v H'
def PE (X:Cx) (e:Expr) (t:TE):Prop:=
 ∀ (pins:List (Addr × Obj)) (s:Shared) (σ:St) (H:Hp) (Q:VK),Inv X pins σ H s → t σ H Q → wpAny (model X.prog X.w) X.A (eval e X.env) (EP X pins σ Q) X.xe s
def PT (X:Cx) (e:Expr) (t:TT):Prop:=
 ∀ (pins:List (Addr × Obj)) (s:Shared) (σ:St) (H:Hp) (Q:Bool → Hp → Prop),Inv X pins σ H s → t σ H Q → wpAny (model X.prog X.w) X.A (isTrue e X.env (eval e X.env)) (TP X pins σ Q) X.xe s
def PW (X:Cx) (e:Expr) (t:TT):Prop:=
 ∀ (whole:Sem Value) (pins:List (Addr × Obj)) (s:Shared) (σ:St) (H:Hp) (Q:Bool → Hp → Prop),Inv X pins σ H s → t σ H Q → wpAny (model X.prog X.w) X.A (isTrue e X.env whole) (TP X pins σ Q) X.xe s
theorem PW.pt {X:Cx} {e:Expr} {t:TT} (h:PW X e t):PT X e t:=h _
def PA (X:Cx) (es:List Expr) (t:TA):Prop:=
 ∀ (pos:Pos) (pins:List (Addr × Obj)) (s:Shared) (σ:St) (H:Hp) (Q:List V → Hp → Prop),Inv X pins σ H s → t σ H Q → wpAny (model X.prog X.w) X.A (spliced (backTo pos (starEach es X.env))) (AP X pins σ Q) X.xe s
def PS (X:Cx) (st:Stmt) (t:TS):Prop:=
 ∀ (pins:List (Addr × Obj)) (s:Shared) (σ:St) (H:Hp) (D:Ends),Inv X pins σ H s → t D σ H → wpAny (model X.prog X.w) X.A (exec st X.env) (SP X pins D) X.xe s
def PSs (X:Cx) (st:List Stmt) (t:TS):Prop:=
 ∀ (pins:List (Addr × Obj)) (s:Shared) (σ:St) (H:Hp) (D:Ends),Inv X pins σ H s → t D σ H → wpAny (model X.prog X.w) X.A (execs st X.env) (SP X pins D) X.xe s
theorem thn {α:Type} {t:Sem α} {Q Q':α → Shared → Prop} {M:Model} {A:Around} {E:Value → Shared → Prop} {s:Shared} (h:wpAny M A t Q E s) (hQ:∀ a s,Q a s → Q' a s):wpAny M A t Q' E s:=wpAny_mono h hQ fun _ _ x=>x
end L2
namespace L2
open PySem PySem.Spec PyProof.Rows
section
variable {X:Cx}
def ZsP (i:Nat):TE:=fun σ H Q=>∃ v,σ[i]? = some (some v) ∧ Q v H
def tC (v:V):TE:=fun _ H Q=>Q v H
theorem Zly {i:Nat} {x:Str} {pos:Pos} (hN:X.N[i]? = some x) (hv:Vis X.env.scope x) (hd:(x == ("__debug__":Str)) = false:=by decide) (hcd:(x == ("__classdict__":Str)) = false:=by decide):PE X (.Name x pos) (ZsP i):=by
 intro pins s σ H Q I h
 obtain ⟨v,e,h⟩:=h
 obtain ⟨m,hn,hl⟩:=I.loc
 obtain ⟨u,r,l⟩:=hl i x v hN e hv
 have fin:EP X pins σ Q u s:=⟨v,H,I,r,h⟩
 rcases l with ⟨hk,hm⟩ | ⟨hk,c,hc,hcell⟩
 ·exact wpAny_Name (wpAny_loadName_local I.ok.kind hk hn hm fin) hd
 ·rcases hk with hk | hk
  ·exact wpAny_Name (wpAny_loadName_cell I.ok.kind hk hc hcell fin) hd
  ·exact wpAny_Name (wpAny_loadName_free I.ok.kind hk hc hcell fin hcd) hd
theorem ZqS {i j pos}:PE X (.Constant (.int i) j pos) (tC (.int i)):=fun _ _ _ H _ I h=>wpAny_Constant_int ⟨.int i,H,I.tok _,⟨_,rfl⟩,h⟩
theorem ZrV {b j pos}:PE X (.Constant (.bool b) j pos) (tC (.bl b)):=fun _ _ _ H _ I h=>Constant_bool ⟨.bl b,H,I,rfl,h⟩
theorem Zqr {j pos}:PE X (.Constant .none j pos) (tC .non):=fun _ _ _ H _ I h=>Constant_none ⟨.non,H,I,rfl,h⟩
theorem ZpG {x j pos}:PE X (.Constant (.str x) j pos) (tC (.str x)):=fun _ _ _ H _ I h=>Calls.Constant_str ⟨.str x,H,I.tok _,⟨_,rfl⟩,h⟩
def Gl (X:Cx) (x:Str):Prop:=X.env.kindOf x = some .globalImplicit
theorem Zhd {E:Value → Shared → Prop} {pins:List (Addr × Obj)} {s:Shared} {σ:St} {H:Hp} {x:Str} {u:Value} {pos:Pos} {Q:Value → Shared → Prop} (I:Inv X pins σ H s) (hg:Gl X x) (hm:X.mg x = some u) (h:Q u s)
  (hd:(x == ("__debug__":Str)) = false:=by decide):wpAny (model X.prog X.w) X.A (eval (.Name x pos) X.env) Q E s:=
 Calls.Name_function_global I.ok.kind hg (Calls.loadGlobal_global (by rw [I.ok.glob]; exact I.mod.glob.keeps I.bk) hm h) hd
theorem Zed {E:Value → Shared → Prop} {pins:List (Addr × Obj)} {s:Shared} {σ:St} {H:Hp} {x:Str} {u:Value} {pos:Pos} {Q:Value → Shared → Prop} (I:Inv X pins σ H s) (hg:Gl X x) (hm:X.mg x = none) (hv:bootBuiltins x = some u) (h:Q u s)
  (hn:x ≠ "__name__":=by decide) (hd:(x == ("__debug__":Str)) = false:=by decide):wpAny (model X.prog X.w) X.A (eval (.Name x pos) X.env) Q E s:=by
 obtain ⟨mb,h1,h2⟩:=I.mod.blt
 exact Calls.Name_function_global I.ok.kind hg (Calls.loadGlobal_builtin (by rw [I.ok.glob]; exact I.mod.glob.keeps I.bk) hm (by rw [I.ok.blt]; exact h1.keeps I.bk) ((h2 x hn).trans hv) h) hd
theorem Znw {x:Str} {v:V} {u:Value} {pos:Pos} (hg:Gl X x) (hm:X.mg x = some u) (r:RelV v u) (hd:(x == ("__debug__":Str)) = false:=by decide):PE X (.Name x pos) (tC v):=
 fun _ _ _ H _ I h=>Zhd I hg hm ⟨v,H,I,r,h⟩ hd
theorem Zn6 {x:Str} {v:V} {u:Value} {pos:Pos} (hg:Gl X x) (hm:X.mg x = none) (hv:bootBuiltins x = some u) (r:RelV v u) (hn:x ≠ "__name__":=by decide) (hd:(x == ("__debug__":Str)) = false:=by decide):PE X (.Name x pos) (tC v):=
 fun _ _ _ H _ I h=>Zed I hg hm hv ⟨v,H,I,r,h⟩ hn hd
variable {a b:Expr} {ta tb:TE} {pos:Pos}
def tB (t:TE):TT:=fun σ H Q=>t σ H fun x H1=>∃ c,x = .bl c ∧ Q c H1
theorem Zpy {e:Expr} {t:TE} (h:PE X e t) (he:∀ whole,isTrue e X.env whole = (do let v ← whole; standAt e.pos; holding [v] (truthy v)):=by intro _; rfl):PT X e (tB t):=by
 intro pins s σ H Q I hw
 refine isTrue_plain (thn (h pins s σ H _ I hw) fun v s1 zz1=>?_) (he _)
 obtain ⟨x,H1,I1,r1,q1⟩:=zz1
 obtain ⟨d,rfl,q⟩:=q1
 cases r1
 exact wpAny_truthy_bool ⟨H1,I1,q⟩
variable {tA tB':TT} {rest:List Expr}
def tOr (t u:TT):TT:=fun σ H Q=>t σ H fun c H1=>if c = true then Q true H1 else u σ H1 Q
def ZtL (t:TT):TT:=fun σ H Q=>t σ H fun c H1=>Q (!c) H1
theorem Zqi (ha:PT X a tA):PW X (.BoolOp .Or [a] pos) tA:=by
 intro wh pins s σ H Q I h
 refine isTrue_or (thn (ha pins s σ H Q I h) fun c s1 e=>?_)
 cases c with
 | false=>exact isTrue_or_nil e
 | true=>exact e
theorem Zr2 (ha:PT X a tA) (hb:PW X (.BoolOp .Or (b :: rest) pos) tB'):PW X (.BoolOp .Or (a :: b :: rest) pos) (tOr tA tB'):=by
 intro wh pins s σ H Q I h
 refine isTrue_or (thn (ha pins s σ H _ I h) fun c s1 zz1=>?_)
 obtain ⟨H1,I1,q1⟩:=zz1
 cases c with
 | true=>exact ⟨H1,I1,q1⟩
 | false=>exact hb wh pins s1 σ H1 Q I1 q1
theorem Zpq (ha:PT X a tA):PT X (.UnaryOp .Not a pos) (ZtL tA):=by
 intro pins s σ H Q I h
 exact isTrue_not (thn (ha pins s σ H (fun c H1=>Q (!c) H1) I h) fun c s' ⟨H',I',q⟩=>⟨H',I',q⟩)
def tIf (t:TT) (ta tb:TE):TE:=fun σ H Q=>t σ H fun c H1=>if c = true then ta σ H1 Q else tb σ H1 Q
theorem Zng {c:Expr} (hc:PT X c tA) (ha:PE X a ta) (hb:PE X b tb):PE X (.IfExp c a b pos) (tIf tA ta tb):=by
 intro pins s σ H Q I h
 refine wpAny_IfExp (thn (hc pins s σ H _ I h) fun d s1 zz1=>?_)
 obtain ⟨H1,I1,q1⟩:=zz1
 cases d with
 | true=>exact ha pins s1 σ H1 Q I1 q1
 | false=>exact hb pins s1 σ H1 Q I1 q1
end
end L2
namespace L2
open PySem PySem.Spec PyProof.Rows
def SqL (K:PySem.W.Frag) (H:Hp) (a:Addr) (xs:List V):Prop:=
 Rd H a (.lst xs) ∨
  ∃ (o:Obj) (its:Array Value) (n:Nat),K.lookup a = some o ∧ o.cls = .type "list" ∧ o.dict = none ∧ o.data = .seq its n ∧ its.size ≤ sizeLine ∧ Vals xs its.toList
def SqT (K:PySem.W.Frag) (H:Hp) (a:Addr) (xs:List V):Prop:=
 Rd H a (.tup xs) ∨
  ∃ (o:Obj) (its:Array Value) (n:Nat),K.lookup a = some o ∧ (o.cls = .type "tuple" ∧ o.dict = none) ∧ o.data = .seq its n ∧ its.size ≤ sizeLine ∧ Vals xs its.toList
noncomputable def Ztu:Value → Option V
 | .none=>some .non
 | .bool b=>some (.bl b)
 | .int i _=>some (.int i)
 | .str x _=>some (.str x)
 | .bytes b _=>some (.byt b)
 | .float b _=>some (.flt b)
 | .ref a=>some (.ref a)
 | .type n=>some (.ty n)
 | _=>none
theorem RelV.abs {x:V} {u:Value} (r:RelV x u):Ztu u = some x:=by
 cases x with
 | non=>cases r; rfl
 | bl _=>cases r; rfl
 | int _=>obtain ⟨t,rfl⟩:=r; rfl
 | str _=>obtain ⟨t,rfl⟩:=r; rfl
 | byt _=>obtain ⟨t,rfl⟩:=r; rfl
 | flt _=>obtain ⟨t,rfl⟩:=r; rfl
 | ref _=>cases r; rfl
 | ty _=>cases r; rfl
theorem RelV.inj {x y:V} {u:Value} (r:RelV x u) (q:RelV y u):x = y:=Option.some.inj (r.abs.symm.trans q.abs)
theorem Vals.inj:∀ {xs ys:List V} {us:List Value},Vals xs us → Vals ys us → xs = ys
 | _,_,_,.nil,.nil=>rfl
 | _,_,_,.cons r t,.cons r' t'=>by rw [r.inj r',Vals.inj t t']
section
variable {X:Cx} {pins:List (Addr × Obj)} {σ:St} {H:Hp} {s:Shared} {a:Addr} {xs ys:List V}
theorem SqL.of {K:PySem.W.Frag} (h:H a = some (.lst xs)):SqL K H a xs:=.inl (.inl h)
theorem SqT.of {K:PySem.W.Frag} (h:H a = some (.tup xs)):SqT K H a xs:=.inl (.inl h)
theorem Inv.list (I:Inv X pins σ H s) (h:SqL X.K H a xs):∃ its:List Value,Vals xs its ∧ PlainL s.heap a its.toArray ∧ xs.length ≤ sizeLine:=by
 rcases h with h | ⟨o,its,n,hk,hc,hd,hs,hz,r⟩
 ·obtain ⟨z,its,n,r,e⟩:=h.ok I.hok
  exact ⟨its,r,⟨_,n,e,rfl,rfl,rfl⟩,z⟩
 ·refine ⟨its.toList,r,⟨o,n,I.kIn a o hk,hc,hd,by simpa using hs⟩,?_⟩
  have e:=r.length
  simp only [Array.length_toList] at e
  exact lC 2 2199576973345 T1 e hz
theorem Inv.tuple (I:Inv X pins σ H s) (h:SqT X.K H a xs):∃ its:List Value,Vals xs its ∧ IsTup s.heap a its.toArray ∧ xs.length ≤ sizeLine:=by
 rcases h with h | ⟨o,its,n,hk,hc,hs,hz,r⟩
 ·obtain ⟨z,its,r,p⟩:=h.ok I.hok
  exact ⟨its,r,p.tup,z⟩
 ·refine ⟨its.toList,r,⟨o,I.kIn a o hk,hc.1,n,by simpa using hs⟩,?_⟩
  have e:=r.length
  simp only [Array.length_toList] at e
  exact lC 2 2199576973345 T1 e hz
theorem Inv.list_inj (I:Inv X pins σ H s) (h:SqL X.K H a xs) (h':SqL X.K H a ys):xs = ys:=by
 obtain ⟨its,r,⟨o,n,e,_,_,d⟩,_⟩:=I.list h
 obtain ⟨its',r',⟨o',n',e',_,_,d'⟩,_⟩:=I.list h'
 rw [e] at e'; cases e'
 rw [d] at d'
 injection d' with d1 _
 have:its = its':=by simpa using congrArg Array.toList d1
 subst this
 exact r.inj r'
theorem Inv.tuple_inj (I:Inv X pins σ H s) (h:SqT X.K H a xs) (h':SqT X.K H a ys):xs = ys:=by
 obtain ⟨its,r,⟨o,e,_,n,d⟩,_⟩:=I.tuple h
 obtain ⟨its',r',⟨o',e',_,n',d'⟩,_⟩:=I.tuple h'
 rw [e] at e'; cases e'
 rw [d] at d'
 injection d' with d1 _
 have:its = its':=by simpa using congrArg Array.toList d1
 subst this
 exact r.inj r'
end
noncomputable abbrev Cx.wish (X:Cx) (E:Value → Shared → Prop):Cx:={ X with xe:=E }
noncomputable abbrev Cx.nox (X:Cx):Cx:=X.wish fun _ _=>False
theorem Cx.Ok.wish {X:Cx} (ok:X.Ok) (E:Value → Shared → Prop):(X.wish E).Ok:=
 ⟨ok.mod,ok.kind,ok.glob,ok.blt,ok.above,ok.inj,ok.has,ok.cab,ok.hd,ok.frames,ok.stk,ok.exf,ok.bs,ok.bsz,ok.noex,ok.exfs,ok.funs,ok.frf⟩
theorem Cx.Ok.unwish {X:Cx} {E:Value → Shared → Prop} (ok:(X.wish E).Ok):X.Ok:=
 ⟨ok.mod,ok.kind,ok.glob,ok.blt,ok.above,ok.inj,ok.has,ok.cab,ok.hd,ok.frames,ok.stk,ok.exf,ok.bs,ok.bsz,ok.noex,ok.exfs,ok.funs,ok.frf⟩
section
variable {X:Cx} {pins:List (Addr × Obj)} {σ:St} {H:Hp} {s:Shared} {E:Value → Shared → Prop}
theorem Inv.wish (I:Inv X pins σ H s) (E:Value → Shared → Prop):Inv (X.wish E) pins σ H s:=⟨I.ok.wish E,I.os,I.bare,I.base,I.loc,I.cell,I.free,I.freeC,I.pin,I.hok,I.len⟩
theorem Inv.unwish (I:Inv (X.wish E) pins σ H s):Inv X pins σ H s:=⟨I.ok.unwish,I.os,I.bare,I.base,I.loc,I.cell,I.free,I.freeC,I.pin,I.hok,I.len⟩
theorem SP.unwish {D:Ends} {f:Flow} {s':Shared} (h:SP (X.wish E) pins D f s'):SP X pins D f s':=by
 cases f with
 | next=>obtain ⟨σ',H',I,q⟩:=h; exact ⟨σ',H',I.unwish,q⟩
 | brk=>obtain ⟨σ',H',I,q⟩:=h; exact ⟨σ',H',I.unwish,q⟩
 | cont=>obtain ⟨σ',H',I,q⟩:=h; exact ⟨σ',H',I.unwish,q⟩
 | ret u=>obtain ⟨v,σ',H',I,r,q⟩:=h; exact ⟨v,σ',H',I.unwish,r,q⟩
theorem PSs.nox {st:List Stmt} {t:TS} (h:PSs X.nox st t):PSs X st t:=fun pins s σ H D I hw=>
 wpAny_mono (h pins s σ H D (I.wish _) hw) (fun _ _ q=>q.unwish) fun _ _ z=>False.elim z
end
section
variable {X:Cx} {st:Stmt} {rest:List Stmt} {t u:TS} {e:Expr} {te:TE} {pos:Pos}
def Zsi:TS:=fun D σ H=>D.nx σ H
def ZtV (t u:TS):TS:=fun D σ H=>t { D with nx:=u D } σ H
theorem Zod:PSs X [] Zsi:=fun _ _ σ H _ I h=>wpAny_execs_nil ⟨σ,H,I,h⟩
theorem ZmE (h1:PS X st t) (h2:PSs X rest u):PSs X (st :: rest) (ZtV t u):=by
 intro pins s σ H D I h
 refine wpAny_execs_cons (thn (h1 pins s σ H { D with nx:=u D } I h) fun f s1 q=>?_)
 cases f with
 | next=>
  obtain ⟨σ',H',I',q⟩:=q
  exact h2 pins s1 σ' H' D I' q
 | ret v=>exact q
 | brk=>exact q
 | cont=>exact q
theorem ZnF (h1:PS X st t):PSs X [st] t:=by
 intro pins s σ H D I h
 refine wpAny_execs_cons (thn (h1 pins s σ H D I h) fun f s1 q=>?_)
 cases f with
 | next=>exact wpAny_execs_nil q
 | ret v=>exact q
 | brk=>exact q
 | cont=>exact q
theorem Inv.quiet {pins:List (Addr × Obj)} {σ:St} {H:Hp} {s:Shared} (I:Inv X pins σ H s):interactive X.env = false:=by simp [interactive,I.ok.kind]
def ZrE (te:TE):TS:=fun D σ H=>te σ H fun _ H1=>D.nx σ H1
theorem ZnH (he:PE X e te) (hs:swapsWith e none pos.line X.env = pure false:=by rfl):PS X (.Expr e pos) (ZrE te):=by
 intro pins s σ H D I h
 exact wpAny_Expr_any (thn (he pins s σ H _ I h) fun v s1 ⟨x,H1,I1,r1,q1⟩=>⟨σ,H1,I1,q1⟩) I.quiet hs
def ZtJ (te:TE):TS:=fun D σ H=>te σ H D.rt
theorem ZpN (he:PE X e te):PS X (.Return (some e) pos) (ZtJ te):=by
 intro pins s σ H D I h
 exact wpAny_Return_some (thn (he pins s σ H _ I h) fun v s1 ⟨x,H1,I1,r1,q1⟩=>⟨x,σ,H1,I1,r1,q1⟩)
def Ztp (c:TT) (t u:TS):TS:=fun D σ H=>c σ H fun b H1=>if b = true then t D σ H1 else u D σ H1
theorem ZsE {c:Expr} {a b:List Stmt} {tc:TT} (hc:PT X c tc) (ha:PSs X a t) (hb:PSs X b u):PS X (.If c a b pos) (Ztp tc t u):=by
 intro pins s σ H D I h
 refine wpAny_If (thn (hc pins s σ H _ I h) fun d s1 zz1=>?_)
 obtain ⟨H1,I1,q1⟩:=zz1
 cases d with
 | true=>exact ha pins s1 σ H1 D I1 q1
 | false=>exact hb pins s1 σ H1 D I1 q1
end
noncomputable abbrev TG:=V → St → Hp → (St → Hp → Prop) → Prop
noncomputable abbrev TGs:=List V → St → Hp → (St → Hp → Prop) → Prop
def PG (X:Cx) (target:Expr) (t:TG):Prop:=
 ∀ (pins:List (Addr × Obj)) (s:Shared) (σ:St) (H:Hp) (v:V) (u:Value) (Q:St → Hp → Prop),Inv X pins σ H s → RelV v u → t v σ H Q →
  wpAny (model X.prog X.w) X.A (assign target X.env u) (fun _ s'=>∃ σ' H',Inv X pins σ' H' s' ∧ Q σ' H') X.xe s
def PGs (X:Cx) (ts:List Expr) (t:TGs):Prop:=
 ∀ (pins:List (Addr × Obj)) (s:Shared) (σ:St) (H:Hp) (vs:List V) (us:List Value) (Q:St → Hp → Prop),Inv X pins σ H s → Vals vs us → t vs σ H Q →
  wpAny (model X.prog X.w) X.A (assignInOrder ((assignEach ts X.env).map (·.2)) us) (fun _ s'=>∃ σ' H',Inv X pins σ' H' s' ∧ Q σ' H') X.xe s
noncomputable abbrev ZqF:=V → V → V → Hp → (Hp → Prop) → Prop
def Zsn (X:Cx) (t:ZqF):Prop:=
 ∀ (pins:List (Addr × Obj)) (s:Shared) (σ:St) (H:Hp) (o i v:V) (ov iv u:Value) (Q:Hp → Prop),Inv X pins σ H s → RelV o ov → RelV i iv → RelV v u → t o i v H Q →
  wpAny (model X.prog X.w) X.A (setItem ov iv u) (fun _ s'=>∃ H',Inv X pins σ H' s' ∧ Q H') X.xe s
section
variable {X:Cx} {pos:Pos}
def Zo4 (i:Nat):TG:=fun v σ H Q=>Q (σ.set i (some v)) H
theorem Zkv {i:Nat} {x:Str} (hN:X.N.Nodup) (hi:X.N[i]? = some x) (hx:Loc X.env.scope x) (hf:X.fn x = true ∨ X.env.scope.names.lookup x = some .local:=by first | exact .inl rfl | exact .inr rfl | assumption):PG X (.Name x pos) (Zo4 i):=by
 intro pins s σ H v u Q I r h
 exact wpAny_assign_Name (ZiC I hN hi hx r (fun s' I'=>⟨_,H,I',h⟩) hf)
def Ztk:TGs:=fun vs σ H Q=>vs = [] ∧ Q σ H
def ZrO (t:TG) (u:TGs):TGs:=fun vs σ H Q=>∃ v r,vs = v :: r ∧ t v σ H fun σ' H'=>u r σ' H' Q
theorem Zoa:PGs X [] Ztk:=by
 intro pins s σ H vs us Q I r h
 obtain ⟨e,h⟩:=h
 subst e
 cases r
 exact assignInOrder_nil ⟨σ,H,I,h⟩
theorem ZlD {e:Expr} {es:List Expr} {t:TG} {u:TGs} (h1:PG X e t) (h2:PGs X es u)
  (hs:(assignEach (e :: es) X.env).map (·.2) = assign e X.env :: (assignEach es X.env).map (·.2):=by rfl):PGs X (e :: es) (ZrO t u):=by
 intro pins s σ H vs us Q I r h
 obtain ⟨v,vr,e1,h⟩:=h
 subst e1
 cases r with
 | cons r rr=>
  rw [hs]
  refine assignInOrder_cons (thn (h1 pins s σ H _ _ _ I r h) fun _ s1 zz1=>?_)
  obtain ⟨σ1,H1,I1,q1⟩:=zz1
  exact h2 pins s1 σ1 H1 _ _ Q I1 rr q1
def Ztm (K:PySem.W.Frag) (n:Nat) (t:TGs):TG:=fun v σ H Q=>∃ a xs,v = .ref a ∧ SqT K H a xs ∧ xs.length = n ∧ t xs σ H Q
theorem ZqL {es:List Expr} {k:Nat} {t:TGs} {n:Nat} (hc:X.calm = true) (h:PGs X es t)
  (hn:(assignEach es X.env).length = n:=by rfl) (hst:(assignEach es X.env).findIdx? (·.1) = none:=by rfl):PG X (.Tuple es k pos) (Ztm X.K n t):=by
 intro pins s σ H v u Q I r hw
 obtain ⟨a,xs,e1,hq,hl,hw⟩:=hw
 subst e1
 cases r
 obtain ⟨its,rv,ht,hz⟩:=I.tuple hq
 refine assign_Tuple_tuple (I.ok.hd hc) ht (by simp [hn,← hl,rv.length]) hst fun h' hx=>?_
 have I1:Inv X pins σ H { s with heap:=h' }:=I.kept (t':=s.toks) fun b o e=>hx b o (Nat.ne_of_lt (Heap.lt_size e)) e
 exact h pins _ σ H xs _ Q I1 (by simpa using rv) hw
def Zt6 (to ti:TE) (t:ZqF):TG:=fun v σ H Q=>to σ H fun o H1=>ti σ H1 fun i H2=>t o i v H2 fun H3=>Q σ H3
theorem Zqh {o i:Expr} {to ti:TE} {t:ZqF} (ho:PE X o to) (hi:PE X i ti) (hs:Zsn X t)
  (ha:∀ v,assign (.Subscript o i pos) X.env v = (do
   let ov ← holding [v] (eval o X.env)
   let iv ← holding [v,ov] (eval i X.env)
   standAt pos
   holding [v,ov,iv] (setItem ov iv v)
   release [v,ov,iv] []):=by intro _; rfl):PG X (.Subscript o i pos) (Zt6 to ti t):=by
 intro pins s σ H v u Q I r h
 rw [ha]
 refine wpAny_bind (wpAny_holding (thn (ho pins s σ H _ I h) fun ov s1 zz1=>?_))
 obtain ⟨x,H1,I1,r1,q1⟩:=zz1
 refine wpAny_bind (wpAny_holding (thn (hi pins s1 σ H1 _ I1 q1) fun iv s2 zz1=>?_))
 obtain ⟨y,H2,I2,r2,q2⟩:=zz1
 refine wpAny_bind (wpAny_standAt (wpAny_bind (wpAny_holding (thn (hs pins s2 σ H2 x y v ov iv u _ I2 r1 r2 r q2) fun _ s3 zz1=>?_))))
 obtain ⟨H3,I3,q3⟩:=zz1
 exact wpAny_release ⟨σ,H3,I3,q3⟩
def ZrZ (te:TE) (g:TG):TS:=fun D σ H=>te σ H fun x H1=>g x σ H1 D.nx
theorem ZpP {tg e:Expr} {te:TE} {g:TG} (he:PE X e te) (hg:PG X tg g) (hs:swapsWithSole [tg] e pos.line X.env = pure false:=by rfl) (hw:swappedStores [tg] e X.env = pure none:=by rfl)
  (h1:(assignEach [tg] X.env).map (·.2) = [assign tg X.env]:=by rfl):PS X (.Assign [tg] e pos) (ZrZ te g):=by
 intro pins s σ H D I h
 refine wpAny_Assign_stores (thn (he pins s σ H _ I h) fun v s1 zz1=>?_) hs hw
 obtain ⟨x,H1,I1,r1,q1⟩:=zz1
 rw [h1]
 exact thn (hg pins s1 σ H1 x v _ I1 r1 q1) fun _ s2 q=>q
theorem ZqB {i:Nat} {x:Str} {e:Expr} {te:TE} {pos':Pos} (hN:X.N.Nodup) (hi:X.N[i]? = some x) (hx:Loc X.env.scope x) (he:PE X e te) (hs:swapsWith e (some (.Name x pos')) pos.line X.env = pure false:=by rfl) (hf:X.fn x = true ∨ X.env.scope.names.lookup x = some .local:=by first | exact .inl rfl | exact .inr rfl | assumption):
  PS X (.Assign [.Name x pos'] e pos) (ZrZ te (Zo4 i)):=by
 intro pins s σ H D I h
 refine wpAny_Assign_Name (thn (he pins s σ H _ I h) fun v s1 zz1=>?_) hs
 obtain ⟨y,H1,I1,r1,q1⟩:=zz1
 exact ZiC I1 hN hi hx r1 (fun s2 I2=>⟨_,H1,I2,q1⟩) hf
end
section
variable {X:Cx} {pos:Pos}
def ZpL (c:TT) (tb:TS):TS:=fun D σ H=>∃ W:Nat → St → Hp → Prop,(∃ m,W m σ H) ∧ ∀ m σ H,W m σ H →
 c σ H fun b H1=>if b = true then ∃ N:St → Hp → Prop,(∀ σ' H',N σ' H' → ∃ m',m' < m ∧ W m' σ' H') ∧ tb { D with nx:=N,ct:=N,bk:=D.nx } σ H1 else D.nx σ H1
theorem ZlJ {c:Expr} {body:List Stmt} {tc:TT} {tb:TS} (hp:PassesOwn (model X.prog X.w) X.A X.env X.xe) (hc:PT X c tc) (hb:PSs X body tb):PS X (.While c body [] pos) (ZpL tc tb):=by
 intro pins s σ H D I h
 obtain ⟨W,⟨m0,w0⟩,turn⟩:=h
 refine wpAny_While (codeAny_whileLoop (fun n s'=>∃ σ' H',Inv X pins σ' H' s' ∧ W n σ' H') ?_ m0 ⟨σ,H,I,w0⟩)
 rintro n s1 ⟨σ1,H1,I1,w1⟩
 refine wpAny_passesOwn hp (thn (hc pins s1 σ1 H1 _ I1 (turn n σ1 H1 w1)) fun b s2 zz1=>?_)
 obtain ⟨H2,I2,q2⟩:=zz1
 cases b with
 | true=>
  obtain ⟨N,hN,q2⟩:=q2
  rw [if_pos rfl]
  refine wpAny_passesOwn hp (thn (hb pins s2 σ1 H2 _ I2 q2) fun f s3 q3=>?_)
  cases f with
  | next=>
   obtain ⟨σ3,H3,I3,n3⟩:=q3
   obtain ⟨m',hm,w3⟩:=hN σ3 H3 n3
   exact ⟨m',hm,σ3,H3,I3,w3⟩
  | cont=>
   obtain ⟨σ3,H3,I3,n3⟩:=q3
   obtain ⟨m',hm,w3⟩:=hN σ3 H3 n3
   exact ⟨m',hm,σ3,H3,I3,w3⟩
  | brk=>exact q3
  | ret v=>exact q3
 | false=>
  rw [if_neg Bool.false_ne_true]
  exact wpAny_execs_nil ⟨σ1,H2,I2,q2⟩
end
structure It where
 go:Nat → Hp → Prop
 yld:Nat → Hp → V → Hp → Prop
 stop:Nat → Hp → Prop
def Zdz (X:Cx) (pins:List (Addr × Obj)) (H:Hp) (b:Addr):Prop:=
 H b = none ∧ b ≠ X.env.locals ∧ b ∉ X.fs ∧ (b ∈ X.ex ∨ X.s₀.heap.objs.size ≤ b) ∧ (∀ x c,X.env.cells.lookup x = some c → c ≠ b) ∧ ∀ p ∈ X.pn ++ pins,p.1 ≠ b
theorem Inv.fpOk {X:Cx} {pins:List (Addr × Obj)} {σ:St} {H H':Hp} {s:Shared} {b:Addr} (I:Inv X pins σ H s) (hb:s.heap.objs.size ≤ b) (hn:H' b = none):Zdz X pins H' b:=by
 refine ⟨hn,Nat.ne_of_gt (Nat.lt_of_lt_of_le I.lt hb),I.nofs hb,.inr (Nat.le_trans I.sz hb),fun x c e z=>?_,fun p hp z=>?_⟩
 ·obtain ⟨v,q⟩:=I.cell x c e
  exact absurd (Nat.lt_of_lt_of_le q.lt (by rw [z]; exact hb)) (Nat.lt_irrefl _)
 ·exact absurd (Nat.lt_of_lt_of_le (Heap.lt_size (I.pin p hp).1) (by rw [z]; exact hb)) (Nat.lt_irrefl _)
structure Turn (P:Program) (w:World) (K:PySem.W.Frag) (tg:Expr) (J:It) (fp:List Addr) (it:Addr) (tn:Nat → Heap → Prop):Prop where
 mem:it ∈ fp
 obj:∀ i h,tn i h → ∀ b ∈ fp,∃ o,h.get? b = some o ∧ ∀ v,o.data ≠ .cell v
 keep:∀ i h h',tn i h → (∀ b ∈ fp,∀ o,h.get? b = some o → h'.get? b = some o) → tn i h'
 item:∀ (X:Cx),X.prog = P → X.w = w → X.K = K → X.calm = true → ∀ (i:Nat) (pins:List (Addr × Obj)) (s:Shared) (σ:St) (H:Hp) (E:Value → Shared → Prop),Inv X pins σ H s → (∀ b ∈ fp,Zdz X pins H b) → tn i s.heap → J.go i H →
  wpAny (model P w) X.A (pyNext (.ref it)) (fun r s1=>∃ u,r = some u ∧
   wpAny (model P w) X.A (letOwnedTupleGo tg (.ref it) u) (fun _ s2=>∃ x H',Inv X pins σ H' s2 ∧ RelV x u ∧ J.yld i H x H' ∧ tn (i + 1) s2.heap ∧ ∀ b ∈ fp,H' b = none) E s1) E s
 done:∀ (X:Cx),X.prog = P → X.w = w → X.K = K → X.calm = true → ∀ (i:Nat) (pins:List (Addr × Obj)) (s:Shared) (σ:St) (H:Hp) (E:Value → Shared → Prop),Inv X pins σ H s → (∀ b ∈ fp,Zdz X pins H b) → tn i s.heap → J.stop i H →
  wpAny (model P w) X.A (pyNext (.ref it)) (fun r s1=>r = none ∧ Inv X pins σ H s1) E s
 self:∀ (A:Around) (i:Nat) (s:Shared) (Q:Value → Shared → Prop) (E:Value → Shared → Prop),tn i s.heap → Q (.ref it) s → wpAny (model P w) A (pyIter (.ref it)) Q E s
noncomputable abbrev TI:=St → Hp → (It → Hp → Prop) → Prop
def PIE (X:Cx) (pins:List (Addr × Obj)) (σ:St) (tg:Expr) (R:It → Hp → Prop) (itv:Value) (s2:Shared):Prop:=
 ∃ (it:Addr) (fp:List Addr) (tn:Nat → Heap → Prop) (J:It) (H':Hp),itv = .ref it ∧ Inv X pins σ H' s2 ∧ Turn X.prog X.w X.K tg J fp it tn ∧ tn 0 s2.heap ∧ (∀ b ∈ fp,Zdz X pins H' b) ∧ R J H'
def PI (X:Cx) (tg iter:Expr) (wi:TI):Prop:=
 ∀ (pins:List (Addr × Obj)) (s:Shared) (σ:St) (H:Hp) (R:It → Hp → Prop),Inv X pins σ H s → wi σ H R →
  wpAny (model X.prog X.w) X.A (eval iter X.env) (fun v s1=>wpAny (model X.prog X.w) X.A (pyIter v) (PIE X pins σ tg R) X.xe s1) X.xe s
theorem ZjX {M:Model} {A:Around} {E:Value → Shared → Prop} {s:Shared} {tg:Expr} {it:Addr} {u:Value} {o:Obj} {n:String} {vs:Array Value} {Q:Unit → Shared → Prop} (ho:s.heap.get? it = some o) (hc:o.cls = .type n) (hd:o.data = .fields vs)
  (hn:["enumerate","zip","dict_itemiterator","dict_reverseitemiterator","odict_iterator","itertools.zip_longest","itertools.pairwise"].contains n = false) (hQ:Q () s):wpAny M A (letOwnedTupleGo tg (.ref it) u) Q E s:=by
 unfold letOwnedTupleGo
 cases tg <;> first
  | exact wpAny_pure hQ
  | (cases u <;> first
    | exact wpAny_pure hQ
    | (refine wpAny_bind (wpAny_load ho ?_)
       rw [hc,hd]
       show wpAny M A (if (["enumerate","zip","dict_itemiterator","dict_reverseitemiterator","odict_iterator","itertools.zip_longest","itertools.pairwise"].contains n && vs[0]? == some (rawInt _)) = true then _ else _) Q E s
       rw [if_neg (by intro h; rw [hn,Bool.false_and] at h; cases h)]
       exact wpAny_pure hQ))
noncomputable def Itl (K:PySem.W.Frag) (a:Addr):It:=
 ⟨fun i H=>∃ xs x,SqL K H a xs ∧ xs[i]? = some x,fun i H x H'=>H' = H ∧ ∀ xs,SqL K H a xs → xs[i]? = some x,fun i H=>∃ xs,SqL K H a xs ∧ xs.length ≤ i⟩
noncomputable def Itt (K:PySem.W.Frag) (a:Addr):It:=
 ⟨fun i H=>∃ xs x,SqT K H a xs ∧ xs[i]? = some x,fun i H x H'=>H' = H ∧ ∀ xs,SqT K H a xs → xs[i]? = some x,fun i H=>∃ xs,SqT K H a xs ∧ xs.length ≤ i⟩
noncomputable def Itr (lo:Int) (n:Nat):It:=⟨fun i _=>i < n,fun i H x H'=>H' = H ∧ x = .int (lo + i),fun i _=>n ≤ i⟩
theorem ZkS {P:Program} {w:World} {K:PySem.W.Frag} {tg:Expr} (a it:Addr):Turn P w K tg (Itl K a) [it] it (fun i h=>h.IsListIter it a i) where
 mem:=by simp
 obj:=fun i h st b hb=>by
  have e:b = it:=by simpa using hb
  subst e
  obtain ⟨o,e,c,d⟩:=st
  exact ⟨o,e,fun v z=>by rw [d] at z; cases z⟩
 keep:=fun i h h' st k=>st.at fun o e=>k it (by simp) o e
 item:=by
  intro X hP hw hK hc i pins s σ H E I hf st hg
  subst hP hw hK
  obtain ⟨xs,x,hq,hx⟩:=hg
  obtain ⟨its,rv,p,hz⟩:=I.list hq
  obtain ⟨u,hu,ru⟩:=rv.get hx
  obtain ⟨f0,f1,f2,f3,f4,f5⟩:=hf it (by simp)
  refine wpAny_pyNext_list_item st p.isList (x:=u) (by simpa using hu) fun h' st' sb=>?_
  have I1:Inv X pins σ H { s with heap:=h' }:=I.turned (t':=s.toks) (fun b o hb e=>(sb.2 b hb).trans e) f0 f1 f3 f4 f5
  obtain ⟨o,e,c,d⟩:=id st'
  exact ⟨u,rfl,ZjX (s:={ s with heap:=h' }) e c d (by decide) ⟨x,H,I1,ru,⟨rfl,fun ys hy=>by rw [I.list_inj hy hq]; exact hx⟩,st',fun b hb=>(hf b hb).1⟩⟩
 done:=by
  intro X hP hw hK hc i pins s σ H E I hf st hg
  subst hP hw hK
  obtain ⟨xs,hq,hx⟩:=hg
  obtain ⟨its,rv,p,hz⟩:=I.list hq
  obtain ⟨f0,f1,f2,f3,f4,f5⟩:=hf it (by simp)
  have hl:=rv.length
  exact wpAny_pyNext_list_end (I.ok.hd hc) st p.isList (by simp; exact lC 2 2268279672881 T1 hl hx) fun h' eb=>⟨rfl,I.turned (t':=s.toks) (fun b o hb e=>eb b o hb e) f0 f1 f3 f4 f5⟩
 self:=fun _ _ _ _ _ st h=>wpAny_pyIter_listiter st h
theorem Zjv {P:Program} {w:World} {K:PySem.W.Frag} {tg:Expr} (a it:Addr):Turn P w K tg (Itt K a) [it] it (fun i h=>h.IsTupleIter it a i) where
 mem:=by simp
 obj:=fun i h st b hb=>by
  have e:b = it:=by simpa using hb
  subst e
  obtain ⟨o,e,c,d⟩:=st
  exact ⟨o,e,fun v z=>by rw [d] at z; cases z⟩
 keep:=fun i h h' st k=>st.at fun o e=>k it (by simp) o e
 item:=by
  intro X hP hw hK hc i pins s σ H E I hf st hg
  subst hP hw hK
  obtain ⟨xs,x,hq,hx⟩:=hg
  obtain ⟨its,rv,p,hz⟩:=I.tuple hq
  obtain ⟨u,hu,ru⟩:=rv.get hx
  obtain ⟨f0,f1,f2,f3,f4,f5⟩:=hf it (by simp)
  refine wpAny_pyNext_tuple_item st (show s.heap.IsTuple a its.toArray from p) (x:=u) (by simpa using hu) fun h' st' sb=>?_
  have I1:Inv X pins σ H { s with heap:=h' }:=I.turned (t':=s.toks) (fun b o hb e=>(sb.2 b hb).trans e) f0 f1 f3 f4 f5
  obtain ⟨o,e,c,d⟩:=id st'
  exact ⟨u,rfl,ZjX (s:={ s with heap:=h' }) e c d (by decide) ⟨x,H,I1,ru,⟨rfl,fun ys hy=>by rw [I.tuple_inj hy hq]; exact hx⟩,st',fun b hb=>(hf b hb).1⟩⟩
 done:=by
  intro X hP hw hK hc i pins s σ H E I hf st hg
  subst hP hw hK
  obtain ⟨xs,hq,hx⟩:=hg
  obtain ⟨its,rv,p,hz⟩:=I.tuple hq
  obtain ⟨f0,f1,f2,f3,f4,f5⟩:=hf it (by simp)
  have hl:=rv.length
  exact wpAny_pyNext_tuple_end (I.ok.hd hc) st (show s.heap.IsTuple a its.toArray from p) (by simp; exact lC 2 2268279672881 T1 hl hx) fun h' eb=>⟨rfl,I.turned (t':=s.toks) (fun b o hb e=>eb b o hb e) f0 f1 f3 f4 f5⟩
 self:=fun _ _ _ _ _ st h=>wpAny_pyIter_tupleiter st h
theorem ZjS {P:Program} {w:World} {K:PySem.W.Frag} {tg:Expr} (it:Addr) (lo:Int) (n:Nat):Turn P w K tg (Itr lo n) [it] it (fun i h=>IsRangeIter h it (lo + (i:Nat) * 1) ((n:Int) - (i:Nat)) 1) where
 mem:=by simp
 obj:=fun i h st b hb=>by
  have e:b = it:=by simpa using hb
  subst e
  exact ⟨_,st,fun v z=>by
   have z':Data.fields _ = Data.cell v:=z
   cases z'⟩
 keep:=fun i h h' st k=>k it (by simp) _ st
 item:=by
  intro X hP hw hK hc i pins s σ H E I hf st hg
  subst hP hw hK
  obtain ⟨f0,f1,f2,f3,f4,f5⟩:=hf it (by simp)
  have W:=Walks.range (prog:=X.prog) (w:=X.w) (I.ok.hd hc) it lo 1 n
  refine W.item i s _ _ hg st fun v h' tk hv st' kk=>?_
  obtain ⟨t,rfl⟩:=hv
  have I1:Inv X pins σ H { s with heap:=h',toks:=tk }:=I.turned (fun b o hb e=>kk b o (by simpa using hb) e) f0 f1 f3 f4 f5
  refine ⟨_,rfl,ZjX (s:={ s with heap:=h',toks:=tk }) (n:="range_iterator") st' rfl rfl (by decide) ⟨.int (lo + i),H,I1,⟨t,?_⟩,⟨rfl,rfl⟩,st',fun b hb=>(hf b hb).1⟩⟩
  rw [Int.mul_one]
 done:=by
  intro X hP hw hK hc i pins s σ H E I hf st hg
  subst hP hw hK
  obtain ⟨f0,f1,f2,f3,f4,f5⟩:=hf it (by simp)
  exact wpAny_pyNext_range_end (I.ok.hd hc) st (by have:n ≤ i:=hg; exact iN [_,_] [] 1 0xe1808f81001 T1 this) fun h' eb=>⟨rfl,I.turned (t':=s.toks) (fun b o hb e=>eb b o hb e) f0 f1 f3 f4 f5⟩
 self:=fun _ _ _ _ _ st h=>wpAny_pyIter_rangeiter st h
end L2
namespace L2
open PySem PySem.Spec PyProof.Rows
section
variable {X:Cx} {tg:Expr}
def ZsO (K:PySem.W.Frag) (tl:TE):TI:=fun σ H R=>tl σ H fun x H1=>∃ a,x = .ref a ∧ (∃ xs,SqL K H1 a xs) ∧ R (Itl K a) H1
def Ztl (K:PySem.W.Frag) (tl:TE):TI:=fun σ H R=>tl σ H fun x H1=>∃ a,x = .ref a ∧ (∃ xs,SqT K H1 a xs) ∧ R (Itt K a) H1
theorem ZnU {l:Expr} {tl:TE} (hl:PE X l tl):PI X tg l (ZsO X.K tl):=by
 intro pins s σ H R I h
 refine thn (hl pins s σ H _ I h) fun v s1 zz1=>?_
 obtain ⟨x,H1,I1,r1,q1⟩:=zz1
 obtain ⟨a,e,⟨xs,hq⟩,q⟩:=q1
 subst e
 cases r1
 obtain ⟨its,rv,p,hz⟩:=I1.list hq
 refine wpAny_pyIter_list p.isList ?_
 refine ⟨s1.heap.objs.size,[s1.heap.objs.size],_,_,H1,rfl,I1.kept (t':=s1.toks) fun b o e=>Heap.get?_push_of_some _ e,ZkS a _,⟨_,Heap.get?_push_size _ rfl,rfl,rfl⟩,fun b hb=>?_,q⟩
 have e:b = s1.heap.objs.size:=by simpa using hb
 subst e
 exact I1.fpOk (Nat.le_refl _) (I1.hok.fresh (Nat.le_refl _))
theorem ZqH {l:Expr} {tl:TE} (hl:PE X l tl):PI X tg l (Ztl X.K tl):=by
 intro pins s σ H R I h
 refine thn (hl pins s σ H _ I h) fun v s1 zz1=>?_
 obtain ⟨x,H1,I1,r1,q1⟩:=zz1
 obtain ⟨a,e,⟨xs,hq⟩,q⟩:=q1
 subst e
 cases r1
 obtain ⟨its,rv,p,hz⟩:=I1.tuple hq
 refine wpAny_pyIter_tuple (show s1.heap.IsTuple a its.toArray from p) ?_
 refine ⟨s1.heap.objs.size,[s1.heap.objs.size],_,_,H1,rfl,I1.kept (t':=s1.toks) fun b o e=>Heap.get?_push_of_some _ e,Zjv a _,⟨_,Heap.get?_push_size _ rfl,rfl,rfl⟩,fun b hb=>?_,q⟩
 have e:b = s1.heap.objs.size:=by simpa using hb
 subst e
 exact I1.fpOk (Nat.le_refl _) (I1.hok.fresh (Nat.le_refl _))
theorem Zna {pins:List (Addr × Obj)} {σ:St} {H:Hp} {s:Shared} {R:It → Hp → Prop} {E:Value → Shared → Prop} {lo hi:Int} {t u v:Tok} {tk:Nat} (I:Inv X pins σ H s) (h1:-(2 ^ 62) ≤ lo) (h2:lo < 2 ^ 62) (h3:-(2 ^ 62) ≤ hi) (h4:hi < 2 ^ 62)
  (q:R (Itr lo (hi - lo).toNat) H):wpAny (model X.prog X.w) X.A (pyIter (.ref s.heap.objs.size)) (PIE X pins σ tg R) E { s with heap:=s.heap.push { cls:=.type "range",data:=.fields #[.int lo t,.int hi u,.int 1 v] },toks:=tk }:=by
 refine wpAny_pyIter_range (IsRange.new ..) (small_one h1 h2 h3 h4) ?_
 have I1:Inv X pins σ H { s with heap:=s.heap.push { cls:=.type "range",data:=.fields #[.int lo t,.int hi u,.int 1 v] },toks:=tk }:=I.kept fun b o e=>Heap.get?_push_of_some _ e
 refine ⟨(s.heap.push { cls:=.type "range",data:=.fields #[.int lo t,.int hi u,.int 1 v] }).objs.size,[(s.heap.push { cls:=.type "range",data:=.fields #[.int lo t,.int hi u,.int 1 v] }).objs.size],_,_,H,rfl,
  I1.kept (t':=tk) fun b o e=>Heap.get?_push_of_some _ e,ZjS _ lo (hi - lo).toNat,?_,fun b hb=>?_,q⟩
 ·have e1:lo + ((0:Nat):Int) * 1 = lo:=by simp
  have e2:(((hi - lo).toNat:Nat):Int) - ((0:Nat):Int) = Builtin.Range.rangeSize lo hi 1:=by rw [rangeSize_one]; split <;> omega
  show IsRangeIter _ _ (lo + ((0:Nat):Int) * 1) ((((hi - lo).toNat:Nat):Int) - ((0:Nat):Int)) 1
  rw [e1,e2]
  exact Heap.get?_push_size _ rfl
 ·have e:b = (s.heap.push { cls:=.type "range",data:=.fields #[.int lo t,.int hi u,.int 1 v] }).objs.size:=by simpa using hb
  subst e
  exact I1.fpOk (Nat.le_refl _) (I1.hok.fresh (Nat.le_refl _))
def ZsC (ta:TA):TI:=fun σ H R=>ta σ H fun vs H1=>∃ j:Int,vs = [.int j] ∧ -(2 ^ 62) ≤ j ∧ j < 2 ^ 62 ∧ R (Itr 0 j.toNat) H1
theorem ZkT {a:Expr} {ta:TA} {p pos:Pos} (hg:Gl X "range") (hm:X.mg "range" = none) (ha:PA X [a] ta) (hs:starEach [a] X.env = [(false,eval a X.env)]:=by rfl):PI X tg (.Call (.Name "range" p) [a] [] pos) (ZsC ta):=by
 intro pins s σ H R I h
 refine Call_ (Zed I hg hm boot_range (PyProof.Rows.callWith_type1 (thn (ha pos pins s σ H _ I h) fun us s1 zz1=>?_) hs rfl))
 obtain ⟨vs,H1,I1,r1,q1⟩:=zz1
 obtain ⟨j,e,q1,q2,q⟩:=q1
 subst e
 cases r1 with
 | cons r rr=>
  cases rr
  obtain ⟨t,rfl⟩:=r
  exact call_range_1 (Zna I1 (by omega) (by omega) q1 q2 (by simpa using q))
def Zuc (wi:TI) (g:TG) (tb:TS):TS:=fun D σ H=>wi σ H fun J H1=>∃ W:Nat → Nat → St → Hp → Prop,(∃ m,W 0 m σ H1) ∧ ∀ i m σ H,W i m σ H →
 (J.stop i H ∧ D.nx σ H) ∨ (J.go i H ∧ ∃ N:St → Hp → Prop,(∀ σ' H',N σ' H' → ∃ m',m' < m ∧ W (i + 1) m' σ' H') ∧ ∀ x H',J.yld i H x H' → g x σ H' fun σ2 H2=>tb { D with nx:=N,ct:=N,bk:=D.nx } σ2 H2)
noncomputable def ZdC (fp:List Addr) (h:Heap):List (Addr × Obj):=fp.filterMap fun b=>(h.get? b).map fun o=>(b,o)
theorem Zdn {fp:List Addr} {h:Heap} {b:Addr} {o:Obj} (hb:b ∈ fp) (e:h.get? b = some o):(b,o) ∈ ZdC fp h:=List.mem_filterMap.mpr ⟨b,hb,by rw [e]; rfl⟩
theorem ZkO {fp:List Addr} {h:Heap} {p:Addr × Obj} (hp:p ∈ ZdC fp h):p.1 ∈ fp ∧ h.get? p.1 = some p.2:=by
 obtain ⟨b,hb,e⟩:=List.mem_filterMap.mp hp
 cases q:h.get? b with
 | none=>rw [q] at e; cases e
 | some o=>
  rw [q] at e
  have e':(b,o) = p:=Option.some.inj e
  subst e'
  exact ⟨hb,q⟩
theorem Inv.pinned {pins:List (Addr × Obj)} {σ:St} {H:Hp} {s:Shared} {fp:List Addr} (I:Inv X pins σ H s) (hf:∀ b ∈ fp,Zdz X pins H b) (ho:∀ b ∈ fp,∃ o,s.heap.get? b = some o ∧ ∀ v,o.data ≠ .cell v):Inv X (pins ++ ZdC fp s.heap) σ H s:=
 I.pins_of fun p hp=>(List.mem_append.mp hp).elim (fun z=>I.pin p (List.mem_append_right _ z)) fun z=>by
  obtain ⟨hb,e⟩:=ZkO z
  obtain ⟨f0,f1,f2,_⟩:=hf p.1 hb
  obtain ⟨o,e',d⟩:=ho p.1 hb
  rw [e] at e'; cases e'
  exact ⟨e,f0,f1,f2,d⟩
theorem Inv.unpinned {pins pl:List (Addr × Obj)} {σ:St} {H:Hp} {s:Shared} (I:Inv X (pins ++ pl) σ H s):Inv X pins σ H s:=I.pins_of fun p hp=>I.pin p (List.mem_append_right _ (List.mem_append_left _ hp))
theorem Zmu {iter:Expr} {body:List Stmt} {wi:TI} {g:TG} {tb:TS} {pos:Pos} (hp:PassesOwn (model X.prog X.w) X.A X.env X.xe) (hc:X.calm = true) (hi:PI X tg iter wi) (hg:PG X tg g) (hb:PSs X body tb)
  (hs:∀ x,foldedSetIterable iter X.env x = pure x:=by intro _; rfl):PS X (.For tg iter body [] pos) (Zuc wi g tb):=by
 intro pins s σ H D I h
 refine wpAny_For (thn (hi pins s σ H _ I h) fun v s1 h1=>thn h1 fun itv s2 h2=>?_) hs
 obtain ⟨it,fp,tn,J,H2,e,I2,T,st2,f2,W,⟨m0,w0⟩,turn⟩:=h2
 subst e
 have stat:∀ {H':Hp},(∀ b ∈ fp,H' b = none) → ∀ b ∈ fp,Zdz X pins H' b:=fun hn b hb=>⟨hn b hb,(f2 b hb).2⟩
 refine codeAny_forLoop_any (fun n s'=>∃ i σ' H',Inv X pins σ' H' s' ∧ tn i s'.heap ∧ (∀ b ∈ fp,H' b = none) ∧ W i n σ' H') ?_ m0 ⟨0,σ,H2,I2,st2,fun b hb=>(f2 b hb).1,w0⟩
 rintro n s3 ⟨i,σ3,H3,I3,st3,fr3,w3⟩
 rcases turn i n σ3 H3 w3 with ⟨stop,qn⟩ | ⟨go,N,hN,step⟩
 ·refine wpAny_passesOwn hp (thn (T.done X rfl rfl rfl hc i pins s3 σ3 H3 X.xe I3 (stat fr3) st3 stop) fun r s4 ⟨hr,I4⟩=>?_)
  subst hr
  exact wpAny_execs_nil ⟨σ3,H3,I4,qn⟩
 ·refine wpAny_passesOwn hp (thn (T.item X rfl rfl rfl hc i pins s3 σ3 H3 X.xe I3 (stat fr3) st3 go) fun r s4 ⟨u,hr,h4⟩=>?_)
  subst hr
  refine wpAny_passesOwn hp (thn h4 fun _ s5 zz1=>?_)
  obtain ⟨x,H5,I5,r5,y5,st5,fr5⟩:=zz1
  have I5':=I5.pinned (stat fr5) (T.obj _ _ st5)
  refine wpAny_passesOwn hp (thn (hg _ s5 σ3 H5 x u _ I5' r5 (step x H5 y5)) fun _ s6 zz1=>?_)
  obtain ⟨σ6,H6,I6,q6⟩:=zz1
  refine wpAny_passesOwn hp (thn (hb _ s6 σ6 H6 _ I6 q6) fun f s7 q7=>?_)
  have again:∀ {σ7:St} {H7:Hp},Inv X (pins ++ ZdC fp s5.heap) σ7 H7 s7 → N σ7 H7 → ∃ m,m < n ∧ ∃ i σ' H',Inv X pins σ' H' s7 ∧ tn i s7.heap ∧ (∀ b ∈ fp,H' b = none) ∧ W i m σ' H':=fun {σ7 H7} I7 n7=>by
   obtain ⟨m',hm,w7⟩:=hN σ7 H7 n7
   refine ⟨m',hm,i + 1,σ7,H7,I7.unpinned,T.keep _ _ _ st5 fun b hb o e=>(I7.pin (b,o) (List.mem_append_right _ (List.mem_append_right _ (Zdn hb e)))).1,fun b hb=>?_,w7⟩
   obtain ⟨o,e,d⟩:=T.obj _ _ st5 b hb
   exact (I7.pin (b,o) (List.mem_append_right _ (List.mem_append_right _ (Zdn hb e)))).2.1
  cases f with
  | next=>obtain ⟨σ7,H7,I7,n7⟩:=q7; exact again I7 n7
  | cont=>obtain ⟨σ7,H7,I7,n7⟩:=q7; exact again I7 n7
  | brk=>obtain ⟨σ7,H7,I7,q7⟩:=q7; exact ⟨σ7,H7,I7.unpinned,q7⟩
  | ret v=>obtain ⟨x7,σ7,H7,I7,r7,q7⟩:=q7; exact ⟨x7,σ7,H7,I7.unpinned,r7,q7⟩
end
end L2
namespace L2
open PySem PySem.Spec PyProof.Rows
noncomputable abbrev R2:=V → V → Hp → VK → Prop
def OpR (X:Cx) (f:Value → Value → Sem Value) (r:R2):Prop:=
 ∀ (pins:List (Addr × Obj)) (s:Shared) (σ:St) (H:Hp) (x y:V) (v u:Value) (Q:VK),Inv X pins σ H s → RelV x v → RelV y u → r x y H Q →
  wpAny (model X.prog X.w) X.A (f v u) (EP X pins σ Q) X.xe s
def UnR (X:Cx) (f:Value → Sem Value) (r:V → Hp → VK → Prop):Prop:=
 ∀ (pins:List (Addr × Obj)) (s:Shared) (σ:St) (H:Hp) (x:V) (v:Value) (Q:VK),Inv X pins σ H s → RelV x v → r x H Q →
  wpAny (model X.prog X.w) X.A (f v) (EP X pins σ Q) X.xe s
def ZaQ (X:Cx) (f:Value) (r:List V → Hp → VK → Prop):Prop:=
 ∀ (pins:List (Addr × Obj)) (s:Shared) (σ:St) (H:Hp) (xs:List V) (us:List Value) (Q:VK),Inv X pins σ H s → Vals xs us → r xs H Q →
  wpAny (model X.prog X.w) X.A (call f us) (EP X pins σ Q) X.xe s
def tOp (r:R2) (ta tb:TE):TE:=fun σ H Q=>ta σ H fun x H1=>tb σ H1 fun y H2=>r x y H2 Q
def tUn (r:V → Hp → VK → Prop) (ta:TE):TE:=fun σ H Q=>ta σ H fun x H1=>r x H1 Q
def rI (C:Int → Int → Prop) (g:Int → Int → V):R2:=fun x y H Q=>∃ i j,x = .int i ∧ y = .int j ∧ C i j ∧ Q (g i j) H
def rI0 (g:Int → Int → V):R2:=fun x y H Q=>∃ i j,x = .int i ∧ y = .int j ∧ Q (g i j) H
noncomputable def rU (g:Int → V):V → Hp → VK → Prop:=fun x H Q=>∃ i,x = .int i ∧ Q (g i) H
section
variable {X:Cx} {a b c:Expr} {ta tb tc:TE} {pos:Pos}
theorem ZqR (ha:PE X a ta) (hb:PE X b tb) {pins:List (Addr × Obj)} {s:Shared} {σ:St} {H:Hp} {R:V → V → Hp → Prop} (I:Inv X pins σ H s)
  (h:ta σ H fun x H1=>tb σ H1 fun y H2=>R x y H2) {Q:Value → Shared → Prop} {f:Value → Value → Sem Value}
  (hf:∀ v u s2 x y H2,Inv X pins σ H2 s2 → RelV x v → RelV y u → R x y H2 → wpAny (model X.prog X.w) X.A (f v u) Q X.xe s2):
  wpAny (model X.prog X.w) X.A (eval a X.env) (fun v s₁=>wpAny (model X.prog X.w) X.A (eval b X.env) (fun u s₂=>wpAny (model X.prog X.w) X.A (f v u) Q X.xe s₂) X.xe s₁) X.xe s:=by
 refine thn (ha pins s σ H _ I h) fun v s1 zz1=>?_
 obtain ⟨x,H1,I1,r1,q1⟩:=zz1
 refine thn (hb pins s1 σ H1 _ I1 q1) fun u s2 zz1=>?_
 obtain ⟨y,H2,I2,r2,q2⟩:=zz1
 exact hf v u s2 x y H2 I2 r1 r2 q2
theorem ZrF {op:Operator} {r:R2} (ho:OpR X (binaryOp op) r) (ha:PE X a ta) (hb:PE X b tb):PE X (.BinOp a op b pos) (tOp r ta tb):=by
 intro pins s σ H Q I h
 exact wpAny_BinOp (ZqR ha hb I h fun v u s2 x y H2 I2 rx ry q=>ho pins s2 σ H2 x y v u Q I2 rx ry q)
theorem ZrQ {op:UnaryOp} {r:V → Hp → VK → Prop} (ho:UnR X (unaryOp op) r) (ha:PE X a ta):PE X (.UnaryOp op a pos) (tUn r ta):=by
 intro pins s σ H Q I h
 exact UnaryOp_ (thn (ha pins s σ H _ I h) fun v s1 ⟨x,H1,I1,r1,q1⟩=>ho pins s1 σ H1 x v Q I1 r1 q1)
theorem opI {f:Value → Value → Sem Value} {C:Int → Int → Prop} {g:Int → Int → Int}
  (rule:∀ (i j:Int) (t u:Tok) (s:Shared) (Q:Value → Shared → Prop) (E:Value → Shared → Prop),C i j → Q (.int (g i j) s.toks) { s with toks:=s.toks + 1 } → wpAny (model X.prog X.w) X.A (f (.int i t) (.int j u)) Q E s):
  OpR X f (rI C fun i j=>.int (g i j)):=by
 intro pins s σ H x y v u Q I rx ry h
 obtain ⟨i,j,rfl,rfl,hc,q⟩:=h
 obtain ⟨t,rfl⟩:=rx
 obtain ⟨t',rfl⟩:=ry
 exact rule i j t t' s _ _ hc ⟨.int (g i j),H,I.tok _,⟨_,rfl⟩,q⟩
theorem Zrv {f:Value → Value → Sem Value} {g:Int → Int → Int}
  (rule:∀ (i j:Int) (t u:Tok) (s:Shared) (Q:Value → Shared → Prop) (E:Value → Shared → Prop),Q (.int (g i j) s.toks) { s with toks:=s.toks + 1 } → wpAny (model X.prog X.w) X.A (f (.int i t) (.int j u)) Q E s):
  OpR X f (rI0 fun i j=>.int (g i j)):=by
 intro pins s σ H x y v u Q I rx ry h
 obtain ⟨i,j,rfl,rfl,q⟩:=h
 obtain ⟨t,rfl⟩:=rx
 obtain ⟨t',rfl⟩:=ry
 exact rule i j t t' s _ _ ⟨.int (g i j),H,I.tok _,⟨_,rfl⟩,q⟩
theorem ZqQ {f:Value → Value → Sem Value} {g:Int → Int → Bool}
  (rule:∀ (i j:Int) (t u:Tok) (s:Shared) (Q:Value → Shared → Prop) (E:Value → Shared → Prop),Q (.bool (g i j)) s → wpAny (model X.prog X.w) X.A (f (.int i t) (.int j u)) Q E s):
  OpR X f (rI0 fun i j=>.bl (g i j)):=by
 intro pins s σ H x y v u Q I rx ry h
 obtain ⟨i,j,rfl,rfl,q⟩:=h
 obtain ⟨t,rfl⟩:=rx
 obtain ⟨t',rfl⟩:=ry
 exact rule i j t t' s _ _ ⟨.bl (g i j),H,I,rfl,q⟩
def ZtR (i j:Int):Prop:=0 < j ∧ j < 1073741824
def ZtM (i j:Int):Prop:=0 ≤ j ∧ j ≤ 1000000 ∧ i.natAbs < 2 ^ 64
def ZqN (i j:Int):Prop:=(-(2 ^ 64) < i ∧ i < 2 ^ 64) ∨ (-(2 ^ 64) < j ∧ j < 2 ^ 64)
theorem ZqN.ok {i j:Int} (h:ZqN i j):IntMulOk i j:=by
 rcases h with ⟨h1,h2⟩ | ⟨h1,h2⟩
 ·exact .of_left (intBits_le_64 h1 h2)
 ·exact .of_right (intBits_le_64 h1 h2)
theorem Zqs:OpR X (binaryOp .Add) (rI0 fun i j=>.int (i + j)):=Zrv fun _ _ _ _ _ _ _ q=>add_int q
theorem Zqp:OpR X (binaryOp .Sub) (rI0 fun i j=>.int (i - j)):=Zrv fun _ _ _ _ _ _ _ q=>sub_int q
theorem Zpc:OpR X (binaryOp .Mult) (rI ZqN fun i j=>.int (i * j)):=opI fun _ _ _ _ _ _ _ hc q=>mul_int q hc.ok
theorem ZnI:OpR X (binaryOp .FloorDiv) (rI ZtR fun i j=>.int (i / j)):=opI fun i j _ _ _ _ _ hc q=>by
 have h1:(0:Int) < j:=hc.1
 have h2:j < 1073741824:=hc.2
 exact floordiv_int (by exact fun z=>iN [] [_] 2 26014245025 T1 z h1) (by rw [Int.fdiv_eq_ediv_of_nonneg i (by exact Int.le_of_lt h1)]; exact q) (.inl (PyProof.noPylong_small (by omega)))
theorem ZpO:OpR X (binaryOp .Mod) (rI (fun _ j=>0 < j) fun i j=>.int (i % j)):=opI fun i j _ _ _ _ _ hc q=>by
 have h1:(0:Int) < j:=hc
 exact mod_int' (by exact fun z=>iN [] [_] 2 26014245025 T1 z h1) (by rw [Int.fmod_eq_emod_of_nonneg i (by exact Int.le_of_lt h1)]; exact q)
theorem Zqx:OpR X (binaryOp .Pow) (rI ZtM fun i j=>.int (i ^ j.toNat)):=opI fun _ _ _ _ _ _ _ hc q=>pow_int_small hc.1 hc.2.1 hc.2.2 q
theorem unI {f:Value → Sem Value} {g:Int → Int}
  (rule:∀ (i:Int) (t:Tok) (s:Shared) (Q:Value → Shared → Prop) (E:Value → Shared → Prop),Q (.int (g i) s.toks) { s with toks:=s.toks + 1 } → wpAny (model X.prog X.w) X.A (f (.int i t)) Q E s):
  UnR X f (rU fun i=>.int (g i)):=by
 intro pins s σ H x v Q I rx h
 obtain ⟨i,rfl,q⟩:=h
 obtain ⟨t,rfl⟩:=rx
 exact rule i t s _ _ ⟨.int (g i),H,I.tok _,⟨_,rfl⟩,q⟩
theorem ZqM:UnR X (unaryOp .USub) (rU fun i=>.int (-i)):=unI fun _ _ _ _ _ q=>neg_int q
end
theorem ZhF {i j:Str}:decide (V.str i = V.str j) = (i == j):=by
 rw [Bool.eq_iff_iff]
 simp
section
variable {X:Cx} {a b c:Expr} {ta tb tc:TE} {pos:Pos}
theorem Zqq {pins:List (Addr × Obj)} {σ:St} {H:Hp} {s:Shared} {Q:VK} {k k':Bool} (I:Inv X pins σ H s) (q:Q (.bl k) H) (e:k = k'):EP X pins σ Q (.bool k') s:=by
 subst e
 exact ⟨.bl k,H,I,rfl,q⟩
theorem Zrk:OpR X (compareOp .Lt) (rI0 fun i j=>.bl (decide (i < j))):=ZqQ fun _ _ _ _ _ _ _ q=>lt_int q
theorem Zr1:OpR X (compareOp .Gt) (rI0 fun i j=>.bl (decide (j < i))):=ZqQ fun _ _ _ _ _ _ _ q=>gt_int q
theorem Zrq:OpR X (compareOp .GtE) (rI0 fun i j=>.bl (decide (j ≤ i))):=ZqQ fun _ _ _ _ _ _ _ q=>ge_int q
theorem Zlm:OpR X (compareOp .In) (fun x y H Q=>∃ i j,x = .str i ∧ y = .str j ∧ Q (.bl (!(Builtin.Str.occurrences j i 0 j.length 1).isEmpty)) H):=by
 intro pins s σ H x y v u Q I rx ry h
 obtain ⟨i,j,rfl,rfl,q⟩:=h
 obtain ⟨t,rfl⟩:=rx
 obtain ⟨t',rfl⟩:=ry
 exact in_str (Zqq I q rfl)
theorem OpR.or {f:Value → Value → Sem Value} {r r':R2} (h:OpR X f r) (h':OpR X f r'):OpR X f (fun x y H Q=>r x y H Q ∨ r' x y H Q):=by
 intro pins s σ H x y v u Q I rx ry q
 rcases q with q | q
 ·exact h pins s σ H x y v u Q I rx ry q
 ·exact h' pins s σ H x y v u Q I rx ry q
theorem Zn9 {op:CmpOp} {r:R2} (ho:OpR X (compareOp op) r) (ha:PE X a ta) (hb:PE X b tb) (hm:behindInMarks op b = false):PE X (.Compare a [op] [b] pos) (tOp r ta tb):=by
 intro pins s σ H Q I h
 exact wpAny_Compare1 (ZqR ha hb I h fun v u s2 x y H2 I2 rx ry q=>ho pins s2 σ H2 x y v u Q I2 rx ry q) hm
def ZrK (t:TE):TT:=fun σ H Q=>t σ H fun x H'=>∃ k,x = .bl k ∧ Q k H'
theorem ZnW {op:CmpOp} {r:R2} (ho:OpR X (compareOp op) r) (ha:PE X a ta) (hb:PE X b tb) (hm:behindInMarks op b = false):PT X (.Compare a [op] [b] pos) (ZrK (tOp r ta tb)):=by
 intro pins s σ H Q I h
 refine wpAny_isTrue_Compare1 (thn (ha pins s σ H _ I h) fun v s1 ⟨x,H1,I1,r1,q1⟩=>thn (hb pins s1 σ H1 _ I1 q1) fun u s2 ⟨y,H2,I2,r2,q2⟩=>
  thn (ho pins s2 σ H2 x y v u _ I2 r1 r2 q2) fun c s3 ⟨z,H3,I3,r3,k,e,q3⟩=>?_) hm
 subst e
 cases r3
 exact wpAny_truthy_bool ⟨H3,I3,q3⟩
theorem Zgc:(sizeLine:Nat) < 2 ^ 63:=by rw [sizeLine_eq]; decide
theorem ZjK:OpR X (binaryOp .Add) (fun x y H Q=>∃ i j,x = .str i ∧ y = .str j ∧ i.length + j.length ≤ sizeLine ∧ Q (.str (i ++ j)) H):=by
 intro pins s σ H x y v u Q I rx ry h
 obtain ⟨i,j,rfl,rfl,hz,q⟩:=h
 obtain ⟨t,rfl⟩:=rx
 obtain ⟨t',rfl⟩:=ry
 exact add_str (fun t' tk=>⟨.str (i ++ j),H,I.tok _,⟨_,rfl⟩,q⟩) hz
theorem vals1 {x:V} {us:List Value} (r:Vals [x] us):∃ u,us = [u] ∧ RelV x u:=by
 cases r with
 | cons r1 r2=>cases r2; exact ⟨_,rfl,r1⟩
theorem vals2 {x y:V} {us:List Value} (r:Vals [x,y] us):∃ u w',us = [u,w'] ∧ RelV x u ∧ RelV y w':=by
 cases r with
 | cons r1 r2=>
  cases r2 with
  | cons r3 r4=>cases r4; exact ⟨_,_,rfl,r1,r3⟩
theorem ZkH (hc:X.calm = true):ZaQ X (.builtin "max") (fun xs H Q=>∃ i j,xs = [.int i,.int j] ∧ Q (.int (if j > i then j else i)) H):=by
 intro pins s σ H xs us Q I r h
 obtain ⟨i,j,rfl,q⟩:=h
 obtain ⟨u,w',rfl,⟨t,rfl⟩,⟨t',rfl⟩⟩:=vals2 r
 refine max_two_ints (I.ok.hd hc) fun h' tk k=>⟨_,H,I.kept k,?_,q⟩
 by_cases hj:j > i
 ·rw [if_pos hj,if_pos hj]; exact ⟨_,rfl⟩
 ·rw [if_neg hj,if_neg hj]; exact ⟨_,rfl⟩
theorem Zlr:ZaQ X (.type "int") (fun xs H Q=>(∃ i,xs = [.int i] ∧ Q (.int i) H) ∨ ∃ k,xs = [.bl k] ∧ Q (.int (if k then 1 else 0)) H):=by
 intro pins s σ H xs us Q I r h
 rcases h with ⟨i,rfl,q⟩ | ⟨k,rfl,q⟩
 ·obtain ⟨u,rfl,t,rfl⟩:=vals1 r
  exact call_int_int ⟨.int i,H,I,⟨_,rfl⟩,q⟩
 ·obtain ⟨u,rfl,r1⟩:=vals1 r
  cases r1
  exact call_int_bool ⟨.int (if k then 1 else 0),H,I.tok _,⟨_,rfl⟩,q⟩
def ZtK (K:PySem.W.Frag) (x:V) (H:Hp) (n:Nat):Prop:=
 match x with
 | .str y=>y.length ≤ sizeLine ∧ n = y.length
 | .byt y=>y.size ≤ sizeLine ∧ n = y.size
 | .ref p=>(∃ xs,SqL K H p xs ∧ n = xs.length) ∨ ∃ xs,SqT K H p xs ∧ n = xs.length
 | _=>False
theorem ZmH:ZaQ X (.builtin "len") (fun xs H Q=>∃ x n,xs = [x] ∧ ZtK X.K x H n ∧ Q (.int n) H):=by
 intro pins s σ H xs us Q I r h
 obtain ⟨x,n,rfl,e,q⟩:=h
 obtain ⟨u,rfl,rx⟩:=vals1 r
 have hl:=Zgc
 have hs:sizeLine = 16777216:=sizeLine_eq
 cases x with
 | str y=>
  obtain ⟨t,rfl⟩:=rx
  obtain ⟨hy,e'⟩:y.length ≤ sizeLine ∧ n = y.length:=e
  subst e'
  exact len_str (by omega) ⟨.int _,H,I.tok _,⟨_,rfl⟩,q⟩
 | byt y=>
  obtain ⟨t,rfl⟩:=rx
  obtain ⟨hy,e'⟩:y.size ≤ sizeLine ∧ n = y.size:=e
  subst e'
  exact PySem.W.len_bytes (by omega) ⟨.int _,H,I.tok _,⟨_,rfl⟩,q⟩
 | ref p=>
  cases rx
  have e':(∃ xs,SqL X.K H p xs ∧ n = xs.length) ∨ ∃ xs,SqT X.K H p xs ∧ n = xs.length:=e
  rcases e' with ⟨xs,hx,e'⟩ | ⟨xs,hx,e'⟩
  ·subst e'
   obtain ⟨its,r',pl,hz⟩:=I.list hx
   have hlen:=r'.length
   exact Calls.call_len_list pl.isList (by simp only [List.size_toArray]; omega) ⟨.int xs.length,H,I.tok _,⟨_,by simp only [List.size_toArray]; rw [hlen]⟩,q⟩
  ·subst e'
   obtain ⟨its,r',pl,hz⟩:=I.tuple hx
   have hlen:=r'.length
   exact len_tuple pl (by simp only [List.size_toArray]; omega) ⟨.int xs.length,H,I.tok _,⟨_,by simp only [List.size_toArray]; rw [hlen]⟩,q⟩
 | _=>exact (show False from e).elim
end
end L2
namespace L2
open PySem PySem.Spec PyProof.Rows
structure Zjy (h:Heap) (x dx C:Addr) (mA:Str → Option Value):Prop where
 obj:h.get? x = some (PySem.W.instObj C dx)
 ns:h.Ns1 dx mA
 ne:dx ≠ x
theorem Zk0 {h:Heap} {dx:Addr} {mA:Str → Option Value} (n:h.Ns1 dx mA):∃ od,h.get? dx = some od ∧ ∀ name,PySem.W.lookIn name od = some (mA name):=by
 obtain ⟨o,es,ep,ho,hd,hk,_,hm⟩:=n
 refine ⟨o,ho,fun name=>?_⟩
 have e:=hm name
 unfold nsFind findBy at e
 rw [← Array.find?_toList] at e
 unfold PySem.W.lookIn
 rw [hd]
 dsimp only
 split
 ·rename_i y q
  rw [q] at e
  exact congrArg some e
 ·rename_i q
  rw [q] at e
  have a:es.toList.any (·.refKey) = false:=by
   rw [List.any_eq_false]
   intro y hy
   obtain ⟨z,t,hkey⟩:=hk y (Array.mem_toList_iff.mp hy)
   simp [DictEntry.refKey,hkey]
  have a':¬ es.toList.any (·.refKey) = true:=by rw [a]; exact Bool.false_ne_true
  rw [if_neg a']
  exact congrArg some e
theorem Zjy.look {h:Heap} {x dx C:Addr} {mA:Str → Option Value} (I:Zjy h x dx C mA):∃ od,PySem.W.InstAt h x (PySem.W.instObj C dx) C (some od) ∧ ∀ name,PySem.W.lookIn name od = some (mA name):=
 let ⟨od,ho,hl⟩:=Zk0 I.ns
 ⟨od,⟨I.obj,rfl,rfl,ho⟩,hl⟩
section
variable {prog:Program} {w:World} {A:Around} {E:Value → Shared → Prop} {s:Shared} {K:PySem.W.Frag} {x dx C f:Addr} {mA:Str → Option Value} {name:Str} {v:Value}
theorem ZnS {expr:Bool} {Q:Value → Shared → Prop} (X:K.In s.heap) (I:Zjy s.heap x dx C mA) (hg:PySem.W.plainGet K C name = true) (hh:PySem.W.hasDictIn K C = true)
  (ha:PySem.W.findIn K (.ref C) name = some none) (hv:mA name = some v) (hv':PySem.W.handedIn v = true) (h:Q v { s with toks:=s.toks + 1 }):
  wpAny (model prog w) A (getAttr (.ref x) name expr) Q E s:=by
 obtain ⟨od,J,hl⟩:=I.look
 exact PySem.W.get_value X J (PySem.W.plainGet_of hg).1 (PySem.W.findObj_own hh ha rfl (by rw [hl,hv])) hv' h
theorem Zlx {pl:Sem Bool} {Q:Value × List Value → Shared → Prop} (X:K.In s.heap) (I:Zjy s.heap x dx C mA) (hg:PySem.W.plainGet K C name = true)
  (hf:PySem.W.findIn K (.ref C) name = some (some (.ref f))) (ht:PySem.W.isFn K (.ref f) = true) (hv:mA name = none) (h:Q (.ref f,[.ref x]) s):
  wpAny (model prog w) A (getMethod (.ref x) name pl) Q E s:=by
 obtain ⟨od,J,hl⟩:=I.look
 exact PySem.W.method_fn X J (PySem.W.plainGet_of hg).1 (PySem.W.plainGet_of hg).2 hf (beq_iff_eq.mp ht) (by show (PySem.W.lookIn name od).map (·.isSome) = some false; rw [hl,hv]; rfl) h
theorem Zn7 {ns:List Str} {Q:Unit → Shared → Prop} (X:K.In s.heap) (I:Zjy s.heap x dx C mA)
  (hs:PySem.W.findIn K (.ref C) "__setattr__" = some (some (.builtin "object.__setattr__"))) (hp:PySem.W.plainOver K C = true) (ht:PySem.W.takerIn K C name = some none) (hh:PySem.W.hasDictIn K C = true)
  (hw:PySem.Within mA ns) (hsz:ns.length ≤ sizeLine)
  (h:∀ h',Zjy h' x dx C (fun y=>if y = name then some v else mA y) → Heap.SameBut dx s.heap h' → Q () { s with heap:=h',toks:=s.toks + 2 }):
  wpAny (model prog w) A (setAttr (.ref x) name v) Q E s:=by
 obtain ⟨od,J,hl⟩:=I.look
 refine PySem.W.set_plain X J hs (PySem.W.osa_open (s:={ s with toks:=s.toks + 1 }) (r:=none) X J hp ht fun b=>?_)
 obtain ⟨cd,hc,hd'⟩:=PySem.W.any_some hh
 have hx:s.heap.get? x = some ⟨.ref C,some dx,.plain,#[]⟩:=I.obj
 refine wpAny_bind (wpAny_pure (wpAny_bind (wpAny_bind (wpAny_loadPart hx (wpAny_bind (PySem.W.Looks.here (s:={ s with toks:=s.toks + 1 }) (PySem.W.looks_clsIn X hc) ?_))))))
 rw [hd']
 refine wpAny_pure (a:=some dx) (wpAny_bind (wpAny_pure (wpAny_bind ?_)))
 refine wpAny_nsSet1 (s:={ s with toks:=s.toks + 1 }) I.ns fun h' hn2 hs2=>?_
 obtain ⟨oD,esD,epD,hoD,hdD,hcD⟩:=hn2.count (PySem.Within.cons name v hw)
 refine wpAny_bind (wpAny_lookBehind hoD (by rw [hdD]; exact pastItsLine_dict (Nat.le_trans hcD (by rw [List.length_cons]; exact lB 1 0xa1ca0c01001 T1 hsz))) ?_)
 exact wpAny_pure (h _ ⟨(hs2.2 _ (Ne.symm I.ne)).trans I.obj,hn2,I.ne⟩ hs2)
theorem ZlG {R:Result → Shared → Prop} {vs:List Value} {kw:List (Str × Value)} (X:K.In s.heap) (hm:PySem.W.makesIn K C = true)
  (hi:PySem.W.findIn K (.ref C) "__init__" = some (some (.ref f))) (hf:PySem.W.typeIn K (.ref f) = some (.type "function"))
  (h:codeAny (model prog w) (A.under (.builtin "type.__call__" ⟨.ref C :: vs,kw⟩)) (.call (.ref f) ⟨.ref (s.heap.objs.size + 1) :: vs,kw⟩) (PySem.W.InitBack (s.heap.objs.size + 1) R)
   { s with heap:=(s.heap.push PySem.W.emptyDict).push (PySem.W.instObj C s.heap.objs.size) }):
  codeAny (model prog w) A (.call (.ref C) ⟨vs,kw⟩) R s:=by
 obtain ⟨hh,g,d,t,os⟩:=s
 exact PySem.W.make_core (PySem.W.makes_of X hm) (PySem.W.looks_findIn X hi) (fun self=>PySem.W.bind_fn X self hf) (.inl rfl) h
end
noncomputable def Zc0 (f:Str) (v:V):List (Str × V) → List (Str × V)
 | []=>[(f,v)]
 | (g,x) :: r=>if g = f then (g,v) :: r else (g,x) :: Zc0 f v r
theorem Zfi (f g:Str) (v:V):∀ fs:List (Str × V),(Zc0 f v fs).lookup g = if g = f then some v else fs.lookup g
 | []=>by
  show List.lookup g [(f,v)] = _
  by_cases h:g = f
  ·have hb:(g == f) = true:=beq_iff_eq.mpr h
   simp only [List.lookup,hb,if_pos h]
  ·have hb:(g == f) = false:=beq_eq_false_iff_ne.mpr h
   simp only [List.lookup,hb,if_neg h]
 | (k,x) :: r=>by
  have ih:=Zfi f g v r
  rw [show Zc0 f v ((k,x) :: r) = (if k = f then (k,v) :: r else (k,x) :: Zc0 f v r) from rfl]
  by_cases hk:k = f
  ·rw [if_pos hk]
   by_cases h:g = k
   ·have hb:(g == k) = true:=beq_iff_eq.mpr h
    simp only [List.lookup,hb,if_pos (h.trans hk)]
   ·have hb:(g == k) = false:=beq_eq_false_iff_ne.mpr h
    simp only [List.lookup,hb,if_neg (fun e:g = f=>h (e.trans hk.symm))]
  ·rw [if_neg hk]
   by_cases h:g = k
   ·have hb:(g == k) = true:=beq_iff_eq.mpr h
    simp only [List.lookup,hb,if_neg (fun e:g = f=>hk (h.symm.trans e))]
   ·have hb:(g == k) = false:=beq_eq_false_iff_ne.mpr h
    simp only [List.lookup,hb]
    exact ih
theorem ZeR (f:Str) (v:V):∀ fs:List (Str × V),f ∈ (Zc0 f v fs).map (·.1) ∧ ∀ g,g ∈ fs.map (·.1) → g ∈ (Zc0 f v fs).map (·.1)
 | []=>⟨by simp [Zc0],fun g h=>by simp at h⟩
 | (k,x) :: r=>by
  obtain ⟨i1,i2⟩:=ZeR f v r
  rw [show Zc0 f v ((k,x) :: r) = (if k = f then (k,v) :: r else (k,x) :: Zc0 f v r) from rfl]
  by_cases hk:k = f
  ·rw [if_pos hk]
   subst hk
   exact ⟨by simp,fun g h=>by simpa using h⟩
  ·rw [if_neg hk]
   refine ⟨?_,fun g h=>?_⟩
   ·rw [List.map_cons]
    exact List.mem_cons_of_mem _ i1
   ·rw [List.map_cons] at h ⊢
    rcases List.mem_cons.mp h with e | e
    ·exact List.mem_cons.mpr (.inl e)
    ·exact List.mem_cons_of_mem _ (i2 g e)
theorem Zfm (f:Str) (v:V):∀ fs:List (Str × V),(Zc0 f v fs).length ≤ fs.length + 1
 | []=>by simp [Zc0]
 | (k,x) :: r=>by
  have ih:=Zfm f v r
  rw [show Zc0 f v ((k,x) :: r) = (if k = f then (k,v) :: r else (k,x) :: Zc0 f v r) from rfl]
  by_cases hk:k = f
  ·rw [if_pos hk,List.length_cons,List.length_cons]; exact Nat.le_add_right _ _
  ·rw [if_neg hk,List.length_cons,List.length_cons]; exact lB 1 0xaa1cca0c0a1c001 T1 ih
theorem Zdr.some_of {v:V} {o:Option Value} (r:Zdr (some v) o):∃ u,o = some u ∧ RelV v u:=by
 cases o with
 | none=>exact (show False from r).elim
 | some u=>exact ⟨u,rfl,r⟩
theorem Zdr.none_of {o:Option Value} (r:Zdr none o):o = none:=by
 cases o with
 | none=>rfl
 | some u=>exact (show False from r).elim
theorem Zlc {v:V} {u:Value} (r:RelV v u):PySem.W.handedIn u = true:=by
 cases v with
 | non=>cases (show u = Value.none from r); rfl
 | bl b=>cases (show u = Value.bool b from r); rfl
 | int i=>obtain ⟨t,e⟩:=(show ∃ t,u = Value.int i t from r); cases e; rfl
 | str x=>obtain ⟨t,e⟩:=(show ∃ t,u = Value.str x t from r); cases e; rfl
 | byt b=>obtain ⟨t,e⟩:=(show ∃ t,u = Value.bytes b t from r); cases e; rfl
 | flt b=>obtain ⟨t,e⟩:=(show ∃ t,u = Value.float b t from r); cases e; rfl
 | ref a=>cases (show u = Value.ref a from r); rfl
 | ty n=>cases (show u = Value.type n from r); rfl
section
variable {P:Program} {w:World} {H H':Hp} {h h':Heap} {a C dx:Addr} {fs fs':List (Str × V)}
theorem Zfz (hok:HOk P w H h) (e:H a = some (.ins C dx fs)):∃ mA,Zjy h a dx C mA ∧ (∀ f,Zdr (fs.lookup f) (mA f)) ∧ PySem.Within mA (fs.map (·.1)) ∧ fs.length ≤ 1000 ∧ H dx = some (.own a):=by
 obtain ⟨d,z,ne,ob,mA,n,r,q⟩:=(show ZaV P w H h a (.ins C dx fs) from hok a _ e)
 exact ⟨mA,⟨ob,n,ne⟩,r,q,z,d⟩
end
structure Cls (K:PySem.W.Frag) (C:Addr):Prop where
 pg:PySem.W.plainGet K C Str.empty = true
 hd:PySem.W.hasDictIn K C = true
 po:PySem.W.plainOver K C = true
 sa:PySem.W.findIn K (.ref C) "__setattr__" = some (some (.builtin "object.__setattr__"))
theorem Cls.get {K:PySem.W.Frag} {C:Addr} (c:Cls K C) (f:Str):PySem.W.plainGet K C f = true:=c.pg
def Zb2 (K:PySem.W.Frag) (C:Addr) (f:Str):Prop:=PySem.W.findIn K (.ref C) f = some none
theorem Zb2.taker {K:PySem.W.Frag} {C:Addr} {f:Str} (n:Zb2 K C f):PySem.W.takerIn K C f = some none:=by
 unfold PySem.W.takerIn
 rw [show PySem.W.findIn K (.ref C) f = some none from n]
 rfl
structure Meth (K:PySem.W.Frag) (C:Addr) (m:Str) (f:Addr):Prop where
 at_:PySem.W.findIn K (.ref C) m = some (some (.ref f))
 fn:PySem.W.isFn K (.ref f) = true
 kp:PySem.W.keepIn K (.ref f) = true
section
variable {X:Cx} {pins:List (Addr × Obj)} {σ:St} {H:Hp} {s:Shared} {a C dx:Addr} {fs:List (Str × V)} {f:Str} {v:V} {A:Around} {E:Value → Shared → Prop}
theorem Zi9 {b:Bool} {Q:Value → Shared → Prop} (I:Inv X pins σ H s) (e:H a = some (.ins C dx fs)) (c:Cls X.K C) (n:Zb2 X.K C f) (l:fs.lookup f = some v)
  (h:∀ u s',Inv X pins σ H s' → RelV v u → Q u s'):wpAny (model X.prog X.w) A (getAttr (.ref a) f b) Q E s:=by
 obtain ⟨mA,O,r,_,_,_⟩:=Zfz I.hok e
 obtain ⟨u,hu,ru⟩:=Zdr.some_of (v:=v) (o:=mA f) (by rw [← l]; exact r f)
 exact ZnS I.kIn O (c.get f) c.hd n hu (Zlc ru) (h u _ (I.tok _) ru)
theorem Zjs {m:Str} {g:Addr} {pl:Sem Bool} {Q:Value × List Value → Shared → Prop} (I:Inv X pins σ H s) (e:H a = some (.ins C dx fs)) (c:Cls X.K C) (k:Meth X.K C m g) (l:fs.lookup m = none)
  (h:Q (.ref g,[.ref a]) s):wpAny (model X.prog X.w) A (getMethod (.ref a) m pl) Q E s:=by
 obtain ⟨mA,O,r,_,_,_⟩:=Zfz I.hok e
 have hn:mA m = none:=Zdr.none_of (by rw [← l]; exact r m)
 exact Zlx I.kIn O (c.get m) k.at_ k.fn hn h
theorem ZjJ {y:V} {u:Value} {Q:Unit → Shared → Prop} (I:Inv X pins σ H s) (e:H a = some (.ins C dx fs)) (c:Cls X.K C) (n:Zb2 X.K C f) (hl:fs.length < 1000) (ry:RelV y u)
  (h:∀ s',Inv X pins σ (upd H a (.ins C dx (Zc0 f y fs))) s' → Q () s'):wpAny (model X.prog X.w) A (setAttr (.ref a) f u) Q E s:=by
 obtain ⟨mA,O,r,wi,_,ho⟩:=Zfz I.hok e
 have hz:(fs.map (·.1)).length ≤ sizeLine:=by rw [List.length_map,sizeLine_eq]; exact lA 1 0x10000007b003e83b011 T1 hl
 refine Zn7 I.kIn O c.sa c.po n.taker c.hd wi hz fun h' O' sb=>h _ ?_
 have hd:∃ o,h'.get? dx = some o:=let ⟨o,_,_,e',_⟩:=O'.ns; ⟨o,e'⟩
 refine I.write (x:=a) (e:=dx) (by rw [e]; exact True.intro) (.inr ho) (fun b q hb z=>(sb.2 b hb).trans z) hd ?_
 refine ⟨by rw [Zay O.ne]; exact ho,?_,O.ne,O'.obj,_,O'.ns,fun g=>?_,fun g hg=>?_⟩
 ·have:=Zfm f y fs; exact lB 2 0x3e83b003e83b111a1c001 T1 this hl
 ·show Zdr ((Zc0 f y fs).lookup g) (if g = f then some u else mA g)
  rw [Zfi]
  by_cases q:g = f
  ·rw [if_pos q,if_pos q]; exact ry
  ·rw [if_neg q,if_neg q]; exact r g
 ·by_cases q:g = f
  ·rw [q]; exact (ZeR f y fs).1
  ·refine (ZeR f y fs).2 g (wi g fun z=>hg ?_)
   show (if g = f then some u else mA g) = none
   rw [if_neg q]; exact z
theorem Inv.made (I:Inv X pins σ H s):Inv X pins σ (upd (upd H s.heap.objs.size (.own (s.heap.objs.size + 1))) (s.heap.objs.size + 1) (.ins C s.heap.objs.size []))
  { s with heap:=(s.heap.push PySem.W.emptyDict).push (PySem.W.instObj C s.heap.objs.size) }:=by
 have e1:(s.heap.push PySem.W.emptyDict).get? s.heap.objs.size = some PySem.W.emptyDict:=Heap.get?_push_size s.heap rfl
 have e2:((s.heap.push PySem.W.emptyDict).push (PySem.W.instObj C s.heap.objs.size)).get? (s.heap.objs.size + 1) = some (PySem.W.instObj C s.heap.objs.size):=by
  have:=Heap.get?_push_size (s.heap.push PySem.W.emptyDict) (o:=PySem.W.instObj C s.heap.objs.size) rfl
  rwa [Heap.size_push] at this
 have e3:(s.heap.push PySem.W.emptyDict).Ns s.heap.objs.size (fun _=>none):=⟨PySem.W.emptyDict,#[],_,e1,rfl,(fun e he=>absurd he (by simp)),fun _=>rfl⟩
 have I1:=I.laid (a:=s.heap.objs.size) (o:=.own (s.heap.objs.size + 1)) (h':=s.heap.push PySem.W.emptyDict) (t':=s.toks) (fun b u q=>Heap.get?_push_of_some _ q) (Nat.le_refl _) ⟨_,e1⟩
 refine I1.laid (a:=s.heap.objs.size + 1) (o:=.ins C s.heap.objs.size []) (t':=s.toks) (fun b u q=>Heap.get?_push_of_some _ q) (Nat.le_of_eq (Heap.size_push _ _)) ?_
 have ne:s.heap.objs.size ≠ s.heap.objs.size + 1:=Nat.ne_of_lt (Nat.lt_succ_self _)
 refine ⟨by rw [Zay ne,Zbw],Nat.zero_le _,ne,e2,fun _=>none,(Heap.Ns1.of_empty e3).at fun o q=>Heap.get?_push_of_some _ q,fun _=>True.intro,fun y hy=>absurd rfl hy⟩
theorem Znv {prog:Program} {w:World} {env:Env} {e:Expr} {f:Str} {pos:Pos} {s:Shared} {Q:Value → Shared → Prop} (hb:attributeBase e f env (eval e env) = eval e env)
  (h:wpAny (model prog w) A (eval e env) (fun o s₁=>wpAny (model prog w) A (getAttr o f true) Q E s₁) E s):wpAny (model prog w) A (eval (.Attribute e f pos) env) Q E s:=
 Attribute_any_ h (by rw [arm_eval_Attribute,hb])
end
def Zt2 (K:PySem.W.Frag) (ta:TE) (f:Str):TE:=fun σ H Q=>ta σ H fun x H1=>∃ a C dx fs v,x = .ref a ∧ H1 a = some (.ins C dx fs) ∧ Cls K C ∧ Zb2 K C f ∧ fs.lookup f = some v ∧ Q v H1
def ZtT (K:PySem.W.Frag) (ta tv:TE) (f:Str):TS:=fun D σ H=>tv σ H fun y H1=>ta σ H1 fun x H2=>∃ a C dx fs,x = .ref a ∧ H2 a = some (.ins C dx fs) ∧ Cls K C ∧ Zb2 K C f ∧ fs.length < 1000 ∧
 D.nx σ (upd H2 a (.ins C dx (Zc0 f y fs)))
section
variable {X:Cx} {o e value:Expr} {f:Str} {pos pos' tpos:Pos} {ta tv:TE}
theorem ZqA (he:PE X e ta) (hb:attributeBase e f X.env (eval e X.env) = eval e X.env):PE X (.Attribute e f pos) (Zt2 X.K ta f):=by
 intro pins s σ H Q I h
 refine Znv hb (thn (he pins s σ H _ I h) fun u s1 zz1=>?_)
 obtain ⟨x,H1,I1,rx,a,C,dx,fs,v,ex,ea,c,n,l,q⟩:=zz1
 subst ex
 obtain rfl:u = Value.ref a:=rx
 exact Zi9 I1 ea c n l fun u' s2 I2 ru=>⟨v,H1,I2,ru,q⟩
theorem ZqE (ha:PE X o ta) (hv:PE X value tv) (hs:swapsWith value (some (.Attribute o f pos')) pos.line X.env = pure false):PS X (.Assign [.Attribute o f pos'] value pos) (ZtT X.K ta tv f):=by
 intro pins s σ H D I h
 refine plainObj_wpAny_Assign_Attribute (thn (hv pins s σ H _ I h) fun u s1 ⟨y,H1,I1,ry,q⟩=>thn (ha pins s1 σ H1 _ I1 q) fun ov s2 zz1=>?_) hs
 obtain ⟨x,H2,I2,rx,a,C,dx,fs,ex,ea,c,n,l,q2⟩:=zz1
 subst ex
 obtain rfl:ov = Value.ref a:=rx
 exact ZjJ I2 ea c n l ry fun s3 I3=>⟨σ,_,I3,q2⟩
end
section
variable {X:Cx} {pins:List (Addr × Obj)} {σ:St} {H:Hp} {s:Shared} {A:Around} {E:Value → Shared → Prop} {Q:Value → Shared → Prop} {c:Value} {b:Bool}
inductive Zfr (K:PySem.W.Frag) (H:Hp):V → Value → Prop where
 | non:Zfr K H .non (.type "NoneType")
 | bl (x:Bool):Zfr K H (.bl x) (.type "bool")
 | int (i:Int):Zfr K H (.int i) (.type "int")
 | str (x:Str):Zfr K H (.str x) (.type "str")
 | flt (x:UInt64):Zfr K H (.flt x) (.type "float")
 | lst {a:Addr} {xs:List V} (e:H a = some (.lst xs)):Zfr K H (.ref a) (.type "list")
 | frz {a:Addr} {o:Obj} {xs:List V} (e:H a = some (.frz o (.lst xs))):Zfr K H (.ref a) (.type "list")
 | tup {a:Addr} {xs:List V} (e:H a = some (.tup xs)):Zfr K H (.ref a) (.type "tuple")
 | dK {a:Addr} {kvs:List (Key × V)} (e:H a = some (.dK kvs)):Zfr K H (.ref a) (.type "dict")
 | dT {a:Addr} {kvs:List (List Key × V)} (e:H a = some (.dT kvs)):Zfr K H (.ref a) (.type "dict")
 | ins {a C dx:Addr} {fs:List (Str × V)} (e:H a = some (.ins C dx fs)) (cl:Cls K C) (ha:PySem.W.findIn K (.ref C) "__class__" = some (some (.builtin "object.__class__")))
   (hn:PySem.W.specialIn K (.builtin "object.__class__") "__get__" = some (some (.builtin "getset_descriptor.__get__"))) (htk:PySem.W.takesIn K (.builtin "object.__class__") = some true)
   (hm:PySem.W.mroIn K C (.type "object") = some true):Zfr K H (.ref a) (.ref C)
theorem Zcy {x:V} {u t:Value} (I:Inv X pins σ H s) (rx:RelV x u) (ty:Zfr X.K H x t) (e:PySem.W.kitOne X.K t c = some b) (h:∀ tk,Q (.bool b) { s with toks:=tk }):
  wpAny (model X.prog X.w) A (call (.builtin "isinstance") [u,c]) Q E s:=by
 cases ty with
 | non=>cases (show u = Value.none from rx); exact PySem.W.kia_one PySem.W.kitx_none I.kIn True.intro e (fun z=>nomatch z) h
 | bl y=>cases (show u = Value.bool y from rx); exact PySem.W.kia_one PySem.W.kitx_bool I.kIn True.intro e (fun z=>nomatch z) h
 | int i=>obtain ⟨t,q⟩:=(show ∃ t,u = Value.int i t from rx); cases q; exact PySem.W.kia_one PySem.W.kitx_int I.kIn True.intro e (fun z=>nomatch z) h
 | str y=>obtain ⟨t,q⟩:=(show ∃ t,u = Value.str y t from rx); cases q; exact PySem.W.kia_one PySem.W.kitx_str I.kIn True.intro e (fun z=>nomatch z) h
 | flt y=>obtain ⟨t,q⟩:=(show ∃ t,u = Value.float y t from rx); cases q; exact PySem.W.kia_one PySem.W.kitx_float I.kIn True.intro e (fun z=>nomatch z) h
 | @lst a xs ea=>
  cases (show u = Value.ref a from rx)
  obtain ⟨_,_,n,_,h1⟩:=(show ZaV X.prog X.w H s.heap a (.lst xs) from I.hok a _ ea)
  exact PySem.W.kia_one PySem.W.kitx_list I.kIn ⟨_,h1,rfl⟩ e (fun z=>nomatch z) h
 | @frz a ob xs ea=>
  cases (show u = Value.ref a from rx)
  obtain ⟨_,_,_,n,_,h1⟩:=(show ZaV X.prog X.w H s.heap a (.frz ob (.lst xs)) from I.hok a _ ea)
  exact PySem.W.kia_one PySem.W.kitx_list I.kIn ⟨_,h1,rfl⟩ e (fun z=>nomatch z) h
 | @tup a xs ea=>
  cases (show u = Value.ref a from rx)
  obtain ⟨_,_,_,p⟩:=(show ZaV X.prog X.w H s.heap a (.tup xs) from I.hok a _ ea)
  obtain ⟨o,h1,h2,_⟩:=p
  exact PySem.W.kia_one PySem.W.kitx_tuple I.kIn ⟨o,h1,h2.1⟩ e (fun z=>nomatch z) h
 | @dK a kvs ea=>
  cases (show u = Value.ref a from rx)
  obtain ⟨_,_,vs,_,p⟩:=(show ZaV X.prog X.w H s.heap a (.dK kvs) from I.hok a _ ea)
  obtain ⟨o,es,ep,h1,h2,_⟩:=p
  exact PySem.W.kia_one PySem.W.kitx_dict I.kIn ⟨o,h1,h2.1⟩ e (fun z=>nomatch z) h
 | @dT a kvs ea=>
  cases (show u = Value.ref a from rx)
  obtain ⟨_,_,xs,_,o,es,ep,h1,h2,_⟩:=(show ZaV X.prog X.w H s.heap a (.dT kvs) from I.hok a _ ea)
  exact PySem.W.kia_one PySem.W.kitx_dict I.kIn ⟨o,h1,h2.1⟩ e (fun z=>nomatch z) h
 | @ins a C dx fs ea cl ha hn htk hm=>
  cases (show u = Value.ref a from rx)
  obtain ⟨mA,O,_⟩:=Zfz I.hok ea
  obtain ⟨od,J,_⟩:=O.look
  exact PySem.W.kia_one (PySem.W.kitx_own (cl.get _) cl.hd ha hn htk hm) I.kIn J e (fun z=>nomatch z) h
end
end L2
namespace L2
open PySem PySem.Spec PyProof.Rows
structure Za4 (k:Nat) (A:Around):Prop where
 hd:A.handled = none
 dp:A.depth + 3 * k + 5 < recursionLimit
 un:A.units + 16 * k + 200 < cLine
theorem Za4.mono {j k:Nat} {A:Around} (r:Za4 k A) (h:j ≤ k):Za4 j A:=⟨r.hd,by have:=r.dp; exact lD 2 0x251b303d0cc11303251b103d0cc11 T1 this h,by have:=r.un; omega⟩
theorem Za4.deeper {k:Nat} {A:Around} (r:Za4 (k + 1) A) (env:Env):Za4 k (A.deeper env):=
 ⟨r.hd,by have:=r.dp; show A.depth + 1 + 3 * k + 5 < _; exact lC 1 0x251b103da0ccc1251ba1c03d0cc11 T1 this,by have:=r.un; show A.units + 3 + 16 * k + 200 < _; exact lC 1 0x2c82b110d31b0ccc12c82ba1c10d0cc11 T1 this⟩
theorem Za4.in1 {k:Nat} {A:Around} (r:Za4 (k + 1) A):Za4 k A.in1:=
 ⟨r.hd,by have:=r.dp; show A.depth + 3 * k + 5 < _; exact lC 1 0x251b103d0cc1251ba1c03d0cc11 T1 this,by have:=r.un; show A.units + 1 + 16 * k + 200 < _; exact lC 1 0x2c82b110da0ccc12c82ba1c10d0cc11 T1 this⟩
theorem Zjx {A:Around} {C:Addr} {us:List Value} {kw:List (Str × Value)}:(A.under (.builtin "type.__call__" ⟨.ref C :: us,kw⟩)).depth = A.depth + 1:=by
 first | rfl | simp [Around.under,Code.weight,Code.isCreation,Code.isGuard,Code.isCaller,Code.frames,Code.isFrame,guardIds]
theorem ZjO {A:Around} {C:Addr} {us:List Value} {kw:List (Str × Value)}:(A.under (.builtin "type.__call__" ⟨.ref C :: us,kw⟩)).units = A.units + 1:=by
 first | rfl | simp [Around.under,Code.cUnits,Code.frames,Code.isFrame]
theorem Za4.make {k:Nat} {A:Around} (r:Za4 (k + 1) A) (C:Addr) (us:List Value) (kw:List (Str × Value)):Za4 k (A.under (.builtin "type.__call__" ⟨.ref C :: us,kw⟩)):=
 ⟨r.hd,by have:=r.dp; rw [Zjx]; exact lC 1 0x251b103da0ccc1251ba1c03d0cc11 T1 this,by have:=r.un; rw [ZjO]; exact lC 1 0x2c82b110da0ccc12c82ba1c10d0cc11 T1 this⟩
theorem Za4.depth {k:Nat} {A:Around} (r:Za4 k A):A.depth < recursionLimit:=by have:=r.dp; exact lC 1 0x201251b103d0cc11 T1 this
theorem Za4.units {k:Nat} {A:Around} (r:Za4 k A):A.units + 64 < cLine:=by have:=r.un; exact lC 1 0x2402b0c12c82b110d0cc11 T1 this
def ZtZ:TA:=fun _ H Q=>Q [] H
def Zsm (ta:TE) (tr:TA):TA:=fun σ H Q=>ta σ H fun x H1=>tr σ H1 fun xs H2=>Q (x :: xs) H2
section
variable {X:Cx} {e:Expr} {es:List Expr} {te:TE} {t:TA} {pos:Pos}
theorem ZlP:PA X [] ZtZ:=fun _ _ _ _ H Q I h=>Calls.spliced_nil ⟨[],H,I,.nil,h⟩
theorem Zhq (ha:PE X e te) (hr:PA X es t) (hs:starEach (e :: es) X.env = (false,eval e X.env) :: starEach es X.env:=by rfl):PA X (e :: es) (Zsm te t):=by
 intro pos pins s σ H Q I h
 rw [hs]
 show wpAny _ _ (spliced ((false,eval e X.env) :: backTo pos (starEach es X.env))) _ _ s
 refine Calls.spliced_cons (thn (ha pins s σ H _ I h) fun u s1 zz1=>?_)
 obtain ⟨x,H1,I1,r1,q1⟩:=zz1
 exact thn (hr pos pins s1 σ H1 _ I1 q1) fun us s2 ⟨xs,H2,I2,r2,q2⟩=>⟨x :: xs,H2,I2,.cons r1 r2,q2⟩
def Ztz (t:TA):TE:=fun σ H Q=>t σ H fun xs H1=>xs.length ≤ sizeLine ∧ ∀ p,H1 p = none → Q (.ref p) (upd H1 p (.tup xs))
def ZtN (t:TA):TE:=fun σ H Q=>t σ H fun xs H1=>xs.length ≤ sizeLine ∧ ∀ p,H1 p = none → Q (.ref p) (upd H1 p (.lst xs))
theorem ZpX {x1} (h:PA X es t):PE X (.Tuple es x1 pos) (Ztz t):=by
 intro pins s σ H Q I hq
 refine wpAny_Tuple_spliced (thn (h pos pins s σ H _ I hq) fun us s1 ⟨xs,H1,I1,r,z,q⟩=>⟨by rw [← r.length]; exact z,?_⟩)
 have hf:H1 s1.heap.objs.size = none:=I1.hok.fresh (Nat.le_refl _)
 refine ⟨.ref s1.heap.objs.size,upd H1 s1.heap.objs.size (.tup xs),I1.laid (t':=s1.toks) (fun b u e=>Heap.get?_push_of_some _ e) (Nat.le_refl _) ?_,rfl,q _ hf⟩
 exact ⟨z,us,r,⟨_,Heap.get?_push_size _ rfl,⟨rfl,rfl⟩,_,rfl⟩⟩
theorem Zp5 (h:PA X es t):PE X (.List es pos) (ZtN t):=by
 intro pins s σ H Q I hq
 refine wpAny_List_spliced (thn (h pos pins s σ H _ I hq) fun us s1 ⟨xs,H1,I1,r,z,q⟩=>⟨by rw [← r.length]; exact z,?_⟩)
 have hf:H1 s1.heap.objs.size = none:=I1.hok.fresh (Nat.le_refl _)
 refine ⟨.ref s1.heap.objs.size,upd H1 s1.heap.objs.size (.lst xs),I1.laid (t':=s1.toks) (fun b u e=>Heap.get?_push_of_some _ e) (Nat.le_refl _) ?_,rfl,q _ hf⟩
 exact ⟨z,us,0,r,Heap.get?_push_size _ rfl⟩
end
noncomputable abbrev Sp:=List V → Hp → VK → XK → Prop
noncomputable abbrev CXT:=List Env → Hp → Shared → XK → Value → Shared → Prop
structure Zgx (P:Program) (w:World) (K:PySem.W.Frag) (mg:Str → Option Value) (base:Heap) (A:Around) (outer:List Env) (s:Shared) (H:Hp):Prop where
 frames:A.frames = some outer
 mod:Mod K mg base
 bs:∀ b o,base.get? b = some o → s.heap.get? b = some o ∧ H b = none
 bsz:base.objs.size ≤ s.heap.objs.size
 funs:s.heap.FunFrames base outer
 frf:∀ b ∈ frs outer,H b = none
 hok:HOk P w H s.heap
 bare:AllBare s.gens
def CE (outer:List Env) (P:Program) (w:World) (H:Hp) (s:Shared) (Q:VK) (u:Value) (s':Shared):Prop:=
 ∃ v H',s'.os = s.os ∧ AllBare s'.gens ∧ Un (frs outer) [] H H' s.heap s'.heap ∧ HOk P w H' s'.heap ∧ RelV v u ∧ Q v H'
def CR (CX:CXT) (outer:List Env) (P:Program) (w:World) (H:Hp) (s:Shared) (Q:VK) (E:XK) (r:Result) (s':Shared):Prop:=
 match r with
 | .ok (.ret u)=>CE outer P w H s Q u s'
 | .ok _=>False
 | .error e=>CX outer H s E e s'
structure Zcu (P:Program) (w:World) (K:PySem.W.Frag) (mg:Str → Option Value) (base:Heap) (CX:CXT) (k:Nat) (f:Addr) (fd:FuncData) (ps:List Str) (sp:Sp):Prop where
 len:∀ vs H Q E,sp vs H Q E → vs.length = ps.length
 run:∀ (A:Around) (outer:List Env) (s:Shared) (H:Hp) (args:Args) (us:List Value) (vs:List V) (Q:VK) (E:XK),Za4 k A → Zgx P w K mg base A outer s H → BindsTo s fd args (ps.zip us) → Vals vs us → sp vs H Q E →
  codeAny (model P w) A (.call (.ref f) args) (CR CX outer P w H s Q E) s
theorem Zcu.mono {P:Program} {w:World} {K:PySem.W.Frag} {mg:Str → Option Value} {base:Heap} {CX:CXT} {j k:Nat} {f:Addr} {fd:FuncData} {ps:List Str} {sp:Sp} (F:Zcu P w K mg base CX j f fd ps sp) (h:j ≤ k):
  Zcu P w K mg base CX k f fd ps sp:=⟨F.len,fun A outer s H args us vs Q E hr=>F.run A outer s H args us vs Q E (hr.mono h)⟩
theorem Zcu.imp {P:Program} {w:World} {K:PySem.W.Frag} {mg:Str → Option Value} {base:Heap} {CX:CXT} {k:Nat} {f:Addr} {fd:FuncData} {ps:List Str} {sp sp':Sp} (F:Zcu P w K mg base CX k f fd ps sp)
  (h:∀ vs H Q E,sp' vs H Q E → sp vs H Q E):Zcu P w K mg base CX k f fd ps sp':=
 ⟨fun vs H Q E q=>F.len vs H Q E (h _ _ _ _ q),fun A outer s H args us vs Q E hr he hb hv hs=>F.run A outer s H args us vs Q E hr he hb hv (h _ _ _ _ hs)⟩
theorem Zgx.make {P:Program} {w:World} {K:PySem.W.Frag} {mg:Str → Option Value} {base:Heap} {A:Around} {outer:List Env} {s:Shared} {H:Hp} (e:Zgx P w K mg base A outer s H) (C:Addr) (us:List Value) (kw:List (Str × Value)):
  Zgx P w K mg base (A.under (.builtin "type.__call__" ⟨.ref C :: us,kw⟩)) outer s H:=⟨by first | exact e.frames | (simpa [Around.under,Code.envs,Code.isFrame,pushEnvs] using e.frames),e.mod,e.bs,e.bsz,e.funs,e.frf,e.hok,e.bare⟩
theorem Zgx.in1 {P:Program} {w:World} {K:PySem.W.Frag} {mg:Str → Option Value} {base:Heap} {A:Around} {outer:List Env} {s:Shared} {H:Hp} (e:Zgx P w K mg base A outer s H):
  Zgx P w K mg base A.in1 outer s H:=⟨e.frames,e.mod,e.bs,e.bsz,e.funs,e.frf,e.hok,e.bare⟩
section
variable {X:Cx} {pins:List (Addr × Obj)} {σ:St} {H:Hp} {s s':Shared}
theorem Inv.env0 (I:Inv X pins σ H s):Zgx X.prog X.w X.K X.mg X.base X.A X.stack s H:=
 ⟨I.ok.frames,I.ok.mod,I.bs,Nat.le_trans I.ok.bsz I.sz,I.stack,I.stkFree,I.hok,I.bare⟩
theorem Inv.after {Q:VK} {u:Value} (I:Inv X pins σ H s) (h:CE X.stack X.prog X.w H s Q u s'):EP X pins σ Q u s':=by
 obtain ⟨v,H',os,bare,un,hok,r,q⟩:=h
 obtain ⟨hh,g,d,t,os'⟩:=s'
 obtain rfl:os' = s.os:=os
 exact ⟨v,H',I.call (h':=hh) (g':=g) (d':=d) (t':=t) (ch:=[]) un hok bare (fun b z=>absurd z (by simp)),r,q⟩
end
def ZrG (sp:Sp) (dvs:List V) (E:XK) (t:TA):TE:=fun σ H Q=>t σ H fun vs H1=>sp (vs ++ dvs) H1 Q E
def Zr7 (C:Addr) (m:Str) (sp:Sp) (dvs:List V) (E:XK) (ta:TE) (t:TA):TE:=fun σ H Q=>ta σ H fun x H1=>∃ a dx fs,x = .ref a ∧ H1 a = some (.ins C dx fs) ∧ fs.lookup m = none ∧
 t σ H1 fun vs H2=>sp (x :: (vs ++ dvs)) H2 Q E
def Zrc (C:Addr) (sp:Sp) (dvs:List V) (E:XK) (t:TA):TE:=fun σ H Q=>t σ H fun vs H1=>∀ x dx,H1 x = none → H1 dx = none → dx ≠ x →
 sp (.ref x :: (vs ++ dvs)) (upd (upd H1 dx (.own x)) x (.ins C dx [])) (fun v H2=>v = .non ∧ Q (.ref x) H2) E
def Binds (K:PySem.W.Frag) (fd:FuncData) (ps:List Str) (ds:List Value):Prop:=
 ∀ (s:Shared) (us:List Value),K.In s.heap → (us ++ ds).length = ps.length → BindsTo s fd ⟨us,[]⟩ (ps.zip (us ++ ds))
theorem Binds.all {K:PySem.W.Frag} {fd:FuncData} {ps:List Str} (h:∀ us:List Value,us.length = ps.length → bindArgs fd ⟨us,[]⟩ = pure (ps.zip us)):Binds K fd ps []:=fun s us _ hl=>by
 rw [List.append_nil] at hl ⊢
 exact .of_eq (h us hl)
def Ze9 (CX:CXT) (X:Cx) (E:XK):Prop:=∀ (pins:List (Addr × Obj)) (σ:St) (H:Hp) (s:Shared) (e:Value) (s':Shared),Inv X pins σ H s → CX X.stack H s E e s' → X.xe e s'
section
variable {X:Cx} {CX:CXT} {k:Nat} {f C:Addr} {fd:FuncData} {ps:List Str} {sp:Sp} {dvs:List V} {ds:List Value} {E:XK} {x m:Str} {p pos apos:Pos} {e o:Expr} {es:List Expr} {ta:TE} {t:TA}
theorem ZmC {pins:List (Addr × Obj)} {σ:St} {H:Hp} {s:Shared} {Q:VK} {us:List Value} {vs:List V} (F:Zcu X.prog X.w X.K X.mg X.base CX k f fd ps sp) (hr:Za4 k X.A) (hb:Binds X.K fd ps ds) (hd:Vals dvs ds) (hx:Ze9 CX X E)
  (I:Inv X pins σ H s) (r:Vals vs us) (h:sp (vs ++ dvs) H Q E):wpAny (model X.prog X.w) X.A (call (.ref f) us) (EP X pins σ Q) X.xe s:=by
 have r2:Vals (vs ++ dvs) (us ++ ds):=r.append hd
 have hl:(us ++ ds).length = ps.length:=by rw [← r2.length]; exact F.len _ _ _ _ h
 refine wpAny_call (codeAny_mono (F.run X.A X.stack s H ⟨us,[]⟩ (us ++ ds) (vs ++ dvs) Q E hr I.env0 (hb s us I.kIn hl) r2 h) fun r s' hq=>?_)
 cases r with
 | error e=>exact hx pins σ H s e s' I hq
 | ok fl=>
  cases fl with
  | ret u=>exact I.after hq
  | next=>exact False.elim hq
  | brk=>exact False.elim hq
  | cont=>exact False.elim hq
theorem Zkk (F:Zcu X.prog X.w X.K X.mg X.base CX k f fd ps sp) (hr:Za4 k X.A) (hg:Gl X x) (hm:X.mg x = some (.ref f)) (hk:PySem.W.keepIn X.K (.ref f) = true) (hb:Binds X.K fd ps ds) (hd:Vals dvs ds) (hx:Ze9 CX X E)
  (ha:PA X (e :: es) t) (hdb:(x == ("__debug__":Str)) = false:=by decide) (he:starEach (e :: es) X.env = (false,eval e X.env) :: starEach es X.env:=by rfl) (hpl:(backTo pos (starEach es X.env)).any (·.1) = false:=by rfl):
  PE X (.Call (.Name x p) (e :: es) [] pos) (ZrG sp dvs E t):=by
 intro pins s σ H Q I h
 refine wpAny_Call_Name_kw (Zhd I hg hm ?_ hdb)
 refine PySem.W.callWith_K (h₀:=X.base) I.ok.mod.kin hk (thn (ha pos pins s σ H _ I h) fun us s1 ⟨vs,H1,I1,r,q⟩=>⟨I1.kIn,?_⟩) he hpl
 exact ZmC F hr hb hd hx I1 r q
theorem ZnL {pl:Sem Bool} (he:PE X o ta) (c:Cls X.K C) (hm:Meth X.K C m f) (F:Zcu X.prog X.w X.K X.mg X.base CX k f fd ps sp) (hr:Za4 k X.A) (hb:Binds X.K fd ps ds) (hd:Vals dvs ds) (hx:Ze9 CX X E) (ha:PA X (e :: es) t)
  (hst:starEach (e :: es) X.env = (false,eval e X.env) :: starEach es X.env:=by rfl) (hpl:(backTo pos (starEach es X.env)).any (·.1) = false:=by rfl)
  (ht:eval (.Call (.Attribute o m apos) (e :: es) [] pos) X.env = (do
   let ov ← eval o X.env
   standAt apos.atName
   let (f,first) ← holding [ov] (getMethod ov m pl)
   callWith pos f first (backTo pos (starEach (e :: es) X.env)) (backToKw pos (keywordEach [] X.env))):=by rfl):
  PE X (.Call (.Attribute o m apos) (e :: es) [] pos) (Zr7 C m sp dvs E ta t):=by
 intro pins s σ H Q I h
 refine PySem.W.methodCall_KW (pl:=pl) (thn (he pins s σ H _ I h) fun u s1 zz1=>?_) ht
 obtain ⟨x,H1,I1,rx,a,dx,fs,ex,ea,l,q⟩:=zz1
 subst ex
 obtain rfl:u = Value.ref a:=rx
 refine Zjs I1 ea c hm l ?_
 refine PySem.W.callWith_K (first:=[.ref a]) (h₀:=X.base) I.ok.mod.kin hm.kp (thn (ha pos pins s1 σ H1 _ I1 q) fun us s2 ⟨vs,H2,I2,r,q2⟩=>⟨I2.kIn,?_⟩) hst hpl
 exact ZmC (us:=.ref a :: us) (vs:=.ref a :: vs) F hr hb hd hx I2 (.cons rfl r) q2
structure Mk (K:PySem.W.Frag) (C f:Addr):Prop where
 makes:PySem.W.makesIn K C = true
 init:PySem.W.findIn K (.ref C) "__init__" = some (some (.ref f))
 fn:PySem.W.isFn K (.ref f) = true
 kp:PySem.W.keepIn K (.ref C) = true
theorem Znb {pins:List (Addr × Obj)} {σ:St} {H:Hp} {s:Shared} {Q:VK} {us:List Value} {vs:List V} (M:Mk X.K C f) (F:Zcu X.prog X.w X.K X.mg X.base CX k f fd ps sp) (hr:Za4 (k + 1) X.A) (hb:Binds X.K fd ps ds) (hd:Vals dvs ds)
  (hx:Ze9 CX X E) (I:Inv X pins σ H s) (r:Vals vs us)
  (h:∀ x dx,H x = none → H dx = none → dx ≠ x → sp (.ref x :: (vs ++ dvs)) (upd (upd H dx (.own x)) x (.ins C dx [])) (fun v H2=>v = .non ∧ Q (.ref x) H2) E):
  wpAny (model X.prog X.w) X.A (call (.ref C) us) (EP X pins σ Q) X.xe s:=by
 have hq:=h (s.heap.objs.size + 1) s.heap.objs.size (I.hok.fresh (Nat.le_succ _)) (I.hok.fresh (Nat.le_refl _)) (Nat.ne_of_lt (Nat.lt_succ_self _))
 have I2:=Inv.made (C:=C) I
 have r2:Vals (V.ref (s.heap.objs.size + 1) :: (vs ++ dvs)) (Value.ref (s.heap.objs.size + 1) :: (us ++ ds)):=.cons rfl (r.append hd)
 have hl:(Value.ref (s.heap.objs.size + 1) :: us ++ ds).length = ps.length:=by
  have e:=r2.length
  rw [F.len _ _ _ _ hq] at e
  exact e.symm
 refine wpAny_call (ZlG (f:=f) I.kIn M.makes M.init (beq_iff_eq.mp M.fn) (codeAny_mono (F.run _ X.stack _ _ ⟨Value.ref (s.heap.objs.size + 1) :: us,[]⟩ (Value.ref (s.heap.objs.size + 1) :: (us ++ ds)) _ _ E (hr.make C us [])
  (I2.env0.make C us []) (hb _ (Value.ref (s.heap.objs.size + 1) :: us) I2.kIn hl) r2 hq) fun r s' hq'=>?_))
 cases r with
 | error e=>exact hx pins σ _ _ e s' I2 hq'
 | ok fl=>
  cases fl with
  | ret u=>
   obtain ⟨v,H',I3,rv,ev,q3⟩:=I2.after hq'
   subst ev
   exact ⟨rv,⟨V.ref (s.heap.objs.size + 1),H',I3,rfl,q3⟩⟩
  | next=>exact False.elim hq'
  | brk=>exact False.elim hq'
  | cont=>exact False.elim hq'
theorem ZnZ (M:Mk X.K C f) (F:Zcu X.prog X.w X.K X.mg X.base CX k f fd ps sp) (hr:Za4 (k + 1) X.A) (hg:Gl X x) (hm:X.mg x = some (.ref C)) (hb:Binds X.K fd ps ds) (hd:Vals dvs ds) (hx:Ze9 CX X E)
  (ha:PA X (e :: es) t) (hdb:(x == ("__debug__":Str)) = false:=by decide) (he:starEach (e :: es) X.env = (false,eval e X.env) :: starEach es X.env:=by rfl) (hpl:(backTo pos (starEach es X.env)).any (·.1) = false:=by rfl):
  PE X (.Call (.Name x p) (e :: es) [] pos) (Zrc C sp dvs E t):=by
 intro pins s σ H Q I h
 refine wpAny_Call_Name_kw (Zhd I hg hm ?_ hdb)
 refine PySem.W.callWith_K (h₀:=X.base) I.ok.mod.kin M.kp (thn (ha pos pins s σ H _ I h) fun us s1 ⟨vs,H1,I1,r,q⟩=>⟨I1.kIn,?_⟩) he hpl
 exact Znb M F hr hb hd hx I1 r q
end
section
variable {X:Cx} {CX:CXT} {k:Nat} {f C:Addr} {fd:FuncData} {ps ks:List Str} {sp:Sp} {E:XK} {x m:Str} {p pos apos kpos:Pos} {e o:Expr} {es:List Expr} {kws:List Keyword} {te ta:TE} {t tk:TA} {nm:Option Str}
structure Zhs (K:PySem.W.Frag) (fd:FuncData) (ps ks:List Str) (g:List Value → List Value → List Value) (gV:List V → List V → List V):Prop where
 to:∀ (s:Shared) (us ws:List Value),K.In s.heap → (g us ws).length = ps.length → BindsTo s fd ⟨us,ks.zip ws⟩ (ps.zip (g us ws))
 rel:∀ {vs:List V} {us:List Value} {zs:List V} {ws:List Value},Vals vs us → Vals zs ws → Vals (gV vs zs) (g us ws)
variable {g:List Value → List Value → List Value} {gV:List V → List V → List V}
end
structure Zai (N P:List Str) (sc:Scope):Prop where
 kind:sc.kind = .function
 co:sc.isCoroutine = false
 gen:sc.isGenerator = false
 nd:N.Nodup
 pre:N.take P.length = P
 par:∀ x ∈ P,sc.names.lookup x = some .local ∨ sc.names.lookup x = some .cell
 nofree:∀ y ∈ sc.names,y.2 ≠ .free
theorem ZgM {kindOf:Str → Option NameKind} {x:Str}:∀ {binds:List (Str × Value)} {m:Str → Option Value},(∀ v,(x,v) ∉ binds) → bindL kindOf binds m x = m x
 | [],_,_=>rfl
 | (n,v) :: r,m,h=>by
  unfold bindL
  rw [ZgM fun w hw=>h w (List.mem_cons_of_mem _ hw)]
  split
  ·have:x ≠ n:=by rintro rfl; exact h v List.mem_cons_self
   simp [this]
  ·rfl
theorem ZgZ {kindOf:Str → Option NameKind} {x:Str}:∀ {binds:List (Str × Value)} {m:Str → Option Value},(∀ v,(x,v) ∉ binds) → bindC kindOf binds m x = m x
 | [],_,_=>rfl
 | (n,v) :: r,m,h=>by
  unfold bindC
  rw [ZgZ fun w hw=>h w (List.mem_cons_of_mem _ hw)]
  split
  ·rfl
  ·have:x ≠ n:=by rintro rfl; exact h v List.mem_cons_self
   simp [this]
theorem Zg0 {kindOf:Str → Option NameKind} {x:Str} {v:Value}:∀ {P:List Str} {vs:List Value} {i:Nat} {m:Str → Option Value},P.Nodup → P[i]? = some x → vs[i]? = some v → kindOf x = some .local →
  bindL kindOf (P.zip vs) m x = some v
 | [],_,_,_,_,h,_,_=>by simp at h
 | _ :: _,[],_,_,_,_,h,_=>by simp at h
 | p :: P,w :: vs,0,m,nd,h1,h2,hk=>by
  simp at h1 h2; subst h1; subst h2
  show bindL kindOf ((p,w) :: P.zip vs) m p = _
  unfold bindL
  rw [ZgM fun v hv=>(List.nodup_cons.mp nd).1 (List.of_mem_zip hv).1,if_pos hk]
  simp
 | p :: P,w :: vs,i + 1,m,nd,h1,h2,hk=>by
  show bindL kindOf ((p,w) :: P.zip vs) m x = _
  unfold bindL
  exact Zg0 (i:=i) (List.nodup_cons.mp nd).2 (by simpa using h1) (by simpa using h2) hk
theorem ZgP {kindOf:Str → Option NameKind} {x:Str} {v:Value}:∀ {P:List Str} {vs:List Value} {i:Nat} {m:Str → Option Value},P.Nodup → P[i]? = some x → vs[i]? = some v → kindOf x ≠ some .local →
  bindC kindOf (P.zip vs) m x = some v
 | [],_,_,_,_,h,_,_=>by simp at h
 | _ :: _,[],_,_,_,_,h,_=>by simp at h
 | p :: P,w :: vs,0,m,nd,h1,h2,hk=>by
  simp at h1 h2; subst h1; subst h2
  show bindC kindOf ((p,w) :: P.zip vs) m p = _
  unfold bindC
  rw [ZgZ fun v hv=>(List.nodup_cons.mp nd).1 (List.of_mem_zip hv).1,if_neg hk]
  simp
 | p :: P,w :: vs,i + 1,m,nd,h1,h2,hk=>by
  show bindC kindOf ((p,w) :: P.zip vs) m x = _
  unfold bindC
  exact ZgP (i:=i) (List.nodup_cons.mp nd).2 (by simpa using h1) (by simpa using h2) hk
noncomputable def start (N:List Str) (vs:List V):St:=vs.map some ++ List.replicate (N.length - vs.length) none
noncomputable def ZfJ (CX:CXT) (P:Program) (w:World) (K:PySem.W.Frag) (mg:Str → Option Value) (base:Heap) (N:List Str) (qual:Str) (scope:Scope) (f:Addr) (cd:Value) (A:Around) (outer:List Env) (s:Shared) (H:Hp) (E:XK):Cx where
 prog:=P
 w:=w
 K:=K
 mg:=mg
 base:=base
 A:=A.deeper (envOfC qual scope s.heap.objs.size f cd)
 N:=N
 s₀:=s
 H₀:=H
 env:=envOfC qual scope s.heap.objs.size f cd
 outer:=outer
 stack:=envOfC qual scope s.heap.objs.size f cd :: outer
 ex:=[]
 calm:=true
 fn:=fun _=>true
 pn:=[]
 xe:=fun e s'=>wpAny (model P w) (A.deeper (envOfC qual scope s.heap.objs.size f cd)) (leaving (envOfC qual scope s.heap.objs.size f cd) e) (fun _ s''=>CX outer H s E e s'') (fun e' s''=>CX outer H s E e' s'') s'
theorem ZiU {sc:Scope} {n:Nat} {x:Str} (h:sc.names.lookup x = some .cell):∃ c,(cellsFrom n sc.names []).lookup x = some c:=by
 have q:=PySem.W.cellsFrom_some sc.names n [] (.inl h)
 exact Option.isSome_iff_exists.mp q
theorem ZkX {CX:CXT} {P:Program} {w:World} {K:PySem.W.Frag} {mg:Str → Option Value} {base:Heap} {N ps:List Str} {qual:Str} {scope:Scope} {f:Addr} {cd:Value} {A:Around} {outer:List Env} {s s1:Shared} {H:Hp} {E:XK} {us:List Value} {vs:List V}
  (S:Zai N ps scope) (hd:A.handled = none) (e0:Zgx P w K mg base A outer s H) (hl:vs.length = ps.length) (r:Vals vs us)
  (x:InCallC s s.heap.objs.size (bindL (envOfC qual scope s.heap.objs.size f cd).kindOf (ps.zip us) fun _=>none) (cellsFrom (s.heap.objs.size + 1) scope.names []) (bindC (envOfC qual scope s.heap.objs.size f cd).kindOf (ps.zip us) fun _=>none) s1):
  Inv (ZfJ CX P w K mg base N qual scope f cd A outer s H E) [] (start N vs) H s1:=by
 have hpl:ps.length ≤ N.length:=by have:=congrArg List.length S.pre; rw [List.length_take] at this; omega
 obtain ⟨h1,tk,rfl,hk⟩:=x.done
 have noA:∀ b:Addr,b ∉ (ZfJ CX P w K mg base N qual scope f cd A outer s H E).ex:=fun b z=>absurd (show b ∈ ([]:List Addr) from z) (by simp)
 refine ⟨⟨e0.mod,S.kind,rfl,rfl,Nat.le_refl _,fun y z c h1 h2=>?_,fun y hy=>?_,fun y c _ h=>?_,fun _=>hd,Around.frames_deeper e0.frames,.inr ⟨rfl,rfl⟩,fun b z=>absurd z (noA b),e0.bs,e0.bsz,fun b _ _=>noA b,fun b z=>absurd z (noA b),e0.funs,e0.frf⟩,
  rfl,e0.bare,Un.kept hk,⟨_,x.toInCall.ns,fun i y v h1 h2 h3=>?_⟩,fun y c h=>⟨_,x.cell y c h⟩,e0.hok.fresh (Nat.le_refl _),fun y c h=>?_,fun p hp=>absurd (show p ∈ ([]:List (Addr × Obj)) from hp) (by simp),e0.hok.kept hk,?_⟩
 ·exact name_of_addr x.apart (PySem.mem_of_lookup h1) (PySem.mem_of_lookup h2)
 ·have hy:scope.names.lookup y = some .cell ∨ scope.names.lookup y = some .free:=hy
  rcases hy with hy | hy
  ·exact ZiU hy
  ·exact absurd rfl (S.nofree _ (PySem.mem_of_lookup hy))
 ·exact Nat.le_of_lt (x.above y c (PySem.mem_of_lookup h))
 ·have hi:i < vs.length:=by
   unfold start at h2
   by_cases hi:i < vs.length
   ·exact hi
   ·rw [List.getElem?_append_right (by simpa using hi)] at h2
    rw [List.getElem?_replicate] at h2
    split at h2 <;> cases h2
  have ha:vs[i]? = some v:=by
   unfold start at h2
   rw [List.getElem?_append_left (by simpa using hi),List.getElem?_map] at h2
   cases e:vs[i]? with
   | none=>rw [e] at h2; cases h2
   | some a=>rw [e] at h2; cases h2; rfl
  obtain ⟨u,hu,rv⟩:=r.get ha
  have hp:ps[i]? = some y:=by
   rw [← S.pre,List.getElem?_take_of_lt (by exact lC 2 2203874037777 T1 hi hl)]; exact h1
  have ndP:ps.Nodup:=by rw [← S.pre]; exact S.nd.sublist (List.take_sublist _ _)
  refine ⟨u,rv,?_⟩
  rcases S.par y (List.mem_of_getElem? hp) with k | k
  ·exact .inl ⟨k,Zg0 ndP hp hu k⟩
  ·obtain ⟨c,e⟩:=ZiU (n:=s.heap.objs.size + 1) k
   refine .inr ⟨.inl k,c,e,?_⟩
   have q:=x.cell y c e
   rw [ZgP ndP hp hu (by show scope.names.lookup y ≠ _; rw [k]; decide)] at q
   exact q
 ·exact e0.hok.fresh (Nat.le_of_lt (x.above y c (PySem.mem_of_lookup h)))
 ·unfold start
  show _ = N.length
  rw [List.length_append,List.length_map,List.length_replicate]
  exact Nat.le_antisymm (lC 1 2206541614113 T1 (Nat.sub_add_cancel (lC 2 1236986302465 T1 hpl hl))) (lC 1 1288492400641 T1 (sbA _ _))
theorem Zst {CX:CXT} {P:Program} {w:World} {K:PySem.W.Frag} {mg:Str → Option Value} {base:Heap} {k:Nat} {f:Addr} {name qual:Str} {params:Arguments} {body:List Stmt} {scope:Scope} {dV kV doc pm cdv ct oc:Value} {an od:Option Addr}
  {osl:Array (Option Value)} {N ps:List Str} {sp:Sp} (lk:K.lookup f = some ⟨oc,od,.func (PySem.W.fnOf name qual params body scope dV kV doc pm an cdv ct),osl⟩) (hcd:PySem.W.codeIn K cdv qual = true) (S:Zai N ps scope)
  (len:∀ vs H Q E,sp vs H Q E → vs.length = ps.length)
  (hbody:∀ (A:Around) (outer:List Env) (s:Shared) (H:Hp) (vs:List V) (Q:VK) (E:XK),Za4 k (A.deeper (envOfC qual scope s.heap.objs.size f cdv)) → sp vs H Q E →
   ∃ t,PSs (ZfJ CX P w K mg base N qual scope f cdv A outer s H E) body t ∧ t { nx:=fun _ H'=>Q .non H',rt:=Q } (start N vs) H):
  Zcu P w K mg base CX (k + 1) f (PySem.W.fnOf name qual params body scope dV kV doc pm an cdv ct) ps sp:=by
 refine ⟨len,fun A outer s H args us vs Q E hr e0 hb r hsp=>?_⟩
 have hl:=len _ _ _ _ hsp
 have KX:K.In s.heap:=e0.mod.kin.keeps fun b o e=>(e0.bs b o e).1
 have lim:s.heap.NoLimit:=e0.mod.nolimit.keeps fun b o e=>(e0.bs b o e).1
 have hkind:∀ y ∈ ps.zip us,scope.names.lookup y.1 = some .local ∨ (scope.names.lookup y.1 = some .cell ∧ ((cellsFrom (s.heap.objs.size + 1) scope.names []).lookup y.1).isSome = true):=fun ⟨n,v⟩ hy=>by
  rcases S.par n (List.of_mem_zip hy).1 with q | q
  ·exact .inl q
  ·exact .inr ⟨q,PySem.W.cellsFrom_some _ _ _ (.inl q)⟩
 refine codeAny_call_function hr.depth (KX _ _ lk) rfl S.co S.gen rfl (PySem.W.codeRec_of KX hcd) (hb _ _ _ _ ?_)
 refine wpAny_newFunctionEnv_cells S.kind hkind fun env he s1 x=>?_
 subst he
 refine ⟨lim.keeps x.toInCall.keep,codeAny_func ?_⟩
 obtain ⟨t,ht,hq⟩:=hbody A outer s H vs Q E (hr.deeper _) hsp
 have I:Inv (ZfJ CX P w K mg base N qual scope f cdv A outer s H E) [] (start N vs) H s1:=ZkX S hr.hd e0 hl r x
 refine wpAny_mono (ht [] s1 (start N vs) H _ I hq) (fun fl s' hs=>?_) fun e s' hs=>hs
 have fin:∀ {σ':St} {H':Hp} {v:V} {u:Value},Inv (ZfJ CX P w K mg base N qual scope f cdv A outer s H E) [] σ' H' s' → RelV v u → Q v H' → CE outer P w H s Q u s':=
  fun {σ' H' v u} J rv q=>⟨v,H',J.os,J.bare,J.base,J.hok,rv,q⟩
 cases fl with
 | ret u=>
  obtain ⟨v,σ',H',J,rv,q⟩:=hs
  exact fin J rv q
 | next=>
  obtain ⟨σ',H',J,q⟩:=hs
  exact fin (v:=V.non) (u:=Value.none) J rfl q
 | brk=>
  obtain ⟨_,_,_,q⟩:=hs
  exact False.elim q
 | cont=>
  obtain ⟨_,_,_,q⟩:=hs
  exact False.elim q
end L2
namespace L2
open PySem PySem.Spec PyProof.Rows
section
variable {X:Cx} {x:Str} {p pos:Pos} {e:Expr} {es:List Expr} {t:TA} {id T:String} {r:List V → Hp → VK → Prop}
def tCB (r:List V → Hp → VK → Prop) (t:TA):TE:=fun σ H Q=>t σ H fun vs H1=>r vs H1 Q
theorem ZiD (hc:ZaQ X (.builtin id) r) (hg:Gl X x) (hm:X.mg x = none) (hv:bootBuiltins x = some (.builtin id)) (ha:PA X (e :: es) t) (hn:x ≠ "__name__":=by decide) (hdb:(x == ("__debug__":Str)) = false:=by decide)
  (he:starEach (e :: es) X.env = (false,eval e X.env) :: starEach es X.env:=by rfl) (hpl:(backTo pos (starEach es X.env)).any (·.1) = false:=by rfl):PE X (.Call (.Name x p) (e :: es) [] pos) (tCB r t):=by
 intro pins s σ H Q I h
 refine wpAny_Call_Name_kw (Zed I hg hm hv ?_ hn hdb)
 exact PyProof.Rows.callWith_builtin1 (thn (ha pos pins s σ H _ I h) fun us s1 ⟨vs,H1,I1,r1,q1⟩=>hc pins s1 σ H1 vs us Q I1 r1 q1) he hpl
theorem ZkG (hc:ZaQ X (.type T) r) (hg:Gl X x) (hm:X.mg x = none) (hv:bootBuiltins x = some (.type T)) (ha:PA X (e :: es) t) (hn:x ≠ "__name__":=by decide) (hdb:(x == ("__debug__":Str)) = false:=by decide)
  (he:starEach (e :: es) X.env = (false,eval e X.env) :: starEach es X.env:=by rfl) (hpl:(backTo pos (starEach es X.env)).any (·.1) = false:=by rfl):PE X (.Call (.Name x p) (e :: es) [] pos) (tCB r t):=by
 intro pins s σ H Q I h
 refine wpAny_Call_Name_kw (Zed I hg hm hv ?_ hn hdb)
 exact PyProof.Rows.callWith_type1 (thn (ha pos pins s σ H _ I h) fun us s1 ⟨vs,H1,I1,r1,q1⟩=>hc pins s1 σ H1 vs us Q I1 r1 q1) he hpl
end
end L2
namespace HT
open PySem PyProof.Rows
section
open PySem.SeqAt
open PySem.AutoSeq1 (wpAny_loadPart')
open PySem.MeetsSeq PySem.MeetsSeq2 PySem.MeetsSeq3
end
section
variable {prog:Program} {w:World} {A:Around} {E:Value → Shared → Prop} {s:Shared}
theorem cat_tup {t b:Addr} {vs ws:List Value} {Q:Value → Shared → Prop} (ht:IsTup s.heap t vs.toArray) (hb:IsTup s.heap b ws.toArray) (hv:vs ≠ [])
  (h1:ws = [] → Q (.ref t) s) (h2:ws ≠ [] → Q (.ref s.heap.objs.size) { s with heap:=s.heap.push { cls:=.type "tuple",data:=.seq (vs ++ ws).toArray } })
  (hsz:vs.length + ws.length ≤ sizeLine):wpAny (model prog w) A (binaryOp .Add (.ref t) (.ref b)) Q E s:=by
 obtain ⟨⟨cls,dd,data,sl⟩,ho,hc,n,hd⟩:=id ht
 obtain ⟨⟨cls2,dd2,data2,sl2⟩,ho2,hc2,n2,hd2⟩:=id hb
 simp only at hc hd hc2 hd2
 subst hc hd hc2 hd2
 have e:vs.toArray ++ ws.toArray = (vs ++ ws).toArray:=by simp
 by_cases hw:ws = []
 ·exact concat_meets ⟨_,ho,rfl⟩ ⟨_,ho2,rfl⟩ noFill_tuple_add seq_tuple_add PySem.F.slot_tuple_add PySem.F.entry_tuple_add (PySem.F.args_tuple_add_2 _ _)
   (tuple_addW1 t b vs.toArray ws.toArray n n2 dd dd2 sl sl2 (by simpa using hv) (by simp [hw])) ⟨ho,ho2,h1 hw⟩
 ·refine concat_meets ⟨_,ho,rfl⟩ ⟨_,ho2,rfl⟩ noFill_tuple_add seq_tuple_add PySem.F.slot_tuple_add PySem.F.entry_tuple_add (PySem.F.args_tuple_add_2 _ _)
   (tuple_addW2 t b vs.toArray ws.toArray n n2 dd dd2 sl sl2 (by simpa using hv) (by simpa using hw) (by rw [List.size_toArray,List.size_toArray]; exact hsz)) ⟨ho,ho2,?_⟩
  rw [e]
  exact h2 hw
noncomputable def sIx (n d:Nat):Option Int → Nat
 | none=>d
 | some v=>if v < 0 then (v + (n:Int)).toNat else min v.toNat n
theorem ZfW (n d:Nat):sIx n d none = d:=rfl
theorem Zhw (n d k:Nat):sIx n d (some (k:Int)) = min k n:=by
 show (if (k:Int) < 0 then ((k:Int) + (n:Int)).toNat else min (k:Int).toNat n) = min k n
 rw [if_neg (Int.not_lt.2 (Int.natCast_nonneg _)),Int.toNat_natCast]
theorem Zha (n d:Nat) (hd:d ≤ n) (o:Option Int):sIx n d o ≤ n:=by
 cases o with
 | none=>exact hd
 | some v=>
  show (if v < 0 then (v + (n:Int)).toNat else min v.toNat n) ≤ n
  by_cases hv:v < 0
  ·rw [if_pos hv]; omega
  ·rw [if_neg hv]; exact Nat.min_le_right _ _
theorem Zkh (v:Int) (n d:Nat):(if v < 0 then max (v + (n:Int)) 0 else min v (n:Int)) = ((sIx n d (some v):Nat):Int):=by
 show (if v < 0 then max (v + (n:Int)) 0 else min v (n:Int)) = (((if v < 0 then (v + (n:Int)).toNat else min v.toNat n):Nat):Int)
 by_cases hv:v < 0
 ·simp only [if_pos hv]; exact clA _
 ·simp only [if_neg hv]; exact clB _ _ hv
theorem ZjN (lo hi:Option Int) (n:Nat):Builtin.Slice.sliceAdjust lo hi 1 (n:Int) = (((sIx n 0 lo:Nat):Int),((sIx n n hi:Nat):Int)):=by
 have h1:¬ ((1:Int) < 0):=by decide
 unfold Builtin.Slice.sliceAdjust
 simp only [h1,if_false]
 refine Prod.ext ?_ ?_
 ·cases lo with
  | none=>rfl
  | some v=>exact Zkh v n 0
 ·cases hi with
  | none=>rfl
  | some v=>exact Zkh v n n
theorem ZjA (i j:Nat):Builtin.Slice.slicePlaces (i:Int) (j:Int) 1 = j - i:=by
 unfold Builtin.Slice.slicePlaces
 have h1:(1:Int) > 0:=by decide
 simp only [h1,if_true,Int.ediv_one]
 split <;> omega
theorem slicePart_ {v:Value} {o:Option Int} {Q:Option Int → Shared → Prop} (p:IsPart v o) (h:Q o s):wpAny (model prog w) A (Builtin.Slice.slicePartIndex v) Q E s:=by
 cases p with
 | none=>exact slicePart_none h
 | int i t=>exact slicePart_int h
theorem sliceApplied_gen {sl:Addr} {vl vu:Value} {lo hi:Option Int} {n:Nat} {Q:Int × Int × Nat → Shared → Prop} (hs:s.heap.IsSliceOf sl vl vu .none) (pl:IsPart vl lo) (pu:IsPart vu hi)
  (h:Q (((sIx n 0 lo:Nat):Int),1,sIx n n hi - sIx n 0 lo) s):wpAny (model prog w) A (Builtin.Slice.sliceApplied (.ref sl) (pure (n:Int))) Q E s:=by
 obtain ⟨os,hos,hcs,hds⟩:=id hs
 unfold Builtin.Slice.sliceApplied Builtin.Slice.sliceFields
 refine wpAny_bind (wpAny_bind (wpAny_field hos hds (x:=vl) rfl (wpAny_bind (wpAny_field hos hds (x:=vu) rfl (wpAny_bind (wpAny_field hos hds (x:=.none) rfl (wpAny_pure ?_)))))))
 refine wpAny_bind (slicePart_none ?_)
 show wpAny _ _ (if ((1:Int) == 0) = true then _ else _) _ _ s
 rw [if_neg (by decide)]
 refine wpAny_bind (slicePart_ pl (wpAny_bind (slicePart_ pu (wpAny_bind (wpAny_pure ?_)))))
 show wpAny _ _ (match Builtin.Slice.sliceAdjust lo hi 1 (n:Int) with | (lo,hi)=>pure (lo,(1:Int),Builtin.Slice.slicePlaces lo hi 1)) _ _ s
 rw [ZjN lo hi n]
 show wpAny _ _ (pure (((sIx n 0 lo:Nat):Int),(1:Int),Builtin.Slice.slicePlaces ((sIx n 0 lo:Nat):Int) ((sIx n n hi:Nat):Int) 1)) _ _ s
 rw [ZjA]
 exact wpAny_pure h
theorem Zlu (xs:Array Value) (i k:Nat):((List.range k).filterMap fun (m:Nat)=>xs[((i:Int) + (m:Int) * 1).toNat]?).toArray = ((xs.toList.drop i).take k).toArray:=by
 have e:(fun (m:Nat)=>xs[((i:Int) + (m:Int) * 1).toNat]?) = fun m=>xs[i + m]?:=by
  funext m
  have:((i:Int) + (m:Int) * 1).toNat = i + m:=by omega
  rw [this]
 rw [e]
 have:=pick_run xs i k
 rw [List.filterMap_map] at this
 have e2:((fun x=>xs[x]?) ∘ fun x=>i + x) = fun m=>xs[i + m]?:=rfl
 rw [e2] at this
 rw [this]
theorem getItem_tuple_cut {t sl:Addr} {items:Array Value} {vl vu:Value} {lo hi:Option Int} {Q:Value → Shared → Prop} (ht:IsTup s.heap t items) (hs:s.heap.IsSliceOf sl vl vu .none) (pl:IsPart vl lo) (pu:IsPart vu hi)
  (hw:¬ (sIx items.size 0 lo = 0 ∧ sIx items.size items.size hi = items.size))
  (h:Q (.ref s.heap.objs.size) { s with heap:=s.heap.push { cls:=.type "tuple",data:=.seq ((items.toList.drop (sIx items.size 0 lo)).take (sIx items.size items.size hi - sIx items.size 0 lo)).toArray } })
  (hsz:items.size ≤ sizeLine):wpAny (model prog w) A (getItem (.ref t) (.ref sl)) Q E s:=by
 have htake:sizeOk (.seq ((items.toList.drop (sIx items.size 0 lo)).take (sIx items.size items.size hi - sIx items.size 0 lo)).toArray):=by
  show ((items.toList.drop (sIx items.size 0 lo)).take (sIx items.size items.size hi - sIx items.size 0 lo)).toArray.size ≤ sizeLine
  rw [List.size_toArray,List.length_take,List.length_drop,Array.length_toList]
  exact lD 3 85606880155602945 T1 hsz (Nat.sub_le _ _) (Nat.min_le_right _ _)
 have hj:sIx items.size items.size hi ≤ items.size:=Zha _ _ (Nat.le_refl _) hi
 obtain ⟨os,hos,hcs,hds⟩:=id hs
 have hTs:s.TypeIs (.ref sl) "slice":=⟨os,hos,hcs⟩
 unfold getItem
 try with_reducible refine wpAny_holding ?_
 first | refine wpAny_bind (wpAny_pure ?_) | skip
 refine wpAny_bind (wpAny_sequenceKey ht.typeIs (by decide) ?_)
 refine wpAny_bind (wpAny_callSpecial?_slot (name:=Str.ofString "__getitem__") ht.typeIs PyProof.Rows.slot_tuple_getitem
  (wpAny_call_entry PyProof.Rows.slot_tuple_getitem ht.typeIs entry_tuple_getitem ?_ (args_tuple_getitem _ _)))
 show wpAny _ _ (Builtin.Tuple.tupleItemsOf (.ref t) >>= _) _ _ s
 refine wpAny_bind (tupleItemsOf_ ht ?_)
 refine wpAny_bind (wpAny_typeOf hTs ?_)
 rw [if_pos (by decide)]
 refine wpAny_bind (sliceApplied_gen hs pl pu ?_)
 have hno:¬ ((((sIx items.size 0 lo:Nat):Int) == 0 && (1:Int) == 1 && (sIx items.size items.size hi - sIx items.size 0 lo) == items.size) = true):=by
  intro q
  rw [Bool.and_eq_true,Bool.and_eq_true] at q
  have q1:((sIx items.size 0 lo:Nat):Int) = 0:=eq_of_beq q.1.1
  have q2:sIx items.size items.size hi - sIx items.size 0 lo = items.size:=eq_of_beq q.2
  exact hw ⟨by exact Nat.le_antisymm (iN [_] [] 1 3759016097 T1 q1) (Nat.zero_le _),by exact Nat.le_antisymm hj (lC 2 2268279672881 T1 q2 (Nat.sub_le _ _))⟩
 show wpAny _ _ (if (((sIx items.size 0 lo:Nat):Int) == 0 && (1:Int) == 1 && (sIx items.size items.size hi - sIx items.size 0 lo) == items.size) = true then _ else _) _ _ s
 rw [if_neg hno,Zlu]
 first
  | exact wpAny_bind (m:=Builtin.Tuple.tupleExact _) (wpAny_newObj_type (wpAny_pure ⟨_,rfl,wpAny_pure h⟩) htake)
  | exact wpAny_bind (m:=Builtin.Tuple.tupleExact _) (wpAny_newObj_type (wpAny_bind (wpAny_pure (wpAny_pure ⟨_,rfl,wpAny_pure h⟩))) htake)
  | exact wpAny_bind (wpAny_bind (m:=Builtin.Tuple.tupleExact _) (wpAny_newObj_type (wpAny_pure (wpAny_pure ⟨_,rfl,wpAny_pure h⟩)) htake))
  | exact wpAny_bind (wpAny_bind (m:=Builtin.Tuple.tupleExact _) (wpAny_newObj_type (wpAny_pure ⟨_,rfl,wpAny_pure h⟩) htake))
end
end HT
namespace L2
open PySem PySem.Spec PyProof.Rows
noncomputable abbrev TO:=St → Hp → (Option Int → Hp → Prop) → Prop
def PO (X:Cx) (e:Option Expr) (t:TO):Prop:=
 ∀ (pins:List (Addr × Obj)) (s:Shared) (σ:St) (H:Hp) (Q:Option Int → Hp → Prop),Inv X pins σ H s → t σ H Q →
  wpAny (model X.prog X.w) X.A (evalPart e X.env) (fun u s'=>∃ o H',Inv X pins σ H' s' ∧ IsPart u o ∧ Q o H') X.xe s
def ZnR:TO:=fun _ H Q=>Q none H
def Zrp (t:TE):TO:=fun σ H Q=>t σ H fun x H1=>∃ i,x = .int i ∧ Q (some i) H1
section
variable {X:Cx} {e:Expr} {te:TE} {lo hi:Option Expr} {tl th:TO} {pos p2:Pos}
theorem Zn0:PO X none ZnR:=by
 intro pins s σ H Q I h
 rw [evalPart_none]
 exact wpAny_pure ⟨none,H,I,.none,h⟩
theorem Zn2 (h:PE X e te):PO X (some e) (Zrp te):=by
 intro pins s σ H Q I hw
 rw [evalPart_some]
 refine thn (h pins s σ H _ I hw) fun u s1 zz1=>?_
 obtain ⟨x,H1,I1,r1,q1⟩:=zz1
 obtain ⟨i,rfl,q⟩:=q1
 obtain ⟨t,rfl⟩:=r1
 exact ⟨some i,H1,I1,.int i t,q⟩
def SlR (X:Cx) (r:V → Option Int → Option Int → Hp → VK → Prop):Prop:=
 ∀ (pins:List (Addr × Obj)) (s:Shared) (σ:St) (H:Hp) (x:V) (v vl vu:Value) (lo hi:Option Int) (sl:Addr) (Q:VK),Inv X pins σ H s → RelV x v → s.heap.IsSliceOf sl vl vu .none → IsPart vl lo → IsPart vu hi → r x lo hi H Q →
  ∃ T id,typeLookup (.type T) "__getitem__" = pure (some (.builtin id)) ∧ s.TypeIs v T ∧ wpAny (model X.prog X.w) X.A (getItem v (.ref sl)) (EP X pins σ Q) X.xe s
theorem SlR.or {r r':V → Option Int → Option Int → Hp → VK → Prop} (h:SlR X r) (h':SlR X r'):SlR X (fun x lo hi H Q=>r x lo hi H Q ∨ r' x lo hi H Q):=by
 intro pins s σ H x v vl vu lo hi sl Q I rx hs pl pu q
 rcases q with q | q
 ·exact h pins s σ H x v vl vu lo hi sl Q I rx hs pl pu q
 ·exact h' pins s σ H x v vl vu lo hi sl Q I rx hs pl pu q
def tSl (r:V → Option Int → Option Int → Hp → VK → Prop) (te:TE) (tl th:TO):TE:=fun σ H Q=>te σ H fun x H1=>tl σ H1 fun l H2=>th σ H2 fun u H3=>r x l u H3 Q
theorem Zm9 {r:V → Option Int → Option Int → Hp → VK → Prop} (hr:SlR X r) (he:PE X e te) (hl:PO X lo tl) (hu:PO X hi th):PE X (.Subscript e (.Slice lo hi none p2) pos) (tSl r te tl th):=by
 intro pins s σ H Q I h
 refine Subscript_ (thn (he pins s σ H _ I h) fun v s1 zz1=>?_)
 obtain ⟨x,H1,I1,r1,q1⟩:=zz1
 refine wpAny_Slice (thn (hl pins s1 σ H1 _ I1 q1) fun vl s2 ⟨l,H2,I2,pl,q2⟩=>thn (hu pins s2 σ H2 _ I2 q2) fun vu s3 zz1=>?_)
 obtain ⟨u,H3,I3,pu,q3⟩:=zz1
 rw [evalPart_none]
 refine wpAny_pure ?_
 have I4:Inv X pins σ H3 { s3 with heap:=s3.heap.push { cls:=.type "slice",data:=.fields #[vl,vu,.none] } }:=I3.kept (t':=s3.toks) fun b ob q=>Heap.get?_push_of_some _ q
 obtain ⟨T,id,hT,ht,hg⟩:=hr pins { s3 with heap:=s3.heap.push { cls:=.type "slice",data:=.fields #[vl,vu,.none] } } σ H3 x v vl vu l u s3.heap.objs.size Q I4 r1 (Heap.IsSliceOf.new ..) pl pu q3
 show wpAny (model X.prog X.w) X.A (subscriptTail e (.Slice lo hi none p2) v (.ref s3.heap.objs.size)) (EP X pins σ Q) X.xe { s3 with heap:=s3.heap.push { cls:=.type "slice",data:=.fields #[vl,vu,.none] } }
 exact tail_any (ops:=[.ref s3.heap.objs.size,v]) ht hT hg (by with_unfolding_all rfl)
noncomputable def Zib (xs:List V) (lo hi:Option Int):List V:=(xs.drop (HT.sIx xs.length 0 lo)).take (HT.sIx xs.length xs.length hi - HT.sIx xs.length 0 lo)
theorem Zfn (xs:List V) (lo hi:Option Int):(Zib xs lo hi).length ≤ xs.length:=by
 unfold Zib
 rw [List.length_take,List.length_drop]
 exact Nat.le_trans (Nat.min_le_right _ _) (Nat.sub_le _ _)
noncomputable def Zto (K:PySem.W.Frag):V → Option Int → Option Int → Hp → VK → Prop:=fun x lo hi H Q=>∃ a xs,x = .ref a ∧ SqT K H a xs ∧
 ¬ (HT.sIx xs.length 0 lo = 0 ∧ HT.sIx xs.length xs.length hi = xs.length) ∧ ∀ p,H p = none → Q (.ref p) (upd H p (.tup (Zib xs lo hi)))
theorem ZqT:SlR X (Zto X.K):=by
 intro pins s σ H x v vl vu lo hi sl Q I rx hs pl pu h
 obtain ⟨a,xs,rfl,hx,hw,q⟩:=h
 cases rx
 obtain ⟨its,r,ht,hz⟩:=I.tuple hx
 have hlen:its.toArray.size = xs.length:=by rw [List.size_toArray]; exact r.length.symm
 refine ⟨"tuple",_,PyProof.Rows.slot_tuple_getitem.lookup,ht.typeIs,?_⟩
 refine HT.getItem_tuple_cut ht hs pl pu (by rw [hlen]; exact hw) ?_ (by rw [hlen]; exact hz)
 rw [hlen]
 refine ⟨.ref s.heap.objs.size,_,I.laid (t':=s.toks) (o:=.tup (Zib xs lo hi)) (fun b ob q=>Heap.get?_push_of_some _ q) (Nat.le_refl _) ?_,rfl,q _ (I.hok.fresh (Nat.le_refl _))⟩
 exact ⟨Nat.le_trans (Zfn xs lo hi) hz,_,(r.drop (HT.sIx xs.length 0 lo)).take (HT.sIx xs.length xs.length hi - HT.sIx xs.length 0 lo),ZcT.new _ _⟩
def ZsR (K:PySem.W.Frag):R2:=fun x y H Q=>∃ a b xs ys,x = .ref a ∧ y = .ref b ∧ SqT K H a xs ∧ SqT K H b ys ∧ xs ≠ [] ∧ xs.length + ys.length ≤ sizeLine ∧
 (ys = [] → Q (.ref a) H) ∧ (ys ≠ [] → ∀ p,H p = none → Q (.ref p) (upd H p (.tup (xs ++ ys))))
theorem Vals.nil_iff {xs:List V} {us:List Value} (r:Vals xs us):us = [] ↔ xs = []:=by
 cases r with
 | nil=>simp
 | cons _ _=>simp
theorem Zns:OpR X (binaryOp .Add) (ZsR X.K):=by
 intro pins s σ H x y v u Q I rx ry h
 obtain ⟨a,b,xs,ys,rfl,rfl,ha,hb,hx,hz,q1,q2⟩:=h
 cases rx
 cases ry
 obtain ⟨its,r1,p1,_⟩:=I.tuple ha
 obtain ⟨its2,r2,p2,_⟩:=I.tuple hb
 refine HT.cat_tup p1 p2 (fun z=>hx (r1.nil_iff.mp z)) (fun z=>⟨.ref a,H,I,rfl,q1 (r2.nil_iff.mp z)⟩) (fun z=>?_) (by rw [← r1.length,← r2.length]; exact hz)
 refine ⟨.ref s.heap.objs.size,_,I.laid (t':=s.toks) (o:=.tup (xs ++ ys)) (fun b ob q=>Heap.get?_push_of_some _ q) (Nat.le_refl _) ?_,rfl,q2 (fun w=>z (r2.nil_iff.mpr w)) _ (I.hok.fresh (Nat.le_refl _))⟩
 exact ⟨by rw [List.length_append]; exact hz,_,r1.append r2,ZcT.new _ _⟩
end
end L2
namespace L2
open PySem PySem.Spec PyProof.Rows
noncomputable def ixN (n:Nat) (i:Int):Option Nat:=if 0 ≤ i then (if i < n then some i.toNat else none) else if -(n:Int) ≤ i then some (i + n).toNat else none
noncomputable def atI {α:Type} (xs:List α) (i:Int):Option α:=(ixN xs.length i).bind fun j=>xs[j]?
theorem Zhc {n:Nat} {i:Int} {j:Nat} (h:ixN n i = some j):seqIndex? i n = some j ∧ j < n ∧ -(n:Int) ≤ i ∧ i < n:=by
 unfold ixN at h
 by_cases h0:0 ≤ i
 ·rw [if_pos h0] at h
  by_cases h1:i < n
  ·rw [if_pos h1] at h
   have e:i.toNat = j:=Option.some.inj h
   exact ⟨by rw [seqIndex_of h0 h1,e],by exact iN [_,_,_] [_] 3 0x211008a1280911031 T1 e h1 (Int.toNat_of_nonneg h0),by exact iN [_] [_] 1 144182913 T1 h0,h1⟩
  ·rw [if_neg h1] at h; cases h
 ·rw [if_neg h0] at h
  by_cases h1:-(n:Int) ≤ i
  ·rw [if_pos h1] at h
   have e:(i + n).toNat = j:=Option.some.inj h
   exact ⟨by rw [seqIndex_neg (by exact Int.not_le.1 h0) h1,e],by exact iN [_,_,_] [_] 3 0x211280c08a10ec11031 T1 e h0 (Int.toNat_of_nonneg (iN [_] [_] 1 8851524979073 T1 h1)),h1,by exact iN [_] [_] 1 134811329 T1 h0⟩
  ·rw [if_neg h1] at h; cases h
theorem ZhT {α:Type} {xs:List α} {i:Int} {v:α} (h:atI xs i = some v):∃ j,seqIndex? i xs.length = some j ∧ xs[j]? = some v ∧ j < xs.length ∧ -(xs.length:Int) ≤ i ∧ i < xs.length:=by
 unfold atI at h
 cases e:ixN xs.length i with
 | none=>rw [e] at h; cases h
 | some j=>
  rw [e] at h
  obtain ⟨h1,h2,h3,h4⟩:=Zhc e
  exact ⟨j,h1,h,h2,h3,h4⟩
def Zke (b:Expr):Prop:=∀ o i,subscripted b false o i = operate [o,i] (getItem o i)
def IxR (X:Cx) (r:R2):Prop:=
 ∀ (value slice:Expr) (pins:List (Addr × Obj)) (s:Shared) (σ:St) (H:Hp) (x y:V) (v u:Value) (Q:VK),Inv X pins σ H s → RelV x v → RelV y u → r x y H Q →
  subscripted slice false v u = operate [v,u] (getItem v u) → wpAny (model X.prog X.w) X.A (subscriptTail value slice v u) (EP X pins σ Q) X.xe s
def MtR (X:Cx) (id:String) (r:V → List V → Hp → VK → Prop):Prop:=
 ∀ (pins:List (Addr × Obj)) (s:Shared) (σ:St) (H:Hp) (x:V) (xs:List V) (v:Value) (us:List Value) (Q:VK),Inv X pins σ H s → RelV x v → Vals xs us → r x xs H Q →
  wpAny (model X.prog X.w) X.A (call (.builtin id) (v :: us)) (EP X pins σ Q) X.xe s
section
variable {X:Cx} {a b:Expr} {ta tb:TE} {pos:Pos}
theorem IxR.or {r r':R2} (h:IxR X r) (h':IxR X r'):IxR X (fun x y H Q=>r x y H Q ∨ r' x y H Q):=by
 intro value slice pins s σ H x y v u Q I rx ry q hs
 rcases q with q | q
 ·exact h value slice pins s σ H x y v u Q I rx ry q hs
 ·exact h' value slice pins s σ H x y v u Q I rx ry q hs
theorem Zsu {r:R2} (hr:IxR X r) (ha:PE X a ta) (hb:PE X b tb) (hs:Zke b):PE X (.Subscript a b pos) (tOp r ta tb):=by
 intro pins s σ H Q I h
 exact Subscript_ (ZqR ha hb I h fun v u s2 x y H2 I2 rx ry q=>hr a b pins s2 σ H2 x y v u Q I2 rx ry q (hs _ _))
def ZsD (K:PySem.W.Frag):R2:=fun x y H Q=>∃ p xs i v,x = .ref p ∧ y = .int i ∧ SqL K H p xs ∧ atI xs i = some v ∧ Q v H
def ZrA (K:PySem.W.Frag):R2:=fun x y H Q=>∃ p xs i v,x = .ref p ∧ y = .int i ∧ SqT K H p xs ∧ atI xs i = some v ∧ Q v H
def Zsp:R2:=fun x y H Q=>∃ z i c,x = .str z ∧ y = .int i ∧ z.length ≤ sizeLine ∧ atI z.cps.toList i = some c ∧ Q (.str ⟨#[c]⟩) H
theorem ZoF:IxR X (ZsD X.K):=by
 intro value slice pins s σ H x y v u Q I rx ry h hs
 obtain ⟨p,xs,i,z,rfl,rfl,hq,he,q⟩:=h
 cases rx
 obtain ⟨t,rfl⟩:=ry
 obtain ⟨its,r,pl,hz⟩:=I.list hq
 obtain ⟨j,h1,h2,h3,h4,h5⟩:=ZhT he
 obtain ⟨w,ew,rw'⟩:=r.get h2
 have hl:=r.length
 have hn:=Zgc
 have fin:EP X pins σ Q w s:=⟨z,H,I,rw',q⟩
 by_cases h0:0 ≤ i
 ·have hj:i.toNat = j:=by
   rw [seqIndex_of h0 h5] at h1
   exact Option.some.inj h1
  exact item_listR pl.isList h0 (by omega) (by rw [hj]; simpa using ew) fin hs
 ·have hj:(i + (its.toArray.size:Int)).toNat = j:=by
   rw [seqIndex_neg (by exact Int.not_le.1 h0) h4] at h1
   rw [List.size_toArray,← hl]
   exact Option.some.inj h1
  exact subscriptTail_builtinR (x:=w) pl.isList.typeIs slot_list_getitem.lookup
   (wpAny_getItem_list_neg (Q:=fun r s'=>r = w ∧ EP X pins σ Q r s') pl.isList (by exact Int.not_le.1 h0) (by rw [List.size_toArray] <;> exact iN [_,_] [_] 2 6922527515414561 T1 hl h4) (by omega) (by rw [hj]; simpa using ew) ⟨rfl,fin⟩) hs
theorem Zqt:IxR X (ZrA X.K):=by
 intro value slice pins s σ H x y v u Q I rx ry h hs
 obtain ⟨p,xs,i,z,rfl,rfl,hq,he,q⟩:=h
 cases rx
 obtain ⟨t,rfl⟩:=ry
 obtain ⟨its,r,pl,hz⟩:=I.tuple hq
 obtain ⟨j,h1,h2,h3,h4,h5⟩:=ZhT he
 obtain ⟨w,ew,rw'⟩:=r.get h2
 have hl:=r.length
 have hn:=Zgc
 have fin:EP X pins σ Q w s:=⟨z,H,I,rw',q⟩
 exact subscriptTail_builtinR (x:=w) pl.typeIs slot_tuple_getitem.lookup
  (getItem_tuple (j:=j) (Q:=fun r s'=>r = w ∧ EP X pins σ Q r s') pl (by omega) (by omega) (by rw [List.size_toArray,← hl]; exact h1) (by simpa using ew) ⟨rfl,fin⟩) hs
theorem ZpH:IxR X Zsp:=by
 intro value slice pins s σ H x y v u Q I rx ry h hs
 obtain ⟨z,i,c,rfl,rfl,hz,he,q⟩:=h
 obtain ⟨t,rfl⟩:=rx
 obtain ⟨t',rfl⟩:=ry
 obtain ⟨j,h1,h2,h3,h4,h5⟩:=ZhT he
 have hl:z.cps.toList.length = z.length:=by simp [Str.length]
 rw [hl] at h1 h4 h5
 have hn:=Zgc
 exact tail_any (typeIs_str s z t) slot_str_getitem.lookup (getItem_str (c:=c) (by
  have e1:decide (i < -(2 ^ 63:Int)) = false:=decide_eq_false (by omega)
  have e2:decide (i ≥ 2 ^ 63) = false:=decide_eq_false (by omega)
  rw [e1,e2,Bool.or_false]) (by rw [h1]; simpa using h2) ⟨.str ⟨#[c]⟩,H,I.tok _,⟨_,rfl⟩,q⟩) hs
def rIx (K:PySem.W.Frag):R2:=fun x y H Q=>ZsD K x y H Q ∨ ZrA K x y H Q ∨ Zsp x y H Q
theorem ZqJ:IxR X (rIx X.K):=ZoF.or (Zqt.or ZpH)
theorem Zjh (its:List Value) (n j:Nat) (u:Value):Obj.mapSeq (·.setIfInBounds j u) { cls:=.type "list",data:=.seq its.toArray n } = { cls:=.type "list",data:=.seq (its.set j u).toArray n }:=by
 simp [Obj.mapSeq]
theorem Inv.lst {pins:List (Addr × Obj)} {σ:St} {H:Hp} {s:Shared} {p:Addr} {xs:List V} (I:Inv X pins σ H s) (h:H p = some (.lst xs)):
  ∃ (its:List Value) (n:Nat),Vals xs its ∧ s.heap.get? p = some { cls:=.type "list",data:=.seq its.toArray n } ∧ xs.length ≤ sizeLine:=by
 obtain ⟨z,its,n,r,e⟩:=I.hok p _ h
 exact ⟨its,n,r,e,z⟩
theorem Inv.lstUpd {pins:List (Addr × Obj)} {σ:St} {H:Hp} {s:Shared} {p:Addr} {xs ys:List V} {its its':List Value} {n n':Nat} {f:Obj → Obj} (I:Inv X pins σ H s) (h:H p = some (.lst xs))
  (ho:s.heap.get? p = some { cls:=.type "list",data:=.seq its.toArray n }) (hf:f { cls:=.type "list",data:=.seq its.toArray n } = { cls:=.type "list",data:=.seq its'.toArray n' }) (r:Vals ys its') (hz:ys.length ≤ sizeLine) (t:Nat):
  Inv X pins σ (upd H p (.lst ys)) { s with heap:=s.heap.update p f,toks:=t }:=by
 have e:(s.heap.update p f).get? p = some { cls:=.type "list",data:=.seq its'.toArray n' }:=by
  rw [Heap.get?_update_self f ho (by rw [hf] <;> rfl),hf]
 refine I.write (x:=p) (e:=p) (by rw [h]; trivial) (.inl rfl) (fun b u hb q=>(Heap.get?_update_other _ _ (Ne.symm hb)).trans q) ⟨_,e⟩ ?_
 exact ⟨hz,its',n',r,e⟩
noncomputable def ZrH:V → V → V → Hp → (Hp → Prop) → Prop:=fun o i v H Q=>∃ p xs k j,o = .ref p ∧ i = .int k ∧ H p = some (.lst xs) ∧ ixN xs.length k = some j ∧ Q (upd H p (.lst (xs.set j v)))
theorem set_list:Zsn X ZrH:=by
 intro pins s σ H o i v ov iv u Q I ro ri rv h
 obtain ⟨p,xs,k,j,rfl,rfl,hp,hj,q⟩:=h
 cases ro
 obtain ⟨t,rfl⟩:=ri
 obtain ⟨its,n,r,ho,hz⟩:=I.lst hp
 obtain ⟨h1,h2,h3,h4⟩:=Zhc hj
 have hl:=r.length
 have hn:=Zgc
 have I':Inv X pins σ (upd H p (.lst (xs.set j v))) { s with heap:=s.heap.update p (Obj.mapSeq (·.setIfInBounds j u)) }:=
  I.lstUpd hp ho (Zjh its n j u) (r.set rv j) (by rw [List.length_set]; exact hz) s.toks
 by_cases h0:0 ≤ k
 ·have hk:k.toNat = j:=by
   rw [seqIndex_of h0 h4] at h1
   exact Option.some.inj h1
  exact PySem.W.ki_setAt ho h0 (by omega) (by rw [List.size_toArray,← hl]; exact h4) (by rw [hk]; exact ⟨_,I',q⟩)
 ·have hk:(k + (its.toArray.size:Int)).toNat = j:=by
   rw [seqIndex_neg (by exact Int.not_le.1 h0) h3] at h1
   rw [List.size_toArray,← hl]
   exact Option.some.inj h1
  exact PySem.W.ki_setBack ho (by exact Int.not_le.1 h0) (by rw [List.size_toArray,← hl]; exact h3) (by omega) (by rw [hk]; exact ⟨_,I',q⟩)
theorem ZhB (lo hi:Option Int) (n:Nat):(sliceBounds lo hi none n).1 = ((HT.sIx n 0 lo:Nat):Int) ∧ (sliceBounds lo hi none n).2.1 = ((HT.sIx n n hi:Nat):Int) ∧ (sliceBounds lo hi none n).2.2 = 1:=by
 refine ⟨?_,?_,rfl⟩
 ·cases lo with
  | none=>simp [sliceBounds,HT.sIx]
  | some i=>
   simp only [sliceBounds,HT.sIx,Option.getD_none,show (1:Int) > 0 by decide,if_true]
   by_cases h:i < 0
   ·simp only [h,if_true] <;> exact clC _ _ h
   ·simp only [h,if_false] <;> exact clD _ _ h
 ·cases hi with
  | none=>simp [sliceBounds,HT.sIx]
  | some i=>
   simp only [sliceBounds,HT.sIx,Option.getD_none,show (1:Int) > 0 by decide,if_true]
   by_cases h:i < 0
   ·simp only [h,if_true] <;> exact clC _ _ h
   ·simp only [h,if_false] <;> exact clD _ _ h
theorem ZgB (its:List Value) (lo hi:Option Int):slicePick its.toArray lo hi none = ((its.drop (HT.sIx its.length 0 lo)).take (HT.sIx its.length its.length hi - HT.sIx its.length 0 lo)).toArray:=by
 obtain ⟨h1,h2,h3⟩:=ZhB lo hi its.toArray.size
 unfold slicePick
 rw [h1,h2,h3]
 simp only [sliceRange_one,pick_run,List.size_toArray] <;> rfl
noncomputable def ZtX (K:PySem.W.Frag):V → Option Int → Option Int → Hp → VK → Prop:=fun x lo hi H Q=>∃ a xs,x = .ref a ∧ SqL K H a xs ∧ ∀ p,H p = none → Q (.ref p) (upd H p (.lst (Zib xs lo hi)))
theorem Zn1:SlR X (ZtX X.K):=by
 intro pins s σ H x v vl vu lo hi sl Q I rx hs pl pu h
 obtain ⟨a,xs,rfl,hx,q⟩:=h
 cases rx
 obtain ⟨its,r,ht,hz⟩:=I.list hx
 have hlen:=r.length
 refine ⟨"list",_,slot_list_getitem.lookup,ht.isList.typeIs,?_⟩
 refine wpAny_getItem_list_slice ht.isList hs pl pu .none (by simp) ?_ (by rw [List.size_toArray] <;> exact lC 2 2268279672881 T1 hlen hz)
 rw [ZgB,← hlen]
 refine ⟨.ref s.heap.objs.size,_,I.laid (t':=s.toks) (o:=.lst (Zib xs lo hi)) (fun b ob q=>Heap.get?_push_of_some _ q) (Nat.le_refl _) ?_,rfl,q _ (I.hok.fresh (Nat.le_refl _))⟩
 exact ⟨Nat.le_trans (Zfn xs lo hi) hz,_,0,(r.drop (HT.sIx xs.length 0 lo)).take (HT.sIx xs.length xs.length hi - HT.sIx xs.length 0 lo),Heap.get?_push_size _ rfl⟩
noncomputable def Zea:V → Bool
 | .non=>true
 | .bl _=>true
 | .int _=>true
 | .str _=>true
 | _=>false
noncomputable def eqV:V → V → Bool
 | .non,.non=>true
 | .bl a,.bl b=>a == b
 | .bl a,.int b=>(if a then 1 else 0) == b
 | .int a,.bl b=>a == (if b then 1 else 0)
 | .int a,.int b=>a == b
 | .str a,.str b=>a == b
 | _,_=>false
theorem ZpY {A:Around} {s:Shared} {y x:V} {u v:Value} (ry:RelV y u) (rx:RelV x v) (fy:Zea y = true) (fx:Zea x = true):SeqAt.EqAt A s u v (eqV y x):=by
 cases y with
 | non=>
  cases ry
  cases x with
  | non=>cases rx; exact SeqAt.EqAt.same _
  | bl b=>cases rx; exact SeqAt.EqAt.none_bool b
  | int b=>obtain ⟨t,rfl⟩:=rx; exact SeqAt.EqAt.none_int b t
  | str b=>obtain ⟨t,rfl⟩:=rx; exact SeqAt.EqAt.none_str b t
  | _=>exact absurd (show false = true from fx) Bool.false_ne_true
 | bl a=>
  cases ry
  cases x with
  | non=>cases rx; exact SeqAt.EqAt.bool_none a
  | bl b=>cases rx; exact SeqAt.EqAt.bool_bool a b
  | int b=>obtain ⟨t,rfl⟩:=rx; exact SeqAt.EqAt.bool_int a b t
  | str b=>obtain ⟨t,rfl⟩:=rx; exact SeqAt.EqAt.bool_str a b t
  | _=>exact absurd (show false = true from fx) Bool.false_ne_true
 | int a=>
  obtain ⟨t',rfl⟩:=ry
  cases x with
  | non=>cases rx; exact SeqAt.EqAt.int_none a t'
  | bl b=>cases rx; exact SeqAt.EqAt.int_bool a t' b
  | int b=>obtain ⟨t,rfl⟩:=rx; exact SeqAt.EqAt.int_int a t' b t
  | str b=>obtain ⟨t,rfl⟩:=rx; exact SeqAt.EqAt.int_str a t' b t
  | _=>exact absurd (show false = true from fx) Bool.false_ne_true
 | str a=>
  obtain ⟨t',rfl⟩:=ry
  cases x with
  | non=>cases rx; exact SeqAt.EqAt.str_none a t'
  | bl b=>cases rx; exact SeqAt.EqAt.str_bool a t' b
  | int b=>obtain ⟨t,rfl⟩:=rx; exact SeqAt.EqAt.str_int a t' b t
  | str b=>obtain ⟨t,rfl⟩:=rx; exact SeqAt.EqAt.str_str a t' b t
  | _=>exact absurd (show false = true from fx) Bool.false_ne_true
 | _=>exact absurd (show false = true from fy) Bool.false_ne_true
noncomputable def eqU (x:V) (u:Value):Bool:=match u with
 | .none=>eqV .non x
 | .bool b=>eqV (.bl b) x
 | .int i _=>eqV (.int i) x
 | .str z _=>eqV (.str z) x
 | _=>false
theorem Znc {x y:V} {u:Value} (r:RelV y u) (f:Zea y = true):eqU x u = eqV y x:=by
 cases y with
 | non=>cases r; rfl
 | bl b=>cases r; rfl
 | int i=>obtain ⟨t,rfl⟩:=r; rfl
 | str z=>obtain ⟨t,rfl⟩:=r; rfl
 | _=>exact absurd (show false = true from f) Bool.false_ne_true
theorem Zhy {x:V}:∀ {xs:List V} {us:List Value},Vals xs us → xs.all Zea = true → us.any (eqU x) = xs.any fun y=>eqV y x
 | _,_,.nil,_=>rfl
 | y :: xs,u :: us,.cons r t,f=>by
  rw [List.all_cons,Bool.and_eq_true] at f
  rw [List.any_cons,List.any_cons,Znc r f.1,Zhy t f.2]
theorem ZfV {A:Around} {s:Shared} {x:V} {v:Value} (rx:RelV x v) (fx:Zea x = true):∀ {xs:List V} {us:List Value},Vals xs us → xs.all Zea = true → ∀ u ∈ us,SeqAt.EqAt A s u v (eqU x u)
 | _,_,.nil,_=>fun u hu=>by cases hu
 | y :: xs,u :: us,.cons r t,f=>fun u' hu=>by
  rw [List.all_cons,Bool.and_eq_true] at f
  rcases List.mem_cons.mp hu with rfl | hu
  ·rw [Znc r f.1]; exact ZpY r rx f.1 fx
  ·exact ZfV rx fx t f.2 u' hu
noncomputable def inV (x:V) (xs:List V):Bool:=xs.any fun y=>eqV y x
def rIn (K:PySem.W.Frag) (neg:Bool):R2:=fun x y H Q=>∃ p xs,y = .ref p ∧ (SqL K H p xs ∨ SqT K H p xs) ∧ Zea x = true ∧ xs.all Zea = true ∧ Q (.bl (if neg then !inV x xs else inV x xs)) H
theorem ZkM:OpR X (compareOp .In) (rIn X.K false):=by
 intro pins s σ H x y v u Q I rx ry h
 obtain ⟨p,xs,rfl,hq,fx,fs,q⟩:=h
 cases ry
 rcases hq with hq | hq
 ·obtain ⟨its,r,pl,hz⟩:=I.list hq
  refine SeqAt.in_listAt (eqU x) pl.isList (fun w hw=>ZfV rx fx r fs w (by simpa using hw)) ⟨.bl _,H,I,rfl,?_⟩
  rw [show its.toArray.any (eqU x) = its.any (eqU x) by simp,Zhy r fs]
  exact q
 ·obtain ⟨its,r,pl,hz⟩:=I.tuple hq
  refine SeqAt.in_tupleAt (eqU x) pl (fun w hw=>ZfV rx fx r fs w (by simpa using hw)) ⟨.bl _,H,I,rfl,?_⟩
  rw [show its.toArray.any (eqU x) = its.any (eqU x) by simp,Zhy r fs]
  exact q
theorem ZaQ.or {f:Value} {r r':List V → Hp → VK → Prop} (h:ZaQ X f r) (h':ZaQ X f r'):ZaQ X f (fun xs H Q=>r xs H Q ∨ r' xs H Q):=by
 intro pins s σ H xs us Q I rs q
 rcases q with q | q
 ·exact h pins s σ H xs us Q I rs q
 ·exact h' pins s σ H xs us Q I rs q
theorem Zgz:ZaQ X (.type "tuple") (fun xs H Q=>∃ p ys,xs = [.ref p] ∧ ((SqL X.K H p ys ∧ ∀ l,H l = none → Q (.ref l) (upd H l (.tup ys))) ∨ (SqT X.K H p ys ∧ Q (.ref p) H))):=by
 intro pins s σ H xs us Q I r h
 obtain ⟨p,ys,rfl,h⟩:=h
 obtain ⟨u,rfl,rx⟩:=vals1 r
 cases rx
 rcases h with ⟨hq,q⟩ | ⟨hq,q⟩
 ·obtain ⟨its,r',pl,hz⟩:=I.list hq
  have hlen:=r'.length
  refine call_tuple_list pl.isList (fun h' kp=>?_) (by simp only [List.size_toArray] <;> exact lC 2 2268279672881 T1 hlen hz)
  have I1:Inv X pins σ H { s with heap:=h' }:=I.kept (t':=s.toks) kp
  have I2:Inv X pins σ (upd H h'.objs.size (.tup ys)) { s with heap:=h'.push { cls:=.type "tuple",data:=.seq its.toArray } }:=
   I1.laid (t':=s.toks) (fun b o e=>Heap.get?_push_of_some _ e) (Nat.le_refl _) (show ZaV X.prog X.w _ _ _ (.tup ys) from ⟨hz,its,r',ZcT.new _ _⟩)
  exact ⟨.ref h'.objs.size,_,I2,rfl,q _ (I1.hok.fresh (Nat.le_refl _))⟩
 ·obtain ⟨its,r',pl,hz⟩:=I.tuple hq
  exact call_tuple_same pl ⟨.ref p,H,I,rfl,q⟩
def tyV (K:PySem.W.Frag) (T:String) (x:V) (H:Hp):Prop:=match x with
 | .str _=>T = "str"
 | .int _=>T = "int"
 | .ref p=>(T = "list" ∧ ∃ xs,SqL K H p xs) ∨ (T = "tuple" ∧ ∃ o,K.lookup p = some o ∧ o.cls = .type "tuple" ∧ o.dict = none) ∨
   (T = "dict" ∧ ((∃ kvs,H p = some (.dK kvs)) ∨ ∃ kvs,H p = some (.dT kvs))) ∨ (T = "set" ∧ ∃ S n,H p = some (.set S n))
 | _=>False
theorem ZlM {pins:List (Addr × Obj)} {σ:St} {H:Hp} {s:Shared} {T:String} {x:V} {v:Value} (I:Inv X pins σ H s) (r:RelV x v) (ty:tyV X.K T x H):
  s.TypeIs v T ∧ ∀ a,v = .ref a → ∃ ob,s.heap.get? a = some ob ∧ ob.dict = none:=by
 cases x with
 | str z=>
  obtain ⟨t,rfl⟩:=r
  cases (show T = "str" from ty)
  exact ⟨typeIs_str s z t,fun _ e=>nomatch e⟩
 | int i=>
  obtain ⟨t,rfl⟩:=r
  cases (show T = "int" from ty)
  exact ⟨typeIs_int s i t,fun _ e=>nomatch e⟩
 | ref p=>
  cases r
  rcases ty with ⟨rfl,xs,hq⟩ | ⟨rfl,o,hk,hc,hd⟩ | ⟨rfl,hk⟩ | ⟨rfl,S,n,hk⟩
  ·obtain ⟨its,_,pl,_⟩:=I.list hq
   refine ⟨pl.isList.typeIs,fun a e=>?_⟩
   cases e
   obtain ⟨o,n,e,c,hd,_⟩:=pl
   exact ⟨o,e,hd⟩
  ·refine ⟨⟨o,I.kIn p o hk,hc⟩,fun a e=>?_⟩
   cases e
   exact ⟨o,I.kIn _ o hk,hd⟩
  ·have z:∃ o,s.heap.get? p = some o ∧ o.ExactDict:=by
    rcases hk with ⟨kvs,hk⟩ | ⟨kvs,hk⟩
    ·obtain ⟨_,_,_,_,o,_,_,e,ex,_⟩:=I.hok p _ hk
     exact ⟨o,e,ex⟩
    ·obtain ⟨_,_,_,_,o,_,_,e,ex,_⟩:=I.hok p _ hk
     exact ⟨o,e,ex⟩
   obtain ⟨o,e,ex⟩:=z
   refine ⟨⟨o,e,ex.1⟩,fun a e2=>?_⟩
   cases e2
   exact ⟨o,e,ex.2.1⟩
  ·obtain ⟨o,_,_,_,e,ex,_⟩:=I.hok p _ hk
   refine ⟨⟨o,e,ex.1⟩,fun a e2=>?_⟩
   cases e2
   exact ⟨o,e,ex.2.1⟩
 | _=>exact False.elim ty
def ZsJ (K:PySem.W.Frag) (T:String) (r:V → List V → Hp → VK → Prop) (to:TE):TE:=fun σ H Q=>to σ H fun x H1=>tyV K T x H1 ∧ r x [] H1 Q
def tBM (K:PySem.W.Frag) (T:String) (r:V → List V → Hp → VK → Prop) (to:TE) (t:TA):TE:=fun σ H Q=>to σ H fun x H1=>tyV K T x H1 ∧ t σ H1 fun xs H2=>r x xs H2 Q
variable {o e:Expr} {es:List Expr} {to:TE} {t:TA} {name:Str} {apos cpos:Pos} {T id:String} {r:V → List V → Hp → VK → Prop}
theorem Zqj (pa:PlainAttrs T) (slot:Slot T name id) (hty:typeOf (.builtin id) = pure (.type "method_descriptor")) (hm:MtR X id r) (ho:PE X o to)
  (hbase:attributeBase o name X.env (eval o X.env) = eval o X.env:=by rfl) (hline:(apos.endLine == cpos.line) = true:=by rfl):PE X (.Call (.Attribute o name apos) [] [] cpos) (ZsJ X.K T r to):=by
 intro pins s σ H Q I h
 refine wpAny_Call_method0_late hbase hline (thn (ho pins s σ H _ I h) fun v s1 zz1=>?_)
 obtain ⟨x,H1,I1,r1,ty,q1⟩:=zz1
 obtain ⟨h1,h2⟩:=ZlM I1 r1 ty
 exact ⟨T,id,pa,slot,hty,h1,h2,Calls.callWith_builtin rfl (PySem.evalArgs_none (hm pins s1 σ H1 x [] v [] Q I1 r1 .nil q1))⟩
theorem ZsN (pa:PlainAttrs T) (slot:Slot T name id) (hty:typeOf (.builtin id) = pure (.type "method_descriptor")) (hm:MtR X id r) (ho:PE X o to) (ha:PA X (e :: es) t)
  (hbase:attributeBase o name X.env (eval o X.env) = eval o X.env:=by rfl)
  (hfew:((backTo cpos (starEach (e :: es) X.env)).all (fun x=>!x.1) && (backToKw cpos (keywordEach [] X.env)).all (fun x=>x.1.isSome)
   && decide ((e :: es).length + ([]:List Keyword).length + (if ([]:List Keyword).isEmpty then 0 else 1) < 30)) = true:=by rfl)
  (hline:(apos.endLine == cpos.line) = true:=by rfl) (hs:starEach (e :: es) X.env = (false,eval e X.env) :: starEach es X.env:=by rfl) (hplain:(backTo cpos (starEach es X.env)).any (·.1) = false:=by rfl):
  PE X (.Call (.Attribute o name apos) (e :: es) [] cpos) (tBM X.K T r to t):=by
 intro pins s σ H Q I h
 refine wpAny_Call_method_late hbase hfew hline rfl (thn (ho pins s σ H _ I h) fun v s1 zz1=>?_)
 obtain ⟨x,H1,I1,r1,ty,q1⟩:=zz1
 obtain ⟨h1,h2⟩:=ZlM I1 r1 ty
 refine ⟨T,id,pa,slot,hty,h1,h2,?_⟩
 have hA:=ha cpos pins s1 σ H1 _ I1 q1
 rw [hs] at hA ⊢
 refine Calls.callWith_builtin (by show (false || (backTo cpos (starEach es X.env)).any (·.1)) = false; rw [hplain] <;> rfl) (Calls.evalArgs_plain ?_)
 exact thn hA fun us s2 ⟨vs,H2,I2,r2,q2⟩=>hm pins s2 σ H2 x vs v us Q I2 r1 r2 q2
/- xs.append(e),list.index on a module's tuple .. are MtR facts of 06m -/
end
end L2
namespace L2
open PySem PySem.Spec PyProof.Rows
def MtM (X:Cx) (id:String) (r:V → List V → Hp → VK → Prop):Prop:=
 ∀ (pins:List (Addr × Obj)) (s:Shared) (σ:St) (H:Hp) (x:V) (xs:List V) (v:Value) (us:List Value) (Q:VK),Inv X pins σ H s → RelV x v → Vals xs us → r x xs H Q →
  wpAny (model X.prog X.w) X.A (call (.builtin id) (v :: us)) (EP X pins σ Q) X.xe s
theorem Vals.one:∀ {x:V} {us:List Value},Vals [x] us → ∃ u,us = [u] ∧ RelV x u
 | _,_,.cons r .nil=>⟨_,rfl,r⟩
theorem Vals.zero:∀ {us:List Value},Vals [] us → us = []
 | _,.nil=>rfl
theorem Vals.dropLast {xs:List V} {us:List Value} (h:Vals xs us):Vals xs.dropLast us.dropLast:=by
 induction h with
 | nil=>exact .nil
 | cons r t ih=>
  cases t with
  | nil=>exact .nil
  | cons q t'=>exact .cons r ih
theorem Vals.eraseIdx:∀ {xs:List V} {us:List Value} (i:Nat),Vals xs us → Vals (xs.eraseIdx i) (us.eraseIdx i)
 | _,_,_,.nil=>.nil
 | _,_,0,.cons _ t=>t
 | _,_,i + 1,.cons r t=>.cons r (Vals.eraseIdx i t)
theorem Vals.reverse {xs:List V} {us:List Value} (h:Vals xs us):Vals xs.reverse us.reverse:=by
 induction h with
 | nil=>exact .nil
 | cons r t ih=>rw [List.reverse_cons,List.reverse_cons]; exact Vals.append ih (.cons r .nil)
theorem Vals.rep {xs:List V} {us:List Value} (h:Vals xs us):∀ k:Nat,Vals (List.replicate k xs).flatten (List.replicate k us).flatten
 | 0=>.nil
 | k + 1=>by
  rw [List.replicate_succ,List.replicate_succ,List.flatten_cons,List.flatten_cons]
  exact Vals.append h (Vals.rep h k)
theorem ZjP {α:Type} (l:List α):l.eraseIdx (l.length - 1) = l.dropLast:=by
 induction l with
 | nil=>rfl
 | cons a r ih=>
  cases r with
  | nil=>rfl
  | cons b r=>
   have e:(a :: b :: r).length - 1 = ((b :: r).length - 1) + 1:=by
    have h1:(a :: b :: r).length = r.length + 2:=rfl
    have h2:(b :: r).length = r.length + 1:=rfl
    exact Nat.le_antisymm (lE 4 0xa4c30a4c0012a3c2121b1c221a1c031 T1 h2 h1 (Nat.sub_add_cancel (lB 1 687760064561 T1 h1)) (sbA _ _)) (lE 4 0x3a4c00a4c21a3c20121b1c231a1c021 T1 h2 h1 (sbA _ _) (Nat.sub_add_cancel (lB 1 2694955057 T1 h2)))
   rw [e,List.eraseIdx_cons_succ,ih]
   all_goals rfl
theorem Zg6 {α:Type}:∀ (l:List α) (i:Nat),(l.eraseIdx i).length ≤ l.length
 | [],_=>Nat.le_refl _
 | _ :: _,0=>Nat.le_succ _
 | _ :: r,i + 1=>Nat.succ_le_succ (Zg6 r i)
theorem foldl_rep (its:List Value):∀ (k:Nat) (acc:List Value),
  List.foldl (fun x1 x2=>x1 ++ x2) acc.toArray (List.replicate k its.toArray) = (acc ++ (List.replicate k its).flatten).toArray
 | 0,acc=>by simp
 | k + 1,acc=>by
  have e:acc.toArray ++ its.toArray = (acc ++ its).toArray:=by simp
  have e2:(acc ++ its) ++ (List.replicate k its).flatten = acc ++ (List.replicate (k + 1) its).flatten:=by
   rw [List.replicate_succ,List.flatten_cons,List.append_assoc]
  rw [← e2,← foldl_rep its k (acc ++ its),← e,List.replicate_succ,List.foldl_cons]
section
variable {X:Cx} {pins:List (Addr × Obj)} {σ:St} {H:Hp} {s:Shared} {l b:Addr} {xs ys zs:List V}
theorem Inv.lset {its its':List Value} {n:Nat} {f:Array Value → Array Value} {t':Nat} (I:Inv X pins σ H s) (hH:H l = some (.lst xs))
  (e:s.heap.get? l = some { cls:=.type "list",data:=.seq its.toArray n }) (hf:f its.toArray = its'.toArray) (hv:Vals ys its') (hz:ys.length ≤ sizeLine):
  Inv X pins σ (upd H l (.lst ys)) { s with heap:=s.heap.update l (Obj.mapSeq f),toks:=t' }:=by
 have q:=PySem.IsL.update e f
 rw [hf] at q
 refine I.write (x:=l) (e:=l) (by rw [hH]; exact trivial) (.inl rfl) (fun b' u hb hu=>(Heap.get?_update_other s.heap (Obj.mapSeq f) (Ne.symm hb)).trans hu) ⟨_,q⟩ ?_
 exact ⟨hz,its',_,hv,q⟩
theorem Inv.lnew {its:List Value} {t':Nat} (I:Inv X pins σ H s) (hv:Vals ys its) (hz:ys.length ≤ sizeLine):
  Inv X pins σ (upd H s.heap.objs.size (.lst ys)) { s with heap:=s.heap.push { cls:=.type "list",data:=.seq its.toArray },toks:=t' }:=
 I.laid (fun _ _ q=>Heap.get?_push_of_some _ q) (Nat.le_refl _) ⟨hz,its,0,hv,Heap.get?_push_size _ rfl⟩
theorem Inv.fresh (I:Inv X pins σ H s):H s.heap.objs.size = none:=I.hok.fresh (Nat.le_refl _)
theorem Inv.lstM (I:Inv X pins σ H s) (hH:H l = some (.lst xs)):xs.length ≤ sizeLine ∧ ∃ (its:List Value) (n:Nat),Vals xs its ∧ xs.length = its.length ∧ s.heap.get? l = some { cls:=.type "list",data:=.seq its.toArray n }:=by
 obtain ⟨z,its,n,r,e⟩:=I.hok l _ hH
 exact ⟨z,its,n,r,r.length,e⟩
theorem Zmc {n:Nat} (h:n ≤ sizeLine):Builtin.List.listTooLong n = false:=by
 unfold Builtin.List.listTooLong
 exact decide_eq_false (by omega)
end
section
variable {X:Cx}
noncomputable def Zka:V → List V → Hp → VK → Prop:=fun x vs H Q=>∃ l xs y,x = .ref l ∧ vs = [y] ∧ H l = some (.lst xs) ∧ xs.length < sizeLine ∧ Q .non (upd H l (.lst (xs ++ [y])))
theorem ZgH:MtM X "list.append" Zka:=by
 intro pins s σ H x vs v us Q I rx rv h
 obtain ⟨l,xs,y,rfl,rfl,hH,hz,q⟩:=h
 cases rx
 obtain ⟨u,rfl,ru⟩:=rv.one
 obtain ⟨z,its,n,r,hl,e⟩:=I.lstM hH
 refine call_meets F.slot_list_append ⟨_,e,rfl⟩ F.entry_list_append (F.args_list_append_2 _ _) (PySem.list_append l its.toArray n u (by rw [List.size_toArray]; exact lC 2 2268279672881 T1 hl z)) ⟨e,?_⟩
 refine ⟨.non,_,I.lset (its':=its ++ [u]) hH e (by simp) (r.append (.cons ru .nil)) ?_,rfl,q⟩
 rw [List.length_append,List.length_singleton]
 exact lB 1 6991908881 T1 hz
noncomputable def ZrR:V → List V → Hp → VK → Prop:=fun x vs H Q=>∃ l xs y,x = .ref l ∧ vs = [] ∧ H l = some (.lst xs) ∧ xs[xs.length - 1]? = some y ∧ Q y (upd H l (.lst xs.dropLast))
theorem Zqd:MtM X "list.pop" ZrR:=by
 intro pins s σ H x vs v us Q I rx rv h
 obtain ⟨l,xs,y,rfl,rfl,hH,hy,q⟩:=h
 cases rx
 have hus:=rv.zero
 subst hus
 obtain ⟨z,its,n,r,hl,e⟩:=I.lstM hH
 obtain ⟨u,hu,ru⟩:=r.get hy
 have hy':its.toArray[its.toArray.size - 1]? = some u:=by
  show its.toArray[its.length - 1]? = some u
  rw [← Array.getElem?_toList,← hl]
  exact hu
 refine call_meets F.slot_list_pop ⟨_,e,rfl⟩ F.entry_list_pop (F.args_list_pop_1 _) (MeetsSeq.list_pop_last l its.toArray n u hy' (by rw [List.size_toArray]; exact lC 2 2268279672881 T1 hl z)) ⟨e,?_⟩
 refine ⟨y,_,I.lset (its':=its.dropLast) hH e ?_ r.dropLast ?_,ru,q⟩
 ·show its.toArray.eraseIdxIfInBounds (its.toArray.size - 1) = its.dropLast.toArray
  rw [List.size_toArray,List.eraseIdxIfInBounds_toArray,ZjP]
 ·rw [List.length_dropLast]
  exact Nat.le_trans (Nat.sub_le _ _) z
noncomputable def ZlK:V → List V → Hp → VK → Prop:=fun x vs H Q=>∃ l xs i k y,x = .ref l ∧ vs = [.int i] ∧ H l = some (.lst xs) ∧ -(2 ^ 63) ≤ i ∧ i < 2 ^ 63 ∧ seqIndex? i xs.length = some k ∧ xs[k]? = some y ∧ Q y (upd H l (.lst (xs.eraseIdx k)))
theorem Zm3:MtM X "list.pop" ZlK:=by
 intro pins s σ H x vs v us Q I rx rv h
 obtain ⟨l,xs,i,k,y,rfl,rfl,hH,h1,h2,hk,hy,q⟩:=h
 cases rx
 obtain ⟨u,rfl,ru⟩:=rv.one
 obtain ⟨t,rfl⟩:=ru
 obtain ⟨z,its,n,r,hl,e⟩:=I.lstM hH
 obtain ⟨w,hw,rw'⟩:=r.get hy
 refine call_meets F.slot_list_pop ⟨_,e,rfl⟩ F.entry_list_pop (F.args_list_pop_2 _ _)
  (MeetsSeq.list_pop_at l its.toArray n i t k w (fitsIndex_both h1 h2) (by rw [List.size_toArray,← hl]; exact hk) (by rw [← Array.getElem?_toList]; exact hw) (by rw [List.size_toArray]; exact lC 2 2268279672881 T1 hl z)) ⟨e,?_⟩
 refine ⟨y,_,I.lset (its':=its.eraseIdx k) hH e ?_ (r.eraseIdx k) ?_,rw',q⟩
 ·show its.toArray.eraseIdxIfInBounds k = (its.eraseIdx k).toArray
  rw [List.eraseIdxIfInBounds_toArray]
 ·have:=Zg6 xs k
  exact Nat.le_trans this z
def ZtG:R2:=fun x y H Q=>∃ l b xs zs,x = .ref l ∧ y = .ref b ∧ H l = some (.lst xs) ∧ H b = some (.lst zs) ∧ xs.length + zs.length ≤ sizeLine ∧ ∀ p,H p = none → Q (.ref p) (upd H p (.lst (xs ++ zs)))
theorem ZqK:OpR X (binaryOp .Add) ZtG:=by
 intro pins s σ H x y v u Q I rx ry h
 obtain ⟨l,b,xs,zs,rfl,rfl,hH,hB,hz,q⟩:=h
 cases rx
 cases ry
 obtain ⟨z,its,n,r,hl,e⟩:=I.lstM hH
 obtain ⟨z2,its2,n2,r2,hl2,e2⟩:=I.lstM hB
 refine PySem.P.add_list e e2 ?_ (by rw [List.size_toArray,List.size_toArray]; exact lE 3 0x413c0402c0132311031 T1 hl2 hl hz)
 have ea:its.toArray ++ its2.toArray = (its ++ its2).toArray:=by simp
 rw [ea]
 exact ⟨.ref _,_,I.lnew (t':=s.toks) (r.append r2) (by rw [List.length_append]; exact hz),rfl,q _ I.fresh⟩
def ZtF:R2:=fun x y H Q=>∃ l k xs,x = .ref l ∧ y = .int k ∧ H l = some (.lst xs) ∧ -(2 ^ 63) ≤ k ∧ k < 2 ^ 63 ∧ xs.length * k.toNat ≤ sizeLine ∧
 ∀ p,H p = none → Q (.ref p) (upd H p (.lst (List.replicate k.toNat xs).flatten))
theorem len_rep {α:Type} (xs:List α) (k:Nat):(List.replicate k xs).flatten.length = k * xs.length:=by
 induction k with
 | zero=>simp
 | succ k ih=>rw [List.replicate_succ,List.flatten_cons,List.length_append,ih,Nat.succ_mul,Nat.add_comm]
theorem ZpD:OpR X (binaryOp .Mult) ZtF:=by
 intro pins s σ H x y v u Q I rx ry h
 obtain ⟨l,k,xs,rfl,rfl,hH,h1,h2,hz,q⟩:=h
 cases rx
 obtain ⟨t,rfl⟩:=ry
 obtain ⟨z,its,n,r,hl,e⟩:=I.lstM hH
 have hlen:its.toArray.size * k.toNat ≤ sizeLine:=by rw [List.size_toArray,← hl]; exact hz
 have hcap:¬ its.toArray.size * k.toNat > (2 ^ 63 - 1) / 8:=by
  have:(sizeLine:Nat) ≤ (2 ^ 63 - 1) / 8:=by decide
  omega
 have hfit:¬ (!Builtin.List.listFitsIndex k) = true:=by
  rw [fitsIndex_both h1 h2]
  exact Bool.false_ne_true
 have hlong:¬ Builtin.List.listTooLong (its.toArray.size * k.toNat) = true:=by
  rw [Zmc hlen]
  exact Bool.false_ne_true
 have hnew:List.foldl (fun x1 x2=>x1 ++ x2) #[] (List.replicate (if its.toArray.isEmpty = true then 0 else k.toNat) its.toArray) = (List.replicate k.toNat its).flatten.toArray:=by
  have f0:∀ m:Nat,List.foldl (fun x1 x2=>x1 ++ x2) #[] (List.replicate m its.toArray) = (List.replicate m its).flatten.toArray:=fun m=>by
   have:=foldl_rep its m []
   rw [List.nil_append] at this
   exact this
  rw [f0]
  cases its with
  | nil=>simp
  | cons a r'=>rw [if_neg (by simp)]
 refine wpAny_binaryOp_repeat_ref (T:="list") (U:="int") (by decide) ⟨_,e,rfl⟩ (fun s'=>typeIs_int s' k t) noFill_list_mul F.fills_int_mul F.slot_int_rmul repeat_list F.slot_int_index.lookup
  (call_meets F.slot_int_rmul (typeIs_int s k t) F.entry_int_rmul (F.args_int_rmul_2 _ _) (int___rmul___int_list k t l its.toArray n)
   ⟨e,rfl,⟨_,e,rfl⟩,call_meets F.slot_list_mul ⟨_,e,rfl⟩ F.entry_list_mul (F.args_list_mul_2 _ _) (AutoListH.list___mul___list_int_3 l its.toArray n k t hfit hcap hlong) ⟨e,?_⟩⟩)
 rw [hnew]
 exact ⟨.ref _,_,I.lnew (t':=s.toks) (r.rep k.toNat) (by rw [len_rep,Nat.mul_comm]; exact hz),rfl,q _ I.fresh⟩
end
section
variable {prog:Program} {w:World} {A:Around} {E:Value → Shared → Prop} {s:Shared}
end
section
variable {X:Cx}
end
end L2
namespace Att
open PySem PySem.W PySem.Calls PyProof.Rows
theorem Zfp {P:Params} {h:Heap}:∀ (ns:List Int) (vs:List Value),WellAll P h vs (ns.map WData.int) → IntsAre vs ns:=by
 intro ns
 induction ns with
 | nil=>
  intro vs w
  rw [List.map_nil] at w
  cases w
  exact .nil
 | cons n ns ih=>
  intro vs w
  rw [List.map_cons] at w
  cases w with
  | cons a b=>
   cases a
   exact .cons _ _ (ih _ b)
theorem ZkV {l:OpenLaw} {n:Nat} (hn:l.most = some n) {P:Params} {h:Heap} {args:List WData} {vals:List Value}
  (hpre:l.row.toRowW.claim.pre args = true) (hwl:WellAll P h vals args):
  ∃ a vs ns,vals = [Value.ref a] ∧ args = [WData.list (ns.map WData.int)] ∧ h.get? a = some { cls:=.type "list",data:=.seq vs.toArray } ∧ IntsAre vs ns ∧ ns.length ≤ n:=by
 have hsh:WShape.hasAll [] args [.list .int] = true:=(pre_splitW hpre).1
 have hc:l.pre.holds [] { args:=args } = true:=(pre_splitW hpre).2
 obtain ⟨d,r,rfl,h1,h2⟩:=hasAllW_cons hsh
 obtain rfl:=hasAllW_nil h2
 obtain ⟨xs,rfl,h3⟩:=hasW_list h1
 obtain ⟨ns,rfl⟩:=items_int h3
 have hlen:ns.length ≤ n:=by
  unfold OpenLaw.pre at hc
  have h4:(WTm.not (.lt (.lit (.int (n:Int))) (.len (.arg 0)))).holds [] { args:=[.list (ns.map .int)] } = true:=by
   have h4:=(holds_andW hc).1
   rw [hn] at h4
   exact h4
  have h5:=condW_of h4 (w_not (w_lt w_lit (w_len_list (w_arg rfl))))
  rw [List.length_map] at h5
  refine Nat.le_of_not_lt fun q=>?_
  have q':(n:Int) < ((ns.length:Nat):Int):=by exact Int.ofNat_lt.2 q
  first
   | (rw [decide_eq_true q'] at h5; exact absurd h5 (by decide))
   | (simp at h5; omega)
 cases hwl with
 | cons w1 w2=>
  cases w2
  cases w1 with
  | list ho hall=>exact ⟨_,_,ns,rfl,rfl,ho,Zfp ns _ hall,hlen⟩
theorem Zls (l:OpenLaw) (args:List WData):l.row.toRowW.claim.post args (.bool true) args = true:=
 postW_of (r:=l.row.toRowW) (X:=(true == true))
  (show WShape.has [] (.bool true) .bool = true by first | rfl | decide | simp [WShape.has,WShape.arms,WShape.armsAll])
  (show (WTm.eq .res (.lit (.bool true))).value [] { args:=args,res:=some (.bool true),after:=args } = some (.bool (true == true)) from w_eq_bool (w_res rfl) w_lit) rfl
theorem attach_call {l:OpenLaw} {n:Nat} {q:Program} {loose:List Str} {XP:(Str → Option Value) → Heap → Prop} {YP:World → Heap → Prop} {d:DefRec}
  (hn:l.most = some n) (hdf:d.params.defaults = [])
  (call:∀ (w:World) (s₀ s₁:Shared) (mg mb:Str → Option Value) (fa:Addr) (o:Obj) (pm cd doc:Value) (a:Addr) (vs:List Value) (ns:List Int),
   Ground q loose [] XP w s₀ mg mb s₁.heap → YP w s₁.heap →
   s₁.heap.get? fa = some o → o.data = .func (docDef d.name d.params d.body d.scope pm cd doc) → s₁.heap.CodeRec cd d.name → mg d.name = some (.ref fa) →
   s₁.heap.get? a = some { cls:=.type "list",data:=.seq vs.toArray } → IntsAre vs ns → ns.length ≤ n → s₁.gens = #[] →
   codeAny (model l.prog w) callerA (.call (.ref fa) ⟨[.ref a],[]⟩) (fun r s'=>r = .ok (.ret (.bool true)) ∧ OldK s₁.heap s'.heap ∧ s'.os = s₁.os ∧ AllBare s'.gens) s₁):
  WalkO q loose XP YP l.row.toRowW d [] (fun f vs=>PySem.call f vs):=by
 intro w s₀ s₁ mg mb G Y fa o pm cd doc dV kV ho hd hcd hD hmg hg args vals as hpre hlay hrd hwl hlo
 obtain rfl:dV = .none:=Dflts.none hD hdf
 obtain rfl:kV = .none:=Dflts.noKw hD
 obtain ⟨a,vs,ns,rfl,rfl,hobj,hints,hlen⟩:=ZkV hn hpre hwl
 refine enter_call (codeAny_mono (call w s₀ s₁ mg mb fa o pm cd doc a vs ns G Y ho (fd_plain hd) hcd hmg hobj hints hlen hg) fun r s' hq=>?_)
 obtain ⟨rfl,h2,h3,h4⟩:=hq
 exact ⟨.inl ⟨.bool true,.bool true,[],rfl,fun _=>rfl,.bool true,Zls l _,fun _=>⟨List.Pairwise.nil,fun _ hm=>(nomatch hm)⟩⟩,h2,h3,h4⟩
section
variable {prog:Program} {w:World} {A:Around} {E:Value → Shared → Prop} {s:Shared} {K:Frag}
end
end Att
namespace L2
open PySem PySem.Spec PyProof.Rows
theorem Zg8:∀ {vs:List Value} {ns:List Int},IntsAre vs ns → Vals (ns.map V.int) vs
 | _,_,.nil=>.nil
 | _,_,.cons n t h=>.cons ⟨t,rfl⟩ (Zg8 h)
def Only (H:Hp):Prop:=∀ b,H b = none ∨ ∃ o xs,H b = some (.frz o (.lst xs))
theorem ZlY {P:Program} {w:World} {K:PySem.W.Frag} {mg mb:Str → Option Value} {CX:CXT} {k:Nat} {fa a:Addr} {fd:FuncData} {x:Str} {sp:Sp} {s₁:Shared} {vs:List Value} {ns:List Int}
  (KX:K.In s₁.heap) (hns:s₁.heap.Ns mainGlobals mg) (hb:s₁.heap.Ns builtinsNs mb) (hbb:∀ x:Str,x ≠ "__name__" → mb x = bootBuiltins x) (hlim:s₁.heap.NoLimit) (hg:s₁.gens = #[])
  (ha:s₁.heap.get? a = some { cls:=.type "list",data:=.seq vs.toArray }) (hi:IntsAre vs ns) (hl:ns.length ≤ sizeLine) (hr:Za4 k callerA)
  (F:∀ base:Heap,K.In base → base.Ns mainGlobals mg → Zcu P w K mg base CX k fa fd [x] sp) (hbind:∀ (s:Shared) (u:Value),BindsTo s fd ⟨[u],[]⟩ [(x,u)])
  (hsp:∀ H:Hp,Only H → SqL K H a (ns.map V.int) → sp [.ref a] H (fun v _=>v = .bl true) fun _ _ _=>False)
  (hCX:∀ H e s',CX [] H s₁ (fun _ _ _=>False) e s' → False):
  codeAny (model P w) callerA (.call (.ref fa) ⟨[.ref a],[]⟩) (fun r s'=>r = .ok (.ret (.bool true)) ∧ OldK s₁.heap s'.heap ∧ s'.os = s₁.os ∧ AllBare s'.gens) s₁:=by
 have rv:=Zg8 hi
 have lenV:=hi.length
 have core:∀ H:Hp,Only H → SqL K H a (ns.map V.int) → HOk P w H s₁.heap → (∀ b,H b ≠ none → b = a) → (H a ≠ none → K.lookup a = none) →
   codeAny (model P w) callerA (.call (.ref fa) ⟨[.ref a],[]⟩) (fun r s'=>r = .ok (.ret (.bool true)) ∧ OldK s₁.heap s'.heap ∧ s'.os = s₁.os ∧ AllBare s'.gens) s₁:=by
  intro H hO hS hok hA hK
  have base_of:∀ {b:Addr} {o:Obj},s₁.heap.get? b = some o → H b = none → (ZhX s₁.heap H).get? b = some o:=fun e n=>Zmi e n
  have noA:∀ {b:Addr} {o:Obj} {es:Array DictEntry} {ep:Nat},s₁.heap.get? b = some o → o.data = .dict es ep → H b = none:=fun {b o es ep} e d=>by
   cases q:H b with
   | none=>rfl
   | some u=>
    have e':b = a:=hA b (by rw [q]; simp)
    subst e'
    rw [ha] at e; cases e
    have d':Data.seq vs.toArray _ = Data.dict es ep:=d
    cases d'
  have nsK:∀ {b:Addr} {m:Str → Option Value},s₁.heap.Ns b m → (ZhX s₁.heap H).Ns b m:=fun {b m} ⟨o,es,ep,e,d,r⟩=>⟨o,es,ep,base_of e (noA e d),d,r⟩
  have hKb:K.In (ZhX s₁.heap H):=fun b o e=>base_of (KX b o e) (by
   cases q:H b with
   | none=>rfl
   | some u=>
    have e':b = a:=hA b (by rw [q]; simp)
    subst e'
    rw [hK (by rw [q]; simp)] at e; cases e)
  have hM:Mod K mg (ZhX s₁.heap H):=⟨hKb,nsK hns,⟨mb,nsK hb,hbb⟩,let ⟨mc,h1,h2⟩:=hlim; ⟨mc,nsK h1,h2⟩⟩
  have e0:Zgx P w K mg (ZhX s₁.heap H) callerA [] s₁ H:=⟨rfl,hM,fun b o e=>Zos e,Nat.le_of_eq (ZkC _ _),trivial,fun b hb=>absurd (show b ∈ ([]:List Addr) from hb) (by simp),hok,.of_eq hg⟩
  refine codeAny_mono ((F _ hKb (nsK hns)).run callerA [] s₁ H ⟨[.ref a],[]⟩ [.ref a] [.ref a] _ _ hr e0 (hbind s₁ (.ref a)) (.cons rfl .nil) (hsp H hO hS)) fun r s' h=>?_
  cases r with
  | error e=>exact (hCX H e s' h).elim
  | ok fl=>
   cases fl with
   | next=>exact False.elim h
   | brk=>exact False.elim h
   | cont=>exact False.elim h
   | ret u=>
    obtain ⟨v,H',os,bare,un,hok',r',q⟩:=h
    have q':v = .bl true:=q
    subst q'
    obtain rfl:u = Value.bool true:=r'
    refine ⟨rfl,OldK.of_keep fun b o e=>?_,os,bare⟩
    cases q:H b with
    | none=>exact un.keep b o e q (by intro z; exact absurd (show b ∈ ([]:List Addr) from z) (by simp)) (by simp)
    | some u=>
     rcases hO b with z | ⟨ob,xs,z⟩
     ·rw [q] at z; cases z
     ·have z2:=un.frzs b ob _ z
      obtain ⟨e1,_⟩:=hok b _ z
      obtain ⟨e2,_⟩:=hok' b _ z2
      rw [e] at e1; cases e1
      exact e2
 cases hk:K.lookup a with
 | some o=>
  have e:=KX a o hk
  rw [ha] at e
  cases e
  refine core (fun _=>none) (fun _=>.inl rfl) (.inr ⟨_,vs.toArray,_,hk,rfl,rfl,rfl,by rw [List.size_toArray,lenV]; exact hl,by simpa using rv⟩) (fun b u z=>by have z':(none:Option HO) = some u:=z; cases z') (fun b z=>absurd rfl z) fun z=>absurd rfl z
 | none=>
  refine core (fun b=>if b = a then some (.frz { cls:=.type "list",data:=.seq vs.toArray } (.lst (ns.map V.int))) else none) (fun b=>?_) (.inl (.inr ⟨{ cls:=.type "list",data:=.seq vs.toArray },if_pos rfl⟩)) (fun b u z=>?_) (fun b z=>?_) fun _=>hk
  ·by_cases hb:b = a
   ·exact .inr ⟨_,_,if_pos hb⟩
   ·exact .inl (if_neg hb)
  ·by_cases hb:b = a
   ·have z':=(if_pos hb).symm.trans z
    cases z'
    subst hb
    exact ⟨ha,by rw [List.length_map]; exact hl,vs,_,rv,ha⟩
   ·have z':=(if_neg hb).symm.trans z
    cases z'
  ·by_cases hb:b = a
   ·exact hb
   ·exact absurd (if_neg hb) z
end L2
namespace L2
open PySem PySem.Spec PyProof.Rows
theorem Zj3 {l:PySem.W.OpenLaw} {n k:Nat} {q:Program} {loose:List Str} {XP:(Str → Option Value) → Heap → Prop} {YP:World → Heap → Prop} {d:DefRec} {K:Params → PySem.W.Frag} {CX:World → CXT} {sp:World → Sp} {x:Str}
  (hn:l.most = some n) (hn2:n ≤ sizeLine) (hdf:d.params.defaults = []) (hr:Za4 k callerA)
  (hY:∀ (w:World) (h:Heap),YP w h → (K w.params).In h)
  (F:∀ (w:World) (mg:Str → Option Value) (fa:Addr) (h:Heap),(K w.params).In h → h.Ns mainGlobals mg → mg d.name = some (.ref fa) →
   ∃ fd:FuncData,(∀ (s:Shared) (u:Value),BindsTo s fd ⟨[u],[]⟩ [(x,u)]) ∧
    ∀ base:Heap,(K w.params).In base → base.Ns mainGlobals mg → Zcu l.prog w (K w.params) mg base (CX w) k fa fd [x] (sp w))
  (hsp:∀ (w:World) (H:Hp) (a:Addr) (ns:List Int),ns.length ≤ n → Only H → SqL (K w.params) H a (ns.map V.int) → sp w [.ref a] H (fun v _=>v = .bl true) fun _ _ _=>False)
  (hCX:∀ (w:World) (H:Hp) (s:Shared) (e:Value) (s':Shared),CX w [] H s (fun _ _ _=>False) e s' → False):
  PySem.W.WalkO q loose XP YP l.row.toRowW d [] (fun f vs=>PySem.call f vs):=by
 refine Att.attach_call hn hdf fun w s₀ s₁ mg mb fa o pm cd doc a vs ns G Y ho hd hcd hmg hobj hints hlen hg=>?_
 have KX:=hY w _ Y
 obtain ⟨fd,hb,hF⟩:=F w mg fa _ KX G.T.g hmg
 exact ZlY KX G.T.g G.T.b G.T.builtins G.T.nolimit hg hobj hints (Nat.le_trans hlen hn2) hr hF hb (fun H hO hS=>hsp w H a ns hlen hO hS) fun H e s'=>hCX w H s₁ e s'
end L2
/- THE LAST THEOREM (shape; LID,My.* are yours):
  My.Adr: a structure of the addresses that your layer names (classes,functions); My.Txt K t: a structure (Prop) of the equations over K;
  My.txt_mk:{K} {implicit addresses ..} (e1:nsIn K mainGlobals "law" = some (some (.ref f))) (e2:K.lookup f = some ⟨oc,od,.func (fnOf "law" "law" params body scope dV kV doc pm an cdv ct),sl⟩) (e3:codeIn K cdv "law" = true) ..:∃ t,My.Txt K t
set_option maxRecDepth 100000 in
set_option maxHeartbeats 0 in
theorem PySem.Challenge.cw_LID_holds : PySem.Challenge.rw_LID.Holds := by
 w_on; o_law; k_head; (case hw=>w_witness2)
 k_fill
 refine L2.Zj3 (l:=PySem.Challenge.rw_LID) (n:=63) (k:=40) (x:="script") (CX:=fun w=>..) (sp:=fun _=>My.sp_law) rfl (by decide) rfl ⟨rfl,by decide,by decide⟩ (fun w h Y=>PySem.W.kIn_of Y) ?F ?S ?C
 case F=>
  intro w mg fa h KX G hmg
  have T:∃ t,My.Txt (L2.KOf KX) t:=by
   dsimp only [L2.KOf]                          -- K must stand as «<heap const> w.params» for k_is
   refine' My.txt_mk ?e1 ?e2 ?e3 ..
   (case e1=>PySem.W.k_is)                    -- in the order: a name -> its address -> its object -> its parts
   (case e2=>PySem.W.k_is)
   ..
  obtain ⟨t,T⟩:=T
  have e0:=hmg.symm.trans (PySem.W.mg_of KX G T.law)
  cases e0                                       -- fa is the law's own address
  exact ⟨_,fun s u=>.of_eq rfl,fun base kb nb=>My.law_fn T kb nb⟩     -- if «.of_eq rfl» comes too early: refine' ⟨_,?b,fun base kb nb=>My.law_fn T kb nb⟩; exact fun s u=>.of_eq rfl
 case S=>exact fun w H a ns hl hO hS=>..
 case C=>exact ..
(the tactic k_is has no namespace: write k_is) -/
namespace L2
open PySem PySem.Spec PyProof.Rows
noncomputable def Zad (s:Stmt):Arguments:=match s with
 | .FunctionDef _ a _ _ _ _ _ _ _ _=>a
 | _=>{ posonlyargs:=[],args:=[],vararg:=none,kwonlyargs:=[],kw_defaults:=[],kwarg:=none,defaults:=[] }
noncomputable def Zx (s:Stmt):List Stmt:=match s with
 | .FunctionDef _ _ b _ _ _ _ _ _ _=>b
 | _=>[]
noncomputable def Zh (s:Stmt):Scope:=match s with
 | .FunctionDef _ _ _ _ _ _ sc _ _ _=>sc
 | _=>{ kind:=.function,names:=[],isGenerator:=false,isCoroutine:=false }
noncomputable abbrev CX0:CXT:=fun _ _ _ _ _ _=>False
noncomputable abbrev E0:XK:=fun _ _ _=>False
theorem ZjZ {X:Cx}:Ze9 CX0 X E0:=fun _ _ _ _ _ _ _ h=>h.elim
structure Fun (K:PySem.W.Frag) (x qual:Str) (st:Stmt) (f:Addr) (fd:FuncData):Prop where
 ex:∃ (oc:Value) (od:Option Addr) (dV kV doc pm:Value) (an:Option Addr) (cdv ct:Value) (osl:Array (Option Value)),
  fd = PySem.W.fnOf x qual (Zad st) (Zx st) (Zh st) dV kV doc pm an cdv ct ∧ K.lookup f = some ⟨oc,od,.func fd,osl⟩ ∧ PySem.W.codeIn K cdv qual = true
 kp:PySem.W.keepIn K (.ref f) = true
section
variable {P:Program} {w:World} {K:PySem.W.Frag} {mg:Str → Option Value} {base:Heap}
theorem Fun.ok {x qual:Str} {st:Stmt} {f:Addr} {fd:FuncData} {N ps:List Str} {k:Nat} {sp:Sp} (F:Fun K x qual st f fd) (S:Zai N ps (Zh st)) (len:∀ vs H Q E,sp vs H Q E → vs.length = ps.length)
  (hbody:∀ (cdv:Value) (A:Around) (outer:List Env) (s:Shared) (H:Hp) (vs:List V) (Q:VK) (E:XK),Za4 k (A.deeper (envOfC qual (Zh st) s.heap.objs.size f cdv)) → sp vs H Q E →
   ∃ t,PSs (ZfJ CX0 P w K mg base N qual (Zh st) f cdv A outer s H E).nox (Zx st) t ∧ t { nx:=fun _ H'=>Q .non H',rt:=Q } (start N vs) H):Zcu P w K mg base CX0 (k + 1) f fd ps sp:=by
 obtain ⟨oc,od,dV,kV,doc,pm,an,cdv,ct,osl,rfl,lk,hcd⟩:=F.ex
 refine Zst lk hcd S len fun A outer s H vs Q E hr hsp=>?_
 obtain ⟨t,h,q⟩:=hbody cdv A outer s H vs Q E hr hsp
 exact ⟨t,h.nox,q⟩
theorem Fun.binds {x qual:Str} {st:Stmt} {f:Addr} {fd:FuncData} {ps:List Str} (F:Fun K x qual st f fd)
  (h:∀ (dV kV doc pm:Value) (an:Option Addr) (cdv ct:Value) (us:List Value),us.length = ps.length → bindArgs (PySem.W.fnOf x qual (Zad st) (Zx st) (Zh st) dV kV doc pm an cdv ct) ⟨us,[]⟩ = pure (ps.zip us)):Binds K fd ps []:=by
 obtain ⟨oc,od,dV,kV,doc,pm,an,cdv,ct,osl,rfl,lk,hcd⟩:=F.ex
 exact .all (h dV kV doc pm an cdv ct)
theorem ZjC {x qual:Str} {st:Stmt} {f:Addr} {oc:Value} {od an:Option Addr} {osl:Array (Option Value)} {dV kV doc pm cdv ct:Value} (l:K.lookup f = some ⟨oc,od,.func (PySem.W.fnOf x qual (Zad st) (Zx st) (Zh st) dV kV doc pm an cdv ct),osl⟩)
  (c:PySem.W.codeIn K cdv qual = true) (k:PySem.W.keepIn K (.ref f) = true):Fun K x qual st f (PySem.W.fnOf x qual (Zad st) (Zx st) (Zh st) dV kV doc pm an cdv ct):=⟨⟨oc,od,dV,kV,doc,pm,an,cdv,ct,osl,rfl,l,c⟩,k⟩
end
section
variable {X:Cx}
theorem pv (i:Nat) {x:Str} {pos:Pos} (hN:X.N[i]? = some x:=by rfl) (hv:Vis X.env.scope x:=by first | exact Or.inl rfl | exact Or.inr (Or.inl rfl) | exact Or.inr (Or.inr rfl)) (hd:(x == ("__debug__":Str)) = false:=by decide)
  (hcd:(x == ("__classdict__":Str)) = false:=by decide):PE X (.Name x pos) (ZsP i):=Zly hN hv hd hcd
end
def Zgv (H H':Hp):Prop:=∀ b o,H b = some o → H' b = some o
theorem Zgv.refl (H:Hp):Zgv H H:=fun _ _ h=>h
theorem Zgv.trans {H H1 H2:Hp} (a:Zgv H H1) (b:Zgv H1 H2):Zgv H H2:=fun c o h=>b c o (a c o h)
theorem Zgv.free {H H':Hp} (e:Zgv H H') {l:Addr} (h:H' l = Option.none):H l = Option.none:=by
 cases q:H l with
 | none=>rfl
 | some o=>
  rw [e l o q] at h
  cases h
theorem Zgv.seq {K:PySem.W.Frag} {H H':Hp} {a:Addr} {xs:List V} (e:Zgv H H') (h:SqL K H a xs):SqL K H' a xs:=by
 rcases h with (h | ⟨o,h⟩) | h
 ·exact .inl (.inl (e _ _ h))
 ·exact .inl (.inr ⟨o,e _ _ h⟩)
 ·exact .inr h
end L2
namespace L2
open PySem PySem.Spec PyProof.Rows
section
variable {κ:Type} [DecidableEq κ]
noncomputable def ZdH (kvs:List (κ × V)) (k:κ):Option V:=(kvs.find? fun kv=>decide (kv.1 = k)).map (·.2)
noncomputable def putK (kvs:List (κ × V)) (k:κ) (v:V):List (κ × V):=
 if (kvs.any fun kv=>decide (kv.1 = k)) = true then kvs.map (fun kv=>if kv.1 = k then (kv.1,v) else kv) else kvs ++ [(k,v)]
theorem Zms {k:κ}:ZdH ([]:List (κ × V)) k = none:=rfl
theorem ZeK {p:κ × V} {r:List (κ × V)} {k:κ} (e:p.1 = k):ZdH (p :: r) k = some p.2:=by simp [ZdH,List.find?_cons,e]
theorem ZeE {p:κ × V} {r:List (κ × V)} {k:κ} (e:¬ p.1 = k):ZdH (p :: r) k = ZdH r k:=by simp [ZdH,List.find?_cons,e]
theorem Ziw (k:κ):∀ kvs:List (κ × V),(kvs.any fun kv=>decide (kv.1 = k)) = (ZdH kvs k).isSome
 | []=>rfl
 | p :: r=>by
  rw [List.any_cons]
  by_cases e:p.1 = k
  ·simp only [ZeK e,decide_eq_true e,Bool.true_or,Option.isSome_some]
  ·rw [ZeE e,decide_eq_false e,Bool.false_or]; exact Ziw k r
theorem ZdD (kvs:List (κ × V)) (k:κ) (v:V):(putK kvs k v).length ≤ kvs.length + 1:=by
 unfold putK
 split
 ·rw [List.length_map]; exact Nat.le_add_right _ _
 ·rw [List.length_append,List.length_cons,List.length_nil]; exact lA 0 43162452160 T1
theorem Zdr.isSome_eq {o:Option V} {u:Option Value} (r:Zdr o u):o.isSome = u.isSome:=by
 cases o with
 | none=>cases u with
  | none=>rfl
  | some _=>exact (show False from r).elim
 | some _=>cases u with
  | none=>exact (show False from r).elim
  | some _=>rfl
theorem Zdr.getD {o:Option V} {u:Option Value} {d:V} {d':Value} (r:Zdr o u) (rd:RelV d d'):RelV (o.getD d) (u.getD d'):=by
 cases o with
 | none=>cases u with
  | none=>exact rd
  | some _=>exact (show False from r).elim
 | some _=>cases u with
  | none=>exact (show False from r).elim
  | some _=>exact r
theorem KV.val {kvs:List (κ × V)} {vs:List (κ × Value)} (r:KV kvs vs) (k:κ):Zdr (ZdH kvs k) (valueAt vs k):=by
 unfold KV at r
 induction r with
 | nil=>exact True.intro
 | @cons p q ps qs h t ih=>
  obtain ⟨h1,h2⟩:=h
  by_cases e:p.1 = k
  ·have e':q.1 = k:=h1.symm.trans e
   have b:valueAt (q :: qs) k = some q.2:=by simp [valueAt,List.find?_cons,e']
   rw [ZeK e,b]; exact h2
  ·have e':¬ q.1 = k:=fun z=>e (h1.trans z)
   have b:valueAt (q :: qs) k = valueAt qs k:=by simp [valueAt,List.find?_cons,e']
   rw [ZeE e,b]; exact ih
theorem KV.any {kvs:List (κ × V)} {vs:List (κ × Value)} (r:KV kvs vs) (k:κ):(kvs.any fun kv=>decide (kv.1 = k)) = vs.any fun kv=>decide (kv.1 = k):=by
 unfold KV at r
 induction r with
 | nil=>rfl
 | cons h t ih=>rw [List.any_cons,List.any_cons,ih,h.1]
theorem KV.repl {kvs:List (κ × V)} {vs:List (κ × Value)} (r:KV kvs vs) (k:κ) {y:V} {u:Value} (ry:RelV y u):
  KV (kvs.map fun kv=>if kv.1 = k then (kv.1,y) else kv) (vs.map fun kv=>if kv.1 = k then (kv.1,u) else kv):=by
 unfold KV at r ⊢
 induction r with
 | nil=>exact .nil
 | @cons p q ps qs h t ih=>
  rw [List.map_cons,List.map_cons]
  refine .cons ?_ ih
  obtain ⟨h1,h2⟩:=h
  by_cases e:p.1 = k
  ·rw [if_pos e,if_pos (h1.symm.trans e)]; exact ⟨h1,ry⟩
  ·rw [if_neg e,if_neg (fun z=>e (h1.trans z))]; exact ⟨h1,h2⟩
theorem KV.put {kvs:List (κ × V)} {vs:List (κ × Value)} (r:KV kvs vs) (k:κ) {y:V} {u:Value} (ry:RelV y u):KV (putK kvs k y) (stored vs k u):=by
 unfold putK stored
 rw [r.any k]
 by_cases e:(vs.any fun kv=>decide (kv.1 = k)) = true
 ·rw [if_pos e,if_pos e]; exact r.repl k ry
 ·rw [if_neg e,if_neg e]; exact Paired.snoc r ⟨rfl,ry⟩
theorem KV.keys {kvs:List (κ × V)} {vs:List (κ × Value)} (r:KV kvs vs):kvs.map (·.1) = vs.map (·.1):=by
 unfold KV at r
 induction r with
 | nil=>rfl
 | cons h t ih=>rw [List.map_cons,List.map_cons,ih,h.1]
theorem KV.length {kvs:List (κ × V)} {vs:List (κ × Value)} (r:KV kvs vs):kvs.length = vs.length:=Paired.length r
end
theorem ZgW {P:Program} {w:World} {k:Key} {u:Value} (r:RelV (kV k) u):(Zas P w).is k u = true:=by
 cases k with
 | inl i=>obtain ⟨t,e⟩:=(show ∃ t,u = Value.int i t from r); subst e; exact Ziy P w i t
 | inr x=>obtain ⟨t,e⟩:=(show ∃ t,u = Value.str x t from r); subst e; exact ZiI P w x t
theorem ZgY {P:Program} {w:World}:∀ {ks:List Key} {us:List Value},Vals (ks.map kV) us → ItemsAre (Zas P w) ks us
 | [],_,r=>by rw [List.map_nil] at r; cases r; exact .nil
 | k :: ks,_,r=>by
  rw [List.map_cons] at r
  cases r with
  | cons h t=>exact .cons (ZgW h) (ZgY t)
noncomputable abbrev KT (H:Hp):List (List Key × V) → List (List Key × Addr × Value) → Prop:=Paired fun p q=>p.1 = q.1 ∧ H q.2.1 = some (.tup (p.1.map kV)) ∧ RelV p.2 q.2.2
theorem KT.val {H:Hp} {kvs:List (List Key × V)} {xs:List (List Key × Addr × Value)} (r:KT H kvs xs) (k:List Key):Zdr (ZdH kvs k) ((atKey xs k).map (·.2)):=by
 induction r with
 | nil=>exact True.intro
 | @cons p q ps qs h t ih=>
  obtain ⟨h1,_,h2⟩:=h
  by_cases e:p.1 = k
  ·have e':q.1 = k:=h1.symm.trans e
   have b:atKey (q :: qs) k = some q.2:=by simp [atKey,List.find?_cons,e']
   rw [ZeK e,b]; exact h2
  ·have e':¬ q.1 = k:=fun z=>e (h1.trans z)
   have b:atKey (q :: qs) k = atKey qs k:=by simp [atKey,List.find?_cons,e']
   rw [ZeE e,b]; exact ih
theorem KT.repl {H:Hp} {kvs:List (List Key × V)} {xs:List (List Key × Addr × Value)} (r:KT H kvs xs) (k:List Key) {y:V} {u:Value} (ry:RelV y u):
  KT H (kvs.map fun kv=>if kv.1 = k then (kv.1,y) else kv) (xs.map (putAt k u)):=by
 induction r with
 | nil=>exact .nil
 | @cons p q ps qs h t ih=>
  rw [List.map_cons,List.map_cons]
  refine .cons ?_ ih
  obtain ⟨h1,h2,h3⟩:=h
  unfold putAt
  by_cases e:p.1 = k
  ·rw [if_pos e,if_pos (h1.symm.trans e)]; exact ⟨h1,h2,ry⟩
  ·rw [if_neg e,if_neg (fun z=>e (h1.trans z))]; exact ⟨h1,h2,h3⟩
theorem KT.put {H:Hp} {kvs:List (List Key × V)} {xs:List (List Key × Addr × Value)} (r:KT H kvs xs) (k:List Key) {b:Addr} {y:V} {u:Value} (hb:H b = some (.tup (k.map kV))) (ry:RelV y u):
  KT H (putK kvs k y) (storedH xs k b u):=by
 have e:(kvs.any fun kv=>decide (kv.1 = k)) = (atKey xs k).isSome:=by
  rw [Ziw,(r.val k).isSome_eq,Option.isSome_map]
 unfold putK storedH
 rw [e]
 by_cases q:(atKey xs k).isSome = true
 ·rw [if_pos q,if_pos q]; exact r.repl k ry
 ·rw [if_neg q,if_neg q]; exact Paired.snoc r ⟨rfl,hb,ry⟩
theorem KT.keeps {H H':Hp} {kvs:List (List Key × V)} {xs:List (List Key × Addr × Value)} (r:KT H kvs xs) (ht:∀ b ys,H b = some (.tup ys) → H' b = some (.tup ys)):KT H' kvs xs:=
 Paired.mapP r fun _ _ z=>⟨z.1,ht _ _ z.2.1,z.2.2⟩
section
variable {P:Program} {w:World} {H:Hp} {h:Heap} {a:Addr}
theorem Zo0 {u:HO} (ok:HOk P w H h) (e:Rd H a u):ZaV P w H h a u:=e.ok ok
theorem Zix {kvs:List (Key × V)} (ok:HOk P w H h) (e:Rd H a (.dK kvs)):kvs.length ≤ sizeLine ∧ (a == sysModules) = false ∧ ∃ vs,KV kvs vs ∧ h.DictOf (Zas P w) a vs:=
 show ZaV P w H h a (.dK kvs) from Zo0 ok e
theorem ZoZ {kvs:List (Key × V)} (ok:HOk P w H h) (e:H a = some (.dK kvs)):kvs.length ≤ sizeLine ∧ (a == sysModules) = false ∧ ∃ vs,KV kvs vs ∧ h.DictOf (Zas P w) a vs:=Zix ok (.inl e)
theorem Zhu {ks:List Key} (ok:HOk P w H h) (e:H a = some (.tup (ks.map kV))):(tupleKind (Zas P w)).is h ks a:=by
 obtain ⟨_,its,r,o,h1,h2,n,h3⟩:=(show ZaV P w H h a (.tup (ks.map kV)) from ok a _ e)
 exact ⟨o,its.toArray,n,h1,h2.1,h3,by simpa using ZgY r⟩
theorem Zid {kvs:List (List Key × V)} (ok:HOk P w H h) (e:Rd H a (.dT kvs)):kvs.length ≤ sizeLine ∧ (a == sysModules) = false ∧
  ∃ xs,KT H kvs xs ∧ h.DictOfH (tupleKind (Zas P w)) a xs:=by
 obtain ⟨z,y,xs,r,o,es,ep,h1,h2,h3,h4,h5⟩:=(show ZaV P w H h a (.dT kvs) from Zo0 ok e)
 refine ⟨z,y,xs,r,o,es,ep,h1,h2,h3,h4,fun x hx=>?_,h5⟩
 have all:∀ {l:List (List Key × V)} {m:List (List Key × Addr × Value)},KT H l m → ∀ x ∈ m,(tupleKind (Zas P w)).is h x.1 x.2.1:=by
  intro l m q
  induction q with
  | nil=>intro x hx; exact nomatch hx
  | @cons p q ps qs hq t ih=>
   intro x hx
   rcases List.mem_cons.mp hx with e | hx
   ·subst e
    exact Zhu ok (by rw [← hq.1]; exact hq.2.1)
   ·exact ih x hx
 exact all r x hx
theorem Zrl {kvs:List (List Key × V)} (ok:HOk P w H h) (e:H a = some (.dT kvs)):kvs.length ≤ sizeLine ∧ (a == sysModules) = false ∧
  ∃ xs,KT H kvs xs ∧ h.DictOfH (tupleKind (Zas P w)) a xs:=Zid ok (.inl e)
end
def ZhV (H:Hp) (a:Addr) (y:V) (r:Option V):Prop:=
 (∃ kvs k,Rd H a (.dK kvs) ∧ y = kV k ∧ r = ZdH kvs k) ∨ ∃ kvs k b,Rd H a (.dT kvs) ∧ y = .ref b ∧ H b = some (.tup (k.map kV)) ∧ r = ZdH kvs k
def Zjq (H:Hp) (a:Addr) (y v:V) (H':Hp):Prop:=
 (∃ kvs k,H a = some (.dK kvs) ∧ y = kV k ∧ kvs.length < sizeLine ∧ H' = upd H a (.dK (putK kvs k v))) ∨
 ∃ kvs k b,H a = some (.dT kvs) ∧ y = .ref b ∧ H b = some (.tup (k.map kV)) ∧ kvs.length < sizeLine ∧ H' = upd H a (.dT (putK kvs k v))
theorem ZhV.k {H:Hp} {a:Addr} {kvs:List (Key × V)} {k:Key} (e:H a = some (.dK kvs)):ZhV H a (kV k) (ZdH kvs k):=.inl ⟨kvs,k,.inl e,rfl,rfl⟩
theorem ZhV.t {H:Hp} {a b:Addr} {kvs:List (List Key × V)} {k:List Key} (e:H a = some (.dT kvs)) (eb:H b = some (.tup (k.map kV))):ZhV H a (.ref b) (ZdH kvs k):=.inr ⟨kvs,k,b,.inl e,rfl,eb,rfl⟩
theorem Zjq.k {H:Hp} {a:Addr} {kvs:List (Key × V)} {k:Key} {v:V} (e:H a = some (.dK kvs)) (hl:kvs.length < sizeLine):Zjq H a (kV k) v (upd H a (.dK (putK kvs k v))):=.inl ⟨kvs,k,e,rfl,hl,rfl⟩
theorem Zjq.t {H:Hp} {a b:Addr} {kvs:List (List Key × V)} {k:List Key} {v:V} (e:H a = some (.dT kvs)) (eb:H b = some (.tup (k.map kV))) (hl:kvs.length < sizeLine):
  Zjq H a (.ref b) v (upd H a (.dT (putK kvs k v))):=.inr ⟨kvs,k,b,e,rfl,eb,hl,rfl⟩
section
variable {X:Cx} {pins:List (Addr × Obj)} {σ:St} {H:Hp} {s:Shared} {a:Addr} {y v:V} {u r:Value} {o:Option V} {A:Around} {E:Value → Shared → Prop}
theorem Inv.big (I:Inv X pins σ H s):sysModules < s.heap.objs.size:=by
 have h:mainGlobals < s.heap.objs.size:=(I.mod.glob.keeps I.bk).lt
 exact Nat.lt_trans (by decide) h
theorem Zle {Q:Value → Shared → Prop} (hu:A.units + 1 < cLine) (I:Inv X pins σ H s) (g:ZhV H a y (some v)) (ry:RelV y u) (h:∀ w' s',Inv X pins σ H s' → RelV v w' → Q w' s'):
  wpAny (model X.prog X.w) A (getItem (.ref a) u) Q E s:=by
 rcases g with ⟨kvs,k,e,ey,l⟩ | ⟨kvs,k,b,e,ey,eb,l⟩
 ·subst ey
  obtain ⟨z,hd,vs,rel,dd⟩:=Zix I.hok e
  obtain ⟨w',hw,rw'⟩:=Zdr.some_of (v:=v) (o:=valueAt vs k) (by rw [l]; exact rel.val k)
  exact wpAny_getItem_of (ZgW ry) dd.mapOf hw (h w' _ (I.tok _) rw')
 ·subst ey
  cases (show u = Value.ref b from ry)
  obtain ⟨z,hd,xs,rel,dd⟩:=Zid I.hok e
  obtain ⟨w',hw,rw'⟩:=Zdr.some_of (v:=v) (o:=(atKey xs k).map (·.2)) (by rw [l]; exact rel.val k)
  obtain ⟨p,hp,hp2⟩:=Option.map_eq_some_iff.mp hw
  refine wpAny_getItem_heap (tupleKind_room_in1 hu) (Zhu I.hok eb) dd hp ?_
  rw [hp2]
  exact h w' _ (I.tok _) rw'
theorem Zhz {h':Heap} {t':Nat} {ob:HO} (I:Inv X pins σ H s) (mu:Mut (H a)) (hs:Heap.SameBut a s.heap h') (he:∃ q,h'.get? a = some q) (new:ZaV X.prog X.w (upd H a ob) h' a ob):
  Inv X pins σ (upd H a ob) { s with heap:=h',toks:=t' }:=
 I.write (x:=a) (e:=a) mu (.inl rfl) (fun b q hb z=>(hs.2 b hb).trans z) he new
theorem Zji {P:Program} {w:World} {H':Hp} {h':Heap} {kvs:List (Key × V)} {vs:List (Key × Value)} (z:kvs.length ≤ sizeLine) (hd:(a == sysModules) = false) (rel:KV kvs vs) (dd:h'.DictOf (Zas P w) a vs):
  ZaV P w H' h' a (.dK kvs):=⟨z,hd,vs,rel,dd⟩
theorem ZkW {H':Hp} {Q:Unit → Shared → Prop} (hu:A.units + 1 < cLine) (I:Inv X pins σ H s) (g:Zjq H a y v H') (ry:RelV y u) (rv:RelV v r) (h:∀ s',Inv X pins σ H' s' → Q () s'):
  wpAny (model X.prog X.w) A (setItem (.ref a) u r) Q E s:=by
 rcases g with ⟨kvs,k,e,ey,l,eH⟩ | ⟨kvs,k,b,e,ey,eb,l,eH⟩
 ·subst ey eH
  obtain ⟨z,hd,vs,rel,dd⟩:=ZoZ I.hok e
  have hz:vs.length ≤ sizeLine:=by rw [← rel.length]; exact z
  have hl:(putK kvs k v).length ≤ sizeLine:=by have:=ZdD kvs k v; exact lC 2 563091983155201 T1 this l
  refine wpAny_setItem_pairs (hsz:=hz) (ZgW ry) dd fun h' dd' hs=>h _ ?_
  have he:∃ q,h'.get? a = some q:=let ⟨q,_,_,hq,_⟩:=dd'; ⟨q,hq⟩
  exact Zhz I (by rw [e]; exact True.intro) hs he (Zji hl hd (rel.put k rv) dd')
 ·subst ey eH
  cases (show u = Value.ref b from ry)
  obtain ⟨z,hd,xs,rel,dd⟩:=Zrl I.hok e
  have hz:xs.length ≤ sizeLine:=by rw [← Paired.length rel]; exact z
  have hl:(putK kvs k v).length ≤ sizeLine:=by have:=ZdD kvs k v; exact lC 2 563091983155201 T1 this l
  refine wpAny_setItem_heap (hsz:=hz) (tupleKind_room_in1 hu) (Zhu I.hok eb) dd fun h' dd' hs=>h _ ?_
  obtain ⟨q,es,ep,hq,h2,h3,h4,_,h5⟩:=dd'
  refine Zhz I (by rw [e]; exact True.intro) hs ⟨q,hq⟩ ⟨hl,hd,_,(rel.put k eb rv).keeps fun c ys ec=>?_,q,es,ep,hq,h2,h3,h4,h5⟩
  rw [Zay (Zri ec e (fun z=>nomatch z))]
  exact ec
end
section
variable {X:Cx} {pins:List (Addr × Obj)} {σ:St} {H:Hp} {s:Shared} {a:Addr} {kvs:List (Key × V)} {k:Key} {u:Value} {A:Around} {E:Value → Shared → Prop}
end
def Zpa (i:Expr):Prop:=∀ ov iv,subscripted i false ov iv = operate [ov,iv] (getItem ov iv)
theorem ZnV {prog:Program} {w:World} {A:Around} {E:Value → Shared → Prop} {s:Shared} {env:Env} {value slice:Expr} {pos:Pos} {T id:String} {Q:Value → Shared → Prop}
  (hl:typeLookup (.type T) "__getitem__" = pure (some (.builtin id))) (hs:Zpa slice)
  (h:wpAny (model prog w) A (eval value env) (fun o s₁=>wpAny (model prog w) A (eval slice env) (fun i s₂=>s₂.TypeIs o T ∧ wpAny (model prog w) A (getItem o i) Q E s₂) E s₁) E s):
  wpAny (model prog w) A (eval (.Subscript value slice pos) env) Q E s:=by
 refine Subscript_ (wpAny_mono h (fun o s₁ h₁=>wpAny_mono h₁ (fun i s₂ h₂=>?_) fun _ _ x=>x) fun _ _ x=>x)
 obtain ⟨hT,h₂⟩:=h₂
 unfold subscriptTail
 refine wpAny_bind ?_
 rw [getitemInPython_of_ne hT.not_modules]
 refine wpAny_bind (wpAny_specialOf hT hl ?_)
 have fin:wpAny (model prog w) A (subscripted slice false o i) (fun r s₃=>wpAny (model prog w) A (letTemporaryGo value o r >>= fun _=>pure r) Q E s₃) E s₂:=by
  rw [hs o i]
  exact wpAny_operating (wpAny_mono h₂ (fun r s₃ h₃=>wpAny_bind (wpAny_letTemporaryGo (wpAny_pure h₃))) fun _ _ x=>x)
 first
  | exact wpAny_pure (wpAny_bind fin)
  | exact wpAny_bind (wpAny_pure (wpAny_bind fin))
  | exact wpAny_bind fin
theorem Zit {X:Cx} {pins:List (Addr × Obj)} {σ:St} {H:Hp} {s:Shared} {a:Addr} {y:V} {o:Option V} (I:Inv X pins σ H s) (g:ZhV H a y o):s.TypeIs (.ref a) "dict":=by
 rcases g with ⟨kvs,k,e,_,_⟩ | ⟨kvs,k,b,e,_,_,_⟩
 ·obtain ⟨_,_,vs,_,dd⟩:=Zix I.hok e
  exact dd.typeIs
 ·obtain ⟨_,_,xs,_,dd⟩:=Zid I.hok e
  exact dd.typeIs
def Zsl (td ty:TE):TE:=fun σ H Q=>td σ H fun x H1=>ty σ H1 fun y H2=>∃ a v,x = .ref a ∧ ZhV H2 a y (some v) ∧ Q v H2
def Zrx (td ty tv:TE):TS:=fun D σ H=>tv σ H fun v H1=>td σ H1 fun x H2=>ty σ H2 fun y H3=>∃ a H4,x = .ref a ∧ Zjq H3 a y v H4 ∧ D.nx σ H4
section
variable {X:Cx} {o i e value:Expr} {pos pos' tpos:Pos} {td ty tv:TE}
theorem Zn3 (hu:X.A.units + 1 < cLine) (ho:PE X o td) (hi:PE X i ty) (hs:Zpa i):PE X (.Subscript o i pos) (Zsl td ty):=by
 intro pins s σ H Q I h
 refine ZnV PySem.F.slot_dict_getitem.lookup hs (thn (ho pins s σ H _ I h) fun u s1 ⟨x,H1,I1,rx,q1⟩=>thn (hi pins s1 σ H1 _ I1 q1) fun iv s2 zz1=>?_)
 obtain ⟨y,H2,I2,ry,a,v,ex,g,q2⟩:=zz1
 subst ex
 obtain rfl:u = Value.ref a:=rx
 exact ⟨Zit I2 g,Zle hu I2 g ry fun w' s3 I3 rw'=>⟨v,H2,I3,rw',q2⟩⟩
theorem Zoq (hu:X.A.units + 1 < cLine) (ho:PE X o td) (hi:PE X i ty) (hv:PE X value tv) (hs:swapsWith value (some (.Subscript o i pos')) pos.line X.env = pure false):
  PS X (.Assign [.Subscript o i pos'] value pos) (Zrx td ty tv):=by
 intro pins s σ H D I h
 refine wpAny_Assign_Subscript (thn (hv pins s σ H _ I h) fun r s1 ⟨v,H1,I1,rv,q1⟩=>thn (ho pins s1 σ H1 _ I1 q1) fun u s2 ⟨x,H2,I2,rx,q2⟩=>thn (hi pins s2 σ H2 _ I2 q2) fun iv s3 zz1=>?_) hs
 obtain ⟨y,H3,I3,ry,a,H4,ex,g,q3⟩:=zz1
 subst ex
 obtain rfl:u = Value.ref a:=rx
 exact ZkW hu I3 g ry rv fun s4 I4=>⟨σ,H4,I4,q3⟩
end
theorem Ziz {P:Program} {w:World} {H:Hp} (h:Heap) (hb:sysModules < h.objs.size):ZaV P w H (h.push { cls:=.type "dict",data:=.dict #[] }) h.objs.size (.dK []):=
 ⟨Nat.zero_le _,beq_eq_false_iff_ne.mpr (Ne.symm (Nat.ne_of_lt hb)),[],.nil,Heap.DictOf.new h⟩
def Zp4:TE:=fun _ H Q=>∀ p,H p = none → Q (.ref p) (upd H p (.dK []))
section
variable {X:Cx} {pos:Pos}
theorem Zl4:PE X (.Dict [] [] pos) Zp4:=fun pins s σ H Q I h=>
 wpAny_Dict_empty ⟨.ref s.heap.objs.size,_,I.laid (a:=s.heap.objs.size) (o:=.dK []) (t':=s.toks) (fun _ _ q=>Heap.get?_push_of_some _ q) (Nat.le_refl _) (Ziz s.heap I.big),rfl,h _ (I.hok.fresh (Nat.le_refl _))⟩
end
noncomputable def ZhE:List (TE × TE) → St → Hp → (List (V × V) → Hp → Prop) → Prop
 | [],_,H,Q=>Q [] H
 | (tk,tv) :: r,σ,H,Q=>tk σ H fun x H1=>tv σ H1 fun y H2=>ZhE r σ H2 fun ps H3=>Q ((x,y) :: ps) H3
noncomputable abbrev VV:List (V × V) → List (Value × Value) → Prop:=Paired fun p q=>RelV p.1 q.1 ∧ RelV p.2 q.2
def PPs (X:Cx) (pos:Pos) (keys:List (Option Expr)) (values:List Expr) (trs:List (TE × TE)):Prop:=
 ∀ (pins:List (Addr × Obj)) (s:Shared) (σ:St) (H:Hp) (Q:List (V × V) → Hp → Prop),Inv X pins σ H s → ZhE trs σ H Q →
  wpAny (model X.prog X.w) X.A (evalPairs (pairTrees keys values X.env pos)) (fun vs s'=>∃ ps H',Inv X pins σ H' s' ∧ VV ps vs ∧ Q ps H') X.xe s
theorem Zog {X:Cx} {pos:Pos}:PPs X pos [] [] []:=fun pins s σ H Q I h=>pairTrees_nil_walk ⟨[],H,I,.nil,h⟩
theorem Znk {X:Cx} {pos:Pos} {k v:Expr} {ks:List (Option Expr)} {vs:List Expr} {tk tv:TE} {trs:List (TE × TE)} (hk:PE X k tk) (hv:PE X v tv) (hr:PPs X pos ks vs trs):
  PPs X pos (some k :: ks) (v :: vs) ((tk,tv) :: trs):=fun pins s σ H Q I h=>
 pairTrees_cons_walk (thn (hk pins s σ H _ I h) fun u s1 ⟨x,H1,I1,rx,q1⟩=>thn (hv pins s1 σ H1 _ I1 q1) fun w2 s2 ⟨y,H2,I2,ry,q2⟩=>
  thn (hr pins s2 σ H2 _ I2 q2) fun ws s3 ⟨ps,H3,I3,rel,q3⟩=>⟨(x,y) :: ps,H3,I3,.cons ⟨rx,ry⟩ rel,q3⟩)
noncomputable def Zdy (kvs more:List (Key × V)):List (Key × V):=more.foldl (fun acc kv=>putK acc kv.1 kv.2) kvs
theorem KV.merge:∀ {more:List (Key × V)} {rs:List (Key × Value)} {kvs:List (Key × V)} {vs:List (Key × Value)},KV more rs → KV kvs vs → KV (Zdy kvs more) (merged vs rs):=by
 intro more rs kvs vs r
 unfold KV at r
 induction r generalizing kvs vs with
 | nil=>intro q; exact q
 | @cons p q ps qs h t ih=>
  intro r0
  have e:KV (putK kvs p.1 p.2) (stored vs q.1 q.2):=by
   have:=r0.put p.1 h.2
   rw [← h.1]; exact this
  exact ih e
theorem ZcV:∀ (more kvs:List (Key × V)),(Zdy kvs more).length ≤ kvs.length + more.length
 | [],kvs=>by show kvs.length ≤ kvs.length + 0; exact Nat.le_add_right _ _
 | p :: r,kvs=>by
  have h1:=ZcV r (putK kvs p.1 p.2)
  have h2:=ZdD kvs p.1 p.2
  show (Zdy (putK kvs p.1 p.2) r).length ≤ _
  rw [List.length_cons]; exact lD 2 0xa3c1c2030c201a1c001 T1 h2 h1
theorem ZfZ {P:Program} {w:World}:∀ {kvs:List (Key × V)} {ws:List (Value × Value)},VV (kvs.map fun kv=>(kV kv.1,kv.2)) ws → ∃ rs,Carries (Zas P w) ws rs ∧ KV kvs rs
 | [],_,r=>by rw [List.map_nil] at r; cases r; exact ⟨[],True.intro,.nil⟩
 | p :: kvs,_,r=>by
  rw [List.map_cons] at r
  cases r with
  | @cons a b as bs h t=>
   obtain ⟨rs,c,q⟩:=ZfZ (P:=P) (w:=w) t
   obtain ⟨b1,b2⟩:=b
   exact ⟨(p.1,b2) :: rs,⟨ZgW h.1,rfl,c⟩,.cons ⟨rfl,h.2⟩ q⟩
def ZrT (trs:List (TE × TE)):TE:=fun σ H Q=>∀ p,H p = none → ZhE trs σ (upd H p (.dK [])) fun ps H2=>H2 p = some (.dK []) ∧ ∃ kvs:List (Key × V),ps = kvs.map (fun kv=>(kV kv.1,kv.2)) ∧ kvs.length ≤ 15 ∧ Q (.ref p) (upd H2 p (.dK (Zdy [] kvs)))
theorem ZnJ {X:Cx} {pos:Pos} {keys:List (Option Expr)} {values:List Expr} {trs:List (TE × TE)} (h:PPs X pos keys values trs) (hall:keys.all (·.isSome) = true) (hl:keys.length = values.length) (h0:keys ≠ [])
  (h15:keys.length ≤ 15):PE X (.Dict keys values pos) (ZrT trs):=by
 intro pins s σ H Q I q
 have hn:=I.hok.fresh (Nat.le_refl s.heap.objs.size)
 have I1:=I.laid (a:=s.heap.objs.size) (o:=.dK []) (h':=s.heap.push { cls:=.type "dict",data:=.dict #[] }) (t':=s.toks) (fun _ _ q=>Heap.get?_push_of_some _ q) (Nat.le_refl _) (Ziz s.heap I.big)
 refine wpAny_Dict_walk (knd:=Zas X.prog X.w) hall hl h0 h15 (thn (h pins _ σ _ _ I1 (q _ hn)) fun ws s2 zz1=>?_)
 obtain ⟨ps,H2,I2,rel,e,kvs,ep,lk,q2⟩:=zz1
 subst ep
 obtain ⟨rs,c,rk⟩:=ZfZ (P:=X.prog) (w:=X.w) rel
 obtain ⟨z,hd,vs0,r0,dd⟩:=ZoZ I2.hok e
 cases r0
 refine ⟨rs,c,dd,fun h' dd' hs=>⟨.ref s.heap.objs.size,_,?_,rfl,q2⟩⟩
 have hz:(Zdy [] kvs).length ≤ sizeLine:=by
  have h1:=ZcV kvs []
  rw [List.length_nil] at h1
  rw [sizeLine_eq]; exact lB 2 0x10000007b00f1b1011ec001 T1 h1 lk
 have he:∃ q,h'.get? s.heap.objs.size = some q:=let ⟨q,_,_,hq,_⟩:=dd'; ⟨q,hq⟩
 exact Zhz I2 (by rw [e]; exact True.intro) hs he (Zji hz hd (rk.merge .nil) dd')
structure M1 (X:Cx) (o:Expr) (m:Str) (apos:Pos) (e:Expr) (cpos:Pos):Prop where
 base:attributeBase o m X.env (eval o X.env) = eval o X.env
 few:((backTo cpos (starEach [e] X.env)).all (fun x=>!x.1) && (backToKw cpos (keywordEach [] X.env)).all (fun x=>x.1.isSome)
  && decide (([e]:List Expr).length + ([]:List Keyword).length + (if ([]:List Keyword).isEmpty then 0 else 1) < 30)) = true
 line:(apos.endLine == cpos.line) = true
 trees:backTo cpos (starEach [e] X.env) = [(false,eval e X.env)]
structure M2 (X:Cx) (o:Expr) (m:Str) (apos:Pos) (e f:Expr) (cpos:Pos):Prop where
 base:attributeBase o m X.env (eval o X.env) = eval o X.env
 few:((backTo cpos (starEach [e,f] X.env)).all (fun x=>!x.1) && (backToKw cpos (keywordEach [] X.env)).all (fun x=>x.1.isSome)
  && decide (([e,f]:List Expr).length + ([]:List Keyword).length + (if ([]:List Keyword).isEmpty then 0 else 1) < 30)) = true
 line:(apos.endLine == cpos.line) = true
 trees:backTo cpos (starEach [e,f] X.env) = [(false,eval e X.env),(false,eval f X.env)]
def IsD (H:Hp) (a:Addr):Prop:=(∃ kvs,Rd H a (.dK kvs)) ∨ ∃ kvs,Rd H a (.dT kvs)
theorem ZpC {X:Cx} {pins:List (Addr × Obj)} {σ:St} {H:Hp} {s:Shared} {a:Addr} (I:Inv X pins σ H s) (d:IsD H a):
  s.TypeIs (.ref a) "dict" ∧ (∀ b,Value.ref a = .ref b → ∃ ob,s.heap.get? b = some ob ∧ ob.dict = none) ∧ (a == sysModules) = false:=by
 rcases d with ⟨kvs,e⟩ | ⟨kvs,e⟩
 ·obtain ⟨_,hd,vs,_,dd⟩:=Zix I.hok e
  refine ⟨dd.typeIs,fun b q=>?_,hd⟩
  cases q
  obtain ⟨ob,_,_,h1,h2,_⟩:=dd
  exact ⟨ob,h1,h2.2.1⟩
 ·obtain ⟨_,hd,xs,_,dd⟩:=Zid I.hok e
  refine ⟨dd.typeIs,fun b q=>?_,hd⟩
  cases q
  obtain ⟨ob,_,_,h1,h2,_⟩:=dd
  exact ⟨ob,h1,h2.2.1⟩
section
variable {X:Cx} {pins:List (Addr × Obj)} {σ:St} {H:Hp} {s:Shared} {a:Addr} {y d:V} {u r:Value} {o:Option V} {A:Around} {E:Value → Shared → Prop}
theorem Zqy {Q:Value → Shared → Prop} (hu:A.units + 1 < cLine) (I:Inv X pins σ H s) (g:ZhV H a y o) (ry:RelV y u) (rd:RelV d r) (h:∀ w' s',Inv X pins σ H s' → RelV (o.getD d) w' → Q w' s'):
  wpAny (model X.prog X.w) A (call (.builtin "dict.get") [.ref a,u,r]) Q E s:=by
 rcases g with ⟨kvs,k,e,ey,l⟩ | ⟨kvs,k,b,e,ey,eb,l⟩
 ·subst ey
  obtain ⟨z,hd,vs,rel,dd⟩:=Zix I.hok e
  refine call_meetsIn PySem.F.slot_dict_get dd.typeIs PySem.F.entry_dict_get (PySem.F.args_dict_get_3 _ _ _) (meets_dict_get_default (Zas X.prog X.w) a (ZgW ry) hd r) ⟨_,dd.mapOf,h _ _ (I.tok _) ?_⟩
  rw [l]
  exact (rel.val k).getD rd
 ·subst ey
  cases (show u = Value.ref b from ry)
  obtain ⟨z,hd,xs,rel,dd⟩:=Zid I.hok e
  refine call_meetsIn PySem.F.slot_dict_get dd.typeIs PySem.F.entry_dict_get (PySem.F.args_dict_get_3 _ _ _) (meetsH_dict_get_default (tupleKind (Zas X.prog X.w)) a b hd r) ⟨tupleKind_room_in1 hu,k,xs,Zhu I.hok eb,dd,h _ _ (I.tok _) ?_⟩
  rw [l]
  exact (rel.val k).getD rd
end
def Zpg (td ty tx:TE):TE:=fun σ H Q=>td σ H fun x H1=>∃ a,x = .ref a ∧ IsD H1 a ∧ ty σ H1 fun y H2=>tx σ H2 fun z H3=>∃ o,ZhV H3 a y o ∧ Q (o.getD z) H3
section
variable {X:Cx} {o e f:Expr} {apos cpos:Pos} {td ty tx:TE}
theorem Zl1 (hu:X.A.units + 1 < cLine) (ho:PE X o td) (he:PE X e ty) (hf:PE X f tx) (m:M2 X o "get" apos e f cpos):PE X (.Call (.Attribute o "get" apos) [e,f] [] cpos) (Zpg td ty tx):=by
 intro pins s σ H Q I h
 refine wpAny_Call_method m.base m.few m.line PySem.F.plainAttrs_dict PySem.F.slot_dict_get PySem.F.type_dict_get (thn (ho pins s σ H _ I h) fun u s1 zz1=>?_)
 obtain ⟨x,H1,I1,rx,a,ex,d,q1⟩:=zz1
 subst ex
 obtain rfl:u = Value.ref a:=rx
 obtain ⟨t1,t2,_⟩:=ZpC I1 d
 refine ⟨t1,t2,?_⟩
 rw [m.trees]
 refine Calls.callWith_builtin rfl (Calls.evalArgs_plain (Calls.spliced_cons (thn (he pins s1 σ H1 _ I1 q1) fun iv s2 ⟨y,H2,I2,ry,q2⟩=>
  Calls.spliced_cons (thn (hf pins s2 σ H2 _ I2 q2) fun fv s3 ⟨z,H3,I3,rz,ov,g,q3⟩=>Calls.spliced_nil ?_))))
 exact Zqy hu I3 g ry rz fun w' s4 I4 rw'=>⟨_,H3,I4,rw',q3⟩
end
section
variable {X:Cx} {pins:List (Addr × Obj)} {σ:St} {H:Hp} {s:Shared} {a:Addr} {kvs:List (Key × V)} {A:Around} {E:Value → Shared → Prop}
end
section
variable {X:Cx} {pins:List (Addr × Obj)} {σ:St} {H:Hp} {s:Shared} {a:Addr} {y:V} {u:Value} {A:Around} {E:Value → Shared → Prop}
end
end L2
namespace L3
open PySem
noncomputable section
inductive D where
 | non | bl (b:Bool) | int (i:Int) | str (x:List Nat) | tup (ds:List D) | scr (ds:List D) | ref (n:Nat)
 deriving Inhabited
noncomputable abbrev Zak:=Sum Int (List Nat)
inductive MO where
 | lst (xs:List D) | dct (kvs:List (Zak × D)) | fdct (kvs:List (Zak × D)) | ins (c:List Nat) (fs:List (List Nat × D))
 deriving Inhabited
noncomputable abbrev Store:=List MO
structure X3 where
 cls:List Nat
 arg:D
inductive R3 (α:Type) where
 | ok (a:α) (M:Store) | exc (x:X3) (M:Store) | bad
@[simp] noncomputable def R3.bind {α β:Type} (r:R3 α) (k:α → Store → R3 β):R3 β:=match r with
 | .ok a M=>k a M
 | .exc x M=>.exc x M
 | .bad=>.bad
theorem R3.bind_ok {α β:Type} (a:α) (M:Store) (k:α → Store → R3 β):(R3.ok a M).bind k = k a M:=rfl
theorem ft {C:Prop} (h:false = true):C:=Bool.noConfusion h
theorem nsm {α:Type} {C:Prop} {k:α} (h:none = some k):C:=by cases h
noncomputable def Zav:Nat → D → Bool
 | _,.non=>true | _,.bl _=>true | _,.int _=>true | _,.str _=>true
 | n + 1,.tup ds=>ds.all (Zav n)
 | _,_=>false
noncomputable abbrev DEEP:Nat:=60
mutual
noncomputable def deq:D → D → Bool
 | .non,.non=>true
 | .bl a,.bl b=>a == b
 | .int a,.int b=>a == b
 | .str a,.str b=>a == b
 | .tup a,.tup b=>Zci a b
 | .bl a,.int b=>(if a then 1 else 0) == b
 | .int a,.bl b=>a == (if b then 1 else 0)
 | _,_=>false
noncomputable def Zci:List D → List D → Bool
 | [],[]=>true
 | a :: x,b :: y=>deq a b && Zci x y
 | _,_=>false
end
theorem Zrg (a b:Int):deq (.int a) (.int b) = (a == b):=rfl
theorem Zo3 (a b:List D):deq (.tup a) (.tup b) = Zci a b:=rfl
theorem Zmw:Zci [] [] = true:=rfl
theorem Zhn (a b:D) (x y:List D):Zci (a :: x) (b :: y) = (deq a b && Zci x y):=rfl
mutual
noncomputable def below (n:Nat):D → Bool
 | .tup ds=>belowL n ds
 | .scr ds=>belowL n ds
 | .ref k=>k < n
 | .non=>true | .bl _=>true | .int _=>true | .str _=>true
noncomputable def belowL (n:Nat):List D → Bool
 | []=>true
 | d :: ds=>below n d && belowL n ds
end
mutual
noncomputable def same:D → D → Bool
 | .non,.non=>true
 | .bl a,.bl b=>a == b
 | .int a,.int b=>a == b
 | .str a,.str b=>a == b
 | .tup a,.tup b=>Zg4 a b
 | .scr a,.scr b=>Zg4 a b
 | .ref a,.ref b=>a == b
 | _,_=>false
noncomputable def Zg4:List D → List D → Bool
 | [],[]=>true
 | a :: x,b :: y=>same a b && Zg4 x y
 | _,_=>false
end
mutual
theorem Zkd:∀ {a b:D},same a b = true → a = b
 | .non,b,h=>by cases b <;> first | exact rfl | exact ft h
 | .bl a,b,h=>by cases b <;> first | exact congrArg D.bl (beq_iff_eq.mp h) | exact ft h
 | .int a,b,h=>by cases b <;> first | exact congrArg D.int (beq_iff_eq.mp h) | exact ft h
 | .str a,b,h=>by cases b <;> first | exact congrArg D.str (beq_iff_eq.mp h) | exact ft h
 | .tup a,b,h=>by cases b <;> first | exact congrArg D.tup (ZfY h) | exact ft h
 | .scr a,b,h=>by cases b <;> first | exact congrArg D.scr (ZfY h) | exact ft h
 | .ref a,b,h=>by cases b <;> first | exact congrArg D.ref (beq_iff_eq.mp h) | exact ft h
theorem ZfY:∀ {x y:List D},Zg4 x y = true → x = y
 | [],y,h=>by cases y <;> first | exact rfl | exact ft h
 | a :: x,y,h=>by
  cases y with
  | nil=>exact ft h
  | cons b y=>exact have w:=Bool.and_eq_true_iff.mp (h:(same a b && Zg4 x y) = true); congr (congrArg _ (Zkd w.1)) (ZfY w.2)
end
mutual
theorem Zkm:∀ (a:D),same a a = true
 | .non=>rfl
 | .bl a=>beq_self_eq_true a
 | .int a=>beq_self_eq_true a
 | .str a=>beq_self_eq_true a
 | .tup a=>Zgk a
 | .scr a=>Zgk a
 | .ref a=>beq_self_eq_true a
theorem Zgk:∀ (x:List D),Zg4 x x = true
 | []=>rfl
 | a :: x=>Bool.and_eq_true_iff.mpr ⟨Zkm a,Zgk x⟩
end
theorem same_iff {a b:D}:same a b = true ↔ a = b:=⟨Zkd,fun h=>h ▸ Zkm a⟩
noncomputable instance:DecidableEq D:=fun a b=>decidable_of_iff (same a b = true) same_iff
noncomputable instance:DecidableEq MO:=fun a b=>match a,b with
 | .lst x,.lst y=>if h:x = y then isTrue (by rw [h]) else isFalse (by intro e; cases e; exact h rfl)
 | .dct x,.dct y=>if h:x = y then isTrue (by rw [h]) else isFalse (by intro e; cases e; exact h rfl)
 | .fdct x,.fdct y=>if h:x = y then isTrue (by rw [h]) else isFalse (by intro e; cases e; exact h rfl)
 | .ins c x,.ins d y=>if h:c = d ∧ x = y then isTrue (by rw [h.1,h.2]) else isFalse (by intro e; cases e; exact h ⟨rfl,rfl⟩)
 | .ins _ _,.lst _=>isFalse (by intro e; cases e)
 | .ins _ _,.dct _=>isFalse (by intro e; cases e)
 | .ins _ _,.fdct _=>isFalse (by intro e; cases e)
 | .lst _,.ins _ _=>isFalse (by intro e; cases e)
 | .dct _,.ins _ _=>isFalse (by intro e; cases e)
 | .fdct _,.ins _ _=>isFalse (by intro e; cases e)
 | .lst _,.dct _=>isFalse (by intro e; cases e)
 | .lst _,.fdct _=>isFalse (by intro e; cases e)
 | .dct _,.lst _=>isFalse (by intro e; cases e)
 | .dct _,.fdct _=>isFalse (by intro e; cases e)
 | .fdct _,.lst _=>isFalse (by intro e; cases e)
 | .fdct _,.dct _=>isFalse (by intro e; cases e)
@[simp] noncomputable abbrev SZ:Nat:=1000000
noncomputable abbrev Zv:=List (Option D)
noncomputable abbrev E3:=Zv → Store → R3 D
noncomputable abbrev EL3:=Zv → Store → R3 (List D)
noncomputable abbrev F3:=List D → Store → R3 D
inductive O3 where
 | nx (env:Zv) (M:Store) | rt (d:D) (M:Store) | bk (env:Zv) (M:Store) | ct (env:Zv) (M:Store) | exc (x:X3) (M:Store) | bad
noncomputable abbrev S3:=Zv → Store → O3
@[simp] noncomputable def Za (i:Nat):E3:=fun env M=>match env[i]? with
 | some (some d)=>.ok d M
 | _=>.bad
@[simp] noncomputable def eC (d:D):E3:=fun _ M=>.ok d M
@[simp] noncomputable def e1 (op:D → Store → R3 D) (f:E3):E3:=fun env M=>(f env M).bind op
@[simp] noncomputable def e2 (op:D → D → Store → R3 D) (f g:E3):E3:=fun env M=>(f env M).bind fun a M1=>(g env M1).bind fun b M2=>op a b M2
@[simp] noncomputable def Zi:EL3:=fun _ M=>.ok [] M
@[simp] noncomputable def Zb (f:E3) (g:EL3):EL3:=fun env M=>(f env M).bind fun a M1=>(g env M1).bind fun b M2=>.ok (a :: b) M2
@[simp] noncomputable def alloc (o:MO) (M:Store):R3 D:=.ok (.ref M.length) (M ++ [o])
section
local instance (priority:=100000) clP1 (p:Prop):Decidable p:=Classical.propDecidable p
@[simp] noncomputable def ZdB (g:EL3):E3:=fun env M=>(g env M).bind fun ds M1=>if ds.length ≤ SZ then .ok (.tup ds) M1 else .bad
end
section
local instance (priority:=100000) clP2 (p:Prop):Decidable p:=Classical.propDecidable p
@[simp] noncomputable def Zcv (g:EL3):E3:=fun env M=>(g env M).bind fun ds M1=>if ds.length ≤ SZ then alloc (.lst ds) M1 else .bad
end
@[simp] noncomputable def ZuH (f g:E3):E3:=fun env M=>(f env M).bind fun a M1=>match a with
 | .bl true=>g env M1
 | .bl false=>.ok (.bl false) M1
 | _=>.bad
@[simp] noncomputable def eOr (f g:E3):E3:=fun env M=>(f env M).bind fun a M1=>match a with
 | .bl false=>g env M1
 | .bl true=>.ok (.bl true) M1
 | _=>.bad
noncomputable def ZgN (a:D) (M:Store):R3 D:=match a with
 | .bl b=>.ok (.bl (!b)) M
 | _=>.bad
@[simp] theorem Zsj {M:Store}:∀ b,ZgN (.bl b) M = .ok (.bl (!b)) M:=fun _=>rfl
@[simp] noncomputable def eIf (c f g:E3):E3:=fun env M=>(c env M).bind fun a M1=>match a with
 | .bl true=>f env M1
 | .bl false=>g env M1
 | _=>.bad
@[simp] noncomputable def Zap (F:F3) (g:EL3):E3:=fun env M=>(g env M).bind fun ds M1=>F ds M1
section
local instance (priority:=100000) clP3 (p:Prop):Decidable p:=Classical.propDecidable p
noncomputable def Zag (a b:D) (M:Store):R3 D:=match a,b with
 | .int i,.int j=>.ok (.int (i + j)) M
 | .str x,.str y=>if x.length + y.length ≤ SZ then .ok (.str (x ++ y)) M else .bad
 | .tup x,.tup y=>if x.length + y.length ≤ SZ then .ok (.tup (x ++ y)) M else .bad
 | .ref n,.ref m=>match M[n]?,M[m]? with
  | some (.lst x),some (.lst y)=>if x.length + y.length ≤ SZ then alloc (.lst (x ++ y)) M else .bad
  | _,_=>.bad
 | _,_=>.bad
@[simp] theorem Zmn {M:Store}:∀ i j,Zag (.int i) (.int j) M = .ok (.int (i + j)) M:=fun _ _=>rfl
@[simp] theorem Zmh {M:Store}:∀ x y,Zag (.str x) (.str y) M = (if x.length + y.length ≤ SZ then .ok (.str (x ++ y)) M else .bad):=fun _ _=>rfl
@[simp] theorem Zsr {M:Store}:∀ x y,Zag (.tup x) (.tup y) M = (if x.length + y.length ≤ SZ then .ok (.tup (x ++ y)) M else .bad):=fun _ _=>rfl
@[simp] theorem ZrN {M:Store}:∀ n m,Zag (.ref n) (.ref m) M = (match M[n]?,M[m]? with
  | some (.lst x),some (.lst y)=>if x.length + y.length ≤ SZ then alloc (.lst (x ++ y)) M else .bad
  | _,_=>.bad):=fun _ _=>rfl
end
noncomputable def ZbN (a b:D) (M:Store):R3 D:=match a,b with
 | .int i,.int j=>.ok (.int (i - j)) M
 | _,_=>.bad
@[simp] theorem ZfT {M:Store}:∀ i j,ZbN (.int i) (.int j) M = .ok (.int (i - j)) M:=fun _ _=>rfl
section
local instance (priority:=100000) clP4 (p:Prop):Decidable p:=Classical.propDecidable p
noncomputable def ZfN (i j:Int):Bool:=(decide (-(2 ^ 64) < i) && decide (i < 2 ^ 64)) || (decide (-(2 ^ 64) < j) && decide (j < 2 ^ 64))
end
section
local instance (priority:=100000) clP5 (p:Prop):Decidable p:=Classical.propDecidable p
noncomputable def Zbr (a b:D) (M:Store):R3 D:=match a,b with
 | .int i,.int j=>if ZfN i j then .ok (.int (i * j)) M else .bad
 | .str x,.int k=>if x.length * k.toNat ≤ SZ ∧ k < 1000000 ∧ -1000000 < k then .ok (.str (List.replicate k.toNat x).flatten) M else .bad
 | .ref n,.int k=>match M[n]? with
  | some (.lst x)=>if x.length * k.toNat ≤ SZ ∧ k < 1000000 ∧ -1000000 < k then alloc (.lst (List.replicate k.toNat x).flatten) M else .bad
  | _=>.bad
 | _,_=>.bad
@[simp] theorem ZdG {M:Store}:∀ i j,Zbr (.int i) (.int j) M = (if ZfN i j then .ok (.int (i * j)) M else .bad):=fun _ _=>rfl
@[simp] theorem Zl6 {M:Store}:∀ x k,Zbr (.str x) (.int k) M = (if x.length * k.toNat ≤ SZ ∧ k < 1000000 ∧ -1000000 < k then .ok (.str (List.replicate k.toNat x).flatten) M else .bad):=fun _ _=>rfl
@[simp] theorem ZsM {M:Store}:∀ n k,Zbr (.ref n) (.int k) M = (match M[n]? with
  | some (.lst x)=>if x.length * k.toNat ≤ SZ ∧ k < 1000000 ∧ -1000000 < k then alloc (.lst (List.replicate k.toNat x).flatten) M else .bad
  | _=>.bad):=fun _ _=>rfl
end
noncomputable def Zaq (a b:D) (M:Store):R3 D:=match a,b with
 | .int i,.int j=>if 0 < j then .ok (.int (i % j)) M else .bad
 | _,_=>.bad
@[simp] theorem Zih {M:Store}:∀ i j,Zaq (.int i) (.int j) M = (if 0 < j then .ok (.int (i % j)) M else .bad):=fun _ _=>rfl
section
local instance (priority:=100000) clP6 (p:Prop):Decidable p:=Classical.propDecidable p
noncomputable def ZaE (a b:D) (M:Store):R3 D:=match a,b with
 | .int i,.int j=>if 0 < j ∧ j < 1073741824 then .ok (.int (i / j)) M else .bad
 | _,_=>.bad
@[simp] theorem ZgR {M:Store}:∀ i j,ZaE (.int i) (.int j) M = (if 0 < j ∧ j < 1073741824 then .ok (.int (i / j)) M else .bad):=fun _ _=>rfl
end
noncomputable def Zfj (a b:D) (M:Store):R3 D:=match a,b with
 | .int i,.int j=>if 0 ≤ j ∧ j ≤ 1000 ∧ i.natAbs < 1000 then .ok (.int (i ^ j.toNat)) M else .bad
 | _,_=>.bad
@[simp] theorem Zme {M:Store}:∀ i j,Zfj (.int i) (.int j) M = (if 0 ≤ j ∧ j ≤ 1000 ∧ i.natAbs < 1000 then .ok (.int (i ^ j.toNat)) M else .bad):=fun _ _=>rfl
noncomputable def ZfU (a:D) (M:Store):R3 D:=match a with
 | .int i=>.ok (.int (-i)) M
 | _=>.bad
@[simp] theorem Znd {M:Store}:∀ i,ZfU (.int i) M = .ok (.int (-i)) M:=fun _=>rfl
noncomputable def ZmO (a b:D) (M:Store):R3 D:=match a,b with
 | .int i,.int j=>.ok (.bl (decide (i < j))) M
 | _,_=>.bad
@[simp] theorem Zoc {M:Store}:∀ i j,ZmO (.int i) (.int j) M = .ok (.bl (decide (i < j))) M:=fun _ _=>rfl
noncomputable def Zem (a b:D) (M:Store):R3 D:=match a,b with
 | .int i,.int j=>.ok (.bl (decide (j < i))) M
 | _,_=>.bad
@[simp] theorem ZdT {M:Store}:∀ i j,Zem (.int i) (.int j) M = .ok (.bl (decide (j < i))) M:=fun _ _=>rfl
noncomputable def ZmD (a b:D) (M:Store):R3 D:=match a,b with
 | .int i,.int j=>.ok (.bl (decide (j ≤ i))) M
 | _,_=>.bad
@[simp] theorem Zj0 {M:Store}:∀ i j,ZmD (.int i) (.int j) M = .ok (.bl (decide (j ≤ i))) M:=fun _ _=>rfl
noncomputable def eqD (a b:D) (M:Store):Option Bool:=match a,b with
 | .ref n,.ref m=>match M[n]?,M[m]? with
  | some (.lst x),some (.lst y)=>if x.all (Zav DEEP) && y.all (Zav DEEP) then some (Zci x y) else none
  | _,_=>none
 | .int i,.int j=>some (decide (i = j))
 | .str x,.str y=>some (decide (x = y))
 | .bl x,.bl y=>some (decide (x = y))
 | .tup x,.tup y=>if x.all (Zav DEEP) && y.all (Zav DEEP) then some (Zci x y) else none
 | _,_=>none
@[simp] theorem ZmP {M:Store}:∀ n m,eqD (.ref n) (.ref m) M = (match M[n]?,M[m]? with
  | some (.lst x),some (.lst y)=>if x.all (Zav DEEP) && y.all (Zav DEEP) then some (Zci x y) else none
  | _,_=>none):=fun _ _=>rfl
@[simp] theorem ZlA {M:Store}:∀ i j,eqD (.int i) (.int j) M = some (decide (i = j)):=fun _ _=>rfl
@[simp] theorem Zhf {M:Store}:∀ x y,eqD (.str x) (.str y) M = some (decide (x = y)):=fun _ _=>rfl
@[simp] theorem Zl2 {M:Store}:∀ x y,eqD (.bl x) (.bl y) M = some (decide (x = y)):=fun _ _=>rfl
@[simp] theorem ZmF {M:Store}:∀ x y,eqD (.tup x) (.tup y) M = (if x.all (Zav DEEP) && y.all (Zav DEEP) then some (Zci x y) else none):=fun _ _=>rfl
@[simp] noncomputable def ZbJ (a b:D) (M:Store):R3 D:=match eqD a b M with
 | some r=>.ok (.bl r) M
 | none=>.bad
@[simp] noncomputable def ZkD (a b:D) (M:Store):R3 D:=match eqD a b M with
 | some r=>.ok (.bl (!r)) M
 | none=>.bad
noncomputable def Zbx:D → Bool
 | .non=>true | .bl _=>true | .int _=>true | .str _=>true | _=>false
noncomputable def inS (a:D) (y:List Nat):Option Bool:=match a with
 | .str [c]=>some (decide (c ∈ y))
 | _=>none
@[simp] theorem Zt0 {y:List Nat}:∀ c,inS (.str [c]) y = some (decide (c ∈ y)):=fun _=>rfl
noncomputable def inD (a b:D):Option Bool:=match b with
 | .str y=>inS a y
 | .tup ys=>if Zbx a && ys.all Zbx then some (ys.any fun y=>deq y a) else none
 | _=>none
@[simp] theorem ZtH {a:D}:∀ y,inD a (.str y) = inS a y:=fun _=>rfl
@[simp] theorem ZtA {a:D}:∀ ys,inD a (.tup ys) = (if Zbx a && ys.all Zbx then some (ys.any fun y=>deq y a) else none):=fun _=>rfl
@[simp] noncomputable def ZkA (a b:D) (M:Store):R3 D:=match inD a b with
 | some r=>.ok (.bl r) M
 | none=>.bad
noncomputable def ixD (n:Nat) (i:Int):Option Nat:=if 0 ≤ i then (if i < n then some i.toNat else none) else if -(n:Int) ≤ i then some (i + n).toNat else none
noncomputable def Za5 {α:Type} (xs:List α) (i:Int):Option α:=(ixD xs.length i).bind fun j=>xs[j]?
noncomputable def Zcj:D → Option Zak
 | .int i=>some (.inl i)
 | .str x=>some (.inr x)
 | _=>none
@[simp] theorem Zty:Zcj .non = none:=rfl
@[simp] theorem Zub (b:Bool):Zcj (.bl b) = none:=rfl
@[simp] theorem Zt5 (x:List D):Zcj (.tup x) = none:=rfl
@[simp] theorem Ztj (x:List D):Zcj (.scr x) = none:=rfl
@[simp] theorem ZtB (n:Nat):Zcj (.ref n) = none:=rfl
@[simp] theorem Zte:∀ i,Zcj (.int i) = some (.inl i):=fun _=>rfl
@[simp] theorem ZnG:∀ x,Zcj (.str x) = some (.inr x):=fun _=>rfl
noncomputable def ZaY:List (Zak × D) → Zak → Option D
 | [],_=>none
 | (k,v) :: r,x=>if k = x then some v else ZaY r x
section
local instance (priority:=100000) clP7 (p:Prop):Decidable p:=Classical.propDecidable p
noncomputable def Zr (a b:D) (M:Store):R3 D:=match a,b with
 | .tup ds,.int i=>match Za5 ds i with
  | some d=>.ok d M
  | none=>.bad
 | .scr ds,.int i=>match Za5 ds i with
  | some d=>.ok d M
  | none=>.bad
 | .str x,.int i=>match Za5 x i with
  | some c=>if x.length ≤ SZ then .ok (.str [c]) M else .bad
  | none=>.bad
 | .ref n,.int i=>match M[n]? with
  | some (.lst ds)=>match Za5 ds i with
   | some d=>.ok d M
   | none=>.bad
  | _=>.bad
 | _,_=>.bad
@[simp] theorem Zij {M:Store}:∀ ds i,Zr (.tup ds) (.int i) M = (match Za5 ds i with
  | some d=>.ok d M
  | none=>.bad):=fun _ _=>rfl
@[simp] theorem ZfH {M:Store}:∀ ds i,Zr (.scr ds) (.int i) M = (match Za5 ds i with
  | some d=>.ok d M
  | none=>.bad):=fun _ _=>rfl
@[simp] theorem ZfX {M:Store}:∀ x i,Zr (.str x) (.int i) M = (match Za5 x i with
  | some c=>if x.length ≤ SZ then .ok (.str [c]) M else .bad
  | none=>.bad):=fun _ _=>rfl
@[simp] theorem Zin {M:Store}:∀ n i,Zr (.ref n) (.int i) M = (match M[n]? with
  | some (.lst ds)=>match Za5 ds i with
   | some d=>.ok d M
   | none=>.bad
  | _=>.bad):=fun _ _=>rfl
end
noncomputable def ZbT:Option MO → Option (List (Zak × D))
 | some (.dct kvs)=>some kvs
 | some (.fdct kvs)=>some kvs
 | _=>none
@[simp] theorem ZsY:ZbT none = none:=rfl
@[simp] theorem Zs4 (x:List D):ZbT (some (.lst x)) = none:=rfl
@[simp] theorem Zs0 (c:List Nat) (f:List (List Nat × D)):ZbT (some (.ins c f)) = none:=rfl
@[simp] theorem Zrf:∀ kvs,ZbT (some (.dct kvs)) = some kvs:=fun _=>rfl
@[simp] theorem Zr9:∀ kvs,ZbT (some (.fdct kvs)) = some kvs:=fun _=>rfl
noncomputable def Zgj (a b:D) (M:Store):R3 D:=match a with
 | .ref n=>match ZbT M[n]?,Zcj b with
  | some kvs,some x=>match ZaY kvs x with
   | some d=>.ok d M
   | none=>.bad
  | _,_=>.bad
 | _=>.bad
@[simp] theorem Zg5 {b:D} {M:Store}:∀ n,Zgj (.ref n) b M = (match ZbT M[n]?,Zcj b with
  | some kvs,some x=>match ZaY kvs x with
   | some d=>.ok d M
   | none=>.bad
  | _,_=>.bad):=fun _=>rfl
noncomputable def sIx (n d:Nat):Option Int → Nat
 | none=>d
 | some v=>if v < 0 then (v + (n:Int)).toNat else min v.toNat n
noncomputable def cutD {α:Type} (xs:List α) (lo hi:Option Int):List α:=(xs.drop (sIx xs.length 0 lo)).take (sIx xs.length xs.length hi - sIx xs.length 0 lo)
noncomputable abbrev EO3:=Zv → Store → R3 (Option Int)
@[simp] noncomputable def Zj4:EO3:=fun _ M=>.ok none M
@[simp] noncomputable def Ziu (f:E3):EO3:=fun env M=>(f env M).bind fun a M1=>match a with
 | .int i=>.ok (some i) M1
 | _=>.bad
section
local instance (priority:=100000) clP8 (p:Prop):Decidable p:=Classical.propDecidable p
noncomputable def ZkQ (a:D) (lo hi:Option Int) (M:Store):R3 D:=match a with
 | .tup ds=>.ok (.tup (cutD ds lo hi)) M
 | .scr ds=>alloc (.lst (cutD ds lo hi)) M
 | .str x=>if x.length ≤ SZ then .ok (.str (cutD x lo hi)) M else .bad
 | .ref n=>match M[n]? with
  | some (.lst ds)=>alloc (.lst (cutD ds lo hi)) M
  | _=>.bad
 | _=>.bad
@[simp] theorem ZfA {lo:Option Int} {hi:Option Int} {M:Store}:∀ ds,ZkQ (.tup ds) lo hi M = .ok (.tup (cutD ds lo hi)) M:=fun _=>rfl
@[simp] theorem ZfE {lo:Option Int} {hi:Option Int} {M:Store}:∀ ds,ZkQ (.scr ds) lo hi M = alloc (.lst (cutD ds lo hi)) M:=fun _=>rfl
@[simp] theorem Zfu {lo:Option Int} {hi:Option Int} {M:Store}:∀ x,ZkQ (.str x) lo hi M = (if x.length ≤ SZ then .ok (.str (cutD x lo hi)) M else .bad):=fun _=>rfl
@[simp] theorem Zfv {lo:Option Int} {hi:Option Int} {M:Store}:∀ n,ZkQ (.ref n) lo hi M = (match M[n]? with
  | some (.lst ds)=>alloc (.lst (cutD ds lo hi)) M
  | _=>.bad):=fun _=>rfl
end
@[simp] noncomputable def eSl (f:E3) (lo hi:EO3):E3:=fun env M=>(f env M).bind fun a M1=>(lo env M1).bind fun l M2=>(hi env M2).bind fun h M3=>ZkQ a l h M3
section
local instance (priority:=100000) clP9 (p:Prop):Decidable p:=Classical.propDecidable p
noncomputable def Zbe (ds:List D) (M:Store):R3 D:=match ds with
 | [.tup x]=>.ok (.int x.length) M
 | [.scr x]=>.ok (.int x.length) M
 | [.str x]=>if x.length ≤ SZ then .ok (.int x.length) M else .bad
 | [.ref n]=>match M[n]? with
  | some (.lst x)=>.ok (.int x.length) M
  | _=>.bad
 | _=>.bad
@[simp] theorem ZfF {M:Store}:∀ x,Zbe ([.tup x]) M = .ok (.int x.length) M:=fun _=>rfl
@[simp] theorem ZfC {M:Store}:∀ x,Zbe ([.scr x]) M = .ok (.int x.length) M:=fun _=>rfl
@[simp] theorem Zg9 {M:Store}:∀ x,Zbe ([.str x]) M = (if x.length ≤ SZ then .ok (.int x.length) M else .bad):=fun _=>rfl
@[simp] theorem Zdh {M:Store}:∀ n,Zbe ([.ref n]) M = (match M[n]? with
  | some (.lst x)=>.ok (.int x.length) M
  | _=>.bad):=fun _=>rfl
end
noncomputable def Zcm (ds:List D) (M:Store):R3 D:=match ds with
 | [.tup x]=>.ok (.tup x) M
 | [.scr x]=>.ok (.tup x) M
 | [.ref n]=>match M[n]? with
  | some (.lst x)=>.ok (.tup x) M
  | _=>.bad
 | _=>.bad
@[simp] theorem ZgX {M:Store}:∀ x,Zcm ([.tup x]) M = .ok (.tup x) M:=fun _=>rfl
@[simp] theorem Zg3 {M:Store}:∀ x,Zcm ([.scr x]) M = .ok (.tup x) M:=fun _=>rfl
@[simp] theorem ZcA {M:Store}:∀ n,Zcm ([.ref n]) M = (match M[n]? with
  | some (.lst x)=>.ok (.tup x) M
  | _=>.bad):=fun _=>rfl
inductive Ty3 where
 | int | bool | str | list | tuple
 deriving DecidableEq
noncomputable def ZfO (T:Ty3) (d:D) (M:Store):Option Bool:=match d with
 | .non=>some false
 | .bl _=>some (T == .bool || T == .int)
 | .int _=>some (T == .int)
 | .str _=>some (T == .str)
 | .tup _=>some (T == .tuple)
 | .scr _=>none
 | .ref n=>match M[n]? with
  | some (.lst _)=>some (T == .list)
  | some (.dct _)=>some false
  | some (.fdct _)=>none
  | some (.ins _ _)=>none
  | none=>none
@[simp] theorem Zs7 {T:Ty3} {M:Store}:ZfO T (.non) M = some false:=rfl
@[simp] theorem Ztf {T:Ty3} {M:Store}:∀ w0,ZfO T (.bl w0) M = some (T == .bool || T == .int):=fun _=>rfl
@[simp] theorem ZsX {T:Ty3} {M:Store}:∀ w0,ZfO T (.int w0) M = some (T == .int):=fun _=>rfl
@[simp] theorem Zs2 {T:Ty3} {M:Store}:∀ w0,ZfO T (.str w0) M = some (T == .str):=fun _=>rfl
@[simp] theorem Ztg {T:Ty3} {M:Store}:∀ w0,ZfO T (.tup w0) M = some (T == .tuple):=fun _=>rfl
@[simp] theorem Zs9 {T:Ty3} {M:Store}:∀ w0,ZfO T (.scr w0) M = none:=fun _=>rfl
@[simp] theorem Zn5 {T:Ty3} {M:Store}:∀ n,ZfO T (.ref n) M = (match M[n]? with
  | some (.lst _)=>some (T == .list)
  | some (.dct _)=>some false
  | some (.fdct _)=>none
  | some (.ins _ _)=>none
  | none=>none):=fun _=>rfl
@[simp] noncomputable def Za3 (T:Ty3) (d:D) (M:Store):R3 D:=match ZfO T d M with
 | some b=>.ok (.bl b) M
 | none=>.bad
section
local instance (priority:=100000) clP11 (p:Prop):Decidable p:=Classical.propDecidable p
noncomputable def Zae (o:D) (ds:List D) (M:Store):R3 D:=match o,ds with
 | .ref n,[d]=>match M[n]? with
  | some (.lst x)=>if x.length < SZ then .ok .non (M.set n (.lst (x ++ [d]))) else .bad
  | _=>.bad
 | _,_=>.bad
@[simp] theorem Zdk {M:Store}:∀ n d,Zae (.ref n) ([d]) M = (match M[n]? with
  | some (.lst x)=>if x.length < SZ then .ok .non (M.set n (.lst (x ++ [d]))) else .bad
  | _=>.bad):=fun _ _=>rfl
end
section
local instance (priority:=100000) clPp (p:Prop):Decidable p:=Classical.propDecidable p
noncomputable def Zfq (o:D) (ds:List D) (M:Store):R3 D:=match o,ds with
 | .ref n,[.int i]=>match M[n]? with
  | some (.lst x)=>if -1000000 ≤ i ∧ i ≤ 1000000 then match ixD x.length i with
   | some k=>match x[k]? with
    | some d=>.ok d (M.set n (.lst (x.eraseIdx k)))
    | none=>.bad
   | none=>.bad
   else .bad
  | _=>.bad
 | .ref n,[]=>match M[n]? with
  | some (.lst x)=>match x[x.length - 1]? with
   | some d=>.ok d (M.set n (.lst x.dropLast))
   | none=>.bad
  | _=>.bad
 | _,_=>.bad
@[simp] theorem Zj8 {M:Store}:∀ n i,Zfq (.ref n) ([.int i]) M = (match M[n]? with
  | some (.lst x)=>if -1000000 ≤ i ∧ i ≤ 1000000 then match ixD x.length i with
   | some k=>match x[k]? with
    | some d=>.ok d (M.set n (.lst (x.eraseIdx k)))
    | none=>.bad
   | none=>.bad
   else .bad
  | _=>.bad):=fun _ _=>rfl
@[simp] theorem ZhH {M:Store}:∀ n,Zfq (.ref n) ([]) M = (match M[n]? with
  | some (.lst x)=>match x[x.length - 1]? with
   | some d=>.ok d (M.set n (.lst x.dropLast))
   | none=>.bad
  | _=>.bad):=fun _=>rfl
end
noncomputable def tyL (a:D) (M:Store):Bool:=match a with
 | .ref n=>match M[n]? with
  | some (.lst _)=>true
  | _=>false
 | _=>false
@[simp] theorem Zge {M:Store}:∀ n,tyL (.ref n) M = (match M[n]? with
  | some (.lst _)=>true
  | _=>false):=fun _=>rfl
noncomputable def Zgr (a:D) (M:Store):Bool:=match a with
 | .ref n=>(ZbT M[n]?).isSome
 | _=>false
@[simp] theorem ZdM {M:Store}:∀ n,Zgr (.ref n) M = (ZbT M[n]?).isSome:=fun _=>rfl
@[simp] noncomputable def Zaw (ty:D → Store → Bool) (m:D → List D → Store → R3 D) (o:E3) (g:EL3):E3:=fun env M=>(o env M).bind fun a M1=>if ty a M1 then (g env M1).bind fun ds M2=>m a ds M2 else .bad
@[simp] noncomputable def ZaD (b:List D → Store → R3 D) (g:EL3):E3:=fun env M=>(g env M).bind fun ds M1=>b ds M1
noncomputable def putD (k:Zak) (v:D) (kvs:List (Zak × D)):List (Zak × D):=
 if (kvs.any fun p=>decide (p.1 = k)) = true then kvs.map (fun p=>if p.1 = k then (p.1,v) else p) else kvs ++ [(k,v)]
noncomputable abbrev EP3:=Zv → Store → R3 (List (Zak × D))
@[simp] noncomputable def Zi2:EP3:=fun _ M=>.ok [] M
@[simp] noncomputable def Zb1 (f g:E3) (r:EP3):EP3:=fun env M=>(f env M).bind fun a M1=>(g env M1).bind fun b M2=>match Zcj a with
 | some k=>(r env M2).bind fun l M3=>.ok ((k,b) :: l) M3
 | none=>.bad
noncomputable def dictOf (l:List (Zak × D)):List (Zak × D):=l.foldl (fun acc p=>putD p.1 p.2 acc) []
@[simp] noncomputable def Zl3 (r:EP3):E3:=fun env M=>(r env (M ++ [.dct []])).bind fun l M1=>match M1[M.length]? with
 | some (.dct [])=>if l.length ≤ 15 then .ok (.ref M.length) (M1.set M.length (.dct (dictOf l))) else .bad
 | _=>.bad
@[simp] noncomputable def Znf:E3:=fun _ M=>alloc (.dct []) M
@[simp] noncomputable def e3 (op:D → D → D → Store → R3 D) (f g h:E3):E3:=fun env M=>(f env M).bind fun a M1=>(g env M1).bind fun b M2=>(h env M2).bind fun c M3=>op a b c M3
section
local instance (priority:=100000) clP12 (p:Prop):Decidable p:=Classical.propDecidable p
noncomputable def ZhA (v a b:D) (M:Store):R3 D:=match a with
 | .ref n=>match M[n]?,Zcj b with
  | some (.dct kvs),some k=>if kvs.length < SZ then .ok .non (M.set n (.dct (putD k v kvs))) else .bad
  | _,_=>.bad
 | _=>.bad
@[simp] theorem ZeY {v:D} {b:D} {M:Store}:∀ n,ZhA v (.ref n) b M = (match M[n]?,Zcj b with
  | some (.dct kvs),some k=>if kvs.length < SZ then .ok .non (M.set n (.dct (putD k v kvs))) else .bad
  | _,_=>.bad):=fun _=>rfl
end
noncomputable def Zm5 (v a b:D) (M:Store):R3 D:=match a,b with
 | .ref n,.int i=>match M[n]? with
  | some (.lst xs)=>match ixD xs.length i with
   | some j=>.ok .non (M.set n (.lst (xs.set j v)))
   | none=>.bad
  | _=>.bad
 | _,_=>.bad
@[simp] theorem ZgO {v:D} {M:Store}:∀ n i,Zm5 v (.ref n) (.int i) M = (match M[n]? with
  | some (.lst xs)=>match ixD xs.length i with
   | some j=>.ok .non (M.set n (.lst (xs.set j v)))
   | none=>.bad
  | _=>.bad):=fun _ _=>rfl
noncomputable def ZfP (o:D) (ds:List D) (M:Store):R3 D:=match o,ds with
 | .ref n,[b]=>match ZbT M[n]?,Zcj b with
  | some kvs,some k=>.ok ((ZaY kvs k).getD .non) M
  | _,_=>.bad
 | .ref n,[b,d]=>match ZbT M[n]?,Zcj b with
  | some kvs,some k=>.ok ((ZaY kvs k).getD d) M
  | _,_=>.bad
 | _,_=>.bad
@[simp] theorem Zoe {M:Store}:∀ n b,ZfP (.ref n) ([b]) M = (match ZbT M[n]?,Zcj b with
  | some kvs,some k=>.ok ((ZaY kvs k).getD .non) M
  | _,_=>.bad):=fun _ _=>rfl
@[simp] theorem ZeN {M:Store}:∀ n b d,ZfP (.ref n) ([b,d]) M = (match ZbT M[n]?,Zcj b with
  | some kvs,some k=>.ok ((ZaY kvs k).getD d) M
  | _,_=>.bad):=fun _ _ _=>rfl
noncomputable def ZcI:List D → Option (List (Zak × D))
 | []=>some []
 | .tup [a,b] :: r=>match Zcj a with
  | some k=>(ZcI r).map fun l=>(k,b) :: l
  | none=>none
 | _ :: _=>none
section
local instance (priority:=100000) clP13 (p:Prop):Decidable p:=Classical.propDecidable p
end
noncomputable def Zl5 (ds:List D) (M:Store):R3 D:=match ds with
 | [.int i]=>.ok (.int i) M
 | [.bl b]=>.ok (.int (if b then 1 else 0)) M
 | _=>.bad
@[simp] theorem ZsV {M:Store}:∀ i,Zl5 ([.int i]) M = .ok (.int i) M:=fun _=>rfl
@[simp] theorem Zta {M:Store}:∀ b,Zl5 ([.bl b]) M = .ok (.int (if b then 1 else 0)) M:=fun _=>rfl
section
local instance (priority:=100000) clPs (p:Prop):Decidable p:=Classical.propDecidable p
end
noncomputable def ZbZ:S3:=fun env M=>.nx env M
noncomputable def ZhZ:S3:=fun _ _=>.bad
noncomputable def Zu (f g:S3):S3:=fun env M=>match f env M with
 | .nx env' M'=>g env' M'
 | o=>o
noncomputable def sIf (c:E3) (f g:S3):S3:=fun env M=>match c env M with
 | .ok (.bl true) M1=>f env M1
 | .ok (.bl false) M1=>g env M1
 | .exc x M1=>.exc x M1
 | _=>.bad
noncomputable def Zb0 (f:E3):S3:=fun env M=>match f env M with
 | .ok d M1=>.rt d M1
 | .exc x M1=>.exc x M1
 | .bad=>.bad
noncomputable def Zaa (f:E3):S3:=fun env M=>match f env M with
 | .ok _ M1=>.nx env M1
 | .exc x M1=>.exc x M1
 | .bad=>.bad
noncomputable def Zat (i:Nat) (f:E3):S3:=fun env M=>match f env M with
 | .ok d M1=>.nx (env.set i (some d)) M1
 | .exc x M1=>.exc x M1
 | .bad=>.bad
noncomputable def ZiM (o i f:E3):S3:=Zaa (e3 ZhA f o i)
noncomputable def Zd2 (o i f:E3):S3:=Zaa (e3 Zm5 f o i)
noncomputable abbrev G3:=D → Zv → Option Zv
@[simp] noncomputable def Zbj (i:Nat):G3:=fun d env=>some (env.set i (some d))
noncomputable def bindAll:List Nat → List D → Zv → Option Zv
 | [],[],env=>some env
 | i :: is,d :: ds,env=>bindAll is ds (env.set i (some d))
 | _,_,_=>none
@[simp] theorem Zi7:∀ env,bindAll ([]) ([]) (env) = some env:=fun _=>rfl
@[simp] theorem Zjk:∀ i is d ds env,bindAll (i :: is) (d :: ds) (env) = bindAll is ds (env.set i (some d)):=fun _ _ _ _ _=>rfl
@[simp] noncomputable def Zkt (is:List Nat):G3:=fun d env=>match d with
 | .tup ds=>bindAll is ds env
 | _=>none
structure It3 where
 items:List D
 lock:Option Nat
noncomputable abbrev I3:=Zv → Store → R3 It3
section
local instance (priority:=100000) clP14 (p:Prop):Decidable p:=Classical.propDecidable p
@[simp] noncomputable def Zft (f:E3):I3:=fun env M=>(f env M).bind fun a M1=>match a with
 | .tup ds=>.ok ⟨ds,none⟩ M1
 | .scr ds=>.ok ⟨ds,none⟩ M1
 | .str x=>if x.length ≤ SZ then .ok ⟨x.map fun c=>.str [c],none⟩ M1 else .bad
 | .ref n=>match M1[n]? with
  | some (.lst ds)=>.ok ⟨ds,some n⟩ M1
  | _=>.bad
 | _=>.bad
end
noncomputable def ZkJ (lo:Int) (n:Nat):List D:=(List.range n).map fun (k:Nat)=>D.int (lo + (k:Int))
section
local instance (priority:=100000) clP15 (p:Prop):Decidable p:=Classical.propDecidable p
@[simp] noncomputable def ZcN (f:E3):I3:=fun env M=>(f env M).bind fun a M1=>match a with
 | .int j=>if j ≤ 1000000 ∧ -1000000 ≤ j then .ok ⟨ZkJ 0 j.toNat,none⟩ M1 else .bad
 | _=>.bad
end
section
local instance (priority:=100000) clP16 (p:Prop):Decidable p:=Classical.propDecidable p
end
noncomputable def locked (it:It3) (M:Store):Bool:=match it.lock with
 | none=>true
 | some n=>decide (M[n]? = some (.lst it.items))
noncomputable def ZbS (it:It3) (g:G3) (body:S3):List D → Zv → Store → O3
 | [],env,M=>if locked it M then .nx env M else .bad
 | d :: ds,env,M=>if locked it M then match g d env with
  | none=>.bad
  | some env1=>match body env1 M with
   | .nx e M'=>ZbS it g body ds e M'
   | .ct e M'=>ZbS it g body ds e M'
   | .bk e M'=>.nx e M'
   | o=>o
  else .bad
theorem ZdN {it:It3} {g:G3} {body:S3} {env:Zv} {M:Store}:ZbS it g body [] env M = if locked it M then .nx env M else .bad:=rfl
theorem ZbW {it:It3} {g:G3} {body:S3} {d:D} {ds:List D} {env:Zv} {M:Store}:ZbS it g body (d :: ds) env M = if locked it M then match g d env with
  | none=>.bad
  | some env1=>match body env1 M with
   | .nx e M'=>ZbS it g body ds e M'
   | .ct e M'=>ZbS it g body ds e M'
   | .bk e M'=>.nx e M'
   | o=>o
  else .bad:=rfl
noncomputable def Zhp (i:I3) (g:G3) (body:S3):S3:=fun env M=>match i env M with
 | .ok it M1=>ZbS it g body it.items env M1
 | .exc x M1=>.exc x M1
 | .bad=>.bad
noncomputable def Zdg (c:E3) (body:S3):Nat → Zv → Store → O3
 | 0,_,_=>.bad
 | n + 1,env,M=>match c env M with
  | .ok (.bl true) M1=>match body env M1 with
   | .nx e M'=>Zdg c body n e M'
   | .ct e M'=>Zdg c body n e M'
   | .bk e M'=>.nx e M'
   | o=>o
  | .ok (.bl false) M1=>.nx env M1
  | .exc x M1=>.exc x M1
  | _=>.bad
theorem Zey {c:E3} {body:S3} {n:Nat} {env:Zv} {M:Store}:Zdg c body (n + 1) env M = match c env M with
  | .ok (.bl true) M1=>match body env M1 with
   | .nx e M'=>Zdg c body n e M'
   | .ct e M'=>Zdg c body n e M'
   | .bk e M'=>.nx e M'
   | o=>o
  | .ok (.bl false) M1=>.nx env M1
  | .exc x M1=>.exc x M1
  | _=>.bad:=rfl
noncomputable def Zjo (c:E3) (body:S3):S3:=Zdg c body 1000000
noncomputable def ZcO:List E3 → Zv → Store → R3 Bool
 | [],_,M=>.ok true M
 | c :: cs,env,M=>(c env M).bind fun a M1=>match a with
  | .bl true=>ZcO cs env M1
  | .bl false=>.ok false M1
  | _=>.bad
theorem Ze5 {env:Zv} {M:Store}:ZcO [] env M = .ok true M:=rfl
theorem Zlh {c:E3} {cs:List E3} {env:Zv} {M:Store}:ZcO (c :: cs) env M = (c env M).bind fun a M1=>match a with
  | .bl true=>ZcO cs env M1
  | .bl false=>.ok false M1
  | _=>.bad:=rfl
section
local instance (priority:=100000) clP17 (p:Prop):Decidable p:=Classical.propDecidable p
noncomputable def Zby (it:It3) (g:G3) (ifs:List E3) (elt:E3) (n:Nat):List D → Zv → Store → R3 D
 | [],_,M=>if locked it M then .ok (.ref n) M else .bad
 | d :: ds,env,M=>if locked it M then match g d env with
  | none=>.bad
  | some env1=>(ZcO ifs env1 M).bind fun b M1=>if b then (elt env1 M1).bind fun e M2=>match M2[n]? with
    | some (.lst x)=>if x.length < SZ then Zby it g ifs elt n ds env1 (M2.set n (.lst (x ++ [e]))) else .bad
    | _=>.bad
   else Zby it g ifs elt n ds env1 M1
  else .bad
theorem ZhI {it:It3} {g:G3} {ifs:List E3} {elt:E3} {n:Nat} {env:Zv} {M:Store}:Zby it g ifs elt n [] env M = if locked it M then .ok (.ref n) M else .bad:=rfl
theorem ZhS {it:It3} {g:G3} {ifs:List E3} {elt:E3} {n:Nat} {d:D} {ds:List D} {env:Zv} {M:Store}:Zby it g ifs elt n (d :: ds) env M = if locked it M then match g d env with
  | none=>.bad
  | some env1=>(ZcO ifs env1 M).bind fun b M1=>if b then (elt env1 M1).bind fun e M2=>match M2[n]? with
    | some (.lst x)=>if x.length < SZ then Zby it g ifs elt n ds env1 (M2.set n (.lst (x ++ [e]))) else .bad
    | _=>.bad
   else Zby it g ifs elt n ds env1 M1
  else .bad:=rfl
end
noncomputable def eLC (i:I3) (own:Nat) (g:G3) (ifs:List E3) (elt:E3):E3:=fun env M=>(i env M).bind fun it M1=>
 Zby it g ifs elt M1.length it.items (env ++ List.replicate own none) (M1 ++ [.lst []])
noncomputable def Zdv (n:Nat):MO → Bool
 | .lst xs=>belowL n xs
 | .dct kvs=>belowL n (kvs.map (·.2))
 | .fdct kvs=>belowL n (kvs.map (·.2))
 | .ins _ fs=>belowL n (fs.map (·.2))
noncomputable def tidy (M:Store) (d:D) (M':Store):R3 D:=
 if below M.length d && (decide (M'.take M.length = M) || (M'.take M.length).all (Zdv M.length)) then .ok d (M'.take M.length) else .ok d M'
noncomputable def mkF (ps n:Nat) (body:S3):F3:=fun ds M=>if ds.length = ps then match body (ds.map some ++ List.replicate (n - ps) none) M with
  | .nx _ M'=>tidy M .non M'
  | .rt d M'=>tidy M d M'
  | .exc x M'=>.exc x M'
  | _=>.bad
 else .bad
end
end L3
namespace L3
theorem Zk {f g:S3} {env env':Zv} {M M':Store} (h:f env M = .nx env' M'):Zu f g env M = g env' M':=by rw [Zu,h]
theorem ZdL {f g:S3} {env:Zv} {M M':Store} {d:D} (h:f env M = .rt d M'):Zu f g env M = .rt d M':=by rw [Zu,h]
theorem Zcp {c:E3} {f g:S3} {env:Zv} {M M':Store} (h:c env M = .ok (.bl true) M'):sIf c f g env M = f env M':=by rw [sIf,h]
theorem Zcq {c:E3} {f g:S3} {env:Zv} {M M':Store} (h:c env M = .ok (.bl false) M'):sIf c f g env M = g env M':=by rw [sIf,h]
theorem Za0 {f:E3} {env:Zv} {M M':Store} {d:D} (h:f env M = .ok d M'):Zb0 f env M = .rt d M':=by rw [Zb0,h]
theorem Zah {f:E3} {i:Nat} {env env':Zv} {M M':Store} {d:D} (h:f env M = .ok d M') (he:env.set i (some d) = env':=by first | (dsimp only [List.set_cons_succ,List.set_cons_zero] <;> exact rfl) | exact rfl):Zat i f env M = .nx env' M':=by rw [Zat,h]; simp only [he]
theorem ZaF {c:E3} {f:S3} {env:Zv} {M M':Store} (h:c env M = .ok (.bl false) M'):sIf c f ZbZ env M = .nx env M':=by rw [sIf,h]; rfl
theorem ZaG {f:E3} {env:Zv} {M M':Store} {d:D} (h:f env M = .ok d M'):Zaa f env M = .nx env M':=by rw [Zaa,h]
theorem Zfy {i:I3} {g:G3} {u:S3} {env:Zv} {M M':Store} {it:It3} (h:i env M = .ok it M'):Zhp i g u env M = ZbS it g u it.items env M':=by rw [Zhp,h]
theorem ZjT {i:I3} {own:Nat} {g:G3} {ts:List E3} {f:E3} {env:Zv} {M M':Store} {it:It3} (h:i env M = .ok it M'):eLC i own g ts f env M = Zby it g ts f M'.length it.items (env ++ List.replicate own none) (M' ++ [.lst []]):=by rw [eLC,h]; rfl
theorem Zb7 {ps n:Nat} {body:S3} {ds:List D} {env:Zv} {M M':Store} {d:D} (h:body env M = .rt d M') (hl:ds.length = ps:=by rfl) (he:ds.map some ++ List.replicate (n - ps) none = env:=by rfl):mkF ps n body ds M = tidy M d M':=by rw [mkF,if_pos hl,he,h]
theorem Zhv {ps n:Nat} {body:S3} {ds:List D} {env env':Zv} {M M':Store} (h:body env M = .nx env' M') (hl:ds.length = ps:=by rfl) (he:ds.map some ++ List.replicate (n - ps) none = env:=by rfl):mkF ps n body ds M = tidy M .non M':=by rw [mkF,if_pos hl,he,h]
theorem Zet {M G:Store} {d:D} (h:below M.length d = true):tidy M d (M ++ G) = .ok d M:=by
 simp [tidy,h]
theorem Ze2 {M:Store} {d:D} (h:below M.length d = true):tidy M d M = .ok d M:=by
 simp [tidy,h]
end L3
namespace L3
theorem Zar {α:Type} (M:List α) (x:α) (xs:List α):(M ++ x :: xs)[M.length]? = some x:=by simp
theorem ZeC {α:Type} (M xs:List α) (k:Nat):(M ++ xs)[M.length + k]? = xs[k]?:=by
 rw [List.getElem?_append_right (Nat.le_add_right _ _)]; congr 1; exact Nat.le_antisymm (lC 1 2199589555233 T1 (Nat.sub_add_cancel (Nat.le_add_right _ _))) (lC 1 2267788938241 T1 (sbA _ _))
theorem Zfw {α:Type} (M xs:List α) (k:Nat) (o:α):(M ++ xs).set (M.length + k) o = M ++ xs.set k o:=by
 rw [List.set_append_right _ _ (Nat.le_add_right _ _)]; congr 2; exact Nat.le_antisymm (lC 1 2199589555233 T1 (Nat.sub_add_cancel (Nat.le_add_right _ _))) (lC 1 2267788938241 T1 (sbA _ _))
theorem ZaH {α:Type} {M:List α} {n:Nat} {o:α} (h:M[n]? = some o) (xs:List α):(M ++ xs)[n]? = some o:=by
 rw [List.getElem?_append_left (List.getElem?_eq_some_iff.mp h).1,h]
theorem ZbB {α:Type} (xs:List α) (k:Nat):Za5 xs (k:Int) = xs[k]?:=by
 unfold Za5 ixD
 rw [if_pos (Int.natCast_nonneg k)]
 by_cases h:k < xs.length
 ·rw [if_pos (Int.ofNat_lt.2 h)]; simp
 ·rw [if_neg (by exact fun z=>iN [_,_] [] 2 6667149772945 T1 z h)]; simp at h ⊢; exact h
@[simp] theorem ZqV {α:Type} (xs:List α) (k:Nat):Za5 xs (k:Int) = xs[k]?:=ZbB xs k
@[simp] theorem ZsA {α:Type} (xs:List α) (n:Nat):Za5 xs (no_index (OfNat.ofNat n:Int)) = xs[(OfNat.ofNat n:Nat)]?:=ZbB xs n
@[simp] theorem Zq1 {α:Type} (xs:List α):Za5 xs (-1) = xs.getLast?:=by
 unfold Za5 ixD
 rw [if_neg (by decide),List.getLast?_eq_getElem?]
 by_cases h:0 < xs.length
 ·rw [if_pos (by exact iN [_] [] 1 725993655825 T1 h)]
  simp only [Option.bind_some]
  congr 1; exact Nat.le_antisymm (iN [_,_,_] [] 2 0x200a2c10118a9c08a1 T1 (Int.toNat_of_nonneg (iN [_] [] 1 595337940497 T1 h)) (sbA _ _)) (iN [_,_,_] [] 2 0x1200a2c211808a9c81 T1 (Int.self_le_toNat _) (Nat.sub_add_cancel (lA 1 10489361 T1 h)))
 ·have:xs = []:=by simpa using h
  subst this; rfl
theorem Zks (n k:Nat):ixD n (k:Int) = if k < n then some k else none:=by
 unfold ixD
 rw [if_pos (Int.natCast_nonneg k)]
 by_cases h:k < n
 ·rw [if_pos (Int.ofNat_lt.2 h),if_pos h]; simp
 ·rw [if_neg (by exact fun z=>iN [_,_] [] 2 6667149772945 T1 z h),if_neg h]
@[simp] theorem ZsF (n k:Nat):ixD n (k:Int) = if k < n then some k else none:=Zks n k
@[simp] theorem Ztd (m n:Nat):ixD m (no_index (OfNat.ofNat n:Int)) = if (OfNat.ofNat n:Nat) < m then some (OfNat.ofNat n:Nat) else none:=Zks m n
theorem getD_last {α:Type} (xs:List α) (x:α):Za5 (xs ++ [x]) (-1) = some x:=by
 unfold Za5 ixD
 rw [if_neg (by decide),if_pos (by simp; exact iN [_] [] 0 10521768 T1)]
 have:(-1 + ((xs ++ [x]).length:Int)).toNat = xs.length:=by simp; exact Nat.le_antisymm (iN [_,_] [] 1 4514701222086817 T1 (Int.toNat_of_nonneg (iN [_] [] 0 43097169128 T1))) (iN [_,_] [] 1 4505291991981185 T1 (Int.self_le_toNat _))
 simp only [Option.bind_some,this]
 simp
inductive Row where
 | put (a:Nat) (n:Int) | add (a b c:Nat) | sub (a b c:Nat) | more (a b c:Nat) | get (a b:Nat) | set (a b:Nat) | jump (k:Nat) | when (a k:Nat) | tell (a:Nat) | halt
 deriving Inhabited
noncomputable def Row.ok (many:Nat):Row → Prop
 | .put a _=>a < 8
 | .add a b c=>a < 8 ∧ b < 8 ∧ c < 8
 | .sub a b c=>a < 8 ∧ b < 8 ∧ c < 8
 | .more a b c=>a < 8 ∧ b < 8 ∧ c < 8
 | .get a b=>a < 8 ∧ b < 8
 | .set a b=>a < 8 ∧ b < 8
 | .jump k=>k < many
 | .when a k=>a < 8 ∧ k < many
 | .tell a=>a < 8
 | .halt=>True
noncomputable def Row.tells (bs:List Int):Row → Option Int
 | .tell a=>bs[a]?
 | _=>none
noncomputable def Row.isHalt:Row → Bool
 | .halt=>true
 | _=>false
@[simp] theorem ZqZ {a:Nat} {n:Int} {bs:List Int}:(Row.put a n).tells bs = none:=rfl
@[simp] theorem Zpp {a:Nat} {n:Int}:(Row.put a n).isHalt = false:=rfl
@[simp] theorem Zq3 {a:Nat} {b:Nat} {c:Nat} {bs:List Int}:(Row.add a b c).tells bs = none:=rfl
@[simp] theorem Zpt {a:Nat} {b:Nat} {c:Nat}:(Row.add a b c).isHalt = false:=rfl
@[simp] theorem ZqX {a:Nat} {b:Nat} {c:Nat} {bs:List Int}:(Row.sub a b c).tells bs = none:=rfl
@[simp] theorem Zpk {a:Nat} {b:Nat} {c:Nat}:(Row.sub a b c).isHalt = false:=rfl
@[simp] theorem Zpm {a:Nat} {b:Nat} {c:Nat} {bs:List Int}:(Row.more a b c).tells bs = none:=rfl
@[simp] theorem ZoR {a:Nat} {b:Nat} {c:Nat}:(Row.more a b c).isHalt = false:=rfl
@[simp] theorem Zq8 {a:Nat} {b:Nat} {bs:List Int}:(Row.get a b).tells bs = none:=rfl
@[simp] theorem Zp2 {a:Nat} {b:Nat}:(Row.get a b).isHalt = false:=rfl
@[simp] theorem Zq2 {a:Nat} {b:Nat} {bs:List Int}:(Row.set a b).tells bs = none:=rfl
@[simp] theorem Zo9 {a:Nat} {b:Nat}:(Row.set a b).isHalt = false:=rfl
@[simp] theorem ZqU {k:Nat} {bs:List Int}:(Row.jump k).tells bs = none:=rfl
@[simp] theorem ZoO {k:Nat}:(Row.jump k).isHalt = false:=rfl
@[simp] theorem ZpB {a:Nat} {k:Nat} {bs:List Int}:(Row.when a k).tells bs = none:=rfl
@[simp] theorem Zo5 {a:Nat} {k:Nat}:(Row.when a k).isHalt = false:=rfl
@[simp] theorem Zqc {a:Nat} {bs:List Int}:(Row.tell a).tells bs = bs[a]?:=rfl
@[simp] theorem ZoM {a:Nat}:(Row.tell a).isHalt = false:=rfl
@[simp] theorem Zpb  {bs:List Int}:(Row.halt).tells bs = none:=rfl
@[simp] theorem ZoQ :(Row.halt).isHalt = true:=rfl
theorem Zni (n:Nat) (i:Int):Zav n (.int i) = true:=by cases n <;> rfl
mutual
theorem ZkZ:∀ (n:Nat) (d:D),Zav n d = true → deq d d = true
 | _,.non,_=>rfl
 | _,.bl b,_=>beq_self_eq_true b
 | _,.int b,_=>beq_self_eq_true b
 | _,.str b,_=>beq_self_eq_true b
 | 0,.tup _,h=>ft h
 | n + 1,.tup ds,h=>ZfQ n ds (List.all_eq_true.mp h)
 | n,.scr _,h=>by cases n <;> exact ft h
 | n,.ref _,h=>by cases n <;> exact ft h
theorem ZfQ:∀ (n:Nat) (ds:List D),(∀ d ∈ ds,Zav n d = true) → Zci ds ds = true
 | _,[],_=>rfl
 | n,d :: ds,h=>by
  simp only [Zmw,Zhn,Bool.and_eq_true]
  exact ⟨ZkZ n d (h d List.mem_cons_self),ZfQ n ds fun x hx=>h x (List.mem_cons_of_mem _ hx)⟩
end
end L3
namespace L3
def Rt (o:O3) (d:D):Prop:=∃ M',o = .rt d M'
theorem Rt.set {i:Nat} {f:E3} {g:S3} {env env':Zv} {M M':Store} {d r:D} (h:f env M = .ok d M') (k:Rt (g env' M') r) (he:env.set i (some d) = env':=by first | (dsimp only [List.set_cons_succ,List.set_cons_zero] <;> exact rfl) | exact rfl):Rt (Zu (Zat i f) g env M) r:=by
 rw [Rt,Zk (Zah h he)]; exact k
theorem Rt.expr {f:E3} {g:S3} {env:Zv} {M M':Store} {d r:D} (h:f env M = .ok d M') (k:Rt (g env M') r):Rt (Zu (Zaa f) g env M) r:=by
 rw [Rt,Zk (ZaG h)]; exact k
theorem Rt.skip {c:E3} {u g:S3} {env:Zv} {M M':Store} {r:D} (h:c env M = .ok (.bl false) M') (k:Rt (g env M') r):Rt (Zu (sIf c u ZbZ) g env M) r:=by
 rw [Rt,Zk (ZaF h)]; exact k
theorem Rt.loop {i:I3} {t:G3} {u g:S3} {env env':Zv} {M M' M1:Store} {it:It3} {r:D} (h:i env M = .ok it M1) (hl:ZbS it t u it.items env M1 = .nx env' M') (k:Rt (g env' M') r):Rt (Zu (Zhp i t u) g env M) r:=by
 rw [Rt,Zk ((Zfy h).trans hl)]; exact k
theorem Rt.step {f g:S3} {env env':Zv} {M M':Store} {r:D} (h:f env M = .nx env' M') (k:Rt (g env' M') r):Rt (Zu f g env M) r:=by
 rw [Rt,Zk h]; exact k
theorem Rt.ret {f:E3} {env:Zv} {M M':Store} {d:D} (h:f env M = .ok d M'):Rt (Zb0 f env M) d:=⟨M',Za0 h⟩
theorem Rt.law {ps n:Nat} {body:S3} {ds:List D} {env:Zv} {b:Bool} (h:Rt (body env []) (.bl b)) (hl:ds.length = ps:=by rfl) (he:ds.map some ++ List.replicate (n - ps) none = env:=by rfl):∃ M',mkF ps n body ds [] = .ok (.bl b) M':=by
 obtain ⟨M',h⟩:=h
 exact ⟨_,(Zb7 h hl he).trans (by rw [tidy,if_pos (by simp [below])])⟩
theorem Rt.pure {ps n:Nat} {body:S3} {ds:List D} {env:Zv} {M G:Store} {d:D} (h:body env M = .rt d (M ++ G)) (hd:below M.length d = true) (hl:ds.length = ps:=by rfl) (he:ds.map some ++ List.replicate (n - ps) none = env:=by rfl):mkF ps n body ds M = .ok d M:=
 (Zb7 h hl he).trans (Zet hd)
end L3
namespace L3
theorem Ze {op:D → D → Store → R3 D} {f g:E3} {env:Zv} {M M1 M2 M3:Store} {a b d:D} (h1:f env M = .ok a M1) (h2:g env M1 = .ok b M2) (h3:op a b M2 = .ok d M3):e2 op f g env M = .ok d M3:=by
 simp only [e2,h1,h2,h3,R3.bind]
theorem Zhj {F:F3} {f:E3} {env:Zv} {M M1 M2:Store} {a d:D} (h1:f env M = .ok a M1) (h2:F [a] M1 = .ok d M2):Zap F (Zb f Zi) env M = .ok d M2:=by
 simp only [Zap,Zb,Zi,h1,h2,R3.bind]
theorem Zf7 {F:F3} {f g:E3} {env:Zv} {M M1 M2 M3:Store} {a b d:D} (h1:f env M = .ok a M1) (h2:g env M1 = .ok b M2) (h3:F [a,b] M2 = .ok d M3):Zap F (Zb f (Zb g Zi)) env M = .ok d M3:=by
 simp only [Zap,Zb,Zi,h1,h2,h3,R3.bind]
theorem ZpK {F:F3} {f g h:E3} {env:Zv} {M M1 M2 M3 M4:Store} {a b c d:D} (h1:f env M = .ok a M1) (h2:g env M1 = .ok b M2) (h3:h env M2 = .ok c M3) (h4:F [a,b,c] M3 = .ok d M4):Zap F (Zb f (Zb g (Zb h Zi))) env M = .ok d M4:=by
 simp only [Zap,Zb,Zi,h1,h2,h3,h4,R3.bind]
@[simp] theorem Ztq (a b:Ty3):(a == b) = decide (a = b):=by cases a <;> cases b <;> rfl
theorem ZmT {F:F3} {f g h k:E3} {env:Zv} {M M1 M2 M3 M4 M5:Store} {a b c d e:D} (h1:f env M = .ok a M1) (h2:g env M1 = .ok b M2) (h3:h env M2 = .ok c M3) (h4:k env M3 = .ok d M4) (h5:F [a,b,c,d] M4 = .ok e M5):Zap F (Zb f (Zb g (Zb h (Zb k Zi)))) env M = .ok e M5:=by
 simp only [Zap,Zb,Zi,h1,h2,h3,h4,h5,R3.bind]
theorem ZcM {b:List D → Store → R3 D} {f:E3} {env:Zv} {M M1 M2:Store} {a d:D} (h1:f env M = .ok a M1) (h2:b [a] M1 = .ok d M2):ZaD b (Zb f Zi) env M = .ok d M2:=by
 simp only [ZaD,Zb,Zi,h1,h2,R3.bind]
theorem ZbD {op:D → Store → R3 D} {f:E3} {env:Zv} {M M1 M2:Store} {a d:D} (h1:f env M = .ok a M1) (h2:op a M1 = .ok d M2):e1 op f env M = .ok d M2:=by
 simp only [e1,h1,h2,R3.bind]
theorem Zac {f:E3} {g:EL3} {env:Zv} {M M1 M2:Store} {d:D} {ds:List D} (h1:f env M = .ok d M1) (h2:g env M1 = .ok ds M2):Zb f g env M = .ok (d :: ds) M2:=by
 simp only [Zb,h1,h2,R3.bind]
theorem ZbU {g:EL3} {env:Zv} {M M':Store} {ds:List D} (h:g env M = .ok ds M') (hl:decide (ds.length ≤ 100) = true):ZdB g env M = .ok (.tup ds) M':=by
 have:=of_decide_eq_true hl
 simp only [ZdB,h,R3.bind]
 rw [if_pos (Nat.le_trans this (by decide))]
theorem ZdS {n:Nat} {M:Store} {xs:List D} (h:M[n]? = some (.lst xs)):Zbe [.ref n] M = .ok (.int (xs.length:Int)) M:=by simp only [ZfF,ZfC,Zg9,Zdh,h]
theorem ZfB {n:Nat} {M:Store} {xs:List D} (h:M[n]? = some (.lst xs)):Zcm [.ref n] M = .ok (.tup xs) M:=by simp only [ZgX,Zg3,ZcA,h]
theorem Zbh {n:Nat} {M:Store} {xs:List D} {i:Int} {d:D} (h:M[n]? = some (.lst xs)) (hd:Za5 xs i = some d):Zr (.ref n) (.int i) M = .ok d M:=by simp only [Zij,ZfH,ZfX,Zin,h,hd]
theorem Zes {M:Store} {xs:List D} {i:Int} {d:D} (hd:Za5 xs i = some d):Zr (.tup xs) (.int i) M = .ok d M:=by simp only [Zij,ZfH,ZfX,Zin,hd]
theorem Zk8 {a b:Int} {M:Store} (h:a = b):ZbJ (.int a) (.int b) M = .ok (.bl true) M:=by simp only [ZbJ,ZmP,ZlA,Zhf,Zl2,ZmF,decide_eq_true h]
theorem ZiG {a b:Int} {M:Store} (h:¬ a = b):ZbJ (.int a) (.int b) M = .ok (.bl false) M:=by simp only [ZbJ,ZmP,ZlA,Zhf,Zl2,ZmF,decide_eq_false h]
theorem ZaA {i j:Int} {M:Store} (h:0 < j):Zaq (.int i) (.int j) M = .ok (.int (i % j)) M:=by simp only [Zih,if_pos h]
theorem ZiF {f g:E3} {env:Zv} {M M1:Store} (h1:f env M = .ok (.bl false) M1):eOr f g env M = g env M1:=by simp only [eOr,h1,R3.bind]
theorem ZrI {f g:E3} {env:Zv} {M M1:Store} (h1:f env M = .ok (.bl true) M1):eOr f g env M = .ok (.bl true) M1:=by simp only [eOr,h1,R3.bind]
theorem ZoU {c f g:E3} {env:Zv} {M M1:Store} (h1:c env M = .ok (.bl true) M1):eIf c f g env M = f env M1:=by simp only [eIf,h1,R3.bind]
theorem ZsI {c f g:E3} {env:Zv} {M M1:Store} (h1:c env M = .ok (.bl false) M1):eIf c f g env M = g env M1:=by simp only [eIf,h1,R3.bind]
end L3
namespace L3
def keysOk (t:List (Int × Int)):Prop:=(t.map (·.1)).Nodup
def Zp6 (cs:List (Int × Int)):Prop:=cs.Pairwise fun a b=>a.1 < b.1
theorem Zp6.keys {cs:List (Int × Int)} (h:Zp6 cs):keysOk cs:=by
 unfold keysOk Zp6 at *
 rw [List.Nodup,List.pairwise_map]
 exact h.imp fun h=>(fun z=>iN [] [_,_] 2 26047746225 T1 z h)
noncomputable def Zob (cs:List (Int × Int)) (n v:Int):List (Int × Int):=cs.filter (fun c=>decide (c.1 < n)) ++ (if v ≠ 0 then [(n,v)] else []) ++ cs.filter (fun c=>decide (n < c.1))
noncomputable def Row.place (bs:List Int) (p:Nat):Row → Nat
 | .jump k=>k
 | .when a k=>if 0 < bs.getD a 0 then k else p + 1
 | _=>p + 1
noncomputable def Row.cells (bs:List Int) (cs:List (Int × Int)):Row → List (Int × Int)
 | .set a b=>Zob cs (bs.getD a 0) (bs.getD b 0)
 | _=>cs
theorem Zmm (kvs:List (Zak × D)) (k j:Zak) (v:D):ZaY (putD k v kvs) j = if j = k then some v else ZaY kvs j:=by
 have mp:∀ l:List (Zak × D),ZaY (l.map fun p=>if p.1 = k then (p.1,v) else p) j = if j = k then (if l.any (fun p=>decide (p.1 = k)) then some v else none) else ZaY l j:=by
  intro l
  induction l with
  | nil=>simp [ZaY]
  | cons p l ih=>
   obtain ⟨a,b⟩:=p
   rw [List.map_cons]
   by_cases e:a = k
   ·subst e
    simp only [if_true,ZaY]
    by_cases ej:a = j
    ·subst ej; simp
    ·rw [if_neg ej,ih,if_neg (Ne.symm ej),if_neg (Ne.symm ej),if_neg ej]
   ·simp only [if_neg e,ZaY]
    by_cases ej:a = j
    ·subst ej; simp [e]
    ·rw [if_neg ej,ih,if_neg ej]; simp only [List.any_cons,decide_eq_false e,Bool.false_or]
 have ap:∀ l:List (Zak × D),¬ l.any (fun p=>decide (p.1 = k)) = true → ZaY (l ++ [(k,v)]) j = if j = k then some v else ZaY l j:=by
  intro l
  induction l with
  | nil=>intro _; simp only [List.nil_append,ZaY]; by_cases e:k = j <;> simp [e,Ne.symm,eq_comm]
  | cons p l ih=>
   intro h
   obtain ⟨a,b⟩:=p
   simp only [List.any_cons,Bool.or_eq_true,decide_eq_true_eq,not_or] at h
   simp only [List.cons_append,ZaY]
   by_cases ej:a = j
   ·subst ej; rw [if_pos rfl,if_neg h.1,if_pos rfl]
   ·rw [if_neg ej,if_neg ej]; exact ih (by simpa using h.2)
 unfold putD
 by_cases c:(kvs.any fun p=>decide (p.1 = k)) = true
 ·rw [if_pos c,mp,c]; simp
 ·rw [if_neg c]; exact ap kvs c
end L3
namespace L3
end L3
namespace L3
end L3
namespace L3
noncomputable def Zj2 (i:Int):List Nat:=(PySem.Str.ofString (toString i)).cps.toList
noncomputable section
local instance (priority:=100000) clQ1 (p:Prop):Decidable p:=Classical.propDecidable p
noncomputable def ZrY (ds:List D) (M:Store):R3 D:=match ds with
 | [.int i]=>if i.natAbs.log2 < 1920 then .ok (.str (Zj2 i)) M else .bad
 | [.str x]=>.ok (.str x) M
 | _=>.bad
@[simp] theorem ZsU {M:Store}:∀ i,ZrY ([.int i]) M = (if i.natAbs.log2 < 1920 then .ok (.str (Zj2 i)) M else .bad):=fun _=>rfl
@[simp] theorem Zs8 {M:Store}:∀ x,ZrY ([.str x]) M = .ok (.str x) M:=fun _=>rfl
noncomputable def ZrJ:List D → Option (List (List Nat))
 | []=>some []
 | .str x :: ds=>(ZrJ ds).map (x :: ·)
 | _=>none
noncomputable def Zd9 (ds:List D) (M:Store):R3 D:=match ds with
 | [.str x]=>match PySem.intText? ⟨x.toArray⟩ with
  | some n=>if x.length ≤ 640 then .ok (.int n) M else .bad
  | none=>.bad
 | ds=>Zl5 ds M
@[simp] theorem Zmy {M:Store}:∀ x,Zd9 ([.str x]) M = (match PySem.intText? ⟨x.toArray⟩ with
  | some n=>if x.length ≤ 640 then .ok (.int n) M else .bad
  | none=>.bad):=fun _=>rfl
@[simp] theorem ZlI {M:Store}:∀ i,Zd9 [.int i] M = .ok (.int i) M:=fun _=>rfl
@[simp] theorem Zrm {M:Store}:∀ b,Zd9 [.bl b] M = Zl5 [.bl b] M:=fun _=>rfl
end
end L3
namespace L3
noncomputable section
structure ItL where
 items:List D
 lk:List (Nat × List D)
noncomputable def Zcd (lk:List (Nat × List D)) (M:Store):Bool:=lk.all fun q=>decide (M[q.1]? = some (.lst q.2))
noncomputable def Zda (lk:List (Nat × List D)) (g:G3) (body:S3):List D → Zv → Store → O3
 | [],env,M=>if Zcd lk M then .nx env M else .bad
 | d :: ds,env,M=>if Zcd lk M then match g d env with
  | none=>.bad
  | some env1=>match body env1 M with
   | .nx e M'=>Zda lk g body ds e M'
   | .ct e M'=>Zda lk g body ds e M'
   | .bk e M'=>.nx e M'
   | o=>o
  else .bad
theorem ZhM {lk:List (Nat × List D)} {g:G3} {body:S3} {env:Zv} {M:Store}:Zda lk g body [] env M = if Zcd lk M then .nx env M else .bad:=rfl
theorem ZhU {lk:List (Nat × List D)} {g:G3} {body:S3} {d:D} {ds:List D} {env:Zv} {M:Store}:Zda lk g body (d :: ds) env M = if Zcd lk M then match g d env with
  | none=>.bad
  | some env1=>match body env1 M with
   | .nx e M'=>Zda lk g body ds e M'
   | .ct e M'=>Zda lk g body ds e M'
   | .bk e M'=>.nx e M'
   | o=>o
  else .bad:=rfl
noncomputable abbrev IL3:=Zv → Store → R3 ItL
noncomputable def Ziq (i:IL3) (g:G3) (body:S3):S3:=fun env M=>match i env M with
 | .ok it M1=>Zda it.lk g body it.items env M1
 | .exc x M1=>.exc x M1
 | .bad=>.bad
noncomputable def Zc4:Nat → List D → List D
 | _,[]=>[]
 | k,d :: ds=>.tup [.int k,d] :: Zc4 (k + 1) ds
@[simp] noncomputable def Zl0 (f:E3):IL3:=fun env M=>(f env M).bind fun a M1=>match a with
 | .tup ds=>.ok ⟨Zc4 0 ds,[]⟩ M1
 | .ref n=>match M1[n]? with
  | some (.lst ds)=>.ok ⟨Zc4 0 ds,[(n,ds)]⟩ M1
  | _=>.bad
 | _=>.bad
noncomputable def Zrb (a b:D) (M:Store):R3 D:=match a,b with
 | .tup [.int i,.int j],.tup [.int k,.int l]=>.ok (.bl (decide (i < k) || (decide (i = k) && decide (j ≤ l)))) M
 | _,_=>.bad
@[simp] theorem Zre {M:Store}:∀ i j k l,Zrb (.tup [.int i,.int j]) (.tup [.int k,.int l]) M = .ok (.bl (decide (i < k) || (decide (i = k) && decide (j ≤ l)))) M:=fun _ _ _ _=>rfl
noncomputable def Zg1 (ds:List D) (M:Store):R3 D:=match ds with
 | [.int i,.int j]=>.ok (.int (if j > i then j else i)) M
 | _=>.bad
@[simp] theorem Zmx {M:Store}:∀ i j,Zg1 ([.int i,.int j]) M = .ok (.int (if j > i then j else i)) M:=fun _ _=>rfl
theorem Zff:∀ (k:Nat) (ds:List D) (i:Nat),(Zc4 k ds)[i]? = (ds[i]?).map fun d=>.tup [.int ((k + i:Nat):Int),d]
 | _,[],_=>by simp [Zc4]
 | k,d :: ds,0=>by simp [Zc4]
 | k,d :: ds,i + 1=>by
  simp only [Zc4,List.getElem?_cons_succ,Zff (k + 1) ds i]
  rw [show k + 1 + i = k + (i + 1) by exact Nat.le_antisymm (lB 0 0xa1c0c1a0cc0 T1) (lB 0 1790139547840 T1)]
theorem ZeT:∀ (k:Nat) (ds:List D),(Zc4 k ds).length = ds.length
 | _,[]=>rfl
 | k,d :: ds=>by simp [Zc4,ZeT (k + 1) ds]
end
end L3
namespace L3
noncomputable section
noncomputable def Zjr:List D → List D → List D
 | a :: x,b :: y=>.tup [a,b] :: Zjr x y
 | _,_=>[]
section
local instance (priority:=100000) clZ1 (p:Prop):Decidable p:=Classical.propDecidable p
end
section
local instance (priority:=100000) clZ2 (p:Prop):Decidable p:=Classical.propDecidable p
end
end
end L3
namespace L3
noncomputable section
section
local instance (priority:=100000) clPg (p:Prop):Decidable p:=Classical.propDecidable p
end
end
end L3
namespace L3
noncomputable def ZeI (f:List Nat) (d:D):List (List Nat × D) → List (List Nat × D)
 | []=>[(f,d)]
 | (g,x) :: r=>if g = f then (g,d) :: r else (g,x) :: ZeI f d r
noncomputable def Zce (c f:List Nat) (a:D) (M:Store):R3 D:=match a with
 | .ref n=>match M[n]? with
  | some (.ins c' fs)=>if c' = c then (match fs.lookup f with
   | some d=>.ok d M
   | none=>.bad) else .bad
  | _=>.bad
 | _=>.bad
@[simp] theorem Zc9 {c:List Nat} {f:List Nat} {M:Store}:∀ n,Zce c f (.ref n) M = (match M[n]? with
  | some (.ins c' fs)=>if c' = c then (match fs.lookup f with
   | some d=>.ok d M
   | none=>.bad) else .bad
  | _=>.bad):=fun _=>rfl
noncomputable def ZhY (c f:List Nat) (v a:D) (M:Store):R3 D:=match a with
 | .ref n=>match M[n]? with
  | some (.ins c' fs)=>if c' = c ∧ fs.length < 1000 then .ok .non (M.set n (.ins c (ZeI f v fs))) else .bad
  | _=>.bad
 | _=>.bad
@[simp] theorem Ze0 {c:List Nat} {f:List Nat} {v:D} {M:Store}:∀ n,ZhY c f v (.ref n) M = (match M[n]? with
  | some (.ins c' fs)=>if c' = c ∧ fs.length < 1000 then .ok .non (M.set n (.ins c (ZeI f v fs))) else .bad
  | _=>.bad):=fun _=>rfl
noncomputable def ZfS (c f:List Nat) (o v:E3):S3:=Zaa (e2 (ZhY c f) v o)
noncomputable def ZiT (c m:List Nat) (a:D) (M:Store):Bool:=match a with
 | .ref n=>match M[n]? with
  | some (.ins c' fs)=>decide (c' = c) && (fs.lookup m).isNone
  | _=>false
 | _=>false
@[simp] theorem ZiK {c:List Nat} {m:List Nat} {M:Store}:∀ n,ZiT c m (.ref n) M = (match M[n]? with
  | some (.ins c' fs)=>decide (c' = c) && (fs.lookup m).isNone
  | _=>false):=fun _=>rfl
@[simp] noncomputable def Zab (c m:List Nat) (F:F3) (o:E3) (g:EL3):E3:=fun env M=>(o env M).bind fun a M1=>if ZiT c m a M1 then (g env M1).bind fun ds M2=>F (a :: ds) M2 else .bad
@[simp] noncomputable def Zko (c:List Nat) (F:F3) (g:EL3):E3:=fun env M=>(g env M).bind fun ds M1=>match F (.ref M1.length :: ds) (M1 ++ [.ins c []]) with
 | .ok .non M2=>.ok (.ref M1.length) M2
 | _=>.bad
end L3
namespace L3
noncomputable section
end
end L3
namespace L3
noncomputable section
end
end L3
namespace L3
noncomputable section
noncomputable abbrev Zlw:=List (List Nat × List (List Nat))
noncomputable def ZtE (f:E3):IL3:=fun env M=>(f env M).bind fun a M1=>match a with
 | .ref n=>match M1[n]? with
  | some (.lst ds)=>.ok ⟨Zc4 1 ds,[(n,ds)]⟩ M1
  | _=>.bad
 | _=>.bad
noncomputable def ZmY (M:Store):D → Option (List D × List (Nat × List D))
 | .tup x=>some (x,[])
 | .ref n=>match M[n]? with
  | some (.lst x)=>some (x,[(n,x)])
  | _=>none
 | _=>none
end
end L3
namespace L3
noncomputable section
noncomputable abbrev Zex:=List (List Nat × Int)
noncomputable def ZcU (x:List Nat):Zex → Option Int
 | []=>none
 | (k,v) :: r=>if x = k then some v else ZcU x r
noncomputable def ZdP (t:Zex) (d e:D) (M:Store):R3 D:=match d with
 | .str x=>match ZcU x t with
  | some i=>.ok (.int i) M
  | none=>.ok e M
 | .int _=>.ok e M
 | _=>.bad
noncomputable def Zn8 (x y:List D) (M:Store):R3 D:=match ZcI (Zjr x y) with
 | some l=>if l.length ≤ 100000 then alloc (.dct (dictOf l)) M else .bad
 | none=>.bad
noncomputable def Zc6 (f g:E3):E3:=fun env M=>(f env M).bind fun a M1=>(g env M1).bind fun b M2=>match ZmY M2 a,ZmY M2 b with
 | some (x,_),some (y,_)=>Zn8 x y M2
 | _,_=>.bad
noncomputable def ZoS (a:D) (M:Store):R3 D:=match a with
 | .tup ds=>.ok (.tup ds.reverse) M
 | _=>.bad
noncomputable def Zfc:D → Option (Nat × Int)
 | .tup [.ref n,.int i]=>some (n,i)
 | _=>none
theorem Zgn {d:D} {n:Nat} {i:Int} (h:Zfc d = some (n,i)):d = .tup [.ref n,.int i]:=by
 unfold Zfc at h
 split at h
 ·cases h; rfl
 ·cases h
noncomputable def Zok (x y:List D) (r:Bool) (M:Store):R3 D:=if x.all (Zav 50) = true ∧ y.all (Zav 50) = true then .ok (.bl (Zci x y && r)) M else .bad
noncomputable def Zml (a b:D) (M:Store):R3 D:=match Zfc a,Zfc b with
 | some (n,i),some (m,j)=>match M[n]?,M[m]? with
  | some (.lst x),some (.lst y)=>if n = m then .bad else Zok x y (i == j) M
  | _,_=>.bad
 | _,_=>.bad
end
end L3
namespace L3
open PySem PySem.Spec PyProof.Rows L2
noncomputable abbrev St:=L2.St
theorem Zbk:SZ ≤ sizeLine:=by rw [sizeLine_eq]; decide
def SqF (K:PySem.W.Frag) (H:Hp) (a:Addr) (xs:List V):Prop:=
 (∃ o,H a = some (.frz o (.lst xs))) ∨
  ∃ (o:Obj) (its:Array Value) (n:Nat),K.lookup a = some o ∧ o.cls = .type "list" ∧ o.dict = none ∧ o.data = .seq its n ∧ its.size ≤ sizeLine ∧ Vals xs its.toList
theorem SqF.sq {K:PySem.W.Frag} {H:Hp} {a:Addr} {xs:List V} (h:SqF K H a xs):SqL K H a xs:=by
 rcases h with ⟨o,h⟩ | h
 ·exact .inl (.inr ⟨o,h⟩)
 ·exact .inr h
mutual
noncomputable def Rep (K:PySem.W.Frag) (H:Hp) (ι:List Addr):D → V → Prop
 | .non,v=>v = .non
 | .bl b,v=>v = .bl b
 | .int i,v=>v = .int i
 | .str x,v=>v = .str ⟨x.toArray⟩
 | .tup ds,v=>∃ a vs,v = .ref a ∧ SqT K H a vs ∧ Zn K H ι ds vs
 | .scr ds,v=>∃ a vs,v = .ref a ∧ SqF K H a vs ∧ Zn K H ι ds vs
 | .ref n,v=>∃ a,ι[n]? = some a ∧ v = .ref a
noncomputable def Zn (K:PySem.W.Frag) (H:Hp) (ι:List Addr):List D → List V → Prop
 | [],vs=>vs = []
 | d :: ds,vs=>∃ v ws,vs = v :: ws ∧ Rep K H ι d v ∧ Zn K H ι ds ws
end
structure Ext (K:PySem.W.Frag) (H:Hp) (ι:List Addr) (H':Hp) (ι':List Addr):Prop where
 tup:∀ a xs,SqT K H a xs → SqT K H' a xs
 scr:∀ a xs,SqF K H a xs → SqF K H' a xs
 pre:∀ (n:Nat) (a:Addr),ι[n]? = some a → ι'[n]? = some a
 frz:∀ a o u,H a = some (.frz o u) → H' a = some (.frz o u)
section
variable {K:PySem.W.Frag} {H H' H1 H2:Hp} {ι ι' ι1 ι2:List Addr}
theorem Ext.refl:Ext K H ι H ι:=⟨fun _ _ h=>h,fun _ _ h=>h,fun _ _ h=>h,fun _ _ _ h=>h⟩
theorem Ext.trans (a:Ext K H ι H1 ι1) (b:Ext K H1 ι1 H2 ι2):Ext K H ι H2 ι2:=
 ⟨fun x xs h=>b.tup x xs (a.tup x xs h),fun x xs h=>b.scr x xs (a.scr x xs h),fun n x h=>b.pre n x (a.pre n x h),fun x o u h=>b.frz x o u (a.frz x o u h)⟩
mutual
theorem Rep.mono (e:Ext K H ι H' ι'):∀ {d:D} {v:V},Rep K H ι d v → Rep K H' ι' d v
 | .non,_,h=>h
 | .bl _,_,h=>h
 | .int _,_,h=>h
 | .str _,_,h=>h
 | .tup ds,_,h=>by
  obtain ⟨a,vs,rfl,s,r⟩:=h
  exact ⟨a,vs,rfl,e.tup _ _ s,Zn.mono e (ds:=ds) r⟩
 | .scr ds,_,h=>by
  obtain ⟨a,vs,rfl,s,r⟩:=h
  exact ⟨a,vs,rfl,e.scr _ _ s,Zn.mono e (ds:=ds) r⟩
 | .ref n,_,h=>by
  obtain ⟨a,s,rfl⟩:=h
  exact ⟨a,e.pre _ _ s,rfl⟩
theorem Zn.mono (e:Ext K H ι H' ι'):∀ {ds:List D} {vs:List V},Zn K H ι ds vs → Zn K H' ι' ds vs
 | [],_,h=>h
 | d :: ds,_,h=>by
  obtain ⟨v,ws,rfl,r,q⟩:=h
  exact ⟨v,ws,rfl,Rep.mono e (d:=d) r,Zn.mono e (ds:=ds) q⟩
end
mutual
theorem Rep.keep (ht:∀ a xs,SqT K H a xs → SqT K H' a xs) (hs:∀ a xs,SqF K H a xs → SqF K H' a xs):∀ {d:D} {v:V},Rep K H ι d v → Rep K H' ι d v
 | .non,_,h=>h
 | .bl _,_,h=>h
 | .int _,_,h=>h
 | .str _,_,h=>h
 | .tup ds,_,h=>by
  obtain ⟨a,vs,rfl,s,r⟩:=h
  exact ⟨a,vs,rfl,ht _ _ s,Zn.keep ht hs (ds:=ds) r⟩
 | .scr ds,_,h=>by
  obtain ⟨a,vs,rfl,s,r⟩:=h
  exact ⟨a,vs,rfl,hs _ _ s,Zn.keep ht hs (ds:=ds) r⟩
 | .ref n,_,h=>h
theorem Zn.keep (ht:∀ a xs,SqT K H a xs → SqT K H' a xs) (hs:∀ a xs,SqF K H a xs → SqF K H' a xs):∀ {ds:List D} {vs:List V},Zn K H ι ds vs → Zn K H' ι ds vs
 | [],_,h=>h
 | d :: ds,_,h=>by
  obtain ⟨v,ws,rfl,r,q⟩:=h
  exact ⟨v,ws,rfl,Rep.keep ht hs (d:=d) r,Zn.keep ht hs (ds:=ds) q⟩
end
theorem Zn.nil:Zn K H ι [] []:=rfl
theorem Zn.cons {d:D} {ds:List D} {v:V} {vs:List V} (h:Rep K H ι d v) (t:Zn K H ι ds vs):Zn K H ι (d :: ds) (v :: vs):=⟨v,vs,rfl,h,t⟩
theorem Zn.nil_inv {vs:List V} (h:Zn K H ι [] vs):vs = []:=h
theorem Zn.cons_inv {d:D} {ds:List D} {vs:List V} (h:Zn K H ι (d :: ds) vs):∃ v ws,vs = v :: ws ∧ Rep K H ι d v ∧ Zn K H ι ds ws:=h
theorem Zn.length:∀ {ds:List D} {vs:List V},Zn K H ι ds vs → vs.length = ds.length
 | [],_,h=>by rw [h.nil_inv]; rfl
 | d :: ds,_,h=>by
  obtain ⟨v,ws,rfl,_,q⟩:=h.cons_inv
  exact congrArg Nat.succ q.length
theorem Zn.append:∀ {ds es:List D} {vs ws:List V},Zn K H ι ds vs → Zn K H ι es ws → Zn K H ι (ds ++ es) (vs ++ ws)
 | [],_,_,_,h,q=>by rw [h.nil_inv]; exact q
 | d :: ds,_,_,_,h,q=>by
  obtain ⟨v,us,rfl,r,t⟩:=h.cons_inv
  exact Zn.cons r (t.append q)
theorem Zn.drop:∀ {ds:List D} {vs:List V} (n:Nat),Zn K H ι ds vs → Zn K H ι (ds.drop n) (vs.drop n)
 | _,_,0,h=>h
 | [],_,n + 1,h=>by rw [h.nil_inv]; exact Zn.nil
 | d :: ds,_,n + 1,h=>by
  obtain ⟨v,us,rfl,r,t⟩:=h.cons_inv
  exact t.drop n
theorem Zn.take:∀ {ds:List D} {vs:List V} (n:Nat),Zn K H ι ds vs → Zn K H ι (ds.take n) (vs.take n)
 | _,_,0,h=>Zn.nil
 | [],_,n + 1,h=>by rw [h.nil_inv]; exact Zn.nil
 | d :: ds,_,n + 1,h=>by
  obtain ⟨v,us,rfl,r,t⟩:=h.cons_inv
  exact Zn.cons r (t.take n)
theorem Zn.get:∀ {ds:List D} {vs:List V} {i:Nat} {d:D},Zn K H ι ds vs → ds[i]? = some d → ∃ v,vs[i]? = some v ∧ Rep K H ι d v
 | [],_,_,_,_,e=>by simp at e
 | d :: ds,_,0,_,h,e=>by
  obtain ⟨v,us,rfl,r,t⟩:=h.cons_inv
  simp at e; subst e
  exact ⟨v,rfl,r⟩
 | d :: ds,_,i + 1,_,h,e=>by
  obtain ⟨v,us,rfl,r,t⟩:=h.cons_inv
  obtain ⟨w,q,z⟩:=t.get (i:=i) (by simpa using e)
  exact ⟨w,by simpa using q,z⟩
theorem Zn.set:∀ {ds:List D} {vs:List V} {d:D} {v:V} (i:Nat),Zn K H ι ds vs → Rep K H ι d v → Zn K H ι (ds.set i d) (vs.set i v)
 | [],_,_,_,_,h,_=>by rw [h.nil_inv]; exact Zn.nil
 | d :: ds,_,_,_,0,h,q=>by
  obtain ⟨v,us,rfl,r,t⟩:=h.cons_inv
  exact Zn.cons q t
 | d :: ds,_,_,_,i + 1,h,q=>by
  obtain ⟨v,us,rfl,r,t⟩:=h.cons_inv
  exact Zn.cons r (t.set i q)
theorem Zn.ints:∀ (ns:List Int),Zn K H ι (ns.map D.int) (ns.map V.int)
 | []=>Zn.nil
 | n :: ns=>Zn.cons rfl (Zn.ints ns)
theorem Rep.non_inv {v:V} (h:Rep K H ι .non v):v = .non:=h
theorem Rep.bl_inv {v:V} {b:Bool} (h:Rep K H ι (.bl b) v):v = .bl b:=h
theorem Rep.int_inv {v:V} {i:Int} (h:Rep K H ι (.int i) v):v = .int i:=h
theorem Rep.str_inv {v:V} {x:List Nat} (h:Rep K H ι (.str x) v):v = .str ⟨x.toArray⟩:=h
theorem Rep.tup_inv {v:V} {ds:List D} (h:Rep K H ι (.tup ds) v):∃ a vs,v = .ref a ∧ SqT K H a vs ∧ Zn K H ι ds vs:=h
theorem Rep.scr_inv {v:V} {ds:List D} (h:Rep K H ι (.scr ds) v):∃ a vs,v = .ref a ∧ SqF K H a vs ∧ Zn K H ι ds vs:=h
theorem Rep.ref_inv {v:V} {n:Nat} (h:Rep K H ι (.ref n) v):∃ a,ι[n]? = some a ∧ v = .ref a:=h
theorem Rep.non:Rep K H ι .non .non:=rfl
theorem Rep.bl {b:Bool}:Rep K H ι (.bl b) (.bl b):=rfl
theorem Rep.int {i:Int}:Rep K H ι (.int i) (.int i):=rfl
theorem Rep.str {x:List Nat}:Rep K H ι (.str x) (.str ⟨x.toArray⟩):=rfl
theorem Rep.tup {a:Addr} {vs:List V} {ds:List D} (s:SqT K H a vs) (r:Zn K H ι ds vs):Rep K H ι (.tup ds) (.ref a):=⟨a,vs,rfl,s,r⟩
theorem Rep.ref {a:Addr} {n:Nat} (s:ι[n]? = some a):Rep K H ι (.ref n) (.ref a):=⟨a,s,rfl⟩
end
def ExO (e C:Addr) (h:Heap):Prop:=∃ o vs,h.get? e = some o ∧ o.cls = .ref C ∧ o.data = .fields vs
noncomputable abbrev exH (e C:Addr):HO:=.ext (ExO e C)
noncomputable def dk:Zak → Key
 | .inl i=>.inl i
 | .inr x=>.inr ⟨x.toArray⟩
def KvR (K:PySem.W.Frag) (H:Hp) (ι:List Addr) (kvs:List (Zak × D)) (ws:List (Key × V)):Prop:=
 ws.map (·.1) = kvs.map (fun p=>dk p.1) ∧ Zn K H ι (kvs.map (·.2)) (ws.map (·.2))
def FsR (K:PySem.W.Frag) (H:Hp) (ι:List Addr) (fs:List (List Nat × D)) (gs:List (Str × V)):Prop:=
 gs.map (·.1) = fs.map (fun p=>(⟨p.1.toArray⟩:Str)) ∧ Zn K H ι (fs.map (·.2)) (gs.map (·.2))
def ClsAt (K:PySem.W.Frag) (c:List Nat) (C:Addr):Prop:=PySem.W.nsIn K mainGlobals ⟨c.toArray⟩ = some (some (.ref C))
noncomputable def Zef (K:PySem.W.Frag) (H:Hp) (ι:List Addr):MO → Addr → Prop
 | .lst xs,a=>∃ vs,H a = some (.lst vs) ∧ Zn K H ι xs vs
 | .dct kvs,a=>∃ ws,H a = some (.dK ws) ∧ KvR K H ι kvs ws
 | .fdct kvs,a=>∃ ws,(∃ o,H a = some (.frz o (.dK ws))) ∧ KvR K H ι kvs ws
 | .ins c fs,a=>(∃ C dx gs,H a = some (.ins C dx gs) ∧ (ClsAt K c C ∧ c.head? ≠ some 0) ∧ FsR K H ι fs gs) ∨ ∃ C,H a = some (exH a C) ∧ c.head? = some 0 ∧ ClsAt K c.tail C ∧ fs = []
structure Zz (K:PySem.W.Frag) (H:Hp) (ι:List Addr) (M:Store):Prop where
 len:ι.length = M.length
 nd:ι.Nodup
 obj:∀ (n:Nat) o a,M[n]? = some o → ι[n]? = some a → Zef K H ι o a
def Loose (H:Hp) (p:Addr):Prop:=H p = none ∨ (∃ vs,H p = some (.lst vs)) ∨ (∃ ws,H p = some (.dK ws)) ∨ ∃ C dx gs,H p = some (.ins C dx gs)
section
variable {K:PySem.W.Frag} {H H':Hp} {ι ι':List Addr} {M:Store} {p:Addr} {o:HO}
theorem Loose.ne {a:Addr} {u:HO} (l:Loose H p) (h:H a = some u) (h1:∀ vs,u ≠ .lst vs) (h2:∀ ws,u ≠ .dK ws) (h3:∀ C dx gs,u ≠ .ins C dx gs:=by exact fun _ _ _ z=>nomatch z):a ≠ p:=by
 rintro rfl
 rcases l with l | ⟨vs,l⟩ | ⟨ws,l⟩ | ⟨C,dx,gs,l⟩
 ·rw [h] at l; cases l
 ·rw [h] at l; exact h1 vs (Option.some.inj l)
 ·rw [h] at l; exact h2 ws (Option.some.inj l)
 ·rw [h] at l; exact h3 C dx gs (Option.some.inj l)
theorem Loose.tup (l:Loose H p) {a:Addr} {xs:List V} (h:SqT K H a xs):SqT K (upd H p o) a xs:=by
 rcases h with (h | ⟨ob,h⟩) | h
 ·exact .inl (.inl (by rw [Zay (l.ne h (fun _ z=>nomatch z) (fun _ z=>nomatch z))]; exact h))
 ·exact .inl (.inr ⟨ob,by rw [Zay (l.ne h (fun _ z=>nomatch z) (fun _ z=>nomatch z))]; exact h⟩)
 ·exact .inr h
theorem Loose.scr (l:Loose H p) {a:Addr} {xs:List V} (h:SqF K H a xs):SqF K (upd H p o) a xs:=by
 rcases h with ⟨ob,h⟩ | h
 ·exact .inl ⟨ob,by rw [Zay (l.ne h (fun _ z=>nomatch z) (fun _ z=>nomatch z))]; exact h⟩
 ·exact .inr h
theorem Loose.frz (l:Loose H p) {a:Addr} {ob:Obj} {u:HO} (h:H a = some (.frz ob u)):upd H p o a = some (.frz ob u):=by
 rw [Zay (l.ne h (fun _ z=>nomatch z) (fun _ z=>nomatch z))]; exact h
theorem Loose.ext (l:Loose H p):Ext K H ι (upd H p o) ι:=⟨fun _ _ h=>l.tup h,fun _ _ h=>l.scr h,fun _ _ h=>h,fun _ _ _ h=>l.frz h⟩
theorem Loose.extA (l:Loose H p):Ext K H ι (upd H p o) (ι ++ [p]):=⟨fun _ _ h=>l.tup h,fun _ _ h=>l.scr h,fun n a h=>by
 rw [List.getElem?_append_left (List.getElem?_eq_some_iff.mp h).1]; exact h,fun _ _ _ h=>l.frz h⟩
theorem Zef.mono {m:MO} {a:Addr} (e:Ext K H ι H' ι') (h:Zef K H ι m a) (k:H' a = H a):Zef K H' ι' m a:=by
 cases m with
 | lst xs=>obtain ⟨vs,q,r⟩:=h; exact ⟨vs,k.trans q,r.mono e⟩
 | dct kvs=>obtain ⟨ws,q,r1,r2⟩:=h; exact ⟨ws,k.trans q,r1,r2.mono e⟩
 | fdct kvs=>obtain ⟨ws,⟨o,q⟩,r1,r2⟩:=h; exact ⟨ws,⟨o,k.trans q⟩,r1,r2.mono e⟩
 | ins c fs=>
  rcases h with ⟨C,dx,gs,q,c,r1,r2⟩ | ⟨C,q,r⟩
  ·exact .inl ⟨C,dx,gs,k.trans q,c,r1,r2.mono e⟩
  ·exact .inr ⟨C,k.trans q,r⟩
theorem Zef.ne {m:MO} {a:Addr} (h:Zef K H ι m a):H a ≠ none:=by
 cases m with
 | lst xs=>obtain ⟨vs,q,r⟩:=h; rw [q]; simp
 | dct kvs=>obtain ⟨ws,q,r⟩:=h; rw [q]; simp
 | fdct kvs=>obtain ⟨ws,⟨o,q⟩,r⟩:=h; rw [q]; simp
 | ins c fs=>rcases h with ⟨C,dx,gs,q,r⟩ | ⟨C,q,r⟩ <;> (rw [q]; simp)
theorem Zz.at (S:Zz K H ι M) {n:Nat} {m:MO} (h:M[n]? = some m):∃ a,ι[n]? = some a ∧ Zef K H ι m a:=by
 have hn:n < ι.length:=by rw [S.len]; exact (List.getElem?_eq_some_iff.mp h).1
 exact ⟨ι[n],by simp [hn],S.obj n m _ h (by simp [hn])⟩
theorem Zz.there (S:Zz K H ι M) {n:Nat} {a:Addr} (h:ι[n]? = some a):∃ m,M[n]? = some m ∧ Zef K H ι m a:=by
 have hn:n < M.length:=by rw [← S.len]; exact (List.getElem?_eq_some_iff.mp h).1
 exact ⟨M[n],by simp [hn],S.obj n _ _ (by simp [hn]) h⟩
theorem Zz.fresh (S:Zz K H ι M) (hp:H p = none):p ∉ ι:=fun h=>by
 obtain ⟨n,hn⟩:=List.getElem?_of_mem h
 obtain ⟨m,_,q⟩:=S.there hn
 exact q.ne hp
theorem Zz.other (S:Zz K H ι M) (l:Loose H p) (hp:p ∉ ι):Zz K (upd H p o) ι M:=
 ⟨S.len,S.nd,fun n m a h1 h2=>(S.obj n m a h1 h2).mono l.ext (by
  rw [Zay]; rintro rfl; exact hp (List.mem_of_getElem? h2))⟩
theorem Zz.new (S:Zz K H ι M) (hp:H p = none) {m:MO} (h:Zef K (upd H p o) (ι ++ [p]) m p):Zz K (upd H p o) (ι ++ [p]) (M ++ [m]):=by
 have hf:=S.fresh hp
 refine ⟨by simp [S.len],?_,fun n m' a h1 h2=>?_⟩
 ·exact List.nodup_append.mpr ⟨S.nd,by simp,fun x hx y hy=>by
   have e:y = p:=by simpa using hy
   subst e
   rintro rfl
   exact hf hx⟩
 ·by_cases hn:n < ι.length
  ·rw [List.getElem?_append_left hn] at h2
   rw [List.getElem?_append_left (by rw [← S.len]; exact hn)] at h1
   refine (S.obj n m' a h1 h2).mono (Loose.extA (.inl hp)) ?_
   rw [Zay]
   rintro rfl
   exact hf (List.mem_of_getElem? h2)
  ·rw [List.getElem?_append_right (Nat.le_of_not_lt hn)] at h2
   rw [List.getElem?_append_right (by rw [← S.len]; exact Nat.le_of_not_lt hn)] at h1
   have hlt:n - ι.length < 1:=by
    have:=(List.getElem?_eq_some_iff.mp h2).1
    simpa using this
   have e0:n - ι.length = 0:=Nat.le_antisymm (lA 1 234922001 T1 hlt) (Nat.zero_le _)
   rw [e0] at h2
   rw [← S.len,e0] at h1
   simp at h1 h2
   subst h1 h2
   exact h
theorem Zz.put (S:Zz K H ι M) {n:Nat} (l0:Loose H p) (hn:ι[n]? = some p) {m:MO} (h:Zef K (upd H p o) ι m p):Zz K (upd H p o) ι (M.set n m):=by
 obtain ⟨m0,hm0,q0⟩:=S.there hn
 refine ⟨by simp [S.len],S.nd,fun k m' a h1 h2=>?_⟩
 by_cases hk:k = n
 ·subst hk
  rw [hn] at h2
  cases h2
  have hlt:k < M.length:=(List.getElem?_eq_some_iff.mp hm0).1
  rw [List.getElem?_set_self hlt] at h1
  cases h1
  exact h
 ·rw [List.getElem?_set_ne (Ne.symm hk)] at h1
  refine (S.obj k m' a h1 h2).mono (Loose.ext l0) ?_
  rw [Zay]
  rintro rfl
  have hlt1:=(List.getElem?_eq_some_iff.mp h2)
  have hlt2:=(List.getElem?_eq_some_iff.mp hn)
  exact hk ((List.getElem_inj S.nd).mp (hlt1.2.trans hlt2.2.symm))
theorem Zz.lst (S:Zz K H ι M) (hp:H p = none) {xs:List D} {vs:List V} (r:Zn K H ι xs vs):Ext K H ι (upd H p (.lst vs)) (ι ++ [p]) ∧ Zz K (upd H p (.lst vs)) (ι ++ [p]) (M ++ [.lst xs]) ∧ Rep K (upd H p (.lst vs)) (ι ++ [p]) (.ref M.length) (.ref p):=by
 have e:Ext K H ι (upd H p (.lst vs)) (ι ++ [p]):=Loose.extA (.inl hp)
 refine ⟨e,S.new hp ⟨vs,Zbw,r.mono e⟩,Rep.ref ?_⟩
 rw [← S.len]; simp
theorem Zz.tupl (S:Zz K H ι M) (hp:H p = none) {xs:List D} {vs:List V} (r:Zn K H ι xs vs):Ext K H ι (upd H p (.tup vs)) ι ∧ Zz K (upd H p (.tup vs)) ι M ∧ Rep K (upd H p (.tup vs)) ι (.tup xs) (.ref p):=by
 have e:Ext K H ι (upd H p (.tup vs)) ι:=Loose.ext (.inl hp)
 exact ⟨e,S.other (.inl hp) (S.fresh hp),Rep.tup (SqT.of Zbw) (r.mono e)⟩
theorem Zz.setl (S:Zz K H ι M) {n:Nat} (l0:Loose H p) (hn:ι[n]? = some p) {xs:List D} {vs:List V} (r:Zn K H ι xs vs):Ext K H ι (upd H p (.lst vs)) ι ∧ Zz K (upd H p (.lst vs)) ι (M.set n (.lst xs)):=by
 have e:Ext K H ι (upd H p (.lst vs)) ι:=Loose.ext l0
 exact ⟨e,S.put l0 hn ⟨vs,Zbw,r.mono e⟩⟩
end
def ZaO (K:PySem.W.Frag) (H:Hp) (ι:List Addr) (env:Zv) (σ:St):Prop:=
 env.length = σ.length ∧ ∀ (i:Nat) d,env[i]? = some (some d) → ∃ v,σ[i]? = some (some v) ∧ Rep K H ι d v
theorem ZaO.mono {K:PySem.W.Frag} {H H':Hp} {ι ι':List Addr} {env:Zv} {σ:St} (r:ZaO K H ι env σ) (e:Ext K H ι H' ι'):ZaO K H' ι' env σ:=
 ⟨r.1,fun i d h=>let ⟨v,q,z⟩:=r.2 i d h; ⟨v,q,z.mono e⟩⟩
theorem ZaO.set {K:PySem.W.Frag} {H:Hp} {ι:List Addr} {env:Zv} {σ:St} {d:D} {v:V} (r:ZaO K H ι env σ) (i:Nat) (h:Rep K H ι d v):ZaO K H ι (env.set i (some d)) (σ.set i (some v)):=by
 refine ⟨by simp [r.1],fun j e hj=>?_⟩
 by_cases hij:j = i
 ·subst hij
  have hlt:j < env.length:=by
   have:=(List.getElem?_eq_some_iff.mp hj).1
   simpa using this
  rw [List.getElem?_set_self hlt] at hj
  cases hj
  exact ⟨v,by rw [List.getElem?_set_self (by rw [← r.1]; exact hlt)],h⟩
 ·rw [List.getElem?_set_ne (Ne.symm hij)] at hj
  obtain ⟨w,q,z⟩:=r.2 j e hj
  exact ⟨w,by rw [List.getElem?_set_ne (Ne.symm hij)]; exact q,z⟩
def Zo (K:PySem.W.Frag) (H:Hp) (ι:List Addr) (Q:VK) (r:R3 D):Prop:=match r with
 | .ok d M'=>∀ v H' ι',Ext K H ι H' ι' → Zz K H' ι' M' → Rep K H' ι' d v → Q v H'
 | _=>False
inductive TOf (K:PySem.W.Frag) (f:E3) (σ:St) (H:Hp) (Q:VK):Prop where
 | mk (ι:List Addr) (M:Store) (env:Zv) (S:Zz K H ι M) (E:ZaO K H ι env σ) (h:Zo K H ι Q (f env M)):TOf K f σ H Q
def tOf (K:PySem.W.Frag) (f:E3):TE:=fun σ H Q=>TOf K f σ H Q
def Zgy (K:PySem.W.Frag) (H:Hp) (ι:List Addr) (Q:Bool → Hp → Prop) (r:R3 D):Prop:=match r with
 | .ok (.bl b) M'=>∀ H' ι',Ext K H ι H' ι' → Zz K H' ι' M' → Q b H'
 | _=>False
inductive TTf (K:PySem.W.Frag) (f:E3) (σ:St) (H:Hp) (Q:Bool → Hp → Prop):Prop where
 | mk (ι:List Addr) (M:Store) (env:Zv) (S:Zz K H ι M) (E:ZaO K H ι env σ) (h:Zgy K H ι Q (f env M)):TTf K f σ H Q
def tTf (K:PySem.W.Frag) (f:E3):TT:=fun σ H Q=>TTf K f σ H Q
def Zlq (K:PySem.W.Frag) (H:Hp) (ι:List Addr) (Q:List V → Hp → Prop) (r:R3 (List D)):Prop:=match r with
 | .ok ds M'=>∀ vs H' ι',Ext K H ι H' ι' → Zz K H' ι' M' → Zn K H' ι' ds vs → Q vs H'
 | _=>False
inductive TAf (K:PySem.W.Frag) (f:EL3) (σ:St) (H:Hp) (Q:List V → Hp → Prop):Prop where
 | mk (ι:List Addr) (M:Store) (env:Zv) (S:Zz K H ι M) (E:ZaO K H ι env σ) (h:Zlq K H ι Q (f env M)):TAf K f σ H Q
def tAf (K:PySem.W.Frag) (f:EL3):TA:=fun σ H Q=>TAf K f σ H Q
def ZlT (K:PySem.W.Frag) (H:Hp) (ι:List Addr) (Q:Option Int → Hp → Prop) (r:R3 (Option Int)):Prop:=match r with
 | .ok o M'=>∀ H' ι',Ext K H ι H' ι' → Zz K H' ι' M' → Q o H'
 | _=>False
def tOo (K:PySem.W.Frag) (f:EO3):TO:=fun σ H Q=>∃ ι M env,Zz K H ι M ∧ ZaO K H ι env σ ∧ ZlT K H ι Q (f env M)
def ZdX (K:PySem.W.Frag) (H:Hp) (ι:List Addr) (E:Ends) (r:O3):Prop:=match r with
 | .nx env' M'=>∀ σ' H' ι',Ext K H ι H' ι' → Zz K H' ι' M' → ZaO K H' ι' env' σ' → E.nx σ' H'
 | .bk env' M'=>∀ σ' H' ι',Ext K H ι H' ι' → Zz K H' ι' M' → ZaO K H' ι' env' σ' → E.bk σ' H'
 | .ct env' M'=>∀ σ' H' ι',Ext K H ι H' ι' → Zz K H' ι' M' → ZaO K H' ι' env' σ' → E.ct σ' H'
 | .rt d M'=>∀ v H' ι',Ext K H ι H' ι' → Zz K H' ι' M' → Rep K H' ι' d v → E.rt v H'
 | _=>False
inductive TSf (K:PySem.W.Frag) (f:S3) (D:Ends) (σ:St) (H:Hp):Prop where
 | mk (ι:List Addr) (M:Store) (env:Zv) (S:Zz K H ι M) (E:ZaO K H ι env σ) (h:ZdX K H ι D (f env M)):TSf K f D σ H
def tSf (K:PySem.W.Frag) (f:S3):TS:=fun E σ H=>TSf K f E σ H
def C3 (X:Cx) (e:Expr) (f:E3):Prop:=PE X e (tOf X.K f)
def CT (X:Cx) (e:Expr) (f:E3):Prop:=PT X e (tTf X.K f)
def CA (X:Cx) (es:List Expr) (f:EL3):Prop:=PA X es (tAf X.K f)
def CO (X:Cx) (e:Option Expr) (f:EO3):Prop:=PO X e (tOo X.K f)
def CS (X:Cx) (st:Stmt) (f:S3):Prop:=PS X st (tSf X.K f)
def CSs (X:Cx) (st:List Stmt) (f:S3):Prop:=PSs X st (tSf X.K f)
theorem _root_.L2.PE.imp {X:Cx} {e:Expr} {t t':TE} (h:PE X e t) (i:∀ σ H Q,t' σ H Q → t σ H Q):PE X e t':=fun pins s σ H Q I q=>h pins s σ H Q I (i σ H Q q)
theorem _root_.L2.PT.imp {X:Cx} {e:Expr} {t t':TT} (h:PT X e t) (i:∀ σ H Q,t' σ H Q → t σ H Q):PT X e t':=fun pins s σ H Q I q=>h pins s σ H Q I (i σ H Q q)
theorem _root_.L2.PA.imp {X:Cx} {e:List Expr} {t t':TA} (h:PA X e t) (i:∀ σ H Q,t' σ H Q → t σ H Q):PA X e t':=fun pos pins s σ H Q I q=>h pos pins s σ H Q I (i σ H Q q)
theorem _root_.L2.PO.imp {X:Cx} {e:Option Expr} {t t':TO} (h:PO X e t) (i:∀ σ H Q,t' σ H Q → t σ H Q):PO X e t':=fun pins s σ H Q I q=>h pins s σ H Q I (i σ H Q q)
theorem _root_.L2.PS.imp {X:Cx} {e:Stmt} {t t':TS} (h:PS X e t) (i:∀ D σ H,t' D σ H → t D σ H):PS X e t':=fun pins s σ H D I q=>h pins s σ H D I (i D σ H q)
theorem _root_.L2.PSs.imp {X:Cx} {e:List Stmt} {t t':TS} (h:PSs X e t) (i:∀ D σ H,t' D σ H → t D σ H):PSs X e t':=fun pins s σ H D I q=>h pins s σ H D I (i D σ H q)
theorem _root_.L2.OpR.imp {X:Cx} {f:Value → Value → Sem Value} {r r':R2} (h:OpR X f r) (i:∀ x y H Q,r' x y H Q → r x y H Q):OpR X f r':=fun pins s σ H x y v u Q I rx ry q=>h pins s σ H x y v u Q I rx ry (i x y H Q q)
theorem _root_.L2.UnR.imp {X:Cx} {f:Value → Sem Value} {r r':V → Hp → VK → Prop} (h:UnR X f r) (i:∀ x H Q,r' x H Q → r x H Q):UnR X f r':=fun pins s σ H x v Q I rx q=>h pins s σ H x v Q I rx (i x H Q q)
theorem _root_.L2.ZaQ.imp {X:Cx} {f:Value} {r r':List V → Hp → VK → Prop} (h:ZaQ X f r) (i:∀ x H Q,r' x H Q → r x H Q):ZaQ X f r':=fun pins s σ H xs us Q I rx q=>h pins s σ H xs us Q I rx (i xs H Q q)
theorem _root_.L2.IxR.imp {X:Cx} {r r':R2} (h:IxR X r) (i:∀ x y H Q,r' x y H Q → r x y H Q):IxR X r':=fun value slice pins s σ H x y v u Q I rx ry q hs=>h value slice pins s σ H x y v u Q I rx ry (i x y H Q q) hs
theorem _root_.L2.SlR.imp {X:Cx} {r r':V → Option Int → Option Int → Hp → VK → Prop} (h:SlR X r) (i:∀ x lo hi H Q,r' x lo hi H Q → r x lo hi H Q):SlR X r':=fun pins s σ H x v vl vu lo hi sl Q I rx hs pl pu q=>h pins s σ H x v vl vu lo hi sl Q I rx hs pl pu (i x lo hi H Q q)
section
variable {K:PySem.W.Frag} {H H1:Hp} {ι ι1:List Addr}
theorem Zo.up {Q:VK} {r:R3 D} (e:Ext K H ι H1 ι1) (h:Zo K H ι Q r):Zo K H1 ι1 Q r:=by
 cases r with
 | ok d M=>exact fun v H' ι' e' S r=>h v H' ι' (e.trans e') S r
 | exc x M=>exact h
 | bad=>exact h
theorem Zgy.up {Q:Bool → Hp → Prop} {r:R3 D} (e:Ext K H ι H1 ι1) (h:Zgy K H ι Q r):Zgy K H1 ι1 Q r:=by
 cases r with
 | ok d M=>cases d <;> first | exact h | exact fun H' ι' e' S=>h H' ι' (e.trans e') S
 | exc x M=>exact h
 | bad=>exact h
theorem ZdX.up {Q:Ends} {r:O3} (e:Ext K H ι H1 ι1) (h:ZdX K H ι Q r):ZdX K H1 ι1 Q r:=by
 cases r with
 | nx d M=>exact fun v H' ι' e' S r=>h v H' ι' (e.trans e') S r
 | bk d M=>exact fun v H' ι' e' S r=>h v H' ι' (e.trans e') S r
 | ct d M=>exact fun v H' ι' e' S r=>h v H' ι' (e.trans e') S r
 | rt d M=>exact fun v H' ι' e' S r=>h v H' ι' (e.trans e') S r
 | exc x M=>exact h
 | bad=>exact h
theorem Zo.ok {Q:VK} {d:D} {M:Store} {v:V} (h:Zo K H ι Q (.ok d M)) (S:Zz K H ι M) (r:Rep K H ι d v):Q v H:=h v H ι Ext.refl S r
theorem Zo.bind {α:Type} {Q:VK} {r:R3 α} {k:α → Store → R3 D} (h:Zo K H ι Q (r.bind k)):∃ a M,r = .ok a M ∧ Zo K H ι Q (k a M):=by
 cases r with
 | ok a M=>exact ⟨a,M,rfl,h⟩
 | exc x M=>exact h.elim
 | bad=>exact h.elim
theorem Zlq.bind {α:Type} {Q:List V → Hp → Prop} {r:R3 α} {k:α → Store → R3 (List D)} (h:Zlq K H ι Q (r.bind k)):∃ a M,r = .ok a M ∧ Zlq K H ι Q (k a M):=by
 cases r with
 | ok a M=>exact ⟨a,M,rfl,h⟩
 | exc x M=>exact h.elim
 | bad=>exact h.elim
theorem ZlT.bind {α:Type} {Q:Option Int → Hp → Prop} {r:R3 α} {k:α → Store → R3 (Option Int)} (h:ZlT K H ι Q (r.bind k)):∃ a M,r = .ok a M ∧ ZlT K H ι Q (k a M):=by
 cases r with
 | ok a M=>exact ⟨a,M,rfl,h⟩
 | exc x M=>exact h.elim
 | bad=>exact h.elim
theorem Zgy.bind {α:Type} {Q:Bool → Hp → Prop} {r:R3 α} {k:α → Store → R3 D} (h:Zgy K H ι Q (r.bind k)):∃ a M,r = .ok a M ∧ Zgy K H ι Q (k a M):=by
 cases r with
 | ok a M=>exact ⟨a,M,rfl,h⟩
 | exc x M=>exact h.elim
 | bad=>exact h.elim
end
inductive R2I (K:PySem.W.Frag) (op:D → D → Store → R3 D) (x y:V) (H:Hp) (Q:VK):Prop where
 | mk (ι:List Addr) (M:Store) (a b:D) (S:Zz K H ι M) (ra:Rep K H ι a x) (rb:Rep K H ι b y) (h:Zo K H ι Q (op a b M)):R2I K op x y H Q
def r2 (K:PySem.W.Frag) (op:D → D → Store → R3 D):R2:=fun x y H Q=>R2I K op x y H Q
noncomputable def r1 (K:PySem.W.Frag) (op:D → Store → R3 D):V → Hp → VK → Prop:=fun x H Q=>∃ ι M a,Zz K H ι M ∧ Rep K H ι a x ∧ Zo K H ι Q (op a M)
inductive RBI (K:PySem.W.Frag) (b:List D → Store → R3 D) (xs:List V) (H:Hp) (Q:VK):Prop where
 | mk (ι:List Addr) (M:Store) (ds:List D) (S:Zz K H ι M) (r:Zn K H ι ds xs) (h:Zo K H ι Q (b ds M)):RBI K b xs H Q
noncomputable def rB (K:PySem.W.Frag) (b:List D → Store → R3 D):List V → Hp → VK → Prop:=fun xs H Q=>RBI K b xs H Q
noncomputable def rM (K:PySem.W.Frag) (m:D → List D → Store → R3 D):V → List V → Hp → VK → Prop:=fun x xs H Q=>∃ ι M a ds,Zz K H ι M ∧ Rep K H ι a x ∧ Zn K H ι ds xs ∧ Zo K H ι Q (m a ds M)
noncomputable def rS (K:PySem.W.Frag):V → Option Int → Option Int → Hp → VK → Prop:=fun x lo hi H Q=>∃ ι M a,Zz K H ι M ∧ Rep K H ι a x ∧ Zo K H ι Q (ZkQ a lo hi M)
theorem Zho {K:PySem.W.Frag} {op:D → D → Store → R3 D} {f g:E3} (σ:St) (H:Hp) (Q:VK) (h:tOf K (e2 op f g) σ H Q):tOp (r2 K op) (tOf K f) (tOf K g) σ H Q:=by
 obtain ⟨ι,M,env,S,E,h⟩:=h
 obtain ⟨a,M1,e1,h⟩:=Zo.bind h
 obtain ⟨b,M2,e2,h⟩:=Zo.bind h
 refine ⟨ι,M,env,S,E,?_⟩
 rw [e1]
 intro v H1 ι1 x1 S1 r1
 refine ⟨ι1,M1,env,S1,E.mono x1,?_⟩
 rw [e2]
 intro u H2 ι2 x2 S2 r2
 exact ⟨ι2,M2,a,b,S2,r1.mono x2,r2,(h.up x1).up x2⟩
theorem Zpj {K:PySem.W.Frag} {op:D → Store → R3 D} {f:E3} (σ:St) (H:Hp) (Q:VK) (h:tOf K (e1 op f) σ H Q):tUn (r1 K op) (tOf K f) σ H Q:=by
 obtain ⟨ι,M,env,S,E,h⟩:=h
 obtain ⟨a,M1,e1,h⟩:=Zo.bind h
 refine ⟨ι,M,env,S,E,?_⟩
 rw [e1]
 intro v H1 ι1 x1 S1 r1
 exact ⟨ι1,M1,a,S1,r1,h.up x1⟩
section
variable {X:Cx} {a b c e o:Expr} {es:List Expr} {pos p:Pos} {f g h:E3} {gl:EL3}
theorem Zd (i:Nat) {x:Str} (hN:X.N[i]? = some x:=by rfl) (hv:Vis X.env.scope x:=by first | exact Or.inl rfl | exact Or.inr (Or.inl rfl) | exact Or.inr (Or.inr rfl)) (hd:(x == ("__debug__":Str)) = false:=by decide)
  (hcd:(x == ("__classdict__":Str)) = false:=by decide):C3 X (.Name x pos) (Za i):=(Zly hN hv hd hcd).imp fun σ H Q zz1=>by
 obtain ⟨ι,M,env,S,E,h⟩:=zz1
 unfold Za at h
 cases q:env[i]? with
 | none=>rw [q] at h; exact h.elim
 | some od=>
  cases od with
  | none=>rw [q] at h; exact h.elim
  | some d=>
   rw [q] at h
   obtain ⟨v,e1,r⟩:=E.2 i d q
   exact ⟨v,e1,Zo.ok h S r⟩
theorem Zg {i j}:C3 X (.Constant (.int i) j pos) (eC (.int i)):=ZqS.imp fun σ H Q ⟨ι,M,env,S,E,h⟩=>Zo.ok h S Rep.int
theorem Zse {i j}:C3 X (.Constant (.bool i) j pos) (eC (.bl i)):=ZrV.imp fun σ H Q ⟨ι,M,env,S,E,h⟩=>Zo.ok h S Rep.bl
theorem ZsL {j}:C3 X (.Constant .none j pos) (eC .non):=Zqr.imp fun σ H Q ⟨ι,M,env,S,E,h⟩=>Zo.ok h S Rep.non
theorem Zbu {x:Str} {cs:List Nat} {j} (hx:x = ⟨cs.toArray⟩:=by decide +kernel):C3 X (.Constant (.str x) j pos) (eC (.str cs)):=ZpG.imp fun σ H Q zz1=>by
 obtain ⟨ι,M,env,S,E,h⟩:=zz1
 subst hx
 exact Zo.ok h S Rep.str
theorem Zt {op:Operator} {q:D → D → Store → R3 D} (ho:OpR X (binaryOp op) (r2 X.K q)) (ha:C3 X a f) (hb:C3 X b g):C3 X (.BinOp a op b pos) (e2 q f g):=(ZrF ho ha hb).imp Zho
theorem Zqo {op:UnaryOp} {q:D → Store → R3 D} (ho:UnR X (unaryOp op) (r1 X.K q)) (ha:C3 X a f):C3 X (.UnaryOp op a pos) (e1 q f):=(ZrQ ho ha).imp Zpj
theorem ZmR {op:CmpOp} {q:D → D → Store → R3 D} (ho:OpR X (compareOp op) (r2 X.K q)) (ha:C3 X a f) (hb:C3 X b g) (hm:behindInMarks op b = false:=by rfl):C3 X (.Compare a [op] [b] pos) (e2 q f g):=(Zn9 ho ha hb hm).imp Zho
theorem ZgJ {K:PySem.W.Frag} {H:Hp} {ι:List Addr} {Q:Bool → Hp → Prop} {r:R3 D} (h:Zgy K H ι Q r):Zo K H ι (fun x H'=>∃ k,x = .bl k ∧ Q k H') r:=by
 cases r with
 | ok d M=>
  cases d with
  | bl b=>exact fun v H' ι' e S r=>⟨b,r.bl_inv,h H' ι' e S⟩
  | _=>exact h.elim
 | exc x M=>exact h.elim
 | bad=>exact h.elim
theorem ZdA (h:C3 X e f) (he:∀ whole,isTrue e X.env whole = (do let v ← whole; standAt e.pos; holding [v] (truthy v)):=by intro _; rfl):CT X e f:=(Zpy h he).imp fun σ H Q ⟨ι,M,env,S,E,h⟩=>⟨ι,M,env,S,E,ZgJ h⟩
theorem ZaC {op:CmpOp} {q:D → D → Store → R3 D} (ho:OpR X (compareOp op) (r2 X.K q)) (ha:C3 X a f) (hb:C3 X b g) (hm:behindInMarks op b = false:=by rfl):CT X (.Compare a [op] [b] pos) (e2 q f g):=
 (ZnW ho ha hb hm).imp fun σ H Q ⟨ι,M,env,S,E,h⟩=>Zho σ H _ ⟨ι,M,env,S,E,ZgJ h⟩
end
end L3
namespace L3
open PySem PySem.Spec PyProof.Rows L2
section
variable {X:Cx} {a b c e o:Expr} {es rest:List Expr} {pos p:Pos} {f g h:E3} {gl:EL3}
def CW (X:Cx) (e:Expr) (f:E3):Prop:=PW X e (tTf X.K f)
theorem CW.ct (h:CW X e f):CT X e f:=PW.pt h
theorem PW.imp {t t':TT} (h:PW X e t) (i:∀ σ H Q,t' σ H Q → t σ H Q):PW X e t':=fun wh pins s σ H Q I q=>h wh pins s σ H Q I (i σ H Q q)
theorem Zje (ha:CT X a f):CW X (.BoolOp .Or [a] pos) f:=Zqi ha
theorem ZiJ (ha:CT X a f) (hb:CW X (.BoolOp .Or (b :: rest) pos) g):CW X (.BoolOp .Or (a :: b :: rest) pos) (eOr f g):=PW.imp (Zr2 ha hb) fun σ H Q zz1=>by
 obtain ⟨ι,M,env,S,E,h⟩:=zz1
 obtain ⟨d,M1,e1,h⟩:=Zgy.bind h
 refine ⟨ι,M,env,S,E,?_⟩
 rw [e1]
 cases d with
 | bl k=>
  intro H1 ι1 x1 S1
  cases k with
  | false=>rw [if_neg (by decide)]; exact ⟨ι1,M1,env,S1,E.mono x1,h.up x1⟩
  | true=>rw [if_pos rfl]; exact h H1 ι1 x1 S1
 | _=>exact h.elim
theorem Zjb (ha:CT X a f):CT X (.UnaryOp .Not a pos) (e1 ZgN f):=(Zpq ha).imp fun σ H Q zz1=>by
 obtain ⟨ι,M,env,S,E,h⟩:=zz1
 obtain ⟨d,M1,e1,h⟩:=Zgy.bind h
 refine ⟨ι,M,env,S,E,?_⟩
 rw [e1]
 cases d with
 | bl k=>exact fun H1 ι1 x1 S1=>h H1 ι1 x1 S1
 | _=>exact h.elim
theorem ZrP (hc:CT X c f) (ha:C3 X a g) (hb:C3 X b h):C3 X (.IfExp c a b pos) (eIf f g h):=(Zng hc ha hb).imp fun σ H Q zz1=>by
 obtain ⟨ι,M,env,S,E,h⟩:=zz1
 obtain ⟨d,M1,e1,h⟩:=Zo.bind h
 refine ⟨ι,M,env,S,E,?_⟩
 rw [e1]
 cases d with
 | bl k=>
  intro H1 ι1 x1 S1
  cases k with
  | true=>rw [if_pos rfl]; exact ⟨ι1,M1,env,S1,E.mono x1,h.up x1⟩
  | false=>rw [if_neg (by decide)]; exact ⟨ι1,M1,env,S1,E.mono x1,h.up x1⟩
 | _=>exact h.elim
theorem Zj:CA X [] Zi:=ZlP.imp fun σ H Q ⟨ι,M,env,S,E,h⟩=>h [] H ι Ext.refl S Zn.nil
theorem Zc (ha:C3 X e f) (hr:CA X es gl) (hs:starEach (e :: es) X.env = (false,eval e X.env) :: starEach es X.env:=by rfl):CA X (e :: es) (Zb f gl):=(Zhq ha hr hs).imp fun σ H Q zz1=>by
 obtain ⟨ι,M,env,S,E,h⟩:=zz1
 obtain ⟨d,M1,e1,h⟩:=Zlq.bind h
 obtain ⟨ds,M2,e2,h⟩:=Zlq.bind h
 refine ⟨ι,M,env,S,E,?_⟩
 rw [e1]
 intro v H1 ι1 x1 S1 r1
 refine ⟨ι1,M1,env,S1,E.mono x1,?_⟩
 rw [e2]
 intro vs H2 ι2 x2 S2 r2
 exact h (v :: vs) H2 ι2 (x1.trans x2) S2 (Zn.cons (r1.mono x2) r2)
theorem Zd8 {x1} (h:CA X es gl):C3 X (.Tuple es x1 pos) (ZdB gl):=(ZpX h).imp fun σ H Q zz1=>by
 obtain ⟨ι,M,env,S,E,h⟩:=zz1
 obtain ⟨ds,M1,e1,h⟩:=Zo.bind h
 refine ⟨ι,M,env,S,E,?_⟩
 rw [e1]
 intro vs H1 ι1 x1 S1 r1
 by_cases hz:ds.length ≤ SZ
 ·rw [if_pos hz] at h
  refine ⟨by rw [r1.length]; exact Nat.le_trans hz Zbk,fun p hp=>?_⟩
  obtain ⟨x2,S2,r2⟩:=S1.tupl hp r1
  exact h _ _ _ (x1.trans x2) S2 r2
 ·rw [if_neg hz] at h; exact h.elim
theorem Zc7 (h:CA X es gl):C3 X (.List es pos) (Zcv gl):=(Zp5 h).imp fun σ H Q zz1=>by
 obtain ⟨ι,M,env,S,E,h⟩:=zz1
 obtain ⟨ds,M1,e1,h⟩:=Zo.bind h
 refine ⟨ι,M,env,S,E,?_⟩
 rw [e1]
 intro vs H1 ι1 x1 S1 r1
 by_cases hz:ds.length ≤ SZ
 ·rw [if_pos hz] at h
  refine ⟨by rw [r1.length]; exact Nat.le_trans hz Zbk,fun p hp=>?_⟩
  obtain ⟨x2,S2,r2⟩:=S1.lst hp r1
  exact h _ _ _ (x1.trans x2) S2 r2
 ·rw [if_neg hz] at h; exact h.elim
theorem ZmJ {K:PySem.W.Frag} {q:List D → Store → R3 D} (σ:St) (H:Hp) (Q:VK) (h:tOf K (ZaD q gl) σ H Q):tCB (rB K q) (tAf K gl) σ H Q:=by
 obtain ⟨ι,M,env,S,E,h⟩:=h
 obtain ⟨ds,M1,e1,h⟩:=Zo.bind h
 refine ⟨ι,M,env,S,E,?_⟩
 rw [e1]
 intro vs H1 ι1 x1 S1 r1
 exact ⟨ι1,M1,ds,S1,r1,h.up x1⟩
theorem Zcn {x:Str} {id:String} {q:List D → Store → R3 D} (hc:ZaQ X (.builtin id) (rB X.K q)) (hm:X.mg x = none) (hv:bootBuiltins x = some (.builtin id)) (ha:CA X (e :: es) gl) (hg:Gl X x:=by rfl) (hn:x ≠ "__name__":=by decide) (hdb:(x == ("__debug__":Str)) = false:=by decide)
  (he:starEach (e :: es) X.env = (false,eval e X.env) :: starEach es X.env:=by rfl) (hpl:(backTo pos (starEach es X.env)).any (·.1) = false:=by rfl):C3 X (.Call (.Name x p) (e :: es) [] pos) (ZaD q gl):=(ZiD hc hg hm hv ha hn hdb he hpl).imp ZmJ
theorem ZgT {x:Str} {T:String} {q:List D → Store → R3 D} (hc:ZaQ X (.type T) (rB X.K q)) (hm:X.mg x = none) (hv:bootBuiltins x = some (.type T)) (ha:CA X (e :: es) gl) (hg:Gl X x:=by rfl) (hn:x ≠ "__name__":=by decide) (hdb:(x == ("__debug__":Str)) = false:=by decide)
  (he:starEach (e :: es) X.env = (false,eval e X.env) :: starEach es X.env:=by rfl) (hpl:(backTo pos (starEach es X.env)).any (·.1) = false:=by rfl):C3 X (.Call (.Name x p) (e :: es) [] pos) (ZaD q gl):=(ZkG hc hg hm hv ha hn hdb he hpl).imp ZmJ
theorem Zam (hr:IxR X (r2 X.K Zr)) (ha:C3 X a f) (hb:C3 X b g) (hs:Zke b:=by exact fun _ _=>rfl):C3 X (.Subscript a b pos) (e2 Zr f g):=(Zsu hr ha hb hs).imp Zho
theorem Zkg:CO X none Zj4:=Zn0.imp fun σ H Q ⟨ι,M,env,S,E,h⟩=>h H ι Ext.refl S
theorem Zhk (h:C3 X e f):CO X (some e) (Ziu f):=(Zn2 h).imp fun σ H Q zz1=>by
 obtain ⟨ι,M,env,S,E,h⟩:=zz1
 obtain ⟨d,M1,e1,h⟩:=ZlT.bind h
 refine ⟨ι,M,env,S,E,?_⟩
 rw [e1]
 intro v H1 ι1 x1 S1 r1
 cases d with
 | int i=>exact ⟨i,r1.int_inv,h H1 ι1 x1 S1⟩
 | _=>exact h.elim
theorem ZrB {lo hi:Option Expr} {ol oh:EO3} {p2:Pos} (hr:SlR X (rS X.K)) (he:C3 X e f) (hl:CO X lo ol) (hu:CO X hi oh):C3 X (.Subscript e (.Slice lo hi none p2) pos) (eSl f ol oh):=(Zm9 hr he hl hu).imp fun σ H Q zz1=>by
 obtain ⟨ι,M,env,S,E,h⟩:=zz1
 obtain ⟨d,M1,e1,h⟩:=Zo.bind h
 obtain ⟨l,M2,e2,h⟩:=Zo.bind h
 obtain ⟨u,M3,e3,h⟩:=Zo.bind h
 refine ⟨ι,M,env,S,E,?_⟩
 rw [e1]
 intro v H1 ι1 x1 S1 r1
 refine ⟨ι1,M1,env,S1,E.mono x1,?_⟩
 rw [e2]
 intro H2 ι2 x2 S2
 refine ⟨ι2,M2,env,S2,(E.mono x1).mono x2,?_⟩
 rw [e3]
 intro H3 ι3 x3 S3
 exact ⟨ι3,M3,d,S3,(r1.mono x2).mono x3,((h.up x1).up x2).up x3⟩
theorem Zbp:CSs X [] ZbZ:=Zod.imp fun D σ H ⟨ι,M,env,S,E,h⟩=>h σ H ι Ext.refl S E
theorem Zm {st:Stmt} {u:S3} (h:CS X st u):CSs X [st] u:=ZnF h
theorem Zf {st:Stmt} {sts:List Stmt} {u w:S3} (h1:CS X st u) (h2:CSs X sts w):CSs X (st :: sts) (Zu u w):=(ZmE h1 h2).imp fun D σ H zz1=>by
 obtain ⟨ι,M,env,S,E,h⟩:=zz1
 refine ⟨ι,M,env,S,E,?_⟩
 have h':ZdX X.K H ι D (match u env M with | .nx env' M'=>w env' M' | o=>o):=h
 cases q:u env M with
 | nx env' M'=>rw [q] at h'; exact fun σ' H' ι' x S' E'=>⟨ι',M',env',S',E',h'.up x⟩
 | _=>rw [q] at h'; exact h'
theorem Zbb {c1:Expr} {x y:List Stmt} {u w:S3} (hc:CT X c1 f) (ha:CSs X x u) (hb:CSs X y w):CS X (.If c1 x y pos) (sIf f u w):=(ZsE hc ha hb).imp fun D σ H zz1=>by
 obtain ⟨ι,M,env,S,E,h⟩:=zz1
 refine ⟨ι,M,env,S,E,?_⟩
 unfold sIf at h
 cases q:f env M with
 | ok d M1=>
  rw [q] at h
  cases d with
  | bl k=>
   intro H1 ι1 x1 S1
   cases k with
   | true=>rw [if_pos rfl]; exact ⟨ι1,M1,env,S1,E.mono x1,h.up x1⟩
   | false=>rw [if_neg (by decide)]; exact ⟨ι1,M1,env,S1,E.mono x1,h.up x1⟩
  | _=>exact h.elim
 | exc x M1=>rw [q] at h; exact h.elim
 | bad=>rw [q] at h; exact h.elim
theorem ZaP (h:C3 X e f):CS X (.Return (some e) pos) (Zb0 f):=(ZpN h).imp fun D σ H zz1=>by
 obtain ⟨ι,M,env,S,E,h⟩:=zz1
 refine ⟨ι,M,env,S,E,?_⟩
 unfold Zb0 at h
 cases q:f env M with
 | ok d M1=>rw [q] at h; exact h
 | exc x M1=>rw [q] at h; exact h.elim
 | bad=>rw [q] at h; exact h.elim
theorem Zaf (h:C3 X e f) (hs:swapsWith e none pos.line X.env = pure false:=by rfl):CS X (.Expr e pos) (Zaa f):=(ZnH h hs).imp fun D σ H zz1=>by
 obtain ⟨ι,M,env,S,E,h⟩:=zz1
 refine ⟨ι,M,env,S,E,?_⟩
 unfold Zaa at h
 cases q:f env M with
 | ok d M1=>rw [q] at h; exact fun v H1 ι1 x1 S1 r1=>h σ H1 ι1 x1 S1 (E.mono x1)
 | exc x M1=>rw [q] at h; exact h.elim
 | bad=>rw [q] at h; exact h.elim
theorem Zaj (i:Nat) {x:Str} {pos':Pos} (hN:X.N.Nodup) (he:C3 X e f) (hi:X.N[i]? = some x:=by rfl) (hx:Loc X.env.scope x:=by first | exact Or.inl rfl | exact Or.inr rfl) (hs:swapsWith e (some (.Name x pos')) pos.line X.env = pure false:=by rfl)
  (hf:X.fn x = true ∨ X.env.scope.names.lookup x = some .local:=by first | exact .inl rfl | exact .inr rfl):CS X (.Assign [.Name x pos'] e pos) (Zat i f):=(ZqB hN hi hx he hs hf).imp fun D σ H zz1=>by
 obtain ⟨ι,M,env,S,E,h⟩:=zz1
 refine ⟨ι,M,env,S,E,?_⟩
 unfold Zat at h
 cases q:f env M with
 | ok d M1=>rw [q] at h; exact fun v H1 ι1 x1 S1 r1=>h _ H1 ι1 x1 S1 ((E.mono x1).set i r1)
 | exc x M1=>rw [q] at h; exact h.elim
 | bad=>rw [q] at h; exact h.elim
theorem Zmq {st:Stmt}:CS X st ZhZ:=fun _ _ _ _ _ _ ⟨_,_,_,_,_,h⟩=>h.elim
end
noncomputable def sp3 (K:PySem.W.Frag) (n:Nat) (F:F3):Sp:=fun vs H Q _=>∃ ι M ds,Zz K H ι M ∧ Zn K H ι ds vs ∧ ds.length = n ∧ Zo K H ι Q (F ds M)
section
variable {K:PySem.W.Frag} {H H':Hp} {ι ι':List Addr} {M M':Store}
mutual
theorem Rep.below:∀ {d:D} {v:V},Rep K H ι d v → L3.below ι.length d = true
 | .non,_,_=>rfl
 | .bl _,_,_=>rfl
 | .int _,_,_=>rfl
 | .str _,_,_=>rfl
 | .tup ds,_,h=>by
  obtain ⟨a,vs,_,_,r⟩:=h.tup_inv
  exact Zn.belowL (ds:=ds) r
 | .scr ds,_,h=>by
  obtain ⟨a,vs,_,_,r⟩:=h.scr_inv
  exact Zn.belowL (ds:=ds) r
 | .ref n,_,h=>by
  obtain ⟨a,q,_⟩:=h.ref_inv
  exact decide_eq_true (List.getElem?_eq_some_iff.mp q).1
theorem Zn.belowL:∀ {ds:List D} {vs:List V},Zn K H ι ds vs → L3.belowL ι.length ds = true
 | [],_,_=>rfl
 | d :: ds,_,h=>by
  obtain ⟨v,ws,_,r,q⟩:=h.cons_inv
  exact Bool.and_eq_true_iff.mpr ⟨Rep.below (d:=d) r,Zn.belowL (ds:=ds) q⟩
end
mutual
theorem Rep.cut {n:Nat}:∀ {d:D} {v:V},L3.below n d = true → Rep K H ι d v → Rep K H (ι.take n) d v
 | .non,_,_,h=>h
 | .bl _,_,_,h=>h
 | .int _,_,_,h=>h
 | .str _,_,_,h=>h
 | .tup ds,_,hb,h=>by
  obtain ⟨a,vs,rfl,s,r⟩:=h.tup_inv
  exact Rep.tup s (Zn.cut (ds:=ds) hb r)
 | .scr ds,_,hb,h=>by
  obtain ⟨a,vs,rfl,s,r⟩:=h.scr_inv
  exact ⟨a,vs,rfl,s,Zn.cut (ds:=ds) hb r⟩
 | .ref k,_,hb,h=>by
  obtain ⟨a,q,rfl⟩:=h.ref_inv
  refine Rep.ref ?_
  rw [List.getElem?_take_of_lt (of_decide_eq_true hb)]
  exact q
theorem Zn.cut {n:Nat}:∀ {ds:List D} {vs:List V},L3.belowL n ds = true → Zn K H ι ds vs → Zn K H (ι.take n) ds vs
 | [],_,_,h=>h
 | d :: ds,_,hb,h=>by
  obtain ⟨v,ws,rfl,r,q⟩:=h.cons_inv
  exact have w:=Bool.and_eq_true_iff.mp (hb:(L3.below n d && L3.belowL n ds) = true); Zn.cons (Rep.cut (d:=d) w.1 r) (Zn.cut (ds:=ds) w.2 q)
end
theorem Zef.below {m:MO} {a:Addr} (h:Zef K H ι m a):Zdv ι.length m = true:=by
 cases m with
 | lst xs=>obtain ⟨vs,_,r⟩:=h; exact r.belowL
 | dct kvs=>obtain ⟨ws,_,_,r⟩:=h; exact r.belowL
 | fdct kvs=>obtain ⟨ws,_,_,r⟩:=h; exact r.belowL
 | ins c fs=>
  rcases h with ⟨_,_,gs,_,_,_,r⟩ | ⟨_,_,_,_,rfl⟩
  ·exact r.belowL
  ·rfl
theorem Zef.cut {n:Nat} {m:MO} {a:Addr} (hb:Zdv n m = true) (h:Zef K H ι m a):Zef K H (ι.take n) m a:=by
 cases m with
 | lst xs=>obtain ⟨vs,q,r⟩:=h; exact ⟨vs,q,r.cut hb⟩
 | dct kvs=>obtain ⟨ws,q,r1,r2⟩:=h; exact ⟨ws,q,r1,r2.cut hb⟩
 | fdct kvs=>obtain ⟨ws,q,r1,r2⟩:=h; exact ⟨ws,q,r1,r2.cut hb⟩
 | ins c fs=>
  rcases h with ⟨C,dx,gs,q,c,r1,r2⟩ | h
  ·exact .inl ⟨C,dx,gs,q,c,r1,r2.cut hb⟩
  ·exact .inr h
theorem Zz.cut {n:Nat} (S:Zz K H ι M) (h:(M.take n).all (Zdv n) = true):Zz K H (ι.take n) (M.take n):=by
 refine ⟨by simp [S.len],S.nd.sublist (List.take_sublist _ _),fun k m a h1 h2=>?_⟩
 have hk:k < n:=by
  have:=(List.getElem?_eq_some_iff.mp h1).1
  rw [List.length_take] at this
  exact Nat.lt_of_lt_of_le this (Nat.min_le_left _ _)
 have hb:Zdv n m = true:=List.all_eq_true.mp h m (List.mem_of_getElem? h1)
 rw [List.getElem?_take_of_lt hk] at h1 h2
 exact (S.obj k m a h1 h2).cut hb
theorem Zkj {Q:VK} {d:D} {v:V} (S:Zz K H ι M) (x:Ext K H ι H' ι') (S':Zz K H' ι' M') (r:Rep K H' ι' d v) (h:Zo K H ι Q (tidy M d M')):Q v H':=by
 unfold tidy at h
 split at h
 ·rename_i c
  simp only [Bool.and_eq_true,Bool.or_eq_true,decide_eq_true_eq] at c
  have hall:(M'.take M.length).all (Zdv M.length) = true:=by
   rcases c.2 with e | e
   ·rw [e,List.all_eq_true]
    intro m hm
    obtain ⟨n,hn⟩:=List.getElem?_of_mem hm
    obtain ⟨a,q,w⟩:=S.at hn
    rw [← S.len]
    exact w.below
   ·exact e
  refine h v H' (ι'.take M.length) ⟨x.tup,x.scr,fun n a q=>?_,x.frz⟩ (S'.cut hall) (r.cut c.1)
  rw [List.getElem?_take_of_lt (by rw [← S.len]; exact (List.getElem?_eq_some_iff.mp q).1)]
  exact x.pre n a q
 ·exact h v H' ι' x S' r
end
theorem ZaO.start {K:PySem.W.Frag} {H:Hp} {ι:List Addr} {ds:List D} {vs:List V} (r:Zn K H ι ds vs) (n:Nat):ZaO K H ι (ds.map some ++ List.replicate n none) (vs.map some ++ List.replicate n none):=by
 refine ⟨by simp [r.length],fun i d h=>?_⟩
 by_cases hi:i < ds.length
 ·rw [List.getElem?_append_left (by simpa using hi),List.getElem?_map] at h
  cases q:ds[i]? with
  | none=>rw [q] at h; simp at h
  | some d'=>
   rw [q] at h
   simp at h
   subst h
   obtain ⟨v,e,z⟩:=r.get q
   refine ⟨v,?_,z⟩
   rw [List.getElem?_append_left (by simpa [r.length] using hi),List.getElem?_map,e]
   rfl
 ·rw [List.getElem?_append_right (by simpa using hi),List.getElem?_replicate] at h
  split at h <;> simp at h
section
variable {P:Program} {w:World} {K:PySem.W.Frag} {mg:Str → Option Value} {base:Heap}
theorem fn3 {x qual:Str} {st:Stmt} {f:Addr} {fd:FuncData} {N ps:List Str} {k:Nat} {body:S3} (F:Fun K x qual st f fd) (S:Zai N ps (Zh st))
  (hb:∀ (cdv:Value) (A:Around) (outer:List Env) (s:Shared) (H:Hp) (E:XK),Za4 k (A.deeper (envOfC qual (Zh st) s.heap.objs.size f cdv)) → CSs (ZfJ CX0 P w K mg base N qual (Zh st) f cdv A outer s H E).nox (Zx st) body):
  Zcu P w K mg base CX0 (k + 1) f fd ps (sp3 K ps.length (mkF ps.length N.length body)):=by
 refine F.ok S (fun vs H Q E ⟨ι,M,ds,_,r,l,_⟩=>by rw [r.length,l]) fun cdv A outer s H vs Q E hr zz1=>?_
 obtain ⟨ι,M,ds,SR,r,l,h⟩:=zz1
 refine ⟨_,hb cdv A outer s H E hr,ι,M,ds.map some ++ List.replicate (N.length - ps.length) none,SR,?_,?_⟩
 ·have e:L2.start N vs = vs.map some ++ List.replicate (N.length - ps.length) none:=by unfold L2.start; rw [r.length,l]
  rw [e]
  exact ZaO.start r _
 ·unfold mkF at h
  rw [if_pos l] at h
  cases q:body (ds.map some ++ List.replicate (N.length - ps.length) none) M with
  | nx env' M'=>rw [q] at h; exact fun σ' H' ι' x S' E'=>Zkj SR x S' Rep.non h
  | rt d M'=>rw [q] at h; exact fun v H' ι' x S' r'=>Zkj SR x S' r' h
  | bk _ _=>rw [q] at h; exact h.elim
  | ct _ _=>rw [q] at h; exact h.elim
  | exc _ _=>rw [q] at h; exact h.elim
  | bad=>rw [q] at h; exact h.elim
def Fn3 (P:Program) (w:World) (K:PySem.W.Frag) (mg:Str → Option Value) (base:Heap) (k:Nat) (x:Str) (ps:List Str) (F:F3):Prop:=
 (∀ ds M,ds.length ≠ ps.length → F ds M = .bad) ∧ ∃ f fd,mg x = some (.ref f) ∧ PySem.W.keepIn K (.ref f) = true ∧ Binds K fd ps [] ∧ Zcu P w K mg base CX0 k f fd ps (sp3 K ps.length F)
def Zbs (K:PySem.W.Frag) (mg:Str → Option Value) (x:Str) (st:Stmt) (ps:List Str):Prop:=∃ f fd,Fun K x x st f fd ∧ mg x = some (.ref f) ∧ Binds K fd ps []
theorem Fn3.of {x:Str} {st:Stmt} {N ps:List Str} {k:Nat} {body:S3} (d:Zbs K mg x st ps) (S:Zai N ps (Zh st))
  (hb:∀ (f:Addr) (cdv:Value) (A:Around) (outer:List Env) (s:Shared) (H:Hp) (E:XK),Za4 k (A.deeper (envOfC x (Zh st) s.heap.objs.size f cdv)) → CSs (ZfJ CX0 P w K mg base N x (Zh st) f cdv A outer s H E).nox (Zx st) body):
  Fn3 P w K mg base (k + 1) x ps (mkF ps.length N.length body):=by
 obtain ⟨f,fd,F,m,bi⟩:=d
 exact ⟨fun ds M h=>if_neg h,f,fd,m,F.kp,bi,fn3 F S (hb f)⟩
end
section
variable {X:Cx} {e:Expr} {es:List Expr} {pos p:Pos} {gl:EL3} {x:Str} {k:Nat} {ps:List Str} {F:F3}
theorem Za1 (G:Fn3 X.prog X.w X.K X.mg X.base k x ps F) (hr:Za4 k X.A) (ha:CA X (e :: es) gl) (hg:Gl X x:=by rfl) (hdb:(x == ("__debug__":Str)) = false:=by decide)
  (he:starEach (e :: es) X.env = (false,eval e X.env) :: starEach es X.env:=by rfl) (hpl:(backTo pos (starEach es X.env)).any (·.1) = false:=by rfl):C3 X (.Call (.Name x p) (e :: es) [] pos) (Zap F gl):=by
 obtain ⟨hn,f,fd,m,kp,bi,ok⟩:=G
 refine (Zkk ok hr hg m kp bi .nil ZjZ ha hdb he hpl).imp fun σ H Q zz1=>?_
 obtain ⟨ι,M,env,S,E,h⟩:=zz1
 obtain ⟨ds,M1,e1,h⟩:=Zo.bind h
 refine ⟨ι,M,env,S,E,?_⟩
 rw [e1]
 intro vs H1 ι1 x1 S1 r1
 have hl:ds.length = ps.length:=by
  refine Decidable.byContradiction fun q=>?_
  rw [hn ds M1 q] at h
  exact h.elim
 exact ⟨ι1,M1,ds,S1,by rw [List.append_nil]; exact r1,hl,h.up x1⟩
end
end L3
namespace L3
open PySem PySem.Spec PyProof.Rows L2
def tGf (K:PySem.W.Frag) (g:G3):TG:=fun v σ H Q=>∃ ι M env d env',Zz K H ι M ∧ ZaO K H ι env σ ∧ Rep K H ι d v ∧ g d env = some env' ∧ ∀ σ',ZaO K H ι env' σ' → Q σ' H
def tGs (K:PySem.W.Frag) (is:List Nat):TGs:=fun vs σ H Q=>∃ ι M env ds env',Zz K H ι M ∧ ZaO K H ι env σ ∧ Zn K H ι ds vs ∧ bindAll is ds env = some env' ∧ ∀ σ',ZaO K H ι env' σ' → Q σ' H
def CG (X:Cx) (tg:Expr) (g:G3):Prop:=PG X tg (tGf X.K g)
def CGs (X:Cx) (tg:List Expr) (is:List Nat):Prop:=PGs X tg (tGs X.K is)
theorem PG.imp {X:Cx} {e:Expr} {t t':TG} (h:PG X e t) (i:∀ v σ H Q,t' v σ H Q → t v σ H Q):PG X e t':=fun pins s σ H v u Q I r q=>h pins s σ H v u Q I r (i v σ H Q q)
theorem PGs.imp {X:Cx} {e:List Expr} {t t':TGs} (h:PGs X e t) (i:∀ v σ H Q,t' v σ H Q → t v σ H Q):PGs X e t':=fun pins s σ H v u Q I r q=>h pins s σ H v u Q I r (i v σ H Q q)
section
variable {X:Cx} {e:Expr} {es:List Expr} {pos:Pos}
theorem Zcs (i:Nat) {x:Str} (hN:X.N.Nodup) (hi:X.N[i]? = some x:=by rfl) (hx:Loc X.env.scope x:=by first | exact Or.inl rfl | exact Or.inr rfl)
  (hf:X.fn x = true ∨ X.env.scope.names.lookup x = some .local:=by first | exact .inl rfl | exact .inr rfl):CG X (.Name x pos) (Zbj i):=PG.imp (Zkv hN hi hx hf) fun v σ H Q zz1=>by
 obtain ⟨ι,M,env,d,env',S,E,r,q,h⟩:=zz1
 cases q
 exact h _ (E.set i r)
theorem Znt:CGs X [] []:=PGs.imp Zoa fun v σ H Q zz1=>by
 obtain ⟨ι,M,env,ds,env',S,E,r,q,h⟩:=zz1
 cases ds with
 | nil=>cases q; exact ⟨r.nil_inv,h σ E⟩
 | cons d ds=>cases q
theorem Zig (i:Nat) {is:List Nat} {x:Str} (hN:X.N.Nodup) (ht:CGs X es is) (hi:X.N[i]? = some x:=by rfl) (hx:Loc X.env.scope x:=by first | exact Or.inl rfl | exact Or.inr rfl)
  (hf:X.fn x = true ∨ X.env.scope.names.lookup x = some .local:=by first | exact .inl rfl | exact .inr rfl) (hs:(assignEach (.Name x pos :: es) X.env).map (·.2) = assign (.Name x pos) X.env :: (assignEach es X.env).map (·.2):=by rfl):
  CGs X (.Name x pos :: es) (i :: is):=PGs.imp (ZlD (Zkv hN hi hx hf) ht hs) fun v σ H Q zz1=>by
 obtain ⟨ι,M,env,ds,env',S,E,r,q,h⟩:=zz1
 cases ds with
 | nil=>cases q
 | cons d ds=>
  obtain ⟨v,ws,rfl,r1,r2⟩:=r.cons_inv
  exact ⟨v,ws,rfl,ι,M,env.set i (some d),ds,env',S,E.set i r1,r2,q,h⟩
theorem Zpl {is:List Nat} {k:Nat} (hc:X.calm = true) (h:CGs X es is) (hl:es.length = is.length:=by rfl) (hn:(assignEach es X.env).length = is.length:=by rfl) (hst:(assignEach es X.env).findIdx? (·.1) = none:=by rfl):CG X (.Tuple es k pos) (Zkt is):=
 PG.imp (ZqL (n:=is.length) hc h hn hst) fun v σ H Q zz1=>by
  obtain ⟨ι,M,env,d,env',S,E,r,q,h⟩:=zz1
  cases d with
  | tup ds=>
   obtain ⟨a,vs,rfl,s,r⟩:=r.tup_inv
   have hlen:∀ (is:List Nat) (ds:List D) (env env':Zv),bindAll is ds env = some env' → ds.length = is.length:=by
    intro is
    induction is with
    | nil=>intro ds env env' h; cases ds with | nil=>rfl | cons d ds=>cases h
    | cons i is ih=>intro ds env env' h; cases ds with | nil=>cases h | cons d ds=>simp [ih ds _ _ h]
   exact ⟨a,vs,rfl,s,by rw [r.length]; exact hlen _ _ _ _ q,ι,M,env,ds,env',S,E,r,q,h⟩
  | _=>cases q
end
def Zgl (K:PySem.W.Frag) (H:Hp) (ι:List Addr) (it:It3) (J:It):Prop:=∀ (i:Nat) H2 ι2 M2,Ext K H ι H2 ι2 → Zz K H2 ι2 M2 → locked it M2 = true →
 (∀ d,it.items[i]? = some d → J.go i H2 ∧ ∀ x H3,J.yld i H2 x H3 → H3 = H2 ∧ Rep K H2 ι2 d x) ∧ (i = it.items.length → J.stop i H2)
def Zk6 (K:PySem.W.Frag) (H:Hp) (ι:List Addr) (R:It → Hp → Prop) (r:R3 It3):Prop:=match r with
 | .ok it M'=>∀ J H' ι',Ext K H ι H' ι' → Zz K H' ι' M' → Zgl K H' ι' it J → R J H'
 | _=>False
def tIf (K:PySem.W.Frag) (g:I3):TI:=fun σ H R=>∃ ι M env,Zz K H ι M ∧ ZaO K H ι env σ ∧ Zk6 K H ι R (g env M)
def CI (X:Cx) (tg e:Expr) (g:I3):Prop:=PI X tg e (tIf X.K g)
theorem PI.imp {X:Cx} {tg e:Expr} {t t':TI} (h:PI X tg e t) (i:∀ σ H Q,t' σ H Q → t σ H Q):PI X tg e t':=fun pins s σ H Q I q=>h pins s σ H Q I (i σ H Q q)
theorem PI.or {X:Cx} {tg e:Expr} {t t':TI} (h:PI X tg e t) (h':PI X tg e t'):PI X tg e (fun σ H R=>t σ H R ∨ t' σ H R):=fun pins s σ H Q I q=>q.elim (h pins s σ H Q I) (h' pins s σ H Q I)
theorem Zk6.bind {K:PySem.W.Frag} {H:Hp} {ι:List Addr} {α:Type} {Q:It → Hp → Prop} {r:R3 α} {k:α → Store → R3 It3} (h:Zk6 K H ι Q (r.bind k)):∃ a M,r = .ok a M ∧ Zk6 K H ι Q (k a M):=by
 cases r with
 | ok a M=>exact ⟨a,M,rfl,h⟩
 | exc x M=>exact h.elim
 | bad=>exact h.elim
section
variable {K:PySem.W.Frag} {H:Hp} {ι:List Addr}
end
section
variable {X:Cx} {tg e a b:Expr} {pos p:Pos} {f g:E3}
theorem ZpF (h:C3 X e f) (hs:PI X tg e (fun σ H R=>tOf X.K f σ H fun x H1=>∃ z:Str,x = .str z ∧ z.length ≤ SZ ∧ ∀ J,(∀ ι,Zgl X.K H1 ι ⟨z.cps.toList.map fun c=>.str [c],none⟩ J) → R J H1)):CI X tg e (Zft f):=
 PI.imp (PI.or (ZqH h) (PI.or (ZnU h) hs)) fun σ H R zz1=>by
  obtain ⟨ι,M,env,S,E,h⟩:=zz1
  obtain ⟨d,M1,e1,h⟩:=Zk6.bind h
  cases d with
  | tup ds=>
   refine .inl ⟨ι,M,env,S,E,?_⟩
   rw [e1]
   intro v H1 ι1 x1 S1 r1
   obtain ⟨a,vs,rfl,s,r⟩:=r1.tup_inv
   refine ⟨a,rfl,⟨vs,s⟩,h _ H1 ι1 x1 S1 ?_⟩
   intro i H2 ι2 M2 x S2 _
   refine ⟨fun d hd=>?_,fun hl=>⟨vs,x.tup _ _ s,by rw [r.length,hl]; exact Nat.le_refl _⟩⟩
   obtain ⟨v,hv,rv⟩:=r.get hd
   refine ⟨⟨vs,v,x.tup _ _ s,hv⟩,fun y H3 hy=>⟨hy.1,?_⟩⟩
   have e:=hy.2 vs (x.tup _ _ s)
   rw [hv] at e
   cases e
   exact rv.mono x
  | scr ds=>
   refine .inr (.inl ⟨ι,M,env,S,E,?_⟩)
   rw [e1]
   intro v H1 ι1 x1 S1 r1
   obtain ⟨a,vs,rfl,s,r⟩:=r1.scr_inv
   refine ⟨a,rfl,⟨vs,s.sq⟩,h _ H1 ι1 x1 S1 ?_⟩
   intro i H2 ι2 M2 x S2 _
   refine ⟨fun d hd=>?_,fun hl=>⟨vs,(x.scr _ _ s).sq,by rw [r.length,hl]; exact Nat.le_refl _⟩⟩
   obtain ⟨v,hv,rv⟩:=r.get hd
   refine ⟨⟨vs,v,(x.scr _ _ s).sq,hv⟩,fun y H3 hy=>⟨hy.1,?_⟩⟩
   have e:=hy.2 vs (x.scr _ _ s).sq
   rw [hv] at e
   cases e
   exact rv.mono x
  | ref n=>
   refine .inr (.inl ⟨ι,M,env,S,E,?_⟩)
   rw [e1]
   intro v H1 ι1 x1 S1 r1
   cases hm:M1[n]? with
   | none=>simp only [hm] at h; exact h.elim
   | some o=>
    cases o with
    | dct kvs=>simp only [hm] at h; exact h.elim
    | fdct kvs=>simp only [hm] at h; exact h.elim
    | ins _ _=>simp only [hm] at h; exact h.elim
    | lst ds=>
     simp only [hm] at h
     obtain ⟨a,ha,rfl⟩:=r1.ref_inv
     obtain ⟨vs,q,r⟩:=S1.obj n _ a hm ha
     refine ⟨a,rfl,⟨vs,SqL.of q⟩,h _ H1 ι1 x1 S1 ?_⟩
     intro i H2 ι2 M2 x S2 lk
     have lk':M2[n]? = some (.lst ds):=of_decide_eq_true lk
     obtain ⟨vs2,q2,r2⟩:=S2.obj n _ a lk' (x.pre _ _ ha)
     refine ⟨fun d hd=>?_,fun hl=>⟨vs2,SqL.of q2,by rw [r2.length,hl]; exact Nat.le_refl _⟩⟩
     obtain ⟨v,hv,rv⟩:=r2.get hd
     refine ⟨⟨vs2,v,SqL.of q2,hv⟩,fun y H3 hy=>⟨hy.1,?_⟩⟩
     have e:=hy.2 vs2 (SqL.of q2)
     rw [hv] at e
     cases e
     exact rv
  | str z=>
   refine .inr (.inr ⟨ι,M,env,S,E,?_⟩)
   rw [e1]
   intro v H1 ι1 x1 S1 r1
   have hv:=r1.str_inv
   subst hv
   by_cases hz:z.length ≤ SZ
   ·simp only [if_pos hz] at h
    refine ⟨_,rfl,by simpa [Str.length] using hz,fun J hJ=>h J H1 ι1 x1 S1 ?_⟩
    simpa using hJ ι1
   ·simp only [if_neg hz] at h; exact h.elim
  | non=>exact h.elim
  | bl b=>exact h.elim
  | int i=>exact h.elim
theorem Zm0 {K:PySem.W.Frag} {H:Hp} {ι:List Addr} (lo:Int) (n:Nat):Zgl K H ι ⟨ZkJ lo n,none⟩ (Itr lo n):=by
 intro i H2 ι2 M2 x S _
 refine ⟨fun d hd=>?_,fun hl=>?_⟩
 ·unfold ZkJ at hd
  rw [List.getElem?_map] at hd
  cases q:(List.range n)[i]? with
  | none=>rw [q] at hd; cases hd
  | some k=>
   rw [q] at hd
   obtain ⟨hi,e⟩:=List.getElem?_eq_some_iff.mp q
   rw [List.getElem_range] at e
   subst e
   have hd':D.int (lo + (i:Int)) = d:=by simpa using hd
   subst hd'
   exact ⟨(by show i < n; simpa using hi),fun y H3 hy=>⟨hy.1,by rw [hy.2]; exact Rep.int⟩⟩
 ·show n ≤ i
  rw [hl]
  simp [ZkJ]
theorem ZgU (hm:X.mg "range" = none) (h:C3 X a f) (hg:Gl X "range":=by rfl) (hs:starEach [a] X.env = [(false,eval a X.env)]:=by rfl) (hs':starEach (a :: []) X.env = (false,eval a X.env) :: starEach [] X.env:=by rfl):CI X tg (.Call (.Name "range" p) [a] [] pos) (ZcN f):=
 PI.imp (ZkT hg hm (Zc h Zj hs') hs) fun σ H R zz1=>by
  obtain ⟨ι,M,env,S,E,h⟩:=zz1
  obtain ⟨d,M1,e1,h⟩:=Zk6.bind h
  refine ⟨ι,M,env,S,E,?_⟩
  have e2:Zb f Zi env M = .ok [d] M1:=by unfold Zb; rw [e1]; rfl
  rw [e2]
  intro vs H1 ι1 x1 S1 r1
  obtain ⟨v,ws,rfl,r,q⟩:=r1.cons_inv
  have:=q.nil_inv
  subst this
  cases d with
  | int j=>
   have hv:=r.int_inv
   subst hv
   by_cases hj:j ≤ 1000000 ∧ -1000000 ≤ j
   ·simp only [if_pos hj] at h
    exact ⟨j,rfl,by omega,by omega,h _ H1 ι1 x1 S1 (Zm0 0 j.toNat)⟩
   ·simp only [if_neg hj] at h; exact h.elim
  | _=>exact h.elim
theorem Zh1 {iter:Expr} {body:List Stmt} {i:I3} {g:G3} {u:S3} (hxe:X.xe = fun _ _=>False) (hc:X.calm = true) (hi:CI X tg iter i) (hg:CG X tg g) (hb:CSs X body u) (hs:∀ x,foldedSetIterable iter X.env x = pure x:=by intro _; rfl):
  CS X (.For tg iter body [] pos) (Zhp i g u):=(Zmu (by rw [hxe]; exact PassesOwn.never) hc hi hg hb hs).imp fun D σ H zz1=>by
 obtain ⟨ι,M,env,S,E,h⟩:=zz1
 unfold Zhp at h
 cases q:i env M with
 | exc x M1=>rw [q] at h; exact h.elim
 | bad=>rw [q] at h; exact h.elim
 | ok it M1=>
  rw [q] at h
  refine ⟨ι,M,env,S,E,?_⟩
  rw [q]
  intro J H1 ι1 x1 S1 ok
  refine ⟨fun i m σ2 H2=>m = it.items.length - i ∧ i ≤ it.items.length ∧ ∃ ι2 M2 env2,Ext X.K H1 ι1 H2 ι2 ∧ Zz X.K H2 ι2 M2 ∧ ZaO X.K H2 ι2 env2 σ2 ∧ ZdX X.K H2 ι2 D (ZbS it g u (it.items.drop i) env2 M2),
   ⟨_,rfl,Nat.zero_le _,ι1,M1,env,Ext.refl,S1,E.mono x1,ZdX.up x1 h⟩,?_⟩
  rintro i m σ2 H2 ⟨rfl,hi,ι2,M2,env2,x2,S2,E2,h2⟩
  by_cases hlt:i < it.items.length
  ·have hd:it.items[i]? = some it.items[i]:=by simp [hlt]
   rw [List.drop_eq_getElem_cons hlt] at h2
   first | rw [ZbW] at h2 | rw [ZdN] at h2
   by_cases lk:locked it M2 = true
   ·rw [if_pos lk] at h2
    obtain ⟨go,yl⟩:=(ok i H2 ι2 M2 x2 S2 lk).1 _ hd
    cases eg:g it.items[i] env2 with
    | none=>rw [eg] at h2; exact h2.elim
    | some env3=>
     rw [eg] at h2
     refine .inr ⟨go,fun σ' H'=>∃ ι3 M3 env4,Ext X.K H2 ι2 H' ι3 ∧ Zz X.K H' ι3 M3 ∧ ZaO X.K H' ι3 env4 σ' ∧ ZdX X.K H' ι3 D (ZbS it g u (it.items.drop (i + 1)) env4 M3),
      fun σ' H' ⟨ι3,M3,env4,x3,S3,E3,h3⟩=>⟨it.items.length - (i + 1),lD 2 0x30113c2012a1c0c21 T1 (Nat.sub_add_cancel (lB 1 6991908881 T1 hlt)) (sbA _ _),rfl,hlt,ι3,M3,env4,x2.trans x3,S3,E3,h3⟩,fun x H' hy=>?_⟩
     obtain ⟨rfl,rx⟩:=yl x H' hy
     refine ⟨ι2,M2,env2,_,env3,S2,E2,rx,eg,fun σ' E'=>⟨ι2,M2,env3,S2,E',?_⟩⟩
     cases qu:u env3 M2 with
     | nx e' M'=>simp only [qu] at h2; exact fun σ' H' ι' x' S' E'=>⟨ι',M',e',x',S',E',h2.up x'⟩
     | ct e' M'=>simp only [qu] at h2; exact fun σ' H' ι' x' S' E'=>⟨ι',M',e',x',S',E',h2.up x'⟩
     | bk e' M'=>simp only [qu] at h2; exact h2
     | rt d M'=>simp only [qu] at h2; exact h2
     | exc x' M'=>simp only [qu] at h2; exact h2.elim
     | bad=>simp only [qu] at h2; exact h2.elim
   ·rw [if_neg lk] at h2; exact h2.elim
  ·have e0:i = it.items.length:=Nat.le_antisymm hi (Nat.le_of_not_lt hlt)
   subst e0
   rw [List.drop_length] at h2
   first | rw [ZbW] at h2 | rw [ZdN] at h2
   by_cases lk:locked it M2 = true
   ·rw [if_pos lk] at h2
    exact .inl ⟨(ok _ H2 ι2 M2 x2 S2 lk).2 rfl,h2 σ2 H2 ι2 Ext.refl S2 E2⟩
   ·rw [if_neg lk] at h2; exact h2.elim
theorem ZiR {c1:Expr} {body:List Stmt} {u:S3} (hxe:X.xe = fun _ _=>False) (hc:CT X c1 f) (hb:CSs X body u):CS X (.While c1 body [] pos) (Zjo f u):=(ZlJ (by rw [hxe]; exact PassesOwn.never) hc hb).imp fun D σ H zz1=>by
 obtain ⟨ι,M,env,S,E,h⟩:=zz1
 refine ⟨fun m σ2 H2=>∃ ι2 M2 env2,Zz X.K H2 ι2 M2 ∧ ZaO X.K H2 ι2 env2 σ2 ∧ ZdX X.K H2 ι2 D (Zdg f u m env2 M2),⟨1000000,ι,M,env,S,E,h⟩,?_⟩
 rintro m σ2 H2 ⟨ι2,M2,env2,S2,E2,h2⟩
 cases m with
 | zero=>exact h2.elim
 | succ m=>
  refine ⟨ι2,M2,env2,S2,E2,?_⟩
  rw [Zey] at h2
  cases q:f env2 M2 with
  | exc x M1=>rw [q] at h2; exact h2.elim
  | bad=>rw [q] at h2; exact h2.elim
  | ok d M1=>
   rw [q] at h2
   cases d with
   | bl k=>
    cases k with
    | false=>
     intro H3 ι3 x3 S3
     rw [if_neg (by decide)]
     exact h2 σ2 H3 ι3 x3 S3 (E2.mono x3)
    | true=>
     intro H3 ι3 x3 S3
     rw [if_pos rfl]
     refine ⟨fun σ' H'=>∃ ι4 M4 env4,Zz X.K H' ι4 M4 ∧ ZaO X.K H' ι4 env4 σ' ∧ ZdX X.K H' ι4 D (Zdg f u m env4 M4),fun σ' H' q=>⟨m,Nat.lt_succ_self _,q⟩,ι3,M1,env2,S3,E2.mono x3,?_⟩
     have h3:=ZdX.up x3 h2
     cases qu:u env2 M1 with
     | nx e' M'=>simp only [qu] at h3; exact fun σ' H' ι' x' S' E'=>⟨ι',M',e',S',E',h3.up x'⟩
     | ct e' M'=>simp only [qu] at h3; exact fun σ' H' ι' x' S' E'=>⟨ι',M',e',S',E',h3.up x'⟩
     | bk e' M'=>simp only [qu] at h3; exact h3
     | rt d M'=>simp only [qu] at h3; exact h3
     | exc x' M'=>simp only [qu] at h3; exact h3.elim
     | bad=>simp only [qu] at h3; exact h3.elim
   | _=>exact h2.elim
end
end L3
namespace L3
open PySem PySem.Spec PyProof.Rows L2
theorem Zgi {x y:List Nat}:decide (V.str ⟨x.toArray⟩ = V.str ⟨y.toArray⟩) = (x == y):=by
 by_cases h:x = y
 ·subst h; simp
 ·rw [decide_eq_false (fun e=>h (by injection e with e1; injection e1 with e2; simpa using congrArg Array.toList e2))]
  exact (beq_eq_false_iff_ne.mpr h).symm
section
variable {X:Cx}
theorem Zl9:OpR X (binaryOp .Add) (fun x y H Q=>∃ a b ys,x = .ref a ∧ y = .ref b ∧ SqT X.K H a [] ∧ SqT X.K H b ys ∧ Q (.ref b) H):=by
 intro pins s σ H x y v u Q I rx ry h
 obtain ⟨a,b,ys,rfl,rfl,ha,hb,q⟩:=h
 cases rx
 cases ry
 obtain ⟨its,r1,p1,_⟩:=I.tuple ha
 obtain ⟨its2,r2,p2,_⟩:=I.tuple hb
 cases r1
 obtain ⟨⟨cls,dd,data,sl⟩,ho,hc,n,hd⟩:=id p1
 obtain ⟨⟨cls2,dd2,data2,sl2⟩,ho2,hc2,n2,hd2⟩:=id p2
 simp only at hc hd hc2 hd2
 subst hc hd hc2 hd2
 exact concat_meets ⟨_,ho,rfl⟩ ⟨_,ho2,rfl⟩ noFill_tuple_add seq_tuple_add PySem.F.slot_tuple_add PySem.F.entry_tuple_add (PySem.F.args_tuple_add_2 _ _)
   (tuple_addW0 a b _ its2.toArray n n2 dd dd2 sl sl2 (by simp)) ⟨ho,ho2,⟨.ref b,H,I,rfl,q⟩⟩
theorem ZnD (x y:List Nat):(⟨x.toArray⟩:Str) ++ ⟨y.toArray⟩ = ⟨(x ++ y).toArray⟩:=by
 show Str.append _ _ = _
 unfold Str.append
 simp
noncomputable def onO (o:Option D) (f:D → R3 D):R3 D:=match o with
 | some d=>f d
 | none=>.bad
theorem ZhG {K:PySem.W.Frag} {H:Hp} {ι:List Addr} {Q:VK} {o:Option D} {f:D → R3 D} (h:Zo K H ι Q (onO o f)):∃ x,o = some x ∧ Zo K H ι Q (f x):=by
 cases o with
 | none=>exact h.elim
 | some x=>exact ⟨x,rfl,h⟩
noncomputable def onN (o:Option Nat) (f:Nat → R3 D):R3 D:=match o with
 | some d=>f d
 | none=>.bad
theorem ZoI {K:PySem.W.Frag} {H:Hp} {ι:List Addr} {Q:VK} {o:Option Nat} {f:Nat → R3 D} (h:Zo K H ι Q (onN o f)):∃ x,o = some x ∧ Zo K H ι Q (f x):=by
 cases o with
 | none=>exact h.elim
 | some x=>exact ⟨x,rfl,h⟩
noncomputable def onL (o:Option MO) (f:List D → R3 D):R3 D:=match o with
 | some (.lst x)=>f x
 | _=>.bad
theorem Zki {K:PySem.W.Frag} {H:Hp} {ι:List Addr} {Q:VK} {o:Option MO} {f:List D → R3 D} (h:Zo K H ι Q (onL o f)):∃ x,o = some (.lst x) ∧ Zo K H ι Q (f x):=by
 cases o with
 | none=>exact h.elim
 | some o=>cases o with
  | lst x=>exact ⟨x,rfl,h⟩
  | _=>exact h.elim
noncomputable def Zr0 (a b:Option MO) (f:List D → List D → R3 D):R3 D:=match a,b with
 | some (.lst x),some (.lst y)=>f x y
 | _,_=>.bad
theorem ZmU {K:PySem.W.Frag} {H:Hp} {ι:List Addr} {Q:VK} {a b:Option MO} {f:List D → List D → R3 D} (h:Zo K H ι Q (Zr0 a b f)):∃ x y,a = some (.lst x) ∧ b = some (.lst y) ∧ Zo K H ι Q (f x y):=by
 cases a with
 | none=>exact h.elim
 | some a=>cases a with
  | lst x=>cases b with
   | none=>exact h.elim
   | some b=>cases b with
    | lst y=>exact ⟨x,y,rfl,rfl,h⟩
    | _=>exact h.elim
  | _=>exact h.elim
theorem Zel {K:PySem.W.Frag} {H:Hp} {ι:List Addr} {Q:VK} {c:Prop} {_:Decidable c} {r:R3 D} (h:Zo K H ι Q (if c then r else .bad)):c ∧ Zo K H ι Q r:=by
 by_cases hc:c
 ·rw [if_pos hc] at h; exact ⟨hc,h⟩
 ·rw [if_neg hc] at h; exact h.elim
theorem Zh9 {K:PySem.W.Frag} {H:Hp} {ι:List Addr} {ds:List D} (r:Zn K H ι ds []):ds = []:=List.eq_nil_of_length_eq_zero r.length.symm
theorem Zbt:OpR X (binaryOp .Add) (r2 X.K Zag):=OpR.imp (OpR.or Zqs (OpR.or ZjK (OpR.or ZqK (OpR.or Zns Zl9)))) fun x y H Q zz1=>by
 obtain ⟨ι,M,a,b,S,ra,rb,h⟩:=zz1
 cases a with
 | int i=>cases b with
  | int j=>exact .inl ⟨i,j,ra.int_inv,rb.int_inv,Zo.ok h S Rep.int⟩
  | _=>exact h.elim
 | str x=>cases b with
  | str y=>
   obtain ⟨hz,h⟩:=Zel h
   exact .inr (.inl ⟨_,_,ra.str_inv,rb.str_inv,Nat.le_trans hz Zbk,by rw [ZnD]; exact Zo.ok h S Rep.str⟩)
  | _=>exact h.elim
 | tup x=>cases b with
  | tup y=>
   obtain ⟨hz,h⟩:=Zel h
   obtain ⟨p,vs,e,s,r⟩:=ra.tup_inv
   obtain ⟨q,ws,e',s',r'⟩:=rb.tup_inv
   by_cases hv:vs = []
   ·rw [hv] at r s
    rw [Zh9 r] at h
    exact .inr (.inr (.inr (.inr ⟨p,q,ws,e,e',s,s',Zo.ok h S (Rep.tup s' r')⟩)))
   ·refine .inr (.inr (.inr (.inl ⟨p,q,vs,ws,e,e',s,s',hv,by rw [r.length,r'.length]; exact Nat.le_trans hz Zbk,fun hw=>?_,fun hw p' hp=>?_⟩)))
    ·rw [hw] at r'
     rw [Zh9 r',List.append_nil] at h
     exact Zo.ok h S (Rep.tup s r)
    ·obtain ⟨x2,S2,r2⟩:=S.tupl hp (r.append r')
     exact h _ _ _ x2 S2 r2
  | _=>exact h.elim
 | ref n=>cases b with
  | ref m=>
   have h:Zo X.K H ι Q (Zr0 M[n]? M[m]? fun x y=>@ite _ (x.length + y.length ≤ SZ) (Classical.propDecidable _) (alloc (.lst (x ++ y)) M) .bad):=h
   obtain ⟨x,y,hn,hm,h⟩:=ZmU h
   obtain ⟨hz,h⟩:=Zel h
   obtain ⟨p,hp,e⟩:=ra.ref_inv
   obtain ⟨q,hq,e'⟩:=rb.ref_inv
   obtain ⟨vs,e1,r1⟩:=S.obj n _ p hn hp
   obtain ⟨ws,e2,r2⟩:=S.obj m _ q hm hq
   refine .inr (.inr (.inl ⟨p,q,vs,ws,e,e',e1,e2,by rw [r1.length,r2.length]; exact Nat.le_trans hz Zbk,fun p' hp'=>?_⟩))
   obtain ⟨x2,S2,r3⟩:=S.lst hp' (r1.append r2)
   exact h _ _ _ x2 S2 r3
  | _=>exact h.elim
 | _=>cases b <;> exact h.elim
theorem Zgf:OpR X (binaryOp .Sub) (r2 X.K ZbN):=OpR.imp Zqp fun x y H Q zz1=>by
 obtain ⟨ι,M,a,b,S,ra,rb,h⟩:=zz1
 cases a <;> cases b <;> first | exact h.elim | exact ⟨_,_,ra.int_inv,rb.int_inv,Zo.ok h S Rep.int⟩
theorem Za6:OpR X (binaryOp .Mod) (r2 X.K Zaq):=OpR.imp ZpO fun x y H Q zz1=>by
 obtain ⟨ι,M,a,b,S,ra,rb,h⟩:=zz1
 cases a with
 | int i=>cases b with
  | int j=>
   simp only [Zih] at h
   split at h
   ·rename_i hj
    exact ⟨i,j,ra.int_inv,rb.int_inv,hj,Zo.ok h S Rep.int⟩
   ·exact h.elim
  | _=>exact h.elim
 | _=>cases b <;> exact h.elim
theorem Zch:OpR X (binaryOp .FloorDiv) (r2 X.K ZaE):=OpR.imp ZnI fun x y H Q zz1=>by
 obtain ⟨ι,M,a,b,S,ra,rb,h⟩:=zz1
 cases a with
 | int i=>cases b with
  | int j=>
   simp only [ZgR] at h
   split at h
   ·rename_i hj
    exact ⟨i,j,ra.int_inv,rb.int_inv,hj,Zo.ok h S Rep.int⟩
   ·exact h.elim
  | _=>exact h.elim
 | _=>cases b <;> exact h.elim
theorem Znh:OpR X (binaryOp .Pow) (r2 X.K Zfj):=OpR.imp Zqx fun x y H Q zz1=>by
 obtain ⟨ι,M,a,b,S,ra,rb,h⟩:=zz1
 cases a with
 | int i=>cases b with
  | int j=>
   simp only [Zme] at h
   split at h
   ·rename_i hj
    exact ⟨i,j,ra.int_inv,rb.int_inv,⟨hj.1,iN [] [_] 1 0xf42405b083e83b081 T1 hj.2.1,by have:=hj.2.2; omega⟩,Zo.ok h S Rep.int⟩
   ·exact h.elim
  | _=>exact h.elim
 | _=>cases b <;> exact h.elim
theorem Zne:UnR X (unaryOp .USub) (r1 X.K ZfU):=UnR.imp ZqM fun x H Q zz1=>by
 obtain ⟨ι,M,a,S,ra,h⟩:=zz1
 cases a with
 | int i=>exact ⟨i,ra.int_inv,Zo.ok h S Rep.int⟩
 | _=>exact h.elim
theorem Zti:OpR X (compareOp .Lt) (r2 X.K ZmO):=OpR.imp Zrk fun x y H Q zz1=>by
 obtain ⟨ι,M,a,b,S,ra,rb,h⟩:=zz1
 cases a <;> cases b <;> first | exact h.elim | exact ⟨_,_,ra.int_inv,rb.int_inv,Zo.ok h S Rep.bl⟩
theorem ZkB:OpR X (compareOp .Gt) (r2 X.K Zem):=OpR.imp Zr1 fun x y H Q zz1=>by
 obtain ⟨ι,M,a,b,S,ra,rb,h⟩:=zz1
 cases a <;> cases b <;> first | exact h.elim | exact ⟨_,_,ra.int_inv,rb.int_inv,Zo.ok h S Rep.bl⟩
theorem ZtP:OpR X (compareOp .GtE) (r2 X.K ZmD):=OpR.imp Zrq fun x y H Q zz1=>by
 obtain ⟨ι,M,a,b,S,ra,rb,h⟩:=zz1
 cases a <;> cases b <;> first | exact h.elim | exact ⟨_,_,ra.int_inv,rb.int_inv,Zo.ok h S Rep.bl⟩
end
theorem units_in1 (A:Around):A.in1.units = A.units + 1:=rfl
section
variable {X:Cx} {pins:List (Addr × Obj)} {σ:St} {H:Hp} {s:Shared} {ι:List Addr}
theorem ZhO {e:Nat → Bool}:∀ {x y:List D},x.length = y.length → (∀ (j:Nat) a b,x[j]? = some a → y[j]? = some b → e j = deq a b) → (List.range x.length).all e = Zci x y:=by
 intro x
 induction x generalizing e with
 | nil=>intro y h _; cases y with | nil=>rfl | cons _ _=>simp at h
 | cons a x ih=>
  intro y h he
  cases y with
  | nil=>simp at h
  | cons b y=>
   rw [List.length_cons,List.range_succ_eq_map,List.all_cons,List.all_map,he 0 a b rfl rfl]
   rw [Zhn]
   congr 1
   exact ih (e:=e ∘ Nat.succ) (by simpa using h) fun j a' b' h1 h2=>he (j + 1) a' b' (by simpa using h1) (by simpa using h2)
theorem ZiW:∀ {x y:List D},Zci x y = true → x.length = y.length
 | [],[],_=>rfl
 | [],_ :: _,h=>ft h
 | _ :: _,[],h=>ft h
 | a :: x,b :: y,h=>congrArg Nat.succ (ZiW (Bool.and_eq_true_iff.mp (h:(deq a b && Zci x y) = true)).2)
theorem Zhe {d:D} (h:Zav 0 d = true):Zbx d = true:=by cases d <;> first | exact rfl | exact h
theorem ZdU {n:Nat} {d:D} (h:Zav (n + 1) d = true):Zbx d = true ∨ ∃ ds,d = .tup ds:=by
 cases d with
 | tup ds=>exact .inr ⟨ds,rfl⟩
 | scr _=>exact ft h
 | ref _=>exact ft h
 | _=>exact .inl rfl
theorem ZgL {K:PySem.W.Frag} {a b:D} {v:V} (fa:Zbx a = true) (fb:Zbx b = true) (r:Rep K H ι a v) (q:Rep K H ι b v):deq a b = true:=by
 cases a with
 | non=>have e:=r.non_inv; cases b with
  | non=>rfl
  | bl _=>cases e.symm.trans q.bl_inv
  | int _=>cases e.symm.trans q.int_inv
  | str _=>cases e.symm.trans q.str_inv
  | _=>exact ft fb
 | bl x=>have e:=r.bl_inv; cases b with
  | non=>cases e.symm.trans q.non_inv
  | bl _=>exact beq_iff_eq.mpr (V.bl.inj (e.symm.trans q.bl_inv))
  | int _=>cases e.symm.trans q.int_inv
  | str _=>cases e.symm.trans q.str_inv
  | _=>exact ft fb
 | int x=>have e:=r.int_inv; cases b with
  | non=>cases e.symm.trans q.non_inv
  | bl _=>cases e.symm.trans q.bl_inv
  | int _=>exact beq_iff_eq.mpr (V.int.inj (e.symm.trans q.int_inv))
  | str _=>cases e.symm.trans q.str_inv
  | _=>exact ft fb
 | str x=>have e:=r.str_inv; cases b with
  | non=>cases e.symm.trans q.non_inv
  | bl _=>cases e.symm.trans q.bl_inv
  | int _=>cases e.symm.trans q.int_inv
  | str _=>exact Zgi.symm.trans (decide_eq_true (e.symm.trans q.str_inv))
  | _=>exact ft fb
 | _=>exact ft fa
theorem ZiB {K:PySem.W.Frag} {a:D} {v:V} {p:Addr} (fa:Zbx a = true) (r:Rep K H ι a v) (e:v = .ref p):False:=by
 cases a with
 | non=>cases e.symm.trans r.non_inv
 | bl x=>cases e.symm.trans r.bl_inv
 | int x=>cases e.symm.trans r.int_inv
 | str x=>cases e.symm.trans r.str_inv
 | _=>exact ft fa
theorem Rep.fun1 (I:Inv X pins σ H s):∀ (n:Nat) (a b:D) (v:V),Zav n a = true → Zav n b = true → Rep X.K H ι a v → Rep X.K H ι b v → deq a b = true:=by
 intro n
 induction n with
 | zero=>intro a b v ha hb r q; exact ZgL (Zhe ha) (Zhe hb) r q
 | succ n ih=>
  intro a b v ha hb r q
  rcases ZdU ha with fa | ⟨ds,ea⟩
  ·rcases ZdU hb with fb | ⟨es,eb⟩
   ·exact ZgL fa fb r q
   ·rw [eb] at q
    obtain ⟨p,vs,e,_⟩:=q.tup_inv
    exact (ZiB fa r e).elim
  ·rw [ea] at r ha ⊢
   obtain ⟨p,vs,e,s1,r1⟩:=r.tup_inv
   rcases ZdU hb with fb | ⟨es,eb⟩
   ·exact (ZiB fb q e).elim
   ·rw [eb] at q hb ⊢
    obtain ⟨p',ws,e',s2,r2⟩:=q.tup_inv
    rw [← V.ref.inj (e.symm.trans e')] at s2
    rw [← I.tuple_inj s1 s2] at r2
    clear s1 s2 e e' q r eb ea
    rw [Zo3]
    revert ha hb r1 r2
    induction ds generalizing es vs with
    | nil=>
     intro _ r1 _ r2
     cases es with
     | nil=>rfl
     | cons _ _=>obtain ⟨_,_,e,_⟩:=r2.cons_inv; cases r1.nil_inv.symm.trans e
    | cons d ds ih2=>
     intro h1 r1 h2 r2
     obtain ⟨v,ws,e,q1,q2⟩:=r1.cons_inv
     cases es with
     | nil=>cases r2.nil_inv.symm.trans e
     | cons e' es=>
      obtain ⟨v',ws',z,q3,q4⟩:=r2.cons_inv
      obtain ⟨z1,z2⟩:=List.cons.inj (z.symm.trans e)
      rw [z1] at q3
      rw [z2] at q4
      have g1:=Bool.and_eq_true_iff.mp (h1:(Zav n d && ds.all (Zav n)) = true)
      have g2:=Bool.and_eq_true_iff.mp (h2:(Zav n e' && es.all (Zav n)) = true)
      rw [Zhn,ih d e' v g1.1 g2.1 q1 q3]
      exact ih2 ws es g1.2 q2 g2.2 q4
theorem ZgG {K:PySem.W.Frag} {x:V} {u:Value} (r:Rep K H ι .non x) (e:RelV x u):u = .none:=by
 rw [r.non_inv] at e; cases e; rfl
theorem Zis {K:PySem.W.Frag} {b:Bool} {x:V} {u:Value} (r:Rep K H ι (.bl b) x) (e:RelV x u):u = .bool b:=by
 rw [r.bl_inv] at e; cases e; rfl
theorem Zeb {K:PySem.W.Frag} {i:Int} {x:V} {u:Value} (r:Rep K H ι (.int i) x) (e:RelV x u):∃ t,u = .int i t:=by
 rw [r.int_inv] at e; exact e
theorem Zfg {K:PySem.W.Frag} {i:List Nat} {x:V} {u:Value} (r:Rep K H ι (.str i) x) (e:RelV x u):∃ t,u = .str ⟨i.toArray⟩ t:=by
 rw [r.str_inv] at e; exact e
inductive Zqg (X:Cx) (H:Hp) (ι:List Addr) (T:Addr → Array Value → Prop) (ds:List D) (x:V) (u:Value):Prop
 | mk (p:Addr) (vs:List V) (its:List Value):x = .ref p → u = .ref p → T p its.toArray → Zn X.K H ι ds vs → Vals vs its → Zqg X H ι T ds x u
theorem Zfh (I:Inv X pins σ H s) {ds:List D} {x:V} {u:Value} (r:Rep X.K H ι (.tup ds) x) (e:RelV x u):Zqg X H ι s.heap.IsTuple ds x u:=by
 obtain ⟨p,vs,ex,s1,r1⟩:=r.tup_inv
 obtain ⟨its,rvs,ht,_⟩:=I.tuple s1
 rw [ex] at e
 exact ⟨p,vs,its,ex,e,ht,r1,rvs⟩
theorem ZhF {i k:List Nat}:decide (i = k) = ((⟨i.toArray⟩:Str) == ⟨k.toArray⟩):=by
 rw [← Bool.beq_eq_decide_eq,← Zgi]
 by_cases h:(⟨i.toArray⟩:Str) = ⟨k.toArray⟩
 ·rw [h,beq_self_eq_true]; exact decide_eq_true rfl
 ·rw [beq_eq_false_iff_ne.mpr h]; exact decide_eq_false fun e=>h (V.str.inj e)
theorem ZnM {i k:List Nat}:deq (.str i) (.str k) = ((⟨i.toArray⟩:Str) == ⟨k.toArray⟩):=
 Eq.trans (show (i == k) = decide (i = k) from Bool.beq_eq_decide_eq i k) ZhF
theorem ZgQ (A:Around) (a b:D) (x y:V) (u v:Value) (ha:Zbx a = true) (hb:Zbx b = true) (ra:Rep X.K H ι a x) (rb:Rep X.K H ι b y) (ru:RelV x u) (rv:RelV y v):SeqAt.EqAt A s u v (deq a b):=by
 cases a with
 | non=>rw [ZgG ra ru]; cases b with
  | non=>rw [ZgG rb rv]; exact SeqAt.EqAt.same _
  | bl k=>rw [Zis rb rv]; exact SeqAt.EqAt.none_bool _
  | int k=>obtain ⟨t,e⟩:=Zeb rb rv; rw [e]; exact SeqAt.EqAt.none_int _ _
  | str k=>obtain ⟨t,e⟩:=Zfg rb rv; rw [e]; exact SeqAt.EqAt.none_str _ _
  | _=>exact ft hb
 | bl i=>rw [Zis ra ru]; cases b with
  | non=>rw [ZgG rb rv]; exact SeqAt.EqAt.bool_none _
  | bl k=>rw [Zis rb rv]; exact SeqAt.EqAt.bool_bool _ _
  | int k=>obtain ⟨t,e⟩:=Zeb rb rv; rw [e]; exact SeqAt.EqAt.bool_int _ _ _
  | str k=>obtain ⟨t,e⟩:=Zfg rb rv; rw [e]; exact SeqAt.EqAt.bool_str _ _ _
  | _=>exact ft hb
 | int i=>obtain ⟨t0,e0⟩:=Zeb ra ru; rw [e0]; cases b with
  | non=>rw [ZgG rb rv]; exact SeqAt.EqAt.int_none _ _
  | bl k=>rw [Zis rb rv]; exact SeqAt.EqAt.int_bool _ _ _
  | int k=>obtain ⟨t,e⟩:=Zeb rb rv; rw [e]; exact SeqAt.EqAt.int_int _ _ _ _
  | str k=>obtain ⟨t,e⟩:=Zfg rb rv; rw [e]; exact SeqAt.EqAt.int_str _ _ _ _
  | _=>exact ft hb
 | str i=>obtain ⟨t0,e0⟩:=Zfg ra ru; rw [e0]; cases b with
  | non=>rw [ZgG rb rv]; exact SeqAt.EqAt.str_none _ _
  | bl k=>rw [Zis rb rv]; exact SeqAt.EqAt.str_bool _ _ _
  | int k=>obtain ⟨t,e⟩:=Zeb rb rv; rw [e]; exact SeqAt.EqAt.str_int _ _ _ _
  | str k=>obtain ⟨t,e⟩:=Zfg rb rv; rw [e,ZnM]; exact SeqAt.EqAt.str_str _ _ _ _
  | _=>exact ft hb
 | _=>exact ft ha
noncomputable def dq2 (ds es:List D) (j:Nat):Bool:=match ds[j]?,es[j]? with | some a,some b=>deq a b | _,_=>false
theorem ZhJ {ds es:List D} (hl:ds.length ≠ es.length):Zci ds es = false:=by
 cases q:Zci ds es with
 | false=>rfl
 | true=>exact absurd (ZiW q) hl
theorem ZhR {ds es:List D} {n:Nat} (hn:n = ds.length) (hl:ds.length = es.length):(List.range n).all (dq2 ds es) = Zci ds es:=by
 rw [hn]
 exact ZhO hl fun j a b h1 h2=>by unfold dq2; rw [h1,h2]
theorem Zkc {ds es:List D} {n m:Nat} (hn:n = ds.length) (hm:m = es.length):((List.range (min n m)).all (dq2 ds es) && n == m) = Zci ds es:=by
 by_cases hl:ds.length = es.length
 ·have e:n = m:=hn.trans (hl.trans hm.symm)
  rw [← e,Nat.min_self,beq_self_eq_true,Bool.and_true]
  exact ZhR hn hl
 ·rw [ZhJ hl,beq_eq_false_iff_ne.mpr fun e=>hl (hn.symm.trans (e.trans hm)),Bool.and_false]
theorem ZaT {ds:List D} {vs:List V} {its:List Value} (r:Zn X.K H ι ds vs) (v:Vals vs its):its.toArray.size = ds.length:=
 List.size_toArray.trans (v.length.symm.trans r.length)
theorem ZhD {A:Around} {n:Nat} {ds es:List D} {vs ws:List V} {its its2:List Value}
  (ih:∀ (a b:D) (x y:V) (u v:Value),Zav n a = true → Zav n b = true → Rep X.K H ι a x → Rep X.K H ι b y → RelV x u → RelV y v → SeqAt.EqAt A s u v (deq a b))
  (p1:ds.all (Zav n) = true) (p2:es.all (Zav n) = true) (r1:Zn X.K H ι ds vs) (r2:Zn X.K H ι es ws) (v1:Vals vs its) (v2:Vals ws its2)
  (j:Nat) (h1:j < its.toArray.size) (h2:j < its2.toArray.size):SeqAt.EqAt A s its.toArray[j] its2.toArray[j] (dq2 ds es j):=by
 have k1:j < ds.length:=by rw [← ZaT r1 v1]; exact h1
 have k2:j < es.length:=by rw [← ZaT r2 v2]; exact h2
 have q1:=List.getElem?_eq_getElem k1
 have q2:=List.getElem?_eq_getElem k2
 obtain ⟨x,g1,z1⟩:=r1.get q1
 obtain ⟨y,g2,z2⟩:=r2.get q2
 obtain ⟨u,e1,l1⟩:=v1.get g1
 obtain ⟨v,e2,l2⟩:=v2.get g2
 unfold dq2
 rw [q1,q2]
 obtain ⟨_,e1⟩:=List.getElem?_eq_some_iff.mp e1
 obtain ⟨_,e2⟩:=List.getElem?_eq_some_iff.mp e2
 exact ih _ _ x y _ _ (List.all_eq_true.mp p1 _ (List.getElem_mem k1)) (List.all_eq_true.mp p2 _ (List.getElem_mem k2)) z1 z2 (e1 ▸ l1) (e2 ▸ l2)
theorem ZiE (A:Around) (hu1:A.units < cLine) {a:D} {x:V} {u:Value} {p:Addr} {its:Array Value} {es:List D} (ha:Zbx a = true) (ra:Rep X.K H ι a x) (ru:RelV x u) (it:s.heap.IsTuple p its):SeqAt.EqAt A s u (.ref p) (deq a (.tup es)) ∧ SeqAt.EqAt A s (.ref p) u (deq (.tup es) a):=by
 cases a with
 | non=>rw [ZgG ra ru]; exact ⟨SeqAt.EqAt.none_tuple it hu1,SeqAt.EqAt.tuple_none it hu1⟩
 | bl k=>rw [Zis ra ru]; exact ⟨SeqAt.EqAt.bool_tuple _ it hu1,SeqAt.EqAt.tuple_bool _ it hu1⟩
 | int k=>obtain ⟨t,e⟩:=Zeb ra ru; rw [e]; exact ⟨SeqAt.EqAt.int_tuple _ _ it hu1,SeqAt.EqAt.tuple_int _ _ it hu1⟩
 | str k=>obtain ⟨t,e⟩:=Zfg ra ru; rw [e]; exact ⟨SeqAt.EqAt.str_tuple _ _ it hu1,SeqAt.EqAt.tuple_str _ _ it hu1⟩
 | _=>exact ft ha
theorem ZjE (I:Inv X pins σ H s):∀ (n:Nat) (A:Around) (_:A.units + n + 1 < cLine) (a b:D) (x y:V) (u v:Value),Zav n a = true → Zav n b = true → Rep X.K H ι a x → Rep X.K H ι b y → RelV x u → RelV y v → SeqAt.EqAt A s u v (deq a b):=by
 intro n
 induction n with
 | zero=>
  intro A hu a b x y u v ha hb ra rb ru rv
  exact ZgQ A a b x y u v (Zhe ha) (Zhe hb) ra rb ru rv
 | succ n ih=>
  intro A hu a b x y u v ha hb ra rb ru rv
  have hu0:A.units + 0 + 1 < cLine:=lC 1 0x2ae0cc12aa1c0cc11 T1 hu
  have hu1:A.units < cLine:=lB 1 1104257534993 T1 hu0
  rcases ZdU ha with fa | ⟨ds,ea⟩
  ·rcases ZdU hb with fb | ⟨es,eb⟩
   ·exact ZgQ A a b x y u v fa fb ra rb ru rv
   ·rw [eb] at rb ⊢
    obtain ⟨p,vs,its,ex,eu,t,_⟩:=Zfh I rb rv
    rw [eu]
    exact (ZiE A hu1 fa ra ru t).1
  ·rw [ea] at ra ha ⊢
   obtain ⟨p,vs,its,ex,eu,t,r1,v1⟩:=Zfh I ra ru
   rw [eu]
   rcases ZdU hb with fb | ⟨es,eb⟩
   ·exact (ZiE A hu1 fb rb rv t).2
   ·rw [eb] at rb hb ⊢
    obtain ⟨q,ws,its2,ey,ev,t',r2,v2⟩:=Zfh I rb rv
    rw [ev]
    by_cases hp:p = q
    ·rw [ey,← hp,← ex] at rb
     rw [Rep.fun1 I (n + 1) _ _ _ ha hb ra rb,hp]
     exact SeqAt.EqAt.same _
    ·refine SeqAt.EqAt.of_refs hp ?_
     rw [Zo3,← Zkc (ZaT r1 v1) (ZaT r2 v2)]
     exact SeqAt.RcAt.tuples t t' hu1 (ZhD (ih A.in1 (by rw [units_in1]; exact lC 1 0x2a1a0ccc12aa1c0cc11 T1 hu)) ha hb r1 r2 v1 v2)
end
end L3
namespace L3
open PySem PySem.Spec PyProof.Rows L2
section
variable {X:Cx}
section
variable {pins:List (Addr × Obj)} {σ:St} {H:Hp} {s:Shared} {ι:List Addr}
theorem Zkb {M:Store} (I:Inv X pins σ H s) (S:Zz X.K H ι M) {n:Nat} {ds:List D} {x:V} {u:Value} (h:M[n]? = some (.lst ds)) (r:Rep X.K H ι (.ref n) x) (e:RelV x u):Zqg X H ι s.heap.IsList ds x u:=by
 obtain ⟨p,hp1,ex⟩:=r.ref_inv
 obtain ⟨vs,e1,r1⟩:=S.obj n _ p h hp1
 obtain ⟨its,rvs,pl1,_⟩:=I.list (SqL.of e1)
 rw [ex] at e
 exact ⟨p,vs,its,ex,e,pl1.isList,r1,rvs⟩
inductive EqK (M:Store) (a b:D) (k:Bool):Prop
 | ref {n m:Nat} (ds es:List D):a = .ref n → b = .ref m → Zci ds es = k → M[n]? = some (.lst ds) → M[m]? = some (.lst es) → ds.all (Zav DEEP) = true ∧ es.all (Zav DEEP) = true → EqK M a b k
 | int (i j:Int):a = .int i → b = .int j → decide (i = j) = k → EqK M a b k
 | str (i j:List Nat):a = .str i → b = .str j → decide (i = j) = k → EqK M a b k
 | bl (i j:Bool):a = .bl i → b = .bl j → decide (i = j) = k → EqK M a b k
 | tup {ds es:List D}:a = .tup ds → b = .tup es → Zci ds es = k → ds.all (Zav DEEP) = true ∧ es.all (Zav DEEP) = true → EqK M a b k
theorem Zjz {α:Type} {c d:Bool} {a k:α} (h:(if c && d then some a else none) = some k):a = k ∧ c = true ∧ d = true:=by
 cases c with
 | false=>exact nsm h
 | true=>cases d with
  | false=>exact nsm h
  | true=>exact ⟨Option.some.inj h,rfl,rfl⟩
noncomputable def Ztx (a b:Option MO):Option Bool:=match a,b with
 | some (.lst x),some (.lst y)=>if x.all (Zav DEEP) && y.all (Zav DEEP) then some (Zci x y) else none
 | _,_=>none
theorem ZoB {M:Store} {n m:Nat} {k:Bool} (h:Ztx M[n]? M[m]? = some k):EqK M (.ref n) (.ref m) k:=by
 cases e1:M[n]? with
 | none=>rw [e1] at h; exact nsm h
 | some o=>cases o with
  | lst x=>cases e2:M[m]? with
   | none=>rw [e1,e2] at h; exact nsm h
   | some o=>cases o with
    | lst y=>rw [e1,e2] at h; exact have w:=Zjz h; .ref x y rfl rfl w.1 e1 e2 w.2
    | _=>rw [e1,e2] at h; exact nsm h
  | _=>rw [e1] at h; exact nsm h
theorem eqK {M:Store} {a b:D} {k:Bool} (h:eqD a b M = some k):EqK M a b k:=by
 cases a with
 | ref n=>cases b with
  | ref m=>exact ZoB h
  | _=>exact nsm h
 | int i=>cases b with
  | int j=>exact .int i j rfl rfl (Option.some.inj h)
  | _=>exact nsm h
 | str i=>cases b with
  | str j=>exact .str i j rfl rfl (Option.some.inj h)
  | _=>exact nsm h
 | bl i=>cases b with
  | bl j=>exact .bl i j rfl rfl (Option.some.inj h)
  | _=>exact nsm h
 | tup ds=>cases b with
  | tup es=>exact have w:=Zjz h; .tup rfl rfl w.1 w.2
  | _=>exact nsm h
 | _=>cases b <;> exact nsm h
theorem ZjW {M:Store} {a b:D} {x y:V} {u v:Value} {k:Bool} (hu:X.A.units + 80 < cLine) (I:Inv X pins σ H s) (S:Zz X.K H ι M)
  (ra:Rep X.K H ι a x) (rb:Rep X.K H ι b y) (ru:RelV x u) (rv:RelV y v) (h:eqD a b M = some k):SeqAt.RcAt X.A s u v k ∧ SeqAt.RcNeAt X.A s u v (!k):=by
 have hu1:X.A.units < cLine:=lB 1 17666545486865 T1 hu
 have hu2:X.A.in1.units + DEEP + 1 < cLine:=by rw [units_in1]; exact (show X.A.units + 1 + 60 + 1 < cLine from lB 1 0x1a3c2ba0ccc11502b0c11 T1 hu)
 rcases eqK h with ⟨ds,es,ea,eb,ek,e1,e2,p1,p2⟩ | ⟨i,j,ea,eb,ek⟩ | ⟨i,j,ea,eb,ek⟩ | ⟨i,j,ea,eb,ek⟩ | ⟨ea,eb,ek,p1,p2⟩
 ·rw [ea] at ra
  rw [eb] at rb
  rw [← ek]
  obtain ⟨p,vs,its,_,eu,t,r1,v1⟩:=Zkb I S e1 ra ru
  obtain ⟨q,ws,its2,_,ev,t',r2,v2⟩:=Zkb I S e2 rb rv
  rw [eu,ev]
  by_cases hl:ds.length = es.length
  ·rw [← ZhR (ZaT r1 v1) hl]
   have hz:=(ZaT r1 v1).trans (hl.trans (ZaT r2 v2).symm)
   have w:=ZhD (ZjE I DEEP X.A.in1 hu2) p1 p2 r1 r2 v1 v2
   exact ⟨SeqAt.RcAt.lists t t' hz hu1 w,SeqAt.RcNeAt.lists t t' hz hu1 w⟩
  ·rw [ZhJ hl]
   have hz:(its.toArray.size != its2.toArray.size) = true:=bne_iff_ne.mpr fun e=>hl ((ZaT r1 v1).symm.trans (e.trans (ZaT r2 v2)))
   exact ⟨SeqAt.RcAt.lists_lengths t t' hz hu1,SeqAt.RcNeAt.lists_lengths t t' hz hu1⟩
 ·rw [ea] at ra
  rw [eb] at rb
  obtain ⟨t,e⟩:=Zeb ra ru
  obtain ⟨t',e'⟩:=Zeb rb rv
  rw [e,e',← ek,← Bool.beq_eq_decide_eq]
  exact ⟨SeqAt.RcAt.int_int _ _ _ _,SeqAt.RcNeAt.int_int _ _ _ _⟩
 ·rw [ea] at ra
  rw [eb] at rb
  obtain ⟨t,e⟩:=Zfg ra ru
  obtain ⟨t',e'⟩:=Zfg rb rv
  rw [e,e',← ek,ZhF]
  exact ⟨SeqAt.RcAt.str_str _ _ _ _,SeqAt.RcNeAt.str_str _ _ _ _⟩
 ·rw [ea] at ra
  rw [eb] at rb
  rw [Zis ra ru,Zis rb rv,← ek,← Bool.beq_eq_decide_eq]
  exact ⟨SeqAt.RcAt.bool_bool _ _,SeqAt.RcNeAt.bool_bool _ _⟩
 ·rw [ea] at ra
  rw [eb] at rb
  obtain ⟨p,vs,its,_,eu,t,r1,v1⟩:=Zfh I ra ru
  obtain ⟨q,ws,its2,_,ev,t',r2,v2⟩:=Zfh I rb rv
  rw [eu,ev,← ek,← Zkc (ZaT r1 v1) (ZaT r2 v2)]
  have w:=ZhD (ZjE I DEEP X.A.in1 hu2) p1 p2 r1 r2 v1 v2
  exact ⟨SeqAt.RcAt.tuples t t' hu1 w,SeqAt.RcNeAt.tuples t t' hu1 w⟩
end
theorem Zek (hu:X.A.units + 80 < cLine):OpR X (compareOp .Eq) (r2 X.K ZbJ):=by
 intro pins s σ H x y v u Q I rx ry h
 obtain ⟨ι,M,a,b,S,ra,rb,h⟩:=h
 unfold ZbJ at h
 cases q:eqD a b M with
 | none=>rw [q] at h; exact h.elim
 | some k=>
  rw [q] at h
  exact (ZjW hu I S ra rb rx ry q).1 X.prog X.w X.xe _ ⟨.bl k,H,I,rfl,Zo.ok h S Rep.bl⟩
theorem ZjG {K:PySem.W.Frag} {H:Hp} {ι:List Addr} {ds:List D} {vs:List V} {i:Int} {d:D} (r:Zn K H ι ds vs) (h:Za5 ds i = some d):∃ v,atI vs i = some v ∧ Rep K H ι d v:=by
 unfold Za5 at h
 unfold atI
 have e:ixN vs.length i = ixD ds.length i:=by rw [r.length]; rfl
 rw [e]
 cases q:ixD ds.length i with
 | none=>rw [q] at h; cases h
 | some j=>
  rw [q] at h
  exact r.get h
theorem Zan:IxR X (r2 X.K Zr):=IxR.imp ZqJ fun x y H Q zz1=>by
 obtain ⟨ι,M,a,b,S,ra,rb,h⟩:=zz1
 cases a with
 | tup ds=>cases b with
  | int i=>
   have h:Zo X.K H ι Q (onO (Za5 ds i) (fun d=>.ok d M)):=h
   obtain ⟨d,q,h⟩:=ZhG h
   obtain ⟨p,vs,e',s1,r1⟩:=ra.tup_inv
   obtain ⟨v,e,rv⟩:=ZjG r1 q
   exact .inr (.inl ⟨p,vs,i,v,e',rb.int_inv,s1,e,Zo.ok h S rv⟩)
  | _=>exact h.elim
 | scr ds=>cases b with
  | int i=>
   have h:Zo X.K H ι Q (onO (Za5 ds i) (fun d=>.ok d M)):=h
   obtain ⟨d,q,h⟩:=ZhG h
   obtain ⟨p,vs,e',s1,r1⟩:=ra.scr_inv
   obtain ⟨v,e,rv⟩:=ZjG r1 q
   exact .inl ⟨p,vs,i,v,e',rb.int_inv,s1.sq,e,Zo.ok h S rv⟩
  | _=>exact h.elim
 | str z=>cases b with
  | int i=>
   have h:Zo X.K H ι Q (onN (Za5 z i) (fun c=>@ite _ (z.length ≤ SZ) (Classical.propDecidable _) (.ok (.str [c]) M) .bad)):=h
   obtain ⟨c,q,h⟩:=ZoI h
   obtain ⟨hz,h⟩:=Zel h
   exact .inr (.inr ⟨_,i,c,ra.str_inv,rb.int_inv,Nat.le_trans hz Zbk,q,Zo.ok h S Rep.str⟩)
  | _=>exact h.elim
 | ref n=>cases b with
  | int i=>
   have h:Zo X.K H ι Q (onL (M[n]?) (fun ds=>onO (Za5 ds i) fun d=>.ok d M)):=h
   obtain ⟨ds,hn,h⟩:=Zki h
   obtain ⟨d,q,h⟩:=ZhG h
   obtain ⟨p,hp,e'⟩:=ra.ref_inv
   obtain ⟨vs,e1,r1⟩:=S.obj n _ p hn hp
   obtain ⟨v,e,rv⟩:=ZjG r1 q
   exact .inl ⟨p,vs,i,v,e',rb.int_inv,SqL.of e1,e,Zo.ok h S rv⟩
  | _=>exact h.elim
 | _=>cases b <;> exact h.elim
theorem Zjn {K:PySem.W.Frag} {H:Hp} {ι:List Addr} {ds:List D} {vs:List V} (r:Zn K H ι ds vs) (lo hi:Option Int):Zn K H ι (cutD ds lo hi) (Zib vs lo hi):=by
 have e:∀ n d o,HT.sIx n d o = sIx n d o:=fun n d o=>by cases o <;> rfl
 unfold cutD Zib
 rw [e,e,r.length]
 exact (r.drop _).take _
end
end L3
namespace L3
open PySem PySem.Spec PyProof.Rows L2
noncomputable def Zcf (cells:List (Str × Addr)):List (Str × NameKind) → List (Str × Addr) → List (Str × Addr)
 | [],cs=>cs
 | (n,k) :: r,cs=>Zcf cells r (if k == .free then (n,(cells.lookup n).getD 0) :: cs else cs)
theorem Zev {cells:List (Str × Addr)} {n:Str} {k:NameKind} {r:List (Str × NameKind)} {cs:List (Str × Addr)}:Zcf cells ((n,k) :: r) cs = Zcf cells r (if k == .free then (n,(cells.lookup n).getD 0) :: cs else cs):=rfl
theorem Zd7 {scope:Scope} {env:Env} (h:∀ y ∈ scope.names,y.2 = .free → ∃ c,env.cells.lookup y.1 = some c):closureFor scope env = pure (Zcf env.cells scope.names []):=by
 unfold closureFor
 have key:∀ (names:List (Str × NameKind)) (cs:List (Str × Addr)),(∀ y ∈ names,y.2 = .free → ∃ c,env.cells.lookup y.1 = some c) →
   (forIn names cs fun x r=>match x with | (name,kind)=>if (kind == NameKind.free) = true then do let c ← cellOf env name; pure (ForInStep.yield ((name,c) :: r)) else pure (ForInStep.yield r):Sem (List (Str × Addr))) = pure (Zcf env.cells names cs):=by
  intro names
  induction names with
  | nil=>intro cs _; rfl
  | cons y r ih=>
   intro cs hy
   obtain ⟨n,k⟩:=y
   rw [List.forIn_cons]
   by_cases hk:k = .free
   ·subst hk
    obtain ⟨c,hc⟩:=hy (n,.free) List.mem_cons_self rfl
    have e1:cellOf env n = pure c:=by unfold cellOf; rw [hc]
    simp only [beq_self_eq_true,if_true,e1,pure_bind]
    rw [ih _ fun z hz=>hy z (List.mem_cons_of_mem _ hz)]
    rw [Zev,hc]; rfl
   ·have hb:(k == NameKind.free) = false:=by simpa using hk
    simp only [hb,Bool.false_eq_true,if_false,pure_bind]
    rw [ih _ fun z hz=>hy z (List.mem_cons_of_mem _ hz)]
    rw [Zev,hb]; rfl
 have:=key scope.names [] h
 first
  | exact this
  | (simp only [bind_pure]; exact this)
theorem Zk3 {cells:List (Str × Addr)} {x:Str} {c:Addr}:∀ (names:List (Str × NameKind)) (cs:List (Str × Addr)),(∀ y ∈ names,y.2 = .free → ∃ c,cells.lookup y.1 = some c) → (Zcf cells names cs).lookup x = some c → cs.lookup x = some c ∨ cells.lookup x = some c:=by
 intro names
 induction names with
 | nil=>intro cs _ h; exact .inl h
 | cons y r ih=>
  intro cs hy h
  obtain ⟨n,k⟩:=y
  rw [Zev] at h
  rcases ih _ (fun z hz=>hy z (List.mem_cons_of_mem _ hz)) h with q | q
  ·by_cases hk:k = .free
   ·subst hk
    obtain ⟨c0,hc⟩:=hy (n,.free) List.mem_cons_self rfl
    simp only [beq_self_eq_true,if_true,hc,Option.getD_some,List.lookup_cons] at q
    cases hx:x == n with
    | true=>
     simp only [hx] at q
     cases q
     have:x = n:=by simpa using hx
     subst this
     exact .inr hc
    | false=>simp only [hx] at q; exact .inl q
   ·have hb:(k == NameKind.free) = false:=by simpa using hk
    simp only [hb,Bool.false_eq_true,if_false] at q
    exact .inl q
  ·exact .inr q
theorem ZjH {cells:List (Str × Addr)} {x:Str}:∀ (names:List (Str × NameKind)) (cs:List (Str × Addr)),(cs.lookup x).isSome = true → ((Zcf cells names cs).lookup x).isSome = true:=by
 intro names
 induction names with
 | nil=>intro cs h; exact h
 | cons y r ih=>
  intro cs h
  obtain ⟨n,k⟩:=y
  rw [Zev]
  refine ih _ ?_
  split
  ·rw [List.lookup_cons]
   split
   ·rfl
   ·exact h
  ·exact h
theorem ZgF {cells:List (Str × Addr)} {x:Str}:∀ (names:List (Str × NameKind)) (cs:List (Str × Addr)),(x,NameKind.free) ∈ names → ((Zcf cells names cs).lookup x).isSome = true:=by
 intro names
 induction names with
 | nil=>intro cs h; cases h
 | cons y r ih=>
  intro cs h
  obtain ⟨n,k⟩:=y
  rw [Zev]
  rcases List.mem_cons.mp h with e | h
  ·cases e
   refine ZjH _ _ ?_
   simp
  ·exact ih _ h
noncomputable def ZbK (X:Cx) (scope:Scope) (N':List Str) (C:Addr) (cl:List (Str × Addr)) (s:Shared) (H:Hp) (ex:List Addr):Cx:=
 { X with N:=N',s₀:=s,H₀:=H,env:=compEnvC scope cl C X.env,outer:=X.stack,stack:=X.stack,ex:=ex,fn:=fun _=>false,pn:=[],xe:=fun _ _=>False }
noncomputable def ZmQ (N N':List Str) (scope:Scope):Bool:=(List.range N.length).all fun i=>match N'[i]? with
 | some x=>(scope.names.lookup x).isNone || (decide (N[i]? = some x) && decide (scope.names.lookup x = some .free))
 | none=>false
def CTs (X:Cx) (ifs:List Expr) (ts:List E3):Prop:=∀ (pins:List (Addr × Obj)) (s:Shared) (σ:St) (H:Hp) (Q:Bool → Hp → Prop),Inv X pins σ H s →
 (∃ ι M env,Zz X.K H ι M ∧ ZaO X.K H ι env σ ∧ match ZcO ts env M with | .ok b M'=>∀ H' ι',Ext X.K H ι H' ι' → Zz X.K H' ι' M' → Q b H' | _=>False) →
 wpAny (model X.prog X.w) X.A (forIn ifs true fun c r=>if r = true then do let ok ← isTrue c X.env (eval c X.env); pure (ForInStep.yield ok) else pure (ForInStep.yield r)) (TP X pins σ Q) X.xe s
theorem ZeL {X:Cx}:CTs X [] []:=fun pins s σ H Q I ⟨ι,M,env,S,E,h⟩=>wpAny_tests_nil ⟨H,I,h H ι Ext.refl S⟩
section
variable {prog:Program} {w:World} {A:Around} {R:Result → Shared → Prop} {s:Shared}
theorem Zhb {elt target iter:Expr} {ifs:List Expr} {scope:Scope} {pos:Pos} {it acc:Value} {env:Env} (I:Nat → Shared → Prop)
  (turn:∀ n s,I n s → wpAny (model prog w) A (pyNext it) (fun r s₁=>match r with
   | none=>R (.ok .next) s₁
   | some v=>wpAny (model prog w) A (letOwnedTupleGo target it v) (fun _ s₁'=>wpAny (model prog w) A (assign target env v) (fun _ s₂=>
     wpAny (model prog w) A (forIn ifs true fun c r=>if r = true then do let ok ← isTrue c env (eval c env); pure (ForInStep.yield ok) else pure (ForInStep.yield r)) (fun ok s₃=>
      if ok = true then wpAny (model prog w) A (eval elt env) (fun x s₄=>
       wpAny (model prog w) A (call (.builtin "list.append") [acc,x]) (fun _ s₅=>∃ m,m < n ∧ I m s₅) (fun _ _=>False) s₄) (fun _ _=>False) s₃
      else ∃ m,m < n ∧ I m s₃) (fun _ _=>False) s₂) (fun _ _=>False) s₁') (fun _ _=>False) s₁) (fun _ _=>False) s)
  (n:Nat) (h:I n s):codeAny (model prog w) A (.compLoop (.ListComp elt [⟨target,iter,ifs,0⟩] scope pos) 0 it acc env) R s:=by
 refine codeAny_loop rfl I (fun n s hI=>?_) n h
 show wpAny _ A ((compTurn (.ListComp elt [⟨target,iter,ifs,0⟩] scope pos) 0 it acc env).onRaise (fun x=>do noteFrame x env; theTreesLotGoes x)) _ _ s
 refine wpAny_noted ?_
 rw [compTurn_list]
 refine wpAny_bind (wpAny_standAt (wpAny_bind (wpAny_mono (turn n s hI) (fun r s₁ h₁=>?_) fun _ _ h'=>False.elim h')))
 cases r with
 | none=>exact wpAny_pure h₁
 | some v=>
  refine wpAny_bind (wpAny_mono h₁ (fun _ s₁' h₁'=>?_) fun _ _ h'=>False.elim h')
  refine wpAny_bind (wpAny_mono h₁' (fun _ s₂ h₂=>wpAny_bind (wpAny_mono h₂ (fun ok s₃ h₃=>?_) fun _ _ h'=>False.elim h')) fun _ _ h'=>False.elim h')
  cases ok with
  | false=>exact wpAny_pure ⟨rfl,h₃⟩
  | true=>
   exact wpAny_bind (wpAny_bind (wpAny_mono h₃ (fun x s₄ h₄=>wpAny_bind (wpAny_mono h₄ (fun _ s₅ h₅=>wpAny_pure (wpAny_pure ⟨rfl,h₅⟩)) fun _ _ h'=>False.elim h')) fun _ _ h'=>False.elim h'))
end
theorem ZcC {env:Env} {x:Str} {k:NameKind}:∀ {names:List (Str × NameKind)},(names.map fun (n,k)=>if (k == NameKind.free && env.scope.kind == .function && env.kindOf n == some .cell) then (n,NameKind.cell) else (n,k)).lookup x = some k →
  ∃ k0,names.lookup x = some k0 ∧ (k0 = k ∨ (k0 = .free ∧ k = .cell)):=by
 intro names
 induction names with
 | nil=>intro h; simp at h
 | cons y r ih=>
  intro h
  obtain ⟨n,k1⟩:=y
  rw [List.map_cons] at h
  cases hx:x == n with
  | true=>
   refine ⟨k1,by simp [List.lookup_cons,hx],?_⟩
   by_cases hc:(k1 == NameKind.free && env.scope.kind == .function && env.kindOf n == some .cell) = true
   ·simp only [if_pos hc,List.lookup_cons,hx] at h
    cases h
    simp only [Bool.and_eq_true,beq_iff_eq] at hc
    exact .inr ⟨hc.1.1,rfl⟩
   ·simp only [if_neg hc,List.lookup_cons,hx] at h
    cases h
    exact .inl rfl
  | false=>
   have h':(r.map fun (n,k)=>if (k == NameKind.free && env.scope.kind == .function && env.kindOf n == some .cell) then (n,NameKind.cell) else (n,k)).lookup x = some k:=by
    by_cases hc:(k1 == NameKind.free && env.scope.kind == .function && env.kindOf n == some .cell) = true
    ·simp only [if_pos hc,List.lookup_cons,hx] at h; exact h
    ·simp only [if_neg hc,List.lookup_cons,hx] at h; exact h
   obtain ⟨k0,e,q⟩:=ih h'
   exact ⟨k0,by simp [List.lookup_cons,hx,e],q⟩
theorem ZhN {env:Env} {x:Str}:∀ {names:List (Str × NameKind)},names.lookup x = some .free →
  (names.map fun (n,k)=>if (k == NameKind.free && env.scope.kind == .function && env.kindOf n == some .cell) then (n,NameKind.cell) else (n,k)).lookup x = some .free ∨
  (names.map fun (n,k)=>if (k == NameKind.free && env.scope.kind == .function && env.kindOf n == some .cell) then (n,NameKind.cell) else (n,k)).lookup x = some .cell:=by
 intro names
 induction names with
 | nil=>intro h; simp at h
 | cons y r ih=>
  intro h
  obtain ⟨n,k1⟩:=y
  rw [List.map_cons]
  cases hx:x == n with
  | true=>
   simp only [List.lookup_cons,hx] at h
   cases h
   by_cases hc:(NameKind.free == NameKind.free && env.scope.kind == .function && env.kindOf n == some .cell) = true
   ·simp only [if_pos hc,List.lookup_cons,hx]; exact .inr trivial
   ·simp only [if_neg hc,List.lookup_cons,hx]; exact .inl trivial
  | false=>
   simp only [List.lookup_cons,hx] at h
   by_cases hc:(k1 == NameKind.free && env.scope.kind == .function && env.kindOf n == some .cell) = true
   ·simp only [if_pos hc,List.lookup_cons,hx]; exact ih h
   ·simp only [if_neg hc,List.lookup_cons,hx]; exact ih h
section
variable {X:Cx} {pins:List (Addr × Obj)} {σ:St} {H:Hp} {s:Shared} {scope:Scope} {N':List Str} {own:Nat} {fp:List Addr}
theorem ZmX (I:Inv X pins σ H s) (hk:scope.kind = .function) (hcell:∀ y ∈ scope.names,y.2 ≠ .cell) (hfree:∀ y ∈ scope.names,y.2 = .free → X.env.kindOf y.1 = some .cell ∨ X.env.kindOf y.1 = some .free)
  (hN:N'.length = X.N.length + own) (hv:ZmQ X.N N' scope = true) (hfp:∀ b ∈ fp,Zdz X pins H b) (hlt:∀ b ∈ fp,b < s.heap.objs.size) {h1:Heap} {tk:Nat}
  (hns:h1.Ns s.heap.objs.size fun _=>none) (keep:∀ b o,s.heap.get? b = some o → h1.get? b = some o):
  Inv (ZbK X scope N' s.heap.objs.size (Zcf X.env.cells scope.names []) s H fp) [] (σ ++ List.replicate own none) H { s with heap:=h1,toks:=tk }:=by
 have hc0:∀ y ∈ scope.names,y.2 = .free → ∃ c,X.env.cells.lookup y.1 = some c:=fun y hy e=>I.ok.has y.1 (hfree y hy e)
 have sub:∀ x c,(Zcf X.env.cells scope.names []).lookup x = some c → X.env.cells.lookup x = some c:=fun x c h=>by
  rcases Zk3 scope.names [] hc0 h with q | q
  ·simp at q
  ·exact q
 have cellK:∀ {c:Addr} {v:Option Value},s.heap.IsCell c v → h1.IsCell c v:=fun ⟨o,ho,hd⟩=>⟨o,keep _ o ho,hd⟩
 refine ⟨⟨I.ok.mod,hk,I.ok.glob,I.ok.blt,Nat.le_refl _,fun x y c h1 h2=>I.ok.inj x y c (sub x c h1) (sub y c h2),fun x hx=>?_,fun x c h=>?_,I.ok.hd,I.ok.frames,.inl rfl,fun b hb=>⟨Nat.ne_of_lt (hlt b hb),fun x c h=>(hfp b hb).2.2.2.2.1 x c (sub x c h)⟩,
   I.bs,Nat.le_trans I.ok.bsz I.sz,fun b o e hb=>?_,fun b hb hz=>?_,I.stack,I.stkFree⟩,rfl,I.bare,Un.kept keep,⟨_,hns,fun i x v h1 h2 h3=>?_⟩,fun x c h=>?_,I.hok.fresh (Nat.le_refl _),fun x c h=>I.freeC x c (sub x c h),
  fun p hp=>absurd (show p ∈ ([]:List (Addr × Obj)) from hp) (by simp),I.hok.kept keep,?_⟩
 ·have hx':(relabel scope X.env).names.lookup x = some .cell ∨ (relabel scope X.env).names.lookup x = some .free:=hx
  have:scope.names.lookup x = some .free:=by
   rcases hx' with hx' | hx'
   ·obtain ⟨k0,e,q⟩:=ZcC (names:=scope.names) hx'
    rcases q with q | ⟨q,_⟩
    ·subst q; exact absurd rfl (hcell _ (PySem.mem_of_lookup e))
    ·rw [e,q]
   ·obtain ⟨k0,e,q⟩:=ZcC (names:=scope.names) hx'
    rcases q with q | ⟨_,q⟩
    ·rw [e,q]
    ·cases q
  exact Option.isSome_iff_exists.mp (ZgF scope.names [] (PySem.mem_of_lookup this))
 ·cases h
 ·obtain ⟨_,_,_,q,_⟩:=hfp b hb
  rcases q with q | q
  ·exact I.ok.noex b o e q
  ·exact absurd (Nat.lt_of_lt_of_le (Heap.lt_size e) (Nat.le_trans I.ok.bsz q)) (Nat.lt_irrefl _)
 ·have hz':b ∈ frs X.stack:=hz
  obtain ⟨_,q1,q2,_⟩:=hfp b hb
  rcases List.mem_cons.mp (I.stkSub b hz') with e | e
  ·exact q1 e
  ·exact q2 e
 ·have hi:i < σ.length:=by
   by_cases hi:i < σ.length
   ·exact hi
   ·rw [List.getElem?_append_right (Nat.le_of_not_lt hi),List.getElem?_replicate] at h2
    split at h2 <;> cases h2
  rw [List.getElem?_append_left hi] at h2
  have hiN:i < X.N.length:=by rw [← I.len]; exact hi
  have hN':N'[i]? = some x:=h1
  have vq:=List.all_eq_true.mp hv i (List.mem_range.mpr hiN)
  rw [hN'] at vq
  have h3':(relabel scope X.env).names.lookup x = some .local ∨ (relabel scope X.env).names.lookup x = some .cell ∨ (relabel scope X.env).names.lookup x = some .free:=h3
  have some_of:∃ k0,scope.names.lookup x = some k0:=by
   rcases h3' with q | q | q <;> (obtain ⟨k0,e,_⟩:=ZcC (names:=scope.names) q; exact ⟨k0,e⟩)
  obtain ⟨k0,ek⟩:=some_of
  simp only [ek,Option.isNone_some,Bool.false_or,Bool.and_eq_true,decide_eq_true_eq] at vq
  obtain ⟨vq1,vq2⟩:=vq
  cases vq2
  have hkind:=hfree (x,.free) (PySem.mem_of_lookup ek) rfl
  obtain ⟨m,hn,hl⟩:=I.loc
  have hVis:Vis X.env.scope x:=by
   rcases hkind with q | q
   ·exact .inr (.inl q)
   ·exact .inr (.inr q)
  obtain ⟨u,ru,lk⟩:=hl i x v vq1 h2 hVis
  refine ⟨u,ru,?_⟩
  rcases lk with ⟨kl,_⟩ | ⟨_,c,ec,ic⟩
  ·rcases hkind with q | q <;> (rw [q] at kl; cases kl)
  ·have hkk:(compEnvC scope (Zcf X.env.cells scope.names []) s.heap.objs.size X.env).kindOf x = some .cell ∨ (compEnvC scope (Zcf X.env.cells scope.names []) s.heap.objs.size X.env).kindOf x = some .free:=by
    rcases ZhN (env:=X.env) ek with q | q
    ·exact .inr q
    ·exact .inl q
   obtain ⟨c',ec'⟩:=Option.isSome_iff_exists.mp (ZgF (cells:=X.env.cells) scope.names [] (PySem.mem_of_lookup ek))
   have e2:=sub x c' ec'
   rw [ec] at e2
   cases e2
   exact .inr ⟨hkk,c,ec',cellK ic⟩
 ·obtain ⟨v,ic⟩:=I.cell x c (sub x c h)
  exact ⟨v,cellK ic⟩
 ·show (σ ++ List.replicate own none).length = N'.length
  rw [List.length_append,List.length_replicate,I.len,hN]
theorem ZaO.grow {K:PySem.W.Frag} {H:Hp} {ι:List Addr} {env:Zv} {σ:St} (E:ZaO K H ι env σ) (n:Nat):ZaO K H ι (env ++ List.replicate n none) (σ ++ List.replicate n none):=by
 refine ⟨by simp [E.1],fun i d h=>?_⟩
 by_cases hi:i < env.length
 ·rw [List.getElem?_append_left hi] at h
  obtain ⟨v,e,r⟩:=E.2 i d h
  exact ⟨v,by rw [List.getElem?_append_left (by rw [← E.1]; exact hi)]; exact e,r⟩
 ·rw [List.getElem?_append_right (Nat.le_of_not_lt hi),List.getElem?_replicate] at h
  split at h <;> cases h
end
section
structure Cb where
 Y:Cx
 fp:List Addr
 tn:Nat → Heap → Prop
 itd:It3
 H2:Hp
 ι2:List Addr
 Q:VK
 g:G3
 ts:List E3
 f:E3
 nM:Nat
 acc:Addr
inductive CbJ (P:Cb) (n:Nat) (s':Shared):Prop
 | mk (k:Nat) (σ5:St) (H5:Hp) (ι5:List Addr) (M5:Store) (env5:Zv) (I5:Inv P.Y [] σ5 H5 s') (st5:P.tn k s'.heap) (fr5:∀ b ∈ P.fp,H5 b = none) (hn:P.itd.items.length - k = n) (hk:k ≤ P.itd.items.length)
   (x5:Ext P.Y.K P.H2 P.ι2 H5 ι5) (S5:Zz P.Y.K H5 ι5 M5) (E5:ZaO P.Y.K H5 ι5 env5 σ5) (hι:ι5[P.nM]? = some P.acc) (h5:Zo P.Y.K H5 ι5 P.Q (Zby P.itd P.g P.ts P.f P.nM (P.itd.items.drop k) env5 M5))
def CbL (P:Cb) (n:Nat) (s':Shared):Prop:=∃ m,m < n ∧ CbJ P m s'
section
noncomputable local instance (priority:=100000) clP18a (p:Prop):Decidable p:=clP17 p
noncomputable def cbE (P:Cb) (k:Nat) (env:Zv) (e:D) (M2:Store):R3 D:=match M2[P.nM]? with
 | some (.lst x)=>if x.length < SZ then Zby P.itd P.g P.ts P.f P.nM (P.itd.items.drop (k + 1)) env (M2.set P.nM (.lst (x ++ [e]))) else .bad
 | _=>.bad
noncomputable def cbB (P:Cb) (k:Nat) (env:Zv) (b:Bool) (M1:Store):R3 D:=if b then (P.f env M1).bind (cbE P k env) else Zby P.itd P.g P.ts P.f P.nM (P.itd.items.drop (k + 1)) env M1
end
def cbF (P:Cb) (n:Nat) (xv:Value) (s:Shared):Prop:=wpAny (model P.Y.prog P.Y.w) P.Y.A (call (.builtin "list.append") [.ref P.acc,xv]) (fun _ s'=>CbL P n s') P.Y.xe s
def cbO (P:Cb) (elt:Expr) (n:Nat) (ok:Bool) (s:Shared):Prop:=if ok = true then wpAny (model P.Y.prog P.Y.w) P.Y.A (eval elt P.Y.env) (cbF P n) P.Y.xe s else CbL P n s
def cbS (P:Cb) (elt:Expr) (ifs:List Expr) (n:Nat) (s:Shared):Prop:=wpAny (model P.Y.prog P.Y.w) P.Y.A (forIn ifs true fun c r=>if r = true then do let ok ← isTrue c P.Y.env (eval c P.Y.env); pure (ForInStep.yield ok) else pure (ForInStep.yield r)) (cbO P elt n) P.Y.xe s
def cbA (P:Cb) (tg elt:Expr) (ifs:List Expr) (n:Nat) (u:Value) (s:Shared):Prop:=wpAny (model P.Y.prog P.Y.w) P.Y.A (assign tg P.Y.env u) (fun _=>cbS P elt ifs n) P.Y.xe s
def cbN (P:Cb) (tg elt:Expr) (ifs:List Expr) (it:Addr) (n:Nat) (F:Shared → Prop) (r:Option Value) (s:Shared):Prop:=match r with
 | none=>F s
 | some v=>wpAny (model P.Y.prog P.Y.w) P.Y.A (letOwnedTupleGo tg (.ref it) v) (fun _=>cbA P tg elt ifs n v) P.Y.xe s
variable {P:Cb} {tg elt:Expr} {ifs:List Expr} {J:It} {it:Addr} {k:Nat} {h7:Heap} {σ:St} {H H':Hp} {s:Shared} {ι:List Addr} {M M1:Store} {env:Zv}
theorem Zku (T:Turn P.Y.prog P.Y.w P.Y.K tg J P.fp it P.tn) (st7:P.tn (k + 1) h7) (hlt:k < P.itd.items.length) (I':Inv P.Y ([] ++ ZdC P.fp h7) σ H s) (x:Ext P.Y.K P.H2 P.ι2 H ι) (S:Zz P.Y.K H ι M) (E:ZaO P.Y.K H ι env σ) (hι:ι[P.nM]? = some P.acc)
  (h:Zo P.Y.K H ι P.Q (Zby P.itd P.g P.ts P.f P.nM (P.itd.items.drop (k + 1)) env M)):CbL P (P.itd.items.length - k) s:=
 ⟨P.itd.items.length - (k + 1),lD 2 0x30113c2012a1c0c21 T1 (Nat.sub_add_cancel (lB 1 6991908881 T1 hlt)) (sbA _ _),⟨k + 1,σ,H,ι,M,env,I'.unpinned,T.keep _ _ _ st7 fun b hb o e=>(I'.pin (b,o) (List.mem_append_right _ (List.mem_append_right _ (Zdn hb e)))).1,fun b hb=>(T.obj _ _ st7 b hb).elim fun o e=>(I'.pin (b,o) (List.mem_append_right _ (List.mem_append_right _ (Zdn hb e.1)))).2.1,rfl,hlt,x,S,E,hι,h⟩⟩
theorem Zsd:cbB P k env true M = (P.f env M).bind (cbE P k env):=if_pos rfl
theorem Zrj:cbB P k env false M = Zby P.itd P.g P.ts P.f P.nM (P.itd.items.drop (k + 1)) env M:=if_neg (by decide)
theorem Zo.iff {K:PySem.W.Frag} {H:Hp} {ι:List Addr} {Q:VK} {c:Prop} {dc:Decidable c} {r:R3 D} (h:Zo K H ι Q (if c then r else .bad)):c ∧ Zo K H ι Q r:=by
 by_cases hc:c
 ·rw [if_pos hc] at h; exact ⟨hc,h⟩
 ·rw [if_neg hc] at h; exact h.elim
theorem Zph {xs:List D} {d:D} {v:V} {xv:Value} (T:Turn P.Y.prog P.Y.w P.Y.K tg J P.fp it P.tn) (st7:P.tn (k + 1) h7) (hlt:k < P.itd.items.length) (I':Inv P.Y ([] ++ ZdC P.fp h7) σ H s) (r:RelV v xv) (x:Ext P.Y.K P.H2 P.ι2 H ι) (S:Zz P.Y.K H ι M) (E:ZaO P.Y.K H ι env σ) (rd:Rep P.Y.K H ι d v) (hι:ι[P.nM]? = some P.acc)
  (hm:M[P.nM]? = some (.lst xs)) (hz:xs.length < SZ) (h:Zo P.Y.K H ι P.Q (Zby P.itd P.g P.ts P.f P.nM (P.itd.items.drop (k + 1)) env (M.set P.nM (.lst (xs ++ [d]))))):
  cbF P (P.itd.items.length - k) xv s:=by
 obtain ⟨vs,ev,rvs⟩:=S.obj _ _ _ hm hι
 obtain ⟨x11,S11⟩:=S.setl (.inr (.inl ⟨_,ev⟩)) hι (rvs.append (Zn.cons rd Zn.nil))
 refine thn (Q':=fun _ s'=>CbL P (P.itd.items.length - k) s') (ZgH _ s σ H (.ref P.acc) [v] (.ref P.acc) [xv] (fun _ H'=>H' = upd H P.acc (.lst (vs ++ [v]))) I' rfl (.cons r .nil) ⟨_,vs,v,rfl,rfl,ev,by rw [rvs.length]; exact Nat.lt_of_lt_of_le hz Zbk,rfl⟩) fun _ s11 zz1=>?_
 obtain ⟨_,H11,I11,_,eH⟩:=zz1
 rw [eH] at I11
 exact Zku T st7 hlt I11 (x.trans x11) S11 (E.mono x11) (x11.pre _ _ hι) (h.up x11)
theorem Zpv (T:Turn P.Y.prog P.Y.w P.Y.K tg J P.fp it P.tn) (helt:C3 P.Y elt P.f) (st7:P.tn (k + 1) h7) (hlt:k < P.itd.items.length) (I':Inv P.Y ([] ++ ZdC P.fp h7) σ H s) (x:Ext P.Y.K P.H2 P.ι2 H ι) (S:Zz P.Y.K H ι M) (E:ZaO P.Y.K H ι env σ) (hι:ι[P.nM]? = some P.acc)
  (h:Zo P.Y.K H ι P.Q ((P.f env M).bind (cbE P k env))):
  wpAny (model P.Y.prog P.Y.w) P.Y.A (eval elt P.Y.env) (cbF P (P.itd.items.length - k)) P.Y.xe s:=by
 obtain ⟨d,M10,e10,h10⟩:=Zo.bind h
 refine thn (Q':=cbF P (P.itd.items.length - k)) (helt _ s σ H (fun v H'=>∃ ι10,Ext P.Y.K H ι H' ι10 ∧ Zz P.Y.K H' ι10 M10 ∧ Rep P.Y.K H' ι10 d v) I' ⟨ι,M,env,S,E,by rw [e10]; exact fun v H' ι' x' S' r'=>⟨ι',x',S',r'⟩⟩) fun xv s10 zz1=>?_
 obtain ⟨v,H10,I10,r10,ι10,x10,S10,rd⟩:=zz1
 unfold cbE at h10
 cases hm:M10[P.nM]? with
 | none=>rw [hm] at h10; exact h10.elim
 | some o=>
  rw [hm] at h10
  cases o with
  | dct _=>exact h10.elim
  | fdct _=>exact h10.elim
  | ins _ _=>exact h10.elim
  | lst xs=>
   exact Zph T st7 hlt I10 r10 (x.trans x10) S10 (E.mono x10) rd (x10.pre _ _ hι) hm (Zo.iff h10).1 ((Zo.iff h10).2.up x10)
theorem Zp1 (T:Turn P.Y.prog P.Y.w P.Y.K tg J P.fp it P.tn) (hts:CTs P.Y ifs P.ts) (helt:C3 P.Y elt P.f) (st7:P.tn (k + 1) h7) (hlt:k < P.itd.items.length) (I':Inv P.Y ([] ++ ZdC P.fp h7) σ H s) (x:Ext P.Y.K P.H2 P.ι2 H ι) (S:Zz P.Y.K H ι M) (E:ZaO P.Y.K H ι env σ) (hι:ι[P.nM]? = some P.acc)
  (h:Zo P.Y.K H ι P.Q ((ZcO P.ts env M).bind (cbB P k env))):
  cbS P elt ifs (P.itd.items.length - k) s:=by
 obtain ⟨b,M9,e9,h9⟩:=Zo.bind h
 refine thn (Q':=cbO P elt (P.itd.items.length - k)) (hts _ s σ H (fun b' H'=>b' = b ∧ ∃ ι9,Ext P.Y.K H ι H' ι9 ∧ Zz P.Y.K H' ι9 M9) I' ⟨ι,M,env,S,E,by rw [e9]; exact fun H' ι' x' S'=>⟨rfl,ι',x',S'⟩⟩) fun b' s9 zz1=>?_
 obtain ⟨H9,I9,eb,ι9,x9,S9⟩:=zz1
 rw [← eb] at h9
 cases b' with
 | false=>exact Zku T st7 hlt I9 (x.trans x9) S9 (E.mono x9) (x9.pre _ _ hι) (Zo.up x9 (Zrj ▸ h9))
 | true=>exact Zpv T helt st7 hlt I9 (x.trans x9) S9 (E.mono x9) (x9.pre _ _ hι) (Zo.up x9 (Zsd ▸ h9))
theorem ZrS (T:Turn P.Y.prog P.Y.w P.Y.K tg J P.fp it P.tn) (hc:P.Y.calm = true) (hfp:∀ {H':Hp},(∀ b ∈ P.fp,H' b = none) → ∀ b ∈ P.fp,Zdz P.Y [] H' b) (hg:CG P.Y tg P.g) (hts:CTs P.Y ifs P.ts) (helt:C3 P.Y elt P.f) (hlt:k < P.itd.items.length)
  (I5:Inv P.Y [] σ H s) (st5:P.tn k s.heap) (fr5:∀ b ∈ P.fp,H b = none) (x:Ext P.Y.K P.H2 P.ι2 H ι) (S:Zz P.Y.K H ι M) (E:ZaO P.Y.K H ι env σ) (hι:ι[P.nM]? = some P.acc) (ok:Zgl P.Y.K P.H2 P.ι2 P.itd J)
  (h:Zo P.Y.K H ι P.Q (Zby P.itd P.g P.ts P.f P.nM (P.itd.items[k] :: P.itd.items.drop (k + 1)) env M)) (F:Shared → Prop):
  wpAny (model P.Y.prog P.Y.w) P.Y.A (pyNext (.ref it)) (cbN P tg elt ifs it (P.itd.items.length - k) F) P.Y.xe s:=by
 obtain ⟨lk,h⟩:=Zo.iff h
 obtain ⟨go,yl⟩:=(ok k H ι M x S lk).1 _ (List.getElem?_eq_getElem hlt)
 cases eg:P.g P.itd.items[k] env with
 | none=>rw [eg] at h; exact h.elim
 | some env6=>
  rw [eg] at h
  refine thn (T.item P.Y rfl rfl rfl hc k [] s σ H P.Y.xe I5 (hfp fr5) st5 go) fun r s6 zz1=>?_
  obtain ⟨u,hr,h6⟩:=zz1
  rw [hr]
  refine thn (Q':=fun _=>cbA P tg elt ifs (P.itd.items.length - k) u) h6 fun _ s7 zz1=>?_
  obtain ⟨y,H7,I7,r7,y7,st7,fr7⟩:=zz1
  obtain ⟨e7,rx⟩:=yl y H7 y7
  rw [e7] at I7 fr7
  refine thn (Q':=fun _=>cbS P elt ifs (P.itd.items.length - k)) (hg _ s7 σ H y u (fun σ' H'=>H' = H ∧ ZaO P.Y.K H ι env6 σ') (I7.pinned (hfp fr7) (T.obj _ _ st7)) r7 ⟨ι,M,env,_,env6,S,E,rx,eg,fun σ' E'=>⟨rfl,E'⟩⟩) fun _ s8 zz1=>?_
  obtain ⟨σ8,H8,I8,e8,E8⟩:=zz1
  rw [e8] at I8
  exact Zp1 T hts helt st7 hlt I8 x S E8 hι h
theorem ZnY {n:Nat} (T:Turn P.Y.prog P.Y.w P.Y.K tg J P.fp it P.tn) (hc:P.Y.calm = true) (hfp:∀ {H':Hp},(∀ b ∈ P.fp,H' b = none) → ∀ b ∈ P.fp,Zdz P.Y [] H' b)
  (I5:Inv P.Y [] σ H s) (st5:P.tn P.itd.items.length s.heap) (fr5:∀ b ∈ P.fp,H b = none) (x:Ext P.Y.K P.H2 P.ι2 H ι) (S:Zz P.Y.K H ι M) (hι:ι[P.nM]? = some P.acc) (ok:Zgl P.Y.K P.H2 P.ι2 P.itd J)
  (h:Zo P.Y.K H ι P.Q (Zby P.itd P.g P.ts P.f P.nM [] env M)) {F:Shared → Prop} (hF:∀ s6,Inv P.Y [] σ H s6 → P.Q (.ref P.acc) H → F s6):
  wpAny (model P.Y.prog P.Y.w) P.Y.A (pyNext (.ref it)) (cbN P tg elt ifs it n F) P.Y.xe s:=by
 obtain ⟨lk,h⟩:=Zo.iff h
 refine thn (T.done P.Y rfl rfl rfl hc _ [] s σ H P.Y.xe I5 (hfp fr5) st5 ((ok _ H ι M x S lk).2 rfl)) fun r s6 zz1=>?_
 rw [zz1.1]
 exact hF s6 zz1.2 (h _ H ι Ext.refl S (Rep.ref hι))
end
section
variable {X:Cx} {elt tg iter:Expr} {ifs:List Expr} {scope:Scope} {pos:Pos} {i:I3} {own:Nat} {g:G3} {ts:List E3} {f:E3} {N':List Str}
structure Zga (X:Cx) (scope:Scope) (N':List Str) (own:Nat):Prop where
 kind:scope.kind = .function
 cell:∀ y ∈ scope.names,y.2 ≠ .cell
 free:∀ y ∈ scope.names,y.2 = .free → X.env.kindOf y.1 = some .cell ∨ X.env.kindOf y.1 = some .free
 names:∀ y ∈ scope.names,y.2 = .local → scope.names.lookup y.1 = some .local
 len:N'.length = X.N.length + own
 vis:ZmQ X.N N' scope = true
theorem Zor {P:Cb} {J:It} {it:Addr} {s:Shared} {F:Shared → Prop} (T:Turn P.Y.prog P.Y.w P.Y.K tg J P.fp it P.tn) (hc:P.Y.calm = true) (hfp:∀ {H':Hp},(∀ b ∈ P.fp,H' b = none) → ∀ b ∈ P.fp,Zdz P.Y [] H' b)
  (hb:CG P.Y tg P.g ∧ CTs P.Y ifs P.ts ∧ C3 P.Y elt P.f) (ok:Zgl P.Y.K P.H2 P.ι2 P.itd J) {n:Nat} (z:CbJ P n s)
  (fin:∀ σ H s',Inv P.Y [] σ H s' → P.Q (.ref P.acc) H → F s'):wpAny (model P.Y.prog P.Y.w) P.Y.A (pyNext (.ref it)) (cbN P tg elt ifs it n F) P.Y.xe s:=by
 obtain ⟨k,σ5,H5,ι5,M5,env5,I5,st5,fr5,hn,hk,x5,S5,E5,hι,h5⟩:=z
 by_cases hlt:k < P.itd.items.length
 ·rw [List.drop_eq_getElem_cons hlt] at h5
  exact hn ▸ ZrS T hc hfp hb.1 hb.2.1 hb.2.2 hlt I5 st5 fr5 x5 S5 E5 hι ok h5 _
 ·rw [Nat.le_antisymm hk (Nat.le_of_not_lt hlt)] at st5 h5
  rw [List.drop_length] at h5
  exact ZnY T hc hfp I5 st5 fr5 x5 S5 hι ok h5 fun s6 I6 q=>fin σ5 H5 s6 I6 q
theorem ZiV {pins:List (Addr × Obj)} {σ:St} {s3:Shared} {H2 H3:Hp} {ι2 ι3:List Addr} {M3:Store} {nM:Nat} {D:Addr} {env:Zv} {it:Addr} {fp:List Addr} {tn:Nat → Heap → Prop} {J:It} {itd:It3} {Q:VK} {E:Value → Shared → Prop} (O:Zga X scope N' own) (hc:X.calm = true)
  (hb:∀ C cl s H ex,CG (ZbK X scope N' C cl s H ex) tg g ∧ CTs (ZbK X scope N' C cl s H ex) ifs ts ∧ C3 (ZbK X scope N' C cl s H ex) elt f)
  (T:Turn X.prog X.w X.K tg J fp it tn) (st3:tn 0 s3.heap) (hlt3:∀ b ∈ fp,b < s3.heap.objs.size) (I3:Inv X pins σ H3 s3) (hfp3:∀ b ∈ fp,Zdz X pins H3 b) (x3:Ext X.K H2 ι2 H3 ι3) (S3:Zz X.K H3 ι3 M3) (E2:ZaO X.K H3 ι3 env σ) (ok:Zgl X.K H2 ι2 itd J)
  (h:Zo X.K H3 ι3 Q (Zby itd g ts f nM itd.items (env ++ List.replicate own none) M3)) (hι:ι3[nM]? = some D)
  (RR:Value → Addr → Result → Shared → Prop)
  (fin:∀ (acc C:Addr) (s':Shared) (m:Str → Option Value) (H':Hp),s'.heap.Ns C m → Zdz X pins H' C → Inv X pins σ H' s' → Q (.ref acc) H' → RR (.ref acc) C (.ok .next) s'):
  wpAny (model X.prog X.w) X.A (newFunctionEnv scope X.env.globals (Zcf X.env.cells scope.names []) [] X.env.qual none .none (some X.env)) (fun cenv s₄=>
   codeAny (model X.prog X.w) X.A (.compStart (.ListComp elt [⟨tg,iter,ifs,0⟩] scope pos) 0 (.ref it) (.ref D) { cenv with scope:=relabel scope X.env }) (RR (.ref D) cenv.locals) s₄) E s3:=by
 refine wpAny_newFunctionEnv O.cell (by intro y hy; cases hy) (fun h4 hns hsb=>?_) O.kind
 have keep34:∀ b o,s3.heap.get? b = some o → h4.get? b = some o:=fun b o e=>hsb.extBut b o (Nat.ne_of_lt (Heap.lt_size e)) (Heap.get?_push_of_some _ e)
 have I4:=ZmX (own:=own) (N':=N') (tk:=s3.toks + ([]:List (Str × Value)).length) I3 O.kind O.cell O.free O.len O.vis hfp3 hlt3 hns keep34
 have st4:tn 0 h4:=T.keep _ _ _ st3 fun b hb o e=>keep34 b o e
 have L:=Zhb (prog:=X.prog) (w:=X.w) (A:=X.A) (R:=RR (.ref D) s3.heap.objs.size) (scope:=scope) (pos:=pos) (iter:=iter) (elt:=elt) (target:=tg) (ifs:=ifs) (env:=compEnvC scope (Zcf X.env.cells scope.names []) s3.heap.objs.size X.env) (CbJ ⟨ZbK X scope N' s3.heap.objs.size (Zcf X.env.cells scope.names []) s3 H3 fp,fp,tn,itd,H2,ι2,Q,g,ts,f,nM,D⟩) (fun n s5 z=>Zor (P:=⟨ZbK X scope N' s3.heap.objs.size (Zcf X.env.cells scope.names []) s3 H3 fp,fp,tn,itd,H2,ι2,Q,g,ts,f,nM,D⟩) T hc
  (fun hn b hb=>⟨hn b hb,Nat.ne_of_lt (hlt3 b hb),fun hz=>I4.ok.exfs b hb hz,.inl hb,fun x c hx=>(I4.ok.exf b hb).2 x c hx,fun p hp=>absurd (show p ∈ ([]:List (Addr × Obj)) from hp) (by simp)⟩)
  (hb _ _ _ _ _) ok z
  fun σ' H' s6 I6 q=>I6.loc.elim fun m6 hn6=>fin _ _ s6 m6 H' hn6.1 (I3.fpOk (Nat.le_refl _) I6.free) (I3.call' (ch:=fp) I6.os I6.base I6.hok I6.bare fun b hb=>⟨(hfp3 b hb).2.2.2.1,(hfp3 b hb).2.1,(hfp3 b hb).2.2.2.2.1,(hfp3 b hb).2.2.2.2.2⟩) q) _
  ⟨0,_,_,_,_,_,I4,st4,fun b hb=>(hfp3 b hb).1,rfl,Nat.zero_le _,x3,S3,E2.grow own,hι,h⟩
 exact codeAny_compStart_list L (T.self _ 0 _ _ _ st4 L)
theorem Zgg {pins:List (Addr × Obj)} {σ:St} {s2:Shared} {H2:Hp} {ι2:List Addr} {M2:Store} {env:Zv} {it:Addr} {fp:List Addr} {tn:Nat → Heap → Prop} {J:It} {itd:It3} {Q:VK} {E:Value → Shared → Prop} (O:Zga X scope N' own) (hc:X.calm = true)
  (hb:∀ C cl s H ex,CG (ZbK X scope N' C cl s H ex) tg g ∧ CTs (ZbK X scope N' C cl s H ex) ifs ts ∧ C3 (ZbK X scope N' C cl s H ex) elt f)
  (I2:Inv X pins σ H2 s2) (T:Turn X.prog X.w X.K tg J fp it tn) (st0:tn 0 s2.heap) (hfp:∀ b ∈ fp,Zdz X pins H2 b) (S2:Zz X.K H2 ι2 M2) (E2:ZaO X.K H2 ι2 env σ) (ok:Zgl X.K H2 ι2 itd J)
  (h:Zo X.K H2 ι2 Q (Zby itd g ts f M2.length itd.items (env ++ List.replicate own none) (M2 ++ [.lst []])))
  (RR:Value → Addr → Result → Shared → Prop)
  (fin:∀ (acc C:Addr) (s':Shared) (m:Str → Option Value) (H':Hp),s'.heap.Ns C m → Zdz X pins H' C → Inv X pins σ H' s' → Q (.ref acc) H' → RR (.ref acc) C (.ok .next) s'):
  wpAny (model X.prog X.w) X.A (newList []) (fun acc s₃=>wpAny (model X.prog X.w) X.A (newFunctionEnv scope X.env.globals (Zcf X.env.cells scope.names []) [] X.env.qual none .none (some X.env)) (fun cenv s₄=>
   codeAny (model X.prog X.w) X.A (.compStart (.ListComp elt [⟨tg,iter,ifs,0⟩] scope pos) 0 (.ref it) acc { cenv with scope:=relabel scope X.env }) (RR acc cenv.locals) s₄) E s₃) E s2:=by
 refine wpAny_newObj_type ?_
 have hD:H2 s2.heap.objs.size = none:=I2.hok.fresh (Nat.le_refl _)
 obtain ⟨x3,S3,r3⟩:=S2.lst hD (Zn.nil (K:=X.K) (H:=H2) (ι:=ι2))
 have I3:Inv X pins σ (upd H2 s2.heap.objs.size (.lst [])) { s2 with heap:=s2.heap.push { cls:=.type "list",data:=.seq ([]:List Value).toArray } }:=
  I2.laid (t':=s2.toks) (fun b u e=>Heap.get?_push_of_some _ e) (Nat.le_refl _) ⟨Nat.zero_le _,[],0,.nil,Heap.get?_push_size _ rfl⟩
 have keep23:∀ b o,s2.heap.get? b = some o → (s2.heap.push { cls:=.type "list",data:=.seq ([]:List Value).toArray }).get? b = some o:=fun b o e=>Heap.get?_push_of_some _ e
 generalize hs3:({ s2 with heap:=s2.heap.push { cls:=.type "list",data:=.seq ([]:List Value).toArray } }:Shared) = s3 at I3 ⊢
 have keep23:∀ b o,s2.heap.get? b = some o → s3.heap.get? b = some o:=by rw [← hs3]; exact keep23
 have lt2:∀ b ∈ fp,b < s2.heap.objs.size:=fun b hb=>(T.obj _ _ st0 b hb).elim fun o e=>Heap.lt_size e.1
 have hlt3:∀ b ∈ fp,b < s3.heap.objs.size:=fun b hb=>(T.obj _ _ st0 b hb).elim fun o e=>Heap.lt_size (keep23 b o e.1)
 exact ZiV O hc hb (T:=T) (st3:=T.keep _ _ _ st0 fun b hb o e=>keep23 b o e) (hlt3:=hlt3) (I3:=I3) (hfp3:=fun b hb=>⟨(Zay (Nat.ne_of_lt (lt2 b hb))).trans (hfp b hb).1,(hfp b hb).2⟩) (x3:=x3) (S3:=S3) (E2:=E2.mono x3) (ok:=ok) (h:=h.up x3) (hι:=by rw [← S2.len]; simp) RR fin
theorem Zss (O:Zga X scope N' own) (hxe:X.xe = fun _ _=>False) (hc:X.calm = true) (hi:CI X tg iter i)
  (hb:∀ C cl s H ex,CG (ZbK X scope N' C cl s H ex) tg g ∧ CTs (ZbK X scope N' C cl s H ex) ifs ts ∧ C3 (ZbK X scope N' C cl s H ex) elt f)
  (hs:∀ x,foldedSetIterable iter X.env x = pure x:=by intro _; rfl):C3 X (.ListComp elt [⟨tg,iter,ifs,0⟩] scope pos) (eLC i own g ts f):=by
 intro pins s σ H Q I h
 obtain ⟨ι,M,env,S,E,h⟩:=h
 obtain ⟨itd,M1,e1,h⟩:=Zo.bind h
 have hc0:∀ y ∈ scope.names,y.2 = .free → ∃ c,X.env.cells.lookup y.1 = some c:=fun y hy e=>I.ok.has y.1 (O.free y hy e)
 rw [eval_ListComp]
 refine wpAny_comprehension_free (use:=none) rfl hs (Zd7 hc0) O.kind O.names ?_
 refine thn (hi pins s σ H (fun J H'=>∃ ι',Ext X.K H ι H' ι' ∧ Zz X.K H' ι' M1 ∧ Zgl X.K H' ι' itd J) I ⟨ι,M,env,S,E,by rw [e1]; exact fun J H' ι' x S' o=>⟨ι',x,S',o⟩⟩) fun v s1 h1=>thn h1 fun itv s2 h2=>?_
 obtain ⟨it,fp,tn,J,H2,rfl,I2,T,st2,f2,ι2,x2,S2,ok⟩:=h2
 refine Zgg (own:=own) (g:=g) (ts:=ts) (f:=f) O hc hb I2 T st2 f2 S2 (E.mono x2) ok (h.up x2) (fun acc C=>compPost (model X.prog X.w) X.A X.xe none (EP X pins σ Q) acc C) ?_
 intro acc C s' m H' hn hf I' hq
 obtain ⟨f0,f1,f2',f3,f4,f5⟩:=hf
 exact ⟨m,hn,fun h' sb=>⟨.ref acc,H',I'.turned (t':=s'.toks) (fun b o hb e=>(sb.2 b hb).trans e) f0 f1 f3 f4 f5,rfl,hq⟩⟩
theorem Zf3 (j:Nat) {x:Str} {pos' spos:Pos} (O:Zga X scope N' own) (hxe:X.xe = fun _ _=>False) (hc:X.calm = true) (hN:X.N.Nodup) (hi:CI X tg iter i)
  (hb:∀ C cl s H ex,CG (ZbK X scope N' C cl s H ex) tg g ∧ CTs (ZbK X scope N' C cl s H ex) ifs ts ∧ C3 (ZbK X scope N' C cl s H ex) elt f)
  (hj:X.N[j]? = some x:=by rfl) (hx:Loc X.env.scope x:=by first | exact Or.inl rfl | exact Or.inr rfl)
  (hf:X.fn x = true ∨ X.env.scope.names.lookup x = some .local:=by first | exact .inl rfl | exact .inr rfl)
  (hsw:swapsWith (.ListComp elt [⟨tg,iter,ifs,0⟩] scope pos) (some (.Name x pos')) spos.line X.env = pure true:=by rfl)
  (hs:∀ x,foldedSetIterable iter X.env x = pure x:=by intro _; rfl):CS X (.Assign [.Name x pos'] (.ListComp elt [⟨tg,iter,ifs,0⟩] scope pos) spos) (Zat j (eLC i own g ts f)):=by
 intro pins s σ H D I h
 obtain ⟨ι,M,env,S,E,h⟩:=h
 have h0:Zo X.K H ι (fun v H'=>D.nx (σ.set j (some v)) H') (eLC i own g ts f env M):=by
  unfold Zat at h
  cases q:eLC i own g ts f env M with
  | ok d M1=>rw [q] at h; exact fun v H1 ι1 x1 S1 r1=>h _ H1 ι1 x1 S1 ((E.mono x1).set j r1)
  | exc _ _=>rw [q] at h; exact h.elim
  | bad=>rw [q] at h; exact h.elim
 obtain ⟨itd,M1,e1,h1⟩:=Zo.bind h0
 have hc0:∀ y ∈ scope.names,y.2 = .free → ∃ c,X.env.cells.lookup y.1 = some c:=fun y hy e=>I.ok.has y.1 (O.free y hy e)
 rw [exec_Assign_Name_used _ _ _ _ hsw]
 refine wpAny_bind (wpAny_standAt (wpAny_bind ?_))
 show wpAny _ X.A (do let _ ← comprehension (.ListComp elt [⟨tg,iter,ifs,0⟩] scope pos) scope X.env _ (newList []) false (eval iter X.env) (some (assign (.Name x pos') X.env))) _ _ s
 refine wpAny_bind (wpAny_mono (wpAny_comprehension_free (use:=some (assign (.Name x pos') X.env)) (Q:=fun _ s'=>SP X pins D .next s') rfl hs (Zd7 hc0) O.kind O.names ?_) (fun _ s' hq=>wpAny_pure (wpAny_pure hq)) fun _ _ e=>e)
 refine thn (hi pins s σ H (fun J H'=>∃ ι',Ext X.K H ι H' ι' ∧ Zz X.K H' ι' M1 ∧ Zgl X.K H' ι' itd J) I ⟨ι,M,env,S,E,by rw [e1]; exact fun J H' ι' x S' o=>⟨ι',x,S',o⟩⟩) fun v s1 h1'=>thn h1' fun itv s2 h2=>?_
 obtain ⟨it,fp,tn,J,H2,rfl,I2,T,st2,f2,ι2,x2,S2,ok⟩:=h2
 refine Zgg (own:=own) (g:=g) (ts:=ts) (f:=f) O hc hb I2 T st2 f2 S2 (E.mono x2) ok (h1.up x2) (fun acc C=>compPost (model X.prog X.w) X.A X.xe (some (assign (.Name x pos') X.env)) (fun _ s'=>SP X pins D .next s') acc C) ?_
 intro acc C s' m H' hn hfC I' hq
 obtain ⟨f0,f1,f2',f3,f4,f5⟩:=hfC
 show wpAny _ X.A (assign (.Name x pos') X.env (.ref acc)) _ _ s'
 refine wpAny_assign_Name (ZgS I' hN hj hx (show RelV (.ref acc) (.ref acc) from rfl) (fun s'' I'' ⟨a,sb,ha⟩=>?_) hf)
 have hCa:C ≠ a:=by
  rcases ha with rfl | ha
  ·exact f1
  ·exact Ne.symm (f4 x a ha)
 exact ⟨m,hn.sameBut sb hCa,fun h' sb'=>⟨_,H',I''.turned (t':=s''.toks) (fun b o hb e=>(sb'.2 b hb).trans e) f0 f1 f3 f4 f5,hq⟩⟩
end
end L3
namespace L3
open PySem PySem.Spec PyProof.Rows L2
theorem Zc5 {k:Nat} {A:Around} (r:Za4 k A):A.units + 80 < cLine:=by have:=r.un; exact lC 1 0x2502b0c12c82b110d0cc11 T1 this
noncomputable def Its (x:Str):It:=⟨fun i _=>i < x.cps.size,fun i H y H'=>H' = H ∧ ∃ c,x.cps[i]? = some c ∧ y = .str ⟨#[c]⟩,fun i _=>i = x.cps.size⟩
theorem Zm7 {P:Program} {w:World} {K:PySem.W.Frag} {tg:Expr} {it:Addr} {x:Str} {t:Tok} {ty:String} (W:∀ A':Around,A'.handled = none → Walks P w A' it [it] [it] x.cps.size (SignAt x) (fun i h=>h.IsStrIter it ty x t i))
  (hs:∀ (A:Around) (i:Nat) (s:Shared) (Q:Value → Shared → Prop) (E:Value → Shared → Prop),s.heap.IsStrIter it ty x t i → Q (.ref it) s → wpAny (model P w) A (pyIter (.ref it)) Q E s)
  (hty:["enumerate","zip","dict_itemiterator","dict_reverseitemiterator","odict_iterator","itertools.zip_longest","itertools.pairwise"].contains ty = false):Turn P w K tg (Its x) [it] it (fun i h=>h.IsStrIter it ty x t i) where
 mem:=by simp
 obj:=fun i h st b hb=>by
  have e:b = it:=by simpa using hb
  subst e
  obtain ⟨o,e,c,d⟩:=st
  exact ⟨o,e,fun v z=>by rw [d] at z; cases z⟩
 keep:=fun i h h' st k=>let ⟨o,e,r⟩:=st; ⟨o,k it (by simp) o e,r⟩
 item:=by
  intro X hP hw hK hc i pins s σ H E I hf st hg
  subst hP hw hK
  obtain ⟨f0,f1,f2,f3,f4,f5⟩:=hf it (by simp)
  refine (W X.A (I.ok.hd hc)).item i s _ _ hg st fun v h' tk hv st' kk=>?_
  obtain ⟨c,u,hx,rfl⟩:=hv
  have I1:Inv X pins σ H { s with heap:=h',toks:=tk }:=I.turned (fun b o hb e=>kk b o (by simpa using hb) e) f0 f1 f3 f4 f5
  obtain ⟨o,e,cc,d⟩:=id st'
  exact ⟨_,rfl,ZjX (s:={ s with heap:=h',toks:=tk }) e cc d hty ⟨.str ⟨#[c]⟩,H,I1,⟨u,rfl⟩,⟨rfl,c,hx,rfl⟩,st',fun b hb=>(hf b hb).1⟩⟩
 done:=by
  intro X hP hw hK hc i pins s σ H E I hf st hg
  subst hP hw hK
  obtain ⟨f0,f1,f2,f3,f4,f5⟩:=hf it (by simp)
  have e:i = x.cps.size:=hg
  subst e
  exact (W X.A (I.ok.hd hc)).done s _ _ st fun h' tk kk=>⟨rfl,I.turned (fun b o hb e=>kk b o (by simpa using hb) e) f0 f1 f3 f4 f5⟩
 self:=hs
section
variable {X:Cx} {tg e o:Expr} {es:List Expr} {pos p apos cpos:Pos} {f:E3} {gl:EL3}
theorem ZqD (h:C3 X e f):PI X tg e (fun σ H R=>tOf X.K f σ H fun x H1=>∃ z:Str,x = .str z ∧ z.length ≤ SZ ∧ ∀ J,(∀ ι,Zgl X.K H1 ι ⟨z.cps.toList.map fun c=>.str [c],none⟩ J) → R J H1):=by
 intro pins s σ H R I hw
 refine thn (h pins s σ H _ I hw) fun v s1 zz1=>?_
 obtain ⟨x,H1,I1,r1,z,ex,hz,q⟩:=zz1
 subst ex
 obtain ⟨t,rfl⟩:=r1
 have key:∀ (ty:String) (o:Obj),(∀ A':Around,A'.handled = none → Walks X.prog X.w A' s1.heap.objs.size [s1.heap.objs.size] [s1.heap.objs.size] z.cps.size (SignAt z) (fun i h=>h.IsStrIter s1.heap.objs.size ty z t i)) →
   (∀ (A:Around) (i:Nat) (s:Shared) (Q:Value → Shared → Prop) (E:Value → Shared → Prop),s.heap.IsStrIter s1.heap.objs.size ty z t i → Q (.ref s1.heap.objs.size) s → wpAny (model X.prog X.w) A (pyIter (.ref s1.heap.objs.size)) Q E s) →
   ["enumerate","zip","dict_itemiterator","dict_reverseitemiterator","odict_iterator","itertools.zip_longest","itertools.pairwise"].contains ty = false → (s1.heap.push o).IsStrIter s1.heap.objs.size ty z t 0 →
   PIE X pins σ tg R (.ref s1.heap.objs.size) { s1 with heap:=s1.heap.push o }:=by
  intro ty o W hs hty st
  refine ⟨s1.heap.objs.size,[s1.heap.objs.size],_,_,H1,rfl,I1.kept (t':=s1.toks) fun b o e=>Heap.get?_push_of_some _ e,Zm7 W hs hty,st,fun b hb=>?_,q _ fun ι=>?_⟩
  ·have e:b = s1.heap.objs.size:=by simpa using hb
   subst e
   exact I1.fpOk (Nat.le_refl _) (I1.hok.fresh (Nat.le_refl _))
  ·intro i H2 ι2 M2 x S _
   refine ⟨fun d hd=>?_,fun hl=>?_⟩
   ·rw [List.getElem?_map] at hd
    cases hq:z.cps.toList[i]? with
    | none=>rw [hq] at hd; cases hd
    | some c=>
     rw [hq] at hd
     have hd':D.str [c] = d:=by simpa using hd
     subst hd'
     have hi:i < z.cps.size:=by
      have:=(List.getElem?_eq_some_iff.mp hq).1
      simpa using this
     refine ⟨hi,fun y H3 hy=>⟨hy.1,?_⟩⟩
     obtain ⟨_,c',hc',rfl⟩:=hy
     have:c' = c:=by
      rw [← Array.getElem?_toList,hq] at hc'
      exact (Option.some.inj hc').symm
     subst this
     exact Rep.str
   ·show i = z.cps.size
    rw [hl]
    simp
 cases ha:z.cps.all (· < 128)
 ·exact wpAny_pyIter_wide ha (key "str_iterator" _ (fun A' hA=>Walks.strWide hA _ z t) (fun _ _ _ _ _ st h=>wpAny_pyIter_striter_wide st h) (by decide) ⟨_,Heap.get?_push_size _ rfl,rfl,rfl⟩)
 ·exact wpAny_pyIter_ascii ha (key "str_ascii_iterator" _ (fun A' hA=>Walks.strAscii hA _ z t) (fun _ _ _ _ _ st h=>wpAny_pyIter_striter_ascii st h) (by decide) ⟨_,Heap.get?_push_size _ rfl,rfl,rfl⟩)
theorem Zjd (h:C3 X e f):CI X tg e (Zft f):=ZpF h (ZqD h)
theorem ZqP {K:PySem.W.Frag} {T:String} {ty:D → Store → Bool} {m:D → List D → Store → R3 D} (hty:∀ H ι M a x,Zz K H ι M → Rep K H ι a x → ty a M = true → tyV K T x H) (σ:St) (H:Hp) (Q:VK) (h:tOf K (Zaw ty m f gl) σ H Q):tBM K T (rM K m) (tOf K f) (tAf K gl) σ H Q:=by
 obtain ⟨ι,M,env,S,E,h⟩:=h
 obtain ⟨a,M1,e1,h⟩:=Zo.bind h
 refine ⟨ι,M,env,S,E,?_⟩
 rw [e1]
 intro v H1 ι1 x1 S1 r1
 by_cases ht:ty a M1 = true
 ·rw [if_pos ht] at h
  obtain ⟨ds,M2,e2,h⟩:=Zo.bind h
  refine ⟨hty _ _ _ _ _ S1 r1 ht,ι1,M1,env,S1,E.mono x1,?_⟩
  rw [e2]
  intro vs H2 ι2 x2 S2 r2
  exact ⟨ι2,M2,a,ds,S2,r1.mono x2,r2,(h.up x1).up x2⟩
 ·rw [if_neg ht] at h; exact h.elim
theorem ZlF {K:PySem.W.Frag} (H:Hp) (ι:List Addr) (M:Store) (a:D) (x:V) (S:Zz K H ι M) (r:Rep K H ι a x) (h:tyL a M = true):tyV K "list" x H:=by
 cases a with
 | ref n=>
  rw [Zge] at h
  cases hn:M[n]? with
  | none=>rw [hn] at h; exact ft h
  | some o=>
   cases o with
   | dct _=>rw [hn] at h; exact ft h
   | fdct _=>rw [hn] at h; exact ft h
   | ins _ _=>rw [hn] at h; exact ft h
   | lst xs=>
    obtain ⟨p,hp,rfl⟩:=r.ref_inv
    obtain ⟨vs,e,_⟩:=S.obj n _ p hn hp
    exact .inl ⟨rfl,vs,SqL.of e⟩
 | _=>exact ft h
theorem _root_.L2.MtR.imp {id:String} {r r':V → List V → Hp → VK → Prop} (h:MtR X id r) (i:∀ x xs H Q,r' x xs H Q → r x xs H Q):MtR X id r':=fun pins s σ H x xs v us Q I rx rs q=>h pins s σ H x xs v us Q I rx rs (i x xs H Q q)
theorem ZlU:MtR X "list.append" (rM X.K Zae):=MtR.imp (r:=Zka) ZgH fun x xs H Q zz1=>by
 obtain ⟨ι,M,a,ds,S,ra,rd,h⟩:=zz1
 cases a with
 | ref n=>
  cases ds with
  | nil=>exact h.elim
  | cons d ds=>
   cases ds with
   | cons _ _=>exact h.elim
   | nil=>
    simp only [Zdk] at h
    cases hn:M[n]? with
    | none=>simp only [hn] at h; exact h.elim
    | some o=>
     cases o with
     | dct _=>simp only [hn] at h; exact h.elim
     | fdct _=>simp only [hn] at h; exact h.elim
     | ins _ _=>simp only [hn] at h; exact h.elim
     | lst z=>
      simp only [hn] at h
      split at h
      ·rename_i hz
       obtain ⟨p,hp,rfl⟩:=ra.ref_inv
       obtain ⟨v,ws,rfl,r1,r2⟩:=rd.cons_inv
       have:=r2.nil_inv
       subst this
       obtain ⟨vs,e,rv⟩:=S.obj n _ p hn hp
       obtain ⟨x2,S2⟩:=S.setl (.inr (.inl ⟨_,e⟩)) hp (rv.append (Zn.cons r1 Zn.nil))
       exact ⟨p,vs,v,rfl,rfl,e,by rw [rv.length]; exact Nat.lt_of_lt_of_le hz Zbk,h _ _ _ x2 S2 Rep.non⟩
      ·exact h.elim
 | _=>exact h.elim
theorem Zao (ho:C3 X o f) (ha:CA X (e :: es) gl)
  (hbase:attributeBase o "append" X.env (eval o X.env) = eval o X.env:=by rfl)
  (hfew:((backTo cpos (starEach (e :: es) X.env)).all (fun x=>!x.1) && (backToKw cpos (keywordEach [] X.env)).all (fun x=>x.1.isSome)
   && decide ((e :: es).length + ([]:List Keyword).length + (if ([]:List Keyword).isEmpty then 0 else 1) < 30)) = true:=by rfl)
  (hline:(apos.endLine == cpos.line) = true:=by rfl) (hs:starEach (e :: es) X.env = (false,eval e X.env) :: starEach es X.env:=by rfl) (hplain:(backTo cpos (starEach es X.env)).any (·.1) = false:=by rfl):
  C3 X (.Call (.Attribute o "append" apos) (e :: es) [] cpos) (Zaw tyL Zae f gl):=
 (ZsN PySem.F.plainAttrs_list PySem.F.slot_list_append PySem.F.type_list_append ZlU ho ha hbase hfew hline hs hplain).imp (ZqP ZlF)
theorem Zr3:OpR X (compareOp .In) (r2 X.K fun a b M=>match a,b with | .str [c],.str y=>.ok (.bl (decide (c ∈ y))) M | _,_=>.bad):=OpR.imp Zlm fun x y H Q zz1=>by
 obtain ⟨ι,M,a,b,S,ra,rb,h⟩:=zz1
 cases a with
 | str z=>
  cases z with
  | nil=>cases b <;> exact h.elim
  | cons c z=>
   cases z with
   | cons _ _=>cases b <;> exact h.elim
   | nil=>
    cases b with
    | str y=>
     refine ⟨_,_,ra.str_inv,rb.str_inv,?_⟩
     have e:=StrLaws.found_one (⟨y.toArray⟩:Str) c
     rw [show (⟨[c].toArray⟩:Str) = ⟨#[c]⟩ from rfl,e]
     exact Zo.ok h S Rep.bl
    | _=>exact h.elim
 | _=>cases b <;> exact h.elim
end
end L3
namespace L3
open PySem PySem.Spec PyProof.Rows L2
section
variable {X:Cx}
theorem Zpd (hu:X.A.units + 80 < cLine):OpR X (compareOp .NotEq) (r2 X.K ZkD):=by
 intro pins s σ H x y v u Q I rx ry h
 obtain ⟨ι,M,a,b,S,ra,rb,h⟩:=h
 unfold ZkD at h
 cases q:eqD a b M with
 | none=>rw [q] at h; exact h.elim
 | some k=>
  rw [q] at h
  exact (ZjW hu I S ra rb rx ry q).2 X.prog X.w X.xe _ ⟨.bl (!k),H,I,rfl,Zo.ok h S Rep.bl⟩
theorem ZiH {K:PySem.W.Frag} {H:Hp} {ι:List Addr} {d:D} {v:V} (r:Rep K H ι d v) (h:Zbx d = true):Zea v = true:=by
 cases d with
 | non=>rw [r.non_inv]; rfl
 | bl b=>rw [r.bl_inv]; rfl
 | int i=>rw [r.int_inv]; rfl
 | str x=>rw [r.str_inv]; rfl
 | _=>exact ft h
theorem Zn4 (x y:List Nat):((⟨x.toArray⟩:Str) == ⟨y.toArray⟩) = (x == y):=by
 rw [Bool.eq_iff_iff]
 simp
theorem ZnN {K:PySem.W.Frag} {H:Hp} {ι:List Addr} {d e:D} {v w:V} (r:Rep K H ι d v) (q:Rep K H ι e w) (h:Zbx d = true) (h':Zbx e = true):eqV v w = deq d e:=by
 cases d with
 | non=>rw [r.non_inv]; cases e with
  | non=>rw [q.non_inv]; rfl
  | bl _=>rw [q.bl_inv]; rfl
  | int _=>rw [q.int_inv]; rfl
  | str _=>rw [q.str_inv]; rfl
  | _=>exact ft h'
 | bl _=>rw [r.bl_inv]; cases e with
  | non=>rw [q.non_inv]; rfl
  | bl _=>rw [q.bl_inv]; rfl
  | int _=>rw [q.int_inv]; rfl
  | str _=>rw [q.str_inv]; rfl
  | _=>exact ft h'
 | int _=>rw [r.int_inv]; cases e with
  | non=>rw [q.non_inv]; rfl
  | bl _=>rw [q.bl_inv]; rfl
  | int _=>rw [q.int_inv]; rfl
  | str _=>rw [q.str_inv]; rfl
  | _=>exact ft h'
 | str _=>rw [r.str_inv]; cases e with
  | non=>rw [q.non_inv]; rfl
  | bl _=>rw [q.bl_inv]; rfl
  | int _=>rw [q.int_inv]; rfl
  | str _=>rw [q.str_inv]; exact Zn4 _ _
  | _=>exact ft h'
 | _=>exact ft h
theorem Zj9 {K:PySem.W.Frag} {H:Hp} {ι:List Addr} {d:D} {v:V} (r:Rep K H ι d v) (h:Zbx d = true):∀ {ds:List D} {vs:List V},Zn K H ι ds vs → ds.all Zbx = true → vs.all Zea = true ∧ inV v vs = ds.any fun y=>deq y d
 | [],_,q,_=>by rw [q.nil_inv]; exact ⟨rfl,rfl⟩
 | e :: ds,_,q,hd=>by
  obtain ⟨w,ws,rfl,r1,r2⟩:=q.cons_inv
  rw [List.all_cons,Bool.and_eq_true] at hd
  obtain ⟨h1,h2⟩:=Zj9 r h r2 hd.2
  refine ⟨by rw [List.all_cons,ZiH r1 hd.1,h1]; rfl,?_⟩
  unfold inV at h2 ⊢
  rw [List.any_cons,List.any_cons,h2,ZnN r1 r hd.1 h]
inductive InK (a b:D) (k:Bool):Prop
 | tup (ys:List D):b = .tup ys → (ys.any fun y=>deq y a) = k → Zbx a = true → ys.all Zbx = true → InK a b k
 | str (c:Nat) (y:List Nat):a = .str [c] → b = .str y → decide (c ∈ y) = k → InK a b k
theorem inK {a b:D} {k:Bool} (h:inD a b = some k):InK a b k:=by
 cases b with
 | tup ys=>exact have w:=Zjz h; .tup ys rfl w.1 w.2.1 w.2.2
 | str y=>
  cases a with
  | str z=>cases z with
   | nil=>exact nsm h
   | cons c z=>cases z with
    | nil=>exact .str c y rfl rfl (Option.some.inj h)
    | cons _ _=>exact nsm h
  | _=>exact nsm h
 | _=>exact nsm h
theorem ZpJ {K:PySem.W.Frag} {H:Hp} {ι:List Addr} {Q:VK} {a:D} {ys:List D} {x y:V} (n:Bool) (ra:Rep K H ι a x) (rb:Rep K H ι (.tup ys) y) (fa:Zbx a = true) (fs:ys.all Zbx = true) (q:Q (.bl (if n then !(ys.any fun y=>deq y a) else ys.any fun y=>deq y a)) H):rIn K n x y H Q:=by
 obtain ⟨p,vs,e,s,r⟩:=rb.tup_inv
 obtain ⟨h1,h2⟩:=Zj9 ra fa r fs
 exact ⟨p,vs,e,.inr s,ZiH ra fa,h1,by rw [h2]; exact q⟩
theorem Ztt (hu:X.A.units + 80 < cLine):OpR X (compareOp .In) (r2 X.K ZkA):=OpR.imp (OpR.or Zr3 ZkM) fun x y H Q zz1=>by
 obtain ⟨ι,M,a,b,S,ra,rb,h⟩:=zz1
 unfold ZkA at h
 cases q:inD a b with
 | none=>rw [q] at h; exact h.elim
 | some k=>
  rw [q] at h
  rcases inK q with ⟨ys,eb,ek,fa,fs⟩ | ⟨c,z,ea,eb,ek⟩
  ·rw [eb] at rb
   rw [← ek] at h
   exact .inr (ZpJ false ra rb fa fs (Zo.ok h S Rep.bl))
  ·rw [ea] at ra
   rw [eb] at rb
   rw [← ek] at h
   exact .inl ⟨ι,M,_,_,S,ra,rb,h⟩
theorem ZmW (x:List Nat) (n:Nat) (a:List Nat):(List.replicate n x.toArray).foldl (· ++ ·) a.toArray = (a ++ (List.replicate n x).flatten).toArray:=by
 induction n generalizing a with
 | zero=>simp
 | succ n ih=>
  rw [List.replicate_succ,List.foldl_cons,List.replicate_succ,List.flatten_cons]
  have:=ih (a ++ x)
  simp only [List.append_toArray] at this ⊢
  rw [this]
  simp
theorem Zp7 (x:List Nat) (k:Int):Txt.mul (⟨x.toArray⟩:Str) k = ⟨(List.replicate k.toNat x).flatten.toArray⟩:=by
 unfold Txt.mul
 split
 ·rename_i h
  have:k.toNat = 0:=Nat.le_antisymm (Nat.le_of_eq (Int.toNat_of_nonpos (iN [] [_] 1 235446417 T1 h))) (Nat.zero_le _)
  rw [this]; rfl
 ·split
  ·rename_i h1 h2
   simp only [Bool.or_eq_true,beq_iff_eq,Str.length,List.size_toArray] at h2
   rcases h2 with h2 | h2
   ·subst h2; simp
   ·have:x = []:=List.eq_nil_of_length_eq_zero h2
    subst this
    simp
  ·have:=ZmW x k.toNat []
   rw [List.nil_append] at this
   exact congrArg Str.mk this
theorem Zn.repl {K:PySem.W.Frag} {H:Hp} {ι:List Addr} {ds:List D} {vs:List V} (r:Zn K H ι ds vs):∀ k:Nat,Zn K H ι (List.replicate k ds).flatten (List.replicate k vs).flatten
 | 0=>Zn.nil
 | k + 1=>by rw [List.replicate_succ,List.replicate_succ,List.flatten_cons,List.flatten_cons]; exact r.append (Zn.repl r k)
theorem ZeH:OpR X (binaryOp .Mult) (r2 X.K Zbr):=by
 have hs:OpR X (binaryOp .Mult) (fun x y H Q=>∃ (z:List Nat) (k:Int),x = .str ⟨z.toArray⟩ ∧ y = .int k ∧ z.length * k.toNat ≤ 1000000 ∧ k < 1000000 ∧ -1000000 < k ∧ Q (.str ⟨(List.replicate k.toNat z).flatten.toArray⟩) H):=by
  intro pins s σ H x y v u Q I rx ry h
  obtain ⟨z,k,rfl,rfl,h1,h2,h3,q⟩:=h
  obtain ⟨t,rfl⟩:=rx
  obtain ⟨t',rfl⟩:=ry
  refine SB.mul ⟨?_,fun h4 h5=>?_,fun h4 h5=>?_⟩ fun t'' tk=>?_
  ·simp; omega
  ·simp only [Str.length,List.size_toArray]
   simp at h4 h5
   have hk:2 ≤ k:=by
    simp only [Str.length,List.size_toArray] at h5
    omega
   have e:(k.toNat:Int) = k:=Int.le_antisymm (Int.le_of_eq (Int.toNat_of_nonneg (iN [] [_] 1 3892452225 T1 hk))) ((Int.self_le_toNat _))
   have hm:(z.length:Int) * k ≤ 1000000:=by
    have h1':((z.length * k.toNat:Nat):Int) ≤ 1000000:=Int.ofNat_le.mpr h1
    rw [Int.natCast_mul,e] at h1'
    exact h1'
   have hd:(z.length:Int) ≤ 9223372036854775807 / k:=Int.le_ediv_of_mul_le (iN [] [_] 1 3909229441 T1 hk) (by omega)
   show ¬ ((z.length:Int) > (2 ^ 63 - 1) / k)
   have e3:((2:Int) ^ 63 - 1) = 9223372036854775807:=by decide
   rw [e3]
   exact fun z=>iN [_] [_] 2 6599352549521 T1 z hd
  ·unfold Builtin.Str.tooLong
   simp only [Str.length,List.size_toArray,decide_eq_false_iff_not]
   have hsz:(1000000:Nat) ≤ sizeLine:=Zbk
   exact fun z=>lB 3 0x6f42405b1010f42405b011011 T1 z hsz h1
  ·rw [Zp7]
   exact ⟨.str _,H,I.tok _,⟨_,rfl⟩,q⟩
 refine OpR.imp (OpR.or Zpc (OpR.or hs ZpD)) fun x y H Q zz1=>?_
 obtain ⟨ι,M,a,b,S,ra,rb,h⟩:=zz1
 cases a with
 | int i=>cases b with
  | int j=>
   obtain ⟨hm,h⟩:=Zel h
   refine .inl ⟨i,j,ra.int_inv,rb.int_inv,?_,Zo.ok h S Rep.int⟩
   simp only [ZfN,Bool.or_eq_true,Bool.and_eq_true,decide_eq_true_eq] at hm
   exact hm
  | _=>exact h.elim
 | str z=>cases b with
  | int k=>
   obtain ⟨hz,h⟩:=Zel h
   exact .inr (.inl ⟨z,k,ra.str_inv,rb.int_inv,hz.1,hz.2.1,hz.2.2,Zo.ok h S Rep.str⟩)
  | _=>exact h.elim
 | ref n=>cases b with
  | int k=>
   have h:Zo X.K H ι Q (onL M[n]? fun x=>@ite _ (x.length * k.toNat ≤ SZ ∧ k < 1000000 ∧ -1000000 < k) (Classical.propDecidable _) (alloc (.lst (List.replicate k.toNat x).flatten) M) .bad):=h
   obtain ⟨z,hn,h⟩:=Zki h
   obtain ⟨hz,h⟩:=Zel h
   obtain ⟨p,hp,e'⟩:=ra.ref_inv
   obtain ⟨vs,e,r⟩:=S.obj n _ p hn hp
   refine .inr (.inr ⟨p,k,vs,e',rb.int_inv,e,?_,?_,by rw [r.length]; exact Nat.le_trans hz.1 Zbk,fun q hq=>?_⟩)
   ·exact Int.le_trans (by decide) (Int.le_of_lt hz.2.2)
   ·exact Int.lt_of_lt_of_le hz.2.1 (by decide)
   obtain ⟨x2,S2,r2⟩:=S.lst hq (Zn.repl r k.toNat)
   exact h _ _ _ x2 S2 r2
  | _=>exact h.elim
 | _=>cases b <;> exact h.elim
theorem Zky (n d:Nat) (hd:d ≤ n) (o:Option Int):(match o with | none=>(d:Int) | some i=>max 0 (min (if i < 0 then i + (n:Int) else i) (n:Int))) = ((sIx n d o:Nat):Int):=by
 cases o with
 | none=>rfl
 | some v=>
  show max 0 (min (if v < 0 then v + (n:Int) else v) (n:Int)) = (((if v < 0 then (v + (n:Int)).toNat else min v.toNat n):Nat):Int)
  by_cases h:v < 0
  ·rw [if_pos h,if_pos h]; exact clC v n h
  ·rw [if_neg h,if_neg h]; exact clD v n h
theorem Zfk (lo hi:Option Int) (n:Nat):Builtin.Str.strSliceIndices lo hi 1 n = (List.range (sIx n n hi - sIx n 0 lo)).map (fun k=>sIx n 0 lo + k):=by
 have e1:=Zky n 0 (Nat.zero_le _) lo
 have e2:=Zky n n (Nat.le_refl _) hi
 have key:Builtin.Str.strSliceIndices lo hi 1 n = sliceRange ((sIx n 0 lo:Nat):Int) ((sIx n n hi:Nat):Int) 1:=by
  rw [← e1,← e2]
  simp only [Builtin.Str.strSliceIndices,show ((1:Int) > 0) = True from by simp,if_true]
  cases lo <;> cases hi <;> rfl
 rw [key]
 generalize sIx n 0 lo = a
 generalize sIx n n hi = b
 simp only [sliceRange,show ((1:Int) > 0) = True from by simp,if_true]
 by_cases hlt:(a:Int) < b
 ·have e3:(((b:Int) - a + 1 - 1) / 1).toNat = b - a:=by first | exact Nat.le_antisymm (iN [_,_,_,_] [_] 3 0x230038a112c001aa1808fcf001d81 T1 (Int.mul_ediv_self_le (by decide)) (sbA _ _) (Int.toNat_of_nonneg (iN [_,_] [_] 2 0xe8a001dcaa0818fcf91180891 T1 hlt (Int.lt_mul_ediv_self_add (by decide))))) (iN [_,_,_,_] [_] 3 0x230013c2128081a001dcaa1808fcf91 T1 (Int.lt_mul_ediv_self_add (by decide)) (Int.self_le_toNat _) (Nat.sub_add_cancel (iN [_,_] [] 1 4296542353 T1 hlt))) | (simp; done) | (simp; omega)
  simp only [hlt,if_true,e3]
  refine List.map_congr_left fun k _=>?_
  exact Nat.le_antisymm (iN [_,_,_] [] 1 0x21c002801d18c08a1 T1 (Int.toNat_of_nonneg (iN [_,_] [] 0 103109659880 T1))) (iN [_,_,_] [] 1 0x210c0281801d08c81 T1 (Int.self_le_toNat _))
 ·have:b - a = 0:=Nat.le_antisymm (Nat.le_of_eq (Nat.sub_eq_zero_of_le (iN [_,_] [] 1 270010577 T1 hlt))) (Nat.zero_le _)
  simp [hlt,this]
theorem Zha (n d:Nat) (hd:d ≤ n) (o:Option Int):sIx n d o ≤ n:=by
 cases o with
 | none=>exact hd
 | some v=>simp only [sIx]; split <;> omega
theorem ZjU (z:List Nat) (lo hi:Option Int) (l u:Option (Int × Tok)) (hl:l.map (·.1) = lo) (hu:u.map (·.1) = hi):
  (if ((1:Int) == 1 && (slicePicked ⟨z.toArray⟩ l u none).length == (⟨z.toArray⟩:Str).length) = true then (⟨z.toArray⟩:Str) else ⟨((slicePicked ⟨z.toArray⟩ l u none).filterMap ((⟨z.toArray⟩:Str).cps[·]?)).toArray⟩) = ⟨(cutD z lo hi).toArray⟩:=by
 have e0:slicePicked ⟨z.toArray⟩ l u none = (List.range (sIx z.length z.length hi - sIx z.length 0 lo)).map (fun k=>sIx z.length 0 lo + k):=by
  unfold slicePicked
  rw [hl,hu]
  simp only [Str.length,List.size_toArray]
  exact Zfk lo hi z.length
 have hb:=Zha z.length z.length (Nat.le_refl _) hi
 rw [e0]
 have pick:((List.range (sIx z.length z.length hi - sIx z.length 0 lo)).map (fun k=>sIx z.length 0 lo + k)).filterMap ((⟨z.toArray⟩:Str).cps[·]?) = cutD z lo hi:=by
  unfold cutD
  by_cases hab:sIx z.length 0 lo ≤ sIx z.length z.length hi
  ·have h:=StrLaws.picks z (sIx z.length z.length hi - sIx z.length 0 lo) (sIx z.length 0 lo) (lD 2 82120338080600065 T1 hb (Nat.sub_add_cancel hab))
   simpa using h
  ·have:sIx z.length z.length hi - sIx z.length 0 lo = 0:=Nat.le_antisymm (Nat.le_of_eq (Nat.sub_eq_zero_of_le (lB 1 1052737 T1 hab))) (Nat.zero_le _)
   rw [this]
   simp
 rw [pick]
 split
 ·rename_i hc
  simp only [List.length_map,List.length_range,Str.length,List.size_toArray,Bool.and_eq_true,beq_iff_eq] at hc
  have hc2:=hc.2
  have h0:sIx z.length 0 lo = 0 ∨ z.length = 0:=by omega
  have:cutD z lo hi = z:=by
   unfold cutD
   rcases h0 with h0 | h0
   ·rw [h0,List.drop_zero,List.take_of_length_le (by exact lD 3 0x3102001e3c2011031 T1 hc2 (sbA _ _) (Nat.sub_le _ _))]
   ·have:z = []:=List.eq_nil_of_length_eq_zero h0
    subst this
    simp
  rw [this]
 ·rfl
theorem Zqa:SlR X (fun x lo hi H Q=>∃ z:List Nat,x = .str ⟨z.toArray⟩ ∧ z.length ≤ SZ ∧ Q (.str ⟨(cutD z lo hi).toArray⟩) H):=by
 intro pins s σ H x v vl vu lo hi sl Q I rx hs pl pu h
 obtain ⟨z,rfl,hz,q⟩:=h
 obtain ⟨t,rfl⟩:=rx
 have part:∀ {v:Value} {o:Option Int},IsPart v o → ∃ p:Option (Int × Tok),v = partValue p ∧ p.map (·.1) = o:=by
  intro v o h
  cases h with
  | none=>exact ⟨none,rfl,rfl⟩
  | int i t=>exact ⟨some (i,t),rfl,rfl⟩
 obtain ⟨l,rfl,hl⟩:=part pl
 obtain ⟨u,rfl,hu⟩:=part pu
 refine ⟨"str",_,PySem.F.slot_str_getitem.lookup,typeIs_str _ _ _,?_⟩
 refine wpAny_getItem_str_slice (l:=l) (u:=u) (st:=none) hs rfl ?_
 unfold sliceMade
 refine post_val_or_made (fun _=>?_) fun t' k=>?_
 ·show ((slicePicked ⟨z.toArray⟩ l u none).filterMap ((⟨z.toArray⟩:Str).cps[·]?)).toArray.size ≤ sizeLine
  rw [List.size_toArray]
  refine Nat.le_trans (List.length_filterMap_le _ _) ?_
  show (Builtin.Str.strSliceIndices (l.map (·.1)) (u.map (·.1)) 1 (⟨z.toArray⟩:Str).length).length ≤ sizeLine
  rw [Zfk]
  simp only [List.length_map,List.length_range,Str.length,List.size_toArray]
  have:=Zha z.length z.length (Nat.le_refl _) (u.map (·.1))
  have:=Zbk
  omega
 ·have e:=ZjU z lo hi l u hl hu
  have e':(if (((none:Option (Int × Tok)).map (·.1)).getD 1 == 1 && (slicePicked ⟨z.toArray⟩ l u none).length == (⟨z.toArray⟩:Str).length) = true then (⟨z.toArray⟩:Str) else ⟨((slicePicked ⟨z.toArray⟩ l u none).filterMap ((⟨z.toArray⟩:Str).cps[·]?)).toArray⟩) = ⟨(cutD z lo hi).toArray⟩:=e
  rw [e']
  exact ⟨.str _,H,I.tok _,⟨_,rfl⟩,q⟩
theorem Zen {prog:Program} {w:World} {A:Around} {E:Value → Shared → Prop} {s:Shared} {t sl:Addr} {items:Array Value} {vl vu:Value} {lo hi:Option Int} {Q:Value → Shared → Prop} (ht:IsTup s.heap t items) (hs:s.heap.IsSliceOf sl vl vu .none) (pl:IsPart vl lo) (pu:IsPart vu hi)
  (hw:HT.sIx items.size 0 lo = 0 ∧ HT.sIx items.size items.size hi = items.size) (h:Q (.ref t) s):wpAny (model prog w) A (getItem (.ref t) (.ref sl)) Q E s:=by
 obtain ⟨os,hos,hcs,hds⟩:=id hs
 have hTs:s.TypeIs (.ref sl) "slice":=⟨os,hos,hcs⟩
 unfold getItem
 try with_reducible refine wpAny_holding ?_
 first | refine wpAny_bind (wpAny_pure ?_) | skip
 refine wpAny_bind (wpAny_sequenceKey ht.typeIs (by decide) ?_)
 refine wpAny_bind (wpAny_callSpecial?_slot (name:=Str.ofString "__getitem__") ht.typeIs PyProof.Rows.slot_tuple_getitem
  (wpAny_call_entry PyProof.Rows.slot_tuple_getitem ht.typeIs entry_tuple_getitem ?_ (args_tuple_getitem _ _)))
 show wpAny _ _ (Builtin.Tuple.tupleItemsOf (.ref t) >>= _) _ _ s
 refine wpAny_bind (tupleItemsOf_ ht ?_)
 refine wpAny_bind (wpAny_typeOf hTs ?_)
 rw [if_pos (by decide)]
 refine wpAny_bind (HT.sliceApplied_gen hs pl pu ?_)
 have hyes:(((HT.sIx items.size 0 lo:Nat):Int) == 0 && (1:Int) == 1 && (HT.sIx items.size items.size hi - HT.sIx items.size 0 lo) == items.size) = true:=by
  rw [hw.1,hw.2]; simp
 show wpAny _ _ (if (((HT.sIx items.size 0 lo:Nat):Int) == 0 && (1:Int) == 1 && (HT.sIx items.size items.size hi - HT.sIx items.size 0 lo) == items.size) = true then _ else _) _ _ s
 rw [if_pos hyes]
 unfold Builtin.Tuple.tupleIsExact
 refine wpAny_bind (wpAny_bind (wpAny_typeOf ht.typeIs (wpAny_pure ?_)))
 rw [if_pos (by decide)]
 exact wpAny_bind (wpAny_rule (wpAny_pure ⟨_,rfl,wpAny_pure h⟩))
theorem ZoD:SlR X (fun x lo hi H Q=>∃ a xs,x = .ref a ∧ SqT X.K H a xs ∧ (HT.sIx xs.length 0 lo = 0 ∧ HT.sIx xs.length xs.length hi = xs.length) ∧ Q (.ref a) H):=by
 intro pins s σ H x v vl vu lo hi sl Q I rx hs pl pu h
 obtain ⟨a,xs,rfl,hx,hw,q⟩:=h
 cases rx
 obtain ⟨its,r,ht,hz⟩:=I.tuple hx
 have hlen:its.toArray.size = xs.length:=by rw [List.size_toArray]; exact r.length.symm
 refine ⟨"tuple",_,PyProof.Rows.slot_tuple_getitem.lookup,ht.typeIs,?_⟩
 exact Zen ht hs pl pu (by rw [hlen]; exact hw) ⟨.ref a,H,I,rfl,q⟩
theorem Zr4:SlR X (rS X.K):=SlR.imp (SlR.or (SlR.or ZqT ZoD) (SlR.or Zn1 Zqa)) fun x lo hi H Q zz1=>by
 obtain ⟨ι,M,a,S,ra,h⟩:=zz1
 have ex:∀ n d o,HT.sIx n d o = sIx n d o:=fun n d o=>by cases o <;> rfl
 cases a with
 | tup ds=>
  simp only [ZfA,ZfE,Zfu,Zfv] at h
  obtain ⟨p,vs,rfl,s,r⟩:=ra.tup_inv
  by_cases hw:sIx ds.length 0 lo = 0 ∧ sIx ds.length ds.length hi = ds.length
  ·refine .inl (.inr ⟨p,vs,rfl,s,by rw [ex,ex,r.length]; exact hw,?_⟩)
   have e:cutD ds lo hi = ds:=by unfold cutD; rw [hw.1,hw.2]; simp
   rw [e] at h
   exact Zo.ok h S (Rep.tup s r)
  ·refine .inl (.inl ⟨p,vs,rfl,s,by rw [ex,ex,r.length]; exact hw,fun q hq=>?_⟩)
   obtain ⟨x2,S2,r2⟩:=S.tupl hq (Zjn r lo hi)
   exact h _ _ _ x2 S2 r2
 | scr ds=>
  simp only [ZfA,ZfE,Zfu,Zfv] at h
  obtain ⟨p,vs,rfl,s,r⟩:=ra.scr_inv
  refine .inr (.inl ⟨p,vs,rfl,s.sq,fun q hq=>?_⟩)
  obtain ⟨x2,S2,r2⟩:=S.lst hq (Zjn r lo hi)
  exact h _ _ _ x2 S2 r2
 | str z=>
  simp only [ZfA,ZfE,Zfu,Zfv] at h
  split at h
  ·rename_i hz
   exact .inr (.inr ⟨z,ra.str_inv,hz,Zo.ok h S Rep.str⟩)
  ·exact h.elim
 | ref n=>
  simp only [ZfA,ZfE,Zfu,Zfv] at h
  cases hn:M[n]? with
  | none=>simp only [hn] at h; exact h.elim
  | some o=>
   cases o with
   | dct _=>simp only [hn] at h; exact h.elim
   | fdct _=>simp only [hn] at h; exact h.elim
   | ins _ _=>simp only [hn] at h; exact h.elim
   | lst ds=>
    simp only [hn] at h
    obtain ⟨p,hp,rfl⟩:=ra.ref_inv
    obtain ⟨vs,e,r⟩:=S.obj n _ p hn hp
    refine .inr (.inl ⟨p,vs,rfl,SqL.of e,fun q hq=>?_⟩)
    obtain ⟨x2,S2,r2⟩:=S.lst hq (Zjn r lo hi)
    exact h _ _ _ x2 S2 r2
 | _=>exact h.elim
theorem Zfx {K:PySem.W.Frag} {H:Hp} {ι:List Addr} {d:D} {xs:List V} (r:Zn K H ι [d] xs):∃ x,xs = [x] ∧ Rep K H ι d x:=by
 obtain ⟨v,ws,rfl,r1,r2⟩:=r.cons_inv
 have:=r2.nil_inv
 subst this
 exact ⟨v,rfl,r1⟩
theorem ZcB:ZaQ X (.builtin "len") (rB X.K Zbe):=ZaQ.imp ZmH fun xs H Q zz1=>by
 obtain ⟨ι,M,ds,S,rd,h⟩:=zz1
 cases ds with
 | nil=>exact h.elim
 | cons d ds=>
  cases ds with
  | cons _ _=>cases d <;> exact h.elim
  | nil=>
   obtain ⟨x,rfl,r⟩:=Zfx rd
   cases d with
   | tup z=>
    obtain ⟨p,vs,rfl,s,r'⟩:=r.tup_inv
    exact ⟨_,vs.length,rfl,.inr ⟨vs,s,rfl⟩,by rw [r'.length]; exact Zo.ok h S Rep.int⟩
   | scr z=>
    obtain ⟨p,vs,rfl,s,r'⟩:=r.scr_inv
    exact ⟨_,vs.length,rfl,.inl ⟨vs,s.sq,rfl⟩,by rw [r'.length]; exact Zo.ok h S Rep.int⟩
   | str z=>
    simp only [ZfF,ZfC,Zg9,Zdh] at h
    split at h
    ·rename_i hz
     have:=r.str_inv
     subst this
     refine ⟨_,z.length,rfl,⟨?_,?_⟩,Zo.ok h S Rep.int⟩
     ·show z.toArray.size ≤ sizeLine
      rw [List.size_toArray]
      exact Nat.le_trans hz Zbk
     ·show z.length = z.toArray.size
      rw [List.size_toArray]
    ·exact h.elim
   | ref n=>
    cases hn:M[n]? with
    | none=>rw [Zdh,hn] at h; exact h.elim
    | some o=>
     cases o with
     | dct _=>rw [Zdh,hn] at h; exact h.elim
     | fdct _=>rw [Zdh,hn] at h; exact h.elim
     | ins _ _=>rw [Zdh,hn] at h; exact h.elim
     | lst z=>
      simp only [ZfF,ZfC,Zg9,Zdh,hn] at h
      obtain ⟨p,hp,rfl⟩:=r.ref_inv
      obtain ⟨vs,e,r'⟩:=S.obj n _ p hn hp
      exact ⟨_,vs.length,rfl,.inl ⟨vs,SqL.of e,rfl⟩,by rw [r'.length]; exact Zo.ok h S Rep.int⟩
   | _=>exact h.elim
theorem Zew:ZaQ X (.type "tuple") (rB X.K Zcm):=ZaQ.imp Zgz fun xs H Q zz1=>by
 obtain ⟨ι,M,ds,S,rd,h⟩:=zz1
 cases ds with
 | nil=>exact h.elim
 | cons d ds=>
  cases ds with
  | cons _ _=>cases d <;> exact h.elim
  | nil=>
   obtain ⟨x,rfl,r⟩:=Zfx rd
   cases d with
   | tup z=>
    obtain ⟨p,vs,rfl,s,r'⟩:=r.tup_inv
    exact ⟨p,vs,rfl,.inr ⟨s,Zo.ok h S (Rep.tup s r')⟩⟩
   | scr z=>
    obtain ⟨p,vs,rfl,s,r'⟩:=r.scr_inv
    refine ⟨p,vs,rfl,.inl ⟨s.sq,fun q hq=>?_⟩⟩
    obtain ⟨x2,S2,r2⟩:=S.tupl hq r'
    exact h _ _ _ x2 S2 r2
   | ref n=>
    cases hn:M[n]? with
    | none=>rw [ZcA,hn] at h; exact h.elim
    | some o=>
     cases o with
     | dct _=>rw [ZcA,hn] at h; exact h.elim
     | fdct _=>rw [ZcA,hn] at h; exact h.elim
     | ins _ _=>rw [ZcA,hn] at h; exact h.elim
     | lst z=>
      simp only [ZgX,Zg3,ZcA,hn] at h
      obtain ⟨p,hp,rfl⟩:=r.ref_inv
      obtain ⟨vs,e,r'⟩:=S.obj n _ p hn hp
      refine ⟨p,vs,rfl,.inl ⟨SqL.of e,fun q hq=>?_⟩⟩
      obtain ⟨x2,S2,r2⟩:=S.tupl hq r'
      exact h _ _ _ x2 S2 r2
   | _=>exact h.elim
end
end L3
namespace L3
open PySem PySem.Spec PyProof.Rows L2
theorem ZbG:bootBuiltins "len" = some (.builtin "len"):=by decide +kernel
theorem Zgs:bootBuiltins "isinstance" = some (.builtin "isinstance"):=by decide +kernel
theorem Zqu:bootBuiltins "int" = some (.type "int"):=by decide +kernel
theorem Zdu:bootBuiltins "tuple" = some (.type "tuple"):=by decide +kernel
theorem ZnK:bootBuiltins "dict" = some (.type "dict"):=by decide +kernel
section
variable {X:Cx} {a:Expr} {pos p p2:Pos} {f:E3}
noncomputable def tyN:Ty3 → String
 | .int=>"int" | .bool=>"bool" | .str=>"str" | .list=>"list" | .tuple=>"tuple"
theorem Zeg (K:PySem.W.Frag) (t:String) (T:Ty3) (ht:t ∈ ["NoneType","bool","int","str","list","tuple","dict"]):
  PySem.W.kitOne K (.type t) (.type (tyN T)) = some (t == tyN T || (t == "bool" && tyN T == "int")):=by
 simp only [List.mem_cons,List.not_mem_nil,or_false] at ht
 rcases ht with rfl | rfl | rfl | rfl | rfl | rfl | rfl <;> cases T <;> kernel_rfl
theorem Zsf (T:Ty3):bootBuiltins (tyN T) = some (.type (tyN T)):=by cases T <;> decide +kernel
noncomputable def Zr6 (T:Ty3) (o:Option MO):Option Bool:=match o with
 | some (.lst _)=>some (T == .list)
 | some (.dct _)=>some false
 | some (.fdct _)=>none
 | some (.ins _ _)=>none
 | none=>none
theorem ZoK {pins:List (Addr × Obj)} {σ:St} {H:Hp} {s:Shared} {ι:List Addr} {M:Store} {A:Around} {E:Value → Shared → Prop} {Q:Value → Shared → Prop} {T:Ty3} {d:D} {x:V} {u:Value} {b:Bool} (I:Inv X pins σ H s) (S:Zz X.K H ι M) (r:Rep X.K H ι d x) (ru:RelV x u)
  (e:ZfO T d M = some b) (h:∀ tk,Q (.bool b) { s with toks:=tk }):wpAny (model X.prog X.w) A (call (.builtin "isinstance") [u,.type (tyN T)]) Q E s:=by
 cases d with
 | non=>
  rw [r.non_inv] at ru
  exact Zcy I ru .non ((Zeg X.K "NoneType" T (by decide)).trans (Eq.trans (by cases T <;> rfl) e)) h
 | bl c=>
  rw [r.bl_inv] at ru
  exact Zcy I ru (.bl c) ((Zeg X.K "bool" T (by decide)).trans (Eq.trans (by cases T <;> rfl) e)) h
 | int i=>
  rw [r.int_inv] at ru
  exact Zcy I ru (.int i) ((Zeg X.K "int" T (by decide)).trans (Eq.trans (by cases T <;> rfl) e)) h
 | str z=>
  rw [r.str_inv] at ru
  exact Zcy I ru (.str _) ((Zeg X.K "str" T (by decide)).trans (Eq.trans (by cases T <;> rfl) e)) h
 | tup ds=>
  obtain ⟨p,vs,its,_,eu,⟨o,h1,h2,_⟩,_⟩:=Zfh I r ru
  rw [eu]
  exact PySem.W.kia_one PySem.W.kitx_tuple I.kIn ⟨o,h1,h2⟩ ((Zeg X.K "tuple" T (by decide)).trans (Eq.trans (by cases T <;> rfl) e)) (fun z=>nomatch z) h
 | scr ds=>exact nsm e
 | ref n=>
  have e:Zr6 T M[n]? = some b:=e
  obtain ⟨a,ha,ex⟩:=r.ref_inv
  rw [ex] at ru
  cases hn:M[n]? with
  | none=>rw [hn] at e; exact nsm e
  | some o=>
   rw [hn] at e
   cases o with
   | lst z=>
    obtain ⟨vs,ev,_⟩:=S.obj n _ a hn ha
    exact Zcy I ru (.lst ev) ((Zeg X.K "list" T (by decide)).trans (Eq.trans (by cases T <;> rfl) e)) h
   | dct z=>
    obtain ⟨vs,ev,_⟩:=S.obj n _ a hn ha
    exact Zcy I ru (.dK ev) ((Zeg X.K "dict" T (by decide)).trans (Eq.trans (by cases T <;> rfl) e)) h
   | fdct z=>exact nsm e
   | ins _ _=>exact nsm e
theorem ZeS (T:Ty3) {x:Str} (hm:X.mg "isinstance" = none) (hm2:X.mg x = none) (h:C3 X a f) (hx:x = (Str.ofString (tyN T)):=by rfl) (hg:Gl X "isinstance":=by rfl) (hg2:Gl X x:=by rfl)
  (hn:x ≠ "__name__":=by decide) (hd:(x == ("__debug__":Str)) = false:=by decide)
  (hs:starEach (a :: [.Name x p2]) X.env = (false,eval a X.env) :: starEach [.Name x p2] X.env:=by rfl) (hs2:starEach (.Name x p2 :: []) X.env = (false,eval (.Name x p2) X.env) :: starEach [] X.env:=by rfl)
  (hpl:(backTo pos (starEach [.Name x p2] X.env)).any (·.1) = false:=by rfl):C3 X (.Call (.Name "isinstance" p) [a,.Name x p2] [] pos) (e1 (Za3 T) f):=by
 subst hx
 have hc:ZaQ X (.builtin "isinstance") (fun xs H Q=>∃ ι M d x,xs = [x,.ty (tyN T)] ∧ Zz X.K H ι M ∧ Rep X.K H ι d x ∧ Zo X.K H ι Q (Za3 T d M)):=by
  intro pins s σ H xs us Q I r q
  obtain ⟨ι,M,d,x,rfl,S,rd,q⟩:=q
  obtain ⟨u,w',rfl,ru,rw'⟩:=vals2 r
  cases rw'
  unfold Za3 at q
  cases e:ZfO T d M with
  | none=>rw [e] at q; exact q.elim
  | some b=>
   rw [e] at q
   exact ZoK I S rd ru e fun tk=>⟨.bl b,H,I.tok _,rfl,Zo.ok q S Rep.bl⟩
 refine (ZiD hc hg hm Zgs (Zhq h (Zhq (Zn6 hg2 hm2 (Zsf T) (v:=.ty (tyN T)) rfl hn hd) ZlP hs2) hs) (by decide) (by decide) hs hpl).imp fun σ H Q zz1=>?_
 obtain ⟨ι,M,env,S,E,h⟩:=zz1
 obtain ⟨d,M1,e1,h⟩:=Zo.bind h
 refine ⟨ι,M,env,S,E,?_⟩
 rw [e1]
 intro v H1 ι1 x1 S1 r1
 exact ⟨ι1,M1,d,v,rfl,S1,r1,h.up x1⟩
end
noncomputable def ZoY (outer:List (Str × NameKind)) (N:List Str) (scope:Scope) (N':List Str) (own:Nat):Bool:=
 (scope.names.all fun y=>decide (y.2 ≠ .cell) && (decide (y.2 ≠ .free) || decide (outer.lookup y.1 = some .cell) || decide (outer.lookup y.1 = some .free)) && (decide (y.2 ≠ .local) || decide (scope.names.lookup y.1 = some .local))) &&
  decide (N'.length = N.length + own) && ZmQ N N' scope
theorem Zc8 {X:Cx} {scope:Scope} {N':List Str} {own:Nat} (hk:scope.kind = .function) (h:ZoY X.env.scope.names X.N scope N' own = true):Zga X scope N' own:=by
 simp only [ZoY,Bool.and_eq_true,decide_eq_true_eq,List.all_eq_true,Bool.or_eq_true] at h
 obtain ⟨⟨h1,h2⟩,h3⟩:=h
 refine ⟨hk,fun y hy=>(h1 y hy).1.1,fun y hy e=>?_,fun y hy e=>?_,h2,h3⟩
 ·rcases (h1 y hy).1.2 with (q | q) | q
  ·exact absurd e q
  ·exact .inl q
  ·exact .inr q
 ·rcases (h1 y hy).2 with q | q
  ·exact absurd e q
  ·exact q
theorem ZbA {K:PySem.W.Frag} {h:Heap} {mg:Str → Option Value} (KX:K.In h) (G:h.Ns mainGlobals mg) {x:Str} {st:Stmt} {f:Addr} {oc:Value} {od an:Option Addr} {osl:Array (Option Value)} {dV kV doc pm cdv ct:Value}
  (a:PySem.W.nsIn K mainGlobals x = some (some (.ref f))) (l:K.lookup f = some ⟨oc,od,.func (PySem.W.fnOf x x (Zad st) (Zx st) (Zh st) dV kV doc pm an cdv ct),osl⟩)
  (c:PySem.W.codeIn K cdv x = true) (k:PySem.W.keepIn K (.ref f) = true) {ps:List Str} (b:Binds K (PySem.W.fnOf x x (Zad st) (Zx st) (Zh st) dV kV doc pm an cdv ct) ps []):Zbs K mg x st ps:=⟨f,_,ZjC l c k,PySem.W.mg_of KX G a,b⟩
theorem Zso {l:PySem.W.OpenLaw} {k:Nat} {q:Program} {loose:List Str} {XP:(Str → Option Value) → Heap → Prop} {YP:World → Heap → Prop} {d:DefRec} {K:Params → PySem.W.Frag} {F:F3} (hn:l.most = some 63) (hdf:d.params.defaults = []) (hr:Za4 k callerA)
  (hY:∀ (w:World) (h:Heap),YP w h → (K w.params).In h)
  (G:∀ (w:World) (mg:Str → Option Value) (fa:Addr) (h:Heap),(K w.params).In h → h.Ns mainGlobals mg → mg d.name = some (.ref fa) →
   ∃ fd:FuncData,(∀ (s:Shared) (u:Value),BindsTo s fd ⟨[u],[]⟩ [("script",u)]) ∧ ∀ base:Heap,(K w.params).In base → base.Ns mainGlobals mg → Zcu l.prog w (K w.params) mg base CX0 k fa fd ["script"] (sp3 (K w.params) 1 F))
  (hF:∀ ns:List Int,ns.length ≤ 63 → ∃ M',F [.scr (ns.map D.int)] [] = .ok (.bl true) M'):
  PySem.W.WalkO q loose XP YP l.row.toRowW d [] (fun f vs=>PySem.call f vs):=
 L2.Zj3 (n:=63) (k:=k) (x:="script") (CX:=fun _=>CX0) (sp:=fun w=>sp3 (K w.params) 1 F) hn (by decide) hdf hr hY G (fun w H a ns hl hO hS=>by
  obtain ⟨M',e⟩:=hF ns hl
  refine ⟨[],[],[.scr (ns.map D.int)],⟨rfl,List.nodup_nil,fun n o a h=>by simp at h⟩,Zn.cons ?_ Zn.nil,rfl,?_⟩
  ·refine ⟨a,ns.map V.int,rfl,?_,Zn.ints ns⟩
   rcases hS with (h | ⟨o,h⟩) | h
   ·rcases hO a with z | ⟨ob,xs,z⟩
    ·rw [h] at z; cases z
    ·rw [h] at z; cases z
   ·exact .inl ⟨o,h⟩
   ·exact .inr h
  ·rw [e]
   exact fun v H' ι' _ _ r=>r.bl_inv) fun _ _ _ _ _ z=>z
end L3
namespace L3
open PySem PySem.Spec PyProof.Rows L2
theorem Zjp {a b:Zak} (h:dk a = dk b):a = b:=by
 cases a with
 | inl i=>cases b with
  | inl j=>simp only [dk,Sum.inl.injEq] at h; rw [h]
  | inr y=>simp [dk] at h
 | inr x=>cases b with
  | inl j=>simp [dk] at h
  | inr y=>
   simp only [dk,Sum.inr.injEq,Str.mk.injEq] at h
   have:=congrArg Array.toList h
   simp at this
   rw [this]
theorem ZeF {K:PySem.W.Frag} {H:Hp} {ι:List Addr} {b:D} {y:V} {k:Zak} (h:Zcj b = some k) (r:Rep K H ι b y):y = kV (dk k):=by
 cases b with
 | int i=>cases h; exact r.int_inv
 | str x=>cases h; exact r.str_inv
 | _=>exact nsm h
section
variable {K:PySem.W.Frag} {H H':Hp} {ι ι':List Addr} {M:Store} {p:Addr}
theorem KvR.nil:KvR K H ι [] []:=⟨rfl,Zn.nil⟩
theorem KvR.cons {k:Zak} {d:D} {v:V} {kvs:List (Zak × D)} {ws:List (Key × V)} (h:Rep K H ι d v) (r:KvR K H ι kvs ws):KvR K H ι ((k,d) :: kvs) ((dk k,v) :: ws):=
 ⟨by simp [r.1],Zn.cons h r.2⟩
theorem KvR.cons_inv {q:Zak × D} {kvs:List (Zak × D)} {ws:List (Key × V)} (r:KvR K H ι (q :: kvs) ws):∃ v ws',ws = (dk q.1,v) :: ws' ∧ Rep K H ι q.2 v ∧ KvR K H ι kvs ws':=by
 obtain ⟨h1,h2⟩:=r
 cases ws with
 | nil=>simp at h1
 | cons w ws=>
  simp only [List.map_cons,List.cons.injEq] at h1
  obtain ⟨v,us,e,r1,r2⟩:=Zn.cons_inv h2
  simp only [List.map_cons,List.cons.injEq] at e
  exact ⟨w.2,ws,by rw [← h1.1],e.1 ▸ r1,h1.2,e.2 ▸ r2⟩
theorem KvR.nil_inv {ws:List (Key × V)} (r:KvR K H ι [] ws):ws = []:=by simpa using r.1
theorem KvR.mono {kvs:List (Zak × D)} {ws:List (Key × V)} (r:KvR K H ι kvs ws) (e:Ext K H ι H' ι'):KvR K H' ι' kvs ws:=⟨r.1,r.2.mono e⟩
theorem KvR.length {kvs:List (Zak × D)} {ws:List (Key × V)} (r:KvR K H ι kvs ws):ws.length = kvs.length:=by
 have:=congrArg List.length r.1
 simpa using this
theorem KvR.val {kvs:List (Zak × D)} (k:Zak):∀ {ws:List (Key × V)},KvR K H ι kvs ws → match ZaY kvs k with | some d=>∃ v,ZdH ws (dk k) = some v ∧ Rep K H ι d v | none=>ZdH ws (dk k) = none:=by
 induction kvs with
 | nil=>intro ws r; rw [r.nil_inv]; exact Zms
 | cons q kvs ih=>
  intro ws r
  obtain ⟨v,ws',rfl,r1,r2⟩:=r.cons_inv
  obtain ⟨k',d⟩:=q
  unfold ZaY
  by_cases e:k' = k
  ·rw [if_pos e]
   exact ⟨v,ZeK (by rw [e]),r1⟩
  ·rw [if_neg e,ZeE fun z=>e (Zjp z)]
   exact ih r2
theorem KvR.append {k1 k2:List (Zak × D)} {w1 w2:List (Key × V)} (a:KvR K H ι k1 w1) (b:KvR K H ι k2 w2):KvR K H ι (k1 ++ k2) (w1 ++ w2):=
 ⟨by simp [a.1,b.1],by rw [List.map_append,List.map_append]; exact a.2.append b.2⟩
theorem KvR.any {kvs:List (Zak × D)} (k:Zak):∀ {ws:List (Key × V)},KvR K H ι kvs ws → (ws.any fun kv=>decide (kv.1 = dk k)) = (kvs.any fun q=>decide (q.1 = k)):=by
 induction kvs with
 | nil=>intro ws r; rw [r.nil_inv]; rfl
 | cons q kvs ih=>
  intro ws r
  obtain ⟨v,ws',rfl,r1,r2⟩:=r.cons_inv
  rw [List.any_cons,List.any_cons,ih r2]
  congr 1
  by_cases e:q.1 = k
  ·simp [e]
  ·simp [e]; exact fun z=>e (Zjp z)
theorem KvR.put {kvs:List (Zak × D)} {k:Zak} {d:D} {v:V} {ws:List (Key × V)} (r:KvR K H ι kvs ws) (rd:Rep K H ι d v):KvR K H ι (putD k d kvs) (putK ws (dk k) v):=by
 unfold putD putK
 rw [r.any k]
 by_cases c:(kvs.any fun q=>decide (q.1 = k)) = true
 ·rw [if_pos c,if_pos c]
  clear c
  induction kvs generalizing ws with
  | nil=>rw [r.nil_inv]; exact KvR.nil
  | cons q kvs ih=>
   obtain ⟨u,ws',rfl,r1,r2⟩:=r.cons_inv
   rw [List.map_cons,List.map_cons]
   by_cases e:q.1 = k
   ·rw [if_pos e,if_pos (by rw [e])]; exact KvR.cons rd (ih r2)
   ·rw [if_neg e,if_neg fun z=>e (Zjp z)]; exact KvR.cons r1 (ih r2)
 ·rw [if_neg c,if_neg c]
  exact r.append (KvR.cons rd KvR.nil)
theorem KvR.merge {l:List (Zak × D)}:∀ {kvs:List (Zak × D)} {ws us:List (Key × V)},KvR K H ι l us → KvR K H ι kvs ws → KvR K H ι (l.foldl (fun acc p=>putD p.1 p.2 acc) kvs) (Zdy ws us):=by
 induction l with
 | nil=>intro kvs ws us r r0; rw [r.nil_inv]; exact r0
 | cons q l ih=>
  intro kvs ws us r r0
  obtain ⟨v,us',rfl,r1,r2⟩:=r.cons_inv
  exact ih (ws:=putK ws (dk q.1) v) (us:=us') r2 (r0.put r1)
theorem Zz.dct (S:Zz K H ι M) (hp:H p = none) {kvs:List (Zak × D)} {ws:List (Key × V)} (r:KvR K H ι kvs ws):Ext K H ι (upd H p (.dK ws)) (ι ++ [p]) ∧ Zz K (upd H p (.dK ws)) (ι ++ [p]) (M ++ [.dct kvs]) ∧ Rep K (upd H p (.dK ws)) (ι ++ [p]) (.ref M.length) (.ref p):=by
 have e:Ext K H ι (upd H p (.dK ws)) (ι ++ [p]):=Loose.extA (.inl hp)
 exact ⟨e,S.new hp ⟨ws,Zbw,r.mono e⟩,Rep.ref (by rw [← S.len]; simp)⟩
theorem Zz.setd (S:Zz K H ι M) {n:Nat} (l0:Loose H p) (hn:ι[n]? = some p) {kvs:List (Zak × D)} {ws:List (Key × V)} (r:KvR K H ι kvs ws):Ext K H ι (upd H p (.dK ws)) ι ∧ Zz K (upd H p (.dK ws)) ι (M.set n (.dct kvs)):=by
 have e:Ext K H ι (upd H p (.dK ws)) ι:=Loose.ext l0
 exact ⟨e,S.put l0 hn ⟨ws,Zbw,r.mono e⟩⟩
end
section
variable {X:Cx} {a b c e o:Expr} {es:List Expr} {pos p pos' apos cpos:Pos} {f g h:E3} {gl:EL3}
def ZjR (K:PySem.W.Frag) (H:Hp) (ι:List Addr) (Q:List (V × V) → Hp → Prop) (r:R3 (List (Zak × D))):Prop:=match r with
 | .ok l M'=>∀ ws H' ι',Ext K H ι H' ι' → Zz K H' ι' M' → KvR K H' ι' l ws → Q (ws.map fun kv=>(kV kv.1,kv.2)) H'
 | _=>False
theorem ZjR.bind {K:PySem.W.Frag} {H:Hp} {ι:List Addr} {α:Type} {Q:List (V × V) → Hp → Prop} {r:R3 α} {k:α → Store → R3 (List (Zak × D))} (h:ZjR K H ι Q (r.bind k)):∃ a M,r = .ok a M ∧ ZjR K H ι Q (k a M):=by
 cases r with
 | ok a M=>exact ⟨a,M,rfl,h⟩
 | exc x M=>exact h.elim
 | bad=>exact h.elim
def CD (X:Cx) (pos:Pos) (ks:List (Option Expr)) (vs:List Expr) (r:EP3):Prop:=
 ∃ trs,PPs X pos ks vs trs ∧ ∀ σ H Q,(∃ ι M env,Zz X.K H ι M ∧ ZaO X.K H ι env σ ∧ ZjR X.K H ι Q (r env M)) → ZhE trs σ H Q
theorem Zpf:CD X pos [] [] Zi2:=⟨[],Zog,fun σ H Q ⟨ι,M,env,S,E,h⟩=>h [] H ι Ext.refl S KvR.nil⟩
theorem ZhK {k v:Expr} {ks:List (Option Expr)} {vs:List Expr} {r:EP3} (hk:C3 X k f) (hv:C3 X v g) (hr:CD X pos ks vs r):CD X pos (some k :: ks) (v :: vs) (Zb1 f g r):=by
 obtain ⟨trs,hp,ht⟩:=hr
 refine ⟨_,Znk hk hv hp,fun σ H Q ⟨ι,M,env,S,E,h⟩=>?_⟩
 obtain ⟨a,M1,e1,h⟩:=ZjR.bind h
 obtain ⟨b,M2,e2,h⟩:=ZjR.bind h
 refine ⟨ι,M,env,S,E,?_⟩
 rw [e1]
 intro x H1 ι1 x1 S1 r1
 refine ⟨ι1,M1,env,S1,E.mono x1,?_⟩
 rw [e2]
 intro y H2 ι2 x2 S2 r2
 cases hkd:Zcj a with
 | none=>simp only [hkd] at h; exact h.elim
 | some kk=>
  simp only [hkd] at h
  obtain ⟨l,M3,e3,h⟩:=ZjR.bind h
  refine ht σ H2 _ ⟨ι2,M2,env,S2,(E.mono x1).mono x2,?_⟩
  rw [e3]
  intro ws H3 ι3 x3 S3 r3
  have:=h ((dk kk,y) :: ws) H3 ι3 ((x1.trans x2).trans x3) S3 (KvR.cons (r2.mono x3) r3)
  rw [List.map_cons,← ZeF hkd r1] at this
  exact this
theorem Zsz {ks:List (Option Expr)} {vs:List Expr} {r:EP3} (hr:CD X pos ks vs r) (hall:ks.all (·.isSome) = true:=by rfl) (hl:ks.length = vs.length:=by rfl) (h0:ks ≠ []:=by exact List.cons_ne_nil _ _) (h15:ks.length ≤ 15:=by decide):C3 X (.Dict ks vs pos) (Zl3 r):=by
 obtain ⟨trs,hp,ht⟩:=hr
 refine (ZnJ hp hall hl h0 h15).imp fun σ H Q ⟨ι,M,env,S,E,h⟩ p hp=>?_
 obtain ⟨x1,S1,r1⟩:=S.dct hp KvR.nil
 obtain ⟨l,M1,e1,h⟩:=Zo.bind h
 refine ht σ _ _ ⟨_,_,env,S1,E.mono x1,?_⟩
 rw [e1]
 intro ws H2 ι2 x2 S2 r2
 have hip:ι2[M.length]? = some p:=x2.pre _ _ (by rw [← S.len]; simp)
 split at h
 ·rename_i hm
  obtain ⟨ws0,hw0,k0⟩:=S2.obj _ _ _ hm hip
  rw [k0.nil_inv] at hw0
  split at h
  ·rename_i h15'
   refine ⟨hw0,ws,rfl,by rw [r2.length]; exact h15',?_⟩
   obtain ⟨x3,S3⟩:=S2.setd (.inr (.inr (.inl ⟨_,hw0⟩))) hip (KvR.merge (kvs:=[]) (ws:=[]) r2 KvR.nil)
   exact h _ _ _ ((x1.trans x2).trans x3) S3 (Rep.ref hip)
  ·exact h.elim
 ·exact h.elim
theorem Zlz:C3 X (.Dict [] [] pos) Znf:=Zl4.imp fun σ H Q ⟨ι,M,env,S,E,h⟩ p hp=>by
 obtain ⟨x1,S1,r1⟩:=S.dct hp KvR.nil
 exact h _ _ _ x1 S1 r1
theorem hu1 (hu:X.A.units + 80 < cLine):X.A.units + 1 < cLine:=lB 1 7331617893452817 T1 hu
theorem Zi4 {K:PySem.W.Frag} {H:Hp} {ι:List Addr} {M:Store} (S:Zz K H ι M) {n:Nat} {kvs:List (Zak × D)} {a:Addr} (h:ZbT M[n]? = some kvs) (ha:ι[n]? = some a):∃ ws,Rd H a (.dK ws) ∧ KvR K H ι kvs ws:=by
 cases hn:M[n]? with
 | none=>simp [hn] at h
 | some ob=>
  cases ob with
  | lst _=>simp [hn] at h
  | dct k=>
   have e:k = kvs:=by simpa [hn] using h
   subst e
   obtain ⟨ws,hw,kr⟩:=S.obj n _ a hn ha
   exact ⟨ws,.inl hw,kr⟩
  | fdct k=>
   have e:k = kvs:=by simpa [hn] using h
   subst e
   obtain ⟨ws,⟨o,hw⟩,kr⟩:=S.obj n _ a hn ha
   exact ⟨ws,.inr ⟨o,hw⟩,kr⟩
  | ins _ _=>simp [hn] at h
theorem Zqw (hu:X.A.units + 80 < cLine) (ha:C3 X a f) (hb:C3 X b g) (hs:Zpa b:=by exact fun _ _=>rfl):C3 X (.Subscript a b pos) (e2 Zgj f g):=(Zn3 (hu1 hu) ha hb hs).imp fun σ H Q zz1=>by
 obtain ⟨ι,M,env,S,E,h⟩:=zz1
 obtain ⟨d,M1,e1,h⟩:=Zo.bind h
 obtain ⟨k,M2,e2,h⟩:=Zo.bind h
 refine ⟨ι,M,env,S,E,?_⟩
 rw [e1]
 intro x H1 ι1 x1 S1 r1
 refine ⟨ι1,M1,env,S1,E.mono x1,?_⟩
 rw [e2]
 intro y H2 ι2 x2 S2 r2
 cases d with
 | ref n=>
  simp only [Zg5] at h
  cases hn:ZbT M2[n]? with
  | none=>simp only [hn] at h; exact h.elim
  | some kvs=>
   cases hk:Zcj k with
   | none=>simp only [hn,hk] at h; exact h.elim
   | some kk=>
    simp only [hn,hk] at h
    cases hv:ZaY kvs kk with
    | none=>simp only [hv] at h; exact h.elim
    | some w=>
     simp only [hv] at h
     obtain ⟨ad,ha,rfl⟩:=(r1.mono x2).ref_inv
     obtain ⟨ws,hw,kr⟩:=Zi4 S2 hn ha
     have hv':=kr.val kk
     rw [hv] at hv'
     obtain ⟨v,ev,rv⟩:=hv'
     refine ⟨ad,v,rfl,?_,h v H2 ι2 (x1.trans x2) S2 rv⟩
     rw [ZeF hk r2,← ev]
     exact .inl ⟨ws,dk kk,hw,rfl,rfl⟩
 | _=>exact h.elim
theorem Zj1 {K:PySem.W.Frag} {op:D → D → D → Store → R3 D} {H:Hp} {ι:List Addr} {Q:VK} {env:Zv} {M:Store} (h':Zo K H ι Q (e3 op f g h env M)):
  ∃ a M1 b M2 c M3,f env M = .ok a M1 ∧ g env M1 = .ok b M2 ∧ h env M2 = .ok c M3 ∧ Zo K H ι Q (op a b c M3):=by
 obtain ⟨a,M1,e1,h'⟩:=Zo.bind h'
 obtain ⟨b,M2,e2,h'⟩:=Zo.bind h'
 obtain ⟨c,M3,e3,h'⟩:=Zo.bind h'
 exact ⟨a,M1,b,M2,c,M3,e1,e2,e3,h'⟩
theorem Zf0 {K:PySem.W.Frag} {H:Hp} {ι:List Addr} {D':Ends} {env:Zv} {M:Store} {σ:St} (E:ZaO K H ι env σ) (h':ZdX K H ι D' (Zaa f env M)):Zo K H ι (fun _ H'=>D'.nx σ H') (f env M):=by
 unfold Zaa at h'
 cases q:f env M with
 | ok d M1=>rw [q] at h'; exact fun v H1 ι1 x1 S1 r1=>h' σ H1 ι1 x1 S1 (E.mono x1)
 | exc x M1=>rw [q] at h'; exact h'.elim
 | bad=>rw [q] at h'; exact h'.elim
theorem Zhm {i:Expr} (hu:X.A.units + 80 < cLine) (ho:C3 X o f) (hi:C3 X i g) (hv:C3 X e h) (hs:swapsWith e (some (.Subscript o i pos')) pos.line X.env = pure false:=by rfl):CS X (.Assign [.Subscript o i pos'] e pos) (ZiM f g h):=(Zoq (hu1 hu) ho hi hv hs).imp fun D' σ H zz1=>by
 obtain ⟨ι,M,env,S,E,hh⟩:=zz1
 obtain ⟨d,M1,b,M2,k,M3,e1,e2,e3,hh⟩:=Zj1 (Zf0 E hh)
 refine ⟨ι,M,env,S,E,?_⟩
 rw [e1]
 intro v H1 ι1 x1 S1 r1
 refine ⟨ι1,M1,env,S1,E.mono x1,?_⟩
 rw [e2]
 intro x H2 ι2 x2 S2 r2
 refine ⟨ι2,M2,env,S2,(E.mono x1).mono x2,?_⟩
 rw [e3]
 intro y H3 ι3 x3 S3 r3
 cases b with
 | ref n=>
  simp only [ZeY] at hh
  cases hn:M3[n]? with
  | none=>simp only [hn] at hh; exact hh.elim
  | some ob=>
   cases ob with
   | lst _=>simp only [hn] at hh; exact hh.elim
   | fdct _=>simp only [hn] at hh; exact hh.elim
   | ins _ _=>simp only [hn] at hh; exact hh.elim
   | dct kvs=>
    cases hk:Zcj k with
    | none=>simp only [hn,hk] at hh; exact hh.elim
    | some kk=>
     simp only [hn,hk] at hh
     split at hh
     ·rename_i hz
      obtain ⟨ad,ha,rfl⟩:=(r2.mono x3).ref_inv
      obtain ⟨ws,hw,kr⟩:=S3.obj n _ ad hn ha
      obtain ⟨x4,S4⟩:=S3.setd (.inr (.inr (.inl ⟨_,hw⟩))) ha (kr.put (k:=kk) ((r1.mono x2).mono x3))
      refine ⟨ad,_,rfl,?_,hh .non _ _ (((x1.trans x2).trans x3).trans x4) S4 Rep.non⟩
      rw [ZeF hk r3]
      exact Zjq.k hw (by rw [kr.length]; exact Nat.lt_of_lt_of_le hz Zbk)
     ·exact hh.elim
 | _=>exact hh.elim
theorem ZfG {i:Expr} {spos:Pos} (ho:C3 X o f) (hi:C3 X i g) (hv:C3 X e h)
  (ha:∀ v,assign (.Subscript o i spos) X.env v = (do
   let ov ← holding [v] (eval o X.env)
   let iv ← holding [v,ov] (eval i X.env)
   standAt spos
   holding [v,ov,iv] (setItem ov iv v)
   release [v,ov,iv] []):=by intro _; rfl)
  (hs:swapsWithSole [.Subscript o i spos] e pos.line X.env = pure false:=by rfl) (hw:swappedStores [.Subscript o i spos] e X.env = pure none:=by rfl)
  (h1:(assignEach [.Subscript o i spos] X.env).map (·.2) = [assign (.Subscript o i spos) X.env]:=by rfl):CS X (.Assign [.Subscript o i spos] e pos) (Zd2 f g h):=(ZpP hv (Zqh ho hi set_list ha) hs hw h1).imp fun D' σ H zz1=>by
 obtain ⟨ι,M,env,S,E,hh⟩:=zz1
 obtain ⟨d,M1,b,M2,k,M3,e1,e2,e3,hh⟩:=Zj1 (Zf0 E hh)
 refine ⟨ι,M,env,S,E,?_⟩
 rw [e1]
 intro v H1 ι1 x1 S1 r1
 refine ⟨ι1,M1,env,S1,E.mono x1,?_⟩
 rw [e2]
 intro x H2 ι2 x2 S2 r2
 refine ⟨ι2,M2,env,S2,(E.mono x1).mono x2,?_⟩
 rw [e3]
 intro y H3 ι3 x3 S3 r3
 cases b with
 | ref n=>
  cases k with
  | int j=>
   simp only [ZgO] at hh
   cases hn:M3[n]? with
   | none=>simp only [hn] at hh; exact hh.elim
   | some ob=>
    cases ob with
    | dct _=>simp only [hn] at hh; exact hh.elim
    | fdct _=>simp only [hn] at hh; exact hh.elim
    | ins _ _=>simp only [hn] at hh; exact hh.elim
    | lst xs=>
     simp only [hn] at hh
     cases hj:ixD xs.length j with
     | none=>simp only [hj] at hh; exact hh.elim
     | some q=>
      simp only [hj] at hh
      obtain ⟨ad,ha,rfl⟩:=(r2.mono x3).ref_inv
      obtain ⟨ws,hw,kr⟩:=S3.obj n _ ad hn ha
      obtain ⟨x4,S4⟩:=S3.setl (.inr (.inl ⟨_,hw⟩)) ha (kr.set q ((r1.mono x2).mono x3))
      exact ⟨ad,ws,j,q,rfl,r3.int_inv,hw,by rw [kr.length]; exact hj,hh .non _ _ (((x1.trans x2).trans x3).trans x4) S4 Rep.non⟩
  | _=>exact hh.elim
 | _=>exact hh.elim
end
end L3
namespace L3
open PySem PySem.Spec PyProof.Rows L2
section
variable {X:Cx} {a b c e o:Expr} {es:List Expr} {pos p apos cpos:Pos} {f g h:E3} {gl:EL3}
theorem ZrD:ZaQ X (.type "int") (rB X.K Zl5):=ZaQ.imp Zlr fun xs H Q zz1=>by
 obtain ⟨ι,M,ds,S,rd,h⟩:=zz1
 cases ds with
 | nil=>exact h.elim
 | cons d ds=>
  cases ds with
  | cons _ _=>cases d <;> exact h.elim
  | nil=>
   obtain ⟨x,rfl,r⟩:=Zfx rd
   cases d with
   | int i=>exact .inl ⟨i,by rw [r.int_inv],Zo.ok h S Rep.int⟩
   | bl k=>exact .inr ⟨k,by rw [r.bl_inv],Zo.ok h S Rep.int⟩
   | _=>exact h.elim
theorem ZqI {K:PySem.W.Frag} {H:Hp} {ι:List Addr} {M:Store} (S:Zz K H ι M) {n:Nat} {a:Addr} (h:(ZbT M[n]?).isSome = true) (ha:ι[n]? = some a):IsD H a:=by
 cases hn:ZbT M[n]? with
 | none=>rw [hn] at h; cases h
 | some kvs=>
  obtain ⟨ws,hw,_⟩:=Zi4 S hn ha
  exact .inl ⟨ws,hw⟩
theorem ZmL {K:PySem.W.Frag} {H:Hp} {ι:List Addr} {kvs:List (Zak × D)} {ws:List (Key × V)} {d:D} {z:V} (kr:KvR K H ι kvs ws) (k:Zak) (rd:Rep K H ι d z):Rep K H ι ((ZaY kvs k).getD d) ((ZdH ws (dk k)).getD z):=by
 have hv:=kr.val k
 cases q:ZaY kvs k with
 | none=>rw [q] at hv; rw [hv]; exact rd
 | some w=>
  rw [q] at hv
  obtain ⟨v,ev,rv⟩:=hv
  rw [ev]; exact rv
theorem Zhh {e':Expr} (hu:X.A.units + 80 < cLine) (ho:C3 X o f) (he:C3 X e g) (he':C3 X e' h) (m:M2 X o "get" apos e e' cpos:=by exact ⟨rfl,rfl,rfl,rfl⟩):C3 X (.Call (.Attribute o "get" apos) [e,e'] [] cpos) (Zaw Zgr ZfP f (Zb g (Zb h Zi))):=(Zl1 (hu1 hu) ho he he' m).imp fun σ H Q zz1=>by
 obtain ⟨ι,M,env,S,E,hh⟩:=zz1
 obtain ⟨d,M1,e1,hh⟩:=Zo.bind hh
 refine ⟨ι,M,env,S,E,?_⟩
 rw [e1]
 intro x H1 ι1 x1 S1 r1
 cases d with
 | ref n=>
  by_cases hD:(ZbT M1[n]?).isSome = true
  ·simp only [ZdM,hD,if_true] at hh
   obtain ⟨ad,ha,rfl⟩:=r1.ref_inv
   obtain ⟨ds,M2,e2,hh⟩:=Zo.bind hh
   refine ⟨ad,rfl,ZqI S1 hD ha,ι1,M1,env,S1,E.mono x1,?_⟩
   cases q:g env M1 with
   | bad=>simp [q] at e2
   | exc x' M'=>simp [q] at e2
   | ok b M2'=>
    cases q':h env M2' with
    | bad=>simp [q,q'] at e2
    | exc x' M'=>simp [q,q'] at e2
    | ok b' M3'=>
     simp only [Zb,q,q',R3.bind,Zi] at e2
     cases e2
     intro y H2 ι2 x2 S2 r2
     refine ⟨ι2,M2',env,S2,(E.mono x1).mono x2,?_⟩
     rw [q']
     intro z H3 ι3 x3 S3 r3
     simp only [Zoe,ZeN] at hh
     cases hn:ZbT M2[n]? with
     | none=>simp only [hn] at hh; exact hh.elim
     | some kvs=>
      cases hk:Zcj b with
      | none=>simp only [hn,hk] at hh; exact hh.elim
      | some kk=>
       simp only [hn,hk] at hh
       obtain ⟨ws,hw,kr⟩:=Zi4 S3 hn (x3.pre _ _ (x2.pre _ _ ha))
       refine ⟨ZdH ws (dk kk),.inl ⟨ws,dk kk,hw,ZeF hk r2,rfl⟩,hh _ H3 ι3 ((x1.trans x2).trans x3) S3 (ZmL kr kk r3)⟩
  ·simp only [ZdM,hD] at hh; exact hh.elim
 | _=>exact hh.elim
end
section
variable {X:Cx} {pins:List (Addr × Obj)} {σ:St} {H:Hp} {s:Shared} {d:Addr} {ws:List (Key × V)} {ob:Obj}
end
section
variable {X:Cx} {tg e elt:Expr} {ifs:List Expr} {pos:Pos} {f fe:E3} {ts:List E3} {g:G3} {scope:Scope} {N':List Str} {own:Nat}
end
end L3
namespace L3
open PySem PySem.Spec PyProof.Rows L2
section
variable {prog:Program} {w:World} {A:Around} {E:Value → Shared → Prop} {s:Shared}
theorem ZdF:entryFor table "dict.update.loop" = some Builtin.«dict.update.loop»:=entryFor_of_tree (by kernel_rfl)
theorem ZbY:plainId "dict.update.loop" = true:=by decide +kernel
end
section
variable {X:Cx}
theorem ZjI {d:D} {x:List D} {l:List (Zak × D)} (h:ZcI (d :: x) = some l):∃ a b k l',d = .tup [a,b] ∧ Zcj a = some k ∧ ZcI x = some l' ∧ l = (k,b) :: l':=by
 cases d with
 | tup ds=>cases ds with
  | nil=>exact nsm h
  | cons a ds=>cases ds with
   | nil=>exact nsm h
   | cons b ds=>cases ds with
    | cons _ _=>exact nsm h
    | nil=>
     have h:(match Zcj a with | some k=>(ZcI x).map fun l=>(k,b) :: l | none=>none) = some l:=h
     cases hk:Zcj a with
     | none=>rw [hk] at h; exact nsm h
     | some k=>
      rw [hk] at h
      cases hx:ZcI x with
      | none=>rw [hx] at h; exact nsm h
      | some l'=>rw [hx] at h; exact ⟨a,b,k,l',rfl,hk,rfl,(Option.some.inj h).symm⟩
 | _=>exact nsm h
end
end L3
namespace L3
open PySem PySem.Spec PyProof.Rows L2
theorem ZeG {X:Cx} {sts:List Stmt}:CSs X sts ZhZ:=fun _ _ _ _ _ _ ⟨_,_,_,_,_,h⟩=>h.elim
end L3
namespace L3
open PySem PySem.Spec PyProof.Rows L2
section
variable {X:Cx} {o e:Expr} {es:List Expr} {apos cpos:Pos} {f:E3} {gl:EL3}
theorem Zn.erase {K:PySem.W.Frag} {H:Hp} {ι:List Addr}:∀ {ds:List D} {vs:List V} (i:Nat),Zn K H ι ds vs → Zn K H ι (ds.eraseIdx i) (vs.eraseIdx i)
 | [],_,_,h=>by rw [h.nil_inv]; exact Zn.nil
 | d :: ds,_,0,h=>by obtain ⟨v,us,rfl,r,t⟩:=h.cons_inv; exact t
 | d :: ds,_,i + 1,h=>by obtain ⟨v,us,rfl,r,t⟩:=h.cons_inv; exact Zn.cons r (t.erase i)
theorem Zn.dropLast {K:PySem.W.Frag} {H:Hp} {ι:List Addr} {ds:List D} {vs:List V} (r:Zn K H ι ds vs):Zn K H ι ds.dropLast vs.dropLast:=by
 rw [List.dropLast_eq_take,List.dropLast_eq_take,r.length]; exact r.take _
theorem Zr8:MtR X "list.pop" (rM X.K Zfq):=MtR.imp (r:=fun x xs H Q=>ZlK x xs H Q ∨ ZrR x xs H Q) (fun pins s σ H x xs v us Q I rx rs q=>q.elim (Zm3 pins s σ H x xs v us Q I rx rs) (Zqd pins s σ H x xs v us Q I rx rs)) fun x xs H Q zz1=>by
 obtain ⟨ι,M,a,ds,S,ra,rd,h⟩:=zz1
 cases a with
 | ref n=>
  cases ds with
  | nil=>
   simp only [Zj8,ZhH] at h
   cases hn:M[n]? with
   | none=>simp only [hn] at h; exact h.elim
   | some ob=>
    cases ob with
    | dct _=>simp only [hn] at h; exact h.elim
    | fdct _=>simp only [hn] at h; exact h.elim
    | ins _ _=>simp only [hn] at h; exact h.elim
    | lst z=>
     simp only [hn] at h
     cases hx:z[z.length - 1]? with
     | none=>simp only [hx] at h; exact h.elim
     | some d=>
      simp only [hx] at h
      obtain ⟨p,hp,rfl⟩:=ra.ref_inv
      have:=rd.nil_inv; subst this
      obtain ⟨vs,e,rv⟩:=S.obj n _ p hn hp
      obtain ⟨y,hy,ry⟩:=rv.get hx
      obtain ⟨x2,S2⟩:=S.setl (.inr (.inl ⟨_,e⟩)) hp rv.dropLast
      exact .inr ⟨p,vs,y,rfl,rfl,e,by rw [rv.length]; exact hy,h _ _ _ x2 S2 (ry.mono x2)⟩
  | cons d ds=>
   cases ds with
   | cons _ _=>cases d <;> exact h.elim
   | nil=>
    cases d with
    | int i=>
     simp only [Zj8,ZhH] at h
     cases hn:M[n]? with
     | none=>simp only [hn] at h; exact h.elim
     | some ob=>
      cases ob with
      | dct _=>simp only [hn] at h; exact h.elim
      | fdct _=>simp only [hn] at h; exact h.elim
      | ins _ _=>simp only [hn] at h; exact h.elim
      | lst z=>
       simp only [hn] at h
       by_cases hb:-1000000 ≤ i ∧ i ≤ 1000000
       ·rw [if_pos hb] at h
        cases hk:ixD z.length i with
        | none=>simp only [hk] at h; exact h.elim
        | some k=>
         simp only [hk] at h
         cases hx:z[k]? with
         | none=>simp only [hx] at h; exact h.elim
         | some d=>
          simp only [hx] at h
          obtain ⟨p,hp,rfl⟩:=ra.ref_inv
          obtain ⟨v,ws,rfl,r1,r2⟩:=rd.cons_inv
          have:=r2.nil_inv; subst this
          have:=r1.int_inv; subst this
          obtain ⟨vs,e,rv⟩:=S.obj n _ p hn hp
          obtain ⟨y,hy,ry⟩:=rv.get hx
          obtain ⟨x2,S2⟩:=S.setl (.inr (.inl ⟨_,e⟩)) hp (rv.erase k)
          obtain ⟨q1,q2,q3,q4⟩:=Zhc (n:=z.length) (i:=i) (j:=k) hk
          exact .inl ⟨p,vs,i,k,y,rfl,rfl,e,by omega,by omega,by rw [rv.length]; exact q1,hy,h _ _ _ x2 S2 (ry.mono x2)⟩
       ·rw [if_neg hb] at h; exact h.elim
    | _=>exact h.elim
 | _=>cases ds <;> exact h.elim
end
end L3
namespace L3
open PySem PySem.Spec PyProof.Rows L2
section
variable {X:Cx} {a b c e o:Expr} {es:List Expr} {pos p apos cpos:Pos} {f g h:E3} {gl:EL3}
theorem Zgt:ZaQ X (.type "int") (fun xs H Q=>∃ x n,xs = [.str x] ∧ intText? x = some n ∧ x.length ≤ 640 ∧ Q (.int n) H):=by
 intro pins s σ H xs us Q I r h
 obtain ⟨x,n,rfl,hn,hz,q⟩:=h
 obtain ⟨u,rfl,t,rfl⟩:=vals1 r
 exact PySem.W.KIN.call_text hn hz ⟨.int n,H,I.tok _,⟨_,rfl⟩,q⟩
theorem Zpr:ZaQ X (.type "int") (rB X.K Zd9):=ZaQ.imp (ZaQ.or ZrD Zgt) fun xs H Q zz1=>by
 obtain ⟨ι,M,ds,S,rd,h⟩:=zz1
 match ds,rd,h with
 | [.str x],rd,h=>
  obtain ⟨v,rfl,r⟩:=Zfx rd
  simp only [Zmy,ZlI] at h
  cases hn:PySem.intText? ⟨x.toArray⟩ with
  | none=>rw [hn] at h; exact h.elim
  | some n=>
   rw [hn] at h
   dsimp only at h
   split at h
   ·rename_i hz
    exact .inr ⟨_,n,by rw [r.str_inv],hn,by simpa [Str.length] using hz,Zo.ok h S Rep.int⟩
   ·exact h.elim
 | [],rd,h=>exact h.elim
 | [.int i],rd,h=>exact .inl ⟨ι,M,_,S,rd,h⟩
 | [.bl i],rd,h=>exact .inl ⟨ι,M,_,S,rd,h⟩
 | [.non],rd,h=>exact h.elim
 | [.tup _],rd,h=>exact h.elim
 | [.scr _],rd,h=>exact h.elim
 | [.ref _],rd,h=>exact h.elim
 | .str _ :: _ :: _,rd,h=>exact h.elim
 | .int _ :: _ :: _,rd,h=>exact h.elim
 | .bl _ :: _ :: _,rd,h=>exact h.elim
 | .non :: _ :: _,rd,h=>exact h.elim
 | .tup _ :: _ :: _,rd,h=>exact h.elim
 | .scr _ :: _ :: _,rd,h=>exact h.elim
 | .ref _ :: _ :: _,rd,h=>exact h.elim
end
end L3
namespace L3
open PySem PySem.Spec PyProof.Rows L2
section
variable {X:Cx} {tg e:Expr} {pos:Pos} {f:E3} {g:G3}
end
section
variable {X:Cx} {tg e elt:Expr} {ifs:List Expr} {pos:Pos} {f fe:E3} {ts:List E3} {g:G3} {scope:Scope} {N':List Str} {own:Nat}
end
def Zro (K:PySem.W.Frag) (H:Hp) (ι:List Addr) (it:ItL) (J:It):Prop:=∀ (i:Nat) H2 ι2 M2,Ext K H ι H2 ι2 → Zz K H2 ι2 M2 → Zcd it.lk M2 = true →
 (∀ d,it.items[i]? = some d → J.go i H2 ∧ ∀ x H3,J.yld i H2 x H3 → Ext K H2 ι2 H3 ι2 ∧ Zz K H3 ι2 M2 ∧ Rep K H3 ι2 d x) ∧ (i = it.items.length → J.stop i H2)
def ZiP (K:PySem.W.Frag) (H:Hp) (ι:List Addr) (R:It → Hp → Prop) (r:R3 ItL):Prop:=match r with
 | .ok it M'=>∀ J H' ι',Ext K H ι H' ι' → Zz K H' ι' M' → Zro K H' ι' it J → R J H'
 | _=>False
def tIL (K:PySem.W.Frag) (g:IL3):TI:=fun σ H R=>∃ ι M env,Zz K H ι M ∧ ZaO K H ι env σ ∧ ZiP K H ι R (g env M)
def CIL (X:Cx) (tg e:Expr) (g:IL3):Prop:=PI X tg e (tIL X.K g)
theorem ZiP.bind {K:PySem.W.Frag} {H:Hp} {ι:List Addr} {α:Type} {Q:It → Hp → Prop} {r:R3 α} {k:α → Store → R3 ItL} (h:ZiP K H ι Q (r.bind k)):∃ a M,r = .ok a M ∧ ZiP K H ι Q (k a M):=by
 cases r with
 | ok a M=>exact ⟨a,M,rfl,h⟩
 | exc x M=>exact h.elim
 | bad=>exact h.elim
section
variable {X:Cx} {tg:Expr} {pos:Pos}
theorem Znu {iter:Expr} {body:List Stmt} {i:IL3} {g:G3} {u:S3} (hxe:X.xe = fun _ _=>False) (hc:X.calm = true) (hi:CIL X tg iter i) (hg:CG X tg g) (hb:CSs X body u) (hs:∀ x,foldedSetIterable iter X.env x = pure x:=by intro _; rfl):
  CS X (.For tg iter body [] pos) (Ziq i g u):=(Zmu (by rw [hxe]; exact PassesOwn.never) hc hi hg hb hs).imp fun D σ H zz1=>by
 obtain ⟨ι,M,env,S,E,h⟩:=zz1
 unfold Ziq at h
 cases q:i env M with
 | exc x M1=>rw [q] at h; exact h.elim
 | bad=>rw [q] at h; exact h.elim
 | ok it M1=>
  rw [q] at h
  refine ⟨ι,M,env,S,E,?_⟩
  rw [q]
  intro J H1 ι1 x1 S1 ok
  refine ⟨fun i m σ2 H2=>m = it.items.length - i ∧ i ≤ it.items.length ∧ ∃ ι2 M2 env2,Ext X.K H1 ι1 H2 ι2 ∧ Zz X.K H2 ι2 M2 ∧ ZaO X.K H2 ι2 env2 σ2 ∧ ZdX X.K H2 ι2 D (Zda it.lk g u (it.items.drop i) env2 M2),
   ⟨_,rfl,Nat.zero_le _,ι1,M1,env,Ext.refl,S1,E.mono x1,ZdX.up x1 h⟩,?_⟩
  rintro i m σ2 H2 ⟨rfl,hi,ι2,M2,env2,x2,S2,E2,h2⟩
  by_cases hlt:i < it.items.length
  ·have hd:it.items[i]? = some it.items[i]:=by simp [hlt]
   rw [List.drop_eq_getElem_cons hlt] at h2
   first | rw [ZhU] at h2 | rw [ZhM] at h2
   by_cases lk:Zcd it.lk M2 = true
   ·rw [if_pos lk] at h2
    obtain ⟨go,yl⟩:=(ok i H2 ι2 M2 x2 S2 lk).1 _ hd
    cases eg:g it.items[i] env2 with
    | none=>rw [eg] at h2; exact h2.elim
    | some env3=>
     rw [eg] at h2
     refine .inr ⟨go,fun σ' H'=>∃ ι3 M3 env4,Ext X.K H2 ι2 H' ι3 ∧ Zz X.K H' ι3 M3 ∧ ZaO X.K H' ι3 env4 σ' ∧ ZdX X.K H' ι3 D (Zda it.lk g u (it.items.drop (i + 1)) env4 M3),
      fun σ' H' ⟨ι3,M3,env4,x3,S3,E3,h3⟩=>⟨it.items.length - (i + 1),lD 2 0x30113c2012a1c0c21 T1 (Nat.sub_add_cancel (lB 1 6991908881 T1 hlt)) (sbA _ _),rfl,hlt,ι3,M3,env4,x2.trans x3,S3,E3,h3⟩,fun x H' hy=>?_⟩
     obtain ⟨x7,S7,rx⟩:=yl x H' hy
     refine ⟨ι2,M2,env2,_,env3,S7,E2.mono x7,rx,eg,fun σ' E'=>⟨ι2,M2,env3,S7,E',?_⟩⟩
     have h2':=ZdX.up x7 h2
     cases qu:u env3 M2 with
     | nx e' M'=>simp only [qu] at h2'; exact fun σ' H' ι' x' S' E'=>⟨ι',M',e',x7.trans x',S',E',h2'.up x'⟩
     | ct e' M'=>simp only [qu] at h2'; exact fun σ' H' ι' x' S' E'=>⟨ι',M',e',x7.trans x',S',E',h2'.up x'⟩
     | bk e' M'=>simp only [qu] at h2'; exact h2'
     | rt d M'=>simp only [qu] at h2'; exact h2'
     | exc x' M'=>simp only [qu] at h2'; exact h2'.elim
     | bad=>simp only [qu] at h2'; exact h2'.elim
   ·rw [if_neg lk] at h2; exact h2.elim
  ·have e0:i = it.items.length:=Nat.le_antisymm hi (Nat.le_of_not_lt hlt)
   subst e0
   rw [List.drop_length] at h2
   first | rw [ZhU] at h2 | rw [ZhM] at h2
   by_cases lk:Zcd it.lk M2 = true
   ·rw [if_pos lk] at h2
    exact .inl ⟨(ok _ H2 ι2 M2 x2 S2 lk).2 rfl,h2 σ2 H2 ι2 Ext.refl S2 E2⟩
   ·rw [if_neg lk] at h2; exact h2.elim
end
theorem _root_.L2.Inv.turnedL {X:Cx} {pins:List (Addr × Obj)} {σ:St} {H:Hp} {s:Shared} {h':Heap} {t':Nat} {fp:List Addr} (I:Inv X pins σ H s) (k:∀ b o,b ∉ fp → s.heap.get? b = some o → h'.get? b = some o) (hf:∀ b ∈ fp,Zdz X pins H b):
  Inv X pins σ H { s with heap:=h',toks:=t' }:=by
 have nit:∀ b u,H b = some u → b ∉ fp:=fun b u e z=>by rw [(hf b z).1] at e; cases e
 refine I.step (g':=s.gens) (d':=s.drawn) (ch:=fp) (fun b hb=>⟨(hf b hb).2.2.2.1,(hf b hb).2.1,(hf b hb).2.2.2.2.1,(hf b hb).2.2.2.2.2⟩) (fun b o _ _ hc e _=>k b o hc e) (fun b o _ _ hc e _=>⟨o.slots,k b o hc e⟩) (fun _ _ _ _ n=>n)
  (fun b o hc e=>⟨o,k b o hc e⟩) (fun _ _ e=>e) (fun _ _ _ e=>e) (fun b ps e=>⟨#[],by rw [e]; simp⟩) (fun m hm=>?_) (fun b u e=>?_) I.bare
 ·obtain ⟨o,es,ep,ho,r⟩:=hm
  exact ⟨o,es,ep,k _ o (fun z=>(hf _ z).2.1 rfl) ho,r⟩
 ·refine (I.hok b u e).stay (fun c v hc q=>k c v ?_ q) (fun _ q=>q) fun _ _ q=>q
  rcases hc with z | z
  ·rw [z]; exact nit b u e
  ·exact nit c _ z
noncomputable def Ite (S:Hp → List V → Prop):It:=⟨fun i H=>∃ xs x,S H xs ∧ xs[i]? = some x,fun i H x H'=>∃ T y,x = .ref T ∧ H T = none ∧ H' = upd H T (.tup [.int i,y]) ∧ ∀ xs,S H xs → xs[i]? = some y,fun i H=>∃ xs,S H xs ∧ xs.length ≤ i⟩
theorem ZgV {X:Cx} {pins:List (Addr × Obj)} {σ:St} {H:Hp} {s:Shared} {h' h'':Heap} {e it:Addr} {i:Nat} {x:V} {u:Value} {tk tk':Nat} (I:Inv X pins σ H s) (hf:∀ b ∈ [e,it],Zdz X pins H b) (he:e < s.heap.objs.size) (hi:it < s.heap.objs.size) (ru:RelV x u)
  (hT:h'.get? s.heap.objs.size = some { cls:=.type "tuple",data:=.seq #[.int i tk,u] }) (hk:∀ b o,b ≠ e → b ≠ it → s.heap.get? b = some o → h'.get? b = some o) (hs:Heap.SameBut e h' h''):
  Inv X pins σ (upd H s.heap.objs.size (.tup [.int i,x])) { s with heap:=h'',toks:=tk' } ∧ ∀ b ∈ [e,it],upd H s.heap.objs.size (.tup [.int i,x]) b = none:=by
 have hn:∀ b ∈ [e,it],upd H s.heap.objs.size (.tup [.int i,x]) b = none:=fun b hb=>by
  have:b ≠ s.heap.objs.size:=by
   simp only [List.mem_cons,List.not_mem_nil,or_false] at hb
   rcases hb with rfl | rfl
   ·exact Nat.ne_of_lt he
   ·exact Nat.ne_of_lt hi
  rw [Zay this]; exact (hf b hb).1
 refine ⟨?_,hn⟩
 have I1:Inv X pins σ (upd H s.heap.objs.size (.tup [.int i,x])) { s with heap:=s.heap.push { cls:=.type "tuple",data:=.seq ([.int i tk,u]:List Value).toArray },toks:=s.toks }:=
  I.laid (t':=s.toks) (fun b o e=>Heap.get?_push_of_some _ e) (Nat.le_refl _) (show ZaV X.prog X.w _ _ _ (.tup [.int i,x]) from ⟨by rw [sizeLine_eq]; show 2 ≤ _; decide,[.int i tk,u],.cons ⟨tk,rfl⟩ (.cons ru .nil),ZcT.new _ _⟩)
 have I3:=I1.turnedL (t':=tk') (h':=h'') (fp:=[e,it]) (fun b o hb q=>by
  have hbe:b ≠ e:=fun z=>hb (by simp [z])
  have hbi:b ≠ it:=fun z=>hb (by simp [z])
  rcases Heap.get?_push_cases q with ⟨rfl,rfl⟩ | q
  ·exact (hs.2 _ (Nat.ne_of_gt he)).trans hT
  ·exact (hs.2 _ hbe).trans (hk b o hbe hbi q)) fun b hb=>⟨hn b hb,(hf b hb).2⟩
 exact I3
theorem ZjF {P:Program} {w:World} {K:PySem.W.Frag} {es:List Expr} {k:Nat} {pos:Pos} (a e it:Addr) (hne:e ≠ it):
  Turn P w K (.Tuple es k pos) (Ite fun H xs=>SqL K H a xs) [e,it] e (fun i h=>(∃ old,IsEnum h e it i old) ∧ h.IsListIter it a i) where
 mem:=by simp
 obj:=fun i h st b hb=>by
  obtain ⟨⟨old,he⟩,o,ho,c,d⟩:=st
  simp only [List.mem_cons,List.not_mem_nil,or_false] at hb
  rcases hb with rfl | rfl
  ·exact ⟨_,he,fun v z=>by cases z⟩
  ·exact ⟨o,ho,fun v z=>by rw [d] at z; cases z⟩
 keep:=fun i h h' st k=>by
  obtain ⟨⟨old,he⟩,hit⟩:=st
  exact ⟨⟨old,k e (by simp) _ he⟩,hit.at fun o q=>k it (by simp) o q⟩
 item:=by
  intro X hP hw hK hc i pins s σ H E I hf st hg
  subst hP hw hK
  obtain ⟨xs,x,hq,hx⟩:=hg
  obtain ⟨its,rv,p,hz⟩:=I.list hq
  obtain ⟨u,hu,ru⟩:=rv.get hx
  obtain ⟨⟨old,he⟩,hit⟩:=st
  have hel:=Heap.lt_size he
  have hil:it < s.heap.objs.size:=by obtain ⟨o,ho,_⟩:=id hit; exact Heap.lt_size ho
  refine wpAny_pyNext_enum_item he hit p.isList (x:=u) (by simpa using hu) hne fun h' ho hit' hT hsz hk=>?_
  refine ⟨_,rfl,wpAny_letOwnedTupleGo_enum (s:={ s with heap:=h',toks:=s.toks + 1 }) ho fun h'' he'' hs''=>?_⟩
  obtain ⟨I2,n2⟩:=ZgV (x:=x) (tk':=s.toks + 1) I hf hel hil ru hT hk hs''
  exact ⟨.ref s.heap.objs.size,_,I2,rfl,⟨_,x,rfl,I.hok.fresh (Nat.le_refl _),rfl,fun ys hy=>by rw [I.list_inj hy hq]; exact hx⟩,⟨⟨_,by simpa using he''⟩,hit'.extBut hs''.extBut (Ne.symm hne)⟩,n2⟩
 done:=by
  intro X hP hw hK hc i pins s σ H E I hf st hg
  subst hP hw hK
  obtain ⟨xs,hq,hx⟩:=hg
  obtain ⟨its,rv,p,hz⟩:=I.list hq
  obtain ⟨⟨old,he⟩,hit⟩:=st
  have hl:=rv.length
  exact wpAny_pyNext_enum_end (I.ok.hd hc) he hit p.isList (by simp; exact lC 2 2268279672881 T1 hl hx) fun h' eb=>⟨rfl,I.turnedL (t':=s.toks) (fun b o hb q=>eb b o (fun z=>hb (by simp [z])) q) hf⟩
 self:=fun _ _ _ _ _ st h=>by
  obtain ⟨⟨old,he⟩,_⟩:=st
  exact wpAny_pyIter_enum he h
theorem boot_enumerate:bootBuiltins "enumerate" = some (.type "enumerate"):=by decide +kernel
end L3
namespace L3
open PySem PySem.Spec PyProof.Rows L2
open AutoSeq1 (wpAny_loadPart')
set_option maxRecDepth 100000
section
variable {prog:Program} {w:World} {A:Around} {E:Value → Shared → Prop} {s:Shared}
theorem ZcP {it t:Addr} {i:Nat} {items:Array Value} {x:Value} {Q:Value → Shared → Prop} (hit:s.heap.IsTupleIter it t i) (ht:s.heap.IsTuple t items) (hx:items[i]? = some x)
  (hQ:∀ h',h'.IsTupleIter it t (i + 1) → Heap.SameBut it s.heap h' → Q x { s with heap:=h' }):wpAny (model prog w) A (Builtin.SmallTypes.nextOf (.ref it)) Q E s:=by
 obtain ⟨o,ho,hc,hd⟩:=id hit
 obtain ⟨ol,hol,_,nl,hdl⟩:=ht
 unfold Builtin.SmallTypes.nextOf
 refine wpAny_bind (wpAny_callSpecial?_slot (name:=Str.ofString "__next__") hit.typeIs slot_tupleiter_next
  (wpAny_call_entry slot_tupleiter_next hit.typeIs entry_tupleiter_next ?_ (args_tupleiter_next _)))
 show wpAny _ _ (field (.ref it) 0 >>= _) _ _ s
 refine wpAny_bind (wpAny_field ho hd (x:=.ref t) rfl ?_)
 show wpAny _ _ (if (Value.ref t == Value.none) = true then _ else _) _ _ s
 rw [if_neg (show ¬ ((Value.ref t == Value.none) = true) from Bool.false_ne_true)]
 show wpAny _ _ (field (.ref it) 1 >>= _) _ _ s
 refine wpAny_bind (wpAny_field ho hd (x:=.int i 0) rfl ?_)
 show wpAny _ _ (seqItems? (.ref t) >>= _) _ _ s
 refine wpAny_bind (wpAny_seqItems hol hdl ?_)
 simp only [Int.toNat_natCast,hx]
 refine wpAny_bind (wpAny_setField ho hd (by simp) (wpAny_pure ⟨x,rfl,wpAny_pure (hQ _ ?_ (Heap.SameBut.update ..))⟩))
 exact ⟨_,Heap.get?_update_self _ ho (Obj.isFreed_of_fields (Obj.data_mapFields hd _)),(Obj.cls_mapFields ..).trans hc,by
  rw [Obj.data_mapFields hd]; simp [rawInt]⟩
theorem Zca {it t:Addr} {i:Nat} {items:Array Value} {Q:Value → Shared → Prop} (hh:A.handled = none) (hit:s.heap.IsTupleIter it t i) (ht:s.heap.IsTuple t items) (hx:items[i]? = none)
  (hE:∀ h' e,Heap.ExtBut it s.heap h' → (∃ o,h'.get? e = some o ∧ o.cls = .type "StopIteration") → E (.ref e) { s with heap:=h' }):wpAny (model prog w) A (Builtin.SmallTypes.nextOf (.ref it)) Q E s:=by
 obtain ⟨o,ho,hc,hd⟩:=id hit
 obtain ⟨ol,hol,_,nl,hdl⟩:=ht
 unfold Builtin.SmallTypes.nextOf
 refine wpAny_bind (wpAny_callSpecial?_slot (name:=Str.ofString "__next__") hit.typeIs slot_tupleiter_next
  (wpAny_call_entry slot_tupleiter_next hit.typeIs entry_tupleiter_next ?_ (args_tupleiter_next _)))
 show wpAny _ _ (field (.ref it) 0 >>= _) _ _ s
 refine wpAny_bind (wpAny_field ho hd (x:=.ref t) rfl ?_)
 show wpAny _ _ (if (Value.ref t == Value.none) = true then _ else _) _ _ s
 rw [if_neg (show ¬ ((Value.ref t == Value.none) = true) from Bool.false_ne_true)]
 show wpAny _ _ (field (.ref it) 1 >>= _) _ _ s
 refine wpAny_bind (wpAny_field ho hd (x:=.int i 0) rfl ?_)
 show wpAny _ _ (seqItems? (.ref t) >>= _) _ _ s
 refine wpAny_bind (wpAny_seqItems hol hdl ?_)
 simp only [Int.toNat_natCast,hx]
 refine wpAny_bind (wpAny_rule (wpAny_bind (wpAny_setField ho hd (by simp) ?_)))
 show wpAny _ _ (newExc (.type "StopIteration") [] >>= _) _ _ _
 refine wpAny_bind ?_
 simp only [newExc,newTuple]
 refine wpAny_bind (wpAny_newObj_type ?_ (by size_fits))
 refine wpAny_bind (m:=firstArgMember _ _) (wpAny_of_eq (a:=Value.none) (by first | rfl | (simp only [firstArgMember]; rfl)) ?_)
 refine wpAny_newObj_type ?_ (by size_fits)
 simp only [raiseNew]
 refine wpAny_bind (wpAny_handled ?_)
 first | rw [show A.in1.handled = none from hh] | rw [hh]
 refine wpAny_bind (wpAny_pure (wpAny_throw ?_))
 exact hE _ _ (((Heap.SameBut.update ..).extBut.push _).push _) ⟨_,Heap.get?_push_size _ rfl,rfl⟩
end
theorem Zie {prog:Program} {w:World} {A:Around} (hh:A.handled = none) (it l:Addr) (hne:l ≠ it) (items:Array Value):
  Draws prog w A it [it,l] items.size (fun i v=>items[i]? = some v) (fun i h=>h.IsTupleIter it l i ∧ h.IsTuple l items) where
 live:=fun _ _ st=>let ⟨o,ho,_⟩:=st.1; ⟨o,ho⟩
 frame:=fun _ _ _ st hk=>⟨st.1.at fun o e=>hk it (by simp) o e,st.2.at fun o e=>hk l (by simp) o e⟩
 item:=fun i s Q E hi st hQ=>by
  refine ZcP st.1 st.2 (x:=items[i]) (by simp [hi]) fun h' hit' hs'=>?_
  exact hQ _ h' s.toks (by simp [hi]) ⟨hit',st.2.extBut hs'.extBut hne⟩ hs'
 done:=fun s Q E st hE=>Zca hh st.1 st.2 (by simp) hE
theorem ZdJ (l:Addr) (items:Array Value) (n:Nat) (dct:Option Addr) (sl:Array (Option Value)):
  Meets (Builtin.«enumerate.__new__» ⟨[.type "enumerate",.ref l],[]⟩) (fun _ R s=>s.heap.get? l = some { cls:=.type "tuple",dict:=dct,data:=.seq items n,slots:=sl } ∧
   R (.ok (.ret (.ref (s.heap.push { cls:=.type "tuple_iterator",data:=.fields #[.ref l,.int 0 0] }).objs.size)))
    { s with heap:=(s.heap.push { cls:=.type "tuple_iterator",data:=.fields #[.ref l,.int 0 0] }).push { cls:=.type "enumerate",data:=.fields #[.none,.bool false,.ref s.heap.objs.size,rawInt 0,.none,.none] } }):=
 .of_wp fun prog w A R s h=>by
  obtain ⟨hp,g,d,tk,os⟩:=s; obtain ⟨hl,h⟩:=h
  have hsub:=sub_enumerate
  have hL:Heap.IsTuple (Shared.heap ⟨hp,g,d,tk,os⟩) l items:=⟨_,hl,rfl,n,rfl⟩
  wp_walk using wpAny_loadPart' hl
  refine wpAny_stack_any fun st=>wpAny_pure ?_
  split
  ·rename_i c _ _ _ _ _
   cases (c == Value.type "enumerate")
   ·wp_walk using wpAny_loadPart' hl,wpAny_pyIter_tuple hL
    exact ⟨_,rfl,h⟩
   ·wp_walk using wpAny_loadPart' hl,wpAny_pyIter_tuple hL
    exact ⟨_,rfl,h⟩
  ·wp_walk using wpAny_loadPart' hl,wpAny_pyIter_tuple hL
   exact ⟨_,rfl,h⟩
theorem ZdK {prog:Program} {w:World} {A:Around} {E:Value → Shared → Prop} {s:Shared} {l:Addr} {items:Array Value} {Q:Value → Shared → Prop} (hL:s.heap.IsTuple l items)
  (h:∀ h',IsEnum h' (s.heap.objs.size + 1) s.heap.objs.size 0 .none → h'.IsTupleIter s.heap.objs.size l 0 → h'.objs.size = s.heap.objs.size + 2 →
   (∀ b o,s.heap.get? b = some o → h'.get? b = some o) → Q (.ref (s.heap.objs.size + 1)) { s with heap:=h' }):
  wpAny (model prog w) A (call (.type "enumerate") [.ref l]) Q E s:=by
 obtain ⟨⟨c,dct,dt,sl⟩,hl,hc,n,hd⟩:=hL
 replace hc:c = .type "tuple":=hc
 replace hd:dt = .seq items n:=hd
 subst hc hd
 refine callType_new F.called_enumerate (by decide) (F.typeCall_enumerate_1 _) (F.newCall_enumerate_1 _) (fun obj=>F.args_object_init_2 obj _) F.entry_enumerate_new
  (ZdJ l items n dct sl) ⟨hl,?_⟩
 have hz:(s.heap.push { cls:=.type "tuple_iterator",data:=.fields #[.ref l,.int 0 0] }).objs.size = s.heap.objs.size + 1:=Heap.size_push ..
 show _ ∧ _
 rw [hz]
 have he:IsEnum ((s.heap.push { cls:=.type "tuple_iterator",data:=.fields #[.ref l,.int 0 0] }).push
   { cls:=.type "enumerate",data:=.fields #[.none,.bool false,.ref s.heap.objs.size,rawInt 0,.none,.none] }) (s.heap.objs.size + 1) s.heap.objs.size 0 .none:=by
  have:=Heap.get?_push_size (s.heap.push { cls:=.type "tuple_iterator",data:=.fields #[.ref l,.int 0 0] })
   (o:={ cls:=.type "enumerate",data:=.fields #[.none,.bool false,.ref s.heap.objs.size,rawInt 0,.none,.none] }) rfl
  rw [hz] at this; exact this
 refine ⟨⟨_,he,rfl⟩,h _ he ⟨_,Heap.get?_push_of_some _ (Heap.get?_push_size _ rfl),rfl,rfl⟩ (by rw [Heap.size_push,hz]) fun b o x=>Heap.get?_push_of_some _ (Heap.get?_push_of_some _ x)⟩
theorem Zjc {P:Program} {w:World} {K:PySem.W.Frag} {es:List Expr} {k:Nat} {pos:Pos} (a e it:Addr) (hne:e ≠ it):
  Turn P w K (.Tuple es k pos) (Ite fun H xs=>SqT K H a xs) [e,it] e (fun i h=>(∃ old,IsEnum h e it i old) ∧ h.IsTupleIter it a i) where
 mem:=by simp
 obj:=fun i h st b hb=>by
  obtain ⟨⟨old,he⟩,o,ho,c,d⟩:=st
  simp only [List.mem_cons,List.not_mem_nil,or_false] at hb
  rcases hb with rfl | rfl
  ·exact ⟨_,he,fun v z=>by cases z⟩
  ·exact ⟨o,ho,fun v z=>by rw [d] at z; cases z⟩
 keep:=fun i h h' st k=>by
  obtain ⟨⟨old,he⟩,hit⟩:=st
  exact ⟨⟨old,k e (by simp) _ he⟩,hit.at fun o q=>k it (by simp) o q⟩
 item:=by
  intro X hP hw hK hc i pins s σ H E I hf st hg
  subst hP hw hK
  obtain ⟨xs,x,hq,hx⟩:=hg
  obtain ⟨its,rv,p,hz⟩:=I.tuple hq
  obtain ⟨u,hu,ru⟩:=rv.get hx
  obtain ⟨⟨old,he⟩,hit⟩:=st
  have hel:=Heap.lt_size he
  have hil:it < s.heap.objs.size:=by obtain ⟨o,ho,_⟩:=id hit; exact Heap.lt_size ho
  have pt:s.heap.IsTuple a its.toArray:=p
  have hae:e ≠ a:=by
   rintro rfl
   obtain ⟨o,ho,hc,_⟩:=pt
   rw [he] at ho; cases ho
   exact absurd hc (by simp)
  have hai:a ≠ it:=by
   rintro rfl
   obtain ⟨o,ho,hc,_⟩:=pt
   obtain ⟨o',ho',hc',_⟩:=hit
   rw [ho'] at ho; cases ho
   rw [hc'] at hc
   exact absurd hc (by simp)
  have D:=Zie (prog:=X.prog) (w:=X.w) (A:=X.A.in1) (I.ok.hd hc) it a hai its.toArray
  refine wpAny_pyNext_enum_itemD D he ⟨hit,pt⟩ (by simpa using (List.getElem?_eq_some_iff.mp hu).1) hne (by simp [hne,hae]) fun y h' tk hy ho hst hT hsz hk=>?_
  have ey:y = u:=by
   have:its.toArray[i]? = some u:=by simpa using hu
   rw [this] at hy; cases hy; rfl
  subst ey
  refine ⟨_,rfl,wpAny_letOwnedTupleGo_enum (s:={ s with heap:=h',toks:=tk + 1 }) ho fun h'' he'' hs''=>?_⟩
  obtain ⟨I2,n2⟩:=ZgV (x:=x) (tk':=tk + 1) I hf hel hil ru hT hk hs''
  exact ⟨.ref s.heap.objs.size,_,I2,rfl,⟨_,x,rfl,I.hok.fresh (Nat.le_refl _),rfl,fun ys hy=>by rw [I.tuple_inj hy hq]; exact hx⟩,⟨⟨_,by simpa using he''⟩,hst.1.extBut hs''.extBut (Ne.symm hne)⟩,n2⟩
 done:=by
  intro X hP hw hK hc i pins s σ H E I hf st hg
  subst hP hw hK
  obtain ⟨xs,hq,hx⟩:=hg
  obtain ⟨its,rv,p,hz⟩:=I.tuple hq
  obtain ⟨⟨old,he⟩,hit⟩:=st
  have hl:=rv.length
  have pt:s.heap.IsTuple a its.toArray:=p
  have hT:s.TypeIs (.ref e) "enumerate":=⟨_,he,rfl⟩
  unfold pyNext
  refine wpAny_bind (wpAny_attempt (wpAny_callSpecial?_slot (name:=Str.ofString "__next__") hT F.slot_enumerate_next
   (wpAny_call_entry F.slot_enumerate_next hT F.entry_enumerate_next ?_ (F.args_enumerate_next_1 _))))
  show wpAny _ _ (field (.ref e) 2 >>= _) _ _ _
  refine wpAny_bind (wpAny_field he rfl (x:=.ref it) rfl ?_)
  refine wpAny_bind (Zca (I.ok.hd hc) hit pt (by simp; exact lC 2 2268279672881 T1 hl hx) fun h' x he' hx'=>?_)
  obtain ⟨o,ho,hc⟩:=hx'
  refine wpAny_bind (wpAny_isInstance (T:="StopIteration") (b:=true) ⟨o,ho,hc⟩ isSubtype_stop ?_)
  exact wpAny_pure ⟨rfl,I.turnedL (t':=s.toks) (fun b o hb q=>he' b o (fun z=>hb (by simp [z])) q) hf⟩
 self:=fun _ _ _ _ _ st h=>by
  obtain ⟨⟨old,he⟩,_⟩:=st
  exact wpAny_pyIter_enum he h
section
variable {X:Cx} {es:List Expr} {k:Nat} {a:Expr} {p pos tpos:Pos} {f:E3}
def Zqf (K:PySem.W.Frag) (ta:TA):TI:=fun σ H R=>ta σ H fun vs H1=>∃ b,vs = [.ref b] ∧ ((∃ xs,SqL K H1 b xs ∧ R (Ite fun H xs=>SqL K H b xs) H1) ∨ ∃ xs,SqT K H1 b xs ∧ R (Ite fun H xs=>SqT K H b xs) H1)
theorem Zoo {ta:TA} (hg:Gl X "enumerate") (hm:X.mg "enumerate" = none) (ha:PA X [a] ta) (hs:starEach [a] X.env = [(false,eval a X.env)]:=by rfl):PI X (.Tuple es k tpos) (.Call (.Name "enumerate" p) [a] [] pos) (Zqf X.K ta):=by
 intro pins s σ H R I h
 refine Call_ (Zed I hg hm boot_enumerate (PyProof.Rows.callWith_type1 (thn (ha pos pins s σ H _ I h) fun us s1 ⟨vs,H1,I1,r1,q1⟩=>?_) hs rfl))
 obtain ⟨b,e,q⟩:=q1
 subst e
 cases r1 with
 | cons r rr=>
  cases rr
  cases r
  have fp:∀ {h':Heap} {s2:Shared},∀ c ∈ [s1.heap.objs.size + 1,s1.heap.objs.size],Zdz X pins H1 c:=fun {h' s2} c hc=>by
   have hc':s1.heap.objs.size ≤ c:=by
    simp only [List.mem_cons,List.not_mem_nil,or_false] at hc
    rcases hc with rfl | rfl <;> omega
   exact I1.fpOk hc' (I1.hok.fresh hc')
  rcases q with ⟨xs,hq,q⟩ | ⟨xs,hq,q⟩
  ·obtain ⟨its,rv,pl,hz⟩:=I1.list hq
   refine call_enumerate_list pl.isList fun h' hE hI hsz hk=>?_
   have I2:Inv X pins σ H1 { s1 with heap:=h' }:=I1.kept (t':=s1.toks) hk
   exact wpAny_pyIter_enum (s:={ s1 with heap:=h' }) hE ⟨_,[s1.heap.objs.size + 1,s1.heap.objs.size],_,_,H1,rfl,I2,ZjF b _ _ (Nat.succ_ne_self _),⟨⟨_,hE⟩,hI⟩,fp (h':=h') (s2:=s1),q⟩
  ·obtain ⟨its,rv,pl,hz⟩:=I1.tuple hq
   refine ZdK (show s1.heap.IsTuple b its.toArray from pl) fun h' hE hI hsz hk=>?_
   have I2:Inv X pins σ H1 { s1 with heap:=h' }:=I1.kept (t':=s1.toks) hk
   exact wpAny_pyIter_enum (s:={ s1 with heap:=h' }) hE ⟨_,[s1.heap.objs.size + 1,s1.heap.objs.size],_,_,H1,rfl,I2,Zjc b _ _ (Nat.succ_ne_self _),⟨⟨_,hE⟩,hI⟩,fp (h':=h') (s2:=s1),q⟩
theorem ZoA (hm:X.mg "enumerate" = none) (h:C3 X a f) (hg:Gl X "enumerate":=by rfl) (hs:starEach [a] X.env = [(false,eval a X.env)]:=by rfl) (hs':starEach (a :: []) X.env = (false,eval a X.env) :: starEach [] X.env:=by rfl):CIL X (.Tuple es k tpos) (.Call (.Name "enumerate" p) [a] [] pos) (Zl0 f):=
 PI.imp (Zoo hg hm (Zc h Zj hs') hs) fun σ H R zz1=>by
  obtain ⟨ι,M,env,S,E,h⟩:=zz1
  obtain ⟨d,M1,e1,h⟩:=ZiP.bind h
  refine ⟨ι,M,env,S,E,?_⟩
  have e2:Zb f Zi env M = .ok [d] M1:=by unfold Zb; rw [e1]; rfl
  rw [e2]
  intro vs H1 ι1 x1 S1 r1
  obtain ⟨v,ws,rfl,r,q⟩:=r1.cons_inv
  have:=q.nil_inv
  subst this
  cases d with
  | tup ds=>
   obtain ⟨b,vs,rfl,s,r⟩:=r.tup_inv
   refine ⟨b,rfl,.inr ⟨vs,s,h _ H1 ι1 x1 S1 ?_⟩⟩
   intro i H2 ι2 M2 x S2 _
   refine ⟨fun d hd=>?_,fun hl=>⟨vs,x.tup _ _ s,by rw [r.length,hl,ZeT]; exact Nat.le_refl _⟩⟩
   rw [Zff] at hd
   cases hq:ds[i]? with
   | none=>rw [hq] at hd; cases hd
   | some d0=>
    rw [hq] at hd
    simp only [Option.map_some,Nat.zero_add,Option.some.injEq] at hd
    subst hd
    obtain ⟨v,hv,rv⟩:=r.get hq
    refine ⟨⟨vs,v,x.tup _ _ s,hv⟩,fun y H3 hy=>?_⟩
    obtain ⟨T,y',rfl,hT,rfl,hall⟩:=hy
    have e:=hall vs (x.tup _ _ s)
    rw [hv] at e
    cases e
    exact S2.tupl hT (Zn.cons Rep.int (Zn.cons (rv.mono x) Zn.nil))
  | ref n=>
   cases hm:M1[n]? with
   | none=>simp only [hm] at h; exact h.elim
   | some o=>
    cases o with
    | dct kvs=>simp only [hm] at h; exact h.elim
    | fdct kvs=>simp only [hm] at h; exact h.elim
    | ins _ _=>simp only [hm] at h; exact h.elim
    | lst ds=>
     simp only [hm] at h
     obtain ⟨b,ha,rfl⟩:=r.ref_inv
     obtain ⟨vs,q,r⟩:=S1.obj n _ b hm ha
     refine ⟨b,rfl,.inl ⟨vs,SqL.of q,h _ H1 ι1 x1 S1 ?_⟩⟩
     intro i H2 ι2 M2 x S2 lk
     have lk':M2[n]? = some (.lst ds):=by simpa [Zcd] using lk
     obtain ⟨vs2,q2,r2⟩:=S2.obj n _ b lk' (x.pre _ _ ha)
     refine ⟨fun d hd=>?_,fun hl=>⟨vs2,SqL.of q2,by rw [r2.length,hl,ZeT]; exact Nat.le_refl _⟩⟩
     rw [Zff] at hd
     cases hq:ds[i]? with
     | none=>rw [hq] at hd; cases hd
     | some d0=>
      rw [hq] at hd
      simp only [Option.map_some,Nat.zero_add,Option.some.injEq] at hd
      subst hd
      obtain ⟨v,hv,rv⟩:=r2.get hq
      refine ⟨⟨vs2,v,SqL.of q2,hv⟩,fun y H3 hy=>?_⟩
      obtain ⟨T,y',rfl,hT,rfl,hall⟩:=hy
      have e:=hall vs2 (SqL.of q2)
      rw [hv] at e
      cases e
      exact S2.tupl hT (Zn.cons Rep.int (Zn.cons rv Zn.nil))
  | _=>exact h.elim
end
end L3
namespace L3
open PySem PySem.Spec PyProof.Rows L2
section
variable {X:Cx}
theorem ZpI:bootBuiltins "max" = some (.builtin "max"):=by decide +kernel
theorem ZnP {K:PySem.W.Frag} {H:Hp} {ι:List Addr} {i j:Int} {xs:List V} (r:Zn K H ι [.int i,.int j] xs):xs = [.int i,.int j]:=by
 obtain ⟨v1,vs1,rfl,q1,r⟩:=r.cons_inv
 obtain ⟨v2,vs2,rfl,q2,r⟩:=r.cons_inv
 have:=r.nil_inv
 subst this
 have e1:=q1.int_inv
 have e2:=q2.int_inv
 subst e1 e2
 rfl
theorem ZpZ (hc:X.calm = true):ZaQ X (.builtin "max") (rB X.K Zg1):=ZaQ.imp (ZkH hc) fun xs H Q zz1=>by
 obtain ⟨ι,M,ds,S,rd,h⟩:=zz1
 unfold Zg1 at h
 split at h
 ·exact ⟨_,_,ZnP rd,h _ H ι Ext.refl S Rep.int⟩
 ·exact h.elim
end
end L3
namespace L3
open PySem PySem.Spec PyProof.Rows L2
open AutoSeq1 (wpAny_loadPart')
set_option maxRecDepth 100000
section
variable {X:Cx} {o e:Expr} {es:List Expr} {apos cpos:Pos} {f:E3} {gl:EL3}
theorem ZnT {K:PySem.W.Frag} {T:String} {ty:D → Store → Bool} {m:D → List D → Store → R3 D} (hty:∀ H ι M a x,Zz K H ι M → Rep K H ι a x → ty a M = true → tyV K T x H) (σ:St) (H:Hp) (Q:VK) (h:tOf K (Zaw ty m f Zi) σ H Q):ZsJ K T (rM K m) (tOf K f) σ H Q:=by
 obtain ⟨ι,M,env,S,E,h⟩:=h
 obtain ⟨a,M1,e1,h⟩:=Zo.bind h
 refine ⟨ι,M,env,S,E,?_⟩
 rw [e1]
 intro v H1 ι1 x1 S1 r1
 by_cases ht:ty a M1 = true
 ·rw [if_pos ht] at h
  exact ⟨hty _ _ _ _ _ S1 r1 ht,ι1,M1,a,[],S1,r1,Zn.nil,h.up x1⟩
 ·rw [if_neg ht] at h; exact h.elim
theorem Zeo (ho:C3 X o f) (hbase:attributeBase o "pop" X.env (eval o X.env) = eval o X.env:=by rfl) (hline:(apos.endLine == cpos.line) = true:=by rfl):C3 X (.Call (.Attribute o "pop" apos) [] [] cpos) (Zaw tyL Zfq f Zi):=
 (Zqj PySem.F.plainAttrs_list PySem.F.slot_list_pop PySem.F.type_list_pop Zr8 ho hbase hline).imp (ZnT ZlF)
end
end L3
namespace L3
open PySem PySem.Spec PyProof.Rows L2
set_option maxRecDepth 100000
section
variable {X:Cx} {es:List Expr} {k:Nat} {a b:Expr} {p pos tpos:Pos} {f g:E3}
theorem Zk2:bootBuiltins "zip" = some (.type "zip"):=by decide +kernel
end
end L3
namespace L3
open PySem PySem.W PyProof.Rows
section
variable {M:Model} {A:Around} {E:Value → Shared → Prop} {G:Shared → Prop}
def TT (M:Model) (A:Around) (E:Value → Shared → Prop) (G:Shared → Prop) {α:Type} (m:StateT SortSt Sem α) (Q:α → SortSt → Prop) (st:SortSt):Prop:=∀ s,G s → kasC M A E m (fun a st' s'=>Q a st' ∧ G s') st s
end
section
variable {prog:Program} {w:World} {A:Around} {E:Value → Shared → Prop} {G:Shared → Prop} {κ:SortKind} {it:Array Keyed} {lt:Nat → Nat → Bool} {N:Nat}
section
variable {left:Bool} {key:Nat} {l:List Nat} {base n:Nat} {st:SortSt} {B:Nat → Bool}
end
end
end L3
namespace L3
open PySem PySem.Spec PyProof.Rows L2
@[simp] noncomputable def Zqv (F:F3) (dd:List D):F3:=fun ds M=>F (ds ++ dd) M
noncomputable def gK {α:Type} (n:Nat) (us ws:List α):List α:=if us.length = n ∧ ws.length = 1 then us ++ ws else []
def Zh8 (P:Program) (w:World) (K:PySem.W.Frag) (mg:Str → Option Value) (base:Heap) (k:Nat) (x:Str) (ps:List Str) (F:F3) (dd:List D) (n:Nat) (nm:Str):Prop:=
 (∀ ds M,ds.length ≠ ps.length → F ds M = .bad) ∧ ∃ f fd ds dvs,mg x = some (.ref f) ∧ PySem.W.keepIn K (.ref f) = true ∧ Binds K fd ps [] ∧ Binds K fd ps ds ∧ Vals dvs ds ∧ (∀ H ι,Zn K H ι dd dvs) ∧ Zhs K fd ps [nm] (gK n) (gK n) ∧ Zcu P w K mg base CX0 k f fd ps (sp3 K ps.length F)
def DefX (K:PySem.W.Frag) (mg:Str → Option Value) (x:Str) (st:Stmt) (ps:List Str) (dd:List D) (n:Nat) (nm:Str):Prop:=
 ∃ f fd ds dvs,Fun K x x st f fd ∧ mg x = some (.ref f) ∧ Binds K fd ps [] ∧ Binds K fd ps ds ∧ Vals dvs ds ∧ (∀ H ι,Zn K H ι dd dvs) ∧ Zhs K fd ps [nm] (gK n) (gK n)
section
variable {P:Program} {w:World} {K:PySem.W.Frag} {mg:Str → Option Value} {base:Heap} {dd:List D} {n:Nat} {nm:Str}
theorem Zh8.fn {k:Nat} {x:Str} {ps:List Str} {F:F3} (h:Zh8 P w K mg base k x ps F dd n nm):Fn3 P w K mg base k x ps F:=
 let ⟨a,f,fd,_,_,b,c,d,_,_,_,_,e⟩:=h; ⟨a,f,fd,b,c,d,e⟩
theorem Zh8.of {x:Str} {st:Stmt} {N ps:List Str} {k:Nat} {body:S3} (d:DefX K mg x st ps dd n nm) (S:Zai N ps (Zh st))
  (hb:∀ (f:Addr) (cdv:Value) (A:Around) (outer:List Env) (s:Shared) (H:Hp) (E:XK),Za4 k (A.deeper (envOfC x (Zh st) s.heap.objs.size f cdv)) → CSs (ZfJ CX0 P w K mg base N x (Zh st) f cdv A outer s H E).nox (Zx st) body):
  Zh8 P w K mg base (k + 1) x ps (mkF ps.length N.length body) dd n nm:=by
 obtain ⟨f,fd,ds,dvs,F,m,b0,b1,v,r,kb⟩:=d
 exact ⟨fun ds M h=>if_neg h,f,fd,ds,dvs,m,F.kp,b0,b1,v,r,kb,fn3 F S (hb f)⟩
theorem Zoj {fd:FuncData} {ps:List Str} (hps:ps ≠ []) (h:∀ (s:Shared) (us:List Value) (u:Value),K.In s.heap → us.length = n → BindsTo s fd ⟨us,[(nm,u)]⟩ (ps.zip (us ++ [u]))):Zhs K fd ps [nm] (gK n) (gK n):=by
 refine ⟨fun s us ws hK hl=>?_,fun {vs us zs ws} r1 r2=>?_⟩
 ·unfold gK at hl ⊢
  by_cases c:us.length = n ∧ ws.length = 1
  ·rw [if_pos c]
   match ws,c with
   | [u],c=>exact h s us u hK c.1
  ·rw [if_neg c] at hl
   exact absurd (List.eq_nil_of_length_eq_zero hl.symm) hps
 ·unfold gK
  rw [r1.length,r2.length]
  by_cases c:us.length = n ∧ ws.length = 1
  ·rw [if_pos c,if_pos c]; exact r1.append r2
  ·rw [if_neg c,if_neg c]; exact .nil
theorem Zox {h:Heap} (KX:K.In h) (G:h.Ns mainGlobals mg) {x:Str} {st:Stmt} {f:Addr} {oc:Value} {od an:Option Addr} {osl:Array (Option Value)} {dV kV doc pm cdv ct:Value}
  (a:PySem.W.nsIn K mainGlobals x = some (some (.ref f))) (l:K.lookup f = some ⟨oc,od,.func (PySem.W.fnOf x x (Zad st) (Zx st) (Zh st) dV kV doc pm an cdv ct),osl⟩)
  (c:PySem.W.codeIn K cdv x = true) (k:PySem.W.keepIn K (.ref f) = true) {ps:List Str} (b:Binds K (PySem.W.fnOf x x (Zad st) (Zx st) (Zh st) dV kV doc pm an cdv ct) ps []) {i:Int} {t:Tok}
  (b1:Binds K (PySem.W.fnOf x x (Zad st) (Zx st) (Zh st) dV kV doc pm an cdv ct) ps [.int i t]) (kb:Zhs K (PySem.W.fnOf x x (Zad st) (Zx st) (Zh st) dV kV doc pm an cdv ct) ps [nm] (gK n) (gK n)):DefX K mg x st ps [.int i] n nm:=
 ⟨f,_,_,[.int i],ZjC l c k,PySem.W.mg_of KX G a,b,b1,.cons ⟨t,rfl⟩ .nil,fun _ _=>Zn.cons Rep.int Zn.nil,kb⟩
end
section
variable {X:Cx} {e e':Expr} {es:List Expr} {pos p kpos:Pos} {gl:EL3} {g:E3} {x nm:Str} {k n:Nat} {ps:List Str} {F:F3} {dd:List D}
theorem Zow (G:Zh8 X.prog X.w X.K X.mg X.base k x ps F dd n nm) (hr:Za4 k X.A) (ha:CA X (e :: es) gl) (hg:Gl X x:=by rfl) (hdb:(x == ("__debug__":Str)) = false:=by decide)
  (he:starEach (e :: es) X.env = (false,eval e X.env) :: starEach es X.env:=by rfl) (hpl:(backTo pos (starEach es X.env)).any (·.1) = false:=by rfl):C3 X (.Call (.Name x p) (e :: es) [] pos) (Zap (Zqv F dd) gl):=by
 obtain ⟨hn,f,fd,_,dvs,m,kp,_,bi,vd,rd,_,ok⟩:=G
 refine (Zkk ok hr hg m kp bi vd ZjZ ha hdb he hpl).imp fun σ H Q zz1=>?_
 obtain ⟨ι,M,env,S,E,h⟩:=zz1
 obtain ⟨ds,M1,e1,h⟩:=Zo.bind h
 refine ⟨ι,M,env,S,E,?_⟩
 rw [e1]
 intro vs H1 ι1 x1 S1 r1
 have hl:(ds ++ dd).length = ps.length:=by
  refine Decidable.byContradiction fun q=>?_
  simp only [Zqv] at h
  rw [hn (ds ++ dd) M1 q] at h
  exact h.elim
 exact ⟨ι1,M1,ds ++ dd,S1,r1.append (rd _ _),hl,h.up x1⟩
end
end L3
namespace L3
open PySem PySem.W PySem.Spec PyProof.Rows L2
section
variable {X:Cx}
end
end L3
namespace L3
open PySem PySem.Spec PyProof.Rows L2
noncomputable abbrev nm (f:List Nat):Str:=⟨f.toArray⟩
theorem ZmK {f g:List Nat} (h:nm f = nm g):f = g:=by
 have:=congrArg (fun s:Str=>s.cps.toList) h
 simpa using this
section
variable {K:PySem.W.Frag} {H H':Hp} {ι ι':List Addr} {fs:List (List Nat × D)} {gs:List (Str × V)}
theorem FsR.mono (e:Ext K H ι H' ι') (h:FsR K H ι fs gs):FsR K H' ι' fs gs:=⟨h.1,h.2.mono e⟩
theorem FsR.nil:FsR K H ι [] []:=⟨rfl,Zn.nil⟩
theorem FsR.nil_inv (h:FsR K H ι [] gs):gs = []:=List.map_eq_nil_iff.mp h.1
theorem FsR.cons_inv {f:List Nat} {d:D} (h:FsR K H ι ((f,d) :: fs) gs):∃ v gs',gs = (nm f,v) :: gs' ∧ Rep K H ι d v ∧ FsR K H ι fs gs':=by
 cases gs with
 | nil=>cases h.1
 | cons p gs'=>
  obtain ⟨g,v⟩:=p
  obtain ⟨h1,h2⟩:=h
  rw [List.map_cons,List.map_cons] at h1 h2
  obtain ⟨e1,e2⟩:=List.cons.inj h1
  obtain ⟨v',ws,e,r,q⟩:=h2.cons_inv
  obtain ⟨rfl,rfl⟩:=List.cons.inj e
  exact ⟨v,gs',by rw [show g = nm f from e1],r,e2,q⟩
theorem FsR.cons {f:List Nat} {d:D} {v:V} (r:Rep K H ι d v) (h:FsR K H ι fs gs):FsR K H ι ((f,d) :: fs) ((nm f,v) :: gs):=⟨by rw [List.map_cons,List.map_cons,h.1],Zn.cons r h.2⟩
theorem FsR.length (h:FsR K H ι fs gs):gs.length = fs.length:=by
 have:=congrArg List.length h.1
 simpa using this
theorem FsR.look {f:List Nat}:∀ {fs:List (List Nat × D)} {gs:List (Str × V)},FsR K H ι fs gs → (fs.lookup f = none → gs.lookup (nm f) = none) ∧ ∀ d,fs.lookup f = some d → ∃ v,gs.lookup (nm f) = some v ∧ Rep K H ι d v
 | [],_,h=>by rw [h.nil_inv]; exact ⟨fun _=>rfl,fun d e=>by cases e⟩
 | (g,x) :: fs,_,h=>by
  obtain ⟨v,gs',rfl,r,t⟩:=h.cons_inv
  rw [List.lookup_cons,List.lookup_cons]
  by_cases e:f = g
  ·subst e
   rw [beq_self_eq_true,beq_self_eq_true]
   exact ⟨fun q=>(by cases q),fun d q=>(by cases q; exact ⟨v,rfl,r⟩)⟩
  ·rw [beq_false_of_ne e,beq_false_of_ne fun q=>e (ZmK q)]
   exact t.look
theorem FsR.put {f:List Nat} {d:D} {v:V} (r:Rep K H ι d v):∀ {fs:List (List Nat × D)} {gs:List (Str × V)},FsR K H ι fs gs → FsR K H ι (ZeI f d fs) (Zc0 (nm f) v gs)
 | [],_,h=>by rw [h.nil_inv]; exact FsR.cons r FsR.nil
 | (g,x) :: fs,_,h=>by
  obtain ⟨w,gs',rfl,r',t⟩:=h.cons_inv
  unfold ZeI Zc0
  by_cases e:g = f
  ·subst e
   rw [if_pos rfl,if_pos rfl]; exact FsR.cons r t
  ·rw [if_neg e,if_neg fun q=>e (ZmK q)]; exact FsR.cons r' (t.put r)
end
structure Zfl (K:PySem.W.Frag) (c:List Nat) (C:Addr):Prop where
 at_:ClsAt K c C
 cls:Cls K C
 nz:c.head? ≠ some 0
theorem Zfl.same {K:PySem.W.Frag} {c:List Nat} {C C':Addr} (h:Zfl K c C) (q:ClsAt K c C'):C' = C:=by
 have:=q.symm.trans h.at_
 cases this; rfl
section
variable {X:Cx} {o e:Expr} {es:List Expr} {f g:E3} {gl:EL3} {c m:List Nat} {C:Addr} {fn:Str} {pos pos' apos p:Pos} {x:Str}
theorem ZhL {M:Store} {n:Nat} {H:Hp} {ι:List Addr} {a:Addr} (kc:Zfl X.K c C) (S:Zz X.K H ι M) (ha:ι[n]? = some a) {fs:List (List Nat × D)} (hn:M[n]? = some (.ins c fs)):∃ dx gs,H a = some (.ins C dx gs) ∧ FsR X.K H ι fs gs:=by
 rcases S.obj n _ a hn ha with ⟨C',dx,gs,q,ca,fr⟩ | ⟨_,_,z,_⟩
 ·rw [kc.same ca.1] at q
  exact ⟨dx,gs,q,fr⟩
 ·exact absurd z kc.nz
theorem Zd6 (kc:Zfl X.K c C) (nf:Zb2 X.K C (nm m)) (he:C3 X e f) (hf:fn = nm m:=by decide +kernel) (hb:attributeBase e fn X.env (eval e X.env) = eval e X.env:=by rfl):C3 X (.Attribute e fn pos) (e1 (Zce c m) f):=by
 subst hf
 refine (ZqA he hb).imp fun σ H Q zz1=>?_
 obtain ⟨ι,M,env,S,E,h⟩:=zz1
 obtain ⟨d,M1,e1,hh⟩:=Zo.bind h
 refine ⟨ι,M,env,S,E,?_⟩
 rw [e1]
 intro v H1 ι1 x1 S1 r1
 cases d with
 | ref n=>
  simp only [Zc9] at hh
  cases hn:M1[n]? with
  | none=>simp only [hn] at hh; exact hh.elim
  | some ob=>
   cases ob with
   | ins c' fs=>
    simp only [hn] at hh
    split at hh
    ·rename_i ec
     subst ec
     obtain ⟨a,ha,rfl⟩:=r1.ref_inv
     obtain ⟨dx,gs,q,fr⟩:=ZhL kc S1 ha hn
     split at hh
     ·rename_i d hl
      obtain ⟨w,lw,rw'⟩:=(fr.look (f:=m)).2 d hl
      exact ⟨a,C,dx,gs,w,rfl,q,kc.cls,nf,lw,hh w H1 ι1 x1 S1 rw'⟩
     ·exact hh.elim
    ·exact hh.elim
   | _=>simp only [hn] at hh; exact hh.elim
 | _=>exact hh.elim
theorem Zfd (kc:Zfl X.K c C) (nf:Zb2 X.K C (nm m)) (ho:C3 X o f) (hv:C3 X e g) (hf:fn = nm m:=by decide +kernel) (hs:swapsWith e (some (.Attribute o fn pos')) pos.line X.env = pure false:=by rfl):CS X (.Assign [.Attribute o fn pos'] e pos) (ZfS c m f g):=by
 subst hf
 refine (ZqE ho hv hs).imp fun D' σ H zz1=>?_
 obtain ⟨ι,M,env,S,E,hh⟩:=zz1
 have hh:=Zf0 E hh
 obtain ⟨d,M1,e1,hh⟩:=Zo.bind hh
 obtain ⟨b,M2,e2,hh⟩:=Zo.bind hh
 refine ⟨ι,M,env,S,E,?_⟩
 rw [e1]
 intro y H1 ι1 x1 S1 r1
 refine ⟨ι1,M1,env,S1,E.mono x1,?_⟩
 rw [e2]
 intro w H2 ι2 x2 S2 r2
 cases b with
 | ref n=>
  simp only [Ze0] at hh
  cases hn:M2[n]? with
  | none=>simp only [hn] at hh; exact hh.elim
  | some ob=>
   cases ob with
   | ins c' fs=>
    simp only [hn] at hh
    split at hh
    ·rename_i ec
     obtain ⟨ec,lf⟩:=ec
     subst ec
     obtain ⟨a,ha,rfl⟩:=r2.ref_inv
     obtain ⟨dx,gs,q,fr⟩:=ZhL kc S2 ha hn
     have l0:Loose H2 a:=.inr (.inr (.inr ⟨C,dx,gs,q⟩))
     have x3:Ext X.K H2 ι2 (upd H2 a (.ins C dx (Zc0 (nm m) y gs))) ι2:=l0.ext
     have S3:Zz X.K (upd H2 a (.ins C dx (Zc0 (nm m) y gs))) ι2 (M2.set n (.ins c' (ZeI m d fs))):=S2.put l0 ha (.inl ⟨C,dx,_,Zbw,⟨kc.at_,kc.nz⟩,(fr.put (r1.mono x2)).mono x3⟩)
     exact ⟨a,C,dx,gs,rfl,q,kc.cls,nf,by rw [fr.length]; exact lf,hh .non _ _ ((x1.trans x2).trans x3) S3 Rep.non⟩
    ·exact hh.elim
   | _=>simp only [hn] at hh; exact hh.elim
 | _=>exact hh.elim
def Zbv (P:Program) (w:World) (K:PySem.W.Frag) (mg:Str → Option Value) (base:Heap) (k:Nat) (C:Addr) (m:Str) (ps:List Str) (F:F3):Prop:=
 (∀ ds M,ds.length ≠ ps.length → F ds M = .bad) ∧ ∃ f fd,Meth K C m f ∧ Binds K fd ps [] ∧ Zcu P w K mg base CX0 k f fd ps (sp3 K ps.length F)
theorem Zbv.mono {P:Program} {w:World} {K:PySem.W.Frag} {mg:Str → Option Value} {base:Heap} {C:Addr} {j k:Nat} {x:Str} {ps:List Str} {F:F3} (h:Zbv P w K mg base j C x ps F) (l:j ≤ k):Zbv P w K mg base k C x ps F:=
 let ⟨n,f,fd,a,b,d⟩:=h; ⟨n,f,fd,a,b,d.mono l⟩
theorem ZlV {ps:List Str} {F:F3} {a:D} {M1:Store} {n:Nat} (hi:ZiT c m a M1 = true):∃ n fs,a = .ref n ∧ M1[n]? = some (.ins c fs) ∧ fs.lookup m = none:=by
 cases a with
 | ref n=>
  simp only [ZiK] at hi
  cases hn:M1[n]? with
  | none=>simp [hn] at hi
  | some ob=>
   cases ob with
   | ins c' fs=>
    simp only [hn,Bool.and_eq_true,decide_eq_true_eq,Option.isNone_iff_eq_none] at hi
    obtain ⟨rfl,hl⟩:=hi
    exact ⟨n,fs,rfl,hn,hl⟩
   | _=>simp [hn] at hi
 | _=>exact ft hi
theorem Zaz {k:Nat} {ps:List Str} {F:F3} {pl:Sem Bool} (kc:Zfl X.K c C) (G:Zbv X.prog X.w X.K X.mg X.base k C fn ps F) (hr:Za4 k X.A) (ho:C3 X o f) (ha:CA X (e :: es) gl) (hf:fn = nm m:=by decide +kernel)
  (hst:starEach (e :: es) X.env = (false,eval e X.env) :: starEach es X.env:=by rfl) (hpl:(backTo pos (starEach es X.env)).any (·.1) = false:=by rfl)
  (ht:eval (.Call (.Attribute o fn apos) (e :: es) [] pos) X.env = (do
   let ov ← eval o X.env
   standAt apos.atName
   let (f,first) ← holding [ov] (getMethod ov fn pl)
   callWith pos f first (backTo pos (starEach (e :: es) X.env)) (backToKw pos (keywordEach [] X.env))):=by rfl):C3 X (.Call (.Attribute o fn apos) (e :: es) [] pos) (Zab c m F f gl):=by
 subst hf
 obtain ⟨hn,fa,fd,mt,bi,ok⟩:=G
 refine (ZnL ho kc.cls mt ok hr bi .nil ZjZ ha hst hpl ht).imp fun σ H Q zz1=>?_
 obtain ⟨ι,M,env,S,E,h⟩:=zz1
 obtain ⟨a,M1,e1,h⟩:=Zo.bind h
 refine ⟨ι,M,env,S,E,?_⟩
 rw [e1]
 intro v H1 ι1 x1 S1 r1
 split at h
 ·rename_i hi
  obtain ⟨n,fs,rfl,hm,hl⟩:=ZlV (ps:=ps) (F:=F) (n:=0) hi
  obtain ⟨p,hp,rfl⟩:=r1.ref_inv
  obtain ⟨dx,gs,q,fr⟩:=ZhL kc S1 hp hm
  refine ⟨p,dx,gs,rfl,q,(fr.look (f:=m)).1 hl,?_⟩
  obtain ⟨ds,M2,e2,h⟩:=Zo.bind h
  refine ⟨ι1,M1,env,S1,E.mono x1,?_⟩
  rw [e2]
  intro vs H2 ι2 x2 S2 r2
  have hl:(D.ref n :: ds).length = ps.length:=by
   refine Decidable.byContradiction fun q=>?_
   rw [hn _ M2 q] at h
   exact h.elim
  exact ⟨ι2,M2,_,S2,by rw [List.append_nil]; exact Zn.cons (r1.mono x2) r2,hl,h.up (x1.trans x2)⟩
 ·exact h.elim
theorem Zpo {k:Nat} {ps:List Str} {F:F3} {fa:Addr} {fd:FuncData} (at_:ClsAt X.K c C ∧ c.head? ≠ some 0) (Mc:Mk X.K C fa) (hF:∀ ds M,ds.length ≠ ps.length → F ds M = .bad) (ok:Zcu X.prog X.w X.K X.mg X.base CX0 k fa fd ps (sp3 X.K ps.length F)) (bi:Binds X.K fd ps []) (hm:X.mg x = some (.ref C)) (hr:Za4 (k + 1) X.A) (ha:CA X (e :: es) gl) (hg:Gl X x:=by rfl)
  (hdb:(x == ("__debug__":Str)) = false:=by decide) (he:starEach (e :: es) X.env = (false,eval e X.env) :: starEach es X.env:=by rfl) (hpl:(backTo pos (starEach es X.env)).any (·.1) = false:=by rfl):C3 X (.Call (.Name x p) (e :: es) [] pos) (Zko c F gl):=by
 refine (ZnZ Mc ok hr hg hm bi .nil ZjZ ha hdb he hpl).imp fun σ H Q zz1=>?_
 obtain ⟨ι,M,env,S,E,h⟩:=zz1
 obtain ⟨ds,M1,e1,h⟩:=Zo.bind h
 refine ⟨ι,M,env,S,E,?_⟩
 rw [e1]
 intro vs H1 ι1 x1 S1 r1 y dx hy hd ne
 have y2:upd H1 dx (.own y) y = none:=by rw [Zay (Ne.symm ne)]; exact hy
 have x2:Ext X.K H1 ι1 (upd H1 dx (.own y)) ι1:=Loose.ext (.inl hd)
 have S2:Zz X.K (upd H1 dx (.own y)) ι1 M1:=S1.other (.inl hd) (S1.fresh hd)
 have x3:Ext X.K (upd H1 dx (.own y)) ι1 (upd (upd H1 dx (.own y)) y (.ins C dx [])) (ι1 ++ [y]):=Loose.extA (.inl y2)
 have S3:Zz X.K (upd (upd H1 dx (.own y)) y (.ins C dx [])) (ι1 ++ [y]) (M1 ++ [.ins c []]):=S2.new y2 (.inl ⟨C,dx,[],Zbw,at_,FsR.nil⟩)
 have hy':(ι1 ++ [y])[M1.length]? = some y:=by rw [← S1.len]; simp
 have rr:Rep X.K (upd (upd H1 dx (.own y)) y (.ins C dx [])) (ι1 ++ [y]) (.ref M1.length) (.ref y):=Rep.ref hy'
 cases q:F (.ref M1.length :: ds) (M1 ++ [.ins c []]) with
 | bad=>simp only [q] at h; exact h.elim
 | exc _ _=>simp only [q] at h; exact h.elim
 | ok d M2=>
  have hl:(D.ref M1.length :: ds).length = ps.length:=by
   refine Decidable.byContradiction fun z=>?_
   rw [hF _ _ z] at q; cases q
  refine ⟨ι1 ++ [y],M1 ++ [.ins c []],.ref M1.length :: ds,S3,by rw [List.append_nil]; exact Zn.cons rr ((r1.mono x2).mono x3),hl,?_⟩
  rw [q]
  simp only [q] at h
  cases d with
  | non=>
   intro v H4 ι4 x4 S4 r4
   exact ⟨r4.non_inv,h _ H4 ι4 (((x1.trans x2).trans x3).trans x4) S4 (rr.mono x4)⟩
  | _=>exact h.elim
end
noncomputable def ZcQ (s:Stmt):List Stmt:=match s with
 | .ClassDef _ _ _ b _ _ _ _ _ _ _=>b
 | _=>[]
def Zco (K:PySem.W.Frag) (C:Addr) (m qual:Str) (st:Stmt) (ps:List Str):Prop:=∃ f fd,Fun K m qual st f fd ∧ Meth K C m f ∧ Binds K fd ps []
def Znx (K:PySem.W.Frag) (C:Addr) (qual:Str) (st:Stmt) (ps:List Str):Prop:=∃ f fd,Fun K "__init__" qual st f fd ∧ Mk K C f ∧ Binds K fd ps []
def Mk3 (P:Program) (w:World) (K:PySem.W.Frag) (mg:Str → Option Value) (base:Heap) (k:Nat) (C:Addr) (ps:List Str) (F:F3):Prop:=
 (∀ ds M,ds.length ≠ ps.length → F ds M = .bad) ∧ ∃ f fd,Mk K C f ∧ Binds K fd ps [] ∧ Zcu P w K mg base CX0 k f fd ps (sp3 K ps.length F)
section
variable {P:Program} {w:World} {K:PySem.W.Frag} {mg:Str → Option Value} {base:Heap} {C f:Addr} {m qual:Str} {st:Stmt} {N ps:List Str} {k:Nat} {body:S3} {oc:Value} {od an:Option Addr} {osl:Array (Option Value)} {dV kV doc pm cdv ct:Value}
theorem ZcF (a:PySem.W.findIn K (.ref C) m = some (some (.ref f))) (i:PySem.W.isFn K (.ref f) = true) (l:K.lookup f = some ⟨oc,od,.func (PySem.W.fnOf m qual (Zad st) (Zx st) (Zh st) dV kV doc pm an cdv ct),osl⟩)
  (c:PySem.W.codeIn K cdv qual = true) (kp:PySem.W.keepIn K (.ref f) = true) (b:Binds K (PySem.W.fnOf m qual (Zad st) (Zx st) (Zh st) dV kV doc pm an cdv ct) ps []):Zco K C m qual st ps:=
 ⟨f,_,⟨⟨oc,od,dV,kV,doc,pm,an,cdv,ct,osl,rfl,l,c⟩,kp⟩,⟨a,i,kp⟩,b⟩
theorem ZnX (mk:PySem.W.makesIn K C = true) (kc:PySem.W.keepIn K (.ref C) = true) (a:PySem.W.findIn K (.ref C) "__init__" = some (some (.ref f))) (i:PySem.W.isFn K (.ref f) = true) (l:K.lookup f = some ⟨oc,od,.func (PySem.W.fnOf "__init__" qual (Zad st) (Zx st) (Zh st) dV kV doc pm an cdv ct),osl⟩)
  (c:PySem.W.codeIn K cdv qual = true) (kp:PySem.W.keepIn K (.ref f) = true) (b:Binds K (PySem.W.fnOf "__init__" qual (Zad st) (Zx st) (Zh st) dV kV doc pm an cdv ct) ps []):Znx K C qual st ps:=
 ⟨f,_,⟨⟨oc,od,dV,kV,doc,pm,an,cdv,ct,osl,rfl,l,c⟩,kp⟩,⟨mk,a,i,kc⟩,b⟩
theorem Zbv.of (d:Zco K C m qual st ps) (S:Zai N ps (Zh st))
  (hb:∀ (f:Addr) (cdv:Value) (A:Around) (outer:List Env) (s:Shared) (H:Hp) (E:XK),Za4 k (A.deeper (envOfC qual (Zh st) s.heap.objs.size f cdv)) → CSs (ZfJ CX0 P w K mg base N qual (Zh st) f cdv A outer s H E).nox (Zx st) body):
  Zbv P w K mg base (k + 1) C m ps (mkF ps.length N.length body):=by
 obtain ⟨f,fd,F,mt,bi⟩:=d
 exact ⟨fun ds M h=>if_neg h,f,fd,mt,bi,fn3 F S (hb f)⟩
theorem Mk3.of (d:Znx K C qual st ps) (S:Zai N ps (Zh st))
  (hb:∀ (f:Addr) (cdv:Value) (A:Around) (outer:List Env) (s:Shared) (H:Hp) (E:XK),Za4 k (A.deeper (envOfC qual (Zh st) s.heap.objs.size f cdv)) → CSs (ZfJ CX0 P w K mg base N qual (Zh st) f cdv A outer s H E).nox (Zx st) body):
  Mk3 P w K mg base (k + 1) C ps (mkF ps.length N.length body):=by
 obtain ⟨f,fd,F,mk,bi⟩:=d
 exact ⟨fun ds M h=>if_neg h,f,fd,mk,bi,fn3 F S (hb f)⟩
end
theorem Zt9 {X:Cx} {e:Expr} {es:List Expr} {gl:EL3} {c:List Nat} {C:Addr} {pos p:Pos} {x:Str} {k:Nat} {ps:List Str} {F:F3} (kc:Zfl X.K c C) (G:Mk3 X.prog X.w X.K X.mg X.base k C ps F) (hm:X.mg x = some (.ref C)) (hr:Za4 (k + 1) X.A) (ha:CA X (e :: es) gl) (hg:Gl X x:=by rfl)
  (hdb:(x == ("__debug__":Str)) = false:=by decide) (he:starEach (e :: es) X.env = (false,eval e X.env) :: starEach es X.env:=by rfl) (hpl:(backTo pos (starEach es X.env)).any (·.1) = false:=by rfl):C3 X (.Call (.Name x p) (e :: es) [] pos) (Zko c F gl):=by
 obtain ⟨hF,f,fd,mk,bi,ok⟩:=G
 exact Zpo ⟨kc.at_,kc.nz⟩ mk hF ok bi hm hr ha hg hdb he hpl
end L3
namespace L3
open PySem PySem.Spec PyProof.Rows L2
noncomputable def ZpA (K:PySem.W.Frag) (d:List Str) (v:Value):Bool:=match v with
 | .ref a=>(match K.lookup a with
  | some o=>o.cls == .type "tuple" && o.dict.isNone && (match o.data with | .seq vs _=>decide (vs.size ≤ 1000) && KTD.strsLook vs.toList d | _=>false)
  | none=>false)
 | _=>false
noncomputable def Zrh (t:Zlw):List (Str × List Str):=t.map fun p=>(⟨p.1.toArray⟩,p.2.map fun y=>⟨y.toArray⟩)
def Zrs (K:PySem.W.Frag) (d:List Str) (v:Value):Prop:=∃ a,v = .ref a ∧ ∀ H,SqT K H a (d.map V.str)
theorem Zkz:∀ {vs:List Value} {d:List Str},StrsAre vs d → Vals (d.map V.str) vs:=by
 intro vs d h
 induction h with
 | nil=>exact .nil
 | cons _ _ _ ih=>exact .cons ⟨_,rfl⟩ ih
theorem ZnB {K:PySem.W.Frag} {d:List Str} {v:Value} (h:ZpA K d v = true):Zrs K d v:=by
 unfold ZpA at h
 split at h
 ·rename_i a
  refine ⟨a,rfl,fun H=>?_⟩
  split at h
  ·rename_i o ho
   simp only [Bool.and_eq_true] at h
   obtain ⟨⟨h1,h2⟩,h3⟩:=h
   split at h3
   ·rename_i vs n hd
    simp only [Bool.and_eq_true,decide_eq_true_eq] at h3
    exact .inr ⟨o,vs,n,ho,⟨beq_iff_eq.mp h1,by simpa using h2⟩,hd,Nat.le_trans h3.1 (by rw [sizeLine_eq]; decide),Zkz (KTD.strs_of_look h3.2)⟩
   ·cases h3
  ·cases h
 ·cases h
abbrev Zsv (K:PySem.W.Frag) (a:Addr) (t:Zlw):Prop:=KTD.tabLook (ZpA K) (fun b=>K.lookup b) a (Zrh t) = true
theorem Zsv.at {K:PySem.W.Frag} {a:Addr} {t:Zlw} {h:Heap} (T:Zsv K a t) (X:K.In h):KTD.TabOf (Zrs K) h a (Zrh t):=KTD.tab_of_look (fun _ _ q=>ZnB q) X T
section
variable {prog:Program} {w:World} {A:Around} {E:Value → Shared → Prop} {s:Shared} {a:Addr} {K:PySem.W.Frag} {t:Zlw} {x:List Nat} {tk:Tok}
theorem Zf4 {δ:Type} {R:δ → Value → Prop} {T:List (Str × δ)} (h:KTD.TabOf R s.heap a T):s.TypeIs (.ref a) "dict":=let ⟨_,o,_,_,ho,hc,_⟩:=h; ⟨o,ho,hc.1⟩
theorem ZmI {δ:Type} {R:δ → Value → Prop} {T:List (Str × δ)} {k:Str} {Q:Option Value → Shared → Prop} (h:KTD.TabOf R s.heap a T)
  (hs:∀ d v,KTD.datumAt k T = some d → R d v → Q (some v) { s with toks:=s.toks + 1 }) (hn:KTD.datumAt k T = none → Q none { s with toks:=s.toks + 1 }):wpAny (model prog w) A (dictGet a (.str k tk)) Q E s:=by
 obtain ⟨_,o,es,ep,ho,hc,hd,hr⟩:=h
 unfold dictGet
 try with_reducible refine wpAny_holding ?_
 refine wpAny_bind (wpAny_pyHash_str (wpAny_bind (KTD.kt_dictFind_strs (s:={ s with toks:=s.toks + 1 }) ho hd (by obtain ⟨es⟩:=es; simpa using hr.exact) ?_)))
 have key:Q (findBy (fun q v=>v.isStr q) es k) { s with toks:=s.toks + 1 }:=by
  rw [show findBy (fun q v=>v.isStr q) es k = (es.toList.find? fun z=>z.key.isStr k).map (·.val) by obtain ⟨es⟩:=es; simp [findBy]]
  cases e:KTD.datumAt k T with
  | none=>rw [hr.find_none e]; exact hn e
  | some d=>
   obtain ⟨v,hv,r⟩:=hr.find_some e
   rw [hv]; exact hs d v e r
 rw [findBy_of_findIdx?] at key
 cases e:es.findIdx? fun z=>z.key.isStr k with
 | none=>rw [e] at key; exact wpAny_pure key
 | some j=>rw [e] at key; exact wpAny_bind (wpAny_dictEntries (s:={ s with toks:=s.toks + 1 }) ho hd (wpAny_pure key))
end
section
variable {X:Cx} {e:Expr} {x:Str} {a:Addr} {t:Zlw} {npos apos cpos pos:Pos} {g:E3}
end
end L3
namespace L3
open PySem PySem.Spec PyProof.Rows L2
set_option maxRecDepth 100000
def obK (b:Bool) (h:Heap) (l:Addr) (its:Array Value):Prop:=match b with
 | true=>h.IsList l its
 | false=>h.IsTuple l its
def itK (b:Bool) (h:Heap) (it l:Addr) (i:Nat):Prop:=match b with
 | true=>h.IsListIter it l i
 | false=>h.IsTupleIter it l i
def sqK (b:Bool) (K:PySem.W.Frag) (H:Hp) (l:Addr) (xs:List V):Prop:=match b with
 | true=>SqL K H l xs
 | false=>SqT K H l xs
noncomputable def itT:Bool → String
 | true=>"list_iterator"
 | false=>"tuple_iterator"
theorem obK.keep {b:Bool} {h h':Heap} {l:Addr} {its:Array Value} (k:∀ o,h.get? l = some o → h'.get? l = some o) (x:obK b h l its):obK b h' l its:=by
 cases b with
 | true=>exact Heap.IsList.at x k
 | false=>exact Heap.IsTuple.at x k
theorem itK.keep {b:Bool} {h h':Heap} {it l:Addr} {i:Nat} (k:∀ o,h.get? it = some o → h'.get? it = some o) (x:itK b h it l i):itK b h' it l i:=by
 cases b with
 | true=>exact Heap.IsListIter.at x k
 | false=>exact Heap.IsTupleIter.at x k
theorem itK.there {b:Bool} {h:Heap} {it l:Addr} {i:Nat} (x:itK b h it l i):∃ o,h.get? it = some o ∧ ∀ v,o.data ≠ .cell v:=by
 cases b with
 | true=>obtain ⟨o,ho,_,d⟩:=x; exact ⟨o,ho,fun v z=>by rw [d] at z; cases z⟩
 | false=>obtain ⟨o,ho,_,d⟩:=x; exact ⟨o,ho,fun v z=>by rw [d] at z; cases z⟩
theorem obK.there {b:Bool} {h:Heap} {l:Addr} {its:Array Value} (x:obK b h l its):l < h.objs.size:=by
 cases b with
 | true=>obtain ⟨o,ho,_⟩:=x; exact Heap.lt_size ho
 | false=>obtain ⟨o,ho,_⟩:=x; exact Heap.lt_size ho
theorem sqK.at {b:Bool} {X:Cx} {pins:List (Addr × Obj)} {σ:St} {H:Hp} {s:Shared} {l:Addr} {xs:List V} (I:Inv X pins σ H s) (x:sqK b X.K H l xs):∃ its:List Value,Vals xs its ∧ obK b s.heap l its.toArray:=by
 cases b with
 | true=>obtain ⟨its,r,p,_⟩:=I.list x; exact ⟨its,r,p.isList⟩
 | false=>obtain ⟨its,r,p,_⟩:=I.tuple x; exact ⟨its,r,p⟩
section
variable {prog:Program} {w:World} {A:Around} {E:Value → Shared → Prop} {s:Shared}
theorem nextK {b:Bool} {it l:Addr} {i:Nat} {its:Array Value} {x:Value} {Q:Value → Shared → Prop} (hi:itK b s.heap it l i) (ho:obK b s.heap l its) (hx:its[i]? = some x)
  (hQ:∀ h',itK b h' it l (i + 1) → Heap.SameBut it s.heap h' → Q x { s with heap:=h' }):wpAny (model prog w) A (Builtin.SmallTypes.nextOf (.ref it)) Q E s:=by
 cases b with
 | true=>exact wpAny_nextOf_list_item hi ho hx hQ
 | false=>exact ZcP hi ho hx hQ
theorem ZdQ {b:Bool} {it l:Addr} {i:Nat} {its:Array Value} {Q:Value → Shared → Prop} (hh:A.handled = none) (hi:itK b s.heap it l i) (ho:obK b s.heap l its) (hx:its[i]? = none)
  (hE:∀ h' e,Heap.ExtBut it s.heap h' → (∃ o,h'.get? e = some o ∧ o.cls = .type "StopIteration") → E (.ref e) { s with heap:=h' }):wpAny (model prog w) A (Builtin.SmallTypes.nextOf (.ref it)) Q E s:=by
 cases b with
 | true=>exact wpAny_nextOf_list_end hh hi ho hx hE
 | false=>exact Zca hh hi ho hx hE
theorem ZoV {b:Bool} {l:Addr} {its:Array Value} {Q:Value → Shared → Prop} (ho:obK b s.heap l its) (h:Q (.ref s.heap.objs.size) { s with heap:=s.heap.push { cls:=.type (itT b),data:=.fields #[.ref l,.int 0 0] } }):
  wpAny (model prog w) A (pyIter (.ref l)) Q E s:=by
 cases b with
 | true=>exact wpAny_pyIter_list ho h
 | false=>exact wpAny_pyIter_tuple ho h
theorem itK.new {b:Bool} {h:Heap} {it l:Addr} (e:h.get? it = some { cls:=.type (itT b),data:=.fields #[.ref l,.int 0 0] }):itK b h it l 0:=by
 cases b with
 | true=>exact ⟨_,e,rfl,rfl⟩
 | false=>exact ⟨_,e,rfl,rfl⟩
theorem ZkF {b1 b2:Bool} {z TI TO i1 i2 l1 l2:Addr} {k1 k2:Nat} {xs ys:Array Value} {x y a b:Value} {Q:Value → Shared → Prop} (D:ZipApart z TI TO i1 i2 l1 l2)
  (hz:IsZip s.heap z TI TO .none) (hTI:IsPair s.heap TI (.ref i1) (.ref i2)) (hTO:IsPair s.heap TO a b)
  (h1:itK b1 s.heap i1 l1 k1) (h2:itK b2 s.heap i2 l2 k2) (hl1:obK b1 s.heap l1 xs) (hl2:obK b2 s.heap l2 ys) (hx:xs[k1]? = some x) (hy:ys[k2]? = some y)
  (hQ:∀ h',IsZip h' z TI TO (rawInt s.heap.objs.size) → IsPair h' TO x y → itK b1 h' i1 l1 (k1 + 1) → itK b2 h' i2 l2 (k2 + 1) → IsPair h' s.heap.objs.size x y →
   (∀ c o,c ≠ z → c ≠ TO → c ≠ i1 → c ≠ i2 → s.heap.get? c = some o → h'.get? c = some o) → Q (.ref s.heap.objs.size) { s with heap:=h' }):
  wpAny (model prog w) A (Builtin.«zip.__next__» ⟨[.ref z],[]⟩) (fun fin s'=>∃ v,fin = .done (.ret v) ∧ Q v s') E s:=by
 show wpAny _ _ (field (.ref z) 2 >>= fun o=>_) _ _ _
 refine wpAny_bind (wpAny_field hz rfl (x:=.bool false) rfl (show wpAny _ _ (field (.ref z) 3 >>= fun o=>_) _ _ _ from ?_))
 refine wpAny_bind (wpAny_field hz rfl (x:=.ref TI) rfl (wpAny_bind (wpAny_seqItems hTI rfl ?_)))
 refine (show wpAny _ _ (Builtin.SmallTypes.ownedTupleIsFree (.ref z) >>= fun o=>_) _ _ _ from wpAny_bind ?_)
 unfold Builtin.SmallTypes.ownedTupleIsFree
 refine wpAny_bind (wpAny_field hz rfl (x:=.none) rfl (wpAny_pure ?_)); simp only [if_true]
 refine wpAny_bind (wpAny_rule (wpAny_bind (wpAny_field hz rfl (x:=.ref TO) rfl ?_)))
 refine wpAny_bind (wpAny_setField_rec hz (by simp) fun g1 hz1 hs1=>wpAny_bind ?_)
 replace hz1:IsZip g1 z TI TO .ellipsis:=hz1
 simp only [List.zipIdx_cons,List.zipIdx_nil,List.forIn_cons,List.forIn_nil]
 refine wpAny_bind (wpAny_bind (wpAny_onRaise (show wpAny _ _ (Builtin.SmallTypes.nextOf (.ref i1) >>= fun o=>_) _ _ _ from ?_)))
 refine wpAny_bind (nextK (h1.keep fun o q=>hs1.extBut _ o D.i1z q) (hl1.keep fun o q=>hs1.extBut _ o D.l1z q) hx fun g2 h12 hs2=>wpAny_pure ?_)
 have hTO2:IsPair g2 TO a b:=hs2.extBut _ _ D.TOi1 (hs1.extBut _ _ D.TOz hTO)
 refine wpAny_bind (wpAny_seqItems hTO2 rfl (wpAny_bind (wpAny_updateSeq_pair hTO2 fun g3 hTO3 hs3=>?_)))
 replace hTO3:IsPair g3 TO x b:=hTO3
 refine wpAny_bind (wpAny_letGo (wpAny_pure (wpAny_bind (wpAny_bind (wpAny_onRaise (show wpAny _ _ (Builtin.SmallTypes.nextOf (.ref i2) >>= fun o=>_) _ _ _ from ?_))))))
 refine wpAny_bind (nextK (h2.keep fun o q=>hs3.extBut _ o D.TOi2.symm (hs2.extBut _ o D.i12.symm (hs1.extBut _ o D.i2z q))) (hl2.keep fun o q=>hs3.extBut _ o D.l2TO (hs2.extBut _ o D.l2i1 (hs1.extBut _ o D.l2z q))) hy fun g4 h24 hs4=>wpAny_pure ?_)
 have hTO4:IsPair g4 TO x b:=hs4.extBut _ _ D.TOi2 hTO3
 refine wpAny_bind (wpAny_seqItems hTO4 rfl (wpAny_bind (wpAny_updateSeq_pair hTO4 fun g5 hTO5 hs5=>?_)))
 replace hTO5:IsPair g5 TO x y:=hTO5
 refine wpAny_bind (wpAny_letGo (wpAny_pure (wpAny_pure (wpAny_bind (wpAny_seqItems hTO5 rfl (wpAny_bind (wpAny_newTuple ?_)))))))
 have hsz:g5.objs.size = s.heap.objs.size:=by rw [hs5.1,hs4.1,hs3.1,hs2.1,hs1.1]
 have hz5:IsZip g5 z TI TO .ellipsis:=hs5.extBut _ _ D.TOz.symm (hs4.extBut _ _ D.i2z.symm (hs3.extBut _ _ D.TOz.symm (hs2.extBut _ _ D.i1z.symm hz1)))
 have hk5:∀ c o,c ≠ z → c ≠ TO → c ≠ i1 → c ≠ i2 → s.heap.get? c = some o → g5.get? c = some o:=fun c o c1 c2 c3 c4 e=>
  hs5.extBut _ _ c2 (hs4.extBut _ _ c4 (hs3.extBut _ _ c2 (hs2.extBut _ _ c3 (hs1.extBut _ _ c1 e))))
 have h15:itK b1 g5 i1 l1 (k1 + 1):=h12.keep fun o q=>hs5.extBut _ o D.TOi1.symm (hs4.extBut _ o D.i12 (hs3.extBut _ o D.TOi1.symm q))
 have h25:itK b2 g5 i2 l2 (k2 + 1):=h24.keep fun o q=>hs5.extBut _ o D.TOi2.symm q
 have hzlt:z < g5.objs.size:=Heap.lt_size hz5
 refine (show wpAny _ _ (Builtin.SmallTypes.ownedTupleHandOut (.ref z) (.ref g5.objs.size) >>= fun o=>_) _ _ _ from wpAny_bind ?_)
 unfold Builtin.SmallTypes.ownedTupleHandOut
 have hz6:IsZip (g5.push { cls:=.type "tuple",data:=.seq #[x,y] }) z TI TO .ellipsis:=Heap.get?_push_of_some _ hz5
 refine wpAny_bind (wpAny_setField_rec hz6 (by simp) fun g7 hz7 hs7=>?_)
 replace hz7:IsZip g7 z TI TO (rawInt g5.objs.size):=hz7
 refine wpAny_setField_rec hz7 (by simp) fun g8 hz8 hs8=>?_
 replace hz8:IsZip g8 z TI TO (rawInt g5.objs.size):=hz8
 have up:∀ c o,c ≠ z → g5.get? c = some o → g8.get? c = some o:=fun c o c1 e=>hs8.extBut _ _ c1 (hs7.extBut _ _ c1 (Heap.get?_push_of_some _ e))
 have hT8:IsPair g8 g5.objs.size x y:=hs8.extBut _ _ (Nat.ne_of_gt hzlt) (hs7.extBut _ _ (Nat.ne_of_gt hzlt) (Heap.get?_push_size _ rfl))
 rw [hsz] at hz8 hT8
 refine wpAny_pure ⟨_,rfl,(show Q (.ref g5.objs.size) _ from ?_)⟩
 rw [hsz]
 exact hQ g8 hz8 (up _ _ D.TOz hTO5) (h15.keep fun o e=>up _ o D.i1z e) (h25.keep fun o e=>up _ o D.i2z e) hT8 fun c o c1 c2 c3 c4 e=>up c o c1 (hk5 c o c1 c2 c3 c4 e)
theorem ZlL {b1 b2:Bool} {z TI TO i1 i2 l1 l2:Addr} {k1 k2:Nat} {xs ys:Array Value} {a b:Value} {Q:Fin → Shared → Prop} (hh:A.handled = none) (D:ZipApart z TI TO i1 i2 l1 l2)
  (hz:IsZip s.heap z TI TO .none) (hTI:IsPair s.heap TI (.ref i1) (.ref i2)) (hTO:IsPair s.heap TO a b)
  (h1:itK b1 s.heap i1 l1 k1) (h2:itK b2 s.heap i2 l2 k2) (hl1:obK b1 s.heap l1 xs) (hl2:obK b2 s.heap l2 ys) (hend:xs[k1]? = none ∨ ys[k2]? = none)
  (hE:∀ h' e,(∀ c o,c ≠ z → c ≠ TO → c ≠ i1 → c ≠ i2 → s.heap.get? c = some o → h'.get? c = some o) → (∃ o,h'.get? e = some o ∧ o.cls = .type "StopIteration") → E (.ref e) { s with heap:=h' }):
  wpAny (model prog w) A (Builtin.«zip.__next__» ⟨[.ref z],[]⟩) Q E s:=by
 show wpAny _ _ (field (.ref z) 2 >>= fun o=>_) _ _ _
 refine wpAny_bind (wpAny_field hz rfl (x:=.bool false) rfl (show wpAny _ _ (field (.ref z) 3 >>= fun o=>_) _ _ _ from ?_))
 refine wpAny_bind (wpAny_field hz rfl (x:=.ref TI) rfl (wpAny_bind (wpAny_seqItems hTI rfl ?_)))
 refine (show wpAny _ _ (Builtin.SmallTypes.ownedTupleIsFree (.ref z) >>= fun o=>_) _ _ _ from wpAny_bind ?_)
 unfold Builtin.SmallTypes.ownedTupleIsFree
 refine wpAny_bind (wpAny_field hz rfl (x:=.none) rfl (wpAny_pure ?_)); simp only [if_true]
 refine wpAny_bind (wpAny_rule (wpAny_bind (wpAny_field hz rfl (x:=.ref TO) rfl ?_)))
 refine wpAny_bind (wpAny_setField_rec hz (by simp) fun g1 hz1 hs1=>wpAny_bind ?_)
 replace hz1:IsZip g1 z TI TO .ellipsis:=hz1
 simp only [List.zipIdx_cons,List.zipIdx_nil,List.forIn_cons,List.forIn_nil]
 refine wpAny_bind (wpAny_bind (wpAny_onRaise (show wpAny _ _ (Builtin.SmallTypes.nextOf (.ref i1) >>= fun o=>_) _ _ _ from ?_)))
 have h11:itK b1 g1 i1 l1 k1:=h1.keep fun o q=>hs1.extBut _ o D.i1z q
 have hl11:obK b1 g1 l1 xs:=hl1.keep fun o q=>hs1.extBut _ o D.l1z q
 cases hx:xs[k1]? with
 | none=>
  refine wpAny_bind (ZdQ hh h11 hl11 hx fun g2 e hs2 he=>?_)
  obtain ⟨oe,hoe,hce⟩:=he
  have hz2:IsZip g2 z TI TO .ellipsis:=hs2 _ _ D.i1z.symm hz1
  have hez:e ≠ z:=fun q=>by subst q; rw [hz2] at hoe; cases hoe; simp at hce
  exact wpAny_setField_rec hz2 (by simp) fun g3 _ hs3=>hE g3 e (fun c o c1 _ c3 _ q=>hs3.extBut _ _ c1 (hs2 _ _ c3 (hs1.extBut _ _ c1 q))) ⟨oe,hs3.extBut _ _ hez hoe,hce⟩
 | some x=>
  have hy:ys[k2]? = none:=by rcases hend with q | q; rw [hx] at q; cases q; exact q
  refine wpAny_bind (nextK h11 hl11 hx fun g2 h12 hs2=>wpAny_pure ?_)
  have hTO2:IsPair g2 TO a b:=hs2.extBut _ _ D.TOi1 (hs1.extBut _ _ D.TOz hTO)
  refine wpAny_bind (wpAny_seqItems hTO2 rfl (wpAny_bind (wpAny_updateSeq_pair hTO2 fun g3 hTO3 hs3=>?_)))
  refine wpAny_bind (wpAny_letGo (wpAny_pure (wpAny_bind (wpAny_bind (wpAny_onRaise (show wpAny _ _ (Builtin.SmallTypes.nextOf (.ref i2) >>= fun o=>_) _ _ _ from ?_))))))
  refine wpAny_bind (ZdQ hh (h2.keep fun o q=>hs3.extBut _ o D.TOi2.symm (hs2.extBut _ o D.i12.symm (hs1.extBut _ o D.i2z q))) (hl2.keep fun o q=>hs3.extBut _ o D.l2TO (hs2.extBut _ o D.l2i1 (hs1.extBut _ o D.l2z q))) hy fun g4 e hs4 he=>?_)
  obtain ⟨oe,hoe,hce⟩:=he
  have hz4:IsZip g4 z TI TO .ellipsis:=hs4 _ _ D.i2z.symm (hs3.extBut _ _ D.TOz.symm (hs2.extBut _ _ D.i1z.symm hz1))
  have hez:e ≠ z:=fun q=>by subst q; rw [hz4] at hoe; cases hoe; simp at hce
  exact wpAny_setField_rec hz4 (by simp) fun g5 _ hs5=>hE g5 e (fun c o c1 c2 c3 c4 q=>hs5.extBut _ _ c1 (hs4 _ _ c4 (hs3.extBut _ _ c2 (hs2.extBut _ _ c3 (hs1.extBut _ _ c1 q))))) ⟨oe,hs5.extBut _ _ hez hoe,hce⟩
theorem Zhg {b1 b2:Bool} {z TI TO i1 i2 l1 l2:Addr} {k1 k2:Nat} {xs ys:Array Value} {x y a b:Value} {Q:Option Value → Shared → Prop} (D:ZipApart z TI TO i1 i2 l1 l2)
  (hz:IsZip s.heap z TI TO .none) (hTI:IsPair s.heap TI (.ref i1) (.ref i2)) (hTO:IsPair s.heap TO a b)
  (h1:itK b1 s.heap i1 l1 k1) (h2:itK b2 s.heap i2 l2 k2) (hl1:obK b1 s.heap l1 xs) (hl2:obK b2 s.heap l2 ys) (hx:xs[k1]? = some x) (hy:ys[k2]? = some y)
  (hQ:∀ h',IsZip h' z TI TO (rawInt s.heap.objs.size) → IsPair h' TO x y → itK b1 h' i1 l1 (k1 + 1) → itK b2 h' i2 l2 (k2 + 1) → IsPair h' s.heap.objs.size x y →
   (∀ c o,c ≠ z → c ≠ TO → c ≠ i1 → c ≠ i2 → s.heap.get? c = some o → h'.get? c = some o) → Q (some (.ref s.heap.objs.size)) { s with heap:=h' }):
  wpAny (model prog w) A (pyNext (.ref z)) Q E s:=by
 have hT:s.TypeIs (.ref z) "zip":=⟨_,hz,rfl⟩
 unfold pyNext
 exact wpAny_bind (wpAny_attempt (wpAny_callSpecial?_slot (name:=Str.ofString "__next__") hT F.slot_zip_next (wpAny_call_entry F.slot_zip_next hT F.entry_zip_next
  (ZkF D hz hTI hTO h1 h2 hl1 hl2 hx hy fun h' a1 a2 a3 a4 a5 a6=>wpAny_pure (hQ h' a1 a2 a3 a4 a5 a6)) (F.args_zip_next_1 _))))
theorem Zil {b1 b2:Bool} {z TI TO i1 i2 l1 l2:Addr} {k1 k2:Nat} {xs ys:Array Value} {a b:Value} {Q:Option Value → Shared → Prop} (hh:A.handled = none) (D:ZipApart z TI TO i1 i2 l1 l2)
  (hz:IsZip s.heap z TI TO .none) (hTI:IsPair s.heap TI (.ref i1) (.ref i2)) (hTO:IsPair s.heap TO a b)
  (h1:itK b1 s.heap i1 l1 k1) (h2:itK b2 s.heap i2 l2 k2) (hl1:obK b1 s.heap l1 xs) (hl2:obK b2 s.heap l2 ys) (hend:xs[k1]? = none ∨ ys[k2]? = none)
  (hQ:∀ h',(∀ c o,c ≠ z → c ≠ TO → c ≠ i1 → c ≠ i2 → s.heap.get? c = some o → h'.get? c = some o) → Q none { s with heap:=h' }):wpAny (model prog w) A (pyNext (.ref z)) Q E s:=by
 have hT:s.TypeIs (.ref z) "zip":=⟨_,hz,rfl⟩
 unfold pyNext
 refine wpAny_bind (wpAny_attempt (wpAny_callSpecial?_slot (name:=Str.ofString "__next__") hT F.slot_zip_next (wpAny_call_entry F.slot_zip_next hT F.entry_zip_next
  (ZlL hh D hz hTI hTO h1 h2 hl1 hl2 hend fun h' e hk he=>?_) (F.args_zip_next_1 _))))
 obtain ⟨o,ho,hc⟩:=he
 exact wpAny_bind (wpAny_isInstance (T:="StopIteration") (b:=true) ⟨o,ho,hc⟩ isSubtype_stop (wpAny_pure (hQ _ hk)))
end
noncomputable abbrev zK1 (b:Bool) (h:Heap) (l:Addr):Heap:=h.push { cls:=.type (itT b),data:=.fields #[.ref l,.int 0 0] }
noncomputable abbrev zK3 (b1 b2:Bool) (h:Heap) (l1 l2:Addr):Heap:=(zK1 b2 (zK1 b1 h l1) l2).push { cls:=.type "tuple",data:=.seq #[.ref h.objs.size,.ref (zK1 b1 h l1).objs.size] }
noncomputable abbrev zK4 (b1 b2:Bool) (h:Heap) (l1 l2:Addr):Heap:=(zK3 b1 b2 h l1 l2).push { cls:=.type "tuple",data:=.seq #[.none,.none] }
noncomputable abbrev zK5 (b1 b2:Bool) (h:Heap) (l1 l2:Addr):Heap:=(zK4 b1 b2 h l1 l2).push { cls:=.type "zip",data:=.fields #[.none,.bool false,.bool false,.ref (zK1 b2 (zK1 b1 h l1) l2).objs.size,.ref (zK3 b1 b2 h l1 l2).objs.size] }
theorem ZjQ (b1 b2:Bool) (l1 l2:Addr) (xs ys:Array Value):
  Meets (Builtin.«zip.__new__» ⟨[.type "zip",.ref l1,.ref l2],[]⟩) (fun _ R s=>obK b1 s.heap l1 xs ∧ obK b2 s.heap l2 ys ∧ R (.ok (.ret (.ref (zK4 b1 b2 s.heap l1 l2).objs.size))) { s with heap:=zK5 b1 b2 s.heap l1 l2 }):=
 .of_wp fun prog w A R s h=>by
  obtain ⟨hp,g,d,tk,os⟩:=s; obtain ⟨hl1,hl2,h⟩:=h
  have hsub:=sub_zip
  have hL1:obK b1 (Shared.heap ⟨hp,g,d,tk,os⟩) l1 xs:=hl1
  have hL2:obK b2 (Shared.heap ⟨zK1 b1 hp l1,g,d,tk,os⟩) l2 ys:=hl2.keep fun o q=>Heap.get?_push_of_some _ q
  wp_walk using ZoV hL1,ZoV hL2
  exact ⟨_,rfl,h⟩
theorem ZkR {prog:Program} {w:World} {A:Around} {E:Value → Shared → Prop} {s:Shared} {b1 b2:Bool} {l1 l2:Addr} {xs ys:Array Value} {Q:Value → Shared → Prop} (hl1:obK b1 s.heap l1 xs) (hl2:obK b2 s.heap l2 ys)
  (h:∀ h',IsZip h' (s.heap.objs.size + 4) (s.heap.objs.size + 2) (s.heap.objs.size + 3) .none → IsPair h' (s.heap.objs.size + 2) (.ref s.heap.objs.size) (.ref (s.heap.objs.size + 1)) →
   IsPair h' (s.heap.objs.size + 3) .none .none → itK b1 h' s.heap.objs.size l1 0 → itK b2 h' (s.heap.objs.size + 1) l2 0 → (∀ c o,s.heap.get? c = some o → h'.get? c = some o) → Q (.ref (s.heap.objs.size + 4)) { s with heap:=h' }):
  wpAny (model prog w) A (call (.type "zip") [.ref l1,.ref l2]) Q E s:=by
 refine callType_new F.called_zip (by decide) (F.typeCall_zip_2 _ _) (F.newCall_zip_2 _ _) (fun obj=>F.args_object_init_3 obj _ _) F.entry_zip_new (ZjQ b1 b2 l1 l2 xs ys) ⟨hl1,hl2,?_⟩
 have z1:(zK1 b1 s.heap l1).objs.size = s.heap.objs.size + 1:=Heap.size_push ..
 have z2:(zK1 b2 (zK1 b1 s.heap l1) l2).objs.size = s.heap.objs.size + 2:=(Heap.size_push ..).trans (by rw [z1])
 have z3:(zK3 b1 b2 s.heap l1 l2).objs.size = s.heap.objs.size + 3:=(Heap.size_push ..).trans (by rw [z2])
 have z4:(zK4 b1 b2 s.heap l1 l2).objs.size = s.heap.objs.size + 4:=(Heap.size_push ..).trans (by rw [z3])
 have p5:∀ {c o},(zK4 b1 b2 s.heap l1 l2).get? c = some o → (zK5 b1 b2 s.heap l1 l2).get? c = some o:=fun q=>Heap.get?_push_of_some _ q
 have p4:∀ {c o},(zK3 b1 b2 s.heap l1 l2).get? c = some o → (zK5 b1 b2 s.heap l1 l2).get? c = some o:=fun q=>p5 (Heap.get?_push_of_some _ q)
 have p3:∀ {c o},(zK1 b2 (zK1 b1 s.heap l1) l2).get? c = some o → (zK5 b1 b2 s.heap l1 l2).get? c = some o:=fun q=>p4 (Heap.get?_push_of_some _ q)
 have p2:∀ {c o},(zK1 b1 s.heap l1).get? c = some o → (zK5 b1 b2 s.heap l1 l2).get? c = some o:=fun q=>p3 (Heap.get?_push_of_some _ q)
 have g5:(zK5 b1 b2 s.heap l1 l2).get? (zK4 b1 b2 s.heap l1 l2).objs.size = some { cls:=.type "zip",data:=.fields #[.none,.bool false,.bool false,.ref (zK1 b2 (zK1 b1 s.heap l1) l2).objs.size,.ref (zK3 b1 b2 s.heap l1 l2).objs.size] }:=Heap.get?_push_size _ rfl
 have g4:(zK5 b1 b2 s.heap l1 l2).get? (zK3 b1 b2 s.heap l1 l2).objs.size = some { cls:=.type "tuple",data:=.seq #[.none,.none] }:=p5 (Heap.get?_push_size _ rfl)
 have g3:(zK5 b1 b2 s.heap l1 l2).get? (zK1 b2 (zK1 b1 s.heap l1) l2).objs.size = some { cls:=.type "tuple",data:=.seq #[.ref s.heap.objs.size,.ref (zK1 b1 s.heap l1).objs.size] }:=p4 (Heap.get?_push_size _ rfl)
 have g2:(zK5 b1 b2 s.heap l1 l2).get? (zK1 b1 s.heap l1).objs.size = some { cls:=.type (itT b2),data:=.fields #[.ref l2,.int 0 0] }:=p3 (Heap.get?_push_size _ (by cases b2 <;> rfl))
 have g1:(zK5 b1 b2 s.heap l1 l2).get? s.heap.objs.size = some { cls:=.type (itT b1),data:=.fields #[.ref l1,.int 0 0] }:=p2 (Heap.get?_push_size _ (by cases b1 <;> rfl))
 rw [z4,z2,z3] at g5
 rw [z2,z1] at g3
 rw [z3] at g4
 rw [z1] at g2
 show _ ∧ _
 rw [z4]
 exact ⟨⟨_,g5,rfl⟩,h _ g5 g3 g4 (itK.new g1) (itK.new g2) fun c o q=>p2 (Heap.get?_push_of_some _ q)⟩
section
variable {X:Cx} {es:List Expr} {k:Nat} {a b:Expr} {p pos tpos:Pos} {f g:E3}
end
end L3
namespace L3
open PySem PySem.Spec PyProof.Rows L2
noncomputable def ZrC (i:Int) (v:Value):Bool:=match v with
 | .int j _=>decide (j = i)
 | _=>false
def Zsb (i:Int) (v:Value):Prop:=∃ t,v = .int i t
theorem Zov {i:Int} {v:Value} (h:ZrC i v = true):Zsb i v:=by
 cases v with
 | int j t=>exact ⟨t,by rw [of_decide_eq_true (show decide (j = i) = true from h)]⟩
 | _=>exact ft h
noncomputable def ZjY (t:Zex):List (Str × Int):=t.map fun p=>(⟨p.1.toArray⟩,p.2)
abbrev ZgK (K:PySem.W.Frag) (a:Addr) (t:Zex):Prop:=KTD.tabLook ZrC (fun b=>K.lookup b) a (ZjY t) = true
theorem ZgK.at {K:PySem.W.Frag} {a:Addr} {t:Zex} {h:Heap} (T:ZgK K a t) (X:K.In h):KTD.TabOf Zsb h a (ZjY t):=KTD.tab_of_look (fun _ _ q=>Zov q) X T
theorem Zee (x:List Nat):∀ t:Zex,KTD.datumAt (⟨x.toArray⟩:Str) (ZjY t) = ZcU x t
 | []=>rfl
 | (k,v) :: r=>by
  show (if decide ((⟨x.toArray⟩:Str) = ⟨k.toArray⟩) = true then some v else KTD.datumAt ⟨x.toArray⟩ (ZjY r)) = (if x = k then some v else ZcU x r)
  by_cases e:x = k
  ·subst e; rw [if_pos rfl,if_pos (decide_eq_true rfl)]
  ·rw [if_neg e,if_neg (by simp [e]),Zee x r]
section
variable {prog:Program} {w:World} {A:Around} {E:Value → Shared → Prop} {s:Shared} {a:Addr} {K:PySem.W.Frag} {tk:Tok}
theorem Zma {δ:Type} {R:δ → Value → Prop} {l:List DictEntry} {T:List (Str × δ)} (h:KTD.Rows R l T):∀ e ∈ l,∃ x t,e.key = .str x t:=by
 induction h with
 | nil=>intro e he; cases he
 | cons hk _ _ ih=>
  intro e he
  rcases List.mem_cons.mp he with q | q
  ·rw [q]; exact ⟨_,_,hk⟩
  ·exact ih e q
theorem Zli {δ:Type} {R:δ → Value → Prop} {T:List (Str × δ)} {i:Int} {Q:Option Value → Shared → Prop} (h:KTD.TabOf R s.heap a T)
  (hn:Q none { s with toks:=s.toks + 1 }):wpAny (model prog w) A (dictGet a (.int i tk)) Q E s:=by
 obtain ⟨_,o,es,ep,ho,hc,hd,hr⟩:=h
 have hs:∀ e ∈ es,∃ x t,e.key = .str x t:=fun e he=>Zma hr e (by simpa using he)
 unfold dictGet
 try with_reducible refine wpAny_holding ?_
 refine wpAny_bind (wpAny_pyHash_int (wpAny_bind ?_))
 unfold dictFind
 try with_reducible refine wpAny_holding ?_
 refine wpAny_bind (wpAny_dictEntries (s:={ s with toks:=s.toks + 1 }) ho hd ?_)
 dsimp only
 rw [if_pos]
 ·unfold dictWalkPlain
  refine wpAny_bind ?_
  refine wpAny_forIn_list _ (fun _ b s'=>s' = { s with toks:=s.toks + 1 } ∧ b = (none,())) _ ?_ ?_ _ _ ⟨rfl,rfl⟩
  ·rintro x rest b s' ⟨rfl,rfl⟩
   cases he:es[x]? with
   | none=>exact wpAny_pure ⟨rfl,rfl⟩
   | some e=>
    obtain ⟨y,t,ek⟩:=hs e (Array.mem_of_getElem? he)
    dsimp only
    by_cases hh:(e.hash == hashInt i) = true
    ·rw [if_pos hh,ek]
     refine wpAny_bind (wpAny_dictEpoch (s:={ s with toks:=s.toks + 1 }) ho hd (wpAny_bind (SeqAt.EqAt.str_int y t i tk prog w E _ (wpAny_bind (wpAny_dictEpoch (s:={ s with toks:=s.toks + 1 }) ho hd ?_)))))
     show wpAny _ _ (if (ep != ep) = true then _ else _) _ E _
     rw [if_neg (by simp)]
     exact wpAny_bind (wpAny_rule (wpAny_pure ⟨rfl,rfl⟩))
    ·rw [if_neg hh]
     exact wpAny_pure ⟨rfl,rfl⟩
  ·rintro b s' ⟨rfl,rfl⟩
   exact wpAny_pure (wpAny_pure hn)
 ·rw [List.all_cons]
  refine Bool.and_eq_true_iff.mpr ⟨rfl,List.all_eq_true.mpr fun v hv=>?_⟩
  obtain ⟨j,_,hj⟩:=List.mem_filterMap.mp hv
  cases he:es[j]? with
  | none=>rw [he] at hj; cases hj
  | some e=>
   rw [he] at hj
   obtain rfl:e.key = v:=by simpa using hj
   obtain ⟨y,t,ek⟩:=hs e (Array.mem_of_getElem? he)
   rw [ek]; rfl
theorem Zjj {δ:Type} {R:δ → Value → Prop} {T:List (Str × δ)} {k:Str} {z:Value}:
  MeetsIn prog w (Builtin.«dict.get» ⟨[.ref a,.str k tk,z],[]⟩) fun _ Z s=>KTD.TabOf R s.heap a T ∧ (∀ d v,KTD.datumAt k T = some d → R d v → Z (.ok (.ret v)) { s with toks:=s.toks + 1 }) ∧ (KTD.datumAt k T = none → Z (.ok (.ret z)) { s with toks:=s.toks + 1 }):=
 .of_wp fun A Z s zz=>by
  obtain ⟨h,h1,h2⟩:=zz
  show wpAny _ _ (dictGet a (.str k tk) >>= fun o=>_) _ _ s
  refine wpAny_bind (ZmI h (fun d v e r=>wpAny_pure ⟨v,rfl,h1 d v e r⟩) fun e=>?_)
  show wpAny _ _ (Builtin.Dict.missed a (.str k tk) >>= fun o=>_) _ _ _
  exact wpAny_bind (wpAny_missed_other h.1 (wpAny_pure ⟨z,rfl,h2 e⟩))
theorem Zif {δ:Type} {R:δ → Value → Prop} {T:List (Str × δ)} {i:Int} {z:Value}:
  MeetsIn prog w (Builtin.«dict.get» ⟨[.ref a,.int i tk,z],[]⟩) fun _ Z s=>KTD.TabOf R s.heap a T ∧ Z (.ok (.ret z)) { s with toks:=s.toks + 1 }:=
 .of_wp fun A Z s zz=>by
  obtain ⟨h,h2⟩:=zz
  show wpAny _ _ (dictGet a (.int i tk) >>= fun o=>_) _ _ s
  refine wpAny_bind (Zli h ?_)
  show wpAny _ _ (Builtin.Dict.missed a (.int i tk) >>= fun o=>_) _ _ _
  exact wpAny_bind (wpAny_missed_other h.1 (wpAny_pure ⟨z,rfl,h2⟩))
theorem Zm1 {δ:Type} {R:δ → Value → Prop} {T:List (Str × δ)} {k:Str} {z:Value} {Q:Value → Shared → Prop} (h:KTD.TabOf R s.heap a T)
  (h1:∀ d v,KTD.datumAt k T = some d → R d v → Q v { s with toks:=s.toks + 1 }) (h2:KTD.datumAt k T = none → Q z { s with toks:=s.toks + 1 }):wpAny (model prog w) A (call (.builtin "dict.get") [.ref a,.str k tk,z]) Q E s:=
 call_meetsIn PySem.F.slot_dict_get (Zf4 h) PySem.F.entry_dict_get (PySem.F.args_dict_get_3 _ _ _) (Zjj (R:=R) (T:=T)) ⟨h,h1,h2⟩
theorem ZkI {δ:Type} {R:δ → Value → Prop} {T:List (Str × δ)} {i:Int} {z:Value} {Q:Value → Shared → Prop} (h:KTD.TabOf R s.heap a T)
  (h2:Q z { s with toks:=s.toks + 1 }):wpAny (model prog w) A (call (.builtin "dict.get") [.ref a,.int i tk,z]) Q E s:=
 call_meetsIn PySem.F.slot_dict_get (Zf4 h) PySem.F.entry_dict_get (PySem.F.args_dict_get_3 _ _ _) (Zif (R:=R) (T:=T)) ⟨h,h2⟩
end
section
variable {X:Cx} {e e':Expr} {x:Str} {a:Addr} {t:Zex} {npos apos cpos pos:Pos} {g g':E3}
inductive Ztv (t:Zex) (y z:V) (H1:Hp) (Q:VK):Prop
 | str (k:List Nat) (e:y = .str ⟨k.toArray⟩) (s:∀ i,ZcU k t = some i → Q (.int i) H1) (n:ZcU k t = none → Q z H1)
 | int (i:Int) (e:y = .int i) (n:Q z H1)
theorem ZmG {te te':TE} (hm:X.mg x = some (.ref a)) (ht:ZgK X.K a t) (he:PE X e te) (he':PE X e' te') (m:M2 X (.Name x npos) "get" apos e e' cpos) (hg:Gl X x) (hd:(x == ("__debug__":Str)) = false):
  PE X (.Call (.Attribute (.Name x npos) "get" apos) [e,e'] [] cpos) (fun σ H Q=>te σ H fun y H1=>te' σ H1 fun z H2=>Ztv t y z H2 Q):=by
 intro pins s σ H Q I h
 refine wpAny_Call_method m.base m.few m.line PySem.F.plainAttrs_dict PySem.F.slot_dict_get PySem.F.type_dict_get (thn (Znw (v:=.ref a) (u:=.ref a) hg hm rfl hd pins s σ H (fun v H'=>v = .ref a ∧ H' = H) I ⟨rfl,rfl⟩) fun u s1 zz1=>?_)
 obtain ⟨v,H1,I1,r1,rfl,rfl⟩:=zz1
 obtain rfl:u = Value.ref a:=r1
 have T1:=ht.at I1.kIn
 refine ⟨Zf4 T1,fun b q=>?_,?_⟩
 ·cases q
  obtain ⟨_,ob,_,_,h1,h2,_⟩:=T1
  exact ⟨ob,h1,h2.2.1⟩
 rw [m.trees]
 refine Calls.callWith_builtin rfl (Calls.evalArgs_plain (Calls.spliced_cons (thn (he pins s1 σ H1 _ I1 h) fun iv s2 ⟨y,H2,I2,ry,q2⟩=>
  Calls.spliced_cons (thn (he' pins s2 σ H2 _ I2 q2) fun fv s3 ⟨z,H3,I3,rz,q3⟩=>Calls.spliced_nil ?_))))
 cases q3 with
 | str k ey hs hn=>
  rw [ey] at ry
  obtain ⟨tk,rfl⟩:=ry
  refine Zm1 (ht.at I3.kIn) (fun d v ed rv=>?_) fun ed=>?_
  ·rw [Zee] at ed
   obtain ⟨t',rfl⟩:=rv
   exact ⟨.int d,H3,I3.tok _,⟨t',rfl⟩,hs d ed⟩
  ·rw [Zee] at ed
   exact ⟨z,H3,I3.tok _,rz,hn ed⟩
 | int i ey hn=>
  rw [ey] at ry
  obtain ⟨tk,rfl⟩:=ry
  exact ZkI (ht.at I3.kIn) ⟨z,H3,I3.tok _,rz,hn⟩
theorem ZoE (hm:X.mg x = some (.ref a)) (ht:ZgK X.K a t) (he:C3 X e g) (he':C3 X e' g') (m:M2 X (.Name x npos) "get" apos e e' cpos:=by exact ⟨rfl,rfl,rfl,rfl⟩) (hg:Gl X x:=by rfl) (hd:(x == ("__debug__":Str)) = false:=by decide):
  C3 X (.Call (.Attribute (.Name x npos) "get" apos) [e,e'] [] cpos) (e2 (ZdP t) g g'):=(ZmG hm ht he he' m hg hd).imp fun σ H Q zz1=>by
 obtain ⟨ι,M,env,S,E,h⟩:=zz1
 obtain ⟨d,M1,e1,h⟩:=Zo.bind h
 obtain ⟨d2,M2,e2,h⟩:=Zo.bind h
 refine ⟨ι,M,env,S,E,?_⟩
 rw [e1]
 intro y H1 ι1 x1 S1 r1
 refine ⟨ι1,M1,env,S1,E.mono x1,?_⟩
 rw [e2]
 intro z H2 ι2 x2 S2 r2
 have h:=(h.up x1).up x2
 cases d with
 | str k=>
  cases r1.str_inv
  refine .str k rfl (fun i ei=>?_) fun en=>?_
  ·have h:Zo X.K H2 ι2 Q (match ZcU k t with | some i=>.ok (.int i) M2 | none=>.ok d2 M2):=h
   rw [ei] at h
   exact Zo.ok h S2 Rep.int
  ·have h:Zo X.K H2 ι2 Q (match ZcU k t with | some i=>.ok (.int i) M2 | none=>.ok d2 M2):=h
   rw [en] at h
   exact Zo.ok h S2 r2
 | int i=>
  cases r1.int_inv
  exact .int i rfl (Zo.ok h S2 r2)
 | _=>exact h.elim
end
end L3
namespace L3
open PySem PySem.Spec PyProof.Rows L2
section
variable {prog:Program} {w:World} {A:Around} {E:Value → Shared → Prop} {s:Shared}
theorem Zol (n:Nat):Builtin.Slice.sliceAdjust none none (-1) (n:Int) = ((n:Int) - 1,-1):=rfl
theorem ZjD (n:Nat):Builtin.Slice.slicePlaces ((n:Int) - 1) (-1) (-1) = n:=by
 unfold Builtin.Slice.slicePlaces
 have h1:¬ ((-1:Int) > 0):=by decide
 simp only [h1,if_false]
 have e:(- -1:Int) = 1:=rfl
 rw [e,Int.ediv_one]
 split <;> omega
theorem Zl7 (xs:Array Value):((List.range xs.size).filterMap fun (m:Nat)=>xs[((xs.size:Int) - 1 + (m:Int) * (-1)).toNat]?).toArray = xs.toList.reverse.toArray:=by
 congr 1
 have e:(List.range xs.size).filterMap (fun (m:Nat)=>xs[((xs.size:Int) - 1 + (m:Int) * (-1)).toNat]?) = ((List.range xs.size).map fun k=>xs.size - 1 - k).filterMap (xs[·]?):=by
  have key:∀ l:List Nat,(∀ m ∈ l,m < xs.size) → l.filterMap (fun (m:Nat)=>xs[((xs.size:Int) - 1 + (m:Int) * (-1)).toNat]?) = (l.map fun k=>xs.size - 1 - k).filterMap (xs[·]?):=by
   intro l
   induction l with
   | nil=>intro _; rfl
   | cons m l ih=>
    intro h
    have e:((xs.size:Int) - 1 + (m:Int) * (-1)).toNat = xs.size - 1 - m:=by have:=h m List.mem_cons_self; omega
    rw [List.map_cons,List.filterMap_cons,List.filterMap_cons,e,ih fun k hk=>h k (List.mem_cons_of_mem _ hk)]
  exact key _ fun m hm=>List.mem_range.mp hm
 rw [e,PySem.W.krv_range,List.filterMap_reverse,PySem.W.krv_all]
theorem ZeV {sl:Addr} {v:Value} {n:Nat} {Q:Int × Int × Nat → Shared → Prop} (hs:s.heap.IsSliceOf sl .none .none v) (pv:IsPart v (some (-1)))
  (h:Q ((n:Int) - 1,-1,n) s):wpAny (model prog w) A (Builtin.Slice.sliceApplied (.ref sl) (pure (n:Int))) Q E s:=by
 obtain ⟨os,hos,hcs,hds⟩:=id hs
 unfold Builtin.Slice.sliceApplied Builtin.Slice.sliceFields
 refine wpAny_bind (wpAny_bind (wpAny_field hos hds (x:=.none) rfl (wpAny_bind (wpAny_field hos hds (x:=.none) rfl (wpAny_bind (wpAny_field hos hds (x:=v) rfl (wpAny_pure ?_)))))))
 refine wpAny_bind (HT.slicePart_ pv ?_)
 show wpAny _ _ (if ((-1:Int) == 0) = true then _ else _) _ _ s
 rw [if_neg (by decide)]
 refine wpAny_bind (slicePart_none (wpAny_bind (slicePart_none (wpAny_bind (wpAny_pure ?_)))))
 show wpAny _ _ (match Builtin.Slice.sliceAdjust none none (-1) (n:Int) with | (lo,hi)=>pure (lo,(-1:Int),Builtin.Slice.slicePlaces lo hi (-1))) _ _ s
 rw [Zol]
 show wpAny _ _ (pure ((n:Int) - 1,(-1:Int),Builtin.Slice.slicePlaces ((n:Int) - 1) (-1) (-1))) _ _ s
 rw [ZjD]
 exact wpAny_pure h
theorem ZeA {t sl:Addr} {items:Array Value} {v:Value} {Q:Value → Shared → Prop} (ht:IsTup s.heap t items) (hs:s.heap.IsSliceOf sl .none .none v) (pv:IsPart v (some (-1)))
  (h:Q (.ref s.heap.objs.size) { s with heap:=s.heap.push { cls:=.type "tuple",data:=.seq items.toList.reverse.toArray } })
  (hsz:items.size ≤ sizeLine):wpAny (model prog w) A (getItem (.ref t) (.ref sl)) Q E s:=by
 have htake:sizeOk (.seq items.toList.reverse.toArray):=by
  show items.toList.reverse.toArray.size ≤ sizeLine
  rw [List.size_toArray,List.length_reverse,Array.length_toList]
  exact hsz
 obtain ⟨os,hos,hcs,hds⟩:=id hs
 have hTs:s.TypeIs (.ref sl) "slice":=⟨os,hos,hcs⟩
 unfold getItem
 try with_reducible refine wpAny_holding ?_
 first | refine wpAny_bind (wpAny_pure ?_) | skip
 refine wpAny_bind (wpAny_sequenceKey ht.typeIs (by decide) ?_)
 refine wpAny_bind (wpAny_callSpecial?_slot (name:=Str.ofString "__getitem__") ht.typeIs PyProof.Rows.slot_tuple_getitem
  (wpAny_call_entry PyProof.Rows.slot_tuple_getitem ht.typeIs entry_tuple_getitem ?_ (args_tuple_getitem _ _)))
 show wpAny _ _ (Builtin.Tuple.tupleItemsOf (.ref t) >>= _) _ _ s
 refine wpAny_bind (tupleItemsOf_ ht ?_)
 refine wpAny_bind (wpAny_typeOf hTs ?_)
 rw [if_pos (by decide)]
 refine wpAny_bind (ZeV hs pv ?_)
 show wpAny _ _ (if (((items.size:Int) - 1) == 0 && (-1:Int) == 1 && items.size == items.size) = true then _ else _) _ _ s
 rw [if_neg (by rw [Bool.and_eq_true,Bool.and_eq_true]; exact fun q=>ft q.1.2),Zl7]
 first
  | exact wpAny_bind (m:=Builtin.Tuple.tupleExact _) (wpAny_newObj_type (wpAny_pure ⟨_,rfl,wpAny_pure h⟩) htake)
  | exact wpAny_bind (m:=Builtin.Tuple.tupleExact _) (wpAny_newObj_type (wpAny_bind (wpAny_pure (wpAny_pure ⟨_,rfl,wpAny_pure h⟩))) htake)
  | exact wpAny_bind (wpAny_bind (m:=Builtin.Tuple.tupleExact _) (wpAny_newObj_type (wpAny_pure (wpAny_pure ⟨_,rfl,wpAny_pure h⟩)) htake))
  | exact wpAny_bind (wpAny_bind (m:=Builtin.Tuple.tupleExact _) (wpAny_newObj_type (wpAny_pure ⟨_,rfl,wpAny_pure h⟩) htake))
end
section
variable {X:Cx} {e st:Expr} {p2 pos:Pos} {f:E3}
theorem ZlZ:∀ {xs:List V} {us:List Value},Vals xs us → Vals xs.reverse us.reverse:=by
 intro xs us h
 induction h with
 | nil=>exact .nil
 | cons r _ ih=>
  rw [List.reverse_cons,List.reverse_cons]
  exact ih.append (.cons r .nil)
theorem Zqn {te:TE} {tl:TO} (he:PE X e te) (hst:PO X (some st) tl):
  PE X (.Subscript e (.Slice none none (some st) p2) pos) (fun σ H Q=>te σ H fun x H1=>tl σ H1 fun o H2=>o = some (-1) ∧ ∃ a xs,x = .ref a ∧ SqT X.K H2 a xs ∧ ∀ p,H2 p = none → Q (.ref p) (upd H2 p (.tup xs.reverse))):=by
 intro pins s σ H Q I h
 refine Subscript_ (thn (he pins s σ H _ I h) fun v s1 zz1=>?_)
 obtain ⟨x,H0,I0,r1,q0⟩:=zz1
 refine wpAny_Slice ?_
 rw [evalPart_none]
 refine wpAny_pure (wpAny_pure (thn (hst pins s1 σ H0 _ I0 q0) fun sv s3 zz3=>?_))
 obtain ⟨o,H1,I3,pv,eo,a,xs,ex,hx,q⟩:=zz3
 rw [eo] at pv
 rw [ex] at r1
 obtain rfl:v = Value.ref a:=r1
 have I4:Inv X pins σ H1 { s3 with heap:=s3.heap.push { cls:=.type "slice",data:=.fields #[.none,.none,sv] } }:=I3.kept (t':=s3.toks) fun b ob q=>Heap.get?_push_of_some _ q
 obtain ⟨its,r,ht,hz⟩:=I4.tuple hx
 have hlen:its.toArray.size = xs.length:=by rw [List.size_toArray]; exact r.length.symm
 show wpAny (model X.prog X.w) X.A (subscriptTail e (.Slice none none (some st) p2) (.ref a) (.ref s3.heap.objs.size)) (EP X pins σ Q) X.xe { s3 with heap:=s3.heap.push { cls:=.type "slice",data:=.fields #[.none,.none,sv] } }
 refine tail_any (ops:=[.ref a,.ref s3.heap.objs.size]) ht.typeIs PyProof.Rows.slot_tuple_getitem.lookup ?_ (by with_unfolding_all rfl)
 refine ZeA ht (Heap.IsSliceOf.new ..) pv ?_ (by rw [hlen]; exact hz)
 refine ⟨.ref _,_,I4.laid (t':=s3.toks) (o:=.tup xs.reverse) (fun b ob q=>Heap.get?_push_of_some _ q) (Nat.le_refl _) ?_,rfl,q _ (I4.hok.fresh (Nat.le_refl _))⟩
 exact ⟨by rw [List.length_reverse]; exact hz,_,ZlZ r,ZcT.new _ _⟩
theorem ZlE {K:PySem.W.Frag} {H:Hp} {ι:List Addr}:∀ {ds:List D} {vs:List V},Zn K H ι ds vs → Zn K H ι ds.reverse vs.reverse:=by
 intro ds
 induction ds with
 | nil=>intro vs r; rw [r.nil_inv]; exact Zn.nil
 | cons d ds ih=>
  intro vs r
  obtain ⟨v,ws,rfl,r1,r2⟩:=r.cons_inv
  rw [List.reverse_cons,List.reverse_cons]
  exact (ih r2).append (Zn.cons r1 Zn.nil)
theorem ZsQ (he:C3 X e f) (hst:CO X (some st) (Ziu (e1 ZfU (eC (.int 1))))):C3 X (.Subscript e (.Slice none none (some st) p2) pos) (e1 ZoS f):=(Zqn he hst).imp fun σ H Q zz1=>by
 obtain ⟨ι,M,env,S,E,h⟩:=zz1
 obtain ⟨d,M1,e1,h⟩:=Zo.bind h
 refine ⟨ι,M,env,S,E,?_⟩
 rw [e1]
 intro v H1 ι1 x1 S1 r1
 refine ⟨ι1,M1,env,S1,E.mono x1,?_⟩
 intro H2 ι2 x2 S2
 have h:=(h.up x1).up x2
 refine ⟨rfl,?_⟩
 cases d with
 | tup ds=>
  obtain ⟨a,xs,rfl,sq,rr⟩:=(r1.mono x2).tup_inv
  refine ⟨a,xs,rfl,sq,fun p hp=>?_⟩
  obtain ⟨x2,S2,r2⟩:=S2.tupl hp (ZlE rr)
  exact h _ _ _ x2 S2 r2
 | _=>exact h.elim
theorem ZpS {α:Type} {l:List α} {n m:Nat} {a b:α} (h:l.Nodup) (h1:l[n]? = some a) (h2:l[m]? = some b) (e:a = b):n = m:=
 (List.getElem?_inj (List.getElem?_eq_some_iff.mp h1).1 h).mp (by rw [h1,h2,e])
theorem Zmp {pins:List (Addr × Obj)} {σ:St} {H:Hp} {s:Shared} {ι:List Addr} {M:Store} {A:Around} (hu:A.units + 70 < cLine) (I:Inv X pins σ H s) (S:Zz X.K H ι M) {n m:Nat} {x y:List D} {u v:V} {a b:Value} (hn:M[n]? = some (.lst x)) (hm:M[m]? = some (.lst y)) (hnm:n ≠ m)
  (p1:x.all (Zav 50) = true) (p2:y.all (Zav 50) = true) (ru:Rep X.K H ι (.ref n) u) (rv:Rep X.K H ι (.ref m) v) (ra:RelV u a) (rb:RelV v b):SeqAt.EqAt A s a b (Zci x y):=by
 obtain ⟨p,vs,its,e1,eu,t,r1,v1⟩:=Zkb I S hn ru ra
 obtain ⟨q,ws,its2,e2,ev,t',r2,v2⟩:=Zkb I S hm rv rb
 obtain ⟨k1,hk1,ek1⟩:=ru.ref_inv
 obtain ⟨k2,hk2,ek2⟩:=rv.ref_inv
 have hpq:p ≠ q:=fun z=>hnm (ZpS S.nd hk1 hk2 (by
  have z1:V.ref p = .ref k1:=e1.symm.trans ek1
  have z2:V.ref q = .ref k2:=e2.symm.trans ek2
  injection z1 with z1; injection z2 with z2
  rw [← z1,← z2,z]))
 rw [eu,ev]
 refine SeqAt.EqAt.of_refs hpq ?_
 have hu1:A.units < cLine:=by omega
 have hu2:A.in1.units + 50 + 1 < cLine:=by rw [units_in1]; omega
 by_cases hl:x.length = y.length
 ·rw [← ZhR (ZaT r1 v1) hl]
  exact SeqAt.RcAt.lists t t' ((ZaT r1 v1).trans (hl.trans (ZaT r2 v2).symm)) hu1 (ZhD (ZjE I 50 A.in1 hu2) p1 p2 r1 r2 v1 v2)
 ·rw [ZhJ hl]
  exact SeqAt.RcAt.lists_lengths t t' (bne_iff_ne.mpr fun e=>hl ((ZaT r1 v1).symm.trans (e.trans (ZaT r2 v2)))) hu1
noncomputable def two (a b:Bool):Nat → Bool
 | 0=>a
 | _=>b
theorem Zqe {A:Around} {s:Shared} {a b c d:Value} {r1 r2:Bool} (h1:SeqAt.EqAt A s a c r1) (h2:SeqAt.EqAt A s b d r2) (j:Nat) (k1:j < #[a,b].size) (k2:j < #[c,d].size):SeqAt.EqAt A s #[a,b][j] #[c,d][j] (two r1 r2 j):=by
 match j,k1,k2 with
 | 0,_,_=>exact h1
 | 1,_,_=>exact h2
theorem Zsh (hu:X.A.units + 80 < cLine):OpR X (compareOp .Eq) (r2 X.K Zml):=by
 intro pins s σ H x y v u Q I rx ry h
 obtain ⟨ι,M,a,b,S,ra,rb,h⟩:=h
 have hu1:X.A.units < cLine:=by omega
 unfold Zml at h
 cases ha:Zfc a with
 | none=>rw [ha] at h; exact h.elim
 | some ni=>cases hb:Zfc b with
  | none=>rw [ha,hb] at h; exact h.elim
  | some mj=>
   obtain ⟨n,i⟩:=ni
   obtain ⟨m,j⟩:=mj
   rw [Zgn ha] at ra
   rw [Zgn hb] at rb
   rw [ha,hb] at h
   dsimp only at h
   cases hn:M[n]? with
   | none=>rw [hn] at h; exact h.elim
   | some o1=>cases o1 with
    | lst x1=>cases hm:M[m]? with
     | none=>rw [hn,hm] at h; exact h.elim
     | some o2=>cases o2 with
      | lst y1=>
       rw [hn,hm] at h
       dsimp only at h
       by_cases hnm:n = m
       ·rw [if_pos hnm] at h; exact h.elim
       rw [if_neg hnm] at h
       unfold Zok at h
       by_cases hp:x1.all (Zav 50) = true ∧ y1.all (Zav 50) = true
       ·rw [if_pos hp] at h
        obtain ⟨P,vs,its,_,eu,t,r1,v1⟩:=Zfh I ra rx
        obtain ⟨P',ws,its2,_,ev,t',r2,v2⟩:=Zfh I rb ry
        obtain ⟨y0,vs',rfl,q1,r1⟩:=r1.cons_inv
        obtain ⟨y1',vs',rfl,q2,r1⟩:=r1.cons_inv
        rw [r1.nil_inv] at v1
        obtain ⟨z0,ws',rfl,q3,r2⟩:=r2.cons_inv
        obtain ⟨z1',ws',rfl,q4,r2⟩:=r2.cons_inv
        rw [r2.nil_inv] at v2
        cases v1 with
        | @cons _ u0 _ _ w0 v1=>cases v1 with
         | @cons _ u1 _ _ w1 v1=>
          cases v1
          cases v2 with
          | @cons _ u2 _ _ w2 v2=>cases v2 with
           | @cons _ u3 _ _ w3 v2=>
            cases v2
            obtain ⟨t1,e1⟩:=Zeb q2 w1
            obtain ⟨t2,e2⟩:=Zeb q4 w3
            have hi:X.A.in1.units + 70 < cLine:=by rw [units_in1]; omega
            have L:=Zmp hi I S hn hm hnm hp.1 hp.2 q1 q3 w0 w2
            have N:SeqAt.EqAt X.A.in1 s u1 u3 (i == j):=by rw [e1,e2]; exact SeqAt.EqAt.int_int _ _ _ _
            rw [eu,ev]
            refine SeqAt.RcAt.tuples t t' hu1 (Zqe L N) X.prog X.w X.xe _ ⟨.bl (Zci x1 y1 && (i == j)),H,I,?_,Zo.ok h S Rep.bl⟩
            show Value.bool ((Zci x1 y1 && ((i == j) && true)) && true) = Value.bool _
            rw [Bool.and_true,Bool.and_true]
       ·rw [if_neg hp] at h; exact h.elim
      | _=>rw [hn,hm] at h; exact h.elim
    | _=>rw [hn] at h; exact h.elim
end
end L3
namespace L3
open PySem PySem.Spec PyProof.Rows L2
set_option maxRecDepth 100000
section
variable {prog:Program} {w:World} {A:Around} {E:Value → Shared → Prop} {s:Shared}
theorem ZjB:typeLookup (.type "zip") (Str.ofString "keys") = pure none:=by rw [typeLookup_type,builtinLookup_eq_fast]; kernel_rfl
theorem ZdY:typeLookup (.type "zip") "__getattr__" = pure none:=by rw [typeLookup_type,builtinLookup_eq_fast]; kernel_rfl
theorem ZcK:entryFor table "zip.__getattribute__" = some Builtin.«object.__getattribute__»:=
 entryFor_alias (id':="object.__getattribute__") (by kernel_rfl) (by decide +kernel) (by decide +kernel) (by kernel_rfl)
theorem Zf1 (a:Addr) (xs:Array Value) (sl:Array (Option Value)) (name:Str) (u:Tok) (hmiss:typeLookup (.type "zip") name = pure none) (hname:(["__module__","__name__","__qualname__","__doc__","__annotations__"]:List Str).contains name = false) (hsz:name.length + 100 ≤ sizeLine):
  Meets (Builtin.«object.__getattribute__» ⟨[.ref a,.str name u],[]⟩) (fun A R s=>s.heap.get? a = some { cls:=.type "zip",dict:=none,data:=.fields xs,slots:=sl } ∧ raisesAttr (.ref a) name A R s):=
 Meets.of_wp fun prog w A R s hs=>by
  obtain ⟨hp,g,d,tk,os⟩:=s
  obtain ⟨hx,hs⟩:=hs
  have hT:(⟨hp,g,d,tk,os⟩:Shared).TypeIs (.ref a) "zip":=⟨_,hx,rfl⟩
  unfold Builtin.«object.__getattribute__»
  repeat (any_goals (first | assumption | wp_step))
  simp only [hname,Bool.false_eq_true,if_false]
  repeat (any_goals (first | assumption | wp_step))
  exact wpAny_raiseAttrError hs.1 hs.2 (attrMsg_fits (by decide +kernel) hsz)
set_option maxRecDepth 8000 in
theorem ZiA {a:Addr} {xs:Array Value} {sl:Array (Option Value)} {Q:Option Value → Shared → Prop} (hx:s.heap.get? a = some { cls:=.type "zip",dict:=none,data:=.fields xs,slots:=sl }) (hA:A.handled = none)
  (h:∀ h' tk,(∀ b u,s.heap.get? b = some u → h'.get? b = some u) → Q none { s with heap:=h',toks:=tk }):wpAny (model prog w) A (getAttr? (.ref a) (Str.ofString "keys")) Q E s:=by
 obtain ⟨hp,g,d,tk,os⟩:=s
 have hT:∀ tk',(⟨hp,g,d,tk',os⟩:Shared).TypeIs (.ref a) "zip":=fun _=>⟨_,hx,rfl⟩
 have f1:=sub_AttributeError; have f3:=F.slot_zip_getattribute.lookup; have f4:=F.slot_zip_getattribute.bind (.ref a); have f5:=ZdY
 unfold getAttr? getAttrBy? getAttrBy
 repeat (any_goals (first | assumption | exact hT _ | ((with_reducible show wpAny _ _ (call (Value.builtin "zip.__getattribute__") _ _) _ _ _); refine call_meets F.slot_zip_getattribute (hT _) ZcK (F.args_zip_getattribute_2 _ _) (Zf1 a xs sl _ _ ZjB (by decide) (by rw [sizeLine_eq]; decide)) ⟨hx,hA,fun h' tk' e hx'=>?_⟩) | wp_step))
 obtain ⟨t',u',he⟩:=hx'.there
 show wpAny _ _ (getattributeRaised _ _ _ _ _ _ _) _ _ _
 unfold getattributeRaised
 repeat (any_goals (first | assumption | wp_step))
 all_goals exact h _ _ hx'.of.keeps
abbrev Ze6 (h:Heap) (z TI TO T:Addr) (b:Bool):Prop:=
 h.get? z = some { cls:=.type "zip",dict:=none,data:=.fields #[rawInt T,.bool b,.bool false,.ref TI,.ref TO],slots:=#[] }
theorem Zim {M:Model} {a:Addr} {Q:Option Obj → Shared → Prop} (h:Q (s.heap.get? a) s):wpAny M A (loadIfAlive a) Q E s:=fun Γ p _=>by
 unfold loadIfAlive
 rw [Sem.wp_loadIfAlive]
 exact h
theorem Zkr {z TI TO T:Addr} {b:Bool} {o:Obj} {Q:Bool → Shared → Prop} (hz:Ze6 s.heap z TI TO T b) (hT:s.heap.get? T = some o)
  (h:∀ h',Ze6 h' z TI TO T true → (∀ c u,c ≠ z → s.heap.get? c = some u → h'.get? c = some u) → h'.objs.size = s.heap.objs.size → Q false { s with heap:=h' }):wpAny (model prog w) A (Builtin.SmallTypes.ownedTupleIsFree (.ref z)) Q E s:=by
 unfold Builtin.SmallTypes.ownedTupleIsFree
 refine wpAny_bind (wpAny_field hz rfl (x:=rawInt T) rfl ?_)
 show wpAny _ _ (loadIfAlive ((T:Int).toNat) >>= fun o=>_) _ _ _
 refine wpAny_bind (Zim ?_)
 rw [Int.toNat_natCast,hT]
 show wpAny _ _ (field (.ref z) 1 >>= fun o=>_) _ _ _
 refine wpAny_bind (wpAny_field hz rfl (x:=.bool b) rfl ?_)
 cases b with
 | true=>exact wpAny_pure (h s.heap hz (fun _ _ _ q=>q) rfl)
 | false=>
  show wpAny _ _ (setField (.ref z) 1 (.bool true) >>= fun o=>_) _ _ _
  exact wpAny_bind (wpAny_setField_rec hz (by simp) fun g1 hz1 hs1=>wpAny_pure (h g1 hz1 (fun c u hc q=>hs1.extBut _ _ hc q) hs1.1))
theorem Zk4 {b1 b2 b:Bool} {z TI TO T i1 i2 l1 l2:Addr} {k1 k2:Nat} {xs ys:Array Value} {x y:Value} {o:Obj} {Q:Value → Shared → Prop} (D:ZipApart z TI TO i1 i2 l1 l2)
  (hz:Ze6 s.heap z TI TO T b) (hT:s.heap.get? T = some o) (hTI:IsPair s.heap TI (.ref i1) (.ref i2))
  (h1:itK b1 s.heap i1 l1 k1) (h2:itK b2 s.heap i2 l2 k2) (hl1:obK b1 s.heap l1 xs) (hl2:obK b2 s.heap l2 ys) (hx:xs[k1]? = some x) (hy:ys[k2]? = some y)
  (hQ:∀ h',Ze6 h' z TI TO T true → itK b1 h' i1 l1 (k1 + 1) → itK b2 h' i2 l2 (k2 + 1) → IsPair h' s.heap.objs.size x y →
   (∀ c o,c ≠ z → c ≠ i1 → c ≠ i2 → s.heap.get? c = some o → h'.get? c = some o) → Q (.ref s.heap.objs.size) { s with heap:=h' }):
  wpAny (model prog w) A (Builtin.«zip.__next__» ⟨[.ref z],[]⟩) (fun fin s'=>∃ v,fin = .done (.ret v) ∧ Q v s') E s:=by
 show wpAny _ _ (field (.ref z) 2 >>= fun o=>_) _ _ _
 refine wpAny_bind (wpAny_field hz rfl (x:=.bool false) rfl (show wpAny _ _ (field (.ref z) 3 >>= fun o=>_) _ _ _ from ?_))
 refine wpAny_bind (wpAny_field hz rfl (x:=.ref TI) rfl (wpAny_bind (wpAny_seqItems hTI rfl ?_)))
 refine (show wpAny _ _ (Builtin.SmallTypes.ownedTupleIsFree (.ref z) >>= fun o=>_) _ _ _ from wpAny_bind ?_)
 refine Zkr hz hT fun g1 hz1 k1' z1=>?_
 show wpAny _ _ (forIn #[Value.ref i1,Value.ref i2] _ _ >>= fun o=>_) _ _ _
 rw [← Array.forIn_toList]
 simp only [List.forIn_cons,List.forIn_nil]
 refine wpAny_bind (wpAny_bind (wpAny_bind (wpAny_holding (show wpAny _ _ (Builtin.SmallTypes.nextOf (.ref i1) >>= fun o=>_) _ _ _ from ?_))))
 refine wpAny_bind (nextK (h1.keep fun o q=>k1' _ o D.i1z q) (hl1.keep fun o q=>k1' _ o D.l1z q) hx fun g2 h12 hs2=>wpAny_pure ?_)
 refine wpAny_pure (wpAny_bind (wpAny_bind (wpAny_holding (show wpAny _ _ (Builtin.SmallTypes.nextOf (.ref i2) >>= fun o=>_) _ _ _ from ?_))))
 refine wpAny_bind (nextK (h2.keep fun o q=>hs2.extBut _ o D.i12.symm (k1' _ o D.i2z q)) (hl2.keep fun o q=>hs2.extBut _ o D.l2i1 (k1' _ o D.l2z q)) hy fun g3 h23 hs3=>wpAny_pure ?_)
 refine wpAny_pure (wpAny_pure ?_)
 show wpAny _ _ (newTuple [x,y] >>= fun o=>_) _ _ _
 refine wpAny_bind (wpAny_newTuple ?_)
 have hsz:g3.objs.size = s.heap.objs.size:=by rw [hs3.1,hs2.1,z1]
 have up:∀ c o,g3.get? c = some o → (g3.push { cls:=.type "tuple",data:=.seq #[x,y] }).get? c = some o:=fun c o q=>Heap.get?_push_of_some _ q
 refine wpAny_pure ⟨_,rfl,(show Q (.ref g3.objs.size) _ from ?_)⟩
 rw [hsz]
 have hP:IsPair (g3.push { cls:=.type "tuple",data:=.seq #[x,y] }) g3.objs.size x y:=Heap.get?_push_size _ rfl
 rw [hsz] at hP
 exact hQ _ (up _ _ (hs3.extBut _ _ D.i2z.symm (hs2.extBut _ _ D.i1z.symm hz1))) (h12.keep fun o q=>up _ _ (hs3.extBut _ _ D.i12 q)) (h23.keep fun o q=>up _ _ q) hP
  fun c o c1 c2 c3 q=>up _ _ (hs3.extBut _ _ c3 (hs2.extBut _ _ c2 (k1' _ _ c1 q)))
theorem ZlN {b1 b2 b:Bool} {z TI TO T i1 i2 l1 l2:Addr} {k1 k2:Nat} {xs ys:Array Value} {o:Obj} {Q:Fin → Shared → Prop} (hh:A.handled = none) (D:ZipApart z TI TO i1 i2 l1 l2)
  (hz:Ze6 s.heap z TI TO T b) (hT:s.heap.get? T = some o) (hTI:IsPair s.heap TI (.ref i1) (.ref i2))
  (h1:itK b1 s.heap i1 l1 k1) (h2:itK b2 s.heap i2 l2 k2) (hl1:obK b1 s.heap l1 xs) (hl2:obK b2 s.heap l2 ys) (hend:xs[k1]? = none ∨ ys[k2]? = none)
  (hE:∀ h' e,(∀ c o,c ≠ z → c ≠ i1 → c ≠ i2 → s.heap.get? c = some o → h'.get? c = some o) → (∃ o,h'.get? e = some o ∧ o.cls = .type "StopIteration") → E (.ref e) { s with heap:=h' }):
  wpAny (model prog w) A (Builtin.«zip.__next__» ⟨[.ref z],[]⟩) Q E s:=by
 show wpAny _ _ (field (.ref z) 2 >>= fun o=>_) _ _ _
 refine wpAny_bind (wpAny_field hz rfl (x:=.bool false) rfl (show wpAny _ _ (field (.ref z) 3 >>= fun o=>_) _ _ _ from ?_))
 refine wpAny_bind (wpAny_field hz rfl (x:=.ref TI) rfl (wpAny_bind (wpAny_seqItems hTI rfl ?_)))
 refine (show wpAny _ _ (Builtin.SmallTypes.ownedTupleIsFree (.ref z) >>= fun o=>_) _ _ _ from wpAny_bind ?_)
 refine Zkr hz hT fun g1 hz1 k1' z1=>?_
 show wpAny _ _ (forIn #[Value.ref i1,Value.ref i2] _ _ >>= fun o=>_) _ _ _
 rw [← Array.forIn_toList]
 simp only [List.forIn_cons,List.forIn_nil]
 refine wpAny_bind (wpAny_bind (wpAny_bind (wpAny_holding (show wpAny _ _ (Builtin.SmallTypes.nextOf (.ref i1) >>= fun o=>_) _ _ _ from ?_))))
 have h11:itK b1 g1 i1 l1 k1:=h1.keep fun o q=>k1' _ o D.i1z q
 have hl11:obK b1 g1 l1 xs:=hl1.keep fun o q=>k1' _ o D.l1z q
 cases hx:xs[k1]? with
 | none=>
  refine wpAny_bind (ZdQ hh h11 hl11 hx fun g2 e hs2 he=>?_)
  exact hE g2 e (fun c o c1 c2 _ q=>hs2 _ _ c2 (k1' _ _ c1 q)) he
 | some x=>
  have hy:ys[k2]? = none:=by rcases hend with q | q; rw [hx] at q; cases q; exact q
  refine wpAny_bind (nextK h11 hl11 hx fun g2 h12 hs2=>wpAny_pure ?_)
  refine wpAny_pure (wpAny_bind (wpAny_bind (wpAny_holding (show wpAny _ _ (Builtin.SmallTypes.nextOf (.ref i2) >>= fun o=>_) _ _ _ from ?_))))
  refine wpAny_bind (ZdQ hh (h2.keep fun o q=>hs2.extBut _ o D.i12.symm (k1' _ o D.i2z q)) (hl2.keep fun o q=>hs2.extBut _ o D.l2i1 (k1' _ o D.l2z q)) hy fun g4 e hs4 he=>?_)
  exact hE g4 e (fun c o c1 c2 c3 q=>hs4 _ _ c3 (hs2.extBut _ _ c2 (k1' _ _ c1 q))) he
inductive ZS (b1 b2:Bool) (z TI TO i1 i2 l1 l2:Addr) (xs ys:Array Value) (i:Nat) (h:Heap):Prop
 | mk (zz:(IsZip h z TI TO .none ∧ ∃ a b,IsPair h TO a b) ∨ ∃ T b o,Ze6 h z TI TO T b ∧ h.get? T = some o ∧ T ≠ i1 ∧ T ≠ i2 ∧ T ≠ z) (pp:IsPair h TI (.ref i1) (.ref i2)) (j1:itK b1 h i1 l1 i) (j2:itK b2 h i2 l2 i) (o1:obK b1 h l1 xs) (o2:obK b2 h l2 ys)
theorem ZoC {b1 b2:Bool} {z TI TO i1 i2 l1 l2:Addr} {i:Nat} {xs ys:Array Value} {x y:Value} {Q:Option Value → Shared → Prop} (D:ZipApart z TI TO i1 i2 l1 l2) (Z:ZS b1 b2 z TI TO i1 i2 l1 l2 xs ys i s.heap) (hx:xs[i]? = some x) (hy:ys[i]? = some y)
  (hQ:∀ h',ZS b1 b2 z TI TO i1 i2 l1 l2 xs ys (i + 1) h' → IsPair h' s.heap.objs.size x y → (∀ c o,c ≠ z → c ≠ TO → c ≠ i1 → c ≠ i2 → s.heap.get? c = some o → h'.get? c = some o) → Q (some (.ref s.heap.objs.size)) { s with heap:=h' }):
  wpAny (model prog w) A (pyNext (.ref z)) Q E s:=by
 obtain ⟨zz,pp,j1,j2,o1,o2⟩:=Z
 have g1:=j1.there
 have g2:=j2.there
 rcases zz with ⟨hz,a,b,hTO⟩ | ⟨T,b,o,hz,hT,n1,n2,n3⟩
 ·refine Zhg D hz pp hTO j1 j2 o1 o2 hx hy fun h' hz' hTO' hi1 hi2 hP hk=>hQ h' ⟨.inr ⟨s.heap.objs.size,false,_,hz',hP,?_,?_,Nat.ne_of_gt (Heap.lt_size hz)⟩,hk _ _ D.TIz D.TITO D.TIi1 D.TIi2 pp,hi1,hi2,o1.keep fun o q=>hk _ _ D.l1z D.l1TO D.l1i1 D.l1i2 q,o2.keep fun o q=>hk _ _ D.l2z D.l2TO D.l2i1 D.l2i2 q⟩ hP hk
  ·obtain ⟨u,q,_⟩:=g1; exact Nat.ne_of_gt (Heap.lt_size q)
  ·obtain ⟨u,q,_⟩:=g2; exact Nat.ne_of_gt (Heap.lt_size q)
 ·have hTy:s.TypeIs (.ref z) "zip":=⟨_,hz,rfl⟩
  unfold pyNext
  exact wpAny_bind (wpAny_attempt (wpAny_callSpecial?_slot (name:=Str.ofString "__next__") hTy F.slot_zip_next (wpAny_call_entry F.slot_zip_next hTy F.entry_zip_next
   (Zk4 D hz hT pp j1 j2 o1 o2 hx hy fun h' hz' hi1 hi2 hP hk=>wpAny_pure (hQ h' ⟨.inr ⟨T,true,o,hz',hk _ _ n3 n1 n2 hT,n1,n2,n3⟩,hk _ _ D.TIz D.TIi1 D.TIi2 pp,hi1,hi2,o1.keep fun o q=>hk _ _ D.l1z D.l1i1 D.l1i2 q,o2.keep fun o q=>hk _ _ D.l2z D.l2i1 D.l2i2 q⟩ hP fun c o c1 _ c3 c4 q=>hk c o c1 c3 c4 q)) (F.args_zip_next_1 _))))
theorem Zo8 {b1 b2:Bool} {z TI TO i1 i2 l1 l2:Addr} {i:Nat} {xs ys:Array Value} {Q:Option Value → Shared → Prop} (hh:A.handled = none) (D:ZipApart z TI TO i1 i2 l1 l2) (Z:ZS b1 b2 z TI TO i1 i2 l1 l2 xs ys i s.heap) (hend:xs[i]? = none ∨ ys[i]? = none)
  (hQ:∀ h',(∀ c o,c ≠ z → c ≠ TO → c ≠ i1 → c ≠ i2 → s.heap.get? c = some o → h'.get? c = some o) → Q none { s with heap:=h' }):
  wpAny (model prog w) A (pyNext (.ref z)) Q E s:=by
 obtain ⟨zz,pp,j1,j2,o1,o2⟩:=Z
 rcases zz with ⟨hz,a,b,hTO⟩ | ⟨T,b,o,hz,hT,n1,n2,n3⟩
 ·exact Zil hh D hz pp hTO j1 j2 o1 o2 hend hQ
 ·have hTy:s.TypeIs (.ref z) "zip":=⟨_,hz,rfl⟩
  unfold pyNext
  refine wpAny_bind (wpAny_attempt (wpAny_callSpecial?_slot (name:=Str.ofString "__next__") hTy F.slot_zip_next (wpAny_call_entry F.slot_zip_next hTy F.entry_zip_next
   (ZlN hh D hz hT pp j1 j2 o1 o2 hend fun h' e hk he=>?_) (F.args_zip_next_1 _))))
  obtain ⟨o,ho,hc⟩:=he
  exact wpAny_bind (wpAny_isInstance (T:="StopIteration") (b:=true) ⟨o,ho,hc⟩ isSubtype_stop (wpAny_pure (hQ _ fun c o c1 _ c3 c4 q=>hk c o c1 c3 c4 q)))
end
end L3
namespace L3
open PySem PySem.Spec PyProof.Rows L2
set_option maxRecDepth 100000
section
variable {prog:Program} {w:World} {A:Around} {E:Value → Shared → Prop} {s:Shared}
theorem ZS.keep {b1 b2:Bool} {z TI TO i1 i2 l1 l2 d:Addr} {xs ys:Array Value} {i:Nat} {h h':Heap} (Z:ZS b1 b2 z TI TO i1 i2 l1 l2 xs ys i h) (nd:∀ c ∈ [z,TI,TO,i1,i2,l1,l2],c ≠ d) (k:∀ c o,c ≠ d → h.get? c = some o → h'.get? c = some o) (kd:∃ o,h'.get? d = some o):ZS b1 b2 z TI TO i1 i2 l1 l2 xs ys i h':=by
 obtain ⟨zz,pp,j1,j2,o1,o2⟩:=Z
 refine ⟨?_,k _ _ (nd TI (by simp)) pp,j1.keep fun o q=>k _ _ (nd i1 (by simp)) q,j2.keep fun o q=>k _ _ (nd i2 (by simp)) q,o1.keep fun o q=>k _ _ (nd l1 (by simp)) q,o2.keep fun o q=>k _ _ (nd l2 (by simp)) q⟩
 rcases zz with ⟨hz,a,b,hTO⟩ | ⟨T,b,o,hz,hT,n1,n2,n3⟩
 ·exact .inl ⟨k _ _ (nd z (by simp)) hz,a,b,k _ _ (nd TO (by simp)) hTO⟩
 ·by_cases e:T = d
  ·obtain ⟨o',q⟩:=kd
   exact .inr ⟨T,b,o',k _ _ (nd z (by simp)) hz,by rw [e]; exact q,n1,n2,n3⟩
  ·exact .inr ⟨T,b,o,k _ _ (nd z (by simp)) hz,k _ _ e hT,n1,n2,n3⟩
def Ze4 (prog:Program) (w:World) (ps:List (Key × Value)) (xs ys:Array Value):Prop:=ps.length = min xs.size ys.size ∧ ∀ (j:Nat) q,ps[j]? = some q → ∃ x,xs[j]? = some x ∧ ys[j]? = some q.2 ∧ (Zas prog w).is q.1 x = true
theorem Zlk {b1 b2:Bool} {d z TI TO i1 i2 l1 l2:Addr} {xs ys:Array Value} {ps:List (Key × Value)} {res:Value} (hh:A.in1.handled = none) (D:ZipApart z TI TO i1 i2 l1 l2) (nd:∀ c ∈ [z,TI,TO,i1,i2,l1,l2],c ≠ d) (kp:Ze4 prog w ps xs ys) (hz:ps.length ≤ 100000):
  ∀ (k i:Nat) (s:Shared) (kvs:List (Key × Value)) {R:Result → Shared → Prop},ps.length - i = k → i ≤ ps.length → ZS b1 b2 z TI TO i1 i2 l1 l2 xs ys i s.heap → s.heap.DictOf (Zas prog w) d kvs → kvs.length ≤ i →
   (∀ h' tk,h'.DictOf (Zas prog w) d (PySem.merged kvs (ps.drop i)) → (∀ b o,b ≠ d → b ≠ z → b ≠ TO → b ≠ i1 → b ≠ i2 → s.heap.get? b = some o → h'.get? b = some o) → R (.ok (.ret res)) { s with heap:=h',toks:=tk }) →
   codeAny (model prog w) A (.builtin "dict.update.loop" ⟨[.ref d,.ref z,rawInt i,res],[]⟩) R s:=by
 intro k
 induction k with
 | zero=>
  intro i s kvs R hk hi st dd hkl hR
  have hin:i = ps.length:=by omega
  refine codeAny_builtin ZdF ?_
  rw [Around.under_plainId ZbY _]
  show wpAny _ A.in1 (pyNext (.ref z) >>= _) _ _ s
  refine wpAny_bind (Zo8 hh D st ?_ fun h' kk=>?_)
  ·have:=kp.1
   by_cases q:xs.size ≤ i
   ·left; simp; omega
   ·right; simp; omega
  show wpAny _ A.in1 (Builtin.Dict.addKeywords d [] >>= _) _ _ _
  refine wpAny_bind (wpAny_pure (wpAny_pure (hR h' _ ?_ fun b o _ hb hI h3 h4 e=>kk b o hb hI h3 h4 e)))
  rw [List.drop_of_length_le (by omega)]
  obtain ⟨o,es,ep,ho,r⟩:=dd
  exact ⟨o,es,ep,kk d o (nd z (by simp)).symm (nd TO (by simp)).symm (nd i1 (by simp)).symm (nd i2 (by simp)).symm ho,r⟩
 | succ k ih=>
  intro i s kvs R hk hi st dd hkl hR
  have hlt:i < ps.length:=by omega
  obtain ⟨x,hx,hy,hkey⟩:=kp.2 i ps[i] (List.getElem?_eq_getElem hlt)
  refine codeAny_builtin ZdF ?_
  rw [Around.under_plainId ZbY _]
  show wpAny _ A.in1 (pyNext (.ref z) >>= _) _ _ s
  refine wpAny_bind (ZoC D st hx hy fun h1 st1 hP kk1=>?_)
  have hld:d < s.heap.objs.size:=by obtain ⟨o,_,_,ho,_⟩:=dd; exact Heap.lt_size ho
  have dd1:h1.DictOf (Zas prog w) d kvs:=by
   obtain ⟨o',es,ep,ho',r⟩:=dd
   exact ⟨o',es,ep,kk1 d o' (nd z (by simp)).symm (nd TO (by simp)).symm (nd i1 (by simp)).symm (nd i2 (by simp)).symm ho',r⟩
  dsimp only
  refine wpAny_bind (wpAny_holding (wpAny_bind (wpAny_tryCatch ?_)))
  unfold Builtin.Dict.pairItems
  refine wpAny_bind (wpAny_typeOf (T:="tuple") ⟨_,hP,rfl⟩ ?_)
  rw [if_pos (by decide)]
  refine wpAny_bind ?_
  unfold seqItems?
  refine wpAny_bind (wpAny_load hP ?_)
  refine wpAny_pure (wpAny_pure ?_)
  show wpAny _ A.in1 (holding [x,ps[i].2] (dictSet d x ps[i].2)) _ _ _
  refine wpAny_holding (wpAny_dictSet_pairs hkey dd1 (fun h2 dd2 sb=>?_) (by rw [sizeLine_eq]; omega))
  refine wpAny_pure ⟨plainId_quiet ZbY _,?_⟩
  show codeAny (model prog w) A (.builtin "dict.update.loop" ⟨[.ref d,.ref z,rawInt ((i:Int) + 1),res],[]⟩) R _
  have e1:((i:Int) + 1) = ((i + 1:Nat):Int):=rfl
  rw [e1]
  have k2:∀ b u,b ≠ d → b ≠ z → b ≠ TO → b ≠ i1 → b ≠ i2 → s.heap.get? b = some u → h2.get? b = some u:=fun b u hb h1 h2 h3 h4 e=>(sb.2 b hb).trans (kk1 b u h1 h2 h3 h4 e)
  refine ih (i + 1) _ (stored kvs ps[i].1 ps[i].2) (by omega) hlt (st1.keep nd (fun c o hc q=>(sb.2 c hc).trans q) ?_) dd2 ?_ ?_
  ·obtain ⟨o,_,_,ho,_⟩:=dd2; exact ⟨o,ho⟩
  ·have:=(show (stored kvs ps[i].1 ps[i].2).length ≤ kvs.length + 1 from by unfold stored; split <;> simp)
   omega
  ·intro h' tk dd' kk'
   refine hR h' tk ?_ fun b u hb h1 h2 h3 h4 e=>kk' b u hb h1 h2 h3 h4 (k2 b u hb h1 h2 h3 h4 e)
   rw [List.drop_eq_getElem_cons hlt]
   exact dd'
theorem Zl8 {b1 b2:Bool} {z TI TO i1 i2 l1 l2:Addr} {xs ys:Array Value} {ps:List (Key × Value)} {Q:Value → Shared → Prop} (hA:A.handled = none) (D:ZipApart z TI TO i1 i2 l1 l2) (hZ:IsZip s.heap z TI TO .none) (hTO:∃ a b,IsPair s.heap TO a b) (hTI:IsPair s.heap TI (.ref i1) (.ref i2)) (j1:itK b1 s.heap i1 l1 0) (j2:itK b2 s.heap i2 l2 0) (o1:obK b1 s.heap l1 xs) (o2:obK b2 s.heap l2 ys)
  (kp:Ze4 prog w ps xs ys) (hz:ps.length ≤ 100000)
  (h:∀ h' tk,h'.DictOf (Zas prog w) s.heap.objs.size (PySem.merged [] ps) → (∀ b o,b ≠ z → b ≠ TO → b ≠ i1 → b ≠ i2 → s.heap.get? b = some o → h'.get? b = some o) → Q (.ref s.heap.objs.size) { s with heap:=h',toks:=tk }):
  wpAny (model prog w) A (call (.type "dict") [.ref z]) Q E s:=by
 have nlt:∀ c ∈ [z,TI,TO,i1,i2,l1,l2],c < s.heap.objs.size:=fun c hc=>by
  obtain ⟨a,b,hTO⟩:=hTO
  obtain ⟨u1,q1,_⟩:=j1.there
  obtain ⟨u2,q2,_⟩:=j2.there
  simp only [List.mem_cons,List.not_mem_nil,or_false] at hc
  rcases hc with rfl | rfl | rfl | rfl | rfl | rfl | rfl
  ·exact Heap.lt_size hZ
  ·exact Heap.lt_size hTI
  ·exact Heap.lt_size hTO
  ·exact Heap.lt_size q1
  ·exact Heap.lt_size q2
  ·exact o1.there
  ·exact o2.there
 refine callType_codes (Q₁:=fun obj s₁=>obj = .ref s.heap.objs.size ∧ s₁ = { s with heap:=s.heap.push { cls:=.type "dict",data:=.dict #[] } }) F.kt_called_dict (F.kt_typeCall_dict_1 _) F.entry_dict_init (kt_code_dict_new _ ⟨rfl,rfl⟩) ?_
 rintro obj s₁ ⟨rfl,rfl⟩
 have hnew:(s.heap.push { cls:=.type "dict",data:=.dict #[] }).DictOf (Zas prog w) s.heap.objs.size []:=Heap.DictOf.new s.heap
 have hk1:∀ b u,s.heap.get? b = some u → (s.heap.push { cls:=.type "dict",data:=.dict #[] }).get? b = some u:=fun b u q=>Heap.get?_push_of_some _ q
 refine ⟨hnew.typeIs,F.args_dict_init_2 _ _,?_⟩
 unfold Builtin.«dict.__init__»
 refine wpAny_bind ?_; unfold Builtin.Dict.selfAndRest
 refine wpAny_bind (wpAny_notOrdered_dict hnew.typeIs ?_); show wpAny _ _ (pure (s.heap.objs.size,[Value.ref z])) _ _ _
 refine wpAny_pure ?_; show wpAny _ _ (Builtin.Dict.updateFrom "dict.__init__" s.heap.objs.size (.ref z) [] .none) _ _ _
 unfold Builtin.Dict.updateFrom
 refine wpAny_bind (wpAny_typeOf (T:="zip") ⟨_,hk1 _ _ hZ,rfl⟩ ?_)
 rw [if_pos (by decide)]
 refine wpAny_bind (ZiA (hk1 _ _ hZ) hA fun h2 tk2 k2=>?_)
 simp only [Option.isNone_none,if_true]
 refine wpAny_bind (wpAny_rule ?_)
 have d2:h2.DictOf (Zas prog w) s.heap.objs.size []:=by
  obtain ⟨o',es,ep,ho',r⟩:=hnew
  exact ⟨o',es,ep,k2 _ _ ho',r⟩
 have k0:∀ b u,s.heap.get? b = some u → h2.get? b = some u:=fun b u q=>k2 _ _ (hk1 _ _ q)
 refine wpAny_bind (wpAny_pyIter_zip (k0 _ _ hZ) ?_)
 have st:ZS b1 b2 z TI TO i1 i2 l1 l2 xs ys 0 h2:=by
  obtain ⟨a,b,hTO⟩:=hTO
  exact ⟨.inl ⟨k0 _ _ hZ,a,b,k0 _ _ hTO⟩,k0 _ _ hTI,j1.keep fun o q=>k0 _ _ q,j2.keep fun o q=>k0 _ _ q,o1.keep fun o q=>k0 _ _ q,o2.keep fun o q=>k0 _ _ q⟩
 refine wpAny_pure ⟨plainId_quiet ZbY _,Zlk (prog:=prog) (w:=w) (A:=A.in1) hA D (fun c hc=>Nat.ne_of_lt (nlt c hc)) kp hz ps.length 0 _ [] rfl (Nat.zero_le _) st d2 (Nat.zero_le _) fun h' tk dd' kk'=>?_⟩
 exact ⟨rfl,h h' tk dd' fun b u b1 b2 b3 b4 q=>kk' b u (Nat.ne_of_lt (Heap.lt_size q)) b1 b2 b3 b4 (k0 _ _ q)⟩
end
end L3
namespace L3
open PySem PySem.Spec PyProof.Rows L2
set_option maxRecDepth 100000
section
variable {X:Cx} {K:PySem.W.Frag} {H:Hp} {ι:List Addr} {prog:Program} {w:World}
theorem Zln {ps:List (Key × Value)} {ux uy:List Value} {k:Key} {u v:Value} (hk:(Zas prog w).is k u = true) (h:Ze4 prog w ps ux.toArray uy.toArray):Ze4 prog w ((k,v) :: ps) (u :: ux).toArray (v :: uy).toArray:=by
 refine ⟨?_,fun j q hq=>?_⟩
 ·have:=h.1
  simp only [List.size_toArray,List.length_cons] at this ⊢
  omega
 ·cases j with
  | zero=>rw [← Option.some.inj hq]; exact ⟨u,rfl,rfl,hk⟩
  | succ j=>
   obtain ⟨x,h1,h2,h3⟩:=h.2 j q hq
   exact ⟨x,by simpa using h1,by simpa using h2,h3⟩
theorem Zps:∀ {x y:List D} {l:List (Zak × D)} {vx vy:List V} {ux uy:List Value},ZcI (Zjr x y) = some l → Zn K H ι x vx → Zn K H ι y vy → Vals vx ux → Vals vy uy →
  ∃ (ws:List (Key × V)) (ps:List (Key × Value)),KvR K H ι l ws ∧ KV ws ps ∧ Ze4 prog w ps ux.toArray uy.toArray ∧ ps.length = l.length:=by
 intro x
 induction x with
 | nil=>
  intro y l vx vy ux uy h rx ry hx hy
  rw [rx.nil_inv] at hx
  cases hx
  have e:l = []:=(Option.some.inj h).symm
  rw [e]
  exact ⟨[],[],KvR.nil,.nil,⟨by simp,fun j q z=>nsm z⟩,rfl⟩
 | cons a x ih=>
  intro y l vx vy ux uy h rx ry hx hy
  cases y with
  | nil=>
   rw [ry.nil_inv] at hy
   cases hy
   have e:l = []:=(Option.some.inj h).symm
   rw [e]
   exact ⟨[],[],KvR.nil,.nil,⟨by simp,fun j q z=>nsm z⟩,rfl⟩
  | cons b y=>
   have h:ZcI (.tup [a,b] :: Zjr x y) = some l:=h
   obtain ⟨a',b',k,l',ed,hk,hx',el⟩:=ZjI h
   injection ed with ed
   injection ed with e1 ed
   injection ed with e2 ed
   rw [← e1] at hk
   rw [el,← e2]
   obtain ⟨v1,vx',rfl,r1,rx⟩:=rx.cons_inv
   obtain ⟨v2,vy',rfl,r2,ry⟩:=ry.cons_inv
   cases hx with
   | @cons _ u1 _ _ q1 hx=>cases hy with
    | @cons _ u2 _ _ q2 hy=>
     obtain ⟨ws,ps,kr,kv,kp,hl⟩:=ih hx' rx ry hx hy
     exact ⟨(dk k,v2) :: ws,(dk k,u2) :: ps,KvR.cons r2 kr,.cons ⟨rfl,q2⟩ kv,Zln (ZgW (by rw [← ZeF hk r1]; exact q1)) kp,congrArg Nat.succ hl⟩
end
section
variable {X:Cx} {a b:Expr} {p p1 pos pos1:Pos} {f g:E3}
inductive ZtO (X:Cx) (H1:Hp) (vs:List V) (Q:VK):Prop
 | mk (b1 b2:Bool) (l1 l2:Addr) (xs ys:List V) (e:vs = [.ref l1,.ref l2]) (s1:sqK b1 X.K H1 l1 xs) (s2:sqK b2 X.K H1 l2 ys)
  (q:∀ ux uy,Vals xs ux → Vals ys uy → ∃ ws ps,KV ws ps ∧ Ze4 X.prog X.w ps ux.toArray uy.toArray ∧ ps.length ≤ 100000 ∧ ∀ p,H1 p = none → Q (.ref p) (upd H1 p (.dK (Zdy [] ws))))
theorem Zja {ta:TA} (hc:X.calm = true) (hg:Gl X "zip") (hm:X.mg "zip" = none) (hgd:Gl X "dict") (hmd:X.mg "dict" = none) (ha:PA X [a,b] ta)
  (hs:starEach [a,b] X.env = [(false,eval a X.env),(false,eval b X.env)]) (hs2:starEach [b] X.env = [(false,eval b X.env)])
  (he:starEach [.Call (.Name "zip" p1) [a,b] [] pos1] X.env = [(false,eval (.Call (.Name "zip" p1) [a,b] [] pos1) X.env)]):
  PE X (.Call (.Name "dict" p) [.Call (.Name "zip" p1) [a,b] [] pos1] [] pos) (fun σ H Q=>ta σ H fun vs H1=>ZtO X H1 vs Q):=by
 intro pins s σ H Q I h
 refine Call_ (Zed I hgd hmd ZnK (PyProof.Rows.callWith_type1 ?_ (by rw [he]; rfl) rfl))
 rw [he]
 refine Calls.spliced_cons (Call_ (Zed I hg hm Zk2 (PyProof.Rows.callWith_type1 (thn (ha pos1 pins s σ H _ I h) fun us s1 zz1=>?_) (by rw [hs,hs2]) (by rw [hs2]; rfl))))
 obtain ⟨vs,H1,I1,r1,b1,b2,l1,l2,xs,ys,e,hx,hy,q⟩:=zz1
 subst e
 cases r1 with
 | cons r rr=>
  cases rr with
  | cons r' rr=>
   cases rr
   cases r
   cases r'
   obtain ⟨its,rv,q1⟩:=sqK.at I1 hx
   obtain ⟨its2,rv2,q2⟩:=sqK.at I1 hy
   obtain ⟨ws,ps,kv,kp,hz,hQ⟩:=q its its2 rv rv2
   refine ZkR q1 q2 fun h' hZ hTI hTO hi1 hi2 hk=>Calls.spliced_nil ?_
   have hle:s1.heap.objs.size ≤ h'.objs.size:=Nat.le_trans (Nat.le_add_right _ 4) (Nat.le_of_lt (Heap.lt_size hZ))
   refine Zl8 (s:={ s1 with heap:=h' }) (I.ok.hd hc) (zipApart_new q1.there q2.there) hZ ⟨_,_,hTO⟩ hTI hi1 hi2 (q1.keep fun o q=>hk _ _ q) (q2.keep fun o q=>hk _ _ q) kp hz fun h2 tk dd kk=>?_
   refine ⟨.ref h'.objs.size,upd H1 h'.objs.size (.dK (Zdy [] ws)),?_,rfl,hQ _ (I1.hok.fresh hle)⟩
   refine I1.laid (fun c o q=>?_) hle (Zji ?_ ?_ (kv.merge (kvs:=[]) (vs:=[]) .nil) dd)
   ·have hlt:=Heap.lt_size q
    have hn:∀ m,c ≠ s1.heap.objs.size + m:=fun m=>Nat.ne_of_lt (Nat.lt_of_lt_of_le hlt (Nat.le_add_right _ _))
    exact kk c o (hn 4) (hn 3) (hn 0) (hn 1) (hk c o q)
   ·have h1:=ZcV ws []
    have:=kv.length
    rw [List.length_nil] at h1
    rw [sizeLine_eq]; omega
   ·exact beq_eq_false_iff_ne.mpr (Ne.symm (Nat.ne_of_lt (Nat.lt_of_lt_of_le I1.big hle)))
theorem Zii {K:PySem.W.Frag} {H:Hp} {ι:List Addr} {M:Store} {d:D} {v:V} {x:List D} {l:List (Nat × List D)} (S:Zz K H ι M) (r:Rep K H ι d v) (e:ZmY M d = some (x,l)):∃ b a,v = .ref a ∧ ∃ vs,sqK b K H a vs ∧ Zn K H ι x vs:=by
 cases d with
 | tup ds=>
  obtain ⟨a,vs,rfl,s,r⟩:=r.tup_inv
  cases e
  exact ⟨false,a,rfl,vs,s,r⟩
 | ref n=>
  have e:(match M[n]? with | some (.lst x)=>some (x,[(n,x)]) | _=>none) = some (x,l):=e
  cases hm:M[n]? with
  | none=>rw [hm] at e; exact nsm e
  | some o=>cases o with
   | lst ds=>
    rw [hm] at e
    obtain ⟨a,ha,rfl⟩:=r.ref_inv
    obtain ⟨vs,q,rr⟩:=S.obj n _ a hm ha
    cases e
    exact ⟨true,a,rfl,vs,SqL.of q,rr⟩
   | _=>rw [hm] at e; exact nsm e
 | _=>exact nsm e
theorem ZgC (hc:X.calm = true) (hm:X.mg "zip" = none) (hmd:X.mg "dict" = none) (h1:C3 X a f) (h2:C3 X b g) (hg:Gl X "zip":=by rfl) (hgd:Gl X "dict":=by rfl)
  (hs:starEach [a,b] X.env = [(false,eval a X.env),(false,eval b X.env)]:=by rfl) (hs2:starEach [b] X.env = [(false,eval b X.env)]:=by rfl)
  (hs':starEach (a :: [b]) X.env = (false,eval a X.env) :: starEach [b] X.env:=by rfl) (hs'':starEach (b :: []) X.env = (false,eval b X.env) :: starEach [] X.env:=by rfl)
  (he:starEach [.Call (.Name "zip" p1) [a,b] [] pos1] X.env = [(false,eval (.Call (.Name "zip" p1) [a,b] [] pos1) X.env)]:=by rfl):
  C3 X (.Call (.Name "dict" p) [.Call (.Name "zip" p1) [a,b] [] pos1] [] pos) (Zc6 f g):=
 (Zja hc hg hm hgd hmd (Zc h1 (Zc h2 Zj hs'') hs') hs hs2 he).imp fun σ H Q zz1=>by
  obtain ⟨ι,M,env,S,E,h⟩:=zz1
  obtain ⟨d,M1,e1,h⟩:=Zo.bind h
  obtain ⟨d2,M2,e2,h⟩:=Zo.bind h
  refine ⟨ι,M,env,S,E,?_⟩
  have e3:Zb f (Zb g Zi) env M = .ok [d,d2] M2:=by simp only [Zb,Zi,R3.bind,e1,e2]
  rw [e3]
  intro vs H1 ι1 x1 S1 r1
  obtain ⟨v,ws,rfl,r,q⟩:=r1.cons_inv
  obtain ⟨v2,ws2,rfl,r2,q2⟩:=q.cons_inv
  have:=q2.nil_inv
  subst this
  cases q1:ZmY M2 d with
  | none=>simp only [q1] at h; exact h.elim
  | some xl=>
   cases q2:ZmY M2 d2 with
   | none=>simp only [q1,q2] at h; exact h.elim
   | some yk=>
    obtain ⟨x,l⟩:=xl
    obtain ⟨y,k⟩:=yk
    simp only [q1,q2] at h
    unfold Zn8 at h
    cases hp:ZcI (Zjr x y) with
    | none=>rw [hp] at h; exact h.elim
    | some l3=>
     rw [hp] at h
     dsimp only at h
     by_cases hl:l3.length ≤ 100000
     ·rw [if_pos hl] at h
      obtain ⟨b1,a1,rfl,xs,w1,f1⟩:=Zii S1 r q1
      obtain ⟨b2,a2,rfl,ys,w2,f2⟩:=Zii S1 r2 q2
      refine ⟨b1,b2,a1,a2,xs,ys,rfl,w1,w2,fun ux uy hx hy=>?_⟩
      obtain ⟨ws,ps,kr,kv,kp,hlen⟩:=Zps (prog:=X.prog) (w:=X.w) hp f1 f2 hx hy
      refine ⟨ws,ps,kv,kp,by rw [hlen]; exact hl,fun p hp=>?_⟩
      obtain ⟨x2,S2,r2⟩:=S1.dct hp (KvR.merge (kvs:=[]) (ws:=[]) kr KvR.nil)
      exact (h.up x1) _ _ _ x2 S2 r2
     ·rw [if_neg hl] at h; exact h.elim
end
end L3
set_option maxHeartbeats 400000
namespace Law
open PySem L3
noncomputable section
def Zbn:Zex:=[([97,100,100],2),([115,117,98],2),([109,111,114,101],2),([99,101,108,108],1)]
def Zgo:S3:=Zu (sIf (e2 ZbJ (Za 0) (eC (.str [97,100,100]))) (Zb0 (e2 Zag (Za 1) (Za 2))) (ZbZ)) (Zu (sIf (e2 ZbJ (Za 0) (eC (.str [115,117,98]))) (Zb0 (e2 ZbN (Za 1) (Za 2))) (ZbZ)) (Zb0 (eIf (e2 Zem (Za 1) (Za 2)) (eC (.int 1)) (eC (.int 0)))))
def Zer:F3:=mkF 3 3 Zgo
def Ze8:S3:=Zu (Zat 1 (Zcv (Zi))) (Zu (Zat 2 (eC (.int 0))) (Zu (Zhp (Zft (Za 0)) (Zbj 3) (Zu (sIf (e2 ZbJ (Za 2) (eC (.int 0))) (Zu (Zaa (Zaw tyL Zae (Za 1) (Zb (Zcv (Zi)) (Zi)))) (Zat 2 (eC (.int 1)))) (ZbZ)) (Zu (Zaa (Zaw tyL Zae (e2 Zr (Za 1) (e1 ZfU (eC (.int 1)))) (Zb (Za 3) (Zi)))) (Zat 2 (e2 Zag (e2 ZbN (Za 2) (eC (.int 1))) (e2 (ZdP Zbn) (Za 3) (eC (.int 0)))))))) (Zb0 (eIf (e2 ZbJ (Za 2) (eC (.int 0))) (eLC (Zft (Za 1)) 1 (Zbj 4) [] (ZaD Zcm (Zb (Za 4) (Zi)))) (eC .non)))))
def ZdR:F3:=mkF 1 4 Ze8
def Zeh:S3:=Zb0 (Zap ZdR (Zb (eSl (Za 0) (Ziu (eC (.int 1))) (Zj4)) (Zi)))
def Zb3:F3:=mkF 1 1 Zeh
def Zcl:S3:=Zu (ZfS [87,97,108,107] [110,97,109,101,100] (Za 0) (Za 1)) (Zu (ZfS [87,97,108,107] [99,101,108,108,115] (Za 0) (Znf)) (Zu (ZfS [87,97,108,107] [110,117,109,98,101,114,115] (Za 0) (Zcv (Zi))) (Zu (ZfS [87,97,108,107] [115,116,101,112,115] (Za 0) (eC (.int 0))) (ZfS [87,97,108,107] [109,111,115,116] (Za 0) (Za 2)))))
def ZaL:F3:=mkF 3 3 Zcl
def Zdl:S3:=Zu (ZfS [87,97,108,107] [115,116,101,112,115] (Za 0) (e2 Zag (e1 (Zce [87,97,108,107] [115,116,101,112,115]) (Za 0)) (Za 1))) (sIf (e2 Zem (e1 (Zce [87,97,108,107] [115,116,101,112,115]) (Za 0)) (e1 (Zce [87,97,108,107] [109,111,115,116]) (Za 0))) (ZhZ) (ZbZ))
def Zw:F3:=mkF 2 2 Zdl
def ZaM (rec:Nat → F3):S3:=Zu (Zat 2 (eLC (Zft (Zap Zb3 (Zb (Za 1) (Zi)))) 1 (Zbj 3) [] (Zab [87,97,108,107] [118,97,108,117,101,95,111,102] (rec 0) (Za 0) (Zb (Za 3) (Zi))))) (Zu (sIf (e2 ZbJ (ZaD Zbe (Zb (Za 2) (Zi))) (eC (.int 2))) (Zu (Zaa (Zab [87,97,108,107] [115,112,101,110,100] Zw (Za 0) (Zb (eC (.int 1)) (Zi)))) (Zb0 (Zap Zer (Zb (e2 Zr (Za 1) (eC (.int 0))) (Zb (e2 Zr (Za 2) (eC (.int 0))) (Zb (e2 Zr (Za 2) (eC (.int 1))) (Zi))))))) (ZbZ)) (Zu (sIf (e2 ZbJ (ZaD Zbe (Zb (Za 2) (Zi))) (eC (.int 1))) (Zu (Zaa (Zab [87,97,108,107] [115,112,101,110,100] Zw (Za 0) (Zb (eC (.int 2)) (Zi)))) (Zb0 (Zaw Zgr ZfP (e1 (Zce [87,97,108,107] [99,101,108,108,115]) (Za 0)) (Zb (e2 Zr (Za 2) (eC (.int 0))) (Zb (eC (.int 0)) (Zi)))))) (ZbZ)) (Zu (sIf (e1 (Za3 .int) (e2 Zr (Za 1) (eC (.int 0)))) (Zu (Zaa (Zab [87,97,108,107] [115,112,101,110,100] Zw (Za 0) (Zb (eC (.int 1)) (Zi)))) (Zb0 (e2 Zr (Za 1) (eC (.int 0))))) (ZbZ)) (Zu (Zaa (Zab [87,97,108,107] [115,112,101,110,100] Zw (Za 0) (Zb (eC (.int 2)) (Zi)))) (Zb0 (Zaw Zgr ZfP (e1 (Zce [87,97,108,107] [110,97,109,101,100]) (Za 0)) (Zb (e2 Zr (Za 1) (eC (.int 0))) (Zb (eC (.int 0)) (Zi)))))))))
def Zbq:Nat → Nat → F3
 | 0,0=>mkF 2 3 ZhZ
 | n + 1,0=>mkF 2 3 (ZaM (Zbq n))
 | _,_=>fun _ _=>.bad
def Zal:F3:=Zbq 13 0
def Zdo:S3:=Zu (Zat 2 (Zab [87,97,108,107] [118,97,108,117,101,95,111,102] Zal (Za 0) (Zb (Za 1) (Zi)))) (Zu (Zaa (Zab [87,97,108,107] [115,112,101,110,100] Zw (Za 0) (Zb (eC (.int 1)) (Zi)))) (Zb0 (e2 Zem (Za 2) (eC (.int 0)))))
def ZbF:F3:=mkF 2 3 Zdo
def Zd5 (rec:Nat → F3):S3:=Zu (Zjo (Zab [87,97,108,107] [105,115,95,97,98,111,118,101] ZbF (Za 0) (Zb (e2 Zr (Za 1) (eC (.int 1))) (Zi))) (Zu (Zaa (Zab [87,97,108,107] [103,111,95,116,104,114,111,117,103,104] (rec 0) (Za 0) (Zb (e2 Zr (Za 1) (eC (.int 2))) (Zi)))) (Zaa (Zab [87,97,108,107] [115,112,101,110,100] Zw (Za 0) (Zb (eC (.int 1)) (Zi)))))) (Zaa (Zab [87,97,108,107] [115,112,101,110,100] Zw (Za 0) (Zb (eC (.int 1)) (Zi))))
def ZaU (rec:Nat → F3):S3:=sIf (e2 ZbJ (e2 Zr (Za 1) (eC (.int 0))) (eC (.str [119,104,101,110]))) (Zaa (Zab [87,97,108,107] [99,104,111,111,115,101] (rec 2) (Za 0) (Zb (Za 1) (Zi)))) (sIf (e2 ZbJ (e2 Zr (Za 1) (eC (.int 0))) (eC (.str [119,104,105,108,101]))) (Zaa (Zab [87,97,108,107] [114,101,112,101,97,116] (rec 3) (Za 0) (Zb (Za 1) (Zi)))) (sIf (e2 ZbJ (e2 Zr (Za 1) (eC (.int 0))) (eC (.str [112,117,116]))) (Zu (Zat 2 (Zab [87,97,108,107] [118,97,108,117,101,95,111,102] Zal (Za 0) (Zb (e2 Zr (Za 1) (eC (.int 1))) (Zi)))) (Zu (ZiM (e1 (Zce [87,97,108,107] [99,101,108,108,115]) (Za 0)) (Za 2) (Zab [87,97,108,107] [118,97,108,117,101,95,111,102] Zal (Za 0) (Zb (e2 Zr (Za 1) (eC (.int 2))) (Zi)))) (Zaa (Zab [87,97,108,107] [115,112,101,110,100] Zw (Za 0) (Zb (eC (.int 2)) (Zi)))))) (sIf (e2 ZbJ (e2 Zr (Za 1) (eC (.int 0))) (eC (.str [115,101,116]))) (Zu (ZiM (e1 (Zce [87,97,108,107] [110,97,109,101,100]) (Za 0)) (e2 Zr (Za 1) (eC (.int 1))) (Zab [87,97,108,107] [118,97,108,117,101,95,111,102] Zal (Za 0) (Zb (e2 Zr (Za 1) (eC (.int 2))) (Zi)))) (Zaa (Zab [87,97,108,107] [115,112,101,110,100] Zw (Za 0) (Zb (eC (.int 2)) (Zi))))) (Zu (Zaa (Zaw tyL Zae (e1 (Zce [87,97,108,107] [110,117,109,98,101,114,115]) (Za 0)) (Zb (Zab [87,97,108,107] [118,97,108,117,101,95,111,102] Zal (Za 0) (Zb (e2 Zr (Za 1) (eC (.int 1))) (Zi))) (Zi)))) (Zaa (Zab [87,97,108,107] [115,112,101,110,100] Zw (Za 0) (Zb (eC (.int 1)) (Zi))))))))
def Zec (rec:Nat → F3):S3:=sIf (Zab [87,97,108,107] [105,115,95,97,98,111,118,101] ZbF (Za 0) (Zb (e2 Zr (Za 1) (eC (.int 1))) (Zi))) (Zaa (Zab [87,97,108,107] [103,111,95,116,104,114,111,117,103,104] (rec 0) (Za 0) (Zb (e2 Zr (Za 1) (eC (.int 2))) (Zi)))) (Zu (Zaa (Zab [87,97,108,107] [103,111,95,116,104,114,111,117,103,104] (rec 0) (Za 0) (Zb (e2 Zr (Za 1) (eC (.int 3))) (Zi)))) (Zaa (Zab [87,97,108,107] [115,112,101,110,100] Zw (Za 0) (Zb (eC (.int 1)) (Zi)))))
def ZbQ (rec:Nat → F3):S3:=Zhp (Zft (Za 1)) (Zbj 2) (Zaa (Zab [87,97,108,107] [100,111,95,100,101,101,100] (rec 1) (Za 0) (Zb (Za 2) (Zi))))
def Zq:Nat → Nat → F3
 | 0,0=>mkF 2 3 ZhZ
 | 0,1=>mkF 2 3 ZhZ
 | 0,2=>mkF 2 2 ZhZ
 | 0,3=>mkF 2 2 ZhZ
 | n + 1,0=>mkF 2 3 (ZbQ (Zq n))
 | n + 1,1=>mkF 2 3 (ZaU (Zq n))
 | n + 1,2=>mkF 2 2 (Zec (Zq n))
 | n + 1,3=>mkF 2 2 (Zd5 (Zq n))
 | _,_=>fun _ _=>.bad
def ZbR:F3:=Zq 13 0
def ZbH:S3:=sIf (e2 ZkD (ZaD Zbe (Zb (Za 1) (Zi))) (ZaD Zbe (Zb (e2 Zr (Za 0) (eC (.int 0))) (Zi)))) (ZhZ) (ZbZ)
def Za2:F3:=mkF 2 2 ZbH
def Zfb:S3:=Zu (Zaa (Zap Za2 (Zb (Za 0) (Zb (Za 1) (Zi))))) (Zu (Zat 3 (Zko [87,97,108,107] ZaL (Zb (Zc6 (e2 Zr (Za 0) (eC (.int 0))) (Za 1)) (Zb (Za 2) (Zi))))) (Zu (Zaa (Zab [87,97,108,107] [115,112,101,110,100] Zw (Za 3) (Zb (e2 Zbr (eC (.int 2)) (ZaD Zbe (Zb (Za 1) (Zi)))) (Zi)))) (Zu (Zaa (Zab [87,97,108,107] [103,111,95,116,104,114,111,117,103,104] ZbR (Za 3) (Zb (e2 Zr (Za 0) (eC (.int 1))) (Zi)))) (Zb0 (ZdB (Zb (e1 (Zce [87,97,108,107] [110,117,109,98,101,114,115]) (Za 3)) (Zb (e1 (Zce [87,97,108,107] [115,116,101,112,115]) (Za 3)) (Zi))))))))
def ZdO:F3:=mkF 3 4 Zfb
def Zdw:S3:=Zu (Zat 2 (eC (.int 0))) (Zu (sIf (e2 Zem (ZaD Zbe (Zb (Za 0) (Zi))) (eC (.int 0))) (Zat 2 (e2 Zaq (e2 Zr (Za 0) (e2 Zaq (Za 1) (ZaD Zbe (Zb (Za 0) (Zi))))) (eC (.int 2147483629)))) (ZbZ)) (Zu (Zat 3 (e2 Zaq (e2 Zbr (e2 Zag (e2 Zag (Za 2) (eC (.int 3))) (e2 Zbr (eC (.int 86243)) (e2 ZaE (Za 1) (ZaD Zg1 (Zb (eC (.int 1)) (Zb (ZaD Zbe (Zb (Za 0) (Zi))) (Zi))))))) (eC (.int 69621))) (eC (.int 2147483629)))) (Zb0 (e2 Zaq (e2 Zbr (Za 3) (Za 3)) (eC (.int 2147483587))))))
def Zy:F3:=mkF 2 4 Zdw
def Zdt:S3:=Zu (Zat 2 (eC (.str [97,98,99,100,101,102,103,104,105,106,107,108,109,110,111,112,113,114,115,116,117,118,119,120,121,122]))) (Zu (Zat 3 (e2 Zr (Za 2) (e2 Zaq (Zap Zy (Zb (Za 0) (Zb (eC (.int 0)) (Zi)))) (eC (.int 26))))) (Zu (Zat 4 (e2 Zaq (Zap Zy (Zb (Za 0) (Zb (eC (.int 1)) (Zi)))) (eC (.int 8)))) (Zu (Zat 5 (e2 Zaq (Zap Zy (Zb (Za 0) (Zb (eC (.int 2)) (Zi)))) (e2 ZbN (eC (.int 8)) (Za 4)))) (Zu (sIf (e2 ZbJ (e2 Zaq (e2 ZaE (Zap Zy (Zb (Za 0) (Zb (eC (.int 1)) (Zi)))) (eC (.int 8))) (eC (.int 2))) (eC (.int 1))) (Zat 5 (e2 Zaq (Zap Zy (Zb (Za 0) (Zb (e2 Zag (eC (.int 4)) (Za 1)) (Zi)))) (e2 ZbN (eC (.int 8)) (Za 4)))) (ZbZ)) (Zu (Zat 6 (e2 Zag (e2 Zag (e2 Zbr (Za 3) (Za 4)) (e2 Zr (Za 2) (e2 Zaq (e2 Zag (Za 1) (Zap Zy (Zb (Za 0) (Zb (eC (.int 3)) (Zi))))) (eC (.int 26))))) (e2 Zbr (Za 3) (Za 5)))) (Zu (sIf (e2 ZbJ (Za 6) (eC (.str [97,100,100]))) (Zb0 (eC (.str [97,100,100,100]))) (ZbZ)) (Zb0 (Za 6))))))))
def ZaX:F3:=mkF 2 7 Zdt
def ZcS:S3:=Zu (Zat 1 (Zcv (Zb (e2 Zaq (e2 ZaE (Za 0) (eC (.int 8))) (eC (.int 5))) (Zb (e2 Zaq (e2 ZaE (Za 0) (eC (.int 8))) (eC (.int 1000))) (Zb (e2 Zaq (e2 Zbr (e2 ZaE (Za 0) (eC (.int 8))) (eC (.int 4099))) (e2 Zfj (eC (.int 10)) (eC (.int 12)))) (Zb (eC (.int 0)) (Zi))))))) (Zb0 (e2 Zr (Zcv (Zb (e2 Zr (Za 1) (e2 Zaq (Za 0) (eC (.int 4)))) (Zb (e1 ZfU (e2 Zr (Za 1) (e2 Zaq (Za 0) (eC (.int 4))))) (Zi)))) (e2 Zaq (e2 ZaE (Za 0) (eC (.int 4))) (eC (.int 2)))))
def Zau:F3:=mkF 1 2 ZcS
def Zei:S3:=Zu (Zat 4 (Zcv (Zi))) (Zu (Zat 5 (eC (.int 1))) (Zu (Zjo (e2 Zem (Za 5) (eC (.int 0))) (Zu (Zat 6 (Zap Zy (Zb (Za 0) (Zb (e2 Zag (Za 1) (ZaD Zbe (Zb (Za 4) (Zi)))) (Zi))))) (Zu (Zat 5 (e2 ZbN (Za 5) (eC (.int 1)))) (sIf (eOr (e2 ZmD (e2 Zag (ZaD Zbe (Zb (Za 4) (Zi))) (Za 5)) (Za 3)) (e2 ZmO (e2 Zaq (Za 6) (eC (.int 5))) (eC (.int 2)))) (sIf (e2 ZbJ (e2 Zaq (e2 ZaE (Za 6) (eC (.int 5))) (eC (.int 3))) (eC (.int 0))) (Zaa (Zaw tyL Zae (Za 4) (Zb (Zap Zau (Zb (e2 ZaE (Za 6) (eC (.int 15))) (Zi))) (Zi)))) (Zaa (Zaw tyL Zae (Za 4) (Zb (e2 Zr (Za 2) (e2 Zaq (e2 ZaE (Za 6) (eC (.int 15))) (ZaD Zbe (Zb (Za 2) (Zi))))) (Zi))))) (sIf (e2 ZbJ (e2 Zaq (Za 6) (eC (.int 5))) (eC (.int 2))) (Zu (Zaa (Zaw tyL Zae (Za 4) (Zb (eC (.str [99,101,108,108])) (Zi)))) (Zat 5 (e2 Zag (Za 5) (eC (.int 1))))) (Zu (Zaa (Zaw tyL Zae (Za 4) (Zb (e2 Zr (Zcv (Zb (eC (.str [97,100,100])) (Zb (eC (.str [115,117,98])) (Zb (eC (.str [109,111,114,101])) (Zi))))) (e2 Zaq (e2 ZaE (Za 6) (eC (.int 5))) (eC (.int 3)))) (Zi)))) (Zat 5 (e2 Zag (Za 5) (eC (.int 2)))))))))) (Zb0 (ZaD Zcm (Zb (Za 4) (Zi))))))
def Zdc:F3:=mkF 4 7 Zei
def Zdj:S3:=Zu (Zat 2 (eLC (ZcN (ZaD Zbe (Zb (e2 Zr (Za 1) (eC (.int 0))) (Zi)))) 1 (Zbj 3) [] (Zap Zy (Zb (Za 0) (Zb (e2 Zag (eC (.int 60)) (Za 3)) (Zi)))))) (Zb0 (ZaD Zcm (Zb (eLC (Zft (Za 2)) 1 (Zbj 3) [] (e2 Zbr (Zap Zau (Zb (Za 3) (Zi))) (e2 Zr (Zcv (Zb (eC (.int 1)) (Zb (e2 Zfj (eC (.int 10)) (eC (.int 17))) (Zi)))) (e2 Zaq (e2 ZaE (Za 3) (eC (.int 7))) (eC (.int 2)))))) (Zi))))
def ZbV:F3:=mkF 2 3 Zdj
def Zde:S3:=Zu (Zat 4 (Zcv (Zi))) (Zu (Zhp (Zft (e1 ZoS (Za 0))) (Zbj 5) (sIf (e1 (Za3 .int) (Za 5)) (Zu (Zaa (Zaw tyL Zae (Za 4) (Zb (Za 5) (Zi)))) (Zd2 (Za 3) (eC (.int 0)) (e2 Zag (e2 Zr (Za 3) (eC (.int 0))) (eC (.int 1))))) (sIf (e2 ZbJ (Za 5) (eC (.str [99,101,108,108]))) (Zu (Zaa (Zaw tyL Zae (Za 4) (Zb (Zaw Zgr ZfP (Za 2) (Zb (Zaw tyL Zfq (Za 4) (Zi)) (Zb (eC (.int 0)) (Zi)))) (Zi)))) (Zd2 (Za 3) (eC (.int 0)) (e2 Zag (e2 Zr (Za 3) (eC (.int 0))) (eC (.int 2))))) (sIf (e2 ZkA (Za 5) (ZdB (Zb (eC (.str [97,100,100])) (Zb (eC (.str [115,117,98])) (Zb (eC (.str [109,111,114,101])) (Zi)))))) (Zu (Zat 6 (Zaw tyL Zfq (Za 4) (Zi))) (Zu (Zat 7 (Zaw tyL Zfq (Za 4) (Zi))) (Zu (Zd2 (Za 3) (eC (.int 0)) (e2 Zag (e2 Zr (Za 3) (eC (.int 0))) (eC (.int 1)))) (Zaa (Zaw tyL Zae (Za 4) (Zb (e2 Zgj (Zl3 (Zb1 (eC (.str [97,100,100])) (e2 Zag (Za 6) (Za 7)) (Zb1 (eC (.str [115,117,98])) (e2 ZbN (Za 6) (Za 7)) (Zb1 (eC (.str [109,111,114,101])) (ZaD Zd9 (Zb (e2 Zem (Za 6) (Za 7)) (Zi))) (Zi2))))) (Za 5)) (Zi))))))) (Zu (Zaa (Zaw tyL Zae (Za 4) (Zb (Zaw Zgr ZfP (Za 1) (Zb (Za 5) (Zb (eC (.int 0)) (Zi)))) (Zi)))) (Zd2 (Za 3) (eC (.int 0)) (e2 Zag (e2 Zr (Za 3) (eC (.int 0))) (eC (.int 2))))))))) (Zb0 (e2 Zr (Za 4) (eC (.int 0)))))
def Zcw:F3:=mkF 4 8 Zde
def ZlS:S3:=Zu (Zat 1 (eLC (ZcN (eC (.int 4))) 1 (Zbj 13) [] (Zap ZaX (Zb (Za 0) (Zb (Za 13) (Zi)))))) (Zu (Zat 2 (Zap Zdc (Zb (Za 0) (Zb (eC (.int 200)) (Zb (Za 1) (Zb (e2 Zag (eC (.int 1)) (e2 Zaq (Zap Zy (Zb (Za 0) (Zb (eC (.int 51)) (Zi)))) (eC (.int 10)))) (Zi))))))) (Zu (Zat 3 (Zap ZbV (Zb (Za 0) (Zb (ZdB (Zb (Za 1) (Zb (ZdB (Zi)) (Zi)))) (Zi))))) (Zu (Zat 4 (Znf)) (Zu (Zat 5 (Zcv (Zi))) (Zu (Ziq (Zl0 (eSl (Za 0) (Zj4) (Ziu (eC (.int 60))))) (Zkt [6,7]) (Zu (Zat 8 (e2 ZbN (e2 Zaq (Za 7) (eC (.int 9))) (eC (.int 4)))) (Zu (Zat 9 (e2 Zaq (e2 ZaE (Za 7) (eC (.int 9))) (e2 Zfj (eC (.int 10)) (eC (.int 12))))) (Zu (ZiM (Za 4) (Za 8) (Za 9)) (Zaa (Zaw tyL Zae (Za 5) (Zb (ZdB (Zb (eC (.str [112,117,116])) (Zb (ZdB (Zb (Za 8) (Zi))) (Zb (ZdB (Zb (Za 9) (Zi))) (Zi))))) (Zi)))))))) (Zu (Zat 10 (Zcv (Zb (e2 Zag (e2 Zag (eC (.int 8)) (e2 Zbr (eC (.int 4)) (ZaD Zbe (Zb (Za 5) (Zi))))) (eC (.int 1))) (Zi)))) (Zu (Zat 11 (Zap Zcw (Zb (Za 2) (Zb (Zc6 (Za 1) (Za 3)) (Zb (Za 4) (Zb (Za 10) (Zi))))))) (Zu (Zaa (Zaw tyL Zae (Za 5) (Zb (ZdB (Zb (eC (.str [116,101,108,108])) (Zb (Za 2) (Zi)))) (Zi)))) (Zu (Zat 12 (Zap (Zqv ZdO [.int 400]) (Zb (ZdB (Zb (ZaD Zcm (Zb (Za 1) (Zi))) (Zb (ZaD Zcm (Zb (Za 5) (Zi))) (Zi)))) (Zb (Za 3) (Zi))))) (Zu (sIf (eOr (e1 ZgN (e1 (Za3 .tuple) (Za 12))) (eOr (e2 ZkD (ZaD Zbe (Zb (Za 12) (Zi))) (eC (.int 2))) (eOr (e1 ZgN (e1 (Za3 .list) (e2 Zr (Za 12) (eC (.int 0))))) (e2 ZkD (ZaD Zbe (Zb (e2 Zr (Za 12) (eC (.int 0))) (Zi))) (eC (.int 1)))))) (Zb0 (eC (.bl false))) (ZbZ)) (Zu (Zhp (Zft (Zcv (Zb (e2 Zr (e2 Zr (Za 12) (eC (.int 0))) (eC (.int 0))) (Zb (e2 Zr (Za 12) (eC (.int 1))) (Zi))))) (Zbj 8) (sIf (eOr (e1 ZgN (e1 (Za3 .int) (Za 8))) (e1 (Za3 .bool) (Za 8))) (Zb0 (eC (.bl false))) (ZbZ))) (Zb0 (e2 Zml (Za 12) (ZdB (Zb (Zcv (Zb (Za 11) (Zi))) (Zb (e2 Zr (Za 10) (eC (.int 0))) (Zi)))))))))))))))))
def Zj6:F3:=mkF 1 13 ZlS
end
end Law
namespace Law
open PySem PySem.Spec PyProof.Rows L2 L3
noncomputable def top (i:Nat):Stmt:=PySem.Challenge.pw_stepledger_k71_one_sum.main.body.getD i (.Pass ⟨0,0,0,0⟩)
noncomputable abbrev Zc2:Stmt:=top 5
noncomputable abbrev Zcx:Stmt:=top 8
noncomputable abbrev Zb9:Stmt:=top 9
noncomputable abbrev Zcz:Stmt:=top 12
noncomputable abbrev Zax:Stmt:=top 13
noncomputable abbrev ZbM:Stmt:=top 15
noncomputable abbrev ZbO:Stmt:=top 16
noncomputable abbrev Za8:Stmt:=top 17
noncomputable abbrev Zb8:Stmt:=top 18
noncomputable abbrev Zbm:Stmt:=top 23
noncomputable abbrev Zbo:Stmt:=top 24
noncomputable abbrev ZeJ:Stmt:=top 25
noncomputable abbrev ZaK:Stmt:=(ZcQ (top 11)).getD 0 (.Pass ⟨0,0,0,0⟩)
noncomputable abbrev Zbl:Stmt:=(ZcQ (top 11)).getD 1 (.Pass ⟨0,0,0,0⟩)
noncomputable abbrev ZaJ:Stmt:=(ZcQ (top 11)).getD 2 (.Pass ⟨0,0,0,0⟩)
noncomputable abbrev ZaI:Stmt:=(ZcQ (top 11)).getD 3 (.Pass ⟨0,0,0,0⟩)
noncomputable abbrev ZaB:Stmt:=(ZcQ (top 11)).getD 4 (.Pass ⟨0,0,0,0⟩)
noncomputable abbrev ZaW:Stmt:=(ZcQ (top 11)).getD 5 (.Pass ⟨0,0,0,0⟩)
noncomputable abbrev Za9:Stmt:=(ZcQ (top 11)).getD 6 (.Pass ⟨0,0,0,0⟩)
noncomputable abbrev Za7:Stmt:=(ZcQ (top 11)).getD 7 (.Pass ⟨0,0,0,0⟩)
structure Zdm (K:W.Frag) (mg:Str → Option Value) (C:Addr):Prop where
  ok:Zfl K [87,97,108,107] C
  mg:mg "Walk" = some (.ref C)
  n_cells:Zb2 K C (nm [99,101,108,108,115])
  n_most:Zb2 K C (nm [109,111,115,116])
  n_named:Zb2 K C (nm [110,97,109,101,100])
  n_numbers:Zb2 K C (nm [110,117,109,98,101,114,115])
  n_steps:Zb2 K C (nm [115,116,101,112,115])
structure Txt (K:W.Frag) (mg:Str → Option Value):Prop where
  kin:True
  m_bool:mg "bool" = none
  m_dict:mg "dict" = none
  m_enumerate:mg "enumerate" = none
  m_int:mg "int" = none
  m_isinstance:mg "isinstance" = none
  m_len:mg "len" = none
  m_list:mg "list" = none
  m_max:mg "max" = none
  m_range:mg "range" = none
  m_tuple:mg "tuple" = none
  m_zip:mg "zip" = none
  t_PARTS:∃ a,mg "PARTS" = some (.ref a) ∧ ZgK K a Zbn
theorem Zi8 {X:Cx} {e e':Expr} {npos apos cpos:Pos} {g g':E3} (T:Txt X.K X.mg) (he:C3 X e g) (he':C3 X e' g') (m:M2 X (.Name "PARTS" npos) "get" apos e e' cpos:=by exact ⟨rfl,rfl,rfl,rfl⟩) (hg:Gl X "PARTS":=by rfl):C3 X (.Call (.Attribute (.Name "PARTS" npos) "get" apos) [e,e'] [] cpos) (e2 (ZdP Zbn) g g'):=by
  obtain ⟨a,hm,ht⟩:=T.t_PARTS
  exact ZoE hm ht he he' m hg
section
variable {P:Program} {w:World} {K:W.Frag} {mg:Str → Option Value} {base:Heap}
theorem ZkN:Zai ["name","one","other"] ["name","one","other"] (Zh Zc2):=⟨rfl,rfl,rfl,by decide +kernel,rfl,by decide +kernel,by decide +kernel⟩
theorem ZkY (A:Zbs K mg "worked" Zc2 ["name","one","other"]) (T:Txt K mg):Fn3 P w K mg base 1 "worked" ["name","one","other"] Zer:=
  Fn3.of (N:=["name","one","other"]) (k:=0) A ZkN fun f cdv A outer s H E hr=>by
    have hu:=Zc5 hr
    unfold Zgo
    refine Zf ?_ ?_
    ·exact Zbb (ZaC ((Zek hu)) (Zd 0) Zbu) (Zm (ZaP (Zt Zbt (Zd 1) (Zd 2)))) Zbp
    ·exact Zf (Zbb (ZaC ((Zek hu)) (Zd 0) Zbu) (Zm (ZaP (Zt Zgf (Zd 1) (Zd 2)))) Zbp) (Zm (ZaP (ZrP (ZaC ZkB (Zd 1) (Zd 2)) Zg Zg)))
theorem Zb4:Zai ["words","sums","lacking","word"] ["words"] (Zh Zcx):=⟨rfl,rfl,rfl,by decide +kernel,rfl,by decide +kernel,by decide +kernel⟩
theorem Zi6 (A:Zbs K mg "sums_in" Zcx ["words"]) (T:Txt K mg):Fn3 P w K mg base 1 "sums_in" ["words"] ZdR:=
  Fn3.of (N:=["words","sums","lacking","word"]) (k:=0) A Zb4 fun f cdv A outer s H E hr=>by
    have hu:=Zc5 hr
    unfold Ze8
    refine Zf ?_ ?_
    ·exact Zaj 1 Zb4.nd (Zc7 Zj)
    ·refine Zf ?_ ?_
     ·exact Zaj 2 Zb4.nd Zg
     ·refine Zf ?_ ?_
      ·refine Zh1 ?_ ?_ ?_ ?_ ?_
       ·exact rfl
       ·exact rfl
       ·exact Zjd (Zd 0)
       ·exact Zcs 3 Zb4.nd
       ·refine Zf ?_ ?_
        ·exact Zbb (ZaC ((Zek hu)) (Zd 2) Zg) (Zf (Zaf (Zao (Zd 1) (Zc (Zc7 Zj) Zj))) (Zm (Zaj 2 Zb4.nd Zg))) Zbp
        ·refine Zf ?_ ?_
         ·exact Zaf (Zao (Zam Zan (Zd 1) (Zqo Zne Zg)) (Zc (Zd 3) Zj))
         ·exact Zm (Zaj 2 Zb4.nd (Zt Zbt (Zt Zgf (Zd 2) Zg) (Zi8 T (Zd 3) Zg)))
      ·refine Zm ?_
       refine ZaP ?_
       exact ZrP (ZaC ((Zek hu)) (Zd 2) Zg) (Zss (N':=["words","sums","lacking","word","one"]) (Zc8 rfl (by kernel_rfl)) rfl rfl (Zjd (Zd 1)) (fun C cl s H ex=>⟨(Zcs 4 ((show List.Nodup (["words","sums","lacking","word","one"]:List Str) by decide +kernel))),ZeL,(ZgT (T:="tuple") Zew T.m_tuple Zdu (Zc (Zd 4) Zj))⟩)) ZsL
theorem ZiY:Zai ["words"] ["words"] (Zh Zb9):=⟨rfl,rfl,rfl,by decide +kernel,rfl,by decide +kernel,by decide +kernel⟩
theorem Zir (A:Zbs K mg "parts_of" Zb9 ["words"]) (T:Txt K mg) (F_sums_in:Fn3 P w K mg base 1 "sums_in" ["words"] ZdR):Fn3 P w K mg base 2 "parts_of" ["words"] Zb3:=
  Fn3.of (N:=["words"]) (k:=1) A ZiY fun f cdv A outer s H E hr=>by
    have hu:=Zc5 hr
    unfold Zeh
    exact Zm (ZaP (Za1 (k:=1) (ps:=["words"]) F_sums_in (hr.mono (by decide)) (Zc (ZrB Zr4 (Zd 0) (Zhk Zg) Zkg) Zj)))
theorem Ze1:Zai ["self","named","most"] ["self","named","most"] (Zh ZaK):=⟨rfl,rfl,rfl,by decide +kernel,rfl,by decide +kernel,by decide +kernel⟩
theorem ZeX {C_Walk:Addr} (O_Walk:Zdm K mg C_Walk) (A:Znx K C_Walk "Walk.__init__" ZaK ["self","named","most"]) (T:Txt K mg):Mk3 P w K mg base 1 C_Walk ["self","named","most"] ZaL:=
  Mk3.of (N:=["self","named","most"]) (k:=0) A Ze1 fun f cdv A outer s H E hr=>by
    have hu:=Zc5 hr
    unfold Zcl
    refine Zf ?_ ?_
    ·exact Zfd (C:=C_Walk) (c:=[87,97,108,107]) (m:=[110,97,109,101,100]) O_Walk.ok O_Walk.n_named (Zd 0) (Zd 1)
    ·refine Zf ?_ ?_
     ·exact Zfd (C:=C_Walk) (c:=[87,97,108,107]) (m:=[99,101,108,108,115]) O_Walk.ok O_Walk.n_cells (Zd 0) Zlz
     ·exact Zf (Zfd (C:=C_Walk) (c:=[87,97,108,107]) (m:=[110,117,109,98,101,114,115]) O_Walk.ok O_Walk.n_numbers (Zd 0) (Zc7 Zj)) (Zf (Zfd (C:=C_Walk) (c:=[87,97,108,107]) (m:=[115,116,101,112,115]) O_Walk.ok O_Walk.n_steps (Zd 0) Zg) (Zm (Zfd (C:=C_Walk) (c:=[87,97,108,107]) (m:=[109,111,115,116]) O_Walk.ok O_Walk.n_most (Zd 0) (Zd 2))))
theorem ZgA:Zai ["self","steps"] ["self","steps"] (Zh Zbl):=⟨rfl,rfl,rfl,by decide +kernel,rfl,by decide +kernel,by decide +kernel⟩
theorem Zgq {C_Walk:Addr} (O_Walk:Zdm K mg C_Walk) (A:Zco K C_Walk "spend" "Walk.spend" Zbl ["self","steps"]) (T:Txt K mg):Zbv P w K mg base 1 C_Walk "spend" ["self","steps"] Zw:=
  Zbv.of (N:=["self","steps"]) (k:=0) A ZgA fun f cdv A outer s H E hr=>by
    have hu:=Zc5 hr
    unfold Zdl
    refine Zf ?_ ?_
    ·exact Zfd (C:=C_Walk) (c:=[87,97,108,107]) (m:=[115,116,101,112,115]) O_Walk.ok O_Walk.n_steps (Zd 0) (Zt Zbt (Zd6 (C:=C_Walk) (c:=[87,97,108,107]) (m:=[115,116,101,112,115]) O_Walk.ok O_Walk.n_steps (Zd 0)) (Zd 1))
    ·exact Zm (Zbb (ZaC ZkB (Zd6 (C:=C_Walk) (c:=[87,97,108,107]) (m:=[115,116,101,112,115]) O_Walk.ok O_Walk.n_steps (Zd 0)) (Zd6 (C:=C_Walk) (c:=[87,97,108,107]) (m:=[109,111,115,116]) O_Walk.ok O_Walk.n_most (Zd 0))) (Zm Zmq) Zbp)
theorem Zb6:Zai ["self","words","parts"] ["self","words"] (Zh ZaJ):=⟨rfl,rfl,rfl,by decide +kernel,rfl,by decide +kernel,by decide +kernel⟩
theorem ZeB {C_Walk:Addr} (O_Walk:Zdm K mg C_Walk) (F_worked:Fn3 P w K mg base 1 "worked" ["name","one","other"] Zer) (F_parts_of:Fn3 P w K mg base 2 "parts_of" ["words"] Zb3) (M_Walk_spend:Zbv P w K mg base 1 C_Walk "spend" ["self","steps"] Zw) (A_Walk_value_of:Zco K C_Walk "value_of" "Walk.value_of" ZaJ ["self","words"]) (T:Txt K mg):∀ n:Nat,Zbv P w K mg base (n + 3) C_Walk "value_of" ["self","words"] (Zbq n 0):=by
  intro n
  induction n with
  | zero=>exact Zbv.of (N:=["self","words","parts"]) (k:=2) A_Walk_value_of Zb6 fun f cdv A outer s H E hr=>ZeG
  | succ n IH=>
    have IH_Walk_value_of:=IH
    · refine (Zbv.of (N:=["self","words","parts"]) (k:=n + 3) A_Walk_value_of Zb6 fun f cdv A outer s H E hr=>?_).mono (by omega)
      have hu:=Zc5 hr
      unfold ZaM
      refine Zf ?_ ?_
      ·refine Zf3 (N':=["self","words","parts","part"]) 2 ?_ ?_ ?_ ?_ ?_ (fun C cl s H ex=>⟨?_,?_,?_⟩)
       ·exact Zc8 rfl (by kernel_rfl)
       ·exact rfl
       ·exact rfl
       ·exact Zb6.nd
       ·exact Zjd (Za1 (k:=2) (ps:=["words"]) F_parts_of (hr.mono (by omega)) (Zc (Zd 1) Zj))
       ·exact Zcs 3 ((show List.Nodup (["self","words","parts","part"]:List Str) by decide +kernel))
       ·exact ZeL
       ·exact Zaz (C:=C_Walk) (c:=[87,97,108,107]) (m:=[118,97,108,117,101,95,111,102]) (k:=n + 3) (ps:=["self","words"]) O_Walk.ok IH_Walk_value_of hr (Zd 0) (Zc (Zd 3) Zj)
      ·refine Zf ?_ ?_
       ·refine Zbb ?_ ?_ ?_
        ·exact ZaC ((Zek hu)) (Zcn (id:="len") ZcB T.m_len ZbG (Zc (Zd 2) Zj)) Zg
        ·refine Zf ?_ ?_
         ·exact Zaf (Zaz (C:=C_Walk) (c:=[87,97,108,107]) (m:=[115,112,101,110,100]) (k:=1) (ps:=["self","steps"]) O_Walk.ok M_Walk_spend (hr.mono (by omega)) (Zd 0) (Zc Zg Zj))
         ·exact Zm (ZaP (Za1 (k:=1) (ps:=["name","one","other"]) F_worked (hr.mono (by omega)) (Zc (Zam Zan (Zd 1) Zg) (Zc (Zam Zan (Zd 2) Zg) (Zc (Zam Zan (Zd 2) Zg) Zj)))))
        ·exact Zbp
       ·refine Zf ?_ ?_
        ·refine Zbb ?_ ?_ ?_
         ·exact ZaC ((Zek hu)) (Zcn (id:="len") ZcB T.m_len ZbG (Zc (Zd 2) Zj)) Zg
         ·refine Zf ?_ ?_
          ·exact Zaf (Zaz (C:=C_Walk) (c:=[87,97,108,107]) (m:=[115,112,101,110,100]) (k:=1) (ps:=["self","steps"]) O_Walk.ok M_Walk_spend (hr.mono (by omega)) (Zd 0) (Zc Zg Zj))
          ·exact Zm (ZaP (Zhh hu (Zd6 (C:=C_Walk) (c:=[87,97,108,107]) (m:=[99,101,108,108,115]) O_Walk.ok O_Walk.n_cells (Zd 0)) (Zam Zan (Zd 2) Zg) Zg))
         ·exact Zbp
        ·refine Zf ?_ ?_
         ·refine Zbb ?_ ?_ ?_
          ·exact ZdA (ZeS .int T.m_isinstance T.m_int (Zam Zan (Zd 1) Zg))
          ·exact Zf (Zaf (Zaz (C:=C_Walk) (c:=[87,97,108,107]) (m:=[115,112,101,110,100]) (k:=1) (ps:=["self","steps"]) O_Walk.ok M_Walk_spend (hr.mono (by omega)) (Zd 0) (Zc Zg Zj))) (Zm (ZaP (Zam Zan (Zd 1) Zg)))
          ·exact Zbp
         ·refine Zf ?_ ?_
          ·exact Zaf (Zaz (C:=C_Walk) (c:=[87,97,108,107]) (m:=[115,112,101,110,100]) (k:=1) (ps:=["self","steps"]) O_Walk.ok M_Walk_spend (hr.mono (by omega)) (Zd 0) (Zc Zg Zj))
          ·exact Zm (ZaP (Zhh hu (Zd6 (C:=C_Walk) (c:=[87,97,108,107]) (m:=[110,97,109,101,100]) O_Walk.ok O_Walk.n_named (Zd 0)) (Zam Zan (Zd 1) Zg) Zg))
theorem Zc3:Zai ["self","words","value"] ["self","words"] (Zh ZaI):=⟨rfl,rfl,rfl,by decide +kernel,rfl,by decide +kernel,by decide +kernel⟩
theorem ZeW {C_Walk:Addr} (O_Walk:Zdm K mg C_Walk) (A:Zco K C_Walk "is_above" "Walk.is_above" ZaI ["self","words"]) (T:Txt K mg) (M_Walk_spend:Zbv P w K mg base 1 C_Walk "spend" ["self","steps"] Zw) (M_Walk_value_of:Zbv P w K mg base 16 C_Walk "value_of" ["self","words"] Zal):Zbv P w K mg base 17 C_Walk "is_above" ["self","words"] ZbF:=
  Zbv.of (N:=["self","words","value"]) (k:=16) A Zc3 fun f cdv A outer s H E hr=>by
    have hu:=Zc5 hr
    unfold Zdo
    refine Zf ?_ ?_
    ·exact Zaj 2 Zc3.nd (Zaz (C:=C_Walk) (c:=[87,97,108,107]) (m:=[118,97,108,117,101,95,111,102]) (k:=16) (ps:=["self","words"]) O_Walk.ok M_Walk_value_of (hr.mono (by decide)) (Zd 0) (Zc (Zd 1) Zj))
    ·exact Zf (Zaf (Zaz (C:=C_Walk) (c:=[87,97,108,107]) (m:=[115,112,101,110,100]) (k:=1) (ps:=["self","steps"]) O_Walk.ok M_Walk_spend (hr.mono (by decide)) (Zd 0) (Zc Zg Zj))) (Zm (ZaP (ZmR ZkB (Zd 2) Zg)))
theorem ZdE:Zai ["self","deed"] ["self","deed"] (Zh Za7):=⟨rfl,rfl,rfl,by decide +kernel,rfl,by decide +kernel,by decide +kernel⟩
theorem Zck:Zai ["self","deed","number"] ["self","deed"] (Zh ZaW):=⟨rfl,rfl,rfl,by decide +kernel,rfl,by decide +kernel,by decide +kernel⟩
theorem Zdx:Zai ["self","deed"] ["self","deed"] (Zh Za9):=⟨rfl,rfl,rfl,by decide +kernel,rfl,by decide +kernel,by decide +kernel⟩
theorem ZbL:Zai ["self","deeds","deed"] ["self","deeds"] (Zh ZaB):=⟨rfl,rfl,rfl,by decide +kernel,rfl,by decide +kernel,by decide +kernel⟩
theorem Zd0 {C_Walk:Addr} (O_Walk:Zdm K mg C_Walk) (M_Walk_is_above:Zbv P w K mg base 17 C_Walk "is_above" ["self","words"] ZbF) (M_Walk_spend:Zbv P w K mg base 1 C_Walk "spend" ["self","steps"] Zw) (M_Walk_value_of:Zbv P w K mg base 16 C_Walk "value_of" ["self","words"] Zal) (A_Walk_go_through:Zco K C_Walk "go_through" "Walk.go_through" ZaB ["self","deeds"]) (A_Walk_do_deed:Zco K C_Walk "do_deed" "Walk.do_deed" ZaW ["self","deed"]) (A_Walk_choose:Zco K C_Walk "choose" "Walk.choose" Za9 ["self","deed"]) (A_Walk_repeat:Zco K C_Walk "repeat" "Walk.repeat" Za7 ["self","deed"]) (T:Txt K mg):∀ n:Nat,Zbv P w K mg base (n + 18) C_Walk "go_through" ["self","deeds"] (Zq n 0) ∧ Zbv P w K mg base (n + 18) C_Walk "do_deed" ["self","deed"] (Zq n 1) ∧ Zbv P w K mg base (n + 18) C_Walk "choose" ["self","deed"] (Zq n 2) ∧ Zbv P w K mg base (n + 18) C_Walk "repeat" ["self","deed"] (Zq n 3):=by
  intro n
  induction n with
  | zero=>exact ⟨Zbv.of (N:=["self","deeds","deed"]) (k:=17) A_Walk_go_through ZbL fun f cdv A outer s H E hr=>ZeG,Zbv.of (N:=["self","deed","number"]) (k:=17) A_Walk_do_deed Zck fun f cdv A outer s H E hr=>ZeG,Zbv.of (N:=["self","deed"]) (k:=17) A_Walk_choose Zdx fun f cdv A outer s H E hr=>ZeG,Zbv.of (N:=["self","deed"]) (k:=17) A_Walk_repeat ZdE fun f cdv A outer s H E hr=>ZeG⟩
  | succ n IH=>
    obtain ⟨IH_Walk_go_through,IH_Walk_do_deed,IH_Walk_choose,IH_Walk_repeat⟩:=IH
    refine ⟨?_,?_,?_,?_⟩
    · refine (Zbv.of (N:=["self","deeds","deed"]) (k:=n + 18) A_Walk_go_through ZbL fun f cdv A outer s H E hr=>?_).mono (by omega)
      have hu:=Zc5 hr
      unfold ZbQ
      exact Zm (Zh1 rfl rfl (Zjd (Zd 1)) (Zcs 2 ZbL.nd) (Zm (Zaf (Zaz (C:=C_Walk) (c:=[87,97,108,107]) (m:=[100,111,95,100,101,101,100]) (k:=n + 18) (ps:=["self","deed"]) O_Walk.ok IH_Walk_do_deed hr (Zd 0) (Zc (Zd 2) Zj)))))
    · refine (Zbv.of (N:=["self","deed","number"]) (k:=n + 18) A_Walk_do_deed Zck fun f cdv A outer s H E hr=>?_).mono (by omega)
      have hu:=Zc5 hr
      unfold ZaU
      refine Zm ?_
      refine Zbb ?_ ?_ ?_
      ·exact ZaC ((Zek hu)) (Zam Zan (Zd 1) Zg) Zbu
      ·exact Zm (Zaf (Zaz (C:=C_Walk) (c:=[87,97,108,107]) (m:=[99,104,111,111,115,101]) (k:=n + 18) (ps:=["self","deed"]) O_Walk.ok IH_Walk_choose hr (Zd 0) (Zc (Zd 1) Zj)))
      ·refine Zm ?_
       refine Zbb ?_ ?_ ?_
       ·exact ZaC ((Zek hu)) (Zam Zan (Zd 1) Zg) Zbu
       ·exact Zm (Zaf (Zaz (C:=C_Walk) (c:=[87,97,108,107]) (m:=[114,101,112,101,97,116]) (k:=n + 18) (ps:=["self","deed"]) O_Walk.ok IH_Walk_repeat hr (Zd 0) (Zc (Zd 1) Zj)))
       ·refine Zm ?_
        refine Zbb ?_ ?_ ?_
        ·exact ZaC ((Zek hu)) (Zam Zan (Zd 1) Zg) Zbu
        ·refine Zf ?_ ?_
         ·exact Zaj 2 Zck.nd (Zaz (C:=C_Walk) (c:=[87,97,108,107]) (m:=[118,97,108,117,101,95,111,102]) (k:=16) (ps:=["self","words"]) O_Walk.ok M_Walk_value_of (hr.mono (by omega)) (Zd 0) (Zc (Zam Zan (Zd 1) Zg) Zj))
         ·refine Zf ?_ ?_
          ·exact Zhm hu (Zd6 (C:=C_Walk) (c:=[87,97,108,107]) (m:=[99,101,108,108,115]) O_Walk.ok O_Walk.n_cells (Zd 0)) (Zd 2) (Zaz (C:=C_Walk) (c:=[87,97,108,107]) (m:=[118,97,108,117,101,95,111,102]) (k:=16) (ps:=["self","words"]) O_Walk.ok M_Walk_value_of (hr.mono (by omega)) (Zd 0) (Zc (Zam Zan (Zd 1) Zg) Zj))
          ·exact Zm (Zaf (Zaz (C:=C_Walk) (c:=[87,97,108,107]) (m:=[115,112,101,110,100]) (k:=1) (ps:=["self","steps"]) O_Walk.ok M_Walk_spend (hr.mono (by omega)) (Zd 0) (Zc Zg Zj)))
        ·refine Zm ?_
         refine Zbb ?_ ?_ ?_
         ·exact ZaC ((Zek hu)) (Zam Zan (Zd 1) Zg) Zbu
         ·refine Zf ?_ ?_
          ·exact Zhm hu (Zd6 (C:=C_Walk) (c:=[87,97,108,107]) (m:=[110,97,109,101,100]) O_Walk.ok O_Walk.n_named (Zd 0)) (Zam Zan (Zd 1) Zg) (Zaz (C:=C_Walk) (c:=[87,97,108,107]) (m:=[118,97,108,117,101,95,111,102]) (k:=16) (ps:=["self","words"]) O_Walk.ok M_Walk_value_of (hr.mono (by omega)) (Zd 0) (Zc (Zam Zan (Zd 1) Zg) Zj))
          ·exact Zm (Zaf (Zaz (C:=C_Walk) (c:=[87,97,108,107]) (m:=[115,112,101,110,100]) (k:=1) (ps:=["self","steps"]) O_Walk.ok M_Walk_spend (hr.mono (by omega)) (Zd 0) (Zc Zg Zj)))
         ·refine Zf ?_ ?_
          ·exact Zaf (Zao (Zd6 (C:=C_Walk) (c:=[87,97,108,107]) (m:=[110,117,109,98,101,114,115]) O_Walk.ok O_Walk.n_numbers (Zd 0)) (Zc (Zaz (C:=C_Walk) (c:=[87,97,108,107]) (m:=[118,97,108,117,101,95,111,102]) (k:=16) (ps:=["self","words"]) O_Walk.ok M_Walk_value_of (hr.mono (by omega)) (Zd 0) (Zc (Zam Zan (Zd 1) Zg) Zj)) Zj))
          ·exact Zm (Zaf (Zaz (C:=C_Walk) (c:=[87,97,108,107]) (m:=[115,112,101,110,100]) (k:=1) (ps:=["self","steps"]) O_Walk.ok M_Walk_spend (hr.mono (by omega)) (Zd 0) (Zc Zg Zj)))
    · refine (Zbv.of (N:=["self","deed"]) (k:=n + 18) A_Walk_choose Zdx fun f cdv A outer s H E hr=>?_).mono (by omega)
      have hu:=Zc5 hr
      unfold Zec
      refine Zm ?_
      refine Zbb ?_ ?_ ?_
      ·exact ZdA (Zaz (C:=C_Walk) (c:=[87,97,108,107]) (m:=[105,115,95,97,98,111,118,101]) (k:=17) (ps:=["self","words"]) O_Walk.ok M_Walk_is_above (hr.mono (by omega)) (Zd 0) (Zc (Zam Zan (Zd 1) Zg) Zj))
      ·exact Zm (Zaf (Zaz (C:=C_Walk) (c:=[87,97,108,107]) (m:=[103,111,95,116,104,114,111,117,103,104]) (k:=n + 18) (ps:=["self","deeds"]) O_Walk.ok IH_Walk_go_through hr (Zd 0) (Zc (Zam Zan (Zd 1) Zg) Zj)))
      ·refine Zf ?_ ?_
       ·exact Zaf (Zaz (C:=C_Walk) (c:=[87,97,108,107]) (m:=[103,111,95,116,104,114,111,117,103,104]) (k:=n + 18) (ps:=["self","deeds"]) O_Walk.ok IH_Walk_go_through hr (Zd 0) (Zc (Zam Zan (Zd 1) Zg) Zj))
       ·exact Zm (Zaf (Zaz (C:=C_Walk) (c:=[87,97,108,107]) (m:=[115,112,101,110,100]) (k:=1) (ps:=["self","steps"]) O_Walk.ok M_Walk_spend (hr.mono (by omega)) (Zd 0) (Zc Zg Zj)))
    · refine (Zbv.of (N:=["self","deed"]) (k:=n + 18) A_Walk_repeat ZdE fun f cdv A outer s H E hr=>?_).mono (by omega)
      have hu:=Zc5 hr
      unfold Zd5
      refine Zf ?_ ?_
      ·refine ZiR ?_ ?_ ?_
       ·exact rfl
       ·exact ZdA (Zaz (C:=C_Walk) (c:=[87,97,108,107]) (m:=[105,115,95,97,98,111,118,101]) (k:=17) (ps:=["self","words"]) O_Walk.ok M_Walk_is_above (hr.mono (by omega)) (Zd 0) (Zc (Zam Zan (Zd 1) Zg) Zj))
       ·refine Zf ?_ ?_
        ·exact Zaf (Zaz (C:=C_Walk) (c:=[87,97,108,107]) (m:=[103,111,95,116,104,114,111,117,103,104]) (k:=n + 18) (ps:=["self","deeds"]) O_Walk.ok IH_Walk_go_through hr (Zd 0) (Zc (Zam Zan (Zd 1) Zg) Zj))
        ·exact Zm (Zaf (Zaz (C:=C_Walk) (c:=[87,97,108,107]) (m:=[115,112,101,110,100]) (k:=1) (ps:=["self","steps"]) O_Walk.ok M_Walk_spend (hr.mono (by omega)) (Zd 0) (Zc Zg Zj)))
      ·exact Zm (Zaf (Zaz (C:=C_Walk) (c:=[87,97,108,107]) (m:=[115,112,101,110,100]) (k:=1) (ps:=["self","steps"]) O_Walk.ok M_Walk_spend (hr.mono (by omega)) (Zd 0) (Zc Zg Zj)))
theorem ZdW:Zai ["program","given"] ["program","given"] (Zh Zax):=⟨rfl,rfl,rfl,by decide +kernel,rfl,by decide +kernel,by decide +kernel⟩
theorem Zd1 (A:Zbs K mg "refuse_bad_given" Zax ["program","given"]) (T:Txt K mg):Fn3 P w K mg base 1 "refuse_bad_given" ["program","given"] Za2:=
  Fn3.of (N:=["program","given"]) (k:=0) A ZdW fun f cdv A outer s H E hr=>by
    have hu:=Zc5 hr
    unfold ZbH
    refine Zm ?_
    refine Zbb ?_ ?_ ?_
    ·exact ZaC ((Zpd hu)) (Zcn (id:="len") ZcB T.m_len ZbG (Zc (Zd 1) Zj)) (Zcn (id:="len") ZcB T.m_len ZbG (Zc (Zam Zan (Zd 0) Zg) Zj))
    ·exact Zm Zmq
    ·exact Zbp
theorem Zf5:Zai ["program","given","most","walk"] ["program","given","most"] (Zh Zcz):=⟨rfl,rfl,rfl,by decide +kernel,rfl,by decide +kernel,by decide +kernel⟩
theorem Zjw (A:DefX K mg "meaning" Zcz ["program","given","most"] [.int 400] 2 "most") (T:Txt K mg) {C_Walk:Addr} (O_Walk:Zdm K mg C_Walk) (M_Walk___init__:Mk3 P w K mg base 1 C_Walk ["self","named","most"] ZaL) (M_Walk_go_through:Zbv P w K mg base 31 C_Walk "go_through" ["self","deeds"] ZbR) (M_Walk_spend:Zbv P w K mg base 1 C_Walk "spend" ["self","steps"] Zw) (F_refuse_bad_given:Fn3 P w K mg base 1 "refuse_bad_given" ["program","given"] Za2):Zh8 P w K mg base 32 "meaning" ["program","given","most"] ZdO [.int 400] 2 "most":=
  Zh8.of (N:=["program","given","most","walk"]) (k:=31) A Zf5 fun f cdv A outer s H E hr=>by
    have hu:=Zc5 hr
    unfold Zfb
    refine Zf ?_ ?_
    ·exact Zaf (Za1 (k:=1) (ps:=["program","given"]) F_refuse_bad_given (hr.mono (by decide)) (Zc (Zd 0) (Zc (Zd 1) Zj)))
    ·refine Zf ?_ ?_
     ·exact Zaj 3 Zf5.nd (Zt9 (C:=C_Walk) (c:=[87,97,108,107]) (k:=1) (ps:=["self","named","most"]) O_Walk.ok M_Walk___init__ O_Walk.mg (hr.mono (by decide)) (Zc (ZgC rfl T.m_zip T.m_dict (Zam Zan (Zd 0) Zg) (Zd 1)) (Zc (Zd 2) Zj)))
     ·refine Zf ?_ ?_
      ·exact Zaf (Zaz (C:=C_Walk) (c:=[87,97,108,107]) (m:=[115,112,101,110,100]) (k:=1) (ps:=["self","steps"]) O_Walk.ok M_Walk_spend (hr.mono (by decide)) (Zd 3) (Zc (Zt ZeH Zg (Zcn (id:="len") ZcB T.m_len ZbG (Zc (Zd 1) Zj))) Zj))
      ·refine Zf ?_ ?_
       ·exact Zaf (Zaz (C:=C_Walk) (c:=[87,97,108,107]) (m:=[103,111,95,116,104,114,111,117,103,104]) (k:=31) (ps:=["self","deeds"]) O_Walk.ok M_Walk_go_through (hr.mono (by decide)) (Zd 3) (Zc (Zam Zan (Zd 0) Zg) Zj))
       ·exact Zm (ZaP (Zd8 (Zc (Zd6 (C:=C_Walk) (c:=[87,97,108,107]) (m:=[110,117,109,98,101,114,115]) O_Walk.ok O_Walk.n_numbers (Zd 3)) (Zc (Zd6 (C:=C_Walk) (c:=[87,97,108,107]) (m:=[115,116,101,112,115]) O_Walk.ok O_Walk.n_steps (Zd 3)) Zj))))
theorem Zct:Zai ["script","k","cell","mixed"] ["script","k"] (Zh ZbM):=⟨rfl,rfl,rfl,by decide +kernel,rfl,by decide +kernel,by decide +kernel⟩
theorem ZhW (A:Zbs K mg "_law_draw" ZbM ["script","k"]) (T:Txt K mg):Fn3 P w K mg base 1 "_law_draw" ["script","k"] Zy:=
  Fn3.of (N:=["script","k","cell","mixed"]) (k:=0) A Zct fun f cdv A outer s H E hr=>by
    have hu:=Zc5 hr
    unfold Zdw
    refine Zf ?_ ?_
    ·exact Zaj 2 Zct.nd Zg
    ·refine Zf ?_ ?_
     ·refine Zbb ?_ ?_ ?_
      ·exact ZaC ZkB (Zcn (id:="len") ZcB T.m_len ZbG (Zc (Zd 0) Zj)) Zg
      ·exact Zm (Zaj 2 Zct.nd (Zt Za6 (Zam Zan (Zd 0) (Zt Za6 (Zd 1) (Zcn (id:="len") ZcB T.m_len ZbG (Zc (Zd 0) Zj)))) Zg))
      ·exact Zbp
     ·refine Zf ?_ ?_
      ·refine Zaj 3 ?_ ?_
       ·exact Zct.nd
       ·refine Zt ?_ ?_ ?_
        ·exact Za6
        ·refine Zt ?_ ?_ ?_
         ·exact ZeH
         ·refine Zt ?_ ?_ ?_
          ·exact Zbt
          ·exact Zt Zbt (Zd 2) Zg
          ·exact Zt ZeH Zg (Zt Zch (Zd 1) (Zcn (id:="max") ((ZpZ rfl)) T.m_max ZpI (Zc Zg (Zc (Zcn (id:="len") ZcB T.m_len ZbG (Zc (Zd 0) Zj)) Zj))))
         ·exact Zg
        ·exact Zg
      ·exact Zm (ZaP (Zt Za6 (Zt ZeH (Zd 3) (Zd 3)) Zg))
theorem ZaZ:Zai ["script","i","letters","pad","place","tail","word"] ["script","i"] (Zh ZbO):=⟨rfl,rfl,rfl,by decide +kernel,rfl,by decide +kernel,by decide +kernel⟩
theorem Zh2 (A:Zbs K mg "_law_word" ZbO ["script","i"]) (T:Txt K mg) (F__law_draw:Fn3 P w K mg base 1 "_law_draw" ["script","k"] Zy):Fn3 P w K mg base 2 "_law_word" ["script","i"] ZaX:=
  Fn3.of (N:=["script","i","letters","pad","place","tail","word"]) (k:=1) A ZaZ fun f cdv A outer s H E hr=>by
    have hu:=Zc5 hr
    unfold Zdt
    refine Zf ?_ ?_
    ·exact Zaj 2 ZaZ.nd Zbu
    ·refine Zf ?_ ?_
     ·exact Zaj 3 ZaZ.nd (Zam Zan (Zd 2) (Zt Za6 (Za1 (k:=1) (ps:=["script","k"]) F__law_draw (hr.mono (by decide)) (Zc (Zd 0) (Zc Zg Zj))) Zg))
     ·refine Zf ?_ ?_
      ·exact Zaj 4 ZaZ.nd (Zt Za6 (Za1 (k:=1) (ps:=["script","k"]) F__law_draw (hr.mono (by decide)) (Zc (Zd 0) (Zc Zg Zj))) Zg)
      ·refine Zf ?_ ?_
       ·exact Zaj 5 ZaZ.nd (Zt Za6 (Za1 (k:=1) (ps:=["script","k"]) F__law_draw (hr.mono (by decide)) (Zc (Zd 0) (Zc Zg Zj))) (Zt Zgf Zg (Zd 4)))
       ·refine Zf ?_ ?_
        ·refine Zbb ?_ ?_ ?_
         ·exact ZaC ((Zek hu)) (Zt Za6 (Zt Zch (Za1 (k:=1) (ps:=["script","k"]) F__law_draw (hr.mono (by decide)) (Zc (Zd 0) (Zc Zg Zj))) Zg) Zg) Zg
         ·exact Zm (Zaj 5 ZaZ.nd (Zt Za6 (Za1 (k:=1) (ps:=["script","k"]) F__law_draw (hr.mono (by decide)) (Zc (Zd 0) (Zc (Zt Zbt Zg (Zd 1)) Zj))) (Zt Zgf Zg (Zd 4))))
         ·exact Zbp
        ·refine Zf ?_ ?_
         ·refine Zaj 6 ?_ ?_
          ·exact ZaZ.nd
          ·refine Zt ?_ ?_ ?_
           ·exact Zbt
           ·refine Zt ?_ ?_ ?_
            ·exact Zbt
            ·exact Zt ZeH (Zd 3) (Zd 4)
            ·exact Zam Zan (Zd 2) (Zt Za6 (Zt Zbt (Zd 1) (Za1 (k:=1) (ps:=["script","k"]) F__law_draw (hr.mono (by decide)) (Zc (Zd 0) (Zc Zg Zj)))) Zg)
           ·exact Zt ZeH (Zd 3) (Zd 5)
         ·exact Zf (Zbb (ZaC ((Zek hu)) (Zd 6) Zbu) (Zm (ZaP Zbu)) Zbp) (Zm (ZaP (Zd 6)))
theorem ZdI:Zai ["draw","some"] ["draw"] (Zh Za8):=⟨rfl,rfl,rfl,by decide +kernel,rfl,by decide +kernel,by decide +kernel⟩
theorem ZfK (A:Zbs K mg "_law_number" Za8 ["draw"]) (T:Txt K mg):Fn3 P w K mg base 1 "_law_number" ["draw"] Zau:=
  Fn3.of (N:=["draw","some"]) (k:=0) A ZdI fun f cdv A outer s H E hr=>by
    have hu:=Zc5 hr
    unfold ZcS
    refine Zf ?_ ?_
    ·refine Zaj 1 ?_ ?_
     ·exact ZdI.nd
     ·refine Zc7 ?_
      refine Zc ?_ ?_
      ·exact Zt Za6 (Zt Zch (Zd 0) Zg) Zg
      ·refine Zc ?_ ?_
       ·exact Zt Za6 (Zt Zch (Zd 0) Zg) Zg
       ·exact Zc (Zt Za6 (Zt ZeH (Zt Zch (Zd 0) Zg) Zg) (Zt Znh Zg Zg)) (Zc Zg Zj)
    ·refine Zm ?_
     refine ZaP ?_
     refine Zam ?_ ?_ ?_
     ·exact Zan
     ·exact Zc7 (Zc (Zam Zan (Zd 1) (Zt Za6 (Zd 0) Zg)) (Zc (Zqo Zne (Zam Zan (Zd 1) (Zt Za6 (Zd 0) Zg))) Zj))
     ·exact Zt Za6 (Zt Zch (Zd 0) Zg) Zg
theorem Zbg:Zai ["script","at","names","limit","words","due","draw"] ["script","at","names","limit"] (Zh Zb8):=⟨rfl,rfl,rfl,by decide +kernel,rfl,by decide +kernel,by decide +kernel⟩
theorem Zip (A:Zbs K mg "_law_sum" Zb8 ["script","at","names","limit"]) (T:Txt K mg) (F__law_draw:Fn3 P w K mg base 1 "_law_draw" ["script","k"] Zy) (F__law_number:Fn3 P w K mg base 1 "_law_number" ["draw"] Zau):Fn3 P w K mg base 2 "_law_sum" ["script","at","names","limit"] Zdc:=
  Fn3.of (N:=["script","at","names","limit","words","due","draw"]) (k:=1) A Zbg fun f cdv A outer s H E hr=>by
    have hu:=Zc5 hr
    unfold Zei
    refine Zf ?_ ?_
    ·exact Zaj 4 Zbg.nd (Zc7 Zj)
    ·refine Zf ?_ ?_
     ·exact Zaj 5 Zbg.nd Zg
     ·refine Zf ?_ ?_
      ·refine ZiR ?_ ?_ ?_
       ·exact rfl
       ·exact ZaC ZkB (Zd 5) Zg
       ·refine Zf ?_ ?_
        ·exact Zaj 6 Zbg.nd (Za1 (k:=1) (ps:=["script","k"]) F__law_draw (hr.mono (by decide)) (Zc (Zd 0) (Zc (Zt Zbt (Zd 1) (Zcn (id:="len") ZcB T.m_len ZbG (Zc (Zd 4) Zj))) Zj)))
        ·refine Zf ?_ ?_
         ·exact Zaj 5 Zbg.nd (Zt Zgf (Zd 5) Zg)
         ·refine Zm ?_
          refine Zbb ?_ ?_ ?_
          ·refine CW.ct ?_
           exact ZiJ (ZaC ZtP (Zt Zbt (Zcn (id:="len") ZcB T.m_len ZbG (Zc (Zd 4) Zj)) (Zd 5)) (Zd 3)) (Zje (ZaC Zti (Zt Za6 (Zd 6) Zg) Zg))
          ·refine Zm ?_
           refine Zbb ?_ ?_ ?_
           ·exact ZaC ((Zek hu)) (Zt Za6 (Zt Zch (Zd 6) Zg) Zg) Zg
           ·exact Zm (Zaf (Zao (Zd 4) (Zc (Za1 (k:=1) (ps:=["draw"]) F__law_number (hr.mono (by decide)) (Zc (Zt Zch (Zd 6) Zg) Zj)) Zj)))
           ·exact Zm (Zaf (Zao (Zd 4) (Zc (Zam Zan (Zd 2) (Zt Za6 (Zt Zch (Zd 6) Zg) (Zcn (id:="len") ZcB T.m_len ZbG (Zc (Zd 2) Zj)))) Zj)))
          ·refine Zm ?_
           refine Zbb ?_ ?_ ?_
           ·exact ZaC ((Zek hu)) (Zt Za6 (Zd 6) Zg) Zg
           ·exact Zf (Zaf (Zao (Zd 4) (Zc Zbu Zj))) (Zm (Zaj 5 Zbg.nd (Zt Zbt (Zd 5) Zg)))
           ·refine Zf ?_ ?_
            ·exact Zaf (Zao (Zd 4) (Zc (Zam Zan (Zc7 (Zc Zbu (Zc Zbu (Zc Zbu Zj)))) (Zt Za6 (Zt Zch (Zd 6) Zg) Zg)) Zj))
            ·exact Zm (Zaj 5 Zbg.nd (Zt Zbt (Zd 5) Zg))
      ·exact Zm (ZaP (ZgT (T:="tuple") Zew T.m_tuple Zdu (Zc (Zd 4) Zj)))
theorem Zd4:Zai ["script","program","some"] ["script","program"] (Zh Zbm):=⟨rfl,rfl,rfl,by decide +kernel,rfl,by decide +kernel,by decide +kernel⟩
theorem Zgu (A:Zbs K mg "_law_given" Zbm ["script","program"]) (T:Txt K mg) (F__law_draw:Fn3 P w K mg base 1 "_law_draw" ["script","k"] Zy) (F__law_number:Fn3 P w K mg base 1 "_law_number" ["draw"] Zau):Fn3 P w K mg base 2 "_law_given" ["script","program"] ZbV:=
  Fn3.of (N:=["script","program","some"]) (k:=1) A Zd4 fun f cdv A outer s H E hr=>by
    have hu:=Zc5 hr
    unfold Zdj
    refine Zf ?_ ?_
    ·refine Zf3 (N':=["script","program","some","k"]) 2 ?_ ?_ ?_ ?_ ?_ (fun C cl s H ex=>⟨?_,?_,?_⟩)
     ·exact Zc8 rfl (by kernel_rfl)
     ·exact rfl
     ·exact rfl
     ·exact Zd4.nd
     ·exact ZgU T.m_range (Zcn (id:="len") ZcB T.m_len ZbG (Zc (Zam Zan (Zd 1) Zg) Zj))
     ·exact Zcs 3 ((show List.Nodup (["script","program","some","k"]:List Str) by decide +kernel))
     ·exact ZeL
     ·exact Za1 (k:=1) (ps:=["script","k"]) F__law_draw (hr.mono (by decide)) (Zc (Zd 0) (Zc (Zt Zbt Zg (Zd 3)) Zj))
    ·refine Zm ?_
     refine ZaP ?_
     refine ZgT (T:="tuple") ?_ ?_ ?_ ?_
     ·exact Zew
     ·exact T.m_tuple
     ·exact Zdu
     ·refine Zc ?_ ?_
      ·refine Zss (N':=["script","program","some","draw"]) ?_ ?_ ?_ ?_ (fun C cl s H ex=>⟨?_,?_,?_⟩)
       ·exact Zc8 rfl (by kernel_rfl)
       ·exact rfl
       ·exact rfl
       ·exact Zjd (Zd 2)
       ·exact Zcs 3 ((show List.Nodup (["script","program","some","draw"]:List Str) by decide +kernel))
       ·exact ZeL
       ·refine Zt ?_ ?_ ?_
        ·exact ZeH
        ·exact Za1 (k:=1) (ps:=["draw"]) F__law_number (hr.mono (by decide)) (Zc (Zd 3) Zj)
        ·exact Zam Zan (Zc7 (Zc Zg (Zc (Zt Znh Zg Zg) Zj))) (Zt Za6 (Zt Zch (Zd 3) Zg) Zg)
      ·exact Zj
theorem ZbC:Zai ["words","names","cells","count","done","word","one","other"] ["words","names","cells","count"] (Zh Zbo):=⟨rfl,rfl,rfl,by decide +kernel,rfl,by decide +kernel,by decide +kernel⟩
theorem Zgw (A:Zbs K mg "_law_worth" Zbo ["words","names","cells","count"]) (T:Txt K mg):Fn3 P w K mg base 1 "_law_worth" ["words","names","cells","count"] Zcw:=
  Fn3.of (N:=["words","names","cells","count","done","word","one","other"]) (k:=0) A ZbC fun f cdv A outer s H E hr=>by
    have hu:=Zc5 hr
    unfold Zde
    refine Zf ?_ ?_
    ·exact Zaj 4 ZbC.nd (Zc7 Zj)
    ·refine Zf ?_ ?_
     ·refine Zh1 ?_ ?_ ?_ ?_ ?_
      ·exact rfl
      ·exact rfl
      ·exact Zjd (ZsQ (Zd 0) (Zhk (Zqo Zne Zg)))
      ·exact Zcs 5 ZbC.nd
      ·refine Zm ?_
       refine Zbb ?_ ?_ ?_
       ·exact ZdA (ZeS .int T.m_isinstance T.m_int (Zd 5))
       ·exact Zf (Zaf (Zao (Zd 4) (Zc (Zd 5) Zj))) (Zm (ZfG (Zd 3) Zg (Zt Zbt (Zam Zan (Zd 3) Zg) Zg)))
       ·refine Zm ?_
        refine Zbb ?_ ?_ ?_
        ·exact ZaC ((Zek hu)) (Zd 5) Zbu
        ·refine Zf ?_ ?_
         ·exact Zaf (Zao (Zd 4) (Zc (Zhh hu (Zd 2) (Zeo (Zd 4)) Zg) Zj))
         ·exact Zm (ZfG (Zd 3) Zg (Zt Zbt (Zam Zan (Zd 3) Zg) Zg))
        ·refine Zm ?_
         refine Zbb ?_ ?_ ?_
         ·exact ZaC ((Ztt hu)) (Zd 5) (Zd8 (Zc Zbu (Zc Zbu (Zc Zbu Zj))))
         ·refine Zf ?_ ?_
          ·exact Zaj 6 ZbC.nd (Zeo (Zd 4))
          ·refine Zf ?_ ?_
           ·exact Zaj 7 ZbC.nd (Zeo (Zd 4))
           ·refine Zf ?_ ?_
            ·exact ZfG (Zd 3) Zg (Zt Zbt (Zam Zan (Zd 3) Zg) Zg)
            ·refine Zm ?_
             refine Zaf ?_
             refine Zao ?_ ?_
             ·exact Zd 4
             ·refine Zc ?_ ?_
              ·refine Zqw ?_ ?_ ?_
               ·exact hu
               ·refine Zsz ?_
                refine ZhK ?_ ?_ ?_
                ·exact Zbu
                ·exact Zt Zbt (Zd 6) (Zd 7)
                ·exact ZhK Zbu (Zt Zgf (Zd 6) (Zd 7)) (ZhK Zbu (ZgT (T:="int") Zpr T.m_int Zqu (Zc (ZmR ZkB (Zd 6) (Zd 7)) Zj)) Zpf)
               ·exact Zd 5
              ·exact Zj
         ·exact Zf (Zaf (Zao (Zd 4) (Zc (Zhh hu (Zd 1) (Zd 5) Zg) Zj))) (Zm (ZfG (Zd 3) Zg (Zt Zbt (Zam Zan (Zd 3) Zg) Zg)))
     ·exact Zm (ZaP (Zam Zan (Zd 4) Zg))
theorem ZbX:Zai ["script","names","words","given","cells","deeds","k","cell","number","value","count","due","found"] ["script"] (Zh ZeJ):=⟨rfl,rfl,rfl,by decide +kernel,rfl,by decide +kernel,by decide +kernel⟩
theorem Zpi {f:Addr} {fd:FuncData} (F:Fun K "law" "law" ZeJ f fd) (T:Txt K mg) (X_meaning:Zh8 P w K mg base 32 "meaning" ["program","given","most"] ZdO [.int 400] 2 "most") (F__law_draw:Fn3 P w K mg base 1 "_law_draw" ["script","k"] Zy) (F__law_word:Fn3 P w K mg base 2 "_law_word" ["script","i"] ZaX) (F__law_sum:Fn3 P w K mg base 2 "_law_sum" ["script","at","names","limit"] Zdc) (F__law_given:Fn3 P w K mg base 2 "_law_given" ["script","program"] ZbV) (F__law_worth:Fn3 P w K mg base 1 "_law_worth" ["words","names","cells","count"] Zcw):Zcu P w K mg base CX0 33 f fd ["script"] (sp3 K 1 Zj6):=
  fn3 (N:=["script","names","words","given","cells","deeds","k","cell","number","value","count","due","found"]) (k:=32) F ZbX fun cdv A outer s H E hr=>by
    have hu:=Zc5 hr
    have F_meaning:=X_meaning.fn
    unfold ZlS
    refine Zf ?_ ?_
    ·exact Zf3 (N':=["script","names","words","given","cells","deeds",".k","cell","number","value","count","due","found","k"]) 1 (Zc8 rfl (by kernel_rfl)) rfl rfl ZbX.nd (ZgU T.m_range Zg) (fun C cl s H ex=>⟨(Zcs 13 ((show List.Nodup (["script","names","words","given","cells","deeds",".k","cell","number","value","count","due","found","k"]:List Str) by decide +kernel))),ZeL,(Za1 (k:=2) (ps:=["script","i"]) F__law_word (hr.mono (by decide)) (Zc (Zd 0) (Zc (Zd 13) Zj)))⟩)
    ·refine Zf ?_ ?_
     ·refine Zaj 2 ?_ ?_
      ·exact ZbX.nd
      ·refine Za1 (k:=2) (ps:=["script","at","names","limit"]) ?_ ?_ ?_
       ·exact F__law_sum
       ·exact hr.mono (by decide)
       ·exact Zc (Zd 0) (Zc Zg (Zc (Zd 1) (Zc (Zt Zbt Zg (Zt Za6 (Za1 (k:=1) (ps:=["script","k"]) F__law_draw (hr.mono (by decide)) (Zc (Zd 0) (Zc Zg Zj))) Zg)) Zj)))
     ·refine Zf ?_ ?_
      ·exact Zaj 3 ZbX.nd (Za1 (k:=2) (ps:=["script","program"]) F__law_given (hr.mono (by decide)) (Zc (Zd 0) (Zc (Zd8 (Zc (Zd 1) (Zc (Zd8 Zj) Zj))) Zj)))
      ·refine Zf ?_ ?_
       ·exact Zaj 4 ZbX.nd Zlz
       ·refine Zf ?_ ?_
        ·exact Zaj 5 ZbX.nd (Zc7 Zj)
        ·refine Zf ?_ ?_
         ·refine Znu ?_ ?_ ?_ ?_ ?_
          ·exact rfl
          ·exact rfl
          ·exact ZoA T.m_enumerate (ZrB Zr4 (Zd 0) Zkg (Zhk Zg))
          ·exact Zpl rfl (Zig 6 ZbX.nd (Zig 7 ZbX.nd Znt))
          ·refine Zf ?_ ?_
           ·exact Zaj 8 ZbX.nd (Zt Zgf (Zt Za6 (Zd 7) Zg) Zg)
           ·refine Zf ?_ ?_
            ·exact Zaj 9 ZbX.nd (Zt Za6 (Zt Zch (Zd 7) Zg) (Zt Znh Zg Zg))
            ·refine Zf ?_ ?_
             ·exact Zhm hu (Zd 4) (Zd 8) (Zd 9)
             ·exact Zm (Zaf (Zao (Zd 5) (Zc (Zd8 (Zc Zbu (Zc (Zd8 (Zc (Zd 8) Zj)) (Zc (Zd8 (Zc (Zd 9) Zj)) Zj)))) Zj)))
         ·refine Zf ?_ ?_
          ·exact Zaj 10 ZbX.nd (Zc7 (Zc (Zt Zbt (Zt Zbt Zg (Zt ZeH Zg (Zcn (id:="len") ZcB T.m_len ZbG (Zc (Zd 5) Zj)))) Zg) Zj))
          ·refine Zf ?_ ?_
           ·exact Zaj 11 ZbX.nd (Za1 (k:=1) (ps:=["words","names","cells","count"]) F__law_worth (hr.mono (by decide)) (Zc (Zd 2) (Zc (ZgC rfl T.m_zip T.m_dict (Zd 1) (Zd 3)) (Zc (Zd 4) (Zc (Zd 10) Zj)))))
           ·refine Zf ?_ ?_
            ·exact Zaf (Zao (Zd 5) (Zc (Zd8 (Zc Zbu (Zc (Zd 2) Zj))) Zj))
            ·refine Zf ?_ ?_
             ·refine Zaj 12 ?_ ?_
              ·exact ZbX.nd
              ·refine Zow (k:=32) (ps:=["program","given","most"]) (n:=2) (nm:="most") ?_ ?_ ?_
               ·exact X_meaning
               ·exact hr.mono (by decide)
               ·exact Zc (Zd8 (Zc (ZgT (T:="tuple") Zew T.m_tuple Zdu (Zc (Zd 1) Zj)) (Zc (ZgT (T:="tuple") Zew T.m_tuple Zdu (Zc (Zd 5) Zj)) Zj))) (Zc (Zd 3) Zj)
             ·refine Zf ?_ ?_
              ·refine Zbb ?_ ?_ ?_
               ·refine CW.ct ?_
                refine ZiJ ?_ ?_
                ·exact Zjb (ZdA (ZeS .tuple T.m_isinstance T.m_tuple (Zd 12)))
                ·refine ZiJ ?_ ?_
                 ·exact ZaC ((Zpd hu)) (Zcn (id:="len") ZcB T.m_len ZbG (Zc (Zd 12) Zj)) Zg
                 ·refine ZiJ ?_ ?_
                  ·exact Zjb (ZdA (ZeS .list T.m_isinstance T.m_list (Zam Zan (Zd 12) Zg)))
                  ·exact Zje (ZaC ((Zpd hu)) (Zcn (id:="len") ZcB T.m_len ZbG (Zc (Zam Zan (Zd 12) Zg) Zj)) Zg)
               ·exact Zm (ZaP Zse)
               ·exact Zbp
              ·refine Zf ?_ ?_
               ·refine Zh1 ?_ ?_ ?_ ?_ ?_
                ·exact rfl
                ·exact rfl
                ·exact Zjd (Zc7 (Zc (Zam Zan (Zam Zan (Zd 12) Zg) Zg) (Zc (Zam Zan (Zd 12) Zg) Zj)))
                ·exact Zcs 8 ZbX.nd
                ·exact Zm (Zbb (CW.ct (ZiJ (Zjb (ZdA (ZeS .int T.m_isinstance T.m_int (Zd 8)))) (Zje (ZdA (ZeS .bool T.m_isinstance T.m_bool (Zd 8)))))) (Zm (ZaP Zse)) Zbp)
               ·exact Zm (ZaP (ZmR ((Zsh hu)) (Zd 12) (Zd8 (Zc (Zc7 (Zc (Zd 11) Zj)) (Zc (Zam Zan (Zd 10) Zg) Zj)))))
end
end Law
set_option maxHeartbeats 200000
namespace Law
open L3
theorem ZfW (n d:Nat):sIx n d none = d:=rfl
theorem Zhw (n d k:Nat):sIx n d (some (k:Int)) = min k n:=by
 have h:¬ ((k:Int) < 0):=(fun z=>iN [_] [] 1 7211153 T1 z)
 simp only [sIx,if_neg h,Int.toNat_natCast]
theorem ZmZ {α:Type} (w:List α) (k:Nat):cutD w (some (k:Int)) none = w.drop k:=by
 unfold cutD
 rw [Zhw,ZfW]
 by_cases h:k ≤ w.length
 ·rw [Nat.min_eq_left h,List.take_of_length_le (by simp)]
 ·rw [Nat.min_eq_right (by exact lB 1 1052737 T1 h),List.drop_eq_nil_of_le (Nat.le_refl _),List.drop_eq_nil_of_le (by exact lB 1 1052737 T1 h)]; simp
theorem Zpu {α:Type} (w:List α) (k:Nat):cutD w none (some (k:Int)) = w.take k:=by
 unfold cutD
 rw [Zhw,ZfW]
 by_cases h:k ≤ w.length
 ·rw [Nat.min_eq_left h]; simp
 ·rw [Nat.min_eq_right (by exact lB 1 1052737 T1 h),Nat.sub_zero,List.drop_zero,List.take_of_length_le (Nat.le_refl _),List.take_of_length_le (by exact lB 1 1052737 T1 h)]
theorem ZmB {i j:Int} (h:-(2 ^ 64) < i ∧ i < 2 ^ 64):ZfN i j = true:=by
 unfold ZfN; rw [Bool.or_eq_true]; left; simp only [Bool.and_eq_true,decide_eq_true_eq]; exact h
theorem mul_r {i j:Int} (h:-(2 ^ 64) < j ∧ j < 2 ^ 64):ZfN i j = true:=by
 unfold ZfN; rw [Bool.or_eq_true]; right; simp only [Bool.and_eq_true,decide_eq_true_eq]; exact h
theorem Zcc (x:Int) (m:Nat) (h:0 < m):∃ a:Nat,x % (m:Int) = a ∧ a < m:=by
 have h1:=Int.emod_nonneg x (b:=(m:Int)) (by exact fun z=>iN [_] [] 2 416093702305 T1 z h)
 have h2:=Int.emod_lt_of_pos x (b:=(m:Int)) (by exact iN [_] [] 1 149491217 T1 h)
 exact ⟨(x % (m:Int)).toNat,(Int.toNat_of_nonneg h1).symm,by exact iN [_,_] [_] 2 18698308976785 T1 h2 (Int.toNat_of_nonneg h1)⟩
theorem ZiS {M M':Store} {d:D} (h:M'.length = M.length):tidy M d M' = .ok d M':=by
 unfold tidy
 rw [List.take_of_length_le (Nat.le_of_eq h)]
 split <;> rfl
theorem Zbi {i j:Int} {M:Store} (h:0 < j ∧ j < 1073741824):ZaE (.int i) (.int j) M = .ok (.int (i / j)) M:=by simp only [ZgR,if_pos h]
theorem Zb5 {g:EL3} {env:Zv} {M M':Store} {ds:List D} (h:g env M = .ok ds M') (hl:decide (ds.length ≤ 100) = true):Zcv g env M = .ok (.ref M'.length) (M' ++ [.lst ds]):=by
 have z:ds.length ≤ SZ:=Nat.le_trans (of_decide_eq_true hl) (by decide)
 simp only [Zcv,h,R3.bind,if_pos z,alloc]
theorem ZcH {env:Zv} {M M':Store} {n:Nat} {xs:List D} {d:D} {o t:E3} (ho:o env M = .ok (.ref n) M) (hM:M[n]? = some (.lst xs)) (ht:t env M = .ok d M') (hM':M'[n]? = some (.lst xs)) (hl:xs.length < SZ):
  Zaa (Zaw tyL Zae o (Zb t (Zi))) env M = .nx env (M'.set n (.lst (xs ++ [d]))):=by
 have e:Zaw tyL Zae o (Zb t (Zi)) env M = .ok .non (M'.set n (.lst (xs ++ [d]))):=by
  simp only [Zaw,ho,R3.bind,Zge,hM,Zb,ht,Zi,Zdk,hM',if_pos hl,if_true]
 rw [Zaa,e]
theorem ZpT {op:D → D → D → Store → R3 D} {f g h:E3} {env:Zv} {M M1 M2 M3 M4:Store} {a b c d:D} (h1:f env M = .ok a M1) (h2:g env M1 = .ok b M2) (h3:h env M2 = .ok c M3) (h4:op a b c M3 = .ok d M4):e3 op f g h env M = .ok d M4:=by simp only [e3,h1,h2,h3,h4,R3.bind]
noncomputable def dr (ns:List Int) (k:Nat):Int:=
 ((((if 0 < ns.length then ns.getD (k % ns.length) 0 % 2147483629 else 0) + 3 + 86243 * ((k / max 1 ns.length:Nat):Int)) * 69621 % 2147483629) * (((if 0 < ns.length then ns.getD (k % ns.length) 0 % 2147483629 else 0) + 3 + 86243 * ((k / max 1 ns.length:Nat):Int)) * 69621 % 2147483629)) % 2147483587
theorem ZoN (ns:List Int) (k:Nat):0 ≤ dr ns k:=Int.emod_nonneg _ (by decide)
noncomputable abbrev SC (ns:List Int):D:=.scr (ns.map D.int)
theorem Zhx {i j:Int} (h:-(2 ^ 64) < j ∧ j < 2 ^ 64) (M:Store):Zbr (.int i) (.int j) M = .ok (.int (i * j)) M:=by rw [ZdG,if_pos (mul_r h)]
theorem Zot {ns:List Int} (hl:ns.length ≤ 63) (k:Nat) (M:Store):Zy [SC ns,.int k] M = .ok (.int (dr ns k)) M:=by
 refine (Zb7 (M':=M) (d:=.int (dr ns k)) (env:=[some (SC ns),some (.int k),none,none]) ?_).trans (Ze2 rfl)
 have hlen:∀ a b c:Option D,ZaD Zbe (Zb (Za 0) Zi) [some (SC ns),a,b,c] M = .ok (.int (ns.length:Int)) M:=fun a b c=>by
  refine ZcM rfl ?_
  rw [ZfC,List.length_map]
 have hmax:∀ a b c:Option D,ZaD Zg1 (Zb (eC (.int 1)) (Zb (ZaD Zbe (Zb (Za 0) Zi)) Zi)) [some (SC ns),a,b,c] M = .ok (.int ((max 1 ns.length:Nat):Int)) M:=fun a b c=>by
  simp only [ZaD,Zb,eC,R3.bind,Zi]
  have:=hlen a b c
  simp only [ZaD,Zb,R3.bind,Zi] at this
  rw [this]
  simp only [Zmx]
  congr 2
  split <;> omega
 have fin:∀ z:Int,(Zu (Zat 3 (e2 Zaq (e2 Zbr (e2 Zag (e2 Zag (Za 2) (eC (.int 3))) (e2 Zbr (eC (.int 86243)) (e2 ZaE (Za 1) (ZaD Zg1 (Zb (eC (.int 1)) (Zb (ZaD Zbe (Zb (Za 0) (Zi))) (Zi))))))) (eC (.int 69621))) (eC (.int 2147483629)))) (Zb0 (e2 Zaq (e2 Zbr (Za 3) (Za 3)) (eC (.int 2147483587))))) [some (SC ns),some (.int k),some (.int z),none] M = .rt (.int ((((z + 3 + 86243 * ((k / max 1 ns.length:Nat):Int)) * 69621 % 2147483629) * ((z + 3 + 86243 * ((k / max 1 ns.length:Nat):Int)) * 69621 % 2147483629)) % 2147483587)) M:=fun z=>by
  have hz:0 < max 1 ns.length:=by omega
  rw [Zk (Zah (d:=.int ((z + 3 + 86243 * ((k / max 1 ns.length:Nat):Int)) * 69621 % 2147483629)) (Ze (Ze (Ze (Ze rfl rfl rfl) (Ze rfl (Ze rfl (hmax _ _ _) (Zbi (by omega))) (by rw [ZdG,if_pos (ZmB (by decide))])) rfl) rfl (Zhx (by decide) M)) rfl (ZaA (by decide))))]
  have b1:=Int.emod_nonneg ((z + 3 + 86243 * (((k / max 1 ns.length:Nat)):Int)) * 69621) (b:=2147483629) (by decide)
  have b2:=Int.emod_lt_of_pos ((z + 3 + 86243 * (((k / max 1 ns.length:Nat)):Int)) * 69621) (b:=2147483629) (by decide)
  refine Za0 (Ze (Ze rfl rfl (Zhx (by omega) M)) rfl (ZaA (by decide)))
 unfold Zdw
 rw [Zk (Zah (d:=.int 0) rfl)]
 by_cases h0:0 < ns.length
 ·have e:((k:Int) % (ns.length:Int)) = ((k % ns.length:Nat):Int):=by omega
  have hk:k % ns.length < ns.length:=Nat.mod_lt _ h0
  rw [Zk ((Zcp (Ze (hlen _ _ _) rfl (by rw [ZdT,decide_eq_true (by omega)]))).trans (Zah (d:=.int (ns.getD (k % ns.length) 0 % 2147483629)) (Ze (Ze rfl (Ze rfl (hlen _ _ _) (ZaA (by omega))) (by
   rw [e,ZfH,ZbB,List.getElem?_map,List.getElem?_eq_getElem hk,List.getD_eq_getElem?_getD,List.getElem?_eq_getElem hk]; rfl)) rfl (ZaA (by decide))))),dr,if_pos h0]
  exact fin _
 ·rw [Zk (ZaF (Ze (hlen _ _ _) rfl (by rw [ZdT,decide_eq_false (by omega)]))),dr,if_neg h0]
  exact fin 0
noncomputable def Zfs (x:List Nat):Bool:=decide (x = [97,100,100] ∨ x = [115,117,98] ∨ x = [109,111,114,101] ∨ x = [99,101,108,108])
theorem Zm4 {a b p c:Nat} (h:List.replicate a p ++ [c] ++ List.replicate b p ≠ [97,100,100]):Zfs (List.replicate a p ++ [c] ++ List.replicate b p) = false:=by
 refine decide_eq_false fun z=>?_
 rcases z with z | z | z | z
 ·exact h z
 all_goals
  have hl:=congrArg List.length z
  simp only [List.length_append,List.length_replicate,List.length_cons,List.length_nil] at hl
  match a,b,hl with
  | 0,b,hl=>
   first
    | (obtain rfl:b = 2:=by omega); simp [List.replicate] at z; omega
    | (obtain rfl:b = 3:=by omega); simp [List.replicate] at z; omega
  | 1,b,hl=>
   first
    | (obtain rfl:b = 1:=by omega); simp [List.replicate] at z; omega
    | (obtain rfl:b = 2:=by omega); simp [List.replicate] at z; omega
  | 2,b,hl=>
   first
    | (obtain rfl:b = 0:=by omega); simp [List.replicate] at z; omega
    | (obtain rfl:b = 1:=by omega); simp [List.replicate] at z; omega
  | 3,b,hl=>
   first
    | (obtain rfl:b = 0:=by omega); simp [List.replicate] at z; omega
    | omega
  | a + 4,b,hl=>omega
theorem Zdi {ns:List Int} (hl:ns.length ≤ 63) {k:Nat} {f g:E3} {env:Zv} {M:Store} (h0:f env M = .ok (SC ns) M) (h1:g env M = .ok (.int (k:Int)) M):Zap Zy (Zb f (Zb g Zi)) env M = .ok (.int (dr ns k)) M:=Zf7 h0 h1 (Zot hl k M)
noncomputable abbrev LTS:List Nat:=[97,98,99,100,101,102,103,104,105,106,107,108,109,110,111,112,113,114,115,116,117,118,119,120,121,122]
theorem Znj (x:Int):∃ c:Nat,∀ M,Zr (.str LTS) (.int (x % 26)) M = .ok (.str [c]) M:=by
 obtain ⟨a,e,ha⟩:=Zcc x 26 (by decide)
 have hg:LTS[a]? = some (LTS[a]'ha):=List.getElem?_eq_getElem ha
 refine ⟨LTS[a]'ha,fun M=>?_⟩
 have e':x % 26 = (a:Int):=e
 rw [e',ZfX,ZbB,hg]
 exact if_pos (show LTS.length ≤ SZ by decide)
theorem Zmz (k c:Nat):(List.replicate k [c]).flatten = List.replicate k c:=by
 induction k with
 | zero=>rfl
 | succ k ih=>rw [List.replicate_succ,List.flatten_cons,ih]; rfl
theorem mul_str {c:Nat} {k:Nat} (hk:k < 100) (M:Store):Zbr (.str [c]) (.int (k:Int)) M = .ok (.str (List.replicate k c)) M:=by
 have h:[c].length * ((k:Int)).toNat ≤ SZ ∧ (k:Int) < 1000000 ∧ -1000000 < (k:Int):=by
  refine ⟨?_,by omega,by omega⟩
  rw [List.length_singleton,Nat.one_mul,Int.toNat_natCast]
  exact Nat.le_trans (Nat.le_of_lt hk) (by decide)
 rw [Zl6,if_pos h,Int.toNat_natCast,Zmz]
theorem add_str {x y:List Nat} (h:x.length + y.length < 100) (M:Store):Zag (.str x) (.str y) M = .ok (.str (x ++ y)) M:=by
 rw [Zmh,if_pos (Nat.le_trans (Nat.le_of_lt h) (by decide))]
def Zoh (w:List Nat):Prop:=(∃ a b p c,w = List.replicate a p ++ [c] ++ List.replicate b p) ∧ w ≠ [97,100,100] ∧ w.length ≤ 8
theorem Zoh.op {w:List Nat} (h:Zoh w):Zfs w = false:=by
 obtain ⟨⟨a,b,p,c,rfl⟩,h,_⟩:=h
 exact Zm4 h
theorem ZiQ {a b:List Nat} {M:Store} (h:a = b):ZbJ (.str a) (.str b) M = .ok (.bl true) M:=by simp only [ZbJ,Zhf,decide_eq_true h]
theorem Zdq {a b:List Nat} {M:Store} (h:¬ a = b):ZbJ (.str a) (.str b) M = .ok (.bl false) M:=by simp only [ZbJ,Zhf,decide_eq_false h]
theorem ZhC {ns:List Int} (hl:ns.length ≤ 63) (i:Nat):∃ w,Zoh w ∧ ∀ M,ZaX [SC ns,.int (i:Int)] M = .ok (.str w) M:=by
 obtain ⟨p,hp⟩:=Znj (dr ns 0)
 obtain ⟨c,hc⟩:=Znj ((i:Int) + dr ns 3)
 obtain ⟨pl,ep,hpl⟩:=Zcc (dr ns 1) 8 (by decide)
 have ep:dr ns 1 % 8 = (pl:Int):=ep
 have e8:(8:Int) - (pl:Int) = ((8 - pl:Nat):Int):=by omega
 obtain ⟨t1,et1,ht1⟩:=Zcc (dr ns 2) (8 - pl) (by omega)
 obtain ⟨t2,et2,ht2⟩:=Zcc (dr ns (4 + i)) (8 - pl) (by omega)
 let b:Bool:=decide (dr ns 1 / 8 % 2 = 1)
 have hb:decide (dr ns 1 / 8 % 2 = 1) = b:=rfl
 let t:Nat:=if b then t2 else t1
 have ht:t < 8 - pl:=by show (if b then t2 else t1) < _; split <;> assumption
 let w0:List Nat:=List.replicate pl p ++ [c] ++ List.replicate t p
 have hw0:w0.length ≤ 8:=by simp only [w0,List.length_append,List.length_replicate,List.length_cons,List.length_nil]; omega
 have main:∀ M,ZaX [SC ns,.int (i:Int)] M = .ok (.str (if w0 = [97,100,100] then [97,100,100,100] else w0)) M:=fun M=>by
  refine (Zb7 (M':=M) (d:=.str (if w0 = [97,100,100] then [97,100,100,100] else w0)) (env:=[some (SC ns),some (.int i),none,none,none,none,none]) ?_).trans (Ze2 rfl)
  unfold Zdt
  rw [Zk (Zah (d:=.str LTS) rfl),Zk (Zah (d:=.str [p]) (Ze rfl (Ze (Zdi hl (k:=0) rfl rfl) rfl (ZaA (by decide))) (hp M))),
   Zk (Zah (d:=.int (pl:Int)) (Ze (Zdi hl (k:=1) rfl rfl) rfl ((ZaA (by decide)).trans (by rw [ep])))),
   Zk (Zah (d:=.int (t1:Int)) (Ze (Zdi hl (k:=2) rfl rfl) (Ze rfl rfl (by rw [ZfT,e8])) ((ZaA (by omega)).trans (by rw [et1]))))]
  have hc1:∀ x:Option D,e2 ZbJ (e2 Zaq (e2 ZaE (Zap Zy (Zb (Za 0) (Zb (eC (.int 1)) (Zi)))) (eC (.int 8))) (eC (.int 2))) (eC (.int 1)) [some (SC ns),some (.int (i:Int)),some (.str LTS),some (.str [p]),some (.int (pl:Int)),some (.int (t1:Int)),x] M = .ok (.bl b) M:=fun x=>
   Ze (Ze (Ze (Zdi hl (k:=1) rfl rfl) rfl (Zbi (by decide))) rfl (ZaA (by decide))) rfl rfl
  have step:sIf (e2 ZbJ (e2 Zaq (e2 ZaE (Zap Zy (Zb (Za 0) (Zb (eC (.int 1)) (Zi)))) (eC (.int 8))) (eC (.int 2))) (eC (.int 1))) (Zat 5 (e2 Zaq (Zap Zy (Zb (Za 0) (Zb (e2 Zag (eC (.int 4)) (Za 1)) (Zi)))) (e2 ZbN (eC (.int 8)) (Za 4)))) (ZbZ) [some (SC ns),some (.int (i:Int)),some (.str LTS),some (.str [p]),some (.int (pl:Int)),some (.int (t1:Int)),none] M = .nx [some (SC ns),some (.int (i:Int)),some (.str LTS),some (.str [p]),some (.int (pl:Int)),some (.int (t:Int)),none] M:=by
   cases hbb:b with
   | false=>
    have h1:=hc1 none
    rw [hbb] at h1
    have et:t = t1:=by show (if b then t2 else t1) = t1; rw [hbb]; rfl
    rw [Zcq h1,et]; rfl
   | true=>
    have h1:=hc1 none
    rw [hbb] at h1
    have et:t = t2:=by show (if b then t2 else t1) = t2; rw [hbb]; rfl
    rw [Zcp h1,et]
    exact Zah (Ze (Zdi hl (k:=4 + i) rfl (Ze rfl rfl rfl)) (Ze rfl rfl (by rw [ZfT,e8])) ((ZaA (by omega)).trans (by rw [et2])))
  rw [Zk step,Zk (Zah (d:=.str w0) (Ze (Ze (Ze rfl rfl (mul_str (by omega) M)) (Ze rfl (Ze (Ze rfl (Zdi hl (k:=3) rfl rfl) rfl) rfl (ZaA (by decide))) (hc M)) (add_str (by simp only [List.length_replicate,List.length_singleton]; omega) M)) (Ze rfl rfl (mul_str (by omega) M)) (add_str (by simp only [List.length_append,List.length_replicate,List.length_singleton]; omega) M)))]
  by_cases e:w0 = [97,100,100]
  ·rw [if_pos e]
   exact ZdL ((Zcp (Ze rfl rfl (ZiQ e))).trans rfl)
  ·rw [if_neg e,Zk (ZaF (Ze rfl rfl (Zdq e)))]
   rfl
 refine ⟨_,?_,main⟩
 by_cases e:w0 = [97,100,100]
 ·rw [if_pos e]; exact ⟨⟨0,3,100,97,rfl⟩,by decide,by decide⟩
 ·rw [if_neg e]; exact ⟨⟨pl,t,p,c,rfl⟩,e,hw0⟩
theorem Zfa {d:Int} (hd:0 ≤ d):∃ z:Int,∀ M,Zau [.int d] M = .ok (.int z) M:=by
 obtain ⟨a,ea,ha⟩:=Zcc d 4 (by decide)
 obtain ⟨b,eb,hb⟩:=Zcc (d / 4) 2 (by decide)
 have ea:d % 4 = (a:Int):=ea
 have eb:d / 4 % 2 = (b:Int):=eb
 let some4:List Int:=[d / 8 % 5,d / 8 % 1000,d / 8 * 4099 % 10 ^ 12,0]
 have h4:∃ y:Int,(some4.map D.int)[a]? = some (.int y):=⟨some4[a]'ha,by rw [List.getElem?_map,List.getElem?_eq_getElem (show a < some4.length from ha)]; rfl⟩
 obtain ⟨y,hy⟩:=h4
 have h2:∃ z:Int,([D.int y,.int (-y)])[b]? = some (.int z):=by
  match b,hb with
  | 0,_=>exact ⟨_,rfl⟩
  | 1,_=>exact ⟨_,rfl⟩
 obtain ⟨z,hz⟩:=h2
 refine ⟨z,fun M=>?_⟩
 refine (Zb7 (M':=M ++ [.lst (some4.map D.int),.lst [.int y,.int (-y)]]) (d:=.int z) (env:=[some (.int d),none]) ?_).trans (Zet rfl)
 unfold ZcS
 rw [Zk (Zah (d:=.ref M.length) (M':=M ++ [.lst (some4.map D.int)]) (Zb5 (Zac (Ze (Ze rfl rfl (Zbi (by decide))) rfl (ZaA (by decide))) (Zac (Ze (Ze rfl rfl (Zbi (by decide))) rfl (ZaA (by decide))) (Zac (Ze (Ze (Ze rfl rfl (Zbi (by decide))) rfl (Zhx (by decide) M)) (Ze rfl rfl rfl) (ZaA (by decide))) (Zac rfl rfl)))) rfl))]
 have ix:∀ x:Option D,e2 Zr (Za 1) (e2 Zaq (Za 0) (eC (.int 4))) [some (.int d),some (.ref M.length)] (M ++ [.lst (some4.map D.int)]) = .ok (.int y) (M ++ [.lst (some4.map D.int)]):=fun _=>
  Ze rfl (Ze rfl rfl (ZaA (by decide))) (Zbh (Zar M _ []) (by rw [ea,ZbB]; exact hy))
 refine Za0 (Ze (Zb5 (ds:=[.int y,.int (-y)]) (Zac (ix none) (Zac (ZbD (ix none) rfl) rfl)) rfl) (Ze (Ze rfl rfl (Zbi (by decide))) rfl (ZaA (by decide))) ?_)
 rw [List.append_assoc]
 refine Zbh (xs:=[.int y,.int (-y)]) ?_ (by rw [eb,ZbB]; exact hz)
 rw [List.length_append]
 exact ZeC M [.lst (some4.map D.int),.lst [.int y,.int (-y)]] 1
inductive Sm where
 | num (i:Int) | nam (x:List Nat) | cel (a:Sm) | two (o:Nat) (a b:Sm)
noncomputable abbrev CEL:List Nat:=[99,101,108,108]
noncomputable def opW:Nat → List Nat
 | 0=>[97,100,100]
 | 1=>[115,117,98]
 | _=>[109,111,114,101]
noncomputable def Sm.flat:Sm → List D
 | .num i=>[.int i]
 | .nam x=>[.str x]
 | .cel a=>.str CEL :: a.flat
 | .two o a b=>.str (opW o) :: (a.flat ++ b.flat)
noncomputable def Sm.good:Sm → Prop
 | .num _=>True
 | .nam x=>Zfs x = false
 | .cel a=>a.good
 | .two _ a b=>a.good ∧ b.good
noncomputable def Sm.parts:Sm → List Sm
 | .num _=>[]
 | .nam _=>[]
 | .cel a=>[a]
 | .two _ a b=>[a,b]
noncomputable def Sm.head:Sm → D
 | .num i=>.int i
 | .nam x=>.str x
 | .cel _=>.str CEL
 | .two o _ _=>.str (opW o)
theorem Sm.flat_eq (t:Sm):t.flat = t.head :: (t.parts.map Sm.flat).flatten:=by
 cases t <;> simp [Sm.flat,Sm.head,Sm.parts]
noncomputable def ar:D → Nat
 | .str x=>if x = CEL then 1 else if Zfs x = true then 2 else 0
 | _=>0
inductive IsW:D → Prop
 | int (i:Int):IsW (.int i)
 | str (x:List Nat):IsW (.str x)
theorem ZhQ:∀ (t:Sm),∀ d ∈ t.flat,IsW d
 | .num i,d,h=>by rw [List.mem_singleton.mp h]; exact .int i
 | .nam x,d,h=>by rw [List.mem_singleton.mp h]; exact .str x
 | .cel a,d,h=>by
  rcases List.mem_cons.mp h with h | h
  ·rw [h]; exact .str _
  ·exact ZhQ a d h
 | .two o a b,d,h=>by
  rcases List.mem_cons.mp h with h | h
  ·rw [h]; exact .str _
  ·rcases List.mem_append.mp h with h | h
   ·exact ZhQ a d h
   ·exact ZhQ b d h
theorem ZpR (x:List Nat):ZcU x Zbn = if x = [97,100,100] then some 2 else if x = [115,117,98] then some 2 else if x = [109,111,114,101] then some 2 else if x = CEL then some 1 else none:=rfl
theorem Zqz {w:D} (h:IsW w) (M:Store):ZdP Zbn w (.int 0) M = .ok (.int (ar w:Nat)) M:=by
 cases h with
 | int i=>rfl
 | str x=>
  show (match ZcU x Zbn with | some i=>R3.ok (D.int i) M | none=>R3.ok (D.int 0) M) = _
  rw [ZpR]
  by_cases h1:x = [97,100,100]
  ·subst h1; rfl
  by_cases h2:x = [115,117,98]
  ·subst h2; rfl
  by_cases h3:x = [109,111,114,101]
  ·subst h3; rfl
  by_cases h4:x = CEL
  ·subst h4; rfl
  have:Zfs x = false:=decide_eq_false fun z=>z.elim h1 fun z=>z.elim h2 fun z=>z.elim h3 h4
  simp only [if_neg h1,if_neg h2,if_neg h3,if_neg h4,ar,this]
  rfl
noncomputable def stp (s:List (List D) × Nat) (w:D):List (List D) × Nat:=
 let s:=if s.2 = 0 then (s.1 ++ [[]],1) else s
 (s.1.dropLast ++ [s.1.getLastD [] ++ [w]],s.2 - 1 + ar w)
theorem Ze7 (ds:List (List D)) (cur:List D) (l:Nat) (w:D):stp (ds ++ [cur],l + 1) w = (ds ++ [cur ++ [w]],l + ar w):=by
 simp [stp]
theorem Zkw (ds:List (List D)) (w:D):stp (ds,0) w = stp (ds ++ [[]],0 + 1) w:=by
 simp [stp]
theorem ZeD:∀ (t:Sm),t.good → ∀ (ds:List (List D)) (cur:List D) (l:Nat) (r:List D),(t.flat ++ r).foldl stp (ds ++ [cur],l + 1) = r.foldl stp (ds ++ [cur ++ t.flat],l)
 | .num i,_,ds,cur,l,r=>by simp only [Sm.flat,List.cons_append,List.nil_append,List.foldl_cons,Ze7]; rfl
 | .nam x,h,ds,cur,l,r=>by
  have e:ar (.str x) = 0:=by
   have h:Zfs x = false:=h
   have h':x ≠ CEL:=fun z=>by subst z; exact absurd h (by decide)
   simp only [ar,if_neg h',h]; rfl
  simp only [Sm.flat,List.cons_append,List.nil_append,List.foldl_cons,Ze7,e,Nat.add_zero]
 | .cel a,h,ds,cur,l,r=>by
  have e:ar (.str CEL) = 1:=rfl
  simp only [Sm.flat,List.cons_append,List.foldl_cons,Ze7,e,ZeD a h,List.append_assoc,List.nil_append]
 | .two o a b,h,ds,cur,l,r=>by
  have e:ar (.str (opW o)) = 2:=by
   match o with
   | 0=>rfl
   | 1=>rfl
   | _ + 2=>rfl
  have e2:l + 2 = l + 1 + 1:=rfl
  simp only [Sm.flat,List.cons_append,List.foldl_cons,Ze7,e,List.append_assoc,e2,ZeD a h.1,ZeD b h.2,List.nil_append]
theorem Zez (t:Sm):∃ w r,t.flat = w :: r:=⟨_,_,t.flat_eq⟩
theorem Znz (t:Sm) (h:t.good) (ds:List (List D)) (r:List D):(t.flat ++ r).foldl stp (ds,0) = r.foldl stp (ds ++ [t.flat],0):=by
 obtain ⟨w,q,e⟩:=Zez t
 have h1:=ZeD t h ds [] 0 r
 rw [List.nil_append] at h1
 rw [← h1,e,List.cons_append,List.foldl_cons,List.foldl_cons,Zkw]
theorem Zj5:∀ (ts:List Sm),(∀ t ∈ ts,t.good) → ∀ ds,(ts.map Sm.flat).flatten.foldl stp (ds,0) = (ds ++ ts.map Sm.flat,0)
 | [],_,ds=>by simp
 | t :: ts,h,ds=>by
  rw [List.map_cons,List.flatten_cons,Znz t (h t List.mem_cons_self),Zj5 ts fun t ht=>h t (List.mem_cons_of_mem _ ht)]
  simp
noncomputable def ZcE (n j:Nat):List D:=(List.range j).map fun k=>D.ref (n + 1 + k)
noncomputable def SSt (M:Store) (done:List (List D)):Store:=M ++ .lst (ZcE M.length done.length) :: done.map MO.lst
theorem Zkq (M:Store) (done:List (List D)):(SSt M done).length = M.length + 1 + done.length:=by
 simp only [SSt,List.length_append,List.length_cons,List.length_map]; omega
theorem Zgm (M:Store) (done:List (List D)):(SSt M done)[M.length]? = some (.lst (ZcE M.length done.length)):=Zar _ _ _
theorem Zmr (M:Store) (done:List (List D)) (k:Nat):(SSt M done)[M.length + 1 + k]? = (done[k]?).map MO.lst:=by
 rw [SSt,Nat.add_assoc,ZeC,Nat.add_comm 1 k,List.getElem?_cons_succ,List.getElem?_map]
theorem ZfL (n j:Nat):ZcE n (j + 1) = ZcE n j ++ [D.ref (n + 1 + j)]:=by simp [ZcE,List.range_succ]
theorem Zof (M:Store) (done:List (List D)):(SSt M done ++ [MO.lst []]).set M.length (MO.lst (ZcE M.length done.length ++ [D.ref (SSt M done).length])) = SSt M (done ++ [[]]):=by
 have h:=Zfw M (MO.lst (ZcE M.length done.length) :: done.map MO.lst ++ [MO.lst []]) 0 (MO.lst (ZcE M.length done.length ++ [D.ref (SSt M done).length]))
 rw [Nat.add_zero] at h
 rw [Zkq] at h ⊢
 rw [SSt,List.append_assoc,h,SSt,List.length_append,List.length_singleton,ZfL]
 simp
theorem ZnE (M:Store) (ds:List (List D)) (cur:List D) (w:D):(SSt M (ds ++ [cur])).set (M.length + 1 + ds.length) (MO.lst (cur ++ [w])) = SSt M (ds ++ [cur ++ [w]]):=by
 rw [SSt,Nat.add_assoc,Zfw,SSt]
 simp [Nat.add_comm 1]
theorem ZgI {α:Type} {enc h:α → D} {it:It3} {g:G3} {n:Nat} {elt:E3} {I:Zv → Prop} {M:Store}:∀ (as:List α) (acc:List D) (env:Zv),I env →
  (∀ a ∈ as,∀ env,I env → ∃ env1,g (enc a) env = some env1 ∧ I env1 ∧ ∀ x,elt env1 (M.set n (.lst x)) = .ok (h a) (M.set n (.lst x))) → (∀ x,locked it (M.set n (.lst x)) = true) → n < M.length → acc.length + as.length ≤ SZ →
  Zby it g [] elt n (as.map enc) env (M.set n (.lst acc)) = .ok (.ref n) (M.set n (.lst (acc ++ as.map h)))
 | [],acc,env,_,_,hl,_,_=>by
  simp only [List.map_nil,ZhI,hl,if_true,List.append_nil]
 | a :: as,acc,env,hI,hf,hl,hn,hz=>by
  obtain ⟨env1,hg,hI1,he⟩:=hf a List.mem_cons_self env hI
  have gt:(M.set n (.lst acc))[n]? = some (.lst acc):=by simp [hn]
  have lt:acc.length < SZ:=by simp only [List.length_cons] at hz; exact lC 1 2204024704001 T1 hz
  have ih:=ZgI as (acc ++ [h a]) env1 hI1 (fun b hb=>hf b (List.mem_cons_of_mem _ hb)) hl hn (by simp only [List.length_append,List.length_cons,List.length_nil] at hz ⊢; exact lC 1 0x21aec0cc02a1c0c01 T1 hz)
  simp only [List.map_cons,ZhS,hl,if_true,hg,Ze5,Zlh,R3.bind,he,gt,lt,List.set_set]
  rw [ih]
  simp
theorem ZjV {α:Type} {enc h:α → D} {own:Nat} {i:I3} {g:G3} {elt:E3} {env:Zv} {M M1:Store} {lock:Option Nat} {as:List α} (I:Zv → Prop) (hi:i env M = .ok ⟨as.map enc,lock⟩ M1) (hlock:∀ n,lock = some n → M1[n]? = some (.lst (as.map enc)))
  (hI:I (env ++ List.replicate own none)) (hf:∀ a ∈ as,∀ env,I env → ∃ env1,g (enc a) env = some env1 ∧ I env1 ∧ ∀ x,elt env1 (M1 ++ [.lst x]) = .ok (h a) (M1 ++ [.lst x])) (hz:as.length ≤ 100000):
  eLC i own g [] elt env M = .ok (.ref M1.length) (M1 ++ [.lst (as.map h)]):=by
 have st:∀ x:List D,(M1 ++ [MO.lst []]).set M1.length (.lst x) = M1 ++ [.lst x]:=fun x=>by simp
 rw [ZjT hi]
 have:=ZgI (enc:=enc) (h:=h) (it:=⟨as.map enc,lock⟩) (g:=g) (n:=M1.length) (elt:=elt) (I:=I) (M:=M1 ++ [.lst []]) as [] (env ++ List.replicate own none) hI
  (fun a ha e he=>by
   obtain ⟨e1,h1,h2,h3⟩:=hf a ha e he
   exact ⟨e1,h1,h2,fun x=>by rw [st]; exact h3 x⟩)
  (fun x=>by
   rw [st]
   cases lock with
   | none=>rfl
   | some n=>
    simp only [locked,decide_eq_true_eq]
    exact ZaH (hlock n rfl) _) (by simp) (by simp; exact lA 1 0xf42405b00186a05b001 T1 hz)
 rw [st,st] at this
 simpa using this
theorem Zjg {M:Store} {n:Nat} {x:List D} (h:M[n]? = some (.lst x)):Zcm [.ref n] M = .ok (.tup x) M:=by simp [h]
noncomputable abbrev Zpw:S3:=Zu (sIf (e2 ZbJ (Za 2) (eC (.int 0))) (Zu (Zaa (Zaw tyL Zae (Za 1) (Zb (Zcv (Zi)) (Zi)))) (Zat 2 (eC (.int 1)))) (ZbZ)) (Zu (Zaa (Zaw tyL Zae (e2 Zr (Za 1) (e1 ZfU (eC (.int 1)))) (Zb (Za 3) (Zi)))) (Zat 2 (e2 Zag (e2 ZbN (Za 2) (eC (.int 1))) (e2 (ZdP Zbn) (Za 3) (eC (.int 0))))))
theorem Zld (n j:Nat):(ZcE n j).length = j:=by simp [ZcE]
theorem Zou {env:Zv} {M M' M2:Store} {n:Nat} {xs:List D} {d:D} {o t:E3} (ho:o env M = .ok (.ref n) M') (hM:M'[n]? = some (.lst xs)) (ht:t env M' = .ok d M2) (hM':M2[n]? = some (.lst xs)) (hl:xs.length < SZ):
  Zaa (Zaw tyL Zae o (Zb t (Zi))) env M = .nx env (M2.set n (.lst (xs ++ [d]))):=by
 have e:Zaw tyL Zae o (Zb t (Zi)) env M = .ok .non (M2.set n (.lst (xs ++ [d]))):=by
  simp only [Zaw,ho,R3.bind,Zge,hM,Zb,ht,Zi,Zdk,hM',if_pos hl,if_true]
 rw [Zaa,e]
theorem Zh7 (M:Store) (ds:List (List D)) (cur:List D) (l:Nat) (w W:D) (hw:IsW w) (h1:ds.length < 1000) (h2:cur.length < 1000):
  (Zu (Zaa (Zaw tyL Zae (e2 Zr (Za 1) (e1 ZfU (eC (.int 1)))) (Zb (Za 3) (Zi)))) (Zat 2 (e2 Zag (e2 ZbN (Za 2) (eC (.int 1))) (e2 (ZdP Zbn) (Za 3) (eC (.int 0)))))) [some W,some (.ref M.length),some (.int ((l + 1:Nat):Int)),some w] (SSt M (ds ++ [cur]))
   = .nx [some W,some (.ref M.length),some (.int ((l + ar w:Nat):Int)),some w] (SSt M (ds ++ [cur ++ [w]])):=by
 have hr:ZcE M.length (ds ++ [cur]).length = ZcE M.length ds.length ++ [.ref (M.length + 1 + ds.length)]:=by rw [List.length_append,List.length_singleton,ZfL]
 have hat:(SSt M (ds ++ [cur]))[M.length + 1 + ds.length]? = some (.lst cur):=by rw [Zmr]; simp
 refine (Zk (Zou (M':=SSt M (ds ++ [cur])) (Ze rfl (ZbD rfl (Znd 1)) (Zbh (Zgm M _) (by rw [hr]; exact getD_last _ _))) hat rfl hat (Nat.lt_trans h2 (by decide)))).trans ?_
 rw [ZnE]
 refine Zah (Ze (Ze rfl rfl rfl) (Ze rfl rfl (Zqz hw _)) ?_)
 rw [Zmn]
 congr 2
 omega
theorem Zk5 (M:Store) (done:List (List D)) (l:Nat) (w W:D) (hw:IsW w) (h1:done.length < 900) (h2:∀ c ∈ done,c.length < 900) (hn:l ≠ 0 → done ≠ []):
  Zpw [some W,some (.ref M.length),some (.int (l:Int)),some w] (SSt M done) = .nx [some W,some (.ref M.length),some (.int ((stp (done,l) w).2:Nat)),some w] (SSt M (stp (done,l) w).1):=by
 cases l with
 | zero=>
  rw [Zkw,Ze7]
  have hz:(ZcE M.length done.length).length < SZ:=by rw [Zld]; exact Nat.lt_trans h1 (by decide)
  show Zu _ _ _ _ = _
  refine (Zk ((Zcp (Ze rfl rfl (Zk8 rfl))).trans ((Zk (ZcH rfl (Zgm M done) (Zb5 rfl rfl) (ZaH (Zgm M done) _) hz)).trans (Zah (d:=.int 1) rfl)))).trans ?_
  rw [Zof]
  exact Zh7 M done [] 0 w W hw (by omega) (by simp)
 | succ l=>
  have hd:=hn (by omega)
  have e:done = done.dropLast ++ [done.getLast hd]:=(List.dropLast_concat_getLast hd).symm
  generalize done.dropLast = ds at e
  generalize done.getLast hd = cur at e
  subst e
  rw [Ze7]
  show Zu _ _ _ _ = _
  refine (Zk (ZaF (Ze rfl rfl (ZiG (by omega))))).trans ?_
  exact Zh7 M ds cur l w W hw (by simp at h1; omega) (by have:=h2 cur (by simp); omega)
theorem Zkf (s:List (List D) × Nat) (w:D):(stp s w).1.length ≤ s.1.length + 1 ∧ (stp s w).1 ≠ []:=by
 unfold stp
 by_cases h:s.2 = 0
 ·simp [h]
 ·simp [h]
theorem Zoy (s:List (List D) × Nat) (w:D) (k:Nat) (h:∀ c ∈ s.1,c.length ≤ k):∀ c ∈ (stp s w).1,c.length ≤ k + 1:=by
 have key:∀ x:List (List D),(∀ c ∈ x,c.length ≤ k) → ∀ c ∈ x.dropLast ++ [x.getLastD [] ++ [w]],c.length ≤ k + 1:=by
  intro x hx c hc
  rcases List.mem_append.mp hc with hc | hc
  ·exact Nat.le_succ_of_le (hx c (List.dropLast_subset _ hc))
  ·rw [List.mem_singleton.mp hc,List.length_append,List.length_singleton]
   refine Nat.succ_le_succ ?_
   cases x with
   | nil=>exact Nat.zero_le _
   | cons a x=>exact hx _ (by rw [List.getLastD_cons]; exact (show (x.getLastD a) ∈ a :: x by rw [List.getLastD_eq_getLast?]; cases hx':x.getLast? with | none=>simp | some y=>exact List.mem_cons_of_mem _ (List.mem_of_getLast? hx')))
 unfold stp
 by_cases hs:s.2 = 0
 ·simp only [hs,if_true]
  exact key _ fun c hc=>by
   rcases List.mem_append.mp hc with hc | hc
   ·exact h c hc
   ·rw [List.mem_singleton.mp hc]; exact Nat.zero_le _
 ·simp only [hs,if_false]
  exact key _ h
theorem Zlf (M:Store) (W:D) (ws:List D) (hw:∀ w ∈ ws,IsW w) (hl:ws.length ≤ 500) (x0:Option D) (it:It3) (hi:it.lock = none):
  ∃ x,ZbS it (Zbj 3) Zpw ws [some W,some (.ref M.length),some (.int 0),x0] (SSt M []) = .nx [some W,some (.ref M.length),some (.int ((ws.foldl stp ([],0)).2:Nat)),x] (SSt M (ws.foldl stp ([],0)).1):=by
 have main:∀ (ws:List D) (done:List (List D)) (l k:Nat) (x0:Option D),(∀ w ∈ ws,IsW w) → k + ws.length ≤ 500 → done.length ≤ k → (∀ c ∈ done,c.length ≤ k) → (l ≠ 0 → done ≠ []) →
   ∃ x,ZbS it (Zbj 3) Zpw ws [some W,some (.ref M.length),some (.int (l:Int)),x0] (SSt M done) = .nx [some W,some (.ref M.length),some (.int ((ws.foldl stp (done,l)).2:Nat)),x] (SSt M (ws.foldl stp (done,l)).1):=by
  intro ws
  induction ws with
  | nil=>intro done l k x0 _ _ _ _ _; exact ⟨x0,by rw [ZdN,if_pos (by unfold locked; rw [hi])]; rfl⟩
  | cons w ws ih=>
   intro done l k x0 hw hk h1 h2 hn
   rw [List.length_cons] at hk
   obtain ⟨x,hx⟩:=ih (stp (done,l) w).1 (stp (done,l) w).2 (k + 1) (some w) (fun y hy=>hw y (List.mem_cons_of_mem _ hy)) (by omega) (by have:=(Zkf (done,l) w).1; simp only at this; omega) (Zoy (done,l) w k h2) (fun _=>(Zkf (done,l) w).2)
   refine ⟨x,?_⟩
   rw [ZbW,if_pos (by unfold locked; rw [hi])]
   have:=Zk5 M done l w W (hw w List.mem_cons_self) (by omega) (fun c hc=>by have:=h2 c hc; omega) hn
   simp only [Zbj,List.set_cons_succ,List.set_cons_zero,this]
   exact hx
 exact main ws [] 0 0 x0 hw (by omega) (Nat.zero_le _) (fun c hc=>by cases hc) (fun h=>absurd rfl h)
theorem Zju (M:Store) (ts:List Sm) (hg:∀ t ∈ ts,t.good) (hl:(ts.map Sm.flat).flatten.length ≤ 500):∃ G k,ZdR [.tup (ts.map Sm.flat).flatten] M = .ok (.ref (M.length + k)) (M ++ G) ∧ G[k]? = some (.lst (ts.map fun t=>.tup t.flat)):=by
 have hws:∀ w ∈ (ts.map Sm.flat).flatten,IsW w:=fun w hw=>by
  obtain ⟨l,h1,h2⟩:=List.mem_flatten.mp hw
  obtain ⟨t,_,rfl⟩:=List.mem_map.mp h1
  exact ZhQ t w h2
 obtain ⟨x,hx⟩:=Zlf M (.tup (ts.map Sm.flat).flatten) _ hws hl none ⟨(ts.map Sm.flat).flatten,none⟩ rfl
 rw [Zj5 ts hg] at hx
 simp only [List.nil_append] at hx
 have hn:(ts.map Sm.flat).length ≤ 100000:=by
  have:∀ l:List Sm,(l.map Sm.flat).length ≤ (l.map Sm.flat).flatten.length:=by
   intro l
   induction l with
   | nil=>exact Nat.le_refl _
   | cons t l ih=>
    rw [List.map_cons,List.flatten_cons,List.length_append,List.length_cons]
    obtain ⟨w,r,e⟩:=Zez t
    rw [e,List.length_cons]; omega
  have:=this ts
  omega
 let S:=SSt M (ts.map Sm.flat)
 have lc:eLC (Zft (Za 1)) 1 (Zbj 4) [] (ZaD Zcm (Zb (Za 4) (Zi))) [some (.tup (ts.map Sm.flat).flatten),some (.ref M.length),some (.int ((0:Nat):Int)),x] S = .ok (.ref S.length) (S ++ [.lst ((List.range (ts.map Sm.flat).length).map fun k=>D.tup ((ts.map Sm.flat).getD k []))]):=by
  refine ZjV (enc:=fun k=>D.ref (M.length + 1 + k)) (h:=fun k=>D.tup ((ts.map Sm.flat).getD k [])) (as:=List.range (ts.map Sm.flat).length) (M1:=S) (lock:=some M.length) (fun e=>∃ a b c d y,e = [a,b,c,d,y]) ?_ ?_ ⟨_,_,_,_,_,rfl⟩ ?_ (by rw [List.length_range]; exact hn)
  ·show (R3.ok (D.ref M.length) S).bind _ = _
   simp only [R3.bind]
   rw [show S[M.length]? = _ from Zgm M _]
   rfl
  ·intro n hn'; cases hn'; exact Zgm M _
  ·intro k hk env ⟨a,b,c,d,y,e⟩
   subst e
   have hk:=List.mem_range.mp hk
   refine ⟨_,rfl,⟨_,_,_,_,_,rfl⟩,fun z=>?_⟩
   refine ZcM rfl ?_
   refine (Zjg (x:=(ts.map Sm.flat).getD k []) (ZaH ?_ _))
   rw [Zmr,List.getElem?_eq_getElem hk,List.getD_eq_getElem?_getD,List.getElem?_eq_getElem hk]; rfl
 have hlist:((List.range (ts.map Sm.flat).length).map fun k=>D.tup ((ts.map Sm.flat).getD k [])) = ts.map fun t=>D.tup t.flat:=by
  apply List.ext_getElem?
  intro j
  rw [List.getElem?_map,List.getElem?_map]
  by_cases hj:j < ts.length
  ·rw [List.getElem?_range (by simpa using hj),List.getElem?_eq_getElem hj]
   simp [List.getD_eq_getElem?_getD,List.getElem?_map,List.getElem?_eq_getElem hj]
  ·rw [List.getElem?_eq_none (by simpa using hj),List.getElem?_eq_none (by simpa using hj)]; rfl
 rw [hlist] at lc
 have hS:S = M ++ (.lst (ZcE M.length (ts.map Sm.flat).length) :: (ts.map Sm.flat).map MO.lst):=rfl
 refine ⟨(.lst (ZcE M.length (ts.map Sm.flat).length) :: (ts.map Sm.flat).map MO.lst) ++ [.lst (ts.map fun t=>.tup t.flat)],1 + (ts.map Sm.flat).length,?_,?_⟩
 ·have hlen:S.length = M.length + (1 + (ts.map Sm.flat).length):=by rw [Zkq,Nat.add_assoc]
  refine (Zb7 (M':=S ++ [.lst (ts.map fun t=>.tup t.flat)]) (d:=.ref S.length) (env:=[some (.tup (ts.map Sm.flat).flatten),none,none,none]) ?_).trans ?_
  ·unfold Ze8
   rw [Zk (Zah (d:=.ref M.length) (M':=SSt M []) (Zb5 rfl rfl)),Zk (Zah (d:=.int 0) rfl),Zk ((Zfy (it:=⟨(ts.map Sm.flat).flatten,none⟩) rfl).trans hx)]
   exact Za0 ((ZoU (Ze rfl rfl (Zk8 rfl))).trans lc)
  ·have hb:below M.length (.ref S.length) = false:=by show decide (S.length < M.length) = false; rw [hlen]; exact decide_eq_false (by omega)
   rw [tidy,hb,hlen,hS,List.append_assoc]; rfl
 ·simp [Nat.add_comm 1]
theorem ZmV (M:Store) (t:Sm) (hg:t.good) (hl:t.flat.length ≤ 500):∃ G k,Zb3 [.tup t.flat] M = .ok (.ref (M.length + k)) (M ++ G) ∧ G[k]? = some (.lst (t.parts.map fun t=>.tup t.flat)):=by
 have hgp:∀ s ∈ t.parts,s.good:=by
  cases t with
  | num _=>intro s h; cases h
  | nam _=>intro s h; cases h
  | cel a=>intro s h; rw [List.mem_singleton.mp h]; exact hg
  | two o a b=>
   intro s h
   rcases List.mem_cons.mp h with h | h
   ·rw [h]; exact hg.1
   ·rw [List.mem_singleton.mp h]; exact hg.2
 have e:=t.flat_eq
 have hl':(t.parts.map Sm.flat).flatten.length ≤ 500:=by rw [e,List.length_cons] at hl; omega
 obtain ⟨G,k,h1,h2⟩:=Zju M t.parts hgp hl'
 refine ⟨G,k,?_,h2⟩
 refine (Zb7 (M':=M ++ G) (d:=.ref (M.length + k)) (env:=[some (.tup t.flat)]) ?_).trans ?_
 ·unfold Zeh
  refine Za0 (Zhj (M1:=M) (a:=.tup (t.parts.map Sm.flat).flatten) ?_ h1)
  show R3.ok (D.tup (cutD t.flat (some ((1:Nat):Int)) none)) M = _
  rw [ZmZ,e]; rfl
 ·have hb:below M.length (.ref (M.length + k)) = false:=decide_eq_false (by omega)
  rw [tidy,hb]; rfl
noncomputable abbrev Zm8:S3:=Zu (Zat 6 (Zap Zy (Zb (Za 0) (Zb (e2 Zag (Za 1) (ZaD Zbe (Zb (Za 4) (Zi)))) (Zi))))) (Zu (Zat 5 (e2 ZbN (Za 5) (eC (.int 1)))) (sIf (eOr (e2 ZmD (e2 Zag (ZaD Zbe (Zb (Za 4) (Zi))) (Za 5)) (Za 3)) (e2 ZmO (e2 Zaq (Za 6) (eC (.int 5))) (eC (.int 2)))) (sIf (e2 ZbJ (e2 Zaq (e2 ZaE (Za 6) (eC (.int 5))) (eC (.int 3))) (eC (.int 0))) (Zaa (Zaw tyL Zae (Za 4) (Zb (Zap Zau (Zb (e2 ZaE (Za 6) (eC (.int 15))) (Zi))) (Zi)))) (Zaa (Zaw tyL Zae (Za 4) (Zb (e2 Zr (Za 2) (e2 Zaq (e2 ZaE (Za 6) (eC (.int 15))) (ZaD Zbe (Zb (Za 2) (Zi))))) (Zi))))) (sIf (e2 ZbJ (e2 Zaq (Za 6) (eC (.int 5))) (eC (.int 2))) (Zu (Zaa (Zaw tyL Zae (Za 4) (Zb (eC (.str [99,101,108,108])) (Zi)))) (Zat 5 (e2 Zag (Za 5) (eC (.int 1))))) (Zu (Zaa (Zaw tyL Zae (Za 4) (Zb (e2 Zr (Zcv (Zb (eC (.str [97,100,100])) (Zb (eC (.str [115,117,98])) (Zb (eC (.str [109,111,114,101])) (Zi))))) (e2 Zaq (e2 ZaE (Za 6) (eC (.int 5))) (eC (.int 3)))) (Zi)))) (Zat 5 (e2 Zag (Za 5) (eC (.int 2))))))))
inductive Zg2 (lim n d:Nat):D → Nat → Prop
 | num (i:Int):Zg2 lim n d (.int i) d
 | nam (x:List Nat) (h:Zfs x = false):Zg2 lim n d (.str x) d
 | cel (h:n + d < lim):Zg2 lim n d (.str CEL) (d + 1)
 | two (o:Nat) (h:n + d < lim):Zg2 lim n d (.str (opW o)) (d + 2)
def Due (words:List D) (due:Nat):Prop:=∀ ts:List Sm,ts.length = due → (∀ t ∈ ts,t.good) → ∃ t:Sm,t.good ∧ t.flat = words ++ (ts.map Sm.flat).flatten
theorem Zt4:Due [] 1:=fun ts h hg=>by
 match ts,h with
 | [t],_=>exact ⟨t,hg t (by simp),by simp⟩
theorem ZeM {words:List D} {d:Nat} {t:Sm} {ts:List Sm} (h:Due words (d + 1)) (hl:ts.length = d) (ht:t.good) (hg:∀ t ∈ ts,t.good):∃ s:Sm,s.good ∧ s.flat = words ++ (t.flat ++ (ts.map Sm.flat).flatten):=by
 obtain ⟨s,h1,h2⟩:=h (t :: ts) (by rw [List.length_cons,hl]) (fun x hx=>by
  rcases List.mem_cons.mp hx with e | e
  ·rw [e]; exact ht
  ·exact hg x e)
 exact ⟨s,h1,h2⟩
theorem Zm6 {lim n d due':Nat} {words:List D} {w:D} (h:Due words (d + 1)) (t:Zg2 lim n d w due'):Due (words ++ [w]) due':=by
 cases t with
 | num i=>exact fun ts hl hg=>by simpa [Sm.flat] using ZeM h hl (t:=.num i) trivial hg
 | nam x hx=>exact fun ts hl hg=>by simpa [Sm.flat] using ZeM h hl (t:=.nam x) hx hg
 | cel hh=>
  intro ts hl hg
  cases ts with
  | nil=>cases hl
  | cons a ts=>simpa [Sm.flat] using ZeM h (Nat.succ.inj hl) (t:=.cel a) (hg a (by simp)) fun t ht=>hg t (List.mem_cons_of_mem _ ht)
 | two o hh=>
  intro ts hl hg
  cases ts with
  | nil=>cases hl
  | cons a ts=>cases ts with
   | nil=>simp at hl
   | cons b ts=>simpa [Sm.flat] using ZeM h (by simp at hl; omega) (t:=.two o a b) ⟨hg a (by simp),hg b (by simp)⟩ fun t ht=>hg t (List.mem_cons_of_mem _ (List.mem_cons_of_mem _ ht))
theorem Zmk {M G:Store} {x y:List D}:(M ++ .lst x :: G).set M.length (.lst y) = M ++ .lst y :: G:=by
 have:=Zfw M (.lst x :: G) 0 (.lst y)
 simpa using this
theorem Zk7 {ns:List Int} (hl:ns.length ≤ 63) {M G:Store} {nr at0 lim d:Nat} {names:List (List Nat)} {words:List D} (hn:M[nr]? = some (.lst (names.map D.str))) (hne:0 < names.length) (hlt:names.length < 1000) (hop:∀ x ∈ names,Zfs x = false) (hw:words.length < 1000) (x:Option D):
  ∃ w due' G' dr',Zg2 lim words.length d w due' ∧ Zm8 [some (SC ns),some (.int (at0:Int)),some (.ref nr),some (.int (lim:Int)),some (.ref M.length),some (.int ((d + 1:Nat):Int)),x] (M ++ .lst words :: G) =
   .nx [some (SC ns),some (.int (at0:Int)),some (.ref nr),some (.int (lim:Int)),some (.ref M.length),some (.int (due':Nat)),dr'] (M ++ .lst (words ++ [w]) :: G'):=by
 have h4:(M ++ .lst words :: G)[M.length]? = some (.lst words):=Zar _ _ _
 have hlen:∀ {env:Zv},Za 4 env (M ++ .lst words :: G) = .ok (.ref M.length) (M ++ .lst words :: G) → ZaD Zbe (Zb (Za 4) (Zi)) env (M ++ .lst words :: G) = .ok (.int (words.length:Int)) (M ++ .lst words :: G):=fun h=>ZcM h (ZdS h4)
 have hwz:words.length < SZ:=Nat.lt_trans hw (by decide)
 let D0:=dr ns (at0 + words.length)
 have hD:0 ≤ D0:=ZoN _ _
 have s1:Zat 6 (Zap Zy (Zb (Za 0) (Zb (e2 Zag (Za 1) (ZaD Zbe (Zb (Za 4) (Zi)))) (Zi)))) [some (SC ns),some (.int (at0:Int)),some (.ref nr),some (.int (lim:Int)),some (.ref M.length),some (.int ((d + 1:Nat):Int)),x] (M ++ .lst words :: G) = .nx [some (SC ns),some (.int (at0:Int)),some (.ref nr),some (.int (lim:Int)),some (.ref M.length),some (.int ((d + 1:Nat):Int)),some (.int D0)] (M ++ .lst words :: G):=
  Zah (Zdi hl (k:=at0 + words.length) rfl (Ze rfl (hlen rfl) rfl))
 have s2:Zat 5 (e2 ZbN (Za 5) (eC (.int 1))) [some (SC ns),some (.int (at0:Int)),some (.ref nr),some (.int (lim:Int)),some (.ref M.length),some (.int ((d + 1:Nat):Int)),some (.int D0)] (M ++ .lst words :: G) = .nx [some (SC ns),some (.int (at0:Int)),some (.ref nr),some (.int (lim:Int)),some (.ref M.length),some (.int (d:Int)),some (.int D0)] (M ++ .lst words :: G):=
  Zah (d:=.int (d:Int)) (Ze rfl rfl (by rw [ZfT]; congr 2; omega))
 have c1:∀ b:Bool,(b = true ↔ (lim:Int) ≤ (words.length:Int) + (d:Int) ∨ D0 % 5 < 2) → eOr (e2 ZmD (e2 Zag (ZaD Zbe (Zb (Za 4) (Zi))) (Za 5)) (Za 3)) (e2 ZmO (e2 Zaq (Za 6) (eC (.int 5))) (eC (.int 2))) [some (SC ns),some (.int (at0:Int)),some (.ref nr),some (.int (lim:Int)),some (.ref M.length),some (.int (d:Int)),some (.int D0)] (M ++ .lst words :: G) = .ok (.bl b) (M ++ .lst words :: G):=fun b hb=>by
  by_cases hq:(lim:Int) ≤ (words.length:Int) + (d:Int)
  ·have:b = true:=hb.mpr (.inl hq)
   subst this
   exact ZrI (Ze (Ze (hlen rfl) rfl rfl) rfl (by rw [Zj0,decide_eq_true hq]))
  ·rw [ZiF (Ze (Ze (hlen rfl) rfl rfl) rfl (by rw [Zj0,decide_eq_false hq]))]
   refine Ze (Ze rfl rfl (ZaA (by decide))) rfl ?_
   rw [Zoc]
   congr 2
   cases hb2:b with
   | true=>exact decide_eq_true ((hb.mp hb2).resolve_left hq)
   | false=>exact decide_eq_false fun z=>by have:=hb.mpr (.inr z); rw [hb2] at this; cases this
 show ∃ w due' G' dr',_ ∧ Zu _ _ _ _ = _
 rw [Zk s1,Zk s2]
 by_cases hleaf:(lim:Int) ≤ (words.length:Int) + (d:Int) ∨ D0 % 5 < 2
 ·rw [Zcp (c1 true ⟨fun _=>hleaf,fun _=>rfl⟩)]
  by_cases h3:D0 / 5 % 3 = 0
  ·obtain ⟨z,hz⟩:=Zfa (d:=D0 / 15) (by omega)
   refine ⟨.int z,d,G,some (.int D0),.num z,?_⟩
   rw [Zcp (Ze (Ze (Ze rfl rfl (Zbi (by decide))) rfl (ZaA (by decide))) rfl (Zk8 h3)),ZcH rfl h4 (Zhj (Ze rfl rfl (Zbi (by decide))) (hz _)) h4 hwz,Zmk]
  ·obtain ⟨a,ea,ha⟩:=Zcc (D0 / 15) names.length hne
   have hga:names[a]? = some (names[a]'ha):=List.getElem?_eq_getElem ha
   refine ⟨.str (names[a]'ha),d,G,some (.int D0),.nam _ (hop _ (List.getElem_mem ha)),?_⟩
   have hnr:(M ++ .lst words :: G)[nr]? = some (.lst (names.map D.str)):=ZaH hn _
   rw [Zcq (Ze (Ze (Ze rfl rfl (Zbi (by decide))) rfl (ZaA (by decide))) rfl (ZiG h3)),ZcH rfl h4 (Ze rfl (Ze (Ze rfl rfl (Zbi (by decide))) (ZcM rfl (ZdS hnr)) (ZaA (by rw [List.length_map]; omega))) (Zbh hnr (by rw [List.length_map,ea,ZbB,List.getElem?_map,hga]; rfl))) h4 hwz,Zmk]
 ·have hlt2:words.length + d < lim:=by omega
  rw [Zcq (c1 false ⟨fun z=>ft z,fun z=>absurd z hleaf⟩)]
  by_cases h2:D0 % 5 = 2
  ·refine ⟨.str CEL,d + 1,G,some (.int D0),.cel hlt2,?_⟩
   rw [Zcp (Ze (Ze rfl rfl (ZaA (by decide))) rfl (Zk8 h2)),Zk (ZcH rfl h4 rfl h4 hwz),Zmk]
   exact Zah (Ze rfl rfl rfl)
  ·obtain ⟨o,eo,ho⟩:=Zcc (D0 / 5) 3 (by decide)
   have eo:D0 / 5 % 3 = (o:Int):=eo
   refine ⟨.str (opW o),d + 2,G ++ [.lst [.str [97,100,100],.str [115,117,98],.str [109,111,114,101]]],some (.int D0),.two o hlt2,?_⟩
   have hM2:M ++ .lst words :: G ++ [.lst [.str [97,100,100],.str [115,117,98],.str [109,111,114,101]]] = M ++ .lst words :: (G ++ [.lst [.str [97,100,100],.str [115,117,98],.str [109,111,114,101]]]):=by simp
   have hi:[D.str [97,100,100],.str [115,117,98],.str [109,111,114,101]][o]? = some (.str (opW o)):=by
    match o,ho with
    | 0,_=>rfl
    | 1,_=>rfl
    | 2,_=>rfl
   rw [Zcq (Ze (Ze rfl rfl (ZaA (by decide))) rfl (ZiG h2)),Zk (ZcH (M':=M ++ .lst words :: (G ++ [.lst [.str [97,100,100],.str [115,117,98],.str [109,111,114,101]]])) rfl h4 (Ze (Zb5 (ds:=[.str [97,100,100],.str [115,117,98],.str [109,111,114,101]]) rfl rfl) (Ze (Ze rfl rfl (Zbi (by decide))) rfl (ZaA (by decide))) (by rw [← hM2]; exact Zbh (Zar _ _ []) (by rw [eo,ZbB]; exact hi))) (Zar _ _ _) hwz),Zmk]
   exact Zah (Ze rfl rfl rfl)
theorem Zjt {ns:List Int} (hl:ns.length ≤ 63) {M:Store} {nr at0 lim:Nat} {names:List (List Nat)} (hn:M[nr]? = some (.lst (names.map D.str))) (hne:0 < names.length) (hlt:names.length < 1000) (hop:∀ x ∈ names,Zfs x = false) (hlim:lim ≤ 900):
  ∀ (m fuel d:Nat) (words:List D) (G:Store) (x:Option D),words.length + m = lim + 2 → m < fuel → words.length + d ≤ lim + 2 → Due words d → (∀ w ∈ words,IsW w) →
  ∃ t:Sm,t.good ∧ t.flat.length ≤ lim + 2 ∧ (∀ w ∈ t.flat,IsW w) ∧ ∃ G' x',Zdg (e2 Zem (Za 5) (eC (.int 0))) Zm8 fuel [some (SC ns),some (.int (at0:Int)),some (.ref nr),some (.int (lim:Int)),some (.ref M.length),some (.int (d:Int)),x] (M ++ .lst words :: G) =
   .nx [some (SC ns),some (.int (at0:Int)),some (.ref nr),some (.int (lim:Int)),some (.ref M.length),some (.int 0),x'] (M ++ .lst t.flat :: G'):=by
 intro m
 induction m with
 | zero=>
  intro fuel d words G x hm hf hd hdue hw
  have:d = 0:=by omega
  subst this
  obtain ⟨t,h1,h2⟩:=hdue [] rfl (fun t ht=>by cases ht)
  have h2:t.flat = words:=by simpa using h2
  refine ⟨t,h1,by rw [h2]; omega,by rw [h2]; exact hw,G,x,?_⟩
  obtain ⟨f,rfl⟩:∃ f,fuel = f + 1:=⟨fuel - 1,by omega⟩
  rw [Zey,h2]
  rfl
 | succ m ih=>
  intro fuel d words G x hm hf hd hdue hw
  obtain ⟨f,rfl⟩:∃ f,fuel = f + 1:=⟨fuel - 1,by omega⟩
  cases d with
  | zero=>
   obtain ⟨t,h1,h2⟩:=hdue [] rfl (fun t ht=>by cases ht)
   have h2:t.flat = words:=by simpa using h2
   refine ⟨t,h1,by rw [h2]; omega,by rw [h2]; exact hw,G,x,?_⟩
   rw [Zey,h2]
   rfl
  | succ d=>
   obtain ⟨w,due',G',dr',ht,hb⟩:=Zk7 (at0:=at0) (lim:=lim) (d:=d) (G:=G) hl hn hne hlt hop (words:=words) (by omega) x
   have hlen:(words ++ [w]).length = words.length + 1:=by simp
   have hdue':=Zm6 hdue ht
   have hiw:IsW w:=by cases ht <;> first | exact .int _ | exact .str _
   obtain ⟨t,g1,g2,g3,G2,x2,g4⟩:=ih f due' (words ++ [w]) G' dr' (by omega) (by omega) (by rw [hlen]; cases ht <;> omega) hdue' (fun y hy=>by
    rcases List.mem_append.mp hy with hy | hy
    ·exact hw y hy
    ·rw [List.mem_singleton.mp hy]; exact hiw)
   refine ⟨t,g1,g2,g3,G2,x2,?_⟩
   rw [Zey]
   have hc:e2 Zem (Za 5) (eC (.int 0)) [some (SC ns),some (.int (at0:Int)),some (.ref nr),some (.int (lim:Int)),some (.ref M.length),some (.int ((d + 1:Nat):Int)),x] (M ++ .lst words :: G) = .ok (.bl true) (M ++ .lst words :: G):=Ze rfl rfl (by rw [ZdT,decide_eq_true (by omega)])
   rw [hc]
   show (match Zm8 _ _ with | .nx e M'=>_ | .ct e M'=>_ | .bk e M'=>_ | o=>o) = _
   rw [hb]
   exact g4
theorem Zh0 {n:Nat}:∀ {l:List D},(∀ w ∈ l,IsW w) → belowL n l = true
 | [],_=>rfl
 | w :: l,h=>by
  have h1:below n w = true:=by cases h w List.mem_cons_self <;> rfl
  show (below n w && belowL n l) = true
  rw [h1,Zh0 fun x hx=>h x (List.mem_cons_of_mem _ hx)]; rfl
theorem ZnQ {ns:List Int} (hl:ns.length ≤ 63) {M:Store} {nr at0 lim:Nat} {names:List (List Nat)} (hn:M[nr]? = some (.lst (names.map D.str))) (hne:0 < names.length) (hlt:names.length < 1000) (hop:∀ x ∈ names,Zfs x = false) (hlim:lim ≤ 900):
  ∃ t:Sm,t.good ∧ t.flat.length ≤ lim + 2 ∧ Zdc [SC ns,.int (at0:Int),.ref nr,.int (lim:Int)] M = .ok (.tup t.flat) M:=by
 obtain ⟨t,h1,h2,h3,G,x,h4⟩:=Zjt (at0:=at0) hl hn hne hlt hop hlim (lim + 2) 1000000 1 [] [] none (by simp) (by omega) (by simp) Zt4 (fun w hw=>by cases hw)
 refine ⟨t,h1,h2,?_⟩
 refine (Zb7 (M':=M ++ .lst t.flat :: G) (d:=.tup t.flat) (env:=[some (SC ns),some (.int (at0:Int)),some (.ref nr),some (.int (lim:Int)),none,none,none]) ?_).trans (Zet (by show belowL _ _ = true; exact Zh0 h3))
 unfold Zei
 rw [Zk (Zah (d:=.ref M.length) (M':=M ++ [.lst []]) (Zb5 rfl rfl)),Zk (Zah (d:=.int 1) rfl)]
 refine (Zk h4).trans ?_
 exact Za0 (ZcM rfl (ZfB (Zar _ _ _)))
noncomputable abbrev WLK:List Nat:=[87,97,108,107]
noncomputable abbrev NMD:List Nat:=[110,97,109,101,100]
noncomputable abbrev CLS:List Nat:=[99,101,108,108,115]
noncomputable abbrev NBS:List Nat:=[110,117,109,98,101,114,115]
noncomputable abbrev STP:List Nat:=[115,116,101,112,115]
noncomputable abbrev MST:List Nat:=[109,111,115,116]
noncomputable abbrev VOF:List Nat:=[118,97,108,117,101,95,111,102]
noncomputable abbrev SPD:List Nat:=[115,112,101,110,100]
noncomputable abbrev ZaS (a c b:Nat) (s m:Int):MO:=.ins WLK [(NMD,.ref a),(CLS,.ref c),(NBS,.ref b),(STP,.int s),(MST,.int m)]
theorem ZbI {c m:List Nat} {F:F3} {o:E3} {g:EL3} {env:Zv} {M M1 M2 M3:Store} {a d:D} {ds:List D} (h1:o env M = .ok a M1) (hi:ZiT c m a M1 = true) (h2:g env M1 = .ok ds M2) (h3:F (a :: ds) M2 = .ok d M3):Zab c m F o g env M = .ok d M3:=by
 simp only [Zab,h1,R3.bind,hi,if_true,h2,h3]
theorem Zeu {ty:D → Store → Bool} {me:D → List D → Store → R3 D} {o:E3} {g:EL3} {env:Zv} {M M1 M2 M3:Store} {a d:D} {ds:List D} (h1:o env M = .ok a M1) (hi:ty a M1 = true) (h2:g env M1 = .ok ds M2) (h3:me a ds M2 = .ok d M3):Zaw ty me o g env M = .ok d M3:=by
 simp only [Zaw,h1,R3.bind,hi,if_true,h2,h3]
section
variable {a c b w:Nat} {s m:Int} {M:Store}
theorem Zru (h:M[w]? = some (ZaS a c b s m)):Zce WLK NMD (.ref w) M = .ok (.ref a) M:=by rw [Zc9,h]; rfl
theorem ZoX (h:M[w]? = some (ZaS a c b s m)):Zce WLK CLS (.ref w) M = .ok (.ref c) M:=by rw [Zc9,h]; rfl
theorem Zo2 (h:M[w]? = some (ZaS a c b s m)):Zce WLK NBS (.ref w) M = .ok (.ref b) M:=by rw [Zc9,h]; rfl
theorem ZlB (h:M[w]? = some (ZaS a c b s m)):Zce WLK STP (.ref w) M = .ok (.int s) M:=by rw [Zc9,h]; rfl
theorem ZrL (h:M[w]? = some (ZaS a c b s m)):Zce WLK MST (.ref w) M = .ok (.int m) M:=by rw [Zc9,h]; rfl
theorem Zf2 (h:M[w]? = some (ZaS a c b s m)) {x:List Nat} (hx:([NMD,CLS,NBS,STP,MST].contains x) = false):ZiT WLK x (.ref w) M = true:=by
 rw [ZiK,h]
 have:(List.lookup x [(NMD,D.ref a),(CLS,.ref c),(NBS,.ref b),(STP,.int s),(MST,.int m)]) = none:=by
  simp only [List.contains_cons,List.contains_nil,Bool.or_eq_false_iff] at hx
  simp only [List.lookup,hx.1,hx.2.1,hx.2.2.1,hx.2.2.2.1,hx.2.2.2.2.1]
 show (decide (WLK = WLK) && (List.lookup x [(NMD,D.ref a),(CLS,.ref c),(NBS,.ref b),(STP,.int s),(MST,.int m)]).isNone) = true
 rw [this]; rfl
theorem Zrr (h:M[w]? = some (ZaS a c b s m)) (v:Int):ZhY WLK STP (.int v) (.ref w) M = .ok .non (M.set w (ZaS a c b v m)):=by rw [Ze0,h]; rfl
theorem ZiO (h:M[w]? = some (ZaS a c b s m)) (k:Int) (hk:s + k ≤ m):Zw [.ref w,.int k] M = .ok .non (M.set w (ZaS a c b (s + k) m)):=by
 have hw:w < M.length:=(List.getElem?_eq_some_iff.mp h).1
 have h2:(M.set w (ZaS a c b (s + k) m))[w]? = some (ZaS a c b (s + k) m):=List.getElem?_set_self hw
 refine (Zhv (M':=M.set w (ZaS a c b (s + k) m)) (env:=[some (.ref w),some (.int k)]) (env':=[some (.ref w),some (.int k)]) ?_).trans (ZiS (List.length_set ..))
 unfold Zdl
 refine (Zk (ZaG (Ze (Ze (ZbD rfl (ZlB h)) rfl rfl) rfl (Zrr h (s + k))))).trans ?_
 exact ZaF (Ze (ZbD rfl (ZlB h2)) (ZbD rfl (ZrL h2)) (by rw [ZdT,decide_eq_false (by omega)]))
theorem Zc1 {env:Zv} (h:M[w]? = some (ZaS a c b s m)) (k:Int) (hk:s + k ≤ m) (h0:Za 0 env M = .ok (.ref w) M):Zaa (Zab WLK SPD Zw (Za 0) (Zb (eC (.int k)) (Zi))) env M = .nx env (M.set w (ZaS a c b (s + k) m)):=
 ZaG (ZbI h0 (Zf2 h (by decide)) rfl (ZiO h k hk))
end
noncomputable def opV (o:Nat) (x y:Int):Int:=match o with
 | 0=>x + y
 | 1=>x - y
 | _=>if x > y then 1 else 0
theorem Zla (o:Nat) (x y:Int) (M:Store):Zer [.str (opW o),.int x,.int y] M = .ok (.int (opV o x y)) M:=by
 refine (Zb7 (M':=M) (d:=.int (opV o x y)) (env:=[some (.str (opW o)),some (.int x),some (.int y)]) ?_).trans (Ze2 rfl)
 unfold Zgo
 match o with
 | 0=>exact ZdL ((Zcp (Ze rfl rfl (ZiQ rfl))).trans rfl)
 | 1=>exact (Zk (ZaF (Ze rfl rfl (Zdq (by decide))))).trans (ZdL ((Zcp (Ze rfl rfl (ZiQ rfl))).trans rfl))
 | o + 2=>
  refine (Zk (ZaF (Ze rfl rfl (Zdq (by show [109,111,114,101] ≠ _; decide))))).trans ((Zk (ZaF (Ze rfl rfl (Zdq (by show [109,111,114,101] ≠ _; decide))))).trans ?_)
  by_cases h:x > y
  ·exact Za0 ((ZoU (M1:=M) (Ze rfl rfl (by rw [ZdT,decide_eq_true h]))).trans (by show R3.ok (D.int 1) M = R3.ok (D.int (if x > y then 1 else 0)) M; rw [if_pos h]))
  ·exact Za0 ((ZsI (M1:=M) (Ze rfl rfl (by rw [ZdT,decide_eq_false h]))).trans (by show R3.ok (D.int 0) M = R3.ok (D.int (if x > y then 1 else 0)) M; rw [if_neg h]))
noncomputable def Sm.cost:Sm → Nat
 | .num _=>1
 | .nam _=>2
 | .cel a=>a.cost + 2
 | .two _ a b=>a.cost + b.cost + 1
noncomputable def Sm.val (nv:List Nat → Int) (cv:Int → Int):Sm → Int
 | .num i=>i
 | .nam x=>nv x
 | .cel a=>cv (a.val nv cv)
 | .two o a b=>opV o (a.val nv cv) (b.val nv cv)
structure ZbP (w:Nat) (M M':Store):Prop where
 len:M.length ≤ M'.length
 old:∀ i,i < M.length → i ≠ w → M'[i]? = M[i]?
theorem ZbP.rfl {w:Nat} {M:Store}:ZbP w M M:=⟨Nat.le_refl _,fun _ _ _=>Eq.refl _⟩
theorem ZbP.trans {w:Nat} {M M1 M2:Store} (h:ZbP w M M1) (k:ZbP w M1 M2):ZbP w M M2:=⟨Nat.le_trans h.len k.len,fun i hi hw=>(k.old i (Nat.lt_of_lt_of_le hi h.len) hw).trans (h.old i hi hw)⟩
theorem ZbP.at {w i:Nat} {M M':Store} {o:MO} (h:ZbP w M M') (e:M[i]? = some o) (hw:i ≠ w):M'[i]? = some o:=(h.old i (List.getElem?_eq_some_iff.mp e).1 hw).trans e
theorem ZbP.app (w:Nat) (M G:Store):ZbP w M (M ++ G):=⟨by simp,fun i hi _=>List.getElem?_append_left hi⟩
theorem ZbP.set (w:Nat) (M:Store) (o:MO):ZbP w M (M.set w o):=⟨by simp,fun i _ hw=>List.getElem?_set_ne (Ne.symm hw)⟩
theorem ZeZ (M M':Store) (d:D) (hl:M.length ≤ M'.length):∃ M2,tidy M d M' = .ok d M2 ∧ M.length ≤ M2.length ∧ ∀ i,i < M.length → M2[i]? = M'[i]?:=by
 unfold tidy
 split
 ·exact ⟨_,rfl,by rw [List.length_take]; omega,fun i hi=>by rw [List.getElem?_take_of_lt hi]⟩
 ·exact ⟨_,rfl,hl,fun _ _=>rfl⟩
structure WS (w a c b:Nat) (m:Int) (nk ck:List (Zak × D)) (M:Store) (s:Int):Prop where
 ob:M[w]? = some (ZaS a c b s m)
 nm:M[a]? = some (.dct nk)
 cl:M[c]? = some (.dct ck)
 ac:a ≠ c
section
variable {w a c b:Nat} {m:Int} {nk ck:List (Zak × D)} {nv:List Nat → Int} {cv:Int → Int}
theorem WS.aw {M:Store} {s:Int} (h:WS w a c b m nk ck M s):a ≠ w:=fun e=>by have:=h.ob; rw [← e,h.nm] at this; cases this
theorem WS.cw {M:Store} {s:Int} (h:WS w a c b m nk ck M s):c ≠ w:=fun e=>by have:=h.ob; rw [← e,h.cl] at this; cases this
theorem WS.lt {M:Store} {s:Int} (h:WS w a c b m nk ck M s):w < M.length:=(List.getElem?_eq_some_iff.mp h.ob).1
theorem WS.grew {M M':Store} {s s':Int} (h:WS w a c b m nk ck M s) (g:ZbP w M M') (e:M'[w]? = some (ZaS a c b s' m)):WS w a c b m nk ck M' s':=⟨e,g.at h.nm h.aw,g.at h.cl h.cw,h.ac⟩
def Tells (w a c b:Nat) (m:Int) (nk ck:List (Zak × D)) (nv:List Nat → Int) (cv:Int → Int) (F:F3) (t:Sm):Prop:=
 ∀ M s,WS w a c b m nk ck M s → s + (t.cost:Int) ≤ m → ∃ M',F [.ref w,.tup t.flat] M = .ok (.int (t.val nv cv)) M' ∧ ZbP w M M' ∧ M'[w]? = some (ZaS a c b (s + (t.cost:Int)) m)
theorem Zlb {F:F3} {items:List D} {pk n:Nat} (hpn:pk ≠ n):∀ (ts:List Sm),(∀ t ∈ ts,Tells w a c b m nk ck nv cv F t) → ∀ (acc:List D) (M:Store) (s:Int) (T P x:Option D),M[n]? = some (.lst acc) → M[pk]? = some (.lst items) → WS w a c b m nk ck M s → s + ((ts.map Sm.cost).sum:Int) ≤ m → acc.length + ts.length < 1000 →
  ∃ M',Zby ⟨items,some pk⟩ (Zbj 3) [] (Zab WLK VOF F (Za 0) (Zb (Za 3) (Zi))) n (ts.map fun t=>.tup t.flat) [some (.ref w),T,P,x] M = .ok (.ref n) M' ∧ M'[n]? = some (.lst (acc ++ ts.map fun t=>.int (t.val nv cv))) ∧ M.length ≤ M'.length ∧ (∀ i,i < M.length → i ≠ w → i ≠ n → M'[i]? = M[i]?) ∧ M'[w]? = some (ZaS a c b (s + ((ts.map Sm.cost).sum:Int)) m):=by
 intro ts
 induction ts with
 | nil=>
  intro _ acc M s T P x hn hp ws hs hz
  refine ⟨M,?_,by simpa using hn,Nat.le_refl _,fun _ _ _ _=>rfl,by simpa using ws.ob⟩
  rw [List.map_nil,ZhI,if_pos (by show decide _ = true; exact decide_eq_true hp)]
 | cons t ts ih=>
  intro ht acc M s T P x hn hp ws hs hz
  rw [List.map_cons,List.sum_cons] at hs
  obtain ⟨M1,h1,g1,e1⟩:=ht t List.mem_cons_self M s ws (by omega)
  have ws1:=ws.grew g1 e1
  have hnw:n ≠ w:=fun e=>by have:=ws.ob; rw [← e,hn] at this; cases this
  have hpw:pk ≠ w:=fun e=>by have:=ws.ob; rw [← e,hp] at this; cases this
  have hn1:=g1.at hn hnw
  have hln:n < M1.length:=(List.getElem?_eq_some_iff.mp hn1).1
  have hp1:=g1.at hp hpw
  have ws2:WS w a c b m nk ck (M1.set n (.lst (acc ++ [.int (t.val nv cv)]))) (s + (t.cost:Int)):=by
   have na:n ≠ a:=fun e=>by have:=ws1.nm; rw [← e,hn1] at this; cases this
   have nc:n ≠ c:=fun e=>by have:=ws1.cl; rw [← e,hn1] at this; cases this
   exact ⟨by rw [List.getElem?_set_ne hnw]; exact ws1.ob,by rw [List.getElem?_set_ne na]; exact ws1.nm,by rw [List.getElem?_set_ne nc]; exact ws1.cl,ws1.ac⟩
  obtain ⟨M',h2,h3,h4,h5,h6⟩:=ih (fun t' h'=>ht t' (List.mem_cons_of_mem _ h')) (acc ++ [.int (t.val nv cv)]) (M1.set n (.lst (acc ++ [.int (t.val nv cv)]))) (s + (t.cost:Int)) T P (some (.tup t.flat)) (List.getElem?_set_self hln) (by rw [List.getElem?_set_ne (Ne.symm hpn)]; exact hp1) ws2 (by omega) (by simp at hz ⊢; omega)
  refine ⟨M',?_,by simpa using h3,by rw [List.length_set] at h4; exact Nat.le_trans g1.len h4,fun i hi hw hn'=>?_,?_⟩
  ·rw [List.map_cons,ZhS,if_pos (by show decide _ = true; exact decide_eq_true hp)]
   have he:Zab WLK VOF F (Za 0) (Zb (Za 3) (Zi)) [some (.ref w),T,P,some (.tup t.flat)] M = .ok (.int (t.val nv cv)) M1:=ZbI rfl (Zf2 ws.ob (by decide)) rfl h1
   have hlt:acc.length < SZ:=Nat.lt_trans (by omega) (show 1000 < SZ by decide)
   simp only [Zbj,List.set_cons_succ,List.set_cons_zero,Ze5,R3.bind_ok,if_true,he,hn1,if_pos hlt]
   exact h2
  ·rw [h5 i (by rw [List.length_set]; exact Nat.lt_of_lt_of_le hi g1.len) hw hn',List.getElem?_set_ne (Ne.symm hn')]
   exact g1.old i hi hw
  ·rw [h6,List.map_cons,List.sum_cons,Int.natCast_add,Int.add_assoc]
theorem ZiX (t:Sm):Za5 t.flat (0:Int) = some t.head:=by rw [t.flat_eq]; exact ZbB _ 0
theorem Zjf {rec:Nat → F3} {t:Sm} (hg:t.good) (hl:t.flat.length ≤ 500) (hN:∀ x,(ZaY nk (.inr x)).getD (.int 0) = .int (nv x)) (hC:∀ i,(ZaY ck (.inl i)).getD (.int 0) = .int (cv i)) (hr:∀ p ∈ t.parts,Tells w a c b m nk ck nv cv (rec 0) p):
  Tells w a c b m nk ck nv cv (mkF 2 3 (ZaM rec)) t:=by
 intro M s ws hs
 obtain ⟨G,k,hp,hG⟩:=ZmV M t hg hl
 let M1:=M ++ G
 have hpk:M1[M.length + k]? = some (.lst (t.parts.map fun t=>.tup t.flat)):=(ZeC M G k).trans hG
 have hpl:M.length + k < M1.length:=(List.getElem?_eq_some_iff.mp hpk).1
 have g1:ZbP w M M1:=ZbP.app w M G
 have ws1:WS w a c b m nk ck (M1 ++ [.lst []]) s:=ws.grew (g1.trans (ZbP.app w M1 _)) (ZaH (ZaH ws.ob G) _)
 have hn0:(M1 ++ [MO.lst []])[M1.length]? = some (.lst []):=Zar M1 _ []
 have hcs:((t.parts.map Sm.cost).sum:Int) ≤ (t.cost:Int):=by
  cases t with
  | num _=>simp [Sm.parts]
  | nam _=>simp [Sm.parts]
  | cel a=>simp [Sm.parts,Sm.cost]; omega
  | two o a b=>simp [Sm.parts,Sm.cost]; omega
 have hpl2:t.parts.length ≤ 2:=by cases t <;> simp [Sm.parts]
 obtain ⟨M2,h1,h2,h3,h4,h5⟩:=Zlb (nv:=nv) (cv:=cv) (items:=t.parts.map fun t=>.tup t.flat) (pk:=M.length + k) (n:=M1.length) (Nat.ne_of_lt hpl) t.parts hr [] (M1 ++ [.lst []]) s (some (.tup t.flat)) none none hn0 (ZaH hpk _) ws1 (by omega) (by simp; omega)
 rw [List.nil_append] at h2
 have hwM1:w < M1.length:=Nat.lt_of_lt_of_le ws.lt g1.len
 have g2:ZbP w M M2:=⟨Nat.le_trans g1.len (Nat.le_trans (by simp) h3),fun i hi hw=>by
  have hi1:i < M1.length:=Nat.lt_of_lt_of_le hi g1.len
  rw [h4 i (by rw [List.length_append]; omega) hw (Nat.ne_of_lt hi1),List.getElem?_append_left hi1]
  exact g1.old i hi hw⟩
 have ws2:WS w a c b m nk ck M2 (s + ((t.parts.map Sm.cost).sum:Int)):=ws.grew g2 h5
 have s1:Zat 2 (eLC (Zft (Zap Zb3 (Zb (Za 1) (Zi)))) 1 (Zbj 3) [] (Zab WLK VOF (rec 0) (Za 0) (Zb (Za 3) (Zi)))) [some (.ref w),some (.tup t.flat),none] M = .nx [some (.ref w),some (.tup t.flat),some (.ref M1.length)] M2:=by
  refine Zah (d:=.ref M1.length) ?_
  refine (ZjT (M':=M1) (it:=⟨t.parts.map fun t=>.tup t.flat,some (M.length + k)⟩) ?_).trans h1
  show (Zap Zb3 (Zb (Za 1) (Zi)) [some (.ref w),some (.tup t.flat),none] M).bind _ = _
  rw [Zhj rfl hp,R3.bind_ok]
  show (match M1[M.length + k]? with | some (.lst ds)=>R3.ok (⟨ds,some (M.length + k)⟩:It3) M1 | _=>R3.bad) = _
  rw [hpk]
 have hlen:ZaD Zbe (Zb (Za 2) (Zi)) [some (.ref w),some (.tup t.flat),some (.ref M1.length)] M2 = .ok (.int (t.parts.length:Int)) M2:=by
  refine ZcM rfl ?_
  rw [ZdS h2,List.length_map]
 have hnw:M1.length ≠ w:=Nat.ne_of_gt hwM1
 have sp:∀ k:Int,s + ((t.parts.map Sm.cost).sum:Int) + k ≤ m → ZbP w M (M2.set w (ZaS a c b (s + ((t.parts.map Sm.cost).sum:Int) + k) m)) ∧ WS w a c b m nk ck (M2.set w (ZaS a c b (s + ((t.parts.map Sm.cost).sum:Int) + k) m)) (s + ((t.parts.map Sm.cost).sum:Int) + k) ∧ (M2.set w (ZaS a c b (s + ((t.parts.map Sm.cost).sum:Int) + k) m))[M1.length]? = some (.lst (t.parts.map fun t=>.int (t.val nv cv))):=fun k hk=>
  have gs:=ZbP.set w M2 (ZaS a c b (s + ((t.parts.map Sm.cost).sum:Int) + k) m)
  ⟨g2.trans gs,ws2.grew gs (List.getElem?_set_self ws2.lt),gs.at h2 hnw⟩
 have fin:∀ (k:Int),s + ((t.parts.map Sm.cost).sum:Int) + k = s + (t.cost:Int) → ZaM rec [some (.ref w),some (.tup t.flat),none] M = .rt (.int (t.val nv cv)) (M2.set w (ZaS a c b (s + ((t.parts.map Sm.cost).sum:Int) + k) m)) → ∃ M',mkF 2 3 (ZaM rec) [.ref w,.tup t.flat] M = .ok (.int (t.val nv cv)) M' ∧ ZbP w M M' ∧ M'[w]? = some (ZaS a c b (s + (t.cost:Int)) m):=fun k hk hb=>by
  obtain ⟨g3,w3,_⟩:=sp k (by omega)
  obtain ⟨M4,e4,l4,o4⟩:=ZeZ M (M2.set w (ZaS a c b (s + ((t.parts.map Sm.cost).sum:Int) + k) m)) (.int (t.val nv cv)) g3.len
  exact ⟨M4,(Zb7 (env:=[some (.ref w),some (.tup t.flat),none]) hb).trans e4,⟨l4,fun i hi hw=>(o4 i hi).trans (g3.old i hi hw)⟩,by rw [o4 w ws.lt,← hk]; exact w3.ob⟩
 unfold ZaM at fin ⊢
 cases t with
 | two o x y=>
  refine fin 1 (by simp [Sm.parts,Sm.cost]; omega) ?_
  have hm1:s + (((Sm.two o x y).parts.map Sm.cost).sum:Int) + 1 ≤ m:=by simp [Sm.parts,Sm.cost] at hs ⊢; omega
  obtain ⟨g3,w3,n3⟩:=sp 1 hm1
  refine (Zk s1).trans (ZdL ((Zcp (Ze hlen rfl (Zk8 rfl))).trans ((Zk (Zc1 ws2.ob 1 hm1 rfl)).trans (Za0 ?_))))
  exact ZpK (Ze rfl rfl (Zes (ZiX _))) (Ze rfl rfl (Zbh n3 rfl)) (Ze rfl rfl (Zbh n3 rfl)) (Zla o _ _ _)
 | cel x=>
  refine fin 2 (by simp [Sm.parts,Sm.cost]; omega) ?_
  have hm1:s + (((Sm.cel x).parts.map Sm.cost).sum:Int) + 2 ≤ m:=by simp [Sm.parts,Sm.cost] at hs ⊢; omega
  obtain ⟨g3,w3,n3⟩:=sp 2 hm1
  refine (Zk s1).trans ((Zk (ZaF (Ze hlen rfl (ZiG (show ¬ ((1:Nat):Int) = 2 by decide))))).trans (ZdL ((Zcp (Ze hlen rfl (Zk8 rfl))).trans ((Zk (Zc1 ws2.ob 2 hm1 rfl)).trans (Za0 ?_)))))
  have hidx:e2 Zr (Za 2) (eC (.int 0)) [some (.ref w),some (.tup (Sm.cel x).flat),some (.ref M1.length)] (M2.set w (ZaS a c b (s + (((Sm.cel x).parts.map Sm.cost).sum:Int) + 2) m)) = .ok (.int (x.val nv cv)) (M2.set w (ZaS a c b (s + (((Sm.cel x).parts.map Sm.cost).sum:Int) + 2) m)):=Ze rfl rfl (Zbh n3 rfl)
  refine Zeu (a:=.ref c) (ZbD rfl (ZoX w3.ob)) (by rw [ZdM,w3.cl]; rfl) (Zac hidx (Zac rfl rfl)) ?_
  rw [ZeN,w3.cl]
  show R3.ok ((ZaY ck (.inl (x.val nv cv))).getD (.int 0)) _ = _
  rw [hC]; rfl
 | num i=>
  refine fin 1 (by simp [Sm.parts,Sm.cost]) ?_
  have hm1:s + (((Sm.num i).parts.map Sm.cost).sum:Int) + 1 ≤ m:=by simp [Sm.parts,Sm.cost] at hs ⊢; omega
  obtain ⟨g3,w3,n3⟩:=sp 1 hm1
  exact (Zk s1).trans ((Zk (ZaF (Ze hlen rfl (ZiG (show ¬ ((0:Nat):Int) = 2 by decide))))).trans ((Zk (ZaF (Ze hlen rfl (ZiG (show ¬ ((0:Nat):Int) = 1 by decide))))).trans (ZdL ((Zcp (ZbD (Ze rfl rfl (Zes (ZiX _))) (show Za3 .int (.int i) M2 = .ok (.bl true) M2 from rfl))).trans ((Zk (Zc1 ws2.ob 1 hm1 rfl)).trans (Za0 (Ze rfl rfl (Zes (ZiX _)))))))))
 | nam x=>
  refine fin 2 (by simp [Sm.parts,Sm.cost]) ?_
  have hm1:s + (((Sm.nam x).parts.map Sm.cost).sum:Int) + 2 ≤ m:=by simp [Sm.parts,Sm.cost] at hs ⊢; omega
  obtain ⟨g3,w3,n3⟩:=sp 2 hm1
  refine (Zk s1).trans ((Zk (ZaF (Ze hlen rfl (ZiG (show ¬ ((0:Nat):Int) = 2 by decide))))).trans ((Zk (ZaF (Ze hlen rfl (ZiG (show ¬ ((0:Nat):Int) = 1 by decide))))).trans ((Zk (ZaF (ZbD (Ze rfl rfl (Zes (ZiX _))) (show Za3 .int (.str x) M2 = .ok (.bl false) M2 from rfl)))).trans ((Zk (Zc1 ws2.ob 2 hm1 rfl)).trans (Za0 ?_)))))
  refine Zeu (a:=.ref a) (ZbD rfl (Zru w3.ob)) (by rw [ZdM,w3.nm]; rfl) (Zac (Ze rfl rfl (Zes (ZiX _))) (Zac rfl rfl)) ?_
  rw [show (Sm.nam x).head = .str x from rfl,ZeN,w3.nm]
  show R3.ok ((ZaY nk (.inr x)).getD (.int 0)) _ = _
  rw [hN]; rfl
theorem Zoz {t p:Sm} (h:p ∈ t.parts):p.flat.length < t.flat.length:=by
 cases t with
 | num _=>cases h
 | nam _=>cases h
 | cel a=>rw [List.mem_singleton.mp h]; simp [Sm.flat]
 | two o a b=>
  rcases List.mem_cons.mp h with h | h
  ·rw [h]; simp [Sm.flat]; omega
  ·rw [List.mem_singleton.mp h]; simp [Sm.flat]; omega
theorem ZkK {t p:Sm} (hg:t.good) (h:p ∈ t.parts):p.good:=by
 cases t with
 | num _=>cases h
 | nam _=>cases h
 | cel a=>rw [List.mem_singleton.mp h]; exact hg
 | two o a b=>
  rcases List.mem_cons.mp h with h | h
  ·rw [h]; exact hg.1
  ·rw [List.mem_singleton.mp h]; exact hg.2
theorem Zk1 (hN:∀ x,(ZaY nk (.inr x)).getD (.int 0) = .int (nv x)) (hC:∀ i,(ZaY ck (.inl i)).getD (.int 0) = .int (cv i)):∀ (n:Nat) (t:Sm),t.good → t.flat.length ≤ n → n ≤ 500 → Tells w a c b m nk ck nv cv (Zbq n 0) t:=by
 intro n
 induction n with
 | zero=>
  intro t _ h _
  obtain ⟨x,r,e⟩:=Zez t
  rw [e,List.length_cons] at h
  omega
 | succ n ih=>
  intro t hg hl hn
  exact Zjf hg (by omega) hN hC fun p hp=>ih p (ZkK hg hp) (by have:=Zoz hp; omega) (by omega)
theorem value_eq {t:Sm} (hg:t.good) (hl:t.flat.length ≤ 13) (hN:∀ x,(ZaY nk (.inr x)).getD (.int 0) = .int (nv x)) (hC:∀ i,(ZaY ck (.inl i)).getD (.int 0) = .int (cv i)):Tells w a c b m nk ck nv cv Zal t:=Zk1 hN hC 13 t hg hl (by omega)
end
noncomputable abbrev ZtC:List Nat:=[112,117,116]
noncomputable abbrev ZtW:List Nat:=[116,101,108,108]
noncomputable abbrev Zba (p:Int × Int):D:=.tup [.str ZtC,.tup [.int p.1],.tup [.int p.2]]
noncomputable abbrev Zbc (t:Sm):D:=.tup [.str ZtW,.tup t.flat]
def ZcL (kvs:List (Zak × D)):Prop:=∀ k d,ZaY kvs k = some d → ∃ z,d = .int z
noncomputable def intOf (kvs:List (Zak × D)) (k:Zak):Int:=match ZaY kvs k with
 | some (.int z)=>z
 | _=>0
theorem ZcL.get {kvs:List (Zak × D)} (h:ZcL kvs) (k:Zak):(ZaY kvs k).getD (.int 0) = .int (intOf kvs k):=by
 unfold intOf
 cases e:ZaY kvs k with
 | none=>rfl
 | some d=>
  obtain ⟨z,rfl⟩:=h k d e
  rfl
theorem Zgp {kvs:List (Zak × D)} (h:ZcL kvs) (k:Zak) (v:Int):ZcL (putD k (.int v) kvs):=fun j d hd=>by
 rw [Zmm] at hd
 by_cases e:j = k
 ·rw [if_pos e] at hd; exact ⟨v,(Option.some.inj hd).symm⟩
 ·rw [if_neg e] at hd; exact h j d hd
theorem ZfM:ZcL []:=fun _ _ h=>nsm h
theorem Zic (k:Zak) (v:D) (kvs:List (Zak × D)):(putD k v kvs).length ≤ kvs.length + 1:=by
 unfold putD; split <;> simp
structure ZcD (w c b:Nat) (M M':Store):Prop where
 len:M.length ≤ M'.length
 old:∀ i,i < M.length → i ≠ w → i ≠ c → i ≠ b → M'[i]? = M[i]?
theorem ZcD.rfl {w c b:Nat} {M:Store}:ZcD w c b M M:=⟨Nat.le_refl _,fun _ _ _ _ _=>Eq.refl _⟩
theorem ZcD.trans {w c b:Nat} {M M1 M2:Store} (h:ZcD w c b M M1) (k:ZcD w c b M1 M2):ZcD w c b M M2:=⟨Nat.le_trans h.len k.len,fun i hi h1 h2 h3=>(k.old i (Nat.lt_of_lt_of_le hi h.len) h1 h2 h3).trans (h.old i hi h1 h2 h3)⟩
theorem ZbP.to3 {w c b:Nat} {M M':Store} (h:ZbP w M M'):ZcD w c b M M':=⟨h.len,fun i hi h1 _ _=>h.old i hi h1⟩
theorem Zsw (w c b:Nat) (M:Store) (o:MO):ZcD w c b M (M.set c o):=⟨by simp,fun i _ _ h2 _=>List.getElem?_set_ne (Ne.symm h2)⟩
theorem ZrU (w c b:Nat) (M:Store) (o:MO):ZcD w c b M (M.set b o):=⟨by simp,fun i _ _ _ h3=>List.getElem?_set_ne (Ne.symm h3)⟩
section
variable {w a c b:Nat} {m:Int} {nk ck:List (Zak × D)}
structure WN (w a c b:Nat) (m:Int) (nk ck:List (Zak × D)) (nums:List D) (M:Store) (s:Int):Prop where
 ws:WS w a c b m nk ck M s
 nb:M[b]? = some (.lst nums)
theorem WN.bw {nums:List D} {M:Store} {s:Int} (h:WN w a c b m nk ck nums M s):b ≠ w:=fun e=>by have:=h.ws.ob; rw [← e,h.nb] at this; cases this
theorem WN.bc {nums:List D} {M:Store} {s:Int} (h:WN w a c b m nk ck nums M s):b ≠ c:=fun e=>by have:=h.ws.cl; rw [← e,h.nb] at this; cases this
theorem WN.ba {nums:List D} {M:Store} {s:Int} (h:WN w a c b m nk ck nums M s):b ≠ a:=fun e=>by have:=h.ws.nm; rw [← e,h.nb] at this; cases this
theorem WN.grew {nums:List D} {M M':Store} {s s':Int} (h:WN w a c b m nk ck nums M s) (g:ZbP w M M') (e:M'[w]? = some (ZaS a c b s' m)):WN w a c b m nk ck nums M' s':=⟨h.ws.grew g e,g.at h.nb h.bw⟩
theorem WN.tidy {nums:List D} {M M' M2:Store} {s:Int} (h:WN w a c b m nk ck nums M' s) (hw:w < M.length) (ha:a < M.length) (hc:c < M.length) (hb:b < M.length) (o:∀ i,i < M.length → M2[i]? = M'[i]?):WN w a c b m nk ck nums M2 s:=
 ⟨⟨(o w hw).trans h.ws.ob,(o a ha).trans h.ws.nm,(o c hc).trans h.ws.cl,h.ws.ac⟩,(o b hb).trans h.nb⟩
theorem WN.lts {nums:List D} {M:Store} {s:Int} (h:WN w a c b m nk ck nums M s):w < M.length ∧ a < M.length ∧ c < M.length ∧ b < M.length:=⟨(List.getElem?_eq_some_iff.mp h.ws.ob).1,(List.getElem?_eq_some_iff.mp h.ws.nm).1,(List.getElem?_eq_some_iff.mp h.ws.cl).1,(List.getElem?_eq_some_iff.mp h.nb).1⟩
theorem Zhr {body:S3} {ds:List D} {N:Nat} {M M':Store} {env env':Zv} {nums:List D} {s s0:Int} {ck0:List (Zak × D)} {nums0:List D} (h0:WN w a c b m nk ck0 nums0 M s0) (hb:body env M = .nx env' M') (hw:WN w a c b m nk ck nums M' s) (g:ZcD w c b M M') (hl:ds.length = 2) (he:ds.map some ++ List.replicate (N - 2) none = env):
  ∃ M2,mkF 2 N body ds M = .ok .non M2 ∧ WN w a c b m nk ck nums M2 s ∧ ZcD w c b M M2:=by
 obtain ⟨M2,e2,l2,o2⟩:=ZeZ M M' .non g.len
 obtain ⟨q1,q2,q3,q4⟩:=h0.lts
 exact ⟨M2,(Zhv hb hl he).trans e2,hw.tidy q1 q2 q3 q4 o2,l2,fun i hi h1 h2 h3=>(o2 i hi).trans (g.old i hi h1 h2 h3)⟩
theorem Zkx (hn:ZcL nk) (hc:ZcL ck) (i:Int):Tells w a c b m nk ck (fun x=>intOf nk (.inr x)) (fun i=>intOf ck (.inl i)) Zal (.num i):=value_eq trivial (by simp [Sm.flat]) (fun x=>hn.get _) fun i=>hc.get _
theorem Zgb {nv:List Nat → Int} {cv:Int → Int} {t:Sm} {F:F3} (h:Tells w a c b m nk ck nv cv F t) {M:Store} {s:Int} (ws:WS w a c b m nk ck M s) (hs:s + (t.cost:Int) ≤ m) {o g:E3} {env:Zv} (ho:o env M = .ok (.ref w) M) (hg:g env M = .ok (.tup t.flat) M):
  ∃ M',Zab WLK VOF F o (Zb g Zi) env M = .ok (.int (t.val nv cv)) M' ∧ ZbP w M M' ∧ M'[w]? = some (ZaS a c b (s + (t.cost:Int)) m):=by
 obtain ⟨M',h1,h2,h3⟩:=h M s ws hs
 exact ⟨M',ZbI ho (Zf2 ws.ob (by decide)) (Zac hg rfl) h1,h2,h3⟩
theorem ZqG (rec:Nat → F3) (hn:ZcL nk) (hc:ZcL ck) (hcl:ck.length < 1000) (p:Int × Int) {nums:List D} {M:Store} {s:Int} (h:WN w a c b m nk ck nums M s) (hs:s + 4 ≤ m):
  ∃ M',mkF 2 3 (ZaU rec) [.ref w,Zba p] M = .ok .non M' ∧ WN w a c b m nk (putD (.inl p.1) (.int p.2) ck) nums M' (s + 4) ∧ ZcD w c b M M':=by
 obtain ⟨M1,e1,g1,o1⟩:=Zgb (Zkx hn hc p.1) h.ws (by simp [Sm.cost]; omega) (o:=Za 0) (g:=e2 Zr (Za 1) (eC (.int 1))) (env:=[some (.ref w),some (Zba p),none]) rfl rfl
 have h1:=h.grew g1 o1
 obtain ⟨M2,e2',g2,o2⟩:=Zgb (Zkx hn hc p.2) h1.ws (by simp [Sm.cost]; omega) (o:=Za 0) (g:=e2 Zr (Za 1) (eC (.int 2))) (env:=[some (.ref w),some (Zba p),some (.int p.1)]) rfl rfl
 have h2:=h1.grew g2 o2
 have hlc:c < M2.length:=h2.lts.2.2.1
 have cw:=h2.ws.cw
 have h3:WN w a c b m nk (putD (.inl p.1) (.int p.2) ck) nums (M2.set c (.dct (putD (.inl p.1) (.int p.2) ck))) (s + 1 + 1):=
  ⟨⟨by rw [List.getElem?_set_ne cw]; exact h2.ws.ob,by rw [List.getElem?_set_ne (Ne.symm h2.ws.ac)]; exact h2.ws.nm,List.getElem?_set_self hlc,h2.ws.ac⟩,by rw [List.getElem?_set_ne h2.bc.symm]; exact h2.nb⟩
 have hsp:s + 1 + 1 + 2 ≤ m:=by omega
 have h4:=h3.grew (ZbP.set w _ (ZaS a c b (s + 1 + 1 + 2) m)) (List.getElem?_set_self h3.lts.1)
 have es:s + 1 + 1 + 2 = s + 4:=by omega
 rw [es] at h4
 refine Zhr h (env:=[some (.ref w),some (Zba p),none]) (env':=[some (.ref w),some (Zba p),some (.int p.1)]) ?_ h4 ((g1.to3.trans g2.to3).trans ((Zsw w c b M2 _).trans (ZbP.set w _ _).to3)) rfl rfl
 unfold ZaU
 refine (Zcq (Ze (Ze rfl rfl rfl) rfl (Zdq (by decide)))).trans ((Zcq (Ze (Ze rfl rfl rfl) rfl (Zdq (by decide)))).trans ((Zcp (Ze (Ze rfl rfl rfl) rfl (ZiQ rfl))).trans ?_))
 have hput:ZhA (.int p.2) (.ref c) (.int p.1) M2 = .ok .non (M2.set c (.dct (putD (.inl p.1) (.int p.2) ck))):=by
  rw [ZeY,h2.ws.cl]
  exact if_pos (Nat.lt_trans hcl (by decide))
 exact (Zk (Zah e1)).trans ((Zk (show Zaa (e3 ZhA _ _ _) _ _ = _ from ZaG (ZpT e2' (ZbD rfl (ZoX h2.ws.ob)) rfl hput))).trans ((Zc1 h3.ws.ob 2 hsp rfl).trans (by rw [es])))
theorem Zoi (rec:Nat → F3) {nv:List Nat → Int} {cv:Int → Int} {t:Sm} (ht:Tells w a c b m nk ck nv cv Zal t) {nums:List D} {M:Store} {s:Int} (h:WN w a c b m nk ck nums M s) (hs:s + (t.cost:Int) + 1 ≤ m) (hnl:nums.length < 1000):
  ∃ M',mkF 2 3 (ZaU rec) [.ref w,Zbc t] M = .ok .non M' ∧ WN w a c b m nk ck (nums ++ [.int (t.val nv cv)]) M' (s + (t.cost:Int) + 1) ∧ ZcD w c b M M':=by
 obtain ⟨M1,e1,g1,o1⟩:=Zgb ht h.ws (by omega) (o:=Za 0) (g:=e2 Zr (Za 1) (eC (.int 1))) (env:=[some (.ref w),some (Zbc t),none]) rfl rfl
 have h1:=h.grew g1 o1
 have hlb:=h1.lts.2.2.2
 have h3:WN w a c b m nk ck (nums ++ [.int (t.val nv cv)]) (M1.set b (.lst (nums ++ [.int (t.val nv cv)]))) (s + (t.cost:Int)):=
  ⟨⟨by rw [List.getElem?_set_ne h1.bw]; exact h1.ws.ob,by rw [List.getElem?_set_ne h1.ba]; exact h1.ws.nm,by rw [List.getElem?_set_ne h1.bc]; exact h1.ws.cl,h1.ws.ac⟩,List.getElem?_set_self hlb⟩
 have h4:=h3.grew (ZbP.set w _ (ZaS a c b (s + (t.cost:Int) + 1) m)) (List.getElem?_set_self h3.lts.1)
 refine Zhr h (env:=[some (.ref w),some (Zbc t),none]) (env':=[some (.ref w),some (Zbc t),none]) ?_ h4 (g1.to3.trans ((ZrU w c b M1 _).trans (ZbP.set w _ _).to3)) rfl rfl
 unfold ZaU
 refine (Zcq (Ze (Ze rfl rfl rfl) rfl (Zdq (by decide)))).trans ((Zcq (Ze (Ze rfl rfl rfl) rfl (Zdq (by decide)))).trans ((Zcq (Ze (Ze rfl rfl rfl) rfl (Zdq (by decide)))).trans ((Zcq (Ze (Ze rfl rfl rfl) rfl (Zdq (by decide)))).trans ?_)))
 exact (Zk (ZcH (ZbD rfl (Zo2 h.ws.ob)) h.nb e1 h1.nb (Nat.lt_trans hnl (by decide)))).trans (Zc1 h3.ws.ob 1 hs rfl)
theorem Zon (n:Nat) (it:It3) (hi:it.lock = none) {W:Option D} {nv:List Nat → Int} {t:Sm} (hn:ZcL nk) (htl:t.good) (htz:t.flat.length ≤ 13) (hN:∀ x,(ZaY nk (.inr x)).getD (.int 0) = .int (nv x)):∀ (ps:List (Int × Int)) (ck:List (Zak × D)) (M:Store) (s:Int) (x:Option D),ZcL ck → ck.length + ps.length < 900 → WN w a c b m nk ck [] M s → s + 4 * (ps.length:Int) + (t.cost:Int) + 1 ≤ m →
  ∃ M' x',ZbS it (Zbj 2) (Zaa (Zab WLK [100,111,95,100,101,101,100] (Zq (n + 1) 1) (Za 0) (Zb (Za 2) (Zi)))) (ps.map Zba ++ [Zbc t]) [some (.ref w),W,x] M = .nx [some (.ref w),W,x'] M' ∧
   WN w a c b m nk (ps.foldl (fun k p=>putD (.inl p.1) (.int p.2) k) ck) [.int (t.val nv fun i=>intOf (ps.foldl (fun k p=>putD (.inl p.1) (.int p.2) k) ck) (.inl i))] M' (s + 4 * (ps.length:Int) + (t.cost:Int) + 1) ∧ ZcD w c b M M':=by
 have hlk:∀ M:Store,locked it M = true:=fun M=>by unfold locked; rw [hi]
 intro ps
 induction ps with
 | nil=>
  intro ck M s x hc _ h hs
  obtain ⟨M',h1,h2,h3⟩:=Zoi (Zq n) (value_eq (nv:=nv) (cv:=fun i=>intOf ck (.inl i)) htl htz hN fun i=>hc.get _) h (by simp at hs; omega) (by simp)
  refine ⟨M',some (Zbc t),?_,?_,h3⟩
  ·have he:Zaa (Zab WLK [100,111,95,100,101,101,100] (Zq (n + 1) 1) (Za 0) (Zb (Za 2) (Zi))) [some (.ref w),W,some (Zbc t)] M = .nx [some (.ref w),W,some (Zbc t)] M':=ZaG (ZbI rfl (Zf2 h.ws.ob (by decide)) rfl h1)
   rw [List.map_nil,List.nil_append,ZbW,if_pos (hlk M)]
   simp only [Zbj,List.set_cons_succ,List.set_cons_zero,he,ZdN,if_pos (hlk M')]
  ·have e:s + 4 * (([]:List (Int × Int)).length:Int) + (t.cost:Int) + 1 = s + (t.cost:Int) + 1:=by simp
   rw [e]; exact h2
 | cons p ps ih=>
  intro ck M s x hc hcl h hs
  rw [List.length_cons] at hs hcl
  obtain ⟨M1,h1,h2,h3⟩:=ZqG (Zq n) hn hc (by omega) p h (by omega)
  have hpl:=Zic (.inl p.1) (.int p.2) ck
  obtain ⟨M',x',g1,g2,g3⟩:=ih (putD (.inl p.1) (.int p.2) ck) M1 (s + 4) (some (Zba p)) (Zgp hc _ _) (by omega) h2 (by omega)
  refine ⟨M',x',?_,?_,h3.trans g3⟩
  ·have he:Zaa (Zab WLK [100,111,95,100,101,101,100] (Zq (n + 1) 1) (Za 0) (Zb (Za 2) (Zi))) [some (.ref w),W,some (Zba p)] M = .nx [some (.ref w),W,some (Zba p)] M1:=ZaG (ZbI rfl (Zf2 h.ws.ob (by decide)) rfl h1)
   rw [List.map_cons,List.cons_append,ZbW,if_pos (hlk M)]
   simp only [Zbj,List.set_cons_succ,List.set_cons_zero,he]
   exact g1
  ·have e:s + 4 * ((p :: ps).length:Int) + (t.cost:Int) + 1 = s + 4 + 4 * (ps.length:Int) + (t.cost:Int) + 1:=by rw [List.length_cons]; omega
   rw [e]; exact g2
theorem ZrX {nv:List Nat → Int} {t:Sm} (hn:ZcL nk) (htl:t.good) (htz:t.flat.length ≤ 13) (hN:∀ x,(ZaY nk (.inr x)).getD (.int 0) = .int (nv x)) (ps:List (Int × Int)) {M:Store} {s:Int} (hpl:ps.length < 900) (h:WN w a c b m nk [] [] M s) (hs:s + 4 * (ps.length:Int) + (t.cost:Int) + 1 ≤ m):
  ∃ M',ZbR [.ref w,.tup (ps.map Zba ++ [Zbc t])] M = .ok .non M' ∧
   WN w a c b m nk (ps.foldl (fun k p=>putD (.inl p.1) (.int p.2) k) []) [.int (t.val nv fun i=>intOf (ps.foldl (fun k p=>putD (.inl p.1) (.int p.2) k) []) (.inl i))] M' (s + 4 * (ps.length:Int) + (t.cost:Int) + 1) ∧ ZcD w c b M M':=by
 obtain ⟨M',x',g1,g2,g3⟩:=Zon 11 ⟨ps.map Zba ++ [Zbc t],none⟩ rfl (W:=some (.tup (ps.map Zba ++ [Zbc t]))) hn htl htz hN ps [] M s none ZfM (by simp; omega) h hs
 exact Zhr (N:=3) (ds:=[.ref w,.tup (ps.map Zba ++ [Zbc t])]) (body:=ZbQ (Zq 12)) h (env:=[some (.ref w),some (.tup (ps.map Zba ++ [Zbc t])),none]) ((Zfy (it:=⟨ps.map Zba ++ [Zbc t],none⟩) rfl).trans g1) g2 g3 rfl rfl
end
noncomputable def zl (names:List (List Nat)) (gs:List Int):List (Zak × D):=(names.zip gs).map fun p=>(.inr p.1,.int p.2)
theorem Zf6:∀ (names:List (List Nat)) (gs:List Int),ZcI (Zjr (names.map D.str) (gs.map D.int)) = some (zl names gs)
 | [],_=>rfl
 | _ :: _,[]=>rfl
 | x :: names,g :: gs=>by
  show (ZcI (Zjr (names.map D.str) (gs.map D.int))).map (fun l=>((.inr x,.int g) :: l:List (Zak × D))) = _
  rw [Zf6 names gs]; rfl
theorem Zg7:∀ (l:List (List Nat × Int)) (acc:List (Zak × D)),ZcL acc → ZcL ((l.map fun p=>((.inr p.1,.int p.2):Zak × D)).foldl (fun acc p=>putD p.1 p.2 acc) acc)
 | [],_,h=>h
 | _ :: l,_,h=>Zg7 l _ (Zgp h _ _)
theorem Zhl (names:List (List Nat)) (gs:List Int):ZcL (dictOf (zl names gs)):=Zg7 _ [] ZfM
theorem ZpV (names:List (List Nat)) (gs:List Int):(zl names gs).length ≤ names.length:=by
 unfold zl; rw [List.length_map,List.length_zip]; omega
theorem Zj7 (names:List (List Nat)) (gs:List Int) (h:names.length ≤ 1000) (M:Store):Zn8 (names.map D.str) (gs.map D.int) M = .ok (.ref M.length) (M ++ [.dct (dictOf (zl names gs))]):=by
 unfold Zn8
 rw [Zf6]
 exact if_pos (Nat.le_trans (ZpV names gs) (Nat.le_trans h (by decide)))
theorem ZeO {M G:Store} {f:List Nat} {v:D} {fs:List (List Nat × D)} (h:fs.length < 1000):ZhY WLK f v (.ref M.length) (M ++ .ins WLK fs :: G) = .ok .non (M ++ .ins WLK (ZeI f v fs) :: G):=by
 rw [Ze0,Zar]
 have e:=Zfw M (.ins WLK fs :: G) 0 (.ins WLK (ZeI f v fs))
 rw [Nat.add_zero] at e
 exact (if_pos (⟨rfl,h⟩:WLK = WLK ∧ fs.length < 1000)).trans (by rw [e]; rfl)
theorem ZkP {M M':Store} {d:D} (h1:M'.take M.length ≠ M) (h2:(M'.take M.length).all (Zdv M.length) = false):tidy M d M' = .ok d M':=by
 unfold tidy
 rw [decide_eq_false h1,h2,Bool.or_false,Bool.and_false]; rfl
theorem ZoG (M:Store) (a:Nat) (m:Int):ZaL [.ref M.length,.ref a,.int m] (M ++ [.ins WLK []]) = .ok .non (M ++ [ZaS a (M.length + 1) (M.length + 2) 0 m,.dct [],.lst []]):=by
 refine (Zhv (M':=M ++ [ZaS a (M.length + 1) (M.length + 2) 0 m,.dct [],.lst []]) (env:=[some (.ref M.length),some (.ref a),some (.int m)]) (env':=[some (.ref M.length),some (.ref a),some (.int m)]) ?_).trans ?_
 ·unfold Zcl
  refine (Zk (M':=M ++ [.ins WLK [(NMD,.ref a)]]) (ZaG (Ze rfl rfl (ZeO (by decide))))).trans ?_
  refine (Zk (M':=M ++ [.ins WLK [(NMD,.ref a),(CLS,.ref (M.length + 1))],.dct []]) (ZaG (Ze (M1:=M ++ [.ins WLK [(NMD,.ref a)],.dct []]) (a:=.ref (M.length + 1)) ?_ rfl (ZeO (by simp))))).trans ?_
  ·show R3.ok (D.ref (M ++ [_]).length) ((M ++ [_]) ++ [_]) = _
   rw [List.append_assoc,List.length_append]; rfl
  refine (Zk (M':=M ++ [.ins WLK [(NMD,.ref a),(CLS,.ref (M.length + 1)),(NBS,.ref (M.length + 2))],.dct [],.lst []]) (ZaG (Ze (M1:=M ++ [.ins WLK [(NMD,.ref a),(CLS,.ref (M.length + 1))],.dct [],.lst []]) (a:=.ref (M.length + 2)) ?_ rfl (ZeO (by simp))))).trans ?_
  ·refine (Zb5 rfl rfl).trans ?_
   rw [List.append_assoc,List.length_append]; rfl
  exact (Zk (ZaG (Ze rfl rfl (ZeO (by simp))))).trans (ZaG (Ze rfl rfl (ZeO (by simp [ZeI]))))
 ·have hl:(M ++ [MO.ins WLK []]).length = M.length + 1:=by simp
  have ht:(M ++ [ZaS a (M.length + 1) (M.length + 2) 0 m,.dct [],.lst []]).take (M ++ [MO.ins WLK []]).length = M ++ [ZaS a (M.length + 1) (M.length + 2) 0 m]:=by
   rw [hl,List.take_append,List.take_of_length_le (by omega)]
   simp
  refine ZkP ?_ ?_
  ·rw [ht]
   intro e
   have:=List.append_cancel_left e
   simp at this
  ·rw [ht,List.all_append,hl]
   have hb:Zdv (M.length + 1) (ZaS a (M.length + 1) (M.length + 2) 0 m) = false:=by
    show belowL (M.length + 1) [.ref a,.ref (M.length + 1),.ref (M.length + 2),.int 0,.int m] = false
    simp [belowL,below]
   simp [hb]
theorem refuse_eq {ns:List D} {ds:List D} {gs:List D} (h:gs.length = ns.length) (M:Store):Za2 [.tup [.tup ns,.tup ds],.tup gs] M = .ok .non M:=by
 refine (Zhv (M':=M) (env:=[some (.tup [.tup ns,.tup ds]),some (.tup gs)]) (env':=[some (.tup [.tup ns,.tup ds]),some (.tup gs)]) ?_).trans (ZiS rfl)
 unfold ZbH
 refine ZaF (Ze (M1:=M) (M2:=M) (a:=.int (gs.length:Int)) (b:=.int (ns.length:Int)) rfl rfl ?_)
 rw [h]
 show (match some (decide ((ns.length:Int) = ns.length)) with | some r=>R3.ok (D.bl (!r)) M | none=>R3.bad) = _
 rw [decide_eq_true rfl]; rfl
theorem ZjL {names:List (List Nat)} {gs:List Int} (hgl:gs.length = names.length) (hnl:names.length ≤ 100) {t:Sm} (htl:t.good) (htz:t.flat.length ≤ 13) (ps:List (Int × Int)) (hpl:ps.length < 900) (m:Int) (M:Store) (hs:2 * (names.length:Int) + 4 * (ps.length:Int) + (t.cost:Int) + 1 ≤ m):
  ∃ M' b,ZdO [.tup [.tup (names.map D.str),.tup (ps.map Zba ++ [Zbc t])],.tup (gs.map D.int),.int m] M = .ok (.tup [.ref b,.int (2 * (names.length:Int) + 4 * (ps.length:Int) + (t.cost:Int) + 1)]) M' ∧
   M'[b]? = some (.lst [.int (t.val (fun x=>intOf (dictOf (zl names gs)) (.inr x)) fun i=>intOf (ps.foldl (fun k p=>putD (.inl p.1) (.int p.2) k) []) (.inl i))]) ∧ M.length ≤ b ∧ M.length ≤ M'.length ∧ ∀ i,i < M.length → M'[i]? = M[i]?:=by
 let nk:=dictOf (zl names gs)
 let S:=M ++ [.dct nk]
 let w:=S.length
 have hw:w = M.length + 1:=by simp [w,S]
 let M1:=S ++ [ZaS M.length (w + 1) (w + 2) 0 m,.dct [],.lst []]
 have hL:S.length = w:=rfl
 have w0:WN w M.length (w + 1) (w + 2) m nk [] [] M1 0:=by
  refine ⟨⟨Zar S _ _,ZaH (Zar M _ []) _,ZeC S [ZaS M.length (w + 1) (w + 2) 0 m,.dct [],.lst []] 1,by omega⟩,ZeC S [ZaS M.length (w + 1) (w + 2) 0 m,.dct [],.lst []] 2⟩
 have hm1:0 + 2 * (gs.length:Int) ≤ m:=by omega
 have w1:=w0.grew (ZbP.set w M1 (ZaS M.length (w + 1) (w + 2) (0 + 2 * (gs.length:Int)) m)) (List.getElem?_set_self w0.lts.1)
 obtain ⟨M2,h1,h2,h3⟩:=ZrX (Zhl names gs) htl htz (fun x=>(Zhl names gs).get _) ps hpl w1 (by omega)
 have es:0 + 2 * (gs.length:Int) + 4 * (ps.length:Int) + (t.cost:Int) + 1 = 2 * (names.length:Int) + 4 * (ps.length:Int) + (t.cost:Int) + 1:=by omega
 rw [es] at h2
 have hlen:M.length ≤ M2.length:=Nat.le_trans (by simp [M1,S]) h3.len
 refine ⟨M2,w + 2,?_,h2.nb,by omega,hlen,fun i hi=>?_⟩
 ·refine (Zb7 (M':=M2) (d:=.tup [.ref (w + 2),.int (2 * (names.length:Int) + 4 * (ps.length:Int) + (t.cost:Int) + 1)]) (env:=[some (.tup [.tup (names.map D.str),.tup (ps.map Zba ++ [Zbc t])]),some (.tup (gs.map D.int)),some (.int m),none]) ?_).trans ?_
  ·unfold Zfb
   refine (Zk (ZaG (Zf7 rfl rfl (refuse_eq (by simp [hgl]) M)))).trans ?_
   have mk:Zko WLK ZaL (Zb (Zc6 (e2 Zr (Za 0) (eC (.int 0))) (Za 1)) (Zb (Za 2) (Zi))) [some (.tup [.tup (names.map D.str),.tup (ps.map Zba ++ [Zbc t])]),some (.tup (gs.map D.int)),some (.int m),none] M = .ok (.ref w) M1:=by
    have hz:Zc6 (e2 Zr (Za 0) (eC (.int 0))) (Za 1) [some (.tup [.tup (names.map D.str),.tup (ps.map Zba ++ [Zbc t])]),some (.tup (gs.map D.int)),some (.int m),none] M = .ok (.ref M.length) S:=Zj7 names gs (by omega) M
    have hi:=ZoG S M.length m
    show (Zb _ _ _ M).bind _ = _
    rw [Zac hz (Zac (M2:=S) (d:=.int m) rfl rfl),R3.bind_ok]
    show (match ZaL [.ref S.length,.ref M.length,.int m] (S ++ [.ins WLK []]) with | .ok .non M2=>R3.ok (D.ref S.length) M2 | _=>.bad) = _
    rw [hi]
   refine (Zk (Zah mk)).trans ?_
   have sp:Zaa (Zab WLK SPD Zw (Za 3) (Zb (e2 Zbr (eC (.int 2)) (ZaD Zbe (Zb (Za 1) (Zi)))) (Zi))) [some (.tup [.tup (names.map D.str),.tup (ps.map Zba ++ [Zbc t])]),some (.tup (gs.map D.int)),some (.int m),some (.ref w)] M1 = .nx [some (.tup [.tup (names.map D.str),.tup (ps.map Zba ++ [Zbc t])]),some (.tup (gs.map D.int)),some (.int m),some (.ref w)] (M1.set w (ZaS M.length (w + 1) (w + 2) (0 + 2 * (gs.length:Int)) m)):=by
    refine ZaG (ZbI rfl (Zf2 w0.ws.ob (by decide)) (Zac (d:=.int (2 * (gs.length:Int))) (M1:=M1) ?_ rfl) (ZiO w0.ws.ob _ hm1))
    refine Ze (M2:=M1) (b:=.int (gs.length:Int)) rfl (ZcM rfl (by rw [ZfF,List.length_map])) ?_
    rw [ZdG,if_pos (ZmB (by decide))]
   refine (Zk sp).trans ((Zk (ZaG (ZbI rfl (Zf2 w1.ws.ob (by decide)) rfl h1))).trans (Za0 (ZbU (Zac (ZbD rfl (Zo2 h2.ws.ob)) (Zac (ZbD rfl (ZlB h2.ws.ob)) rfl)) rfl)))
  ·have hb:below M.length (.tup [.ref (w + 2),.int (2 * (names.length:Int) + 4 * (ps.length:Int) + (t.cost:Int) + 1)]) = false:=by
    show (decide (w + 2 < M.length) && _) = false
    rw [decide_eq_false (by omega)]; rfl
   rw [tidy,hb]; rfl
 ·have hi1:i < M1.length:=by simp [M1,S]; omega
  rw [h3.old i (by rw [List.length_set]; exact hi1) (by omega) (by omega) (by omega),List.getElem?_set_ne (by omega)]
  show ((M ++ [_]) ++ _)[i]? = _
  rw [List.append_assoc,List.getElem?_append_left hi]
noncomputable abbrev ZiL:S3:=sIf (e1 (Za3 .int) (Za 5)) (Zu (Zaa (Zaw tyL Zae (Za 4) (Zb (Za 5) (Zi)))) (Zd2 (Za 3) (eC (.int 0)) (e2 Zag (e2 Zr (Za 3) (eC (.int 0))) (eC (.int 1))))) (sIf (e2 ZbJ (Za 5) (eC (.str [99,101,108,108]))) (Zu (Zaa (Zaw tyL Zae (Za 4) (Zb (Zaw Zgr ZfP (Za 2) (Zb (Zaw tyL Zfq (Za 4) (Zi)) (Zb (eC (.int 0)) (Zi)))) (Zi)))) (Zd2 (Za 3) (eC (.int 0)) (e2 Zag (e2 Zr (Za 3) (eC (.int 0))) (eC (.int 2))))) (sIf (e2 ZkA (Za 5) (ZdB (Zb (eC (.str [97,100,100])) (Zb (eC (.str [115,117,98])) (Zb (eC (.str [109,111,114,101])) (Zi)))))) (Zu (Zat 6 (Zaw tyL Zfq (Za 4) (Zi))) (Zu (Zat 7 (Zaw tyL Zfq (Za 4) (Zi))) (Zu (Zd2 (Za 3) (eC (.int 0)) (e2 Zag (e2 Zr (Za 3) (eC (.int 0))) (eC (.int 1)))) (Zaa (Zaw tyL Zae (Za 4) (Zb (e2 Zgj (Zl3 (Zb1 (eC (.str [97,100,100])) (e2 Zag (Za 6) (Za 7)) (Zb1 (eC (.str [115,117,98])) (e2 ZbN (Za 6) (Za 7)) (Zb1 (eC (.str [109,111,114,101])) (ZaD Zd9 (Zb (e2 Zem (Za 6) (Za 7)) (Zi))) (Zi2))))) (Za 5)) (Zi))))))) (Zu (Zaa (Zaw tyL Zae (Za 4) (Zb (Zaw Zgr ZfP (Za 1) (Zb (Za 5) (Zb (eC (.int 0)) (Zi)))) (Zi)))) (Zd2 (Za 3) (eC (.int 0)) (e2 Zag (e2 Zr (Za 3) (eC (.int 0))) (eC (.int 2)))))))
structure WI (M0:Store) (a c q d:Nat) (nk ck:List (Zak × D)) (st:List D) (k:Int) (M:Store):Prop where
 sk:M[d]? = some (.lst st)
 ct:M[q]? = some (.lst [.int k])
 nm:M[a]? = some (.dct nk)
 cl:M[c]? = some (.dct ck)
 dl:M0.length ≤ d
 len:M0.length ≤ M.length
 qd:q ≠ d
 old:∀ i,i < M0.length → i ≠ q → M[i]? = M0[i]?
section
variable {M0:Store} {a c q d:Nat} {nk ck:List (Zak × D)} {st:List D} {k:Int} {M:Store}
theorem WI.da (h:WI M0 a c q d nk ck st k M):d ≠ a:=fun e=>by have:=h.nm; rw [← e,h.sk] at this; cases this
theorem WI.dc (h:WI M0 a c q d nk ck st k M):d ≠ c:=fun e=>by have:=h.cl; rw [← e,h.sk] at this; cases this
theorem WI.qa (h:WI M0 a c q d nk ck st k M):q ≠ a:=fun e=>by have:=h.nm; rw [← e,h.ct] at this; cases this
theorem WI.qc (h:WI M0 a c q d nk ck st k M):q ≠ c:=fun e=>by have:=h.cl; rw [← e,h.ct] at this; cases this
theorem WI.dlt (h:WI M0 a c q d nk ck st k M):d < M.length:=(List.getElem?_eq_some_iff.mp h.sk).1
theorem WI.qlt (h:WI M0 a c q d nk ck st k M):q < M.length:=(List.getElem?_eq_some_iff.mp h.ct).1
theorem WI.setd (h:WI M0 a c q d nk ck st k M) (st':List D):WI M0 a c q d nk ck st' k (M.set d (.lst st')):=
 ⟨List.getElem?_set_self h.dlt,by rw [List.getElem?_set_ne h.qd.symm]; exact h.ct,by rw [List.getElem?_set_ne h.da]; exact h.nm,by rw [List.getElem?_set_ne h.dc]; exact h.cl,h.dl,by rw [List.length_set]; exact h.len,h.qd,fun i hi hq=>by
  have:=h.dl
  rw [List.getElem?_set_ne (by omega)]; exact h.old i hi hq⟩
theorem WI.setq (h:WI M0 a c q d nk ck st k M) (k':Int):WI M0 a c q d nk ck st k' (M.set q (.lst [.int k'])):=
 ⟨by rw [List.getElem?_set_ne h.qd]; exact h.sk,List.getElem?_set_self h.qlt,by rw [List.getElem?_set_ne h.qa]; exact h.nm,by rw [List.getElem?_set_ne h.qc]; exact h.cl,h.dl,by rw [List.length_set]; exact h.len,h.qd,fun i hi hq=>by
  rw [List.getElem?_set_ne (Ne.symm hq)]; exact h.old i hi hq⟩
theorem WI.app (h:WI M0 a c q d nk ck st k M) (G:Store):WI M0 a c q d nk ck st k (M ++ G):=
 ⟨ZaH h.sk G,ZaH h.ct G,ZaH h.nm G,ZaH h.cl G,h.dl,by rw [List.length_append]; have:=h.len; omega,h.qd,fun i hi hq=>by
  have:=h.len
  rw [List.getElem?_append_left (by omega)]; exact h.old i hi hq⟩
theorem ZeP {env:Zv} (h:WI M0 a c q d nk ck st k M) (n:Int) (h3:∀ M,Za 3 env M = .ok (.ref q) M):Zd2 (Za 3) (eC (.int 0)) (e2 Zag (e2 Zr (Za 3) (eC (.int 0))) (eC (.int n))) env M = .nx env (M.set q (.lst [.int (k + n)])):=by
 refine ZaG (d:=.non) (ZpT (Ze (Ze (h3 M) rfl (Zbh h.ct rfl)) rfl rfl) (h3 M) rfl ?_)
 rw [ZgO,h.ct]; rfl
theorem ZjM {env:Zv} {x:D} (h:WI M0 a c q d nk ck (st ++ [x]) k M) (h4:Za 4 env M = .ok (.ref d) M):Zaw tyL Zfq (Za 4) (Zi) env M = .ok x (M.set d (.lst st)):=by
 refine Zeu h4 (by rw [Zge,h.sk]) rfl ?_
 rw [ZhH,h.sk]
 have e1:(st ++ [x])[(st ++ [x]).length - 1]? = some x:=by simp
 simp only [e1,List.dropLast_concat]
theorem ZoJ {env:Zv} {M M2:Store} {n:Nat} {xs0 xs:List D} {d:D} {o t:E3} (ho:o env M = .ok (.ref n) M) (hM:M[n]? = some (.lst xs0)) (ht:t env M = .ok d M2) (hM':M2[n]? = some (.lst xs)) (hl:xs.length < SZ):
  Zaa (Zaw tyL Zae o (Zb t (Zi))) env M = .nx env (M2.set n (.lst (xs ++ [d]))):=by
 have e:Zaw tyL Zae o (Zb t (Zi)) env M = .ok .non (M2.set n (.lst (xs ++ [d]))):=by
  simp only [Zaw,ho,R3.bind,Zge,hM,Zb,ht,Zi,Zdk,hM',if_pos hl,if_true]
 rw [Zaa,e]
theorem ZsK {env:Zv} (o:Nat) (u v:Int) (h6:∀ M,Za 6 env M = .ok (.int u) M) (h7:∀ M,Za 7 env M = .ok (.int v) M) (h5:∀ M,Za 5 env M = .ok (.str (opW o)) M) (M:Store):
  ∃ G,e2 Zgj (Zl3 (Zb1 (eC (.str [97,100,100])) (e2 Zag (Za 6) (Za 7)) (Zb1 (eC (.str [115,117,98])) (e2 ZbN (Za 6) (Za 7)) (Zb1 (eC (.str [109,111,114,101])) (ZaD Zd9 (Zb (e2 Zem (Za 6) (Za 7)) (Zi))) (Zi2))))) (Za 5) env M = .ok (.int (opV o u v)) (M ++ G):=by
 let M1:=M ++ [MO.dct []]
 let l:List (Zak × D):=[(.inr [97,100,100],.int (u + v)),(.inr [115,117,98],.int (u - v)),(.inr [109,111,114,101],.int (if decide (v < u) = true then 1 else 0))]
 have hd:Zl3 (Zb1 (eC (.str [97,100,100])) (e2 Zag (Za 6) (Za 7)) (Zb1 (eC (.str [115,117,98])) (e2 ZbN (Za 6) (Za 7)) (Zb1 (eC (.str [109,111,114,101])) (ZaD Zd9 (Zb (e2 Zem (Za 6) (Za 7)) (Zi))) (Zi2)))) env M = .ok (.ref M.length) (M ++ [.dct (dictOf l)]):=by
  have a1:e2 Zag (Za 6) (Za 7) env M1 = .ok (.int (u + v)) M1:=Ze (h6 _) (h7 _) rfl
  have a2:e2 ZbN (Za 6) (Za 7) env M1 = .ok (.int (u - v)) M1:=Ze (h6 _) (h7 _) rfl
  have a3:ZaD Zd9 (Zb (e2 Zem (Za 6) (Za 7)) (Zi)) env M1 = .ok (.int (if decide (v < u) = true then 1 else 0)) M1:=ZcM (Ze (h6 _) (h7 _) rfl) rfl
  have e:Zb1 (eC (.str [97,100,100])) (e2 Zag (Za 6) (Za 7)) (Zb1 (eC (.str [115,117,98])) (e2 ZbN (Za 6) (Za 7)) (Zb1 (eC (.str [109,111,114,101])) (ZaD Zd9 (Zb (e2 Zem (Za 6) (Za 7)) (Zi))) (Zi2))) env M1 = .ok l M1:=by
   simp only [Zb1,eC,R3.bind,a1,a2,a3,ZnG,Zi2]
   rfl
  show (Zb1 _ _ _ env M1).bind _ = _
  rw [e,R3.bind_ok,show M1[M.length]? = some (.dct []) from Zar M _ []]
  have es:M1.set M.length (.dct (dictOf l)) = M ++ [.dct (dictOf l)]:=by simp [M1]
  show (if l.length ≤ 15 then R3.ok (D.ref M.length) (M1.set M.length (.dct (dictOf l))) else R3.bad) = _
  exact (if_pos (show 3 ≤ 15 by decide)).trans (by rw [es])
 refine ⟨[.dct (dictOf l)],Ze hd (h5 _) ?_⟩
 have hl:dictOf l = l:=rfl
 rw [Zg5,Zar,hl]
 match o with
 | 0=>rfl
 | 1=>rfl
 | o + 2=>
  show R3.ok (D.int (if decide (v < u) = true then 1 else 0)) _ = R3.ok (D.int (if u > v then 1 else 0)) _
  by_cases q:v < u
  ·rw [decide_eq_true q,if_pos q]; rfl
  ·rw [decide_eq_false q,if_neg q]; rfl
theorem Zdd (hN:ZcL nk) (hC:ZcL ck) (hz:st.length < 1000):∀ (t:Sm),t.good → t.flat.length < 900 → ∀ (it:It3),it.lock = none → ∀ (st:List D) (k:Int) (M:Store) (W:Option D) (x y z:Option D) (r:List D),st.length + t.flat.length < 1000 → WI M0 a c q d nk ck st k M →
  ∃ M' x' y' z',ZbS it (Zbj 5) ZiL (t.flat.reverse ++ r) [W,some (.ref a),some (.ref c),some (.ref q),some (.ref d),x,y,z] M = ZbS it (Zbj 5) ZiL r [W,some (.ref a),some (.ref c),some (.ref q),some (.ref d),x',y',z'] M' ∧
   WI M0 a c q d nk ck (st ++ [.int (t.val (fun x=>intOf nk (.inr x)) fun i=>intOf ck (.inl i))]) (k + (t.cost:Int)) M'
 | .num i,_,_,it,hi,st,k,M,W,x,y,z,r,hst,h=>by
  have hlk:locked it M = true:=by unfold locked; rw [hi]
  have hsz:st.length < SZ:=Nat.lt_trans (by omega) (show 1000 < SZ by decide)
  have h2:=(h.setd (st ++ [.int i])).setq (k + 1)
  refine ⟨_,some (.int i),y,z,?_,h2⟩
  have hb:ZiL [W,some (.ref a),some (.ref c),some (.ref q),some (.ref d),some (.int i),y,z] M = .nx [W,some (.ref a),some (.ref c),some (.ref q),some (.ref d),some (.int i),y,z] ((M.set d (.lst (st ++ [.int i]))).set q (.lst [.int (k + 1)])):=
   (Zcp (ZbD rfl (show Za3 .int (.int i) M = .ok (.bl true) M from rfl))).trans ((Zk (ZcH rfl h.sk rfl h.sk hsz)).trans (ZeP (h.setd _) 1 fun _=>rfl))
  show ZbS it (Zbj 5) ZiL (.int i :: r) _ _ = _
  rw [ZbW,if_pos hlk]
  simp only [Zbj,List.set_cons_succ,List.set_cons_zero,hb]
 | .nam w,hg,_,it,hi,st,k,M,W,x,y,z,r,hst,h=>by
  have hlk:locked it M = true:=by unfold locked; rw [hi]
  have hsz:st.length < SZ:=Nat.lt_trans (by omega) (show 1000 < SZ by decide)
  have hg:Zfs w = false:=hg
  have n1:¬ w = CEL:=fun e=>by rw [e] at hg; exact absurd hg (by decide)
  have hin:ZkA (.str w) (.tup [.str [97,100,100],.str [115,117,98],.str [109,111,114,101]]) M = .ok (.bl false) M:=by
   have a1:¬ [97,100,100] = w:=fun e=>by rw [← e] at hg; exact absurd hg (by decide)
   have a2:¬ [115,117,98] = w:=fun e=>by rw [← e] at hg; exact absurd hg (by decide)
   have a3:¬ [109,111,114,101] = w:=fun e=>by rw [← e] at hg; exact absurd hg (by decide)
   show (match some ((([97,100,100]:List Nat) == w) || ((([115,117,98]:List Nat) == w) || ((([109,111,114,101]:List Nat) == w) || false))) with | some r=>R3.ok (D.bl r) M | none=>R3.bad) = _
   rw [beq_eq_false_iff_ne.mpr a1,beq_eq_false_iff_ne.mpr a2,beq_eq_false_iff_ne.mpr a3]; rfl
  have hget:Zaw Zgr ZfP (Za 1) (Zb (Za 5) (Zb (eC (.int 0)) (Zi))) [W,some (.ref a),some (.ref c),some (.ref q),some (.ref d),some (.str w),y,z] M = .ok (.int (intOf nk (.inr w))) M:=by
   refine Zeu rfl (by rw [ZdM,h.nm]; rfl) rfl ?_
   rw [ZeN,h.nm]
   show R3.ok ((ZaY nk (.inr w)).getD (.int 0)) _ = _
   rw [hN.get]
  have h2:=(h.setd (st ++ [.int (intOf nk (.inr w))])).setq (k + 2)
  refine ⟨_,some (.str w),y,z,?_,h2⟩
  have hb:ZiL [W,some (.ref a),some (.ref c),some (.ref q),some (.ref d),some (.str w),y,z] M = .nx [W,some (.ref a),some (.ref c),some (.ref q),some (.ref d),some (.str w),y,z] ((M.set d (.lst (st ++ [.int (intOf nk (.inr w))]))).set q (.lst [.int (k + 2)])):=
   (Zcq (ZbD rfl (show Za3 .int (.str w) M = .ok (.bl false) M from rfl))).trans ((Zcq (Ze rfl rfl (Zdq n1))).trans ((Zcq (Ze rfl (ZbU rfl rfl) hin)).trans ((Zk (ZcH rfl h.sk hget h.sk hsz)).trans (ZeP (h.setd _) 2 fun _=>rfl))))
  show ZbS it (Zbj 5) ZiL (.str w :: r) _ _ = _
  rw [ZbW,if_pos hlk]
  simp only [Zbj,List.set_cons_succ,List.set_cons_zero,hb]
 | .cel s,hg,hl,it,hi,st,k,M,W,x,y,z,r,hst,h=>by
  have hfl:(Sm.cel s).flat.length = s.flat.length + 1:=by simp [Sm.flat]
  obtain ⟨M1,x1,y1,z1,e1',h1⟩:=Zdd hN hC hz s hg (by omega) it hi st k M W x y z (.str CEL :: r) (by omega) h
  have hlk:locked it M1 = true:=by unfold locked; rw [hi]
  have hsz:st.length < SZ:=Nat.lt_trans (by omega) (show 1000 < SZ by decide)
  let v:=s.val (fun x=>intOf nk (.inr x)) fun i=>intOf ck (.inl i)
  have h2:=h1.setd st
  have hget:Zaw Zgr ZfP (Za 2) (Zb (Zaw tyL Zfq (Za 4) (Zi)) (Zb (eC (.int 0)) (Zi))) [W,some (.ref a),some (.ref c),some (.ref q),some (.ref d),some (.str CEL),y1,z1] M1 = .ok (.int (intOf ck (.inl v))) (M1.set d (.lst st)):=by
   refine Zeu rfl (by rw [ZdM,h1.cl]; rfl) (Zac (ZjM h1 rfl) (Zac rfl rfl)) ?_
   rw [ZeN,h2.cl]
   show R3.ok ((ZaY ck (.inl v)).getD (.int 0)) _ = _
   rw [hC.get]
  have h3:=(h2.setd (st ++ [.int (intOf ck (.inl v))])).setq (k + (s.cost:Int) + 2)
  have ec:k + (s.cost:Int) + 2 = k + ((Sm.cel s).cost:Int):=by simp [Sm.cost]; omega
  rw [ec] at h3
  refine ⟨_,some (.str CEL),y1,z1,?_,h3⟩
  have hb:ZiL [W,some (.ref a),some (.ref c),some (.ref q),some (.ref d),some (.str CEL),y1,z1] M1 = .nx [W,some (.ref a),some (.ref c),some (.ref q),some (.ref d),some (.str CEL),y1,z1] (((M1.set d (.lst st)).set d (.lst (st ++ [.int (intOf ck (.inl v))]))).set q (.lst [.int (k + ((Sm.cel s).cost:Int))])):=by
   rw [← ec]
   exact (Zcq (ZbD rfl (show Za3 .int (.str CEL) M1 = .ok (.bl false) M1 from rfl))).trans ((Zcp (Ze rfl rfl (ZiQ rfl))).trans ((Zk (ZoJ rfl h1.sk hget h2.sk hsz)).trans (ZeP (h2.setd _) 2 fun _=>rfl)))
  have ew:(Sm.cel s).flat.reverse ++ r = s.flat.reverse ++ (.str CEL :: r):=by simp [Sm.flat]
  rw [ew,e1',ZbW,if_pos hlk]
  simp only [Zbj,List.set_cons_succ,List.set_cons_zero,hb]
 | .two o s t,hg,hl,it,hi,st,k,M,W,x,y,z,r,hst,h=>by
  have hfl:(Sm.two o s t).flat.length = s.flat.length + t.flat.length + 1:=by simp [Sm.flat]
  have hs0:0 < s.flat.length:=by obtain ⟨_,_,e⟩:=Zez s; rw [e]; simp
  have ht0:0 < t.flat.length:=by obtain ⟨_,_,e⟩:=Zez t; rw [e]; simp
  let u:=s.val (fun x=>intOf nk (.inr x)) fun i=>intOf ck (.inl i)
  let v:=t.val (fun x=>intOf nk (.inr x)) fun i=>intOf ck (.inl i)
  obtain ⟨M1,x1,y1,z1,e1',h1⟩:=Zdd hN hC hz t hg.2 (by omega) it hi st k M W x y z (s.flat.reverse ++ (.str (opW o) :: r)) (by omega) h
  obtain ⟨M2,x2,y2,z2,e2',h2⟩:=Zdd hN hC hz s hg.1 (by omega) it hi (st ++ [.int v]) (k + (t.cost:Int)) M1 W x1 y1 z1 (.str (opW o) :: r) (by simp; omega) h1
  have hlk:locked it M2 = true:=by unfold locked; rw [hi]
  have hsz:st.length < SZ:=Nat.lt_trans (by omega) (show 1000 < SZ by decide)
  have h3:=h2.setd (st ++ [.int v])
  have h4:=h3.setd st
  have h5:=h4.setq (k + (t.cost:Int) + (s.cost:Int) + 1)
  obtain ⟨G,hd⟩:=ZsK (env:=[W,some (.ref a),some (.ref c),some (.ref q),some (.ref d),some (.str (opW o)),some (.int u),some (.int v)]) o u v (fun _=>rfl) (fun _=>rfl) (fun _=>rfl) (((M2.set d (.lst (st ++ [.int v]))).set d (.lst st)).set q (.lst [.int (k + (t.cost:Int) + (s.cost:Int) + 1)]))
  have h6:=(h5.app G)
  have h7:=h6.setd (st ++ [.int (opV o u v)])
  have ec:k + (t.cost:Int) + (s.cost:Int) + 1 = k + ((Sm.two o s t).cost:Int):=by simp [Sm.cost]; omega
  have hne:opW o ≠ CEL:=by
   match o with
   | 0=>decide
   | 1=>decide
   | o + 2=>show [109,111,114,101] ≠ _; decide
  have hin:ZkA (.str (opW o)) (.tup [.str [97,100,100],.str [115,117,98],.str [109,111,114,101]]) M2 = .ok (.bl true) M2:=by
   match o with
   | 0=>rfl
   | 1=>rfl
   | o + 2=>rfl
  refine ⟨_,some (.str (opW o)),some (.int u),some (.int v),?_,by rw [← ec]; exact h7⟩
  have hb:ZiL [W,some (.ref a),some (.ref c),some (.ref q),some (.ref d),some (.str (opW o)),y2,z2] M2 = .nx [W,some (.ref a),some (.ref c),some (.ref q),some (.ref d),some (.str (opW o)),some (.int u),some (.int v)] ((((((M2.set d (.lst (st ++ [.int v]))).set d (.lst st)).set q (.lst [.int (k + (t.cost:Int) + (s.cost:Int) + 1)])) ++ G)).set d (.lst (st ++ [.int (opV o u v)]))):=
   (Zcq (ZbD rfl (show Za3 .int (.str (opW o)) M2 = .ok (.bl false) M2 from rfl))).trans ((Zcq (Ze rfl rfl (Zdq hne))).trans ((Zcp (Ze rfl (ZbU rfl rfl) hin)).trans ((Zk (Zah (ZjM h2 rfl))).trans ((Zk (Zah (ZjM h3 rfl))).trans ((Zk (ZeP h4 1 fun _=>rfl)).trans (ZcH rfl h5.sk hd h6.sk hsz))))))
  have ew:(Sm.two o s t).flat.reverse ++ r = t.flat.reverse ++ (s.flat.reverse ++ (.str (opW o) :: r)):=by simp [Sm.flat]
  rw [ew,e1',e2',ZbW,if_pos hlk]
  simp only [Zbj,List.set_cons_succ,List.set_cons_zero,hb]
theorem Zmb {q:Nat} (hN:ZcL nk) (hC:ZcL ck) (t:Sm) (hg:t.good) (hl:t.flat.length < 900) (M:Store) (k:Int) (ha:M[a]? = some (.dct nk)) (hc:M[c]? = some (.dct ck)) (hq:M[q]? = some (.lst [.int k])):
  ∃ M',Zcw [.tup t.flat,.ref a,.ref c,.ref q] M = .ok (.int (t.val (fun x=>intOf nk (.inr x)) fun i=>intOf ck (.inl i))) M' ∧ M.length ≤ M'.length ∧ M'[q]? = some (.lst [.int (k + (t.cost:Int))]) ∧ ∀ i,i < M.length → i ≠ q → M'[i]? = M[i]?:=by
 have hq1:q < M.length:=(List.getElem?_eq_some_iff.mp hq).1
 have h0:WI M a c q M.length nk ck [] k (M ++ [.lst []]):=⟨Zar M _ [],ZaH hq _,ZaH ha _,ZaH hc _,Nat.le_refl _,by simp,by omega,fun i hi _=>List.getElem?_append_left hi⟩
 obtain ⟨M1,x1,y1,z1,e1,h1⟩:=Zdd hN hC (st:=[]) (by simp) t hg hl ⟨t.flat.reverse,none⟩ rfl [] k (M ++ [.lst []]) (some (.tup t.flat)) none none none [] (by simp; omega) h0
 rw [ZdN,if_pos (show locked ⟨t.flat.reverse,none⟩ M1 = true from rfl),List.append_nil] at e1
 obtain ⟨M2,e2,l2,o2⟩:=ZeZ M M1 (.int (t.val (fun x=>intOf nk (.inr x)) fun i=>intOf ck (.inl i))) h1.len
 refine ⟨M2,(Zb7 (env:=[some (.tup t.flat),some (.ref a),some (.ref c),some (.ref q),none,none,none,none]) ?_).trans e2,l2,(o2 q hq1).trans h1.ct,fun i hi hiq=>(o2 i hi).trans (h1.old i hi hiq)⟩
 unfold Zde
 refine (Zk (Zah (Zb5 rfl rfl))).trans ((Zk ((Zfy (it:=⟨t.flat.reverse,none⟩) (M':=M ++ [.lst []]) rfl).trans e1)).trans (Za0 (Ze rfl rfl (Zbh h1.sk rfl))))
end
noncomputable def wdF (ns:List Int) (i:Nat):List Nat:=if h:ns.length ≤ 63 then (ZhC h i).choose else []
theorem ZnO {ns:List Int} (h:ns.length ≤ 63) (i:Nat):Zoh (wdF ns i):=by
 unfold wdF; rw [dif_pos h]; exact (ZhC h i).choose_spec.1
theorem Zsq {ns:List Int} (h:ns.length ≤ 63) (i:Nat) (M:Store):ZaX [SC ns,.int (i:Int)] M = .ok (.str (wdF ns i)) M:=by
 unfold wdF; rw [dif_pos h]; exact (ZhC h i).choose_spec.2 M
noncomputable def Zlp (d:Int):Int:=if h:0 ≤ d then (Zfa h).choose else 0
theorem Zqk {d:Int} (h:0 ≤ d) (M:Store):Zau [.int d] M = .ok (.int (Zlp d)) M:=by
 unfold Zlp; rw [dif_pos h]; exact (Zfa h).choose_spec M
noncomputable def Zfe (ns:List Int) (n:Nat):List (List Nat):=(List.range n).map (wdF ns)
theorem Zbf (ns:List Int) (n:Nat):(Zfe ns n).length = n:=by simp [Zfe]
theorem Zlo {ns:List Int} (h:ns.length ≤ 63) (n:Nat):∀ x ∈ Zfe ns n,Zfs x = false:=fun x hx=>by
 obtain ⟨i,_,rfl⟩:=List.mem_map.mp hx
 exact (ZnO h i).op
theorem Zsc (n:Nat):ZkJ 0 n = (List.range n).map fun (k:Nat)=>D.int (k:Int):=by
 unfold ZkJ
 refine List.map_congr_left fun k _=>?_
 rw [Int.zero_add]
theorem ZgE {f:E3} {env:Zv} {M:Store} {n:Nat} (h:f env M = .ok (.int (n:Int)) M) (hn:n ≤ 1000):ZcN f env M = .ok ⟨(List.range n).map fun (k:Nat)=>D.int (k:Int),none⟩ M:=by
 have hc:(n:Int) ≤ 1000000 ∧ -1000000 ≤ (n:Int):=by omega
 simp only [ZcN,h,R3.bind,if_pos hc,Int.toNat_natCast,Zsc]
noncomputable def Zi5 (d:Int):Int:=if d / 7 % 2 = 0 then 1 else 10 ^ 17
noncomputable def Zgd (ns:List Int) (n:Nat):List Int:=(List.range n).map fun k=>Zlp (dr ns (60 + k)) * Zi5 (dr ns (60 + k))
theorem ZmS (ns:List Int) (n:Nat):(Zgd ns n).length = n:=by simp [Zgd]
theorem Zm2 {d:Int} (hd:0 ≤ d) {env:Zv} (h3:∀ M,Za 3 env M = .ok (.int d) M) (M:Store):e2 Zbr (Zap Zau (Zb (Za 3) (Zi))) (e2 Zr (Zcv (Zb (eC (.int 1)) (Zb (e2 Zfj (eC (.int 10)) (eC (.int 17))) (Zi)))) (e2 Zaq (e2 ZaE (Za 3) (eC (.int 7))) (eC (.int 2)))) env M = .ok (.int (Zlp d * Zi5 d)) (M ++ [.lst [.int 1,.int (10 ^ 17)]]):=by
 obtain ⟨b,eb,hb⟩:=Zcc (d / 7) 2 (by decide)
 have eb:d / 7 % 2 = (b:Int):=eb
 have hg:[D.int 1,.int (10 ^ 17)][b]? = some (.int (Zi5 d)):=by
  unfold Zi5
  rw [eb]
  match b,hb with
  | 0,_=>rfl
  | 1,_=>rfl
 refine Ze (Zhj (h3 M) (Zqk hd M)) (Ze (Zb5 (ds:=[.int 1,.int (10 ^ 17)]) rfl rfl) (Ze (Ze (h3 _) rfl (Zbi (by decide))) rfl (ZaA (by decide))) (Zbh (Zar M _ []) (by rw [eb,ZbB]; exact hg))) ?_
 rw [ZdG,if_pos (mul_r (by unfold Zi5; split <;> decide))]
theorem ZfI {α:Type} {enc h:α → D} {it:It3} {g:G3} {n:Nat} {elt:E3} {I:Zv → Prop} {J:α → MO}:∀ (as:List α) (acc:List D) (env:Zv) (M G:Store),I env → M.length = n →
  (∀ a ∈ as,∀ env,I env → ∃ env1,g (enc a) env = some env1 ∧ I env1 ∧ ∀ S,elt env1 S = .ok (h a) (S ++ [J a])) → (∀ x G,locked it (M ++ .lst x :: G) = true) → acc.length + as.length ≤ SZ →
  ∃ G',Zby it g [] elt n (as.map enc) env (M ++ .lst acc :: G) = .ok (.ref n) (M ++ .lst (acc ++ as.map h) :: G')
 | [],acc,env,M,G,_,_,_,hl,_=>⟨G,by rw [List.map_nil,ZhI,if_pos (hl _ _),List.map_nil,List.append_nil]⟩
 | a :: as,acc,env,M,G,hI,hn,hf,hl,hz=>by
  obtain ⟨env1,hg,hI1,he⟩:=hf a List.mem_cons_self env hI
  have lt:acc.length < SZ:=by simp only [List.length_cons] at hz; omega
  obtain ⟨G',ih⟩:=ZfI as (acc ++ [h a]) env1 M (G ++ [J a]) hI1 hn (fun b hb=>hf b (List.mem_cons_of_mem _ hb)) hl (by simp only [List.length_append,List.length_cons,List.length_nil] at hz ⊢; omega)
  refine ⟨G',?_⟩
  have e1:(M ++ .lst acc :: G) ++ [J a] = M ++ .lst acc :: (G ++ [J a]):=by simp
  have e2:(M ++ .lst acc :: (G ++ [J a]))[n]? = some (.lst acc):=by rw [← hn]; exact Zar _ _ _
  have e3:(M ++ .lst acc :: (G ++ [J a])).set n (.lst (acc ++ [h a])) = M ++ .lst (acc ++ [h a]) :: (G ++ [J a]):=by rw [← hn]; exact Zmk
  rw [List.map_cons,ZhS,if_pos (hl _ _),hg]
  simp only [Ze5,R3.bind_ok,if_true,he,e1,e2,if_pos lt,e3]
  rw [ih]
  simp
theorem Zmv {ns:List Int} (hl:ns.length ≤ 63) {M:Store} {nr n:Nat} {xs:List D} (hn:M[nr]? = some (.lst xs)) (hx:xs.length = n) (hn2:n ≤ 100):ZbV [SC ns,.tup [.ref nr,.tup []]] M = .ok (.tup ((Zgd ns n).map D.int)) M:=by
 have l1:eLC (ZcN (ZaD Zbe (Zb (e2 Zr (Za 1) (eC (.int 0))) (Zi)))) 1 (Zbj 3) [] (Zap Zy (Zb (Za 0) (Zb (e2 Zag (eC (.int 60)) (Za 3)) (Zi)))) [some (SC ns),some (.tup [.ref nr,.tup []]),none] M = .ok (.ref M.length) (M ++ [.lst ((List.range n).map fun k=>D.int (dr ns (60 + k)))]):=by
  refine ZjV (enc:=fun k=>D.int ((k:Nat):Int)) (h:=fun k=>D.int (dr ns (60 + k))) (as:=List.range n) (M1:=M) (lock:=none) (fun e=>∃ y z x,e = [some (SC ns),y,z,x]) ?_ (fun _ h=>by cases h) ⟨_,_,_,rfl⟩ ?_ (by simp; omega)
  ·have e:ZaD Zbe (Zb (e2 Zr (Za 1) (eC (.int 0))) (Zi)) [some (SC ns),some (.tup [.ref nr,.tup []]),none] M = .ok (.int (n:Int)) M:=by
    refine ZcM (Ze rfl rfl rfl) ?_
    rw [ZdS hn,hx]
   exact ZgE e (by omega)
  ·intro k _ env ⟨y,z,x,e⟩
   subst e
   exact ⟨_,rfl,⟨_,_,_,rfl⟩,fun x=>Zdi hl (k:=60 + k) rfl (Ze rfl rfl rfl)⟩
 let M1:=M ++ [.lst ((List.range n).map fun k=>D.int (dr ns (60 + k)))]
 have hM1:M1.length = M.length + 1:=by simp [M1]
 obtain ⟨G,l2⟩:=ZfI (enc:=fun k=>D.int (dr ns (60 + k))) (h:=fun k=>D.int (Zlp (dr ns (60 + k)) * Zi5 (dr ns (60 + k)))) (J:=fun _=>.lst [.int 1,.int (10 ^ 17)]) (it:=⟨(List.range n).map fun k=>D.int (dr ns (60 + k)),some M.length⟩) (g:=Zbj 3) (n:=M1.length) (elt:=e2 Zbr (Zap Zau (Zb (Za 3) (Zi))) (e2 Zr (Zcv (Zb (eC (.int 1)) (Zb (e2 Zfj (eC (.int 10)) (eC (.int 17))) (Zi)))) (e2 Zaq (e2 ZaE (Za 3) (eC (.int 7))) (eC (.int 2))))) (I:=fun e=>∃ y z u x,e = [y,z,u,x]) (List.range n) [] ([some (SC ns),some (.tup [.ref nr,.tup []]),some (.ref M.length)] ++ List.replicate 1 none) M1 [] ⟨_,_,_,_,rfl⟩ rfl
  (fun k _ env ⟨y,z,u,x,e⟩=>by subst e; exact ⟨_,rfl,⟨_,_,_,_,rfl⟩,fun S=>Zm2 (ZoN _ _) (fun _=>rfl) S⟩)
  (fun x G=>by
   show decide _ = true
   refine decide_eq_true ?_
   rw [show M1 ++ .lst x :: G = M ++ (.lst ((List.range n).map fun k=>D.int (dr ns (60 + k))) :: .lst x :: G) by simp [M1]]
   exact Zar _ _ _) (by simp; omega)
 have hres:([]:List D) ++ (List.range n).map (fun k=>D.int (Zlp (dr ns (60 + k)) * Zi5 (dr ns (60 + k)))) = (Zgd ns n).map D.int:=by simp [Zgd]
 rw [hres] at l2
 refine (Zb7 (M':=M1 ++ .lst ((Zgd ns n).map D.int) :: G) (d:=.tup ((Zgd ns n).map D.int)) (env:=[some (SC ns),some (.tup [.ref nr,.tup []]),none]) ?_).trans ?_
 ·unfold Zdj
  refine (Zk (Zah l1)).trans (Za0 (ZcM (a:=.ref M1.length) (M1:=M1 ++ .lst ((Zgd ns n).map D.int) :: G) ?_ (ZfB (Zar _ _ _))))
  refine (ZjT (M':=M1) (it:=⟨(List.range n).map fun k=>D.int (dr ns (60 + k)),some M.length⟩) ?_).trans l2
  show (match M1[M.length]? with | some (.lst ds)=>R3.ok (⟨ds,some M.length⟩:It3) M1 | _=>R3.bad) = _
  rw [show M1[M.length]? = _ from Zar M _ []]
 ·have e:M1 ++ .lst ((Zgd ns n).map D.int) :: G = M ++ (.lst ((List.range n).map fun k=>D.int (dr ns (60 + k))) :: .lst ((Zgd ns n).map D.int) :: G):=by simp [M1]
  rw [e]
  refine Zet ?_
  show belowL _ _ = true
  exact Zh0 fun w hw=>by
   obtain ⟨i,_,rfl⟩:=List.mem_map.mp hw
   exact .int i
theorem Zmg {ns:List Int} (hl:ns.length ≤ 63) (n:Nat) (hn:n ≤ 100) {i:Nat} {env:Zv} (I:Zv → Prop) (h0:I (env ++ List.replicate 1 none)) (hI:∀ e,I e → ∀ d,I (e.set i (some d)) ∧ ∀ M,Za 0 (e.set i (some d)) M = .ok (SC ns) M ∧ Za i (e.set i (some d)) M = .ok d M) (M:Store):
  eLC (ZcN (eC (.int (n:Int)))) 1 (Zbj i) [] (Zap ZaX (Zb (Za 0) (Zb (Za i) (Zi)))) env M = .ok (.ref M.length) (M ++ [.lst ((Zfe ns n).map D.str)]):=by
 have h:=ZjV (enc:=fun k=>D.int ((k:Nat):Int)) (h:=fun k=>D.str (wdF ns k)) (own:=1) (i:=ZcN (eC (.int (n:Int)))) (g:=Zbj i) (elt:=Zap ZaX (Zb (Za 0) (Zb (Za i) (Zi)))) (env:=env) (M:=M) (as:=List.range n) (M1:=M) (lock:=none) I
  (ZgE rfl (by omega)) (fun _ h=>by cases h) h0
  (fun k _ e he=>⟨_,rfl,(hI e he _).1,fun x=>Zf7 ((hI e he _).2 _).1 ((hI e he _).2 _).2 (Zsq hl k _)⟩) (by simp; omega)
 rw [h]
 simp [Zfe]
noncomputable def pOf (c:Int):Int × Int:=(c % 9 - 4,c / 9 % 10 ^ 12)
noncomputable abbrev ZrM:S3:=Zu (Zat 8 (e2 ZbN (e2 Zaq (Za 7) (eC (.int 9))) (eC (.int 4)))) (Zu (Zat 9 (e2 Zaq (e2 ZaE (Za 7) (eC (.int 9))) (e2 Zfj (eC (.int 10)) (eC (.int 12))))) (Zu (ZiM (Za 4) (Za 8) (Za 9)) (Zaa (Zaw tyL Zae (Za 5) (Zb (ZdB (Zb (eC (.str [112,117,116])) (Zb (ZdB (Zb (Za 8) (Zi))) (Zb (ZdB (Zb (Za 9) (Zi))) (Zi))))) (Zi))))))
theorem Zmd (N It:MO) (ck:List (Zak × D)) (qs:List D) (c:Int) (hck:ck.length < 1000) (hq:qs.length < 1000) (a0 a1 a2 a3 a6 a8 a9 a10 a11 a12:Option D):
  ZrM [a0,a1,a2,a3,some (.ref 1),some (.ref 2),a6,some (.int c),a8,a9,a10,a11,a12] [N,.dct ck,.lst qs,It] =
   .nx [a0,a1,a2,a3,some (.ref 1),some (.ref 2),a6,some (.int c),some (.int (pOf c).1),some (.int (pOf c).2),a10,a11,a12] [N,.dct (putD (.inl (pOf c).1) (.int (pOf c).2) ck),.lst (qs ++ [Zba (pOf c)]),It]:=by
 refine (Zk (Zah (d:=.int (pOf c).1) (Ze (Ze rfl rfl (ZaA (by decide))) rfl rfl))).trans ((Zk (Zah (d:=.int (pOf c).2) (Ze (Ze rfl rfl (Zbi (by decide))) (Ze rfl rfl rfl) (ZaA (by decide))))).trans ?_)
 refine (Zk (M':=[N,.dct (putD (.inl (pOf c).1) (.int (pOf c).2) ck),.lst qs,It]) (ZaG (d:=.non) (ZpT rfl rfl rfl ?_))).trans ?_
 ·rw [ZeY]
  exact if_pos (Nat.lt_trans hck (by decide))
 ·exact ZcH (n:=2) (xs:=qs) (M:=[N,.dct (putD (.inl (pOf c).1) (.int (pOf c).2) ck),.lst qs,It]) (M':=[N,.dct (putD (.inl (pOf c).1) (.int (pOf c).2) ck),.lst qs,It]) rfl rfl (ZbU (Zac rfl (Zac (ZbU rfl rfl) (Zac (ZbU rfl rfl) rfl))) rfl) rfl (Nat.lt_trans hq (by decide))
theorem ZiN (N:MO) (items:List D) (a0 a1 a2 a3 a10 a11 a12:Option D):∀ (cs:List Int) (k:Nat) (ck:List (Zak × D)) (qs:List D) (a6 a7 a8 a9:Option D),ck.length + cs.length < 900 → qs.length + cs.length < 900 →
  ∃ b6 b7 b8 b9,Zda [(3,items)] (Zkt [6,7]) ZrM (Zc4 k (cs.map D.int)) [a0,a1,a2,a3,some (.ref 1),some (.ref 2),a6,a7,a8,a9,a10,a11,a12] [N,.dct ck,.lst qs,.lst items] =
   .nx [a0,a1,a2,a3,some (.ref 1),some (.ref 2),b6,b7,b8,b9,a10,a11,a12] [N,.dct ((cs.map pOf).foldl (fun k p=>putD (.inl p.1) (.int p.2) k) ck),.lst (qs ++ (cs.map pOf).map Zba),.lst items]
 | [],k,ck,qs,a6,a7,a8,a9,_,_=>⟨a6,a7,a8,a9,by
  show Zda _ _ _ [] _ _ = _
  rw [ZhM,if_pos (by simp [Zcd])]
  simp⟩
 | c :: cs,k,ck,qs,a6,a7,a8,a9,h1,h2=>by
  rw [List.length_cons] at h1 h2
  have hp:=Zic (.inl (pOf c).1) (.int (pOf c).2) ck
  obtain ⟨b6,b7,b8,b9,ih⟩:=ZiN N items a0 a1 a2 a3 a10 a11 a12 cs (k + 1) (putD (.inl (pOf c).1) (.int (pOf c).2) ck) (qs ++ [Zba (pOf c)]) (some (.int (k:Int))) (some (.int c)) (some (.int (pOf c).1)) (some (.int (pOf c).2)) (by omega) (by simp; omega)
  refine ⟨b6,b7,b8,b9,?_⟩
  show Zda _ _ _ (.tup [.int (k:Int),.int c] :: Zc4 (k + 1) (cs.map D.int)) _ _ = _
  have hb:=Zmd N (.lst items) ck qs c (by omega) (by omega) a0 a1 a2 a3 (some (.int (k:Int))) a8 a9 a10 a11 a12
  rw [ZhU,if_pos (by simp [Zcd])]
  simp only [Zkt,Zjk,Zi7,List.set_cons_succ,List.set_cons_zero,hb,ih]
  simp
theorem ZfD:∀ t:Sm,t.cost ≤ 2 * t.flat.length
 | .num _=>by simp [Sm.cost,Sm.flat]
 | .nam _=>by simp [Sm.cost,Sm.flat]
 | .cel a=>by have:=ZfD a; simp [Sm.cost,Sm.flat]; omega
 | .two _ a b=>by have:=ZfD a; have:=ZfD b; simp [Sm.cost,Sm.flat]; omega
theorem Zlg {i:IL3} {g:G3} {u:S3} {env:Zv} {M M':Store} {it:ItL} (h:i env M = .ok it M'):Ziq i g u env M = Zda it.lk g u it.items env M':=by rw [Ziq,h]
theorem law_holds (ns:List Int) (hl:ns.length ≤ 63):∃ M',Zj6 [.scr (ns.map D.int)] [] = .ok (.bl true) M':=by
 refine Rt.law (env:=[some (SC ns),none,none,none,none,none,none,none,none,none,none,none,none]) ?_
 unfold ZlS
 let nm:=Zfe ns 4
 let N:MO:=.lst (nm.map D.str)
 refine Rt.set (d:=.ref 0) (M':=[N]) (Zmg hl 4 (by decide) (fun e=>∃ a1 a2 a3 a4 a5 a6 a7 a8 a9 a10 a11 a12 a13,e = [some (SC ns),a1,a2,a3,a4,a5,a6,a7,a8,a9,a10,a11,a12,a13]) ⟨_,_,_,_,_,_,_,_,_,_,_,_,_,rfl⟩ (fun e ⟨a1,a2,a3,a4,a5,a6,a7,a8,a9,a10,a11,a12,a13,he⟩ d=>by subst he; exact ⟨⟨_,_,_,_,_,_,_,_,_,_,_,_,_,rfl⟩,fun M=>⟨rfl,rfl⟩⟩) []) ?_
 obtain ⟨lm,elm,hlm⟩:=Zcc (dr ns 51) 10 (by decide)
 have elm:dr ns 51 % 10 = (lm:Int):=elm
 obtain ⟨t,ht,htl,hsum⟩:=ZnQ (at0:=200) (lim:=1 + lm) hl (M:=[N]) (nr:=0) (names:=nm) rfl (by rw [Zbf]; decide) (by rw [Zbf]; decide) (Zlo hl 4) (by omega)
 refine Rt.set (d:=.tup t.flat) (M':=[N]) (ZmT rfl rfl rfl (Ze rfl (Ze (Zdi hl (k:=51) rfl rfl) rfl ((ZaA (by decide)).trans (by rw [elm]))) rfl) (by rw [show (1:Int) + (lm:Int) = ((1 + lm:Nat):Int) by omega]; exact hsum)) ?_
 let gs:=Zgd ns 4
 have hgiv:ZbV [SC ns,.tup [.ref 0,.tup []]] [N] = .ok (.tup (gs.map D.int)) [N]:=Zmv hl (xs:=nm.map D.str) rfl (by rw [List.length_map,Zbf]) (by decide)
 refine Rt.set (d:=.tup (gs.map D.int)) (M':=[N]) (Zf7 rfl (ZbU (Zac rfl (Zac (ZbU rfl rfl) rfl)) rfl) hgiv) ?_
 refine Rt.set (d:=.ref 1) (M':=[N,.dct []]) rfl (Rt.set (d:=.ref 2) (M':=[N,.dct [],.lst []]) (Zb5 (M':=[N,.dct []]) (ds:=[]) rfl rfl) ?_)
 let cs:=ns.take 60
 have hcs:cs.length ≤ 60:=by simp [cs]; omega
 obtain ⟨b6,b7,b8,b9,hloop⟩:=ZiN N (cs.map D.int) (some (SC ns)) (some (.ref 0)) (some (.tup t.flat)) (some (.tup (gs.map D.int))) none none none cs 0 [] [] none none none none (by simp; omega) (by simp; omega)
 let ps:=cs.map pOf
 have hps:ps.length = cs.length:=by simp [ps]
 let ck:=ps.foldl (fun k p=>putD (.inl p.1) (.int p.2) k) []
 refine Rt.step (env':=[some (SC ns),some (.ref 0),some (.tup t.flat),some (.tup (gs.map D.int)),some (.ref 1),some (.ref 2),b6,b7,b8,b9,none,none,none]) (M':=[N,.dct ck,.lst (ps.map Zba),.lst (cs.map D.int)]) ?_ ?_
 ·have hit:Zl0 (eSl (Za 0) (Zj4) (Ziu (eC (.int 60)))) [some (SC ns),some (.ref 0),some (.tup t.flat),some (.tup (gs.map D.int)),some (.ref 1),some (.ref 2),none,none,none,none,none,none,none] [N,.dct [],.lst []] = .ok ⟨Zc4 0 (cs.map D.int),[(3,cs.map D.int)]⟩ [N,.dct [],.lst [],.lst (cs.map D.int)]:=by
   have e:cutD (ns.map D.int) none (some ((60:Nat):Int)) = cs.map D.int:=by rw [Zpu,List.map_take]
   show (R3.ok (D.ref 3) ([N,.dct [],.lst []] ++ [.lst (cutD (ns.map D.int) none (some ((60:Nat):Int)))])).bind _ = _
   rw [e]; rfl
  have:=hloop
  rw [List.nil_append] at this
  exact (Zlg hit).trans this
 have hcount:Zcv (Zb (e2 Zag (e2 Zag (eC (.int 8)) (e2 Zbr (eC (.int 4)) (ZaD Zbe (Zb (Za 5) (Zi))))) (eC (.int 1))) (Zi)) [some (SC ns),some (.ref 0),some (.tup t.flat),some (.tup (gs.map D.int)),some (.ref 1),some (.ref 2),b6,b7,b8,b9,none,none,none] [N,.dct ck,.lst (ps.map Zba),.lst (cs.map D.int)] = .ok (.ref 4) [N,.dct ck,.lst (ps.map Zba),.lst (cs.map D.int),.lst [.int (8 + 4 * (ps.length:Int) + 1)]]:=by
  refine Zb5 (ds:=[.int (8 + 4 * (ps.length:Int) + 1)]) (M':=[N,.dct ck,.lst (ps.map Zba),.lst (cs.map D.int)]) (Zac (Ze (Ze rfl (Ze (b:=.int (ps.length:Int)) (M2:=[N,.dct ck,.lst (ps.map Zba),.lst (cs.map D.int)]) rfl (ZcM rfl (by rw [ZdS (xs:=ps.map Zba) rfl,List.length_map])) (by rw [ZdG,if_pos (ZmB (by decide))])) rfl) rfl rfl) rfl) rfl
 refine Rt.set hcount ?_
 let nk:=dictOf (zl nm gs)
 let M5:Store:=[N,.dct ck,.lst (ps.map Zba),.lst (cs.map D.int),.lst [.int (8 + 4 * (ps.length:Int) + 1)],.dct nk]
 have hckI:ZcL ck:=by
  have:∀ (l:List (Int × Int)) (acc:List (Zak × D)),ZcL acc → ZcL (l.foldl (fun k p=>putD (.inl p.1) (.int p.2) k) acc):=by
   intro l
   induction l with
   | nil=>intro acc h; exact h
   | cons p l ih=>intro acc h; exact ih _ (Zgp h _ _)
  exact this ps [] ZfM
 let v:=t.val (fun x=>intOf nk (.inr x)) fun i=>intOf ck (.inl i)
 obtain ⟨M6,hw,hw1,hw2,hw3⟩:=Zmb (a:=5) (c:=1) (q:=4) (Zhl nm gs) hckI t ht (by omega) M5 (8 + 4 * (ps.length:Int) + 1) rfl rfl rfl
 have hdz:Zc6 (Za 1) (Za 3) [some (SC ns),some (.ref 0),some (.tup t.flat),some (.tup (gs.map D.int)),some (.ref 1),some (.ref 2),b6,b7,b8,b9,some (.ref 4),none,none] [N,.dct ck,.lst (ps.map Zba),.lst (cs.map D.int),.lst [.int (8 + 4 * (ps.length:Int) + 1)]] = .ok (.ref 5) M5:=Zj7 nm gs (by rw [Zbf]; decide) _
 refine Rt.set (d:=.int v) (M':=M6) (ZmT rfl hdz rfl rfl hw) ?_
 have q0:M6[0]? = some N:=(hw3 0 (show 0 < 6 by decide) (by decide)).trans rfl
 have q2:M6[2]? = some (.lst (ps.map Zba)):=(hw3 2 (show 2 < 6 by decide) (by decide)).trans rfl
 have l6:6 ≤ M6.length:=hw1
 refine Rt.step (env':=[some (SC ns),some (.ref 0),some (.tup t.flat),some (.tup (gs.map D.int)),some (.ref 1),some (.ref 2),b6,b7,b8,b9,some (.ref 4),some (.int v),none]) (M':=M6.set 2 (.lst (ps.map Zba ++ [Zbc t]))) (ZcH rfl q2 (ZbU rfl rfl) q2 (by rw [List.length_map]; exact Nat.lt_trans (show ps.length < 100 by omega) (by decide))) ?_
 let M7:=M6.set 2 (.lst (ps.map Zba ++ [Zbc t]))
 have r0:M7[0]? = some N:=(List.getElem?_set_ne (by decide)).trans q0
 have r2:M7[2]? = some (.lst (ps.map Zba ++ [Zbc t])):=List.getElem?_set_self (by omega)
 have r4:M7[4]? = some (.lst [.int (8 + 4 * (ps.length:Int) + 1 + (t.cost:Int))]):=(List.getElem?_set_ne (by decide)).trans hw2
 have hcost:=ZfD t
 obtain ⟨M8,b,hm,hb,hbl,hl8,ho⟩:=ZjL (names:=nm) (gs:=gs) (by rw [ZmS,Zbf]) (by rw [Zbf]; decide) ht (by omega) ps (by omega) 400 M7 (by rw [Zbf]; omega)
 let fnd:D:=.tup [.ref b,.int (2 * (nm.length:Int) + 4 * (ps.length:Int) + (t.cost:Int) + 1)]
 have hl7:6 ≤ M7.length:=by rw [List.length_set]; exact l6
 have hb4:(4:Nat) ≠ b:=by omega
 have s4:M8[4]? = some (.lst [.int (8 + 4 * (ps.length:Int) + 1 + (t.cost:Int))]):=(ho 4 (by omega)).trans r4
 have hes:2 * (nm.length:Int) + 4 * (ps.length:Int) + (t.cost:Int) + 1 = 8 + 4 * (ps.length:Int) + 1 + (t.cost:Int):=by rw [Zbf]; omega
 refine Rt.set (d:=fnd) (M':=M8) (Zf7 (a:=.tup [.tup (nm.map D.str),.tup (ps.map Zba ++ [Zbc t])]) (M1:=M7) (ZbU (Zac (ZcM rfl (ZfB r0)) (Zac (ZcM rfl (ZfB r2)) rfl)) rfl) rfl hm) ?_
 have hlist:Za3 .list (.ref b) M8 = .ok (.bl true) M8:=by
  show (match ZfO .list (.ref b) M8 with | some b=>R3.ok (D.bl b) M8 | none=>R3.bad) = _
  rw [Zn5,hb]; rfl
 have hlen1:Zbe [.ref b] M8 = .ok (.int 1) M8:=(ZdS hb).trans rfl
 have ne_ii:∀ (i:Int) (M:Store),ZkD (.int i) (.int i) M = .ok (.bl false) M:=fun i M=>by
  show (match some (decide (i = i)) with | some r=>R3.ok (D.bl (!r)) M | none=>R3.bad) = _
  rw [decide_eq_true rfl]; rfl
 refine Rt.skip (M':=M8) ?_ ?_
 ·refine (ZiF (M1:=M8) (ZbD (a:=.bl true) (M1:=M8) rfl rfl)).trans ?_
  refine (ZiF (M1:=M8) (Ze (a:=.int 2) (b:=.int 2) (M1:=M8) (M2:=M8) rfl rfl (ne_ii 2 M8))).trans ?_
  refine (ZiF (M1:=M8) (ZbD (a:=.bl true) (M1:=M8) (ZbD (a:=.ref b) (M1:=M8) rfl hlist) rfl)).trans ?_
  exact Ze (a:=.int 1) (b:=.int 1) (M1:=M8) (M2:=M8) (ZcM (a:=.ref b) (M1:=M8) rfl hlen1) rfl (ne_ii 1 M8)
 let M9:=M8 ++ [.lst [.int v,.int (2 * (nm.length:Int) + 4 * (ps.length:Int) + (t.cost:Int) + 1)]]
 have hit:Zft (Zcv (Zb (e2 Zr (e2 Zr (Za 12) (eC (.int 0))) (eC (.int 0))) (Zb (e2 Zr (Za 12) (eC (.int 1))) (Zi)))) [some (SC ns),some (.ref 0),some (.tup t.flat),some (.tup (gs.map D.int)),some (.ref 1),some (.ref 2),b6,b7,b8,b9,some (.ref 4),some (.int v),some fnd] M8 = .ok ⟨[.int v,.int (2 * (nm.length:Int) + 4 * (ps.length:Int) + (t.cost:Int) + 1)],some M8.length⟩ M9:=by
  have e:Zcv (Zb (e2 Zr (e2 Zr (Za 12) (eC (.int 0))) (eC (.int 0))) (Zb (e2 Zr (Za 12) (eC (.int 1))) (Zi))) [some (SC ns),some (.ref 0),some (.tup t.flat),some (.tup (gs.map D.int)),some (.ref 1),some (.ref 2),b6,b7,b8,b9,some (.ref 4),some (.int v),some fnd] M8 = .ok (.ref M8.length) M9:=Zb5 (Zac (Ze (Ze rfl rfl rfl) rfl (Zbh hb rfl)) (Zac (Ze rfl rfl rfl) rfl)) rfl
  show (Zcv _ _ M8).bind _ = _
  rw [e,R3.bind_ok]
  show (match M9[M8.length]? with | some (.lst ds)=>R3.ok (⟨ds,some M8.length⟩:It3) M9 | _=>R3.bad) = _
  rw [show M9[M8.length]? = _ from Zar M8 _ []]
 have hlk:locked ⟨[.int v,.int (2 * (nm.length:Int) + 4 * (ps.length:Int) + (t.cost:Int) + 1)],some M8.length⟩ M9 = true:=decide_eq_true (Zar M8 _ [])
 refine Rt.loop (it:=⟨[.int v,.int (2 * (nm.length:Int) + 4 * (ps.length:Int) + (t.cost:Int) + 1)],some M8.length⟩) (M1:=M9) (M':=M9) (env':=[some (SC ns),some (.ref 0),some (.tup t.flat),some (.tup (gs.map D.int)),some (.ref 1),some (.ref 2),b6,b7,some (.int (2 * (nm.length:Int) + 4 * (ps.length:Int) + (t.cost:Int) + 1)),b9,some (.ref 4),some (.int v),some fnd]) hit ?_ ?_
 ·have turn:∀ (i:Int) (x:Option D),sIf (eOr (e1 ZgN (e1 (Za3 .int) (Za 8))) (e1 (Za3 .bool) (Za 8))) (Zb0 (eC (.bl false))) (ZbZ) [some (SC ns),some (.ref 0),some (.tup t.flat),some (.tup (gs.map D.int)),some (.ref 1),some (.ref 2),b6,b7,some (.int i),b9,some (.ref 4),some (.int v),some fnd] M9 = .nx [some (SC ns),some (.ref 0),some (.tup t.flat),some (.tup (gs.map D.int)),some (.ref 1),some (.ref 2),b6,b7,some (.int i),b9,some (.ref 4),some (.int v),some fnd] M9:=fun i _=>ZaF (M':=M9) ((ZiF (M1:=M9) (ZbD (a:=.bl true) (M1:=M9) rfl rfl)).trans rfl)
  show ZbS _ _ _ [.int v,.int _] _ _ = _
  rw [ZbW,if_pos hlk]
  simp only [Zbj,List.set_cons_succ,List.set_cons_zero,turn v none]
  rw [ZbW,if_pos hlk]
  simp only [Zbj,List.set_cons_succ,List.set_cons_zero,turn _ none]
  rw [ZdN,if_pos hlk]
 let M10:=M9 ++ [.lst [.int v]]
 have t4:M10[4]? = some (.lst [.int (8 + 4 * (ps.length:Int) + 1 + (t.cost:Int))]):=ZaH (ZaH s4 _) _
 have tb:M10[b]? = some (.lst [.int v]):=ZaH (ZaH hb _) _
 have tn:M10[M9.length]? = some (.lst [.int v]):=Zar M9 _ []
 have hbn:b < M8.length:=(List.getElem?_eq_some_iff.mp hb).1
 refine Rt.ret (M':=M10) (Ze rfl (ZbU (Zac (Zb5 (ds:=[.int v]) rfl rfl) (Zac (Ze rfl rfl (Zbh t4 rfl)) rfl)) rfl) ?_)
 rw [← hes]
 show (match M10[b]?,M10[M9.length]? with | some (.lst x),some (.lst y)=>if b = M9.length then R3.bad else Zok x y _ M10 | _,_=>R3.bad) = _
 rw [tb,tn]
 have hnb:¬ b = M9.length:=by simp [M9]; omega
 refine (if_neg hnb).trans ?_
 unfold Zok
 rw [if_pos (by simp [Zni])]
 simp [Zhn,Zmw,Zrg]
end Law
set_option maxHeartbeats 400000
namespace Law
open PySem PySem.Spec PyProof.Rows L2 L3
theorem uZ {P:List Value → Prop} (h:P []):∀ us:List Value,us.length = 0 → P us:=fun us e=>(List.eq_nil_of_length_eq_zero e) ▸ h
theorem uS {P:List Value → Prop} {n:Nat} (h:∀ a us,us.length = n → P (a :: us)) (us:List Value) (e:us.length = n + 1):P us:=by
 cases us with
 | nil=>exact absurd e (Nat.succ_ne_zero n).symm
 | cons a us=>exact h a us (Nat.succ.inj e)
theorem ub1 {P:List Value → Prop} {xa:Str} (h:∀ a,P [a]):∀ us:List Value,us.length = [xa].length → P us:=uS fun a=>uZ (h a)
theorem ub2 {P:List Value → Prop} {xa xb:Str} (h:∀ a b,P [a,b]):∀ us:List Value,us.length = [xa,xb].length → P us:=uS fun a=>uS fun b=>uZ (h a b)
theorem ub3 {P:List Value → Prop} {xa xb xc:Str} (h:∀ a b c,P [a,b,c]):∀ us:List Value,us.length = [xa,xb,xc].length → P us:=uS fun a=>uS fun b=>uS fun c=>uZ (h a b c)
theorem ub4 {P:List Value → Prop} {xa xb xc xd:Str} (h:∀ a b c d,P [a,b,c,d]):∀ us:List Value,us.length = [xa,xb,xc,xd].length → P us:=uS fun a=>uS fun b=>uS fun c=>uS fun d=>uZ (h a b c d)
theorem Zp9 {l:PySem.W.OpenLaw} {w:World} {K:W.Frag} {h:Heap} {mg:Str → Option Value} {fa f0 f1 f2 f3 f4 f5 f6 f7 f8 f9 f10 f11 f12 f13 f14 f15 f16 f17 f18 f19:Addr} (X:K.In h) (G:h.Ns mainGlobals mg) (hfa:mg "law" = some (.ref fa))
  {od0 an0 od1 an1 od2 an2 od3 an3 od4 an4 od5 an5 od6 an6 od7 an7 od8 an8 od9 an9 od10 an10 od11 an11 od12 an12 od13 an13 od14 an14 od15 an15 od16 an16 od17 an17 od18 an18 od19 an19:Option Addr} {sl0 sl1 sl2 sl3 sl4 sl5 sl6 sl7 sl8 sl9 sl10 sl11 sl12 sl13 sl14 sl15 sl16 sl17 sl18 sl19:Array (Option Value)} {oc0 kV0 dc0 pm0 cd0 ct0 oc1 kV1 dc1 pm1 cd1 ct1 oc2 kV2 dc2 pm2 cd2 ct2 oc3 kV3 dc3 pm3 cd3 ct3 oc4 kV4 dc4 pm4 cd4 ct4 oc5 kV5 dc5 pm5 cd5 ct5 oc6 kV6 dc6 pm6 cd6 ct6 oc7 kV7 dc7 pm7 cd7 ct7 oc8 kV8 dc8 pm8 cd8 ct8 oc9 kV9 dc9 pm9 cd9 ct9 oc10 kV10 dc10 pm10 cd10 ct10 oc11 kV11 dc11 pm11 cd11 ct11 oc12 kV12 dc12 pm12 cd12 ct12 oc13 kV13 dc13 pm13 cd13 ct13 oc14 kV14 dc14 pm14 cd14 ct14 oc15 kV15 dc15 pm15 cd15 ct15 oc16 kV16 dc16 pm16 cd16 ct16 oc17 kV17 dc17 pm17 cd17 ct17 oc18 kV18 dc18 pm18 cd18 ct18 oc19 kV19 dc19 pm19 cd19 ct19:Value} {C_Walk:Addr} {t12:Addr} {ot12:Value} {otd12:Option Addr} {nt12:Nat} {osl12:Array (Option Value)} {tk12_0:Tok} {a_PARTS:Addr}
  (w_Walk_a:W.nsIn K mainGlobals "Walk" = some (some (.ref C_Walk)))
  (w_Walk_pg:PySem.W.plainGet K C_Walk Str.empty = true)
  (w_Walk_hd:PySem.W.hasDictIn K C_Walk = true)
  (w_Walk_po:PySem.W.plainOver K C_Walk = true)
  (w_Walk_sa:PySem.W.findIn K (.ref C_Walk) "__setattr__" = some (some (.builtin "object.__setattr__")))
  (w_Walk_mk:PySem.W.makesIn K C_Walk = true)
  (w_Walk_kp:W.keepIn K (.ref C_Walk) = true)
  (w_Walk_n_cells:PySem.W.findIn K (.ref C_Walk) "cells" = some none)
  (w_Walk_n_most:PySem.W.findIn K (.ref C_Walk) "most" = some none)
  (w_Walk_n_named:PySem.W.findIn K (.ref C_Walk) "named" = some none)
  (w_Walk_n_numbers:PySem.W.findIn K (.ref C_Walk) "numbers" = some none)
  (w_Walk_n_steps:PySem.W.findIn K (.ref C_Walk) "steps" = some none)
  (a0:W.nsIn K mainGlobals "worked" = some (some (.ref f0))) (l0:K.lookup f0 = some ⟨oc0,od0,.func (W.fnOf "worked" "worked" (Zad Zc2) (Zx Zc2) (Zh Zc2) .none kV0 dc0 pm0 an0 cd0 ct0),sl0⟩) (c0:W.codeIn K cd0 "worked" = true) (k0:W.keepIn K (.ref f0) = true)
  (a1:W.nsIn K mainGlobals "sums_in" = some (some (.ref f1))) (l1:K.lookup f1 = some ⟨oc1,od1,.func (W.fnOf "sums_in" "sums_in" (Zad Zcx) (Zx Zcx) (Zh Zcx) .none kV1 dc1 pm1 an1 cd1 ct1),sl1⟩) (c1:W.codeIn K cd1 "sums_in" = true) (k1:W.keepIn K (.ref f1) = true)
  (a2:W.nsIn K mainGlobals "parts_of" = some (some (.ref f2))) (l2:K.lookup f2 = some ⟨oc2,od2,.func (W.fnOf "parts_of" "parts_of" (Zad Zb9) (Zx Zb9) (Zh Zb9) .none kV2 dc2 pm2 an2 cd2 ct2),sl2⟩) (c2:W.codeIn K cd2 "parts_of" = true) (k2:W.keepIn K (.ref f2) = true)
  (a3:PySem.W.findIn K (.ref C_Walk) "__init__" = some (some (.ref f3))) (i3:PySem.W.isFn K (.ref f3) = true) (l3:K.lookup f3 = some ⟨oc3,od3,.func (W.fnOf "__init__" "Walk.__init__" (Zad ZaK) (Zx ZaK) (Zh ZaK) .none kV3 dc3 pm3 an3 cd3 ct3),sl3⟩) (c3:W.codeIn K cd3 "Walk.__init__" = true) (k3:W.keepIn K (.ref f3) = true)
  (a4:PySem.W.findIn K (.ref C_Walk) "spend" = some (some (.ref f4))) (i4:PySem.W.isFn K (.ref f4) = true) (l4:K.lookup f4 = some ⟨oc4,od4,.func (W.fnOf "spend" "Walk.spend" (Zad Zbl) (Zx Zbl) (Zh Zbl) .none kV4 dc4 pm4 an4 cd4 ct4),sl4⟩) (c4:W.codeIn K cd4 "Walk.spend" = true) (k4:W.keepIn K (.ref f4) = true)
  (a5:PySem.W.findIn K (.ref C_Walk) "value_of" = some (some (.ref f5))) (i5:PySem.W.isFn K (.ref f5) = true) (l5:K.lookup f5 = some ⟨oc5,od5,.func (W.fnOf "value_of" "Walk.value_of" (Zad ZaJ) (Zx ZaJ) (Zh ZaJ) .none kV5 dc5 pm5 an5 cd5 ct5),sl5⟩) (c5:W.codeIn K cd5 "Walk.value_of" = true) (k5:W.keepIn K (.ref f5) = true)
  (a6:PySem.W.findIn K (.ref C_Walk) "is_above" = some (some (.ref f6))) (i6:PySem.W.isFn K (.ref f6) = true) (l6:K.lookup f6 = some ⟨oc6,od6,.func (W.fnOf "is_above" "Walk.is_above" (Zad ZaI) (Zx ZaI) (Zh ZaI) .none kV6 dc6 pm6 an6 cd6 ct6),sl6⟩) (c6:W.codeIn K cd6 "Walk.is_above" = true) (k6:W.keepIn K (.ref f6) = true)
  (a7:PySem.W.findIn K (.ref C_Walk) "repeat" = some (some (.ref f7))) (i7:PySem.W.isFn K (.ref f7) = true) (l7:K.lookup f7 = some ⟨oc7,od7,.func (W.fnOf "repeat" "Walk.repeat" (Zad Za7) (Zx Za7) (Zh Za7) .none kV7 dc7 pm7 an7 cd7 ct7),sl7⟩) (c7:W.codeIn K cd7 "Walk.repeat" = true) (k7:W.keepIn K (.ref f7) = true)
  (a8:PySem.W.findIn K (.ref C_Walk) "do_deed" = some (some (.ref f8))) (i8:PySem.W.isFn K (.ref f8) = true) (l8:K.lookup f8 = some ⟨oc8,od8,.func (W.fnOf "do_deed" "Walk.do_deed" (Zad ZaW) (Zx ZaW) (Zh ZaW) .none kV8 dc8 pm8 an8 cd8 ct8),sl8⟩) (c8:W.codeIn K cd8 "Walk.do_deed" = true) (k8:W.keepIn K (.ref f8) = true)
  (a9:PySem.W.findIn K (.ref C_Walk) "choose" = some (some (.ref f9))) (i9:PySem.W.isFn K (.ref f9) = true) (l9:K.lookup f9 = some ⟨oc9,od9,.func (W.fnOf "choose" "Walk.choose" (Zad Za9) (Zx Za9) (Zh Za9) .none kV9 dc9 pm9 an9 cd9 ct9),sl9⟩) (c9:W.codeIn K cd9 "Walk.choose" = true) (k9:W.keepIn K (.ref f9) = true)
  (a10:PySem.W.findIn K (.ref C_Walk) "go_through" = some (some (.ref f10))) (i10:PySem.W.isFn K (.ref f10) = true) (l10:K.lookup f10 = some ⟨oc10,od10,.func (W.fnOf "go_through" "Walk.go_through" (Zad ZaB) (Zx ZaB) (Zh ZaB) .none kV10 dc10 pm10 an10 cd10 ct10),sl10⟩) (c10:W.codeIn K cd10 "Walk.go_through" = true) (k10:W.keepIn K (.ref f10) = true)
  (a11:W.nsIn K mainGlobals "refuse_bad_given" = some (some (.ref f11))) (l11:K.lookup f11 = some ⟨oc11,od11,.func (W.fnOf "refuse_bad_given" "refuse_bad_given" (Zad Zax) (Zx Zax) (Zh Zax) .none kV11 dc11 pm11 an11 cd11 ct11),sl11⟩) (c11:W.codeIn K cd11 "refuse_bad_given" = true) (k11:W.keepIn K (.ref f11) = true)
  (a12:W.nsIn K mainGlobals "meaning" = some (some (.ref f12))) (l12:K.lookup f12 = some ⟨oc12,od12,.func (W.fnOf "meaning" "meaning" (Zad Zcz) (Zx Zcz) (Zh Zcz) (.ref t12) kV12 dc12 pm12 an12 cd12 ct12),sl12⟩) (c12:W.codeIn K cd12 "meaning" = true) (k12:W.keepIn K (.ref f12) = true)
  (d12:K.lookup t12 = some ⟨ot12,otd12,.seq #[.int 400 tk12_0] nt12,osl12⟩)
  (a13:W.nsIn K mainGlobals "_law_draw" = some (some (.ref f13))) (l13:K.lookup f13 = some ⟨oc13,od13,.func (W.fnOf "_law_draw" "_law_draw" (Zad ZbM) (Zx ZbM) (Zh ZbM) .none kV13 dc13 pm13 an13 cd13 ct13),sl13⟩) (c13:W.codeIn K cd13 "_law_draw" = true) (k13:W.keepIn K (.ref f13) = true)
  (a14:W.nsIn K mainGlobals "_law_word" = some (some (.ref f14))) (l14:K.lookup f14 = some ⟨oc14,od14,.func (W.fnOf "_law_word" "_law_word" (Zad ZbO) (Zx ZbO) (Zh ZbO) .none kV14 dc14 pm14 an14 cd14 ct14),sl14⟩) (c14:W.codeIn K cd14 "_law_word" = true) (k14:W.keepIn K (.ref f14) = true)
  (a15:W.nsIn K mainGlobals "_law_number" = some (some (.ref f15))) (l15:K.lookup f15 = some ⟨oc15,od15,.func (W.fnOf "_law_number" "_law_number" (Zad Za8) (Zx Za8) (Zh Za8) .none kV15 dc15 pm15 an15 cd15 ct15),sl15⟩) (c15:W.codeIn K cd15 "_law_number" = true) (k15:W.keepIn K (.ref f15) = true)
  (a16:W.nsIn K mainGlobals "_law_sum" = some (some (.ref f16))) (l16:K.lookup f16 = some ⟨oc16,od16,.func (W.fnOf "_law_sum" "_law_sum" (Zad Zb8) (Zx Zb8) (Zh Zb8) .none kV16 dc16 pm16 an16 cd16 ct16),sl16⟩) (c16:W.codeIn K cd16 "_law_sum" = true) (k16:W.keepIn K (.ref f16) = true)
  (a17:W.nsIn K mainGlobals "_law_given" = some (some (.ref f17))) (l17:K.lookup f17 = some ⟨oc17,od17,.func (W.fnOf "_law_given" "_law_given" (Zad Zbm) (Zx Zbm) (Zh Zbm) .none kV17 dc17 pm17 an17 cd17 ct17),sl17⟩) (c17:W.codeIn K cd17 "_law_given" = true) (k17:W.keepIn K (.ref f17) = true)
  (a18:W.nsIn K mainGlobals "_law_worth" = some (some (.ref f18))) (l18:K.lookup f18 = some ⟨oc18,od18,.func (W.fnOf "_law_worth" "_law_worth" (Zad Zbo) (Zx Zbo) (Zh Zbo) .none kV18 dc18 pm18 an18 cd18 ct18),sl18⟩) (c18:W.codeIn K cd18 "_law_worth" = true) (k18:W.keepIn K (.ref f18) = true)
  (a19:W.nsIn K mainGlobals "law" = some (some (.ref f19))) (l19:K.lookup f19 = some ⟨oc19,od19,.func (W.fnOf "law" "law" (Zad ZeJ) (Zx ZeJ) (Zh ZeJ) .none kV19 dc19 pm19 an19 cd19 ct19),sl19⟩) (c19:W.codeIn K cd19 "law" = true) (k19:W.keepIn K (.ref f19) = true)
  (z_bool:W.nsIn K mainGlobals "bool" = some none)
  (z_dict:W.nsIn K mainGlobals "dict" = some none)
  (z_enumerate:W.nsIn K mainGlobals "enumerate" = some none)
  (z_int:W.nsIn K mainGlobals "int" = some none)
  (z_isinstance:W.nsIn K mainGlobals "isinstance" = some none)
  (z_len:W.nsIn K mainGlobals "len" = some none)
  (z_list:W.nsIn K mainGlobals "list" = some none)
  (z_max:W.nsIn K mainGlobals "max" = some none)
  (z_range:W.nsIn K mainGlobals "range" = some none)
  (z_tuple:W.nsIn K mainGlobals "tuple" = some none)
  (z_zip:W.nsIn K mainGlobals "zip" = some none)
  (g_PARTS:W.nsIn K mainGlobals "PARTS" = some (some (.ref a_PARTS))) (r_tab_PARTS:ZgK K a_PARTS Zbn):
  ∃ fd:FuncData,(∀ (s:Shared) (v:Value),BindsTo s fd ⟨[v],[]⟩ [("script",v)]) ∧ ∀ base:Heap,K.In base → base.Ns mainGlobals mg → Zcu l.prog w K mg base CX0 33 fa fd ["script"] (sp3 K 1 Zj6):=by
 have e:=hfa.symm.trans (W.mg_of X G a19)
 cases e
 have T:Txt K mg:=⟨trivial,W.mg_none_of X G z_bool,W.mg_none_of X G z_dict,W.mg_none_of X G z_enumerate,W.mg_none_of X G z_int,W.mg_none_of X G z_isinstance,W.mg_none_of X G z_len,W.mg_none_of X G z_list,W.mg_none_of X G z_max,W.mg_none_of X G z_range,W.mg_none_of X G z_tuple,W.mg_none_of X G z_zip,⟨_,W.mg_of X G g_PARTS,r_tab_PARTS⟩⟩
 have O_Walk:Zdm K mg C_Walk:=⟨⟨by unfold L3.ClsAt; rw [show (⟨([87,97,108,107]:List Nat).toArray⟩:Str) = "Walk" by decide +kernel]; exact w_Walk_a,⟨w_Walk_pg,w_Walk_hd,w_Walk_po,w_Walk_sa⟩,by decide⟩,W.mg_of X G w_Walk_a,by rw [show nm [99,101,108,108,115] = "cells" by decide +kernel]; exact w_Walk_n_cells,by rw [show nm [109,111,115,116] = "most" by decide +kernel]; exact w_Walk_n_most,by rw [show nm [110,97,109,101,100] = "named" by decide +kernel]; exact w_Walk_n_named,by rw [show nm [110,117,109,98,101,114,115] = "numbers" by decide +kernel]; exact w_Walk_n_numbers,by rw [show nm [115,116,101,112,115] = "steps" by decide +kernel]; exact w_Walk_n_steps⟩
 have D_worked:Zbs K mg "worked" Zc2 ["name","one","other"]:=ZbA X G a0 l0 c0 k0 (Binds.all (ub3 fun _ _ _=>rfl))
 have D_sums_in:Zbs K mg "sums_in" Zcx ["words"]:=ZbA X G a1 l1 c1 k1 (Binds.all (ub1 fun _=>rfl))
 have D_parts_of:Zbs K mg "parts_of" Zb9 ["words"]:=ZbA X G a2 l2 c2 k2 (Binds.all (ub1 fun _=>rfl))
 have D_Walk___init__:Znx K C_Walk "Walk.__init__" ZaK ["self","named","most"]:=ZnX w_Walk_mk w_Walk_kp a3 i3 l3 c3 k3 (Binds.all (ub3 fun _ _ _=>rfl))
 have D_Walk_spend:Zco K C_Walk "spend" "Walk.spend" Zbl ["self","steps"]:=ZcF a4 i4 l4 c4 k4 (Binds.all (ub2 fun _ _=>rfl))
 have D_Walk_value_of:Zco K C_Walk "value_of" "Walk.value_of" ZaJ ["self","words"]:=ZcF a5 i5 l5 c5 k5 (Binds.all (ub2 fun _ _=>rfl))
 have D_Walk_is_above:Zco K C_Walk "is_above" "Walk.is_above" ZaI ["self","words"]:=ZcF a6 i6 l6 c6 k6 (Binds.all (ub2 fun _ _=>rfl))
 have D_Walk_repeat:Zco K C_Walk "repeat" "Walk.repeat" Za7 ["self","deed"]:=ZcF a7 i7 l7 c7 k7 (Binds.all (ub2 fun _ _=>rfl))
 have D_Walk_do_deed:Zco K C_Walk "do_deed" "Walk.do_deed" ZaW ["self","deed"]:=ZcF a8 i8 l8 c8 k8 (Binds.all (ub2 fun _ _=>rfl))
 have D_Walk_choose:Zco K C_Walk "choose" "Walk.choose" Za9 ["self","deed"]:=ZcF a9 i9 l9 c9 k9 (Binds.all (ub2 fun _ _=>rfl))
 have D_Walk_go_through:Zco K C_Walk "go_through" "Walk.go_through" ZaB ["self","deeds"]:=ZcF a10 i10 l10 c10 k10 (Binds.all (ub2 fun _ _=>rfl))
 have D_refuse_bad_given:Zbs K mg "refuse_bad_given" Zax ["program","given"]:=ZbA X G a11 l11 c11 k11 (Binds.all (ub2 fun _ _=>rfl))
 have D_meaning:DefX K mg "meaning" Zcz ["program","given","most"] [.int 400] 2 "most":=Zox (t:=tk12_0) X G a12 l12 c12 k12 (fun s us hK hl=>by rw [List.append_nil] at hl ⊢; exact match us,hl with | [_,_,_],_=>BindsTo.of_defaults rfl (hK _ _ d12) rfl rfl rfl) (fun s us hK hl=>match us,(Nat.succ.inj ((List.length_append).symm.trans hl):us.length = 2) with | [_,_],_=>BindsTo.of_defaults rfl (hK _ _ d12) rfl rfl rfl) (Zoj (by decide) fun s us u hK hl=>match us,hl with | [_,_],_=>BindsTo.of_defaults rfl (hK _ _ d12) rfl rfl rfl)
 have D__law_draw:Zbs K mg "_law_draw" ZbM ["script","k"]:=ZbA X G a13 l13 c13 k13 (Binds.all (ub2 fun _ _=>rfl))
 have D__law_word:Zbs K mg "_law_word" ZbO ["script","i"]:=ZbA X G a14 l14 c14 k14 (Binds.all (ub2 fun _ _=>rfl))
 have D__law_number:Zbs K mg "_law_number" Za8 ["draw"]:=ZbA X G a15 l15 c15 k15 (Binds.all (ub1 fun _=>rfl))
 have D__law_sum:Zbs K mg "_law_sum" Zb8 ["script","at","names","limit"]:=ZbA X G a16 l16 c16 k16 (Binds.all (ub4 fun _ _ _ _=>rfl))
 have D__law_given:Zbs K mg "_law_given" Zbm ["script","program"]:=ZbA X G a17 l17 c17 k17 (Binds.all (ub2 fun _ _=>rfl))
 have D__law_worth:Zbs K mg "_law_worth" Zbo ["words","names","cells","count"]:=ZbA X G a18 l18 c18 k18 (Binds.all (ub4 fun _ _ _ _=>rfl))
 refine ⟨W.fnOf "law" "law" (Zad ZeJ) (Zx ZeJ) (Zh ZeJ) .none kV19 dc19 pm19 an19 cd19 ct19,fun s v=>.of_eq rfl,fun base _ _=>?_⟩
 have F_worked:=ZkY (P:=l.prog) (w:=w) (base:=base) D_worked T
 have F_sums_in:=Zi6 (P:=l.prog) (w:=w) (base:=base) D_sums_in T
 have F_parts_of:=Zir (P:=l.prog) (w:=w) (base:=base) D_parts_of T F_sums_in
 have M_Walk___init__:=ZeX (P:=l.prog) (w:=w) (base:=base) O_Walk D_Walk___init__ T
 have M_Walk_spend:=Zgq (P:=l.prog) (w:=w) (base:=base) O_Walk D_Walk_spend T
 have GG:=ZeB (P:=l.prog) (w:=w) (base:=base) O_Walk F_worked F_parts_of M_Walk_spend D_Walk_value_of T 13
 have M_Walk_value_of:=GG
 have M_Walk_is_above:=ZeW (P:=l.prog) (w:=w) (base:=base) O_Walk D_Walk_is_above T M_Walk_spend M_Walk_value_of
 have GG:=Zd0 (P:=l.prog) (w:=w) (base:=base) O_Walk M_Walk_is_above M_Walk_spend M_Walk_value_of D_Walk_go_through D_Walk_do_deed D_Walk_choose D_Walk_repeat T 13
 obtain ⟨M_Walk_go_through,M_Walk_do_deed,M_Walk_choose,M_Walk_repeat⟩:=GG
 have F_refuse_bad_given:=Zd1 (P:=l.prog) (w:=w) (base:=base) D_refuse_bad_given T
 have X_meaning:=Zjw (P:=l.prog) (w:=w) (base:=base) D_meaning T O_Walk M_Walk___init__ M_Walk_go_through M_Walk_spend F_refuse_bad_given
 have F__law_draw:=ZhW (P:=l.prog) (w:=w) (base:=base) D__law_draw T
 have F__law_word:=Zh2 (P:=l.prog) (w:=w) (base:=base) D__law_word T F__law_draw
 have F__law_number:=ZfK (P:=l.prog) (w:=w) (base:=base) D__law_number T
 have F__law_sum:=Zip (P:=l.prog) (w:=w) (base:=base) D__law_sum T F__law_draw F__law_number
 have F__law_given:=Zgu (P:=l.prog) (w:=w) (base:=base) D__law_given T F__law_draw F__law_number
 have F__law_worth:=Zgw (P:=l.prog) (w:=w) (base:=base) D__law_worth T
 exact Zpi (ZjC (st:=ZeJ) l19 c19 k19) T X_meaning F__law_draw F__law_word F__law_sum F__law_given F__law_worth
end Law
open PySem PySem.W PyProof.Rows
set_option maxRecDepth 100000 in
set_option maxHeartbeats 0 in
theorem PySem.Challenge.cw_stepledger_k71_one_sum_holds : PySem.Challenge.rw_stepledger_k71_one_sum.Holds := by
 w_on; o_law; k_head; (case hw=>w_witness2)
 k_fill
 refine L3.Zso (l:=PySem.Challenge.rw_stepledger_k71_one_sum) (k:=33) (F:=Law.Zj6) rfl rfl ⟨rfl,by decide,by decide⟩ (fun w h Y=>W.kIn_of Y) ?G Law.law_holds
 case G=>
  intro w mg fa h KX G hmg
  refine' Law.Zp9 KX G hmg ?w_Walk_a ?w_Walk_pg ?w_Walk_hd ?w_Walk_po ?w_Walk_sa ?w_Walk_mk ?w_Walk_kp ?w_Walk_n_cells ?w_Walk_n_most ?w_Walk_n_named ?w_Walk_n_numbers ?w_Walk_n_steps ?a0 ?l0 ?c0 ?k0 ?a1 ?l1 ?c1 ?k1 ?a2 ?l2 ?c2 ?k2 ?a3 ?i3 ?l3 ?c3 ?k3 ?a4 ?i4 ?l4 ?c4 ?k4 ?a5 ?i5 ?l5 ?c5 ?k5 ?a6 ?i6 ?l6 ?c6 ?k6 ?a7 ?i7 ?l7 ?c7 ?k7 ?a8 ?i8 ?l8 ?c8 ?k8 ?a9 ?i9 ?l9 ?c9 ?k9 ?a10 ?i10 ?l10 ?c10 ?k10 ?a11 ?l11 ?c11 ?k11 ?a12 ?l12 ?c12 ?k12 ?d12 ?a13 ?l13 ?c13 ?k13 ?a14 ?l14 ?c14 ?k14 ?a15 ?l15 ?c15 ?k15 ?a16 ?l16 ?c16 ?k16 ?a17 ?l17 ?c17 ?k17 ?a18 ?l18 ?c18 ?k18 ?a19 ?l19 ?c19 ?k19 ?z_bool ?z_dict ?z_enumerate ?z_int ?z_isinstance ?z_len ?z_list ?z_max ?z_range ?z_tuple ?z_zip ?g_PARTS ?r_tab_PARTS
  (case w_Walk_a=>k_is)
  (case w_Walk_pg=>k_is)
  (case w_Walk_hd=>k_is)
  (case w_Walk_po=>k_is)
  (case w_Walk_sa=>k_is)
  (case w_Walk_mk=>k_is)
  (case w_Walk_kp=>k_is)
  (case w_Walk_n_cells=>k_is)
  (case w_Walk_n_most=>k_is)
  (case w_Walk_n_named=>k_is)
  (case w_Walk_n_numbers=>k_is)
  (case w_Walk_n_steps=>k_is)
  (case a0=>k_is)
  (case l0=>k_is)
  (case c0=>k_is)
  (case k0=>k_is)
  (case a1=>k_is)
  (case l1=>k_is)
  (case c1=>k_is)
  (case k1=>k_is)
  (case a2=>k_is)
  (case l2=>k_is)
  (case c2=>k_is)
  (case k2=>k_is)
  (case a3=>k_is)
  (case i3=>k_is)
  (case l3=>k_is)
  (case c3=>k_is)
  (case k3=>k_is)
  (case a4=>k_is)
  (case i4=>k_is)
  (case l4=>k_is)
  (case c4=>k_is)
  (case k4=>k_is)
  (case a5=>k_is)
  (case i5=>k_is)
  (case l5=>k_is)
  (case c5=>k_is)
  (case k5=>k_is)
  (case a6=>k_is)
  (case i6=>k_is)
  (case l6=>k_is)
  (case c6=>k_is)
  (case k6=>k_is)
  (case a7=>k_is)
  (case i7=>k_is)
  (case l7=>k_is)
  (case c7=>k_is)
  (case k7=>k_is)
  (case a8=>k_is)
  (case i8=>k_is)
  (case l8=>k_is)
  (case c8=>k_is)
  (case k8=>k_is)
  (case a9=>k_is)
  (case i9=>k_is)
  (case l9=>k_is)
  (case c9=>k_is)
  (case k9=>k_is)
  (case a10=>k_is)
  (case i10=>k_is)
  (case l10=>k_is)
  (case c10=>k_is)
  (case k10=>k_is)
  (case a11=>k_is)
  (case l11=>k_is)
  (case c11=>k_is)
  (case k11=>k_is)
  (case a12=>k_is)
  (case l12=>k_is)
  (case c12=>k_is)
  (case k12=>k_is)
  (case d12=>k_is)
  (case a13=>k_is)
  (case l13=>k_is)
  (case c13=>k_is)
  (case k13=>k_is)
  (case a14=>k_is)
  (case l14=>k_is)
  (case c14=>k_is)
  (case k14=>k_is)
  (case a15=>k_is)
  (case l15=>k_is)
  (case c15=>k_is)
  (case k15=>k_is)
  (case a16=>k_is)
  (case l16=>k_is)
  (case c16=>k_is)
  (case k16=>k_is)
  (case a17=>k_is)
  (case l17=>k_is)
  (case c17=>k_is)
  (case k17=>k_is)
  (case a18=>k_is)
  (case l18=>k_is)
  (case c18=>k_is)
  (case k18=>k_is)
  (case a19=>k_is)
  (case l19=>k_is)
  (case c19=>k_is)
  (case k19=>k_is)
  (case z_bool=>k_is)
  (case z_dict=>k_is)
  (case z_enumerate=>k_is)
  (case z_int=>k_is)
  (case z_isinstance=>k_is)
  (case z_len=>k_is)
  (case z_list=>k_is)
  (case z_max=>k_is)
  (case z_range=>k_is)
  (case z_tuple=>k_is)
  (case z_zip=>k_is)
  (case g_PARTS=>k_is)
  (case r_tab_PARTS=>first | rfl | decide +kernel)
