import PyProof.Rows.All
import Wide.All
import OpenK.AllK
import Wide.FinOn
import Lean
import PyProof.EqAt
import PyProof.EqKinds
import PyProof.TupleCall
import PySem.Challenge.RW_stepledger_k42_bad_cuts
namespace L3
set_option compiler.extract_closed false
set_option genSizeOf false in
set_option genInjectivity false in
inductive AE where
 | v (i:Nat)
 | k (n:Nat)
 | a (x y:AE)
 | m (n:Nat) (x:AE)
noncomputable def Zli:List Nat → Nat → Nat
 | [],_=>0
 | x :: _,0=>x
 | _ :: l,n + 1=>Zli l n
noncomputable def AE.ev (c:List Nat):AE → Nat
 | .v i=>Zli c i
 | .k n=>n
 | .a x y=>x.ev c + y.ev c
 | .m n x=>n * x.ev c
noncomputable def aL:List Nat → List Nat → List Nat
 | [],r=>r
 | x :: l,[]=>x :: l
 | x :: l,y :: r=>(x + y) :: aL l r
noncomputable def sL (n:Nat):List Nat → List Nat
 | []=>[]
 | x :: l=>(n * x) :: sL n l
noncomputable def uL:Nat → List Nat
 | 0=>[1]
 | n + 1=>0 :: uL n
noncomputable def AE.li:AE → List Nat
 | .v i=>0 :: uL i
 | .k n=>[n]
 | .a x y=>aL x.li y.li
 | .m n x=>sL n x.li
noncomputable def dt:List Nat → List Nat → Nat
 | x :: c,y :: l=>x * y + dt c l
 | [],_=>0
 | _,[]=>0
noncomputable def leL:List Nat → List Nat → Bool
 | [],_=>true
 | x :: l,[]=>Nat.ble x 0 && leL l []
 | x :: l,y :: r=>Nat.ble x y && leL l r
theorem Zcm:∀ c,dt c [] = 0
 | []=>rfl
 | _ :: _=>rfl
theorem ZdR:∀ c l r,dt c (aL l r) = dt c l + dt c r
 | c,[],r=>by rw [Zcm,Nat.zero_add]; rfl
 | c,x :: l,[]=>by rw [Zcm]; rfl
 | [],x :: l,y :: r=>rfl
 | z :: c,x :: l,y :: r=>by
  show z * (x + y) + dt c (aL l r) = _
  rw [ZdR c l r,Nat.mul_add]; exact Nat.add_add_add_comm _ _ _ _
theorem Zhe (n:Nat):∀ c l,dt c (sL n l) = n * dt c l
 | c,[]=>by rw [Zcm]; exact Zcm c
 | [],x :: l=>rfl
 | z :: c,x :: l=>by
  show z * (n * x) + dt c (sL n l) = n * (z * x + dt c l)
  rw [Zhe n c l,Nat.mul_add,Nat.mul_left_comm]
theorem ZlQ:∀ c i,dt c (uL i) = Zli c i
 | [],0=>rfl
 | [],_ + 1=>rfl
 | x :: c,0=>by show x * 1 + dt c [] = x; rw [Zcm,Nat.mul_one]; rfl
 | x :: c,n + 1=>by show x * 0 + dt c (uL n) = Zli c n; rw [ZlQ c n,Nat.mul_zero,Nat.zero_add]
theorem ZeR:∀ c l r,leL l r = true → dt c l ≤ dt c r
 | c,[],r,_=>by rw [Zcm]; exact Nat.zero_le _
 | [],x :: l,r,_=>Nat.zero_le _
 | z :: c,x :: l,[],h=>by
  have h:=(Bool.and_eq_true _ _).mp h
  have e:x = 0:=Nat.le_zero.1 (Nat.le_of_ble_eq_true h.1)
  have i:=ZeR c l [] h.2
  rw [Zcm] at i
  show z * x + dt c l ≤ 0
  rw [e,Nat.le_zero.1 i]; exact Nat.le_refl 0
 | z :: c,x :: l,y :: r,h=>
  have h:=(Bool.and_eq_true _ _).mp h
  Nat.add_le_add (Nat.mul_le_mul_left z (Nat.le_of_ble_eq_true h.1)) (ZeR c l r h.2)
theorem AE.li_ev (c:List Nat):∀ e:AE,dt (1 :: c) e.li = e.ev c
 | .v i=>(Nat.zero_add _).trans (ZlQ c i)
 | .k n=>by show 1 * n + dt c [] = n; rw [Zcm,Nat.one_mul]; rfl
 | .a x y=>(ZdR _ _ _).trans (congr (congrArg _ (x.li_ev c)) (y.li_ev c))
 | .m n x=>(Zhe n _ _).trans (congrArg _ (x.li_ev c))
noncomputable def rdE:Nat → Nat → AE × Nat
 | 0,s=>(.k 0,s)
 | f + 1,s=>bif Nat.ble (s % 16) 9 then (.v (s % 16),s / 16) else bif Nat.beq (s % 16) 10 then (.k 1,s / 16)
  else bif Nat.beq (s % 16) 11 then (.k (s / 256 % 16 ^ (s / 16 % 16)),s / 256 / 16 ^ (s / 16 % 16))
  else bif Nat.beq (s % 16) 12 then (.a (rdE f (s / 16)).1 (rdE f (rdE f (s / 16)).2).1,(rdE f (rdE f (s / 16)).2).2)
  else bif Nat.beq (s % 16) 13 then (.m (s / 16 % 256) (rdE f (s / 4096)).1,(rdE f (s / 4096)).2)
  else (.k 0,s / 16)
noncomputable def Zjs:Nat → Nat → Nat → Prop
 | 0,x,y=>x ≤ y
 | 1,x,y=>x < y
 | 2,x,y=>x = y
 | 3,x,y=>x = y
 | 4,x,y=>¬ x ≤ y
 | 5,x,y=>¬ x < y
 | _,_,_=>False
noncomputable def loN:Nat → AE → AE → List Nat
 | 0,x,_=>x.li
 | 1,x,_=>aL [1] x.li
 | 2,x,_=>x.li
 | 4,_,y=>aL [1] y.li
 | _,_,y=>y.li
noncomputable def hiN:Nat → AE → AE → List Nat
 | 0,_,y=>y.li
 | 1,_,y=>y.li
 | 2,_,y=>y.li
 | _,x,_=>x.li
noncomputable def ZgS (c:List Nat):Nat → Nat → Prop
 | 0,s=>Zjs (s % 16) ((rdE 9 (s / 16)).1.ev c) ((rdE 9 (rdE 9 (s / 16)).2).1.ev c)
 | n + 1,s=>Zjs (s / 16 % 16) ((rdE 9 (s / 256)).1.ev c) ((rdE 9 (rdE 9 (s / 256)).2).1.ev c) → ZgS c n (rdE 9 (rdE 9 (s / 256)).2).2
noncomputable def gN:Nat → AE → AE → List Nat → List Nat → Bool
 | 0,x,y,L,R=>leL (aL R x.li) (aL L y.li)
 | 1,x,y,L,R=>leL (aL [1] (aL R x.li)) (aL L y.li)
 | _,_,_,L,R=>leL (aL [1] R) L
noncomputable def chN:Nat → Nat → List Nat → List Nat → Bool
 | 0,s,L,R=>gN (s % 16) (rdE 9 (s / 16)).1 (rdE 9 (rdE 9 (s / 16)).2).1 L R
 | n + 1,s,L,R=>chN n (rdE 9 (rdE 9 (s / 256)).2).2 (aL L (sL (s % 16) (loN (s / 16 % 16) (rdE 9 (s / 256)).1 (rdE 9 (rdE 9 (s / 256)).2).1))) (aL R (sL (s % 16) (hiN (s / 16 % 16) (rdE 9 (s / 256)).1 (rdE 9 (rdE 9 (s / 256)).2).1)))
theorem Zfx (c l:List Nat):dt (1 :: c) (aL [1] l) = dt (1 :: c) l + 1:=by
 rw [ZdR]; show 1 * 1 + dt c [] + _ = _; rw [Zcm]; exact Nat.add_comm _ _
theorem Zj5 (c:List Nat) (x y:AE):∀ r,Zjs r (x.ev c) (y.ev c) → dt (1 :: c) (loN r x y) ≤ dt (1 :: c) (hiN r x y)
 | 0,h=>by show dt _ x.li ≤ dt _ y.li; rw [x.li_ev,y.li_ev]; exact h
 | 1,h=>by show dt _ (aL [1] x.li) ≤ dt _ y.li; rw [Zfx,x.li_ev,y.li_ev]; exact h
 | 2,h=>by show dt _ x.li ≤ dt _ y.li; rw [x.li_ev,y.li_ev]; exact Nat.le_of_eq h
 | 3,h=>by show dt _ y.li ≤ dt _ x.li; rw [x.li_ev,y.li_ev]; exact Nat.le_of_eq h.symm
 | 4,h=>by show dt _ (aL [1] y.li) ≤ dt _ x.li; rw [Zfx,x.li_ev,y.li_ev]; exact Nat.lt_of_not_le h
 | 5,h=>by show dt _ y.li ≤ dt _ x.li; rw [x.li_ev,y.li_ev]; exact Nat.le_of_not_lt h
 | _ + 6,h=>h.elim
theorem Zoz (c:List Nat) (x y:AE) (L R:List Nat) (h:dt (1 :: c) L ≤ dt (1 :: c) R):∀ r,gN r x y L R = true → Zjs r (x.ev c) (y.ev c)
 | 0,k=>by
  have e:=ZeR (1 :: c) _ _ k
  rw [ZdR,ZdR,x.li_ev,y.li_ev] at e
  exact Nat.le_of_add_le_add_left (Nat.le_trans e (Nat.add_le_add_right h _))
 | 1,k=>by
  have e:=ZeR (1 :: c) _ _ k
  rw [Zfx,ZdR,ZdR,x.li_ev,y.li_ev] at e
  exact Nat.lt_of_add_lt_add_left (Nat.le_trans e (Nat.add_le_add_right h _))
 | r + 2,k=>by
  have e:=ZeR (1 :: c) _ _ k
  rw [Zfx] at e
  exact absurd (Nat.le_trans e h) (Nat.not_succ_le_self _)
theorem arN (c:List Nat):∀ (n s:Nat) (L R:List Nat),dt (1 :: c) L ≤ dt (1 :: c) R → chN n s L R = true → ZgS c n s
 | 0,s,L,R,h,k=>Zoz c _ _ L R h _ k
 | n + 1,s,L,R,h,k=>fun g=>arN c n _ _ _ (by
   rw [ZdR,ZdR,Zhe,Zhe]; exact Nat.add_le_add h (Nat.mul_le_mul_left _ (Zj5 c _ _ _ g))) k
end L3
theorem lN (c:List Nat) (n s:Nat) (h:L3.chN n s [] [] = true):L3.ZgS c n s:=L3.arN c n s [] [] (Nat.le_refl _) h
theorem sbA (a b:Nat):a ≤ a - b + b:=Nat.le_add_of_sub_le (Nat.le_refl _)
theorem T1:true = true:=rfl
theorem lA {a:Nat} (n s:Nat) (y:L3.chN n s [] [] = true):L3.ZgS [a] n s:=lN _ n s y
theorem lB {a b:Nat} (n s:Nat) (y:L3.chN n s [] [] = true):L3.ZgS [a,b] n s:=lN _ n s y
theorem lC {a b c:Nat} (n s:Nat) (y:L3.chN n s [] [] = true):L3.ZgS [a,b,c] n s:=lN _ n s y
theorem lD {a b c d:Nat} (n s:Nat) (y:L3.chN n s [] [] = true):L3.ZgS [a,b,c,d] n s:=lN _ n s y
theorem lE {a b c d e:Nat} (n s:Nat) (y:L3.chN n s [] [] = true):L3.ZgS [a,b,c,d,e] n s:=lN _ n s y
theorem lF {a b c d e f:Nat} (n s:Nat) (y:L3.chN n s [] [] = true):L3.ZgS [a,b,c,d,e,f] n s:=lN _ n s y
theorem clA (w:Int):max w 0 = (w.toNat:Int):=(Int.ofNat_toNat w).symm
theorem clB (v:Int) (n:Nat) (h:¬ v < 0):min v (n:Int) = ((min v.toNat n:Nat):Int):=by
 obtain ⟨k,rfl⟩:=Int.eq_ofNat_of_zero_le (Int.not_lt.1 h)
 rcases Nat.le_total k n with z | z
 ·rw [Int.min_eq_left (Int.ofNat_le.2 z)]; exact congrArg Int.ofNat (Nat.min_eq_left z).symm
 ·rw [Int.min_eq_right (Int.ofNat_le.2 z)]; exact congrArg Int.ofNat (Nat.min_eq_right z).symm
theorem clC (v:Int) (n:Nat) (h:v < 0):max 0 (min (v + (n:Int)) (n:Int)) = ((v + (n:Int)).toNat:Int):=by
 rw [Int.min_eq_left (Int.le_of_lt (Int.lt_of_lt_of_le (Int.add_lt_add_right h _) (Int.le_of_eq (Int.zero_add _)))),Int.max_comm]; exact clA _
theorem clD (v:Int) (n:Nat) (h:¬ v < 0):max 0 (min v (n:Int)) = ((min v.toNat n:Nat):Int):=by
 rw [clB v n h]; exact Int.max_eq_right (Int.natCast_nonneg _)
namespace L3
set_option genSizeOf false in
set_option genInjectivity false in
inductive AI where
 | v (i:Nat)
 | k (n:Nat)
 | c (e:AE)
 | a (x y:AI)
 | s (x y:AI)
 | g (x:AI)
 | m (n:Nat) (x:AI)
noncomputable def Zkx:List Int → Nat → Int
 | [],_=>0
 | x :: _,0=>x
 | _ :: l,n + 1=>Zkx l n
noncomputable def AI.ev (c:List Nat) (d:List Int):AI → Int
 | .v i=>Zkx d i
 | .k n=>Int.ofNat n
 | .c e=>((e.ev c:Nat):Int)
 | .a x y=>x.ev c d + y.ev c d
 | .s x y=>x.ev c d - y.ev c d
 | .g x=>-x.ev c d
 | .m n x=>Int.ofNat n * x.ev c d
noncomputable def pL (u w:List Nat × List Nat):List Nat × List Nat:=(aL u.1 w.1,aL u.2 w.2)
noncomputable def AI.li:AI → Bool → List Nat × List Nat
 | .v i,b=>bif b then ([],uL i) else ([],[])
 | .k n,b=>bif b then ([n],[]) else ([],[])
 | .c e,b=>bif b then (e.li,[]) else ([],[])
 | .a x y,b=>pL (x.li b) (y.li b)
 | .s x y,b=>pL (x.li b) (y.li (!b))
 | .g x,b=>x.li (!b)
 | .m n x,b=>(sL n (x.li b).1,sL n (x.li b).2)
noncomputable def dtI:List Int → List Nat → Int
 | x :: c,y :: l=>x * (y:Int) + dtI c l
 | [],_=>0
 | _,[]=>0
noncomputable def dI (c:List Nat) (d:List Int) (u:List Nat × List Nat):Int:=((dt (1 :: c) u.1:Nat):Int) + dtI d u.2
theorem ZlM (p q r s:Int):p + q + (r + s) = p + r + (q + s):=by omega
theorem ZbF:∀ c,dtI c [] = 0
 | []=>rfl
 | _ :: _=>rfl
theorem Zkv:∀ c l r,dtI c (aL l r) = dtI c l + dtI c r
 | c,[],r=>by rw [ZbF,Int.zero_add]; rfl
 | c,x :: l,[]=>by rw [ZbF,Int.add_zero]; rfl
 | [],x :: l,y :: r=>rfl
 | z :: c,x :: l,y :: r=>by
  show z * ((x + y:Nat):Int) + dtI c (aL l r) = (z * x + dtI c l) + (z * y + dtI c r)
  rw [Zkv c l r,Int.natCast_add,Int.mul_add]; exact ZlM _ _ _ _
theorem Zky (n:Nat):∀ c l,dtI c (sL n l) = Int.ofNat n * dtI c l
 | c,[]=>by rw [ZbF,Int.mul_zero]; exact ZbF c
 | [],x :: l=>(Int.mul_zero _).symm
 | z :: c,x :: l=>by
  show z * ((n * x:Nat):Int) + dtI c (sL n l) = Int.ofNat n * (z * x + dtI c l)
  rw [Zky n c l,Int.mul_add,Int.natCast_mul,Int.mul_left_comm]; rfl
theorem ZkG:∀ c i,dtI c (uL i) = Zkx c i
 | [],0=>rfl
 | [],_ + 1=>rfl
 | x :: c,0=>by show x * 1 + dtI c [] = x; rw [ZbF,Int.mul_one,Int.add_zero]
 | x :: c,n + 1=>by show x * 0 + dtI c (uL n) = Zkx c n; rw [ZkG c n,Int.mul_zero,Int.zero_add]
section
variable (c:List Nat) (d:List Int)
theorem Zcp (u w:List Nat × List Nat):dI c d (pL u w) = dI c d u + dI c d w:=by
 show ((dt (1 :: c) (aL u.1 w.1):Nat):Int) + dtI d (aL u.2 w.2) = _
 rw [ZdR,Zkv,Int.natCast_add]; exact ZlM _ _ _ _
theorem ZiP (n:Nat) (u:List Nat × List Nat):dI c d (sL n u.1,sL n u.2) = Int.ofNat n * dI c d u:=by
 show ((dt (1 :: c) (sL n u.1):Nat):Int) + dtI d (sL n u.2) = _
 rw [Zhe,Zky,Int.natCast_mul]; exact (Int.mul_add _ _ _).symm
theorem ZmS:dI c d ([],[]) = 0:=by
 show ((dt (1 :: c) []:Nat):Int) + dtI d [] = 0
 rw [Zcm,ZbF]; rfl
theorem ZmO (p q r s:Int):p - q + (r - s) = p + r - (q + s):=by omega
theorem Zj8 (p q r s:Int):p - q - (r - s) = p + s - (q + r):=by omega
theorem AI.li_ev:∀ e:AI,e.ev c d = dI c d (e.li true) - dI c d (e.li false)
 | .v i=>by show Zkx d i = dI c d ([],uL i) - dI c d ([],[]); rw [ZmS,Int.sub_zero]; show _ = ((dt (1 :: c) []:Nat):Int) + dtI d (uL i); rw [Zcm,ZkG]; exact (Int.zero_add _).symm
 | .k n=>by show Int.ofNat n = dI c d ([n],[]) - dI c d ([],[]); rw [ZmS,Int.sub_zero]; show _ = ((dt (1 :: c) [n]:Nat):Int) + dtI d []; rw [ZbF,Int.add_zero]; show _ = ((1 * n + dt c []:Nat):Int); rw [Zcm,Nat.one_mul]; rfl
 | .c e=>by show ((e.ev c:Nat):Int) = dI c d (e.li,[]) - dI c d ([],[]); rw [ZmS,Int.sub_zero]; show _ = ((dt (1 :: c) e.li:Nat):Int) + dtI d []; rw [ZbF,Int.add_zero,e.li_ev]
 | .a x y=>by show x.ev c d + y.ev c d = dI c d (pL (x.li true) (y.li true)) - dI c d (pL (x.li false) (y.li false)); rw [Zcp,Zcp,x.li_ev,y.li_ev]; exact ZmO _ _ _ _
 | .s x y=>by show x.ev c d - y.ev c d = dI c d (pL (x.li true) (y.li false)) - dI c d (pL (x.li false) (y.li true)); rw [Zcp,Zcp,x.li_ev,y.li_ev]; exact Zj8 _ _ _ _
 | .g x=>by show -x.ev c d = dI c d (x.li false) - dI c d (x.li true); rw [x.li_ev]; exact Int.neg_sub _ _
 | .m n x=>by show Int.ofNat n * x.ev c d = dI c d (sL n (x.li true).1,sL n (x.li true).2) - dI c d (sL n (x.li false).1,sL n (x.li false).2); rw [ZiP,ZiP,x.li_ev]; exact Int.mul_sub _ _ _
noncomputable def cI (x y:AI):List Nat × List Nat:=pL (x.li true) (y.li false)
noncomputable def ZhS (u:List Nat × List Nat):List Nat × List Nat:=(aL [1] u.1,u.2)
theorem Zg2 (u:List Nat × List Nat):dI c d (ZhS u) = dI c d u + 1:=by
 show ((dt (1 :: c) (aL [1] u.1):Nat):Int) + dtI d u.2 = ((dt (1 :: c) u.1:Nat):Int) + dtI d u.2 + 1
 rw [Zfx,Int.natCast_add,Int.add_right_comm]; rfl
theorem ZgG (x y:AI):dI c d (cI x y) - dI c d (cI y x) = x.ev c d - y.ev c d:=by
 unfold cI
 rw [Zcp,Zcp,x.li_ev,y.li_ev,Zj8,Int.add_comm (dI c d (y.li true))]
theorem ZiJ {x y:AI} (h:x.ev c d ≤ y.ev c d):dI c d (cI x y) ≤ dI c d (cI y x):=by
 have:=ZgG c d x y; omega
theorem Zoq {x y:AI} (h:dI c d (cI x y) ≤ dI c d (cI y x)):x.ev c d ≤ y.ev c d:=by
 have:=ZgG c d x y; omega
noncomputable def Zoc:Nat → Int → Int → Prop
 | 0,x,y=>x ≤ y
 | 1,x,y=>x < y
 | 2,x,y=>x = y
 | 3,x,y=>x = y
 | 4,x,y=>¬ x ≤ y
 | 5,x,y=>¬ x < y
 | _,_,_=>False
noncomputable def loI:Nat → AI → AI → List Nat × List Nat
 | 0,x,y=>cI x y
 | 1,x,y=>ZhS (cI x y)
 | 2,x,y=>cI x y
 | 4,x,y=>ZhS (cI y x)
 | _,x,y=>cI y x
noncomputable def hiI:Nat → AI → AI → List Nat × List Nat
 | 0,x,y=>cI y x
 | 1,x,y=>cI y x
 | 2,x,y=>cI y x
 | _,x,y=>cI x y
theorem Zmd {x y:AI} (h:x.ev c d < y.ev c d):dI c d (ZhS (cI x y)) ≤ dI c d (cI y x):=by
 have:=ZgG c d x y; rw [Zg2]; omega
theorem Zm1 (x y:AI):∀ r,Zoc r (x.ev c d) (y.ev c d) → dI c d (loI r x y) ≤ dI c d (hiI r x y)
 | 0,h=>ZiJ c d h
 | 1,h=>Zmd c d h
 | 2,h=>ZiJ c d (Int.le_of_eq h)
 | 3,h=>ZiJ c d (Int.le_of_eq h.symm)
 | 4,h=>Zmd c d (Int.not_le.1 h)
 | 5,h=>ZiJ c d (Int.not_lt.1 h)
 | _ + 6,h=>h.elim
end
noncomputable def rdI:Nat → Nat → AI × Nat
 | 0,s=>(.k 0,s)
 | f + 1,s=>bif Nat.ble (s % 16) 7 then (.v (s % 16),s / 16) else bif Nat.beq (s % 16) 8 then (.c (rdE 9 (s / 16)).1,(rdE 9 (s / 16)).2)
  else bif Nat.beq (s % 16) 9 then (.g (rdI f (s / 16)).1,(rdI f (s / 16)).2) else bif Nat.beq (s % 16) 10 then (.k 1,s / 16)
  else bif Nat.beq (s % 16) 11 then (.k (s / 256 % 16 ^ (s / 16 % 16)),s / 256 / 16 ^ (s / 16 % 16))
  else bif Nat.beq (s % 16) 12 then (.a (rdI f (s / 16)).1 (rdI f (rdI f (s / 16)).2).1,(rdI f (rdI f (s / 16)).2).2)
  else bif Nat.beq (s % 16) 13 then (.m (s / 16 % 256) (rdI f (s / 4096)).1,(rdI f (s / 4096)).2)
  else bif Nat.beq (s % 16) 14 then (.k 0,s / 16) else (.s (rdI f (s / 16)).1 (rdI f (rdI f (s / 16)).2).1,(rdI f (rdI f (s / 16)).2).2)
noncomputable def hP (c:List Nat) (d:List Int) (r s:Nat):Prop:=bif Nat.ble 8 r then Zoc (r - 8) ((rdI 9 s).1.ev c d) ((rdI 9 (rdI 9 s).2).1.ev c d) else Zjs r ((rdE 9 s).1.ev c) ((rdE 9 (rdE 9 s).2).1.ev c)
noncomputable def hR (r s:Nat):Nat:=bif Nat.ble 8 r then (rdI 9 (rdI 9 s).2).2 else (rdE 9 (rdE 9 s).2).2
noncomputable def hL (r s:Nat):List Nat × List Nat:=bif Nat.ble 8 r then loI (r - 8) (rdI 9 s).1 (rdI 9 (rdI 9 s).2).1 else (loN r (rdE 9 s).1 (rdE 9 (rdE 9 s).2).1,[])
noncomputable def hH (r s:Nat):List Nat × List Nat:=bif Nat.ble 8 r then hiI (r - 8) (rdI 9 s).1 (rdI 9 (rdI 9 s).2).1 else (hiN r (rdE 9 s).1 (rdE 9 (rdE 9 s).2).1,[])
theorem Zoj (c:List Nat) (d:List Int) (r s:Nat) (h:hP c d r s):dI c d (hL r s) ≤ dI c d (hH r s):=by
 unfold hP at h
 unfold hL hH
 cases e:Nat.ble 8 r <;> rw [e] at h
 ·exact Int.add_le_add_right (Int.ofNat_le.2 (Zj5 c _ _ _ h)) _
 ·exact Zm1 c d _ _ _ h
noncomputable def zL:List Nat → Bool
 | []=>true
 | x :: l=>Nat.beq x 0 && zL l
noncomputable def eqL:List Nat → List Nat → Bool
 | [],r=>zL r
 | x :: l,[]=>Nat.beq x 0 && zL l
 | x :: l,y :: r=>Nat.beq x y && eqL l r
theorem Zkh:∀ c l,zL l = true → dtI c l = 0
 | c,[],_=>ZbF c
 | [],x :: l,_=>rfl
 | z :: c,x :: l,h=>by
  have h:=(Bool.and_eq_true _ _).mp h
  show z * (x:Int) + dtI c l = 0
  rw [Nat.eq_of_beq_eq_true h.1,Zkh c l h.2,Int.add_zero]; exact Int.mul_zero z
theorem ZjB:∀ c l r,eqL l r = true → dtI c l = dtI c r
 | c,[],r,h=>(ZbF c).trans (Zkh c r h).symm
 | c,x :: l,[],h=>(Zkh c (x :: l) h).trans (ZbF c).symm
 | [],x :: l,y :: r,_=>rfl
 | z :: c,x :: l,y :: r,h=>by
  have h:=(Bool.and_eq_true _ _).mp h
  show z * (x:Int) + dtI c l = z * (y:Int) + dtI c r
  rw [Nat.eq_of_beq_eq_true h.1,ZjB c l r h.2]
noncomputable def leP (u w:List Nat × List Nat):Bool:=leL u.1 w.1 && eqL u.2 w.2
theorem ZfE (c:List Nat) (d:List Int) {u w:List Nat × List Nat} (h:leP u w = true):dI c d u ≤ dI c d w:=by
 have h:=(Bool.and_eq_true _ _).mp h
 exact Int.add_le_add (Int.ofNat_le.2 (ZeR _ _ _ h.1)) (Int.le_of_eq (ZjB d _ _ h.2))
noncomputable def ZmW (c:List Nat) (d:List Int):Nat → Nat → Prop
 | 0,s=>hP c d (s % 16) (s / 16)
 | n + 1,s=>hP c d (s / 16 % 16) (s / 256) → ZmW c d n (hR (s / 16 % 16) (s / 256))
noncomputable def gI (r s:Nat) (L R:List Nat × List Nat):Bool:=bif Nat.beq r 0 then leP (pL R ((rdE 9 s).1.li,[])) (pL L ((rdE 9 (rdE 9 s).2).1.li,[]))
 else bif Nat.beq r 1 then leP (ZhS (pL R ((rdE 9 s).1.li,[]))) (pL L ((rdE 9 (rdE 9 s).2).1.li,[]))
 else bif Nat.beq r 8 then leP (pL R (cI (rdI 9 s).1 (rdI 9 (rdI 9 s).2).1)) (pL L (cI (rdI 9 (rdI 9 s).2).1 (rdI 9 s).1))
 else bif Nat.beq r 9 then leP (ZhS (pL R (cI (rdI 9 s).1 (rdI 9 (rdI 9 s).2).1))) (pL L (cI (rdI 9 (rdI 9 s).2).1 (rdI 9 s).1))
 else leP (ZhS R) L
noncomputable def chI:Nat → Nat → List Nat × List Nat → List Nat × List Nat → Bool
 | 0,s,L,R=>gI (s % 16) (s / 16) L R
 | n + 1,s,L,R=>chI n (hR (s / 16 % 16) (s / 256)) (pL L (sL (s % 16) (hL (s / 16 % 16) (s / 256)).1,sL (s % 16) (hL (s / 16 % 16) (s / 256)).2)) (pL R (sL (s % 16) (hH (s / 16 % 16) (s / 256)).1,sL (s % 16) (hH (s / 16 % 16) (s / 256)).2))
theorem ZiA (c:List Nat) (d:List Int) (e:AE):dI c d (e.li,[]) = ((e.ev c:Nat):Int):=by
 show ((dt (1 :: c) e.li:Nat):Int) + dtI d [] = _
 rw [ZbF,Int.add_zero,e.li_ev]
theorem ZjQ {a b l r:Int} (h:l ≤ r) (e:r + a ≤ l + b):a ≤ b:=by omega
theorem ZjS {a b l r:Int} (h:l ≤ r) (e:r + a + 1 ≤ l + b):a < b:=by omega
theorem ZmZ {l r:Int} (h:l ≤ r) (e:r + 1 ≤ l):False:=by omega
theorem ZoO (c:List Nat) (d:List Int) (r s:Nat) (L R:List Nat × List Nat) (h:dI c d L ≤ dI c d R) (k:gI r s L R = true):hP c d r s:=by
 unfold gI at k
 cases e0:Nat.beq r 0 with
 | true=>
  rw [Nat.eq_of_beq_eq_true e0] at k ⊢
  have e:=ZfE c d k
  rw [Zcp,Zcp,ZiA,ZiA] at e
  exact Int.ofNat_le.1 (ZjQ h e)
 | false=>
  cases e1:Nat.beq r 1 with
  | true=>
   rw [Nat.eq_of_beq_eq_true e1] at k ⊢
   have e:=ZfE c d k
   rw [Zg2,Zcp,Zcp,ZiA,ZiA] at e
   exact Int.ofNat_lt.1 (ZjS h e)
  | false=>
   cases e8:Nat.beq r 8 with
   | true=>
    rw [Nat.eq_of_beq_eq_true e8] at k ⊢
    have e:=ZfE c d k
    rw [Zcp,Zcp] at e
    exact Zoq c d (ZjQ h e)
   | false=>
    cases e9:Nat.beq r 9 with
    | true=>
     rw [Nat.eq_of_beq_eq_true e9] at k ⊢
     have e:=ZfE c d k
     rw [Zg2,Zcp,Zcp] at e
     have z:=ZjS h e
     have y:=ZgG c d (rdI 9 s).1 (rdI 9 (rdI 9 s).2).1
     show (rdI 9 s).1.ev c d < (rdI 9 (rdI 9 s).2).1.ev c d
     exact Int.lt_of_sub_neg (y ▸ Int.sub_neg_of_lt z)
    | false=>
     rw [e0,e1,e8,e9] at k
     have e:=ZfE c d k
     rw [Zg2] at e
     exact (ZmZ h e).elim
theorem arI (c:List Nat) (d:List Int):∀ (n s:Nat) (L R:List Nat × List Nat),dI c d L ≤ dI c d R → chI n s L R = true → ZmW c d n s
 | 0,s,L,R,h,k=>ZoO c d _ _ L R h k
 | n + 1,s,L,R,h,k=>fun g=>arI c d n _ _ _ (by
   rw [Zcp,Zcp,ZiP,ZiP]; exact Int.add_le_add h (Int.mul_le_mul_of_nonneg_left (Zoj c d _ _ g) (Int.natCast_nonneg _))) k
end L3
theorem iN (c:List Nat) (d:List Int) (n s:Nat) (h:L3.chI n s ([],[]) ([],[]) = true):L3.ZmW c d n s:=L3.arI c d n s ([],[]) ([],[]) (Int.le_refl _) h
set_option Elab.async false
set_option linter.all false
set_option maxRecDepth 100000
namespace L2
open PySem PySem.Spec PyProof.Rows
noncomputable abbrev Key:=Sum Int Str
noncomputable def Zl5:Key → Value → Bool
 | .inl k,v=>Value.isInt k v
 | .inr x,v=>Value.isStrOf x v
noncomputable def Zpe (w:World):Key → Int
 | .inl k=>hashInt k
 | .inr x=>hashStr w x
theorem ZaW:∀ {k:Key} {v:Value},Zl5 k v = true → (∃ i t,k = Sum.inl i ∧ v = Value.int i t) ∨ (∃ x t,k = Sum.inr x ∧ v = Value.str x t)
 | .inl i,v,h=>by
  obtain ⟨t,e⟩:=Value.isInt_shape (k:=i) (v:=v) h
  exact .inl ⟨i,t,rfl,e⟩
 | .inr x,v,h=>by
  obtain ⟨t,e⟩:=Value.isStrOf_shape (x:=x) (v:=v) h
  exact .inr ⟨x,t,rfl,e⟩
theorem Zns (a b:Int):decide ((Sum.inl a:Key) = Sum.inl b) = (a == b):=by
 by_cases e:a = b
 ·subst e; simp
 ·have h:¬ (Sum.inl a:Key) = Sum.inl b:=fun q=>e (Sum.inl.inj q)
  rw [decide_eq_false h]
  exact (beq_eq_false_iff_ne.mpr e).symm
theorem Zmu (a b:Str):decide ((Sum.inr a:Key) = Sum.inr b) = decide (a = b):=by
 by_cases e:a = b
 ·subst e; simp
 ·have h:¬ (Sum.inr a:Key) = Sum.inr b:=fun q=>e (Sum.inr.inj q)
  rw [decide_eq_false h,decide_eq_false e]
theorem Znn (a:Int) (b:Str):decide ((Sum.inl a:Key) = Sum.inr b) = false:=decide_eq_false (fun q=>nomatch q)
theorem Znd (a:Str) (b:Int):decide ((Sum.inr a:Key) = Sum.inl b) = false:=decide_eq_false (fun q=>nomatch q)
noncomputable def Ziq (prog:Program) (w:World):PySem.KeyKind prog w Key where
 is:=Zl5
 hash:=Zpe w
 inj:=fun v a b ha hb=>by
  rcases ZaW ha with ⟨i,t,rfl,rfl⟩ | ⟨x,t,rfl,rfl⟩
  ·rcases ZaW hb with ⟨j,u,rfl,e⟩ | ⟨y,u,rfl,e⟩
   ·injection e with e1 _; rw [e1]
   ·exact nomatch e
  ·rcases ZaW hb with ⟨j,u,rfl,e⟩ | ⟨y,u,rfl,e⟩
   ·exact nomatch e
   ·injection e with e1 _; rw [e1]
 byValue:=fun k v h=>by
  rcases ZaW h with ⟨i,t,rfl,rfl⟩ | ⟨x,t,rfl,rfl⟩ <;> rfl
 pyHash:=fun hv h=>by
  rcases ZaW hv with ⟨i,t,rfl,rfl⟩ | ⟨x,t,rfl,rfl⟩
  ·exact wpAny_pyHash_int h
  ·exact wpAny_pyHash_str h
 eqBool:=fun hu hv h=>by
  rcases ZaW hu with ⟨i,t,rfl,rfl⟩ | ⟨x,t,rfl,rfl⟩
  ·rcases ZaW hv with ⟨j,u,rfl,rfl⟩ | ⟨y,u,rfl,rfl⟩
   ·rw [Zns] at h; exact wpAny_eqBool_int h
   ·rw [Znn] at h; exact SeqAt.EqAt.int_str i t y u _ _ _ _ h
  ·rcases ZaW hv with ⟨j,u,rfl,rfl⟩ | ⟨y,u,rfl,rfl⟩
   ·rw [Znd] at h; exact SeqAt.EqAt.str_int x t j u _ _ _ _ h
   ·rw [Zmu] at h; exact wpAny_eqBool_str h
 «strs»:=fun k x t v h=>by
  rcases ZaW h with ⟨i,u,rfl,e⟩ | ⟨y,u,rfl,e⟩
  ·exact nomatch e
  ·injection e with e1 _
   subst e1
   cases v <;> rfl
end L2
namespace L2
open PySem PySem.Spec PyProof.Rows
inductive V where
 | non | bl (b:Bool) | int (i:Int) | str (x:Str) | byt (b:Array UInt8) | flt (b:UInt64) | ref (a:Addr) | ty (n:String)
 deriving DecidableEq
noncomputable def RelV:V → Value → Prop
 | .non,u=>u = Value.none
 | .bl b,u=>u = Value.bool b
 | .int i,u=>∃ t,u = Value.int i t
 | .str x,u=>∃ t,u = Value.str x t
 | .byt b,u=>∃ t,u = Value.bytes b t
 | .flt b,u=>∃ t,u = Value.float b t
 | .ref a,u=>u = Value.ref a
 | .ty n,u=>u = Value.type n
noncomputable abbrev Vals:List V → List Value → Prop:=Paired RelV
theorem Vals.length {xs:List V} {us:List Value} (r:Vals xs us):xs.length = us.length:=Paired.length r
theorem Vals.get:∀ {xs:List V} {us:List Value} {i:Nat} {x:V},Vals xs us → xs[i]? = some x → ∃ u,us[i]? = some u ∧ RelV x u
 | _,_,_,_,.nil,e=>by simp at e
 | _,_,0,_,.cons r _,e=>by simp at e; subst e; exact ⟨_,rfl,r⟩
 | _,_,i + 1,x,.cons _ t,e=>by
  obtain ⟨u,h1,h2⟩:=Vals.get (i:=i) (x:=x) t (by simpa using e)
  exact ⟨u,by simpa using h1,h2⟩
theorem Vals.set {x:V} {u:Value} (r:RelV x u):∀ {xs:List V} {us:List Value} (i:Nat),Vals xs us → Vals (xs.set i x) (us.set i u)
 | _,_,_,.nil=>.nil
 | _,_,0,.cons _ t=>.cons r t
 | _,_,i + 1,.cons q t=>.cons q (Vals.set r i t)
theorem Vals.append:∀ {xs ys:List V} {us ws:List Value},Vals xs us → Vals ys ws → Vals (xs ++ ys) (us ++ ws)
 | _,_,_,_,.nil,s=>s
 | _,_,_,_,.cons r t,s=>.cons r (Vals.append t s)
theorem Vals.take:∀ {xs:List V} {us:List Value} (n:Nat),Vals xs us → Vals (xs.take n) (us.take n)
 | _,_,0,_=>.nil
 | _,_,_ + 1,.nil=>.nil
 | _,_,n + 1,.cons r t=>.cons r (Vals.take n t)
theorem Vals.drop:∀ {xs:List V} {us:List Value} (n:Nat),Vals xs us → Vals (xs.drop n) (us.drop n)
 | _,_,0,r=>r
 | _,_,_ + 1,.nil=>.nil
 | _,_,n + 1,.cons _ t=>Vals.drop n t
noncomputable def ZfL:Option V → Option Value → Prop
 | some v,some u=>RelV v u
 | none,none=>True
 | _,_=>False
noncomputable def KV {κ:Type}:List (κ × V) → List (κ × Value) → Prop:=Paired fun (p:κ × V) (q:κ × Value)=>p.1 = q.1 ∧ RelV p.2 q.2
noncomputable def kV:Key → V
 | .inl i=>.int i
 | .inr x=>.str x
inductive HO where
 /-- a list -/
 | lst (xs:List V)
 /-- a tuple (never changes) -/
 | tup (xs:List V)
 /-- a dict whose keys are ints and texts; one whose keys are tuples of ints and texts (the empty one is both) -/
 | dK (kvs:List (Key × V)) | dT (kvs:List (List Key × V))
 /-- a set of ints: its members,its size -/
 | set (S:Int → Bool) (n:Nat)
 /-- an instance of the class at C,its dict at dx,its attributes -/
 | ins (C dx:Addr) (fs:List (Str × V))
 /-- the dict of the instance at x -/
 | own (x:Addr)
 /-- the dict of an exception -/
 | xd (fs:List (Str × V))
 /-- a bound method,f of x -/
 | met (f x:Addr)
 /-- a range object lo,lo + 1,.. below hi -/
 | rng (lo hi:Int)
 /-- a thing that is known to the object (the script; a dict while a loop walks it): read,never written while it is so -/
 | frz (o:Obj) (u:HO)
 /-- a code object's table -/
 | tbl (ps:Array Value)
 /-- any other thing,by what is true of its one object (a def of one's own: SetO a S n:=HO.ext fun h=>..) -/
 | ext (φ:Heap → Prop)
noncomputable abbrev Hp:=Addr → Option HO
noncomputable def upd (H:Hp) (a:Addr) (o:HO):Hp:=fun b=>if b = a then some o else H b
theorem Zby {H:Hp} {a:Addr} {o:HO}:upd H a o a = some o:=by unfold upd; rw [if_pos rfl]
theorem Zau {H:Hp} {a b:Addr} {o:HO} (h:b ≠ a):upd H a o b = H b:=by unfold upd; rw [if_neg h]
theorem Za1 {H:Hp} {a b:Addr} {o:HO} (h:H a = some o) (h':H b = none):a ≠ b:=by
 intro e; subst e; rw [h] at h'; cases h'
section
variable (P:Program) (w:World)
noncomputable def ZcR (h:Heap) (a:Addr) (items:Array Value):Prop:=∃ o,h.get? a = some o ∧ (o.cls = .type "tuple" ∧ o.dict = none) ∧ ∃ n,o.data = .seq items n
theorem ZcR.tup {h:Heap} {a:Addr} {items:Array Value} (x:ZcR h a items):IsTup h a items:=let ⟨o,e,c,d⟩:=x; ⟨o,e,c.1,d⟩
theorem ZcR.new (h:Heap) (items:Array Value):ZcR (h.push { cls:=.type "tuple",data:=.seq items }) h.objs.size items:=⟨_,Heap.get?_push_size _ rfl,⟨rfl,rfl⟩,0,rfl⟩
noncomputable def Zbf (H:Hp) (h:Heap) (a:Addr):HO → Prop
 | .lst xs=>xs.length ≤ sizeLine ∧ ∃ (its:List Value) (n:Nat),Vals xs its ∧ h.get? a = some { cls:=.type "list",data:=.seq its.toArray n }
 | .tup xs=>xs.length ≤ sizeLine ∧ ∃ its:List Value,Vals xs its ∧ ZcR h a its.toArray
 | .dK kvs=>kvs.length ≤ sizeLine ∧ (a == sysModules) = false ∧ ∃ vs,KV kvs vs ∧ h.DictOf (Ziq P w) a vs
 | .dT kvs=>kvs.length ≤ sizeLine ∧ (a == sysModules) = false ∧ ∃ xs:List (List Key × Addr × Value),
   Paired (fun (p:List Key × V) (q:List Key × Addr × Value)=>p.1 = q.1 ∧ H q.2.1 = some (.tup (p.1.map kV)) ∧ RelV p.2 q.2.2) kvs xs ∧
   ∃ o es ep,h.get? a = some o ∧ o.ExactDict ∧ o.data = .dict es ep ∧ es.toList = xs.map (entryOfKey (tupleKind (Ziq P w))) ∧ (xs.map (·.1)).Nodup
 | .set S n=>h.SetOf (intKind P w) a S n
 | .ins C dx fs=>H dx = some (.own a) ∧ fs.length ≤ 1000 ∧ dx ≠ a ∧ h.get? a = some (PySem.W.instObj C dx) ∧
   ∃ mA,h.Ns1 dx mA ∧ (∀ f,ZfL (fs.lookup f) (mA f)) ∧ PySem.Within mA (fs.map (·.1))
 | .own _=>∃ o,h.get? a = some o
 | .xd fs=>∃ mA,h.Ns1 a mA ∧ ∀ f,ZfL (fs.lookup f) (mA f)
 | .rng lo hi=>∃ t u v,h.get? a = some { cls:=.type "range",data:=.fields #[.int lo t,.int hi u,.int 1 v] }
 | .frz o u=>h.get? a = some o ∧ Zbf H h a u
 | .tbl ps=>h.get? a = some { cls:=.none,data:=.fields ps }
 | .met f x=>h.get? a = some (PySem.W.methodObj (.ref f) (.ref x))
 | .ext φ=>φ h ∧ (∃ o,h.get? a = some o) ∧ ∀ h1 h2:Heap,φ h1 → (∀ o,h1.get? a = some o → h2.get? a = some o) → φ h2
noncomputable def HOk (H:Hp) (h:Heap):Prop:=∀ a o,H a = some o → Zbf P w H h a o
end
section
variable {P:Program} {w:World} {H H':Hp} {h h':Heap} {a:Addr} {o:HO}
theorem Zbf.lt (x:Zbf P w H h a o):a < h.objs.size:=by
 cases o with
 | lst xs=>obtain ⟨_,_,_,_,e⟩:=x; exact Heap.lt_size e
 | tup xs=>obtain ⟨_,_,_,p⟩:=x; exact p.tup.lt
 | dK kvs=>obtain ⟨_,_,_,_,o,_,_,e,_⟩:=x; exact Heap.lt_size e
 | dT kvs=>obtain ⟨_,_,_,_,o,_,_,e,_⟩:=x; exact Heap.lt_size e
 | set S n=>obtain ⟨o,_,_,_,e,_⟩:=x; exact Heap.lt_size e
 | ins C dx fs=>obtain ⟨_,_,_,e,_⟩:=x; exact Heap.lt_size e
 | own y=>obtain ⟨_,e⟩:=x; exact Heap.lt_size e
 | xd fs=>obtain ⟨_,⟨_,_,_,e,_⟩,_⟩:=x; exact Heap.lt_size e
 | rng lo hi=>obtain ⟨_,_,_,e⟩:=x; exact Heap.lt_size e
 | frz ob u=>obtain ⟨e,_⟩:=x; exact Heap.lt_size e
 | tbl ps=>exact Heap.lt_size (show h.get? a = some _ from x)
 | met f y=>exact Heap.lt_size (show h.get? a = some _ from x)
 | ext φ=>obtain ⟨_,⟨_,e⟩,_⟩:=x; exact Heap.lt_size e
theorem Paired.mapP {α β:Type} {F G:α → β → Prop}:∀ {l₁:List α} {l₂:List β},Paired F l₁ l₂ → (∀ a b,F a b → G a b) → Paired G l₁ l₂
 | _,_,.nil,_=>.nil
 | _,_,.cons r t,f=>.cons (f _ _ r) (Paired.mapP t f)
theorem Zbf.stay (x:Zbf P w H h a o) (k:∀ b u,(b = a ∨ H b = some (.own a)) → h.get? b = some u → h'.get? b = some u)
  (ho:∀ b,H b = some (.own a) → H' b = some (.own a)) (ht:∀ b xs,H b = some (.tup xs) → H' b = some (.tup xs)):Zbf P w H' h' a o:=by
 induction o with
 | lst xs=>obtain ⟨z,its,n,r,e⟩:=x; exact ⟨z,its,n,r,k _ _ (.inl rfl) e⟩
 | tup xs=>obtain ⟨z,its,r,ob,e,c⟩:=x; exact ⟨z,its,r,ob,k _ _ (.inl rfl) e,c⟩
 | dK kvs=>obtain ⟨z,y,vs,r,ob,es,ep,e,c⟩:=x; exact ⟨z,y,vs,r,ob,es,ep,k _ _ (.inl rfl) e,c⟩
 | dT kvs=>
  obtain ⟨z,y,xs,r,ob,es,ep,e,c⟩:=x
  exact ⟨z,y,xs,Paired.mapP r fun p q z=>⟨z.1,ht _ _ z.2.1,z.2.2⟩,ob,es,ep,k _ _ (.inl rfl) e,c⟩
 | set S n=>obtain ⟨ob,es,ep,t,e,c⟩:=x; exact ⟨ob,es,ep,t,k _ _ (.inl rfl) e,c⟩
 | ins C dx fs=>
  obtain ⟨d,z,ne,e,mA,⟨od,es,ep,e2,c⟩,r⟩:=x
  exact ⟨ho _ d,z,ne,k _ _ (.inl rfl) e,mA,⟨od,es,ep,k _ _ (.inr d) e2,c⟩,r⟩
 | own y=>obtain ⟨ob,e⟩:=x; exact ⟨ob,k _ _ (.inl rfl) e⟩
 | xd fs=>obtain ⟨mA,⟨od,es,ep,e,c⟩,r⟩:=x; exact ⟨mA,⟨od,es,ep,k _ _ (.inl rfl) e,c⟩,r⟩
 | rng lo hi=>obtain ⟨t,u,v,e⟩:=x; exact ⟨t,u,v,k _ _ (.inl rfl) e⟩
 | frz ob u ih=>obtain ⟨e,q⟩:=x; exact ⟨k _ _ (.inl rfl) e,ih q⟩
 | tbl ps=>
  have e:h.get? a = some { cls:=.none,data:=.fields ps }:=x
  show h'.get? a = some { cls:=.none,data:=.fields ps }
  exact k a _ (.inl rfl) e
 | met f y=>
  have e:h.get? a = some (PySem.W.methodObj (.ref f) (.ref y)):=x
  show h'.get? a = some (PySem.W.methodObj (.ref f) (.ref y))
  exact k a _ (.inl rfl) e
 | ext φ=>obtain ⟨p,⟨o,e⟩,st⟩:=x; exact ⟨st _ _ p fun o q=>k _ _ (.inl rfl) q,⟨o,k _ _ (.inl rfl) e⟩,st⟩
theorem HOk.lt (x:HOk P w H h) (e:H a = some o):a < h.objs.size:=(x a o e).lt
theorem HOk.fresh (x:HOk P w H h) (e:h.objs.size ≤ a):H a = none:=by
 cases q:H a with
 | none=>rfl
 | some u=>exact absurd (Nat.lt_of_lt_of_le (x.lt q) e) (Nat.lt_irrefl _)
theorem HOk.kept (x:HOk P w H h) (k:∀ b u,h.get? b = some u → h'.get? b = some u):HOk P w H h':=fun a o e=>
 (x a o e).stay (fun b u _ q=>k b u q) (fun _ q=>q) fun _ _ q=>q
theorem HOk.laid (x:HOk P w H h) (k:∀ b u,h.get? b = some u → h'.get? b = some u) (hp:h.objs.size ≤ a) (new:Zbf P w (upd H a o) h' a o):HOk P w (upd H a o) h':=fun b u e=>by
 have hn:=x.fresh hp
 by_cases hb:b = a
 ·subst hb; rw [Zby] at e; cases e; exact new
 ·rw [Zau hb] at e
  exact (x b u e).stay (fun c v _ q=>k c v q) (fun c q=>by rw [Zau (Za1 q hn)]; exact q) fun c xs q=>by rw [Zau (Za1 q hn)]; exact q
end
noncomputable def Rd (H:Hp) (a:Addr) (u:HO):Prop:=H a = some u ∨ ∃ o,H a = some (.frz o u)
theorem Rd.ok {P:Program} {w:World} {H:Hp} {h:Heap} {a:Addr} {u:HO} (r:Rd H a u) (x:HOk P w H h):Zbf P w H h a u:=by
 rcases r with r | ⟨o,r⟩
 ·exact x a u r
 ·obtain ⟨_,q⟩:=x a _ r
  exact q
noncomputable def Mut:Option HO → Prop
 | some (.lst _)=>True
 | some (.dK _)=>True
 | some (.dT _)=>True
 | some (.set _ _)=>True
 | some (.ins _ _ _)=>True
 | some (.ext _)=>True
 | _=>False
section
variable {P:Program} {w:World} {H:Hp} {h h':Heap} {x e:Addr} {o':HO}
theorem HOk.write (ok:HOk P w H h) (mu:Mut (H x)) (he:e = x ∨ H e = some (.own x)) (k:∀ b u,b ≠ e → h.get? b = some u → h'.get? b = some u) (heo:∃ u,h'.get? e = some u)
  (new:Zbf P w (upd H x o') h' x o'):HOk P w (upd H x o') h':=fun b u q=>by
 have nown:∀ c y,H c = some (.own y) → c ≠ x:=fun c y r z=>by subst z; rw [r] at mu; exact mu
 have ntup:∀ c xs,H c = some (.tup xs) → c ≠ x:=fun c xs r z=>by subst z; rw [r] at mu; exact mu
 by_cases hb:b = x
 ·subst hb; rw [Zby] at q; cases q; exact new
 ·rw [Zau hb] at q
  by_cases hbe:b = e
  ·have q':H b = some (.own x):=by
    rcases he with z | z
    ·exact absurd (hbe.trans z) hb
    ·rw [hbe]; exact z
   rw [q] at q'; cases q'
   obtain ⟨v,hv⟩:=heo
   exact ⟨v,by rw [hbe]; exact hv⟩
  ·refine (ok b u q).stay (fun c v hc r=>k c v ?_ r) (fun c r=>by rw [Zau (nown c b r)]; exact r) fun c xs r=>by rw [Zau (ntup c xs r)]; exact r
   rcases hc with rfl | hc
   ·exact hbe
   ·rintro rfl
    rcases he with z | z
    ·exact nown c b hc z
    ·rw [hc] at z; cases z; exact hb rfl
end
structure Un (fs ex:List Addr) (H H':Hp) (h h':Heap):Prop where
 keep:∀ b o,h.get? b = some o → H b = none → b ∉ fs → b ∉ ex → h'.get? b = some o
 slot:∀ b o,h.get? b = some o → H b = none → b ∈ fs → b ∉ ex → ∃ sl,h'.get? b = some { o with slots:=sl }
 free:∀ b o,h.get? b = some o → H b = none → b ∉ ex → H' b = none
 there:∀ b o,h.get? b = some o → b ∉ ex → ∃ o',h'.get? b = some o'
 tups:∀ b xs,H b = some (.tup xs) → H' b = some (.tup xs)
 frzs:∀ b o u,H b = some (.frz o u) → H' b = some (.frz o u)
 tbls:∀ b ps,H b = some (.tbl ps) → ∃ more,H' b = some (.tbl (ps ++ more))
section
variable {fs fs' ex ex':List Addr} {H H1 H2:Hp} {h h1 h2 h':Heap} {a x e:Addr} {o:HO}
theorem Un.any (u:Un fs ex H H1 h h1) {b:Addr} {ob:Obj} (q:h.get? b = some ob) (n:H b = none) (hx:b ∉ ex):∃ sl,h1.get? b = some { ob with slots:=sl }:=by
 by_cases hb:b ∈ fs
 ·exact u.slot b ob q n hb hx
 ·exact ⟨ob.slots,u.keep b ob q n hb hx⟩
theorem Un.trans (a:Un fs ex H H1 h h1) (b:Un fs ex H1 H2 h1 h2):Un fs ex H H2 h h2 where
 keep:=fun c ob q n hc hx=>b.keep c ob (a.keep c ob q n hc hx) (a.free c ob q n hx) hc hx
 slot:=fun c ob q n hc hx=>by
  obtain ⟨sl,e1⟩:=a.slot c ob q n hc hx
  obtain ⟨sl',e2⟩:=b.slot c _ e1 (a.free c ob q n hx) hc hx
  exact ⟨sl',e2⟩
 free:=fun c ob q n hx=>by
  obtain ⟨o',e1⟩:=a.there c ob q hx
  exact b.free c o' e1 (a.free c ob q n hx) hx
 there:=fun c ob q hx=>by
  obtain ⟨o',e1⟩:=a.there c ob q hx
  exact b.there c o' e1 hx
 tups:=fun c xs q=>b.tups c xs (a.tups c xs q)
 frzs:=fun c ob xs q=>b.frzs c ob xs (a.frzs c ob xs q)
 tbls:=fun c ps q=>by
  obtain ⟨m1,e1⟩:=a.tbls c ps q
  obtain ⟨m2,e2⟩:=b.tbls c _ e1
  exact ⟨m1 ++ m2,by rw [e2,Array.append_assoc]⟩
theorem Un.kept (k:∀ b u,h.get? b = some u → h'.get? b = some u):Un fs ex H H h h':=
 ⟨fun b ob q _ _ _=>k b ob q,fun b ob q _ _ _=>⟨ob.slots,k b ob q⟩,fun _ _ _ n _=>n,fun b ob q _=>⟨ob,k b ob q⟩,fun _ _ q=>q,fun _ _ _ q=>q,fun _ ps q=>⟨#[],by rw [q]; simp⟩⟩
theorem Un.refl:Un fs ex H H h h:=Un.kept fun _ _ q=>q
theorem Un.laid (k:∀ b u,h.get? b = some u → h'.get? b = some u) (hp:h.objs.size ≤ a) (hn:H a = none):Un fs ex H (upd H a o) h h' where
 keep:=fun b u q _ _ _=>k b u q
 slot:=fun b u q _ _ _=>⟨u.slots,k b u q⟩
 free:=fun b u q n _=>by rw [Zau (Nat.ne_of_lt (Nat.lt_of_lt_of_le (Heap.lt_size q) hp))]; exact n
 there:=fun b u q _=>⟨u,k b u q⟩
 tups:=fun b xs q=>by rw [Zau (Za1 q hn)]; exact q
 frzs:=fun b u xs q=>by rw [Zau (Za1 q hn)]; exact q
 tbls:=fun b ps q=>⟨#[],by rw [Zau (Za1 q hn),q]; simp⟩
theorem Un.write (mu:Mut (H x)) (he:e = x ∨ H e = some (.own x)) (k:∀ b u,b ≠ e → h.get? b = some u → h'.get? b = some u) (heo:∃ u,h'.get? e = some u):Un fs ex H (upd H x o) h h':=by
 have hx:∀ b,H b = none → b ≠ x:=fun b n z=>by subst z; rw [n] at mu; exact mu
 have hb:∀ b,H b = none → b ≠ e:=fun b n z=>by
  subst z
  rcases he with r | r
  ·exact hx b n r
  ·rw [n] at r; cases r
 have hm:∀ b u,H b = some u → ¬ Mut (some u) → b ≠ x:=fun b u q nm z=>by subst z; rw [q] at mu; exact nm mu
 refine ⟨fun b u q n _ _=>k b u (hb b n) q,fun b u q n _ _=>⟨u.slots,k b u (hb b n) q⟩,fun b u q n _=>by rw [Zau (hx b n)]; exact n,fun b u q _=>?_,
  fun b xs q=>by rw [Zau (hm b _ q fun z=>z)]; exact q,fun b u xs q=>by rw [Zau (hm b _ q fun z=>z)]; exact q,fun b ps q=>⟨#[],by rw [Zau (hm b _ q fun z=>z),q]; simp⟩⟩
 by_cases hbe:b = e
 ·subst hbe; exact heo
 ·exact ⟨u,k b u hbe q⟩
theorem Un.mono (u:Un fs ex H H1 h h1) (hs:∀ b ∈ fs,b ∈ fs') (hx:∀ b ∈ ex,b ∈ ex'):Un fs' ex' H H1 h h1:=
 ⟨fun b ob q n hb he=>u.keep b ob q n (fun z=>hb (hs b z)) fun z=>he (hx b z),fun _ _ q n _ he=>u.any q n fun z=>he (hx _ z),fun b ob q n he=>u.free b ob q n fun z=>he (hx b z),fun b ob q he=>u.there b ob q fun z=>he (hx b z),u.tups,u.frzs,u.tbls⟩
end
noncomputable def trk (h:Heap) (H:Hp):List Addr:=(List.range h.objs.size).filter fun a=>(H a).isSome
noncomputable def ZgC (h:Heap) (H:Hp):Heap:=PySem.W.hideAll h (trk h H)
theorem Zjb (h:Heap) (H:Hp):(ZgC h H).objs.size = h.objs.size:=PySem.W.hideAll_size _ _
theorem Zkk {h:Heap} {H:Hp} {b:Addr} {o:Obj} (e:h.get? b = some o) (n:H b = none):(ZgC h H).get? b = some o:=
 PySem.W.hideAll_get _ e fun hm=>by
  have q:(H b).isSome = true:=(List.mem_filter.mp hm).2
  rw [n] at q; simp at q
theorem ZkQ {h:Heap} {H:Hp} {b:Addr} {o:Obj} (e:(ZgC h H).get? b = some o):h.get? b = some o ∧ H b = none:=by
 have e':h.get? b = some o:=PySem.W.of_hideAll (trk h H) e
 refine ⟨e',?_⟩
 cases q:H b with
 | none=>rfl
 | some x=>
  have hm:b ∈ trk h H:=List.mem_filter.mpr ⟨List.mem_range.mpr (Heap.lt_size e'),by simp [q]⟩
  have z:(ZgC h H).get? b = none:=PySem.W.hideAll_none (trk h H) hm
  rw [z] at e; cases e
noncomputable def ZkO (g h:Heap) (L:Addr):List (Addr × Obj):=(List.range h.objs.size).filterMap fun a=>if a = L ∨ (g.get? a).isSome = true then none else (h.get? a).map fun o=>(a,o)
noncomputable def rest (g h:Heap) (L d:Addr):List (Addr × Obj):=(ZkO g h L).filter fun p=>decide (p.1 ≠ d)
end L2
namespace L2
open PySem PySem.Spec PyProof.Rows
structure Mod (K:PySem.W.Frag) (mg:Str → Option Value) (base:Heap):Prop where
 kin:K.In base
 glob:base.Ns mainGlobals mg
 blt:∃ mb,base.Ns builtinsNs mb ∧ ∀ x:Str,x ≠ "__name__" → mb x = bootBuiltins x
 nolimit:base.NoLimit
/-- the context: a def's body (or a comprehension's block) running. base: fixed through the whole law; s₀,H₀: the entry; outer: the frames whose slots others may change (a def's callers); stack: all frames that run;
  ex: iterators that were made ahead of the entry and are walked here (a comprehension's); fn: the names whose cells were made at the entry (a def: all; a comprehension's block: its own); calm: not within an except suite; pn: pins that every state bears; xe: what is wanted of an exception that leaves the code -/
structure Cx where
 prog:Program
 w:World
 K:PySem.W.Frag
 mg:Str → Option Value
 base:Heap
 A:Around
 N:List Str
 s₀:Shared
 H₀:Hp
 env:Env
 outer:List Env
 stack:List Env
 ex:List Addr
 fn:Str → Bool
 calm:Bool
 pn:List (Addr × Obj)
 xe:Value → Shared → Prop
noncomputable def frs (l:List Env):List Addr:=l.filterMap (·.frame)
noncomputable abbrev Cx.fs (X:Cx):List Addr:=frs X.outer
noncomputable def Vis (sc:Scope) (x:Str):Prop:=sc.names.lookup x = some .local ∨ sc.names.lookup x = some .cell ∨ sc.names.lookup x = some .free
noncomputable def Loc (sc:Scope) (x:Str):Prop:=sc.names.lookup x = some .local ∨ sc.names.lookup x = some .cell
noncomputable def Look (env:Env) (h:Heap) (m:Str → Option Value) (x:Str) (u:Value):Prop:=
 (env.kindOf x = some .local ∧ m x = some u) ∨ ((env.kindOf x = some .cell ∨ env.kindOf x = some .free) ∧ ∃ c,env.cells.lookup x = some c ∧ h.IsCell c (some u))
structure Cx.Ok (X:Cx):Prop where
 mod:Mod X.K X.mg X.base
 kind:X.env.scope.kind = .function
 glob:X.env.globals = mainGlobals
 blt:X.env.builtins = builtinsNs
 above:X.s₀.heap.objs.size ≤ X.env.locals
 inj:∀ x y c,X.env.cells.lookup x = some c → X.env.cells.lookup y = some c → x = y
 has:∀ x,(X.env.kindOf x = some .cell ∨ X.env.kindOf x = some .free) → ∃ c,X.env.cells.lookup x = some c
 cab:∀ x c,X.fn x = true → X.env.cells.lookup x = some c → X.s₀.heap.objs.size ≤ c
 hd:X.calm = true → X.A.handled = none
 frames:X.A.frames = some X.stack
 stk:X.stack = X.outer ∨ (X.stack = X.env :: X.outer ∧ X.env.frame = some X.env.locals)
 exf:∀ b ∈ X.ex,b ≠ X.env.locals ∧ ∀ x c,X.env.cells.lookup x = some c → c ≠ b
 bs:∀ b o,X.base.get? b = some o → X.s₀.heap.get? b = some o ∧ X.H₀ b = none
 bsz:X.base.objs.size ≤ X.s₀.heap.objs.size
 noex:∀ b o,X.base.get? b = some o → b ∉ X.ex
 exfs:∀ b ∈ X.ex,b ∉ X.fs
 funs:X.s₀.heap.FunFrames X.base X.outer
 frf:∀ b ∈ X.fs,X.H₀ b = none
structure Inv (X:Cx) (pins:List (Addr × Obj)) (σ:List (Option V)) (H:Hp) (s:Shared):Prop where
 ok:X.Ok
 os:s.os = X.s₀.os
 bare:AllBare s.gens
 base:Un X.fs X.ex X.H₀ H X.s₀.heap s.heap
 loc:∃ m,s.heap.Ns X.env.locals m ∧ ∀ (i:Nat) (x:Str) (v:V),X.N[i]? = some x → σ[i]? = some (some v) → Vis X.env.scope x → ∃ u,RelV v u ∧ Look X.env s.heap m x u
 cell:∀ x c,X.env.cells.lookup x = some c → ∃ v,s.heap.IsCell c v
 free:H X.env.locals = none
 freeC:∀ x c,X.env.cells.lookup x = some c → H c = none
 pin:∀ p ∈ X.pn ++ pins,s.heap.get? p.1 = some p.2 ∧ H p.1 = none ∧ p.1 ≠ X.env.locals ∧ p.1 ∉ X.fs ∧ ∀ v,p.2.data ≠ .cell v
 hok:HOk X.prog X.w H s.heap
 len:σ.length = X.N.length
section
variable {X:Cx} {pins:List (Addr × Obj)} {σ:List (Option V)} {H H':Hp} {s:Shared} {h':Heap}
theorem Cx.Ok.nofr (ok:X.Ok) {b:Addr} {o:Obj} (e:X.base.get? b = some o):b ∉ X.fs:=fun hb=>by
 have:=(ok.funs.mem hb).1
 rw [e] at this; cases this
theorem Inv.bs (I:Inv X pins σ H s):∀ b o,X.base.get? b = some o → s.heap.get? b = some o ∧ H b = none:=fun b o e=>
 ⟨I.base.keep b o (I.ok.bs b o e).1 (I.ok.bs b o e).2 (I.ok.nofr e) (I.ok.noex b o e),I.base.free b o (I.ok.bs b o e).1 (I.ok.bs b o e).2 (I.ok.noex b o e)⟩
theorem Inv.bk (I:Inv X pins σ H s):∀ b o,X.base.get? b = some o → s.heap.get? b = some o:=fun b o e=>(I.bs b o e).1
theorem Inv.mod (I:Inv X pins σ H s):Mod X.K X.mg X.base:=I.ok.mod
theorem Inv.kIn (I:Inv X pins σ H s):X.K.In s.heap:=I.ok.mod.kin.keeps I.bk
theorem Inv.nolimit (I:Inv X pins σ H s):s.heap.NoLimit:=I.ok.mod.nolimit.keeps I.bk
theorem Inv.lt (I:Inv X pins σ H s):X.env.locals < s.heap.objs.size:=let ⟨_,hn,_⟩:=I.loc; hn.lt
theorem Inv.sz (I:Inv X pins σ H s):X.s₀.heap.objs.size ≤ s.heap.objs.size:=Nat.le_trans I.ok.above (Nat.le_of_lt I.lt)
theorem Inv.nofs (I:Inv X pins σ H s) {a:Addr} (h:s.heap.objs.size ≤ a):a ∉ X.fs:=fun hb=>by
 obtain ⟨_,o,ho,_⟩:=I.ok.funs.mem hb
 exact absurd (Nat.lt_of_lt_of_le (Heap.lt_size ho) (Nat.le_trans I.sz h)) (Nat.lt_irrefl _)
theorem Inv.cne (I:Inv X pins σ H s):∀ x c,X.env.cells.lookup x = some c → c ≠ X.env.locals:=fun x c e z=>by
 obtain ⟨v,o,ho,hd⟩:=I.cell x c e
 obtain ⟨m,⟨o',es,ep,ho',hd',_⟩,_⟩:=I.loc
 rw [z,ho'] at ho; cases ho; rw [hd'] at hd; cases hd
theorem Inv.funs (I:Inv X pins σ H s):s.heap.FunFrames X.base X.outer:=by
 have all:∀ (l:List Env),(∀ b ∈ frs l,b ∈ X.fs) → X.s₀.heap.FunFrames X.base l → s.heap.FunFrames X.base l:=by
  intro l
  induction l with
  | nil=>intro _ _; trivial
  | cons env r ih=>
   intro hs hl
   obtain ⟨hk,⟨L,o,hf,hn,ho,hd⟩,hr⟩:=hl
   have hL:L ∈ X.fs:=hs L (by unfold frs; rw [List.filterMap_cons,hf]; exact List.mem_cons_self)
   obtain ⟨sl,e⟩:=I.base.slot L o ho (I.ok.frf L hL) hL fun z=>I.ok.exfs L z hL
   exact ⟨hk,⟨L,_,hf,hn,e,hd⟩,ih (fun b hb=>hs b (by unfold frs; rw [List.filterMap_cons,hf]; exact List.mem_cons_of_mem _ hb)) hr⟩
 exact all X.outer (fun _ hb=>hb) I.ok.funs
theorem Inv.stack (I:Inv X pins σ H s):s.heap.FunFrames X.base X.stack:=by
 rcases I.ok.stk with e | ⟨e,hf⟩
 ·rw [e]; exact I.funs
 ·rw [e]
  obtain ⟨m,hn,_⟩:=I.loc
  refine .cons (by rw [I.ok.kind]; decide) hf hn ?_ I.funs
  exact Heap.get?_none_of_le (Nat.le_trans I.ok.bsz I.ok.above)
theorem Inv.stkSub (I:Inv X pins σ H s):∀ b ∈ frs X.stack,b ∈ X.env.locals :: X.fs:=fun b hb=>by
 rcases I.ok.stk with e | ⟨e,hf⟩
 ·rw [e] at hb; exact List.mem_cons_of_mem _ hb
 ·rw [e] at hb
  unfold frs at hb
  rw [List.filterMap_cons,hf] at hb
  exact hb
theorem Inv.stkFree (I:Inv X pins σ H s):∀ b ∈ frs X.stack,H b = none:=fun b hb=>by
 rcases List.mem_cons.mp (I.stkSub b hb) with e | hb
 ·rw [e]; exact I.free
 ·obtain ⟨_,o,ho,_⟩:=I.ok.funs.mem hb
  exact I.base.free b o ho (I.ok.frf b hb) fun z=>I.ok.exfs b z hb
theorem Inv.step {g':Array GenState} {t':Nat} {d':Drawn} {ch:List Addr} (I:Inv X pins σ H s)
  (hch:∀ b ∈ ch,(b ∈ X.ex ∨ X.s₀.heap.objs.size ≤ b) ∧ b ≠ X.env.locals ∧ (∀ x c,X.env.cells.lookup x = some c → c ≠ b) ∧ ∀ p ∈ X.pn ++ pins,p.1 ≠ b)
  (keep:∀ b o,b ≠ X.env.locals → b ∉ X.fs → b ∉ ch → s.heap.get? b = some o → H b = none → h'.get? b = some o)
  (slot:∀ b o,b ≠ X.env.locals → b ∈ X.fs → b ∉ ch → s.heap.get? b = some o → H b = none → ∃ sl,h'.get? b = some { o with slots:=sl }) (free:∀ b o,b ∉ ch → s.heap.get? b = some o → H b = none → H' b = none)
  (there:∀ b o,b ∉ ch → s.heap.get? b = some o → ∃ o',h'.get? b = some o')
  (tups:∀ b xs,H b = some (.tup xs) → H' b = some (.tup xs)) (frzs:∀ b o u,H b = some (.frz o u) → H' b = some (.frz o u)) (tbls:∀ b ps,H b = some (.tbl ps) → ∃ more,H' b = some (.tbl (ps ++ more)))
  (ns:∀ m,s.heap.Ns X.env.locals m → h'.Ns X.env.locals m) (hok:HOk X.prog X.w H' h') (hg:AllBare g'):
  Inv X pins σ H' { s with heap:=h',gens:=g',drawn:=d',toks:=t' }:=by
 have neL:∀ b o,X.s₀.heap.get? b = some o → b ≠ X.env.locals:=fun b o e=>Nat.ne_of_lt (Nat.lt_of_lt_of_le (Heap.lt_size e) I.ok.above)
 have neC:∀ b o,X.s₀.heap.get? b = some o → b ∉ X.ex → b ∉ ch:=fun b o e hx hb=>by
  rcases (hch b hb).1 with z | z
  ·exact hx z
  ·exact absurd (Nat.lt_of_lt_of_le (Heap.lt_size e) z) (Nat.lt_irrefl _)
 have cellK:∀ x c,X.env.cells.lookup x = some c → ∀ v,s.heap.IsCell c v → h'.IsCell c v:=fun x c e v zz1=>by
  obtain ⟨o,ho,hd⟩:=zz1
  have nch:c ∉ ch:=fun z=>(hch c z).2.2.1 x c e rfl
  by_cases hc:c ∈ X.fs
  ·obtain ⟨sl,q⟩:=slot c o (I.cne x c e) hc nch ho (I.freeC x c e)
   exact ⟨_,q,hd⟩
  ·exact ⟨o,keep c o (I.cne x c e) hc nch ho (I.freeC x c e),hd⟩
 refine ⟨I.ok,I.os,hg,⟨fun b o e n hb hx=>?_,fun b o e n hb hx=>?_,fun b o e n hx=>?_,fun b o e hx=>?_,fun b xs e=>tups b xs (I.base.tups b xs e),fun b o xs e=>frzs b o xs (I.base.frzs b o xs e),fun b ps e=>?_⟩,?_,fun x c e=>?_,?_,fun x c e=>?_,fun p hp=>?_,hok,I.len⟩
 ·exact keep b o (neL b o e) hb (neC b o e hx) (I.base.keep b o e n hb hx) (I.base.free b o e n hx)
 ·obtain ⟨sl,e1⟩:=I.base.slot b o e n hb hx
  obtain ⟨sl',e2⟩:=slot b _ (neL b o e) hb (neC b o e hx) e1 (I.base.free b o e n hx)
  exact ⟨sl',e2⟩
 ·obtain ⟨o',e1⟩:=I.base.there b o e hx
  exact free b o' (neC b o e hx) e1 (I.base.free b o e n hx)
 ·obtain ⟨o',e1⟩:=I.base.there b o e hx
  exact there b o' (neC b o e hx) e1
 ·obtain ⟨m1,e1⟩:=I.base.tbls b ps e
  obtain ⟨m2,e2⟩:=tbls b _ e1
  exact ⟨m1 ++ m2,by rw [e2,Array.append_assoc]⟩
 ·obtain ⟨m,hn,hl⟩:=I.loc
  refine ⟨m,ns m hn,fun i x v e1 e2 e3=>?_⟩
  obtain ⟨u,r,l⟩:=hl i x v e1 e2 e3
  refine ⟨u,r,?_⟩
  rcases l with l | ⟨k,c,e,z⟩
  ·exact .inl l
  ·exact .inr ⟨k,c,e,cellK x c e _ z⟩
 ·obtain ⟨v,z⟩:=I.cell x c e
  exact ⟨v,cellK x c e v z⟩
 ·obtain ⟨m,⟨o,_,_,ho,_⟩,_⟩:=I.loc
  exact free _ o (fun z=>(hch _ z).2.1 rfl) ho I.free
 ·obtain ⟨v,o,ho,hd⟩:=I.cell x c e
  exact free c o (fun z=>(hch c z).2.2.1 x c e rfl) ho (I.freeC x c e)
 ·obtain ⟨e,n,ne,nf,d⟩:=I.pin p hp
  have nch:p.1 ∉ ch:=fun z=>(hch p.1 z).2.2.2 p hp rfl
  exact ⟨keep p.1 p.2 ne nf nch e n,free p.1 p.2 nch e n,ne,nf,d⟩
theorem Inv.un {t':Nat} (I:Inv X pins σ H s) (u:Un X.fs [] H H' s.heap h') (hok:HOk X.prog X.w H' h'):Inv X pins σ H' { s with heap:=h',toks:=t' }:=by
 obtain ⟨m,⟨o,es,ep,ho,r⟩,_⟩:=id I.loc
 obtain ⟨sl,hL⟩:=u.any ho I.free (by simp)
 exact I.step (g':=s.gens) (d':=s.drawn) (ch:=[]) (fun _ z=>nomatch z) (fun b o _ hb _ e n=>u.keep b o e n hb (by simp)) (fun b o _ hb _ e n=>u.slot b o e n hb (by simp)) (fun b o _ e n=>u.free b o e n (by simp)) (fun b o _ e=>u.there b o e (by simp)) u.tups u.frzs u.tbls (fun m' hm=>by
  obtain ⟨o',es',ep',ho',r'⟩:=hm
  rw [ho] at ho'; cases ho'
  exact ⟨_,es',ep',hL,r'⟩) hok I.bare
theorem Inv.call {g':Array GenState} {t':Nat} {d':Drawn} {ch:List Addr} (I:Inv X pins σ H s) (u:Un (frs X.stack) ch H H' s.heap h') (hok:HOk X.prog X.w H' h') (hg:AllBare g')
  (hch:∀ b ∈ ch,(b ∈ X.ex ∨ X.s₀.heap.objs.size ≤ b) ∧ b ≠ X.env.locals ∧ (∀ x c,X.env.cells.lookup x = some c → c ≠ b) ∧ ∀ p ∈ X.pn ++ pins,p.1 ≠ b):
  Inv X pins σ H' { s with heap:=h',gens:=g',drawn:=d',toks:=t' }:=by
 obtain ⟨m,⟨o,es,ep,ho,r⟩,_⟩:=id I.loc
 obtain ⟨sl,hL⟩:=u.any ho I.free fun z=>(hch _ z).2.1 rfl
 exact I.step (ch:=ch) hch (fun b o hL hb hc e n=>u.keep b o e n (fun z=>(List.mem_cons.mp (I.stkSub b z)).elim hL hb) hc) (fun b o _ _ hc e n=>u.any e n hc) (fun b o hc e n=>u.free b o e n hc) (fun b o hc e=>u.there b o e hc) u.tups u.frzs u.tbls (fun m' hm=>by
  obtain ⟨o',es',ep',ho',r'⟩:=hm
  rw [ho] at ho'; cases ho'
  exact ⟨_,es',ep',hL,r'⟩) hok hg
theorem Inv.turned {t':Nat} {it:Addr} (I:Inv X pins σ H s) (k:∀ b o,b ≠ it → s.heap.get? b = some o → h'.get? b = some o) (hn:H it = none) (hL:it ≠ X.env.locals)
  (h1:it ∈ X.ex ∨ X.s₀.heap.objs.size ≤ it) (h2:∀ x c,X.env.cells.lookup x = some c → c ≠ it) (h3:∀ p ∈ X.pn ++ pins,p.1 ≠ it):Inv X pins σ H { s with heap:=h',toks:=t' }:=by
 have nit:∀ b u,H b = some u → b ≠ it:=fun b u e z=>by rw [z,hn] at e; cases e
 refine I.step (g':=s.gens) (d':=s.drawn) (ch:=[it]) (fun b hb=>?_) (fun b o _ _ hc e _=>k b o (fun z=>hc (by simp [z])) e) (fun b o _ _ hc e _=>⟨o.slots,k b o (fun z=>hc (by simp [z])) e⟩) (fun _ _ _ _ n=>n)
  (fun b o hc e=>⟨o,k b o (fun z=>hc (by simp [z])) e⟩) (fun _ _ e=>e) (fun _ _ _ e=>e) (fun b ps e=>⟨#[],by rw [e]; simp⟩) (fun m hm=>?_) (fun b u e=>?_) I.bare
 ·have e:b = it:=by simpa using hb
  subst e
  exact ⟨h1,hL,h2,h3⟩
 ·obtain ⟨o,es,ep,ho,r⟩:=hm
  exact ⟨o,es,ep,k _ o (Ne.symm hL) ho,r⟩
 ·refine (I.hok b u e).stay (fun c v hc q=>k c v ?_ q) (fun _ q=>q) fun _ _ q=>q
  rcases hc with z | z
  ·rw [z]; exact nit b u e
  ·exact nit c _ z
theorem Inv.tok (I:Inv X pins σ H s) (t:Nat):Inv X pins σ H { s with toks:=t }:=I.un (h':=s.heap) (t':=t) Un.refl I.hok
theorem Inv.kept {t':Nat} (I:Inv X pins σ H s) (k:∀ b u,s.heap.get? b = some u → h'.get? b = some u):Inv X pins σ H { s with heap:=h',toks:=t' }:=I.un (Un.kept k) (I.hok.kept k)
theorem Inv.laid {a:Addr} {o:HO} {t':Nat} (I:Inv X pins σ H s) (k:∀ b u,s.heap.get? b = some u → h'.get? b = some u) (hp:s.heap.objs.size ≤ a) (new:Zbf X.prog X.w (upd H a o) h' a o):
  Inv X pins σ (upd H a o) { s with heap:=h',toks:=t' }:=I.un (Un.laid k hp (I.hok.fresh hp)) (I.hok.laid k hp new)
theorem Inv.write {x e:Addr} {o:HO} {t':Nat} (I:Inv X pins σ H s) (mu:Mut (H x)) (he:e = x ∨ H e = some (.own x)) (k:∀ b u,b ≠ e → s.heap.get? b = some u → h'.get? b = some u) (heo:∃ u,h'.get? e = some u)
  (new:Zbf X.prog X.w (upd H x o) h' x o):Inv X pins σ (upd H x o) { s with heap:=h',toks:=t' }:=I.un (Un.write mu he k heo) (I.hok.write mu he k heo new)
theorem Inv.pins_of {pins':List (Addr × Obj)} (I:Inv X pins σ H s) (h:∀ p ∈ pins',s.heap.get? p.1 = some p.2 ∧ H p.1 = none ∧ p.1 ≠ X.env.locals ∧ p.1 ∉ X.fs ∧ ∀ v,p.2.data ≠ .cell v):Inv X pins' σ H s:=
 ⟨I.ok,I.os,I.bare,I.base,I.loc,I.cell,I.free,I.freeC,fun p hp=>(List.mem_append.mp hp).elim (fun z=>I.pin p (List.mem_append_left _ z)) (h p),I.hok,I.len⟩
theorem Zfy {N:List Str} (hN:N.Nodup) {i j:Nat} {x:Str} (a:N[i]? = some x) (b:N[j]? = some x):i = j:=by
 obtain ⟨h1,e1⟩:=List.getElem?_eq_some_iff.mp a
 obtain ⟨h2,e2⟩:=List.getElem?_eq_some_iff.mp b
 exact (List.getElem_inj hN).mp (e1.trans e2.symm)
theorem Zi4 {M:Model} {A:Around} {E:Value → Shared → Prop} {i:Nat} {x:Str} {v:V} {u:Value} {Q:Unit → Shared → Prop} (I:Inv X pins σ H s) (hN:X.N.Nodup) (hi:X.N[i]? = some x) (hx:Loc X.env.scope x) (r:RelV v u)
  (h:∀ s',Inv X pins (σ.set i (some v)) H s' → (∃ a,Heap.SameBut a s.heap s'.heap ∧ (a = X.env.locals ∨ X.env.cells.lookup x = some a)) → Q () s') (hf:X.fn x = true ∨ X.env.scope.names.lookup x = some .local:=by first | exact .inl rfl | exact .inr rfl | assumption):wpAny M A (storeName X.env x u) Q E s:=by
 obtain ⟨m,hn,hl⟩:=id I.loc
 have hcls:(X.env.scope.kind == .class || (X.env.scope.kind == .module && X.env.locals != X.env.globals)) = false:=by rw [I.ok.kind]; rfl
 have hiσ:i < σ.length:=by rw [I.len]; exact (List.getElem?_eq_some_iff.mp hi).1
 have cne:=I.cne
 have tracked:∀ {a:Addr} {h':Heap},(∃ o,s.heap.get? a = some o ∧ H a = none) → Heap.SameBut a s.heap h' → HOk X.prog X.w H h':=fun {a h'} ha hs b ob e=>by
  obtain ⟨_,_,hfree⟩:=ha
  refine (I.hok b ob e).stay (fun c w' hc q=>(hs.2 c ?_).trans q) (fun _ q=>q) fun _ _ q=>q
  rintro rfl
  rcases hc with rfl | hc
  ·rw [hfree] at e; cases e
  ·rw [hfree] at hc; cases hc
 rcases hx with hk | hk
 ·refine wpAny_storeName_local hk hn (fun h' hn' hs=>?_) hcls
  obtain ⟨oL,_,_,hoL,_⟩:=id hn
  refine h _ ⟨I.ok,I.os,I.bare,⟨fun b o e n hb hx=>?_,fun b o e n hb hx=>?_,I.base.free,fun b o e hx=>?_,I.base.tups,I.base.frzs,I.base.tbls⟩,⟨_,hn',fun j y v' e1 e2 e3=>?_⟩,fun y c e=>?_,I.free,I.freeC,fun p hp=>?_,tracked ⟨oL,hoL,I.free⟩ hs,by simpa using I.len⟩ ⟨_,hs,.inl rfl⟩
  ·exact (hs.2 b (Nat.ne_of_lt (Nat.lt_of_lt_of_le (Heap.lt_size e) I.ok.above))).trans (I.base.keep b o e n hb hx)
  ·obtain ⟨sl,e1⟩:=I.base.slot b o e n hb hx
   exact ⟨sl,(hs.2 b (Nat.ne_of_lt (Nat.lt_of_lt_of_le (Heap.lt_size e) I.ok.above))).trans e1⟩
  ·obtain ⟨o',e1⟩:=I.base.there b o e hx
   exact ⟨o',(hs.2 b (Nat.ne_of_lt (Nat.lt_of_lt_of_le (Heap.lt_size e) I.ok.above))).trans e1⟩
  ·by_cases hj:j = i
   ·subst hj
    rw [hi] at e1; cases e1
    rw [List.getElem?_set_self hiσ] at e2
    cases e2
    exact ⟨u,r,.inl ⟨hk,by simp⟩⟩
   ·rw [List.getElem?_set_ne (Ne.symm hj)] at e2
    obtain ⟨u',r',q⟩:=hl j y v' e1 e2 e3
    refine ⟨u',r',?_⟩
    rcases q with ⟨k,e⟩ | ⟨k,c,e,z⟩
    ·refine .inl ⟨k,?_⟩
     have:y ≠ x:=fun e=>hj (Zfy hN e1 (e ▸ hi))
     simp [this,e]
    ·exact .inr ⟨k,c,e,z.sameBut hs (cne y c e)⟩
  ·obtain ⟨w',z⟩:=I.cell y c e
   exact ⟨w',z.sameBut hs (cne y c e)⟩
  ·obtain ⟨e,n,ne,nf,d⟩:=I.pin p hp
   exact ⟨(hs.2 p.1 ne).trans e,n,ne,nf,d⟩
 ·have hfn:X.fn x = true:=by
   rcases hf with z | z
   ·exact z
   ·rw [z] at hk; cases hk
  obtain ⟨c,hc⟩:=I.ok.has x (.inl hk)
  obtain ⟨w',z⟩:=I.cell x c hc
  refine wpAny_storeName_cell I.ok.kind hk hc z (fun h' hc' hs=>?_)
  obtain ⟨oc,hoc,hocd⟩:=id z
  refine h { s with heap:=h' } ⟨I.ok,I.os,I.bare,⟨fun b o e n hb hx=>?_,fun b o e n hb hx=>?_,I.base.free,fun b o e hx=>?_,I.base.tups,I.base.frzs,I.base.tbls⟩,⟨m,hn.sameBut hs (Ne.symm (cne x c hc)),fun j y v' e1 e2 e3=>?_⟩,fun y c' e=>?_,I.free,I.freeC,fun p hp=>?_,tracked ⟨oc,hoc,I.freeC x c hc⟩ hs,by simpa using I.len⟩ ⟨c,hs,.inr hc⟩
  ·exact (hs.2 b (Nat.ne_of_lt (Nat.lt_of_lt_of_le (Heap.lt_size e) (I.ok.cab x c hfn hc)))).trans (I.base.keep b o e n hb hx)
  ·obtain ⟨sl,e1⟩:=I.base.slot b o e n hb hx
   exact ⟨sl,(hs.2 b (Nat.ne_of_lt (Nat.lt_of_lt_of_le (Heap.lt_size e) (I.ok.cab x c hfn hc)))).trans e1⟩
  ·obtain ⟨o',e1⟩:=I.base.there b o e hx
   exact ⟨o',(hs.2 b (Nat.ne_of_lt (Nat.lt_of_lt_of_le (Heap.lt_size e) (I.ok.cab x c hfn hc)))).trans e1⟩
  ·by_cases hj:j = i
   ·subst hj
    rw [hi] at e1; cases e1
    rw [List.getElem?_set_self hiσ] at e2
    cases e2
    exact ⟨u,r,.inr ⟨.inl hk,c,hc,hc'⟩⟩
   ·rw [List.getElem?_set_ne (Ne.symm hj)] at e2
    obtain ⟨u',r',q⟩:=hl j y v' e1 e2 e3
    refine ⟨u',r',?_⟩
    rcases q with q | ⟨k,c',e,z'⟩
    ·exact .inl q
    ·refine .inr ⟨k,c',e,z'.sameBut hs ?_⟩
     rintro rfl
     exact hj (Zfy hN e1 (I.ok.inj _ _ _ e hc ▸ hi))
  ·by_cases hcc:c' = c
   ·subst hcc; exact ⟨_,hc'⟩
   ·obtain ⟨w2,z2⟩:=I.cell y c' e
    exact ⟨w2,z2.sameBut hs hcc⟩
  ·obtain ⟨e,n,ne,nf,d⟩:=I.pin p hp
   refine ⟨(hs.2 p.1 ?_).trans e,n,ne,nf,d⟩
   intro q
   rw [q,hoc] at e
   have q':oc = p.2:=Option.some.inj e
   exact d w' (by rw [← q']; exact hocd)
theorem Zfn {M:Model} {A:Around} {E:Value → Shared → Prop} {i:Nat} {x:Str} {v:V} {u:Value} {Q:Unit → Shared → Prop} (I:Inv X pins σ H s) (hN:X.N.Nodup) (hi:X.N[i]? = some x) (hx:Loc X.env.scope x) (r:RelV v u)
  (h:∀ s',Inv X pins (σ.set i (some v)) H s' → Q () s') (hf:X.fn x = true ∨ X.env.scope.names.lookup x = some .local:=by first | exact .inl rfl | exact .inr rfl | assumption):wpAny M A (storeName X.env x u) Q E s:=
 Zi4 I hN hi hx r (fun s' I' _=>h s' I') hf
theorem Inv.call' {s':Shared} {ch:List Addr} (I:Inv X pins σ H s) (ho:s'.os = s.os) (u:Un (frs X.stack) ch H H' s.heap s'.heap) (hok:HOk X.prog X.w H' s'.heap) (hg:AllBare s'.gens)
  (hch:∀ b ∈ ch,(b ∈ X.ex ∨ X.s₀.heap.objs.size ≤ b) ∧ b ≠ X.env.locals ∧ (∀ x c,X.env.cells.lookup x = some c → c ≠ b) ∧ ∀ p ∈ X.pn ++ pins,p.1 ≠ b):Inv X pins σ H' s':=by
 obtain ⟨h',g',d',t',o'⟩:=s'
 have e:o' = s.os:=ho
 subst e
 exact I.call (g':=g') (t':=t') (d':=d') u hok hg hch
end
noncomputable abbrev XK:=Value → Option Addr → Hp → Prop
noncomputable abbrev St:=List (Option V)
noncomputable abbrev VK:=V → Hp → Prop
noncomputable abbrev TE:=St → Hp → VK → Prop
noncomputable abbrev TT:=St → Hp → (Bool → Hp → Prop) → Prop
noncomputable abbrev TA:=St → Hp → (List V → Hp → Prop) → Prop
structure Ends where
 nx:St → Hp → Prop
 rt:VK
 bk:St → Hp → Prop:=fun _ _=>False
 ct:St → Hp → Prop:=fun _ _=>False
noncomputable abbrev TS:=Ends → St → Hp → Prop
noncomputable def EP (X:Cx) (pins:List (Addr × Obj)) (σ:St) (Q:VK) (u:Value) (s':Shared):Prop:=∃ v H',Inv X pins σ H' s' ∧ RelV v u ∧ Q v H'
noncomputable def TP (X:Cx) (pins:List (Addr × Obj)) (σ:St) (Q:Bool → Hp → Prop) (b:Bool) (s':Shared):Prop:=∃ H',Inv X pins σ H' s' ∧ Q b H'
noncomputable def AP (X:Cx) (pins:List (Addr × Obj)) (σ:St) (Q:List V → Hp → Prop) (us:List Value) (s':Shared):Prop:=∃ vs H',Inv X pins σ H' s' ∧ Vals vs us ∧ Q vs H'
noncomputable def SP (X:Cx) (pins:List (Addr × Obj)) (D:Ends) (f:Flow) (s':Shared):Prop:=
 match f with
 | .next=>∃ σ' H',Inv X pins σ' H' s' ∧ D.nx σ' H'
 | .brk=>∃ σ' H',Inv X pins σ' H' s' ∧ D.bk σ' H'
 | .cont=>∃ σ' H',Inv X pins σ' H' s' ∧ D.ct σ' H'
 | .ret u=>∃ v σ' H',Inv X pins σ' H' s' ∧ RelV v u ∧ D.rt v H'
noncomputable def PE (X:Cx) (e:Expr) (t:TE):Prop:=
 ∀ (pins:List (Addr × Obj)) (s:Shared) (σ:St) (H:Hp) (Q:VK),Inv X pins σ H s → t σ H Q → wpAny (model X.prog X.w) X.A (eval e X.env) (EP X pins σ Q) X.xe s
noncomputable def PT (X:Cx) (e:Expr) (t:TT):Prop:=
 ∀ (pins:List (Addr × Obj)) (s:Shared) (σ:St) (H:Hp) (Q:Bool → Hp → Prop),Inv X pins σ H s → t σ H Q → wpAny (model X.prog X.w) X.A (isTrue e X.env (eval e X.env)) (TP X pins σ Q) X.xe s
noncomputable def PW (X:Cx) (e:Expr) (t:TT):Prop:=
 ∀ (whole:Sem Value) (pins:List (Addr × Obj)) (s:Shared) (σ:St) (H:Hp) (Q:Bool → Hp → Prop),Inv X pins σ H s → t σ H Q → wpAny (model X.prog X.w) X.A (isTrue e X.env whole) (TP X pins σ Q) X.xe s
theorem PW.pt {X:Cx} {e:Expr} {t:TT} (h:PW X e t):PT X e t:=h _
noncomputable def PA (X:Cx) (es:List Expr) (t:TA):Prop:=
 ∀ (pos:Pos) (pins:List (Addr × Obj)) (s:Shared) (σ:St) (H:Hp) (Q:List V → Hp → Prop),Inv X pins σ H s → t σ H Q → wpAny (model X.prog X.w) X.A (spliced (backTo pos (starEach es X.env))) (AP X pins σ Q) X.xe s
noncomputable def PS (X:Cx) (st:Stmt) (t:TS):Prop:=
 ∀ (pins:List (Addr × Obj)) (s:Shared) (σ:St) (H:Hp) (D:Ends),Inv X pins σ H s → t D σ H → wpAny (model X.prog X.w) X.A (exec st X.env) (SP X pins D) X.xe s
noncomputable def PSs (X:Cx) (st:List Stmt) (t:TS):Prop:=
 ∀ (pins:List (Addr × Obj)) (s:Shared) (σ:St) (H:Hp) (D:Ends),Inv X pins σ H s → t D σ H → wpAny (model X.prog X.w) X.A (execs st X.env) (SP X pins D) X.xe s
theorem thn {α:Type} {t:Sem α} {Q Q':α → Shared → Prop} {M:Model} {A:Around} {E:Value → Shared → Prop} {s:Shared} (h:wpAny M A t Q E s) (hQ:∀ a s,Q a s → Q' a s):wpAny M A t Q' E s:=wpAny_mono h hQ fun _ _ x=>x
end L2
namespace L2
open PySem PySem.Spec PyProof.Rows
section
variable {X:Cx}
noncomputable def Zo6 (i:Nat):TE:=fun σ H Q=>∃ v,σ[i]? = some (some v) ∧ Q v H
noncomputable def tC (v:V):TE:=fun _ H Q=>Q v H
theorem Zmf {i:Nat} {x:Str} {pos:Pos} (hN:X.N[i]? = some x) (hv:Vis X.env.scope x) (hd:(x == ("__debug__":Str)) = false:=by decide) (hcd:(x == ("__classdict__":Str)) = false:=by decide):PE X (.Name x pos) (Zo6 i):=by
 intro pins s σ H Q I h
 obtain ⟨v,e,h⟩:=h
 obtain ⟨m,hn,hl⟩:=I.loc
 obtain ⟨u,r,l⟩:=hl i x v hN e hv
 have fin:EP X pins σ Q u s:=⟨v,H,I,r,h⟩
 rcases l with ⟨hk,hm⟩ | ⟨hk,c,hc,hcell⟩
 ·exact wpAny_Name (wpAny_loadName_local I.ok.kind hk hn hm fin) hd
 ·rcases hk with hk | hk
  ·exact wpAny_Name (wpAny_loadName_cell I.ok.kind hk hc hcell fin) hd
  ·exact wpAny_Name (wpAny_loadName_free I.ok.kind hk hc hcell fin hcd) hd
theorem Zmi {i j pos}:PE X (.Constant (.int i) j pos) (tC (.int i)):=fun _ _ _ H _ I h=>wpAny_Constant_int ⟨.int i,H,I.tok _,⟨_,rfl⟩,h⟩
theorem ZoM {b j pos}:PE X (.Constant (.bool b) j pos) (tC (.bl b)):=fun _ _ _ H _ I h=>Constant_bool ⟨.bl b,H,I,rfl,h⟩
theorem ZmY {j pos}:PE X (.Constant .none j pos) (tC .non):=fun _ _ _ H _ I h=>Constant_none ⟨.non,H,I,rfl,h⟩
theorem ZmX {x j pos}:PE X (.Constant (.str x) j pos) (tC (.str x)):=fun _ _ _ H _ I h=>Calls.Constant_str ⟨.str x,H,I.tok _,⟨_,rfl⟩,h⟩
noncomputable def Gl (X:Cx) (x:Str):Prop:=X.env.kindOf x = some .globalImplicit
theorem ZeH {E:Value → Shared → Prop} {pins:List (Addr × Obj)} {s:Shared} {σ:St} {H:Hp} {x:Str} {u:Value} {pos:Pos} {Q:Value → Shared → Prop} (I:Inv X pins σ H s) (hg:Gl X x) (hm:X.mg x = some u) (h:Q u s)
  (hd:(x == ("__debug__":Str)) = false:=by decide):wpAny (model X.prog X.w) X.A (eval (.Name x pos) X.env) Q E s:=
 Calls.Name_function_global I.ok.kind hg (Calls.loadGlobal_global (by rw [I.ok.glob]; exact I.mod.glob.keeps I.bk) hm h) hd
theorem ZfX {E:Value → Shared → Prop} {pins:List (Addr × Obj)} {s:Shared} {σ:St} {H:Hp} {x:Str} {u:Value} {pos:Pos} {Q:Value → Shared → Prop} (I:Inv X pins σ H s) (hg:Gl X x) (hm:X.mg x = none) (hv:bootBuiltins x = some u) (h:Q u s)
  (hn:x ≠ "__name__":=by decide) (hd:(x == ("__debug__":Str)) = false:=by decide):wpAny (model X.prog X.w) X.A (eval (.Name x pos) X.env) Q E s:=by
 obtain ⟨mb,h1,h2⟩:=I.mod.blt
 exact Calls.Name_function_global I.ok.kind hg (Calls.loadGlobal_builtin (by rw [I.ok.glob]; exact I.mod.glob.keeps I.bk) hm (by rw [I.ok.blt]; exact h1.keeps I.bk) ((h2 x hn).trans hv) h) hd
theorem ZiG {x:Str} {v:V} {u:Value} {pos:Pos} (hg:Gl X x) (hm:X.mg x = some u) (r:RelV v u) (hd:(x == ("__debug__":Str)) = false:=by decide):PE X (.Name x pos) (tC v):=
 fun _ _ _ H _ I h=>ZeH I hg hm ⟨v,H,I,r,h⟩ hd
theorem Zir {x:Str} {v:V} {u:Value} {pos:Pos} (hg:Gl X x) (hm:X.mg x = none) (hv:bootBuiltins x = some u) (r:RelV v u) (hn:x ≠ "__name__":=by decide) (hd:(x == ("__debug__":Str)) = false:=by decide):PE X (.Name x pos) (tC v):=
 fun _ _ _ H _ I h=>ZfX I hg hm hv ⟨v,H,I,r,h⟩ hn hd
variable {a b:Expr} {ta tb:TE} {pos:Pos}
noncomputable def tB (t:TE):TT:=fun σ H Q=>t σ H fun x H1=>∃ c,x = .bl c ∧ Q c H1
theorem Znm {e:Expr} {t:TE} (h:PE X e t) (he:∀ whole,isTrue e X.env whole = (do let v ← whole; standAt e.pos; holding [v] (truthy v)):=by intro _; rfl):PT X e (tB t):=by
 intro pins s σ H Q I hw
 refine isTrue_plain (thn (h pins s σ H _ I hw) fun v s1 zz1=>?_) (he _)
 obtain ⟨x,H1,I1,r1,q1⟩:=zz1
 obtain ⟨d,rfl,q⟩:=q1
 cases r1
 exact wpAny_truthy_bool ⟨H1,I1,q⟩
variable {tA tB':TT} {rest:List Expr}
noncomputable def Zpf (t u:TT):TT:=fun σ H Q=>t σ H fun c H1=>if c = true then u σ H1 Q else Q false H1
noncomputable def tOr (t u:TT):TT:=fun σ H Q=>t σ H fun c H1=>if c = true then Q true H1 else u σ H1 Q
noncomputable def Zpx (t:TT):TT:=fun σ H Q=>t σ H fun c H1=>Q (!c) H1
theorem Zlv (ha:PT X a tA):PW X (.BoolOp .And [a] pos) tA:=by
 intro wh pins s σ H Q I h
 refine isTrue_and (thn (ha pins s σ H Q I h) fun c s1 e=>?_)
 cases c with
 | true=>exact isTrue_and_nil e
 | false=>exact e
theorem Zmw (ha:PT X a tA):PW X (.BoolOp .Or [a] pos) tA:=by
 intro wh pins s σ H Q I h
 refine isTrue_or (thn (ha pins s σ H Q I h) fun c s1 e=>?_)
 cases c with
 | false=>exact isTrue_or_nil e
 | true=>exact e
theorem ZmD (ha:PT X a tA) (hb:PW X (.BoolOp .And (b :: rest) pos) tB'):PW X (.BoolOp .And (a :: b :: rest) pos) (Zpf tA tB'):=by
 intro wh pins s σ H Q I h
 refine isTrue_and (thn (ha pins s σ H _ I h) fun c s1 zz1=>?_)
 obtain ⟨H1,I1,q1⟩:=zz1
 cases c with
 | true=>exact hb wh pins s1 σ H1 Q I1 q1
 | false=>exact ⟨H1,I1,q1⟩
theorem ZoH (ha:PT X a tA) (hb:PW X (.BoolOp .Or (b :: rest) pos) tB'):PW X (.BoolOp .Or (a :: b :: rest) pos) (tOr tA tB'):=by
 intro wh pins s σ H Q I h
 refine isTrue_or (thn (ha pins s σ H _ I h) fun c s1 zz1=>?_)
 obtain ⟨H1,I1,q1⟩:=zz1
 cases c with
 | true=>exact ⟨H1,I1,q1⟩
 | false=>exact hb wh pins s1 σ H1 Q I1 q1
theorem Zmk (ha:PT X a tA):PT X (.UnaryOp .Not a pos) (Zpx tA):=by
 intro pins s σ H Q I h
 exact isTrue_not (ha pins s σ H (fun c H1=>Q (!c) H1) I h)
noncomputable def ZoB (ta tb:TE):TE:=fun σ H Q=>ta σ H fun x H1=>∃ c,x = .bl c ∧ if c = true then tb σ H1 Q else Q (.bl false) H1
noncomputable def ZoE (ta:TE):TE:=fun σ H Q=>ta σ H fun x H1=>∃ c,x = .bl c ∧ Q (.bl (!c)) H1
theorem Znw {op} {t:TE} (h:PE X a t):PE X (.BoolOp op [a] pos) t:=fun pins s σ H Q I hw=>BoolOp_one (h pins s σ H Q I hw)
theorem Zml (ha:PE X a ta) (hb:PE X (.BoolOp .And (b :: rest) pos) tb):PE X (.BoolOp .And (a :: b :: rest) pos) (ZoB ta tb):=by
 intro pins s σ H Q I h
 refine BoolOp_and (thn (ha pins s σ H _ I h) fun v s1 zz1=>?_)
 obtain ⟨x,H1,I1,r1,q1⟩:=zz1
 obtain ⟨c,rfl,q1⟩:=q1
 cases r1
 refine wpAny_truthy_bool ?_
 cases c with
 | true=>exact hb pins s1 σ H1 Q I1 q1
 | false=>exact ⟨.bl false,H1,I1,rfl,q1⟩
theorem Zmp (ha:PE X a ta):PE X (.UnaryOp .Not a pos) (ZoE ta):=by
 intro pins s σ H Q I h
 refine UnaryOp_ (thn (ha pins s σ H _ I h) fun v s1 zz1=>?_)
 obtain ⟨x,H1,I1,r1,q1⟩:=zz1
 obtain ⟨c,rfl,q1⟩:=q1
 cases r1
 exact not_of (wpAny_truthy_bool ⟨.bl (!c),H1,I1,rfl,q1⟩)
noncomputable def tIf (t:TT) (ta tb:TE):TE:=fun σ H Q=>t σ H fun c H1=>if c = true then ta σ H1 Q else tb σ H1 Q
theorem Zjn {c:Expr} (hc:PT X c tA) (ha:PE X a ta) (hb:PE X b tb):PE X (.IfExp c a b pos) (tIf tA ta tb):=by
 intro pins s σ H Q I h
 refine wpAny_IfExp (thn (hc pins s σ H _ I h) fun d s1 zz1=>?_)
 obtain ⟨H1,I1,q1⟩:=zz1
 cases d with
 | true=>exact ha pins s1 σ H1 Q I1 q1
 | false=>exact hb pins s1 σ H1 Q I1 q1
end
end L2
namespace L2
open PySem PySem.Spec PyProof.Rows
noncomputable def SqL (K:PySem.W.Frag) (H:Hp) (a:Addr) (xs:List V):Prop:=
 Rd H a (.lst xs) ∨
  ∃ (o:Obj) (its:Array Value) (n:Nat),K.lookup a = some o ∧ o.cls = .type "list" ∧ o.dict = none ∧ o.data = .seq its n ∧ its.size ≤ sizeLine ∧ Vals xs its.toList
noncomputable def SqT (K:PySem.W.Frag) (H:Hp) (a:Addr) (xs:List V):Prop:=
 Rd H a (.tup xs) ∨
  ∃ (o:Obj) (its:Array Value) (n:Nat),K.lookup a = some o ∧ (o.cls = .type "tuple" ∧ o.dict = none) ∧ o.data = .seq its n ∧ its.size ≤ sizeLine ∧ Vals xs its.toList
noncomputable def ZpG:Value → Option V
 | .none=>some .non
 | .bool b=>some (.bl b)
 | .int i _=>some (.int i)
 | .str x _=>some (.str x)
 | .bytes b _=>some (.byt b)
 | .float b _=>some (.flt b)
 | .ref a=>some (.ref a)
 | .type n=>some (.ty n)
 | _=>none
theorem RelV.abs {x:V} {u:Value} (r:RelV x u):ZpG u = some x:=by
 cases x with
 | non=>cases r; rfl
 | bl _=>cases r; rfl
 | int _=>obtain ⟨t,rfl⟩:=r; rfl
 | str _=>obtain ⟨t,rfl⟩:=r; rfl
 | byt _=>obtain ⟨t,rfl⟩:=r; rfl
 | flt _=>obtain ⟨t,rfl⟩:=r; rfl
 | ref _=>cases r; rfl
 | ty _=>cases r; rfl
theorem RelV.inj {x y:V} {u:Value} (r:RelV x u) (q:RelV y u):x = y:=Option.some.inj (r.abs.symm.trans q.abs)
theorem Vals.inj:∀ {xs ys:List V} {us:List Value},Vals xs us → Vals ys us → xs = ys
 | _,_,_,.nil,.nil=>rfl
 | _,_,_,.cons r t,.cons r' t'=>by rw [r.inj r',Vals.inj t t']
section
variable {X:Cx} {pins:List (Addr × Obj)} {σ:St} {H:Hp} {s:Shared} {a:Addr} {xs ys:List V}
theorem SqL.of {K:PySem.W.Frag} (h:H a = some (.lst xs)):SqL K H a xs:=.inl (.inl h)
theorem SqT.of {K:PySem.W.Frag} (h:H a = some (.tup xs)):SqT K H a xs:=.inl (.inl h)
theorem Inv.list (I:Inv X pins σ H s) (h:SqL X.K H a xs):∃ its:List Value,Vals xs its ∧ PlainL s.heap a its.toArray ∧ xs.length ≤ sizeLine:=by
 rcases h with h | ⟨o,its,n,hk,hc,hd,hs,hz,r⟩
 ·obtain ⟨z,its,n,r,e⟩:=h.ok I.hok
  exact ⟨its,r,⟨_,n,e,rfl,rfl,rfl⟩,z⟩
 ·refine ⟨its.toList,r,⟨o,n,I.kIn a o hk,hc,hd,by simpa using hs⟩,?_⟩
  have e:=r.length
  simp only [Array.length_toList] at e
  exact lC 2 2199576973345 T1 e hz
theorem Inv.tuple (I:Inv X pins σ H s) (h:SqT X.K H a xs):∃ its:List Value,Vals xs its ∧ IsTup s.heap a its.toArray ∧ xs.length ≤ sizeLine:=by
 rcases h with h | ⟨o,its,n,hk,hc,hs,hz,r⟩
 ·obtain ⟨z,its,r,p⟩:=h.ok I.hok
  exact ⟨its,r,p.tup,z⟩
 ·refine ⟨its.toList,r,⟨o,I.kIn a o hk,hc.1,n,by simpa using hs⟩,?_⟩
  have e:=r.length
  simp only [Array.length_toList] at e
  exact lC 2 2199576973345 T1 e hz
theorem Inv.list_inj (I:Inv X pins σ H s) (h:SqL X.K H a xs) (h':SqL X.K H a ys):xs = ys:=by
 obtain ⟨its,r,⟨o,n,e,_,_,d⟩,_⟩:=I.list h
 obtain ⟨its',r',⟨o',n',e',_,_,d'⟩,_⟩:=I.list h'
 rw [e] at e'; cases e'
 rw [d] at d'
 injection d' with d1 _
 have:its = its':=by simpa using congrArg Array.toList d1
 subst this
 exact r.inj r'
theorem Inv.tupleN (I:Inv X pins σ H s) (h:SqT X.K H a xs):∃ its:List Value,Vals xs its ∧ ZcR s.heap a its.toArray ∧ xs.length ≤ sizeLine:=by
 rcases h with h | ⟨o,its,n,hk,hc,hs,hz,r⟩
 ·obtain ⟨z,its,r,p⟩:=h.ok I.hok; exact ⟨its,r,p,z⟩
 ·refine ⟨its.toList,r,⟨o,I.kIn a o hk,hc,n,by simpa using hs⟩,?_⟩; have e:=r.length; simp only [Array.length_toList] at e; exact lC 2 2199576973345 T1 e hz
theorem Inv.tuple_inj (I:Inv X pins σ H s) (h:SqT X.K H a xs) (h':SqT X.K H a ys):xs = ys:=by
 obtain ⟨its,r,⟨o,e,_,n,d⟩,_⟩:=I.tuple h
 obtain ⟨its',r',⟨o',e',_,n',d'⟩,_⟩:=I.tuple h'
 rw [e] at e'; cases e'
 rw [d] at d'
 injection d' with d1 _
 have:its = its':=by simpa using congrArg Array.toList d1
 subst this
 exact r.inj r'
end
noncomputable abbrev Cx.wish (X:Cx) (E:Value → Shared → Prop):Cx:={ X with xe:=E }
noncomputable abbrev Cx.nox (X:Cx):Cx:=X.wish fun _ _=>False
theorem Cx.Ok.wish {X:Cx} (ok:X.Ok) (E:Value → Shared → Prop):(X.wish E).Ok:=
 ⟨ok.mod,ok.kind,ok.glob,ok.blt,ok.above,ok.inj,ok.has,ok.cab,ok.hd,ok.frames,ok.stk,ok.exf,ok.bs,ok.bsz,ok.noex,ok.exfs,ok.funs,ok.frf⟩
theorem Cx.Ok.unwish {X:Cx} {E:Value → Shared → Prop} (ok:(X.wish E).Ok):X.Ok:=
 ⟨ok.mod,ok.kind,ok.glob,ok.blt,ok.above,ok.inj,ok.has,ok.cab,ok.hd,ok.frames,ok.stk,ok.exf,ok.bs,ok.bsz,ok.noex,ok.exfs,ok.funs,ok.frf⟩
section
variable {X:Cx} {pins:List (Addr × Obj)} {σ:St} {H:Hp} {s:Shared} {E:Value → Shared → Prop}
theorem Inv.wish (I:Inv X pins σ H s) (E:Value → Shared → Prop):Inv (X.wish E) pins σ H s:=⟨I.ok.wish E,I.os,I.bare,I.base,I.loc,I.cell,I.free,I.freeC,I.pin,I.hok,I.len⟩
theorem Inv.unwish (I:Inv (X.wish E) pins σ H s):Inv X pins σ H s:=⟨I.ok.unwish,I.os,I.bare,I.base,I.loc,I.cell,I.free,I.freeC,I.pin,I.hok,I.len⟩
theorem SP.unwish {D:Ends} {f:Flow} {s':Shared} (h:SP (X.wish E) pins D f s'):SP X pins D f s':=by
 cases f with
 | next=>obtain ⟨σ',H',I,q⟩:=h; exact ⟨σ',H',I.unwish,q⟩
 | brk=>obtain ⟨σ',H',I,q⟩:=h; exact ⟨σ',H',I.unwish,q⟩
 | cont=>obtain ⟨σ',H',I,q⟩:=h; exact ⟨σ',H',I.unwish,q⟩
 | ret u=>obtain ⟨v,σ',H',I,r,q⟩:=h; exact ⟨v,σ',H',I.unwish,r,q⟩
theorem PT.nox {e:Expr} {t:TT} (h:PT X.nox e t):PT X e t:=fun pins s σ H Q I hw=>
 wpAny_mono (h pins s σ H Q (I.wish _) hw) (fun _ _ ⟨H',I',q⟩=>⟨H',I'.unwish,q⟩) fun _ _ z=>False.elim z
theorem PSs.nox {st:List Stmt} {t:TS} (h:PSs X.nox st t):PSs X st t:=fun pins s σ H D I hw=>
 wpAny_mono (h pins s σ H D (I.wish _) hw) (fun _ _ q=>q.unwish) fun _ _ z=>False.elim z
end
section
variable {X:Cx} {st:Stmt} {rest:List Stmt} {t u:TS} {e:Expr} {te:TE} {pos:Pos}
noncomputable def ZnX:TS:=fun D σ H=>D.nx σ H
noncomputable def Zpb (t u:TS):TS:=fun D σ H=>t { D with nx:=u D } σ H
theorem Zlo:PSs X [] ZnX:=fun _ _ σ H _ I h=>wpAny_execs_nil ⟨σ,H,I,h⟩
theorem Zhl (h1:PS X st t) (h2:PSs X rest u):PSs X (st :: rest) (Zpb t u):=by
 intro pins s σ H D I h
 refine wpAny_execs_cons (thn (h1 pins s σ H { D with nx:=u D } I h) fun f s1 q=>?_)
 cases f with
 | next=>
  obtain ⟨σ',H',I',q⟩:=q
  exact h2 pins s1 σ' H' D I' q
 | ret v=>exact q
 | brk=>exact q
 | cont=>exact q
theorem Ziw (h1:PS X st t):PSs X [st] t:=by
 intro pins s σ H D I h
 refine wpAny_execs_cons (thn (h1 pins s σ H D I h) fun f s1 q=>?_)
 cases f with
 | next=>exact wpAny_execs_nil q
 | ret v=>exact q
 | brk=>exact q
 | cont=>exact q
theorem Inv.quiet {pins:List (Addr × Obj)} {σ:St} {H:Hp} {s:Shared} (I:Inv X pins σ H s):interactive X.env = false:=by simp [interactive,I.ok.kind]
noncomputable def ZoK (te:TE):TS:=fun D σ H=>te σ H fun _ H1=>D.nx σ H1
theorem Ziv (he:PE X e te) (hs:swapsWith e none pos.line X.env = pure false:=by rfl):PS X (.Expr e pos) (ZoK te):=by
 intro pins s σ H D I h
 exact wpAny_Expr_any (thn (he pins s σ H _ I h) fun v s1 ⟨x,H1,I1,r1,q1⟩=>⟨σ,H1,I1,q1⟩) I.quiet hs
noncomputable def Zpv (te:TE):TS:=fun D σ H=>te σ H D.rt
theorem ZnB (he:PE X e te):PS X (.Return (some e) pos) (Zpv te):=by
 intro pins s σ H D I h
 exact wpAny_Return_some (thn (he pins s σ H _ I h) fun v s1 ⟨x,H1,I1,r1,q1⟩=>⟨x,σ,H1,I1,r1,q1⟩)
noncomputable def ZpC (c:TT) (t u:TS):TS:=fun D σ H=>c σ H fun b H1=>if b = true then t D σ H1 else u D σ H1
theorem Zma {c:Expr} {a b:List Stmt} {tc:TT} (hc:PT X c tc) (ha:PSs X a t) (hb:PSs X b u):PS X (.If c a b pos) (ZpC tc t u):=by
 intro pins s σ H D I h
 refine wpAny_If (thn (hc pins s σ H _ I h) fun d s1 zz1=>?_)
 obtain ⟨H1,I1,q1⟩:=zz1
 cases d with
 | true=>exact ha pins s1 σ H1 D I1 q1
 | false=>exact hb pins s1 σ H1 D I1 q1
end
noncomputable abbrev TG:=V → St → Hp → (St → Hp → Prop) → Prop
noncomputable abbrev TGs:=List V → St → Hp → (St → Hp → Prop) → Prop
noncomputable def PG (X:Cx) (target:Expr) (t:TG):Prop:=
 ∀ (pins:List (Addr × Obj)) (s:Shared) (σ:St) (H:Hp) (v:V) (u:Value) (Q:St → Hp → Prop),Inv X pins σ H s → RelV v u → t v σ H Q →
  wpAny (model X.prog X.w) X.A (assign target X.env u) (fun _ s'=>∃ σ' H',Inv X pins σ' H' s' ∧ Q σ' H') X.xe s
noncomputable def PGs (X:Cx) (ts:List Expr) (t:TGs):Prop:=
 ∀ (pins:List (Addr × Obj)) (s:Shared) (σ:St) (H:Hp) (vs:List V) (us:List Value) (Q:St → Hp → Prop),Inv X pins σ H s → Vals vs us → t vs σ H Q →
  wpAny (model X.prog X.w) X.A (assignInOrder ((assignEach ts X.env).map (·.2)) us) (fun _ s'=>∃ σ' H',Inv X pins σ' H' s' ∧ Q σ' H') X.xe s
noncomputable abbrev Zny:=V → V → V → Hp → (Hp → Prop) → Prop
noncomputable def Zol (X:Cx) (t:Zny):Prop:=
 ∀ (pins:List (Addr × Obj)) (s:Shared) (σ:St) (H:Hp) (o i v:V) (ov iv u:Value) (Q:Hp → Prop),Inv X pins σ H s → RelV o ov → RelV i iv → RelV v u → t o i v H Q →
  wpAny (model X.prog X.w) X.A (setItem ov iv u) (fun _ s'=>∃ H',Inv X pins σ H' s' ∧ Q H') X.xe s
section
variable {X:Cx} {pos:Pos}
noncomputable def Zl9 (i:Nat):TG:=fun v σ H Q=>Q (σ.set i (some v)) H
theorem ZiE {i:Nat} {x:Str} (hN:X.N.Nodup) (hi:X.N[i]? = some x) (hx:Loc X.env.scope x) (hf:X.fn x = true ∨ X.env.scope.names.lookup x = some .local:=by first | exact .inl rfl | exact .inr rfl | assumption):PG X (.Name x pos) (Zl9 i):=by
 intro pins s σ H v u Q I r h
 exact wpAny_assign_Name (Zfn I hN hi hx r (fun s' I'=>⟨_,H,I',h⟩) hf)
noncomputable def Zpz:TGs:=fun vs σ H Q=>vs = [] ∧ Q σ H
noncomputable def Zod (t:TG) (u:TGs):TGs:=fun vs σ H Q=>∃ v r,vs = v :: r ∧ t v σ H fun σ' H'=>u r σ' H' Q
theorem Zlu:PGs X [] Zpz:=by
 intro pins s σ H vs us Q I r h
 obtain ⟨e,h⟩:=h
 subst e
 cases r
 exact assignInOrder_nil ⟨σ,H,I,h⟩
theorem Zks {e:Expr} {es:List Expr} {t:TG} {u:TGs} (h1:PG X e t) (h2:PGs X es u)
  (hs:(assignEach (e :: es) X.env).map (·.2) = assign e X.env :: (assignEach es X.env).map (·.2):=by rfl):PGs X (e :: es) (Zod t u):=by
 intro pins s σ H vs us Q I r h
 obtain ⟨v,vr,e1,h⟩:=h
 subst e1
 cases r with
 | cons r rr=>
  rw [hs]
  refine assignInOrder_cons (thn (h1 pins s σ H _ _ _ I r h) fun _ s1 zz1=>?_)
  obtain ⟨σ1,H1,I1,q1⟩:=zz1
  exact h2 pins s1 σ1 H1 _ _ Q I1 rr q1
noncomputable def Zo9 (K:PySem.W.Frag) (n:Nat) (t:TGs):TG:=fun v σ H Q=>∃ a xs,v = .ref a ∧ SqT K H a xs ∧ xs.length = n ∧ t xs σ H Q
theorem ZmA {es:List Expr} {k:Nat} {t:TGs} {n:Nat} (hc:X.calm = true) (h:PGs X es t)
  (hn:(assignEach es X.env).length = n:=by rfl) (hst:(assignEach es X.env).findIdx? (·.1) = none:=by rfl):PG X (.Tuple es k pos) (Zo9 X.K n t):=by
 intro pins s σ H v u Q I r hw
 obtain ⟨a,xs,e1,hq,hl,hw⟩:=hw
 subst e1
 cases r
 obtain ⟨its,rv,ht,hz⟩:=I.tuple hq
 refine assign_Tuple_tuple (I.ok.hd hc) ht (by simp [hn,← hl,rv.length]) hst fun h' hx=>?_
 have I1:Inv X pins σ H { s with heap:=h' }:=I.kept (t':=s.toks) fun b o e=>hx b o (Nat.ne_of_lt (Heap.lt_size e)) e
 exact h pins _ σ H xs _ Q I1 (by simpa using rv) hw
noncomputable def Zpu (to ti:TE) (t:Zny):TG:=fun v σ H Q=>to σ H fun o H1=>ti σ H1 fun i H2=>t o i v H2 fun H3=>Q σ H3
theorem ZmR {o i:Expr} {to ti:TE} {t:Zny} (ho:PE X o to) (hi:PE X i ti) (hs:Zol X t)
  (ha:∀ v,assign (.Subscript o i pos) X.env v = (do
   let ov ← holding [v] (eval o X.env)
   let iv ← holding [v,ov] (eval i X.env)
   standAt pos
   holding [v,ov,iv] (setItem ov iv v)
   release [v,ov,iv] []):=by intro _; rfl):PG X (.Subscript o i pos) (Zpu to ti t):=by
 intro pins s σ H v u Q I r h
 rw [ha]
 refine wpAny_bind (wpAny_holding (thn (ho pins s σ H _ I h) fun ov s1 zz1=>?_))
 obtain ⟨x,H1,I1,r1,q1⟩:=zz1
 refine wpAny_bind (wpAny_holding (thn (hi pins s1 σ H1 _ I1 q1) fun iv s2 zz1=>?_))
 obtain ⟨y,H2,I2,r2,q2⟩:=zz1
 refine wpAny_bind (wpAny_standAt (wpAny_bind (wpAny_holding (thn (hs pins s2 σ H2 x y v ov iv u _ I2 r1 r2 r q2) fun _ s3 zz1=>?_))))
 obtain ⟨H3,I3,q3⟩:=zz1
 exact wpAny_release ⟨σ,H3,I3,q3⟩
noncomputable def ZnY (te:TE) (g:TG):TS:=fun D σ H=>te σ H fun x H1=>g x σ H1 D.nx
theorem Zh7 {tg e:Expr} {te:TE} {g:TG} (he:PE X e te) (hg:PG X tg g) (hs:swapsWithSole [tg] e pos.line X.env = pure false:=by rfl) (hw:swappedStores [tg] e X.env = pure none:=by rfl)
  (h1:(assignEach [tg] X.env).map (·.2) = [assign tg X.env]:=by rfl):PS X (.Assign [tg] e pos) (ZnY te g):=by
 intro pins s σ H D I h
 refine wpAny_Assign_stores (thn (he pins s σ H _ I h) fun v s1 zz1=>?_) hs hw
 obtain ⟨x,H1,I1,r1,q1⟩:=zz1
 rw [h1]
 exact thn (hg pins s1 σ H1 x v _ I1 r1 q1) fun _ s2 q=>q
theorem Zjt {i:Nat} {x:Str} {e:Expr} {te:TE} {pos':Pos} (hN:X.N.Nodup) (hi:X.N[i]? = some x) (hx:Loc X.env.scope x) (he:PE X e te) (hs:swapsWith e (some (.Name x pos')) pos.line X.env = pure false:=by rfl) (hf:X.fn x = true ∨ X.env.scope.names.lookup x = some .local:=by first | exact .inl rfl | exact .inr rfl | assumption):
  PS X (.Assign [.Name x pos'] e pos) (ZnY te (Zl9 i)):=by
 intro pins s σ H D I h
 refine wpAny_Assign_Name (thn (he pins s σ H _ I h) fun v s1 zz1=>?_) hs
 obtain ⟨y,H1,I1,r1,q1⟩:=zz1
 exact Zfn I1 hN hi hx r1 (fun s2 I2=>⟨_,H1,I2,q1⟩) hf
end
section
variable {X:Cx} {pos:Pos}
end
structure It where
 go:Nat → Hp → Prop
 yld:Nat → Hp → V → Hp → Prop
 stop:Nat → Hp → Prop
noncomputable def Zet (X:Cx) (pins:List (Addr × Obj)) (H:Hp) (b:Addr):Prop:=
 H b = none ∧ b ≠ X.env.locals ∧ b ∉ X.fs ∧ (b ∈ X.ex ∨ X.s₀.heap.objs.size ≤ b) ∧ (∀ x c,X.env.cells.lookup x = some c → c ≠ b) ∧ ∀ p ∈ X.pn ++ pins,p.1 ≠ b
theorem Inv.fpOk {X:Cx} {pins:List (Addr × Obj)} {σ:St} {H H':Hp} {s:Shared} {b:Addr} (I:Inv X pins σ H s) (hb:s.heap.objs.size ≤ b) (hn:H' b = none):Zet X pins H' b:=by
 refine ⟨hn,Nat.ne_of_gt (Nat.lt_of_lt_of_le I.lt hb),I.nofs hb,.inr (Nat.le_trans I.sz hb),fun x c e z=>?_,fun p hp z=>?_⟩
 ·obtain ⟨v,q⟩:=I.cell x c e
  exact absurd (Nat.lt_of_lt_of_le q.lt (by rw [z]; exact hb)) (Nat.lt_irrefl _)
 ·exact absurd (Nat.lt_of_lt_of_le (Heap.lt_size (I.pin p hp).1) (by rw [z]; exact hb)) (Nat.lt_irrefl _)
structure Turn (P:Program) (w:World) (K:PySem.W.Frag) (tg:Expr) (J:It) (fp:List Addr) (it:Addr) (tn:Nat → Heap → Prop):Prop where
 mem:it ∈ fp
 obj:∀ i h,tn i h → ∀ b ∈ fp,∃ o,h.get? b = some o ∧ ∀ v,o.data ≠ .cell v
 keep:∀ i h h',tn i h → (∀ b ∈ fp,∀ o,h.get? b = some o → h'.get? b = some o) → tn i h'
 item:∀ (X:Cx),X.prog = P → X.w = w → X.K = K → X.calm = true → ∀ (i:Nat) (pins:List (Addr × Obj)) (s:Shared) (σ:St) (H:Hp) (E:Value → Shared → Prop),Inv X pins σ H s → (∀ b ∈ fp,Zet X pins H b) → tn i s.heap → J.go i H →
  wpAny (model P w) X.A (pyNext (.ref it)) (fun r s1=>∃ u,r = some u ∧
   wpAny (model P w) X.A (letOwnedTupleGo tg (.ref it) u) (fun _ s2=>∃ x H',Inv X pins σ H' s2 ∧ RelV x u ∧ J.yld i H x H' ∧ tn (i + 1) s2.heap ∧ ∀ b ∈ fp,H' b = none) E s1) E s
 done:∀ (X:Cx),X.prog = P → X.w = w → X.K = K → X.calm = true → ∀ (i:Nat) (pins:List (Addr × Obj)) (s:Shared) (σ:St) (H:Hp) (E:Value → Shared → Prop),Inv X pins σ H s → (∀ b ∈ fp,Zet X pins H b) → tn i s.heap → J.stop i H →
  wpAny (model P w) X.A (pyNext (.ref it)) (fun r s1=>r = none ∧ Inv X pins σ H s1) E s
 self:∀ (A:Around) (i:Nat) (s:Shared) (Q:Value → Shared → Prop) (E:Value → Shared → Prop),tn i s.heap → Q (.ref it) s → wpAny (model P w) A (pyIter (.ref it)) Q E s
noncomputable abbrev TI:=St → Hp → (It → Hp → Prop) → Prop
noncomputable def PIE (X:Cx) (pins:List (Addr × Obj)) (σ:St) (tg:Expr) (R:It → Hp → Prop) (itv:Value) (s2:Shared):Prop:=
 ∃ (it:Addr) (fp:List Addr) (tn:Nat → Heap → Prop) (J:It) (H':Hp),itv = .ref it ∧ Inv X pins σ H' s2 ∧ Turn X.prog X.w X.K tg J fp it tn ∧ tn 0 s2.heap ∧ (∀ b ∈ fp,Zet X pins H' b) ∧ R J H'
noncomputable def PI (X:Cx) (tg iter:Expr) (wi:TI):Prop:=
 ∀ (pins:List (Addr × Obj)) (s:Shared) (σ:St) (H:Hp) (R:It → Hp → Prop),Inv X pins σ H s → wi σ H R →
  wpAny (model X.prog X.w) X.A (eval iter X.env) (fun v s1=>wpAny (model X.prog X.w) X.A (pyIter v) (PIE X pins σ tg R) X.xe s1) X.xe s
theorem Zix {M:Model} {A:Around} {E:Value → Shared → Prop} {s:Shared} {tg:Expr} {it:Addr} {u:Value} {o:Obj} {n:String} {vs:Array Value} {Q:Unit → Shared → Prop} (ho:s.heap.get? it = some o) (hc:o.cls = .type n) (hd:o.data = .fields vs)
  (hn:["enumerate","zip","dict_itemiterator","dict_reverseitemiterator","odict_iterator","itertools.zip_longest","itertools.pairwise"].contains n = false) (hQ:Q () s):wpAny M A (letOwnedTupleGo tg (.ref it) u) Q E s:=by
 unfold letOwnedTupleGo
 cases tg <;> first
  | exact wpAny_pure hQ
  | (cases u <;> first
    | exact wpAny_pure hQ
    | (refine wpAny_bind (wpAny_load ho ?_)
       rw [hc,hd]
       show wpAny M A (if (["enumerate","zip","dict_itemiterator","dict_reverseitemiterator","odict_iterator","itertools.zip_longest","itertools.pairwise"].contains n && vs[0]? == some (rawInt _)) = true then _ else _) Q E s
       rw [if_neg (by intro h; rw [hn,Bool.false_and] at h; cases h)]
       exact wpAny_pure hQ))
noncomputable def Itl (K:PySem.W.Frag) (a:Addr):It:=
 ⟨fun i H=>∃ xs x,SqL K H a xs ∧ xs[i]? = some x,fun i H x H'=>H' = H ∧ ∀ xs,SqL K H a xs → xs[i]? = some x,fun i H=>∃ xs,SqL K H a xs ∧ xs.length ≤ i⟩
noncomputable def Itt (K:PySem.W.Frag) (a:Addr):It:=
 ⟨fun i H=>∃ xs x,SqT K H a xs ∧ xs[i]? = some x,fun i H x H'=>H' = H ∧ ∀ xs,SqT K H a xs → xs[i]? = some x,fun i H=>∃ xs,SqT K H a xs ∧ xs.length ≤ i⟩
noncomputable def Itr (lo:Int) (n:Nat):It:=⟨fun i _=>i < n,fun i H x H'=>H' = H ∧ x = .int (lo + i),fun i _=>n ≤ i⟩
theorem Zi8 {P:Program} {w:World} {K:PySem.W.Frag} {tg:Expr} (a it:Addr):Turn P w K tg (Itl K a) [it] it (fun i h=>h.IsListIter it a i) where
 mem:=by simp
 obj:=fun i h st b hb=>by
  have e:b = it:=by simpa using hb
  subst e
  obtain ⟨o,e,c,d⟩:=st
  exact ⟨o,e,fun v z=>by rw [d] at z; cases z⟩
 keep:=fun i h h' st k=>st.at fun o e=>k it (by simp) o e
 item:=by
  intro X hP hw hK hc i pins s σ H E I hf st hg
  subst hP hw hK
  obtain ⟨xs,x,hq,hx⟩:=hg
  obtain ⟨its,rv,p,hz⟩:=I.list hq
  obtain ⟨u,hu,ru⟩:=rv.get hx
  obtain ⟨f0,f1,f2,f3,f4,f5⟩:=hf it (by simp)
  refine wpAny_pyNext_list_item st p.isList (x:=u) (by simpa using hu) fun h' st' sb=>?_
  have I1:Inv X pins σ H { s with heap:=h' }:=I.turned (t':=s.toks) (fun b o hb e=>(sb.2 b hb).trans e) f0 f1 f3 f4 f5
  obtain ⟨o,e,c,d⟩:=id st'
  exact ⟨u,rfl,Zix (s:={ s with heap:=h' }) e c d (by decide) ⟨x,H,I1,ru,⟨rfl,fun ys hy=>by rw [I.list_inj hy hq]; exact hx⟩,st',fun b hb=>(hf b hb).1⟩⟩
 done:=by
  intro X hP hw hK hc i pins s σ H E I hf st hg
  subst hP hw hK
  obtain ⟨xs,hq,hx⟩:=hg
  obtain ⟨its,rv,p,hz⟩:=I.list hq
  obtain ⟨f0,f1,f2,f3,f4,f5⟩:=hf it (by simp)
  have hl:=rv.length
  exact wpAny_pyNext_list_end (I.ok.hd hc) st p.isList (by simp; exact lC 2 2268279672881 T1 hl hx) fun h' eb=>⟨rfl,I.turned (t':=s.toks) (fun b o hb e=>eb b o hb e) f0 f1 f3 f4 f5⟩
 self:=fun _ _ _ _ _ st h=>wpAny_pyIter_listiter st h
theorem ZhY {P:Program} {w:World} {K:PySem.W.Frag} {tg:Expr} (a it:Addr):Turn P w K tg (Itt K a) [it] it (fun i h=>h.IsTupleIter it a i) where
 mem:=by simp
 obj:=fun i h st b hb=>by
  have e:b = it:=by simpa using hb
  subst e
  obtain ⟨o,e,c,d⟩:=st
  exact ⟨o,e,fun v z=>by rw [d] at z; cases z⟩
 keep:=fun i h h' st k=>st.at fun o e=>k it (by simp) o e
 item:=by
  intro X hP hw hK hc i pins s σ H E I hf st hg
  subst hP hw hK
  obtain ⟨xs,x,hq,hx⟩:=hg
  obtain ⟨its,rv,p,hz⟩:=I.tuple hq
  obtain ⟨u,hu,ru⟩:=rv.get hx
  obtain ⟨f0,f1,f2,f3,f4,f5⟩:=hf it (by simp)
  refine wpAny_pyNext_tuple_item st (show s.heap.IsTuple a its.toArray from p) (x:=u) (by simpa using hu) fun h' st' sb=>?_
  have I1:Inv X pins σ H { s with heap:=h' }:=I.turned (t':=s.toks) (fun b o hb e=>(sb.2 b hb).trans e) f0 f1 f3 f4 f5
  obtain ⟨o,e,c,d⟩:=id st'
  exact ⟨u,rfl,Zix (s:={ s with heap:=h' }) e c d (by decide) ⟨x,H,I1,ru,⟨rfl,fun ys hy=>by rw [I.tuple_inj hy hq]; exact hx⟩,st',fun b hb=>(hf b hb).1⟩⟩
 done:=by
  intro X hP hw hK hc i pins s σ H E I hf st hg
  subst hP hw hK
  obtain ⟨xs,hq,hx⟩:=hg
  obtain ⟨its,rv,p,hz⟩:=I.tuple hq
  obtain ⟨f0,f1,f2,f3,f4,f5⟩:=hf it (by simp)
  have hl:=rv.length
  exact wpAny_pyNext_tuple_end (I.ok.hd hc) st (show s.heap.IsTuple a its.toArray from p) (by simp; exact lC 2 2268279672881 T1 hl hx) fun h' eb=>⟨rfl,I.turned (t':=s.toks) (fun b o hb e=>eb b o hb e) f0 f1 f3 f4 f5⟩
 self:=fun _ _ _ _ _ st h=>wpAny_pyIter_tupleiter st h
theorem ZhR {P:Program} {w:World} {K:PySem.W.Frag} {tg:Expr} (it:Addr) (lo:Int) (n:Nat):Turn P w K tg (Itr lo n) [it] it (fun i h=>IsRangeIter h it (lo + (i:Nat) * 1) ((n:Int) - (i:Nat)) 1) where
 mem:=by simp
 obj:=fun i h st b hb=>by
  have e:b = it:=by simpa using hb
  subst e
  exact ⟨_,st,fun v z=>by
   have z':Data.fields _ = Data.cell v:=z
   cases z'⟩
 keep:=fun i h h' st k=>k it (by simp) _ st
 item:=by
  intro X hP hw hK hc i pins s σ H E I hf st hg
  subst hP hw hK
  obtain ⟨f0,f1,f2,f3,f4,f5⟩:=hf it (by simp)
  have W:=Walks.range (prog:=X.prog) (w:=X.w) (I.ok.hd hc) it lo 1 n
  refine W.item i s _ _ hg st fun v h' tk hv st' kk=>?_
  obtain ⟨t,rfl⟩:=hv
  have I1:Inv X pins σ H { s with heap:=h',toks:=tk }:=I.turned (fun b o hb e=>kk b o (by simpa using hb) e) f0 f1 f3 f4 f5
  refine ⟨_,rfl,Zix (s:={ s with heap:=h',toks:=tk }) (n:="range_iterator") st' rfl rfl (by decide) ⟨.int (lo + i),H,I1,⟨t,?_⟩,⟨rfl,rfl⟩,st',fun b hb=>(hf b hb).1⟩⟩
  rw [Int.mul_one]
 done:=by
  intro X hP hw hK hc i pins s σ H E I hf st hg
  subst hP hw hK
  obtain ⟨f0,f1,f2,f3,f4,f5⟩:=hf it (by simp)
  exact wpAny_pyNext_range_end (I.ok.hd hc) st (by have:n ≤ i:=hg; exact iN [_,_] [] 1 0xe1808f81001 T1 this) fun h' eb=>⟨rfl,I.turned (t':=s.toks) (fun b o hb e=>eb b o hb e) f0 f1 f3 f4 f5⟩
 self:=fun _ _ _ _ _ st h=>wpAny_pyIter_rangeiter st h
end L2
namespace L2
open PySem PySem.Spec PyProof.Rows
section
variable {X:Cx} {tg:Expr}
noncomputable def Zn2 (K:PySem.W.Frag) (tl:TE):TI:=fun σ H R=>tl σ H fun x H1=>∃ a,x = .ref a ∧ (∃ xs,SqL K H1 a xs) ∧ R (Itl K a) H1
noncomputable def Zpt (K:PySem.W.Frag) (tl:TE):TI:=fun σ H R=>tl σ H fun x H1=>∃ a,x = .ref a ∧ (∃ xs,SqT K H1 a xs) ∧ R (Itt K a) H1
theorem Zlg {l:Expr} {tl:TE} (hl:PE X l tl):PI X tg l (Zn2 X.K tl):=by
 intro pins s σ H R I h
 refine thn (hl pins s σ H _ I h) fun v s1 zz1=>?_
 obtain ⟨x,H1,I1,r1,q1⟩:=zz1
 obtain ⟨a,e,⟨xs,hq⟩,q⟩:=q1
 subst e
 cases r1
 obtain ⟨its,rv,p,hz⟩:=I1.list hq
 refine wpAny_pyIter_list p.isList ?_
 refine ⟨s1.heap.objs.size,[s1.heap.objs.size],_,_,H1,rfl,I1.kept (t':=s1.toks) fun b o e=>Heap.get?_push_of_some _ e,Zi8 a _,⟨_,Heap.get?_push_size _ rfl,rfl,rfl⟩,fun b hb=>?_,q⟩
 have e:b = s1.heap.objs.size:=by simpa using hb
 subst e
 exact I1.fpOk (Nat.le_refl _) (I1.hok.fresh (Nat.le_refl _))
theorem Zm3 {l:Expr} {tl:TE} (hl:PE X l tl):PI X tg l (Zpt X.K tl):=by
 intro pins s σ H R I h
 refine thn (hl pins s σ H _ I h) fun v s1 zz1=>?_
 obtain ⟨x,H1,I1,r1,q1⟩:=zz1
 obtain ⟨a,e,⟨xs,hq⟩,q⟩:=q1
 subst e
 cases r1
 obtain ⟨its,rv,p,hz⟩:=I1.tuple hq
 refine wpAny_pyIter_tuple (show s1.heap.IsTuple a its.toArray from p) ?_
 refine ⟨s1.heap.objs.size,[s1.heap.objs.size],_,_,H1,rfl,I1.kept (t':=s1.toks) fun b o e=>Heap.get?_push_of_some _ e,ZhY a _,⟨_,Heap.get?_push_size _ rfl,rfl,rfl⟩,fun b hb=>?_,q⟩
 have e:b = s1.heap.objs.size:=by simpa using hb
 subst e
 exact I1.fpOk (Nat.le_refl _) (I1.hok.fresh (Nat.le_refl _))
theorem ZjP {pins:List (Addr × Obj)} {σ:St} {H:Hp} {s:Shared} {R:It → Hp → Prop} {E:Value → Shared → Prop} {lo hi:Int} {t u v:Tok} {tk:Nat} (I:Inv X pins σ H s) (h1:-(2 ^ 62) ≤ lo) (h2:lo < 2 ^ 62) (h3:-(2 ^ 62) ≤ hi) (h4:hi < 2 ^ 62)
  (q:R (Itr lo (hi - lo).toNat) H):wpAny (model X.prog X.w) X.A (pyIter (.ref s.heap.objs.size)) (PIE X pins σ tg R) E { s with heap:=s.heap.push { cls:=.type "range",data:=.fields #[.int lo t,.int hi u,.int 1 v] },toks:=tk }:=by
 refine wpAny_pyIter_range (IsRange.new ..) (small_one h1 h2 h3 h4) ?_
 have I1:Inv X pins σ H { s with heap:=s.heap.push { cls:=.type "range",data:=.fields #[.int lo t,.int hi u,.int 1 v] },toks:=tk }:=I.kept fun b o e=>Heap.get?_push_of_some _ e
 refine ⟨(s.heap.push { cls:=.type "range",data:=.fields #[.int lo t,.int hi u,.int 1 v] }).objs.size,[(s.heap.push { cls:=.type "range",data:=.fields #[.int lo t,.int hi u,.int 1 v] }).objs.size],_,_,H,rfl,
  I1.kept (t':=tk) fun b o e=>Heap.get?_push_of_some _ e,ZhR _ lo (hi - lo).toNat,?_,fun b hb=>?_,q⟩
 ·have e1:lo + ((0:Nat):Int) * 1 = lo:=by simp
  have e2:(((hi - lo).toNat:Nat):Int) - ((0:Nat):Int) = Builtin.Range.rangeSize lo hi 1:=by rw [rangeSize_one]; split <;> omega
  show IsRangeIter _ _ (lo + ((0:Nat):Int) * 1) ((((hi - lo).toNat:Nat):Int) - ((0:Nat):Int)) 1
  rw [e1,e2]
  exact Heap.get?_push_size _ rfl
 ·have e:b = (s.heap.push { cls:=.type "range",data:=.fields #[.int lo t,.int hi u,.int 1 v] }).objs.size:=by simpa using hb
  subst e
  exact I1.fpOk (Nat.le_refl _) (I1.hok.fresh (Nat.le_refl _))
noncomputable def ZoN (ta:TA):TI:=fun σ H R=>ta σ H fun vs H1=>∃ j:Int,vs = [.int j] ∧ -(2 ^ 62) ≤ j ∧ j < 2 ^ 62 ∧ R (Itr 0 j.toNat) H1
theorem ZiX {a:Expr} {ta:TA} {p pos:Pos} (hg:Gl X "range") (hm:X.mg "range" = none) (ha:PA X [a] ta) (hs:starEach [a] X.env = [(false,eval a X.env)]:=by rfl):PI X tg (.Call (.Name "range" p) [a] [] pos) (ZoN ta):=by
 intro pins s σ H R I h
 refine Call_ (ZfX I hg hm boot_range (PyProof.Rows.callWith_type1 (thn (ha pos pins s σ H _ I h) fun us s1 zz1=>?_) hs rfl))
 obtain ⟨vs,H1,I1,r1,q1⟩:=zz1
 obtain ⟨j,e,q1,q2,q⟩:=q1
 subst e
 cases r1 with
 | cons r rr=>
  cases rr
  obtain ⟨t,rfl⟩:=r
  exact call_range_1 (ZjP I1 (by omega) (by omega) q1 q2 (by simpa using q))
noncomputable def Zph (wi:TI) (g:TG) (tb:TS):TS:=fun D σ H=>wi σ H fun J H1=>∃ W:Nat → Nat → St → Hp → Prop,(∃ m,W 0 m σ H1) ∧ ∀ i m σ H,W i m σ H →
 (J.stop i H ∧ D.nx σ H) ∨ (J.go i H ∧ ∃ N:St → Hp → Prop,(∀ σ' H',N σ' H' → ∃ m',m' < m ∧ W (i + 1) m' σ' H') ∧ ∀ x H',J.yld i H x H' → g x σ H' fun σ2 H2=>tb { D with nx:=N,ct:=N,bk:=D.nx } σ2 H2)
noncomputable def ZfN (fp:List Addr) (h:Heap):List (Addr × Obj):=fp.filterMap fun b=>(h.get? b).map fun o=>(b,o)
theorem Zdh {fp:List Addr} {h:Heap} {b:Addr} {o:Obj} (hb:b ∈ fp) (e:h.get? b = some o):(b,o) ∈ ZfN fp h:=List.mem_filterMap.mpr ⟨b,hb,by rw [e]; rfl⟩
theorem ZiS {fp:List Addr} {h:Heap} {p:Addr × Obj} (hp:p ∈ ZfN fp h):p.1 ∈ fp ∧ h.get? p.1 = some p.2:=by
 obtain ⟨b,hb,e⟩:=List.mem_filterMap.mp hp
 cases q:h.get? b with
 | none=>rw [q] at e; cases e
 | some o=>
  rw [q] at e
  have e':(b,o) = p:=Option.some.inj e
  subst e'
  exact ⟨hb,q⟩
theorem Inv.pinned {pins:List (Addr × Obj)} {σ:St} {H:Hp} {s:Shared} {fp:List Addr} (I:Inv X pins σ H s) (hf:∀ b ∈ fp,Zet X pins H b) (ho:∀ b ∈ fp,∃ o,s.heap.get? b = some o ∧ ∀ v,o.data ≠ .cell v):Inv X (pins ++ ZfN fp s.heap) σ H s:=
 I.pins_of fun p hp=>(List.mem_append.mp hp).elim (fun z=>I.pin p (List.mem_append_right _ z)) fun z=>by
  obtain ⟨hb,e⟩:=ZiS z
  obtain ⟨f0,f1,f2,_⟩:=hf p.1 hb
  obtain ⟨o,e',d⟩:=ho p.1 hb
  rw [e] at e'; cases e'
  exact ⟨e,f0,f1,f2,d⟩
theorem Inv.unpinned {pins pl:List (Addr × Obj)} {σ:St} {H:Hp} {s:Shared} (I:Inv X (pins ++ pl) σ H s):Inv X pins σ H s:=I.pins_of fun p hp=>I.pin p (List.mem_append_right _ (List.mem_append_left _ hp))
theorem ZkF {iter:Expr} {body:List Stmt} {wi:TI} {g:TG} {tb:TS} {pos:Pos} (hp:PassesOwn (model X.prog X.w) X.A X.env X.xe) (hc:X.calm = true) (hi:PI X tg iter wi) (hg:PG X tg g) (hb:PSs X body tb)
  (hs:∀ x,foldedSetIterable iter X.env x = pure x:=by intro _; rfl):PS X (.For tg iter body [] pos) (Zph wi g tb):=by
 intro pins s σ H D I h
 refine wpAny_For (thn (hi pins s σ H _ I h) fun v s1 h1=>thn h1 fun itv s2 h2=>?_) hs
 obtain ⟨it,fp,tn,J,H2,e,I2,T,st2,f2,W,⟨m0,w0⟩,turn⟩:=h2
 subst e
 have stat:∀ {H':Hp},(∀ b ∈ fp,H' b = none) → ∀ b ∈ fp,Zet X pins H' b:=fun hn b hb=>⟨hn b hb,(f2 b hb).2⟩
 refine codeAny_forLoop_any (fun n s'=>∃ i σ' H',Inv X pins σ' H' s' ∧ tn i s'.heap ∧ (∀ b ∈ fp,H' b = none) ∧ W i n σ' H') ?_ m0 ⟨0,σ,H2,I2,st2,fun b hb=>(f2 b hb).1,w0⟩
 rintro n s3 ⟨i,σ3,H3,I3,st3,fr3,w3⟩
 rcases turn i n σ3 H3 w3 with ⟨stop,qn⟩ | ⟨go,N,hN,step⟩
 ·refine wpAny_passesOwn hp (thn (T.done X rfl rfl rfl hc i pins s3 σ3 H3 X.xe I3 (stat fr3) st3 stop) fun r s4 ⟨hr,I4⟩=>?_)
  subst hr
  exact wpAny_execs_nil ⟨σ3,H3,I4,qn⟩
 ·refine wpAny_passesOwn hp (thn (T.item X rfl rfl rfl hc i pins s3 σ3 H3 X.xe I3 (stat fr3) st3 go) fun r s4 ⟨u,hr,h4⟩=>?_)
  subst hr
  refine wpAny_passesOwn hp (thn h4 fun _ s5 zz1=>?_)
  obtain ⟨x,H5,I5,r5,y5,st5,fr5⟩:=zz1
  have I5':=I5.pinned (stat fr5) (T.obj _ _ st5)
  refine wpAny_passesOwn hp (thn (hg _ s5 σ3 H5 x u _ I5' r5 (step x H5 y5)) fun _ s6 zz1=>?_)
  obtain ⟨σ6,H6,I6,q6⟩:=zz1
  refine wpAny_passesOwn hp (thn (hb _ s6 σ6 H6 _ I6 q6) fun f s7 q7=>?_)
  have again:∀ {σ7:St} {H7:Hp},Inv X (pins ++ ZfN fp s5.heap) σ7 H7 s7 → N σ7 H7 → ∃ m,m < n ∧ ∃ i σ' H',Inv X pins σ' H' s7 ∧ tn i s7.heap ∧ (∀ b ∈ fp,H' b = none) ∧ W i m σ' H':=fun {σ7 H7} I7 n7=>by
   obtain ⟨m',hm,w7⟩:=hN σ7 H7 n7
   refine ⟨m',hm,i + 1,σ7,H7,I7.unpinned,T.keep _ _ _ st5 fun b hb o e=>(I7.pin (b,o) (List.mem_append_right _ (List.mem_append_right _ (Zdh hb e)))).1,fun b hb=>?_,w7⟩
   obtain ⟨o,e,d⟩:=T.obj _ _ st5 b hb
   exact (I7.pin (b,o) (List.mem_append_right _ (List.mem_append_right _ (Zdh hb e)))).2.1
  cases f with
  | next=>obtain ⟨σ7,H7,I7,n7⟩:=q7; exact again I7 n7
  | cont=>obtain ⟨σ7,H7,I7,n7⟩:=q7; exact again I7 n7
  | brk=>obtain ⟨σ7,H7,I7,q7⟩:=q7; exact ⟨σ7,H7,I7.unpinned,q7⟩
  | ret v=>obtain ⟨x7,σ7,H7,I7,r7,q7⟩:=q7; exact ⟨x7,σ7,H7,I7.unpinned,r7,q7⟩
end
end L2
namespace L2
open PySem PySem.Spec PyProof.Rows
noncomputable abbrev R2:=V → V → Hp → VK → Prop
noncomputable def OpR (X:Cx) (f:Value → Value → Sem Value) (r:R2):Prop:=
 ∀ (pins:List (Addr × Obj)) (s:Shared) (σ:St) (H:Hp) (x y:V) (v u:Value) (Q:VK),Inv X pins σ H s → RelV x v → RelV y u → r x y H Q →
  wpAny (model X.prog X.w) X.A (f v u) (EP X pins σ Q) X.xe s
noncomputable def UnR (X:Cx) (f:Value → Sem Value) (r:V → Hp → VK → Prop):Prop:=
 ∀ (pins:List (Addr × Obj)) (s:Shared) (σ:St) (H:Hp) (x:V) (v:Value) (Q:VK),Inv X pins σ H s → RelV x v → r x H Q →
  wpAny (model X.prog X.w) X.A (f v) (EP X pins σ Q) X.xe s
noncomputable def ZbK (X:Cx) (f:Value) (r:List V → Hp → VK → Prop):Prop:=
 ∀ (pins:List (Addr × Obj)) (s:Shared) (σ:St) (H:Hp) (xs:List V) (us:List Value) (Q:VK),Inv X pins σ H s → Vals xs us → r xs H Q →
  wpAny (model X.prog X.w) X.A (call f us) (EP X pins σ Q) X.xe s
noncomputable def tOp (r:R2) (ta tb:TE):TE:=fun σ H Q=>ta σ H fun x H1=>tb σ H1 fun y H2=>r x y H2 Q
noncomputable def tUn (r:V → Hp → VK → Prop) (ta:TE):TE:=fun σ H Q=>ta σ H fun x H1=>r x H1 Q
noncomputable def rI (C:Int → Int → Prop) (g:Int → Int → V):R2:=fun x y H Q=>∃ i j,x = .int i ∧ y = .int j ∧ C i j ∧ Q (g i j) H
noncomputable def rI0 (g:Int → Int → V):R2:=fun x y H Q=>∃ i j,x = .int i ∧ y = .int j ∧ Q (g i j) H
noncomputable def rU (g:Int → V):V → Hp → VK → Prop:=fun x H Q=>∃ i,x = .int i ∧ Q (g i) H
section
variable {X:Cx} {a b c:Expr} {ta tb tc:TE} {pos:Pos}
theorem Zm4 (ha:PE X a ta) (hb:PE X b tb) {pins:List (Addr × Obj)} {s:Shared} {σ:St} {H:Hp} {R:V → V → Hp → Prop} (I:Inv X pins σ H s)
  (h:ta σ H fun x H1=>tb σ H1 fun y H2=>R x y H2) {Q:Value → Shared → Prop} {f:Value → Value → Sem Value}
  (hf:∀ v u s2 x y H2,Inv X pins σ H2 s2 → RelV x v → RelV y u → R x y H2 → wpAny (model X.prog X.w) X.A (f v u) Q X.xe s2):
  wpAny (model X.prog X.w) X.A (eval a X.env) (fun v s₁=>wpAny (model X.prog X.w) X.A (eval b X.env) (fun u s₂=>wpAny (model X.prog X.w) X.A (f v u) Q X.xe s₂) X.xe s₁) X.xe s:=by
 refine thn (ha pins s σ H _ I h) fun v s1 zz1=>?_
 obtain ⟨x,H1,I1,r1,q1⟩:=zz1
 refine thn (hb pins s1 σ H1 _ I1 q1) fun u s2 zz1=>?_
 obtain ⟨y,H2,I2,r2,q2⟩:=zz1
 exact hf v u s2 x y H2 I2 r1 r2 q2
theorem Zog {op:Operator} {r:R2} (ho:OpR X (binaryOp op) r) (ha:PE X a ta) (hb:PE X b tb):PE X (.BinOp a op b pos) (tOp r ta tb):=by
 intro pins s σ H Q I h
 exact wpAny_BinOp (Zm4 ha hb I h fun v u s2 x y H2 I2 rx ry q=>ho pins s2 σ H2 x y v u Q I2 rx ry q)
theorem ZnZ {op:UnaryOp} {r:V → Hp → VK → Prop} (ho:UnR X (unaryOp op) r) (ha:PE X a ta):PE X (.UnaryOp op a pos) (tUn r ta):=by
 intro pins s σ H Q I h
 exact UnaryOp_ (thn (ha pins s σ H _ I h) fun v s1 ⟨x,H1,I1,r1,q1⟩=>ho pins s1 σ H1 x v Q I1 r1 q1)
theorem opI {f:Value → Value → Sem Value} {C:Int → Int → Prop} {g:Int → Int → Int}
  (rule:∀ (i j:Int) (t u:Tok) (s:Shared) (Q:Value → Shared → Prop) (E:Value → Shared → Prop),C i j → Q (.int (g i j) s.toks) { s with toks:=s.toks + 1 } → wpAny (model X.prog X.w) X.A (f (.int i t) (.int j u)) Q E s):
  OpR X f (rI C fun i j=>.int (g i j)):=by
 intro pins s σ H x y v u Q I rx ry h
 obtain ⟨i,j,rfl,rfl,hc,q⟩:=h
 obtain ⟨t,rfl⟩:=rx
 obtain ⟨t',rfl⟩:=ry
 exact rule i j t t' s _ _ hc ⟨.int (g i j),H,I.tok _,⟨_,rfl⟩,q⟩
theorem Zon {f:Value → Value → Sem Value} {g:Int → Int → Int}
  (rule:∀ (i j:Int) (t u:Tok) (s:Shared) (Q:Value → Shared → Prop) (E:Value → Shared → Prop),Q (.int (g i j) s.toks) { s with toks:=s.toks + 1 } → wpAny (model X.prog X.w) X.A (f (.int i t) (.int j u)) Q E s):
  OpR X f (rI0 fun i j=>.int (g i j)):=by
 intro pins s σ H x y v u Q I rx ry h
 obtain ⟨i,j,rfl,rfl,q⟩:=h
 obtain ⟨t,rfl⟩:=rx
 obtain ⟨t',rfl⟩:=ry
 exact rule i j t t' s _ _ ⟨.int (g i j),H,I.tok _,⟨_,rfl⟩,q⟩
theorem ZoQ {f:Value → Value → Sem Value} {g:Int → Int → Bool}
  (rule:∀ (i j:Int) (t u:Tok) (s:Shared) (Q:Value → Shared → Prop) (E:Value → Shared → Prop),Q (.bool (g i j)) s → wpAny (model X.prog X.w) X.A (f (.int i t) (.int j u)) Q E s):
  OpR X f (rI0 fun i j=>.bl (g i j)):=by
 intro pins s σ H x y v u Q I rx ry h
 obtain ⟨i,j,rfl,rfl,q⟩:=h
 obtain ⟨t,rfl⟩:=rx
 obtain ⟨t',rfl⟩:=ry
 exact rule i j t t' s _ _ ⟨.bl (g i j),H,I,rfl,q⟩
noncomputable def ZpH (i j:Int):Prop:=0 < j ∧ j < 1073741824
noncomputable def Zo8 (i j:Int):Prop:=0 ≤ j ∧ j ≤ 1000000 ∧ i.natAbs < 2 ^ 64
noncomputable def ZnD (i j:Int):Prop:=(-(2 ^ 64) < i ∧ i < 2 ^ 64) ∨ (-(2 ^ 64) < j ∧ j < 2 ^ 64)
theorem ZnD.ok {i j:Int} (h:ZnD i j):IntMulOk i j:=by
 rcases h with ⟨h1,h2⟩ | ⟨h1,h2⟩
 ·exact .of_left (intBits_le_64 h1 h2)
 ·exact .of_right (intBits_le_64 h1 h2)
theorem ZmL:OpR X (binaryOp .Add) (rI0 fun i j=>.int (i + j)):=Zon fun _ _ _ _ _ _ _ q=>add_int q
theorem ZmJ:OpR X (binaryOp .Sub) (rI0 fun i j=>.int (i - j)):=Zon fun _ _ _ _ _ _ _ q=>sub_int q
theorem ZnI:OpR X (binaryOp .Mult) (rI ZnD fun i j=>.int (i * j)):=opI fun _ _ _ _ _ _ _ hc q=>mul_int q hc.ok
theorem ZkX:OpR X (binaryOp .FloorDiv) (rI ZpH fun i j=>.int (i / j)):=opI fun i j _ _ _ _ _ hc q=>by
 have h1:(0:Int) < j:=hc.1
 have h2:j < 1073741824:=hc.2
 exact floordiv_int (by exact fun z=>iN [] [_] 2 26014245025 T1 z h1) (by rw [Int.fdiv_eq_ediv_of_nonneg i (by exact Int.le_of_lt h1)]; exact q) (.inl (PyProof.noPylong_small (by omega)))
theorem ZnA:OpR X (binaryOp .Mod) (rI (fun _ j=>0 < j) fun i j=>.int (i % j)):=opI fun i j _ _ _ _ _ hc q=>by
 have h1:(0:Int) < j:=hc
 exact mod_int' (by exact fun z=>iN [] [_] 2 26014245025 T1 z h1) (by rw [Int.fmod_eq_emod_of_nonneg i (by exact Int.le_of_lt h1)]; exact q)
theorem ZmT:OpR X (binaryOp .Pow) (rI Zo8 fun i j=>.int (i ^ j.toNat)):=opI fun _ _ _ _ _ _ _ hc q=>pow_int_small hc.1 hc.2.1 hc.2.2 q
theorem unI {f:Value → Sem Value} {g:Int → Int}
  (rule:∀ (i:Int) (t:Tok) (s:Shared) (Q:Value → Shared → Prop) (E:Value → Shared → Prop),Q (.int (g i) s.toks) { s with toks:=s.toks + 1 } → wpAny (model X.prog X.w) X.A (f (.int i t)) Q E s):
  UnR X f (rU fun i=>.int (g i)):=by
 intro pins s σ H x v Q I rx h
 obtain ⟨i,rfl,q⟩:=h
 obtain ⟨t,rfl⟩:=rx
 exact rule i t s _ _ ⟨.int (g i),H,I.tok _,⟨_,rfl⟩,q⟩
theorem ZmH:UnR X (unaryOp .USub) (rU fun i=>.int (-i)):=unI fun _ _ _ _ _ q=>neg_int q
end
section
variable {X:Cx} {a b c:Expr} {ta tb tc:TE} {pos:Pos}
theorem Zot:OpR X (compareOp .Lt) (rI0 fun i j=>.bl (decide (i < j))):=ZoQ fun _ _ _ _ _ _ _ q=>lt_int q
theorem Zox:OpR X (compareOp .Gt) (rI0 fun i j=>.bl (decide (j < i))):=ZoQ fun _ _ _ _ _ _ _ q=>gt_int q
noncomputable def isObj:HO → Bool
 | .lst _=>true
 | .ins _ _ _=>true
 | _=>false
theorem ZeV {pins:List (Addr × Obj)} {s:Shared} {σ:St} {H:Hp} {a:Addr} {o:HO} (I:Inv X pins σ H s) (h:H a = some o) (p:isObj o = true):∃ ob,s.heap.get? a = some ob ∧ ob.cls ≠ .type "tuple":=by
 cases o with
 | lst xs=>
  obtain ⟨_,its,n,_,e⟩:xs.length ≤ sizeLine ∧ ∃ (its:List Value) (n:Nat),Vals xs its ∧ s.heap.get? a = some { cls:=.type "list",data:=.seq its.toArray n }:=I.hok a _ h
  exact ⟨_,e,(by show Value.type "list" ≠ .type "tuple"; decide +kernel)⟩
 | ins C dx fs=>
  have x:=I.hok a _ h
  obtain ⟨_,_,_,e,_⟩:=x
  exact ⟨_,e,(by show Value.ref C ≠ .type "tuple"; exact fun z=>by cases z)⟩
 | _=>exact absurd (show false = true from p) Bool.false_ne_true
theorem OpR.or {f:Value → Value → Sem Value} {r r':R2} (h:OpR X f r) (h':OpR X f r'):OpR X f (fun x y H Q=>r x y H Q ∨ r' x y H Q):=by
 intro pins s σ H x y v u Q I rx ry q
 rcases q with q | q
 ·exact h pins s σ H x y v u Q I rx ry q
 ·exact h' pins s σ H x y v u Q I rx ry q
theorem ZkV {op:CmpOp} {r:R2} (ho:OpR X (compareOp op) r) (ha:PE X a ta) (hb:PE X b tb) (hm:behindInMarks op b = false):PE X (.Compare a [op] [b] pos) (tOp r ta tb):=by
 intro pins s σ H Q I h
 exact wpAny_Compare1 (Zm4 ha hb I h fun v u s2 x y H2 I2 rx ry q=>ho pins s2 σ H2 x y v u Q I2 rx ry q) hm
noncomputable def Zom (t:TE):TT:=fun σ H Q=>t σ H fun x H'=>∃ k,x = .bl k ∧ Q k H'
theorem Zlx {op:CmpOp} {r:R2} (ho:OpR X (compareOp op) r) (ha:PE X a ta) (hb:PE X b tb) (hm:behindInMarks op b = false):PT X (.Compare a [op] [b] pos) (Zom (tOp r ta tb)):=by
 intro pins s σ H Q I h
 refine wpAny_isTrue_Compare1 (thn (ha pins s σ H _ I h) fun v s1 ⟨x,H1,I1,r1,q1⟩=>thn (hb pins s1 σ H1 _ I1 q1) fun u s2 ⟨y,H2,I2,r2,q2⟩=>
  thn (ho pins s2 σ H2 x y v u _ I2 r1 r2 q2) fun c s3 ⟨z,H3,I3,r3,k,e,q3⟩=>?_) hm
 subst e
 cases r3
 exact wpAny_truthy_bool ⟨H3,I3,q3⟩
theorem ZfB:(sizeLine:Nat) < 2 ^ 63:=by rw [sizeLine_eq]; decide
theorem Zh9:OpR X (binaryOp .Add) (fun x y H Q=>∃ i j,x = .str i ∧ y = .str j ∧ i.length + j.length ≤ sizeLine ∧ Q (.str (i ++ j)) H):=by
 intro pins s σ H x y v u Q I rx ry h
 obtain ⟨i,j,rfl,rfl,hz,q⟩:=h
 obtain ⟨t,rfl⟩:=rx
 obtain ⟨t',rfl⟩:=ry
 exact add_str (fun t' tk=>⟨.str (i ++ j),H,I.tok _,⟨_,rfl⟩,q⟩) hz
theorem vals1 {x:V} {us:List Value} (r:Vals [x] us):∃ u,us = [u] ∧ RelV x u:=by
 cases r with
 | cons r1 r2=>cases r2; exact ⟨_,rfl,r1⟩
theorem vals2 {x y:V} {us:List Value} (r:Vals [x,y] us):∃ u w',us = [u,w'] ∧ RelV x u ∧ RelV y w':=by
 cases r with
 | cons r1 r2=>
  cases r2 with
  | cons r3 r4=>cases r4; exact ⟨_,_,rfl,r1,r3⟩
noncomputable def ZpB (K:PySem.W.Frag) (x:V) (H:Hp) (n:Nat):Prop:=
 match x with
 | .str y=>y.length ≤ sizeLine ∧ n = y.length
 | .byt y=>y.size ≤ sizeLine ∧ n = y.size
 | .ref p=>(∃ xs,SqL K H p xs ∧ n = xs.length) ∨ ∃ xs,SqT K H p xs ∧ n = xs.length
 | _=>False
theorem ZjY:ZbK X (.builtin "len") (fun xs H Q=>∃ x n,xs = [x] ∧ ZpB X.K x H n ∧ Q (.int n) H):=by
 intro pins s σ H xs us Q I r h
 obtain ⟨x,n,rfl,e,q⟩:=h
 obtain ⟨u,rfl,rx⟩:=vals1 r
 have hl:=ZfB
 have hs:sizeLine = 16777216:=sizeLine_eq
 cases x with
 | str y=>
  obtain ⟨t,rfl⟩:=rx
  obtain ⟨hy,e'⟩:y.length ≤ sizeLine ∧ n = y.length:=e
  subst e'
  exact len_str (by omega) ⟨.int _,H,I.tok _,⟨_,rfl⟩,q⟩
 | byt y=>
  obtain ⟨t,rfl⟩:=rx
  obtain ⟨hy,e'⟩:y.size ≤ sizeLine ∧ n = y.size:=e
  subst e'
  exact PySem.W.len_bytes (by omega) ⟨.int _,H,I.tok _,⟨_,rfl⟩,q⟩
 | ref p=>
  cases rx
  have e':(∃ xs,SqL X.K H p xs ∧ n = xs.length) ∨ ∃ xs,SqT X.K H p xs ∧ n = xs.length:=e
  rcases e' with ⟨xs,hx,e'⟩ | ⟨xs,hx,e'⟩
  ·subst e'
   obtain ⟨its,r',pl,hz⟩:=I.list hx
   have hlen:=r'.length
   exact Calls.call_len_list pl.isList (by simp only [List.size_toArray]; omega) ⟨.int xs.length,H,I.tok _,⟨_,by simp only [List.size_toArray]; rw [hlen]⟩,q⟩
  ·subst e'
   obtain ⟨its,r',pl,hz⟩:=I.tuple hx
   have hlen:=r'.length
   exact len_tuple pl (by simp only [List.size_toArray]; omega) ⟨.int xs.length,H,I.tok _,⟨_,by simp only [List.size_toArray]; rw [hlen]⟩,q⟩
 | _=>exact (show False from e).elim
end
end L2
namespace L2
open PySem PySem.Spec PyProof.Rows
structure Znh (h:Heap) (x dx C:Addr) (mA:Str → Option Value):Prop where
 obj:h.get? x = some (PySem.W.instObj C dx)
 ns:h.Ns1 dx mA
 ne:dx ≠ x
theorem ZiT {h:Heap} {dx:Addr} {mA:Str → Option Value} (n:h.Ns1 dx mA):∃ od,h.get? dx = some od ∧ ∀ name,PySem.W.lookIn name od = some (mA name):=by
 obtain ⟨o,es,ep,ho,hd,hk,_,hm⟩:=n
 refine ⟨o,ho,fun name=>?_⟩
 have e:=hm name
 unfold nsFind findBy at e
 rw [← Array.find?_toList] at e
 unfold PySem.W.lookIn
 rw [hd]
 dsimp only
 split
 ·rename_i y q
  rw [q] at e
  exact congrArg some e
 ·rename_i q
  rw [q] at e
  have a:es.toList.any (·.refKey) = false:=by
   rw [List.any_eq_false]
   intro y hy
   obtain ⟨z,t,hkey⟩:=hk y (Array.mem_toList_iff.mp hy)
   simp [DictEntry.refKey,hkey]
  have a':¬ es.toList.any (·.refKey) = true:=by rw [a]; exact Bool.false_ne_true
  rw [if_neg a']
  exact congrArg some e
theorem Znh.look {h:Heap} {x dx C:Addr} {mA:Str → Option Value} (I:Znh h x dx C mA):∃ od,PySem.W.InstAt h x (PySem.W.instObj C dx) C (some od) ∧ ∀ name,PySem.W.lookIn name od = some (mA name):=
 let ⟨od,ho,hl⟩:=ZiT I.ns
 ⟨od,⟨I.obj,rfl,rfl,ho⟩,hl⟩
section
variable {prog:Program} {w:World} {A:Around} {E:Value → Shared → Prop} {s:Shared} {K:PySem.W.Frag} {x dx C f:Addr} {mA:Str → Option Value} {name:Str} {v:Value}
end
noncomputable def ZnE (f:Str) (v:V):List (Str × V) → List (Str × V)
 | []=>[(f,v)]
 | (g,x) :: r=>if g = f then (g,v) :: r else (g,x) :: ZnE f v r
theorem ZfL.some_of {v:V} {o:Option Value} (r:ZfL (some v) o):∃ u,o = some u ∧ RelV v u:=by
 cases o with
 | none=>exact (show False from r).elim
 | some u=>exact ⟨u,rfl,r⟩
section
variable {P:Program} {w:World} {H H':Hp} {h h':Heap} {a C dx:Addr} {fs fs':List (Str × V)}
theorem ZlA (hok:HOk P w H h) (e:H a = some (.ins C dx fs)):∃ mA,Znh h a dx C mA ∧ (∀ f,ZfL (fs.lookup f) (mA f)) ∧ PySem.Within mA (fs.map (·.1)) ∧ fs.length ≤ 1000 ∧ H dx = some (.own a):=by
 obtain ⟨d,z,ne,ob,mA,n,r,q⟩:=(show Zbf P w H h a (.ins C dx fs) from hok a _ e)
 exact ⟨mA,⟨ob,n,ne⟩,r,q,z,d⟩
end
structure Cls (K:PySem.W.Frag) (C:Addr):Prop where
 pg:PySem.W.plainGet K C Str.empty = true
 hd:PySem.W.hasDictIn K C = true
 po:PySem.W.plainOver K C = true
 sa:PySem.W.findIn K (.ref C) "__setattr__" = some (some (.builtin "object.__setattr__"))
theorem Cls.get {K:PySem.W.Frag} {C:Addr} (c:Cls K C) (f:Str):PySem.W.plainGet K C f = true:=c.pg
structure Meth (K:PySem.W.Frag) (C:Addr) (m:Str) (f:Addr):Prop where
 at_:PySem.W.findIn K (.ref C) m = some (some (.ref f))
 fn:PySem.W.isFn K (.ref f) = true
 kp:PySem.W.keepIn K (.ref f) = true
section
variable {X:Cx} {pins:List (Addr × Obj)} {σ:St} {H:Hp} {s:Shared} {a C dx:Addr} {fs:List (Str × V)} {f:Str} {v:V} {A:Around} {E:Value → Shared → Prop}
end
section
variable {X:Cx} {o e value:Expr} {f:Str} {pos pos' tpos:Pos} {ta tv:TE}
end
section
variable {X:Cx} {pins:List (Addr × Obj)} {σ:St} {H:Hp} {s:Shared} {A:Around} {E:Value → Shared → Prop} {Q:Value → Shared → Prop} {c:Value} {b:Bool}
inductive Zfd (K:PySem.W.Frag) (H:Hp):V → Value → Prop where
 | non:Zfd K H .non (.type "NoneType")
 | bl (x:Bool):Zfd K H (.bl x) (.type "bool")
 | int (i:Int):Zfd K H (.int i) (.type "int")
 | str (x:Str):Zfd K H (.str x) (.type "str")
 | flt (x:UInt64):Zfd K H (.flt x) (.type "float")
 | lst {a:Addr} {xs:List V} (e:H a = some (.lst xs)):Zfd K H (.ref a) (.type "list")
 | frz {a:Addr} {o:Obj} {xs:List V} (e:H a = some (.frz o (.lst xs))):Zfd K H (.ref a) (.type "list")
 | tup {a:Addr} {xs:List V} (e:H a = some (.tup xs)):Zfd K H (.ref a) (.type "tuple")
 | dK {a:Addr} {kvs:List (Key × V)} (e:H a = some (.dK kvs)):Zfd K H (.ref a) (.type "dict")
 | dT {a:Addr} {kvs:List (List Key × V)} (e:H a = some (.dT kvs)):Zfd K H (.ref a) (.type "dict")
 | ins {a C dx:Addr} {fs:List (Str × V)} (e:H a = some (.ins C dx fs)) (cl:Cls K C) (ha:PySem.W.findIn K (.ref C) "__class__" = some (some (.builtin "object.__class__")))
   (hn:PySem.W.specialIn K (.builtin "object.__class__") "__get__" = some (some (.builtin "getset_descriptor.__get__"))) (htk:PySem.W.takesIn K (.builtin "object.__class__") = some true)
   (hm:PySem.W.mroIn K C (.type "object") = some true):Zfd K H (.ref a) (.ref C)
theorem Zcy {x:V} {u t:Value} (I:Inv X pins σ H s) (rx:RelV x u) (ty:Zfd X.K H x t) (e:PySem.W.kitOne X.K t c = some b) (h:∀ tk,Q (.bool b) { s with toks:=tk }):
  wpAny (model X.prog X.w) A (call (.builtin "isinstance") [u,c]) Q E s:=by
 cases ty with
 | non=>cases (show u = Value.none from rx); exact PySem.W.kia_one PySem.W.kitx_none I.kIn True.intro e (fun z=>nomatch z) h
 | bl y=>cases (show u = Value.bool y from rx); exact PySem.W.kia_one PySem.W.kitx_bool I.kIn True.intro e (fun z=>nomatch z) h
 | int i=>obtain ⟨t,q⟩:=(show ∃ t,u = Value.int i t from rx); cases q; exact PySem.W.kia_one PySem.W.kitx_int I.kIn True.intro e (fun z=>nomatch z) h
 | str y=>obtain ⟨t,q⟩:=(show ∃ t,u = Value.str y t from rx); cases q; exact PySem.W.kia_one PySem.W.kitx_str I.kIn True.intro e (fun z=>nomatch z) h
 | flt y=>obtain ⟨t,q⟩:=(show ∃ t,u = Value.float y t from rx); cases q; exact PySem.W.kia_one PySem.W.kitx_float I.kIn True.intro e (fun z=>nomatch z) h
 | @lst a xs ea=>
  cases (show u = Value.ref a from rx)
  obtain ⟨_,_,n,_,h1⟩:=(show Zbf X.prog X.w H s.heap a (.lst xs) from I.hok a _ ea)
  exact PySem.W.kia_one PySem.W.kitx_list I.kIn ⟨_,h1,rfl⟩ e (fun z=>nomatch z) h
 | @frz a ob xs ea=>
  cases (show u = Value.ref a from rx)
  obtain ⟨_,_,_,n,_,h1⟩:=(show Zbf X.prog X.w H s.heap a (.frz ob (.lst xs)) from I.hok a _ ea)
  exact PySem.W.kia_one PySem.W.kitx_list I.kIn ⟨_,h1,rfl⟩ e (fun z=>nomatch z) h
 | @tup a xs ea=>
  cases (show u = Value.ref a from rx)
  obtain ⟨_,_,_,p⟩:=(show Zbf X.prog X.w H s.heap a (.tup xs) from I.hok a _ ea)
  obtain ⟨o,h1,h2,_⟩:=p
  exact PySem.W.kia_one PySem.W.kitx_tuple I.kIn ⟨o,h1,h2.1⟩ e (fun z=>nomatch z) h
 | @dK a kvs ea=>
  cases (show u = Value.ref a from rx)
  obtain ⟨_,_,vs,_,p⟩:=(show Zbf X.prog X.w H s.heap a (.dK kvs) from I.hok a _ ea)
  obtain ⟨o,es,ep,h1,h2,_⟩:=p
  exact PySem.W.kia_one PySem.W.kitx_dict I.kIn ⟨o,h1,h2.1⟩ e (fun z=>nomatch z) h
 | @dT a kvs ea=>
  cases (show u = Value.ref a from rx)
  obtain ⟨_,_,xs,_,o,es,ep,h1,h2,_⟩:=(show Zbf X.prog X.w H s.heap a (.dT kvs) from I.hok a _ ea)
  exact PySem.W.kia_one PySem.W.kitx_dict I.kIn ⟨o,h1,h2.1⟩ e (fun z=>nomatch z) h
 | @ins a C dx fs ea cl ha hn htk hm=>
  cases (show u = Value.ref a from rx)
  obtain ⟨mA,O,_⟩:=ZlA I.hok ea
  obtain ⟨od,J,_⟩:=O.look
  exact PySem.W.kia_one (PySem.W.kitx_own (cl.get _) cl.hd ha hn htk hm) I.kIn J e (fun z=>nomatch z) h
end
end L2
namespace L2
open PySem PySem.Spec PyProof.Rows
structure ZbW (k:Nat) (A:Around):Prop where
 hd:A.handled = none
 dp:A.depth + 3 * k + 5 < recursionLimit
 un:A.units + 16 * k + 200 < cLine
theorem ZbW.mono {j k:Nat} {A:Around} (r:ZbW k A) (h:j ≤ k):ZbW j A:=⟨r.hd,by have:=r.dp; exact lD 2 0x251b303d0cc11303251b103d0cc11 T1 this h,by have:=r.un; omega⟩
theorem ZbW.deeper {k:Nat} {A:Around} (r:ZbW (k + 1) A) (env:Env):ZbW k (A.deeper env):=
 ⟨r.hd,by have:=r.dp; show A.depth + 1 + 3 * k + 5 < _; exact lC 1 0x251b103da0ccc1251ba1c03d0cc11 T1 this,by have:=r.un; show A.units + 3 + 16 * k + 200 < _; exact lC 1 0x2c82b110d31b0ccc12c82ba1c10d0cc11 T1 this⟩
theorem ZbW.in1 {k:Nat} {A:Around} (r:ZbW (k + 1) A):ZbW k A.in1:=
 ⟨r.hd,by have:=r.dp; show A.depth + 3 * k + 5 < _; exact lC 1 0x251b103d0cc1251ba1c03d0cc11 T1 this,by have:=r.un; show A.units + 1 + 16 * k + 200 < _; exact lC 1 0x2c82b110da0ccc12c82ba1c10d0cc11 T1 this⟩
theorem ZbW.depth {k:Nat} {A:Around} (r:ZbW k A):A.depth < recursionLimit:=by have:=r.dp; exact lC 1 0x201251b103d0cc11 T1 this
theorem ZbW.units {k:Nat} {A:Around} (r:ZbW k A):A.units + 64 < cLine:=by have:=r.un; exact lC 1 0x2402b0c12c82b110d0cc11 T1 this
noncomputable def ZpJ:TA:=fun _ H Q=>Q [] H
noncomputable def ZoP (ta:TE) (tr:TA):TA:=fun σ H Q=>ta σ H fun x H1=>tr σ H1 fun xs H2=>Q (x :: xs) H2
section
variable {X:Cx} {e:Expr} {es:List Expr} {te:TE} {t:TA} {pos:Pos}
theorem ZeQ:PA X [] ZpJ:=fun _ _ _ _ H Q I h=>Calls.spliced_nil ⟨[],H,I,.nil,h⟩
theorem Zcr (ha:PE X e te) (hr:PA X es t) (hs:starEach (e :: es) X.env = (false,eval e X.env) :: starEach es X.env:=by rfl):PA X (e :: es) (ZoP te t):=by
 intro pos pins s σ H Q I h
 rw [hs]
 show wpAny _ _ (spliced ((false,eval e X.env) :: backTo pos (starEach es X.env))) _ _ s
 refine Calls.spliced_cons (thn (ha pins s σ H _ I h) fun u s1 zz1=>?_)
 obtain ⟨x,H1,I1,r1,q1⟩:=zz1
 exact thn (hr pos pins s1 σ H1 _ I1 q1) fun us s2 ⟨xs,H2,I2,r2,q2⟩=>⟨x :: xs,H2,I2,.cons r1 r2,q2⟩
noncomputable def Zo5 (t:TA):TE:=fun σ H Q=>t σ H fun xs H1=>xs.length ≤ sizeLine ∧ ∀ p,H1 p = none → Q (.ref p) (upd H1 p (.tup xs))
noncomputable def Zpj (t:TA):TE:=fun σ H Q=>t σ H fun xs H1=>xs.length ≤ sizeLine ∧ ∀ p,H1 p = none → Q (.ref p) (upd H1 p (.lst xs))
theorem Zkq {x1} (h:PA X es t):PE X (.Tuple es x1 pos) (Zo5 t):=by
 intro pins s σ H Q I hq
 refine wpAny_Tuple_spliced (thn (h pos pins s σ H _ I hq) fun us s1 ⟨xs,H1,I1,r,z,q⟩=>⟨by rw [← r.length]; exact z,?_⟩)
 have hf:H1 s1.heap.objs.size = none:=I1.hok.fresh (Nat.le_refl _)
 refine ⟨.ref s1.heap.objs.size,upd H1 s1.heap.objs.size (.tup xs),I1.laid (t':=s1.toks) (fun b u e=>Heap.get?_push_of_some _ e) (Nat.le_refl _) ?_,rfl,q _ hf⟩
 exact ⟨z,us,r,⟨_,Heap.get?_push_size _ rfl,⟨rfl,rfl⟩,_,rfl⟩⟩
theorem Zke (h:PA X es t):PE X (.List es pos) (Zpj t):=by
 intro pins s σ H Q I hq
 refine wpAny_List_spliced (thn (h pos pins s σ H _ I hq) fun us s1 ⟨xs,H1,I1,r,z,q⟩=>⟨by rw [← r.length]; exact z,?_⟩)
 have hf:H1 s1.heap.objs.size = none:=I1.hok.fresh (Nat.le_refl _)
 refine ⟨.ref s1.heap.objs.size,upd H1 s1.heap.objs.size (.lst xs),I1.laid (t':=s1.toks) (fun b u e=>Heap.get?_push_of_some _ e) (Nat.le_refl _) ?_,rfl,q _ hf⟩
 exact ⟨z,us,0,r,Heap.get?_push_size _ rfl⟩
end
noncomputable abbrev Sp:=List V → Hp → VK → XK → Prop
noncomputable abbrev CXT:=List Env → Hp → Shared → XK → Value → Shared → Prop
structure Zic (P:Program) (w:World) (K:PySem.W.Frag) (mg:Str → Option Value) (base:Heap) (A:Around) (outer:List Env) (s:Shared) (H:Hp):Prop where
 frames:A.frames = some outer
 mod:Mod K mg base
 bs:∀ b o,base.get? b = some o → s.heap.get? b = some o ∧ H b = none
 bsz:base.objs.size ≤ s.heap.objs.size
 funs:s.heap.FunFrames base outer
 frf:∀ b ∈ frs outer,H b = none
 hok:HOk P w H s.heap
 bare:AllBare s.gens
noncomputable def CE (outer:List Env) (P:Program) (w:World) (H:Hp) (s:Shared) (Q:VK) (u:Value) (s':Shared):Prop:=
 ∃ v H',s'.os = s.os ∧ AllBare s'.gens ∧ Un (frs outer) [] H H' s.heap s'.heap ∧ HOk P w H' s'.heap ∧ RelV v u ∧ Q v H'
noncomputable def CR (CX:CXT) (outer:List Env) (P:Program) (w:World) (H:Hp) (s:Shared) (Q:VK) (E:XK) (r:Result) (s':Shared):Prop:=
 match r with
 | .ok (.ret u)=>CE outer P w H s Q u s'
 | .ok _=>False
 | .error e=>CX outer H s E e s'
structure ZcW (P:Program) (w:World) (K:PySem.W.Frag) (mg:Str → Option Value) (base:Heap) (CX:CXT) (k:Nat) (f:Addr) (fd:FuncData) (ps:List Str) (sp:Sp):Prop where
 len:∀ vs H Q E,sp vs H Q E → vs.length = ps.length
 run:∀ (A:Around) (outer:List Env) (s:Shared) (H:Hp) (args:Args) (us:List Value) (vs:List V) (Q:VK) (E:XK),ZbW k A → Zic P w K mg base A outer s H → BindsTo s fd args (ps.zip us) → Vals vs us → sp vs H Q E →
  codeAny (model P w) A (.call (.ref f) args) (CR CX outer P w H s Q E) s
theorem ZcW.mono {P:Program} {w:World} {K:PySem.W.Frag} {mg:Str → Option Value} {base:Heap} {CX:CXT} {j k:Nat} {f:Addr} {fd:FuncData} {ps:List Str} {sp:Sp} (F:ZcW P w K mg base CX j f fd ps sp) (h:j ≤ k):
  ZcW P w K mg base CX k f fd ps sp:=⟨F.len,fun A outer s H args us vs Q E hr=>F.run A outer s H args us vs Q E (hr.mono h)⟩
theorem Zic.in1 {P:Program} {w:World} {K:PySem.W.Frag} {mg:Str → Option Value} {base:Heap} {A:Around} {outer:List Env} {s:Shared} {H:Hp} (e:Zic P w K mg base A outer s H):
  Zic P w K mg base A.in1 outer s H:=⟨e.frames,e.mod,e.bs,e.bsz,e.funs,e.frf,e.hok,e.bare⟩
section
variable {X:Cx} {pins:List (Addr × Obj)} {σ:St} {H:Hp} {s s':Shared}
theorem Inv.env0 (I:Inv X pins σ H s):Zic X.prog X.w X.K X.mg X.base X.A X.stack s H:=
 ⟨I.ok.frames,I.ok.mod,I.bs,Nat.le_trans I.ok.bsz I.sz,I.stack,I.stkFree,I.hok,I.bare⟩
theorem Inv.after {Q:VK} {u:Value} (I:Inv X pins σ H s) (h:CE X.stack X.prog X.w H s Q u s'):EP X pins σ Q u s':=by
 obtain ⟨v,H',os,bare,un,hok,r,q⟩:=h
 obtain ⟨hh,g,d,t,os'⟩:=s'
 obtain rfl:os' = s.os:=os
 exact ⟨v,H',I.call (h':=hh) (g':=g) (d':=d) (t':=t) (ch:=[]) un hok bare (fun b z=>absurd z (by simp)),r,q⟩
end
noncomputable def Zoe (sp:Sp) (dvs:List V) (E:XK) (t:TA):TE:=fun σ H Q=>t σ H fun vs H1=>sp (vs ++ dvs) H1 Q E
noncomputable def Binds (K:PySem.W.Frag) (fd:FuncData) (ps:List Str) (ds:List Value):Prop:=
 ∀ (s:Shared) (us:List Value),K.In s.heap → (us ++ ds).length = ps.length → BindsTo s fd ⟨us,[]⟩ (ps.zip (us ++ ds))
theorem Binds.all {K:PySem.W.Frag} {fd:FuncData} {ps:List Str} (h:∀ us:List Value,us.length = ps.length → bindArgs fd ⟨us,[]⟩ = pure (ps.zip us)):Binds K fd ps []:=fun s us _ hl=>by
 rw [List.append_nil] at hl ⊢
 exact .of_eq (h us hl)
noncomputable def Zif (CX:CXT) (X:Cx) (E:XK):Prop:=∀ (pins:List (Addr × Obj)) (σ:St) (H:Hp) (s:Shared) (e:Value) (s':Shared),Inv X pins σ H s → CX X.stack H s E e s' → X.xe e s'
section
variable {X:Cx} {CX:CXT} {k:Nat} {f C:Addr} {fd:FuncData} {ps:List Str} {sp:Sp} {dvs:List V} {ds:List Value} {E:XK} {x m:Str} {p pos apos:Pos} {e o:Expr} {es:List Expr} {ta:TE} {t:TA}
theorem ZmB {pins:List (Addr × Obj)} {σ:St} {H:Hp} {s:Shared} {Q:VK} {us:List Value} {vs:List V} (F:ZcW X.prog X.w X.K X.mg X.base CX k f fd ps sp) (hr:ZbW k X.A) (hb:Binds X.K fd ps ds) (hd:Vals dvs ds) (hx:Zif CX X E)
  (I:Inv X pins σ H s) (r:Vals vs us) (h:sp (vs ++ dvs) H Q E):wpAny (model X.prog X.w) X.A (call (.ref f) us) (EP X pins σ Q) X.xe s:=by
 have r2:Vals (vs ++ dvs) (us ++ ds):=r.append hd
 have hl:(us ++ ds).length = ps.length:=by rw [← r2.length]; exact F.len _ _ _ _ h
 refine wpAny_call (codeAny_mono (F.run X.A X.stack s H ⟨us,[]⟩ (us ++ ds) (vs ++ dvs) Q E hr I.env0 (hb s us I.kIn hl) r2 h) fun r s' hq=>?_)
 cases r with
 | error e=>exact hx pins σ H s e s' I hq
 | ok fl=>
  cases fl with
  | ret u=>exact I.after hq
  | next=>exact False.elim hq
  | brk=>exact False.elim hq
  | cont=>exact False.elim hq
theorem Zk1 (F:ZcW X.prog X.w X.K X.mg X.base CX k f fd ps sp) (hr:ZbW k X.A) (hg:Gl X x) (hm:X.mg x = some (.ref f)) (hk:PySem.W.keepIn X.K (.ref f) = true) (hb:Binds X.K fd ps ds) (hd:Vals dvs ds) (hx:Zif CX X E)
  (ha:PA X (e :: es) t) (hdb:(x == ("__debug__":Str)) = false:=by decide) (he:starEach (e :: es) X.env = (false,eval e X.env) :: starEach es X.env:=by rfl) (hpl:(backTo pos (starEach es X.env)).any (·.1) = false:=by rfl):
  PE X (.Call (.Name x p) (e :: es) [] pos) (Zoe sp dvs E t):=by
 intro pins s σ H Q I h
 refine wpAny_Call_Name_kw (ZeH I hg hm ?_ hdb)
 refine PySem.W.callWith_K (h₀:=X.base) I.ok.mod.kin hk (thn (ha pos pins s σ H _ I h) fun us s1 ⟨vs,H1,I1,r,q⟩=>⟨I1.kIn,?_⟩) he hpl
 exact ZmB F hr hb hd hx I1 r q
end
section
variable {X:Cx} {CX:CXT} {k:Nat} {f C:Addr} {fd:FuncData} {ps ks:List Str} {sp:Sp} {E:XK} {x m:Str} {p pos apos kpos:Pos} {e o:Expr} {es:List Expr} {kws:List Keyword} {te ta:TE} {t tk:TA} {nm:Option Str}
structure ZmE (K:PySem.W.Frag) (fd:FuncData) (ps ks:List Str) (g:List Value → List Value → List Value) (gV:List V → List V → List V):Prop where
 to:∀ (s:Shared) (us ws:List Value),K.In s.heap → (g us ws).length = ps.length → BindsTo s fd ⟨us,ks.zip ws⟩ (ps.zip (g us ws))
 rel:∀ {vs:List V} {us:List Value} {zs:List V} {ws:List Value},Vals vs us → Vals zs ws → Vals (gV vs zs) (g us ws)
variable {g:List Value → List Value → List Value} {gV:List V → List V → List V}
end
structure Zay (N P:List Str) (sc:Scope):Prop where
 kind:sc.kind = .function
 co:sc.isCoroutine = false
 gen:sc.isGenerator = false
 nd:N.Nodup
 pre:N.take P.length = P
 par:∀ x ∈ P,sc.names.lookup x = some .local ∨ sc.names.lookup x = some .cell
 nofree:∀ y ∈ sc.names,y.2 ≠ .free
theorem Zgr {kindOf:Str → Option NameKind} {x:Str}:∀ {binds:List (Str × Value)} {m:Str → Option Value},(∀ v,(x,v) ∉ binds) → bindL kindOf binds m x = m x
 | [],_,_=>rfl
 | (n,v) :: r,m,h=>by
  unfold bindL
  rw [Zgr fun w hw=>h w (List.mem_cons_of_mem _ hw)]
  split
  ·have:x ≠ n:=by rintro rfl; exact h v List.mem_cons_self
   simp [this]
  ·rfl
theorem Zgp {kindOf:Str → Option NameKind} {x:Str}:∀ {binds:List (Str × Value)} {m:Str → Option Value},(∀ v,(x,v) ∉ binds) → bindC kindOf binds m x = m x
 | [],_,_=>rfl
 | (n,v) :: r,m,h=>by
  unfold bindC
  rw [Zgp fun w hw=>h w (List.mem_cons_of_mem _ hw)]
  split
  ·rfl
  ·have:x ≠ n:=by rintro rfl; exact h v List.mem_cons_self
   simp [this]
theorem Zgs {kindOf:Str → Option NameKind} {x:Str} {v:Value}:∀ {P:List Str} {vs:List Value} {i:Nat} {m:Str → Option Value},P.Nodup → P[i]? = some x → vs[i]? = some v → kindOf x = some .local →
  bindL kindOf (P.zip vs) m x = some v
 | [],_,_,_,_,h,_,_=>by simp at h
 | _ :: _,[],_,_,_,_,h,_=>by simp at h
 | p :: P,w :: vs,0,m,nd,h1,h2,hk=>by
  simp at h1 h2; subst h1; subst h2
  show bindL kindOf ((p,w) :: P.zip vs) m p = _
  unfold bindL
  rw [Zgr fun v hv=>(List.nodup_cons.mp nd).1 (List.of_mem_zip hv).1,if_pos hk]
  simp
 | p :: P,w :: vs,i + 1,m,nd,h1,h2,hk=>by
  show bindL kindOf ((p,w) :: P.zip vs) m x = _
  unfold bindL
  exact Zgs (i:=i) (List.nodup_cons.mp nd).2 (by simpa using h1) (by simpa using h2) hk
theorem Zgn {kindOf:Str → Option NameKind} {x:Str} {v:Value}:∀ {P:List Str} {vs:List Value} {i:Nat} {m:Str → Option Value},P.Nodup → P[i]? = some x → vs[i]? = some v → kindOf x ≠ some .local →
  bindC kindOf (P.zip vs) m x = some v
 | [],_,_,_,_,h,_,_=>by simp at h
 | _ :: _,[],_,_,_,_,h,_=>by simp at h
 | p :: P,w :: vs,0,m,nd,h1,h2,hk=>by
  simp at h1 h2; subst h1; subst h2
  show bindC kindOf ((p,w) :: P.zip vs) m p = _
  unfold bindC
  rw [Zgp fun v hv=>(List.nodup_cons.mp nd).1 (List.of_mem_zip hv).1,if_neg hk]
  simp
 | p :: P,w :: vs,i + 1,m,nd,h1,h2,hk=>by
  show bindC kindOf ((p,w) :: P.zip vs) m x = _
  unfold bindC
  exact Zgn (i:=i) (List.nodup_cons.mp nd).2 (by simpa using h1) (by simpa using h2) hk
noncomputable def start (N:List Str) (vs:List V):St:=vs.map some ++ List.replicate (N.length - vs.length) none
noncomputable def Zfw (CX:CXT) (P:Program) (w:World) (K:PySem.W.Frag) (mg:Str → Option Value) (base:Heap) (N:List Str) (qual:Str) (scope:Scope) (f:Addr) (cd:Value) (A:Around) (outer:List Env) (s:Shared) (H:Hp) (E:XK):Cx where
 prog:=P
 w:=w
 K:=K
 mg:=mg
 base:=base
 A:=A.deeper (envOfC qual scope s.heap.objs.size f cd)
 N:=N
 s₀:=s
 H₀:=H
 env:=envOfC qual scope s.heap.objs.size f cd
 outer:=outer
 stack:=envOfC qual scope s.heap.objs.size f cd :: outer
 ex:=[]
 calm:=true
 fn:=fun _=>true
 pn:=[]
 xe:=fun e s'=>wpAny (model P w) (A.deeper (envOfC qual scope s.heap.objs.size f cd)) (leaving (envOfC qual scope s.heap.objs.size f cd) e) (fun _ s''=>CX outer H s E e s'') (fun e' s''=>CX outer H s E e' s'') s'
theorem Zhr {sc:Scope} {n:Nat} {x:Str} (h:sc.names.lookup x = some .cell):∃ c,(cellsFrom n sc.names []).lookup x = some c:=by
 have q:=PySem.W.cellsFrom_some sc.names n [] (.inl h)
 exact Option.isSome_iff_exists.mp q
theorem Zi2 {CX:CXT} {P:Program} {w:World} {K:PySem.W.Frag} {mg:Str → Option Value} {base:Heap} {N ps:List Str} {qual:Str} {scope:Scope} {f:Addr} {cd:Value} {A:Around} {outer:List Env} {s s1:Shared} {H:Hp} {E:XK} {us:List Value} {vs:List V}
  (S:Zay N ps scope) (hd:A.handled = none) (e0:Zic P w K mg base A outer s H) (hl:vs.length = ps.length) (r:Vals vs us)
  (x:InCallC s s.heap.objs.size (bindL (envOfC qual scope s.heap.objs.size f cd).kindOf (ps.zip us) fun _=>none) (cellsFrom (s.heap.objs.size + 1) scope.names []) (bindC (envOfC qual scope s.heap.objs.size f cd).kindOf (ps.zip us) fun _=>none) s1):
  Inv (Zfw CX P w K mg base N qual scope f cd A outer s H E) [] (start N vs) H s1:=by
 have hpl:ps.length ≤ N.length:=by have:=congrArg List.length S.pre; rw [List.length_take] at this; omega
 obtain ⟨h1,tk,rfl,hk⟩:=x.done
 have noA:∀ b:Addr,b ∉ (Zfw CX P w K mg base N qual scope f cd A outer s H E).ex:=fun b z=>absurd (show b ∈ ([]:List Addr) from z) (by simp)
 refine ⟨⟨e0.mod,S.kind,rfl,rfl,Nat.le_refl _,fun y z c h1 h2=>?_,fun y hy=>?_,fun y c _ h=>?_,fun _=>hd,Around.frames_deeper e0.frames,.inr ⟨rfl,rfl⟩,fun b z=>absurd z (noA b),e0.bs,e0.bsz,fun b _ _=>noA b,fun b z=>absurd z (noA b),e0.funs,e0.frf⟩,
  rfl,e0.bare,Un.kept hk,⟨_,x.toInCall.ns,fun i y v h1 h2 h3=>?_⟩,fun y c h=>⟨_,x.cell y c h⟩,e0.hok.fresh (Nat.le_refl _),fun y c h=>?_,fun p hp=>absurd (show p ∈ ([]:List (Addr × Obj)) from hp) (by simp),e0.hok.kept hk,?_⟩
 ·exact name_of_addr x.apart (PySem.mem_of_lookup h1) (PySem.mem_of_lookup h2)
 ·have hy:scope.names.lookup y = some .cell ∨ scope.names.lookup y = some .free:=hy
  rcases hy with hy | hy
  ·exact Zhr hy
  ·exact absurd rfl (S.nofree _ (PySem.mem_of_lookup hy))
 ·exact Nat.le_of_lt (x.above y c (PySem.mem_of_lookup h))
 ·have hi:i < vs.length:=by
   unfold start at h2
   by_cases hi:i < vs.length
   ·exact hi
   ·rw [List.getElem?_append_right (by simpa using hi)] at h2
    rw [List.getElem?_replicate] at h2
    split at h2 <;> cases h2
  have ha:vs[i]? = some v:=by
   unfold start at h2
   rw [List.getElem?_append_left (by simpa using hi),List.getElem?_map] at h2
   cases e:vs[i]? with
   | none=>rw [e] at h2; cases h2
   | some a=>rw [e] at h2; cases h2; rfl
  obtain ⟨u,hu,rv⟩:=r.get ha
  have hp:ps[i]? = some y:=by
   rw [← S.pre,List.getElem?_take_of_lt (by exact lC 2 2203874037777 T1 hi hl)]; exact h1
  have ndP:ps.Nodup:=by rw [← S.pre]; exact S.nd.sublist (List.take_sublist _ _)
  refine ⟨u,rv,?_⟩
  rcases S.par y (List.mem_of_getElem? hp) with k | k
  ·exact .inl ⟨k,Zgs ndP hp hu k⟩
  ·obtain ⟨c,e⟩:=Zhr (n:=s.heap.objs.size + 1) k
   refine .inr ⟨.inl k,c,e,?_⟩
   have q:=x.cell y c e
   rw [Zgn ndP hp hu (by show scope.names.lookup y ≠ _; rw [k]; decide)] at q
   exact q
 ·exact e0.hok.fresh (Nat.le_of_lt (x.above y c (PySem.mem_of_lookup h)))
 ·unfold start
  show _ = N.length
  rw [List.length_append,List.length_map,List.length_replicate]
  exact Nat.le_antisymm (lC 1 2206541614113 T1 (Nat.sub_add_cancel (lC 2 1236986302465 T1 hpl hl))) (lC 1 1288492400641 T1 (sbA _ _))
theorem ZlU {CX:CXT} {P:Program} {w:World} {K:PySem.W.Frag} {mg:Str → Option Value} {base:Heap} {k:Nat} {f:Addr} {name qual:Str} {params:Arguments} {body:List Stmt} {scope:Scope} {dV kV doc pm cdv ct oc:Value} {an od:Option Addr}
  {osl:Array (Option Value)} {N ps:List Str} {sp:Sp} (lk:K.lookup f = some ⟨oc,od,.func (PySem.W.fnOf name qual params body scope dV kV doc pm an cdv ct),osl⟩) (hcd:PySem.W.codeIn K cdv qual = true) (S:Zay N ps scope)
  (len:∀ vs H Q E,sp vs H Q E → vs.length = ps.length)
  (hbody:∀ (A:Around) (outer:List Env) (s:Shared) (H:Hp) (vs:List V) (Q:VK) (E:XK),ZbW k (A.deeper (envOfC qual scope s.heap.objs.size f cdv)) → sp vs H Q E →
   ∃ t,PSs (Zfw CX P w K mg base N qual scope f cdv A outer s H E) body t ∧ t { nx:=fun _ H'=>Q .non H',rt:=Q } (start N vs) H):
  ZcW P w K mg base CX (k + 1) f (PySem.W.fnOf name qual params body scope dV kV doc pm an cdv ct) ps sp:=by
 refine ⟨len,fun A outer s H args us vs Q E hr e0 hb r hsp=>?_⟩
 have hl:=len _ _ _ _ hsp
 have KX:K.In s.heap:=e0.mod.kin.keeps fun b o e=>(e0.bs b o e).1
 have lim:s.heap.NoLimit:=e0.mod.nolimit.keeps fun b o e=>(e0.bs b o e).1
 have hkind:∀ y ∈ ps.zip us,scope.names.lookup y.1 = some .local ∨ (scope.names.lookup y.1 = some .cell ∧ ((cellsFrom (s.heap.objs.size + 1) scope.names []).lookup y.1).isSome = true):=fun ⟨n,v⟩ hy=>by
  rcases S.par n (List.of_mem_zip hy).1 with q | q
  ·exact .inl q
  ·exact .inr ⟨q,PySem.W.cellsFrom_some _ _ _ (.inl q)⟩
 refine codeAny_call_function hr.depth (KX _ _ lk) rfl S.co S.gen rfl (PySem.W.codeRec_of KX hcd) (hb _ _ _ _ ?_)
 refine wpAny_newFunctionEnv_cells S.kind hkind fun env he s1 x=>?_
 subst he
 refine ⟨lim.keeps x.toInCall.keep,codeAny_func ?_⟩
 obtain ⟨t,ht,hq⟩:=hbody A outer s H vs Q E (hr.deeper _) hsp
 have I:Inv (Zfw CX P w K mg base N qual scope f cdv A outer s H E) [] (start N vs) H s1:=Zi2 S hr.hd e0 hl r x
 refine wpAny_mono (ht [] s1 (start N vs) H _ I hq) (fun fl s' hs=>?_) fun e s' hs=>hs
 have fin:∀ {σ':St} {H':Hp} {v:V} {u:Value},Inv (Zfw CX P w K mg base N qual scope f cdv A outer s H E) [] σ' H' s' → RelV v u → Q v H' → CE outer P w H s Q u s':=
  fun {σ' H' v u} J rv q=>⟨v,H',J.os,J.bare,J.base,J.hok,rv,q⟩
 cases fl with
 | ret u=>
  obtain ⟨v,σ',H',J,rv,q⟩:=hs
  exact fin J rv q
 | next=>
  obtain ⟨σ',H',J,q⟩:=hs
  exact fin (v:=V.non) (u:=Value.none) J rfl q
 | brk=>
  obtain ⟨_,_,_,q⟩:=hs
  exact False.elim q
 | cont=>
  obtain ⟨_,_,_,q⟩:=hs
  exact False.elim q
end L2
namespace L2
open PySem PySem.Spec PyProof.Rows
section
variable {X:Cx} {x:Str} {p pos:Pos} {e:Expr} {es:List Expr} {t:TA} {id T:String} {r:List V → Hp → VK → Prop}
noncomputable def tCB (r:List V → Hp → VK → Prop) (t:TA):TE:=fun σ H Q=>t σ H fun vs H1=>r vs H1 Q
theorem ZeF (hc:ZbK X (.builtin id) r) (hg:Gl X x) (hm:X.mg x = none) (hv:bootBuiltins x = some (.builtin id)) (ha:PA X (e :: es) t) (hn:x ≠ "__name__":=by decide) (hdb:(x == ("__debug__":Str)) = false:=by decide)
  (he:starEach (e :: es) X.env = (false,eval e X.env) :: starEach es X.env:=by rfl) (hpl:(backTo pos (starEach es X.env)).any (·.1) = false:=by rfl):PE X (.Call (.Name x p) (e :: es) [] pos) (tCB r t):=by
 intro pins s σ H Q I h
 refine wpAny_Call_Name_kw (ZfX I hg hm hv ?_ hn hdb)
 exact PyProof.Rows.callWith_builtin1 (thn (ha pos pins s σ H _ I h) fun us s1 ⟨vs,H1,I1,r1,q1⟩=>hc pins s1 σ H1 vs us Q I1 r1 q1) he hpl
theorem Zji (hc:ZbK X (.type T) r) (hg:Gl X x) (hm:X.mg x = none) (hv:bootBuiltins x = some (.type T)) (ha:PA X (e :: es) t) (hn:x ≠ "__name__":=by decide) (hdb:(x == ("__debug__":Str)) = false:=by decide)
  (he:starEach (e :: es) X.env = (false,eval e X.env) :: starEach es X.env:=by rfl) (hpl:(backTo pos (starEach es X.env)).any (·.1) = false:=by rfl):PE X (.Call (.Name x p) (e :: es) [] pos) (tCB r t):=by
 intro pins s σ H Q I h
 refine wpAny_Call_Name_kw (ZfX I hg hm hv ?_ hn hdb)
 exact PyProof.Rows.callWith_type1 (thn (ha pos pins s σ H _ I h) fun us s1 ⟨vs,H1,I1,r1,q1⟩=>hc pins s1 σ H1 vs us Q I1 r1 q1) he hpl
end
end L2
namespace HT
open PySem PyProof.Rows
section
open PySem.SeqAt
open PySem.AutoSeq1 (wpAny_loadPart')
open PySem.MeetsSeq PySem.MeetsSeq2 PySem.MeetsSeq3
end
section
variable {prog:Program} {w:World} {A:Around} {E:Value → Shared → Prop} {s:Shared}
theorem cat_tup {t b:Addr} {vs ws:List Value} {Q:Value → Shared → Prop} (ht:IsTup s.heap t vs.toArray) (hb:IsTup s.heap b ws.toArray) (hv:vs ≠ [])
  (h1:ws = [] → Q (.ref t) s) (h2:ws ≠ [] → Q (.ref s.heap.objs.size) { s with heap:=s.heap.push { cls:=.type "tuple",data:=.seq (vs ++ ws).toArray } })
  (hsz:vs.length + ws.length ≤ sizeLine):wpAny (model prog w) A (binaryOp .Add (.ref t) (.ref b)) Q E s:=by
 obtain ⟨⟨cls,dd,data,sl⟩,ho,hc,n,hd⟩:=id ht
 obtain ⟨⟨cls2,dd2,data2,sl2⟩,ho2,hc2,n2,hd2⟩:=id hb
 simp only at hc hd hc2 hd2
 subst hc hd hc2 hd2
 have e:vs.toArray ++ ws.toArray = (vs ++ ws).toArray:=by simp
 by_cases hw:ws = []
 ·exact concat_meets ⟨_,ho,rfl⟩ ⟨_,ho2,rfl⟩ noFill_tuple_add seq_tuple_add PySem.F.slot_tuple_add PySem.F.entry_tuple_add (PySem.F.args_tuple_add_2 _ _)
   (tuple_addW1 t b vs.toArray ws.toArray n n2 dd dd2 sl sl2 (by simpa using hv) (by simp [hw])) ⟨ho,ho2,h1 hw⟩
 ·refine concat_meets ⟨_,ho,rfl⟩ ⟨_,ho2,rfl⟩ noFill_tuple_add seq_tuple_add PySem.F.slot_tuple_add PySem.F.entry_tuple_add (PySem.F.args_tuple_add_2 _ _)
   (tuple_addW2 t b vs.toArray ws.toArray n n2 dd dd2 sl sl2 (by simpa using hv) (by simpa using hw) (by rw [List.size_toArray,List.size_toArray]; exact hsz)) ⟨ho,ho2,?_⟩
  rw [e]
  exact h2 hw
noncomputable def sIx (n d:Nat):Option Int → Nat
 | none=>d
 | some v=>if v < 0 then (v + (n:Int)).toNat else min v.toNat n
theorem Zeu (n d:Nat):sIx n d none = d:=rfl
theorem Zew (n d k:Nat):sIx n d (some (k:Int)) = min k n:=by
 show (if (k:Int) < 0 then ((k:Int) + (n:Int)).toNat else min (k:Int).toNat n) = min k n
 rw [if_neg (Int.not_lt.2 (Int.natCast_nonneg _)),Int.toNat_natCast]
theorem ZgP (n d:Nat) (hd:d ≤ n) (o:Option Int):sIx n d o ≤ n:=by
 cases o with
 | none=>exact hd
 | some v=>
  show (if v < 0 then (v + (n:Int)).toNat else min v.toNat n) ≤ n
  by_cases hv:v < 0
  ·rw [if_pos hv]; omega
  ·rw [if_neg hv]; exact Nat.min_le_right _ _
theorem ZiI (v:Int) (n d:Nat):(if v < 0 then max (v + (n:Int)) 0 else min v (n:Int)) = ((sIx n d (some v):Nat):Int):=by
 show (if v < 0 then max (v + (n:Int)) 0 else min v (n:Int)) = (((if v < 0 then (v + (n:Int)).toNat else min v.toNat n):Nat):Int)
 by_cases hv:v < 0
 ·simp only [if_pos hv]; exact clA _
 ·simp only [if_neg hv]; exact clB _ _ hv
theorem Zia (lo hi:Option Int) (n:Nat):Builtin.Slice.sliceAdjust lo hi 1 (n:Int) = (((sIx n 0 lo:Nat):Int),((sIx n n hi:Nat):Int)):=by
 have h1:¬ ((1:Int) < 0):=by decide
 unfold Builtin.Slice.sliceAdjust
 simp only [h1,if_false]
 refine Prod.ext ?_ ?_
 ·cases lo with
  | none=>rfl
  | some v=>exact ZiI v n 0
 ·cases hi with
  | none=>rfl
  | some v=>exact ZiI v n n
theorem ZhZ (i j:Nat):Builtin.Slice.slicePlaces (i:Int) (j:Int) 1 = j - i:=by
 unfold Builtin.Slice.slicePlaces
 have h1:(1:Int) > 0:=by decide
 simp only [h1,if_true,Int.ediv_one]
 split <;> omega
theorem ZfI {v:Value} {o:Option Int} {Q:Option Int → Shared → Prop} (p:IsPart v o) (h:Q o s):wpAny (model prog w) A (Builtin.Slice.slicePartIndex v) Q E s:=by
 cases p with
 | none=>exact slicePart_none h
 | int i t=>exact slicePart_int h
theorem sliceApplied_gen {sl:Addr} {vl vu:Value} {lo hi:Option Int} {n:Nat} {Q:Int × Int × Nat → Shared → Prop} (hs:s.heap.IsSliceOf sl vl vu .none) (pl:IsPart vl lo) (pu:IsPart vu hi)
  (h:Q (((sIx n 0 lo:Nat):Int),1,sIx n n hi - sIx n 0 lo) s):wpAny (model prog w) A (Builtin.Slice.sliceApplied (.ref sl) (pure (n:Int))) Q E s:=by
 obtain ⟨os,hos,hcs,hds⟩:=id hs
 unfold Builtin.Slice.sliceApplied Builtin.Slice.sliceFields
 refine wpAny_bind (wpAny_bind (wpAny_field hos hds (x:=vl) rfl (wpAny_bind (wpAny_field hos hds (x:=vu) rfl (wpAny_bind (wpAny_field hos hds (x:=.none) rfl (wpAny_pure ?_)))))))
 refine wpAny_bind (slicePart_none ?_)
 show wpAny _ _ (if ((1:Int) == 0) = true then _ else _) _ _ s
 rw [if_neg (by decide)]
 refine wpAny_bind (ZfI pl (wpAny_bind (ZfI pu (wpAny_bind (wpAny_pure ?_)))))
 show wpAny _ _ (match Builtin.Slice.sliceAdjust lo hi 1 (n:Int) with | (lo,hi)=>pure (lo,(1:Int),Builtin.Slice.slicePlaces lo hi 1)) _ _ s
 rw [Zia lo hi n]
 show wpAny _ _ (pure (((sIx n 0 lo:Nat):Int),(1:Int),Builtin.Slice.slicePlaces ((sIx n 0 lo:Nat):Int) ((sIx n n hi:Nat):Int) 1)) _ _ s
 rw [ZhZ]
 exact wpAny_pure h
theorem ZjH (xs:Array Value) (i k:Nat):((List.range k).filterMap fun (m:Nat)=>xs[((i:Int) + (m:Int) * 1).toNat]?).toArray = ((xs.toList.drop i).take k).toArray:=by
 have e:(fun (m:Nat)=>xs[((i:Int) + (m:Int) * 1).toNat]?) = fun m=>xs[i + m]?:=by
  funext m
  have:((i:Int) + (m:Int) * 1).toNat = i + m:=by omega
  rw [this]
 rw [e]
 have:=pick_run xs i k
 rw [List.filterMap_map] at this
 have e2:((fun x=>xs[x]?) ∘ fun x=>i + x) = fun m=>xs[i + m]?:=rfl
 rw [e2] at this
 rw [this]
theorem getItem_tuple_cut {t sl:Addr} {items:Array Value} {vl vu:Value} {lo hi:Option Int} {Q:Value → Shared → Prop} (ht:IsTup s.heap t items) (hs:s.heap.IsSliceOf sl vl vu .none) (pl:IsPart vl lo) (pu:IsPart vu hi)
  (hw:¬ (sIx items.size 0 lo = 0 ∧ sIx items.size items.size hi = items.size))
  (h:Q (.ref s.heap.objs.size) { s with heap:=s.heap.push { cls:=.type "tuple",data:=.seq ((items.toList.drop (sIx items.size 0 lo)).take (sIx items.size items.size hi - sIx items.size 0 lo)).toArray } })
  (hsz:items.size ≤ sizeLine):wpAny (model prog w) A (getItem (.ref t) (.ref sl)) Q E s:=by
 have htake:sizeOk (.seq ((items.toList.drop (sIx items.size 0 lo)).take (sIx items.size items.size hi - sIx items.size 0 lo)).toArray):=by
  show ((items.toList.drop (sIx items.size 0 lo)).take (sIx items.size items.size hi - sIx items.size 0 lo)).toArray.size ≤ sizeLine
  rw [List.size_toArray,List.length_take,List.length_drop,Array.length_toList]
  exact lD 3 85606880155602945 T1 hsz (Nat.sub_le _ _) (Nat.min_le_right _ _)
 have hj:sIx items.size items.size hi ≤ items.size:=ZgP _ _ (Nat.le_refl _) hi
 obtain ⟨os,hos,hcs,hds⟩:=id hs
 have hTs:s.TypeIs (.ref sl) "slice":=⟨os,hos,hcs⟩
 unfold getItem
 try with_reducible refine wpAny_holding ?_
 first | refine wpAny_bind (wpAny_pure ?_) | skip
 refine wpAny_bind (wpAny_sequenceKey ht.typeIs (by decide) ?_)
 refine wpAny_bind (wpAny_callSpecial?_slot (name:=Str.ofString "__getitem__") ht.typeIs PyProof.Rows.slot_tuple_getitem
  (wpAny_call_entry PyProof.Rows.slot_tuple_getitem ht.typeIs entry_tuple_getitem ?_ (args_tuple_getitem _ _)))
 show wpAny _ _ (Builtin.Tuple.tupleItemsOf (.ref t) >>= _) _ _ s
 refine wpAny_bind (tupleItemsOf_ ht ?_)
 refine wpAny_bind (wpAny_typeOf hTs ?_)
 rw [if_pos (by decide)]
 refine wpAny_bind (sliceApplied_gen hs pl pu ?_)
 have hno:¬ ((((sIx items.size 0 lo:Nat):Int) == 0 && (1:Int) == 1 && (sIx items.size items.size hi - sIx items.size 0 lo) == items.size) = true):=by
  intro q
  rw [Bool.and_eq_true,Bool.and_eq_true] at q
  have q1:((sIx items.size 0 lo:Nat):Int) = 0:=eq_of_beq q.1.1
  have q2:sIx items.size items.size hi - sIx items.size 0 lo = items.size:=eq_of_beq q.2
  exact hw ⟨by exact Nat.le_antisymm (iN [_] [] 1 3759016097 T1 q1) (Nat.zero_le _),by exact Nat.le_antisymm hj (lC 2 2268279672881 T1 q2 (Nat.sub_le _ _))⟩
 show wpAny _ _ (if (((sIx items.size 0 lo:Nat):Int) == 0 && (1:Int) == 1 && (sIx items.size items.size hi - sIx items.size 0 lo) == items.size) = true then _ else _) _ _ s
 rw [if_neg hno,ZjH]
 first
  | exact wpAny_bind (m:=Builtin.Tuple.tupleExact _) (wpAny_newObj_type (wpAny_pure ⟨_,rfl,wpAny_pure h⟩) htake)
  | exact wpAny_bind (m:=Builtin.Tuple.tupleExact _) (wpAny_newObj_type (wpAny_bind (wpAny_pure (wpAny_pure ⟨_,rfl,wpAny_pure h⟩))) htake)
  | exact wpAny_bind (wpAny_bind (m:=Builtin.Tuple.tupleExact _) (wpAny_newObj_type (wpAny_pure (wpAny_pure ⟨_,rfl,wpAny_pure h⟩)) htake))
  | exact wpAny_bind (wpAny_bind (m:=Builtin.Tuple.tupleExact _) (wpAny_newObj_type (wpAny_pure ⟨_,rfl,wpAny_pure h⟩) htake))
end
end HT
namespace L2
open PySem PySem.Spec PyProof.Rows
noncomputable abbrev TO:=St → Hp → (Option Int → Hp → Prop) → Prop
noncomputable def PO (X:Cx) (e:Option Expr) (t:TO):Prop:=
 ∀ (pins:List (Addr × Obj)) (s:Shared) (σ:St) (H:Hp) (Q:Option Int → Hp → Prop),Inv X pins σ H s → t σ H Q →
  wpAny (model X.prog X.w) X.A (evalPart e X.env) (fun u s'=>∃ o H',Inv X pins σ H' s' ∧ IsPart u o ∧ Q o H') X.xe s
noncomputable def Zk8:TO:=fun _ H Q=>Q none H
noncomputable def Zn1 (t:TE):TO:=fun σ H Q=>t σ H fun x H1=>∃ i,x = .int i ∧ Q (some i) H1
section
variable {X:Cx} {e:Expr} {te:TE} {lo hi:Option Expr} {tl th:TO} {pos p2:Pos}
theorem Zk0:PO X none Zk8:=by
 intro pins s σ H Q I h
 rw [evalPart_none]
 exact wpAny_pure ⟨none,H,I,.none,h⟩
theorem Zlm (h:PE X e te):PO X (some e) (Zn1 te):=by
 intro pins s σ H Q I hw
 rw [evalPart_some]
 refine thn (h pins s σ H _ I hw) fun u s1 zz1=>?_
 obtain ⟨x,H1,I1,r1,q1⟩:=zz1
 obtain ⟨i,rfl,q⟩:=q1
 obtain ⟨t,rfl⟩:=r1
 exact ⟨some i,H1,I1,.int i t,q⟩
noncomputable def SlR (X:Cx) (r:V → Option Int → Option Int → Hp → VK → Prop):Prop:=
 ∀ (pins:List (Addr × Obj)) (s:Shared) (σ:St) (H:Hp) (x:V) (v vl vu:Value) (lo hi:Option Int) (sl:Addr) (Q:VK),Inv X pins σ H s → RelV x v → s.heap.IsSliceOf sl vl vu .none → IsPart vl lo → IsPart vu hi → r x lo hi H Q →
  ∃ T id,typeLookup (.type T) "__getitem__" = pure (some (.builtin id)) ∧ s.TypeIs v T ∧ wpAny (model X.prog X.w) X.A (getItem v (.ref sl)) (EP X pins σ Q) X.xe s
theorem SlR.or {r r':V → Option Int → Option Int → Hp → VK → Prop} (h:SlR X r) (h':SlR X r'):SlR X (fun x lo hi H Q=>r x lo hi H Q ∨ r' x lo hi H Q):=by
 intro pins s σ H x v vl vu lo hi sl Q I rx hs pl pu q
 rcases q with q | q
 ·exact h pins s σ H x v vl vu lo hi sl Q I rx hs pl pu q
 ·exact h' pins s σ H x v vl vu lo hi sl Q I rx hs pl pu q
noncomputable def tSl (r:V → Option Int → Option Int → Hp → VK → Prop) (te:TE) (tl th:TO):TE:=fun σ H Q=>te σ H fun x H1=>tl σ H1 fun l H2=>th σ H2 fun u H3=>r x l u H3 Q
theorem ZjU {r:V → Option Int → Option Int → Hp → VK → Prop} (hr:SlR X r) (he:PE X e te) (hl:PO X lo tl) (hu:PO X hi th):PE X (.Subscript e (.Slice lo hi none p2) pos) (tSl r te tl th):=by
 intro pins s σ H Q I h
 refine Subscript_ (thn (he pins s σ H _ I h) fun v s1 zz1=>?_)
 obtain ⟨x,H1,I1,r1,q1⟩:=zz1
 refine wpAny_Slice (thn (hl pins s1 σ H1 _ I1 q1) fun vl s2 ⟨l,H2,I2,pl,q2⟩=>thn (hu pins s2 σ H2 _ I2 q2) fun vu s3 zz1=>?_)
 obtain ⟨u,H3,I3,pu,q3⟩:=zz1
 rw [evalPart_none]
 refine wpAny_pure ?_
 have I4:Inv X pins σ H3 { s3 with heap:=s3.heap.push { cls:=.type "slice",data:=.fields #[vl,vu,.none] } }:=I3.kept (t':=s3.toks) fun b ob q=>Heap.get?_push_of_some _ q
 obtain ⟨T,id,hT,ht,hg⟩:=hr pins { s3 with heap:=s3.heap.push { cls:=.type "slice",data:=.fields #[vl,vu,.none] } } σ H3 x v vl vu l u s3.heap.objs.size Q I4 r1 (Heap.IsSliceOf.new ..) pl pu q3
 show wpAny (model X.prog X.w) X.A (subscriptTail e (.Slice lo hi none p2) v (.ref s3.heap.objs.size)) (EP X pins σ Q) X.xe { s3 with heap:=s3.heap.push { cls:=.type "slice",data:=.fields #[vl,vu,.none] } }
 exact tail_any (ops:=[.ref s3.heap.objs.size,v]) ht hT hg (by with_unfolding_all rfl)
noncomputable def Zg8 (xs:List V) (lo hi:Option Int):List V:=(xs.drop (HT.sIx xs.length 0 lo)).take (HT.sIx xs.length xs.length hi - HT.sIx xs.length 0 lo)
theorem ZeZ (xs:List V) (lo hi:Option Int):(Zg8 xs lo hi).length ≤ xs.length:=by
 unfold Zg8
 rw [List.length_take,List.length_drop]
 exact Nat.le_trans (Nat.min_le_right _ _) (Nat.sub_le _ _)
noncomputable def Zpi (K:PySem.W.Frag):V → Option Int → Option Int → Hp → VK → Prop:=fun x lo hi H Q=>∃ a xs,x = .ref a ∧ SqT K H a xs ∧
 ¬ (HT.sIx xs.length 0 lo = 0 ∧ HT.sIx xs.length xs.length hi = xs.length) ∧ ∀ p,H p = none → Q (.ref p) (upd H p (.tup (Zg8 xs lo hi)))
theorem Zmm:SlR X (Zpi X.K):=by
 intro pins s σ H x v vl vu lo hi sl Q I rx hs pl pu h
 obtain ⟨a,xs,rfl,hx,hw,q⟩:=h
 cases rx
 obtain ⟨its,r,ht,hz⟩:=I.tuple hx
 have hlen:its.toArray.size = xs.length:=by rw [List.size_toArray]; exact r.length.symm
 refine ⟨"tuple",_,PyProof.Rows.slot_tuple_getitem.lookup,ht.typeIs,?_⟩
 refine HT.getItem_tuple_cut ht hs pl pu (by rw [hlen]; exact hw) ?_ (by rw [hlen]; exact hz)
 rw [hlen]
 refine ⟨.ref s.heap.objs.size,_,I.laid (t':=s.toks) (o:=.tup (Zg8 xs lo hi)) (fun b ob q=>Heap.get?_push_of_some _ q) (Nat.le_refl _) ?_,rfl,q _ (I.hok.fresh (Nat.le_refl _))⟩
 exact ⟨Nat.le_trans (ZeZ xs lo hi) hz,_,(r.drop (HT.sIx xs.length 0 lo)).take (HT.sIx xs.length xs.length hi - HT.sIx xs.length 0 lo),ZcR.new _ _⟩
noncomputable def Zn7 (K:PySem.W.Frag):R2:=fun x y H Q=>∃ a b xs ys,x = .ref a ∧ y = .ref b ∧ SqT K H a xs ∧ SqT K H b ys ∧ xs ≠ [] ∧ xs.length + ys.length ≤ sizeLine ∧
 (ys = [] → Q (.ref a) H) ∧ (ys ≠ [] → ∀ p,H p = none → Q (.ref p) (upd H p (.tup (xs ++ ys))))
theorem Vals.nil_iff {xs:List V} {us:List Value} (r:Vals xs us):us = [] ↔ xs = []:=by
 cases r with
 | nil=>simp
 | cons _ _=>simp
theorem Zla:OpR X (binaryOp .Add) (Zn7 X.K):=by
 intro pins s σ H x y v u Q I rx ry h
 obtain ⟨a,b,xs,ys,rfl,rfl,ha,hb,hx,hz,q1,q2⟩:=h
 cases rx
 cases ry
 obtain ⟨its,r1,p1,_⟩:=I.tuple ha
 obtain ⟨its2,r2,p2,_⟩:=I.tuple hb
 refine HT.cat_tup p1 p2 (fun z=>hx (r1.nil_iff.mp z)) (fun z=>⟨.ref a,H,I,rfl,q1 (r2.nil_iff.mp z)⟩) (fun z=>?_) (by rw [← r1.length,← r2.length]; exact hz)
 refine ⟨.ref s.heap.objs.size,_,I.laid (t':=s.toks) (o:=.tup (xs ++ ys)) (fun b ob q=>Heap.get?_push_of_some _ q) (Nat.le_refl _) ?_,rfl,q2 (fun w=>z (r2.nil_iff.mpr w)) _ (I.hok.fresh (Nat.le_refl _))⟩
 exact ⟨by rw [List.length_append]; exact hz,_,r1.append r2,ZcR.new _ _⟩
end
end L2
namespace L2
open PySem PySem.Spec PyProof.Rows
noncomputable def ixN (n:Nat) (i:Int):Option Nat:=if 0 ≤ i then (if i < n then some i.toNat else none) else if -(n:Int) ≤ i then some (i + n).toNat else none
noncomputable def atI {α:Type} (xs:List α) (i:Int):Option α:=(ixN xs.length i).bind fun j=>xs[j]?
theorem ZiM {n:Nat} {i:Int} {j:Nat} (h:ixN n i = some j):seqIndex? i n = some j ∧ j < n ∧ -(n:Int) ≤ i ∧ i < n:=by
 unfold ixN at h
 by_cases h0:0 ≤ i
 ·rw [if_pos h0] at h
  by_cases h1:i < n
  ·rw [if_pos h1] at h
   have e:i.toNat = j:=Option.some.inj h
   exact ⟨by rw [seqIndex_of h0 h1,e],by exact iN [_,_,_] [_] 3 0x211008a1280911031 T1 e h1 (Int.toNat_of_nonneg h0),by exact iN [_] [_] 1 144182913 T1 h0,h1⟩
  ·rw [if_neg h1] at h; cases h
 ·rw [if_neg h0] at h
  by_cases h1:-(n:Int) ≤ i
  ·rw [if_pos h1] at h
   have e:(i + n).toNat = j:=Option.some.inj h
   exact ⟨by rw [seqIndex_neg (by exact Int.not_le.1 h0) h1,e],by exact iN [_,_,_] [_] 3 0x211280c08a10ec11031 T1 e h0 (Int.toNat_of_nonneg (iN [_] [_] 1 8851524979073 T1 h1)),h1,by exact iN [_] [_] 1 134811329 T1 h0⟩
  ·rw [if_neg h1] at h; cases h
theorem ZgH {α:Type} {xs:List α} {i:Int} {v:α} (h:atI xs i = some v):∃ j,seqIndex? i xs.length = some j ∧ xs[j]? = some v ∧ j < xs.length ∧ -(xs.length:Int) ≤ i ∧ i < xs.length:=by
 unfold atI at h
 cases e:ixN xs.length i with
 | none=>rw [e] at h; cases h
 | some j=>
  rw [e] at h
  obtain ⟨h1,h2,h3,h4⟩:=ZiM e
  exact ⟨j,h1,h,h2,h3,h4⟩
noncomputable def Ziz (b:Expr):Prop:=∀ o i,subscripted b false o i = operate [o,i] (getItem o i)
noncomputable def IxR (X:Cx) (r:R2):Prop:=
 ∀ (value slice:Expr) (pins:List (Addr × Obj)) (s:Shared) (σ:St) (H:Hp) (x y:V) (v u:Value) (Q:VK),Inv X pins σ H s → RelV x v → RelV y u → r x y H Q →
  subscripted slice false v u = operate [v,u] (getItem v u) → wpAny (model X.prog X.w) X.A (subscriptTail value slice v u) (EP X pins σ Q) X.xe s
noncomputable def MtR (X:Cx) (id:String) (r:V → List V → Hp → VK → Prop):Prop:=
 ∀ (pins:List (Addr × Obj)) (s:Shared) (σ:St) (H:Hp) (x:V) (xs:List V) (v:Value) (us:List Value) (Q:VK),Inv X pins σ H s → RelV x v → Vals xs us → r x xs H Q →
  wpAny (model X.prog X.w) X.A (call (.builtin id) (v :: us)) (EP X pins σ Q) X.xe s
section
variable {X:Cx} {a b:Expr} {ta tb:TE} {pos:Pos}
theorem IxR.or {r r':R2} (h:IxR X r) (h':IxR X r'):IxR X (fun x y H Q=>r x y H Q ∨ r' x y H Q):=by
 intro value slice pins s σ H x y v u Q I rx ry q hs
 rcases q with q | q
 ·exact h value slice pins s σ H x y v u Q I rx ry q hs
 ·exact h' value slice pins s σ H x y v u Q I rx ry q hs
theorem ZoG {r:R2} (hr:IxR X r) (ha:PE X a ta) (hb:PE X b tb) (hs:Ziz b):PE X (.Subscript a b pos) (tOp r ta tb):=by
 intro pins s σ H Q I h
 exact Subscript_ (Zm4 ha hb I h fun v u s2 x y H2 I2 rx ry q=>hr a b pins s2 σ H2 x y v u Q I2 rx ry q (hs _ _))
noncomputable def Zof (K:PySem.W.Frag):R2:=fun x y H Q=>∃ p xs i v,x = .ref p ∧ y = .int i ∧ SqL K H p xs ∧ atI xs i = some v ∧ Q v H
noncomputable def Zoi (K:PySem.W.Frag):R2:=fun x y H Q=>∃ p xs i v,x = .ref p ∧ y = .int i ∧ SqT K H p xs ∧ atI xs i = some v ∧ Q v H
noncomputable def ZnW:R2:=fun x y H Q=>∃ z i c,x = .str z ∧ y = .int i ∧ z.length ≤ sizeLine ∧ atI z.cps.toList i = some c ∧ Q (.str ⟨#[c]⟩) H
theorem ZlL:IxR X (Zof X.K):=by
 intro value slice pins s σ H x y v u Q I rx ry h hs
 obtain ⟨p,xs,i,z,rfl,rfl,hq,he,q⟩:=h
 cases rx
 obtain ⟨t,rfl⟩:=ry
 obtain ⟨its,r,pl,hz⟩:=I.list hq
 obtain ⟨j,h1,h2,h3,h4,h5⟩:=ZgH he
 obtain ⟨w,ew,rw'⟩:=r.get h2
 have hl:=r.length
 have hn:=ZfB
 have fin:EP X pins σ Q w s:=⟨z,H,I,rw',q⟩
 by_cases h0:0 ≤ i
 ·have hj:i.toNat = j:=by
   rw [seqIndex_of h0 h5] at h1
   exact Option.some.inj h1
  exact item_listR pl.isList h0 (by omega) (by rw [hj]; simpa using ew) fin hs
 ·have hj:(i + (its.toArray.size:Int)).toNat = j:=by
   rw [seqIndex_neg (by exact Int.not_le.1 h0) h4] at h1
   rw [List.size_toArray,← hl]
   exact Option.some.inj h1
  exact subscriptTail_builtinR (x:=w) pl.isList.typeIs slot_list_getitem.lookup
   (wpAny_getItem_list_neg (Q:=fun r s'=>r = w ∧ EP X pins σ Q r s') pl.isList (by exact Int.not_le.1 h0) (by rw [List.size_toArray] <;> exact iN [_,_] [_] 2 6922527515414561 T1 hl h4) (by omega) (by rw [hj]; simpa using ew) ⟨rfl,fin⟩) hs
theorem Znv:IxR X (Zoi X.K):=by
 intro value slice pins s σ H x y v u Q I rx ry h hs
 obtain ⟨p,xs,i,z,rfl,rfl,hq,he,q⟩:=h
 cases rx
 obtain ⟨t,rfl⟩:=ry
 obtain ⟨its,r,pl,hz⟩:=I.tuple hq
 obtain ⟨j,h1,h2,h3,h4,h5⟩:=ZgH he
 obtain ⟨w,ew,rw'⟩:=r.get h2
 have hl:=r.length
 have hn:=ZfB
 have fin:EP X pins σ Q w s:=⟨z,H,I,rw',q⟩
 exact subscriptTail_builtinR (x:=w) pl.typeIs slot_tuple_getitem.lookup
  (getItem_tuple (j:=j) (Q:=fun r s'=>r = w ∧ EP X pins σ Q r s') pl (by omega) (by omega) (by rw [List.size_toArray,← hl]; exact h1) (by simpa using ew) ⟨rfl,fin⟩) hs
theorem Znb:IxR X ZnW:=by
 intro value slice pins s σ H x y v u Q I rx ry h hs
 obtain ⟨z,i,c,rfl,rfl,hz,he,q⟩:=h
 obtain ⟨t,rfl⟩:=rx
 obtain ⟨t',rfl⟩:=ry
 obtain ⟨j,h1,h2,h3,h4,h5⟩:=ZgH he
 have hl:z.cps.toList.length = z.length:=by simp [Str.length]
 rw [hl] at h1 h4 h5
 have hn:=ZfB
 exact tail_any (typeIs_str s z t) slot_str_getitem.lookup (getItem_str (c:=c) (by
  have e1:decide (i < -(2 ^ 63:Int)) = false:=decide_eq_false (by omega)
  have e2:decide (i ≥ 2 ^ 63) = false:=decide_eq_false (by omega)
  rw [e1,e2,Bool.or_false]) (by rw [h1]; simpa using h2) ⟨.str ⟨#[c]⟩,H,I.tok _,⟨_,rfl⟩,q⟩) hs
noncomputable def rIx (K:PySem.W.Frag):R2:=fun x y H Q=>Zof K x y H Q ∨ Zoi K x y H Q ∨ ZnW x y H Q
theorem ZmG:IxR X (rIx X.K):=ZlL.or (Znv.or Znb)
theorem ZhO (its:List Value) (n j:Nat) (u:Value):Obj.mapSeq (·.setIfInBounds j u) { cls:=.type "list",data:=.seq its.toArray n } = { cls:=.type "list",data:=.seq (its.set j u).toArray n }:=by
 simp [Obj.mapSeq]
theorem Inv.lst {pins:List (Addr × Obj)} {σ:St} {H:Hp} {s:Shared} {p:Addr} {xs:List V} (I:Inv X pins σ H s) (h:H p = some (.lst xs)):
  ∃ (its:List Value) (n:Nat),Vals xs its ∧ s.heap.get? p = some { cls:=.type "list",data:=.seq its.toArray n } ∧ xs.length ≤ sizeLine:=by
 obtain ⟨z,its,n,r,e⟩:=I.hok p _ h
 exact ⟨its,n,r,e,z⟩
theorem Inv.lstUpd {pins:List (Addr × Obj)} {σ:St} {H:Hp} {s:Shared} {p:Addr} {xs ys:List V} {its its':List Value} {n n':Nat} {f:Obj → Obj} (I:Inv X pins σ H s) (h:H p = some (.lst xs))
  (ho:s.heap.get? p = some { cls:=.type "list",data:=.seq its.toArray n }) (hf:f { cls:=.type "list",data:=.seq its.toArray n } = { cls:=.type "list",data:=.seq its'.toArray n' }) (r:Vals ys its') (hz:ys.length ≤ sizeLine) (t:Nat):
  Inv X pins σ (upd H p (.lst ys)) { s with heap:=s.heap.update p f,toks:=t }:=by
 have e:(s.heap.update p f).get? p = some { cls:=.type "list",data:=.seq its'.toArray n' }:=by
  rw [Heap.get?_update_self f ho (by rw [hf] <;> rfl),hf]
 refine I.write (x:=p) (e:=p) (by rw [h]; trivial) (.inl rfl) (fun b u hb q=>(Heap.get?_update_other _ _ (Ne.symm hb)).trans q) ⟨_,e⟩ ?_
 exact ⟨hz,its',n',r,e⟩
noncomputable def Zos:V → V → V → Hp → (Hp → Prop) → Prop:=fun o i v H Q=>∃ p xs k j,o = .ref p ∧ i = .int k ∧ H p = some (.lst xs) ∧ ixN xs.length k = some j ∧ Q (upd H p (.lst (xs.set j v)))
theorem set_list:Zol X Zos:=by
 intro pins s σ H o i v ov iv u Q I ro ri rv h
 obtain ⟨p,xs,k,j,rfl,rfl,hp,hj,q⟩:=h
 cases ro
 obtain ⟨t,rfl⟩:=ri
 obtain ⟨its,n,r,ho,hz⟩:=I.lst hp
 obtain ⟨h1,h2,h3,h4⟩:=ZiM hj
 have hl:=r.length
 have hn:=ZfB
 have I':Inv X pins σ (upd H p (.lst (xs.set j v))) { s with heap:=s.heap.update p (Obj.mapSeq (·.setIfInBounds j u)) }:=
  I.lstUpd hp ho (ZhO its n j u) (r.set rv j) (by rw [List.length_set]; exact hz) s.toks
 by_cases h0:0 ≤ k
 ·have hk:k.toNat = j:=by
   rw [seqIndex_of h0 h4] at h1
   exact Option.some.inj h1
  exact PySem.W.ki_setAt ho h0 (by omega) (by rw [List.size_toArray,← hl]; exact h4) (by rw [hk]; exact ⟨_,I',q⟩)
 ·have hk:(k + (its.toArray.size:Int)).toNat = j:=by
   rw [seqIndex_neg (by exact Int.not_le.1 h0) h3] at h1
   rw [List.size_toArray,← hl]
   exact Option.some.inj h1
  exact PySem.W.ki_setBack ho (by exact Int.not_le.1 h0) (by rw [List.size_toArray,← hl]; exact h3) (by omega) (by rw [hk]; exact ⟨_,I',q⟩)
theorem Zg4 (lo hi:Option Int) (n:Nat):(sliceBounds lo hi none n).1 = ((HT.sIx n 0 lo:Nat):Int) ∧ (sliceBounds lo hi none n).2.1 = ((HT.sIx n n hi:Nat):Int) ∧ (sliceBounds lo hi none n).2.2 = 1:=by
 refine ⟨?_,?_,rfl⟩
 ·cases lo with
  | none=>simp [sliceBounds,HT.sIx]
  | some i=>
   simp only [sliceBounds,HT.sIx,Option.getD_none,show (1:Int) > 0 by decide,if_true]
   by_cases h:i < 0
   ·simp only [h,if_true] <;> exact clC _ _ h
   ·simp only [h,if_false] <;> exact clD _ _ h
 ·cases hi with
  | none=>simp [sliceBounds,HT.sIx]
  | some i=>
   simp only [sliceBounds,HT.sIx,Option.getD_none,show (1:Int) > 0 by decide,if_true]
   by_cases h:i < 0
   ·simp only [h,if_true] <;> exact clC _ _ h
   ·simp only [h,if_false] <;> exact clD _ _ h
theorem Zgb (its:List Value) (lo hi:Option Int):slicePick its.toArray lo hi none = ((its.drop (HT.sIx its.length 0 lo)).take (HT.sIx its.length its.length hi - HT.sIx its.length 0 lo)).toArray:=by
 obtain ⟨h1,h2,h3⟩:=Zg4 lo hi its.toArray.size
 unfold slicePick
 rw [h1,h2,h3]
 simp only [sliceRange_one,pick_run,List.size_toArray] <;> rfl
noncomputable def Zpo (K:PySem.W.Frag):V → Option Int → Option Int → Hp → VK → Prop:=fun x lo hi H Q=>∃ a xs,x = .ref a ∧ SqL K H a xs ∧ ∀ p,H p = none → Q (.ref p) (upd H p (.lst (Zg8 xs lo hi)))
theorem ZlE:SlR X (Zpo X.K):=by
 intro pins s σ H x v vl vu lo hi sl Q I rx hs pl pu h
 obtain ⟨a,xs,rfl,hx,q⟩:=h
 cases rx
 obtain ⟨its,r,ht,hz⟩:=I.list hx
 have hlen:=r.length
 refine ⟨"list",_,slot_list_getitem.lookup,ht.isList.typeIs,?_⟩
 refine wpAny_getItem_list_slice ht.isList hs pl pu .none (by simp) ?_ (by rw [List.size_toArray] <;> exact lC 2 2268279672881 T1 hlen hz)
 rw [Zgb,← hlen]
 refine ⟨.ref s.heap.objs.size,_,I.laid (t':=s.toks) (o:=.lst (Zg8 xs lo hi)) (fun b ob q=>Heap.get?_push_of_some _ q) (Nat.le_refl _) ?_,rfl,q _ (I.hok.fresh (Nat.le_refl _))⟩
 exact ⟨Nat.le_trans (ZeZ xs lo hi) hz,_,0,(r.drop (HT.sIx xs.length 0 lo)).take (HT.sIx xs.length xs.length hi - HT.sIx xs.length 0 lo),Heap.get?_push_size _ rfl⟩
theorem ZgW:ZbK X (.type "list") (fun xs H Q=>∃ p ys,xs = [.ref p] ∧ (SqL X.K H p ys ∨ SqT X.K H p ys) ∧ ∀ l,H l = none → Q (.ref l) (upd H l (.lst ys))):=by
 intro pins s σ H xs us Q I r h
 obtain ⟨p,ys,rfl,hq,q⟩:=h
 obtain ⟨u,rfl,rx⟩:=vals1 r
 cases rx
 have fin:∀ (its:List Value),Vals ys its → ys.length ≤ sizeLine → ∀ (h':Heap) (c':Nat),(∀ b o',s.heap.get? b = some o' → h'.get? b = some o') →
   h'.get? s.heap.objs.size = some { cls:=.type "list",dict:=none,data:=.seq its.toArray c',slots:=#[] } → EP X pins σ Q (.ref s.heap.objs.size) { s with heap:=h' }:=fun its r' hz h' c' kp e=>
  ⟨.ref s.heap.objs.size,_,I.laid (t':=s.toks) kp (Nat.le_refl _) (show Zbf X.prog X.w _ h' _ (.lst ys) from ⟨hz,its,c',r',e⟩),rfl,q _ (I.hok.fresh (Nat.le_refl _))⟩
 rcases hq with hq | hq
 ·obtain ⟨its,r',pl,hz⟩:=I.list hq
  have hlen:=r'.length
  obtain ⟨o,ho,hc,n,hd⟩:=pl.isList
  exact call_list_seq p (.inl rfl) ho hc hd (fun h' c' kp e=>fin its r' hz h' c' kp e) (by simp only [List.size_toArray] <;> exact lC 2 2268279672881 T1 hlen hz)
 ·obtain ⟨its,r',pl,hz⟩:=I.tuple hq
  have hlen:=r'.length
  obtain ⟨o,ho,hc,n,hd⟩:=pl
  exact call_list_seq p (.inr rfl) ho hc hd (fun h' c' kp e=>fin its r' hz h' c' kp e) (by simp only [List.size_toArray] <;> exact lC 2 2268279672881 T1 hlen hz)
theorem Zf7:ZbK X (.type "tuple") (fun xs H Q=>∃ p ys,xs = [.ref p] ∧ ((SqL X.K H p ys ∧ ∀ l,H l = none → Q (.ref l) (upd H l (.tup ys))) ∨ (SqT X.K H p ys ∧ Q (.ref p) H))):=by
 intro pins s σ H xs us Q I r h
 obtain ⟨p,ys,rfl,h⟩:=h
 obtain ⟨u,rfl,rx⟩:=vals1 r
 cases rx
 rcases h with ⟨hq,q⟩ | ⟨hq,q⟩
 ·obtain ⟨its,r',pl,hz⟩:=I.list hq
  have hlen:=r'.length
  refine call_tuple_list pl.isList (fun h' kp=>?_) (by simp only [List.size_toArray] <;> exact lC 2 2268279672881 T1 hlen hz)
  have I1:Inv X pins σ H { s with heap:=h' }:=I.kept (t':=s.toks) kp
  have I2:Inv X pins σ (upd H h'.objs.size (.tup ys)) { s with heap:=h'.push { cls:=.type "tuple",data:=.seq its.toArray } }:=
   I1.laid (t':=s.toks) (fun b o e=>Heap.get?_push_of_some _ e) (Nat.le_refl _) (show Zbf X.prog X.w _ _ _ (.tup ys) from ⟨hz,its,r',ZcR.new _ _⟩)
  exact ⟨.ref h'.objs.size,_,I2,rfl,q _ (I1.hok.fresh (Nat.le_refl _))⟩
 ·obtain ⟨its,r',pl,hz⟩:=I.tuple hq
  exact call_tuple_same pl ⟨.ref p,H,I,rfl,q⟩
noncomputable def tyV (K:PySem.W.Frag) (T:String) (x:V) (H:Hp):Prop:=match x with
 | .str _=>T = "str"
 | .int _=>T = "int"
 | .ref p=>(T = "list" ∧ ∃ xs,SqL K H p xs) ∨ (T = "tuple" ∧ ∃ o,K.lookup p = some o ∧ o.cls = .type "tuple" ∧ o.dict = none) ∨
   (T = "dict" ∧ ((∃ kvs,H p = some (.dK kvs)) ∨ ∃ kvs,H p = some (.dT kvs))) ∨ (T = "set" ∧ ∃ S n,H p = some (.set S n))
 | _=>False
theorem Znt {pins:List (Addr × Obj)} {σ:St} {H:Hp} {s:Shared} {T:String} {x:V} {v:Value} (I:Inv X pins σ H s) (r:RelV x v) (ty:tyV X.K T x H):
  s.TypeIs v T ∧ ∀ a,v = .ref a → ∃ ob,s.heap.get? a = some ob ∧ ob.dict = none:=by
 cases x with
 | str z=>
  obtain ⟨t,rfl⟩:=r
  cases (show T = "str" from ty)
  exact ⟨typeIs_str s z t,fun _ e=>nomatch e⟩
 | int i=>
  obtain ⟨t,rfl⟩:=r
  cases (show T = "int" from ty)
  exact ⟨typeIs_int s i t,fun _ e=>nomatch e⟩
 | ref p=>
  cases r
  rcases ty with ⟨rfl,xs,hq⟩ | ⟨rfl,o,hk,hc,hd⟩ | ⟨rfl,hk⟩ | ⟨rfl,S,n,hk⟩
  ·obtain ⟨its,_,pl,_⟩:=I.list hq
   refine ⟨pl.isList.typeIs,fun a e=>?_⟩
   cases e
   obtain ⟨o,n,e,c,hd,_⟩:=pl
   exact ⟨o,e,hd⟩
  ·refine ⟨⟨o,I.kIn p o hk,hc⟩,fun a e=>?_⟩
   cases e
   exact ⟨o,I.kIn _ o hk,hd⟩
  ·have z:∃ o,s.heap.get? p = some o ∧ o.ExactDict:=by
    rcases hk with ⟨kvs,hk⟩ | ⟨kvs,hk⟩
    ·obtain ⟨_,_,_,_,o,_,_,e,ex,_⟩:=I.hok p _ hk
     exact ⟨o,e,ex⟩
    ·obtain ⟨_,_,_,_,o,_,_,e,ex,_⟩:=I.hok p _ hk
     exact ⟨o,e,ex⟩
   obtain ⟨o,e,ex⟩:=z
   refine ⟨⟨o,e,ex.1⟩,fun a e2=>?_⟩
   cases e2
   exact ⟨o,e,ex.2.1⟩
  ·obtain ⟨o,_,_,_,e,ex,_⟩:=I.hok p _ hk
   refine ⟨⟨o,e,ex.1⟩,fun a e2=>?_⟩
   cases e2
   exact ⟨o,e,ex.2.1⟩
 | _=>exact False.elim ty
noncomputable def tBM (K:PySem.W.Frag) (T:String) (r:V → List V → Hp → VK → Prop) (to:TE) (t:TA):TE:=fun σ H Q=>to σ H fun x H1=>tyV K T x H1 ∧ t σ H1 fun xs H2=>r x xs H2 Q
variable {o e:Expr} {es:List Expr} {to:TE} {t:TA} {name:Str} {apos cpos:Pos} {T id:String} {r:V → List V → Hp → VK → Prop}
theorem Zl7 (pa:PlainAttrs T) (slot:Slot T name id) (hty:typeOf (.builtin id) = pure (.type "method_descriptor")) (hm:MtR X id r) (ho:PE X o to) (ha:PA X (e :: es) t)
  (hbase:attributeBase o name X.env (eval o X.env) = eval o X.env:=by rfl)
  (hfew:((backTo cpos (starEach (e :: es) X.env)).all (fun x=>!x.1) && (backToKw cpos (keywordEach [] X.env)).all (fun x=>x.1.isSome)
   && decide ((e :: es).length + ([]:List Keyword).length + (if ([]:List Keyword).isEmpty then 0 else 1) < 30)) = true:=by rfl)
  (hline:(apos.endLine == cpos.line) = true:=by rfl) (hs:starEach (e :: es) X.env = (false,eval e X.env) :: starEach es X.env:=by rfl) (hplain:(backTo cpos (starEach es X.env)).any (·.1) = false:=by rfl):
  PE X (.Call (.Attribute o name apos) (e :: es) [] cpos) (tBM X.K T r to t):=by
 intro pins s σ H Q I h
 refine wpAny_Call_method_late hbase hfew hline rfl (thn (ho pins s σ H _ I h) fun v s1 zz1=>?_)
 obtain ⟨x,H1,I1,r1,ty,q1⟩:=zz1
 obtain ⟨h1,h2⟩:=Znt I1 r1 ty
 refine ⟨T,id,pa,slot,hty,h1,h2,?_⟩
 have hA:=ha cpos pins s1 σ H1 _ I1 q1
 rw [hs] at hA ⊢
 refine Calls.callWith_builtin (by show (false || (backTo cpos (starEach es X.env)).any (·.1)) = false; rw [hplain] <;> rfl) (Calls.evalArgs_plain ?_)
 exact thn hA fun us s2 ⟨vs,H2,I2,r2,q2⟩=>hm pins s2 σ H2 x vs v us Q I2 r1 r2 q2
/- xs.append(e),list.index on a module's tuple .. are MtR facts of 06m -/
end
end L2
namespace L2
open PySem PySem.Spec PyProof.Rows
noncomputable def MtM (X:Cx) (id:String) (r:V → List V → Hp → VK → Prop):Prop:=
 ∀ (pins:List (Addr × Obj)) (s:Shared) (σ:St) (H:Hp) (x:V) (xs:List V) (v:Value) (us:List Value) (Q:VK),Inv X pins σ H s → RelV x v → Vals xs us → r x xs H Q →
  wpAny (model X.prog X.w) X.A (call (.builtin id) (v :: us)) (EP X pins σ Q) X.xe s
theorem Vals.one:∀ {x:V} {us:List Value},Vals [x] us → ∃ u,us = [u] ∧ RelV x u
 | _,_,.cons r .nil=>⟨_,rfl,r⟩
theorem Vals.zero:∀ {us:List Value},Vals [] us → us = []
 | _,.nil=>rfl
theorem Vals.eraseIdx:∀ {xs:List V} {us:List Value} (i:Nat),Vals xs us → Vals (xs.eraseIdx i) (us.eraseIdx i)
 | _,_,_,.nil=>.nil
 | _,_,0,.cons _ t=>t
 | _,_,i + 1,.cons r t=>.cons r (Vals.eraseIdx i t)
theorem Vals.reverse {xs:List V} {us:List Value} (h:Vals xs us):Vals xs.reverse us.reverse:=by
 induction h with
 | nil=>exact .nil
 | cons r t ih=>rw [List.reverse_cons,List.reverse_cons]; exact Vals.append ih (.cons r .nil)
theorem Vals.rep {xs:List V} {us:List Value} (h:Vals xs us):∀ k:Nat,Vals (List.replicate k xs).flatten (List.replicate k us).flatten
 | 0=>.nil
 | k + 1=>by
  rw [List.replicate_succ,List.replicate_succ,List.flatten_cons,List.flatten_cons]
  exact Vals.append h (Vals.rep h k)
theorem foldl_rep (its:List Value):∀ (k:Nat) (acc:List Value),
  List.foldl (fun x1 x2=>x1 ++ x2) acc.toArray (List.replicate k its.toArray) = (acc ++ (List.replicate k its).flatten).toArray
 | 0,acc=>by simp
 | k + 1,acc=>by
  have e:acc.toArray ++ its.toArray = (acc ++ its).toArray:=by simp
  have e2:(acc ++ its) ++ (List.replicate k its).flatten = acc ++ (List.replicate (k + 1) its).flatten:=by
   rw [List.replicate_succ,List.flatten_cons,List.append_assoc]
  rw [← e2,← foldl_rep its k (acc ++ its),← e,List.replicate_succ,List.foldl_cons]
section
variable {X:Cx} {pins:List (Addr × Obj)} {σ:St} {H:Hp} {s:Shared} {l b:Addr} {xs ys zs:List V}
theorem Inv.lset {its its':List Value} {n:Nat} {f:Array Value → Array Value} {t':Nat} (I:Inv X pins σ H s) (hH:H l = some (.lst xs))
  (e:s.heap.get? l = some { cls:=.type "list",data:=.seq its.toArray n }) (hf:f its.toArray = its'.toArray) (hv:Vals ys its') (hz:ys.length ≤ sizeLine):
  Inv X pins σ (upd H l (.lst ys)) { s with heap:=s.heap.update l (Obj.mapSeq f),toks:=t' }:=by
 have q:=PySem.IsL.update e f
 rw [hf] at q
 refine I.write (x:=l) (e:=l) (by rw [hH]; exact trivial) (.inl rfl) (fun b' u hb hu=>(Heap.get?_update_other s.heap (Obj.mapSeq f) (Ne.symm hb)).trans hu) ⟨_,q⟩ ?_
 exact ⟨hz,its',_,hv,q⟩
theorem Inv.lnew {its:List Value} {t':Nat} (I:Inv X pins σ H s) (hv:Vals ys its) (hz:ys.length ≤ sizeLine):
  Inv X pins σ (upd H s.heap.objs.size (.lst ys)) { s with heap:=s.heap.push { cls:=.type "list",data:=.seq its.toArray },toks:=t' }:=
 I.laid (fun _ _ q=>Heap.get?_push_of_some _ q) (Nat.le_refl _) ⟨hz,its,0,hv,Heap.get?_push_size _ rfl⟩
theorem Inv.fresh (I:Inv X pins σ H s):H s.heap.objs.size = none:=I.hok.fresh (Nat.le_refl _)
theorem Inv.lstM (I:Inv X pins σ H s) (hH:H l = some (.lst xs)):xs.length ≤ sizeLine ∧ ∃ (its:List Value) (n:Nat),Vals xs its ∧ xs.length = its.length ∧ s.heap.get? l = some { cls:=.type "list",data:=.seq its.toArray n }:=by
 obtain ⟨z,its,n,r,e⟩:=I.hok l _ hH
 exact ⟨z,its,n,r,r.length,e⟩
theorem ZfW {n:Nat} (h:n ≤ sizeLine):Builtin.List.listTooLong n = false:=by
 unfold Builtin.List.listTooLong
 exact decide_eq_false (by omega)
end
section
variable {X:Cx}
noncomputable def Zin:V → List V → Hp → VK → Prop:=fun x vs H Q=>∃ l xs y,x = .ref l ∧ vs = [y] ∧ H l = some (.lst xs) ∧ xs.length < sizeLine ∧ Q .non (upd H l (.lst (xs ++ [y])))
theorem Zgh:MtM X "list.append" Zin:=by
 intro pins s σ H x vs v us Q I rx rv h
 obtain ⟨l,xs,y,rfl,rfl,hH,hz,q⟩:=h
 cases rx
 obtain ⟨u,rfl,ru⟩:=rv.one
 obtain ⟨z,its,n,r,hl,e⟩:=I.lstM hH
 refine call_meets F.slot_list_append ⟨_,e,rfl⟩ F.entry_list_append (F.args_list_append_2 _ _) (PySem.list_append l its.toArray n u (by rw [List.size_toArray]; exact lC 2 2268279672881 T1 hl z)) ⟨e,?_⟩
 refine ⟨.non,_,I.lset (its':=its ++ [u]) hH e (by simp) (r.append (.cons ru .nil)) ?_,rfl,q⟩
 rw [List.length_append,List.length_singleton]
 exact lB 1 6991908881 T1 hz
noncomputable def Zii:V → List V → Hp → VK → Prop:=fun x vs H Q=>∃ l b xs zs,x = .ref l ∧ vs = [.ref b] ∧ H l = some (.lst xs) ∧ H b = some (.lst zs) ∧ xs.length + zs.length ≤ sizeLine ∧ Q .non (upd H l (.lst (xs ++ zs)))
theorem ZiY:MtM X "list.extend" Zii:=by
 intro pins s σ H x vs v us Q I rx rv h
 obtain ⟨l,b,xs,zs,rfl,rfl,hH,hB,hz,q⟩:=h
 cases rx
 obtain ⟨u,rfl,ru⟩:=rv.one
 cases ru
 obtain ⟨z,its,n,r,hl,e⟩:=I.lstM hH
 obtain ⟨z2,its2,n2,r2,hl2,e2⟩:=I.lstM hB
 have hsz:its.toArray.size + its2.toArray.size ≤ sizeLine:=by rw [List.size_toArray,List.size_toArray]; exact lE 3 0x413c0402c0132311031 T1 hl2 hl hz
 have hlong:¬ (!its.toArray.isEmpty && Builtin.List.listTooLong (its.toArray.size + its2.toArray.size)) = true:=by
  rw [ZfW hsz,Bool.and_false]
  exact Bool.false_ne_true
 refine call_meets F.slot_list_extend ⟨_,e,rfl⟩ F.entry_list_extend (F.args_list_extend_2 _ _)
  (AutoSeq1.list_extend_list_list_0 l its.toArray n b its2.toArray n2 hlong (by rw [List.size_toArray]; exact lC 2 2268279672881 T1 hl z) (by exact lC 1 0xa2c10c0210c01 T1 hsz)) ⟨e,e2,?_⟩
 refine ⟨.non,_,I.lset (its':=its ++ its2) hH e (by simp) (r.append r2) ?_,rfl,q⟩
 rw [List.length_append]
 exact hz
noncomputable def Zpp:R2:=fun x y H Q=>∃ l b xs zs,x = .ref l ∧ y = .ref b ∧ H l = some (.lst xs) ∧ H b = some (.lst zs) ∧ xs.length + zs.length ≤ sizeLine ∧ ∀ p,H p = none → Q (.ref p) (upd H p (.lst (xs ++ zs)))
theorem Zmg:OpR X (binaryOp .Add) Zpp:=by
 intro pins s σ H x y v u Q I rx ry h
 obtain ⟨l,b,xs,zs,rfl,rfl,hH,hB,hz,q⟩:=h
 cases rx
 cases ry
 obtain ⟨z,its,n,r,hl,e⟩:=I.lstM hH
 obtain ⟨z2,its2,n2,r2,hl2,e2⟩:=I.lstM hB
 refine PySem.P.add_list e e2 ?_ (by rw [List.size_toArray,List.size_toArray]; exact lE 3 0x413c0402c0132311031 T1 hl2 hl hz)
 have ea:its.toArray ++ its2.toArray = (its ++ its2).toArray:=by simp
 rw [ea]
 exact ⟨.ref _,_,I.lnew (t':=s.toks) (r.append r2) (by rw [List.length_append]; exact hz),rfl,q _ I.fresh⟩
noncomputable def Zps:R2:=fun x y H Q=>∃ l k xs,x = .ref l ∧ y = .int k ∧ H l = some (.lst xs) ∧ -(2 ^ 63) ≤ k ∧ k < 2 ^ 63 ∧ xs.length * k.toNat ≤ sizeLine ∧
 ∀ p,H p = none → Q (.ref p) (upd H p (.lst (List.replicate k.toNat xs).flatten))
theorem len_rep {α:Type} (xs:List α) (k:Nat):(List.replicate k xs).flatten.length = k * xs.length:=by
 induction k with
 | zero=>simp
 | succ k ih=>rw [List.replicate_succ,List.flatten_cons,List.length_append,ih,Nat.succ_mul,Nat.add_comm]
theorem ZnC:OpR X (binaryOp .Mult) Zps:=by
 intro pins s σ H x y v u Q I rx ry h
 obtain ⟨l,k,xs,rfl,rfl,hH,h1,h2,hz,q⟩:=h
 cases rx
 obtain ⟨t,rfl⟩:=ry
 obtain ⟨z,its,n,r,hl,e⟩:=I.lstM hH
 have hlen:its.toArray.size * k.toNat ≤ sizeLine:=by rw [List.size_toArray,← hl]; exact hz
 have hcap:¬ its.toArray.size * k.toNat > (2 ^ 63 - 1) / 8:=by
  have:(sizeLine:Nat) ≤ (2 ^ 63 - 1) / 8:=by decide
  omega
 have hfit:¬ (!Builtin.List.listFitsIndex k) = true:=by
  rw [fitsIndex_both h1 h2]
  exact Bool.false_ne_true
 have hlong:¬ Builtin.List.listTooLong (its.toArray.size * k.toNat) = true:=by
  rw [ZfW hlen]
  exact Bool.false_ne_true
 have hnew:List.foldl (fun x1 x2=>x1 ++ x2) #[] (List.replicate (if its.toArray.isEmpty = true then 0 else k.toNat) its.toArray) = (List.replicate k.toNat its).flatten.toArray:=by
  have f0:∀ m:Nat,List.foldl (fun x1 x2=>x1 ++ x2) #[] (List.replicate m its.toArray) = (List.replicate m its).flatten.toArray:=fun m=>by
   have:=foldl_rep its m []
   rw [List.nil_append] at this
   exact this
  rw [f0]
  cases its with
  | nil=>simp
  | cons a r'=>rw [if_neg (by simp)]
 refine wpAny_binaryOp_repeat_ref (T:="list") (U:="int") (by decide) ⟨_,e,rfl⟩ (fun s'=>typeIs_int s' k t) noFill_list_mul F.fills_int_mul F.slot_int_rmul repeat_list F.slot_int_index.lookup
  (call_meets F.slot_int_rmul (typeIs_int s k t) F.entry_int_rmul (F.args_int_rmul_2 _ _) (int___rmul___int_list k t l its.toArray n)
   ⟨e,rfl,⟨_,e,rfl⟩,call_meets F.slot_list_mul ⟨_,e,rfl⟩ F.entry_list_mul (F.args_list_mul_2 _ _) (AutoListH.list___mul___list_int_3 l its.toArray n k t hfit hcap hlong) ⟨e,?_⟩⟩)
 rw [hnew]
 exact ⟨.ref _,_,I.lnew (t':=s.toks) (r.rep k.toNat) (by rw [len_rep,Nat.mul_comm]; exact hz),rfl,q _ I.fresh⟩
end
section
variable {prog:Program} {w:World} {A:Around} {E:Value → Shared → Prop} {s:Shared}
end
section
variable {X:Cx}
end
end L2
namespace Att
open PySem PySem.W PySem.Calls PyProof.Rows
theorem Zfe {P:Params} {h:Heap}:∀ (ns:List Int) (vs:List Value),WellAll P h vs (ns.map WData.int) → IntsAre vs ns:=by
 intro ns
 induction ns with
 | nil=>
  intro vs w
  rw [List.map_nil] at w
  cases w
  exact .nil
 | cons n ns ih=>
  intro vs w
  rw [List.map_cons] at w
  cases w with
  | cons a b=>
   cases a
   exact .cons _ _ (ih _ b)
theorem Zjh {l:OpenLaw} {n:Nat} (hn:l.most = some n) {P:Params} {h:Heap} {args:List WData} {vals:List Value}
  (hpre:l.row.toRowW.claim.pre args = true) (hwl:WellAll P h vals args):
  ∃ a vs ns,vals = [Value.ref a] ∧ args = [WData.list (ns.map WData.int)] ∧ h.get? a = some { cls:=.type "list",data:=.seq vs.toArray } ∧ IntsAre vs ns ∧ ns.length ≤ n:=by
 have hsh:WShape.hasAll [] args [.list .int] = true:=(pre_splitW hpre).1
 have hc:l.pre.holds [] { args:=args } = true:=(pre_splitW hpre).2
 obtain ⟨d,r,rfl,h1,h2⟩:=hasAllW_cons hsh
 obtain rfl:=hasAllW_nil h2
 obtain ⟨xs,rfl,h3⟩:=hasW_list h1
 obtain ⟨ns,rfl⟩:=items_int h3
 have hlen:ns.length ≤ n:=by
  unfold OpenLaw.pre at hc
  have h4:(WTm.not (.lt (.lit (.int (n:Int))) (.len (.arg 0)))).holds [] { args:=[.list (ns.map .int)] } = true:=by
   have h4:=(holds_andW hc).1
   rw [hn] at h4
   exact h4
  have h5:=condW_of h4 (w_not (w_lt w_lit (w_len_list (w_arg rfl))))
  rw [List.length_map] at h5
  refine Nat.le_of_not_lt fun q=>?_
  have q':(n:Int) < ((ns.length:Nat):Int):=by exact Int.ofNat_lt.2 q
  first
   | (rw [decide_eq_true q'] at h5; exact absurd h5 (by decide))
   | (simp at h5; omega)
 cases hwl with
 | cons w1 w2=>
  cases w2
  cases w1 with
  | list ho hall=>exact ⟨_,_,ns,rfl,rfl,ho,Zfe ns _ hall,hlen⟩
theorem Zi7 (l:OpenLaw) (args:List WData):l.row.toRowW.claim.post args (.bool true) args = true:=
 postW_of (r:=l.row.toRowW) (X:=(true == true))
  (show WShape.has [] (.bool true) .bool = true by first | rfl | decide | simp [WShape.has,WShape.arms,WShape.armsAll])
  (show (WTm.eq .res (.lit (.bool true))).value [] { args:=args,res:=some (.bool true),after:=args } = some (.bool (true == true)) from w_eq_bool (w_res rfl) w_lit) rfl
theorem attach_call {l:OpenLaw} {n:Nat} {q:Program} {loose:List Str} {XP:(Str → Option Value) → Heap → Prop} {YP:World → Heap → Prop} {d:DefRec}
  (hn:l.most = some n) (hdf:d.params.defaults = [])
  (call:∀ (w:World) (s₀ s₁:Shared) (mg mb:Str → Option Value) (fa:Addr) (o:Obj) (pm cd doc:Value) (a:Addr) (vs:List Value) (ns:List Int),
   Ground q loose [] XP w s₀ mg mb s₁.heap → YP w s₁.heap →
   s₁.heap.get? fa = some o → o.data = .func (docDef d.name d.params d.body d.scope pm cd doc) → s₁.heap.CodeRec cd d.name → mg d.name = some (.ref fa) →
   s₁.heap.get? a = some { cls:=.type "list",data:=.seq vs.toArray } → IntsAre vs ns → ns.length ≤ n → s₁.gens = #[] →
   codeAny (model l.prog w) callerA (.call (.ref fa) ⟨[.ref a],[]⟩) (fun r s'=>r = .ok (.ret (.bool true)) ∧ OldK s₁.heap s'.heap ∧ s'.os = s₁.os ∧ AllBare s'.gens) s₁):
  WalkO q loose XP YP l.row.toRowW d [] (fun f vs=>PySem.call f vs):=by
 intro w s₀ s₁ mg mb G Y fa o pm cd doc dV kV ho hd hcd hD hmg hg args vals as hpre hlay hrd hwl hlo
 obtain rfl:dV = .none:=Dflts.none hD hdf
 obtain rfl:kV = .none:=Dflts.noKw hD
 obtain ⟨a,vs,ns,rfl,rfl,hobj,hints,hlen⟩:=Zjh hn hpre hwl
 refine enter_call (codeAny_mono (call w s₀ s₁ mg mb fa o pm cd doc a vs ns G Y ho (fd_plain hd) hcd hmg hobj hints hlen hg) fun r s' hq=>?_)
 obtain ⟨rfl,h2,h3,h4⟩:=hq
 exact ⟨.inl ⟨.bool true,.bool true,[],rfl,fun _=>rfl,.bool true,Zi7 l _,fun _=>⟨List.Pairwise.nil,fun _ hm=>(nomatch hm)⟩⟩,h2,h3,h4⟩
section
variable {prog:Program} {w:World} {A:Around} {E:Value → Shared → Prop} {s:Shared} {K:Frag}
end
end Att
namespace L2
open PySem PySem.Spec PyProof.Rows
theorem Zgd:∀ {vs:List Value} {ns:List Int},IntsAre vs ns → Vals (ns.map V.int) vs
 | _,_,.nil=>.nil
 | _,_,.cons n t h=>.cons ⟨t,rfl⟩ (Zgd h)
noncomputable def Only (H:Hp):Prop:=∀ b,H b = none ∨ ∃ o xs,H b = some (.frz o (.lst xs))
theorem Zkf {P:Program} {w:World} {K:PySem.W.Frag} {mg mb:Str → Option Value} {CX:CXT} {k:Nat} {fa a:Addr} {fd:FuncData} {x:Str} {sp:Sp} {s₁:Shared} {vs:List Value} {ns:List Int}
  (KX:K.In s₁.heap) (hns:s₁.heap.Ns mainGlobals mg) (hb:s₁.heap.Ns builtinsNs mb) (hbb:∀ x:Str,x ≠ "__name__" → mb x = bootBuiltins x) (hlim:s₁.heap.NoLimit) (hg:s₁.gens = #[])
  (ha:s₁.heap.get? a = some { cls:=.type "list",data:=.seq vs.toArray }) (hi:IntsAre vs ns) (hl:ns.length ≤ sizeLine) (hr:ZbW k callerA)
  (F:∀ base:Heap,K.In base → base.Ns mainGlobals mg → ZcW P w K mg base CX k fa fd [x] sp) (hbind:∀ (s:Shared) (u:Value),BindsTo s fd ⟨[u],[]⟩ [(x,u)])
  (hsp:∀ H:Hp,Only H → SqL K H a (ns.map V.int) → sp [.ref a] H (fun v _=>v = .bl true) fun _ _ _=>False)
  (hCX:∀ H e s',CX [] H s₁ (fun _ _ _=>False) e s' → False):
  codeAny (model P w) callerA (.call (.ref fa) ⟨[.ref a],[]⟩) (fun r s'=>r = .ok (.ret (.bool true)) ∧ OldK s₁.heap s'.heap ∧ s'.os = s₁.os ∧ AllBare s'.gens) s₁:=by
 have rv:=Zgd hi
 have lenV:=hi.length
 have core:∀ H:Hp,Only H → SqL K H a (ns.map V.int) → HOk P w H s₁.heap → (∀ b,H b ≠ none → b = a) → (H a ≠ none → K.lookup a = none) →
   codeAny (model P w) callerA (.call (.ref fa) ⟨[.ref a],[]⟩) (fun r s'=>r = .ok (.ret (.bool true)) ∧ OldK s₁.heap s'.heap ∧ s'.os = s₁.os ∧ AllBare s'.gens) s₁:=by
  intro H hO hS hok hA hK
  have base_of:∀ {b:Addr} {o:Obj},s₁.heap.get? b = some o → H b = none → (ZgC s₁.heap H).get? b = some o:=fun e n=>Zkk e n
  have noA:∀ {b:Addr} {o:Obj} {es:Array DictEntry} {ep:Nat},s₁.heap.get? b = some o → o.data = .dict es ep → H b = none:=fun {b o es ep} e d=>by
   cases q:H b with
   | none=>rfl
   | some u=>
    have e':b = a:=hA b (by rw [q]; simp)
    subst e'
    rw [ha] at e; cases e
    have d':Data.seq vs.toArray _ = Data.dict es ep:=d
    cases d'
  have nsK:∀ {b:Addr} {m:Str → Option Value},s₁.heap.Ns b m → (ZgC s₁.heap H).Ns b m:=fun {b m} ⟨o,es,ep,e,d,r⟩=>⟨o,es,ep,base_of e (noA e d),d,r⟩
  have hKb:K.In (ZgC s₁.heap H):=fun b o e=>base_of (KX b o e) (by
   cases q:H b with
   | none=>rfl
   | some u=>
    have e':b = a:=hA b (by rw [q]; simp)
    subst e'
    rw [hK (by rw [q]; simp)] at e; cases e)
  have hM:Mod K mg (ZgC s₁.heap H):=⟨hKb,nsK hns,⟨mb,nsK hb,hbb⟩,let ⟨mc,h1,h2⟩:=hlim; ⟨mc,nsK h1,h2⟩⟩
  have e0:Zic P w K mg (ZgC s₁.heap H) callerA [] s₁ H:=⟨rfl,hM,fun b o e=>ZkQ e,Nat.le_of_eq (Zjb _ _),trivial,fun b hb=>absurd (show b ∈ ([]:List Addr) from hb) (by simp),hok,.of_eq hg⟩
  refine codeAny_mono ((F _ hKb (nsK hns)).run callerA [] s₁ H ⟨[.ref a],[]⟩ [.ref a] [.ref a] _ _ hr e0 (hbind s₁ (.ref a)) (.cons rfl .nil) (hsp H hO hS)) fun r s' h=>?_
  cases r with
  | error e=>exact (hCX H e s' h).elim
  | ok fl=>
   cases fl with
   | next=>exact False.elim h
   | brk=>exact False.elim h
   | cont=>exact False.elim h
   | ret u=>
    obtain ⟨v,H',os,bare,un,hok',r',q⟩:=h
    have q':v = .bl true:=q
    subst q'
    obtain rfl:u = Value.bool true:=r'
    refine ⟨rfl,OldK.of_keep fun b o e=>?_,os,bare⟩
    cases q:H b with
    | none=>exact un.keep b o e q (by intro z; exact absurd (show b ∈ ([]:List Addr) from z) (by simp)) (by simp)
    | some u=>
     rcases hO b with z | ⟨ob,xs,z⟩
     ·rw [q] at z; cases z
     ·have z2:=un.frzs b ob _ z
      obtain ⟨e1,_⟩:=hok b _ z
      obtain ⟨e2,_⟩:=hok' b _ z2
      rw [e] at e1; cases e1
      exact e2
 cases hk:K.lookup a with
 | some o=>
  have e:=KX a o hk
  rw [ha] at e
  cases e
  refine core (fun _=>none) (fun _=>.inl rfl) (.inr ⟨_,vs.toArray,_,hk,rfl,rfl,rfl,by rw [List.size_toArray,lenV]; exact hl,by simpa using rv⟩) (fun b u z=>by have z':(none:Option HO) = some u:=z; cases z') (fun b z=>absurd rfl z) fun z=>absurd rfl z
 | none=>
  refine core (fun b=>if b = a then some (.frz { cls:=.type "list",data:=.seq vs.toArray } (.lst (ns.map V.int))) else none) (fun b=>?_) (.inl (.inr ⟨{ cls:=.type "list",data:=.seq vs.toArray },if_pos rfl⟩)) (fun b u z=>?_) (fun b z=>?_) fun _=>hk
  ·by_cases hb:b = a
   ·exact .inr ⟨_,_,if_pos hb⟩
   ·exact .inl (if_neg hb)
  ·by_cases hb:b = a
   ·have z':=(if_pos hb).symm.trans z
    cases z'
    subst hb
    exact ⟨ha,by rw [List.length_map]; exact hl,vs,_,rv,ha⟩
   ·have z':=(if_neg hb).symm.trans z
    cases z'
  ·by_cases hb:b = a
   ·exact hb
   ·exact absurd (if_neg hb) z
end L2
namespace L2
open PySem PySem.Spec PyProof.Rows
theorem ZiO {l:PySem.W.OpenLaw} {n k:Nat} {q:Program} {loose:List Str} {XP:(Str → Option Value) → Heap → Prop} {YP:World → Heap → Prop} {d:DefRec} {K:Params → PySem.W.Frag} {CX:World → CXT} {sp:World → Sp} {x:Str}
  (hn:l.most = some n) (hn2:n ≤ sizeLine) (hdf:d.params.defaults = []) (hr:ZbW k callerA)
  (hY:∀ (w:World) (h:Heap),YP w h → (K w.params).In h)
  (F:∀ (w:World) (mg:Str → Option Value) (fa:Addr) (h:Heap),(K w.params).In h → h.Ns mainGlobals mg → mg d.name = some (.ref fa) →
   ∃ fd:FuncData,(∀ (s:Shared) (u:Value),BindsTo s fd ⟨[u],[]⟩ [(x,u)]) ∧
    ∀ base:Heap,(K w.params).In base → base.Ns mainGlobals mg → ZcW l.prog w (K w.params) mg base (CX w) k fa fd [x] (sp w))
  (hsp:∀ (w:World) (H:Hp) (a:Addr) (ns:List Int),ns.length ≤ n → Only H → SqL (K w.params) H a (ns.map V.int) → sp w [.ref a] H (fun v _=>v = .bl true) fun _ _ _=>False)
  (hCX:∀ (w:World) (H:Hp) (s:Shared) (e:Value) (s':Shared),CX w [] H s (fun _ _ _=>False) e s' → False):
  PySem.W.WalkO q loose XP YP l.row.toRowW d [] (fun f vs=>PySem.call f vs):=by
 refine Att.attach_call hn hdf fun w s₀ s₁ mg mb fa o pm cd doc a vs ns G Y ho hd hcd hmg hobj hints hlen hg=>?_
 have KX:=hY w _ Y
 obtain ⟨fd,hb,hF⟩:=F w mg fa _ KX G.T.g hmg
 exact Zkf KX G.T.g G.T.b G.T.builtins G.T.nolimit hg hobj hints (Nat.le_trans hlen hn2) hr hF hb (fun H hO hS=>hsp w H a ns hlen hO hS) fun H e s'=>hCX w H s₁ e s'
end L2
/- THE LAST THEOREM (shape; LID,My.* are yours):
  My.Adr: a structure of the addresses that your layer names (classes,functions); My.Txt K t: a structure (Prop) of the equations over K;
  My.txt_mk:{K} {implicit addresses ..} (e1:nsIn K mainGlobals "law" = some (some (.ref f))) (e2:K.lookup f = some ⟨oc,od,.func (fnOf "law" "law" params body scope dV kV doc pm an cdv ct),sl⟩) (e3:codeIn K cdv "law" = true) ..:∃ t,My.Txt K t
set_option maxRecDepth 100000 in
set_option maxHeartbeats 0 in
theorem PySem.Challenge.cw_LID_holds : PySem.Challenge.rw_LID.Holds := by
 w_on; o_law; k_head; (case hw=>w_witness2)
 k_fill
 refine L2.ZiO (l:=PySem.Challenge.rw_LID) (n:=63) (k:=40) (x:="script") (CX:=fun w=>..) (sp:=fun _=>My.sp_law) rfl (by decide) rfl ⟨rfl,by decide,by decide⟩ (fun w h Y=>PySem.W.kIn_of Y) ?F ?S ?C
 case F=>
  intro w mg fa h KX G hmg
  have T:∃ t,My.Txt (L2.KOf KX) t:=by
   dsimp only [L2.KOf]                          -- K must stand as «<heap const> w.params» for k_is
   refine' My.txt_mk ?e1 ?e2 ?e3 ..
   (case e1=>PySem.W.k_is)                    -- in the order: a name -> its address -> its object -> its parts
   (case e2=>PySem.W.k_is)
   ..
  obtain ⟨t,T⟩:=T
  have e0:=hmg.symm.trans (PySem.W.mg_of KX G T.law)
  cases e0                                       -- fa is the law's own address
  exact ⟨_,fun s u=>.of_eq rfl,fun base kb nb=>My.law_fn T kb nb⟩     -- if «.of_eq rfl» comes too early: refine' ⟨_,?b,fun base kb nb=>My.law_fn T kb nb⟩; exact fun s u=>.of_eq rfl
 case S=>exact fun w H a ns hl hO hS=>..
 case C=>exact ..
(the tactic k_is has no namespace: write k_is) -/
namespace L2
open PySem PySem.Spec PyProof.Rows
noncomputable def Zax (s:Stmt):Arguments:=match s with
 | .FunctionDef _ a _ _ _ _ _ _ _ _=>a
 | _=>{ posonlyargs:=[],args:=[],vararg:=none,kwonlyargs:=[],kw_defaults:=[],kwarg:=none,defaults:=[] }
noncomputable def Zao (s:Stmt):List Stmt:=match s with
 | .FunctionDef _ _ b _ _ _ _ _ _ _=>b
 | _=>[]
noncomputable def Zj (s:Stmt):Scope:=match s with
 | .FunctionDef _ _ _ _ _ _ sc _ _ _=>sc
 | _=>{ kind:=.function,names:=[],isGenerator:=false,isCoroutine:=false }
noncomputable abbrev CX0:CXT:=fun _ _ _ _ _ _=>False
noncomputable abbrev E0:XK:=fun _ _ _=>False
theorem ZoL {X:Cx}:Zif CX0 X E0:=fun _ _ _ _ _ _ _ h=>h.elim
structure Fun (K:PySem.W.Frag) (x qual:Str) (st:Stmt) (f:Addr) (fd:FuncData):Prop where
 ex:∃ (oc:Value) (od:Option Addr) (dV kV doc pm:Value) (an:Option Addr) (cdv ct:Value) (osl:Array (Option Value)),
  fd = PySem.W.fnOf x qual (Zax st) (Zao st) (Zj st) dV kV doc pm an cdv ct ∧ K.lookup f = some ⟨oc,od,.func fd,osl⟩ ∧ PySem.W.codeIn K cdv qual = true
 kp:PySem.W.keepIn K (.ref f) = true
section
variable {P:Program} {w:World} {K:PySem.W.Frag} {mg:Str → Option Value} {base:Heap}
theorem Fun.ok {x qual:Str} {st:Stmt} {f:Addr} {fd:FuncData} {N ps:List Str} {k:Nat} {sp:Sp} (F:Fun K x qual st f fd) (S:Zay N ps (Zj st)) (len:∀ vs H Q E,sp vs H Q E → vs.length = ps.length)
  (hbody:∀ (cdv:Value) (A:Around) (outer:List Env) (s:Shared) (H:Hp) (vs:List V) (Q:VK) (E:XK),ZbW k (A.deeper (envOfC qual (Zj st) s.heap.objs.size f cdv)) → sp vs H Q E →
   ∃ t,PSs (Zfw CX0 P w K mg base N qual (Zj st) f cdv A outer s H E).nox (Zao st) t ∧ t { nx:=fun _ H'=>Q .non H',rt:=Q } (start N vs) H):ZcW P w K mg base CX0 (k + 1) f fd ps sp:=by
 obtain ⟨oc,od,dV,kV,doc,pm,an,cdv,ct,osl,rfl,lk,hcd⟩:=F.ex
 refine ZlU lk hcd S len fun A outer s H vs Q E hr hsp=>?_
 obtain ⟨t,h,q⟩:=hbody cdv A outer s H vs Q E hr hsp
 exact ⟨t,h.nox,q⟩
theorem Fun.binds {x qual:Str} {st:Stmt} {f:Addr} {fd:FuncData} {ps:List Str} (F:Fun K x qual st f fd)
  (h:∀ (dV kV doc pm:Value) (an:Option Addr) (cdv ct:Value) (us:List Value),us.length = ps.length → bindArgs (PySem.W.fnOf x qual (Zax st) (Zao st) (Zj st) dV kV doc pm an cdv ct) ⟨us,[]⟩ = pure (ps.zip us)):Binds K fd ps []:=by
 obtain ⟨oc,od,dV,kV,doc,pm,an,cdv,ct,osl,rfl,lk,hcd⟩:=F.ex
 exact .all (h dV kV doc pm an cdv ct)
theorem Zjq {x qual:Str} {st:Stmt} {f:Addr} {oc:Value} {od an:Option Addr} {osl:Array (Option Value)} {dV kV doc pm cdv ct:Value} (l:K.lookup f = some ⟨oc,od,.func (PySem.W.fnOf x qual (Zax st) (Zao st) (Zj st) dV kV doc pm an cdv ct),osl⟩)
  (c:PySem.W.codeIn K cdv qual = true) (k:PySem.W.keepIn K (.ref f) = true):Fun K x qual st f (PySem.W.fnOf x qual (Zax st) (Zao st) (Zj st) dV kV doc pm an cdv ct):=⟨⟨oc,od,dV,kV,doc,pm,an,cdv,ct,osl,rfl,l,c⟩,k⟩
end
section
variable {X:Cx}
end
noncomputable def Zhx (H H':Hp):Prop:=∀ b o,H b = some o → H' b = some o
theorem Zhx.trans {H H1 H2:Hp} (a:Zhx H H1) (b:Zhx H1 H2):Zhx H H2:=fun c o h=>b c o (a c o h)
theorem Zhx.free {H H':Hp} (e:Zhx H H') {l:Addr} (h:H' l = Option.none):H l = Option.none:=by
 cases q:H l with
 | none=>rfl
 | some o=>
  rw [e l o q] at h
  cases h
theorem Zhx.seq {K:PySem.W.Frag} {H H':Hp} {a:Addr} {xs:List V} (e:Zhx H H') (h:SqL K H a xs):SqL K H' a xs:=by
 rcases h with (h | ⟨o,h⟩) | h
 ·exact .inl (.inl (e _ _ h))
 ·exact .inl (.inr ⟨o,e _ _ h⟩)
 ·exact .inr h
end L2
namespace L2
open PySem PySem.Spec PyProof.Rows
section
variable {κ:Type} [DecidableEq κ]
noncomputable def Zef (kvs:List (κ × V)) (k:κ):Option V:=(kvs.find? fun kv=>decide (kv.1 = k)).map (·.2)
noncomputable def putK (kvs:List (κ × V)) (k:κ) (v:V):List (κ × V):=
 if (kvs.any fun kv=>decide (kv.1 = k)) = true then kvs.map (fun kv=>if kv.1 = k then (kv.1,v) else kv) else kvs ++ [(k,v)]
noncomputable def Zl0 (kvs:List (κ × V)) (k:κ):List (κ × V):=kvs.filter fun kv=>decide (kv.1 ≠ k)
theorem ZkM {k:κ}:Zef ([]:List (κ × V)) k = none:=rfl
theorem ZeD {p:κ × V} {r:List (κ × V)} {k:κ} (e:p.1 = k):Zef (p :: r) k = some p.2:=by simp [Zef,List.find?_cons,e]
theorem Zes {p:κ × V} {r:List (κ × V)} {k:κ} (e:¬ p.1 = k):Zef (p :: r) k = Zef r k:=by simp [Zef,List.find?_cons,e]
theorem ZhH (k:κ):∀ kvs:List (κ × V),(kvs.any fun kv=>decide (kv.1 = k)) = (Zef kvs k).isSome
 | []=>rfl
 | p :: r=>by
  rw [List.any_cons]
  by_cases e:p.1 = k
  ·simp only [ZeD e,decide_eq_true e,Bool.true_or,Option.isSome_some]
  ·rw [Zes e,decide_eq_false e,Bool.false_or]; exact ZhH k r
theorem ZfL.isSome_eq {o:Option V} {u:Option Value} (r:ZfL o u):o.isSome = u.isSome:=by
 cases o with
 | none=>cases u with
  | none=>rfl
  | some _=>exact (show False from r).elim
 | some _=>cases u with
  | none=>exact (show False from r).elim
  | some _=>rfl
theorem ZfL.getD {o:Option V} {u:Option Value} {d:V} {d':Value} (r:ZfL o u) (rd:RelV d d'):RelV (o.getD d) (u.getD d'):=by
 cases o with
 | none=>cases u with
  | none=>exact rd
  | some _=>exact (show False from r).elim
 | some _=>cases u with
  | none=>exact (show False from r).elim
  | some _=>exact r
theorem KV.val {kvs:List (κ × V)} {vs:List (κ × Value)} (r:KV kvs vs) (k:κ):ZfL (Zef kvs k) (valueAt vs k):=by
 unfold KV at r
 induction r with
 | nil=>exact True.intro
 | @cons p q ps qs h t ih=>
  obtain ⟨h1,h2⟩:=h
  by_cases e:p.1 = k
  ·have e':q.1 = k:=h1.symm.trans e
   have b:valueAt (q :: qs) k = some q.2:=by simp [valueAt,List.find?_cons,e']
   rw [ZeD e,b]; exact h2
  ·have e':¬ q.1 = k:=fun z=>e (h1.trans z)
   have b:valueAt (q :: qs) k = valueAt qs k:=by simp [valueAt,List.find?_cons,e']
   rw [Zes e,b]; exact ih
theorem KV.any {kvs:List (κ × V)} {vs:List (κ × Value)} (r:KV kvs vs) (k:κ):(kvs.any fun kv=>decide (kv.1 = k)) = vs.any fun kv=>decide (kv.1 = k):=by
 unfold KV at r
 induction r with
 | nil=>rfl
 | cons h t ih=>rw [List.any_cons,List.any_cons,ih,h.1]
theorem KV.repl {kvs:List (κ × V)} {vs:List (κ × Value)} (r:KV kvs vs) (k:κ) {y:V} {u:Value} (ry:RelV y u):
  KV (kvs.map fun kv=>if kv.1 = k then (kv.1,y) else kv) (vs.map fun kv=>if kv.1 = k then (kv.1,u) else kv):=by
 unfold KV at r ⊢
 induction r with
 | nil=>exact .nil
 | @cons p q ps qs h t ih=>
  rw [List.map_cons,List.map_cons]
  refine .cons ?_ ih
  obtain ⟨h1,h2⟩:=h
  by_cases e:p.1 = k
  ·rw [if_pos e,if_pos (h1.symm.trans e)]; exact ⟨h1,ry⟩
  ·rw [if_neg e,if_neg (fun z=>e (h1.trans z))]; exact ⟨h1,h2⟩
theorem KV.put {kvs:List (κ × V)} {vs:List (κ × Value)} (r:KV kvs vs) (k:κ) {y:V} {u:Value} (ry:RelV y u):KV (putK kvs k y) (stored vs k u):=by
 unfold putK stored
 rw [r.any k]
 by_cases e:(vs.any fun kv=>decide (kv.1 = k)) = true
 ·rw [if_pos e,if_pos e]; exact r.repl k ry
 ·rw [if_neg e,if_neg e]; exact Paired.snoc r ⟨rfl,ry⟩
theorem KV.drop {kvs:List (κ × V)} {vs:List (κ × Value)} (r:KV kvs vs) (k:κ):KV (Zl0 kvs k) (without vs k):=by
 unfold KV at r ⊢
 unfold Zl0 without
 induction r with
 | nil=>exact .nil
 | @cons p q ps qs h t ih=>
  obtain ⟨h1,h2⟩:=h
  rw [List.filter_cons,List.filter_cons]
  by_cases e:p.1 = k
  ·have a:¬ decide (p.1 ≠ k) = true:=by simp [e]
   have b:¬ decide (q.1 ≠ k) = true:=by simp [h1.symm.trans e]
   rw [if_neg a,if_neg b]; exact ih
  ·have e':¬ q.1 = k:=fun z=>e (h1.trans z)
   have a:decide (p.1 ≠ k) = true:=by simp [e]
   have b:decide (q.1 ≠ k) = true:=by simp [e']
   rw [if_pos a,if_pos b]; exact .cons ⟨h1,h2⟩ ih
theorem KV.length {kvs:List (κ × V)} {vs:List (κ × Value)} (r:KV kvs vs):kvs.length = vs.length:=Paired.length r
end
noncomputable abbrev KT (H:Hp):List (List Key × V) → List (List Key × Addr × Value) → Prop:=Paired fun p q=>p.1 = q.1 ∧ H q.2.1 = some (.tup (p.1.map kV)) ∧ RelV p.2 q.2.2
theorem KT.val {H:Hp} {kvs:List (List Key × V)} {xs:List (List Key × Addr × Value)} (r:KT H kvs xs) (k:List Key):ZfL (Zef kvs k) ((atKey xs k).map (·.2)):=by
 induction r with
 | nil=>exact True.intro
 | @cons p q ps qs h t ih=>
  obtain ⟨h1,_,h2⟩:=h
  by_cases e:p.1 = k
  ·have e':q.1 = k:=h1.symm.trans e
   have b:atKey (q :: qs) k = some q.2:=by simp [atKey,List.find?_cons,e']
   rw [ZeD e,b]; exact h2
  ·have e':¬ q.1 = k:=fun z=>e (h1.trans z)
   have b:atKey (q :: qs) k = atKey qs k:=by simp [atKey,List.find?_cons,e']
   rw [Zes e,b]; exact ih
theorem KT.repl {H:Hp} {kvs:List (List Key × V)} {xs:List (List Key × Addr × Value)} (r:KT H kvs xs) (k:List Key) {y:V} {u:Value} (ry:RelV y u):
  KT H (kvs.map fun kv=>if kv.1 = k then (kv.1,y) else kv) (xs.map (putAt k u)):=by
 induction r with
 | nil=>exact .nil
 | @cons p q ps qs h t ih=>
  rw [List.map_cons,List.map_cons]
  refine .cons ?_ ih
  obtain ⟨h1,h2,h3⟩:=h
  unfold putAt
  by_cases e:p.1 = k
  ·rw [if_pos e,if_pos (h1.symm.trans e)]; exact ⟨h1,h2,ry⟩
  ·rw [if_neg e,if_neg (fun z=>e (h1.trans z))]; exact ⟨h1,h2,h3⟩
theorem KT.put {H:Hp} {kvs:List (List Key × V)} {xs:List (List Key × Addr × Value)} (r:KT H kvs xs) (k:List Key) {b:Addr} {y:V} {u:Value} (hb:H b = some (.tup (k.map kV))) (ry:RelV y u):
  KT H (putK kvs k y) (storedH xs k b u):=by
 have e:(kvs.any fun kv=>decide (kv.1 = k)) = (atKey xs k).isSome:=by
  rw [ZhH,(r.val k).isSome_eq,Option.isSome_map]
 unfold putK storedH
 rw [e]
 by_cases q:(atKey xs k).isSome = true
 ·rw [if_pos q,if_pos q]; exact r.repl k ry
 ·rw [if_neg q,if_neg q]; exact Paired.snoc r ⟨rfl,hb,ry⟩
theorem KT.keeps {H H':Hp} {kvs:List (List Key × V)} {xs:List (List Key × Addr × Value)} (r:KT H kvs xs) (ht:∀ b ys,H b = some (.tup ys) → H' b = some (.tup ys)):KT H' kvs xs:=
 Paired.mapP r fun _ _ z=>⟨z.1,ht _ _ z.2.1,z.2.2⟩
section
variable {P:Program} {w:World} {H:Hp} {h:Heap} {a:Addr}
end
noncomputable def ZkZ (H:Hp) (a:Addr) (y:V) (r:Option V):Prop:=
 (∃ kvs k,Rd H a (.dK kvs) ∧ y = kV k ∧ r = Zef kvs k) ∨ ∃ kvs k b,Rd H a (.dT kvs) ∧ y = .ref b ∧ H b = some (.tup (k.map kV)) ∧ r = Zef kvs k
noncomputable def Zlf (H:Hp) (a:Addr) (y v:V) (H':Hp):Prop:=
 (∃ kvs k,H a = some (.dK kvs) ∧ y = kV k ∧ kvs.length < sizeLine ∧ H' = upd H a (.dK (putK kvs k v))) ∨
 ∃ kvs k b,H a = some (.dT kvs) ∧ y = .ref b ∧ H b = some (.tup (k.map kV)) ∧ kvs.length < sizeLine ∧ H' = upd H a (.dT (putK kvs k v))
theorem ZkZ.k {H:Hp} {a:Addr} {kvs:List (Key × V)} {k:Key} (e:H a = some (.dK kvs)):ZkZ H a (kV k) (Zef kvs k):=.inl ⟨kvs,k,.inl e,rfl,rfl⟩
theorem ZkZ.t {H:Hp} {a b:Addr} {kvs:List (List Key × V)} {k:List Key} (e:H a = some (.dT kvs)) (eb:H b = some (.tup (k.map kV))):ZkZ H a (.ref b) (Zef kvs k):=.inr ⟨kvs,k,b,.inl e,rfl,eb,rfl⟩
theorem Zlf.k {H:Hp} {a:Addr} {kvs:List (Key × V)} {k:Key} {v:V} (e:H a = some (.dK kvs)) (hl:kvs.length < sizeLine):Zlf H a (kV k) v (upd H a (.dK (putK kvs k v))):=.inl ⟨kvs,k,e,rfl,hl,rfl⟩
theorem Zlf.t {H:Hp} {a b:Addr} {kvs:List (List Key × V)} {k:List Key} {v:V} (e:H a = some (.dT kvs)) (eb:H b = some (.tup (k.map kV))) (hl:kvs.length < sizeLine):
  Zlf H a (.ref b) v (upd H a (.dT (putK kvs k v))):=.inr ⟨kvs,k,b,e,rfl,eb,hl,rfl⟩
section
variable {X:Cx} {pins:List (Addr × Obj)} {σ:St} {H:Hp} {s:Shared} {a:Addr} {y v:V} {u r:Value} {o:Option V} {A:Around} {E:Value → Shared → Prop}
end
section
variable {X:Cx} {pins:List (Addr × Obj)} {σ:St} {H:Hp} {s:Shared} {a:Addr} {kvs:List (Key × V)} {k:Key} {u:Value} {A:Around} {E:Value → Shared → Prop}
end
section
variable {X:Cx} {o i e value:Expr} {pos pos' tpos:Pos} {td ty tv:TE}
end
section
variable {X:Cx} {pos:Pos}
end
structure M1 (X:Cx) (o:Expr) (m:Str) (apos:Pos) (e:Expr) (cpos:Pos):Prop where
 base:attributeBase o m X.env (eval o X.env) = eval o X.env
 few:((backTo cpos (starEach [e] X.env)).all (fun x=>!x.1) && (backToKw cpos (keywordEach [] X.env)).all (fun x=>x.1.isSome)
  && decide (([e]:List Expr).length + ([]:List Keyword).length + (if ([]:List Keyword).isEmpty then 0 else 1) < 30)) = true
 line:(apos.endLine == cpos.line) = true
 trees:backTo cpos (starEach [e] X.env) = [(false,eval e X.env)]
structure M2 (X:Cx) (o:Expr) (m:Str) (apos:Pos) (e f:Expr) (cpos:Pos):Prop where
 base:attributeBase o m X.env (eval o X.env) = eval o X.env
 few:((backTo cpos (starEach [e,f] X.env)).all (fun x=>!x.1) && (backToKw cpos (keywordEach [] X.env)).all (fun x=>x.1.isSome)
  && decide (([e,f]:List Expr).length + ([]:List Keyword).length + (if ([]:List Keyword).isEmpty then 0 else 1) < 30)) = true
 line:(apos.endLine == cpos.line) = true
 trees:backTo cpos (starEach [e,f] X.env) = [(false,eval e X.env),(false,eval f X.env)]
section
variable {X:Cx} {pins:List (Addr × Obj)} {σ:St} {H:Hp} {s:Shared} {a:Addr} {y d:V} {u r:Value} {o:Option V} {A:Around} {E:Value → Shared → Prop}
end
section
variable {X:Cx} {o e f:Expr} {apos cpos:Pos} {td ty tx:TE}
end
section
variable {X:Cx} {pins:List (Addr × Obj)} {σ:St} {H:Hp} {s:Shared} {a:Addr} {kvs:List (Key × V)} {A:Around} {E:Value → Shared → Prop}
end
section
variable {X:Cx} {pins:List (Addr × Obj)} {σ:St} {H:Hp} {s:Shared} {a:Addr} {y:V} {u:Value} {A:Around} {E:Value → Shared → Prop}
end
end L2
namespace L3
open PySem
noncomputable section
inductive D where
 | non | bl (b:Bool) | int (i:Int) | str (x:List Nat) | tup (ds:List D) | scr (ds:List D) | ref (n:Nat)
 deriving Inhabited
noncomputable abbrev Zb4:=Sum Int (List Nat)
inductive MO where
 | lst (xs:List D) | dct (kvs:List (Zb4 × D)) | fdct (kvs:List (Zb4 × D)) | ins (c:List Nat) (fs:List (List Nat × D))
 deriving Inhabited
noncomputable abbrev Store:=List MO
structure X3 where
 cls:List Nat
 arg:D
inductive R3 (α:Type) where
 | ok (a:α) (M:Store) | exc (x:X3) (M:Store) | bad
@[simp] noncomputable def R3.bind {α β:Type} (r:R3 α) (k:α → Store → R3 β):R3 β:=match r with
 | .ok a M=>k a M
 | .exc x M=>.exc x M
 | .bad=>.bad
noncomputable def Zai:Nat → D → Bool
 | _,.non=>true | _,.bl _=>true | _,.int _=>true | _,.str _=>true
 | n + 1,.tup ds=>ds.all (Zai n)
 | _,_=>false
noncomputable abbrev DEEP:Nat:=60
mutual
noncomputable def deq:D → D → Bool
 | .non,.non=>true
 | .bl a,.bl b=>a == b
 | .int a,.int b=>a == b
 | .str a,.str b=>a == b
 | .tup a,.tup b=>Zbn a b
 | .bl a,.int b=>(if a then 1 else 0) == b
 | .int a,.bl b=>a == (if b then 1 else 0)
 | _,_=>false
noncomputable def Zbn:List D → List D → Bool
 | [],[]=>true
 | a :: x,b :: y=>deq a b && Zbn x y
 | _,_=>false
end
mutual
noncomputable def below (n:Nat):D → Bool
 | .tup ds=>belowL n ds
 | .scr ds=>belowL n ds
 | .ref k=>k < n
 | .non=>true | .bl _=>true | .int _=>true | .str _=>true
noncomputable def belowL (n:Nat):List D → Bool
 | []=>true
 | d :: ds=>below n d && belowL n ds
end
mutual
noncomputable def same:D → D → Bool
 | .non,.non=>true
 | .bl a,.bl b=>a == b
 | .int a,.int b=>a == b
 | .str a,.str b=>a == b
 | .tup a,.tup b=>ZfH a b
 | .scr a,.scr b=>ZfH a b
 | .ref a,.ref b=>a == b
 | _,_=>false
noncomputable def ZfH:List D → List D → Bool
 | [],[]=>true
 | a :: x,b :: y=>same a b && ZfH x y
 | _,_=>false
end
mutual
theorem same_iff:∀ {a b:D},same a b = true ↔ a = b
 | .non,b=>by cases b <;> simp [same]
 | .bl a,b=>by cases b <;> simp [same]
 | .int a,b=>by cases b <;> simp [same]
 | .str a,b=>by cases b <;> simp [same]
 | .tup a,b=>by cases b <;> simp [same,ZeT (x:=a)]
 | .scr a,b=>by cases b <;> simp [same,ZeT (x:=a)]
 | .ref a,b=>by cases b <;> simp [same]
theorem ZeT:∀ {x y:List D},ZfH x y = true ↔ x = y
 | [],y=>by cases y <;> simp [ZfH]
 | a :: x,y=>by
  cases y with
  | nil=>simp [ZfH]
  | cons b y=>simp [ZfH,same_iff (a:=a),ZeT (x:=x)]
end
noncomputable instance:DecidableEq D:=fun a b=>decidable_of_iff (same a b = true) same_iff
noncomputable instance:DecidableEq MO:=fun a b=>match a,b with
 | .lst x,.lst y=>if h:x = y then isTrue (by rw [h]) else isFalse (by intro e; cases e; exact h rfl)
 | .dct x,.dct y=>if h:x = y then isTrue (by rw [h]) else isFalse (by intro e; cases e; exact h rfl)
 | .fdct x,.fdct y=>if h:x = y then isTrue (by rw [h]) else isFalse (by intro e; cases e; exact h rfl)
 | .ins c x,.ins d y=>if h:c = d ∧ x = y then isTrue (by rw [h.1,h.2]) else isFalse (by intro e; cases e; exact h ⟨rfl,rfl⟩)
 | .ins _ _,.lst _=>isFalse (by intro e; cases e)
 | .ins _ _,.dct _=>isFalse (by intro e; cases e)
 | .ins _ _,.fdct _=>isFalse (by intro e; cases e)
 | .lst _,.ins _ _=>isFalse (by intro e; cases e)
 | .dct _,.ins _ _=>isFalse (by intro e; cases e)
 | .fdct _,.ins _ _=>isFalse (by intro e; cases e)
 | .lst _,.dct _=>isFalse (by intro e; cases e)
 | .lst _,.fdct _=>isFalse (by intro e; cases e)
 | .dct _,.lst _=>isFalse (by intro e; cases e)
 | .dct _,.fdct _=>isFalse (by intro e; cases e)
 | .fdct _,.lst _=>isFalse (by intro e; cases e)
 | .fdct _,.dct _=>isFalse (by intro e; cases e)
@[simp] noncomputable abbrev SZ:Nat:=1000000
noncomputable abbrev Zad:=List (Option D)
noncomputable abbrev E3:=Zad → Store → R3 D
noncomputable abbrev EL3:=Zad → Store → R3 (List D)
noncomputable abbrev F3:=List D → Store → R3 D
inductive O3 where
 | nx (env:Zad) (M:Store) | rt (d:D) (M:Store) | bk (env:Zad) (M:Store) | ct (env:Zad) (M:Store) | exc (x:X3) (M:Store) | bad
noncomputable abbrev S3:=Zad → Store → O3
@[simp] noncomputable def Zb (i:Nat):E3:=fun env M=>match env[i]? with
 | some (some d)=>.ok d M
 | _=>.bad
@[simp] noncomputable def eC (d:D):E3:=fun _ M=>.ok d M
@[simp] noncomputable def e1 (op:D → Store → R3 D) (f:E3):E3:=fun env M=>(f env M).bind op
@[simp] noncomputable def e2 (op:D → D → Store → R3 D) (f g:E3):E3:=fun env M=>(f env M).bind fun a M1=>(g env M1).bind fun b M2=>op a b M2
@[simp] noncomputable def Ze:EL3:=fun _ M=>.ok [] M
@[simp] noncomputable def Za (f:E3) (g:EL3):EL3:=fun env M=>(f env M).bind fun a M1=>(g env M1).bind fun b M2=>.ok (a :: b) M2
@[simp] noncomputable def alloc (o:MO) (M:Store):R3 D:=.ok (.ref M.length) (M ++ [o])
section
local instance (priority:=100000) clP1 (p:Prop):Decidable p:=Classical.propDecidable p
@[simp] noncomputable def Zcv (g:EL3):E3:=fun env M=>(g env M).bind fun ds M1=>if ds.length ≤ SZ then .ok (.tup ds) M1 else .bad
end
section
local instance (priority:=100000) clP2 (p:Prop):Decidable p:=Classical.propDecidable p
@[simp] noncomputable def Zag (g:EL3):E3:=fun env M=>(g env M).bind fun ds M1=>if ds.length ≤ SZ then alloc (.lst ds) M1 else .bad
end
@[simp] noncomputable def Zdd (f g:E3):E3:=fun env M=>(f env M).bind fun a M1=>match a with
 | .bl true=>g env M1
 | .bl false=>.ok (.bl false) M1
 | _=>.bad
@[simp] noncomputable def eOr (f g:E3):E3:=fun env M=>(f env M).bind fun a M1=>match a with
 | .bl false=>g env M1
 | .bl true=>.ok (.bl true) M1
 | _=>.bad
@[simp] noncomputable def Za2 (a:D) (M:Store):R3 D:=match a with
 | .bl b=>.ok (.bl (!b)) M
 | _=>.bad
@[simp] noncomputable def eIf (c f g:E3):E3:=fun env M=>(c env M).bind fun a M1=>match a with
 | .bl true=>f env M1
 | .bl false=>g env M1
 | _=>.bad
@[simp] noncomputable def Zt (F:F3) (g:EL3):E3:=fun env M=>(g env M).bind fun ds M1=>F ds M1
section
local instance (priority:=100000) clP3 (p:Prop):Decidable p:=Classical.propDecidable p
@[simp] noncomputable def Zo (a b:D) (M:Store):R3 D:=match a,b with
 | .int i,.int j=>.ok (.int (i + j)) M
 | .str x,.str y=>if x.length + y.length ≤ SZ then .ok (.str (x ++ y)) M else .bad
 | .tup x,.tup y=>if x.length + y.length ≤ SZ then .ok (.tup (x ++ y)) M else .bad
 | .ref n,.ref m=>match M[n]?,M[m]? with
  | some (.lst x),some (.lst y)=>if x.length + y.length ≤ SZ then alloc (.lst (x ++ y)) M else .bad
  | _,_=>.bad
 | _,_=>.bad
end
@[simp] noncomputable def ZaJ (a b:D) (M:Store):R3 D:=match a,b with
 | .int i,.int j=>.ok (.int (i - j)) M
 | _,_=>.bad
section
local instance (priority:=100000) clP4 (p:Prop):Decidable p:=Classical.propDecidable p
noncomputable def Zc9 (i j:Int):Bool:=(decide (-(2 ^ 64) < i) && decide (i < 2 ^ 64)) || (decide (-(2 ^ 64) < j) && decide (j < 2 ^ 64))
end
section
local instance (priority:=100000) clP5 (p:Prop):Decidable p:=Classical.propDecidable p
@[simp] noncomputable def ZdT (a b:D) (M:Store):R3 D:=match a,b with
 | .int i,.int j=>if Zc9 i j then .ok (.int (i * j)) M else .bad
 | .str x,.int k=>if x.length * k.toNat ≤ SZ ∧ k < 1000000 ∧ -1000000 < k then .ok (.str (List.replicate k.toNat x).flatten) M else .bad
 | .ref n,.int k=>match M[n]? with
  | some (.lst x)=>if x.length * k.toNat ≤ SZ ∧ k < 1000000 ∧ -1000000 < k then alloc (.lst (List.replicate k.toNat x).flatten) M else .bad
  | _=>.bad
 | _,_=>.bad
end
@[simp] noncomputable def Zab (a b:D) (M:Store):R3 D:=match a,b with
 | .int i,.int j=>if 0 < j then .ok (.int (i % j)) M else .bad
 | _,_=>.bad
section
local instance (priority:=100000) clP6 (p:Prop):Decidable p:=Classical.propDecidable p
@[simp] noncomputable def Zaq (a b:D) (M:Store):R3 D:=match a,b with
 | .int i,.int j=>if 0 < j ∧ j < 1073741824 then .ok (.int (i / j)) M else .bad
 | _,_=>.bad
end
@[simp] noncomputable def Ze5 (a b:D) (M:Store):R3 D:=match a,b with
 | .int i,.int j=>if 0 ≤ j ∧ j ≤ 1000 ∧ i.natAbs < 1000 then .ok (.int (i ^ j.toNat)) M else .bad
 | _,_=>.bad
@[simp] noncomputable def Zb5 (a:D) (M:Store):R3 D:=match a with
 | .int i=>.ok (.int (-i)) M
 | _=>.bad
@[simp] noncomputable def ZcQ (a b:D) (M:Store):R3 D:=match a,b with
 | .int i,.int j=>.ok (.bl (decide (i < j))) M
 | _,_=>.bad
@[simp] noncomputable def Zdq (a b:D) (M:Store):R3 D:=match a,b with
 | .int i,.int j=>.ok (.bl (decide (j < i))) M
 | _,_=>.bad
@[simp] noncomputable def eqD (a b:D) (M:Store):Option Bool:=match a,b with
 | .ref n,.ref m=>match M[n]?,M[m]? with
  | some (.lst x),some (.lst y)=>if x.all (Zai DEEP) && y.all (Zai DEEP) then some (Zbn x y) else none
  | _,_=>none
 | .int i,.int j=>some (decide (i = j))
 | .str x,.str y=>some (decide (x = y))
 | .bl x,.bl y=>some (decide (x = y))
 | .tup x,.tup y=>if x.all (Zai DEEP) && y.all (Zai DEEP) then some (Zbn x y) else none
 | _,_=>none
@[simp] noncomputable def ZbG (a b:D) (M:Store):R3 D:=match eqD a b M with
 | some r=>.ok (.bl r) M
 | none=>.bad
@[simp] noncomputable def ZdQ (a b:D) (M:Store):R3 D:=match eqD a b M with
 | some r=>.ok (.bl (!r)) M
 | none=>.bad
noncomputable def Zem:D → Bool
 | .non=>true | .bl _=>true | .int _=>true | .str _=>true | _=>false
noncomputable def ixD (n:Nat) (i:Int):Option Nat:=if 0 ≤ i then (if i < n then some i.toNat else none) else if -(n:Int) ≤ i then some (i + n).toNat else none
noncomputable def Za9 {α:Type} (xs:List α) (i:Int):Option α:=(ixD xs.length i).bind fun j=>xs[j]?
@[simp] noncomputable def ZpE:D → Option Zb4
 | .int i=>some (.inl i)
 | .str x=>some (.inr x)
 | _=>none
noncomputable def Zlc:List (Zb4 × D) → Zb4 → Option D
 | [],_=>none
 | (k,v) :: r,x=>if k = x then some v else Zlc r x
section
local instance (priority:=100000) clP7 (p:Prop):Decidable p:=Classical.propDecidable p
@[simp] noncomputable def Zr (a b:D) (M:Store):R3 D:=match a,b with
 | .tup ds,.int i=>match Za9 ds i with
  | some d=>.ok d M
  | none=>.bad
 | .scr ds,.int i=>match Za9 ds i with
  | some d=>.ok d M
  | none=>.bad
 | .str x,.int i=>match Za9 x i with
  | some c=>if x.length ≤ SZ then .ok (.str [c]) M else .bad
  | none=>.bad
 | .ref n,.int i=>match M[n]? with
  | some (.lst ds)=>match Za9 ds i with
   | some d=>.ok d M
   | none=>.bad
  | _=>.bad
 | _,_=>.bad
end
@[simp] noncomputable def Zov:Option MO → Option (List (Zb4 × D))
 | some (.dct kvs)=>some kvs
 | some (.fdct kvs)=>some kvs
 | _=>none
@[simp] noncomputable def ZpD (a b:D) (M:Store):R3 D:=match a with
 | .ref n=>match Zov M[n]?,ZpE b with
  | some kvs,some x=>match Zlc kvs x with
   | some d=>.ok d M
   | none=>.bad
  | _,_=>.bad
 | _=>.bad
noncomputable def sIx (n d:Nat):Option Int → Nat
 | none=>d
 | some v=>if v < 0 then (v + (n:Int)).toNat else min v.toNat n
noncomputable def cutD {α:Type} (xs:List α) (lo hi:Option Int):List α:=(xs.drop (sIx xs.length 0 lo)).take (sIx xs.length xs.length hi - sIx xs.length 0 lo)
noncomputable abbrev EO3:=Zad → Store → R3 (Option Int)
@[simp] noncomputable def Zak:EO3:=fun _ M=>.ok none M
@[simp] noncomputable def Zx (f:E3):EO3:=fun env M=>(f env M).bind fun a M1=>match a with
 | .int i=>.ok (some i) M1
 | _=>.bad
section
local instance (priority:=100000) clP8 (p:Prop):Decidable p:=Classical.propDecidable p
@[simp] noncomputable def Zcg (a:D) (lo hi:Option Int) (M:Store):R3 D:=match a with
 | .tup ds=>.ok (.tup (cutD ds lo hi)) M
 | .scr ds=>alloc (.lst (cutD ds lo hi)) M
 | .str x=>if x.length ≤ SZ then .ok (.str (cutD x lo hi)) M else .bad
 | .ref n=>match M[n]? with
  | some (.lst ds)=>alloc (.lst (cutD ds lo hi)) M
  | _=>.bad
 | _=>.bad
end
@[simp] noncomputable def eSl (f:E3) (lo hi:EO3):E3:=fun env M=>(f env M).bind fun a M1=>(lo env M1).bind fun l M2=>(hi env M2).bind fun h M3=>Zcg a l h M3
section
local instance (priority:=100000) clP9 (p:Prop):Decidable p:=Classical.propDecidable p
@[simp] noncomputable def ZaD (ds:List D) (M:Store):R3 D:=match ds with
 | [.tup x]=>.ok (.int x.length) M
 | [.scr x]=>.ok (.int x.length) M
 | [.str x]=>if x.length ≤ SZ then .ok (.int x.length) M else .bad
 | [.ref n]=>match M[n]? with
  | some (.lst x)=>.ok (.int x.length) M
  | _=>.bad
 | _=>.bad
end
@[simp] noncomputable def Zbx (ds:List D) (M:Store):R3 D:=match ds with
 | [.tup x]=>.ok (.tup x) M
 | [.scr x]=>.ok (.tup x) M
 | [.ref n]=>match M[n]? with
  | some (.lst x)=>.ok (.tup x) M
  | _=>.bad
 | _=>.bad
@[simp] noncomputable def ZdU (ds:List D) (M:Store):R3 D:=match ds with
 | [.tup x]=>alloc (.lst x) M
 | [.scr x]=>alloc (.lst x) M
 | [.ref n]=>match M[n]? with
  | some (.lst x)=>alloc (.lst x) M
  | _=>.bad
 | _=>.bad
inductive Ty3 where
 | int | bool | str | list | tuple
 deriving DecidableEq
@[simp] noncomputable def Zf3 (T:Ty3) (d:D) (M:Store):Option Bool:=match d with
 | .non=>some false
 | .bl _=>some (T == .bool || T == .int)
 | .int _=>some (T == .int)
 | .str _=>some (T == .str)
 | .tup _=>some (T == .tuple)
 | .scr _=>none
 | .ref n=>match M[n]? with
  | some (.lst _)=>some (T == .list)
  | some (.dct _)=>some false
  | some (.fdct _)=>none
  | some (.ins _ _)=>none
  | none=>none
@[simp] noncomputable def ZcB (T:Ty3) (d:D) (M:Store):R3 D:=match Zf3 T d M with
 | some b=>.ok (.bl b) M
 | none=>.bad
noncomputable def isB:D → Bool
 | .bl _=>true
 | _=>false
noncomputable def isT:D → Bool
 | .bl b=>b
 | _=>false
noncomputable def allB (l:List D):Option Bool:=if l.all isB then some (l.all isT) else none
@[simp] noncomputable def Zp7 (ds:List D) (M:Store):R3 D:=match ds with
 | [.ref n]=>match M[n]? with
  | some (.lst x)=>match allB x with
   | some b=>.ok (.bl b) M
   | none=>.bad
  | _=>.bad
 | _=>.bad
section
local instance (priority:=100000) clP11 (p:Prop):Decidable p:=Classical.propDecidable p
@[simp] noncomputable def Zcb (o:D) (ds:List D) (M:Store):R3 D:=match o,ds with
 | .ref n,[d]=>match M[n]? with
  | some (.lst x)=>if x.length < SZ then .ok .non (M.set n (.lst (x ++ [d]))) else .bad
  | _=>.bad
 | _,_=>.bad
end
section
local instance (priority:=100000) clPp (p:Prop):Decidable p:=Classical.propDecidable p
end
@[simp] noncomputable def tyL (a:D) (M:Store):Bool:=match a with
 | .ref n=>match M[n]? with
  | some (.lst _)=>true
  | _=>false
 | _=>false
@[simp] noncomputable def Zez (ty:D → Store → Bool) (m:D → List D → Store → R3 D) (o:E3) (g:EL3):E3:=fun env M=>(o env M).bind fun a M1=>if ty a M1 then (g env M1).bind fun ds M2=>m a ds M2 else .bad
@[simp] noncomputable def Zas (b:List D → Store → R3 D) (g:EL3):E3:=fun env M=>(g env M).bind fun ds M1=>b ds M1
noncomputable def putD (k:Zb4) (v:D) (kvs:List (Zb4 × D)):List (Zb4 × D):=
 if (kvs.any fun p=>decide (p.1 = k)) = true then kvs.map (fun p=>if p.1 = k then (p.1,v) else p) else kvs ++ [(k,v)]
@[simp] noncomputable def e3 (op:D → D → D → Store → R3 D) (f g h:E3):E3:=fun env M=>(f env M).bind fun a M1=>(g env M1).bind fun b M2=>(h env M2).bind fun c M3=>op a b c M3
section
local instance (priority:=100000) clP12 (p:Prop):Decidable p:=Classical.propDecidable p
end
@[simp] noncomputable def ZhV (v a b:D) (M:Store):R3 D:=match a,b with
 | .ref n,.int i=>match M[n]? with
  | some (.lst xs)=>match ixD xs.length i with
   | some j=>.ok .non (M.set n (.lst (xs.set j v)))
   | none=>.bad
  | _=>.bad
 | _,_=>.bad
section
local instance (priority:=100000) clP13 (p:Prop):Decidable p:=Classical.propDecidable p
end
noncomputable def ltT:List D → List D → Option Bool
 | [],[]=>some false
 | [],_ :: _=>some true
 | _ :: _,[]=>some false
 | .int i :: x,.int j :: y=>if i = j then ltT x y else some (decide (i < j))
 | .str a :: x,.str b :: y=>if a = b then ltT x y else some (decide (a < b))
 | _ :: _,_ :: _=>none
noncomputable def ltD:D → D → Option Bool
 | .tup a,.tup b=>ltT a b
 | .int i,.int j=>some (decide (i < j))
 | _,_=>none
noncomputable def leD (a b:D):Prop:=ltD b a = some false
noncomputable def Zfs (x y:List D):Prop:=y.Perm x ∧ y.Pairwise leD
noncomputable def ZcI:D → Bool
 | .tup (.int _ :: _)=>true
 | _=>false
noncomputable def Zd1:D → Bool
 | .int _=>true
 | _=>false
structure ZjK (x:List D):Prop where
 len:x.length < 64
 kind:x.all ZcI = true ∨ x.all Zd1 = true
 cmp:∀ a ∈ x,∀ b ∈ x,(ltD a b).isSome = true
section
local instance (priority:=100000) clPs (p:Prop):Decidable p:=Classical.propDecidable p
noncomputable def Zgi (x:List D):List D:=if h:∃ y,Zfs x y then h.choose else x
@[simp] noncomputable def Zcw (ds:List D) (M:Store):R3 D:=match ds with
 | [.ref n]=>match M[n]? with
  | some (.lst x)=>if ZjK x then alloc (.lst (Zgi x)) M else .bad
  | _=>.bad
 | _=>.bad
end
noncomputable def Zam:S3:=fun env M=>.nx env M
noncomputable def Zw (f g:S3):S3:=fun env M=>match f env M with
 | .nx env' M'=>g env' M'
 | o=>o
noncomputable def sIf (c:E3) (f g:S3):S3:=fun env M=>match c env M with
 | .ok (.bl true) M1=>f env M1
 | .ok (.bl false) M1=>g env M1
 | .exc x M1=>.exc x M1
 | _=>.bad
noncomputable def ZaF (f:E3):S3:=fun env M=>match f env M with
 | .ok d M1=>.rt d M1
 | .exc x M1=>.exc x M1
 | .bad=>.bad
noncomputable def ZaS (f:E3):S3:=fun env M=>match f env M with
 | .ok _ M1=>.nx env M1
 | .exc x M1=>.exc x M1
 | .bad=>.bad
noncomputable def Zal (i:Nat) (f:E3):S3:=fun env M=>match f env M with
 | .ok d M1=>.nx (env.set i (some d)) M1
 | .exc x M1=>.exc x M1
 | .bad=>.bad
noncomputable def Zco (o i f:E3):S3:=ZaS (e3 ZhV f o i)
noncomputable abbrev G3:=D → Zad → Option Zad
@[simp] noncomputable def Zbt (i:Nat):G3:=fun d env=>some (env.set i (some d))
@[simp] noncomputable def bindAll:List Nat → List D → Zad → Option Zad
 | [],[],env=>some env
 | i :: is,d :: ds,env=>bindAll is ds (env.set i (some d))
 | _,_,_=>none
@[simp] noncomputable def ZfG (is:List Nat):G3:=fun d env=>match d with
 | .tup ds=>bindAll is ds env
 | _=>none
structure It3 where
 items:List D
 lock:Option Nat
noncomputable abbrev I3:=Zad → Store → R3 It3
section
local instance (priority:=100000) clP14 (p:Prop):Decidable p:=Classical.propDecidable p
@[simp] noncomputable def ZfS (f:E3):I3:=fun env M=>(f env M).bind fun a M1=>match a with
 | .tup ds=>.ok ⟨ds,none⟩ M1
 | .scr ds=>.ok ⟨ds,none⟩ M1
 | .str x=>if x.length ≤ SZ then .ok ⟨x.map fun c=>.str [c],none⟩ M1 else .bad
 | .ref n=>match M1[n]? with
  | some (.lst ds)=>.ok ⟨ds,some n⟩ M1
  | _=>.bad
 | _=>.bad
end
noncomputable def Zdr (lo:Int) (n:Nat):List D:=(List.range n).map fun (k:Nat)=>D.int (lo + (k:Int))
section
local instance (priority:=100000) clP15 (p:Prop):Decidable p:=Classical.propDecidable p
@[simp] noncomputable def ZcP (f:E3):I3:=fun env M=>(f env M).bind fun a M1=>match a with
 | .int j=>if j ≤ 1000000 ∧ -1000000 ≤ j then .ok ⟨Zdr 0 j.toNat,none⟩ M1 else .bad
 | _=>.bad
end
section
local instance (priority:=100000) clP16 (p:Prop):Decidable p:=Classical.propDecidable p
end
noncomputable def locked (it:It3) (M:Store):Bool:=match it.lock with
 | none=>true
 | some n=>decide (M[n]? = some (.lst it.items))
noncomputable def Zaw (it:It3) (g:G3) (body:S3):List D → Zad → Store → O3
 | [],env,M=>if locked it M then .nx env M else .bad
 | d :: ds,env,M=>if locked it M then match g d env with
  | none=>.bad
  | some env1=>match body env1 M with
   | .nx e M'=>Zaw it g body ds e M'
   | .ct e M'=>Zaw it g body ds e M'
   | .bk e M'=>.nx e M'
   | o=>o
  else .bad
noncomputable def Zfo (i:I3) (g:G3) (body:S3):S3:=fun env M=>match i env M with
 | .ok it M1=>Zaw it g body it.items env M1
 | .exc x M1=>.exc x M1
 | .bad=>.bad
noncomputable def Zen:List E3 → Zad → Store → R3 Bool
 | [],_,M=>.ok true M
 | c :: cs,env,M=>(c env M).bind fun a M1=>match a with
  | .bl true=>Zen cs env M1
  | .bl false=>.ok false M1
  | _=>.bad
section
local instance (priority:=100000) clP17 (p:Prop):Decidable p:=Classical.propDecidable p
noncomputable def Zjx (it:It3) (g:G3) (ifs:List E3) (elt:E3) (n:Nat):List D → Zad → Store → R3 D
 | [],_,M=>if locked it M then .ok (.ref n) M else .bad
 | d :: ds,env,M=>if locked it M then match g d env with
  | none=>.bad
  | some env1=>(Zen ifs env1 M).bind fun b M1=>if b then (elt env1 M1).bind fun e M2=>match M2[n]? with
    | some (.lst x)=>if x.length < SZ then Zjx it g ifs elt n ds env1 (M2.set n (.lst (x ++ [e]))) else .bad
    | _=>.bad
   else Zjx it g ifs elt n ds env1 M1
  else .bad
end
noncomputable def ZeP (n:Nat):MO → Bool
 | .lst xs=>belowL n xs
 | .dct kvs=>belowL n (kvs.map (·.2))
 | .fdct kvs=>belowL n (kvs.map (·.2))
 | .ins _ fs=>belowL n (fs.map (·.2))
noncomputable def ZbU (M:Store) (d:D) (M':Store):R3 D:=
 if below M.length d && (decide (M'.take M.length = M) || (M'.take M.length).all (ZeP M.length)) then .ok d (M'.take M.length) else .ok d M'
noncomputable def mkF (ps n:Nat) (body:S3):F3:=fun ds M=>if ds.length = ps then match body (ds.map some ++ List.replicate (n - ps) none) M with
  | .nx _ M'=>ZbU M .non M'
  | .rt d M'=>ZbU M d M'
  | .exc x M'=>.exc x M'
  | _=>.bad
 else .bad
end
theorem ZfZ:∀ (a b:List D),ltT a b = some true → ltT b a = some false
 | [],[],h=>by simp [ltT] at h
 | [],_ :: _,_=>by simp [ltT]
 | _ :: _,[],h=>by simp [ltT] at h
 | .int i :: x,.int j :: y,h=>by
  simp only [ltT] at h ⊢
  by_cases e:i = j
  ·subst e; simp only [if_true] at h ⊢; exact ZfZ x y h
  ·rw [if_neg e] at h
   rw [if_neg (Ne.symm e)]
   simp only [Option.some.injEq,decide_eq_true_eq,decide_eq_false_iff_not] at h ⊢
   exact fun z=>iN [] [_,_] 2 25796087953 T1 z h
 | .str p :: x,.str q :: y,h=>by
  simp only [ltT] at h ⊢
  by_cases e:p = q
  ·subst e; simp only [if_true] at h ⊢; exact ZfZ x y h
  ·rw [if_neg e] at h
   rw [if_neg (Ne.symm e)]
   simp only [Option.some.injEq,decide_eq_true_eq,decide_eq_false_iff_not] at h ⊢
   exact fun z=>List.lt_irrefl _ (List.lt_trans h z)
 | .non :: _,_ :: _,h=>by simp [ltT] at h
 | .bl _ :: _,_ :: _,h=>by simp [ltT] at h
 | .tup _ :: _,_ :: _,h=>by simp [ltT] at h
 | .scr _ :: _,_ :: _,h=>by simp [ltT] at h
 | .ref _ :: _,_ :: _,h=>by simp [ltT] at h
 | .int _ :: _,.non :: _,h=>by simp [ltT] at h
 | .int _ :: _,.bl _ :: _,h=>by simp [ltT] at h
 | .int _ :: _,.str _ :: _,h=>by simp [ltT] at h
 | .int _ :: _,.tup _ :: _,h=>by simp [ltT] at h
 | .int _ :: _,.scr _ :: _,h=>by simp [ltT] at h
 | .int _ :: _,.ref _ :: _,h=>by simp [ltT] at h
 | .str _ :: _,.non :: _,h=>by simp [ltT] at h
 | .str _ :: _,.bl _ :: _,h=>by simp [ltT] at h
 | .str _ :: _,.int _ :: _,h=>by simp [ltT] at h
 | .str _ :: _,.tup _ :: _,h=>by simp [ltT] at h
 | .str _ :: _,.scr _ :: _,h=>by simp [ltT] at h
 | .str _ :: _,.ref _ :: _,h=>by simp [ltT] at h
theorem ZcO {p:Prop} {b:Bool} (h:(none:Option Bool) = some b):p:=by cases h
theorem Zc0 {d e:D} {x y:List D} {r:Bool} (h:ltT (d :: x) (e :: y) = some r):(∃ i j,d = .int i ∧ e = .int j) ∨ ∃ i j,d = .str i ∧ e = .str j:=by
 cases d with
 | int i=>cases e with
  | int j=>exact .inl ⟨_,_,rfl,rfl⟩
  | _=>exact ZcO h
 | str i=>cases e with
  | str j=>exact .inr ⟨_,_,rfl,rfl⟩
  | _=>exact ZcO h
 | _=>cases e <;> exact ZcO h
theorem ZhT:∀ (a b c:List D),ltT b a = some false → ltT c b = some false → ltT c a = some false
 | [],b,c,h1,h2=>by cases c <;> simp [ltT]
 | _ :: _,[],c,h1,h2=>by simp [ltT] at h1
 | _ :: _,_ :: _,[],h1,h2=>by simp [ltT] at h2
 | d :: x,e :: y,f :: z,h1,h2=>by
  rcases Zc0 h1 with ⟨j,i,rfl,rfl⟩ | ⟨j,i,rfl,rfl⟩
  ·rcases Zc0 h2 with ⟨k,j',rfl,e⟩ | ⟨k,j',rfl,e⟩
   ·cases e
    simp only [ltT] at h1 h2 ⊢
    by_cases e1:j = i
    ·subst e1
     simp only [if_true] at h1
     by_cases e2:k = j
     ·subst e2; simp only [if_true] at h2 ⊢; exact ZhT x y z h1 h2
     ·rw [if_neg e2] at h2 ⊢; exact h2
    ·rw [if_neg e1] at h1
     by_cases e2:k = j
     ·subst e2; rw [if_neg e1]; exact h1
     ·rw [if_neg e2] at h2
      simp only [Option.some.injEq,decide_eq_false_iff_not] at h1 h2
      rw [if_neg (by exact fun z=>iN [] [_,_] 2 26047746257 T1 h1 (Int.lt_iff_le_and_ne.2 ⟨(iN [] [_,_,_] 2 1271860891809 T1 z h2),e1⟩))]
      simp only [Option.some.injEq,decide_eq_false_iff_not]; exact fun z=>iN [] [_,_,_] 3 0x612d120d11091 T1 z h2 h1
   ·cases e
  ·rcases Zc0 h2 with ⟨k,j',rfl,e⟩ | ⟨k,j',rfl,e⟩
   ·cases e
   ·cases e
    simp only [ltT] at h1 h2 ⊢
    by_cases e1:j = i
    ·subst e1
     simp only [if_true] at h1
     by_cases e2:k = j
     ·subst e2; simp only [if_true] at h2 ⊢; exact ZhT x y z h1 h2
     ·rw [if_neg e2] at h2 ⊢; exact h2
    ·rw [if_neg e1] at h1
     by_cases e2:k = j
     ·subst e2; rw [if_neg e1]; exact h1
     ·rw [if_neg e2] at h2
      simp only [Option.some.injEq,decide_eq_false_iff_not,List.not_lt] at h1 h2
      have h3:i ≤ k:=List.le_trans h1 h2
      have ne:k ≠ i:=fun z=>by subst z; exact e1 (List.le_antisymm h2 h1)
      rw [if_neg ne]
      simp only [Option.some.injEq,decide_eq_false_iff_not,List.not_lt]; exact h3
theorem ZfD:∀ (a b:List D),ltT a b = some false → ltT b a = some false → a = b
 | [],[],_,_=>rfl
 | [],_ :: _,h,_=>by simp [ltT] at h
 | _ :: _,[],_,h=>by simp [ltT] at h
 | d :: x,e :: y,h1,h2=>by
  rcases Zc0 h1 with ⟨i,j,rfl,rfl⟩ | ⟨i,j,rfl,rfl⟩
  ·simp only [ltT] at h1 h2
   by_cases e1:i = j
   ·subst e1; simp only [if_true] at h1 h2; rw [ZfD x y h1 h2]
   ·rw [if_neg e1] at h1
    rw [if_neg (Ne.symm e1)] at h2
    simp only [Option.some.injEq,decide_eq_false_iff_not] at h1 h2
    exact (iN [] [_,_] 2 26047746257 T1 h1 (Int.lt_iff_le_and_ne.2 ⟨(Int.not_lt.1 h2),e1⟩)).elim
  ·simp only [ltT] at h1 h2
   by_cases e1:i = j
   ·subst e1; simp only [if_true] at h1 h2; rw [ZfD x y h1 h2]
   ·rw [if_neg e1] at h1
    rw [if_neg (Ne.symm e1)] at h2
    simp only [Option.some.injEq,decide_eq_false_iff_not,List.not_lt] at h1 h2
    exact absurd (List.le_antisymm h2 h1) e1
theorem Zhh {a b:D} (h:ltD a b = some true):ltD b a = some false:=by
 cases a with
 | int i=>cases b with
  | int j=>
   simp only [ltD,Option.some.injEq,decide_eq_true_eq,decide_eq_false_iff_not] at h ⊢; exact fun z=>iN [] [_,_] 2 25796087953 T1 z h
  | _=>exact ZcO h
 | tup x=>cases b with
  | tup y=>exact ZfZ _ _ h
  | _=>exact ZcO h
 | _=>exact ZcO h
theorem ZmC {a b c:D} (h1:ltD b a = some false) (h2:ltD c b = some false):ltD c a = some false:=by
 cases b with
 | int j=>cases a with
  | int i=>cases c with
   | int k=>
    simp only [ltD,Option.some.injEq,decide_eq_false_iff_not] at h1 h2 ⊢; exact fun z=>iN [] [_,_,_] 3 0x612d120d11091 T1 z h2 h1
   | _=>exact ZcO h2
  | _=>exact ZcO h1
 | tup y=>cases a with
  | tup x=>cases c with
   | tup z=>exact ZhT _ _ _ h1 h2
   | _=>exact ZcO h2
  | _=>exact ZcO h1
 | _=>exact ZcO h1
theorem ZjJ {a b:D} (h1:ltD a b = some false) (h2:ltD b a = some false):a = b:=by
 cases a with
 | int i=>cases b with
  | int j=>
   simp only [ltD,Option.some.injEq,decide_eq_false_iff_not] at h1 h2; rw [show i = j by exact Int.le_antisymm (Int.not_lt.1 h2) (Int.not_lt.1 h1)]
  | _=>exact ZcO h1
 | tup x=>cases b with
  | tup y=>rw [ZfD _ _ h1 h2]
  | _=>exact ZcO h1
 | _=>exact ZcO h1
theorem Zgx:∀ {x y:List D},y.Perm x → x.Pairwise leD → y.Pairwise leD → y = x
 | [],y,p,_,_=>p.eq_nil
 | a :: x,y,p,hx,hy=>by
  cases y with
  | nil=>exact (p.symm.eq_nil).symm ▸ rfl
  | cons b y=>
   have hx':=List.pairwise_cons.mp hx
   have hy':=List.pairwise_cons.mp hy
   have e:b = a:=by
    rcases List.mem_cons.mp (p.mem_iff.mp List.mem_cons_self) with h | h
    ·exact h
    ·rcases List.mem_cons.mp (p.mem_iff.mpr (List.mem_cons_self (a:=a) (l:=x))) with h' | h'
     ·exact h'.symm
     ·exact ZjJ (hx'.1 b h) (hy'.1 a h')
   subst e
   rw [Zgx (List.Perm.cons_inv p) hx'.2 hy'.2]
theorem Zkl {x y:List D} (h:Zfs x y):Zgi x = y:=by
 unfold Zgi
 rw [dif_pos ⟨y,h⟩]
 have hc:=Exists.choose_spec (⟨y,h⟩:∃ y,Zfs x y)
 exact Zgx (hc.1.trans h.1.symm) h.2 hc.2
end L3
namespace L3
theorem Zeq {it:It3} {g:G3} {body:S3} {P:Nat → Zad → Store → Prop}:∀ (ds:List D) (j:Nat) (env:Zad) (M:Store),P j env M → (∀ j env M,P j env M → locked it M = true) →
  (∀ (k:Nat) d,ds[k]? = some d → ∀ env M,P (j + k) env M → ∃ env1 e' M',g d env = some env1 ∧ body env1 M = .nx e' M' ∧ P (j + k + 1) e' M') → ∃ e' M',Zaw it g body ds env M = .nx e' M' ∧ P (j + ds.length) e' M':=by
 intro ds
 induction ds with
 | nil=>intro j env M p hl _; exact ⟨env,M,by simp only [Zaw,hl j env M p,if_true],p⟩
 | cons d ds ih=>
  intro j env M p hl hs
  obtain ⟨env1,e',M',h1,h2,p'⟩:=hs 0 d rfl env M p
  obtain ⟨e2,M2,h3,p2⟩:=ih (j + 1) e' M' p' hl fun k d' hd' env M p=>by
   have:=hs (k + 1) d' (by simpa using hd') env M (by rw [show j + (k + 1) = j + 1 + k by exact Nat.le_antisymm (lB 0 1790139547840 T1) (lB 0 0xa1c0c1a0cc0 T1)]; exact p)
   rw [show j + (k + 1) + 1 = j + 1 + k + 1 by exact Nat.le_antisymm (lB 0 0xa1a0cccaa1c0cc0 T1) (lB 0 0xaa1c0cca1a0ccc0 T1)] at this
   exact this
  exact ⟨e2,M2,by simp only [Zaw,hl j env M p,if_true,h1,h2,h3],by rw [List.length_cons,show j + (ds.length + 1) = j + 1 + ds.length by exact Nat.le_antisymm (lB 0 1790139547840 T1) (lB 0 0xa1c0c1a0cc0 T1)]; exact p2⟩
theorem Zk {f g:S3} {env env':Zad} {M M':Store} (h:f env M = .nx env' M'):Zw f g env M = g env' M':=by rw [Zw,h]
theorem ZdM {f g:S3} {env:Zad} {M M':Store} {d:D} (h:f env M = .rt d M'):Zw f g env M = .rt d M':=by rw [Zw,h]
theorem Zda {c:E3} {f g:S3} {env:Zad} {M M':Store} (h:c env M = .ok (.bl true) M'):sIf c f g env M = f env M':=by rw [sIf,h]
theorem Zdz {c:E3} {f g:S3} {env:Zad} {M M':Store} (h:c env M = .ok (.bl false) M'):sIf c f g env M = g env M':=by rw [sIf,h]
theorem Za0 {f:E3} {env:Zad} {M M':Store} {d:D} (h:f env M = .ok d M'):ZaF f env M = .rt d M':=by rw [ZaF,h]
theorem Zaj {f:E3} {i:Nat} {env env':Zad} {M M':Store} {d:D} (h:f env M = .ok d M') (he:env.set i (some d) = env':=by first | (dsimp only [List.set_cons_succ,List.set_cons_zero] <;> exact rfl) | exact rfl):Zal i f env M = .nx env' M':=by rw [Zal,h]; simp only [he]
theorem Zbe {c:E3} {f:S3} {env:Zad} {M M':Store} (h:c env M = .ok (.bl false) M'):sIf c f Zam env M = .nx env M':=by rw [sIf,h]; rfl
theorem ZcF {f:E3} {env:Zad} {M M':Store} {d:D} (h:f env M = .ok d M'):ZaS f env M = .nx env M':=by rw [ZaS,h]
theorem ZdL {i:I3} {g:G3} {u:S3} {env:Zad} {M M':Store} {it:It3} (h:i env M = .ok it M'):Zfo i g u env M = Zaw it g u it.items env M':=by rw [Zfo,h]
theorem Zbq {ps n:Nat} {body:S3} {ds:List D} {env:Zad} {M M':Store} {d:D} (h:body env M = .rt d M') (hl:ds.length = ps:=by rfl) (he:ds.map some ++ List.replicate (n - ps) none = env:=by rfl):mkF ps n body ds M = ZbU M d M':=by rw [mkF,if_pos hl,he,h]
theorem Znx {ps n:Nat} {body:S3} {ds:List D} {env env':Zad} {M M':Store} (h:body env M = .nx env' M') (hl:ds.length = ps:=by rfl) (he:ds.map some ++ List.replicate (n - ps) none = env:=by rfl):mkF ps n body ds M = ZbU M .non M':=by rw [mkF,if_pos hl,he,h]
theorem Zko {M G:Store} {d:D} (h:below M.length d = true):ZbU M d (M ++ G) = .ok d M:=by
 simp [ZbU,h]
theorem ZiW {M:Store} {d:D} (h:below M.length d = true):ZbU M d M = .ok d M:=by
 simp [ZbU,h]
end L3
namespace L3
theorem Zah {α:Type} (M:List α) (x:α) (xs:List α):(M ++ x :: xs)[M.length]? = some x:=by simp
theorem ZbD {α:Type} (M xs:List α) (k:Nat):(M ++ xs)[M.length + k]? = xs[k]?:=by
 rw [List.getElem?_append_right (Nat.le_add_right _ _)]; congr 1; exact Nat.le_antisymm (lC 1 2199589555233 T1 (Nat.sub_add_cancel (Nat.le_add_right _ _))) (lC 1 2267788938241 T1 (sbA _ _))
theorem Zk4 {α:Type} (M xs:List α) (k:Nat) (o:α):(M ++ xs).set (M.length + k) o = M ++ xs.set k o:=by
 rw [List.set_append_right _ _ (Nat.le_add_right _ _)]; congr 2; exact Nat.le_antisymm (lC 1 2199589555233 T1 (Nat.sub_add_cancel (Nat.le_add_right _ _))) (lC 1 2267788938241 T1 (sbA _ _))
theorem Zaf {α:Type} {M:List α} {n:Nat} {o:α} (h:M[n]? = some o) (xs:List α):(M ++ xs)[n]? = some o:=by
 rw [List.getElem?_append_left (List.getElem?_eq_some_iff.mp h).1,h]
theorem ZbB {α:Type} (xs:List α) (k:Nat):Za9 xs (k:Int) = xs[k]?:=by
 unfold Za9 ixD
 rw [if_pos (Int.natCast_nonneg k)]
 by_cases h:k < xs.length
 ·rw [if_pos (Int.ofNat_lt.2 h)]; simp
 ·rw [if_neg (by exact fun z=>iN [_,_] [] 2 6667149772945 T1 z h)]; simp at h ⊢; exact h
@[simp] theorem Zjg {α:Type} (xs:List α) (k:Nat):Za9 xs (k:Int) = xs[k]?:=ZbB xs k
@[simp] theorem Zow {α:Type} (xs:List α) (n:Nat):Za9 xs (no_index (OfNat.ofNat n:Int)) = xs[(OfNat.ofNat n:Nat)]?:=ZbB xs n
@[simp] theorem ZeU {α:Type} (xs:List α):Za9 xs (-1) = xs.getLast?:=by
 unfold Za9 ixD
 rw [if_neg (by decide),List.getLast?_eq_getElem?]
 by_cases h:0 < xs.length
 ·rw [if_pos (by exact iN [_] [] 1 725993655825 T1 h)]
  simp only [Option.bind_some]
  congr 1; exact Nat.le_antisymm (iN [_,_,_] [] 2 0x200a2c10118a9c08a1 T1 (Int.toNat_of_nonneg (iN [_] [] 1 595337940497 T1 h)) (sbA _ _)) (iN [_,_,_] [] 2 0x1200a2c211808a9c81 T1 (Int.self_le_toNat _) (Nat.sub_add_cancel (lA 1 10489361 T1 h)))
 ·have:xs = []:=by simpa using h
  subst this; rfl
theorem ZgV (n k:Nat):ixD n (k:Int) = if k < n then some k else none:=by
 unfold ixD
 rw [if_pos (Int.natCast_nonneg k)]
 by_cases h:k < n
 ·rw [if_pos (Int.ofNat_lt.2 h),if_pos h]; simp
 ·rw [if_neg (by exact fun z=>iN [_,_] [] 2 6667149772945 T1 z h),if_neg h]
@[simp] theorem Zoa (n k:Nat):ixD n (k:Int) = if k < n then some k else none:=ZgV n k
@[simp] theorem ZoR (m n:Nat):ixD m (no_index (OfNat.ofNat n:Int)) = if (OfNat.ofNat n:Nat) < m then some (OfNat.ofNat n:Nat) else none:=ZgV m n
inductive Row where
 | put (a:Nat) (n:Int) | add (a b c:Nat) | sub (a b c:Nat) | more (a b c:Nat) | get (a b:Nat) | set (a b:Nat) | jump (k:Nat) | when (a k:Nat) | tell (a:Nat) | halt
 deriving Inhabited
noncomputable def Row.ok (many:Nat):Row → Prop
 | .put a _=>a < 8
 | .add a b c=>a < 8 ∧ b < 8 ∧ c < 8
 | .sub a b c=>a < 8 ∧ b < 8 ∧ c < 8
 | .more a b c=>a < 8 ∧ b < 8 ∧ c < 8
 | .get a b=>a < 8 ∧ b < 8
 | .set a b=>a < 8 ∧ b < 8
 | .jump k=>k < many
 | .when a k=>a < 8 ∧ k < many
 | .tell a=>a < 8
 | .halt=>True
noncomputable abbrev Zpm:=List Row
structure Stt where
 place:Nat
 boxes:List Int
 cells:List (Int × Int)
 deriving Inhabited,DecidableEq
noncomputable def Stt.ok (r:Zpm) (s:Stt):Prop:=s.place < r.length ∧ s.boxes.length = 8
noncomputable def Row.tells (bs:List Int):Row → Option Int
 | .tell a=>bs[a]?
 | _=>none
noncomputable def Row.isHalt:Row → Bool
 | .halt=>true
 | _=>false
@[simp] theorem ZnO {a:Nat} {n:Int} {bs:List Int}:(Row.put a n).tells bs = none:=rfl
@[simp] theorem ZnH {a:Nat} {n:Int}:(Row.put a n).isHalt = false:=rfl
@[simp] theorem ZnS {a:Nat} {b:Nat} {c:Nat} {bs:List Int}:(Row.add a b c).tells bs = none:=rfl
@[simp] theorem ZmU {a:Nat} {b:Nat} {c:Nat}:(Row.add a b c).isHalt = false:=rfl
@[simp] theorem ZnP {a:Nat} {b:Nat} {c:Nat} {bs:List Int}:(Row.sub a b c).tells bs = none:=rfl
@[simp] theorem ZmP {a:Nat} {b:Nat} {c:Nat}:(Row.sub a b c).isHalt = false:=rfl
@[simp] theorem Zm5 {a:Nat} {b:Nat} {c:Nat} {bs:List Int}:(Row.more a b c).tells bs = none:=rfl
@[simp] theorem Zme {a:Nat} {b:Nat} {c:Nat}:(Row.more a b c).isHalt = false:=rfl
@[simp] theorem ZnT {a:Nat} {b:Nat} {bs:List Int}:(Row.get a b).tells bs = none:=rfl
@[simp] theorem Zmh {a:Nat} {b:Nat}:(Row.get a b).isHalt = false:=rfl
@[simp] theorem ZnN {a:Nat} {b:Nat} {bs:List Int}:(Row.set a b).tells bs = none:=rfl
@[simp] theorem Znr {a:Nat} {b:Nat}:(Row.set a b).isHalt = false:=rfl
@[simp] theorem ZnG {k:Nat} {bs:List Int}:(Row.jump k).tells bs = none:=rfl
@[simp] theorem ZlO {k:Nat}:(Row.jump k).isHalt = false:=rfl
@[simp] theorem Zm2 {a:Nat} {k:Nat} {bs:List Int}:(Row.when a k).tells bs = none:=rfl
@[simp] theorem ZlY {a:Nat} {k:Nat}:(Row.when a k).isHalt = false:=rfl
@[simp] theorem ZmQ {a:Nat} {bs:List Int}:(Row.tell a).tells bs = bs[a]?:=rfl
@[simp] theorem ZlW {a:Nat}:(Row.tell a).isHalt = false:=rfl
@[simp] theorem ZmF  {bs:List Int}:(Row.halt).tells bs = none:=rfl
@[simp] theorem ZlT :(Row.halt).isHalt = true:=rfl
theorem Zfq (n:Nat) (i:Int):Zai n (.int i) = true:=by cases n <;> rfl
mutual
theorem Zjc:∀ (n:Nat) (d:D),Zai n d = true → deq d d = true
 | _,.non,_=>rfl
 | _,.bl _,_=>by simp [deq]
 | _,.int _,_=>by simp [deq]
 | _,.str _,_=>by simp [deq]
 | 0,.tup _,h=>by simp [Zai] at h
 | n + 1,.tup ds,h=>by simp only [deq]; exact Zd0 n ds (by simpa [Zai] using h)
 | _,.scr _,h=>by simp [Zai] at h
 | _,.ref _,h=>by simp [Zai] at h
theorem Zd0:∀ (n:Nat) (ds:List D),(∀ d ∈ ds,Zai n d = true) → Zbn ds ds = true
 | _,[],_=>rfl
 | n,d :: ds,h=>by
  simp only [Zbn,Bool.and_eq_true]
  exact ⟨Zjc n d (h d List.mem_cons_self),Zd0 n ds fun x hx=>h x (List.mem_cons_of_mem _ hx)⟩
end
theorem Zgz {ds:List D} (h:ds.all (Zai DEEP) = true):Zbn ds ds = true:=Zd0 DEEP ds (by simpa using h)
end L3
namespace L3
noncomputable def Rt (o:O3) (d:D):Prop:=∃ M',o = .rt d M'
theorem Rt.set {i:Nat} {f:E3} {g:S3} {env env':Zad} {M M':Store} {d r:D} (h:f env M = .ok d M') (k:Rt (g env' M') r) (he:env.set i (some d) = env':=by first | (dsimp only [List.set_cons_succ,List.set_cons_zero] <;> exact rfl) | exact rfl):Rt (Zw (Zal i f) g env M) r:=by
 rw [Rt,Zk (Zaj h he)]; exact k
theorem Rt.skip {c:E3} {u g:S3} {env:Zad} {M M':Store} {r:D} (h:c env M = .ok (.bl false) M') (k:Rt (g env M') r):Rt (Zw (sIf c u Zam) g env M) r:=by
 rw [Rt,Zk (Zbe h)]; exact k
theorem Rt.loop {i:I3} {t:G3} {u g:S3} {env env':Zad} {M M' M1:Store} {it:It3} {r:D} (h:i env M = .ok it M1) (hl:Zaw it t u it.items env M1 = .nx env' M') (k:Rt (g env' M') r):Rt (Zw (Zfo i t u) g env M) r:=by
 rw [Rt,Zk ((ZdL h).trans hl)]; exact k
theorem Rt.ret {f:E3} {env:Zad} {M M':Store} {d:D} (h:f env M = .ok d M'):Rt (ZaF f env M) d:=⟨M',Za0 h⟩
theorem Rt.law {ps n:Nat} {body:S3} {ds:List D} {env:Zad} {b:Bool} (h:Rt (body env []) (.bl b)) (hl:ds.length = ps:=by rfl) (he:ds.map some ++ List.replicate (n - ps) none = env:=by rfl):∃ M',mkF ps n body ds [] = .ok (.bl b) M':=by
 obtain ⟨M',h⟩:=h
 exact ⟨_,(Zbq h hl he).trans (by rw [ZbU,if_pos (by simp [below])])⟩
theorem Rt.pure {ps n:Nat} {body:S3} {ds:List D} {env:Zad} {M G:Store} {d:D} (h:body env M = .rt d (M ++ G)) (hd:below M.length d = true) (hl:ds.length = ps:=by rfl) (he:ds.map some ++ List.replicate (n - ps) none = env:=by rfl):mkF ps n body ds M = .ok d M:=
 (Zbq h hl he).trans (Zko hd)
theorem ZlG {n:Nat} {lo:Int} {j:Nat} {d:D} (h:(Zdr lo n)[j]? = some d):d = .int (lo + j) ∧ j < n:=by
 unfold Zdr at h
 rw [List.getElem?_map] at h
 cases q:(List.range n)[j]? with
 | none=>rw [q] at h; cases h
 | some k=>
  rw [q] at h
  obtain ⟨hi,e⟩:=List.getElem?_eq_some_iff.mp q
  rw [List.getElem_range] at e
  subst e
  simp at h hi
  exact ⟨h.symm,hi⟩
theorem Zfr {n:Nat} {j:Nat} {d:D} (h:(Zdr 0 n)[j]? = some d):d = .int (j:Int) ∧ j < n:=by
 obtain ⟨e,l⟩:=ZlG h
 exact ⟨by rw [e,Int.zero_add],l⟩
theorem ZiB (lo:Int) (n:Nat):(Zdr lo n).length = n:=by simp [Zdr]
end L3
namespace L3
theorem ZeN {o arg:E3} {env:Zad} {M M2:Store} {n:Nat} {xs ys:List D} {d:D} (ho:o env M = .ok (.ref n) M) (hM:M[n]? = some (.lst xs)) (ha:arg env M = .ok d M2) (hM2:M2[n]? = some (.lst ys)) (hz:ys.length < 1000000):
  Zez tyL Zcb o (Za arg Ze) env M = .ok .non (M2.set n (.lst (ys ++ [d]))):=by
 simp [ho,hM,ha,hM2,hz]
theorem Zm {op:D → D → Store → R3 D} {f g:E3} {env:Zad} {M M1 M2 M3:Store} {a b d:D} (h1:f env M = .ok a M1) (h2:g env M1 = .ok b M2) (h3:op a b M2 = .ok d M3):e2 op f g env M = .ok d M3:=by
 simp only [e2,h1,h2,h3,R3.bind]
theorem ZcU {F:F3} {f:E3} {env:Zad} {M M1 M2:Store} {a d:D} (h1:f env M = .ok a M1) (h2:F [a] M1 = .ok d M2):Zt F (Za f Ze) env M = .ok d M2:=by
 simp only [Zt,Za,Ze,h1,h2,R3.bind]
theorem ZfV {F:F3} {f g:E3} {env:Zad} {M M1 M2 M3:Store} {a b d:D} (h1:f env M = .ok a M1) (h2:g env M1 = .ok b M2) (h3:F [a,b] M2 = .ok d M3):Zt F (Za f (Za g Ze)) env M = .ok d M3:=by
 simp only [Zt,Za,Ze,h1,h2,h3,R3.bind]
theorem ZfO {F:F3} {f g h:E3} {env:Zad} {M M1 M2 M3 M4:Store} {a b c d:D} (h1:f env M = .ok a M1) (h2:g env M1 = .ok b M2) (h3:h env M2 = .ok c M3) (h4:F [a,b,c] M3 = .ok d M4):Zt F (Za f (Za g (Za h Ze))) env M = .ok d M4:=by
 simp only [Zt,Za,Ze,h1,h2,h3,h4,R3.bind]
@[simp] theorem Zpq (a b:Ty3):(a == b) = decide (a = b):=by cases a <;> cases b <;> rfl
theorem ZgU {F:F3} {f g h k:E3} {env:Zad} {M M1 M2 M3 M4 M5:Store} {a b c d e:D} (h1:f env M = .ok a M1) (h2:g env M1 = .ok b M2) (h3:h env M2 = .ok c M3) (h4:k env M3 = .ok d M4) (h5:F [a,b,c,d] M4 = .ok e M5):Zt F (Za f (Za g (Za h (Za k Ze)))) env M = .ok e M5:=by
 simp only [Zt,Za,Ze,h1,h2,h3,h4,h5,R3.bind]
theorem Za5 {b:List D → Store → R3 D} {f:E3} {env:Zad} {M M1 M2:Store} {a d:D} (h1:f env M = .ok a M1) (h2:b [a] M1 = .ok d M2):Zas b (Za f Ze) env M = .ok d M2:=by
 simp only [Zas,Za,Ze,h1,h2,R3.bind]
theorem ZdS {op:D → Store → R3 D} {f:E3} {env:Zad} {M M1 M2:Store} {a d:D} (h1:f env M = .ok a M1) (h2:op a M1 = .ok d M2):e1 op f env M = .ok d M2:=by
 simp only [e1,h1,h2,R3.bind]
theorem Zi {f:E3} {g:EL3} {env:Zad} {M M1 M2:Store} {d:D} {ds:List D} (h1:f env M = .ok d M1) (h2:g env M1 = .ok ds M2):Za f g env M = .ok (d :: ds) M2:=by
 simp only [Za,h1,h2,R3.bind]
theorem Zcq {g:EL3} {env:Zad} {M M':Store} {ds:List D} (h:g env M = .ok ds M') (hl:decide (ds.length ≤ 100) = true):Zcv g env M = .ok (.tup ds) M':=by
 have:=of_decide_eq_true hl
 simp only [Zcv,h,R3.bind]
 rw [if_pos (Nat.le_trans this (by decide))]
theorem Zcu {n:Nat} {M:Store} {xs:List D} (h:M[n]? = some (.lst xs)):ZaD [.ref n] M = .ok (.int (xs.length:Int)) M:=by simp only [ZaD,h]
theorem ZgN {n:Nat} {M:Store} {xs:List D} (h:M[n]? = some (.lst xs)):Zbx [.ref n] M = .ok (.tup xs) M:=by simp only [Zbx,h]
theorem Zcc {n:Nat} {M:Store} {xs:List D} {i:Int} {d:D} (h:M[n]? = some (.lst xs)) (hd:Za9 xs i = some d):Zr (.ref n) (.int i) M = .ok d M:=by simp only [Zr,h,hd]
theorem Zfm {M:Store} {xs:List D} {i:Int} {d:D} (hd:Za9 xs i = some d):Zr (.tup xs) (.int i) M = .ok d M:=by simp only [Zr,hd]
theorem Zhb {a b:Int} {M:Store} (h:a = b):ZbG (.int a) (.int b) M = .ok (.bl true) M:=by simp only [ZbG,eqD,decide_eq_true h]
theorem ZgD {a b:Int} {M:Store} (h:¬ a = b):ZbG (.int a) (.int b) M = .ok (.bl false) M:=by simp only [ZbG,eqD,decide_eq_false h]
theorem Zn3 {a b:List Nat} {M:Store} (h:¬ a = b):ZdQ (.str a) (.str b) M = .ok (.bl true) M:=by simp only [ZdQ,eqD,decide_eq_false h]; rfl
theorem Zcn {i j:Int} {M:Store} (h:0 < j):Zab (.int i) (.int j) M = .ok (.int (i % j)) M:=by simp only [Zab,if_pos h]
theorem Ziu {f g:E3} {env:Zad} {M M1:Store} (h1:f env M = .ok (.bl false) M1):eOr f g env M = g env M1:=by simp only [eOr,h1,R3.bind]
theorem ZlN {f g:E3} {env:Zad} {M M1:Store} (h1:f env M = .ok (.bl true) M1):eOr f g env M = .ok (.bl true) M1:=by simp only [eOr,h1,R3.bind]
theorem Zd3 {f g:E3} {env:Zad} {M M1:Store} (h1:f env M = .ok (.bl true) M1):Zdd f g env M = g env M1:=by simp only [Zdd,h1,R3.bind]
theorem Zh0 {f g:E3} {env:Zad} {M M1:Store} (h1:f env M = .ok (.bl false) M1):Zdd f g env M = .ok (.bl false) M1:=by simp only [Zdd,h1,R3.bind]
end L3
namespace L3
noncomputable def ZoI:List (Int × Int) → Int → Int
 | [],_=>0
 | (k,v) :: r,n=>if k = n then v else ZoI r n
noncomputable def Zk5 (cs:List (Int × Int)) (n v:Int):List (Int × Int):=cs.filter (fun c=>decide (c.1 < n)) ++ (if v ≠ 0 then [(n,v)] else []) ++ cs.filter (fun c=>decide (n < c.1))
noncomputable def Row.place (bs:List Int) (p:Nat):Row → Nat
 | .jump k=>k
 | .when a k=>if 0 < bs.getD a 0 then k else p + 1
 | _=>p + 1
noncomputable def Row.boxes (bs:List Int) (cs:List (Int × Int)):Row → List Int
 | .put a n=>bs.set a n
 | .add a b c=>bs.set a (bs.getD b 0 + bs.getD c 0)
 | .sub a b c=>bs.set a (bs.getD b 0 - bs.getD c 0)
 | .more a b c=>bs.set a (if bs.getD c 0 < bs.getD b 0 then 1 else 0)
 | .get a b=>bs.set a (ZoI cs (bs.getD b 0))
 | _=>bs
noncomputable def Row.cells (bs:List Int) (cs:List (Int × Int)):Row → List (Int × Int)
 | .set a b=>Zk5 cs (bs.getD a 0) (bs.getD b 0)
 | _=>cs
end L3
namespace L3
end L3
namespace L3
end L3
namespace L3
noncomputable section
local instance (priority:=100000) clQ1 (p:Prop):Decidable p:=Classical.propDecidable p
end
end L3
namespace L3
noncomputable section
noncomputable def Zlh (f:E3) (g:G3):S3:=fun env M=>match f env M with
 | .ok d M1=>match g d env with
  | some env1=>.nx env1 M1
  | none=>.bad
 | .exc x M1=>.exc x M1
 | .bad=>.bad
structure ItL where
 items:List D
 lk:List (Nat × List D)
noncomputable def ZcJ (lk:List (Nat × List D)) (M:Store):Bool:=lk.all fun q=>decide (M[q.1]? = some (.lst q.2))
noncomputable abbrev IL3:=Zad → Store → R3 ItL
noncomputable def ZkH:Nat → List D → List D
 | _,[]=>[]
 | k,d :: ds=>.tup [.int k,d] :: ZkH (k + 1) ds
@[simp] noncomputable def ZpN (f:E3):IL3:=fun env M=>(f env M).bind fun a M1=>match a with
 | .tup ds=>.ok ⟨ZkH 0 ds,[]⟩ M1
 | .ref n=>match M1[n]? with
  | some (.lst ds)=>.ok ⟨ZkH 0 ds,[(n,ds)]⟩ M1
  | _=>.bad
 | _=>.bad
noncomputable def ZgA (f:E3) (is:List Nat):S3:=fun env M=>match f env M with
 | .ok (.ref n) M1=>(match M1[n]? with
  | some (.lst ds)=>(match bindAll is ds env with
   | some env1=>.nx env1 M1
   | none=>.bad)
  | _=>.bad)
 | _=>.bad
end
end L3
namespace L3
noncomputable section
noncomputable def Zei:List D → List D → List D
 | a :: x,b :: y=>.tup [a,b] :: Zei x y
 | _,_=>[]
@[simp] noncomputable def Zjd (f g:E3):IL3:=fun env M=>(f env M).bind fun a M1=>(g env M1).bind fun b M2=>match a,b with
 | .ref n,.ref m=>match M2[n]?,M2[m]? with
  | some (.lst x),some (.lst y)=>.ok ⟨Zei x y,[(n,x),(m,y)]⟩ M2
  | _,_=>.bad
 | _,_=>.bad
section
local instance (priority:=100000) clZ1 (p:Prop):Decidable p:=Classical.propDecidable p
noncomputable def ZcX (lk:List (Nat × List D)) (g:G3) (ifs:List E3) (elt:E3) (n:Nat):List D → Zad → Store → R3 D
 | [],_,M=>if ZcJ lk M then .ok (.ref n) M else .bad
 | d :: ds,env,M=>if ZcJ lk M then match g d env with
  | none=>.bad
  | some env1=>(Zen ifs env1 M).bind fun b M1=>if b then (elt env1 M1).bind fun v M2=>match M2[n]? with
    | some (.lst xs)=>if xs.length < SZ then ZcX lk g ifs elt n ds env1 (M2.set n (.lst (xs ++ [v]))) else .bad
    | _=>.bad
   else ZcX lk g ifs elt n ds env1 M1
  else .bad
end
noncomputable def ZkA (i:IL3) (own:Nat) (g:G3) (ifs:List E3) (elt:E3):E3:=fun env M=>(i env M).bind fun it M1=>ZcX it.lk g ifs elt M1.length it.items (env ++ List.replicate own none) (M1 ++ [.lst []])
section
local instance (priority:=100000) clZ2 (p:Prop):Decidable p:=Classical.propDecidable p
@[simp] noncomputable def Zbs (o:D) (ds:List D) (M:Store):R3 D:=match o,ds with
 | .ref n,[.ref m]=>match M[n]?,M[m]? with
  | some (.lst x),some (.lst y)=>if n ≠ m ∧ x.length + y.length ≤ SZ then .ok .non (M.set n (.lst (x ++ y))) else .bad
  | _,_=>.bad
 | .ref n,[.tup y]=>match M[n]? with
  | some (.lst x)=>if x.length + y.length ≤ SZ then .ok .non (M.set n (.lst (x ++ y))) else .bad
  | _=>.bad
 | _,_=>.bad
end
theorem Zeo:∀ (x y:List D) (i:Nat),(Zei x y)[i]? = (match x[i]?,y[i]? with | some a,some b=>some (D.tup [a,b]) | _,_=>none)
 | [],y,i=>by cases y <;> simp [Zei]
 | a :: x,[],i=>by simp [Zei]
 | a :: x,b :: y,0=>by simp [Zei]
 | a :: x,b :: y,i + 1=>by simp only [Zei,List.getElem?_cons_succ,Zeo x y i]
theorem ZfR:∀ (x y:List D),(Zei x y).length = min x.length y.length
 | [],y=>by cases y <;> simp [Zei]
 | a :: x,[]=>by simp [Zei]
 | a :: x,b :: y=>by simp only [Zei,List.length_cons,ZfR x y]; omega
end
end L3
namespace L3
noncomputable section
section
local instance (priority:=100000) clPg (p:Prop):Decidable p:=Classical.propDecidable p
end
end
end L3
namespace L3
noncomputable def ZkE (f:List Nat) (d:D):List (List Nat × D) → List (List Nat × D)
 | []=>[(f,d)]
 | (g,x) :: r=>if g = f then (g,d) :: r else (g,x) :: ZkE f d r
end L3
namespace L3
noncomputable section
@[simp] noncomputable def eNo (f:E3):E3:=fun env M=>match f env M with
 | .exc _ _=>.bad
 | r=>r
@[simp] noncomputable def Zc7 (f:EL3):EL3:=fun env M=>match f env M with
 | .exc _ _=>.bad
 | r=>r
noncomputable def sNo (f:S3):S3:=fun env M=>match f env M with
 | .exc _ _=>.bad
 | o=>o
noncomputable def Zca (c:List Nat) (g:EL3):S3:=fun env M=>match g env M with
 | .ok [_] M1=>.exc ⟨c,.ref M1.length⟩ (M1 ++ [.ins (0 :: c) []])
 | _=>.bad
noncomputable def ZhQ (cs:List (List Nat)) (j:Nat) (b h:S3):S3:=fun env M=>match b env M with
 | .exc x M'=>if cs.contains x.cls then (match h (env.set j (some x.arg)) M' with
  | .nx e' M2=>.nx (e'.set j none) M2
  | _=>.bad) else .bad
 | o=>o
@[simp] noncomputable def ZaY (yes no:List (List Nat)) (d:D) (M:Store):R3 D:=match d with
 | .non=>.ok (.bl false) M
 | .ref n=>match M[n]? with
  | some (.ins (0 :: c) _)=>if yes.contains c then .ok (.bl true) M else if no.contains c then .ok (.bl false) M else .bad
  | _=>.bad
 | _=>.bad
end
end L3
namespace L3
noncomputable section
noncomputable def Zf1 (i:I3) (g:G3) (body:S3):S3:=fun env M=>match i env M with
 | .ok it M1=>Zaw it g body it.items env M1
 | _=>.bad
end
end L3
namespace L3
open PySem PySem.Spec PyProof.Rows L2
noncomputable abbrev St:=L2.St
theorem Zbb:SZ ≤ sizeLine:=by rw [sizeLine_eq]; decide
noncomputable def SqF (K:PySem.W.Frag) (H:Hp) (a:Addr) (xs:List V):Prop:=
 (∃ o,H a = some (.frz o (.lst xs))) ∨
  ∃ (o:Obj) (its:Array Value) (n:Nat),K.lookup a = some o ∧ o.cls = .type "list" ∧ o.dict = none ∧ o.data = .seq its n ∧ its.size ≤ sizeLine ∧ Vals xs its.toList
theorem SqF.sq {K:PySem.W.Frag} {H:Hp} {a:Addr} {xs:List V} (h:SqF K H a xs):SqL K H a xs:=by
 rcases h with ⟨o,h⟩ | h
 ·exact .inl (.inr ⟨o,h⟩)
 ·exact .inr h
mutual
noncomputable def Rep (K:PySem.W.Frag) (H:Hp) (ι:List Addr):D → V → Prop
 | .non,v=>v = .non
 | .bl b,v=>v = .bl b
 | .int i,v=>v = .int i
 | .str x,v=>v = .str ⟨x.toArray⟩
 | .tup ds,v=>∃ a vs,v = .ref a ∧ SqT K H a vs ∧ Zq K H ι ds vs
 | .scr ds,v=>∃ a vs,v = .ref a ∧ SqF K H a vs ∧ Zq K H ι ds vs
 | .ref n,v=>∃ a,ι[n]? = some a ∧ v = .ref a
noncomputable def Zq (K:PySem.W.Frag) (H:Hp) (ι:List Addr):List D → List V → Prop
 | [],vs=>vs = []
 | d :: ds,vs=>∃ v ws,vs = v :: ws ∧ Rep K H ι d v ∧ Zq K H ι ds ws
end
structure Ext (K:PySem.W.Frag) (H:Hp) (ι:List Addr) (H':Hp) (ι':List Addr):Prop where
 tup:∀ a xs,SqT K H a xs → SqT K H' a xs
 scr:∀ a xs,SqF K H a xs → SqF K H' a xs
 pre:∀ (n:Nat) (a:Addr),ι[n]? = some a → ι'[n]? = some a
 frz:∀ a o u,H a = some (.frz o u) → H' a = some (.frz o u)
section
variable {K:PySem.W.Frag} {H H' H1 H2:Hp} {ι ι' ι1 ι2:List Addr}
theorem Ext.refl:Ext K H ι H ι:=⟨fun _ _ h=>h,fun _ _ h=>h,fun _ _ h=>h,fun _ _ _ h=>h⟩
theorem Ext.trans (a:Ext K H ι H1 ι1) (b:Ext K H1 ι1 H2 ι2):Ext K H ι H2 ι2:=
 ⟨fun x xs h=>b.tup x xs (a.tup x xs h),fun x xs h=>b.scr x xs (a.scr x xs h),fun n x h=>b.pre n x (a.pre n x h),fun x o u h=>b.frz x o u (a.frz x o u h)⟩
mutual
theorem Rep.mono (e:Ext K H ι H' ι'):∀ {d:D} {v:V},Rep K H ι d v → Rep K H' ι' d v
 | .non,_,h=>by simpa [Rep] using h
 | .bl _,_,h=>by simpa [Rep] using h
 | .int _,_,h=>by simpa [Rep] using h
 | .str _,_,h=>by simpa [Rep] using h
 | .tup ds,_,h=>by
  simp only [Rep] at h ⊢
  obtain ⟨a,vs,rfl,s,r⟩:=h
  exact ⟨a,vs,rfl,e.tup _ _ s,Zq.mono e (ds:=ds) r⟩
 | .scr ds,_,h=>by
  simp only [Rep] at h ⊢
  obtain ⟨a,vs,rfl,s,r⟩:=h
  exact ⟨a,vs,rfl,e.scr _ _ s,Zq.mono e (ds:=ds) r⟩
 | .ref n,_,h=>by
  simp only [Rep] at h ⊢
  obtain ⟨a,s,rfl⟩:=h
  exact ⟨a,e.pre _ _ s,rfl⟩
theorem Zq.mono (e:Ext K H ι H' ι'):∀ {ds:List D} {vs:List V},Zq K H ι ds vs → Zq K H' ι' ds vs
 | [],_,h=>by simpa [Zq] using h
 | d :: ds,_,h=>by
  simp only [Zq] at h ⊢
  obtain ⟨v,ws,rfl,r,q⟩:=h
  exact ⟨v,ws,rfl,Rep.mono e (d:=d) r,Zq.mono e (ds:=ds) q⟩
end
mutual
theorem Rep.keep (ht:∀ a xs,SqT K H a xs → SqT K H' a xs) (hs:∀ a xs,SqF K H a xs → SqF K H' a xs):∀ {d:D} {v:V},Rep K H ι d v → Rep K H' ι d v
 | .non,_,h=>by simpa [Rep] using h
 | .bl _,_,h=>by simpa [Rep] using h
 | .int _,_,h=>by simpa [Rep] using h
 | .str _,_,h=>by simpa [Rep] using h
 | .tup ds,_,h=>by
  simp only [Rep] at h ⊢
  obtain ⟨a,vs,rfl,s,r⟩:=h
  exact ⟨a,vs,rfl,ht _ _ s,Zq.keep ht hs (ds:=ds) r⟩
 | .scr ds,_,h=>by
  simp only [Rep] at h ⊢
  obtain ⟨a,vs,rfl,s,r⟩:=h
  exact ⟨a,vs,rfl,hs _ _ s,Zq.keep ht hs (ds:=ds) r⟩
 | .ref n,_,h=>by simpa [Rep] using h
theorem Zq.keep (ht:∀ a xs,SqT K H a xs → SqT K H' a xs) (hs:∀ a xs,SqF K H a xs → SqF K H' a xs):∀ {ds:List D} {vs:List V},Zq K H ι ds vs → Zq K H' ι ds vs
 | [],_,h=>by simpa [Zq] using h
 | d :: ds,_,h=>by
  simp only [Zq] at h ⊢
  obtain ⟨v,ws,rfl,r,q⟩:=h
  exact ⟨v,ws,rfl,Rep.keep ht hs (d:=d) r,Zq.keep ht hs (ds:=ds) q⟩
end
theorem Zq.nil:Zq K H ι [] []:=by simp [Zq]
theorem Zq.cons {d:D} {ds:List D} {v:V} {vs:List V} (h:Rep K H ι d v) (t:Zq K H ι ds vs):Zq K H ι (d :: ds) (v :: vs):=by
 simp only [Zq]
 exact ⟨v,vs,rfl,h,t⟩
theorem Zq.nil_inv {vs:List V} (h:Zq K H ι [] vs):vs = []:=by simpa [Zq] using h
theorem Zq.cons_inv {d:D} {ds:List D} {vs:List V} (h:Zq K H ι (d :: ds) vs):∃ v ws,vs = v :: ws ∧ Rep K H ι d v ∧ Zq K H ι ds ws:=by simpa [Zq] using h
theorem Zq.length:∀ {ds:List D} {vs:List V},Zq K H ι ds vs → vs.length = ds.length
 | [],_,h=>by rw [h.nil_inv]; rfl
 | d :: ds,_,h=>by
  obtain ⟨v,ws,rfl,_,q⟩:=h.cons_inv
  simp [q.length]
theorem Zq.append:∀ {ds es:List D} {vs ws:List V},Zq K H ι ds vs → Zq K H ι es ws → Zq K H ι (ds ++ es) (vs ++ ws)
 | [],_,_,_,h,q=>by rw [h.nil_inv]; exact q
 | d :: ds,_,_,_,h,q=>by
  obtain ⟨v,us,rfl,r,t⟩:=h.cons_inv
  exact Zq.cons r (t.append q)
theorem Zq.drop:∀ {ds:List D} {vs:List V} (n:Nat),Zq K H ι ds vs → Zq K H ι (ds.drop n) (vs.drop n)
 | _,_,0,h=>h
 | [],_,n + 1,h=>by rw [h.nil_inv]; exact Zq.nil
 | d :: ds,_,n + 1,h=>by
  obtain ⟨v,us,rfl,r,t⟩:=h.cons_inv
  exact t.drop n
theorem Zq.take:∀ {ds:List D} {vs:List V} (n:Nat),Zq K H ι ds vs → Zq K H ι (ds.take n) (vs.take n)
 | _,_,0,h=>Zq.nil
 | [],_,n + 1,h=>by rw [h.nil_inv]; exact Zq.nil
 | d :: ds,_,n + 1,h=>by
  obtain ⟨v,us,rfl,r,t⟩:=h.cons_inv
  exact Zq.cons r (t.take n)
theorem Zq.get:∀ {ds:List D} {vs:List V} {i:Nat} {d:D},Zq K H ι ds vs → ds[i]? = some d → ∃ v,vs[i]? = some v ∧ Rep K H ι d v
 | [],_,_,_,_,e=>by simp at e
 | d :: ds,_,0,_,h,e=>by
  obtain ⟨v,us,rfl,r,t⟩:=h.cons_inv
  simp at e; subst e
  exact ⟨v,rfl,r⟩
 | d :: ds,_,i + 1,_,h,e=>by
  obtain ⟨v,us,rfl,r,t⟩:=h.cons_inv
  obtain ⟨w,q,z⟩:=t.get (i:=i) (by simpa using e)
  exact ⟨w,by simpa using q,z⟩
theorem Zq.set:∀ {ds:List D} {vs:List V} {d:D} {v:V} (i:Nat),Zq K H ι ds vs → Rep K H ι d v → Zq K H ι (ds.set i d) (vs.set i v)
 | [],_,_,_,_,h,_=>by rw [h.nil_inv]; exact Zq.nil
 | d :: ds,_,_,_,0,h,q=>by
  obtain ⟨v,us,rfl,r,t⟩:=h.cons_inv
  exact Zq.cons q t
 | d :: ds,_,_,_,i + 1,h,q=>by
  obtain ⟨v,us,rfl,r,t⟩:=h.cons_inv
  exact Zq.cons r (t.set i q)
theorem Zq.ints:∀ (ns:List Int),Zq K H ι (ns.map D.int) (ns.map V.int)
 | []=>Zq.nil
 | n :: ns=>Zq.cons (by simp [Rep]) (Zq.ints ns)
theorem Rep.non_inv {v:V} (h:Rep K H ι .non v):v = .non:=by simpa [Rep] using h
theorem Rep.bl_inv {v:V} {b:Bool} (h:Rep K H ι (.bl b) v):v = .bl b:=by simpa [Rep] using h
theorem Rep.int_inv {v:V} {i:Int} (h:Rep K H ι (.int i) v):v = .int i:=by simpa [Rep] using h
theorem Rep.str_inv {v:V} {x:List Nat} (h:Rep K H ι (.str x) v):v = .str ⟨x.toArray⟩:=by simpa [Rep] using h
theorem Rep.tup_inv {v:V} {ds:List D} (h:Rep K H ι (.tup ds) v):∃ a vs,v = .ref a ∧ SqT K H a vs ∧ Zq K H ι ds vs:=by simpa [Rep] using h
theorem Rep.scr_inv {v:V} {ds:List D} (h:Rep K H ι (.scr ds) v):∃ a vs,v = .ref a ∧ SqF K H a vs ∧ Zq K H ι ds vs:=by simpa [Rep] using h
theorem Rep.ref_inv {v:V} {n:Nat} (h:Rep K H ι (.ref n) v):∃ a,ι[n]? = some a ∧ v = .ref a:=by simpa [Rep] using h
theorem Rep.non:Rep K H ι .non .non:=by simp [Rep]
theorem Rep.bl {b:Bool}:Rep K H ι (.bl b) (.bl b):=by simp [Rep]
theorem Rep.int {i:Int}:Rep K H ι (.int i) (.int i):=by simp [Rep]
theorem Rep.str {x:List Nat}:Rep K H ι (.str x) (.str ⟨x.toArray⟩):=by simp [Rep]
theorem Rep.tup {a:Addr} {vs:List V} {ds:List D} (s:SqT K H a vs) (r:Zq K H ι ds vs):Rep K H ι (.tup ds) (.ref a):=by
 simp only [Rep]; exact ⟨a,vs,rfl,s,r⟩
theorem Rep.ref {a:Addr} {n:Nat} (s:ι[n]? = some a):Rep K H ι (.ref n) (.ref a):=by
 simp only [Rep]; exact ⟨a,s,rfl⟩
end
noncomputable def ExO (e C:Addr) (h:Heap):Prop:=∃ o vs,h.get? e = some o ∧ o.cls = .ref C ∧ o.data = .fields vs
noncomputable abbrev exH (e C:Addr):HO:=.ext (ExO e C)
noncomputable def dk:Zb4 → Key
 | .inl i=>.inl i
 | .inr x=>.inr ⟨x.toArray⟩
noncomputable def KvR (K:PySem.W.Frag) (H:Hp) (ι:List Addr) (kvs:List (Zb4 × D)) (ws:List (Key × V)):Prop:=
 ws.map (·.1) = kvs.map (fun p=>dk p.1) ∧ Zq K H ι (kvs.map (·.2)) (ws.map (·.2))
noncomputable def FsR (K:PySem.W.Frag) (H:Hp) (ι:List Addr) (fs:List (List Nat × D)) (gs:List (Str × V)):Prop:=
 gs.map (·.1) = fs.map (fun p=>(⟨p.1.toArray⟩:Str)) ∧ Zq K H ι (fs.map (·.2)) (gs.map (·.2))
noncomputable def ClsAt (K:PySem.W.Frag) (c:List Nat) (C:Addr):Prop:=PySem.W.nsIn K mainGlobals ⟨c.toArray⟩ = some (some (.ref C))
noncomputable def Zd9 (K:PySem.W.Frag) (H:Hp) (ι:List Addr):MO → Addr → Prop
 | .lst xs,a=>∃ vs,H a = some (.lst vs) ∧ Zq K H ι xs vs
 | .dct kvs,a=>∃ ws,H a = some (.dK ws) ∧ KvR K H ι kvs ws
 | .fdct kvs,a=>∃ ws,(∃ o,H a = some (.frz o (.dK ws))) ∧ KvR K H ι kvs ws
 | .ins c fs,a=>(∃ C dx gs,H a = some (.ins C dx gs) ∧ (ClsAt K c C ∧ c.head? ≠ some 0) ∧ FsR K H ι fs gs) ∨ ∃ C,H a = some (exH a C) ∧ c.head? = some 0 ∧ ClsAt K c.tail C ∧ fs = []
structure Zaa (K:PySem.W.Frag) (H:Hp) (ι:List Addr) (M:Store):Prop where
 len:ι.length = M.length
 nd:ι.Nodup
 obj:∀ (n:Nat) o a,M[n]? = some o → ι[n]? = some a → Zd9 K H ι o a
noncomputable def Loose (H:Hp) (p:Addr):Prop:=H p = none ∨ (∃ vs,H p = some (.lst vs)) ∨ (∃ ws,H p = some (.dK ws)) ∨ ∃ C dx gs,H p = some (.ins C dx gs)
section
variable {K:PySem.W.Frag} {H H':Hp} {ι ι':List Addr} {M:Store} {p:Addr} {o:HO}
theorem Loose.ne {a:Addr} {u:HO} (l:Loose H p) (h:H a = some u) (h1:∀ vs,u ≠ .lst vs) (h2:∀ ws,u ≠ .dK ws) (h3:∀ C dx gs,u ≠ .ins C dx gs:=by exact fun _ _ _ z=>nomatch z):a ≠ p:=by
 rintro rfl
 rcases l with l | ⟨vs,l⟩ | ⟨ws,l⟩ | ⟨C,dx,gs,l⟩
 ·rw [h] at l; cases l
 ·rw [h] at l; exact h1 vs (Option.some.inj l)
 ·rw [h] at l; exact h2 ws (Option.some.inj l)
 ·rw [h] at l; exact h3 C dx gs (Option.some.inj l)
theorem Loose.tup (l:Loose H p) {a:Addr} {xs:List V} (h:SqT K H a xs):SqT K (upd H p o) a xs:=by
 rcases h with (h | ⟨ob,h⟩) | h
 ·exact .inl (.inl (by rw [Zau (l.ne h (fun _ z=>nomatch z) (fun _ z=>nomatch z))]; exact h))
 ·exact .inl (.inr ⟨ob,by rw [Zau (l.ne h (fun _ z=>nomatch z) (fun _ z=>nomatch z))]; exact h⟩)
 ·exact .inr h
theorem Loose.scr (l:Loose H p) {a:Addr} {xs:List V} (h:SqF K H a xs):SqF K (upd H p o) a xs:=by
 rcases h with ⟨ob,h⟩ | h
 ·exact .inl ⟨ob,by rw [Zau (l.ne h (fun _ z=>nomatch z) (fun _ z=>nomatch z))]; exact h⟩
 ·exact .inr h
theorem Loose.frz (l:Loose H p) {a:Addr} {ob:Obj} {u:HO} (h:H a = some (.frz ob u)):upd H p o a = some (.frz ob u):=by
 rw [Zau (l.ne h (fun _ z=>nomatch z) (fun _ z=>nomatch z))]; exact h
theorem Loose.ext (l:Loose H p):Ext K H ι (upd H p o) ι:=⟨fun _ _ h=>l.tup h,fun _ _ h=>l.scr h,fun _ _ h=>h,fun _ _ _ h=>l.frz h⟩
theorem Loose.extA (l:Loose H p):Ext K H ι (upd H p o) (ι ++ [p]):=⟨fun _ _ h=>l.tup h,fun _ _ h=>l.scr h,fun n a h=>by
 rw [List.getElem?_append_left (List.getElem?_eq_some_iff.mp h).1]; exact h,fun _ _ _ h=>l.frz h⟩
theorem Zd9.mono {m:MO} {a:Addr} (e:Ext K H ι H' ι') (h:Zd9 K H ι m a) (k:H' a = H a):Zd9 K H' ι' m a:=by
 cases m with
 | lst xs=>obtain ⟨vs,q,r⟩:=h; exact ⟨vs,k.trans q,r.mono e⟩
 | dct kvs=>obtain ⟨ws,q,r1,r2⟩:=h; exact ⟨ws,k.trans q,r1,r2.mono e⟩
 | fdct kvs=>obtain ⟨ws,⟨o,q⟩,r1,r2⟩:=h; exact ⟨ws,⟨o,k.trans q⟩,r1,r2.mono e⟩
 | ins c fs=>
  rcases h with ⟨C,dx,gs,q,c,r1,r2⟩ | ⟨C,q,r⟩
  ·exact .inl ⟨C,dx,gs,k.trans q,c,r1,r2.mono e⟩
  ·exact .inr ⟨C,k.trans q,r⟩
theorem Zd9.ne {m:MO} {a:Addr} (h:Zd9 K H ι m a):H a ≠ none:=by
 cases m with
 | lst xs=>obtain ⟨vs,q,r⟩:=h; rw [q]; simp
 | dct kvs=>obtain ⟨ws,q,r⟩:=h; rw [q]; simp
 | fdct kvs=>obtain ⟨ws,⟨o,q⟩,r⟩:=h; rw [q]; simp
 | ins c fs=>rcases h with ⟨C,dx,gs,q,r⟩ | ⟨C,q,r⟩ <;> (rw [q]; simp)
theorem Zaa.at (S:Zaa K H ι M) {n:Nat} {m:MO} (h:M[n]? = some m):∃ a,ι[n]? = some a ∧ Zd9 K H ι m a:=by
 have hn:n < ι.length:=by rw [S.len]; exact (List.getElem?_eq_some_iff.mp h).1
 exact ⟨ι[n],by simp [hn],S.obj n m _ h (by simp [hn])⟩
theorem Zaa.there (S:Zaa K H ι M) {n:Nat} {a:Addr} (h:ι[n]? = some a):∃ m,M[n]? = some m ∧ Zd9 K H ι m a:=by
 have hn:n < M.length:=by rw [← S.len]; exact (List.getElem?_eq_some_iff.mp h).1
 exact ⟨M[n],by simp [hn],S.obj n _ _ (by simp [hn]) h⟩
theorem Zaa.fresh (S:Zaa K H ι M) (hp:H p = none):p ∉ ι:=fun h=>by
 obtain ⟨n,hn⟩:=List.getElem?_of_mem h
 obtain ⟨m,_,q⟩:=S.there hn
 exact q.ne hp
theorem Zaa.other (S:Zaa K H ι M) (l:Loose H p) (hp:p ∉ ι):Zaa K (upd H p o) ι M:=
 ⟨S.len,S.nd,fun n m a h1 h2=>(S.obj n m a h1 h2).mono l.ext (by
  rw [Zau]; rintro rfl; exact hp (List.mem_of_getElem? h2))⟩
theorem Zaa.new (S:Zaa K H ι M) (hp:H p = none) {m:MO} (h:Zd9 K (upd H p o) (ι ++ [p]) m p):Zaa K (upd H p o) (ι ++ [p]) (M ++ [m]):=by
 have hf:=S.fresh hp
 refine ⟨by simp [S.len],?_,fun n m' a h1 h2=>?_⟩
 ·exact List.nodup_append.mpr ⟨S.nd,by simp,fun x hx y hy=>by
   have e:y = p:=by simpa using hy
   subst e
   rintro rfl
   exact hf hx⟩
 ·by_cases hn:n < ι.length
  ·rw [List.getElem?_append_left hn] at h2
   rw [List.getElem?_append_left (by rw [← S.len]; exact hn)] at h1
   refine (S.obj n m' a h1 h2).mono (Loose.extA (.inl hp)) ?_
   rw [Zau]
   rintro rfl
   exact hf (List.mem_of_getElem? h2)
  ·rw [List.getElem?_append_right (Nat.le_of_not_lt hn)] at h2
   rw [List.getElem?_append_right (by rw [← S.len]; exact Nat.le_of_not_lt hn)] at h1
   have hlt:n - ι.length < 1:=by
    have:=(List.getElem?_eq_some_iff.mp h2).1
    simpa using this
   have e0:n - ι.length = 0:=Nat.le_antisymm (lA 1 234922001 T1 hlt) (Nat.zero_le _)
   rw [e0] at h2
   rw [← S.len,e0] at h1
   simp at h1 h2
   subst h1 h2
   exact h
theorem Zaa.put (S:Zaa K H ι M) {n:Nat} (l0:Loose H p) (hn:ι[n]? = some p) {m:MO} (h:Zd9 K (upd H p o) ι m p):Zaa K (upd H p o) ι (M.set n m):=by
 obtain ⟨m0,hm0,q0⟩:=S.there hn
 refine ⟨by simp [S.len],S.nd,fun k m' a h1 h2=>?_⟩
 by_cases hk:k = n
 ·subst hk
  rw [hn] at h2
  cases h2
  have hlt:k < M.length:=(List.getElem?_eq_some_iff.mp hm0).1
  rw [List.getElem?_set_self hlt] at h1
  cases h1
  exact h
 ·rw [List.getElem?_set_ne (Ne.symm hk)] at h1
  refine (S.obj k m' a h1 h2).mono (Loose.ext l0) ?_
  rw [Zau]
  rintro rfl
  have hlt1:=(List.getElem?_eq_some_iff.mp h2)
  have hlt2:=(List.getElem?_eq_some_iff.mp hn)
  exact hk ((List.getElem_inj S.nd).mp (hlt1.2.trans hlt2.2.symm))
theorem Zaa.lst (S:Zaa K H ι M) (hp:H p = none) {xs:List D} {vs:List V} (r:Zq K H ι xs vs):Ext K H ι (upd H p (.lst vs)) (ι ++ [p]) ∧ Zaa K (upd H p (.lst vs)) (ι ++ [p]) (M ++ [.lst xs]) ∧ Rep K (upd H p (.lst vs)) (ι ++ [p]) (.ref M.length) (.ref p):=by
 have e:Ext K H ι (upd H p (.lst vs)) (ι ++ [p]):=Loose.extA (.inl hp)
 refine ⟨e,S.new hp ⟨vs,Zby,r.mono e⟩,Rep.ref ?_⟩
 rw [← S.len]; simp
theorem Zaa.tupl (S:Zaa K H ι M) (hp:H p = none) {xs:List D} {vs:List V} (r:Zq K H ι xs vs):Ext K H ι (upd H p (.tup vs)) ι ∧ Zaa K (upd H p (.tup vs)) ι M ∧ Rep K (upd H p (.tup vs)) ι (.tup xs) (.ref p):=by
 have e:Ext K H ι (upd H p (.tup vs)) ι:=Loose.ext (.inl hp)
 exact ⟨e,S.other (.inl hp) (S.fresh hp),Rep.tup (SqT.of Zby) (r.mono e)⟩
theorem Zaa.setl (S:Zaa K H ι M) {n:Nat} (l0:Loose H p) (hn:ι[n]? = some p) {xs:List D} {vs:List V} (r:Zq K H ι xs vs):Ext K H ι (upd H p (.lst vs)) ι ∧ Zaa K (upd H p (.lst vs)) ι (M.set n (.lst xs)):=by
 have e:Ext K H ι (upd H p (.lst vs)) ι:=Loose.ext l0
 exact ⟨e,S.put l0 hn ⟨vs,Zby,r.mono e⟩⟩
end
noncomputable def ZaT (K:PySem.W.Frag) (H:Hp) (ι:List Addr) (env:Zad) (σ:St):Prop:=
 env.length = σ.length ∧ ∀ (i:Nat) d,env[i]? = some (some d) → ∃ v,σ[i]? = some (some v) ∧ Rep K H ι d v
theorem ZaT.mono {K:PySem.W.Frag} {H H':Hp} {ι ι':List Addr} {env:Zad} {σ:St} (r:ZaT K H ι env σ) (e:Ext K H ι H' ι'):ZaT K H' ι' env σ:=
 ⟨r.1,fun i d h=>let ⟨v,q,z⟩:=r.2 i d h; ⟨v,q,z.mono e⟩⟩
theorem ZaT.set {K:PySem.W.Frag} {H:Hp} {ι:List Addr} {env:Zad} {σ:St} {d:D} {v:V} (r:ZaT K H ι env σ) (i:Nat) (h:Rep K H ι d v):ZaT K H ι (env.set i (some d)) (σ.set i (some v)):=by
 refine ⟨by simp [r.1],fun j e hj=>?_⟩
 by_cases hij:j = i
 ·subst hij
  have hlt:j < env.length:=by
   have:=(List.getElem?_eq_some_iff.mp hj).1
   simpa using this
  rw [List.getElem?_set_self hlt] at hj
  cases hj
  exact ⟨v,by rw [List.getElem?_set_self (by rw [← r.1]; exact hlt)],h⟩
 ·rw [List.getElem?_set_ne (Ne.symm hij)] at hj
  obtain ⟨w,q,z⟩:=r.2 j e hj
  exact ⟨w,by rw [List.getElem?_set_ne (Ne.symm hij)]; exact q,z⟩
noncomputable def Zae (K:PySem.W.Frag) (H:Hp) (ι:List Addr) (Q:VK) (r:R3 D):Prop:=match r with
 | .ok d M'=>∀ v H' ι',Ext K H ι H' ι' → Zaa K H' ι' M' → Rep K H' ι' d v → Q v H'
 | _=>False
noncomputable def tOf (K:PySem.W.Frag) (f:E3):TE:=fun σ H Q=>∃ ι M env,Zaa K H ι M ∧ ZaT K H ι env σ ∧ Zae K H ι Q (f env M)
noncomputable def Zfz (K:PySem.W.Frag) (H:Hp) (ι:List Addr) (Q:Bool → Hp → Prop) (r:R3 D):Prop:=match r with
 | .ok (.bl b) M'=>∀ H' ι',Ext K H ι H' ι' → Zaa K H' ι' M' → Q b H'
 | _=>False
noncomputable def tTf (K:PySem.W.Frag) (f:E3):TT:=fun σ H Q=>∃ ι M env,Zaa K H ι M ∧ ZaT K H ι env σ ∧ Zfz K H ι Q (f env M)
noncomputable def Zja (K:PySem.W.Frag) (H:Hp) (ι:List Addr) (Q:List V → Hp → Prop) (r:R3 (List D)):Prop:=match r with
 | .ok ds M'=>∀ vs H' ι',Ext K H ι H' ι' → Zaa K H' ι' M' → Zq K H' ι' ds vs → Q vs H'
 | _=>False
noncomputable def tAf (K:PySem.W.Frag) (f:EL3):TA:=fun σ H Q=>∃ ι M env,Zaa K H ι M ∧ ZaT K H ι env σ ∧ Zja K H ι Q (f env M)
noncomputable def ZjX (K:PySem.W.Frag) (H:Hp) (ι:List Addr) (Q:Option Int → Hp → Prop) (r:R3 (Option Int)):Prop:=match r with
 | .ok o M'=>∀ H' ι',Ext K H ι H' ι' → Zaa K H' ι' M' → Q o H'
 | _=>False
noncomputable def tOo (K:PySem.W.Frag) (f:EO3):TO:=fun σ H Q=>∃ ι M env,Zaa K H ι M ∧ ZaT K H ι env σ ∧ ZjX K H ι Q (f env M)
noncomputable def Zf5 (K:PySem.W.Frag) (H:Hp) (ι:List Addr) (E:Ends) (r:O3):Prop:=match r with
 | .nx env' M'=>∀ σ' H' ι',Ext K H ι H' ι' → Zaa K H' ι' M' → ZaT K H' ι' env' σ' → E.nx σ' H'
 | .bk env' M'=>∀ σ' H' ι',Ext K H ι H' ι' → Zaa K H' ι' M' → ZaT K H' ι' env' σ' → E.bk σ' H'
 | .ct env' M'=>∀ σ' H' ι',Ext K H ι H' ι' → Zaa K H' ι' M' → ZaT K H' ι' env' σ' → E.ct σ' H'
 | .rt d M'=>∀ v H' ι',Ext K H ι H' ι' → Zaa K H' ι' M' → Rep K H' ι' d v → E.rt v H'
 | _=>False
noncomputable def tSf (K:PySem.W.Frag) (f:S3):TS:=fun E σ H=>∃ ι M env,Zaa K H ι M ∧ ZaT K H ι env σ ∧ Zf5 K H ι E (f env M)
noncomputable def C3 (X:Cx) (e:Expr) (f:E3):Prop:=PE X e (tOf X.K f)
noncomputable def CT (X:Cx) (e:Expr) (f:E3):Prop:=PT X e (tTf X.K f)
noncomputable def CA (X:Cx) (es:List Expr) (f:EL3):Prop:=PA X es (tAf X.K f)
noncomputable def CO (X:Cx) (e:Option Expr) (f:EO3):Prop:=PO X e (tOo X.K f)
noncomputable def CS (X:Cx) (st:Stmt) (f:S3):Prop:=PS X st (tSf X.K f)
noncomputable def CSs (X:Cx) (st:List Stmt) (f:S3):Prop:=PSs X st (tSf X.K f)
theorem _root_.L2.PE.imp {X:Cx} {e:Expr} {t t':TE} (h:PE X e t) (i:∀ σ H Q,t' σ H Q → t σ H Q):PE X e t':=fun pins s σ H Q I q=>h pins s σ H Q I (i σ H Q q)
theorem _root_.L2.PT.imp {X:Cx} {e:Expr} {t t':TT} (h:PT X e t) (i:∀ σ H Q,t' σ H Q → t σ H Q):PT X e t':=fun pins s σ H Q I q=>h pins s σ H Q I (i σ H Q q)
theorem _root_.L2.PA.imp {X:Cx} {e:List Expr} {t t':TA} (h:PA X e t) (i:∀ σ H Q,t' σ H Q → t σ H Q):PA X e t':=fun pos pins s σ H Q I q=>h pos pins s σ H Q I (i σ H Q q)
theorem _root_.L2.PO.imp {X:Cx} {e:Option Expr} {t t':TO} (h:PO X e t) (i:∀ σ H Q,t' σ H Q → t σ H Q):PO X e t':=fun pins s σ H Q I q=>h pins s σ H Q I (i σ H Q q)
theorem _root_.L2.PS.imp {X:Cx} {e:Stmt} {t t':TS} (h:PS X e t) (i:∀ D σ H,t' D σ H → t D σ H):PS X e t':=fun pins s σ H D I q=>h pins s σ H D I (i D σ H q)
theorem _root_.L2.PSs.imp {X:Cx} {e:List Stmt} {t t':TS} (h:PSs X e t) (i:∀ D σ H,t' D σ H → t D σ H):PSs X e t':=fun pins s σ H D I q=>h pins s σ H D I (i D σ H q)
theorem _root_.L2.OpR.imp {X:Cx} {f:Value → Value → Sem Value} {r r':R2} (h:OpR X f r) (i:∀ x y H Q,r' x y H Q → r x y H Q):OpR X f r':=fun pins s σ H x y v u Q I rx ry q=>h pins s σ H x y v u Q I rx ry (i x y H Q q)
theorem _root_.L2.UnR.imp {X:Cx} {f:Value → Sem Value} {r r':V → Hp → VK → Prop} (h:UnR X f r) (i:∀ x H Q,r' x H Q → r x H Q):UnR X f r':=fun pins s σ H x v Q I rx q=>h pins s σ H x v Q I rx (i x H Q q)
theorem _root_.L2.ZbK.imp {X:Cx} {f:Value} {r r':List V → Hp → VK → Prop} (h:ZbK X f r) (i:∀ x H Q,r' x H Q → r x H Q):ZbK X f r':=fun pins s σ H xs us Q I rx q=>h pins s σ H xs us Q I rx (i xs H Q q)
theorem _root_.L2.IxR.imp {X:Cx} {r r':R2} (h:IxR X r) (i:∀ x y H Q,r' x y H Q → r x y H Q):IxR X r':=fun value slice pins s σ H x y v u Q I rx ry q hs=>h value slice pins s σ H x y v u Q I rx ry (i x y H Q q) hs
theorem _root_.L2.SlR.imp {X:Cx} {r r':V → Option Int → Option Int → Hp → VK → Prop} (h:SlR X r) (i:∀ x lo hi H Q,r' x lo hi H Q → r x lo hi H Q):SlR X r':=fun pins s σ H x v vl vu lo hi sl Q I rx hs pl pu q=>h pins s σ H x v vl vu lo hi sl Q I rx hs pl pu (i x lo hi H Q q)
section
variable {K:PySem.W.Frag} {H H1:Hp} {ι ι1:List Addr}
theorem Zae.up {Q:VK} {r:R3 D} (e:Ext K H ι H1 ι1) (h:Zae K H ι Q r):Zae K H1 ι1 Q r:=by
 cases r with
 | ok d M=>exact fun v H' ι' e' S r=>h v H' ι' (e.trans e') S r
 | exc x M=>exact h
 | bad=>exact h
theorem Zfz.up {Q:Bool → Hp → Prop} {r:R3 D} (e:Ext K H ι H1 ι1) (h:Zfz K H ι Q r):Zfz K H1 ι1 Q r:=by
 cases r with
 | ok d M=>cases d <;> first | exact h | exact fun H' ι' e' S=>h H' ι' (e.trans e') S
 | exc x M=>exact h
 | bad=>exact h
theorem Zf5.up {Q:Ends} {r:O3} (e:Ext K H ι H1 ι1) (h:Zf5 K H ι Q r):Zf5 K H1 ι1 Q r:=by
 cases r with
 | nx d M=>exact fun v H' ι' e' S r=>h v H' ι' (e.trans e') S r
 | bk d M=>exact fun v H' ι' e' S r=>h v H' ι' (e.trans e') S r
 | ct d M=>exact fun v H' ι' e' S r=>h v H' ι' (e.trans e') S r
 | rt d M=>exact fun v H' ι' e' S r=>h v H' ι' (e.trans e') S r
 | exc x M=>exact h
 | bad=>exact h
theorem Zae.ok {Q:VK} {d:D} {M:Store} {v:V} (h:Zae K H ι Q (.ok d M)) (S:Zaa K H ι M) (r:Rep K H ι d v):Q v H:=h v H ι Ext.refl S r
theorem Zae.bind {α:Type} {Q:VK} {r:R3 α} {k:α → Store → R3 D} (h:Zae K H ι Q (r.bind k)):∃ a M,r = .ok a M ∧ Zae K H ι Q (k a M):=by
 cases r with
 | ok a M=>exact ⟨a,M,rfl,h⟩
 | exc x M=>exact h.elim
 | bad=>exact h.elim
theorem Zja.bind {α:Type} {Q:List V → Hp → Prop} {r:R3 α} {k:α → Store → R3 (List D)} (h:Zja K H ι Q (r.bind k)):∃ a M,r = .ok a M ∧ Zja K H ι Q (k a M):=by
 cases r with
 | ok a M=>exact ⟨a,M,rfl,h⟩
 | exc x M=>exact h.elim
 | bad=>exact h.elim
theorem ZjX.bind {α:Type} {Q:Option Int → Hp → Prop} {r:R3 α} {k:α → Store → R3 (Option Int)} (h:ZjX K H ι Q (r.bind k)):∃ a M,r = .ok a M ∧ ZjX K H ι Q (k a M):=by
 cases r with
 | ok a M=>exact ⟨a,M,rfl,h⟩
 | exc x M=>exact h.elim
 | bad=>exact h.elim
theorem Zfz.bind {α:Type} {Q:Bool → Hp → Prop} {r:R3 α} {k:α → Store → R3 D} (h:Zfz K H ι Q (r.bind k)):∃ a M,r = .ok a M ∧ Zfz K H ι Q (k a M):=by
 cases r with
 | ok a M=>exact ⟨a,M,rfl,h⟩
 | exc x M=>exact h.elim
 | bad=>exact h.elim
end
noncomputable def r2 (K:PySem.W.Frag) (op:D → D → Store → R3 D):R2:=fun x y H Q=>∃ ι M a b,Zaa K H ι M ∧ Rep K H ι a x ∧ Rep K H ι b y ∧ Zae K H ι Q (op a b M)
noncomputable def r1 (K:PySem.W.Frag) (op:D → Store → R3 D):V → Hp → VK → Prop:=fun x H Q=>∃ ι M a,Zaa K H ι M ∧ Rep K H ι a x ∧ Zae K H ι Q (op a M)
noncomputable def rB (K:PySem.W.Frag) (b:List D → Store → R3 D):List V → Hp → VK → Prop:=fun xs H Q=>∃ ι M ds,Zaa K H ι M ∧ Zq K H ι ds xs ∧ Zae K H ι Q (b ds M)
noncomputable def rM (K:PySem.W.Frag) (m:D → List D → Store → R3 D):V → List V → Hp → VK → Prop:=fun x xs H Q=>∃ ι M a ds,Zaa K H ι M ∧ Rep K H ι a x ∧ Zq K H ι ds xs ∧ Zae K H ι Q (m a ds M)
noncomputable def rS (K:PySem.W.Frag):V → Option Int → Option Int → Hp → VK → Prop:=fun x lo hi H Q=>∃ ι M a,Zaa K H ι M ∧ Rep K H ι a x ∧ Zae K H ι Q (Zcg a lo hi M)
theorem ZgL {K:PySem.W.Frag} {op:D → D → Store → R3 D} {f g:E3} (σ:St) (H:Hp) (Q:VK) (h:tOf K (e2 op f g) σ H Q):tOp (r2 K op) (tOf K f) (tOf K g) σ H Q:=by
 obtain ⟨ι,M,env,S,E,h⟩:=h
 obtain ⟨a,M1,e1,h⟩:=Zae.bind h
 obtain ⟨b,M2,e2,h⟩:=Zae.bind h
 refine ⟨ι,M,env,S,E,?_⟩
 rw [e1]
 intro v H1 ι1 x1 S1 r1
 refine ⟨ι1,M1,env,S1,E.mono x1,?_⟩
 rw [e2]
 intro u H2 ι2 x2 S2 r2
 exact ⟨ι2,M2,a,b,S2,r1.mono x2,r2,(h.up x1).up x2⟩
theorem Zm9 {K:PySem.W.Frag} {op:D → Store → R3 D} {f:E3} (σ:St) (H:Hp) (Q:VK) (h:tOf K (e1 op f) σ H Q):tUn (r1 K op) (tOf K f) σ H Q:=by
 obtain ⟨ι,M,env,S,E,h⟩:=h
 obtain ⟨a,M1,e1,h⟩:=Zae.bind h
 refine ⟨ι,M,env,S,E,?_⟩
 rw [e1]
 intro v H1 ι1 x1 S1 r1
 exact ⟨ι1,M1,a,S1,r1,h.up x1⟩
section
variable {X:Cx} {a b c e o:Expr} {es:List Expr} {pos p:Pos} {f g h:E3} {gl:EL3}
theorem Zd (i:Nat) {x:Str} (hN:X.N[i]? = some x:=by rfl) (hv:Vis X.env.scope x:=by first | exact Or.inl rfl | exact Or.inr (Or.inl rfl) | exact Or.inr (Or.inr rfl)) (hd:(x == ("__debug__":Str)) = false:=by decide)
  (hcd:(x == ("__classdict__":Str)) = false:=by decide):C3 X (.Name x pos) (Zb i):=(Zmf hN hv hd hcd).imp fun σ H Q zz1=>by
 obtain ⟨ι,M,env,S,E,h⟩:=zz1
 unfold Zb at h
 cases q:env[i]? with
 | none=>rw [q] at h; exact h.elim
 | some od=>
  cases od with
  | none=>rw [q] at h; exact h.elim
  | some d=>
   rw [q] at h
   obtain ⟨v,e1,r⟩:=E.2 i d q
   exact ⟨v,e1,Zae.ok h S r⟩
theorem Zg {i j}:C3 X (.Constant (.int i) j pos) (eC (.int i)):=Zmi.imp fun σ H Q ⟨ι,M,env,S,E,h⟩=>Zae.ok h S Rep.int
theorem ZeC {i j}:C3 X (.Constant (.bool i) j pos) (eC (.bl i)):=ZoM.imp fun σ H Q ⟨ι,M,env,S,E,h⟩=>Zae.ok h S Rep.bl
theorem Zn6 {j}:C3 X (.Constant .none j pos) (eC .non):=ZmY.imp fun σ H Q ⟨ι,M,env,S,E,h⟩=>Zae.ok h S Rep.non
theorem Ze1 {x:Str} {cs:List Nat} {j} (hx:x = ⟨cs.toArray⟩:=by decide +kernel):C3 X (.Constant (.str x) j pos) (eC (.str cs)):=ZmX.imp fun σ H Q zz1=>by
 obtain ⟨ι,M,env,S,E,h⟩:=zz1
 subst hx
 exact Zae.ok h S Rep.str
theorem Zu {op:Operator} {q:D → D → Store → R3 D} (ho:OpR X (binaryOp op) (r2 X.K q)) (ha:C3 X a f) (hb:C3 X b g):C3 X (.BinOp a op b pos) (e2 q f g):=(Zog ho ha hb).imp ZgL
theorem ZiV {op:UnaryOp} {q:D → Store → R3 D} (ho:UnR X (unaryOp op) (r1 X.K q)) (ha:C3 X a f):C3 X (.UnaryOp op a pos) (e1 q f):=(ZnZ ho ha).imp Zm9
theorem ZlZ {op:CmpOp} {q:D → D → Store → R3 D} (ho:OpR X (compareOp op) (r2 X.K q)) (ha:C3 X a f) (hb:C3 X b g) (hm:behindInMarks op b = false:=by rfl):C3 X (.Compare a [op] [b] pos) (e2 q f g):=(ZkV ho ha hb hm).imp ZgL
theorem Zgu {K:PySem.W.Frag} {H:Hp} {ι:List Addr} {Q:Bool → Hp → Prop} {r:R3 D} (h:Zfz K H ι Q r):Zae K H ι (fun x H'=>∃ k,x = .bl k ∧ Q k H') r:=by
 cases r with
 | ok d M=>
  cases d with
  | bl b=>exact fun v H' ι' e S r=>⟨b,r.bl_inv,h H' ι' e S⟩
  | _=>exact h.elim
 | exc x M=>exact h.elim
 | bad=>exact h.elim
theorem ZbX (h:C3 X e f) (he:∀ whole,isTrue e X.env whole = (do let v ← whole; standAt e.pos; holding [v] (truthy v)):=by intro _; rfl):CT X e f:=(Znm h he).imp fun σ H Q ⟨ι,M,env,S,E,h⟩=>⟨ι,M,env,S,E,Zgu h⟩
theorem ZaU {op:CmpOp} {q:D → D → Store → R3 D} (ho:OpR X (compareOp op) (r2 X.K q)) (ha:C3 X a f) (hb:C3 X b g) (hm:behindInMarks op b = false:=by rfl):CT X (.Compare a [op] [b] pos) (e2 q f g):=
 (Zlx ho ha hb hm).imp fun σ H Q ⟨ι,M,env,S,E,h⟩=>ZgL σ H _ ⟨ι,M,env,S,E,Zgu h⟩
end
end L3
namespace L3
open PySem PySem.Spec PyProof.Rows L2
section
variable {X:Cx} {a b c e o:Expr} {es rest:List Expr} {pos p:Pos} {f g h:E3} {gl:EL3}
theorem Zip {op} (h:C3 X a f):C3 X (.BoolOp op [a] pos) f:=Znw h
theorem ZhF (ha:C3 X a f) (hb:C3 X (.BoolOp .And (b :: rest) pos) g):C3 X (.BoolOp .And (a :: b :: rest) pos) (Zdd f g):=(Zml ha hb).imp fun σ H Q zz1=>by
 obtain ⟨ι,M,env,S,E,h⟩:=zz1
 obtain ⟨d,M1,e1,h⟩:=Zae.bind h
 refine ⟨ι,M,env,S,E,?_⟩
 rw [e1]
 intro v H1 ι1 x1 S1 r1
 cases d with
 | bl k=>
  refine ⟨k,r1.bl_inv,?_⟩
  cases k with
  | true=>rw [if_pos rfl]; exact ⟨ι1,M1,env,S1,E.mono x1,h.up x1⟩
  | false=>rw [if_neg (by decide)]; exact Zae.ok (h.up x1) S1 Rep.bl
 | _=>exact h.elim
theorem Zl6 (ha:C3 X a f):C3 X (.UnaryOp .Not a pos) (e1 Za2 f):=(Zmp ha).imp fun σ H Q zz1=>by
 obtain ⟨ι,M,env,S,E,h⟩:=zz1
 obtain ⟨d,M1,e1,h⟩:=Zae.bind h
 refine ⟨ι,M,env,S,E,?_⟩
 rw [e1]
 intro v H1 ι1 x1 S1 r1
 cases d with
 | bl k=>exact ⟨k,r1.bl_inv,Zae.ok (h.up x1) S1 Rep.bl⟩
 | _=>exact h.elim
noncomputable def CW (X:Cx) (e:Expr) (f:E3):Prop:=PW X e (tTf X.K f)
theorem CW.ct (h:CW X e f):CT X e f:=PW.pt h
theorem PW.imp {t t':TT} (h:PW X e t) (i:∀ σ H Q,t' σ H Q → t σ H Q):PW X e t':=fun wh pins s σ H Q I q=>h wh pins s σ H Q I (i σ H Q q)
theorem Zio (ha:CT X a f):CW X (.BoolOp .And [a] pos) f:=Zlv ha
theorem ZfQ (ha:CT X a f):CW X (.BoolOp .Or [a] pos) f:=Zmw ha
theorem Zjl (ha:CT X a f) (hb:CW X (.BoolOp .And (b :: rest) pos) g):CW X (.BoolOp .And (a :: b :: rest) pos) (Zdd f g):=PW.imp (ZmD ha hb) fun σ H Q zz1=>by
 obtain ⟨ι,M,env,S,E,h⟩:=zz1
 obtain ⟨d,M1,e1,h⟩:=Zfz.bind h
 refine ⟨ι,M,env,S,E,?_⟩
 rw [e1]
 cases d with
 | bl k=>
  intro H1 ι1 x1 S1
  cases k with
  | true=>rw [if_pos rfl]; exact ⟨ι1,M1,env,S1,E.mono x1,h.up x1⟩
  | false=>rw [if_neg (by decide)]; exact h H1 ι1 x1 S1
 | _=>exact h.elim
theorem Zgo (ha:CT X a f) (hb:CW X (.BoolOp .Or (b :: rest) pos) g):CW X (.BoolOp .Or (a :: b :: rest) pos) (eOr f g):=PW.imp (ZoH ha hb) fun σ H Q zz1=>by
 obtain ⟨ι,M,env,S,E,h⟩:=zz1
 obtain ⟨d,M1,e1,h⟩:=Zfz.bind h
 refine ⟨ι,M,env,S,E,?_⟩
 rw [e1]
 cases d with
 | bl k=>
  intro H1 ι1 x1 S1
  cases k with
  | false=>rw [if_neg (by decide)]; exact ⟨ι1,M1,env,S1,E.mono x1,h.up x1⟩
  | true=>rw [if_pos rfl]; exact h H1 ι1 x1 S1
 | _=>exact h.elim
theorem ZcC (ha:CT X a f):CT X (.UnaryOp .Not a pos) (e1 Za2 f):=(Zmk ha).imp fun σ H Q zz1=>by
 obtain ⟨ι,M,env,S,E,h⟩:=zz1
 obtain ⟨d,M1,e1,h⟩:=Zfz.bind h
 refine ⟨ι,M,env,S,E,?_⟩
 rw [e1]
 cases d with
 | bl k=>exact fun H1 ι1 x1 S1=>h H1 ι1 x1 S1
 | _=>exact h.elim
theorem ZpA (hc:CT X c f) (ha:C3 X a g) (hb:C3 X b h):C3 X (.IfExp c a b pos) (eIf f g h):=(Zjn hc ha hb).imp fun σ H Q zz1=>by
 obtain ⟨ι,M,env,S,E,h⟩:=zz1
 obtain ⟨d,M1,e1,h⟩:=Zae.bind h
 refine ⟨ι,M,env,S,E,?_⟩
 rw [e1]
 cases d with
 | bl k=>
  intro H1 ι1 x1 S1
  cases k with
  | true=>rw [if_pos rfl]; exact ⟨ι1,M1,env,S1,E.mono x1,h.up x1⟩
  | false=>rw [if_neg (by decide)]; exact ⟨ι1,M1,env,S1,E.mono x1,h.up x1⟩
 | _=>exact h.elim
theorem Zf:CA X [] Ze:=ZeQ.imp fun σ H Q ⟨ι,M,env,S,E,h⟩=>h [] H ι Ext.refl S Zq.nil
theorem Zc (ha:C3 X e f) (hr:CA X es gl) (hs:starEach (e :: es) X.env = (false,eval e X.env) :: starEach es X.env:=by rfl):CA X (e :: es) (Za f gl):=(Zcr ha hr hs).imp fun σ H Q zz1=>by
 obtain ⟨ι,M,env,S,E,h⟩:=zz1
 obtain ⟨d,M1,e1,h⟩:=Zja.bind h
 obtain ⟨ds,M2,e2,h⟩:=Zja.bind h
 refine ⟨ι,M,env,S,E,?_⟩
 rw [e1]
 intro v H1 ι1 x1 S1 r1
 refine ⟨ι1,M1,env,S1,E.mono x1,?_⟩
 rw [e2]
 intro vs H2 ι2 x2 S2 r2
 exact h (v :: vs) H2 ι2 (x1.trans x2) S2 (Zq.cons (r1.mono x2) r2)
theorem ZdA {x1} (h:CA X es gl):C3 X (.Tuple es x1 pos) (Zcv gl):=(Zkq h).imp fun σ H Q zz1=>by
 obtain ⟨ι,M,env,S,E,h⟩:=zz1
 obtain ⟨ds,M1,e1,h⟩:=Zae.bind h
 refine ⟨ι,M,env,S,E,?_⟩
 rw [e1]
 intro vs H1 ι1 x1 S1 r1
 by_cases hz:ds.length ≤ SZ
 ·rw [if_pos hz] at h
  refine ⟨by rw [r1.length]; exact Nat.le_trans hz Zbb,fun p hp=>?_⟩
  obtain ⟨x2,S2,r2⟩:=S1.tupl hp r1
  exact h _ _ _ (x1.trans x2) S2 r2
 ·rw [if_neg hz] at h; exact h.elim
theorem ZaE (h:CA X es gl):C3 X (.List es pos) (Zag gl):=(Zke h).imp fun σ H Q zz1=>by
 obtain ⟨ι,M,env,S,E,h⟩:=zz1
 obtain ⟨ds,M1,e1,h⟩:=Zae.bind h
 refine ⟨ι,M,env,S,E,?_⟩
 rw [e1]
 intro vs H1 ι1 x1 S1 r1
 by_cases hz:ds.length ≤ SZ
 ·rw [if_pos hz] at h
  refine ⟨by rw [r1.length]; exact Nat.le_trans hz Zbb,fun p hp=>?_⟩
  obtain ⟨x2,S2,r2⟩:=S1.lst hp r1
  exact h _ _ _ (x1.trans x2) S2 r2
 ·rw [if_neg hz] at h; exact h.elim
theorem ZjL {K:PySem.W.Frag} {q:List D → Store → R3 D} (σ:St) (H:Hp) (Q:VK) (h:tOf K (Zas q gl) σ H Q):tCB (rB K q) (tAf K gl) σ H Q:=by
 obtain ⟨ι,M,env,S,E,h⟩:=h
 obtain ⟨ds,M1,e1,h⟩:=Zae.bind h
 refine ⟨ι,M,env,S,E,?_⟩
 rw [e1]
 intro vs H1 ι1 x1 S1 r1
 exact ⟨ι1,M1,ds,S1,r1,h.up x1⟩
theorem Zbz {x:Str} {id:String} {q:List D → Store → R3 D} (hc:ZbK X (.builtin id) (rB X.K q)) (hm:X.mg x = none) (hv:bootBuiltins x = some (.builtin id)) (ha:CA X (e :: es) gl) (hg:Gl X x:=by rfl) (hn:x ≠ "__name__":=by decide) (hdb:(x == ("__debug__":Str)) = false:=by decide)
  (he:starEach (e :: es) X.env = (false,eval e X.env) :: starEach es X.env:=by rfl) (hpl:(backTo pos (starEach es X.env)).any (·.1) = false:=by rfl):C3 X (.Call (.Name x p) (e :: es) [] pos) (Zas q gl):=(ZeF hc hg hm hv ha hn hdb he hpl).imp ZjL
theorem Zft {x:Str} {T:String} {q:List D → Store → R3 D} (hc:ZbK X (.type T) (rB X.K q)) (hm:X.mg x = none) (hv:bootBuiltins x = some (.type T)) (ha:CA X (e :: es) gl) (hg:Gl X x:=by rfl) (hn:x ≠ "__name__":=by decide) (hdb:(x == ("__debug__":Str)) = false:=by decide)
  (he:starEach (e :: es) X.env = (false,eval e X.env) :: starEach es X.env:=by rfl) (hpl:(backTo pos (starEach es X.env)).any (·.1) = false:=by rfl):C3 X (.Call (.Name x p) (e :: es) [] pos) (Zas q gl):=(Zji hc hg hm hv ha hn hdb he hpl).imp ZjL
theorem Za3 (hr:IxR X (r2 X.K Zr)) (ha:C3 X a f) (hb:C3 X b g) (hs:Ziz b:=by exact fun _ _=>rfl):C3 X (.Subscript a b pos) (e2 Zr f g):=(ZoG hr ha hb hs).imp ZgL
theorem Zbc:CO X none Zak:=Zk0.imp fun σ H Q ⟨ι,M,env,S,E,h⟩=>h H ι Ext.refl S
theorem ZaB (h:C3 X e f):CO X (some e) (Zx f):=(Zlm h).imp fun σ H Q zz1=>by
 obtain ⟨ι,M,env,S,E,h⟩:=zz1
 obtain ⟨d,M1,e1,h⟩:=ZjX.bind h
 refine ⟨ι,M,env,S,E,?_⟩
 rw [e1]
 intro v H1 ι1 x1 S1 r1
 cases d with
 | int i=>exact ⟨i,r1.int_inv,h H1 ι1 x1 S1⟩
 | _=>exact h.elim
theorem Zdi {lo hi:Option Expr} {ol oh:EO3} {p2:Pos} (hr:SlR X (rS X.K)) (he:C3 X e f) (hl:CO X lo ol) (hu:CO X hi oh):C3 X (.Subscript e (.Slice lo hi none p2) pos) (eSl f ol oh):=(ZjU hr he hl hu).imp fun σ H Q zz1=>by
 obtain ⟨ι,M,env,S,E,h⟩:=zz1
 obtain ⟨d,M1,e1,h⟩:=Zae.bind h
 obtain ⟨l,M2,e2,h⟩:=Zae.bind h
 obtain ⟨u,M3,e3,h⟩:=Zae.bind h
 refine ⟨ι,M,env,S,E,?_⟩
 rw [e1]
 intro v H1 ι1 x1 S1 r1
 refine ⟨ι1,M1,env,S1,E.mono x1,?_⟩
 rw [e2]
 intro H2 ι2 x2 S2
 refine ⟨ι2,M2,env,S2,(E.mono x1).mono x2,?_⟩
 rw [e3]
 intro H3 ι3 x3 S3
 exact ⟨ι3,M3,d,S3,(r1.mono x2).mono x3,((h.up x1).up x2).up x3⟩
theorem Zat:CSs X [] Zam:=Zlo.imp fun D σ H ⟨ι,M,env,S,E,h⟩=>h σ H ι Ext.refl S E
theorem Zy {st:Stmt} {u:S3} (h:CS X st u):CSs X [st] u:=Ziw h
theorem Zh {st:Stmt} {sts:List Stmt} {u w:S3} (h1:CS X st u) (h2:CSs X sts w):CSs X (st :: sts) (Zw u w):=(Zhl h1 h2).imp fun D σ H zz1=>by
 obtain ⟨ι,M,env,S,E,h⟩:=zz1
 refine ⟨ι,M,env,S,E,?_⟩
 have h':Zf5 X.K H ι D (match u env M with | .nx env' M'=>w env' M' | o=>o):=h
 cases q:u env M with
 | nx env' M'=>rw [q] at h'; exact fun σ' H' ι' x S' E'=>⟨ι',M',env',S',E',h'.up x⟩
 | _=>rw [q] at h'; exact h'
theorem ZbS {c1:Expr} {x y:List Stmt} {u w:S3} (hc:CT X c1 f) (ha:CSs X x u) (hb:CSs X y w):CS X (.If c1 x y pos) (sIf f u w):=(Zma hc ha hb).imp fun D σ H zz1=>by
 obtain ⟨ι,M,env,S,E,h⟩:=zz1
 refine ⟨ι,M,env,S,E,?_⟩
 unfold sIf at h
 cases q:f env M with
 | ok d M1=>
  rw [q] at h
  cases d with
  | bl k=>
   intro H1 ι1 x1 S1
   cases k with
   | true=>rw [if_pos rfl]; exact ⟨ι1,M1,env,S1,E.mono x1,h.up x1⟩
   | false=>rw [if_neg (by decide)]; exact ⟨ι1,M1,env,S1,E.mono x1,h.up x1⟩
  | _=>exact h.elim
 | exc x M1=>rw [q] at h; exact h.elim
 | bad=>rw [q] at h; exact h.elim
theorem Zar (h:C3 X e f):CS X (.Return (some e) pos) (ZaF f):=(ZnB h).imp fun D σ H zz1=>by
 obtain ⟨ι,M,env,S,E,h⟩:=zz1
 refine ⟨ι,M,env,S,E,?_⟩
 unfold ZaF at h
 cases q:f env M with
 | ok d M1=>rw [q] at h; exact h
 | exc x M1=>rw [q] at h; exact h.elim
 | bad=>rw [q] at h; exact h.elim
theorem Zfl (h:C3 X e f) (hs:swapsWith e none pos.line X.env = pure false:=by rfl):CS X (.Expr e pos) (ZaS f):=(Ziv h hs).imp fun D σ H zz1=>by
 obtain ⟨ι,M,env,S,E,h⟩:=zz1
 refine ⟨ι,M,env,S,E,?_⟩
 unfold ZaS at h
 cases q:f env M with
 | ok d M1=>rw [q] at h; exact fun v H1 ι1 x1 S1 r1=>h σ H1 ι1 x1 S1 (E.mono x1)
 | exc x M1=>rw [q] at h; exact h.elim
 | bad=>rw [q] at h; exact h.elim
theorem Zan (i:Nat) {x:Str} {pos':Pos} (hN:X.N.Nodup) (he:C3 X e f) (hi:X.N[i]? = some x:=by rfl) (hx:Loc X.env.scope x:=by first | exact Or.inl rfl | exact Or.inr rfl) (hs:swapsWith e (some (.Name x pos')) pos.line X.env = pure false:=by rfl)
  (hf:X.fn x = true ∨ X.env.scope.names.lookup x = some .local:=by first | exact .inl rfl | exact .inr rfl):CS X (.Assign [.Name x pos'] e pos) (Zal i f):=(Zjt hN hi hx he hs hf).imp fun D σ H zz1=>by
 obtain ⟨ι,M,env,S,E,h⟩:=zz1
 refine ⟨ι,M,env,S,E,?_⟩
 unfold Zal at h
 cases q:f env M with
 | ok d M1=>rw [q] at h; exact fun v H1 ι1 x1 S1 r1=>h _ H1 ι1 x1 S1 ((E.mono x1).set i r1)
 | exc x M1=>rw [q] at h; exact h.elim
 | bad=>rw [q] at h; exact h.elim
end
noncomputable def sp3 (K:PySem.W.Frag) (n:Nat) (F:F3):Sp:=fun vs H Q _=>∃ ι M ds,Zaa K H ι M ∧ Zq K H ι ds vs ∧ ds.length = n ∧ Zae K H ι Q (F ds M)
section
variable {K:PySem.W.Frag} {H H':Hp} {ι ι':List Addr} {M M':Store}
mutual
theorem Rep.below:∀ {d:D} {v:V},Rep K H ι d v → L3.below ι.length d = true
 | .non,_,_=>rfl
 | .bl _,_,_=>rfl
 | .int _,_,_=>rfl
 | .str _,_,_=>rfl
 | .tup ds,_,h=>by
  obtain ⟨a,vs,_,_,r⟩:=h.tup_inv
  simp only [L3.below]
  exact Zq.belowL (ds:=ds) r
 | .scr ds,_,h=>by
  obtain ⟨a,vs,_,_,r⟩:=h.scr_inv
  simp only [L3.below]
  exact Zq.belowL (ds:=ds) r
 | .ref n,_,h=>by
  obtain ⟨a,q,_⟩:=h.ref_inv
  simp only [L3.below,decide_eq_true_eq]
  exact (List.getElem?_eq_some_iff.mp q).1
theorem Zq.belowL:∀ {ds:List D} {vs:List V},Zq K H ι ds vs → L3.belowL ι.length ds = true
 | [],_,_=>rfl
 | d :: ds,_,h=>by
  obtain ⟨v,ws,_,r,q⟩:=h.cons_inv
  simp only [L3.belowL,Bool.and_eq_true]
  exact ⟨Rep.below (d:=d) r,Zq.belowL (ds:=ds) q⟩
end
mutual
theorem Rep.cut {n:Nat}:∀ {d:D} {v:V},L3.below n d = true → Rep K H ι d v → Rep K H (ι.take n) d v
 | .non,_,_,h=>by simpa [Rep] using h
 | .bl _,_,_,h=>by simpa [Rep] using h
 | .int _,_,_,h=>by simpa [Rep] using h
 | .str _,_,_,h=>by simpa [Rep] using h
 | .tup ds,_,hb,h=>by
  obtain ⟨a,vs,rfl,s,r⟩:=h.tup_inv
  exact Rep.tup s (Zq.cut (ds:=ds) (by simpa only [L3.below] using hb) r)
 | .scr ds,_,hb,h=>by
  obtain ⟨a,vs,rfl,s,r⟩:=h.scr_inv
  simp only [Rep]
  exact ⟨a,vs,rfl,s,Zq.cut (ds:=ds) (by simpa only [L3.below] using hb) r⟩
 | .ref k,_,hb,h=>by
  obtain ⟨a,q,rfl⟩:=h.ref_inv
  refine Rep.ref ?_
  rw [List.getElem?_take_of_lt (by simpa [L3.below] using hb)]
  exact q
theorem Zq.cut {n:Nat}:∀ {ds:List D} {vs:List V},L3.belowL n ds = true → Zq K H ι ds vs → Zq K H (ι.take n) ds vs
 | [],_,_,h=>by simpa [Zq] using h
 | d :: ds,_,hb,h=>by
  obtain ⟨v,ws,rfl,r,q⟩:=h.cons_inv
  simp only [L3.belowL,Bool.and_eq_true] at hb
  exact Zq.cons (Rep.cut (d:=d) hb.1 r) (Zq.cut (ds:=ds) hb.2 q)
end
theorem Zd9.below {m:MO} {a:Addr} (h:Zd9 K H ι m a):ZeP ι.length m = true:=by
 cases m with
 | lst xs=>obtain ⟨vs,_,r⟩:=h; exact r.belowL
 | dct kvs=>obtain ⟨ws,_,_,r⟩:=h; exact r.belowL
 | fdct kvs=>obtain ⟨ws,_,_,r⟩:=h; exact r.belowL
 | ins c fs=>
  rcases h with ⟨_,_,gs,_,_,_,r⟩ | ⟨_,_,_,_,rfl⟩
  ·exact r.belowL
  ·rfl
theorem Zd9.cut {n:Nat} {m:MO} {a:Addr} (hb:ZeP n m = true) (h:Zd9 K H ι m a):Zd9 K H (ι.take n) m a:=by
 cases m with
 | lst xs=>obtain ⟨vs,q,r⟩:=h; exact ⟨vs,q,r.cut hb⟩
 | dct kvs=>obtain ⟨ws,q,r1,r2⟩:=h; exact ⟨ws,q,r1,r2.cut hb⟩
 | fdct kvs=>obtain ⟨ws,q,r1,r2⟩:=h; exact ⟨ws,q,r1,r2.cut hb⟩
 | ins c fs=>
  rcases h with ⟨C,dx,gs,q,c,r1,r2⟩ | h
  ·exact .inl ⟨C,dx,gs,q,c,r1,r2.cut hb⟩
  ·exact .inr h
theorem Zaa.cut {n:Nat} (S:Zaa K H ι M) (h:(M.take n).all (ZeP n) = true):Zaa K H (ι.take n) (M.take n):=by
 refine ⟨by simp [S.len],S.nd.sublist (List.take_sublist _ _),fun k m a h1 h2=>?_⟩
 have hk:k < n:=by
  have:=(List.getElem?_eq_some_iff.mp h1).1
  rw [List.length_take] at this
  exact Nat.lt_of_lt_of_le this (Nat.min_le_left _ _)
 have hb:ZeP n m = true:=List.all_eq_true.mp h m (List.mem_of_getElem? h1)
 rw [List.getElem?_take_of_lt hk] at h1 h2
 exact (S.obj k m a h1 h2).cut hb
theorem Zg0 {Q:VK} {d:D} {v:V} (S:Zaa K H ι M) (x:Ext K H ι H' ι') (S':Zaa K H' ι' M') (r:Rep K H' ι' d v) (h:Zae K H ι Q (ZbU M d M')):Q v H':=by
 unfold ZbU at h
 split at h
 ·rename_i c
  simp only [Bool.and_eq_true,Bool.or_eq_true,decide_eq_true_eq] at c
  have hall:(M'.take M.length).all (ZeP M.length) = true:=by
   rcases c.2 with e | e
   ·rw [e,List.all_eq_true]
    intro m hm
    obtain ⟨n,hn⟩:=List.getElem?_of_mem hm
    obtain ⟨a,q,w⟩:=S.at hn
    rw [← S.len]
    exact w.below
   ·exact e
  refine h v H' (ι'.take M.length) ⟨x.tup,x.scr,fun n a q=>?_,x.frz⟩ (S'.cut hall) (r.cut c.1)
  rw [List.getElem?_take_of_lt (by rw [← S.len]; exact (List.getElem?_eq_some_iff.mp q).1)]
  exact x.pre n a q
 ·exact h v H' ι' x S' r
end
theorem ZaT.start {K:PySem.W.Frag} {H:Hp} {ι:List Addr} {ds:List D} {vs:List V} (r:Zq K H ι ds vs) (n:Nat):ZaT K H ι (ds.map some ++ List.replicate n none) (vs.map some ++ List.replicate n none):=by
 refine ⟨by simp [r.length],fun i d h=>?_⟩
 by_cases hi:i < ds.length
 ·rw [List.getElem?_append_left (by simpa using hi),List.getElem?_map] at h
  cases q:ds[i]? with
  | none=>rw [q] at h; simp at h
  | some d'=>
   rw [q] at h
   simp at h
   subst h
   obtain ⟨v,e,z⟩:=r.get q
   refine ⟨v,?_,z⟩
   rw [List.getElem?_append_left (by simpa [r.length] using hi),List.getElem?_map,e]
   rfl
 ·rw [List.getElem?_append_right (by simpa using hi),List.getElem?_replicate] at h
  split at h <;> simp at h
section
variable {P:Program} {w:World} {K:PySem.W.Frag} {mg:Str → Option Value} {base:Heap}
theorem fn3 {x qual:Str} {st:Stmt} {f:Addr} {fd:FuncData} {N ps:List Str} {k:Nat} {body:S3} (F:Fun K x qual st f fd) (S:Zay N ps (Zj st))
  (hb:∀ (cdv:Value) (A:Around) (outer:List Env) (s:Shared) (H:Hp) (E:XK),ZbW k (A.deeper (envOfC qual (Zj st) s.heap.objs.size f cdv)) → CSs (Zfw CX0 P w K mg base N qual (Zj st) f cdv A outer s H E).nox (Zao st) body):
  ZcW P w K mg base CX0 (k + 1) f fd ps (sp3 K ps.length (mkF ps.length N.length body)):=by
 refine F.ok S (fun vs H Q E ⟨ι,M,ds,_,r,l,_⟩=>by rw [r.length,l]) fun cdv A outer s H vs Q E hr zz1=>?_
 obtain ⟨ι,M,ds,SR,r,l,h⟩:=zz1
 refine ⟨_,hb cdv A outer s H E hr,ι,M,ds.map some ++ List.replicate (N.length - ps.length) none,SR,?_,?_⟩
 ·have e:L2.start N vs = vs.map some ++ List.replicate (N.length - ps.length) none:=by unfold L2.start; rw [r.length,l]
  rw [e]
  exact ZaT.start r _
 ·unfold mkF at h
  rw [if_pos l] at h
  cases q:body (ds.map some ++ List.replicate (N.length - ps.length) none) M with
  | nx env' M'=>rw [q] at h; exact fun σ' H' ι' x S' E'=>Zg0 SR x S' Rep.non h
  | rt d M'=>rw [q] at h; exact fun v H' ι' x S' r'=>Zg0 SR x S' r' h
  | bk _ _=>rw [q] at h; exact h.elim
  | ct _ _=>rw [q] at h; exact h.elim
  | exc _ _=>rw [q] at h; exact h.elim
  | bad=>rw [q] at h; exact h.elim
noncomputable def Fn3 (P:Program) (w:World) (K:PySem.W.Frag) (mg:Str → Option Value) (base:Heap) (k:Nat) (x:Str) (ps:List Str) (F:F3):Prop:=
 (∀ ds M,ds.length ≠ ps.length → F ds M = .bad) ∧ ∃ f fd,mg x = some (.ref f) ∧ PySem.W.keepIn K (.ref f) = true ∧ Binds K fd ps [] ∧ ZcW P w K mg base CX0 k f fd ps (sp3 K ps.length F)
noncomputable def ZaH (K:PySem.W.Frag) (mg:Str → Option Value) (x:Str) (st:Stmt) (ps:List Str):Prop:=∃ f fd,Fun K x x st f fd ∧ mg x = some (.ref f) ∧ Binds K fd ps []
theorem Fn3.mono {j k:Nat} {x:Str} {ps:List Str} {F:F3} (h:Fn3 P w K mg base j x ps F) (l:j ≤ k):Fn3 P w K mg base k x ps F:=
 let ⟨n,f,fd,a,b,c,d⟩:=h; ⟨n,f,fd,a,b,c,d.mono l⟩
theorem Fn3.of {x:Str} {st:Stmt} {N ps:List Str} {k:Nat} {body:S3} (d:ZaH K mg x st ps) (S:Zay N ps (Zj st))
  (hb:∀ (f:Addr) (cdv:Value) (A:Around) (outer:List Env) (s:Shared) (H:Hp) (E:XK),ZbW k (A.deeper (envOfC x (Zj st) s.heap.objs.size f cdv)) → CSs (Zfw CX0 P w K mg base N x (Zj st) f cdv A outer s H E).nox (Zao st) body):
  Fn3 P w K mg base (k + 1) x ps (mkF ps.length N.length body):=by
 obtain ⟨f,fd,F,m,bi⟩:=d
 exact ⟨fun ds M h=>if_neg h,f,fd,m,F.kp,bi,fn3 F S (hb f)⟩
end
section
variable {X:Cx} {e:Expr} {es:List Expr} {pos p:Pos} {gl:EL3} {x:Str} {k:Nat} {ps:List Str} {F:F3}
theorem Zav (G:Fn3 X.prog X.w X.K X.mg X.base k x ps F) (hr:ZbW k X.A) (ha:CA X (e :: es) gl) (hg:Gl X x:=by rfl) (hdb:(x == ("__debug__":Str)) = false:=by decide)
  (he:starEach (e :: es) X.env = (false,eval e X.env) :: starEach es X.env:=by rfl) (hpl:(backTo pos (starEach es X.env)).any (·.1) = false:=by rfl):C3 X (.Call (.Name x p) (e :: es) [] pos) (Zt F gl):=by
 obtain ⟨hn,f,fd,m,kp,bi,ok⟩:=G
 refine (Zk1 ok hr hg m kp bi .nil ZoL ha hdb he hpl).imp fun σ H Q zz1=>?_
 obtain ⟨ι,M,env,S,E,h⟩:=zz1
 obtain ⟨ds,M1,e1,h⟩:=Zae.bind h
 refine ⟨ι,M,env,S,E,?_⟩
 rw [e1]
 intro vs H1 ι1 x1 S1 r1
 have hl:ds.length = ps.length:=by
  refine Decidable.byContradiction fun q=>?_
  rw [hn ds M1 q] at h
  exact h.elim
 exact ⟨ι1,M1,ds,S1,by rw [List.append_nil]; exact r1,hl,h.up x1⟩
end
end L3
namespace L3
open PySem PySem.Spec PyProof.Rows L2
noncomputable def tGf (K:PySem.W.Frag) (g:G3):TG:=fun v σ H Q=>∃ ι M env d env',Zaa K H ι M ∧ ZaT K H ι env σ ∧ Rep K H ι d v ∧ g d env = some env' ∧ ∀ σ',ZaT K H ι env' σ' → Q σ' H
noncomputable def tGs (K:PySem.W.Frag) (is:List Nat):TGs:=fun vs σ H Q=>∃ ι M env ds env',Zaa K H ι M ∧ ZaT K H ι env σ ∧ Zq K H ι ds vs ∧ bindAll is ds env = some env' ∧ ∀ σ',ZaT K H ι env' σ' → Q σ' H
noncomputable def CG (X:Cx) (tg:Expr) (g:G3):Prop:=PG X tg (tGf X.K g)
noncomputable def CGs (X:Cx) (tg:List Expr) (is:List Nat):Prop:=PGs X tg (tGs X.K is)
theorem PG.imp {X:Cx} {e:Expr} {t t':TG} (h:PG X e t) (i:∀ v σ H Q,t' v σ H Q → t v σ H Q):PG X e t':=fun pins s σ H v u Q I r q=>h pins s σ H v u Q I r (i v σ H Q q)
theorem PGs.imp {X:Cx} {e:List Expr} {t t':TGs} (h:PGs X e t) (i:∀ v σ H Q,t' v σ H Q → t v σ H Q):PGs X e t':=fun pins s σ H v u Q I r q=>h pins s σ H v u Q I r (i v σ H Q q)
section
variable {X:Cx} {e:Expr} {es:List Expr} {pos:Pos}
theorem ZcM (i:Nat) {x:Str} (hN:X.N.Nodup) (hi:X.N[i]? = some x:=by rfl) (hx:Loc X.env.scope x:=by first | exact Or.inl rfl | exact Or.inr rfl)
  (hf:X.fn x = true ∨ X.env.scope.names.lookup x = some .local:=by first | exact .inl rfl | exact .inr rfl):CG X (.Name x pos) (Zbt i):=PG.imp (ZiE hN hi hx hf) fun v σ H Q zz1=>by
 obtain ⟨ι,M,env,d,env',S,E,r,q,h⟩:=zz1
 cases q
 exact h _ (E.set i r)
theorem Zfi:CGs X [] []:=PGs.imp Zlu fun v σ H Q zz1=>by
 obtain ⟨ι,M,env,ds,env',S,E,r,q,h⟩:=zz1
 cases ds with
 | nil=>cases q; exact ⟨r.nil_inv,h σ E⟩
 | cons d ds=>cases q
theorem Zci (i:Nat) {is:List Nat} {x:Str} (hN:X.N.Nodup) (ht:CGs X es is) (hi:X.N[i]? = some x:=by rfl) (hx:Loc X.env.scope x:=by first | exact Or.inl rfl | exact Or.inr rfl)
  (hf:X.fn x = true ∨ X.env.scope.names.lookup x = some .local:=by first | exact .inl rfl | exact .inr rfl) (hs:(assignEach (.Name x pos :: es) X.env).map (·.2) = assign (.Name x pos) X.env :: (assignEach es X.env).map (·.2):=by rfl):
  CGs X (.Name x pos :: es) (i :: is):=PGs.imp (Zks (ZiE hN hi hx hf) ht hs) fun v σ H Q zz1=>by
 obtain ⟨ι,M,env,ds,env',S,E,r,q,h⟩:=zz1
 cases ds with
 | nil=>cases q
 | cons d ds=>
  obtain ⟨v,ws,rfl,r1,r2⟩:=r.cons_inv
  exact ⟨v,ws,rfl,ι,M,env.set i (some d),ds,env',S,E.set i r1,r2,q,h⟩
theorem Zig {is:List Nat} {k:Nat} (hc:X.calm = true) (h:CGs X es is) (hl:es.length = is.length:=by rfl) (hn:(assignEach es X.env).length = is.length:=by rfl) (hst:(assignEach es X.env).findIdx? (·.1) = none:=by rfl):CG X (.Tuple es k pos) (ZfG is):=
 PG.imp (ZmA (n:=is.length) hc h hn hst) fun v σ H Q zz1=>by
  obtain ⟨ι,M,env,d,env',S,E,r,q,h⟩:=zz1
  cases d with
  | tup ds=>
   obtain ⟨a,vs,rfl,s,r⟩:=r.tup_inv
   have hlen:∀ (is:List Nat) (ds:List D) (env env':Zad),bindAll is ds env = some env' → ds.length = is.length:=by
    intro is
    induction is with
    | nil=>intro ds env env' h; cases ds with | nil=>rfl | cons d ds=>cases h
    | cons i is ih=>intro ds env env' h; cases ds with | nil=>cases h | cons d ds=>simp [ih ds _ _ h]
   exact ⟨a,vs,rfl,s,by rw [r.length]; exact hlen _ _ _ _ q,ι,M,env,ds,env',S,E,r,q,h⟩
  | _=>cases q
end
noncomputable def Zk6 (K:PySem.W.Frag) (H:Hp) (ι:List Addr) (it:It3) (J:It):Prop:=∀ (i:Nat) H2 ι2 M2,Ext K H ι H2 ι2 → Zaa K H2 ι2 M2 → locked it M2 = true →
 (∀ d,it.items[i]? = some d → J.go i H2 ∧ ∀ x H3,J.yld i H2 x H3 → H3 = H2 ∧ Rep K H2 ι2 d x) ∧ (i = it.items.length → J.stop i H2)
noncomputable def ZiU (K:PySem.W.Frag) (H:Hp) (ι:List Addr) (R:It → Hp → Prop) (r:R3 It3):Prop:=match r with
 | .ok it M'=>∀ J H' ι',Ext K H ι H' ι' → Zaa K H' ι' M' → Zk6 K H' ι' it J → R J H'
 | _=>False
noncomputable def tIf (K:PySem.W.Frag) (g:I3):TI:=fun σ H R=>∃ ι M env,Zaa K H ι M ∧ ZaT K H ι env σ ∧ ZiU K H ι R (g env M)
noncomputable def CI (X:Cx) (tg e:Expr) (g:I3):Prop:=PI X tg e (tIf X.K g)
theorem PI.imp {X:Cx} {tg e:Expr} {t t':TI} (h:PI X tg e t) (i:∀ σ H Q,t' σ H Q → t σ H Q):PI X tg e t':=fun pins s σ H Q I q=>h pins s σ H Q I (i σ H Q q)
theorem PI.or {X:Cx} {tg e:Expr} {t t':TI} (h:PI X tg e t) (h':PI X tg e t'):PI X tg e (fun σ H R=>t σ H R ∨ t' σ H R):=fun pins s σ H Q I q=>q.elim (h pins s σ H Q I) (h' pins s σ H Q I)
theorem ZiU.bind {K:PySem.W.Frag} {H:Hp} {ι:List Addr} {α:Type} {Q:It → Hp → Prop} {r:R3 α} {k:α → Store → R3 It3} (h:ZiU K H ι Q (r.bind k)):∃ a M,r = .ok a M ∧ ZiU K H ι Q (k a M):=by
 cases r with
 | ok a M=>exact ⟨a,M,rfl,h⟩
 | exc x M=>exact h.elim
 | bad=>exact h.elim
section
variable {K:PySem.W.Frag} {H:Hp} {ι:List Addr}
end
section
variable {X:Cx} {tg e a b:Expr} {pos p:Pos} {f g:E3}
theorem Zmx (h:C3 X e f) (hs:PI X tg e (fun σ H R=>tOf X.K f σ H fun x H1=>∃ z:Str,x = .str z ∧ z.length ≤ SZ ∧ ∀ J,(∀ ι,Zk6 X.K H1 ι ⟨z.cps.toList.map fun c=>.str [c],none⟩ J) → R J H1)):CI X tg e (ZfS f):=
 PI.imp (PI.or (Zm3 h) (PI.or (Zlg h) hs)) fun σ H R zz1=>by
  obtain ⟨ι,M,env,S,E,h⟩:=zz1
  obtain ⟨d,M1,e1,h⟩:=ZiU.bind h
  cases d with
  | tup ds=>
   refine .inl ⟨ι,M,env,S,E,?_⟩
   rw [e1]
   intro v H1 ι1 x1 S1 r1
   obtain ⟨a,vs,rfl,s,r⟩:=r1.tup_inv
   refine ⟨a,rfl,⟨vs,s⟩,h _ H1 ι1 x1 S1 ?_⟩
   intro i H2 ι2 M2 x S2 _
   refine ⟨fun d hd=>?_,fun hl=>⟨vs,x.tup _ _ s,by rw [r.length,hl]; exact Nat.le_refl _⟩⟩
   obtain ⟨v,hv,rv⟩:=r.get hd
   refine ⟨⟨vs,v,x.tup _ _ s,hv⟩,fun y H3 hy=>⟨hy.1,?_⟩⟩
   have e:=hy.2 vs (x.tup _ _ s)
   rw [hv] at e
   cases e
   exact rv.mono x
  | scr ds=>
   refine .inr (.inl ⟨ι,M,env,S,E,?_⟩)
   rw [e1]
   intro v H1 ι1 x1 S1 r1
   obtain ⟨a,vs,rfl,s,r⟩:=r1.scr_inv
   refine ⟨a,rfl,⟨vs,s.sq⟩,h _ H1 ι1 x1 S1 ?_⟩
   intro i H2 ι2 M2 x S2 _
   refine ⟨fun d hd=>?_,fun hl=>⟨vs,(x.scr _ _ s).sq,by rw [r.length,hl]; exact Nat.le_refl _⟩⟩
   obtain ⟨v,hv,rv⟩:=r.get hd
   refine ⟨⟨vs,v,(x.scr _ _ s).sq,hv⟩,fun y H3 hy=>⟨hy.1,?_⟩⟩
   have e:=hy.2 vs (x.scr _ _ s).sq
   rw [hv] at e
   cases e
   exact rv.mono x
  | ref n=>
   refine .inr (.inl ⟨ι,M,env,S,E,?_⟩)
   rw [e1]
   intro v H1 ι1 x1 S1 r1
   cases hm:M1[n]? with
   | none=>simp only [hm] at h; exact h.elim
   | some o=>
    cases o with
    | dct kvs=>simp only [hm] at h; exact h.elim
    | fdct kvs=>simp only [hm] at h; exact h.elim
    | ins _ _=>simp only [hm] at h; exact h.elim
    | lst ds=>
     simp only [hm] at h
     obtain ⟨a,ha,rfl⟩:=r1.ref_inv
     obtain ⟨vs,q,r⟩:=S1.obj n _ a hm ha
     refine ⟨a,rfl,⟨vs,SqL.of q⟩,h _ H1 ι1 x1 S1 ?_⟩
     intro i H2 ι2 M2 x S2 lk
     have lk':M2[n]? = some (.lst ds):=of_decide_eq_true lk
     obtain ⟨vs2,q2,r2⟩:=S2.obj n _ a lk' (x.pre _ _ ha)
     refine ⟨fun d hd=>?_,fun hl=>⟨vs2,SqL.of q2,by rw [r2.length,hl]; exact Nat.le_refl _⟩⟩
     obtain ⟨v,hv,rv⟩:=r2.get hd
     refine ⟨⟨vs2,v,SqL.of q2,hv⟩,fun y H3 hy=>⟨hy.1,?_⟩⟩
     have e:=hy.2 vs2 (SqL.of q2)
     rw [hv] at e
     cases e
     exact rv
  | str z=>
   refine .inr (.inr ⟨ι,M,env,S,E,?_⟩)
   rw [e1]
   intro v H1 ι1 x1 S1 r1
   have hv:=r1.str_inv
   subst hv
   by_cases hz:z.length ≤ SZ
   ·simp only [if_pos hz] at h
    refine ⟨_,rfl,by simpa [Str.length] using hz,fun J hJ=>h J H1 ι1 x1 S1 ?_⟩
    simpa using hJ ι1
   ·simp only [if_neg hz] at h; exact h.elim
  | non=>exact h.elim
  | bl b=>exact h.elim
  | int i=>exact h.elim
theorem ZjM {K:PySem.W.Frag} {H:Hp} {ι:List Addr} (lo:Int) (n:Nat):Zk6 K H ι ⟨Zdr lo n,none⟩ (Itr lo n):=by
 intro i H2 ι2 M2 x S _
 refine ⟨fun d hd=>?_,fun hl=>?_⟩
 ·unfold Zdr at hd
  rw [List.getElem?_map] at hd
  cases q:(List.range n)[i]? with
  | none=>rw [q] at hd; cases hd
  | some k=>
   rw [q] at hd
   obtain ⟨hi,e⟩:=List.getElem?_eq_some_iff.mp q
   rw [List.getElem_range] at e
   subst e
   have hd':D.int (lo + (i:Int)) = d:=by simpa using hd
   subst hd'
   exact ⟨(by show i < n; simpa using hi),fun y H3 hy=>⟨hy.1,by rw [hy.2]; exact Rep.int⟩⟩
 ·show n ≤ i
  rw [hl]
  simp [Zdr]
theorem ZeW (hm:X.mg "range" = none) (h:C3 X a f) (hg:Gl X "range":=by rfl) (hs:starEach [a] X.env = [(false,eval a X.env)]:=by rfl) (hs':starEach (a :: []) X.env = (false,eval a X.env) :: starEach [] X.env:=by rfl):CI X tg (.Call (.Name "range" p) [a] [] pos) (ZcP f):=
 PI.imp (ZiX hg hm (Zc h Zf hs') hs) fun σ H R zz1=>by
  obtain ⟨ι,M,env,S,E,h⟩:=zz1
  obtain ⟨d,M1,e1,h⟩:=ZiU.bind h
  refine ⟨ι,M,env,S,E,?_⟩
  have e2:Za f Ze env M = .ok [d] M1:=by unfold Za; rw [e1]; rfl
  rw [e2]
  intro vs H1 ι1 x1 S1 r1
  obtain ⟨v,ws,rfl,r,q⟩:=r1.cons_inv
  have:=q.nil_inv
  subst this
  cases d with
  | int j=>
   have hv:=r.int_inv
   subst hv
   by_cases hj:j ≤ 1000000 ∧ -1000000 ≤ j
   ·simp only [if_pos hj] at h
    exact ⟨j,rfl,by omega,by omega,h _ H1 ι1 x1 S1 (ZjM 0 j.toNat)⟩
   ·simp only [if_neg hj] at h; exact h.elim
  | _=>exact h.elim
theorem ZeJ {iter:Expr} {body:List Stmt} {i:I3} {g:G3} {u:S3} (hxe:X.xe = fun _ _=>False) (hc:X.calm = true) (hi:CI X tg iter i) (hg:CG X tg g) (hb:CSs X body u) (hs:∀ x,foldedSetIterable iter X.env x = pure x:=by intro _; rfl):
  CS X (.For tg iter body [] pos) (Zfo i g u):=(ZkF (by rw [hxe]; exact PassesOwn.never) hc hi hg hb hs).imp fun D σ H zz1=>by
 obtain ⟨ι,M,env,S,E,h⟩:=zz1
 unfold Zfo at h
 cases q:i env M with
 | exc x M1=>rw [q] at h; exact h.elim
 | bad=>rw [q] at h; exact h.elim
 | ok it M1=>
  rw [q] at h
  refine ⟨ι,M,env,S,E,?_⟩
  rw [q]
  intro J H1 ι1 x1 S1 ok
  refine ⟨fun i m σ2 H2=>m = it.items.length - i ∧ i ≤ it.items.length ∧ ∃ ι2 M2 env2,Ext X.K H1 ι1 H2 ι2 ∧ Zaa X.K H2 ι2 M2 ∧ ZaT X.K H2 ι2 env2 σ2 ∧ Zf5 X.K H2 ι2 D (Zaw it g u (it.items.drop i) env2 M2),
   ⟨_,rfl,Nat.zero_le _,ι1,M1,env,Ext.refl,S1,E.mono x1,Zf5.up x1 h⟩,?_⟩
  rintro i m σ2 H2 ⟨rfl,hi,ι2,M2,env2,x2,S2,E2,h2⟩
  by_cases hlt:i < it.items.length
  ·have hd:it.items[i]? = some it.items[i]:=by simp [hlt]
   rw [List.drop_eq_getElem_cons hlt] at h2
   unfold Zaw at h2
   by_cases lk:locked it M2 = true
   ·rw [if_pos lk] at h2
    obtain ⟨go,yl⟩:=(ok i H2 ι2 M2 x2 S2 lk).1 _ hd
    cases eg:g it.items[i] env2 with
    | none=>rw [eg] at h2; exact h2.elim
    | some env3=>
     rw [eg] at h2
     refine .inr ⟨go,fun σ' H'=>∃ ι3 M3 env4,Ext X.K H2 ι2 H' ι3 ∧ Zaa X.K H' ι3 M3 ∧ ZaT X.K H' ι3 env4 σ' ∧ Zf5 X.K H' ι3 D (Zaw it g u (it.items.drop (i + 1)) env4 M3),
      fun σ' H' ⟨ι3,M3,env4,x3,S3,E3,h3⟩=>⟨it.items.length - (i + 1),lD 2 0x30113c2012a1c0c21 T1 (Nat.sub_add_cancel (lB 1 6991908881 T1 hlt)) (sbA _ _),rfl,hlt,ι3,M3,env4,x2.trans x3,S3,E3,h3⟩,fun x H' hy=>?_⟩
     obtain ⟨rfl,rx⟩:=yl x H' hy
     refine ⟨ι2,M2,env2,_,env3,S2,E2,rx,eg,fun σ' E'=>⟨ι2,M2,env3,S2,E',?_⟩⟩
     cases qu:u env3 M2 with
     | nx e' M'=>simp only [qu] at h2; exact fun σ' H' ι' x' S' E'=>⟨ι',M',e',x',S',E',h2.up x'⟩
     | ct e' M'=>simp only [qu] at h2; exact fun σ' H' ι' x' S' E'=>⟨ι',M',e',x',S',E',h2.up x'⟩
     | bk e' M'=>simp only [qu] at h2; exact h2
     | rt d M'=>simp only [qu] at h2; exact h2
     | exc x' M'=>simp only [qu] at h2; exact h2.elim
     | bad=>simp only [qu] at h2; exact h2.elim
   ·rw [if_neg lk] at h2; exact h2.elim
  ·have e0:i = it.items.length:=Nat.le_antisymm hi (Nat.le_of_not_lt hlt)
   subst e0
   rw [List.drop_length] at h2
   unfold Zaw at h2
   by_cases lk:locked it M2 = true
   ·rw [if_pos lk] at h2
    exact .inl ⟨(ok _ H2 ι2 M2 x2 S2 lk).2 rfl,h2 σ2 H2 ι2 Ext.refl S2 E2⟩
   ·rw [if_neg lk] at h2; exact h2.elim
end
end L3
namespace L3
open PySem PySem.Spec PyProof.Rows L2
theorem Zd4 {x y:List Nat}:decide (V.str ⟨x.toArray⟩ = V.str ⟨y.toArray⟩) = (x == y):=by
 by_cases h:x = y
 ·subst h; simp
 ·rw [decide_eq_false (fun e=>h (by injection e with e1; injection e1 with e2; simpa using congrArg Array.toList e2))]
  exact (beq_eq_false_iff_ne.mpr h).symm
section
variable {X:Cx}
theorem Zjm:OpR X (binaryOp .Add) (fun x y H Q=>∃ a b ys,x = .ref a ∧ y = .ref b ∧ SqT X.K H a [] ∧ SqT X.K H b ys ∧ Q (.ref b) H):=by
 intro pins s σ H x y v u Q I rx ry h
 obtain ⟨a,b,ys,rfl,rfl,ha,hb,q⟩:=h
 cases rx
 cases ry
 obtain ⟨its,r1,p1,_⟩:=I.tuple ha
 obtain ⟨its2,r2,p2,_⟩:=I.tuple hb
 cases r1
 obtain ⟨⟨cls,dd,data,sl⟩,ho,hc,n,hd⟩:=id p1
 obtain ⟨⟨cls2,dd2,data2,sl2⟩,ho2,hc2,n2,hd2⟩:=id p2
 simp only at hc hd hc2 hd2
 subst hc hd hc2 hd2
 exact concat_meets ⟨_,ho,rfl⟩ ⟨_,ho2,rfl⟩ noFill_tuple_add seq_tuple_add PySem.F.slot_tuple_add PySem.F.entry_tuple_add (PySem.F.args_tuple_add_2 _ _)
   (tuple_addW0 a b _ its2.toArray n n2 dd dd2 sl sl2 (by simp)) ⟨ho,ho2,⟨.ref b,H,I,rfl,q⟩⟩
theorem ZlF (x y:List Nat):(⟨x.toArray⟩:Str) ++ ⟨y.toArray⟩ = ⟨(x ++ y).toArray⟩:=by
 show Str.append _ _ = _
 unfold Str.append
 simp
theorem ZaR:OpR X (binaryOp .Add) (r2 X.K Zo):=OpR.imp (OpR.or ZmL (OpR.or Zh9 (OpR.or Zmg (OpR.or Zla Zjm)))) fun x y H Q zz1=>by
 obtain ⟨ι,M,a,b,S,ra,rb,h⟩:=zz1
 cases a with
 | int i=>cases b with
  | int j=>exact .inl ⟨i,j,ra.int_inv,rb.int_inv,Zae.ok h S Rep.int⟩
  | _=>exact h.elim
 | str x=>cases b with
  | str y=>
   simp only [Zo] at h
   split at h
   ·rename_i hz
    refine .inr (.inl ⟨_,_,ra.str_inv,rb.str_inv,?_,?_⟩)
    ·have:=Zbb
     simp only [Str.length,List.size_toArray]
     exact Nat.le_trans hz this
    ·rw [ZlF]; exact Zae.ok h S Rep.str
   ·exact h.elim
  | _=>exact h.elim
 | tup x=>cases b with
  | tup y=>
   simp only [Zo] at h
   split at h
   ·rename_i hz
    obtain ⟨p,vs,rfl,s,r⟩:=ra.tup_inv
    obtain ⟨q,ws,rfl,s',r'⟩:=rb.tup_inv
    by_cases hv:vs = []
    ·subst hv
     have hx:x = []:=by have:=r.length; simpa using this.symm
     subst hx
     exact .inr (.inr (.inr (.inr ⟨p,q,ws,rfl,rfl,s,s',Zae.ok h S (Rep.tup s' r')⟩)))
    ·refine .inr (.inr (.inr (.inl ⟨p,q,vs,ws,rfl,rfl,s,s',hv,?_,fun hw=>?_,fun hw p' hp=>?_⟩)))
     ·have:=Zbb
      rw [r.length,r'.length]
      exact Nat.le_trans hz this
     ·subst hw
      have hy:y = []:=by have:=r'.length; simpa using this.symm
      subst hy
      rw [List.append_nil] at h
      exact Zae.ok h S (Rep.tup s r)
     ·obtain ⟨x2,S2,r2⟩:=S.tupl hp (r.append r')
      exact h _ _ _ x2 S2 r2
   ·exact h.elim
  | _=>exact h.elim
 | ref n=>cases b with
  | ref m=>
   simp only [Zo] at h
   cases hn:M[n]? with
   | none=>simp only [hn] at h; exact h.elim
   | some o=>
    cases o with
    | dct _=>simp only [hn] at h; exact h.elim
    | fdct _=>simp only [hn] at h; exact h.elim
    | ins _ _=>simp only [hn] at h; exact h.elim
    | lst x=>
     cases hm:M[m]? with
     | none=>simp only [hn,hm] at h; exact h.elim
     | some o=>
      cases o with
      | dct _=>simp only [hn,hm] at h; exact h.elim
      | fdct _=>simp only [hn,hm] at h; exact h.elim
      | ins _ _=>simp only [hn,hm] at h; exact h.elim
      | lst y=>
       simp only [hn,hm] at h
       split at h
       ·rename_i hz
        obtain ⟨p,hp,rfl⟩:=ra.ref_inv
        obtain ⟨q,hq,rfl⟩:=rb.ref_inv
        obtain ⟨vs,e1,r1⟩:=S.obj n _ p hn hp
        obtain ⟨ws,e2,r2⟩:=S.obj m _ q hm hq
        refine .inr (.inr (.inl ⟨p,q,vs,ws,rfl,rfl,e1,e2,?_,fun p' hp'=>?_⟩))
        ·have:=Zbb
         rw [r1.length,r2.length]
         exact Nat.le_trans hz this
        ·obtain ⟨x2,S2,r3⟩:=S.lst hp' (r1.append r2)
         exact h _ _ _ x2 S2 r3
       ·exact h.elim
  | _=>exact h.elim
 | _=>cases b <;> exact h.elim
theorem Zdn:OpR X (binaryOp .Sub) (r2 X.K ZaJ):=OpR.imp ZmJ fun x y H Q zz1=>by
 obtain ⟨ι,M,a,b,S,ra,rb,h⟩:=zz1
 cases a <;> cases b <;> first | exact h.elim | exact ⟨_,_,ra.int_inv,rb.int_inv,Zae.ok h S Rep.int⟩
theorem Zba:OpR X (binaryOp .Mod) (r2 X.K Zab):=OpR.imp ZnA fun x y H Q zz1=>by
 obtain ⟨ι,M,a,b,S,ra,rb,h⟩:=zz1
 cases a with
 | int i=>cases b with
  | int j=>
   simp only [Zab] at h
   split at h
   ·rename_i hj
    exact ⟨i,j,ra.int_inv,rb.int_inv,hj,Zae.ok h S Rep.int⟩
   ·exact h.elim
  | _=>exact h.elim
 | _=>cases b <;> exact h.elim
theorem ZbY:OpR X (binaryOp .FloorDiv) (r2 X.K Zaq):=OpR.imp ZkX fun x y H Q zz1=>by
 obtain ⟨ι,M,a,b,S,ra,rb,h⟩:=zz1
 cases a with
 | int i=>cases b with
  | int j=>
   simp only [Zaq] at h
   split at h
   ·rename_i hj
    exact ⟨i,j,ra.int_inv,rb.int_inv,hj,Zae.ok h S Rep.int⟩
   ·exact h.elim
  | _=>exact h.elim
 | _=>cases b <;> exact h.elim
theorem ZjE:OpR X (binaryOp .Pow) (r2 X.K Ze5):=OpR.imp ZmT fun x y H Q zz1=>by
 obtain ⟨ι,M,a,b,S,ra,rb,h⟩:=zz1
 cases a with
 | int i=>cases b with
  | int j=>
   simp only [Ze5] at h
   split at h
   ·rename_i hj
    exact ⟨i,j,ra.int_inv,rb.int_inv,⟨hj.1,iN [] [_] 1 0xf42405b083e83b081 T1 hj.2.1,by have:=hj.2.2; omega⟩,Zae.ok h S Rep.int⟩
   ·exact h.elim
  | _=>exact h.elim
 | _=>cases b <;> exact h.elim
theorem Zgm:UnR X (unaryOp .USub) (r1 X.K Zb5):=UnR.imp ZmH fun x H Q zz1=>by
 obtain ⟨ι,M,a,S,ra,h⟩:=zz1
 cases a with
 | int i=>exact ⟨i,ra.int_inv,Zae.ok h S Rep.int⟩
 | _=>exact h.elim
theorem Zkw:OpR X (compareOp .Lt) (r2 X.K ZcQ):=OpR.imp Zot fun x y H Q zz1=>by
 obtain ⟨ι,M,a,b,S,ra,rb,h⟩:=zz1
 cases a <;> cases b <;> first | exact h.elim | exact ⟨_,_,ra.int_inv,rb.int_inv,Zae.ok h S Rep.bl⟩
theorem Zk3:OpR X (compareOp .Gt) (r2 X.K Zdq):=OpR.imp Zox fun x y H Q zz1=>by
 obtain ⟨ι,M,a,b,S,ra,rb,h⟩:=zz1
 cases a <;> cases b <;> first | exact h.elim | exact ⟨_,_,ra.int_inv,rb.int_inv,Zae.ok h S Rep.bl⟩
end
theorem units_in1 (A:Around):A.in1.units = A.units + 1:=rfl
section
variable {X:Cx} {pins:List (Addr × Obj)} {σ:St} {H:Hp} {s:Shared} {ι:List Addr}
theorem Zb3 {e:Nat → Bool}:∀ {x y:List D},x.length = y.length → (∀ (j:Nat) a b,x[j]? = some a → y[j]? = some b → e j = deq a b) → (List.range x.length).all e = Zbn x y:=by
 intro x
 induction x generalizing e with
 | nil=>intro y h _; cases y with | nil=>rfl | cons _ _=>simp at h
 | cons a x ih=>
  intro y h he
  cases y with
  | nil=>simp at h
  | cons b y=>
   rw [List.length_cons,List.range_succ_eq_map,List.all_cons,List.all_map,he 0 a b rfl rfl]
   rw [Zbn]
   congr 1
   exact ih (e:=e ∘ Nat.succ) (by simpa using h) fun j a' b' h1 h2=>he (j + 1) a' b' (by simpa using h1) (by simpa using h2)
theorem Zc2:∀ {x y:List D},Zbn x y = true → x.length = y.length
 | [],[],_=>rfl
 | [],_ :: _,h=>by simp [Zbn] at h
 | _ :: _,[],h=>by simp [Zbn] at h
 | a :: x,b :: y,h=>by
  simp only [Zbn,Bool.and_eq_true] at h
  simp [Zc2 h.2]
theorem Rep.fun1 (I:Inv X pins σ H s):∀ (n:Nat) (a b:D) (v:V),Zai n a = true → Zai n b = true → Rep X.K H ι a v → Rep X.K H ι b v → deq a b = true:=by
 intro n
 induction n with
 | zero=>
  intro a b v ha hb r q
  cases a with
  | non=>have:=r.non_inv; subst this; cases b <;> simp_all [Zai,Rep,deq]
  | bl x=>have:=r.bl_inv; subst this; cases b <;> simp_all [Zai,Rep,deq]
  | int x=>have:=r.int_inv; subst this; cases b <;> simp_all [Zai,Rep,deq]
  | str x=>have:=r.str_inv; subst this; cases b <;> simp_all [Zai,Rep,deq]
  | _=>simp [Zai] at ha
 | succ n ih=>
  intro a b v ha hb r q
  cases a with
  | non=>have:=r.non_inv; subst this; cases b <;> simp_all [Zai,Rep,deq]
  | bl x=>have:=r.bl_inv; subst this; cases b <;> simp_all [Zai,Rep,deq]
  | int x=>have:=r.int_inv; subst this; cases b <;> simp_all [Zai,Rep,deq]
  | str x=>have:=r.str_inv; subst this; cases b <;> simp_all [Zai,Rep,deq]
  | tup ds=>
   obtain ⟨p,vs,rfl,s1,r1⟩:=r.tup_inv
   cases b with
   | tup es=>
    obtain ⟨p',ws,e,s2,r2⟩:=q.tup_inv
    cases e
    have e:=I.tuple_inj s1 s2
    subst e
    rw [deq]
    have h1:ds.all (Zai n) = true:=ha
    have h2:es.all (Zai n) = true:=hb
    have key:∀ (ds es:List D) (vs:List V),ds.all (Zai n) = true → es.all (Zai n) = true → Zq X.K H ι ds vs → Zq X.K H ι es vs → Zbn ds es = true:=by
     intro ds
     induction ds with
     | nil=>intro es vs _ _ r1 r2; have:=r1.nil_inv; subst this; cases es with | nil=>rfl | cons _ _=>obtain ⟨_,_,e,_⟩:=r2.cons_inv; cases e
     | cons d ds ih2=>
      intro es vs h1 h2 r1 r2
      obtain ⟨v,ws,rfl,q1,q2⟩:=r1.cons_inv
      cases es with
      | nil=>have:=r2.nil_inv; cases this
      | cons e es=>
       obtain ⟨v',ws',z,q3,q4⟩:=r2.cons_inv
       cases z
       rw [List.all_cons,Bool.and_eq_true] at h1 h2
       rw [Zbn,ih d e v h1.1 h2.1 q1 q3,ih2 es ws h1.2 h2.2 q2 q4]
       rfl
    exact key ds es vs h1 h2 r1 r2
   | non=>have:=q.non_inv; cases this
   | bl _=>have:=q.bl_inv; cases this
   | int _=>have:=q.int_inv; cases this
   | str _=>have:=q.str_inv; cases this
   | _=>simp [Zai] at hb
  | _=>simp [Zai] at ha
theorem Zc6 (A:Around) (a b:D) (x y:V) (u v:Value) (ha:Zem a = true) (hb:Zem b = true) (ra:Rep X.K H ι a x) (rb:Rep X.K H ι b y) (ru:RelV x u) (rv:RelV y v):SeqAt.EqAt A s u v (deq a b):=by
 cases a with
 | non=>have:=ra.non_inv; subst this; cases ru; cases b with
  | non=>have:=rb.non_inv; subst this; cases rv; exact SeqAt.EqAt.same _
  | bl k=>have:=rb.bl_inv; subst this; cases rv; exact SeqAt.EqAt.none_bool _
  | int k=>have:=rb.int_inv; subst this; obtain ⟨t,rfl⟩:=rv; exact SeqAt.EqAt.none_int _ _
  | str k=>have:=rb.str_inv; subst this; obtain ⟨t,rfl⟩:=rv; exact SeqAt.EqAt.none_str _ _
  | _=>simp [Zem] at hb
 | bl i=>have:=ra.bl_inv; subst this; cases ru; cases b with
  | non=>have:=rb.non_inv; subst this; cases rv; exact SeqAt.EqAt.bool_none _
  | bl k=>have:=rb.bl_inv; subst this; cases rv; exact SeqAt.EqAt.bool_bool _ _
  | int k=>have:=rb.int_inv; subst this; obtain ⟨t,rfl⟩:=rv; exact SeqAt.EqAt.bool_int _ _ _
  | str k=>have:=rb.str_inv; subst this; obtain ⟨t,rfl⟩:=rv; exact SeqAt.EqAt.bool_str _ _ _
  | _=>simp [Zem] at hb
 | int i=>have:=ra.int_inv; subst this; obtain ⟨t0,rfl⟩:=ru; cases b with
  | non=>have:=rb.non_inv; subst this; cases rv; exact SeqAt.EqAt.int_none _ _
  | bl k=>have:=rb.bl_inv; subst this; cases rv; exact SeqAt.EqAt.int_bool _ _ _
  | int k=>have:=rb.int_inv; subst this; obtain ⟨t,rfl⟩:=rv; exact SeqAt.EqAt.int_int _ _ _ _
  | str k=>have:=rb.str_inv; subst this; obtain ⟨t,rfl⟩:=rv; exact SeqAt.EqAt.int_str _ _ _ _
  | _=>simp [Zem] at hb
 | str i=>have:=ra.str_inv; subst this; obtain ⟨t0,rfl⟩:=ru; cases b with
  | non=>have:=rb.non_inv; subst this; cases rv; exact SeqAt.EqAt.str_none _ _
  | bl k=>have:=rb.bl_inv; subst this; cases rv; exact SeqAt.EqAt.str_bool _ _ _
  | int k=>have:=rb.int_inv; subst this; obtain ⟨t,rfl⟩:=rv; exact SeqAt.EqAt.str_int _ _ _ _
  | str k=>have:=rb.str_inv; subst this; obtain ⟨t,rfl⟩:=rv; exact (by
    have e:deq (.str i) (.str k) = ((⟨i.toArray⟩:Str) == ⟨k.toArray⟩):=by
     rw [deq,← Zd4]
     by_cases h:(⟨i.toArray⟩:Str) = ⟨k.toArray⟩
     ·simp [h]
     ·simp [h]
    rw [e]
    exact SeqAt.EqAt.str_str _ _ _ _)
  | _=>simp [Zem] at hb
 | _=>simp [Zem] at ha
theorem ZgZ (I:Inv X pins σ H s):∀ (n:Nat) (A:Around) (a b:D) (x y:V) (u v:Value),A.units + n + 1 < cLine → Zai n a = true → Zai n b = true → Rep X.K H ι a x → Rep X.K H ι b y → RelV x u → RelV y v → SeqAt.EqAt A s u v (deq a b):=by
 intro n
 induction n with
 | zero=>
  intro A a b x y u v hu ha hb ra rb ru rv
  have f:∀ d:D,Zai 0 d = true → Zem d = true:=fun d h=>by cases d <;> simp_all [Zai,Zem]
  exact Zc6 A a b x y u v (f a ha) (f b hb) ra rb ru rv
 | succ n ih=>
  intro A a b x y u v hu ha hb ra rb ru rv
  have hu0:A.units + 0 + 1 < cLine:=lC 1 0x2ae0cc12aa1c0cc11 T1 hu
  have hu1:A.units < cLine:=lB 1 1104257534993 T1 hu0
  cases a with
  | tup ds=>
   obtain ⟨p,vs,rfl,s1,r1⟩:=ra.tup_inv
   cases ru
   obtain ⟨its,rvs,ht,_⟩:=I.tuple s1
   have it1:s.heap.IsTuple p its.toArray:=ht
   cases b with
   | tup es=>
    obtain ⟨p',ws,rfl,s2,r2⟩:=rb.tup_inv
    cases rv
    obtain ⟨its2,rws,ht2,_⟩:=I.tuple s2
    have it2:s.heap.IsTuple p' its2.toArray:=ht2
    by_cases hp:p = p'
    ·subst hp
     rw [Rep.fun1 I (n + 1) _ _ _ ha hb ra rb]
     exact SeqAt.EqAt.same _
    ·refine SeqAt.EqAt.of_refs hp ?_
     have e1:its.length = ds.length:=by rw [← rvs.length,r1.length]
     have e2:its2.length = es.length:=by rw [← rws.length,r2.length]
     have key:((List.range (min its.toArray.size its2.toArray.size)).all (fun j=>match ds[j]?,es[j]? with | some a,some b=>deq a b | _,_=>false) && its.toArray.size == its2.toArray.size) = deq (.tup ds) (.tup es):=by
      rw [deq,List.size_toArray,List.size_toArray,e1,e2]
      by_cases hl:ds.length = es.length
      ·rw [hl,Nat.min_self,beq_self_eq_true,Bool.and_true,← hl]
       exact Zb3 hl fun j a b h1 h2=>by rw [h1,h2]
      ·have z:Zbn ds es = false:=by
        cases q:Zbn ds es with
        | false=>rfl
        | true=>exact absurd (Zc2 q) hl
       rw [z,beq_eq_false_iff_ne.mpr hl,Bool.and_false]
     rw [← key]
     refine SeqAt.RcAt.tuples it1 it2 hu1 fun j h1 h2=>?_
     have h1':j < ds.length:=by rw [← e1]; simpa using h1
     have h2':j < es.length:=by rw [← e2]; simpa using h2
     have q1:ds[j]? = some ds[j]:=by simp [h1']
     have q2:es[j]? = some es[j]:=by simp [h2']
     rw [q1,q2]
     obtain ⟨v1,g1,z1⟩:=r1.get q1
     obtain ⟨v2,g2,z2⟩:=r2.get q2
     obtain ⟨u1,k1,l1⟩:=rvs.get g1
     obtain ⟨u2,k2,l2⟩:=rws.get g2
     have m1:its.toArray[j] = u1:=by
      have:=List.getElem?_eq_some_iff.mp k1
      simpa using this.2
     have m2:its2.toArray[j] = u2:=by
      have:=List.getElem?_eq_some_iff.mp k2
      simpa using this.2
     rw [m1,m2]
     exact ih A.in1 ds[j] es[j] v1 v2 u1 u2 (by rw [units_in1]; exact lC 1 0x2a1a0ccc12aa1c0cc11 T1 hu) (List.all_eq_true.mp (show ds.all (Zai n) = true from ha) _ (List.getElem_mem h1')) (List.all_eq_true.mp (show es.all (Zai n) = true from hb) _ (List.getElem_mem h2')) z1 z2 l1 l2
   | non=>have:=rb.non_inv; subst this; cases rv; exact SeqAt.EqAt.tuple_none it1 hu1
   | bl k=>have:=rb.bl_inv; subst this; cases rv; exact SeqAt.EqAt.tuple_bool _ it1 hu1
   | int k=>have:=rb.int_inv; subst this; obtain ⟨t,rfl⟩:=rv; exact SeqAt.EqAt.tuple_int _ _ it1 hu1
   | str k=>have:=rb.str_inv; subst this; obtain ⟨t,rfl⟩:=rv; exact SeqAt.EqAt.tuple_str _ _ it1 hu1
   | _=>simp [Zai] at hb
  | non=>cases b with
   | tup es=>
    have:=ra.non_inv; subst this; cases ru
    obtain ⟨p',ws,rfl,s2,r2⟩:=rb.tup_inv
    cases rv
    obtain ⟨its2,rws,ht2,_⟩:=I.tuple s2
    exact SeqAt.EqAt.none_tuple (show s.heap.IsTuple p' its2.toArray from ht2) hu1
   | scr _=>simp [Zai] at hb
   | ref _=>simp [Zai] at hb
   | _=>exact Zc6 A _ _ x y u v (by rfl) (by rfl) ra rb ru rv
  | bl i=>cases b with
   | tup es=>
    have:=ra.bl_inv; subst this; cases ru
    obtain ⟨p',ws,rfl,s2,r2⟩:=rb.tup_inv
    cases rv
    obtain ⟨its2,rws,ht2,_⟩:=I.tuple s2
    exact SeqAt.EqAt.bool_tuple _ (show s.heap.IsTuple p' its2.toArray from ht2) hu1
   | scr _=>simp [Zai] at hb
   | ref _=>simp [Zai] at hb
   | _=>exact Zc6 A _ _ x y u v (by rfl) (by rfl) ra rb ru rv
  | int i=>cases b with
   | tup es=>
    have:=ra.int_inv; subst this; obtain ⟨t0,rfl⟩:=ru
    obtain ⟨p',ws,rfl,s2,r2⟩:=rb.tup_inv
    cases rv
    obtain ⟨its2,rws,ht2,_⟩:=I.tuple s2
    exact SeqAt.EqAt.int_tuple _ _ (show s.heap.IsTuple p' its2.toArray from ht2) hu1
   | scr _=>simp [Zai] at hb
   | ref _=>simp [Zai] at hb
   | _=>exact Zc6 A _ _ x y u v (by rfl) (by rfl) ra rb ru rv
  | str i=>cases b with
   | tup es=>
    have:=ra.str_inv; subst this; obtain ⟨t0,rfl⟩:=ru
    obtain ⟨p',ws,rfl,s2,r2⟩:=rb.tup_inv
    cases rv
    obtain ⟨its2,rws,ht2,_⟩:=I.tuple s2
    exact SeqAt.EqAt.str_tuple _ _ (show s.heap.IsTuple p' its2.toArray from ht2) hu1
   | scr _=>simp [Zai] at hb
   | ref _=>simp [Zai] at hb
   | _=>exact Zc6 A _ _ x y u v (by rfl) (by rfl) ra rb ru rv
  | _=>simp [Zai] at ha
end
end L3
namespace L3
open PySem PySem.Spec PyProof.Rows L2
section
variable {X:Cx}
theorem Zmt {pins:List (Addr × Obj)} {σ:St} {H:Hp} {s:Shared} {ι:List Addr} {M:Store} {a b:D} {x y:V} {u v:Value} {k:Bool} (hu:X.A.units + 80 < cLine) (I:Inv X pins σ H s) (S:Zaa X.K H ι M)
  (ra:Rep X.K H ι a x) (rb:Rep X.K H ι b y) (ru:RelV x u) (rv:RelV y v) (h:eqD a b M = some k):SeqAt.RcAt X.A s u v k:=by
 cases a with
 | ref n=>
  cases b with
  | ref m=>
   simp only [eqD] at h
   cases hn:M[n]? with
   | none=>simp [hn] at h
   | some o=>
    cases o with
    | dct _=>simp [hn] at h
    | fdct _=>simp [hn] at h
    | ins _ _=>simp [hn] at h
    | lst ds=>
     cases hm:M[m]? with
     | none=>simp [hn,hm] at h
     | some o=>
      cases o with
      | dct _=>simp [hn,hm] at h
      | fdct _=>simp [hn,hm] at h
      | ins _ _=>simp [hn,hm] at h
      | lst es=>
       simp only [hn,hm] at h
       split at h
       ·rename_i hp
        cases h
        rw [Bool.and_eq_true] at hp
        obtain ⟨p,hp1,rfl⟩:=ra.ref_inv
        obtain ⟨q,hq1,rfl⟩:=rb.ref_inv
        cases ru
        cases rv
        obtain ⟨vs,e1,r1⟩:=S.obj n _ p hn hp1
        obtain ⟨ws,e2,r2⟩:=S.obj m _ q hm hq1
        obtain ⟨its,rvs,pl1,_⟩:=I.list (SqL.of e1)
        obtain ⟨its2,rws,pl2,_⟩:=I.list (SqL.of e2)
        have it1:=pl1.isList
        have it2:=pl2.isList
        have l1:its.length = ds.length:=by rw [← rvs.length,r1.length]
        have l2:its2.length = es.length:=by rw [← rws.length,r2.length]
        have hu1:X.A.units < cLine:=lB 1 17666545486865 T1 hu
        by_cases hl:ds.length = es.length
        ·have key:(List.range its.toArray.size).all (fun j=>match ds[j]?,es[j]? with | some a,some b=>deq a b | _,_=>false) = Zbn ds es:=by
          rw [List.size_toArray,l1]
          exact Zb3 hl fun j a b h1 h2=>by rw [h1,h2]
         rw [← key]
         refine SeqAt.RcAt.lists it1 it2 (by rw [List.size_toArray,List.size_toArray,l1,l2,hl]) hu1 fun j h1 h2=>?_
         have h1':j < ds.length:=by rw [← l1]; simpa using h1
         have h2':j < es.length:=by rw [← l2]; simpa using h2
         have q1:ds[j]? = some ds[j]:=by simp [h1']
         have q2:es[j]? = some es[j]:=by simp [h2']
         rw [q1,q2]
         obtain ⟨v1,g1,z1⟩:=r1.get q1
         obtain ⟨v2,g2,z2⟩:=r2.get q2
         obtain ⟨u1,k1,w1⟩:=rvs.get g1
         obtain ⟨u2,k2,w2⟩:=rws.get g2
         have m1:its.toArray[j] = u1:=by
          have:=List.getElem?_eq_some_iff.mp k1
          simpa using this.2
         have m2:its2.toArray[j] = u2:=by
          have:=List.getElem?_eq_some_iff.mp k2
          simpa using this.2
         rw [m1,m2]
         exact ZgZ I DEEP X.A.in1 ds[j] es[j] v1 v2 u1 u2 (by rw [units_in1]; show X.A.units + 1 + 60 + 1 < cLine; exact lB 1 0x1a3c2ba0ccc11502b0c11 T1 hu) (List.all_eq_true.mp hp.1 _ (List.getElem_mem h1')) (List.all_eq_true.mp hp.2 _ (List.getElem_mem h2')) z1 z2 w1 w2
        ·have z:Zbn ds es = false:=by
          cases q:Zbn ds es with
          | false=>rfl
          | true=>exact absurd (Zc2 q) hl
         rw [z]
         exact SeqAt.RcAt.lists_lengths it1 it2 (by rw [List.size_toArray,List.size_toArray,l1,l2]; simpa using hl) hu1
       ·cases h
  | _=>simp [eqD] at h
 | int i=>cases b with
  | int j=>
   simp only [eqD] at h
   cases h
   have:=ra.int_inv; subst this; have:=rb.int_inv; subst this
   obtain ⟨t,rfl⟩:=ru
   obtain ⟨t',rfl⟩:=rv
   rw [← Bool.beq_eq_decide_eq]
   exact SeqAt.RcAt.int_int _ _ _ _
  | _=>simp [eqD] at h
 | str i=>cases b with
  | str j=>
   simp only [eqD] at h
   cases h
   have:=ra.str_inv; subst this; have:=rb.str_inv; subst this
   obtain ⟨t,rfl⟩:=ru
   obtain ⟨t',rfl⟩:=rv
   have e:decide (i = j) = ((⟨i.toArray⟩:Str) == ⟨j.toArray⟩):=by
    rw [← Bool.beq_eq_decide_eq,← Zd4]
    by_cases h:(⟨i.toArray⟩:Str) = ⟨j.toArray⟩
    ·simp [h]
    ·simp [h]
   rw [e]
   exact SeqAt.RcAt.str_str _ _ _ _
  | _=>simp [eqD] at h
 | bl i=>cases b with
  | bl j=>
   simp only [eqD] at h
   cases h
   have:=ra.bl_inv; subst this; have:=rb.bl_inv; subst this
   cases ru
   cases rv
   rw [← Bool.beq_eq_decide_eq]
   exact SeqAt.RcAt.bool_bool _ _
  | _=>simp [eqD] at h
 | tup ds=>cases b with
  | tup es=>
   simp only [eqD] at h
   split at h
   ·rename_i hp
    cases h
    rw [Bool.and_eq_true] at hp
    obtain ⟨p,vs,rfl,s1,r1⟩:=ra.tup_inv
    obtain ⟨p',ws,rfl,s2,r2⟩:=rb.tup_inv
    cases ru
    cases rv
    obtain ⟨its,rvs,ht,_⟩:=I.tuple s1
    obtain ⟨its2,rws,ht2,_⟩:=I.tuple s2
    have e1:its.length = ds.length:=by rw [← rvs.length,r1.length]
    have e2:its2.length = es.length:=by rw [← rws.length,r2.length]
    have hu1:X.A.units < cLine:=lB 1 17666545486865 T1 hu
    have key:((List.range (min its.toArray.size its2.toArray.size)).all (fun j=>match ds[j]?,es[j]? with | some a,some b=>deq a b | _,_=>false) && its.toArray.size == its2.toArray.size) = Zbn ds es:=by
     rw [List.size_toArray,List.size_toArray,e1,e2]
     by_cases hl:ds.length = es.length
     ·rw [hl,Nat.min_self,beq_self_eq_true,Bool.and_true,← hl]
      exact Zb3 hl fun j a b h1 h2=>by rw [h1,h2]
     ·have z:Zbn ds es = false:=by
       cases q:Zbn ds es with
       | false=>rfl
       | true=>exact absurd (Zc2 q) hl
      rw [z,beq_eq_false_iff_ne.mpr hl,Bool.and_false]
    rw [← key]
    refine SeqAt.RcAt.tuples (show s.heap.IsTuple p its.toArray from ht) (show s.heap.IsTuple p' its2.toArray from ht2) hu1 fun j h1 h2=>?_
    have h1':j < ds.length:=by rw [← e1]; simpa using h1
    have h2':j < es.length:=by rw [← e2]; simpa using h2
    have q1:ds[j]? = some ds[j]:=by simp [h1']
    have q2:es[j]? = some es[j]:=by simp [h2']
    rw [q1,q2]
    obtain ⟨v1,g1,z1⟩:=r1.get q1
    obtain ⟨v2,g2,z2⟩:=r2.get q2
    obtain ⟨u1,k1,w1⟩:=rvs.get g1
    obtain ⟨u2,k2,w2⟩:=rws.get g2
    have m1:its.toArray[j] = u1:=by
     have:=List.getElem?_eq_some_iff.mp k1
     simpa using this.2
    have m2:its2.toArray[j] = u2:=by
     have:=List.getElem?_eq_some_iff.mp k2
     simpa using this.2
    rw [m1,m2]
    exact ZgZ I DEEP X.A.in1 ds[j] es[j] v1 v2 u1 u2 (by rw [units_in1]; show X.A.units + 1 + 60 + 1 < cLine; exact lB 1 0x1a3c2ba0ccc11502b0c11 T1 hu) (List.all_eq_true.mp hp.1 _ (List.getElem_mem h1')) (List.all_eq_true.mp hp.2 _ (List.getElem_mem h2')) z1 z2 w1 w2
   ·cases h
  | _=>simp [eqD] at h
 | _=>cases b <;> simp [eqD] at h
theorem Zfa (hu:X.A.units + 80 < cLine):OpR X (compareOp .Eq) (r2 X.K ZbG):=by
 intro pins s σ H x y v u Q I rx ry h
 obtain ⟨ι,M,a,b,S,ra,rb,h⟩:=h
 unfold ZbG at h
 cases q:eqD a b M with
 | none=>rw [q] at h; exact h.elim
 | some k=>
  rw [q] at h
  exact Zmt hu I S ra rb rx ry q X.prog X.w X.xe _ ⟨.bl k,H,I,rfl,Zae.ok h S Rep.bl⟩
theorem Zh5 {K:PySem.W.Frag} {H:Hp} {ι:List Addr} {ds:List D} {vs:List V} {i:Int} {d:D} (r:Zq K H ι ds vs) (h:Za9 ds i = some d):∃ v,atI vs i = some v ∧ Rep K H ι d v:=by
 unfold Za9 at h
 unfold atI
 have e:ixN vs.length i = ixD ds.length i:=by rw [r.length]; rfl
 rw [e]
 cases q:ixD ds.length i with
 | none=>rw [q] at h; cases h
 | some j=>
  rw [q] at h
  exact r.get h
theorem Za4:IxR X (r2 X.K Zr):=IxR.imp ZmG fun x y H Q zz1=>by
 obtain ⟨ι,M,a,b,S,ra,rb,h⟩:=zz1
 cases a with
 | tup ds=>cases b with
  | int i=>
   simp only [Zr] at h
   cases q:Za9 ds i with
   | none=>simp only [q] at h; exact h.elim
   | some d=>
    simp only [q] at h
    obtain ⟨p,vs,rfl,s1,r1⟩:=ra.tup_inv
    obtain ⟨v,e,rv⟩:=Zh5 r1 q
    exact .inr (.inl ⟨p,vs,i,v,rfl,rb.int_inv,s1,e,Zae.ok h S rv⟩)
  | _=>exact h.elim
 | scr ds=>cases b with
  | int i=>
   simp only [Zr] at h
   cases q:Za9 ds i with
   | none=>simp only [q] at h; exact h.elim
   | some d=>
    simp only [q] at h
    obtain ⟨p,vs,rfl,s1,r1⟩:=ra.scr_inv
    obtain ⟨v,e,rv⟩:=Zh5 r1 q
    exact .inl ⟨p,vs,i,v,rfl,rb.int_inv,s1.sq,e,Zae.ok h S rv⟩
  | _=>exact h.elim
 | str z=>cases b with
  | int i=>
   simp only [Zr] at h
   cases q:Za9 z i with
   | none=>simp only [q] at h; exact h.elim
   | some c=>
    simp only [q] at h
    split at h
    ·rename_i hz
     refine .inr (.inr ⟨_,i,c,ra.str_inv,rb.int_inv,?_,?_,Zae.ok h S Rep.str⟩)
     ·have:=Zbb
      simp only [Str.length,List.size_toArray]
      exact Nat.le_trans hz this
     ·simpa [atI,ixN,Za9,ixD] using q
    ·exact h.elim
  | _=>exact h.elim
 | ref n=>cases b with
  | int i=>
   cases hn:M[n]? with
   | none=>simp only [Zr,hn] at h; exact h.elim
   | some o=>
    cases o with
    | dct _=>simp only [Zr,hn] at h; exact h.elim
    | fdct _=>simp only [Zr,hn] at h; exact h.elim
    | ins _ _=>simp only [Zr,hn] at h; exact h.elim
    | lst ds=>
     simp only [Zr,hn] at h
     cases q:Za9 ds i with
     | none=>simp only [q] at h; exact h.elim
     | some d=>
      simp only [q] at h
      obtain ⟨p,hp,rfl⟩:=ra.ref_inv
      obtain ⟨vs,e1,r1⟩:=S.obj n _ p hn hp
      obtain ⟨v,e,rv⟩:=Zh5 r1 q
      exact .inl ⟨p,vs,i,v,rfl,rb.int_inv,SqL.of e1,e,Zae.ok h S rv⟩
  | _=>exact h.elim
 | _=>cases b <;> exact h.elim
theorem Zh3 {K:PySem.W.Frag} {H:Hp} {ι:List Addr} {ds:List D} {vs:List V} (r:Zq K H ι ds vs) (lo hi:Option Int):Zq K H ι (cutD ds lo hi) (Zg8 vs lo hi):=by
 have e:∀ n d o,HT.sIx n d o = sIx n d o:=fun n d o=>by cases o <;> rfl
 unfold cutD Zg8
 rw [e,e,r.length]
 exact (r.drop _).take _
end
end L3
namespace L3
open PySem PySem.Spec PyProof.Rows L2
noncomputable def Zbk (cells:List (Str × Addr)):List (Str × NameKind) → List (Str × Addr) → List (Str × Addr)
 | [],cs=>cs
 | (n,k) :: r,cs=>Zbk cells r (if k == .free then (n,(cells.lookup n).getD 0) :: cs else cs)
theorem Zf6 {scope:Scope} {env:Env} (h:∀ y ∈ scope.names,y.2 = .free → ∃ c,env.cells.lookup y.1 = some c):closureFor scope env = pure (Zbk env.cells scope.names []):=by
 unfold closureFor
 have key:∀ (names:List (Str × NameKind)) (cs:List (Str × Addr)),(∀ y ∈ names,y.2 = .free → ∃ c,env.cells.lookup y.1 = some c) →
   (forIn names cs fun x r=>match x with | (name,kind)=>if (kind == NameKind.free) = true then do let c ← cellOf env name; pure (ForInStep.yield ((name,c) :: r)) else pure (ForInStep.yield r):Sem (List (Str × Addr))) = pure (Zbk env.cells names cs):=by
  intro names
  induction names with
  | nil=>intro cs _; rfl
  | cons y r ih=>
   intro cs hy
   obtain ⟨n,k⟩:=y
   rw [List.forIn_cons]
   by_cases hk:k = .free
   ·subst hk
    obtain ⟨c,hc⟩:=hy (n,.free) List.mem_cons_self rfl
    have e1:cellOf env n = pure c:=by unfold cellOf; rw [hc]
    simp only [beq_self_eq_true,if_true,e1,pure_bind]
    rw [ih _ fun z hz=>hy z (List.mem_cons_of_mem _ hz)]
    simp [Zbk,hc]
   ·have hb:(k == NameKind.free) = false:=by simpa using hk
    simp only [hb,Bool.false_eq_true,if_false,pure_bind]
    rw [ih _ fun z hz=>hy z (List.mem_cons_of_mem _ hz)]
    simp [Zbk,hb]
 have:=key scope.names [] h
 first
  | exact this
  | (simp only [bind_pure]; exact this)
theorem Zi5 {cells:List (Str × Addr)} {x:Str} {c:Addr}:∀ (names:List (Str × NameKind)) (cs:List (Str × Addr)),(∀ y ∈ names,y.2 = .free → ∃ c,cells.lookup y.1 = some c) → (Zbk cells names cs).lookup x = some c → cs.lookup x = some c ∨ cells.lookup x = some c:=by
 intro names
 induction names with
 | nil=>intro cs _ h; exact .inl h
 | cons y r ih=>
  intro cs hy h
  obtain ⟨n,k⟩:=y
  rw [Zbk] at h
  rcases ih _ (fun z hz=>hy z (List.mem_cons_of_mem _ hz)) h with q | q
  ·by_cases hk:k = .free
   ·subst hk
    obtain ⟨c0,hc⟩:=hy (n,.free) List.mem_cons_self rfl
    simp only [beq_self_eq_true,if_true,hc,Option.getD_some,List.lookup_cons] at q
    cases hx:x == n with
    | true=>
     simp only [hx] at q
     cases q
     have:x = n:=by simpa using hx
     subst this
     exact .inr hc
    | false=>simp only [hx] at q; exact .inl q
   ·have hb:(k == NameKind.free) = false:=by simpa using hk
    simp only [hb,Bool.false_eq_true,if_false] at q
    exact .inl q
  ·exact .inr q
theorem ZhM {cells:List (Str × Addr)} {x:Str}:∀ (names:List (Str × NameKind)) (cs:List (Str × Addr)),(cs.lookup x).isSome = true → ((Zbk cells names cs).lookup x).isSome = true:=by
 intro names
 induction names with
 | nil=>intro cs h; exact h
 | cons y r ih=>
  intro cs h
  obtain ⟨n,k⟩:=y
  rw [Zbk]
  refine ih _ ?_
  split
  ·rw [List.lookup_cons]
   split
   ·rfl
   ·exact h
  ·exact h
theorem Zgj {cells:List (Str × Addr)} {x:Str}:∀ (names:List (Str × NameKind)) (cs:List (Str × Addr)),(x,NameKind.free) ∈ names → ((Zbk cells names cs).lookup x).isSome = true:=by
 intro names
 induction names with
 | nil=>intro cs h; cases h
 | cons y r ih=>
  intro cs h
  obtain ⟨n,k⟩:=y
  rw [Zbk]
  rcases List.mem_cons.mp h with e | h
  ·cases e
   refine ZhM _ _ ?_
   simp
  ·exact ih _ h
noncomputable def Zb9 (X:Cx) (scope:Scope) (N':List Str) (C:Addr) (cl:List (Str × Addr)) (s:Shared) (H:Hp) (ex:List Addr):Cx:=
 { X with N:=N',s₀:=s,H₀:=H,env:=compEnvC scope cl C X.env,outer:=X.stack,stack:=X.stack,ex:=ex,fn:=fun _=>false,pn:=[],xe:=fun _ _=>False }
noncomputable def ZjW (N N':List Str) (scope:Scope):Bool:=(List.range N.length).all fun i=>match N'[i]? with
 | some x=>(scope.names.lookup x).isNone || (decide (N[i]? = some x) && decide (scope.names.lookup x = some .free))
 | none=>false
noncomputable def CTs (X:Cx) (ifs:List Expr) (ts:List E3):Prop:=∀ (pins:List (Addr × Obj)) (s:Shared) (σ:St) (H:Hp) (Q:Bool → Hp → Prop),Inv X pins σ H s →
 (∃ ι M env,Zaa X.K H ι M ∧ ZaT X.K H ι env σ ∧ match Zen ts env M with | .ok b M'=>∀ H' ι',Ext X.K H ι H' ι' → Zaa X.K H' ι' M' → Q b H' | _=>False) →
 wpAny (model X.prog X.w) X.A (forIn ifs true fun c r=>if r = true then do let ok ← isTrue c X.env (eval c X.env); pure (ForInStep.yield ok) else pure (ForInStep.yield r)) (TP X pins σ Q) X.xe s
theorem Zis {X:Cx}:CTs X [] []:=fun pins s σ H Q I ⟨ι,M,env,S,E,h⟩=>wpAny_tests_nil ⟨H,I,h H ι Ext.refl S⟩
section
variable {prog:Program} {w:World} {A:Around} {R:Result → Shared → Prop} {s:Shared}
theorem ZgF {elt target iter:Expr} {ifs:List Expr} {scope:Scope} {pos:Pos} {it acc:Value} {env:Env} (I:Nat → Shared → Prop)
  (turn:∀ n s,I n s → wpAny (model prog w) A (pyNext it) (fun r s₁=>match r with
   | none=>R (.ok .next) s₁
   | some v=>wpAny (model prog w) A (letOwnedTupleGo target it v) (fun _ s₁'=>wpAny (model prog w) A (assign target env v) (fun _ s₂=>
     wpAny (model prog w) A (forIn ifs true fun c r=>if r = true then do let ok ← isTrue c env (eval c env); pure (ForInStep.yield ok) else pure (ForInStep.yield r)) (fun ok s₃=>
      if ok = true then wpAny (model prog w) A (eval elt env) (fun x s₄=>
       wpAny (model prog w) A (call (.builtin "list.append") [acc,x]) (fun _ s₅=>∃ m,m < n ∧ I m s₅) (fun _ _=>False) s₄) (fun _ _=>False) s₃
      else ∃ m,m < n ∧ I m s₃) (fun _ _=>False) s₂) (fun _ _=>False) s₁') (fun _ _=>False) s₁) (fun _ _=>False) s)
  (n:Nat) (h:I n s):codeAny (model prog w) A (.compLoop (.ListComp elt [⟨target,iter,ifs,0⟩] scope pos) 0 it acc env) R s:=by
 refine codeAny_loop rfl I (fun n s hI=>?_) n h
 show wpAny _ A ((compTurn (.ListComp elt [⟨target,iter,ifs,0⟩] scope pos) 0 it acc env).onRaise (fun x=>do noteFrame x env; theTreesLotGoes x)) _ _ s
 refine wpAny_noted ?_
 rw [compTurn_list]
 refine wpAny_bind (wpAny_standAt (wpAny_bind (wpAny_mono (turn n s hI) (fun r s₁ h₁=>?_) fun _ _ h'=>False.elim h')))
 cases r with
 | none=>exact wpAny_pure h₁
 | some v=>
  refine wpAny_bind (wpAny_mono h₁ (fun _ s₁' h₁'=>?_) fun _ _ h'=>False.elim h')
  refine wpAny_bind (wpAny_mono h₁' (fun _ s₂ h₂=>wpAny_bind (wpAny_mono h₂ (fun ok s₃ h₃=>?_) fun _ _ h'=>False.elim h')) fun _ _ h'=>False.elim h')
  cases ok with
  | false=>exact wpAny_pure ⟨rfl,h₃⟩
  | true=>
   exact wpAny_bind (wpAny_bind (wpAny_mono h₃ (fun x s₄ h₄=>wpAny_bind (wpAny_mono h₄ (fun _ s₅ h₅=>wpAny_pure (wpAny_pure ⟨rfl,h₅⟩)) fun _ _ h'=>False.elim h')) fun _ _ h'=>False.elim h'))
end
theorem ZcD {env:Env} {x:Str} {k:NameKind}:∀ {names:List (Str × NameKind)},(names.map fun (n,k)=>if (k == NameKind.free && env.scope.kind == .function && env.kindOf n == some .cell) then (n,NameKind.cell) else (n,k)).lookup x = some k →
  ∃ k0,names.lookup x = some k0 ∧ (k0 = k ∨ (k0 = .free ∧ k = .cell)):=by
 intro names
 induction names with
 | nil=>intro h; simp at h
 | cons y r ih=>
  intro h
  obtain ⟨n,k1⟩:=y
  rw [List.map_cons] at h
  cases hx:x == n with
  | true=>
   refine ⟨k1,by simp [List.lookup_cons,hx],?_⟩
   by_cases hc:(k1 == NameKind.free && env.scope.kind == .function && env.kindOf n == some .cell) = true
   ·simp only [if_pos hc,List.lookup_cons,hx] at h
    cases h
    simp only [Bool.and_eq_true,beq_iff_eq] at hc
    exact .inr ⟨hc.1.1,rfl⟩
   ·simp only [if_neg hc,List.lookup_cons,hx] at h
    cases h
    exact .inl rfl
  | false=>
   have h':(r.map fun (n,k)=>if (k == NameKind.free && env.scope.kind == .function && env.kindOf n == some .cell) then (n,NameKind.cell) else (n,k)).lookup x = some k:=by
    by_cases hc:(k1 == NameKind.free && env.scope.kind == .function && env.kindOf n == some .cell) = true
    ·simp only [if_pos hc,List.lookup_cons,hx] at h; exact h
    ·simp only [if_neg hc,List.lookup_cons,hx] at h; exact h
   obtain ⟨k0,e,q⟩:=ih h'
   exact ⟨k0,by simp [List.lookup_cons,hx,e],q⟩
theorem ZgM {env:Env} {x:Str}:∀ {names:List (Str × NameKind)},names.lookup x = some .free →
  (names.map fun (n,k)=>if (k == NameKind.free && env.scope.kind == .function && env.kindOf n == some .cell) then (n,NameKind.cell) else (n,k)).lookup x = some .free ∨
  (names.map fun (n,k)=>if (k == NameKind.free && env.scope.kind == .function && env.kindOf n == some .cell) then (n,NameKind.cell) else (n,k)).lookup x = some .cell:=by
 intro names
 induction names with
 | nil=>intro h; simp at h
 | cons y r ih=>
  intro h
  obtain ⟨n,k1⟩:=y
  rw [List.map_cons]
  cases hx:x == n with
  | true=>
   simp only [List.lookup_cons,hx] at h
   cases h
   by_cases hc:(NameKind.free == NameKind.free && env.scope.kind == .function && env.kindOf n == some .cell) = true
   ·simp only [if_pos hc,List.lookup_cons,hx]; exact .inr trivial
   ·simp only [if_neg hc,List.lookup_cons,hx]; exact .inl trivial
  | false=>
   simp only [List.lookup_cons,hx] at h
   by_cases hc:(k1 == NameKind.free && env.scope.kind == .function && env.kindOf n == some .cell) = true
   ·simp only [if_pos hc,List.lookup_cons,hx]; exact ih h
   ·simp only [if_neg hc,List.lookup_cons,hx]; exact ih h
section
variable {X:Cx} {pins:List (Addr × Obj)} {σ:St} {H:Hp} {s:Shared} {scope:Scope} {N':List Str} {own:Nat} {fp:List Addr}
theorem Zkc (I:Inv X pins σ H s) (hk:scope.kind = .function) (hcell:∀ y ∈ scope.names,y.2 ≠ .cell) (hfree:∀ y ∈ scope.names,y.2 = .free → X.env.kindOf y.1 = some .cell ∨ X.env.kindOf y.1 = some .free)
  (hN:N'.length = X.N.length + own) (hv:ZjW X.N N' scope = true) (hfp:∀ b ∈ fp,Zet X pins H b) (hlt:∀ b ∈ fp,b < s.heap.objs.size) {h1:Heap} {tk:Nat}
  (hns:h1.Ns s.heap.objs.size fun _=>none) (keep:∀ b o,s.heap.get? b = some o → h1.get? b = some o):
  Inv (Zb9 X scope N' s.heap.objs.size (Zbk X.env.cells scope.names []) s H fp) [] (σ ++ List.replicate own none) H { s with heap:=h1,toks:=tk }:=by
 have hc0:∀ y ∈ scope.names,y.2 = .free → ∃ c,X.env.cells.lookup y.1 = some c:=fun y hy e=>I.ok.has y.1 (hfree y hy e)
 have sub:∀ x c,(Zbk X.env.cells scope.names []).lookup x = some c → X.env.cells.lookup x = some c:=fun x c h=>by
  rcases Zi5 scope.names [] hc0 h with q | q
  ·simp at q
  ·exact q
 have cellK:∀ {c:Addr} {v:Option Value},s.heap.IsCell c v → h1.IsCell c v:=fun ⟨o,ho,hd⟩=>⟨o,keep _ o ho,hd⟩
 refine ⟨⟨I.ok.mod,hk,I.ok.glob,I.ok.blt,Nat.le_refl _,fun x y c h1 h2=>I.ok.inj x y c (sub x c h1) (sub y c h2),fun x hx=>?_,fun x c h=>?_,I.ok.hd,I.ok.frames,.inl rfl,fun b hb=>⟨Nat.ne_of_lt (hlt b hb),fun x c h=>(hfp b hb).2.2.2.2.1 x c (sub x c h)⟩,
   I.bs,Nat.le_trans I.ok.bsz I.sz,fun b o e hb=>?_,fun b hb hz=>?_,I.stack,I.stkFree⟩,rfl,I.bare,Un.kept keep,⟨_,hns,fun i x v h1 h2 h3=>?_⟩,fun x c h=>?_,I.hok.fresh (Nat.le_refl _),fun x c h=>I.freeC x c (sub x c h),
  fun p hp=>absurd (show p ∈ ([]:List (Addr × Obj)) from hp) (by simp),I.hok.kept keep,?_⟩
 ·have hx':(relabel scope X.env).names.lookup x = some .cell ∨ (relabel scope X.env).names.lookup x = some .free:=hx
  have:scope.names.lookup x = some .free:=by
   rcases hx' with hx' | hx'
   ·obtain ⟨k0,e,q⟩:=ZcD (names:=scope.names) hx'
    rcases q with q | ⟨q,_⟩
    ·subst q; exact absurd rfl (hcell _ (PySem.mem_of_lookup e))
    ·rw [e,q]
   ·obtain ⟨k0,e,q⟩:=ZcD (names:=scope.names) hx'
    rcases q with q | ⟨_,q⟩
    ·rw [e,q]
    ·cases q
  exact Option.isSome_iff_exists.mp (Zgj scope.names [] (PySem.mem_of_lookup this))
 ·cases h
 ·obtain ⟨_,_,_,q,_⟩:=hfp b hb
  rcases q with q | q
  ·exact I.ok.noex b o e q
  ·exact absurd (Nat.lt_of_lt_of_le (Heap.lt_size e) (Nat.le_trans I.ok.bsz q)) (Nat.lt_irrefl _)
 ·have hz':b ∈ frs X.stack:=hz
  obtain ⟨_,q1,q2,_⟩:=hfp b hb
  rcases List.mem_cons.mp (I.stkSub b hz') with e | e
  ·exact q1 e
  ·exact q2 e
 ·have hi:i < σ.length:=by
   by_cases hi:i < σ.length
   ·exact hi
   ·rw [List.getElem?_append_right (Nat.le_of_not_lt hi),List.getElem?_replicate] at h2
    split at h2 <;> cases h2
  rw [List.getElem?_append_left hi] at h2
  have hiN:i < X.N.length:=by rw [← I.len]; exact hi
  have hN':N'[i]? = some x:=h1
  have vq:=List.all_eq_true.mp hv i (List.mem_range.mpr hiN)
  rw [hN'] at vq
  have h3':(relabel scope X.env).names.lookup x = some .local ∨ (relabel scope X.env).names.lookup x = some .cell ∨ (relabel scope X.env).names.lookup x = some .free:=h3
  have some_of:∃ k0,scope.names.lookup x = some k0:=by
   rcases h3' with q | q | q <;> (obtain ⟨k0,e,_⟩:=ZcD (names:=scope.names) q; exact ⟨k0,e⟩)
  obtain ⟨k0,ek⟩:=some_of
  simp only [ek,Option.isNone_some,Bool.false_or,Bool.and_eq_true,decide_eq_true_eq] at vq
  obtain ⟨vq1,vq2⟩:=vq
  cases vq2
  have hkind:=hfree (x,.free) (PySem.mem_of_lookup ek) rfl
  obtain ⟨m,hn,hl⟩:=I.loc
  have hVis:Vis X.env.scope x:=by
   rcases hkind with q | q
   ·exact .inr (.inl q)
   ·exact .inr (.inr q)
  obtain ⟨u,ru,lk⟩:=hl i x v vq1 h2 hVis
  refine ⟨u,ru,?_⟩
  rcases lk with ⟨kl,_⟩ | ⟨_,c,ec,ic⟩
  ·rcases hkind with q | q <;> (rw [q] at kl; cases kl)
  ·have hkk:(compEnvC scope (Zbk X.env.cells scope.names []) s.heap.objs.size X.env).kindOf x = some .cell ∨ (compEnvC scope (Zbk X.env.cells scope.names []) s.heap.objs.size X.env).kindOf x = some .free:=by
    rcases ZgM (env:=X.env) ek with q | q
    ·exact .inr q
    ·exact .inl q
   obtain ⟨c',ec'⟩:=Option.isSome_iff_exists.mp (Zgj (cells:=X.env.cells) scope.names [] (PySem.mem_of_lookup ek))
   have e2:=sub x c' ec'
   rw [ec] at e2
   cases e2
   exact .inr ⟨hkk,c,ec',cellK ic⟩
 ·obtain ⟨v,ic⟩:=I.cell x c (sub x c h)
  exact ⟨v,cellK ic⟩
 ·show (σ ++ List.replicate own none).length = N'.length
  rw [List.length_append,List.length_replicate,I.len,hN]
theorem ZaT.grow {K:PySem.W.Frag} {H:Hp} {ι:List Addr} {env:Zad} {σ:St} (E:ZaT K H ι env σ) (n:Nat):ZaT K H ι (env ++ List.replicate n none) (σ ++ List.replicate n none):=by
 refine ⟨by simp [E.1],fun i d h=>?_⟩
 by_cases hi:i < env.length
 ·rw [List.getElem?_append_left hi] at h
  obtain ⟨v,e,r⟩:=E.2 i d h
  exact ⟨v,by rw [List.getElem?_append_left (by rw [← E.1]; exact hi)]; exact e,r⟩
 ·rw [List.getElem?_append_right (Nat.le_of_not_lt hi),List.getElem?_replicate] at h
  split at h <;> cases h
end
section
variable {X:Cx} {elt tg iter:Expr} {ifs:List Expr} {scope:Scope} {pos:Pos} {i:I3} {own:Nat} {g:G3} {ts:List E3} {f:E3} {N':List Str}
structure Zh2 (X:Cx) (scope:Scope) (N':List Str) (own:Nat):Prop where
 kind:scope.kind = .function
 cell:∀ y ∈ scope.names,y.2 ≠ .cell
 free:∀ y ∈ scope.names,y.2 = .free → X.env.kindOf y.1 = some .cell ∨ X.env.kindOf y.1 = some .free
 names:∀ y ∈ scope.names,y.2 = .local → scope.names.lookup y.1 = some .local
 len:N'.length = X.N.length + own
 vis:ZjW X.N N' scope = true
inductive CbI (Y:Cx) (K:PySem.W.Frag) (fp:List Addr) (tn:Nat → Heap → Prop) (itd:It3) (H2:Hp) (ι2:List Addr) (Q:VK) (g:G3) (ts:List E3) (f:E3) (nM:Nat) (acc:Addr) (n:Nat) (s':Shared):Prop
 | mk (k:Nat) (σ5:St) (H5:Hp) (ι5:List Addr) (M5:Store) (env5:Zad) (I5:Inv Y [] σ5 H5 s') (st5:tn k s'.heap) (fr5:∀ b ∈ fp,H5 b = none) (hn:n = itd.items.length - k) (hk:k ≤ itd.items.length)
   (x5:Ext K H2 ι2 H5 ι5) (S5:Zaa K H5 ι5 M5) (E5:ZaT K H5 ι5 env5 σ5) (hι:ι5[nM]? = some acc) (h5:Zae K H5 ι5 Q (Zjx itd g ts f nM (itd.items.drop k) env5 M5))
end
end L3
namespace L3
open PySem PySem.Spec PyProof.Rows L2
theorem ZdB {k:Nat} {A:Around} (r:ZbW k A):A.units + 80 < cLine:=by have:=r.un; exact lC 1 0x2502b0c12c82b110d0cc11 T1 this
noncomputable def Its (x:Str):It:=⟨fun i _=>i < x.cps.size,fun i H y H'=>H' = H ∧ ∃ c,x.cps[i]? = some c ∧ y = .str ⟨#[c]⟩,fun i _=>i = x.cps.size⟩
theorem ZjR {P:Program} {w:World} {K:PySem.W.Frag} {tg:Expr} {it:Addr} {x:Str} {t:Tok} {ty:String} (W:∀ A':Around,A'.handled = none → Walks P w A' it [it] [it] x.cps.size (SignAt x) (fun i h=>h.IsStrIter it ty x t i))
  (hs:∀ (A:Around) (i:Nat) (s:Shared) (Q:Value → Shared → Prop) (E:Value → Shared → Prop),s.heap.IsStrIter it ty x t i → Q (.ref it) s → wpAny (model P w) A (pyIter (.ref it)) Q E s)
  (hty:["enumerate","zip","dict_itemiterator","dict_reverseitemiterator","odict_iterator","itertools.zip_longest","itertools.pairwise"].contains ty = false):Turn P w K tg (Its x) [it] it (fun i h=>h.IsStrIter it ty x t i) where
 mem:=by simp
 obj:=fun i h st b hb=>by
  have e:b = it:=by simpa using hb
  subst e
  obtain ⟨o,e,c,d⟩:=st
  exact ⟨o,e,fun v z=>by rw [d] at z; cases z⟩
 keep:=fun i h h' st k=>let ⟨o,e,r⟩:=st; ⟨o,k it (by simp) o e,r⟩
 item:=by
  intro X hP hw hK hc i pins s σ H E I hf st hg
  subst hP hw hK
  obtain ⟨f0,f1,f2,f3,f4,f5⟩:=hf it (by simp)
  refine (W X.A (I.ok.hd hc)).item i s _ _ hg st fun v h' tk hv st' kk=>?_
  obtain ⟨c,u,hx,rfl⟩:=hv
  have I1:Inv X pins σ H { s with heap:=h',toks:=tk }:=I.turned (fun b o hb e=>kk b o (by simpa using hb) e) f0 f1 f3 f4 f5
  obtain ⟨o,e,cc,d⟩:=id st'
  exact ⟨_,rfl,Zix (s:={ s with heap:=h',toks:=tk }) e cc d hty ⟨.str ⟨#[c]⟩,H,I1,⟨u,rfl⟩,⟨rfl,c,hx,rfl⟩,st',fun b hb=>(hf b hb).1⟩⟩
 done:=by
  intro X hP hw hK hc i pins s σ H E I hf st hg
  subst hP hw hK
  obtain ⟨f0,f1,f2,f3,f4,f5⟩:=hf it (by simp)
  have e:i = x.cps.size:=hg
  subst e
  exact (W X.A (I.ok.hd hc)).done s _ _ st fun h' tk kk=>⟨rfl,I.turned (fun b o hb e=>kk b o (by simpa using hb) e) f0 f1 f3 f4 f5⟩
 self:=hs
section
variable {X:Cx} {tg e o:Expr} {es:List Expr} {pos p apos cpos:Pos} {f:E3} {gl:EL3}
theorem Zng (h:C3 X e f):PI X tg e (fun σ H R=>tOf X.K f σ H fun x H1=>∃ z:Str,x = .str z ∧ z.length ≤ SZ ∧ ∀ J,(∀ ι,Zk6 X.K H1 ι ⟨z.cps.toList.map fun c=>.str [c],none⟩ J) → R J H1):=by
 intro pins s σ H R I hw
 refine thn (h pins s σ H _ I hw) fun v s1 zz1=>?_
 obtain ⟨x,H1,I1,r1,z,ex,hz,q⟩:=zz1
 subst ex
 obtain ⟨t,rfl⟩:=r1
 have key:∀ (ty:String) (o:Obj),(∀ A':Around,A'.handled = none → Walks X.prog X.w A' s1.heap.objs.size [s1.heap.objs.size] [s1.heap.objs.size] z.cps.size (SignAt z) (fun i h=>h.IsStrIter s1.heap.objs.size ty z t i)) →
   (∀ (A:Around) (i:Nat) (s:Shared) (Q:Value → Shared → Prop) (E:Value → Shared → Prop),s.heap.IsStrIter s1.heap.objs.size ty z t i → Q (.ref s1.heap.objs.size) s → wpAny (model X.prog X.w) A (pyIter (.ref s1.heap.objs.size)) Q E s) →
   ["enumerate","zip","dict_itemiterator","dict_reverseitemiterator","odict_iterator","itertools.zip_longest","itertools.pairwise"].contains ty = false → (s1.heap.push o).IsStrIter s1.heap.objs.size ty z t 0 →
   PIE X pins σ tg R (.ref s1.heap.objs.size) { s1 with heap:=s1.heap.push o }:=by
  intro ty o W hs hty st
  refine ⟨s1.heap.objs.size,[s1.heap.objs.size],_,_,H1,rfl,I1.kept (t':=s1.toks) fun b o e=>Heap.get?_push_of_some _ e,ZjR W hs hty,st,fun b hb=>?_,q _ fun ι=>?_⟩
  ·have e:b = s1.heap.objs.size:=by simpa using hb
   subst e
   exact I1.fpOk (Nat.le_refl _) (I1.hok.fresh (Nat.le_refl _))
  ·intro i H2 ι2 M2 x S _
   refine ⟨fun d hd=>?_,fun hl=>?_⟩
   ·rw [List.getElem?_map] at hd
    cases hq:z.cps.toList[i]? with
    | none=>rw [hq] at hd; cases hd
    | some c=>
     rw [hq] at hd
     have hd':D.str [c] = d:=by simpa using hd
     subst hd'
     have hi:i < z.cps.size:=by
      have:=(List.getElem?_eq_some_iff.mp hq).1
      simpa using this
     refine ⟨hi,fun y H3 hy=>⟨hy.1,?_⟩⟩
     obtain ⟨_,c',hc',rfl⟩:=hy
     have:c' = c:=by
      rw [← Array.getElem?_toList,hq] at hc'
      exact (Option.some.inj hc').symm
     subst this
     exact Rep.str
   ·show i = z.cps.size
    rw [hl]
    simp
 cases ha:z.cps.all (· < 128)
 ·exact wpAny_pyIter_wide ha (key "str_iterator" _ (fun A' hA=>Walks.strWide hA _ z t) (fun _ _ _ _ _ st h=>wpAny_pyIter_striter_wide st h) (by decide) ⟨_,Heap.get?_push_size _ rfl,rfl,rfl⟩)
 ·exact wpAny_pyIter_ascii ha (key "str_ascii_iterator" _ (fun A' hA=>Walks.strAscii hA _ z t) (fun _ _ _ _ _ st h=>wpAny_pyIter_striter_ascii st h) (by decide) ⟨_,Heap.get?_push_size _ rfl,rfl,rfl⟩)
theorem Zkm (h:C3 X e f):CI X tg e (ZfS f):=Zmx h (Zng h)
theorem Zkr {K:PySem.W.Frag} {T:String} {ty:D → Store → Bool} {m:D → List D → Store → R3 D} (hty:∀ H ι M a x,Zaa K H ι M → Rep K H ι a x → ty a M = true → tyV K T x H) (σ:St) (H:Hp) (Q:VK) (h:tOf K (Zez ty m f gl) σ H Q):tBM K T (rM K m) (tOf K f) (tAf K gl) σ H Q:=by
 obtain ⟨ι,M,env,S,E,h⟩:=h
 obtain ⟨a,M1,e1,h⟩:=Zae.bind h
 refine ⟨ι,M,env,S,E,?_⟩
 rw [e1]
 intro v H1 ι1 x1 S1 r1
 by_cases ht:ty a M1 = true
 ·rw [if_pos ht] at h
  obtain ⟨ds,M2,e2,h⟩:=Zae.bind h
  refine ⟨hty _ _ _ _ _ S1 r1 ht,ι1,M1,env,S1,E.mono x1,?_⟩
  rw [e2]
  intro vs H2 ι2 x2 S2 r2
  exact ⟨ι2,M2,a,ds,S2,r1.mono x2,r2,(h.up x1).up x2⟩
 ·rw [if_neg ht] at h; exact h.elim
theorem Zku {K:PySem.W.Frag} (H:Hp) (ι:List Addr) (M:Store) (a:D) (x:V) (S:Zaa K H ι M) (r:Rep K H ι a x) (h:tyL a M = true):tyV K "list" x H:=by
 cases a with
 | ref n=>
  simp only [tyL] at h
  cases hn:M[n]? with
  | none=>simp [hn] at h
  | some o=>
   cases o with
   | dct _=>simp [hn] at h
   | fdct _=>simp [hn] at h
   | ins _ _=>simp [hn] at h
   | lst xs=>
    obtain ⟨p,hp,rfl⟩:=r.ref_inv
    obtain ⟨vs,e,_⟩:=S.obj n _ p hn hp
    exact .inl ⟨rfl,vs,SqL.of e⟩
 | _=>simp at h
theorem _root_.L2.MtR.imp {id:String} {r r':V → List V → Hp → VK → Prop} (h:MtR X id r) (i:∀ x xs H Q,r' x xs H Q → r x xs H Q):MtR X id r':=fun pins s σ H x xs v us Q I rx rs q=>h pins s σ H x xs v us Q I rx rs (i x xs H Q q)
theorem Zkz:MtR X "list.append" (rM X.K Zcb):=MtR.imp (r:=Zin) Zgh fun x xs H Q zz1=>by
 obtain ⟨ι,M,a,ds,S,ra,rd,h⟩:=zz1
 cases a with
 | ref n=>
  cases ds with
  | nil=>exact h.elim
  | cons d ds=>
   cases ds with
   | cons _ _=>exact h.elim
   | nil=>
    simp only [Zcb] at h
    cases hn:M[n]? with
    | none=>simp only [hn] at h; exact h.elim
    | some o=>
     cases o with
     | dct _=>simp only [hn] at h; exact h.elim
     | fdct _=>simp only [hn] at h; exact h.elim
     | ins _ _=>simp only [hn] at h; exact h.elim
     | lst z=>
      simp only [hn] at h
      split at h
      ·rename_i hz
       obtain ⟨p,hp,rfl⟩:=ra.ref_inv
       obtain ⟨v,ws,rfl,r1,r2⟩:=rd.cons_inv
       have:=r2.nil_inv
       subst this
       obtain ⟨vs,e,rv⟩:=S.obj n _ p hn hp
       obtain ⟨x2,S2⟩:=S.setl (.inr (.inl ⟨_,e⟩)) hp (rv.append (Zq.cons r1 Zq.nil))
       exact ⟨p,vs,v,rfl,rfl,e,by rw [rv.length]; exact Nat.lt_of_lt_of_le hz Zbb,h _ _ _ x2 S2 Rep.non⟩
      ·exact h.elim
 | _=>exact h.elim
theorem Zdl (ho:C3 X o f) (ha:CA X (e :: es) gl)
  (hbase:attributeBase o "append" X.env (eval o X.env) = eval o X.env:=by rfl)
  (hfew:((backTo cpos (starEach (e :: es) X.env)).all (fun x=>!x.1) && (backToKw cpos (keywordEach [] X.env)).all (fun x=>x.1.isSome)
   && decide ((e :: es).length + ([]:List Keyword).length + (if ([]:List Keyword).isEmpty then 0 else 1) < 30)) = true:=by rfl)
  (hline:(apos.endLine == cpos.line) = true:=by rfl) (hs:starEach (e :: es) X.env = (false,eval e X.env) :: starEach es X.env:=by rfl) (hplain:(backTo cpos (starEach es X.env)).any (·.1) = false:=by rfl):
  C3 X (.Call (.Attribute o "append" apos) (e :: es) [] cpos) (Zez tyL Zcb f gl):=
 (Zl7 PySem.F.plainAttrs_list PySem.F.slot_list_append PySem.F.type_list_append Zkz ho ha hbase hfew hline hs hplain).imp (Zkr Zku)
end
end L3
namespace L3
open PySem PySem.Spec PyProof.Rows L2
section
variable {X:Cx}
theorem ZnJ {pins:List (Addr × Obj)} {σ:St} {H:Hp} {s:Shared} {ι:List Addr} {M:Store} {a b:D} {x y:V} {u v:Value} {k:Bool} (hu:X.A.units + 80 < cLine) (I:Inv X pins σ H s) (S:Zaa X.K H ι M)
  (ra:Rep X.K H ι a x) (rb:Rep X.K H ι b y) (ru:RelV x u) (rv:RelV y v) (h:eqD a b M = some k):SeqAt.RcNeAt X.A s u v (!k):=by
 cases a with
 | ref n=>
  cases b with
  | ref m=>
   simp only [eqD] at h
   cases hn:M[n]? with
   | none=>simp [hn] at h
   | some o=>
    cases o with
    | dct _=>simp [hn] at h
    | fdct _=>simp [hn] at h
    | ins _ _=>simp [hn] at h
    | lst ds=>
     cases hm:M[m]? with
     | none=>simp [hn,hm] at h
     | some o=>
      cases o with
      | dct _=>simp [hn,hm] at h
      | fdct _=>simp [hn,hm] at h
      | ins _ _=>simp [hn,hm] at h
      | lst es=>
       simp only [hn,hm] at h
       split at h
       ·rename_i hp
        cases h
        rw [Bool.and_eq_true] at hp
        obtain ⟨p,hp1,rfl⟩:=ra.ref_inv
        obtain ⟨q,hq1,rfl⟩:=rb.ref_inv
        cases ru
        cases rv
        obtain ⟨vs,e1,r1⟩:=S.obj n _ p hn hp1
        obtain ⟨ws,e2,r2⟩:=S.obj m _ q hm hq1
        obtain ⟨its,rvs,pl1,_⟩:=I.list (SqL.of e1)
        obtain ⟨its2,rws,pl2,_⟩:=I.list (SqL.of e2)
        have it1:=pl1.isList
        have it2:=pl2.isList
        have l1:its.length = ds.length:=by rw [← rvs.length,r1.length]
        have l2:its2.length = es.length:=by rw [← rws.length,r2.length]
        have hu1:X.A.units < cLine:=lB 1 17666545486865 T1 hu
        by_cases hl:ds.length = es.length
        ·have key:(List.range its.toArray.size).all (fun j=>match ds[j]?,es[j]? with | some a,some b=>deq a b | _,_=>false) = Zbn ds es:=by
          rw [List.size_toArray,l1]
          exact Zb3 hl fun j a b h1 h2=>by rw [h1,h2]
         rw [← key]
         refine SeqAt.RcNeAt.lists it1 it2 (by rw [List.size_toArray,List.size_toArray,l1,l2,hl]) hu1 fun j h1 h2=>?_
         have h1':j < ds.length:=by rw [← l1]; simpa using h1
         have h2':j < es.length:=by rw [← l2]; simpa using h2
         have q1:ds[j]? = some ds[j]:=by simp [h1']
         have q2:es[j]? = some es[j]:=by simp [h2']
         rw [q1,q2]
         obtain ⟨v1,g1,z1⟩:=r1.get q1
         obtain ⟨v2,g2,z2⟩:=r2.get q2
         obtain ⟨u1,k1,w1⟩:=rvs.get g1
         obtain ⟨u2,k2,w2⟩:=rws.get g2
         have m1:its.toArray[j] = u1:=by
          have:=List.getElem?_eq_some_iff.mp k1
          simpa using this.2
         have m2:its2.toArray[j] = u2:=by
          have:=List.getElem?_eq_some_iff.mp k2
          simpa using this.2
         rw [m1,m2]
         exact ZgZ I DEEP X.A.in1 ds[j] es[j] v1 v2 u1 u2 (by rw [units_in1]; show X.A.units + 1 + 60 + 1 < cLine; exact lB 1 0x1a3c2ba0ccc11502b0c11 T1 hu) (List.all_eq_true.mp hp.1 _ (List.getElem_mem h1')) (List.all_eq_true.mp hp.2 _ (List.getElem_mem h2')) z1 z2 w1 w2
        ·have z:Zbn ds es = false:=by
          cases q:Zbn ds es with
          | false=>rfl
          | true=>exact absurd (Zc2 q) hl
         rw [z]
         exact SeqAt.RcNeAt.lists_lengths it1 it2 (by rw [List.size_toArray,List.size_toArray,l1,l2]; simpa using hl) hu1
       ·cases h
  | _=>simp [eqD] at h
 | int i=>cases b with
  | int j=>
   simp only [eqD] at h
   cases h
   have:=ra.int_inv; subst this; have:=rb.int_inv; subst this
   obtain ⟨t,rfl⟩:=ru
   obtain ⟨t',rfl⟩:=rv
   rw [← Bool.beq_eq_decide_eq]
   exact SeqAt.RcNeAt.int_int _ _ _ _
  | _=>simp [eqD] at h
 | str i=>cases b with
  | str j=>
   simp only [eqD] at h
   cases h
   have:=ra.str_inv; subst this; have:=rb.str_inv; subst this
   obtain ⟨t,rfl⟩:=ru
   obtain ⟨t',rfl⟩:=rv
   have e:decide (i = j) = ((⟨i.toArray⟩:Str) == ⟨j.toArray⟩):=by
    rw [← Bool.beq_eq_decide_eq,← Zd4]
    by_cases h:(⟨i.toArray⟩:Str) = ⟨j.toArray⟩
    ·simp [h]
    ·simp [h]
   rw [e]
   exact SeqAt.RcNeAt.str_str _ _ _ _
  | _=>simp [eqD] at h
 | bl i=>cases b with
  | bl j=>
   simp only [eqD] at h
   cases h
   have:=ra.bl_inv; subst this; have:=rb.bl_inv; subst this
   cases ru
   cases rv
   rw [← Bool.beq_eq_decide_eq]
   exact SeqAt.RcNeAt.bool_bool _ _
  | _=>simp [eqD] at h
 | tup ds=>cases b with
  | tup es=>
   simp only [eqD] at h
   split at h
   ·rename_i hp
    cases h
    rw [Bool.and_eq_true] at hp
    obtain ⟨p,vs,rfl,s1,r1⟩:=ra.tup_inv
    obtain ⟨p',ws,rfl,s2,r2⟩:=rb.tup_inv
    cases ru
    cases rv
    obtain ⟨its,rvs,ht,_⟩:=I.tuple s1
    obtain ⟨its2,rws,ht2,_⟩:=I.tuple s2
    have e1:its.length = ds.length:=by rw [← rvs.length,r1.length]
    have e2:its2.length = es.length:=by rw [← rws.length,r2.length]
    have hu1:X.A.units < cLine:=lB 1 17666545486865 T1 hu
    have key:((List.range (min its.toArray.size its2.toArray.size)).all (fun j=>match ds[j]?,es[j]? with | some a,some b=>deq a b | _,_=>false) && its.toArray.size == its2.toArray.size) = Zbn ds es:=by
     rw [List.size_toArray,List.size_toArray,e1,e2]
     by_cases hl:ds.length = es.length
     ·rw [hl,Nat.min_self,beq_self_eq_true,Bool.and_true,← hl]
      exact Zb3 hl fun j a b h1 h2=>by rw [h1,h2]
     ·have z:Zbn ds es = false:=by
       cases q:Zbn ds es with
       | false=>rfl
       | true=>exact absurd (Zc2 q) hl
      rw [z,beq_eq_false_iff_ne.mpr hl,Bool.and_false]
    rw [← key]
    refine SeqAt.RcNeAt.tuples (show s.heap.IsTuple p its.toArray from ht) (show s.heap.IsTuple p' its2.toArray from ht2) hu1 fun j h1 h2=>?_
    have h1':j < ds.length:=by rw [← e1]; simpa using h1
    have h2':j < es.length:=by rw [← e2]; simpa using h2
    have q1:ds[j]? = some ds[j]:=by simp [h1']
    have q2:es[j]? = some es[j]:=by simp [h2']
    rw [q1,q2]
    obtain ⟨v1,g1,z1⟩:=r1.get q1
    obtain ⟨v2,g2,z2⟩:=r2.get q2
    obtain ⟨u1,k1,w1⟩:=rvs.get g1
    obtain ⟨u2,k2,w2⟩:=rws.get g2
    have m1:its.toArray[j] = u1:=by
     have:=List.getElem?_eq_some_iff.mp k1
     simpa using this.2
    have m2:its2.toArray[j] = u2:=by
     have:=List.getElem?_eq_some_iff.mp k2
     simpa using this.2
    rw [m1,m2]
    exact ZgZ I DEEP X.A.in1 ds[j] es[j] v1 v2 u1 u2 (by rw [units_in1]; show X.A.units + 1 + 60 + 1 < cLine; exact lB 1 0x1a3c2ba0ccc11502b0c11 T1 hu) (List.all_eq_true.mp hp.1 _ (List.getElem_mem h1')) (List.all_eq_true.mp hp.2 _ (List.getElem_mem h2')) z1 z2 w1 w2
   ·cases h
  | _=>simp [eqD] at h
 | _=>cases b <;> simp [eqD] at h
theorem Zmn (hu:X.A.units + 80 < cLine):OpR X (compareOp .NotEq) (r2 X.K ZdQ):=by
 intro pins s σ H x y v u Q I rx ry h
 obtain ⟨ι,M,a,b,S,ra,rb,h⟩:=h
 unfold ZdQ at h
 cases q:eqD a b M with
 | none=>rw [q] at h; exact h.elim
 | some k=>
  rw [q] at h
  exact ZnJ hu I S ra rb rx ry q X.prog X.w X.xe _ ⟨.bl (!k),H,I,rfl,Zae.ok h S Rep.bl⟩
theorem ZkL (x:List Nat) (n:Nat) (a:List Nat):(List.replicate n x.toArray).foldl (· ++ ·) a.toArray = (a ++ (List.replicate n x).flatten).toArray:=by
 induction n generalizing a with
 | zero=>simp
 | succ n ih=>
  rw [List.replicate_succ,List.foldl_cons,List.replicate_succ,List.flatten_cons]
  have:=ih (a ++ x)
  simp only [List.append_toArray] at this ⊢
  rw [this]
  simp
theorem Zni (x:List Nat) (k:Int):Txt.mul (⟨x.toArray⟩:Str) k = ⟨(List.replicate k.toNat x).flatten.toArray⟩:=by
 unfold Txt.mul
 split
 ·rename_i h
  have:k.toNat = 0:=Nat.le_antisymm (Nat.le_of_eq (Int.toNat_of_nonpos (iN [] [_] 1 235446417 T1 h))) (Nat.zero_le _)
  rw [this]; rfl
 ·split
  ·rename_i h1 h2
   simp only [Bool.or_eq_true,beq_iff_eq,Str.length,List.size_toArray] at h2
   rcases h2 with h2 | h2
   ·subst h2; simp
   ·have:x = []:=List.eq_nil_of_length_eq_zero h2
    subst this
    simp
  ·have:=ZkL x k.toNat []
   rw [List.nil_append] at this
   exact congrArg Str.mk this
theorem Zq.repl {K:PySem.W.Frag} {H:Hp} {ι:List Addr} {ds:List D} {vs:List V} (r:Zq K H ι ds vs):∀ k:Nat,Zq K H ι (List.replicate k ds).flatten (List.replicate k vs).flatten
 | 0=>Zq.nil
 | k + 1=>by rw [List.replicate_succ,List.replicate_succ,List.flatten_cons,List.flatten_cons]; exact r.append (Zq.repl r k)
theorem Zim:OpR X (binaryOp .Mult) (r2 X.K ZdT):=by
 have hs:OpR X (binaryOp .Mult) (fun x y H Q=>∃ (z:List Nat) (k:Int),x = .str ⟨z.toArray⟩ ∧ y = .int k ∧ z.length * k.toNat ≤ 1000000 ∧ k < 1000000 ∧ -1000000 < k ∧ Q (.str ⟨(List.replicate k.toNat z).flatten.toArray⟩) H):=by
  intro pins s σ H x y v u Q I rx ry h
  obtain ⟨z,k,rfl,rfl,h1,h2,h3,q⟩:=h
  obtain ⟨t,rfl⟩:=rx
  obtain ⟨t',rfl⟩:=ry
  refine SB.mul ⟨?_,fun h4 h5=>?_,fun h4 h5=>?_⟩ fun t'' tk=>?_
  ·simp; omega
  ·simp only [Str.length,List.size_toArray]
   simp at h4 h5
   have hk:2 ≤ k:=by
    simp only [Str.length,List.size_toArray] at h5
    omega
   have e:(k.toNat:Int) = k:=Int.le_antisymm (Int.le_of_eq (Int.toNat_of_nonneg (iN [] [_] 1 3892452225 T1 hk))) ((Int.self_le_toNat _))
   have hm:(z.length:Int) * k ≤ 1000000:=by
    have h1':((z.length * k.toNat:Nat):Int) ≤ 1000000:=Int.ofNat_le.mpr h1
    rw [Int.natCast_mul,e] at h1'
    exact h1'
   have hd:(z.length:Int) ≤ 9223372036854775807 / k:=Int.le_ediv_of_mul_le (iN [] [_] 1 3909229441 T1 hk) (by omega)
   show ¬ ((z.length:Int) > (2 ^ 63 - 1) / k)
   have e3:((2:Int) ^ 63 - 1) = 9223372036854775807:=by decide
   rw [e3]
   exact fun z=>iN [_] [_] 2 6599352549521 T1 z hd
  ·unfold Builtin.Str.tooLong
   simp only [Str.length,List.size_toArray,decide_eq_false_iff_not]
   have hsz:(1000000:Nat) ≤ sizeLine:=Zbb
   exact fun z=>lB 3 0x6f42405b1010f42405b011011 T1 z hsz h1
  ·rw [Zni]
   exact ⟨.str _,H,I.tok _,⟨_,rfl⟩,q⟩
 refine OpR.imp (OpR.or ZnI (OpR.or hs ZnC)) fun x y H Q zz1=>?_
 obtain ⟨ι,M,a,b,S,ra,rb,h⟩:=zz1
 cases a with
 | int i=>cases b with
  | int j=>
   simp only [ZdT] at h
   split at h
   ·rename_i hm
    refine .inl ⟨i,j,ra.int_inv,rb.int_inv,?_,Zae.ok h S Rep.int⟩
    simp only [Zc9,Bool.or_eq_true,Bool.and_eq_true,decide_eq_true_eq] at hm
    exact hm
   ·exact h.elim
  | _=>exact h.elim
 | str z=>cases b with
  | int k=>
   simp only [ZdT] at h
   split at h
   ·rename_i hz
    exact .inr (.inl ⟨z,k,ra.str_inv,rb.int_inv,hz.1,hz.2.1,hz.2.2,Zae.ok h S Rep.str⟩)
   ·exact h.elim
  | _=>exact h.elim
 | ref n=>cases b with
  | int k=>
   simp only [ZdT] at h
   cases hn:M[n]? with
   | none=>simp only [hn] at h; exact h.elim
   | some o=>
    cases o with
    | dct _=>simp only [hn] at h; exact h.elim
    | fdct _=>simp only [hn] at h; exact h.elim
    | ins _ _=>simp only [hn] at h; exact h.elim
    | lst z=>
     simp only [hn] at h
     split at h
     ·rename_i hz
      obtain ⟨p,hp,rfl⟩:=ra.ref_inv
      obtain ⟨vs,e,r⟩:=S.obj n _ p hn hp
      refine .inr (.inr ⟨p,k,vs,rfl,rb.int_inv,e,by omega,by omega,by rw [r.length]; exact Nat.le_trans hz.1 Zbb,fun q hq=>?_⟩)
      obtain ⟨x2,S2,r2⟩:=S.lst hq (Zq.repl r k.toNat)
      exact h _ _ _ x2 S2 r2
     ·exact h.elim
  | _=>exact h.elim
 | _=>cases b <;> exact h.elim
theorem ZiH (n d:Nat) (hd:d ≤ n) (o:Option Int):(match o with | none=>(d:Int) | some i=>max 0 (min (if i < 0 then i + (n:Int) else i) (n:Int))) = ((sIx n d o:Nat):Int):=by
 cases o with
 | none=>rfl
 | some v=>
  show max 0 (min (if v < 0 then v + (n:Int) else v) (n:Int)) = (((if v < 0 then (v + (n:Int)).toNat else min v.toNat n):Nat):Int)
  by_cases h:v < 0
  ·rw [if_pos h,if_pos h]; exact clC v n h
  ·rw [if_neg h,if_neg h]; exact clD v n h
theorem Ze0 (lo hi:Option Int) (n:Nat):Builtin.Str.strSliceIndices lo hi 1 n = (List.range (sIx n n hi - sIx n 0 lo)).map (fun k=>sIx n 0 lo + k):=by
 have e1:=ZiH n 0 (Nat.zero_le _) lo
 have e2:=ZiH n n (Nat.le_refl _) hi
 have key:Builtin.Str.strSliceIndices lo hi 1 n = sliceRange ((sIx n 0 lo:Nat):Int) ((sIx n n hi:Nat):Int) 1:=by
  rw [← e1,← e2]
  simp only [Builtin.Str.strSliceIndices,show ((1:Int) > 0) = True from by simp,if_true]
  cases lo <;> cases hi <;> rfl
 rw [key]
 generalize sIx n 0 lo = a
 generalize sIx n n hi = b
 simp only [sliceRange,show ((1:Int) > 0) = True from by simp,if_true]
 by_cases hlt:(a:Int) < b
 ·have e3:(((b:Int) - a + 1 - 1) / 1).toNat = b - a:=by first | exact Nat.le_antisymm (iN [_,_,_,_] [_] 3 0x230038a112c001aa1808fcf001d81 T1 (Int.mul_ediv_self_le (by decide)) (sbA _ _) (Int.toNat_of_nonneg (iN [_,_] [_] 2 0xe8a001dcaa0818fcf91180891 T1 hlt (Int.lt_mul_ediv_self_add (by decide))))) (iN [_,_,_,_] [_] 3 0x230013c2128081a001dcaa1808fcf91 T1 (Int.lt_mul_ediv_self_add (by decide)) (Int.self_le_toNat _) (Nat.sub_add_cancel (iN [_,_] [] 1 4296542353 T1 hlt))) | (simp; done) | (simp; omega)
  simp only [hlt,if_true,e3]
  refine List.map_congr_left fun k _=>?_
  exact Nat.le_antisymm (iN [_,_,_] [] 1 0x21c002801d18c08a1 T1 (Int.toNat_of_nonneg (iN [_,_] [] 0 103109659880 T1))) (iN [_,_,_] [] 1 0x210c0281801d08c81 T1 (Int.self_le_toNat _))
 ·have:b - a = 0:=Nat.le_antisymm (Nat.le_of_eq (Nat.sub_eq_zero_of_le (iN [_,_] [] 1 270010577 T1 hlt))) (Nat.zero_le _)
  simp [hlt,this]
theorem ZgP (n d:Nat) (hd:d ≤ n) (o:Option Int):sIx n d o ≤ n:=by
 cases o with
 | none=>exact hd
 | some v=>simp only [sIx]; split <;> omega
theorem Zh1 (z:List Nat) (lo hi:Option Int) (l u:Option (Int × Tok)) (hl:l.map (·.1) = lo) (hu:u.map (·.1) = hi):
  (if ((1:Int) == 1 && (slicePicked ⟨z.toArray⟩ l u none).length == (⟨z.toArray⟩:Str).length) = true then (⟨z.toArray⟩:Str) else ⟨((slicePicked ⟨z.toArray⟩ l u none).filterMap ((⟨z.toArray⟩:Str).cps[·]?)).toArray⟩) = ⟨(cutD z lo hi).toArray⟩:=by
 have e0:slicePicked ⟨z.toArray⟩ l u none = (List.range (sIx z.length z.length hi - sIx z.length 0 lo)).map (fun k=>sIx z.length 0 lo + k):=by
  unfold slicePicked
  rw [hl,hu]
  simp only [Str.length,List.size_toArray]
  exact Ze0 lo hi z.length
 have hb:=ZgP z.length z.length (Nat.le_refl _) hi
 rw [e0]
 have pick:((List.range (sIx z.length z.length hi - sIx z.length 0 lo)).map (fun k=>sIx z.length 0 lo + k)).filterMap ((⟨z.toArray⟩:Str).cps[·]?) = cutD z lo hi:=by
  unfold cutD
  by_cases hab:sIx z.length 0 lo ≤ sIx z.length z.length hi
  ·have h:=StrLaws.picks z (sIx z.length z.length hi - sIx z.length 0 lo) (sIx z.length 0 lo) (lD 2 82120338080600065 T1 hb (Nat.sub_add_cancel hab))
   simpa using h
  ·have:sIx z.length z.length hi - sIx z.length 0 lo = 0:=Nat.le_antisymm (Nat.le_of_eq (Nat.sub_eq_zero_of_le (lB 1 1052737 T1 hab))) (Nat.zero_le _)
   rw [this]
   simp
 rw [pick]
 split
 ·rename_i hc
  simp only [List.length_map,List.length_range,Str.length,List.size_toArray,Bool.and_eq_true,beq_iff_eq] at hc
  have hc2:=hc.2
  have h0:sIx z.length 0 lo = 0 ∨ z.length = 0:=by omega
  have:cutD z lo hi = z:=by
   unfold cutD
   rcases h0 with h0 | h0
   ·rw [h0,List.drop_zero,List.take_of_length_le (by exact lD 3 0x3102001e3c2011031 T1 hc2 (sbA _ _) (Nat.sub_le _ _))]
   ·have:z = []:=List.eq_nil_of_length_eq_zero h0
    subst this
    simp
  rw [this]
 ·rfl
theorem Znk:SlR X (fun x lo hi H Q=>∃ z:List Nat,x = .str ⟨z.toArray⟩ ∧ z.length ≤ SZ ∧ Q (.str ⟨(cutD z lo hi).toArray⟩) H):=by
 intro pins s σ H x v vl vu lo hi sl Q I rx hs pl pu h
 obtain ⟨z,rfl,hz,q⟩:=h
 obtain ⟨t,rfl⟩:=rx
 have part:∀ {v:Value} {o:Option Int},IsPart v o → ∃ p:Option (Int × Tok),v = partValue p ∧ p.map (·.1) = o:=by
  intro v o h
  cases h with
  | none=>exact ⟨none,rfl,rfl⟩
  | int i t=>exact ⟨some (i,t),rfl,rfl⟩
 obtain ⟨l,rfl,hl⟩:=part pl
 obtain ⟨u,rfl,hu⟩:=part pu
 refine ⟨"str",_,PySem.F.slot_str_getitem.lookup,typeIs_str _ _ _,?_⟩
 refine wpAny_getItem_str_slice (l:=l) (u:=u) (st:=none) hs rfl ?_
 unfold sliceMade
 refine post_val_or_made (fun _=>?_) fun t' k=>?_
 ·show ((slicePicked ⟨z.toArray⟩ l u none).filterMap ((⟨z.toArray⟩:Str).cps[·]?)).toArray.size ≤ sizeLine
  rw [List.size_toArray]
  refine Nat.le_trans (List.length_filterMap_le _ _) ?_
  show (Builtin.Str.strSliceIndices (l.map (·.1)) (u.map (·.1)) 1 (⟨z.toArray⟩:Str).length).length ≤ sizeLine
  rw [Ze0]
  simp only [List.length_map,List.length_range,Str.length,List.size_toArray]
  have:=ZgP z.length z.length (Nat.le_refl _) (u.map (·.1))
  have:=Zbb
  omega
 ·have e:=Zh1 z lo hi l u hl hu
  have e':(if (((none:Option (Int × Tok)).map (·.1)).getD 1 == 1 && (slicePicked ⟨z.toArray⟩ l u none).length == (⟨z.toArray⟩:Str).length) = true then (⟨z.toArray⟩:Str) else ⟨((slicePicked ⟨z.toArray⟩ l u none).filterMap ((⟨z.toArray⟩:Str).cps[·]?)).toArray⟩) = ⟨(cutD z lo hi).toArray⟩:=e
  rw [e']
  exact ⟨.str _,H,I.tok _,⟨_,rfl⟩,q⟩
theorem Zd5 {prog:Program} {w:World} {A:Around} {E:Value → Shared → Prop} {s:Shared} {t sl:Addr} {items:Array Value} {vl vu:Value} {lo hi:Option Int} {Q:Value → Shared → Prop} (ht:IsTup s.heap t items) (hs:s.heap.IsSliceOf sl vl vu .none) (pl:IsPart vl lo) (pu:IsPart vu hi)
  (hw:HT.sIx items.size 0 lo = 0 ∧ HT.sIx items.size items.size hi = items.size) (h:Q (.ref t) s):wpAny (model prog w) A (getItem (.ref t) (.ref sl)) Q E s:=by
 obtain ⟨os,hos,hcs,hds⟩:=id hs
 have hTs:s.TypeIs (.ref sl) "slice":=⟨os,hos,hcs⟩
 unfold getItem
 try with_reducible refine wpAny_holding ?_
 first | refine wpAny_bind (wpAny_pure ?_) | skip
 refine wpAny_bind (wpAny_sequenceKey ht.typeIs (by decide) ?_)
 refine wpAny_bind (wpAny_callSpecial?_slot (name:=Str.ofString "__getitem__") ht.typeIs PyProof.Rows.slot_tuple_getitem
  (wpAny_call_entry PyProof.Rows.slot_tuple_getitem ht.typeIs entry_tuple_getitem ?_ (args_tuple_getitem _ _)))
 show wpAny _ _ (Builtin.Tuple.tupleItemsOf (.ref t) >>= _) _ _ s
 refine wpAny_bind (tupleItemsOf_ ht ?_)
 refine wpAny_bind (wpAny_typeOf hTs ?_)
 rw [if_pos (by decide)]
 refine wpAny_bind (HT.sliceApplied_gen hs pl pu ?_)
 have hyes:(((HT.sIx items.size 0 lo:Nat):Int) == 0 && (1:Int) == 1 && (HT.sIx items.size items.size hi - HT.sIx items.size 0 lo) == items.size) = true:=by
  rw [hw.1,hw.2]; simp
 show wpAny _ _ (if (((HT.sIx items.size 0 lo:Nat):Int) == 0 && (1:Int) == 1 && (HT.sIx items.size items.size hi - HT.sIx items.size 0 lo) == items.size) = true then _ else _) _ _ s
 rw [if_pos hyes]
 unfold Builtin.Tuple.tupleIsExact
 refine wpAny_bind (wpAny_bind (wpAny_typeOf ht.typeIs (wpAny_pure ?_)))
 rw [if_pos (by decide)]
 exact wpAny_bind (wpAny_rule (wpAny_pure ⟨_,rfl,wpAny_pure h⟩))
theorem ZkR:SlR X (fun x lo hi H Q=>∃ a xs,x = .ref a ∧ SqT X.K H a xs ∧ (HT.sIx xs.length 0 lo = 0 ∧ HT.sIx xs.length xs.length hi = xs.length) ∧ Q (.ref a) H):=by
 intro pins s σ H x v vl vu lo hi sl Q I rx hs pl pu h
 obtain ⟨a,xs,rfl,hx,hw,q⟩:=h
 cases rx
 obtain ⟨its,r,ht,hz⟩:=I.tuple hx
 have hlen:its.toArray.size = xs.length:=by rw [List.size_toArray]; exact r.length.symm
 refine ⟨"tuple",_,PyProof.Rows.slot_tuple_getitem.lookup,ht.typeIs,?_⟩
 exact Zd5 ht hs pl pu (by rw [hlen]; exact hw) ⟨.ref a,H,I,rfl,q⟩
theorem Zdb:SlR X (rS X.K):=SlR.imp (SlR.or (SlR.or Zmm ZkR) (SlR.or ZlE Znk)) fun x lo hi H Q zz1=>by
 obtain ⟨ι,M,a,S,ra,h⟩:=zz1
 have ex:∀ n d o,HT.sIx n d o = sIx n d o:=fun n d o=>by cases o <;> rfl
 cases a with
 | tup ds=>
  simp only [Zcg] at h
  obtain ⟨p,vs,rfl,s,r⟩:=ra.tup_inv
  by_cases hw:sIx ds.length 0 lo = 0 ∧ sIx ds.length ds.length hi = ds.length
  ·refine .inl (.inr ⟨p,vs,rfl,s,by rw [ex,ex,r.length]; exact hw,?_⟩)
   have e:cutD ds lo hi = ds:=by unfold cutD; rw [hw.1,hw.2]; simp
   rw [e] at h
   exact Zae.ok h S (Rep.tup s r)
  ·refine .inl (.inl ⟨p,vs,rfl,s,by rw [ex,ex,r.length]; exact hw,fun q hq=>?_⟩)
   obtain ⟨x2,S2,r2⟩:=S.tupl hq (Zh3 r lo hi)
   exact h _ _ _ x2 S2 r2
 | scr ds=>
  simp only [Zcg] at h
  obtain ⟨p,vs,rfl,s,r⟩:=ra.scr_inv
  refine .inr (.inl ⟨p,vs,rfl,s.sq,fun q hq=>?_⟩)
  obtain ⟨x2,S2,r2⟩:=S.lst hq (Zh3 r lo hi)
  exact h _ _ _ x2 S2 r2
 | str z=>
  simp only [Zcg] at h
  split at h
  ·rename_i hz
   exact .inr (.inr ⟨z,ra.str_inv,hz,Zae.ok h S Rep.str⟩)
  ·exact h.elim
 | ref n=>
  simp only [Zcg] at h
  cases hn:M[n]? with
  | none=>simp only [hn] at h; exact h.elim
  | some o=>
   cases o with
   | dct _=>simp only [hn] at h; exact h.elim
   | fdct _=>simp only [hn] at h; exact h.elim
   | ins _ _=>simp only [hn] at h; exact h.elim
   | lst ds=>
    simp only [hn] at h
    obtain ⟨p,hp,rfl⟩:=ra.ref_inv
    obtain ⟨vs,e,r⟩:=S.obj n _ p hn hp
    refine .inr (.inl ⟨p,vs,rfl,SqL.of e,fun q hq=>?_⟩)
    obtain ⟨x2,S2,r2⟩:=S.lst hq (Zh3 r lo hi)
    exact h _ _ _ x2 S2 r2
 | _=>exact h.elim
theorem Zfg {K:PySem.W.Frag} {H:Hp} {ι:List Addr} {d:D} {xs:List V} (r:Zq K H ι [d] xs):∃ x,xs = [x] ∧ Rep K H ι d x:=by
 obtain ⟨v,ws,rfl,r1,r2⟩:=r.cons_inv
 have:=r2.nil_inv
 subst this
 exact ⟨v,rfl,r1⟩
theorem ZbQ:ZbK X (.builtin "len") (rB X.K ZaD):=ZbK.imp ZjY fun xs H Q zz1=>by
 obtain ⟨ι,M,ds,S,rd,h⟩:=zz1
 cases ds with
 | nil=>exact h.elim
 | cons d ds=>
  cases ds with
  | cons _ _=>cases d <;> exact h.elim
  | nil=>
   obtain ⟨x,rfl,r⟩:=Zfg rd
   cases d with
   | tup z=>
    obtain ⟨p,vs,rfl,s,r'⟩:=r.tup_inv
    exact ⟨_,vs.length,rfl,.inr ⟨vs,s,rfl⟩,by rw [r'.length]; exact Zae.ok h S Rep.int⟩
   | scr z=>
    obtain ⟨p,vs,rfl,s,r'⟩:=r.scr_inv
    exact ⟨_,vs.length,rfl,.inl ⟨vs,s.sq,rfl⟩,by rw [r'.length]; exact Zae.ok h S Rep.int⟩
   | str z=>
    simp only [ZaD] at h
    split at h
    ·rename_i hz
     have:=r.str_inv
     subst this
     refine ⟨_,z.length,rfl,⟨?_,?_⟩,Zae.ok h S Rep.int⟩
     ·show z.toArray.size ≤ sizeLine
      rw [List.size_toArray]
      exact Nat.le_trans hz Zbb
     ·show z.length = z.toArray.size
      rw [List.size_toArray]
    ·exact h.elim
   | ref n=>
    cases hn:M[n]? with
    | none=>simp only [ZaD,hn] at h; exact h.elim
    | some o=>
     cases o with
     | dct _=>simp only [ZaD,hn] at h; exact h.elim
     | fdct _=>simp only [ZaD,hn] at h; exact h.elim
     | ins _ _=>simp only [ZaD,hn] at h; exact h.elim
     | lst z=>
      simp only [ZaD,hn] at h
      obtain ⟨p,hp,rfl⟩:=r.ref_inv
      obtain ⟨vs,e,r'⟩:=S.obj n _ p hn hp
      exact ⟨_,vs.length,rfl,.inl ⟨vs,SqL.of e,rfl⟩,by rw [r'.length]; exact Zae.ok h S Rep.int⟩
   | _=>exact h.elim
theorem ZdI:ZbK X (.type "tuple") (rB X.K Zbx):=ZbK.imp Zf7 fun xs H Q zz1=>by
 obtain ⟨ι,M,ds,S,rd,h⟩:=zz1
 cases ds with
 | nil=>exact h.elim
 | cons d ds=>
  cases ds with
  | cons _ _=>cases d <;> exact h.elim
  | nil=>
   obtain ⟨x,rfl,r⟩:=Zfg rd
   cases d with
   | tup z=>
    obtain ⟨p,vs,rfl,s,r'⟩:=r.tup_inv
    exact ⟨p,vs,rfl,.inr ⟨s,Zae.ok h S (Rep.tup s r')⟩⟩
   | scr z=>
    obtain ⟨p,vs,rfl,s,r'⟩:=r.scr_inv
    refine ⟨p,vs,rfl,.inl ⟨s.sq,fun q hq=>?_⟩⟩
    obtain ⟨x2,S2,r2⟩:=S.tupl hq r'
    exact h _ _ _ x2 S2 r2
   | ref n=>
    cases hn:M[n]? with
    | none=>simp only [Zbx,hn] at h; exact h.elim
    | some o=>
     cases o with
     | dct _=>simp only [Zbx,hn] at h; exact h.elim
     | fdct _=>simp only [Zbx,hn] at h; exact h.elim
     | ins _ _=>simp only [Zbx,hn] at h; exact h.elim
     | lst z=>
      simp only [Zbx,hn] at h
      obtain ⟨p,hp,rfl⟩:=r.ref_inv
      obtain ⟨vs,e,r'⟩:=S.obj n _ p hn hp
      refine ⟨p,vs,rfl,.inl ⟨SqL.of e,fun q hq=>?_⟩⟩
      obtain ⟨x2,S2,r2⟩:=S.tupl hq r'
      exact h _ _ _ x2 S2 r2
   | _=>exact h.elim
theorem Zm8:ZbK X (.type "list") (rB X.K ZdU):=ZbK.imp ZgW fun xs H Q zz1=>by
 obtain ⟨ι,M,ds,S,rd,h⟩:=zz1
 cases ds with
 | nil=>exact h.elim
 | cons d ds=>
  cases ds with
  | cons _ _=>cases d <;> exact h.elim
  | nil=>
   obtain ⟨x,rfl,r⟩:=Zfg rd
   cases d with
   | tup z=>
    obtain ⟨p,vs,rfl,s,r'⟩:=r.tup_inv
    refine ⟨p,vs,rfl,.inr s,fun q hq=>?_⟩
    obtain ⟨x2,S2,r2⟩:=S.lst hq r'
    exact h _ _ _ x2 S2 r2
   | scr z=>
    obtain ⟨p,vs,rfl,s,r'⟩:=r.scr_inv
    refine ⟨p,vs,rfl,.inl s.sq,fun q hq=>?_⟩
    obtain ⟨x2,S2,r2⟩:=S.lst hq r'
    exact h _ _ _ x2 S2 r2
   | ref n=>
    cases hn:M[n]? with
    | none=>simp only [ZdU,hn] at h; exact h.elim
    | some o=>
     cases o with
     | dct _=>simp only [ZdU,hn] at h; exact h.elim
     | fdct _=>simp only [ZdU,hn] at h; exact h.elim
     | ins _ _=>simp only [ZdU,hn] at h; exact h.elim
     | lst z=>
      simp only [ZdU,hn] at h
      obtain ⟨p,hp,rfl⟩:=r.ref_inv
      obtain ⟨vs,e,r'⟩:=S.obj n _ p hn hp
      refine ⟨p,vs,rfl,.inl (SqL.of e),fun q hq=>?_⟩
      obtain ⟨x2,S2,r2⟩:=S.lst hq r'
      exact h _ _ _ x2 S2 r2
   | _=>exact h.elim
end
end L3
namespace L3
open PySem PySem.Spec PyProof.Rows L2
theorem Za7:bootBuiltins "len" = some (.builtin "len"):=by decide +kernel
theorem Zi1:bootBuiltins "sorted" = some (.builtin "sorted"):=by decide +kernel
theorem ZcT:bootBuiltins "isinstance" = some (.builtin "isinstance"):=by decide +kernel
theorem ZkW:bootBuiltins "list" = some (.type "list"):=by decide +kernel
theorem Zc5:bootBuiltins "tuple" = some (.type "tuple"):=by decide +kernel
section
variable {X:Cx} {a:Expr} {pos p p2:Pos} {f:E3}
noncomputable def tyN:Ty3 → String
 | .int=>"int" | .bool=>"bool" | .str=>"str" | .list=>"list" | .tuple=>"tuple"
theorem Zea (K:PySem.W.Frag) (t:String) (T:Ty3) (ht:t ∈ ["NoneType","bool","int","str","list","tuple","dict"]):
  PySem.W.kitOne K (.type t) (.type (tyN T)) = some (t == tyN T || (t == "bool" && tyN T == "int")):=by
 simp only [List.mem_cons,List.not_mem_nil,or_false] at ht
 rcases ht with rfl | rfl | rfl | rfl | rfl | rfl | rfl <;> cases T <;> kernel_rfl
theorem Zoh (T:Ty3):bootBuiltins (tyN T) = some (.type (tyN T)):=by cases T <;> decide +kernel
theorem ZkS {pins:List (Addr × Obj)} {σ:St} {H:Hp} {s:Shared} {ι:List Addr} {M:Store} {A:Around} {E:Value → Shared → Prop} {Q:Value → Shared → Prop} {T:Ty3} {d:D} {x:V} {u:Value} {b:Bool} (I:Inv X pins σ H s) (S:Zaa X.K H ι M) (r:Rep X.K H ι d x) (ru:RelV x u)
  (e:Zf3 T d M = some b) (h:∀ tk,Q (.bool b) { s with toks:=tk }):wpAny (model X.prog X.w) A (call (.builtin "isinstance") [u,.type (tyN T)]) Q E s:=by
 cases d with
 | non=>
  have:=r.non_inv; subst this
  have hb:b = false:=by simpa [Zf3] using e.symm
  subst hb
  exact Zcy I ru (.non) ((Zea X.K "NoneType" T (by simp)).trans (by cases T <;> rfl)) h
 | bl c=>
  have:=r.bl_inv; subst this
  have hb:b = (T == .bool || T == .int):=by simpa [Zf3] using e.symm
  subst hb
  exact Zcy I ru (.bl c) ((Zea X.K "bool" T (by simp)).trans (by cases T <;> rfl)) h
 | int i=>
  have:=r.int_inv; subst this
  have hb:b = (T == .int):=by simpa [Zf3] using e.symm
  subst hb
  exact Zcy I ru (.int i) ((Zea X.K "int" T (by simp)).trans (by cases T <;> rfl)) h
 | str z=>
  have:=r.str_inv; subst this
  have hb:b = (T == .str):=by simpa [Zf3] using e.symm
  subst hb
  exact Zcy I ru (.str _) ((Zea X.K "str" T (by simp)).trans (by cases T <;> rfl)) h
 | tup ds=>
  obtain ⟨a,vs,rfl,st,rr⟩:=r.tup_inv
  cases ru
  have hb:b = (T == .tuple):=by simpa [Zf3] using e.symm
  subst hb
  obtain ⟨its,_,pt,_⟩:=I.tuple st
  obtain ⟨o,h1,h2,_⟩:=pt
  exact PySem.W.kia_one PySem.W.kitx_tuple I.kIn ⟨o,h1,h2⟩ ((Zea X.K "tuple" T (by simp)).trans (by cases T <;> rfl)) (fun z=>nomatch z) h
 | scr ds=>simp [Zf3] at e
 | ref n=>
  simp only [Zf3] at e
  cases hn:M[n]? with
  | none=>simp [hn] at e
  | some o=>
   obtain ⟨a,ha,rfl⟩:=r.ref_inv
   cases o with
   | lst z=>
    have hb:b = (T == .list):=by simpa [hn] using e.symm
    subst hb
    obtain ⟨vs,ev,_⟩:=S.obj n _ a hn ha
    exact Zcy I ru (.lst ev) ((Zea X.K "list" T (by simp)).trans (by cases T <;> rfl)) h
   | dct z=>
    have hb:b = false:=by simpa [hn] using e.symm
    subst hb
    obtain ⟨vs,ev,_⟩:=S.obj n _ a hn ha
    exact Zcy I ru (.dK ev) ((Zea X.K "dict" T (by simp)).trans (by cases T <;> rfl)) h
   | fdct z=>simp [hn] at e
   | ins _ _=>simp [hn] at e
theorem ZgQ (T:Ty3) {x:Str} (hm:X.mg "isinstance" = none) (hm2:X.mg x = none) (h:C3 X a f) (hx:x = (Str.ofString (tyN T)):=by rfl) (hg:Gl X "isinstance":=by rfl) (hg2:Gl X x:=by rfl)
  (hn:x ≠ "__name__":=by decide) (hd:(x == ("__debug__":Str)) = false:=by decide)
  (hs:starEach (a :: [.Name x p2]) X.env = (false,eval a X.env) :: starEach [.Name x p2] X.env:=by rfl) (hs2:starEach (.Name x p2 :: []) X.env = (false,eval (.Name x p2) X.env) :: starEach [] X.env:=by rfl)
  (hpl:(backTo pos (starEach [.Name x p2] X.env)).any (·.1) = false:=by rfl):C3 X (.Call (.Name "isinstance" p) [a,.Name x p2] [] pos) (e1 (ZcB T) f):=by
 subst hx
 have hc:ZbK X (.builtin "isinstance") (fun xs H Q=>∃ ι M d x,xs = [x,.ty (tyN T)] ∧ Zaa X.K H ι M ∧ Rep X.K H ι d x ∧ Zae X.K H ι Q (ZcB T d M)):=by
  intro pins s σ H xs us Q I r q
  obtain ⟨ι,M,d,x,rfl,S,rd,q⟩:=q
  obtain ⟨u,w',rfl,ru,rw'⟩:=vals2 r
  cases rw'
  unfold ZcB at q
  cases e:Zf3 T d M with
  | none=>rw [e] at q; exact q.elim
  | some b=>
   rw [e] at q
   exact ZkS I S rd ru e fun tk=>⟨.bl b,H,I.tok _,rfl,Zae.ok q S Rep.bl⟩
 refine (ZeF hc hg hm ZcT (Zcr h (Zcr (Zir hg2 hm2 (Zoh T) (v:=.ty (tyN T)) rfl hn hd) ZeQ hs2) hs) (by decide) (by decide) hs hpl).imp fun σ H Q zz1=>?_
 obtain ⟨ι,M,env,S,E,h⟩:=zz1
 obtain ⟨d,M1,e1,h⟩:=Zae.bind h
 refine ⟨ι,M,env,S,E,?_⟩
 rw [e1]
 intro v H1 ι1 x1 S1 r1
 exact ⟨ι1,M1,d,v,rfl,S1,r1,h.up x1⟩
end
noncomputable def ZlX (outer:List (Str × NameKind)) (N:List Str) (scope:Scope) (N':List Str) (own:Nat):Bool:=
 (scope.names.all fun y=>decide (y.2 ≠ .cell) && (decide (y.2 ≠ .free) || decide (outer.lookup y.1 = some .cell) || decide (outer.lookup y.1 = some .free)) && (decide (y.2 ≠ .local) || decide (scope.names.lookup y.1 = some .local))) &&
  decide (N'.length = N.length + own) && ZjW N N' scope
theorem Zgw {X:Cx} {scope:Scope} {N':List Str} {own:Nat} (hk:scope.kind = .function) (h:ZlX X.env.scope.names X.N scope N' own = true):Zh2 X scope N' own:=by
 simp only [ZlX,Bool.and_eq_true,decide_eq_true_eq,List.all_eq_true,Bool.or_eq_true] at h
 obtain ⟨⟨h1,h2⟩,h3⟩:=h
 refine ⟨hk,fun y hy=>(h1 y hy).1.1,fun y hy e=>?_,fun y hy e=>?_,h2,h3⟩
 ·rcases (h1 y hy).1.2 with (q | q) | q
  ·exact absurd e q
  ·exact .inl q
  ·exact .inr q
 ·rcases (h1 y hy).2 with q | q
  ·exact absurd e q
  ·exact q
theorem ZaM {K:PySem.W.Frag} {h:Heap} {mg:Str → Option Value} (KX:K.In h) (G:h.Ns mainGlobals mg) {x:Str} {st:Stmt} {f:Addr} {oc:Value} {od an:Option Addr} {osl:Array (Option Value)} {dV kV doc pm cdv ct:Value}
  (a:PySem.W.nsIn K mainGlobals x = some (some (.ref f))) (l:K.lookup f = some ⟨oc,od,.func (PySem.W.fnOf x x (Zax st) (Zao st) (Zj st) dV kV doc pm an cdv ct),osl⟩)
  (c:PySem.W.codeIn K cdv x = true) (k:PySem.W.keepIn K (.ref f) = true) {ps:List Str} (b:Binds K (PySem.W.fnOf x x (Zax st) (Zao st) (Zj st) dV kV doc pm an cdv ct) ps []):ZaH K mg x st ps:=⟨f,_,Zjq l c k,PySem.W.mg_of KX G a,b⟩
theorem ZoF {l:PySem.W.OpenLaw} {k:Nat} {q:Program} {loose:List Str} {XP:(Str → Option Value) → Heap → Prop} {YP:World → Heap → Prop} {d:DefRec} {K:Params → PySem.W.Frag} {F:F3} (hn:l.most = some 63) (hdf:d.params.defaults = []) (hr:ZbW k callerA)
  (hY:∀ (w:World) (h:Heap),YP w h → (K w.params).In h)
  (G:∀ (w:World) (mg:Str → Option Value) (fa:Addr) (h:Heap),(K w.params).In h → h.Ns mainGlobals mg → mg d.name = some (.ref fa) →
   ∃ fd:FuncData,(∀ (s:Shared) (u:Value),BindsTo s fd ⟨[u],[]⟩ [("script",u)]) ∧ ∀ base:Heap,(K w.params).In base → base.Ns mainGlobals mg → ZcW l.prog w (K w.params) mg base CX0 k fa fd ["script"] (sp3 (K w.params) 1 F))
  (hF:∀ ns:List Int,ns.length ≤ 63 → ∃ M',F [.scr (ns.map D.int)] [] = .ok (.bl true) M'):
  PySem.W.WalkO q loose XP YP l.row.toRowW d [] (fun f vs=>PySem.call f vs):=
 L2.ZiO (n:=63) (k:=k) (x:="script") (CX:=fun _=>CX0) (sp:=fun w=>sp3 (K w.params) 1 F) hn (by decide) hdf hr hY G (fun w H a ns hl hO hS=>by
  obtain ⟨M',e⟩:=hF ns hl
  refine ⟨[],[],[.scr (ns.map D.int)],⟨rfl,List.nodup_nil,fun n o a h=>by simp at h⟩,Zq.cons ?_ Zq.nil,rfl,?_⟩
  ·simp only [Rep]
   refine ⟨a,ns.map V.int,rfl,?_,Zq.ints ns⟩
   rcases hS with (h | ⟨o,h⟩) | h
   ·rcases hO a with z | ⟨ob,xs,z⟩
    ·rw [h] at z; cases z
    ·rw [h] at z; cases z
   ·exact .inl ⟨o,h⟩
   ·exact .inr h
  ·rw [e]
   exact fun v H' ι' _ _ r=>r.bl_inv) fun _ _ _ _ _ z=>z
end L3
namespace L3
open PySem PySem.Spec PyProof.Rows L2
theorem Zh8 {a b:Zb4} (h:dk a = dk b):a = b:=by
 cases a with
 | inl i=>cases b with
  | inl j=>simp only [dk,Sum.inl.injEq] at h; rw [h]
  | inr y=>simp [dk] at h
 | inr x=>cases b with
  | inl j=>simp [dk] at h
  | inr y=>
   simp only [dk,Sum.inr.injEq,Str.mk.injEq] at h
   have:=congrArg Array.toList h
   simp at this
   rw [this]
section
variable {K:PySem.W.Frag} {H H':Hp} {ι ι':List Addr} {M:Store} {p:Addr}
theorem KvR.nil:KvR K H ι [] []:=⟨rfl,Zq.nil⟩
theorem KvR.cons {k:Zb4} {d:D} {v:V} {kvs:List (Zb4 × D)} {ws:List (Key × V)} (h:Rep K H ι d v) (r:KvR K H ι kvs ws):KvR K H ι ((k,d) :: kvs) ((dk k,v) :: ws):=
 ⟨by simp [r.1],Zq.cons h r.2⟩
theorem KvR.cons_inv {q:Zb4 × D} {kvs:List (Zb4 × D)} {ws:List (Key × V)} (r:KvR K H ι (q :: kvs) ws):∃ v ws',ws = (dk q.1,v) :: ws' ∧ Rep K H ι q.2 v ∧ KvR K H ι kvs ws':=by
 obtain ⟨h1,h2⟩:=r
 cases ws with
 | nil=>simp at h1
 | cons w ws=>
  simp only [List.map_cons,List.cons.injEq] at h1
  obtain ⟨v,us,e,r1,r2⟩:=Zq.cons_inv h2
  simp only [List.map_cons,List.cons.injEq] at e
  exact ⟨w.2,ws,by rw [← h1.1],e.1 ▸ r1,h1.2,e.2 ▸ r2⟩
theorem KvR.nil_inv {ws:List (Key × V)} (r:KvR K H ι [] ws):ws = []:=by simpa using r.1
theorem KvR.mono {kvs:List (Zb4 × D)} {ws:List (Key × V)} (r:KvR K H ι kvs ws) (e:Ext K H ι H' ι'):KvR K H' ι' kvs ws:=⟨r.1,r.2.mono e⟩
theorem KvR.length {kvs:List (Zb4 × D)} {ws:List (Key × V)} (r:KvR K H ι kvs ws):ws.length = kvs.length:=by
 have:=congrArg List.length r.1
 simpa using this
theorem KvR.val {kvs:List (Zb4 × D)} (k:Zb4):∀ {ws:List (Key × V)},KvR K H ι kvs ws → match Zlc kvs k with | some d=>∃ v,Zef ws (dk k) = some v ∧ Rep K H ι d v | none=>Zef ws (dk k) = none:=by
 induction kvs with
 | nil=>intro ws r; rw [r.nil_inv]; exact ZkM
 | cons q kvs ih=>
  intro ws r
  obtain ⟨v,ws',rfl,r1,r2⟩:=r.cons_inv
  obtain ⟨k',d⟩:=q
  unfold Zlc
  by_cases e:k' = k
  ·rw [if_pos e]
   exact ⟨v,ZeD (by rw [e]),r1⟩
  ·rw [if_neg e,Zes fun z=>e (Zh8 z)]
   exact ih r2
theorem KvR.append {k1 k2:List (Zb4 × D)} {w1 w2:List (Key × V)} (a:KvR K H ι k1 w1) (b:KvR K H ι k2 w2):KvR K H ι (k1 ++ k2) (w1 ++ w2):=
 ⟨by simp [a.1,b.1],by rw [List.map_append,List.map_append]; exact a.2.append b.2⟩
theorem KvR.any {kvs:List (Zb4 × D)} (k:Zb4):∀ {ws:List (Key × V)},KvR K H ι kvs ws → (ws.any fun kv=>decide (kv.1 = dk k)) = (kvs.any fun q=>decide (q.1 = k)):=by
 induction kvs with
 | nil=>intro ws r; rw [r.nil_inv]; rfl
 | cons q kvs ih=>
  intro ws r
  obtain ⟨v,ws',rfl,r1,r2⟩:=r.cons_inv
  rw [List.any_cons,List.any_cons,ih r2]
  congr 1
  by_cases e:q.1 = k
  ·simp [e]
  ·simp [e]; exact fun z=>e (Zh8 z)
theorem KvR.put {kvs:List (Zb4 × D)} {k:Zb4} {d:D} {v:V} {ws:List (Key × V)} (r:KvR K H ι kvs ws) (rd:Rep K H ι d v):KvR K H ι (putD k d kvs) (putK ws (dk k) v):=by
 unfold putD putK
 rw [r.any k]
 by_cases c:(kvs.any fun q=>decide (q.1 = k)) = true
 ·rw [if_pos c,if_pos c]
  clear c
  induction kvs generalizing ws with
  | nil=>rw [r.nil_inv]; exact KvR.nil
  | cons q kvs ih=>
   obtain ⟨u,ws',rfl,r1,r2⟩:=r.cons_inv
   rw [List.map_cons,List.map_cons]
   by_cases e:q.1 = k
   ·rw [if_pos e,if_pos (by rw [e])]; exact KvR.cons rd (ih r2)
   ·rw [if_neg e,if_neg fun z=>e (Zh8 z)]; exact KvR.cons r1 (ih r2)
 ·rw [if_neg c,if_neg c]
  exact r.append (KvR.cons rd KvR.nil)
theorem Zaa.dct (S:Zaa K H ι M) (hp:H p = none) {kvs:List (Zb4 × D)} {ws:List (Key × V)} (r:KvR K H ι kvs ws):Ext K H ι (upd H p (.dK ws)) (ι ++ [p]) ∧ Zaa K (upd H p (.dK ws)) (ι ++ [p]) (M ++ [.dct kvs]) ∧ Rep K (upd H p (.dK ws)) (ι ++ [p]) (.ref M.length) (.ref p):=by
 have e:Ext K H ι (upd H p (.dK ws)) (ι ++ [p]):=Loose.extA (.inl hp)
 exact ⟨e,S.new hp ⟨ws,Zby,r.mono e⟩,Rep.ref (by rw [← S.len]; simp)⟩
end
section
variable {X:Cx} {a b c e o:Expr} {es:List Expr} {pos p pos' apos cpos:Pos} {f g h:E3} {gl:EL3}
noncomputable def ZmM (K:PySem.W.Frag) (H:Hp) (ι:List Addr) (Q:List (V × V) → Hp → Prop) (r:R3 (List (Zb4 × D))):Prop:=match r with
 | .ok l M'=>∀ ws H' ι',Ext K H ι H' ι' → Zaa K H' ι' M' → KvR K H' ι' l ws → Q (ws.map fun kv=>(kV kv.1,kv.2)) H'
 | _=>False
theorem ZmM.bind {K:PySem.W.Frag} {H:Hp} {ι:List Addr} {α:Type} {Q:List (V × V) → Hp → Prop} {r:R3 α} {k:α → Store → R3 (List (Zb4 × D))} (h:ZmM K H ι Q (r.bind k)):∃ a M,r = .ok a M ∧ ZmM K H ι Q (k a M):=by
 cases r with
 | ok a M=>exact ⟨a,M,rfl,h⟩
 | exc x M=>exact h.elim
 | bad=>exact h.elim
theorem hu1 (hu:X.A.units + 80 < cLine):X.A.units + 1 < cLine:=lB 1 7331617893452817 T1 hu
theorem Zls {K:PySem.W.Frag} {op:D → D → D → Store → R3 D} {H:Hp} {ι:List Addr} {Q:VK} {env:Zad} {M:Store} (h':Zae K H ι Q (e3 op f g h env M)):
  ∃ a M1 b M2 c M3,f env M = .ok a M1 ∧ g env M1 = .ok b M2 ∧ h env M2 = .ok c M3 ∧ Zae K H ι Q (op a b c M3):=by
 obtain ⟨a,M1,e1,h'⟩:=Zae.bind h'
 obtain ⟨b,M2,e2,h'⟩:=Zae.bind h'
 obtain ⟨c,M3,e3,h'⟩:=Zae.bind h'
 exact ⟨a,M1,b,M2,c,M3,e1,e2,e3,h'⟩
theorem Zkd {K:PySem.W.Frag} {H:Hp} {ι:List Addr} {D':Ends} {env:Zad} {M:Store} {σ:St} (E:ZaT K H ι env σ) (h':Zf5 K H ι D' (ZaS f env M)):Zae K H ι (fun _ H'=>D'.nx σ H') (f env M):=by
 unfold ZaS at h'
 cases q:f env M with
 | ok d M1=>rw [q] at h'; exact fun v H1 ι1 x1 S1 r1=>h' σ H1 ι1 x1 S1 (E.mono x1)
 | exc x M1=>rw [q] at h'; exact h'.elim
 | bad=>rw [q] at h'; exact h'.elim
theorem Zfj {i:Expr} {spos:Pos} (ho:C3 X o f) (hi:C3 X i g) (hv:C3 X e h)
  (ha:∀ v,assign (.Subscript o i spos) X.env v = (do
   let ov ← holding [v] (eval o X.env)
   let iv ← holding [v,ov] (eval i X.env)
   standAt spos
   holding [v,ov,iv] (setItem ov iv v)
   release [v,ov,iv] []):=by intro _; rfl)
  (hs:swapsWithSole [.Subscript o i spos] e pos.line X.env = pure false:=by rfl) (hw:swappedStores [.Subscript o i spos] e X.env = pure none:=by rfl)
  (h1:(assignEach [.Subscript o i spos] X.env).map (·.2) = [assign (.Subscript o i spos) X.env]:=by rfl):CS X (.Assign [.Subscript o i spos] e pos) (Zco f g h):=(Zh7 hv (ZmR ho hi set_list ha) hs hw h1).imp fun D' σ H zz1=>by
 obtain ⟨ι,M,env,S,E,hh⟩:=zz1
 obtain ⟨d,M1,b,M2,k,M3,e1,e2,e3,hh⟩:=Zls (Zkd E hh)
 refine ⟨ι,M,env,S,E,?_⟩
 rw [e1]
 intro v H1 ι1 x1 S1 r1
 refine ⟨ι1,M1,env,S1,E.mono x1,?_⟩
 rw [e2]
 intro x H2 ι2 x2 S2 r2
 refine ⟨ι2,M2,env,S2,(E.mono x1).mono x2,?_⟩
 rw [e3]
 intro y H3 ι3 x3 S3 r3
 cases b with
 | ref n=>
  cases k with
  | int j=>
   simp only [ZhV] at hh
   cases hn:M3[n]? with
   | none=>simp only [hn] at hh; exact hh.elim
   | some ob=>
    cases ob with
    | dct _=>simp only [hn] at hh; exact hh.elim
    | fdct _=>simp only [hn] at hh; exact hh.elim
    | ins _ _=>simp only [hn] at hh; exact hh.elim
    | lst xs=>
     simp only [hn] at hh
     cases hj:ixD xs.length j with
     | none=>simp only [hj] at hh; exact hh.elim
     | some q=>
      simp only [hj] at hh
      obtain ⟨ad,ha,rfl⟩:=(r2.mono x3).ref_inv
      obtain ⟨ws,hw,kr⟩:=S3.obj n _ ad hn ha
      obtain ⟨x4,S4⟩:=S3.setl (.inr (.inl ⟨_,hw⟩)) ha (kr.set q ((r1.mono x2).mono x3))
      exact ⟨ad,ws,j,q,rfl,r3.int_inv,hw,by rw [kr.length]; exact hj,hh .non _ _ (((x1.trans x2).trans x3).trans x4) S4 Rep.non⟩
  | _=>exact hh.elim
 | _=>exact hh.elim
end
end L3
namespace L3
open PySem PySem.W PyProof.Rows
section
noncomputable def kev {α:Type} (lt:Nat → Nat → Bool):KasT α → α
 | .ret a=>a
 | .ask i j k=>kev lt (k (lt i j))
theorem Zc4 {α β:Type} (lt:Nat → Nat → Bool) (f:α → KasT β):∀ t:KasT α,kev lt (t.bind f) = kev lt (f (kev lt t))
 | .ret _=>rfl
 | .ask i j k=>Zc4 lt f (k (lt i j))
variable {lt:Nat → Nat → Bool}
structure ZcG (lt:Nat → Nat → Bool):Prop where
 asym:∀ {a b},lt a b = true → lt b a = false
 tr:∀ {a b c},lt b a = false → lt c b = false → lt c a = false
theorem ZcG.rf (o:ZcG lt) (a:Nat):lt a a = false:=by
 cases h:lt a a
 ·rfl
 ·exact h ▸ o.asym h
noncomputable abbrev at' (p:Array Nat) (i:Nat):Nat:=p.getD i 0
theorem Zha {p q:Array Nat} {i j:Nat} (h:p[i]? = q[j]?):at' p i = at' q j:=by
 simp only [at',Array.getD_eq_getD_getElem?,h]
noncomputable def Up (lt:Nat → Nat → Bool) (p:Array Nat) (n:Nat):Prop:=∀ i j,i ≤ j → j < n → lt (at' p j) (at' p i) = false
noncomputable def Zf9 (lt:Nat → Nat → Bool) (p:Array Nat) (n:Nat):Prop:=∀ i j,i ≤ j → j < n → lt (at' p i) (at' p j) = false
theorem Zlb (o:ZcG lt) {p:Array Nat} {n:Nat} (h1:1 ≤ n) (u:Up lt p n) (h:lt (at' p n) (at' p (n - 1)) = false):Up lt p (n + 1):=by
 intro i j hij hj
 by_cases e:j = n
 ·subst e
  by_cases e':i = j
  ·subst e'; exact o.rf _
  ·exact o.tr (u i (j - 1) (lC 2 563648976195601 T1 (Nat.lt_of_le_of_ne hij e') (sbA _ _)) (lB 1 4313451553 T1 (Nat.sub_add_cancel h1))) h
 ·exact u i j hij ((Nat.lt_of_le_of_ne (lB 1 4305567761 T1 hj) e))
theorem ZdJ (o:ZcG lt) {p:Array Nat} {n:Nat} (h1:1 ≤ n) (u:Zf9 lt p n) (h:lt (at' p (n - 1)) (at' p n) = false):Zf9 lt p (n + 1):=by
 intro i j hij hj
 by_cases e:j = n
 ·subst e
  by_cases e':i = j
  ·subst e'; exact o.rf _
  ·exact o.tr h (u i (j - 1) (lC 2 563648976195601 T1 (Nat.lt_of_le_of_ne hij e') (sbA _ _)) (lB 1 4313451553 T1 (Nat.sub_add_cancel h1)))
 ·exact u i j hij ((Nat.lt_of_le_of_ne (lB 1 4305567761 T1 hj) e))
theorem ZhL (o:ZcG lt) {p:Array Nat}:∀ (f n:Nat),1 ≤ n → Up lt p n → n ≤ kev lt (kas_asc p f n) ∧ kev lt (kas_asc p f n) ≤ n + f ∧ Up lt p (kev lt (kas_asc p f n)) ∧
  (kev lt (kas_asc p f n) = n + f ∨ lt (at' p (kev lt (kas_asc p f n))) (at' p (kev lt (kas_asc p f n) - 1)) = true)
 | 0,n,h1,u=>⟨Nat.le_refl _,Nat.le_refl _,u,.inl rfl⟩
 | f + 1,n,h1,u=>by
  have e:kev lt (kas_asc p (f + 1) n) = kev lt (if lt (at' p n) (at' p (n - 1)) = true then KasT.ret n else kas_asc p f (n + 1)):=rfl
  rw [e]
  cases c:lt (at' p n) (at' p (n - 1)) with
  | true=>exact ⟨Nat.le_refl _,by simp only [if_true,kev]; exact Nat.le_add_right _ _,u,.inr c⟩
  | false=>
   simp only [Bool.false_eq_true,if_false]
   obtain ⟨a,b,d,e⟩:=ZhL o f (n + 1) (Nat.le_add_left _ _) (Zlb o h1 u c)
   exact ⟨lB 1 4296674305 T1 a,lC 1 0xa2c1c002a1cc001 T1 b,d,e.elim (fun z=>.inl (Nat.le_antisymm (lC 1 0xa2c1c002a1cc021 T1 z) (lC 1 0xa2c1c02a1cc031 T1 z))) .inr⟩
theorem ZdG {p:Array Nat} {i j:Nat} (hj:j ≤ p.size) (k:Nat):at' (kas_rev p i j) k = if i ≤ k ∧ k < j then at' p (i + j - 1 - k) else at' p k:=by
 have e:=getElem?_mirror_all (xs:=p) (i:=i) hj k
 unfold kas_rev
 split
 ·rename_i h; rw [if_pos h] at e; exact Zha e
 ·rename_i h; rw [if_neg h] at e; exact Zha e
theorem Zb0 (p:Array Nat) (i j:Nat):(kas_rev p i j).Perm p:=mirror_perm _ _ _ _
theorem Zcz (p:Array Nat) (i j:Nat):(kas_rev p i j).size = p.size:=mirror_size _ _ _ _
noncomputable def Alike (lt:Nat → Nat → Bool) (p:Array Nat) (n q:Nat):Prop:=∀ i j,n - (q + 1) ≤ i → i < n → n - (q + 1) ≤ j → j < n → lt (at' p i) (at' p j) = false
theorem Zgc (o:ZcG lt) {p:Array Nat} {n q:Nat} (hn:n ≤ p.size) (hq:q + 1 ≤ n) (d:Zf9 lt p n) (a:Alike lt p n q):Zf9 lt (kas_rev p (n - (q + 1)) n) n:=by
 intro i j hij hj
 rw [ZdG hn,ZdG hn]
 by_cases h1:n - (q + 1) ≤ i
 ·rw [if_pos ⟨h1,Nat.lt_of_le_of_lt hij hj⟩,if_pos ⟨Nat.le_trans h1 hij,hj⟩]
  exact a _ _ (lF 4 0x53025c401a4c13c0102011011 T1 hj hij (sbA _ _) (sbA _ _)) (lE 3 0x341214c2130ca2c211001 T1 h1 (Nat.sub_add_cancel (lC 1 5043654673 T1 hj)) (Nat.sub_add_cancel (lE 3 0x420a4c13c0102011011 T1 hj hij (sbA _ _)))) (lE 3 0x42004c301a3c12c011011 T1 hj (sbA _ _) (sbA _ _)) (lF 4 0x451325c2140ca3c2121011001 T1 h1 hij (Nat.sub_add_cancel (lC 1 5043654673 T1 hj)) (Nat.sub_add_cancel (lD 2 0x300a3c12c011011 T1 hj (sbA _ _))))
 ·rw [if_neg (fun z=>lB 2 26042503169 T1 z.1 h1)]
  by_cases h2:n - (q + 1) ≤ j
  ·rw [if_pos ⟨h2,hj⟩]; exact d _ _ (lF 4 0x51025c401a4c30c0132111041 T1 h1 hj (sbA _ _) (sbA _ _)) (lE 3 0x341214c2130ca2c211001 T1 h2 (Nat.sub_add_cancel (lC 1 8801751105 T1 h1)) (Nat.sub_add_cancel (lD 2 0x300a3c12c011011 T1 hj (sbA _ _))))
  ·rw [if_neg (fun z=>lB 2 26042503169 T1 z.1 h2)]; exact d _ _ hij hj
theorem Zfk (o:ZcG lt):∀ (f:Nat) (p:Array Nat) (n q:Nat),q + 1 ≤ n → n + f ≤ p.size → Zf9 lt p n → Alike lt p n q →
  let r:=kev lt (kas_desc f p n q); r.1.Perm p ∧ r.1.size = p.size ∧ n ≤ r.2.1 ∧ r.2.1 ≤ n + f ∧ r.2.2 + 1 ≤ r.2.1 ∧ Zf9 lt r.1 r.2.1 ∧ Alike lt r.1 r.2.1 r.2.2
 | 0,p,n,q,hq,hs,d,a=>⟨Array.Perm.refl _,rfl,Nat.le_refl _,Nat.le_refl _,hq,d,a⟩
 | f + 1,p,n,q,hq,hs,d,a=>by
  have one:∀ (p':Array Nat),Alike lt p' (n + 1) 0:=fun p' i j h1 h2 h3 h4=>by
   have:i = j:=Nat.le_antisymm (lD 3 0x120aec0ca3c01a3c2111001 T1 h3 h2 (sbA _ _)) (lD 3 0x300aec2ca1c013201a1c011 T1 h4 h1 (sbA _ _))
   subst this; exact o.rf _
  unfold kas_desc
  simp only [kev]
  cases c:lt (p.getD n 0) (p.getD (n - 1) 0) with
  | true=>
   simp only [if_true]
   by_cases hq0:q > 0
   ·rw [if_pos hq0]
    have hl:lt (at' (kas_rev p (n - (q + 1)) n) (n - 1)) (at' (kas_rev p (n - (q + 1)) n) n) = false:=by
     rw [ZdG (by exact lC 1 2199729736705 T1 hs),ZdG (by exact lC 1 2199729736705 T1 hs),if_pos ⟨lD 2 0x300a3c2012a1c0c21 T1 (Nat.sub_add_cancel hq) (sbA _ _),lB 1 4313451553 T1 (Nat.sub_add_cancel (lB 1 6981028865 T1 hq))⟩,if_neg (fun z=>lA 1 393233 T1 z.2)]
     exact o.tr (o.asym c) (a _ _ (lE 3 0x40034c2011a3c21a2c10c01 T1 (sbA _ _) (Nat.sub_add_cancel (lB 1 6981028865 T1 hq)) (sbA _ _)) (lF 4 0x251345c21a4c20120ca3c212a1c0c21 T1 (Nat.sub_add_cancel hq) (Nat.sub_add_cancel (lC 1 1291176250369 T1 hq)) (sbA _ _) (Nat.sub_add_cancel (lD 2 0x2301a3c21a2c10c01 T1 (sbA _ _) (Nat.sub_add_cancel (lB 1 6981028865 T1 hq))))) (lD 2 0x300a3c2012a1c0c21 T1 (Nat.sub_add_cancel hq) (sbA _ _)) (lB 1 4313451553 T1 (Nat.sub_add_cancel (lB 1 6981028865 T1 hq))))
    obtain ⟨h1,h2,h3,h4,h5,h6,h7⟩:=Zfk o f (kas_rev p (n - (q + 1)) n) (n + 1) 0 (lA 0 168603328 T1) (by rw [Zcz]; exact lC 1 0x21a0cc02a1c0c01 T1 hs) (ZdJ o (lB 1 6981028865 T1 hq) (Zgc o (lC 1 2199729736705 T1 hs) hq d a) hl) (one _)
    exact ⟨h1.trans (Zb0 _ _ _),h2.trans (Zcz _ _ _),lB 1 4296674305 T1 h3,lC 1 0xa2c1c002a1cc001 T1 h4,h5,h6,h7⟩
   ·rw [if_neg hq0]
    obtain ⟨h1,h2,h3,h4,h5,h6,h7⟩:=Zfk o f p (n + 1) 0 (lA 0 168603328 T1) (lC 1 0x21a0cc02a1c0c01 T1 hs) (ZdJ o (lB 1 6981028865 T1 hq) d (o.asym c)) (one _)
    exact ⟨h1,h2,lB 1 4296674305 T1 h3,lC 1 0xa2c1c002a1cc001 T1 h4,h5,h6,h7⟩
  | false=>
   simp only [Bool.false_eq_true,if_false,kev]
   cases c2:lt (p.getD (n - 1) 0) (p.getD n 0) with
   | true=>exact ⟨Array.Perm.refl _,rfl,Nat.le_refl _,by simp only [if_true,kev]; exact Nat.le_add_right _ _,hq,d,a⟩
   | false=>
    simp only [Bool.false_eq_true,if_false]
    have al:Alike lt p (n + 1) (q + 1):=fun i j h1 h2 h3 h4=>by
     have z:∀ k,n + 1 - (q + 1 + 1) ≤ k → k < n + 1 → lt (at' p k) (at' p n) = false ∧ lt (at' p n) (at' p k) = false:=fun k k1 k2=>by
      by_cases e:k = n
      ·subst e; exact ⟨o.rf _,o.rf _⟩
      ·exact ⟨o.tr c2 (a k (n - 1) (lE 3 0x120aa3cc0ca4c014a3c2c211001 T1 k1 (Nat.sub_add_cancel hq) (sbA _ _)) ((Nat.lt_of_le_of_ne (lB 1 4305567761 T1 k2) e)) (lD 2 0x300a3c2012a1c0c21 T1 (Nat.sub_add_cancel hq) (sbA _ _)) (lB 1 4313451553 T1 (Nat.sub_add_cancel (lB 1 6981028865 T1 hq)))),o.tr (a (n - 1) k (lD 2 0x300a3c2012a1c0c21 T1 (Nat.sub_add_cancel hq) (sbA _ _)) (lB 1 4313451553 T1 (Nat.sub_add_cancel (lB 1 6981028865 T1 hq))) (lE 3 0x120aa3cc0ca4c014a3c2c211001 T1 k1 (Nat.sub_add_cancel hq) (sbA _ _)) ((Nat.lt_of_le_of_ne (lB 1 4305567761 T1 k2) e))) c⟩
     exact o.tr (z j h3 h4).2 (z i h1 h2).1
    obtain ⟨h1,h2,h3,h4,h5,h6,h7⟩:=Zfk o f p (n + 1) (q + 1) (lB 1 0xa1caa0cc01a0c01 T1 hq) (lC 1 0x21a0cc02a1c0c01 T1 hs) (ZdJ o (lB 1 6981028865 T1 hq) d c2) al
    exact ⟨h1,h2,lB 1 4296674305 T1 h3,lC 1 0xa2c1c002a1cc001 T1 h4,h5,h6,h7⟩
theorem Zib {p:Array Nat} {n:Nat} (hn:n ≤ p.size) (d:Zf9 lt p n):Up lt (kas_rev p 0 n) n:=by
 intro i j hij hj
 rw [ZdG hn,ZdG hn,if_pos ⟨Nat.zero_le _,hj⟩,if_pos ⟨Nat.zero_le _,Nat.lt_of_le_of_lt hij hj⟩]
 exact d _ _ (lE 3 0x340214c2103c2011001 T1 hij (sbA _ _) (Nat.sub_add_cancel (lC 2 0x200a2c1ec011011 T1 hj (sbA _ _)))) (lC 2 81348472104160289 T1 (Nat.sub_add_cancel (lB 1 8264880145 T1 hj)) (Nat.sub_le _ _))
theorem Zhn (o:ZcG lt) {p:Array Nat} {n nrem:Nat} (h1:1 ≤ n) (hn:n ≤ nrem) (hs:nrem ≤ p.size) (d:Zf9 lt p n):
  let r:=kev lt (kas_tail3 n nrem p); r.2.Perm p ∧ r.2.size = p.size ∧ 1 ≤ r.1 ∧ r.1 ≤ nrem ∧ Up lt r.2 r.1:=by
 unfold kas_tail3
 rw [Zc4]
 obtain ⟨a,b,c,_⟩:=ZhL o (p:=kas_rev p 0 n) (nrem - n) n h1 (Zib (Nat.le_trans hn hs) d)
 exact ⟨Zb0 _ _ _,Zcz _ _ _,Nat.le_trans h1 a,Nat.le_trans b (lC 1 2206541614113 T1 (Nat.sub_add_cancel hn)),c⟩
theorem Ze7 (o:ZcG lt) {p:Array Nat} {n nrem:Nat} (h1:1 ≤ n) (hn:n + 1 ≤ nrem) (hs:nrem ≤ p.size) (d:Zf9 lt p (n + 1)):
  let r:=kev lt (kas_descPart n nrem p); r.2.Perm p ∧ r.2.size = p.size ∧ 1 ≤ r.1 ∧ r.1 ≤ nrem ∧ Up lt r.2 r.1:=by
 unfold kas_descPart
 rw [Zc4]
 have one:Alike lt p (n + 1) 0:=fun i j h1 h2 h3 h4=>by
  have:i = j:=Nat.le_antisymm (lD 3 0x120aec0ca3c01a3c2111001 T1 h3 h2 (sbA _ _)) (lD 3 0x300aec2ca1c013201a1c011 T1 h4 h1 (sbA _ _))
  subst this; exact o.rf _
 obtain ⟨a1,a2,a3,a4,a5,a6,a7⟩:=Zfk o (nrem - (n + 1)) p (n + 1) 0 (lA 0 168603328 T1) (lD 2 0x12a3cc00a3c2c211001 T1 hs (Nat.sub_add_cancel hn)) d one
 generalize kev lt (kas_desc (nrem - (n + 1)) p (n + 1) 0) = r at *
 dsimp only
 by_cases hq:r.2.2 > 0
 ·rw [if_pos hq]
  obtain ⟨b1,b2,b3,b4,b5⟩:=Zhn o (p:=kas_rev r.1 (r.2.1 - (r.2.2 + 1)) r.2.1) (n:=r.2.1) (nrem:=nrem) (lB 1 6981028865 T1 a5) (lD 2 0x3003a1c2c212a1cc001 T1 a4 (Nat.sub_add_cancel hn)) (by rw [Zcz]; exact lC 2 137741013041 T1 a2 hs) (Zgc o (lF 4 0x3005a1c2c21450143312a1cc001 T1 a4 a2 hs (Nat.sub_add_cancel hn)) a5 a6 a7)
  exact ⟨(b1.trans (Zb0 _ _ _)).trans a1,(b2.trans (Zcz _ _ _)).trans a2,b3,b4,b5⟩
 ·rw [if_neg hq]
  obtain ⟨b1,b2,b3,b4,b5⟩:=Zhn o (p:=r.1) (n:=r.2.1) (nrem:=nrem) (lB 1 6981028865 T1 a5) (lD 2 0x3003a1c2c212a1cc001 T1 a4 (Nat.sub_add_cancel hn)) (lC 2 137741013041 T1 a2 hs) a6
  exact ⟨b1.trans a1,b2.trans a2,b3,b4,b5⟩
theorem Zj7 (o:ZcG lt) {p:Array Nat} {nrem:Nat} (h1:1 ≤ nrem) (hs:nrem ≤ p.size):let r:=kev lt (kas_count nrem p); r.2.Perm p ∧ r.2.size = p.size ∧ 1 ≤ r.1 ∧ r.1 ≤ nrem ∧ Up lt r.2 r.1:=by
 unfold kas_count
 rw [Zc4]
 have u1:Up lt p 1:=fun i j hij hj=>by
  have:i = j:=Nat.le_antisymm hij (lB 1 16818193 T1 hj)
  subst this; exact o.rf _
 obtain ⟨a,b,c,d⟩:=ZhL o (p:=p) (nrem - 1) 1 (Nat.le_refl _) u1
 generalize kev lt (kas_asc p (nrem - 1) 1) = n at *
 dsimp only
 by_cases e:(n == nrem) = true
 ·rw [if_pos e]; exact ⟨Array.Perm.refl _,rfl,a,by show n ≤ nrem; exact lC 2 0x2002a1c211ac001 T1 b (Nat.sub_add_cancel h1),c⟩
 ·rw [if_neg e]
  have hne:n ≠ nrem:=by simpa using e
  have hlt:lt (at' p n) (at' p (n - 1)) = true:=d.resolve_left (fun z=>lB 2 25787699217 T1 (Nat.lt_of_le_of_ne (lC 2 0x2002a1c211ac021 T1 z (Nat.sub_add_cancel h1)) hne) (Nat.lt_of_le_of_ne (lC 2 9185053868998705 T1 z (sbA _ _)) (Ne.symm hne)))
  by_cases hn:n > 1
  ·rw [if_pos hn]
   simp only [kev]
   cases c0:lt (p.getD 0 0) (p.getD (n - 1) 0) with
   | true=>exact ⟨Array.Perm.refl _,rfl,a,by show n ≤ nrem; exact Nat.le_of_lt (Nat.lt_of_le_of_ne (lC 2 0x2002a1c211ac001 T1 b (Nat.sub_add_cancel h1)) hne),c⟩
   | false=>
    simp only [Bool.false_eq_true,if_false]
    have dn:Zf9 lt (kas_rev p 0 n) (n + 1):=by
     have al:∀ i j,i < n → j < n → lt (at' p i) (at' p j) = false:=fun i j hi hj=>
      o.tr (o.tr (c j (n - 1) (lC 2 563648976195601 T1 hj (sbA _ _)) (lB 1 4313451553 T1 (Nat.sub_add_cancel (lB 1 27267089 T1 hj)))) c0) (c 0 i (Nat.zero_le _) (hi))
     intro i j hij hj
     rw [ZdG (by exact lC 2 1236985253889 T1 hs (Nat.lt_of_le_of_ne (lC 2 0x2002a1c211ac001 T1 b (Nat.sub_add_cancel h1)) hne)),ZdG (by exact lC 2 1236985253889 T1 hs (Nat.lt_of_le_of_ne (lC 2 0x2002a1c211ac001 T1 b (Nat.sub_add_cancel h1)) hne))]
     by_cases ej:j < n
     ·rw [if_pos ⟨Nat.zero_le _,Nat.lt_of_le_of_lt hij ej⟩,if_pos ⟨Nat.zero_le _,ej⟩]; exact al _ _ (lC 2 81348472104160289 T1 (Nat.sub_add_cancel (lB 1 8264880145 T1 ej)) (Nat.sub_le _ _)) (lC 2 81348472104160289 T1 (Nat.sub_add_cancel (lB 1 8264880145 T1 ej)) (Nat.sub_le _ _))
     ·have:j = n:=Nat.le_antisymm (lB 1 4305567761 T1 hj) (Nat.le_of_not_lt ej)
      subst this
      by_cases ei:i < j
      ·rw [if_pos ⟨Nat.zero_le _,ei⟩,if_neg (fun z=>lA 1 393233 T1 z.2)]
       exact o.tr (o.asym hlt) (al _ _ (lC 2 81348472104160289 T1 (Nat.sub_add_cancel (lB 1 8264880145 T1 ei)) (Nat.sub_le _ _)) (lB 1 4313451553 T1 (Nat.sub_add_cancel (lB 1 27267089 T1 ei))))
      ·have:i = j:=Nat.le_antisymm hij (Nat.le_of_not_lt ei)
       subst this; rw [if_neg (fun z=>lA 1 393233 T1 z.2)]; exact o.rf _
    obtain ⟨b1,b2,b3,b4,b5⟩:=Ze7 o (p:=kas_rev p 0 n) (n:=n) (nrem:=nrem) a (lB 1 6991908881 T1 (Nat.lt_of_le_of_ne (lC 2 0x2002a1c211ac001 T1 b (Nat.sub_add_cancel h1)) hne)) (by rw [Zcz]; exact hs) dn
    exact ⟨b1.trans (Zb0 _ _ _),b2.trans (Zcz _ _ _),b3,b4,b5⟩
  ·rw [if_neg hn]
   have:n = 1:=Nat.le_antisymm (Nat.le_of_not_lt hn) a
   subst this
   exact Ze7 o (Nat.le_refl _) (lA 1 2864712209 T1 (Nat.lt_of_le_of_ne h1 hne)) hs (ZdJ o (Nat.le_refl _) (fun i j hij hj=>by
    have:i = j:=Nat.le_antisymm hij (lB 1 16818193 T1 hj)
    subst this; exact o.rf _) (o.asym hlt))
theorem ZfM (o:ZcG lt) {p:Array Nat} {k:Nat} (u:Up lt p k):∀ (f l r:Nat),l ≤ r → r ≤ k → r ≤ l + f → (∀ i,i < l → lt (at' p k) (at' p i) = false) → (∀ i,r ≤ i → i < k → lt (at' p k) (at' p i) = true) →
  let m:=kev lt (kas_place p k f l r); m ≤ k ∧ (∀ i,i < m → lt (at' p k) (at' p i) = false) ∧ (∀ i,m ≤ i → i < k → lt (at' p k) (at' p i) = true)
 | 0,l,r,h1,h2,h3,hl,hr=>⟨by show l ≤ k; exact Nat.le_trans h1 h2,hl,fun i hi hk=>hr i (by have:l ≤ i:=hi; exact lC 2 317624676323329 T1 this h3) hk⟩
 | f + 1,l,r,h1,h2,h3,hl,hr=>by
  unfold kas_place
  by_cases c:l ≥ r
  ·rw [if_pos c]; exact ⟨by show l ≤ k; exact Nat.le_trans h1 h2,hl,fun i hi hk=>hr i (by have:l ≤ i:=hi; exact Nat.le_trans c this) hk⟩
  ·rw [if_neg c]
   simp only [kev]
   cases q:lt (p.getD k 0) (p.getD ((l + r) / 2) 0) with
   | true=>
    simp only [if_true]
    refine ZfM o u f l ((l + r) / 2) (Nat.le_of_not_lt fun z=>lC 3 0x6a0c02d21c1112411012 T1 z c (Nat.lt_mul_div_succ _ (by decide))) (Nat.le_of_not_lt fun z=>lD 4 0x623c102d01020232411012 T1 z c h2 (Nat.mul_div_le _ _)) (Nat.le_of_not_lt fun z=>lD 3 0x630c202d01a1c0c301210c12 T1 z h3 (Nat.mul_div_le _ _)) hl fun i hi hk=>?_
    cases z:lt (at' p k) (at' p i) with
    | true=>rfl
    | false=>
     have:=o.tr (u ((l + r) / 2) i hi hk) z
     rw [q] at this; cases this
   | false=>
    simp only [Bool.false_eq_true,if_false]
    exact ZfM o u f ((l + r) / 2 + 1) r (Nat.le_of_not_lt fun z=>lC 3 0x602c102d012041a1c012 T1 z c (Nat.mul_div_le _ _)) h2 (Nat.le_of_not_lt fun z=>lD 3 0x6a0c02d23c11a1c3c20121a0cc12 T1 z h3 (Nat.lt_mul_div_succ _ (by decide))) (fun i hi=>o.tr (u i ((l + r) / 2) (lB 1 4305567761 T1 hi) (Nat.lt_of_not_le fun z=>lD 4 0x623c102d01020232411002 T1 z c h2 (Nat.mul_div_le _ _))) q) hr
theorem Zgt {p:Array Nat} {k d:Nat} (hk:k < p.size) (hd:d ≤ k) (i:Nat):at' (bubble p k d) i = if i = k - d then at' p k else if k - d < i ∧ i ≤ k then at' p (i - 1) else at' p i:=by
 have e:=getElem?_bubble (xs:=p) hk d hd i
 by_cases h1:i = k - d
 ·rw [if_pos h1] at e ⊢; exact Zha e
 ·rw [if_neg h1] at e ⊢
  by_cases h2:k - d < i ∧ i ≤ k
  ·rw [if_pos h2] at e ⊢; exact Zha e
  ·rw [if_neg h2] at e ⊢; exact Zha e
theorem ZjD (o:ZcG lt):∀ (f:Nat) (p:Array Nat) (k:Nat),k + f = p.size → Up lt p k → (kev lt (kas_bin f p k)).Perm p ∧ Up lt (kev lt (kas_bin f p k)) p.size
 | 0,p,k,h,u=>⟨Array.Perm.refl _,by rw [← h]; exact u⟩
 | f + 1,p,k,h,u=>by
  unfold kas_bin
  rw [Zc4]
  obtain ⟨a,b,c⟩:=ZfM o u k 0 k (Nat.zero_le _) (Nat.le_refl _) (Nat.le_add_left _ _) (fun i hi=>(lA 1 450577 T1 hi).elim) (fun i h1 h2=>(lB 2 25786650641 T1 h2 h1).elim)
  generalize kev lt (kas_place p k k 0 k) = m at *
  have sz:=bubble_size p k (k - m)
  have up:Up lt (bubble p k (k - m)) (k + 1):=by
   intro i j hij hj
   have e:k - (k - m) = m:=Nat.le_antisymm (lD 2 0x230013c2121c001 T1 (sbA _ _) (Nat.sub_add_cancel ((Nat.sub_le _ _)))) (lD 2 0x31003c201210c21 T1 (Nat.sub_add_cancel a) (sbA _ _))
   rw [Zgt (by exact lC 1 2204024704033 T1 h) ((Nat.sub_le _ _)),Zgt (by exact lC 1 2204024704033 T1 h) ((Nat.sub_le _ _)),e]
   by_cases e1:i = m
   ·rw [if_pos e1]
    by_cases e2:j = m
    ·rw [if_pos e2]; exact o.rf _
    ·rw [if_neg e2,if_pos ⟨(Nat.lt_of_le_of_ne (lC 2 2268279672881 T1 e1 hij) (Ne.symm e2)),lB 1 4305567761 T1 hj⟩]; exact o.asym (c _ (lC 2 563648976195601 T1 (Nat.lt_of_le_of_ne (lC 2 2268279672881 T1 e1 hij) (Ne.symm e2)) (sbA _ _)) (lC 2 81357452928466961 T1 hj (Nat.sub_add_cancel (lB 1 27267089 T1 (Nat.lt_of_le_of_ne (lC 2 2268279672881 T1 e1 hij) (Ne.symm e2))))))
   ·rw [if_neg e1]
    by_cases e2:j = m
    ·rw [if_pos e2,if_neg (fun z=>lC 3 0x6210102211011 T1 z.1 e2 hij)]; exact b _ ((Nat.lt_of_le_of_ne (lC 2 1236984205345 T1 e2 hij) e1))
    ·rw [if_neg e2]
     by_cases e3:m < i
     ·rw [if_pos (show m < i ∧ i ≤ k from ⟨e3,lC 2 316667966111761 T1 hj hij⟩),if_pos (show m < j ∧ j ≤ k from ⟨Nat.lt_of_lt_of_le e3 hij,lB 1 4305567761 T1 hj⟩)]; exact u _ _ (lD 3 0x320a3c1010a2c211001 T1 hij (Nat.sub_add_cancel (lB 1 27267089 T1 e3)) (sbA _ _)) (lC 2 81357452928466961 T1 hj (Nat.sub_add_cancel (lC 2 2886771740689 T1 e3 hij)))
     ·rw [if_neg (show ¬ (m < i ∧ i ≤ k) from fun z=>e3 z.1)]
      by_cases e4:m < j
      ·rw [if_pos (show m < j ∧ j ≤ k from ⟨e4,lB 1 4305567761 T1 hj⟩)]; exact u _ _ (lD 3 0x320a3c10120511011 T1 e4 e3 (sbA _ _)) (lC 2 81357452928466961 T1 hj (Nat.sub_add_cancel (lB 1 27267089 T1 e4)))
      ·rw [if_neg (show ¬ (m < j ∧ j ≤ k) from fun z=>e4 z.1)]; exact u _ _ (hij) (Nat.lt_of_lt_of_le (Nat.lt_of_le_of_ne (Nat.le_of_not_lt e4) e2) a)
  obtain ⟨h1,h2⟩:=ZjD o f (bubble p k (k - m)) (k + 1) (by rw [sz]; exact Nat.le_antisymm (lC 1 0x21a0cc02a1c0c21 T1 h) (lC 1 0x1a0cc202a1c0c31 T1 h)) up
  exact ⟨h1.trans (bubble_perm _ _ _),by rw [sz] at h2; exact h2⟩
theorem Zlj (o:ZcG lt) {n:Nat} (h1:1 ≤ n):(kev lt (kas_sort n)).Perm (List.toArray (List.range n)) ∧ Up lt (kev lt (kas_sort n)) n:=by
 unfold kas_sort
 rw [Zc4]
 obtain ⟨a1,a2,a3,a4,a5⟩:=Zj7 o (p:=List.toArray (List.range n)) h1 (by simp)
 generalize kev lt (kas_count n (List.toArray (List.range n))) = r at *
 have sz:r.2.size = n:=by rw [a2]; simp
 by_cases c:r.1 < n
 ·rw [if_pos c]
  have hm:max r.1 1 = r.1:=by omega
  rw [hm]
  obtain ⟨b1,b2⟩:=ZjD o (n - r.1) r.2 r.1 (Nat.le_antisymm (lD 2 0x23c0132c211031 T1 sz (Nat.sub_add_cancel (Nat.le_of_lt c))) (lD 2 0x23c0032c1011021 T1 sz (sbA _ _))) a5
  exact ⟨b1.trans a1,by rw [sz] at b2; exact b2⟩
 ·rw [if_neg c]
  have:r.1 = n:=Nat.le_antisymm a4 (Nat.le_of_not_lt c)
  exact ⟨a1,by rw [← this]; exact a5⟩
end
end L3
namespace L3
open PySem PySem.W PyProof.Rows
section
noncomputable def Zdg {α:Type} (n:Nat) (R:α → Prop):KasT α → Prop
 | .ret a=>R a
 | .ask i j k=>i < n ∧ j < n ∧ ∀ b,Zdg n R (k b)
theorem Zdg.bind {α β:Type} {n:Nat} {R:α → Prop} {R':β → Prop} {f:α → KasT β} (hf:∀ a,R a → Zdg n R' (f a)):∀ {t:KasT α},Zdg n R t → Zdg n R' (t.bind f)
 | .ret a,h=>hf a h
 | .ask _ _ _,⟨h1,h2,h3⟩=>⟨h1,h2,fun b=>(h3 b).bind hf⟩
theorem Zhu {α:Type} {n:Nat} {lt:Nat → Nat → Bool} {cmp:Nat → Nat → (Bool → Shared → Prop) → Shared → Prop} {G:Shared → Prop} {R:α → Prop} (hc:∀ i j (C:Bool → Shared → Prop) s,i < n → j < n → G s → (∀ s',G s' → C (lt i j) s') → cmp i j C s) {Q:α → Shared → Prop}:
  ∀ (t:KasT α),Zdg n R t → ∀ (s:Shared),G s → (∀ s',G s' → Q (kev lt t) s') → t.kasWp cmp Q s
 | .ret _,_,s,g,h=>h s g
 | .ask i j k,⟨h1,h2,h3⟩,s,g,h=>hc i j _ s h1 h2 g fun s' g'=>Zhu hc (k (lt i j)) (h3 _) s' g' h
variable {n:Nat}
noncomputable def Low (n:Nat) (p:Array Nat):Prop:=∀ i,at' p i < n
theorem Low.perm {p q:Array Nat} (h0:0 < n) (l:Low n p) (e:q.Perm p):Low n q:=by
 intro i
 unfold at'
 rw [Array.getD_eq_getD_getElem?]
 cases h:q[i]? with
 | none=>simpa using h0
 | some x=>
  have hx:x ∈ p:=e.mem_iff.mp (Array.mem_of_getElem? h)
  obtain ⟨j,hj,e2⟩:=Array.mem_iff_getElem.mp hx
  have:=l j
  unfold at' at this
  rw [Array.getD_eq_getD_getElem?,Array.getElem?_eq_getElem hj,e2] at this
  simpa using this
theorem ZgX {p:Array Nat} (l:Low n p):∀ (f m:Nat),Zdg n (fun _=>True) (kas_asc p f m)
 | 0,_=>trivial
 | f + 1,m=>⟨l _,l _,fun b=>by
  cases b with
  | true=>exact trivial
  | false=>exact ZgX l f (m + 1)⟩
theorem Zek (h0:0 < n):∀ (f:Nat) (p:Array Nat) (m q:Nat),Low n p → Zdg n (fun r=>Low n r.1) (kas_desc f p m q)
 | 0,p,_,_,l=>l
 | f + 1,p,m,q,l=>by
  unfold kas_desc
  refine ⟨l _,l _,fun b=>?_⟩
  cases b with
  | true=>
   simp only [if_true]
   split
   ·exact Zek h0 f _ _ _ (l.perm h0 (Zb0 _ _ _))
   ·exact Zek h0 f _ _ _ l
  | false=>
   simp only [Bool.false_eq_true,if_false]
   refine ⟨l _,l _,fun c=>?_⟩
   cases c with
   | true=>exact l
   | false=>exact Zek h0 f _ _ _ l
theorem Zgf (h0:0 < n) {p:Array Nat} {m nrem:Nat} (l:Low n p):Zdg n (fun r=>Low n r.2) (kas_tail3 m nrem p):=
 Zdg.bind (R:=fun _=>True) (R':=fun r=>Low n r.2) (f:=fun m'=>KasT.ret (m',kas_rev p 0 m)) (fun _ _=>l.perm h0 (Zb0 p 0 m)) (ZgX (l.perm h0 (Zb0 _ _ _)) _ _)
theorem Zeh (h0:0 < n) {p:Array Nat} {m nrem:Nat} (l:Low n p):Zdg n (fun r=>Low n r.2) (kas_descPart m nrem p):=by
 refine Zdg.bind (fun r hr=>?_) (Zek h0 _ _ _ _ l)
 split
 ·exact Zgf h0 (Low.perm h0 hr (Zb0 _ _ _))
 ·exact Zgf h0 hr
theorem Zi3 (h0:0 < n) {p:Array Nat} {nrem:Nat} (l:Low n p):Zdg n (fun r=>Low n r.2) (kas_count nrem p):=by
 refine Zdg.bind (fun m _=>?_) (ZgX l _ _)
 split
 ·exact l
 ·split
  ·refine ⟨l _,l _,fun b=>?_⟩
   cases b with
   | true=>exact l
   | false=>exact Zeh h0 (l.perm h0 (Zb0 _ _ _))
  ·exact Zeh h0 l
theorem ZeM {p:Array Nat} {k:Nat} (l:Low n p):∀ (f a b:Nat),Zdg n (fun _=>True) (kas_place p k f a b)
 | 0,_,_=>trivial
 | f + 1,a,b=>by
  unfold kas_place
  split
  ·exact trivial
  ·refine ⟨l _,l _,fun c=>?_⟩
   cases c with
   | true=>exact ZeM l f _ _
   | false=>exact ZeM l f _ _
theorem ZiL (h0:0 < n):∀ (f:Nat) (p:Array Nat) (k:Nat),Low n p → Zdg n (fun _=>True) (kas_bin f p k)
 | 0,_,_,_=>trivial
 | f + 1,p,k,l=>Zdg.bind (fun _ _=>ZiL h0 f _ _ (l.perm h0 (bubble_perm _ _ _))) (ZeM l _ _ _)
theorem Zjo (h0:0 < n):Zdg n (fun _=>True) (kas_sort n):=by
 have l:Low n (List.toArray (List.range n)):=fun i=>by
  unfold at'
  rw [Array.getD_eq_getD_getElem?]
  cases h:(List.toArray (List.range n))[i]? with
  | none=>simpa using h0
  | some x=>
   have:=Array.mem_of_getElem? h
   simpa using this
 refine Zdg.bind (fun r hr=>?_) (Zi3 h0 l)
 split
 ·exact ZiL h0 _ _ _ hr
 ·exact trivial
end
section
variable {prog:Program} {w:World} {A:Around} {E:Value → Shared → Prop} {s:Shared}
noncomputable def Zfb (h:Heap) (a:Addr) (vs:List Value):Heap:=((h.update a (Obj.mapSeq fun _=>#[])).push (seqObj "tuple" vs.toArray 0)).push (seqObj "list" #[] 0)
noncomputable def ZdZ (s s':Shared):Prop:=∃ t,s' = { s with toks:=t }
theorem Zkt {h:Heap} {a b:Addr} {vs:List Value} (hb:b ≠ a) (hlt:b < h.objs.size):(Zfb h a vs).get? b = h.get? b:=by
 unfold Zfb
 rw [Heap.get?_push_ne _ _ _ (by rw [size_push',Heap.size_update]; exact Nat.ne_of_lt (Nat.lt_succ_of_lt hlt)),Heap.get?_push_ne _ _ _ (by rw [Heap.size_update]; exact Nat.ne_of_lt hlt),Heap.get?_update_ne _ _ _ _ hb]
theorem ZkD {a:Addr} {vs:List Value} {n:Nat} {lt:Nat → Nat → Bool} {κ:SortKind} {P:PySem.Fin → Shared → Prop} (o:ZcG lt) (ho:s.heap.get? a = some (seqObj "list" vs.toArray n)) (h64:vs.length < 64)
  (hk:2 ≤ vs.length → ∀ (Q:SortKind → Shared → Prop) s',ZdZ { s with heap:=Zfb s.heap a vs } s' → (∀ s'',ZdZ { s with heap:=Zfb s.heap a vs } s'' → Q κ s'') → wpAny (model prog w) A (keyKind' vs.toArray) Q E s')
  (hc:2 ≤ vs.length → ∀ i j (C:Bool → Shared → Prop) s',i < vs.length → j < vs.length → ZdZ { s with heap:=Zfb s.heap a vs } s' → (∀ s'',ZdZ { s with heap:=Zfb s.heap a vs } s'' → C (lt i j) s'') → kas_ask prog w A κ vs i j C s')
  (h:∀ (out:List Value) (p:List Nat) t,p.Perm (List.range vs.length) → (∀ (i j x y:Nat),i ≤ j → p[i]? = some x → p[j]? = some y → lt y x = false) → out = p.map (fun i=>vs.getD i Value.none) → P (.done (.ret .none)) { s with heap:=sortedHeap s.heap a vs out.toArray,toks:=t }):
  wpAny (model prog w) A (Builtin.«list.sort» ⟨[.ref a],[]⟩) P E s:=by
 have ha:a < s.heap.objs.size:=Heap.lt_size ho
 obtain ⟨e1,g1⟩:∃ e1,(s.heap.update a (Obj.mapSeq fun _=>(#[]:Array Value))).get? a = some (seqObj "list" #[] e1):=⟨_,get?_update_seq ho _⟩
 have g6:(Zfb s.heap a vs).get? a = some (seqObj "list" #[] e1):=by
  unfold Zfb; rw [Heap.get?_push_ne _ _ _ (by rw [size_push',Heap.size_update]; exact Nat.ne_of_lt (Nat.lt_succ_of_lt ha)),Heap.get?_push_ne _ _ _ (by rw [Heap.size_update]; exact Nat.ne_of_lt ha)]; exact g1
 rw [list_sort_plain]; refine wpAny_bind (listItems_at ho rfl (wpAny_bind (listUpdate_at ho rfl ?_ (by rw [List.size_toArray,sizeLine_eq]; exact lA 1 0x10000007b00402b011 T1 h64) (Nat.zero_le _))))
 refine wpAny_bind (seqEpoch_at g1 rfl (wpAny_bind (wpAny_newTuple ?_ (by show vs.length ≤ _; rw [sizeLine_eq]; exact lA 1 0x10000007b00402b011 T1 h64)))); refine wpAny_bind (wpAny_newList ?_ (Nat.zero_le _))
 refine wpAny_holding ?_
 show wpAny (model prog w) A _ P E { s with heap:=Zfb s.heap a vs }
 dsimp only
 by_cases h2:vs.length < 2
 ·have q2:vs.toArray.size < 2:=by rw [List.size_toArray]; exact h2
  rw [if_pos q2,if_pos q2]; refine wpAny_bind (wpAny_pure ?_)
  rw [StateT.run_pure]; refine wpAny_bind (wpAny_pure ?_)
  dsimp only; refine wpAny_bind (seqEpoch_at g6 rfl (wpAny_bind (listUpdate_at g6 rfl ?_ (Nat.zero_le _) ?_)))
  ·have es:(arrOf (SortSt.mk' general' (vs.toArray.zip vs.toArray) #[] 7 none)).map (·.2) = vs.toArray:=by
    show (vs.toArray.zip vs.toArray).map (·.2) = _
    apply Array.toList_inj.mp; simp [List.map_snd_zip]
   rw [es]; simp only [bne_self_eq_false,Bool.false_eq_true,if_false]
   refine wpAny_pure (h vs (List.range vs.length) s.toks (List.Perm.refl _) (fun i j x y hij hx hy=>?_) ?_)
   ·have:=(List.getElem?_eq_some_iff.mp hx).1
    have:=(List.getElem?_eq_some_iff.mp hy).1
    simp only [List.length_range] at *
    have:i = j:=Nat.le_antisymm hij (lC 2 563094658027537 T1 this h2)
    subst this; rw [hx] at hy; cases hy; exact o.rf _
   ·apply List.ext_getElem?
    intro i
    rw [List.getElem?_map]
    by_cases hi:i < vs.length
    ·simp [hi]
    ·simp [hi]
  ·refine Nat.le_trans (Nat.le_of_eq (Array.size_map ..)) ?_
   show (vs.toArray.zip vs.toArray).size ≤ _
   rw [Array.size_zip,List.size_toArray,sizeLine_eq]; exact lB 2 0xa10000007bc10010121b011 T1 h2 (Nat.min_le_left _ _)
 ·have q2:¬ vs.toArray.size < 2:=by rw [List.size_toArray]; exact h2
  have h2':2 ≤ vs.length:=Nat.le_of_not_lt h2
  rw [if_neg q2,if_neg q2]
  refine wpAny_bind (hk h2' _ _ ⟨s.toks,rfl⟩ fun s' hs'=>?_)
  refine wpAny_bind (wpAny_mono (kat_run (Q:=fun st' s''=>ZdZ { s with heap:=Zfb s.heap a vs } s'' ∧ failedOf st' = none ∧ arrOf st' = (kev lt (kas_sort vs.length)).map (kas_item (vs.toArray.zip vs.toArray))) (G:=fun p s''=>ZdZ { s with heap:=Zfb s.heap a vs } s'' ∧ p = kev lt (kas_sort vs.length)) rfl h2' h64
   (fun p st' s'' _ a2 a3 ⟨a4,a5⟩=>⟨a4,a3,by rw [a2,a5]⟩) (Zhu (n:=vs.length) (hc h2') _ (Zjo (lA 1 3775011585 T1 h2')) s' hs' fun s'' g=>⟨g,rfl⟩)) ?_ fun _ _ e=>e)
  rintro ⟨⟨⟩,st'⟩ s'' ⟨⟨t,rfl⟩,hf,har⟩
  dsimp only
  obtain ⟨pp,pu⟩:=Zlj o (n:=vs.length) (lA 1 2684492545 T1 h2')
  generalize kev lt (kas_sort vs.length) = p at pp pu har
  have hout:=kat_snds (vs:=vs) (ks:=vs) rfl har
  rw [hout]
  have hlen:p.toList.length = vs.length:=by have:=pp.size_eq; simpa using this
  refine wpAny_bind (seqEpoch_at g6 rfl (wpAny_bind (listUpdate_at g6 rfl ?_ (Nat.zero_le _) (by rw [List.size_toArray,List.length_map,hlen,sizeLine_eq]; exact lA 1 0xa10000007bc00402b011 T1 h64))))
  rw [hf]; simp only [bne_self_eq_false,Bool.false_eq_true,if_false]
  refine wpAny_pure (h _ p.toList t ?_ (fun i j x y hij hx hy=>?_) rfl)
  ·have:=Array.perm_iff_toList_perm.mp pp; simpa using this
  ·have hj:=(List.getElem?_eq_some_iff.mp hy).1
   have u:=pu i j hij (by rw [hlen] at hj; exact hj)
   have cv:∀ (k z:Nat),p.toList[k]? = some z → at' p k = z:=fun k z hz=>by
    rw [at',Array.getD_eq_getD_getElem?,← Array.getElem?_toList,hz]; rfl
   rw [cv i x hx,cv j y hy] at u; exact u
theorem ZhA {l:Addr} {vs:List Value} {lt:Nat → Nat → Bool} {κ:SortKind} {Q:Value → Shared → Prop} (o:ZcG lt) (hl:s.heap.IsList l vs.toArray) (h64:vs.length < 64)
  (hk:2 ≤ vs.length → ∀ (h':Heap) (Q:SortKind → Shared → Prop) s',(∀ b u,s.heap.get? b = some u → h'.get? b = some u) → ZdZ { s with heap:=h' } s' → (∀ s'',ZdZ { s with heap:=h' } s'' → Q κ s'') → wpAny (model prog w) A.in1.in1 (keyKind' vs.toArray) Q (fun _ _=>False) s')
  (hc:2 ≤ vs.length → ∀ (h':Heap) i j (C:Bool → Shared → Prop) s',(∀ b u,s.heap.get? b = some u → h'.get? b = some u) → i < vs.length → j < vs.length → ZdZ { s with heap:=h' } s' → (∀ s'',ZdZ { s with heap:=h' } s'' → C (lt i j) s'') → kas_ask prog w A.in1.in1 κ vs i j C s')
  (h:∀ (out:List Value) (p:List Nat) t h' a,p.Perm (List.range vs.length) → (∀ (i j x y:Nat),i ≤ j → p[i]? = some x → p[j]? = some y → lt y x = false) → out = p.map (fun i=>vs.getD i Value.none) →
   (∀ b u,s.heap.get? b = some u → h'.get? b = some u) → s.heap.objs.size ≤ a → (∃ e,h'.get? a = some (seqObj "list" out.toArray e)) → Q (.ref a) { s with heap:=h',toks:=t }):
  wpAny (model prog w) A (call (.builtin "sorted") [.ref l]) Q E s:=by
 refine Calls.call_function_entry kind_sorted plain_sorted entry_sorted (args_sorted1 _) ?_; unfold Builtin.«sorted»
 refine wpAny_bind (m:=checkCount "sorted" 1 1 _) (wpAny_pure (wpAny_bind (collect_list hl ?_ (by rw [sizeLine_eq]; exact lA 1 0x10000007b00402b011 T1 h64)))); refine wpAny_bind (wpAny_newList ?_ (by rw [sizeLine_eq]; exact lA 1 0x10000007b00402b011 T1 h64))
 have hsz:((s.heap.push (seqObj "list" #[] 0)).update s.heap.objs.size (Obj.mapSeq (· ++ vs.toArray))).objs.size = s.heap.objs.size + 1:=(Heap.size_update ..).trans (size_push' ..)
 obtain ⟨h3,e3⟩:∃ h3,((s.heap.push (seqObj "list" #[] 0)).update s.heap.objs.size (Obj.mapSeq (· ++ vs.toArray))).push (seqObj "list" vs.toArray 0) = h3:=⟨_,rfl⟩
 have g3:h3.get? (s.heap.objs.size + 1) = some (seqObj "list" vs.toArray 0):=by rw [← e3,← hsz]; exact Heap.get?_push_size _ rfl
 have k3:∀ b u,s.heap.get? b = some u → h3.get? b = some u:=fun b u q=>by
  have hlt:b < s.heap.objs.size:=Heap.lt_size q
  rw [← e3,Heap.get?_push_ne _ _ _ (by rw [hsz]; exact Nat.ne_of_lt (Nat.lt_succ_of_lt hlt)),Heap.get?_update_ne _ _ _ _ (Nat.ne_of_lt hlt),Heap.get?_push_ne _ _ _ (Nat.ne_of_lt hlt)]; exact q
 have z3:h3.objs.size = s.heap.objs.size + 2:=by rw [← e3,size_push',hsz]
 show wpAny _ _ _ _ _ { s with heap:=((s.heap.push (seqObj "list" #[] 0)).update s.heap.objs.size (Obj.mapSeq (· ++ vs.toArray))).push (seqObj "list" vs.toArray 0) }
 rw [hsz,e3]
 have km:∀ b u,s.heap.get? b = some u → (Zfb h3 (s.heap.objs.size + 1) vs).get? b = some u:=fun b u q=>by
  have hlt:b < s.heap.objs.size:=Heap.lt_size q
  rw [Zkt (Nat.ne_of_lt (Nat.lt_succ_of_lt hlt)) (by rw [z3]; exact Nat.lt_succ_of_lt (Nat.lt_succ_of_lt hlt))]; exact k3 b u q
 refine wpAny_bind (wpAny_holding (wpAny_call_entry slot_list_sort ⟨_,g3,rfl⟩ entry_list_sort ?body (args_list_sort _)))
 case body=>
  refine ZkD (s:={ s with heap:=h3 }) (κ:=κ) o g3 h64 (fun h2 Q' s' hs' hq=>wpAny_mono (hk h2 _ Q' s' km hs' hq) (fun _ _ q=>q) fun _ _ z=>z.elim) (fun h2 i j C s' hi hj hs' hq=>hc h2 _ i j C s' km hi hj hs' hq) fun out p t hp hu ho=>⟨_,rfl,wpAny_pure ⟨_,rfl,?_⟩⟩
  refine h out p t (sortedHeap h3 (s.heap.objs.size + 1) vs out.toArray) (s.heap.objs.size + 1) hp hu ho (fun b u q=>?_) (Nat.le_add_right _ _) ?_
  ·have hlt:b < s.heap.objs.size:=Heap.lt_size q
   rw [sortedHeap_old (Nat.ne_of_lt (Nat.lt_succ_of_lt hlt)) (by rw [z3]; exact Nat.lt_succ_of_lt (Nat.lt_succ_of_lt hlt))]; exact k3 b u q
  ·exact sortedHeap_at g3
end
end L3
namespace L3
open PySem PySem.W PySem.Spec PyProof.Rows L2
section
variable {prog:Program} {w:World} {A:Around} {K:PySem.W.Frag} {H:Hp} {ι:List Addr}
theorem ZkC {s:Shared} {C:Bool → Shared → Prop} {r:Bool} (hC:C r s):∀ (x y:List D) (xs ys:List V) (us ws:List Value) (k:Nat) (fin:Bool),Zq K H ι x xs → Zq K H ι y ys → Vals xs us → Vals ys ws → fin = decide (x.length < y.length) →
  (k = 0 → (∀ d,x.head? = some d → Zd1 d = true)) → ltT x y = some r → KatLex prog w A true fin C (us.zip ws) k s
 | [],[],xs,ys,us,ws,k,fin,rx,ry,vx,vy,hf,_,h=>by
  have e1:=rx.nil_inv; have e2:=ry.nil_inv; subst e1 e2; cases vx; cases vy
  refine kat_nil ?_
  simp [ltT] at h; subst hf; simpa [h] using hC
 | [],d :: y,xs,ys,us,ws,k,fin,rx,ry,vx,vy,hf,_,h=>by
  have e1:=rx.nil_inv; subst e1; cases vx
  refine kat_nil ?_
  simp [ltT] at h; subst hf; simpa [h] using hC
 | d :: x,[],xs,ys,us,ws,k,fin,rx,ry,vx,vy,hf,_,h=>by
  have e1:=ry.nil_inv; subst e1; cases vy
  rw [List.zip_nil_right]
  refine kat_nil ?_
  simp [ltT] at h; subst hf; simpa [h] using hC
 | d :: x,e :: y,xs,ys,us,ws,k,fin,rx,ry,vx,vy,hf,h0,h=>by
  obtain ⟨v,xs',rfl,r1,r2⟩:=rx.cons_inv
  obtain ⟨v',ys',rfl,r1',r2'⟩:=ry.cons_inv
  cases vx with
  | @cons _ u _ us' ru rus=>
  cases vy with
  | @cons _ u' _ ws' ru' rus'=>
  rw [List.zip_cons_cons]
  have hfin:fin = decide (x.length < y.length):=by rw [hf]; simp
  rcases Zc0 h with ⟨i,j,rfl,rfl⟩ | ⟨i,j,rfl,rfl⟩
  ·have ev:=r1.int_inv; have ev':=r1'.int_inv
   subst ev ev'
   obtain ⟨t,rfl⟩:=ru
   obtain ⟨t',rfl⟩:=ru'
   refine kat_cons (wpAny_eqBool_int ?_)
   simp only [ltT] at h
   by_cases e:i = j
   ·subst e
    rw [if_pos rfl] at h
    rw [beq_self_eq_true]
    exact kat_yes (ZkC hC x y xs' ys' us' ws' (k + 1) fin r2 r2' rus rus' hfin (fun z=>(lA 1 116001825 T1 z).elim) h)
   ·rw [if_neg e] at h
    have hb:(i == j) = false:=by simpa using e
    rw [hb]
    refine kat_no ?_
    have hr:decide (i < j) = r:=by simpa using h
    cases hk:(true && k == 0) with
    | true=>exact oneLt_int (by rw [hr]; exact hC)
    | false=>exact kat_one _ _ (lt_int (by show C _ s; rw [hr]; exact hC))
  ·have ev:=r1.str_inv; have ev':=r1'.str_inv
   subst ev ev'
   obtain ⟨t,rfl⟩:=ru
   obtain ⟨t',rfl⟩:=ru'
   refine kat_cons (wpAny_eqBool_str ?_)
   simp only [ltT] at h
   by_cases e:i = j
   ·subst e
    rw [if_pos rfl] at h
    rw [decide_eq_true rfl]
    exact kat_yes (ZkC hC x y xs' ys' us' ws' (k + 1) fin r2 r2' rus rus' hfin (fun z=>(lA 1 116001825 T1 z).elim) h)
   ·rw [if_neg e] at h
    have hb:decide ((⟨i.toArray⟩:Str) = ⟨j.toArray⟩) = false:=by
     rw [decide_eq_false_iff_not]; intro z; injection z with z; exact e (by simpa using congrArg Array.toList z)
    rw [hb]
    refine kat_no ?_
    have hr:decide (i < j) = r:=by simpa using h
    have hk0:k ≠ 0:=fun z=>by have:=h0 z _ rfl; simp [Zd1] at this
    have hk:(true && k == 0) = false:=by simp [hk0]
    rw [hk]
    exact kat_one _ _ (lt_str (by show C _ s; rw [show decide ((⟨i.toArray⟩:Str).cps.toList < (⟨j.toArray⟩:Str).cps.toList) = r from hr]; exact hC))
end
section
variable {X:Cx}
theorem ZcY {x:List D} {vs:List V} {its:List Value} {K:PySem.W.Frag} {H:Hp} {ι:List Addr} (r:Zq K H ι x vs) (v:Vals vs its) {i:Nat} {d:D} (h:x[i]? = some d):∃ u,RelV u (its.getD i Value.none) ∧ Rep K H ι d u ∧ vs[i]? = some u:=by
 obtain ⟨u,e1,r1⟩:=r.get h
 obtain ⟨z,e2,r2⟩:=v.get e1
 refine ⟨u,?_,r1,e1⟩
 rw [List.getD_eq_getElem?_getD,e2]; exact r2
theorem Ze6 {pins:List (Addr × Obj)} {σ:St} {H:Hp} {s:Shared} {ι:List Addr} (I:Inv X pins σ H s) {h':Heap} (k:∀ b u,s.heap.get? b = some u → h'.get? b = some u):∀ (x:List D) (vs:List V) (its:List Value),Zq X.K H ι x vs → Vals vs its → x.all ZcI = true →
  ∃ fs:List Value,KatTups h' its fs ∧ fs.length = x.length ∧ ∀ f ∈ fs,∃ i t,f = .int i t
 | [],vs,its,r,v,_=>by have e:=r.nil_inv; subst e; cases v; exact ⟨[],.nil,rfl,fun f h=>by simp at h⟩
 | d :: x,vs,its,r,v,h=>by
  obtain ⟨u,vs',rfl,r1,r2⟩:=r.cons_inv
  cases v with
  | @cons _ z _ its' rz rzs=>
  simp only [List.all_cons,Bool.and_eq_true] at h
  obtain ⟨fs,t,l,hf⟩:=Ze6 I k x vs' its' r2 rzs h.2
  have hd:=h.1
  cases d with
  | tup ds=>
   cases ds with
   | nil=>simp [ZcI] at hd
   | cons e ds=>
    cases e with
    | int i=>
     obtain ⟨a,ws,rfl,sq,rr⟩:=r1.tup_inv
     cases (show z = Value.ref a from rz)
     obtain ⟨its2,rv,⟨o,ho,hc,n,hdat⟩,_⟩:=I.tuple sq
     obtain ⟨u0,ws',rfl,q1,q2⟩:=rr.cons_inv
     have e0:=q1.int_inv
     subst e0
     cases rv with
     | @cons _ y0 _ ys ry0 _=>
     obtain ⟨tk,rfl⟩:=ry0
     refine ⟨.int i tk :: fs,KatTups.cons (k a o ho) hc hdat (by simp) t,by simp [l],fun f hm=>?_⟩
     rcases List.mem_cons.mp hm with rfl | hm
     ·exact ⟨i,tk,rfl⟩
     ·exact hf f hm
    | _=>simp [ZcI] at hd
  | _=>simp [ZcI] at hd
theorem Zq.pick {K:PySem.W.Frag} {H:Hp} {ι:List Addr} {x:List D} {vs:List V} (r:Zq K H ι x vs) (d0:D) (v0:V):∀ (p:List Nat),(∀ i ∈ p,i < x.length) → Zq K H ι (p.map fun i=>x.getD i d0) (p.map fun i=>vs.getD i v0)
 | [],_=>Zq.nil
 | i :: p,h=>by
  have hi:=h i List.mem_cons_self
  obtain ⟨v,e,q⟩:=r.get (i:=i) (d:=x[i]) (by simp [hi])
  refine Zq.cons ?_ (Zq.pick r d0 v0 p fun j hj=>h j (List.mem_cons_of_mem _ hj))
  dsimp only
  rw [List.getD_eq_getElem?_getD,List.getD_eq_getElem?_getD,e,List.getElem?_eq_getElem hi]; exact q
theorem Vals.pick {vs:List V} {us:List Value} (r:Vals vs us) (v0:V):∀ (p:List Nat),(∀ i ∈ p,i < vs.length) → Vals (p.map fun i=>vs.getD i v0) (p.map fun i=>us.getD i Value.none)
 | [],_=>.nil
 | i :: p,h=>by
  have hi:=h i List.mem_cons_self
  obtain ⟨v,e,q⟩:=r.get (i:=i) (x:=vs[i]) (by simp [hi])
  refine .cons ?_ (Vals.pick r v0 p fun j hj=>h j (List.mem_cons_of_mem _ hj))
  dsimp only
  rw [List.getD_eq_getElem?_getD,List.getD_eq_getElem?_getD,e,List.getElem?_eq_getElem hi]; exact q
theorem Zi9 {x:List D} (d0:D) {p:List Nat} (h:p.Perm (List.range x.length)):(p.map fun i=>x.getD i d0).Perm x:=by
 have h1:=h.map (fun i=>x.getD i d0)
 have h2:(List.range x.length).map (fun i=>x.getD i d0) = x:=by
  apply List.ext_getElem?
  intro i
  rw [List.getElem?_map]
  by_cases hi:i < x.length
  ·simp [hi]
  ·simp [hi]
 rwa [h2] at h1
theorem ZgI {x:List D} (cmp:∀ a ∈ x,∀ b ∈ x,(ltD a b).isSome = true) {a b:D} (ha:a ∈ x) (hb:b ∈ x) (h:decide (ltD a b = some true) = false):ltD a b = some false:=by
 have c:=cmp a ha b hb
 cases q:ltD a b with
 | none=>rw [q] at c; cases c
 | some z=>cases z with
  | true=>exact absurd q (of_decide_eq_false h)
  | false=>rfl
theorem Znu (x:List D):∃ d0:D,∀ i:Nat,x ≠ [] → x.getD i d0 ∈ x:=by
 cases x with
 | nil=>exact ⟨.non,fun _ h=>absurd rfl h⟩
 | cons e y=>
  refine ⟨e,fun i _=>?_⟩
  rw [List.getD_eq_getElem?_getD]
  cases q:(e :: y)[i]? with
  | some d=>exact List.mem_of_getElem? q
  | none=>exact List.mem_cons_self
theorem Zmo {x:List D} (cmp:∀ a ∈ x,∀ b ∈ x,(ltD a b).isSome = true) {d0:D} (mem:∀ i:Nat,x ≠ [] → x.getD i d0 ∈ x):ZcG fun i j=>decide (ltD (x.getD i d0) (x.getD j d0) = some true):=by
 refine ⟨fun {i j} h=>decide_eq_false fun h'=>?_,fun {i j k} h1 h2=>decide_eq_false fun h3=>?_⟩
 ·rw [Zhh (of_decide_eq_true h)] at h'; cases h'
 ·by_cases hx:x = []
  ·subst hx
   rw [List.getD_nil,List.getD_nil] at h3
   have z:=Zhh h3; rw [h3] at z; cases z
  ·rw [ZmC (ZgI cmp (mem j hx) (mem i hx) h1) (ZgI cmp (mem k hx) (mem j hx) h2)] at h3; cases h3
theorem Zm6 {x:List D} (cmp:∀ a ∈ x,∀ b ∈ x,(ltD a b).isSome = true) {d0:D} (mem:∀ i:Nat,x ≠ [] → x.getD i d0 ∈ x) {p:List Nat} (hp:p.Perm (List.range x.length))
  (hu:∀ (i j x' y':Nat),i ≤ j → p[i]? = some x' → p[j]? = some y' → decide (ltD (x.getD y' d0) (x.getD x' d0) = some true) = false):Zfs x (p.map fun i=>x.getD i d0):=by
 refine ⟨Zi9 d0 hp,?_⟩
 rw [List.pairwise_map,List.pairwise_iff_getElem]
 intro i j hi hj hij
 have hx:x ≠ []:=fun e=>by
  subst e
  have z:=hp.length_eq
  rw [List.length_range] at z
  rw [z] at hi
  exact absurd hi (Nat.not_lt_zero _)
 have z:=ZgI cmp (mem p[j] hx) (mem p[i] hx) (hu i j p[i] p[j] (Nat.le_of_lt hij) (List.getElem?_eq_getElem hi) (List.getElem?_eq_getElem hj))
 unfold leD
 rw [z]
theorem Zj6:ZbK X (.builtin "sorted") (rB X.K Zcw):=by
 intro pins s σ H xs us Q I rs ⟨ι,M,ds,S,rd,h⟩
 cases ds with
 | nil=>exact h.elim
 | cons d ds=>
  cases ds with
  | cons _ _=>cases d <;> exact h.elim
  | nil=>
   obtain ⟨x0,rfl,r⟩:=Zfg rd
   obtain ⟨u,rfl,ru⟩:=vals1 rs
   cases d with
   | ref n=>
    cases hn:M[n]? with
    | none=>simp only [Zcw,hn] at h; exact h.elim
    | some ob=>
     cases ob with
     | dct _=>simp only [Zcw,hn] at h; exact h.elim
     | fdct _=>simp only [Zcw,hn] at h; exact h.elim
     | ins _ _=>simp only [Zcw,hn] at h; exact h.elim
     | lst x=>
      simp only [Zcw,hn] at h
      split at h
      ·rename_i ok
       obtain ⟨a,ha,rfl⟩:=r.ref_inv
       cases ru
       obtain ⟨vs,ev,rv⟩:=S.obj n _ a hn ha
       obtain ⟨its,rr,pl,zl⟩:=I.list (SqL.of ev)
       have lx:its.length = x.length:=by rw [← rr.length,rv.length]
       obtain ⟨d0,mem⟩:=Znu x
       have ltok:=Zmo ok.cmp mem
       have fin:∀ (out:List Value) (p:List Nat) t h' a',p.Perm (List.range its.length) → (∀ (i j x' y':Nat),i ≤ j → p[i]? = some x' → p[j]? = some y' → decide (ltD (x.getD y' d0) (x.getD x' d0) = some true) = false) → out = p.map (fun i=>its.getD i Value.none) →
         (∀ b u,s.heap.get? b = some u → h'.get? b = some u) → s.heap.objs.size ≤ a' → (∃ e,h'.get? a' = some (seqObj "list" out.toArray e)) → ∃ v H',Inv X pins σ H' { s with heap:=h',toks:=t } ∧ RelV v (.ref a') ∧ Q v H':=by
        intro out p t h' a' hp hu ho hk ha' ⟨e,he⟩
        have hlt:∀ i ∈ p,i < x.length:=fun i hi=>by have:=hp.mem_iff.mp hi; rw [lx] at this; simpa using this
        have plen:p.length = x.length:=by have:=hp.length_eq; simpa [lx] using this
        have sq:=Zm6 ok.cmp mem (by rw [← lx]; exact hp) hu
        rw [Zkl sq] at h
        have hn0:=I.hok.fresh ha'
        obtain ⟨x2,S2,r2⟩:=S.lst hn0 (rv.pick d0 .non p hlt)
        refine ⟨.ref a',_,I.laid (o:=.lst (p.map fun i=>vs.getD i .non)) hk ha' ⟨?_,out,e,?_,he⟩,rfl,h _ _ _ x2 S2 r2⟩
        ·rw [List.length_map,plen,sizeLine_eq]; have:=ok.len; exact lA 1 0x10000007b00402b011 T1 this
        ·rw [ho]; exact Vals.pick rr .non p fun i hi=>by rw [rv.length]; exact hlt i hi
       rcases ok.kind with kd | kd
       ·refine ZhA (κ:=tuples' (Value.type "int" != Value.type "tuple")) ltok pl.isList (by rw [lx]; exact ok.len) (fun h2 h' Q' s' hk hs' hq=>?_) (fun h2 h' i j C s' hk hi hj hs' hC=>?_) fun out p t h' a' hp hu ho hk ha' he=>fin out p t h' a' hp hu ho hk ha' he
        ·obtain ⟨fs,kt,lf,hf⟩:=Ze6 I hk x vs its rv rr kd
         obtain ⟨t,rfl⟩:=hs'
         refine kat_kind (T:=.type "int") kt (by rw [lf,← lx]; exact lA 1 3775011585 T1 h2) (fun v hv=>?_) (by decide) (hq _ ⟨t,rfl⟩)
         obtain ⟨i,tk,rfl⟩:=hf v hv
         exact Looks.now
        ·obtain ⟨t,rfl⟩:=hs'
         have hxi:x[i]? = some x[i]:=by rw [List.getElem?_eq_getElem]
         have hxj:x[j]? = some x[j]:=by rw [List.getElem?_eq_getElem]
         obtain ⟨vi,ri,qi,_⟩:=ZcY rv rr hxi
         obtain ⟨vj,rj,qj,_⟩:=ZcY rv rr hxj
         have ki:=List.all_eq_true.mp kd _ (List.getElem_mem (show i < x.length by exact lC 2 2203874037777 T1 hi lx))
         have kj:=List.all_eq_true.mp kd _ (List.getElem_mem (show j < x.length by exact lC 2 2203874037777 T1 hj lx))
         have cm:=ok.cmp _ (List.getElem_mem (show i < x.length by exact lC 2 2203874037777 T1 hi lx)) _ (List.getElem_mem (show j < x.length by exact lC 2 2203874037777 T1 hj lx))
         have gi:x.getD i d0 = x[i]:=by simp [show i < x.length by exact lC 2 2203874037777 T1 hi lx]
         have gj:x.getD j d0 = x[j]:=by simp [show j < x.length by exact lC 2 2203874037777 T1 hj lx]
         simp only [gi,gj] at hC
         generalize x[i] = di at *
         generalize x[j] = dj at *
         cases di with
         | tup di=>
          cases dj with
          | tup dj=>
           obtain ⟨a1,w1,rfl,s1,e1⟩:=qi.tup_inv
           obtain ⟨a2,w2,rfl,s2,e2⟩:=qj.tup_inv
           obtain ⟨i1,v1,⟨o1,g1,_,n1,d1⟩,_⟩:=I.tuple s1
           obtain ⟨i2,v2,⟨o2,g2,_,n2,d2⟩,_⟩:=I.tuple s2
           unfold kas_ask
           rw [show its.getD i Value.none = .ref a1 from ri,show its.getD j Value.none = .ref a2 from rj]
           cases q:ltT di dj with
           | none=>simp only [ltD,q] at cm; cases cm
           | some b=>
            refine kat_lt (hk _ _ g1) d1 (hk _ _ g2) d2 (ZkC (r:=b) ?_ di dj w1 w2 i1 i2 0 _ e1 e2 v1 v2 ?_ (fun _ d hd=>?_) q)
            ·have:=hC _ ⟨t,rfl⟩
             simp only [ltD,q] at this
             cases b <;> simpa using this
            ·rw [List.size_toArray,List.size_toArray,← v1.length,← v2.length,e1.length,e2.length]
            ·cases di with
             | nil=>cases hd
             | cons d' r'=>cases hd; cases d <;> simp [ZcI,Zd1] at ki ⊢
          | _=>simp [ZcI] at kj
         | _=>simp [ZcI] at ki
       ·refine ZhA (κ:=oneType') ltok pl.isList (by rw [lx]; exact ok.len) (fun h2 h' Q' s' hk hs' hq=>?_) (fun h2 h' i j C s' hk hi hj hs' hC=>?_) fun out p t h' a' hp hu ho hk ha' he=>fin out p t h' a' hp hu ho hk ha' he
        ·obtain ⟨t,rfl⟩:=hs'
         refine kas_kind (T:=.type "int") h2 (fun v hv=>?_) (by decide) (by decide) (hq _ ⟨t,rfl⟩)
         obtain ⟨i,hi,rfl⟩:=List.getElem_of_mem hv
         have hxi:x[i]? = some x[i]:=by rw [List.getElem?_eq_getElem]
         obtain ⟨vi,ri,qi,_⟩:=ZcY rv rr hxi
         have ki:=List.all_eq_true.mp kd _ (List.getElem_mem (show i < x.length by exact lC 2 2203874037777 T1 hi lx))
         have gi:its.getD i Value.none = its[i]:=by simp [hi]
         rw [gi] at ri
         generalize x[i] = di at *
         cases di with
         | int k=>
          have:=qi.int_inv
          subst this
          obtain ⟨tk,e⟩:=ri
          rw [e]
          exact Looks.now
         | _=>simp [Zd1] at ki
        ·obtain ⟨t,rfl⟩:=hs'
         have hxi:x[i]? = some x[i]:=by rw [List.getElem?_eq_getElem]
         have hxj:x[j]? = some x[j]:=by rw [List.getElem?_eq_getElem]
         obtain ⟨vi,ri,qi,_⟩:=ZcY rv rr hxi
         obtain ⟨vj,rj,qj,_⟩:=ZcY rv rr hxj
         have ki:=List.all_eq_true.mp kd _ (List.getElem_mem (show i < x.length by exact lC 2 2203874037777 T1 hi lx))
         have kj:=List.all_eq_true.mp kd _ (List.getElem_mem (show j < x.length by exact lC 2 2203874037777 T1 hj lx))
         have gi:x.getD i d0 = x[i]:=by simp [show i < x.length by exact lC 2 2203874037777 T1 hi lx]
         have gj:x.getD j d0 = x[j]:=by simp [show j < x.length by exact lC 2 2203874037777 T1 hj lx]
         simp only [gi,gj] at hC
         generalize x[i] = di at *
         generalize x[j] = dj at *
         cases di with
         | int p=>
          cases dj with
          | int q=>
           have:=qi.int_inv; subst this
           have:=qj.int_inv; subst this
           obtain ⟨t1,e1⟩:=ri
           obtain ⟨t2,e2⟩:=rj
           unfold kas_ask
           rw [e1,e2,keyLt'_oneType]
           refine oneLt_int ?_
           have:=hC _ ⟨t,rfl⟩
           simpa [ltD] using this
          | _=>simp [Zd1] at kj
         | _=>simp [Zd1] at ki
      ·exact h.elim
   | _=>exact h.elim
end
end L3
namespace L3
open PySem PySem.Spec PyProof.Rows L2
section
variable {X:Cx} {a b c e o:Expr} {es:List Expr} {pos p apos cpos:Pos} {f g h:E3} {gl:EL3}
end
section
variable {X:Cx} {pins:List (Addr × Obj)} {σ:St} {H:Hp} {s:Shared} {d:Addr} {ws:List (Key × V)} {ob:Obj}
end
section
variable {X:Cx} {tg e elt:Expr} {ifs:List Expr} {pos:Pos} {f fe:E3} {ts:List E3} {g:G3} {scope:Scope} {N':List Str} {own:Nat}
end
end L3
namespace L3
open PySem PySem.Spec PyProof.Rows L2
section
variable {prog:Program} {w:World} {A:Around} {E:Value → Shared → Prop} {s:Shared}
end
section
variable {X:Cx}
end
end L3
namespace L3
open PySem PySem.Spec PyProof.Rows L2
end L3
namespace L3
open PySem PySem.Spec PyProof.Rows L2
section
variable {X:Cx} {o e:Expr} {es:List Expr} {apos cpos:Pos} {f:E3} {gl:EL3}
end
end L3
namespace L3
open PySem PySem.Spec PyProof.Rows L2
section
variable {X:Cx} {a b c e o:Expr} {es:List Expr} {pos p apos cpos:Pos} {f g h:E3} {gl:EL3}
end
end L3
namespace L3
open PySem PySem.Spec PyProof.Rows L2
section
variable {X:Cx} {a b c e o:Expr} {es:List Expr} {pos p apos cpos:Pos} {f g h:E3} {gl:EL3}
end
end L3
namespace L3
open PySem PySem.Spec PyProof.Rows L2
section
variable {X:Cx} {a b c e o:Expr} {es:List Expr} {pos p p1 p2 p3 pt apos cpos:Pos} {f g h:E3} {gl:EL3}
end
end L3
namespace L3
open PySem PySem.Spec PyProof.Rows L2
section
variable {X:Cx} {tg e:Expr} {pos:Pos} {f:E3} {g:G3}
theorem ZmI (he:C3 X e f) (hg:CG X tg g) (hs:swapsWithSole [tg] e pos.line X.env = pure false:=by rfl) (hw:swappedStores [tg] e X.env = pure none:=by rfl)
  (h1:(assignEach [tg] X.env).map (·.2) = [assign tg X.env]:=by rfl):CS X (.Assign [tg] e pos) (Zlh f g):=(Zh7 he hg hs hw h1).imp fun D σ H zz1=>by
 obtain ⟨ι,M,env,S,E,h⟩:=zz1
 refine ⟨ι,M,env,S,E,?_⟩
 unfold Zlh at h
 cases q:f env M with
 | ok d M1=>
  rw [q] at h
  cases qg:g d env with
  | none=>simp only [qg] at h; exact h.elim
  | some env1=>
   simp only [qg] at h
   exact fun v H1 ι1 x1 S1 r1=>⟨ι1,M1,env,d,env1,S1,E.mono x1,r1,qg,fun σ' E'=>h σ' H1 ι1 x1 S1 E'⟩
 | exc x M1=>rw [q] at h; exact h.elim
 | bad=>rw [q] at h; exact h.elim
end
section
variable {X:Cx} {tg e elt:Expr} {ifs:List Expr} {pos:Pos} {f fe:E3} {ts:List E3} {g:G3} {scope:Scope} {N':List Str} {own:Nat}
end
noncomputable def Zkb (K:PySem.W.Frag) (H:Hp) (ι:List Addr) (it:ItL) (J:It):Prop:=∀ (i:Nat) H2 ι2 M2,Ext K H ι H2 ι2 → Zaa K H2 ι2 M2 → ZcJ it.lk M2 = true →
 (∀ d,it.items[i]? = some d → J.go i H2 ∧ ∀ x H3,J.yld i H2 x H3 → Ext K H2 ι2 H3 ι2 ∧ Zaa K H3 ι2 M2 ∧ Rep K H3 ι2 d x) ∧ (i = it.items.length → J.stop i H2)
noncomputable def Zgg (K:PySem.W.Frag) (H:Hp) (ι:List Addr) (R:It → Hp → Prop) (r:R3 ItL):Prop:=match r with
 | .ok it M'=>∀ J H' ι',Ext K H ι H' ι' → Zaa K H' ι' M' → Zkb K H' ι' it J → R J H'
 | _=>False
noncomputable def tIL (K:PySem.W.Frag) (g:IL3):TI:=fun σ H R=>∃ ι M env,Zaa K H ι M ∧ ZaT K H ι env σ ∧ Zgg K H ι R (g env M)
noncomputable def CIL (X:Cx) (tg e:Expr) (g:IL3):Prop:=PI X tg e (tIL X.K g)
theorem Zgg.bind {K:PySem.W.Frag} {H:Hp} {ι:List Addr} {α:Type} {Q:It → Hp → Prop} {r:R3 α} {k:α → Store → R3 ItL} (h:Zgg K H ι Q (r.bind k)):∃ a M,r = .ok a M ∧ Zgg K H ι Q (k a M):=by
 cases r with
 | ok a M=>exact ⟨a,M,rfl,h⟩
 | exc x M=>exact h.elim
 | bad=>exact h.elim
section
variable {X:Cx} {tg:Expr} {pos:Pos}
end
theorem _root_.L2.Inv.turnedL {X:Cx} {pins:List (Addr × Obj)} {σ:St} {H:Hp} {s:Shared} {h':Heap} {t':Nat} {fp:List Addr} (I:Inv X pins σ H s) (k:∀ b o,b ∉ fp → s.heap.get? b = some o → h'.get? b = some o) (hf:∀ b ∈ fp,Zet X pins H b):
  Inv X pins σ H { s with heap:=h',toks:=t' }:=by
 have nit:∀ b u,H b = some u → b ∉ fp:=fun b u e z=>by rw [(hf b z).1] at e; cases e
 refine I.step (g':=s.gens) (d':=s.drawn) (ch:=fp) (fun b hb=>⟨(hf b hb).2.2.2.1,(hf b hb).2.1,(hf b hb).2.2.2.2.1,(hf b hb).2.2.2.2.2⟩) (fun b o _ _ hc e _=>k b o hc e) (fun b o _ _ hc e _=>⟨o.slots,k b o hc e⟩) (fun _ _ _ _ n=>n)
  (fun b o hc e=>⟨o,k b o hc e⟩) (fun _ _ e=>e) (fun _ _ _ e=>e) (fun b ps e=>⟨#[],by rw [e]; simp⟩) (fun m hm=>?_) (fun b u e=>?_) I.bare
 ·obtain ⟨o,es,ep,ho,r⟩:=hm
  exact ⟨o,es,ep,k _ o (fun z=>(hf _ z).2.1 rfl) ho,r⟩
 ·refine (I.hok b u e).stay (fun c v hc q=>k c v ?_ q) (fun _ q=>q) fun _ _ q=>q
  rcases hc with z | z
  ·rw [z]; exact nit b u e
  ·exact nit c _ z
end L3
namespace L3
open PySem PySem.Spec PyProof.Rows L2
open AutoSeq1 (wpAny_loadPart')
set_option maxRecDepth 100000
section
variable {prog:Program} {w:World} {A:Around} {E:Value → Shared → Prop} {s:Shared}
end
section
variable {X:Cx} {es:List Expr} {k:Nat} {a:Expr} {p pos tpos:Pos} {f:E3}
end
end L3
namespace L3
open PySem PySem.Spec PyProof.Rows L2
open AutoSeq1 (wpAny_loadPart')
open PySem.SeqAt MeetsSeq
set_option maxRecDepth 100000
end L3
namespace L3
open PySem PySem.Spec PyProof.Rows L2
section
variable {X:Cx} {o i p j e:Expr} {pos:Pos} {f g h fo fi fp fj:E3}
end
end L3
namespace L3
open PySem PySem.Spec PyProof.Rows L2
section
variable {X:Cx}
end
end L3
namespace L3
open PySem PySem.Spec PyProof.Rows L2
section
variable {prog:Program} {w:World} {A:Around} {E:Value → Shared → Prop} {s:Shared}
theorem Zgk {it t:Addr} {items:Array Value} (hne:t ≠ it):∀ (n i:Nat) (s:Shared) (Q:List Value → Shared → Prop),s.heap.IsListIter it t i → s.heap.IsList t items → i + n ≤ items.size →
  (∀ h',h'.IsListIter it t (i + n) → Heap.SameBut it s.heap h' → Q ((items.toList.drop i).take n) { s with heap:=h' }) → wpAny (model prog w) A (draw (.ref it) n) Q E s
 | 0,i,s,Q,hit,_,_,hQ=>by
  show wpAny _ _ (pure []) Q E s
  exact wpAny_pure (by simpa using hQ s.heap hit (Heap.SameBut.refl ..))
 | n + 1,i,s,Q,hit,ht,hle,hQ=>by
  have hlt:i < items.size:=lC 1 2204024704001 T1 hle
  show wpAny _ _ (pyNext (.ref it) >>= _) Q E s
  refine wpAny_bind (wpAny_pyNext_list_item hit ht (x:=items[i]) (by simp [hlt]) fun h₁ hit₁ hs₁=>?_)
  refine wpAny_bind (wpAny_holding (Zgk hne n (i + 1) _ _ hit₁ (ht.extBut hs₁.extBut hne) (lC 1 0x21a0cc02a1c0c01 T1 hle) fun h₂ hit₂ hs₂=>wpAny_pure ?_))
  have hd:items.toList.drop i = items[i] :: items.toList.drop (i + 1):=by simp [List.drop_eq_getElem_cons,hlt]
  have:=hQ h₂ (by rw [show i + (n + 1) = i + 1 + n by exact Nat.le_antisymm (lB 0 1790139547840 T1) (lB 0 0xa1c0c1a0cc0 T1)]; exact hit₂) (hs₁.trans hs₂)
  rw [hd,List.take_succ_cons] at this
  exact this
theorem ZeS {t:Addr} {items:Array Value} {Q:List Value → Shared → Prop} (hh:A.handled = none) (ht:s.heap.IsList t items)
  (hQ:∀ h',Heap.ExtBut s.heap.objs.size s.heap h' → Q items.toList { s with heap:=h' }):wpAny (model prog w) A (unpackItems (.ref t) items.size none) Q E s:=by
 have hlt:t ≠ s.heap.objs.size:=by obtain ⟨o,ho,_⟩:=ht; exact Nat.ne_of_lt (Heap.lt_size ho)
 have hT:s.TypeIs (.ref t) "list":=by obtain ⟨o,ho,hc,_⟩:=ht; exact ⟨o,ho,hc⟩
 unfold unpackItems
 refine wpAny_bind ?_
 ·unfold notIterableAtAll
  refine wpAny_bind (wpAny_specialOf hT F.slot_list_iter.lookup ?_)
  refine wpAny_pure ?_
  simp only [Bool.false_eq_true,if_false]
  refine wpAny_bind (wpAny_holding (wpAny_pyIter_list ht ?_))
  have htp:(s.heap.push { cls:=.type "list_iterator",data:=.fields #[.ref t,.int 0 0] }).IsList t items:=ht.at fun o e=>Heap.get?_push_of_some _ e
  refine wpAny_bind (wpAny_holding (Zgk hlt items.size 0 _ _ ⟨_,Heap.get?_push_size _ rfl,rfl,rfl⟩ htp (lA 0 3776 T1) fun h₁ hit₁ hs₁=>?_))
  have hall:List.take items.size (List.drop 0 items.toList) = items.toList:=by
   rw [List.drop_zero]; exact List.take_of_length_le (by simp)
  rw [hall]
  rw [if_neg (by simp)]
  have ht₁:h₁.IsList t items:=htp.extBut hs₁.extBut hlt
  refine wpAny_bind (wpAny_holding (wpAny_pyNext_list_end hh hit₁ ht₁ (by simp) fun h₂ he₂=>?_))
  simp only [Option.isSome_none,Bool.false_eq_true,if_false]
  refine wpAny_pure (hQ h₂ fun b o hb e=>he₂ b o hb (hs₁.extBut b o hb (Heap.get?_push_of_some _ e)))
theorem ZeE {env:Env} {elts:List Expr} {x1} {pos:Pos} {t:Addr} {items:Array Value} {Q:Unit → Shared → Prop} (hh:A.handled = none) (ht:s.heap.IsList t items)
  (hn:(assignEach elts env).length = items.size) (hstar:(assignEach elts env).findIdx? (·.1) = none)
  (h:∀ h',Heap.ExtBut s.heap.objs.size s.heap h' → wpAny (model prog w) A (assignInOrder ((assignEach elts env).map (·.2)) items.toList) Q E { s with heap:=h' }):
  wpAny (model prog w) A (assign (.Tuple elts x1 pos) env (.ref t)) Q E s:=by
 rw [assign_Tuple]
 refine wpAny_bind (wpAny_standAt ?_)
 unfold unpack
 rw [hn,hstar]
 exact wpAny_bind (wpAny_holding (ZeS hh ht h))
end
section
variable {X:Cx} {e:Expr} {es:List Expr} {pos:Pos} {f:E3}
noncomputable def Zpl (K:PySem.W.Frag) (n:Nat) (t:TGs):TG:=fun v σ H Q=>∃ a xs,v = .ref a ∧ SqL K H a xs ∧ xs.length = n ∧ t xs σ H Q
theorem Znq {k:Nat} {t:TGs} {n:Nat} (hc:X.calm = true) (h:PGs X es t)
  (hn:(assignEach es X.env).length = n:=by rfl) (hst:(assignEach es X.env).findIdx? (·.1) = none:=by rfl):PG X (.Tuple es k pos) (Zpl X.K n t):=by
 intro pins s σ H v u Q I r hw
 obtain ⟨a,xs,e1,hq,hl,hw⟩:=hw
 subst e1
 cases r
 obtain ⟨its,rv,ht,hz⟩:=I.list hq
 refine ZeE (I.ok.hd hc) ht.isList (by simp [hn,← hl,rv.length]) hst fun h' hx=>?_
 have I1:Inv X pins σ H { s with heap:=h' }:=I.kept (t':=s.toks) fun b o e=>hx b o (Nat.ne_of_lt (Heap.lt_size e)) e
 exact h pins _ σ H xs _ Q I1 (by simpa using rv) hw
theorem Zht:∀ (is:List Nat) (ds:List D) (env env':Zad),bindAll is ds env = some env' → ds.length = is.length:=by
 intro is
 induction is with
 | nil=>intro ds env env' h; cases ds with | nil=>rfl | cons d ds=>cases h
 | cons i is ih=>intro ds env env' h; cases ds with | nil=>cases h | cons d ds=>simp [ih ds _ _ h]
theorem Zk2 {is:List Nat} {k:Nat} {tpos:Pos} (hc:X.calm = true) (he:C3 X e f) (h:CGs X es is)
  (hs:swapsWithSole [.Tuple es k tpos] e pos.line X.env = pure false:=by rfl) (hw:swappedStores [.Tuple es k tpos] e X.env = pure none:=by rfl)
  (h1:(assignEach [.Tuple es k tpos] X.env).map (·.2) = [assign (.Tuple es k tpos) X.env]:=by rfl)
  (hn:(assignEach es X.env).length = is.length:=by rfl) (hst:(assignEach es X.env).findIdx? (·.1) = none:=by rfl):CS X (.Assign [.Tuple es k tpos] e pos) (ZgA f is):=
 (Zh7 he (Znq (n:=is.length) hc h hn hst) hs hw h1).imp fun D σ H zz1=>by
 obtain ⟨ι,M,env,S,E,hh⟩:=zz1
 refine ⟨ι,M,env,S,E,?_⟩
 unfold ZgA at hh
 cases q:f env M with
 | exc x M1=>rw [q] at hh; exact hh.elim
 | bad=>rw [q] at hh; exact hh.elim
 | ok d M1=>
  rw [q] at hh
  cases d with
  | ref n=>
   simp only at hh
   cases hm:M1[n]? with
   | none=>simp only [hm] at hh; exact hh.elim
   | some o=>
    cases o with
    | dct _=>simp only [hm] at hh; exact hh.elim
    | fdct _=>simp only [hm] at hh; exact hh.elim
    | ins _ _=>simp only [hm] at hh; exact hh.elim
    | lst ds=>
     simp only [hm] at hh
     cases qb:bindAll is ds env with
     | none=>simp only [qb] at hh; exact hh.elim
     | some env1=>
      simp only [qb] at hh
      intro v H1 ι1 x1 S1 r1
      obtain ⟨a,ha,rfl⟩:=r1.ref_inv
      obtain ⟨vs,hv,rv⟩:=S1.obj n _ a hm ha
      exact ⟨a,vs,rfl,SqL.of hv,by rw [rv.length]; exact Zht _ _ _ _ qb,ι1,M1,env,ds,env1,S1,E.mono x1,rv,qb,fun σ' E'=>hh σ' H1 ι1 x1 S1 E'⟩
  | _=>exact hh.elim
end
end L3
namespace L3
open PySem PySem.Spec PyProof.Rows L2
section
variable {X:Cx} {a b c:Expr} {p p2 pos pos2:Pos} {f g h:E3}
end
end L3
namespace L3
open PySem PySem.Spec PyProof.Rows L2
open AutoSeq1 (wpAny_loadPart')
set_option maxRecDepth 100000
theorem Zeb (l:Addr) (items:Array Value) (n:Nat) (b:Addr) (items2:Array Value) (n2:Nat) (sl:Array (Option Value)) (hl:¬ (!items.isEmpty && Builtin.List.listTooLong (items.size + items2.size)) = true) (hz:items.size ≤ sizeLine) (hz2:items.size + items2.size ≤ sizeLine + 1):
  Meets (Builtin.«list.extend» ⟨[.ref l,.ref b],[]⟩) (fun _ R s=>s.heap.get? l = some { cls:=.type "list",data:=.seq items n } ∧ s.heap.get? b = some { cls:=.type "tuple",data:=.seq items2 n2,slots:=sl } ∧
   R (.ok (.ret .none)) { s with heap:=s.heap.update l (Obj.mapSeq fun x=>x ++ items2) }):=
 .of_wp fun prog w A R s h=>by
  obtain ⟨hp,g,d,tk,os⟩:=s; obtain ⟨h1,h2,h⟩:=h
  wp_walk using wpAny_loadPart' h1,wpAny_loadPart' h2
  rw [show (Obj.mapSeq (fun x=>x ++ items2) { cls:=Value.type "list",data:=Data.seq items n }).data.pastItsLine = none by
   show (if (items ++ items2).size > sizeLine + 1 then some "sequence:memory" else none) = none
   rw [if_neg (by rw [Array.size_append]; exact fun z=>lC 2 0x6a0c21c0121ca0c11 T1 z hz2)]]
  exact wpAny_pure (wpAny_pure ⟨_,rfl,h⟩)
section
variable {X:Cx} {o e:Expr} {es:List Expr} {apos cpos:Pos} {f:E3} {gl:EL3}
noncomputable def Zhg (K:PySem.W.Frag):V → List V → Hp → VK → Prop:=fun x vs H Q=>∃ l b xs zs,x = .ref l ∧ vs = [.ref b] ∧ H l = some (.lst xs) ∧ SqT K H b zs ∧ xs.length + zs.length ≤ sizeLine ∧ Q .non (upd H l (.lst (xs ++ zs)))
theorem ZhU:MtR X "list.extend" (Zhg X.K):=by
 intro pins s σ H x vs v us Q I rx rv h
 obtain ⟨l,b,xs,zs,rfl,rfl,hH,hB,hz,q⟩:=h
 cases rx
 obtain ⟨u,rfl,ru⟩:=rv.one
 cases ru
 obtain ⟨z,its,n,r,hl,e⟩:=I.lstM hH
 obtain ⟨its2,r2,⟨⟨c,dc,dt,sl⟩,e2,⟨hc,hd⟩,n2,hs⟩,z2⟩:=I.tupleN hB
 replace hc:c = .type "tuple":=hc
 replace hd:dc = none:=hd
 replace hs:dt = .seq its2.toArray n2:=hs
 subst hc hd hs
 have hl2:=r2.length
 have hsz:its.toArray.size + its2.toArray.size ≤ sizeLine:=by rw [List.size_toArray,List.size_toArray]; exact lE 3 0x413c0402c0132311031 T1 hl2 hl hz
 have hlong:¬ (!its.toArray.isEmpty && Builtin.List.listTooLong (its.toArray.size + its2.toArray.size)) = true:=by
  rw [ZfW hsz,Bool.and_false]
  exact Bool.false_ne_true
 refine call_meets F.slot_list_extend ⟨_,e,rfl⟩ F.entry_list_extend (F.args_list_extend_2 _ _)
  (Zeb l its.toArray n b its2.toArray n2 sl hlong (by rw [List.size_toArray]; exact lC 2 2268279672881 T1 hl z) (lC 1 0xa2c10c0210c01 T1 hsz)) ⟨e,e2,?_⟩
 refine ⟨.non,_,I.lset (its':=its ++ its2) hH e (by simp) (r.append r2) ?_,rfl,q⟩
 rw [List.length_append]
 exact hz
theorem ZkI:MtR X "list.extend" (rM X.K Zbs):=MtR.imp (r:=fun x xs H Q=>Zii x xs H Q ∨ Zhg X.K x xs H Q) (fun pins s σ H x xs v us Q I rx rs q=>q.elim (ZiY pins s σ H x xs v us Q I rx rs) (ZhU pins s σ H x xs v us Q I rx rs)) fun x xs H Q zz1=>by
 obtain ⟨ι,M,a,ds,S,ra,rd,h⟩:=zz1
 cases a with
 | ref n=>
  cases ds with
  | nil=>exact h.elim
  | cons d ds=>
   cases ds with
   | cons _ _=>cases d <;> exact h.elim
   | nil=>
    obtain ⟨v,ws,rfl,r1,r2⟩:=rd.cons_inv
    have:=r2.nil_inv
    subst this
    obtain ⟨p,hp,rfl⟩:=ra.ref_inv
    cases hn:M[n]? with
    | none=>cases d <;> simp only [Zbs,hn] at h <;> exact h.elim
    | some o=>
     cases o with
     | dct _=>cases d <;> simp only [Zbs,hn] at h <;> exact h.elim
     | fdct _=>cases d <;> simp only [Zbs,hn] at h <;> exact h.elim
     | ins _ _=>cases d <;> simp only [Zbs,hn] at h <;> exact h.elim
     | lst z=>
      obtain ⟨vs,e,rv⟩:=S.obj n _ p hn hp
      cases d with
      | tup y=>
       simp only [Zbs,hn] at h
       split at h
       ·rename_i hz
        obtain ⟨b,ys,rfl,sb,ry⟩:=r1.tup_inv
        obtain ⟨x2,S2⟩:=S.setl (.inr (.inl ⟨_,e⟩)) hp (rv.append ry)
        exact .inr ⟨p,b,vs,ys,rfl,rfl,e,sb,by rw [rv.length,ry.length]; exact Nat.le_trans hz (Nat.le_of_lt_succ (Nat.lt_succ_of_le Zbb)),h _ _ _ x2 S2 Rep.non⟩
       ·exact h.elim
      | ref m=>
       simp only [Zbs,hn] at h
       cases hm:M[m]? with
       | none=>simp only [hm] at h; exact h.elim
       | some o2=>
        cases o2 with
        | dct _=>simp only [hm] at h; exact h.elim
        | fdct _=>simp only [hm] at h; exact h.elim
        | ins _ _=>simp only [hm] at h; exact h.elim
        | lst y=>
         simp only [hm] at h
         split at h
         ·rename_i hz
          obtain ⟨b,hb,rfl⟩:=r1.ref_inv
          obtain ⟨ys,eb,ry⟩:=S.obj m _ b hm hb
          obtain ⟨x2,S2⟩:=S.setl (.inr (.inl ⟨_,e⟩)) hp (rv.append ry)
          exact .inl ⟨p,b,vs,ys,rfl,rfl,e,eb,by rw [rv.length,ry.length]; exact Nat.le_trans hz.2 (Nat.le_of_lt_succ (Nat.lt_succ_of_le Zbb)),h _ _ _ x2 S2 Rep.non⟩
         ·exact h.elim
      | _=>simp only [Zbs] at h; exact h.elim
 | _=>cases ds <;> exact h.elim
theorem ZgE (ho:C3 X o f) (ha:CA X (e :: es) gl)
  (hbase:attributeBase o "extend" X.env (eval o X.env) = eval o X.env:=by rfl)
  (hfew:((backTo cpos (starEach (e :: es) X.env)).all (fun x=>!x.1) && (backToKw cpos (keywordEach [] X.env)).all (fun x=>x.1.isSome)
   && decide ((e :: es).length + ([]:List Keyword).length + (if ([]:List Keyword).isEmpty then 0 else 1) < 30)) = true:=by rfl)
  (hline:(apos.endLine == cpos.line) = true:=by rfl) (hs:starEach (e :: es) X.env = (false,eval e X.env) :: starEach es X.env:=by rfl) (hplain:(backTo cpos (starEach es X.env)).any (·.1) = false:=by rfl):
  C3 X (.Call (.Attribute o "extend" apos) (e :: es) [] cpos) (Zez tyL Zbs f gl):=
 (Zl7 PySem.F.plainAttrs_list PySem.F.slot_list_extend PySem.F.type_list_extend ZkI ho ha hbase hfew hline hs hplain).imp (Zkr Zku)
end
end L3
namespace L3
open PySem PySem.Spec PyProof.Rows L2
set_option maxRecDepth 100000
noncomputable def Itz (S T:Hp → List V → Prop):It:=⟨fun i H=>∃ xs ys x y,S H xs ∧ T H ys ∧ xs[i]? = some x ∧ ys[i]? = some y,fun i H x H'=>∃ A a b,x = .ref A ∧ H A = none ∧ H' = upd H A (.tup [a,b]) ∧ (∀ xs,S H xs → xs[i]? = some a) ∧ ∀ ys,T H ys → ys[i]? = some b,
 fun i H=>∃ xs ys,S H xs ∧ T H ys ∧ (xs.length ≤ i ∨ ys.length ≤ i)⟩
noncomputable def ZoC (z TI TO i1 i2 l1 l2:Addr) (i:Nat) (h:Heap):Prop:=IsZip h z TI TO .none ∧ IsPair h TI (.ref i1) (.ref i2) ∧ (∃ a b,IsPair h TO a b) ∧ h.IsListIter i1 l1 i ∧ h.IsListIter i2 l2 i
theorem ZkJ {X:Cx} {pins:List (Addr × Obj)} {σ:St} {H:Hp} {s:Shared} {h' h'':Heap} {fp:List Addr} {x y:V} {u v:Value} {tk':Nat} (I:Inv X pins σ H s) (hf:∀ b ∈ fp,Zet X pins H b) (hlt:∀ b ∈ fp,b < s.heap.objs.size) (ru:RelV x u) (rv:RelV y v)
  (hT:h'.get? s.heap.objs.size = some { cls:=.type "tuple",data:=.seq #[u,v] }) (hk:∀ b o,b ∉ fp → s.heap.get? b = some o → h'.get? b = some o) (hs:∀ b o,b ∉ fp → h'.get? b = some o → h''.get? b = some o):
  Inv X pins σ (upd H s.heap.objs.size (.tup [x,y])) { s with heap:=h'',toks:=tk' } ∧ ∀ b ∈ fp,upd H s.heap.objs.size (.tup [x,y]) b = none:=by
 have hn:∀ b ∈ fp,upd H s.heap.objs.size (.tup [x,y]) b = none:=fun b hb=>by
  rw [Zau (Nat.ne_of_lt (hlt b hb))]; exact (hf b hb).1
 refine ⟨?_,hn⟩
 have I1:Inv X pins σ (upd H s.heap.objs.size (.tup [x,y])) { s with heap:=s.heap.push { cls:=.type "tuple",data:=.seq ([u,v]:List Value).toArray },toks:=s.toks }:=
  I.laid (t':=s.toks) (fun b o e=>Heap.get?_push_of_some _ e) (Nat.le_refl _) (show Zbf X.prog X.w _ _ _ (.tup [x,y]) from ⟨by rw [sizeLine_eq]; show 2 ≤ _; decide,[u,v],.cons ru (.cons rv .nil),ZcR.new _ _⟩)
 have nT:s.heap.objs.size ∉ fp:=fun z=>Nat.lt_irrefl _ (hlt _ z)
 have I3:=I1.turnedL (t':=tk') (h':=h'') (fp:=fp) (fun b o hb q=>by
  rcases Heap.get?_push_cases q with ⟨rfl,rfl⟩ | q
  ·exact hs _ _ nT hT
  ·exact hs _ _ hb (hk b o hb q)) fun b hb=>⟨hn b hb,(hf b hb).2⟩
 exact I3
theorem Zjf {P:Program} {w:World} {K:PySem.W.Frag} {es:List Expr} {k:Nat} {pos:Pos} (l1 l2 z TI TO i1 i2:Addr) (Z:ZipApart z TI TO i1 i2 l1 l2):
  Turn P w K (.Tuple es k pos) (Itz (fun H xs=>SqL K H l1 xs) (fun H ys=>SqL K H l2 ys)) [z,TI,TO,i1,i2] z (ZoC z TI TO i1 i2 l1 l2) where
 mem:=by simp
 obj:=fun i h st b hb=>by
  obtain ⟨hz,h1,⟨a,c,h2⟩,⟨o1,g1,_,d1⟩,⟨o2,g2,_,d2⟩⟩:=st
  simp only [List.mem_cons,List.not_mem_nil,or_false] at hb
  rcases hb with rfl | rfl | rfl | rfl | rfl
  ·exact ⟨_,hz,fun v z=>by cases z⟩
  ·exact ⟨_,h1,fun v z=>by cases z⟩
  ·exact ⟨_,h2,fun v z=>by cases z⟩
  ·exact ⟨o1,g1,fun v z=>by rw [d1] at z; cases z⟩
  ·exact ⟨o2,g2,fun v z=>by rw [d2] at z; cases z⟩
 keep:=fun i h h' st k=>by
  obtain ⟨hz,h1,⟨a,c,h2⟩,g1,g2⟩:=st
  exact ⟨k z (by simp) _ hz,k TI (by simp) _ h1,⟨a,c,k TO (by simp) _ h2⟩,g1.at fun o q=>k i1 (by simp) o q,g2.at fun o q=>k i2 (by simp) o q⟩
 item:=by
  intro X hP hw hK hc i pins s σ H E I hf st hg
  subst hP hw hK
  obtain ⟨xs,ys,x,y,hx,hy,gx,gy⟩:=hg
  obtain ⟨its,rv,p,hzz⟩:=I.list hx
  obtain ⟨its2,rv2,p2,hzz2⟩:=I.list hy
  obtain ⟨u,hu,ru⟩:=rv.get gx
  obtain ⟨v,hv,rv'⟩:=rv2.get gy
  have st0:=st
  obtain ⟨hz,h1,⟨a,c,h2⟩,g1,g2⟩:=st
  have hlt:∀ b ∈ [z,TI,TO,i1,i2],b < s.heap.objs.size:=fun b hb=>by
   obtain ⟨o1,q1,_⟩:=id g1
   obtain ⟨o2,q2,_⟩:=id g2
   simp only [List.mem_cons,List.not_mem_nil,or_false] at hb
   rcases hb with rfl | rfl | rfl | rfl | rfl
   ·exact Heap.lt_size hz
   ·exact Heap.lt_size h1
   ·exact Heap.lt_size h2
   ·exact Heap.lt_size q1
   ·exact Heap.lt_size q2
  refine wpAny_pyNext_zip_item Z hz h1 h2 g1 g2 p.isList p2.isList (x:=u) (y:=v) (by simpa using hu) (by simpa using hv) fun h' hz' hTO hi1 hi2 hT hsz hk=>?_
  refine ⟨_,rfl,wpAny_letOwnedTupleGo_zip (s:={ s with heap:=h' }) hz' fun h'' hz'' hs''=>?_⟩
  have hTI':IsPair h' TI (.ref i1) (.ref i2):=hk TI _ Z.TIz Z.TITO Z.TIi1 Z.TIi2 h1
  obtain ⟨I2,n2⟩:=ZkJ (x:=x) (y:=y) (tk':=s.toks) (fp:=[z,TI,TO,i1,i2]) (h':=h') (h'':=h'') I hf hlt ru rv' hT
   (fun b o hb q=>hk b o (fun e=>hb (by simp [e])) (fun e=>hb (by simp [e])) (fun e=>hb (by simp [e])) (fun e=>hb (by simp [e])) q)
   (fun b o hb q=>(hs''.2 b fun e=>hb (by simp [e])).trans q)
  refine ⟨.ref s.heap.objs.size,_,I2,rfl,⟨_,x,y,rfl,I.hok.fresh (Nat.le_refl _),rfl,fun zs hq=>by rw [I.list_inj hq hx]; exact gx,fun zs hq=>by rw [I.list_inj hq hy]; exact gy⟩,?_,n2⟩
  exact ⟨hz'',(hs''.2 _ Z.TIz).trans hTI',⟨_,_,(hs''.2 _ Z.TOz).trans hTO⟩,hi1.extBut hs''.extBut Z.i1z,hi2.extBut hs''.extBut Z.i2z⟩
 done:=by
  intro X hP hw hK hc i pins s σ H E I hf st hg
  subst hP hw hK
  obtain ⟨xs,ys,hx,hy,ho⟩:=hg
  obtain ⟨its,rv,p,hzz⟩:=I.list hx
  obtain ⟨its2,rv2,p2,hzz2⟩:=I.list hy
  have hl1:=rv.length
  have hl2:=rv2.length
  obtain ⟨hz,h1,⟨a,c,h2⟩,g1,g2⟩:=st
  refine wpAny_pyNext_zip_end (I.ok.hd hc) Z hz h1 h2 g1 g2 p.isList p2.isList ?_ fun h' hk=>⟨rfl,I.turnedL (t':=s.toks) (fun b o hb q=>hk b o (fun e=>hb (by simp [e])) (fun e=>hb (by simp [e])) (fun e=>hb (by simp [e])) (fun e=>hb (by simp [e])) q) hf⟩
  rcases ho with ho | ho
  ·left; simp; exact lC 2 1237490667521 T1 ho hl1
  ·right; simp; exact lC 2 1237490667521 T1 ho hl2
 self:=fun _ _ _ _ _ st h=>wpAny_pyIter_zip st.1 h
section
variable {X:Cx} {es:List Expr} {k:Nat} {a b:Expr} {p pos tpos:Pos} {f g:E3}
noncomputable def Zok (K:PySem.W.Frag) (ta:TA):TI:=fun σ H R=>ta σ H fun vs H1=>∃ l1 l2,vs = [.ref l1,.ref l2] ∧ (∃ xs,SqL K H1 l1 xs) ∧ (∃ ys,SqL K H1 l2 ys) ∧ R (Itz (fun H xs=>SqL K H l1 xs) (fun H ys=>SqL K H l2 ys)) H1
theorem Zi0:bootBuiltins "zip" = some (.type "zip"):=by decide +kernel
theorem Zno {ta:TA} (hg:Gl X "zip") (hm:X.mg "zip" = none) (ha:PA X [a,b] ta) (hs:starEach [a,b] X.env = [(false,eval a X.env),(false,eval b X.env)]:=by rfl) (hs2:starEach [b] X.env = [(false,eval b X.env)]:=by rfl):PI X (.Tuple es k tpos) (.Call (.Name "zip" p) [a,b] [] pos) (Zok X.K ta):=by
 intro pins s σ H R I h
 refine Call_ (ZfX I hg hm Zi0 (PyProof.Rows.callWith_type1 (thn (ha pos pins s σ H _ I h) fun us s1 ⟨vs,H1,I1,r1,q1⟩=>?_) (by rw [hs,hs2]) (by rw [hs2]; rfl)))
 obtain ⟨l1,l2,e,⟨xs,hx⟩,⟨ys,hy⟩,q⟩:=q1
 subst e
 cases r1 with
 | cons r rr=>
  cases rr with
  | cons r' rr=>
   cases rr
   cases r
   cases r'
   obtain ⟨its,rv,p1,hz⟩:=I1.list hx
   obtain ⟨its2,rv2,p2,hz2⟩:=I1.list hy
   have lt1:l1 < s1.heap.objs.size:=by obtain ⟨o,ho,_⟩:=p1.isList; exact Heap.lt_size ho
   have lt2:l2 < s1.heap.objs.size:=by obtain ⟨o,ho,_⟩:=p2.isList; exact Heap.lt_size ho
   refine call_zip_2 p1.isList p2.isList fun h' hZ hTI hTO hi1 hi2 hsz hk=>?_
   have I2:Inv X pins σ H1 { s1 with heap:=h' }:=I1.kept (t':=s1.toks) hk
   have fp:∀ c ∈ [s1.heap.objs.size + 4,s1.heap.objs.size + 2,s1.heap.objs.size + 3,s1.heap.objs.size,s1.heap.objs.size + 1],Zet X pins H1 c:=fun c hc=>by
    have hc':s1.heap.objs.size ≤ c:=by
     simp only [List.mem_cons,List.not_mem_nil,or_false] at hc
     rcases hc with rfl | rfl | rfl | rfl | rfl <;> omega
    exact I1.fpOk hc' (I1.hok.fresh hc')
   exact wpAny_pyIter_zip (s:={ s1 with heap:=h' }) hZ ⟨_,_,_,_,H1,rfl,I2,Zjf l1 l2 _ _ _ _ _ (zipApart_new lt1 lt2),⟨hZ,hTI,⟨_,_,hTO⟩,hi1,hi2⟩,fp,q⟩
theorem Zkp (hm:X.mg "zip" = none) (h1:C3 X a f) (h2:C3 X b g) (hg:Gl X "zip":=by rfl) (hs:starEach [a,b] X.env = [(false,eval a X.env),(false,eval b X.env)]:=by rfl) (hs2:starEach [b] X.env = [(false,eval b X.env)]:=by rfl)
  (hs':starEach (a :: [b]) X.env = (false,eval a X.env) :: starEach [b] X.env:=by rfl) (hs'':starEach (b :: []) X.env = (false,eval b X.env) :: starEach [] X.env:=by rfl):CIL X (.Tuple es k tpos) (.Call (.Name "zip" p) [a,b] [] pos) (Zjd f g):=
 PI.imp (Zno hg hm (Zc h1 (Zc h2 Zf hs'') hs') hs hs2) fun σ H R zz1=>by
  obtain ⟨ι,M,env,S,E,h⟩:=zz1
  obtain ⟨d,M1,e1,h⟩:=Zgg.bind h
  obtain ⟨d2,M2,e2,h⟩:=Zgg.bind h
  refine ⟨ι,M,env,S,E,?_⟩
  have e3:Za f (Za g Ze) env M = .ok [d,d2] M2:=by simp only [Za,Ze,R3.bind,e1,e2]
  rw [e3]
  intro vs H1 ι1 x1 S1 r1
  obtain ⟨v,ws,rfl,r,q⟩:=r1.cons_inv
  obtain ⟨v2,ws2,rfl,r2,q2⟩:=q.cons_inv
  have:=q2.nil_inv
  subst this
  cases d with
  | ref n=>
   cases d2 with
   | ref m=>
    cases hn:M2[n]? with
    | none=>simp only [hn] at h; exact h.elim
    | some o=>
     cases o with
     | dct _=>simp only [hn] at h; exact h.elim
     | fdct _=>simp only [hn] at h; exact h.elim
     | ins _ _=>simp only [hn] at h; exact h.elim
     | lst ds=>
      cases hm:M2[m]? with
      | none=>simp only [hn,hm] at h; exact h.elim
      | some o2=>
       cases o2 with
       | dct _=>simp only [hn,hm] at h; exact h.elim
       | fdct _=>simp only [hn,hm] at h; exact h.elim
       | ins _ _=>simp only [hn,hm] at h; exact h.elim
       | lst ds2=>
        simp only [hn,hm] at h
        obtain ⟨b1,hb1,rfl⟩:=r.ref_inv
        obtain ⟨b2,hb2,rfl⟩:=r2.ref_inv
        obtain ⟨vs1,o1,rr1⟩:=S1.obj n _ b1 hn hb1
        obtain ⟨vs2,o2,rr2⟩:=S1.obj m _ b2 hm hb2
        refine ⟨b1,b2,rfl,⟨vs1,SqL.of o1⟩,⟨vs2,SqL.of o2⟩,h _ H1 ι1 x1 S1 ?_⟩
        intro i H2 ι2 M3 x S2 lk
        have lk':M3[n]? = some (.lst ds) ∧ M3[m]? = some (.lst ds2):=by simpa [ZcJ] using lk
        obtain ⟨ws1,p1,q1⟩:=S2.obj n _ b1 lk'.1 (x.pre _ _ hb1)
        obtain ⟨ws2,p2,q2⟩:=S2.obj m _ b2 lk'.2 (x.pre _ _ hb2)
        refine ⟨fun d hd=>?_,fun hl=>⟨ws1,ws2,SqL.of p1,SqL.of p2,by rw [q1.length,q2.length,hl,ZfR]; omega⟩⟩
        rw [Zeo] at hd
        cases hq:ds[i]? with
        | none=>rw [hq] at hd; cases hd
        | some a0=>
         cases hq2:ds2[i]? with
         | none=>rw [hq,hq2] at hd; cases hd
         | some b0=>
          rw [hq,hq2] at hd
          cases hd
          obtain ⟨v1,hv1,rv1⟩:=q1.get hq
          obtain ⟨v2,hv2,rv2⟩:=q2.get hq2
          refine ⟨⟨ws1,ws2,v1,v2,SqL.of p1,SqL.of p2,hv1,hv2⟩,fun y H3 hy=>?_⟩
          obtain ⟨T,y1,y2,rfl,hT,rfl,ha1,ha2⟩:=hy
          have e:=ha1 ws1 (SqL.of p1)
          rw [hv1] at e
          cases e
          have e:=ha2 ws2 (SqL.of p2)
          rw [hv2] at e
          cases e
          exact S2.tupl hT (Zq.cons rv1 (Zq.cons rv2 Zq.nil))
   | _=>exact h.elim
  | _=>cases d2 <;> exact h.elim
end
end L3
namespace L3
open PySem PySem.Spec PyProof.Rows L2
set_option maxRecDepth 100000
section
variable {X:Cx} {elt tg iter:Expr} {ifs:List Expr} {scope:Scope} {pos:Pos} {i:IL3} {own:Nat} {g:G3} {ts:List E3} {f:E3} {N':List Str}
theorem ZhJ {pins:List (Addr × Obj)} {σ:St} {s2:Shared} {H2:Hp} {ι2:List Addr} {M2:Store} {env:Zad} {it:Addr} {fp:List Addr} {tn:Nat → Heap → Prop} {J:It} {itd:ItL} {Q:VK} {E:Value → Shared → Prop} (O:Zh2 X scope N' own) (hc:X.calm = true)
  (hb:∀ C cl s H ex,CG (Zb9 X scope N' C cl s H ex) tg g ∧ CTs (Zb9 X scope N' C cl s H ex) ifs ts ∧ C3 (Zb9 X scope N' C cl s H ex) elt f)
  (I2:Inv X pins σ H2 s2) (T:Turn X.prog X.w X.K tg J fp it tn) (st0:tn 0 s2.heap) (hfp:∀ b ∈ fp,Zet X pins H2 b) (S2:Zaa X.K H2 ι2 M2) (E2:ZaT X.K H2 ι2 env σ) (ok:Zkb X.K H2 ι2 itd J)
  (h:Zae X.K H2 ι2 Q (ZcX itd.lk g ts f M2.length itd.items (env ++ List.replicate own none) (M2 ++ [.lst []])))
  (RR:Value → Addr → Result → Shared → Prop)
  (fin:∀ (acc C:Addr) (s':Shared) (m:Str → Option Value) (H':Hp),s'.heap.Ns C m → Zet X pins H' C → Inv X pins σ H' s' → Q (.ref acc) H' → RR (.ref acc) C (.ok .next) s'):
  wpAny (model X.prog X.w) X.A (newList []) (fun acc s₃=>wpAny (model X.prog X.w) X.A (newFunctionEnv scope X.env.globals (Zbk X.env.cells scope.names []) [] X.env.qual none .none (some X.env)) (fun cenv s₄=>
   codeAny (model X.prog X.w) X.A (.compStart (.ListComp elt [⟨tg,iter,ifs,0⟩] scope pos) 0 (.ref it) acc { cenv with scope:=relabel scope X.env }) (RR acc cenv.locals) s₄) E s₃) E s2:=by
 refine wpAny_newObj_type ?_
 have hD:H2 s2.heap.objs.size = none:=I2.hok.fresh (Nat.le_refl _)
 obtain ⟨x3,S3,r3⟩:=S2.lst hD (Zq.nil (K:=X.K) (H:=H2) (ι:=ι2))
 have I3:Inv X pins σ (upd H2 s2.heap.objs.size (.lst [])) { s2 with heap:=s2.heap.push { cls:=.type "list",data:=.seq ([]:List Value).toArray } }:=
  I2.laid (t':=s2.toks) (fun b u e=>Heap.get?_push_of_some _ e) (Nat.le_refl _) ⟨Nat.zero_le _,[],0,.nil,Heap.get?_push_size _ rfl⟩
 generalize hs3:({ s2 with heap:=s2.heap.push { cls:=.type "list",data:=.seq ([]:List Value).toArray } }:Shared) = s3 at I3 ⊢
 have keep23:∀ b o,s2.heap.get? b = some o → s3.heap.get? b = some o:=fun b o e=>by rw [← hs3]; exact Heap.get?_push_of_some _ e
 have hfp3:∀ b ∈ fp,Zet X pins (upd H2 s2.heap.objs.size (.lst [])) b:=fun b hb=>by
  refine ⟨?_,(hfp b hb).2⟩
  obtain ⟨o,e,_⟩:=T.obj _ _ st0 b hb
  rw [Zau (Nat.ne_of_lt (Heap.lt_size e))]
  exact (hfp b hb).1
 have hlt3:∀ b ∈ fp,b < s3.heap.objs.size:=fun b hb=>by
  obtain ⟨o,e,_⟩:=T.obj _ _ st0 b hb
  exact Heap.lt_size (keep23 b o e)
 have st3:tn 0 s3.heap:=T.keep _ _ _ st0 fun b hb o e=>keep23 b o e
 refine wpAny_newFunctionEnv O.cell (by intro y hy; cases hy) (fun h4 hns hsb=>?_) O.kind
 have keep34:∀ b o,s3.heap.get? b = some o → h4.get? b = some o:=fun b o e=>hsb.extBut b o (Nat.ne_of_lt (Heap.lt_size e)) (Heap.get?_push_of_some _ e)
 have I4:=Zkc (own:=own) (N':=N') (tk:=s3.toks + ([]:List (Str × Value)).length) I3 O.kind O.cell O.free O.len O.vis hfp3 hlt3 hns keep34
 have st4:tn 0 h4:=T.keep _ _ _ st3 fun b hb o e=>keep34 b o e
 have hfp4:∀ {H':Hp},(∀ b ∈ fp,H' b = none) → ∀ b ∈ fp,Zet (Zb9 X scope N' s3.heap.objs.size (Zbk X.env.cells scope.names []) s3 (upd H2 s2.heap.objs.size (.lst [])) fp) [] H' b:=fun hn b hb=>by
  have hc0:∀ y ∈ scope.names,y.2 = .free → ∃ c,X.env.cells.lookup y.1 = some c:=fun y hy e=>I2.ok.has y.1 (O.free y hy e)
  refine ⟨hn b hb,Nat.ne_of_lt (hlt3 b hb),fun hz=>I4.ok.exfs b hb hz,.inl hb,fun x c hx=>(I4.ok.exf b hb).2 x c hx,fun p hp=>absurd (show p ∈ ([]:List (Addr × Obj)) from hp) (by simp)⟩
 obtain ⟨hg,hts,helt⟩:=hb s3.heap.objs.size (Zbk X.env.cells scope.names []) s3 (upd H2 s2.heap.objs.size (.lst [])) fp
 have loop:∀ s₄:Shared,s₄ = { s3 with heap:=h4,toks:=s3.toks + ([]:List (Str × Value)).length } →
   codeAny (model X.prog X.w) X.A (.compLoop (.ListComp elt [⟨tg,iter,ifs,0⟩] scope pos) 0 (.ref it) (.ref s2.heap.objs.size) (compEnvC scope (Zbk X.env.cells scope.names []) s3.heap.objs.size X.env)) (RR (.ref s2.heap.objs.size) s3.heap.objs.size) s₄:=by
  rintro s₄ rfl
  refine ZgF (fun n s'=>∃ k σ5 H5 ι5 M5 env5,Inv (Zb9 X scope N' s3.heap.objs.size (Zbk X.env.cells scope.names []) s3 (upd H2 s2.heap.objs.size (.lst [])) fp) [] σ5 H5 s' ∧ tn k s'.heap ∧ (∀ b ∈ fp,H5 b = none) ∧ n = itd.items.length - k ∧ k ≤ itd.items.length ∧
   Ext X.K H2 ι2 H5 ι5 ∧ Zaa X.K H5 ι5 M5 ∧ ZaT X.K H5 ι5 env5 σ5 ∧ ι5[M2.length]? = some s2.heap.objs.size ∧ Zae X.K H5 ι5 Q (ZcX itd.lk g ts f M2.length (itd.items.drop k) env5 M5)) ?_ itd.items.length
   ⟨0,_,_,_,_,_,I4,st4,fun b hb=>(hfp3 b hb).1,rfl,Nat.zero_le _,x3,S3,(E2.mono x3).grow own,?_,h.up x3⟩
  ·rintro n s5 ⟨k,σ5,H5,ι5,M5,env5,I5,st5,fr5,rfl,hk,x5,S5,E5,hι,h5⟩
   by_cases hlt:k < itd.items.length
   ·have hd:itd.items[k]? = some itd.items[k]:=by simp [hlt]
    rw [List.drop_eq_getElem_cons hlt] at h5
    unfold ZcX at h5
    by_cases lk:ZcJ itd.lk M5 = true
    ·rw [if_pos lk] at h5
     obtain ⟨go,yl⟩:=(ok k H5 ι5 M5 x5 S5 lk).1 _ hd
     cases eg:g itd.items[k] env5 with
     | none=>rw [eg] at h5; exact h5.elim
     | some env6=>
      rw [eg] at h5
      refine thn (T.item (Zb9 X scope N' s3.heap.objs.size (Zbk X.env.cells scope.names []) s3 (upd H2 s2.heap.objs.size (.lst [])) fp) rfl rfl rfl hc k [] s5 σ5 H5 (fun _ _=>False) I5 (hfp4 fr5) st5 go) fun r s6 zz1=>?_
      obtain ⟨u,hr,h6⟩:=zz1
      subst hr
      refine thn h6 fun _ s7 zz1=>?_
      obtain ⟨x,H7,I7,r7,y7,st7,fr7⟩:=zz1
      obtain ⟨y8,S7,rx⟩:=yl x H7 y7
      have I7':=I7.pinned (hfp4 fr7) (T.obj _ _ st7)
      refine thn (hg _ s7 σ5 H7 x u (fun σ' H'=>H' = H7 ∧ ZaT X.K H7 ι5 env6 σ') I7' r7 ⟨ι5,M5,env5,_,env6,S7,E5.mono y8,rx,eg,fun σ' E'=>⟨rfl,E'⟩⟩) fun _ s8 zz1=>?_
      obtain ⟨σ8,H8,I8,e8,E8⟩:=zz1
      subst e8
      replace h5:=Zae.up y8 h5
      replace x5:=x5.trans y8
      replace S5:=S7
      have back:∀ {σ':St} {H':Hp} {s':Shared},Inv (Zb9 X scope N' s3.heap.objs.size (Zbk X.env.cells scope.names []) s3 (upd H2 s2.heap.objs.size (.lst [])) fp) ([] ++ ZfN fp s7.heap) σ' H' s' →
        Inv (Zb9 X scope N' s3.heap.objs.size (Zbk X.env.cells scope.names []) s3 (upd H2 s2.heap.objs.size (.lst [])) fp) [] σ' H' s' ∧ tn (k + 1) s'.heap ∧ ∀ b ∈ fp,H' b = none:=fun {σ' H' s'} I'=>by
       refine ⟨I'.unpinned,T.keep _ _ _ st7 fun b hb o e=>(I'.pin (b,o) (List.mem_append_right _ (List.mem_append_right _ (Zdh hb e)))).1,fun b hb=>?_⟩
       obtain ⟨o,e,d⟩:=T.obj _ _ st7 b hb
       exact (I'.pin (b,o) (List.mem_append_right _ (List.mem_append_right _ (Zdh hb e)))).2.1
      obtain ⟨b,M9,e9,h9⟩:=Zae.bind h5
      refine thn (hts _ s8 σ8 H8 (fun b' H'=>b' = b ∧ ∃ ι9,Ext X.K H8 ι5 H' ι9 ∧ Zaa X.K H' ι9 M9) I8 ⟨ι5,M5,env6,S5,E8,by rw [e9]; exact fun H' ι' x' S'=>⟨rfl,ι',x',S'⟩⟩) fun b' s9 zz1=>?_
      obtain ⟨H9,I9,eb,ι9,x9,S9⟩:=zz1
      subst eb
      cases b' with
      | false=>
       rw [if_neg (by decide)] at h9 ⊢
       obtain ⟨I9',st9,fr9⟩:=back I9
       exact ⟨itd.items.length - (k + 1),lD 2 0x30113c2012a1c0c21 T1 (Nat.sub_add_cancel (lB 1 6991908881 T1 hlt)) (sbA _ _),k + 1,σ8,H9,ι9,M9,env6,I9',st9,fr9,rfl,hlt,x5.trans x9,S9,E8.mono x9,x9.pre _ _ hι,h9.up x9⟩
      | true=>
       rw [if_pos rfl] at h9 ⊢
       obtain ⟨d,M10,e10,h10⟩:=Zae.bind h9
       refine thn (helt _ s9 σ8 H9 (fun v H'=>∃ ι10,Ext X.K H9 ι9 H' ι10 ∧ Zaa X.K H' ι10 M10 ∧ Rep X.K H' ι10 d v) I9 ⟨ι9,M9,env6,S9,E8.mono x9,by rw [e10]; exact fun v H' ι' x' S' r'=>⟨ι',x',S',r'⟩⟩) fun xv s10 zz1=>?_
       obtain ⟨v,H10,I10,r10,ι10,x10,S10,rd⟩:=zz1
       have hι10:ι10[M2.length]? = some s2.heap.objs.size:=x10.pre _ _ (x9.pre _ _ hι)
       cases hm:M10[M2.length]? with
       | none=>rw [hm] at h10; exact h10.elim
       | some o=>
        cases o with
        | dct _=>rw [hm] at h10; exact h10.elim
        | fdct _=>rw [hm] at h10; exact h10.elim
        | ins _ _=>rw [hm] at h10; exact h10.elim
        | lst xs=>
         rw [hm] at h10
         by_cases hz:xs.length < SZ
         ·simp only [if_pos hz] at h10
          obtain ⟨vs,ev,rvs⟩:=S10.obj _ _ _ hm hι10
          obtain ⟨x11,S11⟩:=S10.setl (.inr (.inl ⟨_,ev⟩)) hι10 (rvs.append (Zq.cons rd Zq.nil))
          refine thn (Zgh _ s10 σ8 H10 (.ref s2.heap.objs.size) [v] (.ref s2.heap.objs.size) [xv] (fun _ H'=>H' = upd H10 s2.heap.objs.size (.lst (vs ++ [v]))) I10 rfl (.cons r10 .nil) ⟨_,vs,v,rfl,rfl,ev,by rw [rvs.length]; exact Nat.lt_of_lt_of_le hz Zbb,rfl⟩) fun _ s11 zz1=>?_
          obtain ⟨_,H11,I11,_,eH⟩:=zz1
          subst eH
          obtain ⟨I11',st11,fr11⟩:=back I11
          exact ⟨itd.items.length - (k + 1),lD 2 0x30113c2012a1c0c21 T1 (Nat.sub_add_cancel (lB 1 6991908881 T1 hlt)) (sbA _ _),k + 1,σ8,_,ι10,_,env6,I11',st11,fr11,rfl,hlt,((x5.trans x9).trans x10).trans x11,S11,((E8.mono x9).mono x10).mono x11,hι10,((h10.up x9).up x10).up x11⟩
         ·simp only [if_neg hz] at h10; exact h10.elim
    ·rw [if_neg lk] at h5; exact h5.elim
   ·have e0:k = itd.items.length:=Nat.le_antisymm hk (Nat.le_of_not_lt hlt)
    subst e0
    rw [List.drop_length] at h5
    unfold ZcX at h5
    by_cases lk:ZcJ itd.lk M5 = true
    ·rw [if_pos lk] at h5
     refine thn (T.done (Zb9 X scope N' s3.heap.objs.size (Zbk X.env.cells scope.names []) s3 (upd H2 s2.heap.objs.size (.lst [])) fp) rfl rfl rfl hc _ [] s5 σ5 H5 (fun _ _=>False) I5 (hfp4 fr5) st5 ((ok _ H5 ι5 M5 x5 S5 lk).2 rfl)) fun r s6 zz1=>?_
     obtain ⟨hr,I6⟩:=zz1
     subst hr
     obtain ⟨m6,hn6,_⟩:=I6.loc
     have I7:Inv X pins σ H5 s6:=I3.call' (ch:=fp) I6.os I6.base I6.hok I6.bare fun b hb=>⟨(hfp3 b hb).2.2.2.1,(hfp3 b hb).2.1,(hfp3 b hb).2.2.2.2.1,(hfp3 b hb).2.2.2.2.2⟩
     exact fin _ _ s6 m6 H5 hn6 (I3.fpOk (Nat.le_refl _) I6.free) I7 (h5 _ H5 ι5 Ext.refl S5 (Rep.ref hι))
    ·rw [if_neg lk] at h5; exact h5.elim
  ·rw [← S2.len]; simp
 exact codeAny_compStart_list (loop _ rfl) (T.self _ 0 _ _ _ st4 (loop _ rfl))
theorem Zmc (O:Zh2 X scope N' own) (hxe:X.xe = fun _ _=>False) (hc:X.calm = true) (hi:CIL X tg iter i)
  (hb:∀ C cl s H ex,CG (Zb9 X scope N' C cl s H ex) tg g ∧ CTs (Zb9 X scope N' C cl s H ex) ifs ts ∧ C3 (Zb9 X scope N' C cl s H ex) elt f)
  (hs:∀ x,foldedSetIterable iter X.env x = pure x:=by intro _; rfl):C3 X (.ListComp elt [⟨tg,iter,ifs,0⟩] scope pos) (ZkA i own g ts f):=by
 intro pins s σ H Q I h
 obtain ⟨ι,M,env,S,E,h⟩:=h
 obtain ⟨itd,M1,e1,h⟩:=Zae.bind h
 have hc0:∀ y ∈ scope.names,y.2 = .free → ∃ c,X.env.cells.lookup y.1 = some c:=fun y hy e=>I.ok.has y.1 (O.free y hy e)
 rw [eval_ListComp]
 refine wpAny_comprehension_free (use:=none) rfl hs (Zf6 hc0) O.kind O.names ?_
 refine thn (hi pins s σ H (fun J H'=>∃ ι',Ext X.K H ι H' ι' ∧ Zaa X.K H' ι' M1 ∧ Zkb X.K H' ι' itd J) I ⟨ι,M,env,S,E,by rw [e1]; exact fun J H' ι' x S' o=>⟨ι',x,S',o⟩⟩) fun v s1 h1=>thn h1 fun itv s2 h2=>?_
 obtain ⟨it,fp,tn,J,H2,rfl,I2,T,st2,f2,ι2,x2,S2,ok⟩:=h2
 refine ZhJ (own:=own) (g:=g) (ts:=ts) (f:=f) O hc hb I2 T st2 f2 S2 (E.mono x2) ok (h.up x2) (fun acc C=>compPost (model X.prog X.w) X.A X.xe none (EP X pins σ Q) acc C) ?_
 intro acc C s' m H' hn hf I' hq
 obtain ⟨f0,f1,f2',f3,f4,f5⟩:=hf
 exact ⟨m,hn,fun h' sb=>⟨.ref acc,H',I'.turned (t':=s'.toks) (fun b o hb e=>(sb.2 b hb).trans e) f0 f1 f3 f4 f5,rfl,hq⟩⟩
end
end L3
namespace L3
open PySem PySem.W PyProof.Rows
section
variable {M:Model} {A:Around} {E:Value → Shared → Prop} {G:Shared → Prop}
noncomputable def TT (M:Model) (A:Around) (E:Value → Shared → Prop) (G:Shared → Prop) {α:Type} (m:StateT SortSt Sem α) (Q:α → SortSt → Prop) (st:SortSt):Prop:=∀ s,G s → kasC M A E m (fun a st' s'=>Q a st' ∧ G s') st s
end
structure Cmp (prog:Program) (w:World) (A:Around) (E:Value → Shared → Prop) (G:Shared → Prop) (κ:SortKind) (it:Array Keyed) (lt:Nat → Nat → Bool) (N:Nat):Prop where
 ok:ZcG lt
 ask:∀ i j (C:Bool → Shared → Prop) s,i < N → j < N → G s → (∀ s',G s' → C (lt i j) s') → kas_cmp prog w A κ it i j C s
section
variable {prog:Program} {w:World} {A:Around} {E:Value → Shared → Prop} {G:Shared → Prop} {κ:SortKind} {it:Array Keyed} {lt:Nat → Nat → Bool} {N:Nat}
noncomputable abbrev Zh4 (it:Array Keyed) (l:List Nat):Array Keyed:=(l.map (kas_item it)).toArray
noncomputable def Srt (lt:Nat → Nat → Bool) (l:List Nat):Prop:=l.Pairwise fun x y=>lt y x = false
section
variable {left:Bool} {key:Nat} {l:List Nat} {base n:Nat} {st:SortSt} {B:Nat → Bool}
end
end
end L3
namespace L3
open PySem PySem.W PyProof.Rows
section
variable {lt:Nat → Nat → Bool}
structure W (lt:Nat → Nat → Bool) (la lb out:List Nat) (ia ib:Nat):Prop where
 p:out.Perm (la.take ia ++ lb.take ib)
 s:Srt lt out
 a:∀ x ∈ out,∀ y ∈ la.drop ia,lt y x = false
 b:∀ x ∈ out,∀ y ∈ lb.drop ib,lt y x = false
 ha:ia ≤ la.length
 hb:ib ≤ lb.length
noncomputable def RR (lt:Nat → Nat → Bool) (la lb r:List Nat):Prop:=r.Perm (la ++ lb) ∧ Srt lt r
theorem RR.swap {la lb r:List Nat} (h:RR lt la lb r):RR lt lb la r:=⟨h.1.trans List.perm_append_comm,h.2⟩
theorem W.swap {la lb out:List Nat} {ia ib:Nat} (w:W lt la lb out ia ib):W lt lb la out ib ia:=⟨w.p.trans List.perm_append_comm,w.s,w.b,w.a,w.hb,w.ha⟩
theorem W.last {la lb out:List Nat} {ia ib x:Nat} (sb:Srt lt lb) (w:W lt la lb out ia ib) (h:ia + 1 = la.length) (hx:la[ia]? = some x) (hm:∀ y ∈ lb,lt x y = false):RR lt la lb (out ++ lb.drop ib ++ la.drop ia):=by
 obtain ⟨hl,e⟩:=List.getElem?_eq_some_iff.mp hx
 have d:la.drop ia = [x]:=by rw [List.drop_eq_getElem_cons hl,e,h,List.drop_length]
 have p:=w.p
 refine ⟨?_,?_⟩
 ·refine ((p.append_right _).append_right _).trans ?_
  rw [List.append_assoc (la.take ia),List.take_append_drop,List.append_assoc]
  refine (List.Perm.append_left _ List.perm_append_comm).trans ?_
  rw [← List.append_assoc,List.take_append_drop]
 ·refine List.pairwise_append.mpr ⟨List.pairwise_append.mpr ⟨w.s,List.Pairwise.sublist (List.drop_sublist _ _) sb,w.b⟩,by rw [d]; simp,fun u hu y hy=>?_⟩
  rw [d,List.mem_singleton] at hy
  rw [hy]
  rcases List.mem_append.mp hu with hu | hu
  ·exact w.a u hu x (by rw [d]; simp)
  ·exact hm u (List.mem_of_mem_drop hu)
end
section
variable {prog:Program} {w:World} {A:Around} {E:Value → Shared → Prop} {G:Shared → Prop} {κ:SortKind} {it:Array Keyed} {lt:Nat → Nat → Bool} {N:Nat}
noncomputable def ZlR (st st':SortSt):Prop:=∃ g,st' = SortSt.mk' (kindOf st) (arrOf st) (pendingOf st) g (failedOf st)
theorem ZlR.kind {st st':SortSt} (h:ZlR st st'):kindOf st' = kindOf st:=by obtain ⟨g,rfl⟩:=h; rfl
structure Two (lt:Nat → Nat → Bool) (N:Nat) (la lb:List Nat):Prop where
 sa:Srt lt la
 sb:Srt lt lb
 na:∀ x ∈ la,x < N
 nb:∀ x ∈ lb,x < N
structure Mid (lt:Nat → Nat → Bool) (la lb:List Nat) (n:Nat) (out:List Nat) (ia ib:Nat):Prop where
 w:W lt la lb out ia ib
 a:ia + 1 < la.length
 b:ib < lb.length
 n:n ≤ ia + ib
noncomputable def DD (lt:Nat → Nat → Bool) (it:Array Keyed) (la lb:List Nat) (n:Nat) (r:Option (Array Keyed)) (o:Array Keyed) (ia ib:Nat):Prop:=(∃ l,r = some (Zh4 it l) ∧ RR lt la lb l) ∨ (r = none ∧ ∃ out,o = Zh4 it out ∧ Mid lt la lb n out ia ib)
noncomputable def YY (lt:Nat → Nat → Bool) (it:Array Keyed) (la lb:List Nat) (n:Nat) (r:Option (Array Keyed)) (o:Array Keyed) (ia ib:Nat):Prop:=r = none ∧ ∃ out,o = Zh4 it out ∧ Mid lt la lb n out ia ib
section
variable {la lb:List Nat} {st st':SortSt} {n:Nat} {out:List Nat} {ia ib:Nat}
theorem Srt.from {l:List Nat} (s:Srt lt l) (o:ZcG lt) {i x y:Nat} (hx:l[i]? = some x) (h:lt x y = false):∀ z ∈ l.drop i,lt z y = false:=fun z hz=>by
 obtain ⟨hl,e⟩:=List.getElem?_eq_some_iff.mp hx
 rw [List.drop_eq_getElem_cons hl,e] at hz
 rcases List.mem_cons.mp hz with rfl | hz
 ·exact h
 ·have sd:(x :: l.drop (i + 1)).Pairwise fun x y=>lt y x = false:=by
   have:=List.Pairwise.sublist (List.drop_sublist i _) s
   rw [List.drop_eq_getElem_cons hl,e] at this
   exact this
  exact o.tr h ((List.pairwise_cons.mp sd).1 z hz)
theorem Mid.le {m:Nat} (h:Mid lt la lb n out ia ib) (hm:m ≤ n):Mid lt la lb m out ia ib:=⟨h.w,h.a,h.b,Nat.le_trans hm h.n⟩
theorem DD.le {m:Nat} {r:Option (Array Keyed)} {o:Array Keyed} (h:DD lt it la lb n r o ia ib) (hm:m ≤ n):DD lt it la lb m r o ia ib:=by
 rcases h with h | ⟨h1,out,h2,h3⟩
 ·exact .inl h
 ·exact .inr ⟨h1,out,h2,h3.le hm⟩
theorem YY.le {m:Nat} {r:Option (Array Keyed)} {o:Array Keyed} (h:YY lt it la lb n r o ia ib) (hm:m ≤ n):YY lt it la lb m r o ia ib:=⟨h.1,h.2.elim fun out h=>⟨out,h.1,h.2.le hm⟩⟩
end
end
end L3
namespace L3
open PySem PySem.W PyProof.Rows
section
variable {prog:Program} {w:World} {A:Around} {E:Value → Shared → Prop} {G:Shared → Prop} {κ:SortKind} {it:Array Keyed} {lt:Nat → Nat → Bool} {N:Nat}
noncomputable abbrev fl (lt:Nat → Nat → Bool):Nat → Nat → Bool:=fun x y=>lt y x
theorem Srt.rev {l:List Nat} (h:Srt lt l):Srt (fl lt) l.reverse:=List.pairwise_reverse.mpr h
theorem RR.rev {la lb r:List Nat} (h:RR (fl lt) lb.reverse la.reverse r):RR lt la lb r.reverse:=by
 refine ⟨(List.reverse_perm r).trans (h.1.trans ?_),List.pairwise_reverse.mpr h.2⟩
 exact ((List.reverse_perm lb).append (List.reverse_perm la)).trans List.perm_append_comm
theorem Zob (o:ZcG lt):ZcG (fl lt):=⟨fun h=>o.asym h,fun h1 h2=>o.tr h2 h1⟩
theorem ZkY {l:List Nat} {k x:Nat} (h0:0 < k) (hk:k ≤ l.length) (hx:l[k - 1]? = some x):l.reverse[l.length - k]? = some x:=by
 rw [List.getElem?_reverse (by exact lC 2 581779561975313 T1 h0 (Nat.sub_add_cancel hk)),show l.length - 1 - (l.length - k) = k - 1 by exact Nat.le_antisymm (lF 4 0x450025c21a4c30132c1011a0c21 T1 (Nat.sub_add_cancel (lB 2 1786942394369 T1 hk h0)) (sbA _ _) (sbA _ _) (Nat.sub_add_cancel (lD 3 0x230103c21a2c1010e11 T1 h0 (sbA _ _) (Nat.sub_add_cancel hk)))) (lF 4 0x4503a5c2124c101032c21a1c001 T1 (sbA _ _) (Nat.sub_add_cancel hk) (sbA _ _) (Nat.sub_add_cancel (lA 1 10489361 T1 h0))),hx]
theorem Zhy {l:List Nat} {k:Nat} (hk:k ≤ l.length):l.reverse.drop (l.length - k) = (l.take k).reverse:=by
 rw [List.drop_reverse,show l.length - (l.length - k) = k by exact Nat.le_antisymm (lD 2 0x230013c2121c001 T1 (sbA _ _) (Nat.sub_add_cancel ((Nat.sub_le _ _)))) (lD 2 0x31003c201210c21 T1 (Nat.sub_add_cancel hk) (sbA _ _))]
section
variable {la lb:List Nat} {st st':SortSt} {n:Nat} {out:List Nat} {na nb:Nat}
structure Zj2 (lt:Nat → Nat → Bool) (la lb:List Nat) (n:Nat) (out:List Nat) (na nb:Nat):Prop where
 w:W (fl lt) lb.reverse la.reverse out (lb.length - nb) (la.length - na)
 a:0 < na
 b:1 < nb
 ha:na ≤ la.length
 hb:nb ≤ lb.length
 n:n + na + nb ≤ la.length + lb.length
theorem Zk7 (h:RR (fl lt) lb.reverse la.reverse (out ++ la.reverse.drop (la.length - na) ++ lb.reverse.drop (lb.length - nb))) (ha:na ≤ la.length) (hb:nb ≤ lb.length):RR lt la lb (lb.take nb ++ la.take na ++ out.reverse):=by
 have:=h.rev
 rw [Zhy ha,Zhy hb] at this
 simpa using this
noncomputable def DH (lt:Nat → Nat → Bool) (it:Array Keyed) (la lb:List Nat) (n:Nat) (r:Option (Array Keyed)) (na nb:Nat) (o:Array Keyed):Prop:=(∃ l,r = some (Zh4 it l) ∧ RR lt la lb l) ∨ (r = none ∧ ∃ out,o = Zh4 it out ∧ Zj2 lt la lb n out na nb)
noncomputable def YH (lt:Nat → Nat → Bool) (it:Array Keyed) (la lb:List Nat) (n:Nat) (r:Option (Array Keyed)) (na nb:Nat) (o:Array Keyed):Prop:=r = none ∧ ∃ out,o = Zh4 it out ∧ Zj2 lt la lb n out na nb
structure Hi (prog:Program) (w:World) (A:Around) (E:Value → Shared → Prop) (G:Shared → Prop) (κ:SortKind) (it:Array Keyed) (lt:Nat → Nat → Bool) (N:Nat) (la lb:List Nat) (st:SortSt):Prop where
 K:Cmp prog w A E G κ it lt N
 T:Two lt N la lb
 hm:∀ x,lb[0]? = some x → ∀ y ∈ la,lt y x = false
 hk:kindOf st = κ
theorem Hi.o (H:Hi prog w A E G κ it lt N la lb st):ZcG (fl lt):=Zob H.K.ok
theorem Hi.first (H:Hi prog w A E G κ it lt N la lb st) (hw:W (fl lt) lb.reverse la.reverse out (lb.length - nb) (la.length - na)) (h1:nb = 1) (ha:na ≤ la.length) (hb:0 < lb.length):RR lt la lb (lb.take nb ++ la.take na ++ out.reverse):=by
 subst h1
 have hx:lb[0]? = some lb[0]:=by simp
 refine Zk7 (hw.last H.T.sa.rev (by rw [List.length_reverse]; exact Nat.le_antisymm (Nat.le_of_eq (Nat.sub_add_cancel (lA 1 10489361 T1 hb))) ((sbA _ _))) (ZkY (lN [] 0 2785 rfl) hb hx) fun y hy=>H.hm _ hx y (List.mem_reverse.mp hy)) ha hb
theorem Srt.at {l:List Nat} (s:Srt lt l) (o:ZcG lt) {i j:Nat} (hij:i ≤ j) (hj:j < l.length):lt (l.getD j 0) (l.getD i 0) = false:=by
 have e:∀ k,(hk:k < l.length) → l.getD k 0 = l[k]:=fun k hk=>by rw [List.getD_eq_getElem?_getD,List.getElem?_eq_getElem hk]; rfl
 rcases Nat.lt_or_eq_of_le hij with c | c
 ·rw [e i (Nat.lt_trans c hj),e j hj]
  exact List.pairwise_iff_getElem.mp s i j (Nat.lt_trans c hj) hj c
 ·rw [c]; exact o.rf _
theorem Zj2.le {m:Nat} (h:Zj2 lt la lb n out na nb) (hm:m ≤ n):Zj2 lt la lb m out na nb:=⟨h.w,h.a,h.b,h.ha,h.hb,by have:=h.n; exact lF 2 0x43c215cc0050143c210cc01 T1 this hm⟩
theorem DH.le {m:Nat} {r:Option (Array Keyed)} {o:Array Keyed} (h:DH lt it la lb n r na nb o) (hm:m ≤ n):DH lt it la lb m r na nb o:=by
 rcases h with h | ⟨h1,out,h2,h3⟩
 ·exact .inl h
 ·exact .inr ⟨h1,out,h2,h3.le hm⟩
theorem YH.le {m:Nat} {r:Option (Array Keyed)} {o:Array Keyed} (h:YH lt it la lb n r na nb o) (hm:m ≤ n):YH lt it la lb m r na nb o:=⟨h.1,h.2.elim fun out h=>⟨out,h.1,h.2.le hm⟩⟩
end
end
end L3
namespace L3
open PySem PySem.W PyProof.Rows
section
variable {prog:Program} {w:World} {A:Around} {E:Value → Shared → Prop} {G:Shared → Prop} {κ:SortKind} {it:Array Keyed} {lt:Nat → Nat → Bool} {N:Nat}
structure SS (κ:SortKind) (it:Array Keyed) (st:SortSt) (l:List Nat) (pd:Array (Nat × Nat × Nat)):Prop where
 kind:kindOf st = κ
 arr:arrOf st = Zh4 it l
 pend:pendingOf st = pd
 fail:failedOf st = none
section
variable {st:SortSt} {l:List Nat} {pd:Array (Nat × Nat × Nat)}
end
end
end L3
namespace L3
open PySem PySem.W PyProof.Rows
section
variable {prog:Program} {w:World} {A:Around} {E:Value → Shared → Prop} {G:Shared → Prop} {κ:SortKind} {it:Array Keyed} {lt:Nat → Nat → Bool} {N:Nat}
variable {st:SortSt} {pd:Array (Nat × Nat × Nat)}
structure Dn (lt:Nat → Nat → Bool) (T X B:List Nat) (neq:Nat):Prop where
 e:T = X ++ B
 len:B.length = neq + 1
 s:Srt (fl lt) T
 eq:∀ x ∈ B,∀ y ∈ B,lt x y = false
theorem Dn.rev {T X B:List Nat} {neq:Nat} (d:Dn lt T X B neq):Srt (fl lt) (X ++ B.reverse):=by
 have s:=d.s
 rw [d.e] at s
 obtain ⟨s1,s2,s3⟩:=List.pairwise_append.mp s
 refine List.pairwise_append.mpr ⟨s1,?_,fun x hx y hy=>s3 x hx y (List.mem_reverse.mp hy)⟩
 exact List.pairwise_of_forall_mem_list fun x hx y hy=>d.eq x (List.mem_reverse.mp hx) y (List.mem_reverse.mp hy)
theorem Dn.last {T X B:List Nat} {neq z:Nat} (d:Dn lt T X B neq) (hz:B[neq]? = some z):∀ x ∈ T,lt x z = false:=fun x hx=>by
 have zB:=List.mem_of_getElem? hz
 rw [d.e] at hx
 rcases List.mem_append.mp hx with hx | hx
 ·have s:=d.s
  rw [d.e] at s
  exact (List.pairwise_append.mp s).2.2 x hx z zB
 ·exact d.eq x hx z zB
end
end L3
namespace L3
open PySem PySem.W PyProof.Rows
section
variable {prog:Program} {w:World} {A:Around} {E:Value → Shared → Prop} {G:Shared → Prop} {κ:SortKind} {it:Array Keyed} {lt:Nat → Nat → Bool} {N:Nat}
variable {st:SortSt} {l':List Nat} {pd:Array (Nat × Nat × Nat)}
inductive BnI {α:Type} (lt:Nat → Nat → Bool) (X:List Nat) (u k:Nat) (st':SortSt) (x:Nat) (c:Option α × Nat × Nat) (st2:SortSt):Prop
 | mk (l r:Nat) (e0:st2 = st') (e:c = (none,l,r)) (a1:l ≤ r) (a2:r ≤ k) (a3:r - l ≤ k - x) (a4:∀ i z,i < l → X[i]? = some z → lt u z = false) (a5:∀ i z,r ≤ i → X[i]? = some z → lt u z = true)
inductive BnQ {α:Type} (lt:Nat → Nat → Bool) (X:List Nat) (u k:Nat) (st':SortSt) (c:Option α × Nat × Nat) (st2:SortSt):Prop
 | mk (l:Nat) (e0:st2 = st') (e1:c.1 = none) (e2:c.2.1 = l) (a2:l ≤ k) (a4:∀ i z,i < l → X[i]? = some z → lt u z = false) (a5:∀ i z,l ≤ i → X[i]? = some z → lt u z = true)
end
end L3
namespace L3
open PySem PySem.W PyProof.Rows
section
variable {prog:Program} {w:World} {A:Around} {E:Value → Shared → Prop} {G:Shared → Prop} {κ:SortKind} {it:Array Keyed} {lt:Nat → Nat → Bool} {N:Nat}
variable {st:SortSt} {pd:Array (Nat × Nat × Nat)}
end
end L3
namespace L3
open PySem PySem.W PyProof.Rows
section
variable {prog:Program} {w:World} {A:Around} {E:Value → Shared → Prop} {G:Shared → Prop} {κ:SortKind} {it:Array Keyed} {lt:Nat → Nat → Bool} {N:Nat}
variable {st:SortSt}
noncomputable def Rn (lt:Nat → Nat → Bool):Nat → List (List Nat) → List (Nat × Nat × Nat) → Prop
 | _,[],[]=>True
 | b,X :: rs,z :: pd=>z.1 = b ∧ z.2.1 = X.length ∧ 0 < X.length ∧ Srt lt X ∧ Rn lt (b + X.length) rs pd
 | _,_,_=>False
theorem Rn.len:∀ {b:Nat} {rs:List (List Nat)} {pd:List (Nat × Nat × Nat)},Rn lt b rs pd → pd.length = rs.length
 | _,[],[],_=>rfl
 | _,_ :: _,_ :: _,h=>congrArg (· + 1) h.2.2.2.2.len
 | _,[],_ :: _,h=>h.elim
 | _,_ :: _,[],h=>h.elim
theorem Rn.many:∀ {b:Nat} {rs:List (List Nat)} {pd:List (Nat × Nat × Nat)},Rn lt b rs pd → rs.length ≤ rs.flatten.length
 | _,[],[],_=>Nat.le_refl _
 | _,X :: rs,_ :: _,h=>by
  have:=h.2.2.2.2.many
  have:=h.2.2.1
  rw [List.flatten_cons,List.length_append,List.length_cons]; omega
 | _,[],_ :: _,h=>h.elim
 | _,_ :: _,[],h=>h.elim
theorem Rn.push:∀ {b:Nat} {rs:List (List Nat)} {pd:List (Nat × Nat × Nat)} (_:Rn lt b rs pd) {X:List Nat} (_:0 < X.length) (_:Srt lt X) {z:Nat × Nat × Nat} (_:z.1 = b + rs.flatten.length) (_:z.2.1 = X.length),Rn lt b (rs ++ [X]) (pd ++ [z])
 | _,[],[],_,_,h1,h2,_,h3,h4=>⟨h3,h4,h1,h2,trivial⟩
 | _,Y :: rs,_ :: _,h,_,h1,h2,_,h3,h4=>⟨h.1,h.2.1,h.2.2.1,h.2.2.2.1,h.2.2.2.2.push h1 h2 (by rw [h3,List.flatten_cons,List.length_append]; exact Nat.le_antisymm (lC 0 2271167496384 T1) (lC 0 2319485832384 T1)) h4⟩
 | _,[],_ :: _,h,_,_,_,_,_,_=>h.elim
 | _,_ :: _,[],h,_,_,_,_,_,_=>h.elim
theorem Rn.same:∀ {b:Nat} {rs:List (List Nat)} {pd pd':List (Nat × Nat × Nat)} (_:Rn lt b rs pd) (_:pd'.map (fun z=>(z.1,z.2.1)) = pd.map (fun z=>(z.1,z.2.1))),Rn lt b rs pd'
 | _,[],[],[],_,_=>trivial
 | _,Y :: rs,z :: pd,z' :: pd',h,e=>by
  rw [List.map_cons,List.map_cons] at e
  obtain ⟨e1,e2⟩:=List.cons.inj e
  obtain ⟨e3,e4⟩:=Prod.mk.inj e1
  exact ⟨e3.trans h.1,e4.trans h.2.1,h.2.2.1,h.2.2.2.1,h.2.2.2.2.same e2⟩
 | _,[],[],_ :: _,_,e=>by cases e
 | _,_ :: _,_ :: _,[],_,e=>by cases e
 | _,[],_ :: _,_,h,_=>h.elim
 | _,_ :: _,[],_,h,_=>h.elim
theorem Rn.at:∀ {i b:Nat} {rs:List (List Nat)} {pd:List (Nat × Nat × Nat)} (_:Rn lt b rs pd) (_:i + 1 < pd.length),∃ rs0 X Y rs1 p q,rs = rs0 ++ X :: Y :: rs1 ∧ 0 < X.length ∧ 0 < Y.length ∧ Srt lt X ∧ Srt lt Y ∧
  pd[i]? = some (b + rs0.flatten.length,X.length,p) ∧ pd[i + 1]? = some (b + rs0.flatten.length + X.length,Y.length,q) ∧ ∀ Z,Z.length = X.length + Y.length → Srt lt Z → Rn lt b (rs0 ++ Z :: rs1) ((pd.set i (b + rs0.flatten.length,X.length + Y.length,p)).eraseIdx (i + 1))
 | 0,b,X :: Y :: rs,z :: z' :: pd,h,_=>by
  obtain ⟨h1,h2,h3,h4,h5,h6,h7,h8,h9⟩:=h
  refine ⟨[],X,Y,rs,z.2.2,z'.2.2,rfl,h3,h7,h4,h8,?_,?_,fun Z hZ sZ=>⟨rfl,hZ.symm,lC 2 0xe12e1121c031 T1 hZ h7,sZ,?_⟩⟩
  ·obtain ⟨z1,z2,z3⟩:=z; cases h1; cases h2; rfl
  ·obtain ⟨z1,z2,z3⟩:=z'; cases h5; cases h6; rfl
  ·rw [hZ,← Nat.add_assoc]; exact h9
 | i + 1,b,X0 :: rs,z :: pd,h,hi=>by
  obtain ⟨h1,h2,h3,h4,h5⟩:=h
  obtain ⟨rs0,X,Y,rs1,p,q,rfl,a1,a2,a3,a4,a5,a6,a7⟩:=h5.at (i:=i) (by simpa using hi)
  have e:b + X0.length + rs0.flatten.length = b + (X0 :: rs0).flatten.length:=by rw [List.flatten_cons,List.length_append]; exact Nat.le_antisymm (lC 0 2319485832384 T1) (lC 0 2271167496384 T1)
  rw [e] at a5 a6 a7
  exact ⟨X0 :: rs0,X,Y,rs1,p,q,rfl,a1,a2,a3,a4,a5,a6,fun Z hZ sZ=>⟨h1,h2,h3,h4,a7 Z hZ sZ⟩⟩
 | 0,_,_ :: [],_ :: _ :: _,h,_=>h.2.2.2.2.elim
 | 0,_,_,[],_,hi=>by cases hi
 | 0,_,_,[_],_,hi=>by simp at hi
 | _ + 1,_,_,[],_,hi=>by cases hi
 | _,_,[],_ :: _,h,_=>h.elim
structure MM (κ:SortKind) (it:Array Keyed) (lt:Nat → Nat → Bool) (st:SortSt) (rs:List (List Nat)) (R:List Nat):Prop where
 s:SS κ it st (rs.flatten ++ R) (pendingOf st)
 r:Rn lt 0 rs (pendingOf st).toList
theorem MM.pw {rs:List (List Nat)} {R:List Nat} (m:MM κ it lt st rs R) (i p:Nat):MM κ it lt (setPending st ((pendingOf st).modify i fun x=>(x.1,x.2.1,p))) rs R:=by
 obtain ⟨⟨a1,a2,a3,a4⟩,r⟩:=m
 refine ⟨⟨a1,a2,rfl,a4⟩,?_⟩
 show Rn lt 0 rs ((pendingOf st).modify i fun x=>(x.1,x.2.1,p)).toList
 refine r.same ?_
 apply List.ext_getElem?
 intro k
 rw [List.getElem?_map,List.getElem?_map,Array.getElem?_toList,Array.getElem?_toList,Array.getElem?_modify]
 split
 ·cases (pendingOf st)[k]? <;> rfl
 ·rfl
theorem MM.push {rs rs':List (List Nat)} {R X l:List Nat} {n x lo:Nat} (hp:(rs.flatten ++ R).Perm l) (hX:X.Perm (R.take n)) (sX:Srt lt X) (h1:1 ≤ n) (hn:n ≤ R.length) (hr:rs'.flatten.Perm rs.flatten) (m:MM κ it lt st rs' (X ++ R.drop n)) (hx:x ≤ rs.flatten.length ∨ R = []) (hlo:lo = rs.flatten.length):∃ rs2 R2,((none,lo + n):Option Unit × Nat) = (none,rs2.flatten.length) ∧ (rs2.flatten ++ R2).Perm l ∧ MM κ it lt (setPending st ((pendingOf st).push (lo,n,0))) rs2 R2 ∧ (x + 1 ≤ rs2.flatten.length ∨ R2 = []):=by
 subst hlo
 have Xl:X.length = n:=by rw [hX.length_eq,List.length_take,Nat.min_eq_left hn]
 have fl2:(rs' ++ [X]).flatten = rs'.flatten ++ X:=by simp
 have ln:(rs' ++ [X]).flatten.length = rs.flatten.length + n:=by rw [fl2,List.length_append,hr.length_eq,Xl]
 obtain ⟨⟨a1,a2,a3,a4⟩,r⟩:=m
 refine ⟨rs' ++ [X],R.drop n,by rw [ln],?_,⟨⟨a1,?_,rfl,a4⟩,?_⟩,?_⟩
 ·refine List.Perm.trans ?_ hp
  rw [fl2,List.append_assoc]
  refine List.Perm.trans (hr.append_right _) (List.Perm.append_left _ ?_)
  have:=hX.append_right (R.drop n)
  rwa [List.take_append_drop] at this
 ·rw [fl2,List.append_assoc]; exact a2
 ·show Rn lt 0 _ ((pendingOf st).push (rs.flatten.length,n,0)).toList
  rw [Array.toList_push]
  exact r.push (lB 2 966803918897 T1 Xl h1) sX (by rw [Nat.zero_add,hr.length_eq]) Xl.symm
 ·rcases hx with q | q
  ·exact .inl (by rw [ln]; exact lC 2 0x21ca0c02a011001 T1 q h1)
  ·subst q; exact .inr (by simp)
end
end L3
namespace L3
open PySem PySem.W PyProof.Rows
section
variable {prog:Program} {w:World} {A:Around} {E:Value → Shared → Prop} {s:Shared}
end
end L3
namespace L3
open PySem PySem.W PySem.Spec PyProof.Rows L2
section
variable {X:Cx}
end
end L3
namespace L3
open PySem PySem.Spec PyProof.Rows L2
noncomputable def gK {α:Type} (n:Nat) (us ws:List α):List α:=if us.length = n ∧ ws.length = 1 then us ++ ws else []
noncomputable def Zka (P:Program) (w:World) (K:PySem.W.Frag) (mg:Str → Option Value) (base:Heap) (k:Nat) (x:Str) (ps:List Str) (F:F3) (dd:List D) (n:Nat) (nm:Str):Prop:=
 (∀ ds M,ds.length ≠ ps.length → F ds M = .bad) ∧ ∃ f fd ds dvs,mg x = some (.ref f) ∧ PySem.W.keepIn K (.ref f) = true ∧ Binds K fd ps [] ∧ Binds K fd ps ds ∧ Vals dvs ds ∧ (∀ H ι,Zq K H ι dd dvs) ∧ ZmE K fd ps [nm] (gK n) (gK n) ∧ ZcW P w K mg base CX0 k f fd ps (sp3 K ps.length F)
section
variable {P:Program} {w:World} {K:PySem.W.Frag} {mg:Str → Option Value} {base:Heap} {dd:List D} {n:Nat} {nm:Str}
theorem Zka.fn {k:Nat} {x:Str} {ps:List Str} {F:F3} (h:Zka P w K mg base k x ps F dd n nm):Fn3 P w K mg base k x ps F:=
 let ⟨a,f,fd,_,_,b,c,d,_,_,_,_,e⟩:=h; ⟨a,f,fd,b,c,d,e⟩
theorem Zka.mono {j k:Nat} {x:Str} {ps:List Str} {F:F3} (h:Zka P w K mg base j x ps F dd n nm) (l:j ≤ k):Zka P w K mg base k x ps F dd n nm:=
 let ⟨a,f,fd,ds,dvs,b,c,d,e,g,i,o,q⟩:=h; ⟨a,f,fd,ds,dvs,b,c,d,e,g,i,o,q.mono l⟩
end
section
variable {X:Cx} {e e':Expr} {es:List Expr} {pos p kpos:Pos} {gl:EL3} {g:E3} {x nm:Str} {k n:Nat} {ps:List Str} {F:F3} {dd:List D}
end
end L3
namespace L3
open PySem PySem.W PySem.Spec PyProof.Rows L2
section
variable {X:Cx}
end
end L3
namespace L3
open PySem PySem.Spec PyProof.Rows L2
noncomputable abbrev nm (f:List Nat):Str:=⟨f.toArray⟩
theorem ZmV {f g:List Nat} (h:nm f = nm g):f = g:=by
 have:=congrArg (fun s:Str=>s.cps.toList) h
 simpa using this
section
variable {K:PySem.W.Frag} {H H':Hp} {ι ι':List Addr} {fs:List (List Nat × D)} {gs:List (Str × V)}
theorem FsR.mono (e:Ext K H ι H' ι') (h:FsR K H ι fs gs):FsR K H' ι' fs gs:=⟨h.1,h.2.mono e⟩
theorem FsR.nil:FsR K H ι [] []:=⟨rfl,Zq.nil⟩
theorem FsR.nil_inv (h:FsR K H ι [] gs):gs = []:=List.map_eq_nil_iff.mp h.1
theorem FsR.cons_inv {f:List Nat} {d:D} (h:FsR K H ι ((f,d) :: fs) gs):∃ v gs',gs = (nm f,v) :: gs' ∧ Rep K H ι d v ∧ FsR K H ι fs gs':=by
 cases gs with
 | nil=>cases h.1
 | cons p gs'=>
  obtain ⟨g,v⟩:=p
  obtain ⟨h1,h2⟩:=h
  rw [List.map_cons,List.map_cons] at h1 h2
  obtain ⟨e1,e2⟩:=List.cons.inj h1
  obtain ⟨v',ws,e,r,q⟩:=h2.cons_inv
  obtain ⟨rfl,rfl⟩:=List.cons.inj e
  exact ⟨v,gs',by rw [show g = nm f from e1],r,e2,q⟩
theorem FsR.cons {f:List Nat} {d:D} {v:V} (r:Rep K H ι d v) (h:FsR K H ι fs gs):FsR K H ι ((f,d) :: fs) ((nm f,v) :: gs):=⟨by rw [List.map_cons,List.map_cons,h.1],Zq.cons r h.2⟩
theorem FsR.length (h:FsR K H ι fs gs):gs.length = fs.length:=by
 have:=congrArg List.length h.1
 simpa using this
theorem FsR.put {f:List Nat} {d:D} {v:V} (r:Rep K H ι d v):∀ {fs:List (List Nat × D)} {gs:List (Str × V)},FsR K H ι fs gs → FsR K H ι (ZkE f d fs) (ZnE (nm f) v gs)
 | [],_,h=>by rw [h.nil_inv]; exact FsR.cons r FsR.nil
 | (g,x) :: fs,_,h=>by
  obtain ⟨w,gs',rfl,r',t⟩:=h.cons_inv
  unfold ZkE ZnE
  by_cases e:g = f
  ·subst e
   rw [if_pos rfl,if_pos rfl]; exact FsR.cons r t
  ·rw [if_neg e,if_neg fun q=>e (ZmV q)]; exact FsR.cons r' (t.put r)
end
structure ZlP (K:PySem.W.Frag) (c:List Nat) (C:Addr):Prop where
 at_:ClsAt K c C
 cls:Cls K C
 nz:c.head? ≠ some 0
theorem ZlP.same {K:PySem.W.Frag} {c:List Nat} {C C':Addr} (h:ZlP K c C) (q:ClsAt K c C'):C' = C:=by
 have:=q.symm.trans h.at_
 cases this; rfl
section
variable {X:Cx} {o e:Expr} {es:List Expr} {f g:E3} {gl:EL3} {c m:List Nat} {C:Addr} {fn:Str} {pos pos' apos p:Pos} {x:Str}
noncomputable def ZmK (P:Program) (w:World) (K:PySem.W.Frag) (mg:Str → Option Value) (base:Heap) (k:Nat) (C:Addr) (m:Str) (ps:List Str) (F:F3):Prop:=
 (∀ ds M,ds.length ≠ ps.length → F ds M = .bad) ∧ ∃ f fd,Meth K C m f ∧ Binds K fd ps [] ∧ ZcW P w K mg base CX0 k f fd ps (sp3 K ps.length F)
theorem ZmK.mono {P:Program} {w:World} {K:PySem.W.Frag} {mg:Str → Option Value} {base:Heap} {C:Addr} {j k:Nat} {x:Str} {ps:List Str} {F:F3} (h:ZmK P w K mg base j C x ps F) (l:j ≤ k):ZmK P w K mg base k C x ps F:=
 let ⟨n,f,fd,a,b,d⟩:=h; ⟨n,f,fd,a,b,d.mono l⟩
end
section
variable {P:Program} {w:World} {K:PySem.W.Frag} {mg:Str → Option Value} {base:Heap} {C f:Addr} {m qual:Str} {st:Stmt} {N ps:List Str} {k:Nat} {body:S3} {oc:Value} {od an:Option Addr} {osl:Array (Option Value)} {dV kV doc pm cdv ct:Value}
end
end L3
namespace L3
open PySem PySem.Spec PyProof.Rows L2
set_option maxRecDepth 100000
section
variable {X:Cx} {o e:Expr} {es:List Expr} {apos cpos:Pos} {f:E3} {gl:EL3}
theorem Zq.rev {K:PySem.W.Frag} {H:Hp} {ι:List Addr}:∀ {ds:List D} {vs:List V},Zq K H ι ds vs → Zq K H ι ds.reverse vs.reverse
 | [],_,h=>by rw [h.nil_inv]; exact Zq.nil
 | d :: ds,_,h=>by
  obtain ⟨v,us,rfl,r,t⟩:=h.cons_inv
  rw [List.reverse_cons,List.reverse_cons]
  exact t.rev.append (Zq.cons r Zq.nil)
end
end L3
namespace L3
open PySem PySem.Spec PyProof.Rows L2
theorem Zj3 {P:Program} {w:World} {H:Hp} {h:Heap} {e C:Addr} (x:ExO e C h):Zbf P w H h e (exH e C):=
 ⟨x,(let ⟨o,_,q,_⟩:=x; ⟨o,q⟩),fun _ _ z k=>let ⟨o,vs,a,b,c⟩:=z; ⟨o,vs,k o a,b,c⟩⟩
theorem ZeV {P:Program} {w:World} {H:Hp} {h:Heap} {a:Addr} {o:HO} (x:Zbf P w H h a o):∃ u,h.get? a = some u:=by
 cases o with
 | lst xs=>obtain ⟨_,_,_,_,e⟩:=x; exact ⟨_,e⟩
 | tup xs=>obtain ⟨_,_,_,o,e,_⟩:=x; exact ⟨o,e⟩
 | dK kvs=>obtain ⟨_,_,_,_,o,_,_,e,_⟩:=x; exact ⟨o,e⟩
 | dT kvs=>obtain ⟨_,_,_,_,o,_,_,e,_⟩:=x; exact ⟨o,e⟩
 | set S n=>obtain ⟨o,_,_,_,e,_⟩:=x; exact ⟨o,e⟩
 | ins C dx fs=>obtain ⟨_,_,_,e,_⟩:=x; exact ⟨_,e⟩
 | own y=>exact x
 | xd fs=>obtain ⟨_,⟨o,_,_,e,_⟩,_⟩:=x; exact ⟨o,e⟩
 | rng lo hi=>obtain ⟨_,_,_,e⟩:=x; exact ⟨_,e⟩
 | frz ob u=>obtain ⟨e,_⟩:=x; exact ⟨_,e⟩
 | tbl ps=>exact ⟨_,x⟩
 | met f y=>exact ⟨_,x⟩
 | ext φ=>exact x.2.1
noncomputable def ZdX (B:Heap) (l:List Env) (e C:Addr) (h:Heap):Prop:=
 ∃ a0,Heap.FlyingW B l e (.ref C) a0 h ∨ (B.StaysIn h ∧ B.get? e = none ∧ h.FunFrames B l ∧ ∃ oe vs,h.get? e = some oe ∧ oe.cls = .ref C ∧ oe.data = .fields vs ∧ vs[0]? = some a0 ∧ vs[1]? = some .none)
section
variable {B h h':Heap} {l:List Env} {e C:Addr}
theorem Zev {a0:Value} (f:Heap.FlyingW B l e (.ref C) a0 h):ExO e C h:=let ⟨o,vs,a,b,c,_⟩:=f.first; ⟨o,vs,a,b,c⟩
theorem ZdX.stays (f:ZdX B l e C h):B.StaysIn h:=by
 obtain ⟨a0,f | f⟩:=f
 ·exact f.1
 ·exact f.1
theorem ZdX.exo (f:ZdX B l e C h):ExO e C h:=by
 obtain ⟨a0,f | ⟨_,_,_,oe,vs,a,b,c,_⟩⟩:=f
 ·exact Zev f
 ·exact ⟨oe,vs,a,b,c⟩
end
section
variable {M:Model} {A:Around} {E:Value → Shared → Prop} {s:Shared} {B:Heap} {env:Env} {outer:List Env} {L e C:Addr} {Q:Unit → Shared → Prop}
theorem Zmr (hfr:A.frames = some (env :: outer)) (hf:env.frame = some L) (f:ZdX B (env :: outer) e C s.heap)
  (hQ:∀ h' a0,Heap.HeldW B (env :: outer) e (.ref C) a0 L h' → s.heap.UpToSlots h' → Q () { s with heap:=h' }):wpAny M A (noteFrame (.ref e) env) Q E s:=by
 obtain ⟨a0,f | ⟨f1,f2,f3,oe,vs,he,hc,hd,h0,h1⟩⟩:=f
 ·exact wpAny_looks_onW hfr hf f fun h' x y=>hQ h' a0 x y
 ·unfold noteFrame
  simp only [hf]
  refine wpAny_bind (wpAny_field he hd h1 ?_)
  rw [if_neg (by decide)]
  refine wpAny_entryW hfr f3 hf he f1 f2 hd (Array.getElem?_eq_some_iff.mp h1).1 h0 fun h' hN=>?_
  obtain ⟨k1,k2,k3,k4⟩:=hN
  rw [hc] at k3
  exact hQ h' a0 ⟨k1,f2,k2,k3⟩ k4
theorem Zlk (hfr:A.frames = some (env :: outer)) (hf:env.frame = some L) (f:ZdX B (env :: outer) e C s.heap)
  (hQ:∀ h',ZdX B outer e C h' → s.heap.UpToSlots h' → Q () { s with heap:=h' }):wpAny M A (leaving env (.ref e)) Q E s:=by
 obtain ⟨a0,f | ⟨f1,f2,f3,oe,vs,he,hc,hd,h0,h1⟩⟩:=f
 ·exact wpAny_leaves_onW hfr hf f fun h' x y=>hQ h' ⟨a0,.inl x⟩ y
 ·refine wpAny_leaving_firstW hfr f3 hf he f1 f2 hd h1 h0 fun h' hL=>?_
  obtain ⟨k1,⟨_,_,k2⟩,k3,k4⟩:=hL
  rw [hc] at k3
  exact hQ h' ⟨a0,.inl ⟨k1,f2,k2,k3⟩⟩ k4
end
structure Cov (B:Heap) (fs ex:List Addr) (H₀:Hp) (h₀:Heap) (H:Hp) (e:Addr):Prop where
 trk:∀ b,H b ≠ none → b ≠ e → ∃ o,B.get? b = some o
 old:∀ b o,h₀.get? b = some o → H₀ b = none → b ∉ fs → b ∉ ex → B.get? b = some o
 there:∀ b o,h₀.get? b = some o → b ∉ fs → b ∉ ex → ∃ o',B.get? b = some o'
section
variable {B h h' h₀:Heap} {fs ex:List Addr} {H H₀:Hp} {e C:Addr} {P:Program} {w:World}
theorem Cov.hok (c:Cov B fs ex H₀ h₀ H e) (ok:HOk P w H h) (he:H e = some (exH e C)) (s1:B.StaysIn h) (s2:B.StaysIn h') (x:ExO e C h'):HOk P w H h':=fun b u q=>by
 by_cases hb:b = e
 ·subst hb; rw [he] at q; cases q; exact Zj3 x
 ·refine (ok b u q).stay (fun d v hd z=>?_) (fun _ z=>z) fun _ _ z=>z
  have hd':H d ≠ none ∧ d ≠ e:=by
   rcases hd with rfl | hd
   ·exact ⟨by rw [q]; simp,hb⟩
   ·exact ⟨by rw [hd]; simp,by rintro rfl; rw [he] at hd; cases hd⟩
  obtain ⟨o,ho⟩:=c.trk d hd'.1 hd'.2
  have:=(s1 d o ho).symm.trans z
  cases this
  exact s2 d _ ho
theorem Cov.un (c:Cov B fs ex H₀ h₀ H e) (u:Un fs ex H₀ H h₀ h) (s2:B.StaysIn h') (sl:h.UpToSlots h') (nf:∀ b ∈ fs,H₀ b = none ∧ ∀ o,h₀.get? b = some o → ∀ vs,o.data ≠ .fields vs):Un fs ex H₀ H h₀ h' where
 keep:=fun b o q n hb hx=>s2 b o (c.old b o q n hb hx)
 slot:=fun b o q n hb hx=>by
  obtain ⟨s,e1⟩:=u.slot b o q n hb hx
  obtain ⟨s',e2⟩:=sl b _ e1 ((nf b hb).2 o q)
  exact ⟨s',e2⟩
 free:=u.free
 there:=fun b o q hx=>by
  by_cases hb:b ∈ fs
  ·obtain ⟨s,e1⟩:=u.slot b o q (nf b hb).1 hb hx
   obtain ⟨s',e2⟩:=sl b _ e1 ((nf b hb).2 o q)
   exact ⟨_,e2⟩
  ·exact let ⟨o',z⟩:=c.there b o q hb hx; ⟨o',s2 b o' z⟩
 tups:=u.tups
 frzs:=u.frzs
 tbls:=u.tbls
end
noncomputable def CXr (P:Program) (w:World):CXT:=fun outer H s E ev s'=>∃ e C H' B,ev = .ref e ∧ s'.os = s.os ∧ AllBare s'.gens ∧ Un (frs outer) [] H H' s.heap s'.heap ∧ HOk P w H' s'.heap ∧ H' e = some (exH e C) ∧
 ZdX B outer e C s'.heap ∧ Cov B (frs outer) [] H s.heap H' e ∧ E (.ref C) (some e) H'
noncomputable def ZjF (X:Cx) (e C:Addr) (H':Hp) (s':Shared):Prop:=H' e = some (exH e C) ∧ ∃ B,ZdX B X.stack e C s'.heap ∧ Cov B X.fs X.ex X.H₀ X.s₀.heap H' e ∧ ∀ p ∈ X.pn,B.get? p.1 = some p.2
noncomputable def XW (X:Cx) (σ:St) (e C:Addr) (H':Hp):Prop:=∀ pins s',Inv X pins σ H' s' → ZjF X e C H' s' → X.xe (.ref e) s'
noncomputable def EX (X:Cx) (σ:St):XK:=fun cv oe H'=>∀ e C,cv = .ref C → oe = some e → XW X σ e C H'
section
variable {X:Cx} {pins:List (Addr × Obj)} {σ:St} {H:Hp} {s s':Shared}
theorem ZdH (I:Inv X pins σ H s) {b:Addr} {o:Obj} (q:X.s₀.heap.get? b = some o) (hb:b ∉ X.fs):b ∉ frs X.stack:=fun z=>by
 rcases List.mem_cons.mp (I.stkSub b z) with e | e
 ·exact absurd (Nat.lt_of_lt_of_le (Heap.lt_size q) I.ok.above) (by rw [e]; exact Nat.lt_irrefl _)
 ·exact hb e
theorem ZjO (I:Inv X pins σ H s):∀ b ∈ X.fs,X.H₀ b = none ∧ ∀ o,X.s₀.heap.get? b = some o → ∀ vs,o.data ≠ .fields vs:=fun b hb=>⟨I.ok.frf b hb,fun o q=>by
 obtain ⟨_,o',ho,hd⟩:=I.ok.funs.mem hb
 rw [ho] at q; cases q; exact hd⟩
theorem Zn5 (I:Inv X pins σ H s) {E:XK} {ev:Value} (h:CXr X.prog X.w X.stack H s E ev s'):∃ e C H',ev = .ref e ∧ Inv X pins σ H' s' ∧ ZjF X e C H' s' ∧ E (.ref C) (some e) H':=by
 obtain ⟨e,C,H',B,rfl,os,bare,un,hok,he,fl,cv,hE⟩:=h
 refine ⟨e,C,H',rfl,I.call' os un hok bare (fun b z=>nomatch z),⟨he,B,fl,⟨cv.trk,fun b o q n hb hx=>?_,fun b o q hb hx=>?_⟩,fun p hp=>?_⟩,hE⟩
 ·exact cv.old b o (I.base.keep b o q n hb hx) (I.base.free b o q n hx) (ZdH I q hb) (fun z=>nomatch z)
 ·obtain ⟨o1,q1⟩:=I.base.there b o q hx
  exact cv.there b o1 q1 (ZdH I q hb) (fun z=>nomatch z)
 ·obtain ⟨e,n,ne,nf,_⟩:=I.pin p (List.mem_append_left _ hp)
  exact cv.old p.1 p.2 e n (fun z=>(List.mem_cons.mp (I.stkSub p.1 z)).elim ne nf) (fun z=>nomatch z)
theorem Zlw (I:Inv X pins σ H s) {h':Heap} {e C:Addr} {vs:List Value} (m:Heap.MadeExcOf s.heap h' e (.ref C) vs):
  H e = none ∧ Inv X pins σ (upd H e (exH e C)) { s with heap:=h' } ∧ ZjF X e C (upd H e (exH e C)) { s with heap:=h' }:=by
 have hn:H e = none:=by
  cases q:H e with
  | none=>rfl
  | some u=>
   obtain ⟨o,ho⟩:=ZeV (I.hok e u q)
   rw [m.new] at ho; cases ho
 obtain ⟨t,ht,_,_⟩:=m.there
 have xo:ExO e C h':=⟨_,_,ht,rfl,rfl⟩
 have ne:∀ b o,s.heap.get? b = some o → b ≠ e:=fun b o q z=>by subst z; rw [m.new] at q; cases q
 have un:Un X.fs [] H (upd H e (exH e C)) s.heap h':=
  ⟨fun b u q _ _ _=>m.keeps b u q,
   fun b u q _ _ _=>⟨u.slots,m.keeps b u q⟩,
   fun b u q n _=>by rw [Zau (ne b u q)]; exact n,
   fun b u q _=>⟨u,m.keeps b u q⟩,
   fun b xs q=>by rw [Zau (Za1 q hn)]; exact q,
   fun b u xs q=>by rw [Zau (Za1 q hn)]; exact q,
   fun b ps q=>⟨#[],by rw [Zau (Za1 q hn),q]; simp⟩⟩
 have hok:HOk X.prog X.w (upd H e (exH e C)) h':=fun b u q=>by
  by_cases hb:b = e
  ·subst hb; rw [Zby] at q; cases q; exact Zj3 xo
  ·rw [Zau hb] at q
   exact (I.hok b u q).stay (fun c v _ z=>m.keeps c v z) (fun c z=>by rw [Zau (Za1 z hn)]; exact z) fun c xs z=>by rw [Zau (Za1 z hn)]; exact z
 refine ⟨hn,I.un (t':=s.toks) un hok,Zby,PySem.W.hideAll s.heap (frs X.stack),⟨.ref t,.inr ⟨fun b o q=>m.keeps b o (PySem.W.of_hideAll _ q),?_,?_,_,_,ht,rfl,rfl,rfl,rfl⟩⟩,⟨fun b hb hne=>?_,fun b o q n hb hx=>?_,fun b o q hb hx=>?_⟩,fun p hp=>?_⟩
 ·cases q:(PySem.W.hideAll s.heap (frs X.stack)).get? e with
  | none=>rfl
  | some o=>have:=PySem.W.of_hideAll _ q; rw [m.new] at this; cases this
 ·exact (PySem.W.funFrames_hide I.stack fun env he a ha=>List.mem_filterMap.mpr ⟨env,he,ha⟩).of_keeps fun b o hb _=>⟨o,m.keeps b o hb,rfl⟩
 ·rw [Zau hne] at hb
  obtain ⟨u,q⟩:=Option.ne_none_iff_exists'.mp hb
  obtain ⟨o,ho⟩:=ZeV (I.hok b u q)
  exact ⟨o,PySem.W.hideAll_get _ ho fun z=>hb (I.stkFree b z)⟩
 ·exact PySem.W.hideAll_get _ (I.base.keep b o q n hb hx) (ZdH I q hb)
 ·obtain ⟨o1,q1⟩:=I.base.there b o q hx
  exact ⟨o1,PySem.W.hideAll_get _ q1 (ZdH I q hb)⟩
 ·obtain ⟨e,n,ne,nf,_⟩:=I.pin p (List.mem_append_left _ hp)
  exact PySem.W.hideAll_get _ e fun z=>(List.mem_cons.mp (I.stkSub p.1 z)).elim ne nf
end
noncomputable def Zhp (K:PySem.W.Frag) (H:Hp) (ι:List Addr) (Q:VK) (E:XK) (r:R3 D):Prop:=match r with
 | .ok d M'=>∀ v H' ι',Ext K H ι H' ι' → Zaa K H' ι' M' → Rep K H' ι' d v → Q v H'
 | .exc x M'=>∀ e C H' ι',Ext K H ι H' ι' → Zaa K H' ι' M' → Rep K H' ι' x.arg (.ref e) → ClsAt K x.cls C → E (.ref C) (some e) H'
 | .bad=>False
theorem Zhp.up {K:PySem.W.Frag} {H H1:Hp} {ι ι1:List Addr} {Q:VK} {E:XK} {r:R3 D} (e:Ext K H ι H1 ι1) (h:Zhp K H ι Q E r):Zhp K H1 ι1 Q E r:=by
 cases r with
 | ok d M=>exact fun v H' ι' e' S r=>h v H' ι' (e.trans e') S r
 | exc x M=>exact fun a C H' ι' e' S r=>h a C H' ι' (e.trans e') S r
 | bad=>exact h
theorem Zae.x {K:PySem.W.Frag} {H:Hp} {ι:List Addr} {Q:VK} {E:XK} {r:R3 D} (h:Zae K H ι Q r):Zhp K H ι Q E r:=by
 cases r with
 | ok d M=>exact h
 | exc x M=>exact h.elim
 | bad=>exact h
noncomputable def Zm0 (K:PySem.W.Frag) (n:Nat) (F:F3):Sp:=fun vs H Q E=>∃ ι M ds,Zaa K H ι M ∧ Zq K H ι ds vs ∧ ds.length = n ∧ Zhp K H ι Q E (F ds M)
noncomputable def Zo3 (X:Cx) (f:E3):TE:=fun σ H Q=>∃ ι M env,Zaa X.K H ι M ∧ ZaT X.K H ι env σ ∧ Zhp X.K H ι Q (EX X σ) (f env M)
noncomputable def Zdy (X:Cx) (any:Bool) (σ:St) (H:Hp) (ι:List Addr) (E:Ends) (r:O3):Prop:=match r with
 | .nx env' M'=>∀ σ' H' ι',Ext X.K H ι H' ι' → Zaa X.K H' ι' M' → ZaT X.K H' ι' env' σ' → E.nx σ' H'
 | .bk env' M'=>∀ σ' H' ι',Ext X.K H ι H' ι' → Zaa X.K H' ι' M' → ZaT X.K H' ι' env' σ' → E.bk σ' H'
 | .ct env' M'=>∀ σ' H' ι',Ext X.K H ι H' ι' → Zaa X.K H' ι' M' → ZaT X.K H' ι' env' σ' → E.ct σ' H'
 | .rt d M'=>∀ v H' ι',Ext X.K H ι H' ι' → Zaa X.K H' ι' M' → Rep X.K H' ι' d v → E.rt v H'
 | .exc x M'=>∀ σ' e C H' ι',(any = false → σ' = σ) → Ext X.K H ι H' ι' → Zaa X.K H' ι' M' → Rep X.K H' ι' x.arg (.ref e) → ClsAt X.K x.cls C → XW X σ' e C H'
 | .bad=>False
noncomputable def Zop (X:Cx) (any:Bool) (f:S3):TS:=fun E σ H=>∃ ι M env,Zaa X.K H ι M ∧ ZaT X.K H ι env σ ∧ Zdy X any σ H ι E (f env M)
noncomputable def C3X (X:Cx) (e:Expr) (f:E3):Prop:=PE X e (Zo3 X f)
noncomputable def CSX (X:Cx) (any:Bool) (st:Stmt) (f:S3):Prop:=PS X st (Zop X any f)
noncomputable def Zf2 (X:Cx) (any:Bool) (st:List Stmt) (f:S3):Prop:=PSs X st (Zop X any f)
theorem Zdy.up {X:Cx} {any:Bool} {σ σ1:St} {H H1:Hp} {ι ι1:List Addr} {Q:Ends} {r:O3} (e:Ext X.K H ι H1 ι1) (hs:any = false → σ1 = σ) (h:Zdy X any σ H ι Q r):Zdy X any σ1 H1 ι1 Q r:=by
 cases r with
 | nx d M=>exact fun v H' ι' e' S r=>h v H' ι' (e.trans e') S r
 | bk d M=>exact fun v H' ι' e' S r=>h v H' ι' (e.trans e') S r
 | ct d M=>exact fun v H' ι' e' S r=>h v H' ι' (e.trans e') S r
 | rt d M=>exact fun v H' ι' e' S r=>h v H' ι' (e.trans e') S r
 | exc x M=>exact fun σ' a C H' ι' z e' S r=>h σ' a C H' ι' (fun q=>(z q).trans (hs q)) (e.trans e') S r
 | bad=>exact h
theorem Zjz {f:S3} {X:Cx} {any:Bool} {env:Zad} {M:Store} {σ:St} {H:Hp} {ι:List Addr} {E:Ends} (h:Zdy X any σ H ι E (sNo f env M)):Zf5 X.K H ι E (f env M):=by
 unfold sNo at h
 cases q:f env M with
 | exc x M1=>rw [q] at h; exact h.elim
 | bad=>rw [q] at h; exact h.elim
 | nx e M1=>rw [q] at h; exact h
 | rt e M1=>rw [q] at h; exact h
 | bk e M1=>rw [q] at h; exact h
 | ct e M1=>rw [q] at h; exact h
section
variable {X:Cx} {any:Bool} {st:Stmt} {sts:List Stmt} {e c1:Expr} {f:E3} {u w:S3} {pos:Pos}
theorem Zec (h:CS X.nox st u):CSX X any st (sNo u):=fun pins s σ H D I z=>by
 obtain ⟨ι,M,env,S,E,hf⟩:=z
 exact wpAny_mono (h pins s σ H D (I.wish _) ⟨ι,M,env,S,E,Zjz (X:=X) hf⟩) (fun _ _ q=>q.unwish) fun _ _ z=>False.elim z
theorem ZeB (h:CSs X.nox sts u):Zf2 X any sts (sNo u):=fun pins s σ H D I z=>by
 obtain ⟨ι,M,env,S,E,hf⟩:=z
 exact wpAny_mono (h pins s σ H D (I.wish _) ⟨ι,M,env,S,E,Zjz (X:=X) hf⟩) (fun _ _ q=>q.unwish) fun _ _ z=>False.elim z
theorem ZaL (h:CSX X any st u):Zf2 X any [st] u:=Ziw h
theorem Zbg (h1:CSX X true st u) (h2:Zf2 X true sts w):Zf2 X true (st :: sts) (Zw u w):=(Zhl h1 h2).imp fun D σ H zz1=>by
 obtain ⟨ι,M,env,S,E,h⟩:=zz1
 refine ⟨ι,M,env,S,E,?_⟩
 unfold Zw at h
 cases q:u env M with
 | nx e M1=>rw [q] at h; exact fun σ' H' ι' x S' E'=>⟨ι',M1,e,S',E',Zdy.up x (fun z=>nomatch z) h⟩
 | rt e M1=>rw [q] at h; exact h
 | bk e M1=>rw [q] at h; exact h
 | ct e M1=>rw [q] at h; exact h
 | exc x M1=>rw [q] at h; exact h
 | bad=>rw [q] at h; exact h
theorem Zee {x y:List Stmt} (hc:CT X.nox c1 f) (ha:Zf2 X any x u) (hb:Zf2 X any y w):CSX X any (.If c1 x y pos) (sIf (eNo f) u w):=(Zma (PT.nox hc) ha hb).imp fun D σ H zz1=>by
 obtain ⟨ι,M,env,S,E,h⟩:=zz1
 refine ⟨ι,M,env,S,E,?_⟩
 unfold sIf eNo at h
 cases q:f env M with
 | ok d M1=>
  rw [q] at h
  cases d with
  | bl k=>
   intro H1 ι1 x1 S1
   cases k with
   | true=>rw [if_pos rfl]; exact ⟨ι1,M1,env,S1,E.mono x1,Zdy.up x1 (fun _=>rfl) h⟩
   | false=>rw [if_neg (by decide)]; exact ⟨ι1,M1,env,S1,E.mono x1,Zdy.up x1 (fun _=>rfl) h⟩
  | _=>exact h.elim
 | exc x M1=>rw [q] at h; exact h.elim
 | bad=>rw [q] at h; exact h.elim
theorem Zhq (h:C3X X e f) (hs:swapsWith e none pos.line X.env = pure false:=by rfl):CSX X any (.Expr e pos) (ZaS f):=(Ziv h hs).imp fun D σ H zz1=>by
 obtain ⟨ι,M,env,S,E,h⟩:=zz1
 refine ⟨ι,M,env,S,E,?_⟩
 unfold ZaS at h
 cases q:f env M with
 | ok d M1=>rw [q] at h; exact fun v H1 ι1 x1 S1 r1=>h σ H1 ι1 x1 S1 (E.mono x1)
 | exc x M1=>rw [q] at h; exact fun a C H' ι' x1 S1 r1 c1 a' C' e1 e2=>by cases e1; cases e2; exact h σ a C H' ι' (fun _=>rfl) x1 S1 r1 c1
 | bad=>rw [q] at h; exact h.elim
theorem Zg3 (i:Nat) {x:Str} {pos':Pos} (hN:X.N.Nodup) (he:C3X X e f) (hi:X.N[i]? = some x:=by rfl) (hx:Loc X.env.scope x:=by first | exact Or.inl rfl | exact Or.inr rfl) (hs:swapsWith e (some (.Name x pos')) pos.line X.env = pure false:=by rfl)
  (hf:X.fn x = true ∨ X.env.scope.names.lookup x = some .local:=by first | exact .inl rfl | exact .inr rfl):CSX X any (.Assign [.Name x pos'] e pos) (Zal i f):=(Zjt hN hi hx he hs hf).imp fun D σ H zz1=>by
 obtain ⟨ι,M,env,S,E,h⟩:=zz1
 refine ⟨ι,M,env,S,E,?_⟩
 unfold Zal at h
 cases q:f env M with
 | ok d M1=>rw [q] at h; exact fun v H1 ι1 x1 S1 r1=>h _ H1 ι1 x1 S1 ((E.mono x1).set i r1)
 | exc x M1=>rw [q] at h; exact fun a C H' ι' x1 S1 r1 c1 a' C' e1 e2=>by cases e1; cases e2; exact h σ a C H' ι' (fun _=>rfl) x1 S1 r1 c1
 | bad=>rw [q] at h; exact h.elim
end
section
variable {P:Program} {w:World} {K:PySem.W.Frag} {mg:Str → Option Value} {base:Heap}
theorem ZjC {N:List Str} {qual:Str} {scope:Scope} {f:Addr} {cd:Value} {A:Around} {outer:List Env} {s:Shared} {H:Hp} {E:XK} {σ:St} {e C:Addr} {H':Hp} (hE:E (.ref C) (some e) H'):
  XW (Zfw (CXr P w) P w K mg base N qual scope f cd A outer s H E) σ e C H':=fun pins s' I x=>by
 obtain ⟨he,B,fl,cv,_⟩:=x
 show wpAny _ _ (leaving _ (.ref e)) _ _ s'
 refine Zlk I.ok.frames rfl fl fun h' fl' sl=>?_
 exact ⟨e,C,H',B,rfl,I.os,I.bare,cv.un I.base fl'.stays sl (ZjO I),cv.hok I.hok he fl.stays fl'.stays fl'.exo,he,fl',cv,hE⟩
theorem Zg9 {H H':Hp} {ι ι':List Addr} {M M':Store} {Q:VK} {E:XK} {d:D} {v:V} (S:Zaa K H ι M) (x:Ext K H ι H' ι') (S':Zaa K H' ι' M') (r:Rep K H' ι' d v) (h:Zhp K H ι Q E (ZbU M d M')):Q v H':=
 Zg0 S x S' r (by unfold ZbU at h ⊢; split at h <;> (rename_i c; first | rw [if_pos c] | rw [if_neg c]) <;> exact h)
theorem Zpc {x qual:Str} {st:Stmt} {f:Addr} {fd:FuncData} {N ps:List Str} {k:Nat} {body:S3} (F:Fun K x qual st f fd) (S:Zay N ps (Zj st))
  (hb:∀ (cdv:Value) (A:Around) (outer:List Env) (s:Shared) (H:Hp) (E:XK),ZbW k (A.deeper (envOfC qual (Zj st) s.heap.objs.size f cdv)) → Zf2 (Zfw (CXr P w) P w K mg base N qual (Zj st) f cdv A outer s H E) true (Zao st) body):
  ZcW P w K mg base (CXr P w) (k + 1) f fd ps (Zm0 K ps.length (mkF ps.length N.length body)):=by
 obtain ⟨oc,od,dV,kV,doc,pm,an,cdv,ct,osl,rfl,lk,hcd⟩:=F.ex
 refine ZlU lk hcd S (fun vs H Q E ⟨ι,M,ds,_,r,l,_⟩=>by rw [r.length,l]) fun A outer s H vs Q E hr zz1=>?_
 obtain ⟨ι,M,ds,SR,r,l,h⟩:=zz1
 refine ⟨_,hb cdv A outer s H E hr,ι,M,ds.map some ++ List.replicate (N.length - ps.length) none,SR,?_,?_⟩
 ·have e:L2.start N vs = vs.map some ++ List.replicate (N.length - ps.length) none:=by unfold L2.start; rw [r.length,l]
  rw [e]
  exact ZaT.start r _
 ·unfold mkF at h
  rw [if_pos l] at h
  cases q:body (ds.map some ++ List.replicate (N.length - ps.length) none) M with
  | nx env' M'=>rw [q] at h; exact fun σ' H' ι' x S' E'=>Zg9 SR x S' Rep.non h
  | rt d M'=>rw [q] at h; exact fun v H' ι' x S' r'=>Zg9 SR x S' r' h
  | bk _ _=>rw [q] at h; exact h.elim
  | ct _ _=>rw [q] at h; exact h.elim
  | exc _ _=>rw [q] at h; exact fun σ' a C H' ι' _ x S' r' c'=>ZjC (h a C H' ι' x S' r' c')
  | bad=>rw [q] at h; exact h.elim
end
end L3
namespace L3
open PySem PySem.Spec PyProof.Rows L2
section
variable {P:Program} {w:World} {K:PySem.W.Frag} {mg:Str → Option Value} {base:Heap}
theorem Zlr {k n:Nat} {f:Addr} {fd:FuncData} {ps:List Str} {F:F3} (G:ZcW P w K mg base (CXr P w) k f fd ps (Zm0 K n F)):ZcW P w K mg base CX0 k f fd ps (sp3 K n F):=
 ⟨fun vs H Q E z=>let ⟨ι,M,ds,S,r,l,h⟩:=z; G.len vs H Q E0 ⟨ι,M,ds,S,r,l,h.x⟩,fun A outer s H args us vs Q E hr he hb hv z=>let ⟨ι,M,ds,S,r,l,h⟩:=z; codeAny_mono (G.run A outer s H args us vs Q E0 hr he hb hv ⟨ι,M,ds,S,r,l,h.x⟩) fun r s' z=>by
  cases r with
  | error e=>obtain ⟨_,_,_,_,_,_,_,_,_,_,_,_,z⟩:=z; exact z.elim
  | ok fl=>cases fl <;> exact z⟩
noncomputable def FnX (P:Program) (w:World) (K:PySem.W.Frag) (mg:Str → Option Value) (base:Heap) (k:Nat) (x:Str) (ps:List Str) (F:F3):Prop:=
 (∀ ds M,ds.length ≠ ps.length → F ds M = .bad) ∧ ∃ f fd,mg x = some (.ref f) ∧ PySem.W.keepIn K (.ref f) = true ∧ Binds K fd ps [] ∧ ZcW P w K mg base (CXr P w) k f fd ps (Zm0 K ps.length F)
theorem FnX.fn {k:Nat} {x:Str} {ps:List Str} {F:F3} (h:FnX P w K mg base k x ps F):Fn3 P w K mg base k x ps F:=let ⟨n,f,fd,a,b,c,d⟩:=h; ⟨n,f,fd,a,b,c,Zlr d⟩
theorem FnX.of {x:Str} {st:Stmt} {N ps:List Str} {k:Nat} {body:S3} (d:ZaH K mg x st ps) (S:Zay N ps (Zj st))
  (hb:∀ (f:Addr) (cdv:Value) (A:Around) (outer:List Env) (s:Shared) (H:Hp) (E:XK),ZbW k (A.deeper (envOfC x (Zj st) s.heap.objs.size f cdv)) → Zf2 (Zfw (CXr P w) P w K mg base N x (Zj st) f cdv A outer s H E) true (Zao st) body):
  FnX P w K mg base (k + 1) x ps (mkF ps.length N.length body):=by
 obtain ⟨f,fd,F,m,bi⟩:=d
 exact ⟨fun ds M h=>if_neg h,f,fd,m,F.kp,bi,Zpc F S (hb f)⟩
end
section
variable {X:Cx} {o e:Expr} {es:List Expr} {f:E3} {gl:EL3} {c m:List Nat} {C:Addr} {fn x:Str} {pos pos' apos p:Pos} {k:Nat} {ps:List Str} {F:F3}
theorem ZoA {fa:Addr} {fd:FuncData} {sp:Sp} {pins:List (Addr × Obj)} {σ:St} {H:Hp} {s:Shared} {Q:VK} {us:List Value} {vs:List V} (G:ZcW X.prog X.w X.K X.mg X.base (CXr X.prog X.w) k fa fd ps sp) (hr:ZbW k X.A) (hb:Binds X.K fd ps [])
  (I:Inv X pins σ H s) (r:Vals vs us) (h:sp vs H Q (EX X σ)):wpAny (model X.prog X.w) X.A (call (.ref fa) us) (EP X pins σ Q) X.xe s:=by
 have hl:(us ++ []).length = ps.length:=by rw [List.append_nil,← r.length]; exact G.len _ _ _ _ h
 have hb':=hb s us I.kIn hl
 rw [List.append_nil] at hb'
 refine wpAny_call (codeAny_mono (G.run X.A X.stack s H ⟨us,[]⟩ us vs Q (EX X σ) hr I.env0 hb' r h) fun r s' hq=>?_)
 cases r with
 | error e=>
  obtain ⟨e,C,H',rfl,I',x,hE⟩:=Zn5 I hq
  exact hE e C rfl rfl pins s' I' x
 | ok fl=>
  cases fl with
  | ret u=>exact I.after hq
  | next=>exact False.elim hq
  | brk=>exact False.elim hq
  | cont=>exact False.elim hq
theorem ZjI {es:List Expr} {pins:List (Addr × Obj)} {σ:St} {H:Hp} {s:Shared} {ι:List Addr} {M M1:Store} {env:Zad} {ds:List D} {R:List Value → Shared → Prop} (ha:CA X.nox es gl) (I:Inv X pins σ H s) (S:Zaa X.K H ι M) (E:ZaT X.K H ι env σ) (q:gl env M = .ok ds M1)
  (h:∀ us s1 vs H1 ι1,Inv X pins σ H1 s1 → Vals vs us → Ext X.K H ι H1 ι1 → Zaa X.K H1 ι1 M1 → Zq X.K H1 ι1 ds vs → R us s1):wpAny (model X.prog X.w) X.A (spliced (backTo pos (starEach es X.env))) R X.xe s:=by
 refine wpAny_mono (ha pos pins s σ H (fun vs H1=>∃ ι1,Ext X.K H ι H1 ι1 ∧ Zaa X.K H1 ι1 M1 ∧ Zq X.K H1 ι1 ds vs) (I.wish _) ⟨ι,M,env,S,E,?_⟩) (fun us s1 z=>?_) fun _ _ z=>False.elim z
 ·rw [q]; exact fun vs H1 ι1 x1 S1 r1=>⟨ι1,x1,S1,r1⟩
 ·obtain ⟨vs,H1,I1,r,ι1,x1,S1,r1⟩:=z
  exact h us s1 vs H1 ι1 I1.unwish r x1 S1 r1
theorem Zey (G:FnX X.prog X.w X.K X.mg X.base k x ps F) (hr:ZbW k X.A) (ha:CA X.nox (e :: es) gl) (hg:Gl X x:=by rfl) (hdb:(x == ("__debug__":Str)) = false:=by decide)
  (he:starEach (e :: es) X.env = (false,eval e X.env) :: starEach es X.env:=by rfl) (hpl:(backTo pos (starEach es X.env)).any (·.1) = false:=by rfl):C3X X (.Call (.Name x p) (e :: es) [] pos) (Zt F (Zc7 gl)):=by
 obtain ⟨hn,fa,fd,hm,kp,bi,ok⟩:=G
 intro pins s σ H Q I h
 obtain ⟨ι,M,env,S,E,h⟩:=h
 refine wpAny_Call_Name_kw (ZeH I hg hm ?_ hdb)
 unfold Zt Zc7 at h
 cases q:gl env M with
 | exc _ _=>rw [q] at h; exact h.elim
 | bad=>rw [q] at h; exact h.elim
 | ok ds M1=>
  rw [q] at h
  have h:Zhp X.K H ι Q (EX X σ) (F ds M1):=h
  have hl:ds.length = ps.length:=by
   refine Decidable.byContradiction fun z=>?_
   rw [hn ds M1 z] at h
   exact h.elim
  exact PySem.W.callWith_K (h₀:=X.base) I.ok.mod.kin kp (ZjI ha I S E q fun us s1 vs H1 ι1 I1 r x1 S1 r1=>⟨I1.kIn,ZoA ok hr bi I1 r ⟨ι1,M1,ds,S1,r1,hl,h.up x1⟩⟩) he hpl
end
noncomputable abbrev bmV:List Value:=[.type "ValueError",.type "Exception",.type "BaseException",.type "object"]
noncomputable def ZhK (K:PySem.W.Frag) (c:List Nat) (C:Addr):Prop:=ClsAt K c C ∧ ∃ (na q:Str) (N:Addr) (bs bm:List Value) (hdct:Bool) (sn:List Str) (sub:List Value) (ab:Bool) (col:Option Bool) (dd:Option Addr) (k0 k1 k2 k3 k5:Option Value),
 K.lookup C = some (excClassObj na q C N bs bm hdct sn sub ab col dd k0 k1 k2 k3 k5 "ValueError.__new__") ∧ (∀ h:Heap,K.In h → ∃ mN,h.Ns N mN ∧ mN "__init__" = none) ∧ ∀ h:Heap,K.In h → OwnTail h bmV bm
theorem ZcZ {X:Cx} {any:Bool} {c:List Nat} {C:Addr} {x:Str} {np cpos pos:Pos} {a:Expr} {as:List Expr} {gl:EL3} (O:ZhK X.K c C) (hm:X.mg x = some (.ref C)) (ha:CA X.nox (a :: as) gl) (hc:X.calm = true:=by rfl) (hg:Gl X x:=by rfl) (hdb:(x == ("__debug__":Str)) = false:=by decide)
  (he:starEach (a :: as) X.env = (false,eval a X.env) :: starEach as X.env:=by rfl) (hpl:(backTo cpos (starEach as X.env)).any (·.1) = false:=by rfl):CSX X any (.Raise (some (.Call (.Name x np) (a :: as) [] cpos)) none pos) (Zca c gl):=by
 obtain ⟨at_,na,q,N,bs,bm,hdct,sn,sub,ab,col,dd,k0,k1,k2,k3,k5,lk,hN,hT⟩:=O
 intro pins s σ H D I z
 obtain ⟨ι,M,env,S,E,h⟩:=z
 unfold Zca at h
 cases qg:gl env M with
 | exc _ _=>rw [qg] at h; exact h.elim
 | bad=>rw [qg] at h; exact h.elim
 | ok ds M1=>
  rw [qg] at h
  match ds,h,qg with
  | [],h,_=>exact h.elim
  | _ :: _ :: _,h,_=>exact h.elim
  | [d],h,qg=>
   obtain ⟨mN,hns,hni⟩:=hN X.base I.ok.mod.kin
   refine wpAny_Raise_call_subU (C:=C) (nm:=na) (q:=q) (N:=N) (bs:=bs) (bm:=bm) (hdct:=hdct) (sn:=sn) (sub:=sub) (ab:=ab) (col:=col) (dd:=dd) (k0:=k0) (k1:=k1) (k2:=k2) (k3:=k3) (k5:=k5)
    PySem.F.excBase_ValueError (bmB:=bmV) (by decide) PySem.F.excBase_ValueError (mN:=mN) ((hT X.base I.ok.mod.kin).hasType (by decide)) (I.ok.hd hc) (by rw [he]; show (false || (backTo cpos (starEach as X.env)).any (·.1)) = false; rw [hpl]; rfl) hni (ZeH I hg hm ⟨rfl,?_⟩ hdb)
   have key:=ZjI (pos:=cpos) (R:=fun us s2=>us.length ≤ sizeLine ∧ s2.heap.get? C = some (excClassObj na q C N bs bm hdct sn sub ab col dd k0 k1 k2 k3 k5 "ValueError.__new__") ∧ s2.heap.Ns N mN ∧ OwnTail s2.heap bmV bm ∧ ∀ h' e,Heap.MadeExcOf s2.heap h' e (.ref C) us → X.xe (.ref e) { s2 with heap:=h' }) ha I S E qg (fun us s1 vs H1 ι1 I1 r x1 S1 r1=>by
    refine ⟨?_,I1.kIn _ _ lk,hns.keeps I1.bk,hT _ I1.kIn,fun h' e mk=>?_⟩
    ·rw [← r.length,r1.length]; exact (by decide:1 ≤ sizeLine)
    ·obtain ⟨hn,I2,xin⟩:=Zlw I1 mk
     exact h σ e C _ (ι1 ++ [e]) (fun _=>rfl) (x1.trans (Loose.extA (.inl hn))) (S1.new hn (.inr ⟨C,Zby,rfl,at_,rfl⟩)) (Rep.ref (by rw [← S1.len]; simp)) at_ pins _ I2 xin)
   rw [he] at key ⊢
   exact Calls.evalArgs_plain (wpAny_mono key (fun vs s₂ h₂=>⟨rfl,h₂⟩) fun _ _ y=>y)
end L3
namespace L3
open PySem PySem.Spec PyProof.Rows L2
noncomputable abbrev inX (X:Cx) (A':Around) (E':Value → Shared → Prop):Cx:={ X with A:=A',calm:=false,xe:=E' }
noncomputable abbrev inT (X:Cx) (pn':List (Addr × Obj)) (E':Value → Shared → Prop):Cx:={ X with pn:=pn',xe:=E' }
section
variable {X:Cx} {pins:List (Addr × Obj)} {σ:St} {H:Hp} {s:Shared}
theorem ZiN (I:Inv X pins σ H s) (A':Around) (E':Value → Shared → Prop) (hf:A'.frames = X.A.frames):Inv (inX X A' E') pins σ H s:=
 let ok:=I.ok
 ⟨⟨ok.mod,ok.kind,ok.glob,ok.blt,ok.above,ok.inj,ok.has,ok.cab,(fun z=>nomatch z),hf.trans ok.frames,ok.stk,ok.exf,ok.bs,ok.bsz,ok.noex,ok.exfs,ok.funs,ok.frf⟩,I.os,I.bare,I.base,I.loc,I.cell,I.free,I.freeC,I.pin,I.hok,I.len⟩
theorem Zj0 {pins':List (Addr × Obj)} {σ':St} {H':Hp} {s':Shared} {A':Around} {E':Value → Shared → Prop} (I:Inv X pins σ H s) (J:Inv (inX X A' E') pins' σ' H' s'):Inv X pins' σ' H' s':=
 ⟨I.ok,J.os,J.bare,J.base,J.loc,J.cell,J.free,J.freeC,J.pin,J.hok,J.len⟩
theorem ZlI (I:Inv X pins σ H s) (E':Value → Shared → Prop):Inv (inT X (X.pn ++ pins) E') [] σ H s:=
 let ok:=I.ok
 ⟨⟨ok.mod,ok.kind,ok.glob,ok.blt,ok.above,ok.inj,ok.has,ok.cab,ok.hd,ok.frames,ok.stk,ok.exf,ok.bs,ok.bsz,ok.noex,ok.exfs,ok.funs,ok.frf⟩,I.os,I.bare,I.base,I.loc,I.cell,I.free,I.freeC,fun p hp=>I.pin p (by simpa using hp),I.hok,I.len⟩
theorem Zdx {pins':List (Addr × Obj)} {σ':St} {H':Hp} {s':Shared} {E':Value → Shared → Prop} (I:Inv X pins σ H s) (J:Inv (inT X (X.pn ++ pins) E') pins' σ' H' s'):Inv X pins σ' H' s':=
 ⟨I.ok,J.os,J.bare,J.base,J.loc,J.cell,J.free,J.freeC,fun p hp=>J.pin p (List.mem_append_left _ hp),J.hok,J.len⟩
theorem Zld {D:Ends} {pins':List (Addr × Obj)} {f:Flow} {s':Shared} {E':Value → Shared → Prop} (I:Inv X pins σ H s) (h:SP (inT X (X.pn ++ pins) E') pins' D f s'):SP X pins D f s':=by
 cases f with
 | next=>obtain ⟨σ',H',J,q⟩:=h; exact ⟨σ',H',Zdx I J,q⟩
 | brk=>obtain ⟨σ',H',J,q⟩:=h; exact ⟨σ',H',Zdx I J,q⟩
 | cont=>obtain ⟨σ',H',J,q⟩:=h; exact ⟨σ',H',Zdx I J,q⟩
 | ret u=>obtain ⟨v,σ',H',J,r,q⟩:=h; exact ⟨v,σ',H',Zdx I J,r,q⟩
theorem Zkg {B h':Heap} {e C:Addr} (I:Inv X pins σ H s) (he:H e = some (exH e C)) (s1:B.StaysIn s.heap) (cv:Cov B X.fs X.ex X.H₀ X.s₀.heap H e) (hp:∀ p ∈ X.pn ++ pins,B.get? p.1 = some p.2) (s2:B.StaysIn h') (sl:s.heap.UpToSlots h') (xo:ExO e C h'):Inv X pins σ H { s with heap:=h' }:=by
 have cellK:∀ c v,s.heap.IsCell c v → h'.IsCell c v:=fun c v z=>by
  obtain ⟨o,ho,hd⟩:=z
  obtain ⟨s3,e3⟩:=sl c o ho fun vs q=>by rw [hd] at q; cases q
  exact ⟨_,e3,hd⟩
 refine ⟨I.ok,I.os,I.bare,cv.un I.base s2 sl (ZjO I),?_,fun x c z=>?_,I.free,I.freeC,fun p hq=>⟨s2 _ _ (hp p hq),(I.pin p hq).2⟩,cv.hok I.hok he s1 s2 xo,I.len⟩
 ·obtain ⟨m,hn,hl⟩:=I.loc
  refine ⟨m,sl.ns hn,fun i x v e1 e2 e3=>?_⟩
  obtain ⟨u,r,l⟩:=hl i x v e1 e2 e3
  refine ⟨u,r,?_⟩
  rcases l with l | ⟨k,c,e,z⟩
  ·exact .inl l
  ·exact .inr ⟨k,c,e,cellK _ _ z⟩
 ·obtain ⟨v,q⟩:=I.cell x c z
  exact ⟨v,cellK _ _ q⟩
theorem Zmj {M:Model} {A:Around} {E:Value → Shared → Prop} {Q:Unit → Shared → Prop} {j:Nat} {n:Str} {pos:Pos} (I:Inv X pins σ H s) (hN:X.N.Nodup) (hj:X.N[j]? = some n) (hl:X.env.scope.names.lookup n = some .local)
  (h:∀ s',Inv X pins (σ.set j none) H s' → Q () s'):wpAny M A (do bindName X.env n .none; unbindBehindTheSuite X.env n pos) Q E s:=by
 have hl':X.env.kindOf n = some .local:=hl
 have hp:(X.env.scope.kind == .class || (X.env.scope.kind == .module && X.env.locals != X.env.globals)) = false:=by rw [I.ok.kind]; rfl
 obtain ⟨m,hn,hv⟩:=id I.loc
 refine wpAny_bind (wpAny_bindName (wpAny_storeName_local hl' hn (fun h₁ hn₁ hs₁=>?_) hp))
 unfold unbindBehindTheSuite unbindName deleteName
 refine wpAny_onRaise (wpAny_bind (wpAny_point (wpAny_bind ?_)))
 simp only [hp,hl']
 rw [if_neg (by decide)]
 refine wpAny_bind (wpAny_nsDel_keeps hn₁ fun h₂ v hn₂ hs₂=>?_)
 simp only [Option.isSome_some,if_true,if_false,Bool.false_eq_true,Bool.not_true]
 refine wpAny_pure (wpAny_point (h _ ?_))
 have sb:=hs₁.trans hs₂
 have ne:∀ b o,X.s₀.heap.get? b = some o → b ≠ X.env.locals:=fun b o q=>Nat.ne_of_lt (Nat.lt_of_lt_of_le (Heap.lt_size q) I.ok.above)
 have nt:∀ b,H b ≠ none → b ≠ X.env.locals:=fun b q z=>q (by rw [z]; exact I.free)
 have cellK:∀ x c,X.env.cells.lookup x = some c → ∀ v,s.heap.IsCell c v → h₂.IsCell c v:=fun x c z v q=>by
  obtain ⟨o,ho,hd⟩:=q
  exact ⟨o,(sb.2 c (I.cne x c z)).trans ho,hd⟩
 refine ⟨I.ok,I.os,I.bare,⟨fun b o q n hb hx=>?_,fun b o q n hb hx=>?_,I.base.free,fun b o q hx=>?_,I.base.tups,I.base.frzs,I.base.tbls⟩,⟨_,hn₂,fun i x v' e1 e2 e3=>?_⟩,fun x c z=>?_,I.free,I.freeC,fun p hp=>?_,fun b u q=>?_,by rw [List.length_set]; exact I.len⟩
 ·exact (sb.2 b (ne b o q)).trans (I.base.keep b o q n hb hx)
 ·obtain ⟨sl,z⟩:=I.base.slot b o q n hb hx
  exact ⟨sl,(sb.2 b (ne b o q)).trans z⟩
 ·obtain ⟨o',z⟩:=I.base.there b o q hx
  exact ⟨o',(sb.2 b (ne b o q)).trans z⟩
 ·have hij:i ≠ j:=fun z=>by
   subst z
   rw [List.getElem?_set_self'] at e2
   cases q:σ[i]? with
   | none=>rw [q] at e2; simp at e2
   | some _=>rw [q] at e2; simp at e2
  rw [List.getElem?_set_ne (Ne.symm hij)] at e2
  obtain ⟨u,r,l⟩:=hv i x v' e1 e2 e3
  have hxn:x ≠ n:=fun z=>hij (Zfy hN e1 (by rw [z]; exact hj))
  refine ⟨u,r,?_⟩
  rcases l with ⟨k,l⟩ | ⟨k,c,e,z⟩
  ·refine .inl ⟨k,?_⟩
   show (if x = n then _ else _) = _
   rw [if_neg hxn]
   show (if x = n then _ else _) = _
   rw [if_neg hxn]
   exact l
  ·exact .inr ⟨k,c,e,cellK x c e _ z⟩
 ·obtain ⟨v,q⟩:=I.cell x c z
  exact ⟨v,cellK x c z v q⟩
 ·obtain ⟨e,n,ne',r⟩:=I.pin p hp
  exact ⟨(sb.2 _ ne').trans e,n,ne',r⟩
 ·refine (I.hok b u q).stay (fun c v hc z=>(sb.2 c (nt c ?_)).trans z) (fun _ z=>z) fun _ _ z=>z
  rcases hc with rfl | hc
  ·rw [q]; simp
  ·rw [hc]; simp
end
theorem ZaT.unset {K:PySem.W.Frag} {H:Hp} {ι:List Addr} {env:Zad} {σ:St} (r:ZaT K H ι env σ) (j:Nat):ZaT K H ι (env.set j none) (σ.set j none):=by
 refine ⟨by simp [r.1],fun i d h=>?_⟩
 by_cases hij:i = j
 ·subst hij
  rw [List.getElem?_set_self'] at h
  cases q:env[i]? with
  | none=>rw [q] at h; simp at h
  | some _=>rw [q] at h; simp at h
 ·rw [List.getElem?_set_ne (Ne.symm hij)] at h
  obtain ⟨w,q,z⟩:=r.2 i d h
  exact ⟨w,by rw [List.getElem?_set_ne (Ne.symm hij)]; exact q,z⟩
theorem Zmy {X:Cx} {x n:Str} {np pos pos2:Pos} {body suite:List Stmt} {b0:Stmt} {cs:List (List Nat)} (j:Nat) {b h:S3} {CE:Addr} (hN:X.N.Nodup) (hm:X.mg x = some (.ref CE)) (hsub:∀ c C,cs.contains c = true → ClsAt X.K c C → PySem.W.exmOne X.K (.ref C) (.ref CE) = some true)
  (hb:∀ pn' E',Zf2 (inT X pn' E') false body b) (hs:∀ A' E',CSs (inX X A' E') (b0 :: suite) h) (hst:X.stack = X.env :: X.outer:=by rfl) (hfr:X.env.frame = some X.env.locals:=by rfl) (hj:X.N[j]? = some n:=by rfl) (hl:X.env.scope.names.lookup n = some .local:=by rfl) (hg:Gl X x:=by rfl)
  (hdb:(x == ("__debug__":Str)) = false:=by decide):CS X (.Try body [.ExceptHandler (some (.Name x np)) (some n) (b0 :: suite) pos] [] [] pos2) (ZhQ cs j b h):=by
 intro pins s σ H D I z
 obtain ⟨ι,M,env,S,E,hf⟩:=z
 refine wpAny_Try_except (wpAny_mono (hb (X.pn ++ pins) _ [] s σ H D (ZlI I _) ⟨ι,M,env,S,E,?_⟩) (fun f s1 q=>?_) (fun _ _ z=>z))
 rotate_left
 ·have q:=Zld I q
  cases f with
  | next=>obtain ⟨σ',H',J,q⟩:=q; exact wpAny_execs_nil ⟨σ',H',J,q⟩
  | brk=>exact q
  | cont=>exact q
  | ret u=>exact q
 unfold ZhQ at hf
 cases q:b env M with
 | nx e M1=>rw [q] at hf; exact hf
 | rt e M1=>rw [q] at hf; exact hf
 | bk e M1=>rw [q] at hf; exact hf
 | ct e M1=>rw [q] at hf; exact hf
 | bad=>rw [q] at hf; exact hf
 | exc x1 M1=>
  rw [q] at hf
  dsimp only at hf
  have hc:cs.contains x1.cls = true:=Decidable.byContradiction fun z=>by rw [if_neg z] at hf; exact hf
  rw [if_pos hc] at hf
  intro σ' e C H' ι' hσ xt S1 r1 c1 pins' s' J xin
  obtain rfl:=hσ rfl
  obtain ⟨he,B,fl,cv,hpn⟩:=xin
  have I1:Inv X pins σ' H' s':=Zdx I J
  have fl0:ZdX B (X.env :: X.outer) e C s'.heap:=by rw [← hst]; exact fl
  have hfrm:X.A.frames = some (X.env :: X.outer):=by rw [← hst]; exact I1.ok.frames
  show wpAny (model X.prog X.w) X.A (noteFrame (.ref e) X.env) _ _ s'
  refine Zmr hfrm hfr fl0 fun h₄ a0 held sl4=>?_
  refine wpAny_landsW held fun h₅ fly5 sl5=>?_
  have I5:Inv X pins σ' H' { s' with heap:=h₅ }:=Zkg I1 he fl.stays cv hpn fly5.1 (sl4.trans sl5) (Zev fly5)
  have I5':=ZiN I5 (X.A.mark (some (.ref e))) (fun _ _=>False) rfl
  refine wpAny_handleBy_cons (codeAny_handlers_test (ZeH I5' hg hm ?_ hdb)) (by intro q; cases q)
  have LT:PySem.W.Looks (model X.prog X.w) h₅ (typeOf (.ref e)) (.ref C):=by
   obtain ⟨o,vs,a,b,_⟩:=Zev fly5
   exact b ▸ (PySem.W.Looks.ld a).andThen .now
  refine PySem.W.exm_one (K:=X.K) (cls:=.ref C) I5.kIn LT (hsub _ _ hc c1) _ _ _ _ (fun _ _ q=>q) ?_
  refine codeAny_handlers_suite_as ?_
  refine lands_againW fly5 fun h₆ fly6 sl6=>?_
  have I6:Inv X pins σ' H' { s' with heap:=h₆ }:=Zkg (s:={ s' with heap:=h₅ }) I5 he fly5.1 cv hpn fly6.1 sl6 (Zev fly6)
  have I6':=ZiN I6 (X.A.mark (some (.ref e))) (fun _ _=>False) rfl
  refine Zfn (X:=inX X (X.A.mark (some (.ref e))) fun _ _=>False) (v:=.ref e) I6' hN hj (.inl hl) rfl (fun s7 I7=>?_) (.inr hl)
  refine wpAny_mono (hs (X.A.mark (some (.ref e))) (fun _ _=>False) pins s7 (σ'.set j (some (.ref e))) H' { nx:=fun σ2 H2=>D.nx (σ2.set j none) H2,rt:=fun _ _=>False } I7 ⟨ι',M1,env.set j (some x1.arg),S1,(E.mono xt).set j r1,?_⟩) (fun f s8 q=>?_) (fun _ _ z=>False.elim z)
  ·cases qh:h (env.set j (some x1.arg)) M1 with
   | nx e' M2=>rw [qh] at hf; exact fun σ2 H2 ι2 x2 S2 E2=>hf _ H2 ι2 (xt.trans x2) S2 (E2.unset j)
   | rt _ _=>rw [qh] at hf; exact hf.elim
   | bk _ _=>rw [qh] at hf; exact hf.elim
   | ct _ _=>rw [qh] at hf; exact hf.elim
   | exc _ _=>rw [qh] at hf; exact hf.elim
   | bad=>rw [qh] at hf; exact hf.elim
  ·cases f with
   | next=>
    obtain ⟨σ2,H2,I8,q⟩:=q
    exact Zmj (Zj0 I I8) hN hj hl fun s9 I9=>⟨σ2.set j none,H2,I9,q⟩
   | brk=>obtain ⟨_,_,_,q⟩:=q; exact q.elim
   | cont=>obtain ⟨_,_,_,q⟩:=q; exact q.elim
   | ret u=>obtain ⟨_,_,_,_,_,q⟩:=q; exact q.elim
end L3
namespace PySem.W
open PySem PySem.Spec PySem.Calls PyProof.Rows Builtin Builtin.ObjectAttr Builtin.Getset_descriptor
section
variable {prog:Program} {w:World} {K:Frag} {x D:Addr}
noncomputable def ExcTy (x D:Addr) (h:Heap):Prop:=∃ o,h.get? x = some o ∧ o.cls = .ref D
theorem ExcTy.ty {h:Heap} (p:ExcTy x D h) (M:Model):Looks M h (typeOf (.ref x)) (.ref D):=by
 obtain ⟨o,a,b⟩:=p
 exact b ▸ (Looks.ld a).andThen .now
theorem ZlJ {M:Model} {h:Heap} {name:Str} {a g:Value} (X:K.In h) (ha:findIn K (.ref D) name = some (some a)) (hg:specialIn K a "__get__" = some (some g)) (ht:takesIn K a = some true):Looks M h (find (.ref x) (.ref D) name) (.bind g a):=
 (looks_findIn (M:=M) X ha).andThen ((show Looks M h (getOf (some a)) (some g) from looks_specialIn X hg).andThen
  ((show Looks M h (dataDescriptor? (some a) (some g)) (some (g,a)) from (looks_takesIn (M:=M) X ht).andThen .now).andThen (Looks.tag .now)))
theorem Zmv {A:Around} {R:Result → Shared → Prop} {s:Shared} {tp:Value} (X:K.In s.heap) (p:ExcTy x D s.heap) (hm:mroIn K D (.type "object") = some true)
  (hq:R (.ok (.ret (.ref D))) s):codeAny (model prog w) A (.call (.builtin "getset_descriptor.__get__") ⟨[.builtin "object.__class__",.ref x,tp],[]⟩) R s:=by
 obtain ⟨hh,gg,dd,tt,oo⟩:=s
 have L0:=p.ty (model prog w)
 have L1:=looks_mroIn (M:=model prog w) X hm
 refine codeAny_call_builtin KF.slot_gs.plain KF.entry_gs (KF.slot_gs.check _ _ _ _ _ _ _ _ KF.type_class (KF.args_gs _ _ _) ?_)
 unfold Builtin.«getset_descriptor.__get__» descrGet; rw [dga_obj]
 refine wpAny_bind (wpAny_pure ?_)
 unfold descrGetter descrCheckInstance descrNameAndClass isInstance; simp only [KF.owner_class]
 repeat lk
 refine ⟨Code.quiet_builtin _ (by decide +kernel),codeAny_builtin KF.entry_class ?_⟩
 unfold Builtin.«object.__class__» shownTypeOf; repeat lk
 exact hq
theorem Zn8 {A:Around} {R:Result → Shared → Prop} {s:Shared} {tk:Tok} (ha:findIn K (.ref D) "__class__" = some (some (.builtin "object.__class__")))
  (hn:specialIn K (.builtin "object.__class__") "__get__" = some (some (.builtin "getset_descriptor.__get__"))) (htk:takesIn K (.builtin "object.__class__") = some true) (hm:mroIn K D (.type "object") = some true) (hb:mroIn K D (.type "BaseException") = some true)
  (X:K.In s.heap) (p:ExcTy x D s.heap) (hq:R (.ok (.ret (.ref D))) s):codeAny (model prog w) A (.call (.builtin "BaseException.__getattribute__") ⟨[.ref x,.str "__class__" tk],[]⟩) R s:=by
 obtain ⟨hh,gg,dd,tt,oo⟩:=s
 have L0:=p.ty (model prog w)
 have L1:=looks_mroIn (M:=model prog w) X hb
 have L3:=ZlJ (M:=model prog w) (x:=x) X ha hn htk
 have hk:builtinKind "BaseException.__getattribute__" = some .slot:=by decide +kernel
 have hs:splitId "BaseException.__getattribute__" = some ("BaseException","__getattribute__"):=by decide +kernel
 have hz:=F.args_bexc_ga (.ref x) (.str "__class__" tk)
 refine codeAny_call_builtin F.excAttr_ValueError.ga.plain F.entry_bexc_ga ?_
 simp only [checkBuiltinCall,hk,hs]
 refine wpAny_bind ?_
 unfold isInstance
 repeat lk
 refine wpAny_run (h:=none) (Zmv X p hm ?_)
 exact wpAny_pure (wpAny_pure hq)
theorem Zjy {A:Around} {E:Value → Shared → Prop} {s:Shared} {Q:Option Value → Shared → Prop} (hg:findIn K (.ref D) "__getattribute__" = some (some (.builtin "BaseException.__getattribute__"))) (hg2:findIn K (.ref D) "__getattr__" = some none) (ha:findIn K (.ref D) "__class__" = some (some (.builtin "object.__class__")))
  (hn:specialIn K (.builtin "object.__class__") "__get__" = some (some (.builtin "getset_descriptor.__get__"))) (htk:takesIn K (.builtin "object.__class__") = some true) (hm:mroIn K D (.type "object") = some true) (hb:mroIn K D (.type "BaseException") = some true)
  (X:K.In s.heap) (p:ExcTy x D s.heap) (hq:Q (some (.ref D)) { s with toks:=s.toks + 1 }):wpAny (model prog w) A (getAttr? (.ref x) "__class__") Q E s:=by
 obtain ⟨hh,gg,dd,tt,oo⟩:=s
 have L0:=p.ty (model prog w)
 have L1:=looks_findIn (M:=model prog w) X hg
 have L2:=looks_findIn (M:=model prog w) X hg2
 have f3:=F.excAttr_ValueError.ga.bind (.ref x)
 unfold getAttr? getAttrBy? getAttrBy
 refine wpAny_bind (wpAny_mkText (wpAny_bind (wpAny_attempt (wpAny_holding (wpAny_bind (L0.at (wpAny_bind (L1.at ?_))))))))
 show wpAny _ _ (getAttrByItsOwn _ _ _ _ _ _) _ _ _
 unfold getAttrByItsOwn hookBefore callGetattribute
 refine wpAny_bind (L2.at (wpAny_bind (wpAny_attempt (wpAny_holding ?_))))
 show wpAny _ _ (boundAndCalled _ _ _) _ _ _
 unfold boundAndCalled
 rw [f3]
 refine wpAny_bind (wpAny_pure ?_)
 refine wpAny_call (Zn8 ha hn htk hm hb X p ?_)
 exact handed_on rfl (wpAny_pure hq)
theorem kitx_exc (hg:findIn K (.ref D) "__getattribute__" = some (some (.builtin "BaseException.__getattribute__"))) (hg2:findIn K (.ref D) "__getattr__" = some none) (hb:mroIn K D (.type "BaseException") = some true) (hc:(clsIn K D).isSome = true) (ha:findIn K (.ref D) "__class__" = some (some (.builtin "object.__class__")))
  (hn:specialIn K (.builtin "object.__class__") "__get__" = some (some (.builtin "getset_descriptor.__get__"))) (htk:takesIn K (.builtin "object.__class__") = some true) (hm:mroIn K D (.type "object") = some true):
  KitX K (.ref x) (.ref D) (ExcTy x D):=by
 obtain ⟨cdD,hcD⟩:=Option.isSome_iff_exists.mp hc
 unfold clsIn at hcD
 split at hcD
 ·rename_i c' d' cd' sl' ho
  refine ⟨fun M h _ p=>p.ty M,fun M h X _=>?_,fun h tp dd its n sl X htp=>?_,fun X p k=>Zjy hg hg2 ha hn htk hm hb X p k⟩
  ·intro A' Q' E' s' k q
   unfold isType loadHead
   exact wpAny_bind (wpAny_loadPart (k _ _ (X _ _ ho)) (wpAny_pure q))
  ·refine Bool.eq_false_iff.mpr fun q=>?_
   have e:D = tp:=Value.ref.inj (beq_iff_eq.mp q)
   rw [← e] at htp
   cases (X _ _ ho).symm.trans htp
 ·cases hcD
theorem kit1 {t:Value} {C:Addr} {cd:ClassData} {b:Bool} (cl:clsIn K C = some cd) (ty:typeIn K (.ref C) = some (.type "type")) (se:subIn K (.ref C) (.ref C) = some true) (sb:subIn K t (.ref C) = some b):kitOne K t (.ref C) = some b:=by
 unfold kitOne
 by_cases q:(t == .ref C) = true
 ·rw [if_pos q]
  rw [beq_iff_eq.mp q,se] at sb
  exact sb
 ·rw [if_neg q]
  show (if ((clsIn K C).isSome && typeIn K (.ref C) == some (.type "type")) = true then subIn K t (.ref C) else none) = some b
  rw [cl,ty,if_pos (by rfl)]
  exact sb
theorem kit1T {t:Value} {T:String} {b:Bool} (hm:kitMeta T = true) (ne:(t == .type T) = false) (sb:subIn K t (.type T) = some b):kitOne K t (.type T) = some b:=by
 unfold kitOne
 rw [if_neg (by rw [ne]; decide)]
 show (if kitMeta T = true then subIn K t (.type T) else none) = some b
 rw [if_pos hm]
 exact sb
theorem kitF {t c:Value} {r:List Value} {b:Bool} (h:kitOne K t c = some false) (hr:kitAny K t r = some b):kitAny K t (c :: r) = some b:=by unfold kitAny; rw [h]; exact hr
theorem kitT {t c:Value} {r:List Value} (h:kitOne K t c = some true):kitAny K t (c :: r) = some true:=by unfold kitAny; rw [h]
theorem kit0 {t:Value}:kitAny K t [] = some false:=rfl
theorem exm1 {C CE:Addr} {cd:ClassData} (cl:clsIn K CE = some cd) (ty:typeIn K (.ref CE) = some (.type "type")) (bs:subIn K (.ref CE) (.type "BaseException") = some true) (sb:subIn K (.ref C) (.ref CE) = some true):exmOne K (.ref C) (.ref CE) = some true:=by
 unfold exmOne
 rw [bs,if_pos (by rfl)]
 show (if ((clsIn K CE).isSome && typeIn K (.ref CE) == some (.type "type")) = true then subIn K (.ref C) (.ref CE) else none) = some true
 rw [cl,ty,if_pos (by rfl)]
 exact sb
end
end PySem.W
namespace L3
open PySem PySem.Spec PyProof.Rows L2
theorem Zfc:bootBuiltins "ValueError" = some (.type "ValueError"):=by decide +kernel
structure ZdE (K:PySem.W.Frag) (C:Addr):Prop where
 ga:PySem.W.findIn K (.ref C) "__getattribute__" = some (some (.builtin "BaseException.__getattribute__"))
 gh:PySem.W.findIn K (.ref C) "__getattr__" = some none
 be:PySem.W.mroIn K C (.type "BaseException") = some true
 cl:(PySem.W.clsIn K C).isSome = true
 fa:PySem.W.findIn K (.ref C) "__class__" = some (some (.builtin "object.__class__"))
 sp:PySem.W.specialIn K (.builtin "object.__class__") "__get__" = some (some (.builtin "getset_descriptor.__get__"))
 tk:PySem.W.takesIn K (.builtin "object.__class__") = some true
 mo:PySem.W.mroIn K C (.type "object") = some true
theorem ZdE.kit {K:PySem.W.Frag} {C x:Addr} (h:ZdE K C):PySem.W.KitX K (.ref x) (.ref C) (PySem.W.ExcTy x C):=PySem.W.kitx_exc h.ga h.gh h.be h.cl h.fa h.sp h.tk h.mo
noncomputable def tK (vs:List V):TA:=fun _ H Q=>Q vs H
section
variable {X:Cx} {a:Expr} {es:List Expr} {f:E3} {p p1 p2 pos pt:Pos} {x:Str} {C:Addr} {vs:List V} {yes no:List (List Nat)}
theorem Zms:PA X [] (tK []):=ZeQ.imp fun σ H Q h=>h
theorem Zdk (hm:X.mg x = some (.ref C)) (h:PA X es (tK vs)) (hg:Gl X x:=by rfl) (hd:(x == ("__debug__":Str)) = false:=by decide) (he:starEach (.Name x p1 :: es) X.env = (false,eval (.Name x p1) X.env) :: starEach es X.env:=by rfl):PA X (.Name x p1 :: es) (tK (.ref C :: vs)):=
 (Zcr (ZiG hg hm (v:=.ref C) rfl hd) h he).imp fun σ H Q h=>h
structure Ze3 (K:PySem.W.Frag) (yes no:List (List Nat)) (cs:List Value):Prop where
 non:PySem.W.kitAny K (.type "NoneType") cs = some false
 yes:∀ c C,yes.contains c = true → ClsAt K c C → ZdE K C ∧ PySem.W.kitAny K (.ref C) cs = some true
 no:∀ c C,no.contains c = true → ClsAt K c C → ZdE K C ∧ PySem.W.kitAny K (.ref C) cs = some false
theorem Zhm {pins:List (Addr × Obj)} {σ:St} {H:Hp} {s:Shared} {ι:List Addr} {M:Store} {d:D} {v:V} {u:Value} {cs:List Value} {Q:VK} (I:Inv X pins σ H s) (S:Zaa X.K H ι M) (r:Rep X.K H ι d v) (ru:RelV v u) (hk:Ze3 X.K yes no cs) (q:Zae X.K H ι Q (ZaY yes no d M)):
  ∃ (t:Value) (Hc:Heap → Prop) (b:Bool),PySem.W.KitX X.K u t Hc ∧ Hc s.heap ∧ u ≠ .builtin "__main__.__loader__#opaque" ∧ PySem.W.kitAny X.K t cs = some b ∧ Q (.bl b) H:=by
 cases d with
 | non=>
  have:=r.non_inv; subst this
  cases (show u = Value.none from ru)
  exact ⟨_,_,false,PySem.W.kitx_none,True.intro,(fun z=>nomatch z),hk.non,Zae.ok q S Rep.bl⟩
 | ref n=>
  simp only [ZaY] at q
  split at q
  ·rename_i c fs hn
   obtain ⟨a,ha,rfl⟩:=r.ref_inv
   cases (show u = Value.ref a from ru)
   rcases S.obj n _ a hn ha with ⟨_,_,_,_,z,_⟩ | ⟨C,e,_,at_,_⟩
   ·exact absurd rfl z.2
   ·have at_:ClsAt X.K c C:=at_
    obtain ⟨⟨o,ws,h1,h2,_⟩,_⟩:=(show Zbf X.prog X.w H s.heap a (exH a C) from I.hok a _ e)
    split at q
    ·rename_i hy
     obtain ⟨k1,k2⟩:=hk.yes c C hy at_
     exact ⟨_,_,true,k1.kit,⟨o,h1,h2⟩,(fun z=>nomatch z),k2,Zae.ok q S Rep.bl⟩
    ·split at q
     ·rename_i hy
      obtain ⟨k1,k2⟩:=hk.no c C hy at_
      exact ⟨_,_,false,k1.kit,⟨o,h1,h2⟩,(fun z=>nomatch z),k2,Zae.ok q S Rep.bl⟩
     ·exact q.elim
  ·exact q.elim
 | _=>exact q.elim
noncomputable def refsOf (cs:List Addr):List Value:=cs.map Value.ref
theorem Zgl:∀ {cs:List Addr} {us:List Value},Vals (cs.map V.ref) us → us = refsOf cs
 | [],_,.nil=>rfl
 | c :: cs,_,.cons r t=>by rw [Zgl (cs:=cs) t]; cases r; rfl
theorem Zj1 {cs:List Addr} {k} (hm:X.mg "isinstance" = none) (hk:Ze3 X.K yes no (refsOf cs)) (h:C3 X a f) (hc:PA X es (tK (cs.map V.ref))) (hl:cs.length ≤ 100:=by exact Nat.le_of_ble_eq_true rfl) (hg:Gl X "isinstance":=by rfl)
  (hs:starEach (a :: [.Tuple es k pt]) X.env = (false,eval a X.env) :: starEach [.Tuple es k pt] X.env:=by rfl) (hs1:starEach (.Tuple es k pt :: []) X.env = (false,eval (.Tuple es k pt) X.env) :: starEach [] X.env:=by rfl)
  (hpl:(backTo pos (starEach [.Tuple es k pt] X.env)).any (·.1) = false:=by rfl):C3 X (.Call (.Name "isinstance" p) [a,.Tuple es k pt] [] pos) (e1 (ZaY yes no) f):=by
 have hcl:ZbK X (.builtin "isinstance") (fun xs H Q=>∃ ι M d x q,xs = [x,.ref q] ∧ H q = some (.tup (cs.map V.ref)) ∧ Zaa X.K H ι M ∧ Rep X.K H ι d x ∧ Zae X.K H ι Q (ZaY yes no d M)):=by
  intro pins s σ H xs us Q I r q
  obtain ⟨ι,M,d,x,tp,rfl,et,S,rd,q⟩:=q
  obtain ⟨u,w',rfl,ru,rw'⟩:=vals2 r
  cases rw'
  obtain ⟨t,Hc,b,kx,hh,hl,ht,hq⟩:=Zhm I S rd ru hk q
  obtain ⟨_,its,rt,ptt⟩:=(show Zbf X.prog X.w H s.heap tp (.tup (cs.map V.ref)) from I.hok tp _ et)
  obtain rfl:=Zgl rt
  obtain ⟨ob,g1,⟨g2,g3⟩,n,g4⟩:=ptt
  have ho:ob = { cls:=.type "tuple",dict:=ob.dict,data:=.seq (refsOf cs).toArray n,slots:=ob.slots }:=by
   cases ob; simp only at g2 g4; subst g2 g4; rfl
  rw [ho] at g1
  exact PySem.W.kia_tup kx I.kIn hh g1 ht hl fun tk=>⟨.bl b,H,I.tok _,rfl,hq⟩
 refine (ZeF hcl hg hm ZcT (Zcr h (Zcr (Zkq hc) ZeQ hs1) hs) (by decide) (by decide) hs hpl).imp fun σ H Q zz1=>?_
 obtain ⟨ι,M,env,S,E,h⟩:=zz1
 obtain ⟨d,M1,e1,h⟩:=Zae.bind h
 refine ⟨ι,M,env,S,E,?_⟩
 rw [e1]
 intro v H1 ι1 x1 S1 r1
 refine ⟨?_,fun tp ht=>?_⟩
 ·rw [List.length_map]; exact Nat.le_trans hl (by decide)
 ·have x2:Ext X.K H1 ι1 (upd H1 tp (.tup (cs.map V.ref))) ι1:=Loose.ext (.inl ht)
  exact ⟨ι1,M1,d,v,tp,rfl,Zby,S1.other (.inl ht) (S1.fresh ht),r1.mono x2,(h.up x1).up x2⟩
theorem ZhE {c:Value} {cv:V} (hm:X.mg "isinstance" = none) (hk:Ze3 X.K yes no [c]) (h:C3 X a f) (hv:RelV cv c) (hx:PE X (.Name x p1) (tC cv)) (hc:∀ u,RelV cv u → u = c) (hg:Gl X "isinstance":=by rfl)
  (hs:starEach (a :: [.Name x p1]) X.env = (false,eval a X.env) :: starEach [.Name x p1] X.env:=by rfl) (hs1:starEach (.Name x p1 :: []) X.env = (false,eval (.Name x p1) X.env) :: starEach [] X.env:=by rfl)
  (hpl:(backTo pos (starEach [.Name x p1] X.env)).any (·.1) = false:=by rfl):C3 X (.Call (.Name "isinstance" p) [a,.Name x p1] [] pos) (e1 (ZaY yes no) f):=by
 have hcl:ZbK X (.builtin "isinstance") (fun xs H Q=>∃ ι M d x,xs = [x,cv] ∧ Zaa X.K H ι M ∧ Rep X.K H ι d x ∧ Zae X.K H ι Q (ZaY yes no d M)):=by
  intro pins s σ H xs us Q I r q
  obtain ⟨ι,M,d,x,rfl,S,rd,q⟩:=q
  obtain ⟨u,w',rfl,ru,rw'⟩:=vals2 r
  obtain rfl:=hc _ rw'
  obtain ⟨t,Hc,b,kx,hh,hl,ht,hq⟩:=Zhm I S rd ru hk q
  have h1:PySem.W.kitOne X.K t w' = some b:=by
   unfold PySem.W.kitAny at ht
   split at ht
   ·rename_i q; cases ht; exact q
   ·rename_i q; rw [q]; exact ht
   ·cases ht
  exact PySem.W.kia_one kx I.kIn hh h1 hl fun tk=>⟨.bl b,H,I.tok _,rfl,hq⟩
 refine (ZeF hcl hg hm ZcT (Zcr h (Zcr hx ZeQ hs1) hs) (by decide) (by decide) hs hpl).imp fun σ H Q zz1=>?_
 obtain ⟨ι,M,env,S,E,h⟩:=zz1
 obtain ⟨d,M1,e1,h⟩:=Zae.bind h
 refine ⟨ι,M,env,S,E,?_⟩
 rw [e1]
 intro v H1 ι1 x1 S1 r1
 exact ⟨ι1,M1,d,v,rfl,S1,r1,h.up x1⟩
theorem Zjr (hm:X.mg "isinstance" = none) (hx:X.mg x = some (.ref C)) (hk:Ze3 X.K yes no [.ref C]) (h:C3 X a f) (hg1:Gl X x:=by rfl) (hd:(x == ("__debug__":Str)) = false:=by decide) (hg:Gl X "isinstance":=by rfl)
  (hs:starEach (a :: [.Name x p1]) X.env = (false,eval a X.env) :: starEach [.Name x p1] X.env:=by rfl) (hs1:starEach (.Name x p1 :: []) X.env = (false,eval (.Name x p1) X.env) :: starEach [] X.env:=by rfl)
  (hpl:(backTo pos (starEach [.Name x p1] X.env)).any (·.1) = false:=by rfl):C3 X (.Call (.Name "isinstance" p) [a,.Name x p1] [] pos) (e1 (ZaY yes no) f):=
 ZhE (cv:=.ref C) hm hk h rfl (ZiG hg1 hx (v:=.ref C) rfl hd) (fun u q=>q) hg hs hs1 hpl
theorem Zjw {T:String} (hm:X.mg "isinstance" = none) (hx:X.mg x = none) (hv:bootBuiltins x = some (.type T)) (hk:Ze3 X.K yes no [.type T]) (h:C3 X a f) (hg1:Gl X x:=by rfl) (hn:x ≠ "__name__":=by decide) (hd:(x == ("__debug__":Str)) = false:=by decide) (hg:Gl X "isinstance":=by rfl)
  (hs:starEach (a :: [.Name x p1]) X.env = (false,eval a X.env) :: starEach [.Name x p1] X.env:=by rfl) (hs1:starEach (.Name x p1 :: []) X.env = (false,eval (.Name x p1) X.env) :: starEach [] X.env:=by rfl)
  (hpl:(backTo pos (starEach [.Name x p1] X.env)).any (·.1) = false:=by rfl):C3 X (.Call (.Name "isinstance" p) [a,.Name x p1] [] pos) (e1 (ZaY yes no) f):=
 ZhE (cv:=.ty T) hm hk h rfl (Zir hg1 hx hv (v:=.ty T) rfl hn hd) (fun u q=>q) hg hs hs1 hpl
end
end L3
namespace L3
open PySem PySem.Spec PyProof.Rows L2
noncomputable def Zln (es:Array DictEntry):Bool:=es.toList.all fun e=>match e.key with
 | .str _ _=>true
 | _=>false
theorem ZlK {es:Array DictEntry} (h:Zln es = true):StrKeys es:=fun e he=>by
 have:=List.all_eq_true.mp h e (Array.mem_toList_iff.mpr he)
 split at this
 ·rename_i n t q; exact ⟨n,t,q⟩
 ·cases this
section
variable {K:PySem.W.Frag} {h:Heap} {a:Addr} {oc:Value} {od:Option Addr} {es:Array DictEntry} {ep:Nat} {sl:Array (Option Value)}
theorem Zl3 (X:K.In h) (l:K.lookup a = some ⟨oc,od,.dict es ep,sl⟩) (sk:Zln es = true):h.Ns a (nsFind es):=⟨_,es,ep,X _ _ l,rfl,ZlK sk,fun _=>rfl⟩
theorem ZiQ {c:List Nat} {C C':Addr} (x:ClsAt K c C) (y:ClsAt K c C'):C' = C:=by
 have:=y.symm.trans x
 cases this; rfl
theorem Zdc {P:Addr → Prop}:∀ c C,([]:List (List Nat)).contains c = true → ClsAt K c C → P C:=fun c C z=>by cases z
theorem Zfh {P:Addr → Prop} {k:List Nat} {ks:List (List Nat)} {C1:Addr} (x:ClsAt K k C1) (p:P C1) (t:∀ c C,ks.contains c = true → ClsAt K c C → P C):∀ c C,(k :: ks).contains c = true → ClsAt K c C → P C:=fun c C z at_=>by
 rw [List.contains_cons,Bool.or_eq_true] at z
 rcases z with z | z
 ·rw [beq_iff_eq.mp z] at at_; rw [ZiQ x at_]; exact p
 ·exact t c C z at_
end
end L3
namespace L3
open PySem PySem.Spec PyProof.Rows L2
section
variable {X:Cx} {tg:Expr} {pos:Pos}
theorem ZiF {iter:Expr} {body:List Stmt} {i:I3} {g:G3} {u:S3} (hp:PassesOwn (model X.prog X.w) X.A X.env X.xe) (hc:X.calm = true) (hi:CI X tg iter i) (hg:CG X tg g) (hb:Zf2 X true body u) (hs:∀ x,foldedSetIterable iter X.env x = pure x:=by intro _; rfl):
  CSX X true (.For tg iter body [] pos) (Zf1 i g u):=(ZkF hp hc hi hg hb hs).imp fun D σ H zz1=>by
 obtain ⟨ι,M,env,S,E,h⟩:=zz1
 unfold Zf1 at h
 cases q:i env M with
 | exc x M1=>rw [q] at h; exact h.elim
 | bad=>rw [q] at h; exact h.elim
 | ok it M1=>
  rw [q] at h
  refine ⟨ι,M,env,S,E,?_⟩
  rw [q]
  intro J H1 ι1 x1 S1 ok
  refine ⟨fun i m σ2 H2=>m = it.items.length - i ∧ i ≤ it.items.length ∧ ∃ ι2 M2 env2,Ext X.K H1 ι1 H2 ι2 ∧ Zaa X.K H2 ι2 M2 ∧ ZaT X.K H2 ι2 env2 σ2 ∧ Zdy X true σ2 H2 ι2 D (Zaw it g u (it.items.drop i) env2 M2),
   ⟨_,rfl,Nat.zero_le _,ι1,M1,env,Ext.refl,S1,E.mono x1,Zdy.up x1 (fun z=>nomatch z) h⟩,?_⟩
  rintro i m σ2 H2 ⟨rfl,hi,ι2,M2,env2,x2,S2,E2,h2⟩
  by_cases hlt:i < it.items.length
  ·have hd:it.items[i]? = some it.items[i]:=by simp [hlt]
   rw [List.drop_eq_getElem_cons hlt] at h2
   unfold Zaw at h2
   by_cases lk:locked it M2 = true
   ·rw [if_pos lk] at h2
    obtain ⟨go,yl⟩:=(ok i H2 ι2 M2 x2 S2 lk).1 _ hd
    cases eg:g it.items[i] env2 with
    | none=>rw [eg] at h2; exact h2.elim
    | some env3=>
     rw [eg] at h2
     refine .inr ⟨go,fun σ' H'=>∃ ι3 M3 env4,Ext X.K H2 ι2 H' ι3 ∧ Zaa X.K H' ι3 M3 ∧ ZaT X.K H' ι3 env4 σ' ∧ Zdy X true σ' H' ι3 D (Zaw it g u (it.items.drop (i + 1)) env4 M3),
      fun σ' H' ⟨ι3,M3,env4,x3,S3,E3,h3⟩=>⟨it.items.length - (i + 1),by omega,rfl,hlt,ι3,M3,env4,x2.trans x3,S3,E3,h3⟩,fun x H' hy=>?_⟩
     obtain ⟨rfl,rx⟩:=yl x H' hy
     refine ⟨ι2,M2,env2,_,env3,S2,E2,rx,eg,fun σ' E'=>⟨ι2,M2,env3,S2,E',?_⟩⟩
     cases qu:u env3 M2 with
     | nx e' M'=>simp only [qu] at h2; exact fun σ' H' ι' x' S' E'=>⟨ι',M',e',x',S',E',h2.up x' (fun z=>nomatch z)⟩
     | ct e' M'=>simp only [qu] at h2; exact fun σ' H' ι' x' S' E'=>⟨ι',M',e',x',S',E',h2.up x' (fun z=>nomatch z)⟩
     | bk e' M'=>simp only [qu] at h2; exact h2
     | rt d M'=>simp only [qu] at h2; exact h2
     | exc x' M'=>simp only [qu] at h2; exact fun σ'' a C H' ι' _=>h2 σ'' a C H' ι' (fun z=>nomatch z)
     | bad=>simp only [qu] at h2; exact h2.elim
   ·rw [if_neg lk] at h2; exact h2.elim
  ·have e0:i = it.items.length:=Nat.le_antisymm hi (Nat.le_of_not_lt hlt)
   subst e0
   rw [List.drop_length] at h2
   unfold Zaw at h2
   by_cases lk:locked it M2 = true
   ·rw [if_pos lk] at h2
    exact .inl ⟨(ok _ H2 ι2 M2 x2 S2 lk).2 rfl,h2 σ2 H2 ι2 Ext.refl S2 E2⟩
   ·rw [if_neg lk] at h2; exact h2.elim
theorem Zll {e:Expr} {f:E3} (h:C3X X e f) (hs:starEach [e] X.env = (false,eval e X.env) :: starEach [] X.env:=by rfl):C3X X (.List [e] pos) (Zag (Za f Ze)):=(Zke (Zcr h ZeQ hs)).imp fun σ H Q zz1=>by
 obtain ⟨ι,M,env,S,E,h⟩:=zz1
 refine ⟨ι,M,env,S,E,?_⟩
 unfold Zag Za Ze at h
 cases q:f env M with
 | bad=>rw [q] at h; exact h.elim
 | exc x M1=>rw [q] at h; exact h
 | ok d M1=>
  rw [q] at h
  intro v H1 ι1 x1 S1 r1
  simp only [R3.bind] at h
  refine ⟨Nat.le_trans (show 1 ≤ SZ by decide) Zbb,fun p hp=>?_⟩
  obtain ⟨x2,S2,r2⟩:=S1.lst hp (Zq.cons r1 Zq.nil)
  rw [if_pos (show [d].length ≤ SZ by simp [SZ])] at h
  exact h _ _ _ (x1.trans x2) S2 r2
end
end L3
set_option maxHeartbeats 400000
namespace Law
open PySem L3
noncomputable section
noncomputable def Zd6:S3:=ZaF (Zdd (e1 (ZcB .int) (Zb 0)) (e1 Za2 (e1 (ZcB .bool) (Zb 0))))
noncomputable def ZbH:F3:=mkF 1 1 Zd6
noncomputable def ZcN:S3:=Zw (sIf (eNo (e1 Za2 (e1 (ZcB .list) (Zb 0)))) (Zca [66,97,100,67,117,116] (Za (eC (.str [116,104,101,32,99,117,116,115,32,97,114,101,32,110,111,32,108,105,115,116])) (Ze))) (sNo (Zam))) (Zw (sNo (Zal 3 (eC (.int 0)))) (Zf1 (ZfS (Zb 0)) (Zbt 4) (Zw (sIf (eNo (eOr (e1 Za2 (Zt ZbH (Za (Zb 4) (Ze)))) (eOr (e2 ZcQ (Zb 4) (e2 Zo (Zb 3) (Zb 1))) (e2 Zdq (Zb 4) (Zb 2))))) (Zca [66,97,100,67,117,116] (Za (eC (.str [97,32,99,117,116,32,105,115,32,110,111,110,101,32,111,102,32,116,104,101,32,116,97,98,108,101,39,115,44,32,111,114,32,116,111,111,32,110,101,97,114,32,98,101,104,105,110,100,32,116,104,101,32,111,110,101,32,97,104,101,97,100])) (Ze))) (sNo (Zam))) (sNo (Zal 3 (Zb 4))))))
noncomputable def ZaA:F3:=mkF 3 5 ZcN
noncomputable def Ze4:S3:=Zw (ZaS (Zt ZaA (Zc7 (Za (Zb 1) (Za (eC (.int 1)) (Za (e2 ZaJ (Zas ZaD (Za (Zb 0) (Ze))) (eC (.int 2))) (Ze))))))) (sNo (ZaF (ZkA (Zjd (e2 Zo (Zag (Za (eC (.int 0)) (Ze))) (Zb 1)) (e2 Zo (Zb 1) (Zag (Za (e2 ZaJ (Zas ZaD (Za (Zb 0) (Ze))) (eC (.int 1))) (Ze))))) 2 (ZfG [2,3]) [] (eSl (Zb 0) (Zx (Zb 2)) (Zx (e2 Zo (Zb 3) (eC (.int 1))))))))
noncomputable def Zbo:F3:=mkF 2 2 Ze4
noncomputable def ZfK:S3:=Zw (ZaS (Zt ZaA (Zc7 (Za (Zb 1) (Za (eC (.int 0)) (Za (Zas ZaD (Za (Zb 0) (Ze))) (Ze))))))) (sNo (ZaF (ZkA (Zjd (e2 Zo (Zag (Za (eC (.int 0)) (Ze))) (Zb 1)) (e2 Zo (Zb 1) (Zag (Za (Zas ZaD (Za (Zb 0) (Ze))) (Ze))))) 2 (ZfG [2,3]) [] (eSl (Zb 0) (Zx (Zb 2)) (Zx (Zb 3))))))
noncomputable def ZbJ:F3:=mkF 2 2 ZfK
noncomputable def ZdF:S3:=Zw (sIf (eNo (e2 ZbG (Zas ZaD (Za (Zb 0) (Ze))) (eC (.int 0)))) (Zca [66,97,100,67,117,116] (Za (eC (.str [116,104,101,114,101,32,97,114,101,32,110,111,32,112,105,101,99,101,115])) (Ze))) (sNo (Zam))) (Zw (sNo (Zal 1 (Zag (Ze)))) (Zw (Zf1 (ZfS (Zb 0)) (Zbt 2) (Zw (sIf (eNo (e2 ZbG (Zas ZaD (Za (Zb 2) (Ze))) (eC (.int 0)))) (Zca [66,97,100,67,117,116] (Za (eC (.str [97,32,112,105,101,99,101,32,104,97,115,32,110,111,32,114,111,119,115])) (Ze))) (sNo (Zam))) (Zw (sIf (eNo (Zdd (e2 Zdq (Zas ZaD (Za (Zb 1) (Ze))) (eC (.int 0))) (e2 ZdQ (e2 Zr (Zb 2) (eC (.int 0))) (e2 Zr (Zb 1) (e1 Zb5 (eC (.int 1))))))) (Zca [66,97,100,67,117,116] (Za (eC (.str [97,32,112,105,101,99,101,32,100,111,101,115,32,110,111,116,32,98,101,103,105,110,32,119,105,116,104,32,116,104,101,32,108,97,115,116,32,114,111,119,32,111,102,32,116,104,101,32,112,105,101,99,101,32,97,104,101,97,100])) (Ze))) (sNo (Zam))) (sNo (ZaS (Zez tyL Zbs (Zb 1) (Za (eIf (e2 ZbG (Zas ZaD (Za (Zb 1) (Ze))) (eC (.int 0))) (Zb 2) (eSl (Zb 2) (Zx (eC (.int 1))) (Zak))) (Ze)))))))) (sNo (ZaF (Zas Zbx (Za (Zb 1) (Ze)))))))
noncomputable def Zap:F3:=mkF 1 3 ZdF
noncomputable def ZbO:S3:=Zw (Zal 1 (e2 Zr (Zb 0) (eC (.int 0)))) (Zw (Zal 2 (e2 Zr (Zb 0) (eC (.int 1)))) (Zw (Zco (Zb 0) (eC (.int 1)) (e2 Zo (Zb 2) (eC (.int 1)))) (Zw (sIf (e2 ZcQ (Zb 2) (Zas ZaD (Za (Zb 1) (Ze)))) (ZaF (e2 Zr (Zb 1) (Zb 2))) (Zam)) (Zw (sIf (e2 ZbG (Zas ZaD (Za (Zb 1) (Ze))) (eC (.int 0))) (ZaF (e2 Zo (e2 ZdT (e2 ZdT (Zb 2) (Zb 2)) (eC (.int 3))) (Zb 2))) (Zam)) (ZaF (e2 Zo (e2 Zaq (e2 Zr (Zb 1) (e2 Zab (Zb 2) (Zas ZaD (Za (Zb 1) (Ze))))) (eC (.int 2))) (e2 ZdT (Zb 2) (Zb 2))))))))
noncomputable def Zac:F3:=mkF 1 3 ZbO
noncomputable def ZbA:S3:=Zw (sIf (e2 ZbG (e2 Zab (Zb 0) (eC (.int 4))) (eC (.int 0))) (ZaF (e2 Zab (e2 Zaq (Zb 0) (eC (.int 4))) (e2 Ze5 (eC (.int 10)) (eC (.int 59))))) (Zam)) (Zw (sIf (e2 ZbG (e2 Zab (Zb 0) (eC (.int 4))) (eC (.int 1))) (ZaF (e2 ZaJ (e1 Zb5 (eC (.int 1))) (e2 Zab (e2 Zaq (Zb 0) (eC (.int 4))) (e2 Ze5 (eC (.int 10)) (eC (.int 59)))))) (Zam)) (ZaF (e2 Zab (e2 Zaq (Zb 0) (eC (.int 4))) (eC (.int 5)))))
noncomputable def Zz:F3:=mkF 1 1 ZbA
noncomputable def Zc3:S3:=Zw (Zal 2 (Zag (Ze))) (Zw (Zfo (ZcP (Zb 1)) (Zbt 3) (Zw (Zal 4 (Zt Zac (Za (Zb 0) (Ze)))) (Zw (Zal 5 (Zag (Za (eC (.int 0)) (Za (eC (.int 0)) (Za (eC (.int 0)) (Za (eC (.int 0)) (Za (eC (.int 0)) (Za (eC (.int 0)) (Za (eC (.int 0)) (Za (eC (.int 0)) (Ze))))))))))) (Zw (Zco (Zb 5) (e2 Zab (e2 Zaq (Zb 4) (eC (.int 3))) (eC (.int 8))) (Zt Zz (Za (e2 Zaq (Zb 4) (eC (.int 24))) (Ze)))) (Zw (Zco (Zb 5) (e2 Zab (e2 Zaq (Zb 4) (eC (.int 7))) (eC (.int 8))) (e2 Zab (Zb 3) (eC (.int 3)))) (ZaS (Zez tyL Zcb (Zb 2) (Za (Zcv (Za (e2 Zo (e2 ZaJ (e2 Zab (Zb 4) (eC (.int 3))) (eC (.int 1))) (e2 ZdT (e2 Zab (Zb 3) (eC (.int 2))) (e2 Zab (Zb 4) (eC (.int 7))))) (Za (Zas Zbx (Za (Zb 5) (Ze))) (Ze)))) (Ze))))))))) (ZaF (Zb 2)))
noncomputable def Zbr:F3:=mkF 2 6 Zc3
noncomputable def Zdo:S3:=Zw (Zal 2 (Zag (Ze))) (Zw (Zfo (ZcP (Zb 1)) (Zbt 3) (Zw (Zal 4 (Zt Zac (Za (Zb 0) (Ze)))) (ZaS (Zez tyL Zcb (Zb 2) (Za (Zcv (Za (Zt Zz (Za (Zb 4) (Ze))) (Za (e2 ZaJ (e2 Zab (Zb 4) (eC (.int 9))) (eC (.int 2))) (Za (e2 Zr (Zag (Za (eC (.str [103,101,116])) (Za (eC (.str [115,101,116])) (Za (eC (.str [106,117,109,112])) (Ze))))) (e2 Zab (Zb 4) (eC (.int 3)))) (Za (Zt Zz (Za (e2 Zaq (Zb 4) (eC (.int 3))) (Ze))) (Ze)))))) (Ze)))))) (ZaF (Zb 2)))
noncomputable def ZbE:F3:=mkF 2 5 Zdo
noncomputable def ZeX:S3:=Zw (Zal 3 (Zag (Ze))) (Zw (Zal 4 (eC (.int 0))) (Zw (Zfo (ZfS (Zb 2)) (Zbt 5) (Zw (Zal 4 (e2 Zo (Zb 4) (e2 Zr (Zag (Za (eC (.int 0)) (Za (eC (.int 1)) (Za (eC (.int 1)) (Za (eC (.int 2)) (Ze)))))) (e2 Zab (Zb 5) (eC (.int 4)))))) (ZaS (Zez tyL Zcb (Zb 3) (Za (Zb 4) (Ze)))))) (Zw (Zal 5 (Zt Zac (Za (Zb 0) (Ze)))) (Zw (sIf (Zdd (e2 ZdQ (Zb 3) (Zag (Ze))) (e2 Zdq (e2 Zab (Zb 5) (eC (.int 3))) (eC (.int 0)))) (Zw (Zal 6 (e2 Zab (e2 Zaq (Zb 5) (eC (.int 3))) (Zas ZaD (Za (Zb 3) (Ze))))) (Zw (Zal 7 (e2 Zab (e2 Zaq (Zb 5) (eC (.int 11))) (e2 Ze5 (eC (.int 10)) (eC (.int 58))))) (Zw (Zal 8 (Zag (Za (eC (.int 0)) (Za (e2 ZaJ (Zb 1) (eC (.int 1))) (Za (Zb 1) (Za (e2 Zo (Zb 1) (eC (.int 1))) (Za (e1 Zb5 (eC (.int 1))) (Za (e2 ZaJ (e1 Zb5 (eC (.int 1))) (Zb 7)) (Za (e2 Zo (Zb 1) (Zb 7)) (Za (e2 Zr (Zb 3) (e2 ZaJ (Zb 6) (eC (.int 1)))) (Za (e2 Zr (Zb 3) (e1 Zb5 (eC (.int 1)))) (Ze)))))))))))) (Zco (Zb 3) (Zb 6) (e2 Zr (Zb 8) (e2 Zab (e2 Zaq (Zb 5) (eC (.int 5))) (Zas ZaD (Za (Zb 8) (Ze))))))))) (Zam)) (ZaF (Zb 3))))))
noncomputable def Zch:F3:=mkF 3 9 ZeX
noncomputable def Ze2:S3:=Zw (Zal 4 (Zb 1)) (Zw (Zfo (ZfS (Zb 0)) (Zbt 5) (Zw (sIf (eOr (e2 ZcQ (Zb 5) (Zb 4)) (e2 Zdq (Zb 5) (Zb 2))) (ZaF (eC (.bl false))) (Zam)) (Zal 4 (e2 Zo (Zb 5) (Zb 3))))) (ZaF (eC (.bl true))))
noncomputable def ZaX:F3:=mkF 4 6 Ze2
noncomputable def Zdt:S3:=Zw (Zal 3 (eC .non)) (Zw (Zal 4 (Zag (Ze))) (Zw (ZhQ [[66,97,100,67,117,116]] 5 (sIf (eNo (e2 ZbG (Zb 0) (eC (.int 0)))) (Zal 4 (Zt Zbo (Zc7 (Za (Zb 1) (Za (Zb 2) (Ze)))))) (sIf (eNo (e2 ZbG (Zb 0) (eC (.int 1)))) (Zal 4 (Zt ZbJ (Zc7 (Za (Zb 1) (Za (Zb 2) (Ze)))))) (Zal 4 (Zag (Za (Zt Zap (Zc7 (Za (Zb 1) (Ze)))) (Ze)))))) (Zal 3 (Zb 5))) (Zw (sIf (e1 (ZaY [] [[66,97,100,67,117,116]]) (Zb 3)) (ZaF (Zag (Za (eC (.bl false)) (Za (Zb 4) (Ze))))) (Zam)) (ZaF (Zag (Za (Zdd (e1 (ZaY [[66,97,100,67,117,116]] []) (Zb 3)) (e1 (ZaY [[66,97,100,67,117,116]] []) (Zb 3))) (Za (Zb 4) (Ze))))))))
noncomputable def Zn:F3:=mkF 3 6 Zdt
noncomputable def Zer:S3:=Zw (ZgA (Zt Zn (Za (Zb 0) (Za (Zb 1) (Za (Zas ZdU (Za (Zb 2) (Ze))) (Ze))))) [4,5]) (Zw (sIf (Zb 3) (ZaF (Zdd (e1 Za2 (Zb 4)) (Zdd (e1 (ZcB .list) (Zb 5)) (e2 ZbG (Zas ZaD (Za (Zb 5) (Ze))) (e2 Zo (Zas ZaD (Za (Zb 2) (Ze))) (eC (.int 1))))))) (Zam)) (ZaF (Zb 4)))
noncomputable def ZaN:F3:=mkF 4 6 Zer
noncomputable def ZdY:S3:=Zw (Zlh (Zb 0) (ZfG [2,3])) (Zw (sIf (e2 ZbG (e2 Zab (Zb 1) (eC (.int 9))) (eC (.int 8))) (ZaF (Zcv (Za (e2 Zo (Zb 2) (eC (.int 1))) (Za (Zb 3) (Ze))))) (Zam)) (ZaF (Zcv (Za (Zb 2) (Za (e2 Zo (e2 Zo (eSl (Zb 3) (Zak) (Zx (e2 Zab (Zb 1) (eC (.int 9))))) (Zcv (Za (e2 Zo (e2 Zr (Zb 3) (e2 Zab (Zb 1) (eC (.int 9)))) (eC (.int 1))) (Ze)))) (eSl (Zb 3) (Zx (e2 Zo (e2 Zab (Zb 1) (eC (.int 9))) (eC (.int 1)))) (Zak))) (Ze))))))
noncomputable def ZaP:F3:=mkF 2 4 ZdY
noncomputable def Zex:S3:=Zw (sIf (e2 ZcQ (Zas ZaD (Za (Zb 0) (Ze))) (eC (.int 3))) (ZaF (eC (.bl true))) (Zam)) (Zw (Zal 3 (Zas Zcw (Za (Zag (Za (e2 Zo (eC (.int 1)) (e2 Zab (Zb 2) (e2 ZaJ (Zas ZaD (Za (Zb 0) (Ze))) (eC (.int 2))))) (Za (Zb 1) (Ze)))) (Ze)))) (Zw (Zal 4 (Zag (Za (eSl (Zb 0) (Zak) (Zx (e2 Zo (e2 Zr (Zb 3) (eC (.int 0))) (eC (.int 1))))) (Za (eSl (Zb 0) (Zx (e2 Zr (Zb 3) (eC (.int 0)))) (Zx (e2 Zo (e2 Zr (Zb 3) (eC (.int 1))) (eC (.int 1))))) (Za (eSl (Zb 0) (Zx (e2 Zr (Zb 3) (eC (.int 1)))) (Zak)) (Ze)))))) (Zw (sIf (e2 ZdQ (Zt Zap (Za (Zb 4) (Ze))) (Zb 0)) (ZaF (eC (.bl false))) (Zam)) (Zw (Zfo (ZfS (Zag (Za (eC (.int 1)) (Za (eC (.int 2)) (Ze))))) (Zbt 5) (Zw (Zal 6 (e2 Zo (Zcv (Za (Zt ZaP (Za (e2 Zr (e2 Zr (Zb 4) (Zb 5)) (eC (.int 0))) (Za (e2 Zaq (Zb 2) (eC (.int 7))) (Ze)))) (Ze))) (eSl (e2 Zr (Zb 4) (Zb 5)) (Zx (eC (.int 1))) (Zak)))) (sIf (e1 Za2 (e2 Zr (Zt Zn (Za (eC (.int 2)) (Za (e2 Zo (e2 Zo (eSl (Zb 4) (Zak) (Zx (Zb 5))) (Zag (Za (Zb 6) (Ze)))) (eSl (Zb 4) (Zx (e2 Zo (Zb 5) (eC (.int 1)))) (Zak))) (Za (Zag (Ze)) (Ze))))) (eC (.int 0)))) (ZaF (eC (.bl false))) (Zam)))) (ZaF (eC (.bl true)))))))
noncomputable def ZbZ:F3:=mkF 3 7 Zex
noncomputable def ZcK:S3:=Zw (Zal 2 (Zt Zac (Za (Zb 0) (Ze)))) (Zw (sIf (eOr (e1 Za2 (e2 Zr (Zt Zn (Za (eC (.int 2)) (Za (Zag (Ze)) (Za (Zag (Ze)) (Ze))))) (eC (.int 0)))) (e1 Za2 (e2 Zr (Zt Zn (Za (eC (.int 2)) (Za (Zag (Za (Zcv (Ze)) (Ze))) (Za (Zag (Ze)) (Ze))))) (eC (.int 0))))) (ZaF (eC (.bl false))) (Zam)) (Zw (sIf (e2 ZcQ (Zas ZaD (Za (Zb 1) (Ze))) (eC (.int 2))) (ZaF (eC (.bl true))) (Zam)) (Zw (Zal 3 (e2 Zo (eC (.int 1)) (e2 Zab (Zb 2) (e2 ZaJ (Zas ZaD (Za (Zb 1) (Ze))) (eC (.int 1)))))) (Zw (Zal 4 (Zas Zbx (Za (eSl (Zb 1) (Zak) (Zx (Zb 3))) (Ze)))) (Zw (Zal 5 (Zas Zbx (Za (eSl (Zb 1) (Zx (e2 ZaJ (Zb 3) (eC (.int 1)))) (Zak)) (Ze)))) (Zw (sIf (eOr (e1 Za2 (e2 Zr (Zt Zn (Za (eC (.int 2)) (Za (Zag (Za (Zb 4) (Za (Zcv (Ze)) (Za (Zb 5) (Ze))))) (Za (Zag (Ze)) (Ze))))) (eC (.int 0)))) (e1 Za2 (e2 Zr (Zt Zn (Za (eC (.int 2)) (Za (Zag (Za (Zb 4) (Za (Zb 5) (Za (Zcv (Ze)) (Ze))))) (Za (Zag (Ze)) (Ze))))) (eC (.int 0))))) (ZaF (eC (.bl false))) (Zam)) (Zw (sIf (e1 Za2 (e2 Zr (Zt Zn (Za (eC (.int 2)) (Za (Zag (Za (Zcv (Ze)) (Za (Zb 4) (Za (Zb 5) (Ze))))) (Za (Zag (Ze)) (Ze))))) (eC (.int 0)))) (ZaF (eC (.bl false))) (Zam)) (Zw (Zal 6 (e2 Zo (Zcv (Za (Zt ZaP (Za (e2 Zr (Zb 5) (eC (.int 0))) (Za (e2 Zaq (Zb 2) (eC (.int 9))) (Ze)))) (Ze))) (eSl (Zb 5) (Zx (eC (.int 1))) (Zak)))) (Zw (sIf (eOr (e1 Za2 (e2 Zr (Zt Zn (Za (eC (.int 2)) (Za (Zag (Za (Zb 4) (Za (Zb 6) (Ze)))) (Za (Zag (Ze)) (Ze))))) (eC (.int 0)))) (e2 Zr (Zt Zn (Za (eC (.int 2)) (Za (Zag (Za (Zb 4) (Za (Zb 5) (Ze)))) (Za (Zag (Ze)) (Ze))))) (eC (.int 0)))) (ZaF (eC (.bl false))) (Zam)) (ZaF (Zdd (e2 ZbG (Zt Zap (Za (Zag (Za (Zb 4) (Za (eSl (Zb 4) (Zx (e1 Zb5 (eC (.int 1)))) (Zak)) (Za (Zb 5) (Ze))))) (Ze))) (Zb 1)) (Zt ZbZ (Za (Zb 1) (Za (Zb 3) (Za (e2 Zaq (Zb 2) (eC (.int 81))) (Ze))))))))))))))))
noncomputable def Zbl:F3:=mkF 2 7 ZcK
noncomputable def Zju:S3:=Zw (Zal 1 (Zag (Za (eSl (Zb 0) (Zak) (Zx (eC (.int 64)))) (Za (eC (.int 0)) (Ze))))) (Zw (Zal 2 (e2 Zab (Zt Zac (Za (Zb 1) (Ze))) (eC (.int 61)))) (Zw (Zal 3 (Zas Zbx (Za (Zt Zbr (Za (Zb 1) (Za (Zb 2) (Ze)))) (Ze)))) (Zw (Zal 4 (Zas Zbx (Za (Zt ZbE (Za (Zb 1) (Za (Zb 2) (Ze)))) (Ze)))) (Zw (Zal 5 (Zt Zch (Za (Zb 1) (Za (Zb 2) (Za (eSl (Zb 0) (Zx (eC (.int 4))) (Zx (eC (.int 64)))) (Ze)))))) (Zw (Zfo (ZcP (e2 Zo (Zas ZaD (Za (Zb 5) (Ze))) (eC (.int 1)))) (Zbt 6) (Zw (Zal 7 (e2 Zo (eSl (Zb 5) (Zx (Zb 6)) (Zak)) (eSl (Zb 5) (Zak) (Zx (Zb 6))))) (Zw (sIf (e2 ZbG (Zb 6) (eC (.int 0))) (Zal 7 (Zb 5)) (Zam)) (Zw (sIf (e1 Za2 (Zt ZaN (Za (eC (.int 0)) (Za (Zb 3) (Za (Zb 7) (Za (Zt ZaX (Za (Zb 7) (Za (eC (.int 1)) (Za (e2 ZaJ (Zb 2) (eC (.int 2))) (Za (eC (.int 1)) (Ze)))))) (Ze))))))) (ZaF (eC (.bl false))) (Zam)) (sIf (e1 Za2 (Zt ZaN (Za (eC (.int 1)) (Za (Zb 4) (Za (Zb 7) (Za (Zt ZaX (Za (Zb 7) (Za (eC (.int 0)) (Za (Zb 2) (Za (eC (.int 0)) (Ze)))))) (Ze))))))) (ZaF (eC (.bl false))) (Zam)))))) (ZaF (Zt Zbl (Za (Zb 1) (Za (Zb 3) (Ze))))))))))
noncomputable def Ziy:F3:=mkF 1 8 Zju
end
end Law
namespace Law
open PySem PySem.Spec PyProof.Rows L2 L3
noncomputable def top (i:Nat):Stmt:=PySem.Challenge.pw_stepledger_k42_bad_cuts.main.body.getD i (.Pass ⟨0,0,0,0⟩)
noncomputable abbrev ZbM:Stmt:=top 11
noncomputable abbrev Zb7:Stmt:=top 12
noncomputable abbrev ZaI:Stmt:=top 13
noncomputable abbrev Zb6:Stmt:=top 14
noncomputable abbrev Za6:Stmt:=top 15
noncomputable abbrev ZbP:Stmt:=top 17
noncomputable abbrev Zbi:Stmt:=top 18
noncomputable abbrev ZaQ:Stmt:=top 19
noncomputable abbrev ZaV:Stmt:=top 20
noncomputable abbrev ZbR:Stmt:=top 21
noncomputable abbrev ZbL:Stmt:=top 22
noncomputable abbrev Za8:Stmt:=top 23
noncomputable abbrev Zbv:Stmt:=top 24
noncomputable abbrev Zbh:Stmt:=top 25
noncomputable abbrev ZaK:Stmt:=top 26
noncomputable abbrev Zbu:Stmt:=top 27
noncomputable abbrev ZeG:Stmt:=top 28
structure ExT (K:W.Frag) (mg:Str → Option Value) (C_LedgerError C_BadCut C_BadGiven C_BadRow C_NoDispute C_NoRoll C_NoTime C_Spent C_Unfit:Addr):Prop where
  mg_LedgerError:mg "LedgerError" = some (.ref C_LedgerError)
  mg_BadCut:mg "BadCut" = some (.ref C_BadCut)
  mg_BadGiven:mg "BadGiven" = some (.ref C_BadGiven)
  mg_BadRow:mg "BadRow" = some (.ref C_BadRow)
  mg_NoDispute:mg "NoDispute" = some (.ref C_NoDispute)
  mg_NoRoll:mg "NoRoll" = some (.ref C_NoRoll)
  mg_NoTime:mg "NoTime" = some (.ref C_NoTime)
  mg_Spent:mg "Spent" = some (.ref C_Spent)
  mg_Unfit:mg "Unfit" = some (.ref C_Unfit)
  r_BadCut:ZhK K [66,97,100,67,117,116] C_BadCut
  t_LedgerError:∀ c C,([[66,97,100,67,117,116]]:List (List Nat)).contains c = true → ClsAt K c C → PySem.W.exmOne K (.ref C) (.ref C_LedgerError) = some true
  i_BadCut:Ze3 K [[66,97,100,67,117,116]] [] [.ref C_BadCut]
  i_ValueError:Ze3 K [[66,97,100,67,117,116]] [] [.type "ValueError"]
  i_BadGiven_BadRow_NoDispute_NoRoll_NoTime_Spent_Unfit:Ze3 K [] [[66,97,100,67,117,116]] (refsOf [C_BadGiven,C_BadRow,C_NoDispute,C_NoRoll,C_NoTime,C_Spent,C_Unfit])
structure Txt (K:W.Frag) (mg:Str → Option Value):Prop where
  kin:True
  m_ValueError:mg "ValueError" = none
  m_bool:mg "bool" = none
  m_int:mg "int" = none
  m_isinstance:mg "isinstance" = none
  m_len:mg "len" = none
  m_list:mg "list" = none
  m_range:mg "range" = none
  m_sorted:mg "sorted" = none
  m_tuple:mg "tuple" = none
  m_zip:mg "zip" = none
section
variable {P:Program} {w:World} {K:W.Frag} {mg:Str → Option Value} {base:Heap}
theorem Zho:Zay ["number"] ["number"] (Zj Zb6):=⟨rfl,rfl,rfl,by decide +kernel,rfl,by decide +kernel,by decide +kernel⟩
theorem ZhG (A:ZaH K mg "is_whole" Zb6 ["number"]) (T:Txt K mg):Fn3 P w K mg base 1 "is_whole" ["number"] ZbH:=
  Fn3.of (N:=["number"]) (k:=0) A Zho fun f cdv A outer s H E hr=>by
    have hu:=ZdB hr
    unfold Zd6
    exact Zy (Zar (ZhF (ZgQ .int T.m_isinstance T.m_int (Zd 0)) (Zip (Zl6 (ZgQ .bool T.m_isinstance T.m_bool (Zd 0))))))
theorem Zbd:Zay ["cuts","apart","most","ahead","cut"] ["cuts","apart","most"] (Zj ZaI):=⟨rfl,rfl,rfl,by decide +kernel,rfl,by decide +kernel,by decide +kernel⟩
theorem Zd7 (A:ZaH K mg "refuse_bad_cuts" ZaI ["cuts","apart","most"]) (T:Txt K mg) {C_LedgerError C_BadCut C_BadGiven C_BadRow C_NoDispute C_NoRoll C_NoTime C_Spent C_Unfit:Addr} (XO:ExT K mg C_LedgerError C_BadCut C_BadGiven C_BadRow C_NoDispute C_NoRoll C_NoTime C_Spent C_Unfit) (F_is_whole:Fn3 P w K mg base 1 "is_whole" ["number"] ZbH):FnX P w K mg base 2 "refuse_bad_cuts" ["cuts","apart","most"] ZaA:=
  FnX.of (N:=["cuts","apart","most","ahead","cut"]) (k:=1) A Zbd fun f cdv A outer s H E hr=>by
    have hu:=ZdB hr
    unfold ZcN
    refine Zbg ?_ ?_
    ·exact Zee (ZcC (ZbX (ZgQ .list T.m_isinstance T.m_list (Zd 0)))) (ZaL (ZcZ (C:=C_BadCut) XO.r_BadCut XO.mg_BadCut (Zc Ze1 Zf))) (ZeB Zat)
    ·refine Zbg ?_ ?_
     ·exact Zec (Zan 3 Zbd.nd Zg)
     ·refine ZaL ?_
      refine ZiF ?_ ?_ ?_ ?_ ?_
      ·exact PassesOwn.leaving
      ·exact rfl
      ·exact Zkm (Zd 0)
      ·exact ZcM 4 Zbd.nd
      ·refine Zbg ?_ ?_
       ·refine Zee ?_ ?_ ?_
        ·refine CW.ct ?_
         exact Zgo (ZcC (ZbX (Zav (k:=1) (ps:=["number"]) F_is_whole (hr.mono (by decide)) (Zc (Zd 4) Zf)))) (Zgo (ZaU Zkw (Zd 4) (Zu ZaR (Zd 3) (Zd 1))) (ZfQ (ZaU Zk3 (Zd 4) (Zd 2))))
        ·exact ZaL (ZcZ (C:=C_BadCut) XO.r_BadCut XO.mg_BadCut (Zc Ze1 Zf))
        ·exact ZeB Zat
       ·exact ZaL (Zec (Zan 3 Zbd.nd (Zd 4)))
theorem ZgO:Zay ["steps","cuts"] ["steps","cuts"] (Zj ZbM):=⟨rfl,rfl,rfl,by decide +kernel,rfl,by decide +kernel,by decide +kernel⟩
theorem ZgT (A:ZaH K mg "cut_steps" ZbM ["steps","cuts"]) (T:Txt K mg) (E_refuse_bad_cuts:FnX P w K mg base 2 "refuse_bad_cuts" ["cuts","apart","most"] ZaA):FnX P w K mg base 3 "cut_steps" ["steps","cuts"] Zbo:=
  FnX.of (N:=["steps","cuts"]) (k:=2) A ZgO fun f cdv A outer s H E hr=>by
    have hu:=ZdB hr
    unfold Ze4
    refine Zbg ?_ ?_
    ·exact Zhq (Zey (k:=2) (ps:=["cuts","apart","most"]) E_refuse_bad_cuts (hr.mono (by decide)) (Zc (Zd 1) (Zc Zg (Zc (Zu Zdn (Zbz (id:="len") ZbQ T.m_len Za7 (Zc (Zd 0) Zf)) Zg) Zf))))
    ·refine ZaL ?_
     refine Zec ?_
     refine Zar ?_
     refine Zmc (N':=["steps","cuts","begin","end"]) ?_ ?_ ?_ ?_ (fun C cl s H ex=>⟨?_,?_,?_⟩)
     ·exact Zgw rfl (by kernel_rfl)
     ·exact rfl
     ·exact rfl
     ·refine Zkp ?_ ?_ ?_
      ·exact T.m_zip
      ·exact Zu ZaR (ZaE (Zc Zg Zf)) (Zd 1)
      ·exact Zu ZaR (Zd 1) (ZaE (Zc (Zu Zdn (Zbz (id:="len") ZbQ T.m_len Za7 (Zc (Zd 0) Zf)) Zg) Zf))
     ·exact Zig rfl (Zci 2 ((show List.Nodup (["steps","cuts","begin","end"]:List Str) by decide +kernel)) (Zci 3 ((show List.Nodup (["steps","cuts","begin","end"]:List Str) by decide +kernel)) Zfi))
     ·exact Zis
     ·exact Zdi Zdb (Zd 0) (ZaB (Zd 2)) (ZaB (Zu ZaR (Zd 3) Zg))
theorem Zhi:Zay ["uses","cuts"] ["uses","cuts"] (Zj Zb7):=⟨rfl,rfl,rfl,by decide +kernel,rfl,by decide +kernel,by decide +kernel⟩
theorem Zhd (A:ZaH K mg "cut_uses" Zb7 ["uses","cuts"]) (T:Txt K mg) (E_refuse_bad_cuts:FnX P w K mg base 2 "refuse_bad_cuts" ["cuts","apart","most"] ZaA):FnX P w K mg base 3 "cut_uses" ["uses","cuts"] ZbJ:=
  FnX.of (N:=["uses","cuts"]) (k:=2) A Zhi fun f cdv A outer s H E hr=>by
    have hu:=ZdB hr
    unfold ZfK
    refine Zbg ?_ ?_
    ·exact Zhq (Zey (k:=2) (ps:=["cuts","apart","most"]) E_refuse_bad_cuts (hr.mono (by decide)) (Zc (Zd 1) (Zc Zg (Zc (Zbz (id:="len") ZbQ T.m_len Za7 (Zc (Zd 0) Zf)) Zf))))
    ·refine ZaL ?_
     refine Zec ?_
     refine Zar ?_
     refine Zmc (N':=["uses","cuts","begin","end"]) ?_ ?_ ?_ ?_ (fun C cl s H ex=>⟨?_,?_,?_⟩)
     ·exact Zgw rfl (by kernel_rfl)
     ·exact rfl
     ·exact rfl
     ·exact Zkp T.m_zip (Zu ZaR (ZaE (Zc Zg Zf)) (Zd 1)) (Zu ZaR (Zd 1) (ZaE (Zc (Zbz (id:="len") ZbQ T.m_len Za7 (Zc (Zd 0) Zf)) Zf)))
     ·exact Zig rfl (Zci 2 ((show List.Nodup (["uses","cuts","begin","end"]:List Str) by decide +kernel)) (Zci 3 ((show List.Nodup (["uses","cuts","begin","end"]:List Str) by decide +kernel)) Zfi))
     ·exact Zis
     ·exact Zdi Zdb (Zd 0) (ZaB (Zd 2)) (ZaB (Zd 3))
theorem Zcl:Zay ["pieces","steps","piece"] ["pieces"] (Zj Za6):=⟨rfl,rfl,rfl,by decide +kernel,rfl,by decide +kernel,by decide +kernel⟩
theorem Ze9 (A:ZaH K mg "joined_steps" Za6 ["pieces"]) (T:Txt K mg) {C_LedgerError C_BadCut C_BadGiven C_BadRow C_NoDispute C_NoRoll C_NoTime C_Spent C_Unfit:Addr} (XO:ExT K mg C_LedgerError C_BadCut C_BadGiven C_BadRow C_NoDispute C_NoRoll C_NoTime C_Spent C_Unfit):FnX P w K mg base 1 "joined_steps" ["pieces"] Zap:=
  FnX.of (N:=["pieces","steps","piece"]) (k:=0) A Zcl fun f cdv A outer s H E hr=>by
    have hu:=ZdB hr
    unfold ZdF
    refine Zbg ?_ ?_
    ·exact Zee (ZaU ((Zfa hu)) (Zbz (id:="len") ZbQ T.m_len Za7 (Zc (Zd 0) Zf)) Zg) (ZaL (ZcZ (C:=C_BadCut) XO.r_BadCut XO.mg_BadCut (Zc Ze1 Zf))) (ZeB Zat)
    ·refine Zbg ?_ ?_
     ·exact Zec (Zan 1 Zcl.nd (ZaE Zf))
     ·refine Zbg ?_ ?_
      ·refine ZiF ?_ ?_ ?_ ?_ ?_
       ·exact PassesOwn.leaving
       ·exact rfl
       ·exact Zkm (Zd 0)
       ·exact ZcM 2 Zcl.nd
       ·refine Zbg ?_ ?_
        ·exact Zee (ZaU ((Zfa hu)) (Zbz (id:="len") ZbQ T.m_len Za7 (Zc (Zd 2) Zf)) Zg) (ZaL (ZcZ (C:=C_BadCut) XO.r_BadCut XO.mg_BadCut (Zc Ze1 Zf))) (ZeB Zat)
        ·refine Zbg ?_ ?_
         ·refine Zee ?_ ?_ ?_
          ·refine CW.ct ?_
           refine Zjl ?_ ?_
           ·exact ZaU Zk3 (Zbz (id:="len") ZbQ T.m_len Za7 (Zc (Zd 1) Zf)) Zg
           ·exact Zio (ZaU ((Zmn hu)) (Za3 Za4 (Zd 2) Zg) (Za3 Za4 (Zd 1) (ZiV Zgm Zg)))
          ·exact ZaL (ZcZ (C:=C_BadCut) XO.r_BadCut XO.mg_BadCut (Zc Ze1 Zf))
          ·exact ZeB Zat
         ·refine ZaL ?_
          refine Zec ?_
          refine Zfl ?_
          exact ZgE (Zd 1) (Zc (ZpA (ZaU ((Zfa hu)) (Zbz (id:="len") ZbQ T.m_len Za7 (Zc (Zd 1) Zf)) Zg) (Zd 2) (Zdi Zdb (Zd 2) (ZaB Zg) Zbc)) Zf)
      ·exact ZaL (Zec (Zar (Zft (T:="tuple") ZdI T.m_tuple Zc5 (Zc (Zd 1) Zf))))
theorem Zde:Zay ["deck","cells","at"] ["deck"] (Zj ZbP):=⟨rfl,rfl,rfl,by decide +kernel,rfl,by decide +kernel,by decide +kernel⟩
theorem Zg1 (A:ZaH K mg "_law_next" ZbP ["deck"]) (T:Txt K mg):Fn3 P w K mg base 1 "_law_next" ["deck"] Zac:=
  Fn3.of (N:=["deck","cells","at"]) (k:=0) A Zde fun f cdv A outer s H E hr=>by
    have hu:=ZdB hr
    unfold ZbO
    refine Zh ?_ ?_
    ·exact Zan 1 Zde.nd (Za3 Za4 (Zd 0) Zg)
    ·refine Zh ?_ ?_
     ·exact Zan 2 Zde.nd (Za3 Za4 (Zd 0) Zg)
     ·refine Zh ?_ ?_
      ·exact Zfj (Zd 0) Zg (Zu ZaR (Zd 2) Zg)
      ·refine Zh ?_ ?_
       ·exact ZbS (ZaU Zkw (Zd 2) (Zbz (id:="len") ZbQ T.m_len Za7 (Zc (Zd 1) Zf))) (Zy (Zar (Za3 Za4 (Zd 1) (Zd 2)))) Zat
       ·refine Zh ?_ ?_
        ·refine ZbS ?_ ?_ ?_
         ·exact ZaU ((Zfa hu)) (Zbz (id:="len") ZbQ T.m_len Za7 (Zc (Zd 1) Zf)) Zg
         ·exact Zy (Zar (Zu ZaR (Zu Zim (Zu Zim (Zd 2) (Zd 2)) Zg) (Zd 2)))
         ·exact Zat
        ·refine Zy ?_
         refine Zar ?_
         exact Zu ZaR (Zu ZbY (Za3 Za4 (Zd 1) (Zu Zba (Zd 2) (Zbz (id:="len") ZbQ T.m_len Za7 (Zc (Zd 1) Zf)))) Zg) (Zu Zim (Zd 2) (Zd 2))
theorem ZfA:Zay ["cell"] ["cell"] (Zj Zbi):=⟨rfl,rfl,rfl,by decide +kernel,rfl,by decide +kernel,by decide +kernel⟩
theorem Zfu (A:ZaH K mg "_law_number" Zbi ["cell"]) (T:Txt K mg):Fn3 P w K mg base 1 "_law_number" ["cell"] Zz:=
  Fn3.of (N:=["cell"]) (k:=0) A ZfA fun f cdv A outer s H E hr=>by
    have hu:=ZdB hr
    unfold ZbA
    refine Zh ?_ ?_
    ·exact ZbS (ZaU ((Zfa hu)) (Zu Zba (Zd 0) Zg) Zg) (Zy (Zar (Zu Zba (Zu ZbY (Zd 0) Zg) (Zu ZjE Zg Zg)))) Zat
    ·refine Zh ?_ ?_
     ·refine ZbS ?_ ?_ ?_
      ·exact ZaU ((Zfa hu)) (Zu Zba (Zd 0) Zg) Zg
      ·exact Zy (Zar (Zu Zdn (ZiV Zgm Zg) (Zu Zba (Zu ZbY (Zd 0) Zg) (Zu ZjE Zg Zg))))
      ·exact Zat
     ·exact Zy (Zar (Zu Zba (Zu ZbY (Zd 0) Zg) Zg))
theorem ZaZ:Zay ["deck","many","found","k","cell","boxes"] ["deck","many"] (Zj ZaQ):=⟨rfl,rfl,rfl,by decide +kernel,rfl,by decide +kernel,by decide +kernel⟩
theorem Zel (A:ZaH K mg "_law_any_steps" ZaQ ["deck","many"]) (T:Txt K mg) (F__law_next:Fn3 P w K mg base 1 "_law_next" ["deck"] Zac) (F__law_number:Fn3 P w K mg base 1 "_law_number" ["cell"] Zz):Fn3 P w K mg base 2 "_law_any_steps" ["deck","many"] Zbr:=
  Fn3.of (N:=["deck","many","found","k","cell","boxes"]) (k:=1) A ZaZ fun f cdv A outer s H E hr=>by
    have hu:=ZdB hr
    unfold Zc3
    refine Zh ?_ ?_
    ·exact Zan 2 ZaZ.nd (ZaE Zf)
    ·refine Zh ?_ ?_
     ·refine ZeJ ?_ ?_ ?_ ?_ ?_
      ·exact rfl
      ·exact rfl
      ·exact ZeW T.m_range (Zd 1)
      ·exact ZcM 3 ZaZ.nd
      ·refine Zh ?_ ?_
       ·exact Zan 4 ZaZ.nd (Zav (k:=1) (ps:=["deck"]) F__law_next (hr.mono (by decide)) (Zc (Zd 0) Zf))
       ·refine Zh ?_ ?_
        ·exact Zan 5 ZaZ.nd (ZaE (Zc Zg (Zc Zg (Zc Zg (Zc Zg (Zc Zg (Zc Zg (Zc Zg (Zc Zg Zf)))))))))
        ·refine Zh ?_ ?_
         ·exact Zfj (Zd 5) (Zu Zba (Zu ZbY (Zd 4) Zg) Zg) (Zav (k:=1) (ps:=["cell"]) F__law_number (hr.mono (by decide)) (Zc (Zu ZbY (Zd 4) Zg) Zf))
         ·refine Zh ?_ ?_
          ·exact Zfj (Zd 5) (Zu Zba (Zu ZbY (Zd 4) Zg) Zg) (Zu Zba (Zd 3) Zg)
          ·refine Zy ?_
           refine Zfl ?_
           refine Zdl ?_ ?_
           ·exact Zd 2
           ·refine Zc ?_ ?_
            ·refine ZdA ?_
             refine Zc ?_ ?_
             ·exact Zu ZaR (Zu Zdn (Zu Zba (Zd 4) Zg) Zg) (Zu Zim (Zu Zba (Zd 3) Zg) (Zu Zba (Zd 4) Zg))
             ·exact Zc (Zft (T:="tuple") ZdI T.m_tuple Zc5 (Zc (Zd 5) Zf)) Zf
            ·exact Zf
     ·exact Zy (Zar (Zd 2))
theorem Zbw:Zay ["deck","many","found","k","cell"] ["deck","many"] (Zj ZaV):=⟨rfl,rfl,rfl,by decide +kernel,rfl,by decide +kernel,by decide +kernel⟩
theorem ZeK (A:ZaH K mg "_law_any_uses" ZaV ["deck","many"]) (T:Txt K mg) (F__law_next:Fn3 P w K mg base 1 "_law_next" ["deck"] Zac) (F__law_number:Fn3 P w K mg base 1 "_law_number" ["cell"] Zz):Fn3 P w K mg base 2 "_law_any_uses" ["deck","many"] ZbE:=
  Fn3.of (N:=["deck","many","found","k","cell"]) (k:=1) A Zbw fun f cdv A outer s H E hr=>by
    have hu:=ZdB hr
    unfold Zdo
    refine Zh ?_ ?_
    ·exact Zan 2 Zbw.nd (ZaE Zf)
    ·refine Zh ?_ ?_
     ·refine ZeJ ?_ ?_ ?_ ?_ ?_
      ·exact rfl
      ·exact rfl
      ·exact ZeW T.m_range (Zd 1)
      ·exact ZcM 3 Zbw.nd
      ·refine Zh ?_ ?_
       ·exact Zan 4 Zbw.nd (Zav (k:=1) (ps:=["deck"]) F__law_next (hr.mono (by decide)) (Zc (Zd 0) Zf))
       ·refine Zy ?_
        refine Zfl ?_
        refine Zdl ?_ ?_
        ·exact Zd 2
        ·refine Zc ?_ ?_
         ·refine ZdA ?_
          refine Zc ?_ ?_
          ·exact Zav (k:=1) (ps:=["cell"]) F__law_number (hr.mono (by decide)) (Zc (Zd 4) Zf)
          ·refine Zc ?_ ?_
           ·exact Zu Zdn (Zu Zba (Zd 4) Zg) Zg
           ·refine Zc ?_ ?_
            ·exact Za3 Za4 (ZaE (Zc Ze1 (Zc Ze1 (Zc Ze1 Zf)))) (Zu Zba (Zd 4) Zg)
            ·exact Zc (Zav (k:=1) (ps:=["cell"]) F__law_number (hr.mono (by decide)) (Zc (Zu ZbY (Zd 4) Zg) Zf)) Zf
         ·exact Zf
     ·exact Zy (Zar (Zd 2))
theorem ZaO:Zay ["deck","many","cells","found","last","cell","at","far","odd"] ["deck","many","cells"] (Zj ZbR):=⟨rfl,rfl,rfl,by decide +kernel,rfl,by decide +kernel,by decide +kernel⟩
theorem ZgJ (A:ZaH K mg "_law_list" ZbR ["deck","many","cells"]) (T:Txt K mg) (F__law_next:Fn3 P w K mg base 1 "_law_next" ["deck"] Zac):Fn3 P w K mg base 2 "_law_list" ["deck","many","cells"] Zch:=
  Fn3.of (N:=["deck","many","cells","found","last","cell","at","far","odd"]) (k:=1) A ZaO fun f cdv A outer s H E hr=>by
    have hu:=ZdB hr
    unfold ZeX
    refine Zh ?_ ?_
    ·exact Zan 3 ZaO.nd (ZaE Zf)
    ·refine Zh ?_ ?_
     ·exact Zan 4 ZaO.nd Zg
     ·refine Zh ?_ ?_
      ·refine ZeJ ?_ ?_ ?_ ?_ ?_
       ·exact rfl
       ·exact rfl
       ·exact Zkm (Zd 2)
       ·exact ZcM 5 ZaO.nd
       ·refine Zh ?_ ?_
        ·exact Zan 4 ZaO.nd (Zu ZaR (Zd 4) (Za3 Za4 (ZaE (Zc Zg (Zc Zg (Zc Zg (Zc Zg Zf))))) (Zu Zba (Zd 5) Zg)))
        ·exact Zy (Zfl (Zdl (Zd 3) (Zc (Zd 4) Zf)))
      ·refine Zh ?_ ?_
       ·exact Zan 5 ZaO.nd (Zav (k:=1) (ps:=["deck"]) F__law_next (hr.mono (by decide)) (Zc (Zd 0) Zf))
       ·refine Zh ?_ ?_
        ·refine ZbS ?_ ?_ ?_
         ·exact CW.ct (Zjl (ZaU ((Zmn hu)) (Zd 3) (ZaE Zf)) (Zio (ZaU Zk3 (Zu Zba (Zd 5) Zg) Zg)))
         ·refine Zh ?_ ?_
          ·exact Zan 6 ZaO.nd (Zu Zba (Zu ZbY (Zd 5) Zg) (Zbz (id:="len") ZbQ T.m_len Za7 (Zc (Zd 3) Zf)))
          ·refine Zh ?_ ?_
           ·exact Zan 7 ZaO.nd (Zu Zba (Zu ZbY (Zd 5) Zg) (Zu ZjE Zg Zg))
           ·refine Zh ?_ ?_
            ·refine Zan 8 ?_ ?_
             ·exact ZaO.nd
             ·refine ZaE ?_
              refine Zc ?_ ?_
              ·exact Zg
              ·refine Zc ?_ ?_
               ·exact Zu Zdn (Zd 1) Zg
               ·refine Zc ?_ ?_
                ·exact Zd 1
                ·refine Zc ?_ ?_
                 ·exact Zu ZaR (Zd 1) Zg
                 ·refine Zc ?_ ?_
                  ·exact ZiV Zgm Zg
                  ·refine Zc ?_ ?_
                   ·exact Zu Zdn (ZiV Zgm Zg) (Zd 7)
                   ·exact Zc (Zu ZaR (Zd 1) (Zd 7)) (Zc (Za3 Za4 (Zd 3) (Zu Zdn (Zd 6) Zg)) (Zc (Za3 Za4 (Zd 3) (ZiV Zgm Zg)) Zf))
            ·exact Zy (Zfj (Zd 3) (Zd 6) (Za3 Za4 (Zd 8) (Zu Zba (Zu ZbY (Zd 5) Zg) (Zbz (id:="len") ZbQ T.m_len Za7 (Zc (Zd 8) Zf)))))
         ·exact Zat
        ·exact Zy (Zar (Zd 3))
theorem Zct:Zay ["cuts","low","high","step","ahead","cut"] ["cuts","low","high","step"] (Zj ZbL):=⟨rfl,rfl,rfl,by decide +kernel,rfl,by decide +kernel,by decide +kernel⟩
theorem ZgK (A:ZaH K mg "_law_good" ZbL ["cuts","low","high","step"]) (T:Txt K mg):Fn3 P w K mg base 1 "_law_good" ["cuts","low","high","step"] ZaX:=
  Fn3.of (N:=["cuts","low","high","step","ahead","cut"]) (k:=0) A Zct fun f cdv A outer s H E hr=>by
    have hu:=ZdB hr
    unfold Ze2
    refine Zh ?_ ?_
    ·exact Zan 4 Zct.nd (Zd 1)
    ·refine Zh ?_ ?_
     ·refine ZeJ ?_ ?_ ?_ ?_ ?_
      ·exact rfl
      ·exact rfl
      ·exact Zkm (Zd 0)
      ·exact ZcM 5 Zct.nd
      ·refine Zh ?_ ?_
       ·exact ZbS (CW.ct (Zgo (ZaU Zkw (Zd 5) (Zd 4)) (ZfQ (ZaU Zk3 (Zd 5) (Zd 2))))) (Zy (Zar ZeC)) Zat
       ·exact Zy (Zan 4 Zct.nd (Zu ZaR (Zd 5) (Zd 3)))
     ·exact Zy (Zar ZeC)
theorem ZaC:Zay ["way","rows","cuts","caught","found","e"] ["way","rows","cuts"] (Zj Za8):=⟨rfl,rfl,rfl,by decide +kernel,rfl,by decide +kernel,by decide +kernel⟩
theorem Zff (A:ZaH K mg "_law_refused" Za8 ["way","rows","cuts"]) (T:Txt K mg) {C_LedgerError C_BadCut C_BadGiven C_BadRow C_NoDispute C_NoRoll C_NoTime C_Spent C_Unfit:Addr} (XO:ExT K mg C_LedgerError C_BadCut C_BadGiven C_BadRow C_NoDispute C_NoRoll C_NoTime C_Spent C_Unfit) (E_cut_steps:FnX P w K mg base 3 "cut_steps" ["steps","cuts"] Zbo) (E_cut_uses:FnX P w K mg base 3 "cut_uses" ["uses","cuts"] ZbJ) (E_joined_steps:FnX P w K mg base 1 "joined_steps" ["pieces"] Zap):Fn3 P w K mg base 4 "_law_refused" ["way","rows","cuts"] Zn:=
  Fn3.of (N:=["way","rows","cuts","caught","found","e"]) (k:=3) A ZaC fun f cdv A outer s H E hr=>by
    have hu:=ZdB hr
    unfold Zdt
    refine Zh ?_ ?_
    ·exact Zan 3 ZaC.nd Zn6
    ·refine Zh ?_ ?_
     ·exact Zan 4 ZaC.nd (ZaE Zf)
     ·refine Zh ?_ ?_
      ·refine Zmy (cs:=[[66,97,100,67,117,116]]) (CE:=C_LedgerError) 5 ?_ ?_ ?_ (fun pn' E'=>?_) (fun A' E'=>?_)
       ·exact ZaC.nd
       ·exact XO.mg_LedgerError
       ·exact XO.t_LedgerError
       ·refine ZaL ?_
        refine Zee ?_ ?_ ?_
        ·exact ZaU ((Zfa hu)) (Zd 0) Zg
        ·exact ZaL (Zg3 4 ZaC.nd (Zey (k:=3) (ps:=["steps","cuts"]) E_cut_steps (hr.mono (by decide)) (Zc (Zd 1) (Zc (Zd 2) Zf))))
        ·refine ZaL ?_
         refine Zee ?_ ?_ ?_
         ·exact ZaU ((Zfa hu)) (Zd 0) Zg
         ·exact ZaL (Zg3 4 ZaC.nd (Zey (k:=3) (ps:=["uses","cuts"]) E_cut_uses (hr.mono (by decide)) (Zc (Zd 1) (Zc (Zd 2) Zf))))
         ·exact ZaL (Zg3 4 ZaC.nd (Zll (Zey (k:=1) (ps:=["pieces"]) E_joined_steps (hr.mono (by decide)) (Zc (Zd 1) Zf))))
       ·exact Zy (Zan 3 ZaC.nd (Zd 5))
      ·refine Zh ?_ ?_
       ·exact ZbS (ZbX (Zj1 (cs:=[C_BadGiven,C_BadRow,C_NoDispute,C_NoRoll,C_NoTime,C_Spent,C_Unfit]) T.m_isinstance XO.i_BadGiven_BadRow_NoDispute_NoRoll_NoTime_Spent_Unfit (Zd 3) ((Zdk XO.mg_BadGiven (Zdk XO.mg_BadRow (Zdk XO.mg_NoDispute (Zdk XO.mg_NoRoll (Zdk XO.mg_NoTime (Zdk XO.mg_Spent (Zdk XO.mg_Unfit Zms)))))))))) (Zy (Zar (ZaE (Zc ZeC (Zc (Zd 4) Zf))))) Zat
       ·exact Zy (Zar (ZaE (Zc (ZhF (Zjr (C:=C_BadCut) T.m_isinstance XO.mg_BadCut XO.i_BadCut (Zd 3)) (Zip (Zjw (T:="ValueError") T.m_isinstance T.m_ValueError Zfc XO.i_ValueError (Zd 3)))) (Zc (Zd 4) Zf))))
theorem ZcS:Zay ["way","rows","cuts","good","refused","found"] ["way","rows","cuts","good"] (Zj Zbv):=⟨rfl,rfl,rfl,by decide +kernel,rfl,by decide +kernel,by decide +kernel⟩
theorem Zf8 (A:ZaH K mg "_law_asked" Zbv ["way","rows","cuts","good"]) (T:Txt K mg) (F__law_refused:Fn3 P w K mg base 4 "_law_refused" ["way","rows","cuts"] Zn):Fn3 P w K mg base 5 "_law_asked" ["way","rows","cuts","good"] ZaN:=
  Fn3.of (N:=["way","rows","cuts","good","refused","found"]) (k:=4) A ZcS fun f cdv A outer s H E hr=>by
    have hu:=ZdB hr
    unfold Zer
    refine Zh ?_ ?_
    ·refine Zk2 ?_ ?_ ?_
     ·exact rfl
     ·exact Zav (k:=4) (ps:=["way","rows","cuts"]) F__law_refused (hr.mono (by decide)) (Zc (Zd 0) (Zc (Zd 1) (Zc (Zft (T:="list") Zm8 T.m_list ZkW (Zc (Zd 2) Zf)) Zf)))
     ·exact Zci 4 ZcS.nd (Zci 5 ZcS.nd Zfi)
    ·refine Zh ?_ ?_
     ·refine ZbS ?_ ?_ ?_
      ·exact ZbX (Zd 3)
      ·refine Zy ?_
       refine Zar ?_
       refine ZhF ?_ ?_
       ·exact Zl6 (Zd 4)
       ·refine ZhF ?_ ?_
        ·exact ZgQ .list T.m_isinstance T.m_list (Zd 5)
        ·exact Zip (ZlZ ((Zfa hu)) (Zbz (id:="len") ZbQ T.m_len Za7 (Zc (Zd 5) Zf)) (Zu ZaR (Zbz (id:="len") ZbQ T.m_len Za7 (Zc (Zd 2) Zf)) Zg))
      ·exact Zat
     ·exact Zy (Zar (Zd 4))
theorem ZcA:Zay ["row","cell","place","boxes"] ["row","cell"] (Zj Zbh):=⟨rfl,rfl,rfl,by decide +kernel,rfl,by decide +kernel,by decide +kernel⟩
theorem ZfJ (A:ZaH K mg "_law_unlike" Zbh ["row","cell"]) (T:Txt K mg):Fn3 P w K mg base 1 "_law_unlike" ["row","cell"] ZaP:=
  Fn3.of (N:=["row","cell","place","boxes"]) (k:=0) A ZcA fun f cdv A outer s H E hr=>by
    have hu:=ZdB hr
    unfold ZdY
    refine Zh ?_ ?_
    ·exact ZmI (Zd 0) (Zig rfl (Zci 2 ZcA.nd (Zci 3 ZcA.nd Zfi)))
    ·refine Zh ?_ ?_
     ·exact ZbS (ZaU ((Zfa hu)) (Zu Zba (Zd 1) Zg) Zg) (Zy (Zar (ZdA (Zc (Zu ZaR (Zd 2) Zg) (Zc (Zd 3) Zf))))) Zat
     ·refine Zy ?_
      refine Zar ?_
      refine ZdA ?_
      refine Zc ?_ ?_
      ·exact Zd 2
      ·refine Zc ?_ ?_
       ·refine Zu ?_ ?_ ?_
        ·exact ZaR
        ·refine Zu ?_ ?_ ?_
         ·exact ZaR
         ·exact Zdi Zdb (Zd 3) Zbc (ZaB (Zu Zba (Zd 1) Zg))
         ·exact ZdA (Zc (Zu ZaR (Za3 Za4 (Zd 3) (Zu Zba (Zd 1) Zg)) Zg) Zf)
        ·exact Zdi Zdb (Zd 3) (ZaB (Zu ZaR (Zu Zba (Zd 1) Zg) Zg)) Zbc
       ·exact Zf
theorem ZbC:Zay ["steps","at","cell","places","pieces","k","odd"] ["steps","at","cell"] (Zj Zbu):=⟨rfl,rfl,rfl,by decide +kernel,rfl,by decide +kernel,by decide +kernel⟩
theorem Zf4 (A:ZaH K mg "_law_three" Zbu ["steps","at","cell"]) (T:Txt K mg) (F_joined_steps:Fn3 P w K mg base 1 "joined_steps" ["pieces"] Zap) (F__law_refused:Fn3 P w K mg base 4 "_law_refused" ["way","rows","cuts"] Zn) (F__law_unlike:Fn3 P w K mg base 1 "_law_unlike" ["row","cell"] ZaP):Fn3 P w K mg base 5 "_law_three" ["steps","at","cell"] ZbZ:=
  Fn3.of (N:=["steps","at","cell","places","pieces","k","odd"]) (k:=4) A ZbC fun f cdv A outer s H E hr=>by
    have hu:=ZdB hr
    unfold Zex
    refine Zh ?_ ?_
    ·exact ZbS (ZaU Zkw (Zbz (id:="len") ZbQ T.m_len Za7 (Zc (Zd 0) Zf)) Zg) (Zy (Zar ZeC)) Zat
    ·refine Zh ?_ ?_
     ·refine Zan 3 ?_ ?_
      ·exact ZbC.nd
      ·refine Zbz (id:="sorted") ?_ ?_ ?_ ?_
       ·exact Zj6
       ·exact T.m_sorted
       ·exact Zi1
       ·refine Zc ?_ ?_
        ·exact ZaE (Zc (Zu ZaR Zg (Zu Zba (Zd 2) (Zu Zdn (Zbz (id:="len") ZbQ T.m_len Za7 (Zc (Zd 0) Zf)) Zg))) (Zc (Zd 1) Zf))
        ·exact Zf
     ·refine Zh ?_ ?_
      ·refine Zan 4 ?_ ?_
       ·exact ZbC.nd
       ·refine ZaE ?_
        refine Zc ?_ ?_
        ·exact Zdi Zdb (Zd 0) Zbc (ZaB (Zu ZaR (Za3 Za4 (Zd 3) Zg) Zg))
        ·refine Zc ?_ ?_
         ·exact Zdi Zdb (Zd 0) (ZaB (Za3 Za4 (Zd 3) Zg)) (ZaB (Zu ZaR (Za3 Za4 (Zd 3) Zg) Zg))
         ·exact Zc (Zdi Zdb (Zd 0) (ZaB (Za3 Za4 (Zd 3) Zg)) Zbc) Zf
      ·refine Zh ?_ ?_
       ·exact ZbS (ZaU ((Zmn hu)) (Zav (k:=1) (ps:=["pieces"]) F_joined_steps (hr.mono (by decide)) (Zc (Zd 4) Zf)) (Zd 0)) (Zy (Zar ZeC)) Zat
       ·refine Zh ?_ ?_
        ·refine ZeJ ?_ ?_ ?_ ?_ ?_
         ·exact rfl
         ·exact rfl
         ·exact Zkm (ZaE (Zc Zg (Zc Zg Zf)))
         ·exact ZcM 5 ZbC.nd
         ·refine Zh ?_ ?_
          ·refine Zan 6 ?_ ?_
           ·exact ZbC.nd
           ·refine Zu ?_ ?_ ?_
            ·exact ZaR
            ·exact ZdA (Zc (Zav (k:=1) (ps:=["row","cell"]) F__law_unlike (hr.mono (by decide)) (Zc (Za3 Za4 (Za3 Za4 (Zd 4) (Zd 5)) Zg) (Zc (Zu ZbY (Zd 2) Zg) Zf))) Zf)
            ·exact Zdi Zdb (Za3 Za4 (Zd 4) (Zd 5)) (ZaB Zg) Zbc
          ·refine Zy ?_
           refine ZbS ?_ ?_ ?_
           ·refine ZcC ?_
            refine ZbX ?_
            refine Za3 ?_ ?_ ?_
            ·exact Za4
            ·refine Zav (k:=4) (ps:=["way","rows","cuts"]) ?_ ?_ ?_
             ·exact F__law_refused
             ·exact hr.mono (by decide)
             ·refine Zc ?_ ?_
              ·exact Zg
              ·refine Zc ?_ ?_
               ·refine Zu ?_ ?_ ?_
                ·exact ZaR
                ·exact Zu ZaR (Zdi Zdb (Zd 4) Zbc (ZaB (Zd 5))) (ZaE (Zc (Zd 6) Zf))
                ·exact Zdi Zdb (Zd 4) (ZaB (Zu ZaR (Zd 5) Zg)) Zbc
               ·exact Zc (ZaE Zf) Zf
            ·exact Zg
           ·exact Zy (Zar ZeC)
           ·exact Zat
        ·exact Zy (Zar ZeC)
theorem ZaG:Zay ["deck","steps","cell","at","ahead","behind","odd"] ["deck","steps"] (Zj ZaK):=⟨rfl,rfl,rfl,by decide +kernel,rfl,by decide +kernel,by decide +kernel⟩
theorem Zed (A:ZaH K mg "_law_not_joined" ZaK ["deck","steps"]) (T:Txt K mg) (F_joined_steps:Fn3 P w K mg base 1 "joined_steps" ["pieces"] Zap) (F__law_next:Fn3 P w K mg base 1 "_law_next" ["deck"] Zac) (F__law_refused:Fn3 P w K mg base 4 "_law_refused" ["way","rows","cuts"] Zn) (F__law_unlike:Fn3 P w K mg base 1 "_law_unlike" ["row","cell"] ZaP) (F__law_three:Fn3 P w K mg base 5 "_law_three" ["steps","at","cell"] ZbZ):Fn3 P w K mg base 6 "_law_not_joined" ["deck","steps"] Zbl:=
  Fn3.of (N:=["deck","steps","cell","at","ahead","behind","odd"]) (k:=5) A ZaG fun f cdv A outer s H E hr=>by
    have hu:=ZdB hr
    unfold ZcK
    refine Zh ?_ ?_
    ·exact Zan 2 ZaG.nd (Zav (k:=1) (ps:=["deck"]) F__law_next (hr.mono (by decide)) (Zc (Zd 0) Zf))
    ·refine Zh ?_ ?_
     ·refine ZbS ?_ ?_ ?_
      ·refine CW.ct ?_
       refine Zgo ?_ ?_
       ·exact ZcC (ZbX (Za3 Za4 (Zav (k:=4) (ps:=["way","rows","cuts"]) F__law_refused (hr.mono (by decide)) (Zc Zg (Zc (ZaE Zf) (Zc (ZaE Zf) Zf)))) Zg))
       ·exact ZfQ (ZcC (ZbX (Za3 Za4 (Zav (k:=4) (ps:=["way","rows","cuts"]) F__law_refused (hr.mono (by decide)) (Zc Zg (Zc (ZaE (Zc (ZdA Zf) Zf)) (Zc (ZaE Zf) Zf)))) Zg)))
      ·exact Zy (Zar ZeC)
      ·exact Zat
     ·refine Zh ?_ ?_
      ·exact ZbS (ZaU Zkw (Zbz (id:="len") ZbQ T.m_len Za7 (Zc (Zd 1) Zf)) Zg) (Zy (Zar ZeC)) Zat
      ·refine Zh ?_ ?_
       ·exact Zan 3 ZaG.nd (Zu ZaR Zg (Zu Zba (Zd 2) (Zu Zdn (Zbz (id:="len") ZbQ T.m_len Za7 (Zc (Zd 1) Zf)) Zg)))
       ·refine Zh ?_ ?_
        ·exact Zan 4 ZaG.nd (Zft (T:="tuple") ZdI T.m_tuple Zc5 (Zc (Zdi Zdb (Zd 1) Zbc (ZaB (Zd 3))) Zf))
        ·refine Zh ?_ ?_
         ·exact Zan 5 ZaG.nd (Zft (T:="tuple") ZdI T.m_tuple Zc5 (Zc (Zdi Zdb (Zd 1) (ZaB (Zu Zdn (Zd 3) Zg)) Zbc) Zf))
         ·refine Zh ?_ ?_
          ·refine ZbS ?_ ?_ ?_
           ·refine CW.ct ?_
            refine Zgo ?_ ?_
            ·refine ZcC ?_
             refine ZbX ?_
             exact Za3 Za4 (Zav (k:=4) (ps:=["way","rows","cuts"]) F__law_refused (hr.mono (by decide)) (Zc Zg (Zc (ZaE (Zc (Zd 4) (Zc (ZdA Zf) (Zc (Zd 5) Zf)))) (Zc (ZaE Zf) Zf)))) Zg
            ·refine ZfQ ?_
             refine ZcC ?_
             refine ZbX ?_
             exact Za3 Za4 (Zav (k:=4) (ps:=["way","rows","cuts"]) F__law_refused (hr.mono (by decide)) (Zc Zg (Zc (ZaE (Zc (Zd 4) (Zc (Zd 5) (Zc (ZdA Zf) Zf)))) (Zc (ZaE Zf) Zf)))) Zg
           ·exact Zy (Zar ZeC)
           ·exact Zat
          ·refine Zh ?_ ?_
           ·refine ZbS ?_ ?_ ?_
            ·refine ZcC ?_
             refine ZbX ?_
             exact Za3 Za4 (Zav (k:=4) (ps:=["way","rows","cuts"]) F__law_refused (hr.mono (by decide)) (Zc Zg (Zc (ZaE (Zc (ZdA Zf) (Zc (Zd 4) (Zc (Zd 5) Zf)))) (Zc (ZaE Zf) Zf)))) Zg
            ·exact Zy (Zar ZeC)
            ·exact Zat
           ·refine Zh ?_ ?_
            ·refine Zan 6 ?_ ?_
             ·exact ZaG.nd
             ·refine Zu ?_ ?_ ?_
              ·exact ZaR
              ·exact ZdA (Zc (Zav (k:=1) (ps:=["row","cell"]) F__law_unlike (hr.mono (by decide)) (Zc (Za3 Za4 (Zd 5) Zg) (Zc (Zu ZbY (Zd 2) Zg) Zf))) Zf)
              ·exact Zdi Zdb (Zd 5) (ZaB Zg) Zbc
            ·refine Zh ?_ ?_
             ·refine ZbS ?_ ?_ ?_
              ·refine CW.ct ?_
               refine Zgo ?_ ?_
               ·exact ZcC (ZbX (Za3 Za4 (Zav (k:=4) (ps:=["way","rows","cuts"]) F__law_refused (hr.mono (by decide)) (Zc Zg (Zc (ZaE (Zc (Zd 4) (Zc (Zd 6) Zf))) (Zc (ZaE Zf) Zf)))) Zg))
               ·exact ZfQ (ZbX (Za3 Za4 (Zav (k:=4) (ps:=["way","rows","cuts"]) F__law_refused (hr.mono (by decide)) (Zc Zg (Zc (ZaE (Zc (Zd 4) (Zc (Zd 5) Zf))) (Zc (ZaE Zf) Zf)))) Zg))
              ·exact Zy (Zar ZeC)
              ·exact Zat
             ·refine Zy ?_
              refine Zar ?_
              refine ZhF ?_ ?_
              ·refine ZlZ ?_ ?_ ?_
               ·exact (Zfa hu)
               ·exact Zav (k:=1) (ps:=["pieces"]) F_joined_steps (hr.mono (by decide)) (Zc (ZaE (Zc (Zd 4) (Zc (Zdi Zdb (Zd 4) (ZaB (ZiV Zgm Zg)) Zbc) (Zc (Zd 5) Zf)))) Zf)
               ·exact Zd 1
              ·exact Zip (Zav (k:=5) (ps:=["steps","at","cell"]) F__law_three (hr.mono (by decide)) (Zc (Zd 1) (Zc (Zd 3) (Zc (Zu ZbY (Zd 2) Zg) Zf))))
theorem Zdm:Zay ["script","deck","many","steps","uses","cuts","k","some"] ["script"] (Zj ZeG):=⟨rfl,rfl,rfl,by decide +kernel,rfl,by decide +kernel,by decide +kernel⟩
theorem Zna {f:Addr} {fd:FuncData} (F:Fun K "law" "law" ZeG f fd) (T:Txt K mg) (F__law_next:Fn3 P w K mg base 1 "_law_next" ["deck"] Zac) (F__law_any_steps:Fn3 P w K mg base 2 "_law_any_steps" ["deck","many"] Zbr) (F__law_any_uses:Fn3 P w K mg base 2 "_law_any_uses" ["deck","many"] ZbE) (F__law_list:Fn3 P w K mg base 2 "_law_list" ["deck","many","cells"] Zch) (F__law_good:Fn3 P w K mg base 1 "_law_good" ["cuts","low","high","step"] ZaX) (F__law_asked:Fn3 P w K mg base 5 "_law_asked" ["way","rows","cuts","good"] ZaN) (F__law_not_joined:Fn3 P w K mg base 6 "_law_not_joined" ["deck","steps"] Zbl):ZcW P w K mg base CX0 7 f fd ["script"] (sp3 K 1 Ziy):=
  fn3 (N:=["script","deck","many","steps","uses","cuts","k","some"]) (k:=6) F Zdm fun cdv A outer s H E hr=>by
    have hu:=ZdB hr
    unfold Zju
    refine Zh ?_ ?_
    ·exact Zan 1 Zdm.nd (ZaE (Zc (Zdi Zdb (Zd 0) Zbc (ZaB Zg)) (Zc Zg Zf)))
    ·refine Zh ?_ ?_
     ·exact Zan 2 Zdm.nd (Zu Zba (Zav (k:=1) (ps:=["deck"]) F__law_next (hr.mono (by decide)) (Zc (Zd 1) Zf)) Zg)
     ·refine Zh ?_ ?_
      ·exact Zan 3 Zdm.nd (Zft (T:="tuple") ZdI T.m_tuple Zc5 (Zc (Zav (k:=2) (ps:=["deck","many"]) F__law_any_steps (hr.mono (by decide)) (Zc (Zd 1) (Zc (Zd 2) Zf))) Zf))
      ·refine Zh ?_ ?_
       ·exact Zan 4 Zdm.nd (Zft (T:="tuple") ZdI T.m_tuple Zc5 (Zc (Zav (k:=2) (ps:=["deck","many"]) F__law_any_uses (hr.mono (by decide)) (Zc (Zd 1) (Zc (Zd 2) Zf))) Zf))
       ·refine Zh ?_ ?_
        ·exact Zan 5 Zdm.nd (Zav (k:=2) (ps:=["deck","many","cells"]) F__law_list (hr.mono (by decide)) (Zc (Zd 1) (Zc (Zd 2) (Zc (Zdi Zdb (Zd 0) (ZaB Zg) (ZaB Zg)) Zf))))
        ·refine Zh ?_ ?_
         ·refine ZeJ ?_ ?_ ?_ ?_ ?_
          ·exact rfl
          ·exact rfl
          ·exact ZeW T.m_range (Zu ZaR (Zbz (id:="len") ZbQ T.m_len Za7 (Zc (Zd 5) Zf)) Zg)
          ·exact ZcM 6 Zdm.nd
          ·refine Zh ?_ ?_
           ·exact Zan 7 Zdm.nd (Zu ZaR (Zdi Zdb (Zd 5) (ZaB (Zd 6)) Zbc) (Zdi Zdb (Zd 5) Zbc (ZaB (Zd 6))))
           ·refine Zh ?_ ?_
            ·exact ZbS (ZaU ((Zfa hu)) (Zd 6) Zg) (Zy (Zan 7 Zdm.nd (Zd 5))) Zat
            ·refine Zh ?_ ?_
             ·refine ZbS ?_ ?_ ?_
              ·refine ZcC ?_
               refine ZbX ?_
               refine Zav (k:=5) (ps:=["way","rows","cuts","good"]) ?_ ?_ ?_
               ·exact F__law_asked
               ·exact hr.mono (by decide)
               ·refine Zc ?_ ?_
                ·exact Zg
                ·exact Zc (Zd 3) (Zc (Zd 7) (Zc (Zav (k:=1) (ps:=["cuts","low","high","step"]) F__law_good (hr.mono (by decide)) (Zc (Zd 7) (Zc Zg (Zc (Zu Zdn (Zd 2) Zg) (Zc Zg Zf))))) Zf))
              ·exact Zy (Zar ZeC)
              ·exact Zat
             ·refine Zy ?_
              refine ZbS ?_ ?_ ?_
              ·refine ZcC ?_
               refine ZbX ?_
               refine Zav (k:=5) (ps:=["way","rows","cuts","good"]) ?_ ?_ ?_
               ·exact F__law_asked
               ·exact hr.mono (by decide)
               ·exact Zc Zg (Zc (Zd 4) (Zc (Zd 7) (Zc (Zav (k:=1) (ps:=["cuts","low","high","step"]) F__law_good (hr.mono (by decide)) (Zc (Zd 7) (Zc Zg (Zc (Zd 2) (Zc Zg Zf))))) Zf)))
              ·exact Zy (Zar ZeC)
              ·exact Zat
         ·exact Zy (Zar (Zav (k:=6) (ps:=["deck","steps"]) F__law_not_joined (hr.mono (by decide)) (Zc (Zd 1) (Zc (Zd 3) Zf))))
end
end Law
set_option maxHeartbeats 200000
namespace Law
open L3
theorem Zeu (n d:Nat):sIx n d none = d:=rfl
theorem Zew (n d k:Nat):sIx n d (some (k:Int)) = min k n:=by
 have h:¬ ((k:Int) < 0):=(fun z=>iN [_] [] 1 7211153 T1 z)
 simp only [sIx,if_neg h,Int.toNat_natCast]
theorem Zcj {α:Type} (w:List α) (k:Nat):cutD w (some (k:Int)) none = w.drop k:=by
 unfold cutD
 rw [Zew,Zeu]
 by_cases h:k ≤ w.length
 ·rw [Nat.min_eq_left h,List.take_of_length_le (by simp)]
 ·rw [Nat.min_eq_right (by exact lB 1 1052737 T1 h),List.drop_eq_nil_of_le (Nat.le_refl _),List.drop_eq_nil_of_le (by exact lB 1 1052737 T1 h)]; simp
theorem ZeO {α:Type} (w:List α) (k:Nat):cutD w none (some (k:Int)) = w.take k:=by
 unfold cutD
 rw [Zew,Zeu]
 by_cases h:k ≤ w.length
 ·rw [Nat.min_eq_left h]; simp
 ·rw [Nat.min_eq_right (by exact lB 1 1052737 T1 h),Nat.sub_zero,List.drop_zero,List.take_of_length_le (Nat.le_refl _),List.take_of_length_le (by exact lB 1 1052737 T1 h)]
theorem Zl2 {bs:List Int} (h:bs.length = 8) {a:Nat} (ha:a < 8):bs[a]? = some (bs.getD a 0):=by
 rw [List.getD_eq_getElem?_getD,List.getElem?_eq_getElem (by exact lB 2 72481667054415889 T1 ha h)]; rfl
theorem ZmN {bs:List Int} (h:bs.length = 8) {a:Nat} (ha:a < 8):∃ x,bs.getD a 0 = x ∧ Za9 (bs.map D.int) (a:Int) = some (.int x):=⟨bs.getD a 0,rfl,by rw [ZbB,List.getElem?_map,Zl2 h ha]; rfl⟩
theorem ZlV {i j:Int} (h:-(2 ^ 64) < i ∧ i < 2 ^ 64):Zc9 i j = true:=by
 unfold Zc9; rw [Bool.or_eq_true]; left; simp only [Bool.and_eq_true,decide_eq_true_eq]; exact h
theorem mul_r {i j:Int} (h:-(2 ^ 64) < j ∧ j < 2 ^ 64):Zc9 i j = true:=by
 unfold Zc9; rw [Bool.or_eq_true]; right; simp only [Bool.and_eq_true,decide_eq_true_eq]; exact h
theorem Zb1 (x:Int) (m:Nat) (h:0 < m):∃ a:Nat,x % (m:Int) = a ∧ a < m:=by
 have h1:=Int.emod_nonneg x (b:=(m:Int)) (by exact fun z=>iN [_] [] 2 416093702305 T1 z h)
 have h2:=Int.emod_lt_of_pos x (b:=(m:Int)) (by exact iN [_] [] 1 149491217 T1 h)
 exact ⟨(x % (m:Int)).toNat,(Int.toNat_of_nonneg h1).symm,by exact iN [_,_] [_] 2 18698308976785 T1 h2 (Int.toNat_of_nonneg h1)⟩
theorem Zep {M M':Store} {d:D} (h:M'.length = M.length):ZbU M d M' = .ok d M':=by
 unfold ZbU
 rw [List.take_of_length_le (Nat.le_of_eq h)]
 split <;> rfl
noncomputable def Zh6:Nat → D → Bool
 | _,.int _=>true
 | _,.str _=>true
 | n + 1,.tup ds=>decide (ds.length ≤ 1000) && ds.all (Zh6 n)
 | _,_=>false
theorem ZlD (cs:List Int) (c d:Nat) (at_:Nat) (M:Store) (hd:M[d]? = some (.lst [.ref c,.int (at_:Int)])) (hc:M[c]? = some (.lst (cs.map D.int))) (ha:at_ < 1000000) (hne:c ≠ d):
  ∃ v:Int,Zac [.ref d] M = .ok (.int v) (M.set d (.lst [.ref c,.int ((at_ + 1:Nat):Int)])):=by
 have hdl:=(List.getElem?_eq_some_iff.mp hd).1
 have hc2:(M.set d (.lst [.ref c,.int ((at_:Int) + 1)]))[c]? = some (.lst (cs.map D.int)):=by rw [List.getElem?_set_ne (Ne.symm hne)]; exact hc
 have fin:∀ v:Int,ZbO [some (.ref d),none,none] M = .rt (.int v) (M.set d (.lst [.ref c,.int ((at_:Int) + 1)])) → ∃ v:Int,Zac [.ref d] M = .ok (.int v) (M.set d (.lst [.ref c,.int ((at_ + 1:Nat):Int)])):=fun v h=>by
  refine ⟨v,(Zbq h).trans ?_⟩
  unfold ZbU
  rw [List.take_of_length_le (by simp)]
  split <;> first | exact rfl | simp
 have m1:Zc9 (at_:Int) (at_:Int) = true:=ZlV (by omega)
 have m2:Zc9 ((at_:Int) * at_) 3 = true:=mul_r (by omega)
 by_cases h1:at_ < cs.length
 ·exact fin cs[at_] (by simp [ZbO,Zw,Zal,ZaF,sIf,Zam,ZaS,Zco,hd,hc2,h1])
 ·by_cases h2:cs.length = 0
  ·have n0:¬ ((at_:Int) < 0):=(fun z=>iN [_] [] 1 7211153 T1 z)
   exact fin ((at_:Int) * at_ * 3 + at_) (by simp [ZbO,Zw,Zal,ZaF,sIf,Zam,ZaS,Zco,hd,hc2,h2,m1,m2,n0])
  ·obtain ⟨a,ha',la⟩:=Zb1 (at_:Int) cs.length ((Nat.lt_of_le_of_ne (Nat.zero_le _) (Ne.symm h2)))
   have p0:0 < cs.length:=lB 1 31526929 T1 la
   exact fin (cs[a] / 2 + (at_:Int) * at_) (by simp [ZbO,Zw,Zal,ZaF,sIf,Zam,ZaS,Zco,hd,hc2,h1,h2,m1,p0,ha',la])
theorem Zdf (c:Int):∃ v:Int,∀ M,Zz [.int c] M = .ok (.int v) M:=by
 by_cases h:c % 4 = 0
 ·exact ⟨_,fun M=>by simp [Zz,ZbA,Zw,Zal,ZaF,sIf,Zam,ZaS,mkF,ZbU,below,belowL,Zc9,h]; rfl⟩
 ·by_cases h':c % 4 = 1
  ·exact ⟨_,fun M=>by simp [Zz,ZbA,Zw,Zal,ZaF,sIf,Zam,ZaS,mkF,ZbU,below,belowL,Zc9,h,h']; rfl⟩
  ·exact ⟨_,fun M=>by simp [Zz,ZbA,Zw,Zal,ZaF,sIf,Zam,ZaS,mkF,ZbU,below,belowL,Zc9,h,h']; rfl⟩
structure Zb2 (cs:List Int) (c d:Nat) (at_:Nat) (M:Store):Prop where
 hd:M[d]? = some (.lst [.ref c,.int (at_:Int)])
 hc:M[c]? = some (.lst (cs.map D.int))
 ne:c ≠ d
theorem Zb2.next {cs:List Int} {c d at_:Nat} {M:Store} (K:Zb2 cs c d at_ M) (ha:at_ < 1000000):∃ (v:Int) (M':Store),Zac [.ref d] M = .ok (.int v) M' ∧ Zb2 cs c d (at_ + 1) M' ∧ M'.length = M.length ∧ ∀ j,j ≠ d → M'[j]? = M[j]?:=by
 obtain ⟨v,h⟩:=ZlD cs c d at_ M K.hd K.hc ha K.ne
 have hdl:=(List.getElem?_eq_some_iff.mp K.hd).1
 exact ⟨v,_,h,⟨List.getElem?_set_self hdl,by rw [List.getElem?_set_ne (Ne.symm K.ne)]; exact K.hc,K.ne⟩,by simp,fun j hj=>List.getElem?_set_ne (Ne.symm hj)⟩
theorem Zb2.number {cs:List Int} {c d at_:Nat} {M:Store} {env:Zad} (K:Zb2 cs c d at_ M) (ha:at_ < 1000000) (h0:env[0]? = some (some (.ref d))):∃ (v:Int) (M':Store),(Zt Zz (Za (Zt Zac (Za (Zb 0) (Ze))) (Ze))) env M = .ok (.int v) M' ∧ Zb2 cs c d (at_ + 1) M' ∧ M'.length = M.length ∧ ∀ j,j ≠ d → M'[j]? = M[j]?:=by
 obtain ⟨v,M',h,K',l,o⟩:=K.next ha
 obtain ⟨w,hw⟩:=Zdf v
 exact ⟨w,M',ZcU (ZcU (a:=.ref d) (M1:=M) (by simp [h0]) h) (hw M'),K',l,o⟩
theorem Zbp {f:E3} {env:Zad} {M M':Store} {d:D} (h:f env M = .ok d M'):eNo f env M = .ok d M':=by simp only [eNo,h]
theorem ZdN {f:EL3} {env:Zad} {M M':Store} {d:List D} (h:f env M = .ok d M'):Zc7 f env M = .ok d M':=by simp only [Zc7,h]
theorem ZbI {f:S3} {env e:Zad} {M M':Store} (h:f env M = .nx e M'):sNo f env M = .nx e M':=by rw [sNo,h]
theorem Zid {f:S3} {env:Zad} {M M':Store} {d:D} (h:f env M = .rt d M'):sNo f env M = .rt d M':=by rw [sNo,h]
theorem ZcE {f g:S3} {env:Zad} {M M':Store} {x:X3} (h:f env M = .exc x M'):Zw f g env M = .exc x M':=by rw [Zw,h]
theorem ZeA {ps n:Nat} {body:S3} {ds:List D} {env:Zad} {M M':Store} {x:X3} (h:body env M = .exc x M') (hl:ds.length = ps:=by rfl) (he:ds.map some ++ List.replicate (n - ps) none = env:=by rfl):mkF ps n body ds M = .exc x M':=by
 subst he; rw [mkF,if_pos hl,h]
theorem ZdK {c:List Nat} {g:EL3} {env:Zad} {M M1:Store} {d:D} (h:g env M = .ok [d] M1):Zca c g env M = .exc ⟨c,.ref M1.length⟩ (M1 ++ [.ins (0 :: c) []]):=by rw [Zca,h]
theorem Zgq {f:E3} {env:Zad} {M M':Store} {x:X3} (h:f env M = .exc x M'):ZaS f env M = .exc x M':=by rw [ZaS,h]
theorem Zhv {f:E3} {i:Nat} {env:Zad} {M M':Store} {x:X3} (h:f env M = .exc x M'):Zal i f env M = .exc x M':=by rw [Zal,h]
theorem ZkU {cs:List (List Nat)} {j:Nat} {b g:S3} {env e:Zad} {M M':Store} (h:b env M = .nx e M'):ZhQ cs j b g env M = .nx e M':=by rw [ZhQ,h]
theorem ZkK {cs:List (List Nat)} {j:Nat} {b g:S3} {env e1 e2:Zad} {M M' M2:Store} {x:X3} (h:b env M = .exc x M') (hc:cs.contains x.cls = true) (hg:g (env.set j (some x.arg)) M' = .nx e1 M2) (he:e1.set j none = e2):ZhQ cs j b g env M = .nx e2 M2:=by
 rw [ZhQ,h]; simp only [hc,if_true,hg,he]
theorem Zij {yes no:List (List Nat)} {c:List Nat} {M:Store} {n:Nat} {fs:List (List Nat × D)} (h:M[n]? = some (.ins (0 :: c) fs)) (hy:yes.contains c = true):ZaY yes no (.ref n) M = .ok (.bl true) M:=by simp only [ZaY,h,hy,if_true]
theorem Zly {yes no:List (List Nat)} {c:List Nat} {M:Store} {n:Nat} {fs:List (List Nat × D)} (h:M[n]? = some (.ins (0 :: c) fs)) (hy:yes.contains c = false) (hn:no.contains c = true):ZaY yes no (.ref n) M = .ok (.bl false) M:=by
 simp only [ZaY,h,hy,hn,if_true,Bool.false_eq_true,if_false]
theorem ZgB {M M':Store} {d:D} (h:below M.length d = false):ZbU M d M' = .ok d M':=by
 unfold ZbU
 rw [h,if_neg (by simp)]
structure Kp (d:Nat) (M M':Store):Prop where
 len:M.length ≤ M'.length
 old:∀ j,j < M.length → j ≠ d → M'[j]? = M[j]?
theorem Kp.trans {d:Nat} {M M1 M2:Store} (a:Kp d M M1) (b:Kp d M1 M2):Kp d M M2:=⟨Nat.le_trans a.len b.len,fun j h1 h2=>(b.old j (Nat.lt_of_lt_of_le h1 a.len) h2).trans (a.old j h1 h2)⟩
theorem Kp.app (d:Nat) (M G:Store):Kp d M (M ++ G):=⟨by simp,fun j h _=>List.getElem?_append_left h⟩
theorem Kp.get {d:Nat} {M M':Store} (k:Kp d M M') {j:Nat} {o:MO} (h:M[j]? = some o) (hj:j ≠ d):M'[j]? = some o:=(k.old j (List.getElem?_eq_some_iff.mp h).1 hj).trans h
theorem Kp.put {d:Nat} {M M':Store} (k:Kp d M M') {j:Nat} (hj:M.length ≤ j) (o:MO):Kp d M (M'.set j o):=⟨by rw [List.length_set]; exact k.len,fun i h1 h2=>by rw [List.getElem?_set_ne (by omega)]; exact k.old i h1 h2⟩
theorem Zb2.app {cs:List Int} {c d at_:Nat} {M:Store} (K:Zb2 cs c d at_ M) (G:Store):Zb2 cs c d at_ (M ++ G):=⟨Zaf K.hd G,Zaf K.hc G,K.ne⟩
theorem Zb2.put {cs:List Int} {c d at_:Nat} {M:Store} (K:Zb2 cs c d at_ M) {j:Nat} (h1:j ≠ d) (h2:j ≠ c) (o:MO):Zb2 cs c d at_ (M.set j o):=⟨by rw [List.getElem?_set_ne h1]; exact K.hd,by rw [List.getElem?_set_ne h2]; exact K.hc,K.ne⟩
theorem Zb2.lt {cs:List Int} {c d at_:Nat} {M:Store} (K:Zb2 cs c d at_ M):c < M.length ∧ d < M.length:=⟨(List.getElem?_eq_some_iff.mp K.hc).1,(List.getElem?_eq_some_iff.mp K.hd).1⟩
theorem Zb2.draw {cs:List Int} {c d at_:Nat} {M:Store} (K:Zb2 cs c d at_ M) (ha:at_ < 1000000):∃ (v:Int) (M':Store),Zac [.ref d] M = .ok (.int v) M' ∧ Zb2 cs c d (at_ + 1) M' ∧ Kp d M M' ∧ M'.length = M.length:=by
 obtain ⟨v,M',h,K',l,o⟩:=K.next ha
 exact ⟨v,M',h,K',⟨by omega,fun j _ hj=>o j hj⟩,l⟩
noncomputable def Plain (d:D):Prop:=(∃ ds,d = .tup ds) ∧ Zh6 3 d = true ∧ Zai 3 d = true ∧ ∀ n,below n d = true
theorem ZhD (cs:List Int) (c d many:Nat) (at_:Nat) (M:Store) (K:Zb2 cs c d at_ M) (hm:many ≤ 1000) (ha:at_ + many < 100000):
  ∃ (rows:List D) (n:Nat) (M':Store),ZbE [.ref d,.int (many:Int)] M = .ok (.ref n) M' ∧ M'[n]? = some (.lst rows) ∧ M.length ≤ n ∧ rows.length = many ∧ (∀ r ∈ rows,Plain r) ∧ Zb2 cs c d (at_ + many) M' ∧ Kp d M M':=by
 obtain ⟨lc,ld⟩:=K.lt
 obtain ⟨e',M',lp,rows,x3,x4,rfl,K',g,lr,pl,kp⟩:=Zeq (it:=⟨Zdr 0 many,none⟩) (g:=Zbt 3)
  (body:=(Zw (Zal 4 (Zt Zac (Za (Zb 0) (Ze)))) (ZaS (Zez tyL Zcb (Zb 2) (Za (Zcv (Za (Zt Zz (Za (Zb 4) (Ze))) (Za (e2 ZaJ (e2 Zab (Zb 4) (eC (.int 9))) (eC (.int 2))) (Za (e2 Zr (Zag (Za (eC (.str [103,101,116])) (Za (eC (.str [115,101,116])) (Za (eC (.str [106,117,109,112])) (Ze))))) (e2 Zab (Zb 4) (eC (.int 3)))) (Za (Zt Zz (Za (e2 Zaq (Zb 4) (eC (.int 3))) (Ze))) (Ze)))))) (Ze))))))
  (P:=fun j env M'=>∃ (rows:List D) (x3 x4:Option D),env = [some (.ref d),some (.int (many:Int)),some (.ref M.length),x3,x4] ∧ Zb2 cs c d (at_ + j) M' ∧ M'[M.length]? = some (.lst rows) ∧ rows.length = j ∧ (∀ r ∈ rows,Plain r) ∧ Kp d M M')
  (Zdr 0 many) 0 [some (.ref d),some (.int (many:Int)),some (.ref M.length),none,none] (M ++ [.lst []]) ⟨[],none,none,rfl,K.app _,Zah _ _ _,rfl,fun r hr=>by simp at hr,Kp.app _ _ _⟩ (fun _ _ _ _=>rfl)
  (fun k dd hd env M' ⟨rows,x3,x4,he,K',g,lr,pl,kp⟩=>by
   obtain ⟨rfl,lk⟩:=Zfr hd
   subst he
   obtain ⟨v,M1,hv,K1,kp1,l1⟩:=K'.draw (by omega)
   obtain ⟨w,hw⟩:=Zdf v
   obtain ⟨w2,hw2⟩:=Zdf (v / 3)
   have g1:=kp1.get g (by omega)
   have lM:M.length < M1.length:=(List.getElem?_eq_some_iff.mp g1).1
   obtain ⟨a,ha1,la⟩:=Zb1 v 3 (by omega)
   have ha1':v % 3 = (a:Int):=ha1
   have s4:(Zt Zac (Za (Zb 0) (Ze))) [some (.ref d),some (.int (many:Int)),some (.ref M.length),some (.int (k:Int)),x4] M' = .ok (.int v) M1:=ZcU rfl hv
   obtain ⟨word,hword⟩:∃ word,([.str [103,101,116],.str [115,101,116],.str [106,117,109,112]]:List D)[a]? = some (.str word):=by
    have:a = 0 ∨ a = 1 ∨ a = 2:=by omega
    rcases this with rfl | rfl | rfl
    ·exact ⟨_,rfl⟩
    ·exact ⟨_,rfl⟩
    ·exact ⟨_,rfl⟩
   generalize hws:([.str [103,101,116],.str [115,101,116],.str [106,117,109,112]]:List D) = ws at hword
   have sl:(Zag (Za (eC (.str [103,101,116])) (Za (eC (.str [115,101,116])) (Za (eC (.str [106,117,109,112])) (Ze))))) [some (.ref d),some (.int (many:Int)),some (.ref M.length),some (.int (k:Int)),some (.int v)] M1 = .ok (.ref M1.length) (M1 ++ [.lst ws]):=by rw [← hws]; simp
   have gy:(M1 ++ [MO.lst ws])[M1.length]? = some (.lst ws):=Zah _ _ _
   have sw:(e2 Zr (Zag (Za (eC (.str [103,101,116])) (Za (eC (.str [115,101,116])) (Za (eC (.str [106,117,109,112])) (Ze))))) (e2 Zab (Zb 4) (eC (.int 3)))) [some (.ref d),some (.int (many:Int)),some (.ref M.length),some (.int (k:Int)),some (.int v)] M1 = .ok (.str word) (M1 ++ [.lst ws]):=Zm sl (b:=.int (a:Int)) (M2:=M1 ++ [.lst ws]) (by simp [ha1']) (by simp only [Zr,gy,Zjg,hword])
   generalize (e2 Zr (Zag (Za (eC (.str [103,101,116])) (Za (eC (.str [115,101,116])) (Za (eC (.str [106,117,109,112])) (Ze))))) (e2 Zab (Zb 4) (eC (.int 3)))) = E at sw
   have ar:(Zcv (Za (Zt Zz (Za (Zb 4) (Ze))) (Za (e2 ZaJ (e2 Zab (Zb 4) (eC (.int 9))) (eC (.int 2))) (Za E (Za (Zt Zz (Za (e2 Zaq (Zb 4) (eC (.int 3))) (Ze))) (Ze)))))) [some (.ref d),some (.int (many:Int)),some (.ref M.length),some (.int (k:Int)),some (.int v)] M1 = .ok (.tup [.int w,.int (v % 9 - 2),.str word,.int w2]) (M1 ++ [.lst ws]):=by simp [hw,hw2,sw]
   have g2:=Zaf g1 [.lst ws]
   have ap:=ZcF (ZeN (o:=Zb 2) (n:=M.length) rfl g1 ar g2 (by omega))
   have plr:Plain (.tup [.int w,.int (v % 9 - 2),.str word,.int w2]):=⟨⟨_,rfl⟩,by simp [Zh6],by simp [Zai],fun n=>rfl⟩
   have l3:M.length < (M1 ++ [MO.lst ws]).length:=by simp; omega
   refine ⟨_,_,_,rfl,(Zk (Zaj s4)).trans ap,rows ++ [_],_,_,rfl,(K1.app _).put (by omega) (by omega) _,List.getElem?_set_self l3,by simp [lr],fun r hr=>?_,((kp.trans kp1).trans (Kp.app _ _ _)).put (Nat.le_refl _) _⟩
   rcases List.mem_append.mp hr with hr | hr
   ·exact pl r hr
   ·rw [List.mem_singleton] at hr; rw [hr]; exact plr)
 rw [ZiB,Nat.zero_add] at lr K'
 have b:((many:Int)) ≤ 1000000 ∧ -1000000 ≤ ((many:Int)):=by omega
 have ir:ZcP (Zb 1) [some (.ref d),some (.int (many:Int)),some (.ref M.length),none,none] (M ++ [.lst []]) = .ok ⟨Zdr 0 many,none⟩ (M ++ [.lst []]):=by simp [b]
 refine ⟨rows,M.length,M',?_,g,Nat.le_refl _,lr,pl,K',kp⟩
 refine (Zbq (env:=[some (.ref d),some (.int (many:Int)),none,none,none]) ((Zk (Zaj (d:=.ref M.length) (M':=M ++ [.lst []]) (by simp))).trans ((Zk ((ZdL ir).trans lp)).trans (Za0 rfl)))).trans ?_
 simp [ZbU,below]
theorem Zhs (i:Int) (M:Store):ZbH [.int i] M = .ok (.bl true) M:=by simp [ZbH,Zd6,Zw,Zal,ZaF,sIf,Zam,ZaS,mkF,ZbU,below,belowL,Zc9]
noncomputable def Zdj (rows:List D) (more:Int) (ends:List Int):List D:=(List.range (ends.length - 1)).map fun k=>D.tup (cutD rows (some (ends.getD k 0)) (some (ends.getD (k + 1) 0 + more)))
theorem ZfC {lk:List (Nat × List D)} {g:G3} {elt:E3} {n:Nat} {I:Zad → Prop} {M:Store} {hf:D → D}:∀ (ds acc:List D) (env:Zad),I env →
  (∀ a ∈ ds,∀ env,I env → ∃ env1,g a env = some env1 ∧ I env1 ∧ ∀ x,elt env1 (M ++ [.lst x]) = .ok (hf a) (M ++ [.lst x])) → n = M.length → (∀ x,ZcJ lk (M ++ [.lst x]) = true) → acc.length + ds.length ≤ 10000 →
  ZcX lk g [] elt n ds env (M ++ [.lst acc]) = .ok (.ref n) (M ++ [.lst (acc ++ ds.map hf)])
 | [],acc,env,_,_,hn,hl,_=>by simp only [ZcX,hl,if_true,List.map_nil,List.append_nil]
 | a :: ds,acc,env,hI,hs,hn,hl,hz=>by
  obtain ⟨env1,hg,hI1,he⟩:=hs a List.mem_cons_self env hI
  have gt:(M ++ [MO.lst acc])[n]? = some (.lst acc):=by rw [hn]; exact Zah _ _ _
  have lt:acc.length < SZ:=by simp only [List.length_cons,SZ] at hz ⊢; omega
  have st:(M ++ [MO.lst acc]).set n (.lst (acc ++ [hf a])) = M ++ [.lst (acc ++ [hf a])]:=by rw [hn]; simp
  have ih:=ZfC ds (acc ++ [hf a]) env1 hI1 (fun b hb=>hs b (List.mem_cons_of_mem _ hb)) hn hl (by simp only [List.length_append,List.length_cons,List.length_nil] at hz ⊢; omega)
  simp only [ZcX,hl,if_true,hg,Zen,R3.bind,he,gt,lt,st]
  rw [ih]
  simp
noncomputable def pieceOf (rows:List D) (more:Int):D → D
 | .tup [.int a,.int b]=>.tup (cutD rows (some a) (some (b + more)))
 | _=>.non
theorem ZhW (rows:List D) (more e:Int) (ks:List Int):(Zei ((0 :: ks).map D.int) ((ks ++ [e]).map D.int)).map (pieceOf rows more) = Zdj rows more (0 :: ks ++ [e]):=by
 apply List.ext_getElem?
 intro i
 have e1:((0 :: ks:List Int) ++ [e]).length - 1 = ks.length + 1:=by simp
 unfold Zdj
 rw [List.getElem?_map,List.getElem?_map,Zeo,e1,List.getElem?_map,List.getElem?_map]
 by_cases h:i < ks.length + 1
 ·have h1:(0 :: ks)[i]? = some ((0 :: ks)[i]'(by simpa using h)):=List.getElem?_eq_getElem _
  have h2:(ks ++ [e])[i]? = some ((ks ++ [e])[i]'(by simpa using h)):=List.getElem?_eq_getElem _
  have h3:((0 :: ks:List Int) ++ [e]).getD i 0 = (0 :: ks)[i]'(by simpa using h):=by
   rw [List.getD_eq_getElem?_getD,List.getElem?_append_left (by simpa using h),h1]; rfl
  have h4:((0 :: ks:List Int) ++ [e]).getD (i + 1) 0 = (ks ++ [e])[i]'(by simpa using h):=by
   rw [List.getD_eq_getElem?_getD,List.cons_append,List.getElem?_cons_succ,h2]; rfl
  have h5:(List.range (ks.length + 1))[i]? = some i:=by simp [h]
  rw [h1,h2,h5]
  simp only [Option.map_some,pieceOf]
  rw [h3,h4]
 ·have h1:(0 :: ks)[i]? = none:=by simp; omega
  have h5:(List.range (ks.length + 1))[i]? = none:=by simp; omega
  rw [h1,h5]
  rfl
theorem ZfF (rows:List D) (more e:Int) (ks:List Int):(Zdj rows more (0 :: ks ++ [e])).length = ks.length + 1:=by simp [Zdj]
theorem Zit (rows:List D) (ks:List Int) (n:Nat) (e more:Int) (eE elt:E3) (M:Store) (hn:M[n]? = some (.lst (ks.map D.int))) (he:∀ M,eE [some (.tup rows),some (.ref n)] M = .ok (.int e) M)
  (hel:∀ a b M,elt [some (.tup rows),some (.ref n),some (.int a),some (.int b)] M = .ok (.tup (cutD rows (some a) (some (b + more)))) M) (lk:ks.length ≤ 5000):
  (ZkA (Zjd (e2 Zo (Zag (Za (eC (.int 0)) (Ze))) (Zb 1)) (e2 Zo (Zb 1) (Zag (Za eE (Ze))))) 2 (ZfG [2,3]) [] elt) [some (.tup rows),some (.ref n)] M = .ok (.ref (M.length + 4)) (M ++ [.lst [.int 0],.lst ((0 :: ks).map D.int),.lst [.int e],.lst ((ks ++ [e]).map D.int),.lst (Zdj rows more (0 :: ks ++ [e]))]):=by
 have hnl:=(List.getElem?_eq_some_iff.mp hn).1
 have z1:([D.int 0].length + (ks.map D.int).length ≤ SZ):=by simp; omega
 have z2:((ks.map D.int).length + [D.int e].length ≤ SZ):=by simp; omega
 have a1:e2 Zo (Zag (Za (eC (.int 0)) (Ze))) (Zb 1) [some (.tup rows),some (.ref n)] M = .ok (.ref (M.length + 1)) (M ++ [.lst [.int 0],.lst ((0 :: ks).map D.int)]):=by
  refine Zm (a:=.ref M.length) (b:=.ref n) (M1:=M ++ [.lst [.int 0]]) (M2:=M ++ [.lst [.int 0]]) (by simp) rfl ?_
  simp only [Zo,Zah,Zaf hn,if_pos z1,alloc]
  simp
 have hn2:=Zaf hn [.lst [.int 0],.lst ((0 :: ks).map D.int)]
 have a2:e2 Zo (Zb 1) (Zag (Za eE (Ze))) [some (.tup rows),some (.ref n)] (M ++ [.lst [.int 0],.lst ((0 :: ks).map D.int)]) = .ok (.ref (M.length + 3)) (M ++ [.lst [.int 0],.lst ((0 :: ks).map D.int),.lst [.int e],.lst ((ks ++ [e]).map D.int)]):=by
  refine Zm (a:=.ref n) (b:=.ref (M.length + 2)) (M1:=M ++ [.lst [.int 0],.lst ((0 :: ks).map D.int)]) (M2:=M ++ [.lst [.int 0],.lst ((0 :: ks).map D.int),.lst [.int e]]) rfl (by simp [he]) ?_
  have g2:(M ++ [MO.lst [.int 0],.lst ((0 :: ks).map D.int),.lst [.int e]])[M.length + 2]? = some (.lst [.int e]):=ZbD _ _ 2
  have g3:=Zaf hn [.lst [.int 0],.lst ((0 :: ks).map D.int),.lst [.int e]]
  simp only [Zo,g2,g3,if_pos z2,alloc]
  simp
 generalize hM1:M ++ [MO.lst [.int 0],.lst ((0 :: ks).map D.int),.lst [.int e],.lst ((ks ++ [e]).map D.int)] = M1 at a2
 have l1:M1.length = M.length + 4:=by rw [← hM1]; simp
 have g1:M1[M.length + 1]? = some (.lst ((0 :: ks).map D.int)):=by rw [← hM1]; exact ZbD _ _ 1
 have g3:M1[M.length + 3]? = some (.lst ((ks ++ [e]).map D.int)):=by rw [← hM1]; exact ZbD _ _ 3
 have iz:Zjd (e2 Zo (Zag (Za (eC (.int 0)) (Ze))) (Zb 1)) (e2 Zo (Zb 1) (Zag (Za eE (Ze)))) [some (.tup rows),some (.ref n)] M = .ok ⟨Zei ((0 :: ks).map D.int) ((ks ++ [e]).map D.int),[(M.length + 1,(0 :: ks).map D.int),(M.length + 3,(ks ++ [e]).map D.int)]⟩ M1:=by
  generalize e2 Zo (Zag (Za (eC (.int 0)) (Ze))) (Zb 1) = E1 at a1
  generalize e2 Zo (Zb 1) (Zag (Za eE (Ze))) = E2 at a2
  simp only [Zjd,a1,R3.bind,a2,g1,g3]
 have lp:=ZfC (lk:=[(M.length + 1,(0 :: ks).map D.int),(M.length + 3,(ks ++ [e]).map D.int)]) (g:=ZfG [2,3]) (elt:=elt) (n:=M1.length) (M:=M1) (I:=fun env=>∃ x2 x3,env = [some (.tup rows),some (.ref n),x2,x3]) (hf:=pieceOf rows more)
  (Zei ((0 :: ks).map D.int) ((ks ++ [e]).map D.int)) [] [some (.tup rows),some (.ref n),none,none] ⟨none,none,rfl⟩
  (fun d hd env ⟨x2,x3,he'⟩=>by
   subst he'
   obtain ⟨i,hi,ei⟩:=List.mem_iff_getElem.mp hd
   have q:=Zeo ((0 :: ks).map D.int) ((ks ++ [e]).map D.int) i
   rw [List.getElem?_eq_getElem hi,ei,List.getElem?_map,List.getElem?_map] at q
   cases h1:(0 :: ks)[i]? with
   | none=>rw [h1] at q; cases q
   | some a=>
    cases h2:(ks ++ [e])[i]? with
    | none=>rw [h1,h2] at q; cases q
    | some b=>
     rw [h1,h2] at q
     simp only [Option.map_some,Option.some.injEq] at q
     subst q
     exact ⟨[some (.tup rows),some (.ref n),some (.int a),some (.int b)],rfl,⟨_,_,rfl⟩,fun x=>hel a b _⟩)
  rfl (fun x=>by simp only [ZcJ,List.all_cons,List.all_nil,Zaf g1,Zaf g3,decide_true,Bool.and_self]) (by rw [ZfR]; simp; omega)
 unfold ZkA
 rw [iz]
 simp only [R3.bind]
 refine Eq.trans lp ?_
 rw [ZhW,← hM1]
 simp
noncomputable abbrev BC:List Nat:=[66,97,100,67,117,116]
noncomputable def Zb8 (a m:Int):Int → List Int → Bool
 | _,[]=>true
 | low,c :: cs=>!decide (c < low) && !decide (c > m) && Zb8 a m (c + a) cs
noncomputable abbrev BCx (M:Store):Store:=M ++ [.ins (0 :: BC) []]
noncomputable def ZiZ:S3:=(Zw (sIf (eNo (eOr (e1 Za2 (Zt ZbH (Za (Zb 4) (Ze)))) (eOr (e2 ZcQ (Zb 4) (e2 Zo (Zb 3) (Zb 1))) (e2 Zdq (Zb 4) (Zb 2))))) (Zca [66,97,100,67,117,116] (Za (eC (.str [97,32,99,117,116,32,105,115,32,110,111,110,101,32,111,102,32,116,104,101,32,116,97,98,108,101,39,115,44,32,111,114,32,116,111,111,32,110,101,97,114,32,98,101,104,105,110,100,32,116,104,101,32,111,110,101,32,97,104,101,97,100])) (Ze))) (sNo (Zam))) (sNo (Zal 3 (Zb 4))))
theorem Znz {z:D} {a m h c:Int} {M:Store}:(eOr (e1 Za2 (Zt ZbH (Za (Zb 4) (Ze)))) (eOr (e2 ZcQ (Zb 4) (e2 Zo (Zb 3) (Zb 1))) (e2 Zdq (Zb 4) (Zb 2)))) [some z,some (.int a),some (.int m),some (.int h),some (.int c)] M = .ok (.bl (decide (c < h + a) || decide (c > m))) M:=by
 refine (Ziu (M1:=M) (ZdS (ZcU rfl (Zhs c M)) rfl)).trans ?_
 by_cases q:c < h + a
 ·rw [decide_eq_true q]; exact ZlN (M1:=M) (Zm rfl (Zm rfl rfl rfl) (by simp only [ZcQ,decide_eq_true q]))
 ·rw [decide_eq_false q]; exact (Ziu (M1:=M) (Zm rfl (Zm rfl rfl rfl) (by simp only [ZcQ,decide_eq_false q]))).trans (Zm rfl rfl rfl)
theorem ZfP {n:Nat} {ks0:List Int} {a m:Int} {M:Store} (hn:M[n]? = some (.lst (ks0.map D.int))):∀ (ks:List Int) (h:Int) (x4:Option D),
  (Zb8 a m (h + a) ks = true → ∃ e',Zaw ⟨ks0.map D.int,some n⟩ (Zbt 4) ZiZ (ks.map D.int) [some (.ref n),some (.int a),some (.int m),some (.int h),x4] M = .nx e' M) ∧
  (Zb8 a m (h + a) ks = false → Zaw ⟨ks0.map D.int,some n⟩ (Zbt 4) ZiZ (ks.map D.int) [some (.ref n),some (.int a),some (.int m),some (.int h),x4] M = .exc ⟨BC,.ref M.length⟩ (BCx M))
 | [],h,x4=>by
  have lk:locked ⟨ks0.map D.int,some n⟩ M = true:=by simp only [locked,hn,decide_true]
  exact ⟨fun _=>⟨[some (.ref n),some (.int a),some (.int m),some (.int h),x4],by simp only [List.map_nil,Zaw,lk,if_true]⟩,(fun z=>nomatch z)⟩
 | c :: ks,h,x4=>by
  have lk:locked ⟨ks0.map D.int,some n⟩ M = true:=by simp only [locked,hn,decide_true]
  have cc:=Znz (z:=.ref n) (a:=a) (m:=m) (h:=h) (c:=c) (M:=M)
  obtain ⟨i1,i2⟩:=ZfP (a:=a) (m:=m) hn ks c (some (.int c))
  by_cases q:(decide (c < h + a) || decide (c > m)) = true
  ·rw [q] at cc
   have st:ZiZ [some (.ref n),some (.int a),some (.int m),some (.int h),some (.int c)] M = .exc ⟨BC,.ref M.length⟩ (BCx M):=ZcE ((Zda (M':=M) (Zbp cc)).trans (ZdK rfl))
   have e:Zb8 a m (h + a) (c :: ks) = false:=by
    simp only [Zb8,← Bool.not_or,q,Bool.not_true,Bool.false_and]
   refine ⟨(fun z=>absurd (e.symm.trans z) Bool.false_ne_true),fun _=>?_⟩
   simp only [List.map_cons,Zaw,lk,if_true,Zbt,List.set_cons_succ,List.set_cons_zero,st]
  ·have q:=Bool.eq_false_iff.mpr q
   rw [q] at cc
   have st:ZiZ [some (.ref n),some (.int a),some (.int m),some (.int h),some (.int c)] M = .nx [some (.ref n),some (.int a),some (.int m),some (.int c),some (.int c)] M:=(Zk ((Zdz (M':=M) (Zbp cc)).trans (ZbI rfl))).trans (ZbI (Zaj rfl))
   have e:Zb8 a m (h + a) (c :: ks) = Zb8 a m (c + a) ks:=by
    simp only [Zb8,← Bool.not_or,q,Bool.not_false,Bool.true_and]
   rw [e]
   have go:Zaw ⟨ks0.map D.int,some n⟩ (Zbt 4) ZiZ ((c :: ks).map D.int) [some (.ref n),some (.int a),some (.int m),some (.int h),x4] M = Zaw ⟨ks0.map D.int,some n⟩ (Zbt 4) ZiZ (ks.map D.int) [some (.ref n),some (.int a),some (.int m),some (.int c),some (.int c)] M:=by
    simp only [List.map_cons,Zaw,lk,if_true,Zbt,List.set_cons_succ,List.set_cons_zero,st]
   exact ⟨fun z=>(i1 z).imp fun _ w=>go.trans w,fun z=>go.trans (i2 z)⟩
theorem Zej {i:I3} {g:G3} {u:S3} {env:Zad} {M M':Store} {it:It3} (h:i env M = .ok it M'):Zf1 i g u env M = Zaw it g u it.items env M':=by rw [Zf1,h]
section
variable {n:Nat} {ks:List Int} {a m:Int} {M:Store}
theorem Zhc (hn:M[n]? = some (.lst (ks.map D.int))) (h:Zb8 a m a ks = true):ZaA [.ref n,.int a,.int m] M = .ok .non M:=by
 rw [← Int.zero_add a] at h
 obtain ⟨e',lp⟩:=(ZfP (a:=a) (m:=m) hn ks 0 none).1 (by rw [Int.zero_add] at h ⊢; exact h)
 have il:e1 Za2 (e1 (ZcB .list) (Zb 0)) [some (.ref n),some (.int a),some (.int m),none,none] M = .ok (.bl false) M:=by simp [hn]
 exact (Znx (env:=[some (.ref n),some (.int a),some (.int m),none,none]) ((Zk ((Zdz (M':=M) (Zbp il)).trans (ZbI rfl))).trans ((Zk (ZbI (Zaj rfl))).trans ((Zej (it:=⟨ks.map D.int,some n⟩) (M':=M) (by simp [hn])).trans lp)))).trans (ZiW rfl)
theorem Zhj (hn:M[n]? = some (.lst (ks.map D.int))) (h:Zb8 a m a ks = false):ZaA [.ref n,.int a,.int m] M = .exc ⟨BC,.ref M.length⟩ (BCx M):=by
 have lp:=(ZfP (a:=a) (m:=m) hn ks 0 none).2 (by rw [Int.zero_add]; exact h)
 have il:e1 Za2 (e1 (ZcB .list) (Zb 0)) [some (.ref n),some (.int a),some (.int m),none,none] M = .ok (.bl false) M:=by simp [hn]
 exact ZeA (env:=[some (.ref n),some (.int a),some (.int m),none,none]) ((Zk ((Zdz (M':=M) (Zbp il)).trans (ZbI rfl))).trans ((Zk (ZbI (Zaj rfl))).trans ((Zej (it:=⟨ks.map D.int,some n⟩) (M':=M) (by simp [hn])).trans lp)))
end
section
variable {rows:List D} {n:Nat} {ks:List Int} {M:Store}
theorem ZnL (hn:M[n]? = some (.lst (ks.map D.int))) (h:Zb8 1 ((rows.length:Int) - 2) 1 ks = true) (lk:ks.length ≤ 5000):∃ (xs:List D) (G:Store),Zbo [.tup rows,.ref n] M = .ok (.ref (M.length + 4)) (M ++ G) ∧ (M ++ G)[M.length + 4]? = some (.lst xs) ∧ xs.length = ks.length + 1:=by
 have rf:=Zhc (m:=(rows.length:Int) - 2) hn h
 have cz:=Zit rows ks n ((rows.length:Int) - 1) 1 (e2 ZaJ (Zas ZaD (Za (Zb 0) (Ze))) (eC (.int 1))) (eSl (Zb 0) (Zx (Zb 2)) (Zx (e2 Zo (Zb 3) (eC (.int 1))))) M hn (fun M=>rfl) (fun a b M=>rfl) lk
 refine ⟨_,[.lst [.int 0],.lst ((0 :: ks).map D.int),.lst [.int ((rows.length:Int) - 1)],.lst ((ks ++ [(rows.length:Int) - 1]).map D.int),.lst (Zdj rows 1 (0 :: ks ++ [(rows.length:Int) - 1]))],?_,ZbD _ _ 4,ZfF _ _ _ _⟩
 refine (Zbq (env:=[some (.tup rows),some (.ref n)]) ((Zk (ZcF (d:=.non) (M':=M) ?_)).trans (Zid (Za0 cz)))).trans ?_
 ·have ea:(Zc7 (Za (Zb 1) (Za (eC (.int 1)) (Za (e2 ZaJ (Zas ZaD (Za (Zb 0) (Ze))) (eC (.int 2))) (Ze))))) [some (.tup rows),some (.ref n)] M = .ok [.ref n,.int 1,.int ((rows.length:Int) - 2)] M:=ZdN (Zi rfl (Zi rfl (Zi (Zm (Za5 rfl rfl) rfl rfl) rfl)))
  simp only [Zt,ea,R3.bind,rf]
 ·simp [ZbU,below]
theorem Znj (hn:M[n]? = some (.lst (ks.map D.int))) (h:Zb8 1 ((rows.length:Int) - 2) 1 ks = false):Zbo [.tup rows,.ref n] M = .exc ⟨BC,.ref M.length⟩ (BCx M):=by
 have rf:=Zhj (m:=(rows.length:Int) - 2) hn h
 refine ZeA (env:=[some (.tup rows),some (.ref n)]) (ZcE (Zgq ?_))
 have ea:(Zc7 (Za (Zb 1) (Za (eC (.int 1)) (Za (e2 ZaJ (Zas ZaD (Za (Zb 0) (Ze))) (eC (.int 2))) (Ze))))) [some (.tup rows),some (.ref n)] M = .ok [.ref n,.int 1,.int ((rows.length:Int) - 2)] M:=ZdN (Zi rfl (Zi rfl (Zi (Zm (Za5 rfl rfl) rfl rfl) rfl)))
 simp only [Zt,ea,R3.bind,rf]
theorem ZnF (hn:M[n]? = some (.lst (ks.map D.int))) (h:Zb8 0 (rows.length:Int) 0 ks = true) (lk:ks.length ≤ 5000):∃ (xs:List D) (G:Store),ZbJ [.tup rows,.ref n] M = .ok (.ref (M.length + 4)) (M ++ G) ∧ (M ++ G)[M.length + 4]? = some (.lst xs) ∧ xs.length = ks.length + 1:=by
 have rf:=Zhc (m:=(rows.length:Int)) hn h
 have cz:=Zit rows ks n (rows.length:Int) 0 (Zas ZaD (Za (Zb 0) (Ze))) (eSl (Zb 0) (Zx (Zb 2)) (Zx (Zb 3))) M hn (fun M=>rfl) (fun a b M=>by rw [Int.add_zero]; rfl) lk
 refine ⟨_,[.lst [.int 0],.lst ((0 :: ks).map D.int),.lst [.int (rows.length:Int)],.lst ((ks ++ [(rows.length:Int)]).map D.int),.lst (Zdj rows 0 (0 :: ks ++ [(rows.length:Int)]))],?_,ZbD _ _ 4,ZfF _ _ _ _⟩
 refine (Zbq (env:=[some (.tup rows),some (.ref n)]) ((Zk (ZcF (d:=.non) (M':=M) ?_)).trans (Zid (Za0 cz)))).trans ?_
 ·have ea:(Zc7 (Za (Zb 1) (Za (eC (.int 0)) (Za (Zas ZaD (Za (Zb 0) (Ze))) (Ze))))) [some (.tup rows),some (.ref n)] M = .ok [.ref n,.int 0,.int (rows.length:Int)] M:=ZdN (Zi rfl (Zi rfl (Zi (Za5 rfl rfl) rfl)))
  simp only [Zt,ea,R3.bind,rf]
 ·simp [ZbU,below]
theorem Zm7 (hn:M[n]? = some (.lst (ks.map D.int))) (h:Zb8 0 (rows.length:Int) 0 ks = false):ZbJ [.tup rows,.ref n] M = .exc ⟨BC,.ref M.length⟩ (BCx M):=by
 have rf:=Zhj (m:=(rows.length:Int)) hn h
 refine ZeA (env:=[some (.tup rows),some (.ref n)]) (ZcE (Zgq ?_))
 have ea:(Zc7 (Za (Zb 1) (Za (eC (.int 0)) (Za (Zas ZaD (Za (Zb 0) (Ze))) (Ze))))) [some (.tup rows),some (.ref n)] M = .ok [.ref n,.int 0,.int (rows.length:Int)] M:=ZdN (Zi rfl (Zi rfl (Zi (Za5 rfl rfl) rfl)))
 simp only [Zt,ea,R3.bind,rf]
end
theorem ZdP {i j:Int} {M:Store} (h:0 < j ∧ j < 1073741824):Zaq (.int i) (.int j) M = .ok (.int (i / j)) M:=by simp only [Zaq,if_pos h]
theorem Zbj {g:EL3} {env:Zad} {M M':Store} {ds:List D} (h:g env M = .ok ds M') (hl:decide (ds.length ≤ 100) = true):Zag g env M = .ok (.ref M'.length) (M' ++ [.lst ds]):=by
 have z:ds.length ≤ SZ:=Nat.le_trans (of_decide_eq_true hl) (by decide)
 simp only [Zag,h,R3.bind,if_pos z,alloc]
theorem Zpn {op:D → D → D → Store → R3 D} {f g h:E3} {env:Zad} {M M1 M2 M3 M4:Store} {a b c d:D} (h1:f env M = .ok a M1) (h2:g env M1 = .ok b M2) (h3:h env M2 = .ok c M3) (h4:op a b c M3 = .ok d M4):e3 op f g h env M = .ok d M4:=by simp only [e3,h1,h2,h3,h4,R3.bind]
theorem Zlq {f:E3} {i j:Nat} {env:Zad} {M M1:Store} {n:Nat} {a b:D} (h:f env M = .ok (.ref n) M1) (hn:M1[n]? = some (.lst [a,b])):ZgA f [i,j] env M = .nx ((env.set i (some a)).set j (some b)) M1:=by
 simp [ZgA,h,hn]
noncomputable def ZhC:S3:=(sIf (eNo (e2 ZbG (Zb 0) (eC (.int 0)))) (Zal 4 (Zt Zbo (Zc7 (Za (Zb 1) (Za (Zb 2) (Ze)))))) (sIf (eNo (e2 ZbG (Zb 0) (eC (.int 1)))) (Zal 4 (Zt ZbJ (Zc7 (Za (Zb 1) (Za (Zb 2) (Ze)))))) (Zal 4 (Zag (Za (Zt Zap (Zc7 (Za (Zb 1) (Ze)))) (Ze))))))
section
variable {w r q:D} {M:Store}
theorem Zfv {f:D} {M1:Store} (h:ZhC [some w,some r,some q,some .non,some (.ref M.length),none] (M ++ [.lst []]) = .nx [some w,some r,some q,some .non,some f,none] M1) (hl:M.length ≤ M1.length):Zn [w,r,q] M = .ok (.ref M1.length) (M1 ++ [.lst [.bl false,f]]):=by
 refine (Zbq (env:=[some w,some r,some q,none,none,none]) (d:=.ref M1.length) (M':=M1 ++ [.lst [.bl false,f]]) ((Zk (Zaj rfl)).trans ((Zk (Zaj (Zbj rfl rfl))).trans ((Zk (ZkU h)).trans ((Zk (Zbe (M':=M1) rfl)).trans (Za0 (Zbj (Zi (Zh0 rfl) (Zi rfl rfl)) rfl))))))).trans (ZgB ?_)
 simp [below]; omega
theorem Ze8 {M1:Store} (h:ZhC [some w,some r,some q,some .non,some (.ref M.length),none] (M ++ [.lst []]) = .exc ⟨BC,.ref M1.length⟩ (BCx M1)) (hl:M.length ≤ M1.length):Zn [w,r,q] M = .ok (.ref (M1.length + 1)) (M1 ++ [.ins (0 :: BC) [],.lst [.bl true,.ref M.length]]):=by
 have g:(BCx M1)[M1.length]? = some (.ins (0 :: BC) []):=Zah _ _ _
 have fin:(Zag (Za (Zdd (e1 (ZaY [[66,97,100,67,117,116]] []) (Zb 3)) (e1 (ZaY [[66,97,100,67,117,116]] []) (Zb 3))) (Za (Zb 4) (Ze)))) [some w,some r,some q,some (.ref M1.length),some (.ref M.length),none] (BCx M1) = .ok (.ref (M1.length + 1)) (M1 ++ [.ins (0 :: BC) [],.lst [.bl true,.ref M.length]]):=by
  refine (Zbj (Zi ((Zd3 (ZdS rfl (Zij g rfl))).trans (ZdS rfl (Zij g rfl))) (Zi rfl rfl)) rfl).trans ?_
  rw [List.length_append,List.append_assoc]; rfl
 refine (Zbq (env:=[some w,some r,some q,none,none,none]) (d:=.ref (M1.length + 1)) (M':=M1 ++ [.ins (0 :: BC) [],.lst [.bl true,.ref M.length]]) ((Zk (Zaj rfl)).trans ((Zk (Zaj (Zbj rfl rfl))).trans ((Zk (ZkK h rfl (Zaj rfl) rfl)).trans ((Zk (Zbe (M':=BCx M1) (ZdS rfl (Zly g rfl rfl)))).trans (Za0 fin)))))).trans (ZgB ?_)
 simp [below]; omega
end
noncomputable def ZdW (k:Nat) (rows:List D) (ks:List Int):Bool:=if k = 0 then Zb8 1 ((rows.length:Int) - 2) 1 ks else Zb8 0 (rows.length:Int) 0 ks
section
variable {rows:List D} {n:Nat} {ks:List Int} {M:Store}
theorem ZoJ {k:Nat} (hk:k = 0 ∨ k = 1) (hn:M[n]? = some (.lst (ks.map D.int))) (lk:ks.length ≤ 5000):
  ∃ (f:Nat) (xs:List D) (G:Store),Zn [.int (k:Int),.tup rows,.ref n] M = .ok (.ref (M ++ G).length) (M ++ G ++ [.lst [.bl (!ZdW k rows ks),.ref f]]) ∧ (ZdW k rows ks = true → (M ++ G)[f]? = some (.lst xs) ∧ xs.length = ks.length + 1):=by
 have hn':=Zaf hn [.lst []]
 have key:∀ (F:F3) (b:Bool),(b = true → ∃ (xs:List D) (G:Store),F [.tup rows,.ref n] (M ++ [.lst []]) = .ok (.ref ((M ++ [MO.lst []]).length + 4)) (M ++ [.lst []] ++ G) ∧ (M ++ [.lst []] ++ G)[(M ++ [MO.lst []]).length + 4]? = some (.lst xs) ∧ xs.length = ks.length + 1) → (b = false → F [.tup rows,.ref n] (M ++ [.lst []]) = .exc ⟨BC,.ref (M ++ [MO.lst []]).length⟩ (BCx (M ++ [.lst []]))) →
   (∀ (env:Zad) (M:Store),env[0]? = some (some (.int (k:Int))) → ZhC env M = Zal 4 (Zt F (Zc7 (Za (Zb 1) (Za (Zb 2) (Ze))))) env M) →
   ∃ (f:Nat) (xs:List D) (G:Store),Zn [.int (k:Int),.tup rows,.ref n] M = .ok (.ref (M ++ G).length) (M ++ G ++ [.lst [.bl (!b),.ref f]]) ∧ (b = true → (M ++ G)[f]? = some (.lst xs) ∧ xs.length = ks.length + 1):=fun F b ht hf hB=>by
  have ea:(Zc7 (Za (Zb 1) (Za (Zb 2) (Ze)))) [some (.int (k:Int)),some (.tup rows),some (.ref n),some .non,some (.ref M.length),none] (M ++ [.lst []]) = .ok [.tup rows,.ref n] (M ++ [.lst []]):=ZdN (Zi rfl (Zi rfl rfl))
  cases b with
  | true=>
   obtain ⟨xs,G,e,g,l⟩:=ht rfl
   have h:ZhC [some (.int (k:Int)),some (.tup rows),some (.ref n),some .non,some (.ref M.length),none] (M ++ [.lst []]) = .nx [some (.int (k:Int)),some (.tup rows),some (.ref n),some .non,some (.ref ((M ++ [MO.lst []]).length + 4)),none] (M ++ [.lst []] ++ G):=(hB _ _ rfl).trans (Zaj (d:=.ref ((M ++ [MO.lst []]).length + 4)) (by simp only [Zt,ea,R3.bind,e]))
   have:=Zfv h (by simp)
   rw [List.append_assoc] at this g
   exact ⟨_,xs,[.lst []] ++ G,this,fun _=>⟨g,l⟩⟩
  | false=>
   have e:=hf rfl
   have h:ZhC [some (.int (k:Int)),some (.tup rows),some (.ref n),some .non,some (.ref M.length),none] (M ++ [.lst []]) = .exc ⟨BC,.ref (M ++ [MO.lst []]).length⟩ (BCx (M ++ [.lst []])):=(hB _ _ rfl).trans (Zhv (by simp only [Zt,ea,R3.bind,e]))
   have:=Ze8 h (by simp)
   refine ⟨M.length,[],[.lst [],.ins (0 :: BC) []],this.trans ?_,(fun z=>nomatch z)⟩
   simp
 unfold ZdW
 rcases hk with rfl | rfl
 ·rw [if_pos rfl]
  refine key Zbo _ (fun h=>ZnL hn' h lk) (fun h=>Znj hn' h) fun env M he=>?_
  exact Zda (M':=M) (Zbp (Zm (by simp only [Zb,he]; rfl) rfl (Zhb rfl)))
 ·rw [if_neg (by decide)]
  refine key ZbJ _ (fun h=>ZnF hn' h lk) (fun h=>Zm7 hn' h) fun env M he=>?_
  exact (Zdz (M':=M) (Zbp (Zm (by simp only [Zb,he]; rfl) rfl (ZgD (by decide))))).trans (Zda (M':=M) (Zbp (Zm (by simp only [Zb,he]; rfl) rfl (Zhb rfl))))
theorem ZiC {k:Nat} (hk:k = 0 ∨ k = 1) (hn:M[n]? = some (.lst (ks.map D.int))) (lk:ks.length ≤ 5000):ZaN [.int (k:Int),.tup rows,.ref n,.bl (ZdW k rows ks)] M = .ok (.bl true) M:=by
 have hc:(Zas ZdU (Za (Zb 2) (Ze))) [some (.int (k:Int)),some (.tup rows),some (.ref n),some (.bl (ZdW k rows ks)),none,none] M = .ok (.ref M.length) (M ++ [.lst (ks.map D.int)]):=Za5 rfl (by
  have z:(ks.map D.int).length ≤ SZ:=by rw [List.length_map]; exact Nat.le_trans lk (by decide)
  simp only [ZdU,hn,alloc])
 obtain ⟨f,xs,G,e,hg⟩:=ZoJ (rows:=rows) hk (Zah M (.lst (ks.map D.int)) []) lk
 generalize ZdW k rows ks = b at *
 have ag:ZgA (Zt Zn (Za (Zb 0) (Za (Zb 1) (Za (Zas ZdU (Za (Zb 2) (Ze))) (Ze))))) [4,5] [some (.int (k:Int)),some (.tup rows),some (.ref n),some (.bl b),none,none] M = .nx [some (.int (k:Int)),some (.tup rows),some (.ref n),some (.bl b),some (.bl (!b)),some (.ref f)] (M ++ [.lst (ks.map D.int)] ++ G ++ [.lst [.bl (!b),.ref f]]):=Zlq (ZfO rfl rfl hc e) (Zah _ _ _)
 have gn:(M ++ [.lst (ks.map D.int)] ++ G ++ [.lst [.bl (!b),.ref f]])[n]? = some (.lst (ks.map D.int)):=Zaf (Zaf (Zaf hn _) _) _
 have td:ZbU M (.bl true) (M ++ [.lst (ks.map D.int)] ++ G ++ [.lst [.bl (!b),.ref f]]) = .ok (.bl true) M:=by
  rw [List.append_assoc,List.append_assoc]
  simp [ZbU,below]
 cases b with
 | false=>exact (Zbq (env:=[some (.int (k:Int)),some (.tup rows),some (.ref n),some (.bl false),none,none]) ((Zk ag).trans ((Zk (Zbe rfl)).trans (Za0 rfl)))).trans td
 | true=>
  obtain ⟨gf,lx⟩:=hg rfl
  have gf':=Zaf gf [.lst [.bl false,.ref f]]
  have il:ZcB .list (.ref f) (M ++ [.lst (ks.map D.int)] ++ G ++ [.lst [.bl (!true),.ref f]]) = .ok (.bl true) (M ++ [.lst (ks.map D.int)] ++ G ++ [.lst [.bl (!true),.ref f]]):=by
   have g2:(M ++ [.lst (ks.map D.int)] ++ G ++ [.lst [.bl (!true),.ref f]])[f]? = some (.lst xs):=gf'
   generalize (M ++ [.lst (ks.map D.int)] ++ G ++ [.lst [.bl (!true),.ref f]]) = B at g2
   simp [g2]
  have fin:(Zdd (e1 Za2 (Zb 4)) (Zdd (e1 (ZcB .list) (Zb 5)) (e2 ZbG (Zas ZaD (Za (Zb 5) (Ze))) (e2 Zo (Zas ZaD (Za (Zb 2) (Ze))) (eC (.int 1)))))) [some (.int (k:Int)),some (.tup rows),some (.ref n),some (.bl true),some (.bl (!true)),some (.ref f)] (M ++ [.lst (ks.map D.int)] ++ G ++ [.lst [.bl (!true),.ref f]]) = .ok (.bl true) (M ++ [.lst (ks.map D.int)] ++ G ++ [.lst [.bl (!true),.ref f]]):=by
   refine (Zd3 (M1:=M ++ [.lst (ks.map D.int)] ++ G ++ [.lst [.bl (!true),.ref f]]) rfl).trans ((Zd3 (M1:=M ++ [.lst (ks.map D.int)] ++ G ++ [.lst [.bl (!true),.ref f]]) (ZdS rfl il)).trans (Zm (Za5 rfl (Zcu gf')) (Zm (Za5 rfl (Zcu gn)) rfl rfl) (Zhb ?_)))
   rw [lx,List.length_map]; rfl
  exact (Zbq (env:=[some (.int (k:Int)),some (.tup rows),some (.ref n),some (.bl true),none,none]) ((Zk ag).trans (ZdM ((Zda rfl).trans (Za0 fin))))).trans td
theorem Zge {ks0:List Int} {l m a:Int} (hn:M[n]? = some (.lst (ks0.map D.int))):∀ (ks:List Int) (h:Int) (x5:Option D),
  ∃ e':Zad,(Zb8 a m h ks = true → Zaw ⟨ks0.map D.int,some n⟩ (Zbt 5) (Zw (sIf (eOr (e2 ZcQ (Zb 5) (Zb 4)) (e2 Zdq (Zb 5) (Zb 2))) (ZaF (eC (.bl false))) (Zam)) (Zal 4 (e2 Zo (Zb 5) (Zb 3)))) (ks.map D.int) [some (.ref n),some (.int l),some (.int m),some (.int a),some (.int h),x5] M = .nx e' M) ∧
  (Zb8 a m h ks = false → Zaw ⟨ks0.map D.int,some n⟩ (Zbt 5) (Zw (sIf (eOr (e2 ZcQ (Zb 5) (Zb 4)) (e2 Zdq (Zb 5) (Zb 2))) (ZaF (eC (.bl false))) (Zam)) (Zal 4 (e2 Zo (Zb 5) (Zb 3)))) (ks.map D.int) [some (.ref n),some (.int l),some (.int m),some (.int a),some (.int h),x5] M = .rt (.bl false) M)
 | [],h,x5=>by
  have lk:locked ⟨ks0.map D.int,some n⟩ M = true:=by simp only [locked,hn,decide_true]
  exact ⟨[some (.ref n),some (.int l),some (.int m),some (.int a),some (.int h),x5],fun _=>by simp only [List.map_nil,Zaw,lk,if_true],(fun z=>nomatch z)⟩
 | c :: ks,h,x5=>by
  have lk:locked ⟨ks0.map D.int,some n⟩ M = true:=by simp only [locked,hn,decide_true]
  obtain ⟨e',i1,i2⟩:=Zge (l:=l) (m:=m) (a:=a) hn ks (c + a) (some (.int c))
  have cc:(eOr (e2 ZcQ (Zb 5) (Zb 4)) (e2 Zdq (Zb 5) (Zb 2))) [some (.ref n),some (.int l),some (.int m),some (.int a),some (.int h),some (.int c)] M = .ok (.bl (decide (c < h) || decide (c > m))) M:=by
   by_cases q:c < h
   ·rw [decide_eq_true q]; exact ZlN (M1:=M) (Zm rfl rfl (by simp only [ZcQ,decide_eq_true q]))
   ·rw [decide_eq_false q]; exact (Ziu (M1:=M) (Zm rfl rfl (by simp only [ZcQ,decide_eq_false q]))).trans (Zm rfl rfl rfl)
  by_cases q:(decide (c < h) || decide (c > m)) = true
  ·rw [q] at cc
   have e:Zb8 a m h (c :: ks) = false:=by simp only [Zb8,← Bool.not_or,q,Bool.not_true,Bool.false_and]
   have st:(Zw (sIf (eOr (e2 ZcQ (Zb 5) (Zb 4)) (e2 Zdq (Zb 5) (Zb 2))) (ZaF (eC (.bl false))) (Zam)) (Zal 4 (e2 Zo (Zb 5) (Zb 3)))) [some (.ref n),some (.int l),some (.int m),some (.int a),some (.int h),some (.int c)] M = .rt (.bl false) M:=ZdM ((Zda cc).trans (Za0 rfl))
   refine ⟨e',(fun z=>absurd (e.symm.trans z) Bool.false_ne_true),fun _=>?_⟩
   simp only [List.map_cons,Zaw,lk,if_true,Zbt,List.set_cons_succ,List.set_cons_zero,st]
  ·have q:=Bool.eq_false_iff.mpr q
   rw [q] at cc
   have e:Zb8 a m h (c :: ks) = Zb8 a m (c + a) ks:=by simp only [Zb8,← Bool.not_or,q,Bool.not_false,Bool.true_and]
   have st:(Zw (sIf (eOr (e2 ZcQ (Zb 5) (Zb 4)) (e2 Zdq (Zb 5) (Zb 2))) (ZaF (eC (.bl false))) (Zam)) (Zal 4 (e2 Zo (Zb 5) (Zb 3)))) [some (.ref n),some (.int l),some (.int m),some (.int a),some (.int h),some (.int c)] M = .nx [some (.ref n),some (.int l),some (.int m),some (.int a),some (.int (c + a)),some (.int c)] M:=(Zk (Zbe cc)).trans (Zaj (Zm rfl rfl rfl))
   rw [e]
   refine ⟨e',fun z=>?_,fun z=>?_⟩
   ·simp only [List.map_cons,Zaw,lk,if_true,Zbt,List.set_cons_succ,List.set_cons_zero,st,i1 z]
   ·simp only [List.map_cons,Zaw,lk,if_true,Zbt,List.set_cons_succ,List.set_cons_zero,st,i2 z]
theorem Zil {l m a:Int} (hn:M[n]? = some (.lst (ks.map D.int))):ZaX [.ref n,.int l,.int m,.int a] M = .ok (.bl (Zb8 a m l ks)) M:=by
 obtain ⟨e',h1,h2⟩:=Zge (l:=l) (m:=m) (a:=a) hn ks l none
 have iv:ZfS (Zb 0) [some (.ref n),some (.int l),some (.int m),some (.int a),some (.int l),none] M = .ok ⟨ks.map D.int,some n⟩ M:=by simp [hn]
 cases q:Zb8 a m l ks with
 | true=>exact (Zbq (env:=[some (.ref n),some (.int l),some (.int m),some (.int a),none,none]) ((Zk (Zaj rfl)).trans ((Zk ((ZdL iv).trans (h1 q))).trans (Za0 rfl)))).trans (Zep rfl)
 | false=>exact (Zbq (env:=[some (.ref n),some (.int l),some (.int m),some (.int a),none,none]) ((Zk (Zaj rfl)).trans (ZdM ((ZdL iv).trans (h2 q))))).trans (Zep rfl)
end
noncomputable abbrev Zaz:=Int × List Int
noncomputable def Zv (r:Zaz):D:=.tup [.int r.1,.tup (r.2.map D.int)]
noncomputable abbrev encP (p:List Zaz):D:=.tup (p.map Zv)
theorem ZiK:∀ a b:List Int,Zbn (a.map D.int) (b.map D.int) = decide (a = b)
 | [],[]=>by exact rfl
 | [],_ :: _=>by exact rfl
 | _ :: _,[]=>by exact rfl
 | x :: a,y :: b=>by
  simp only [List.map_cons,Zbn,deq,ZiK a b,List.cons.injEq,Bool.decide_and]
  rfl
theorem Zn3 (s t:Zaz) (M:Store):ZdQ (Zv s) (Zv t) M = .ok (.bl (!decide (s = t))) M:=by
 obtain ⟨a,x⟩:=s
 obtain ⟨b,y⟩:=t
 have p:∀ (a:Int) (x:List Int),([D.int a,.tup (x.map D.int)]:List D).all (Zai DEEP) = true:=fun a x=>by simp [Zfq,DEEP,Zai]
 have e:Zbn [D.int a,.tup (x.map D.int)] [D.int b,.tup (y.map D.int)] = decide ((a,x) = (b,y)):=by
  simp only [Zbn,deq,ZiK,Prod.mk.injEq,Bool.decide_and,Bool.and_true]
  rfl
 simp only [Zv,ZdQ,eqD,p,Bool.and_self,if_true,e]
theorem ZgR (p:List Zaz):(p.map Zv).all (Zai DEEP) = true:=by
 rw [List.all_eq_true]
 intro x hx
 obtain ⟨r,_,rfl⟩:=List.mem_map.mp hx
 simp [Zv,Zai,Zfq,DEEP]
theorem Zo7 (p:List Zaz) (M:Store):ZdQ (encP p) (encP p) M = .ok (.bl false) M:=by
 simp only [ZdQ,eqD,ZgR,Bool.and_self,if_true,Zgz (ZgR p),Bool.not_true]
theorem Zo2 (p:List Zaz) (M:Store):ZbG (encP p) (encP p) M = .ok (.bl true) M:=by
 simp only [ZbG,eqD,ZgR,Bool.and_self,if_true,Zgz (ZgR p)]
noncomputable def joinM:List (List Zaz) → List Zaz → Option (List Zaz)
 | [],acc=>some acc
 | [] :: _,_=>none
 | (r :: p) :: ps,acc=>match acc.getLast? with
  | none=>joinM ps (r :: p)
  | some l=>if r = l then joinM ps (acc ++ p) else none
noncomputable def Zc1:List (List Zaz) → Nat
 | []=>0
 | p :: ps=>p.length + Zc1 ps
noncomputable def ZdV:S3:=(Zw (sIf (eNo (e2 ZbG (Zas ZaD (Za (Zb 2) (Ze))) (eC (.int 0)))) (Zca [66,97,100,67,117,116] (Za (eC (.str [97,32,112,105,101,99,101,32,104,97,115,32,110,111,32,114,111,119,115])) (Ze))) (sNo (Zam))) (Zw (sIf (eNo (Zdd (e2 Zdq (Zas ZaD (Za (Zb 1) (Ze))) (eC (.int 0))) (e2 ZdQ (e2 Zr (Zb 2) (eC (.int 0))) (e2 Zr (Zb 1) (e1 Zb5 (eC (.int 1))))))) (Zca [66,97,100,67,117,116] (Za (eC (.str [97,32,112,105,101,99,101,32,100,111,101,115,32,110,111,116,32,98,101,103,105,110,32,119,105,116,104,32,116,104,101,32,108,97,115,116,32,114,111,119,32,111,102,32,116,104,101,32,112,105,101,99,101,32,97,104,101,97,100])) (Ze))) (sNo (Zam))) (sNo (ZaS (Zez tyL Zbs (Zb 1) (Za (eIf (e2 ZbG (Zas ZaD (Za (Zb 1) (Ze))) (eC (.int 0))) (Zb 2) (eSl (Zb 2) (Zx (eC (.int 1))) (Zak))) (Ze)))))))
section
variable {n:Nat} {M:Store} {acc:List Zaz}
theorem ZkP {env:Zad} (e1:env[1]? = some (some (.ref M.length))):Zas ZaD (Za (Zb 1) (Ze)) env (M ++ [.lst (acc.map Zv)]) = .ok (.int (acc.length:Int)) (M ++ [.lst (acc.map Zv)]):=by
 have v:Zb 1 env (M ++ [.lst (acc.map Zv)]) = .ok (.ref M.length) (M ++ [.lst (acc.map Zv)]):=by simp only [Zb,e1]
 exact Za5 v ((Zcu (Zah _ _ _)).trans (by rw [List.length_map]))
theorem Zle:ZdV [some (.ref n),some (.ref M.length),some (encP [])] (M ++ [.lst (acc.map Zv)]) = .exc ⟨BC,.ref (M ++ [MO.lst (acc.map Zv)]).length⟩ (BCx (M ++ [.lst (acc.map Zv)])):=ZcE ((Zda (M':=M ++ [.lst (acc.map Zv)]) (Zbp (Zm (Za5 rfl rfl) rfl (Zhb rfl)))).trans (ZdK rfl))
theorem ZlC {r:Zaz} {p:List Zaz}:(sIf (eNo (e2 ZbG (Zas ZaD (Za (Zb 2) (Ze))) (eC (.int 0)))) (Zca [66,97,100,67,117,116] (Za (eC (.str [97,32,112,105,101,99,101,32,104,97,115,32,110,111,32,114,111,119,115])) (Ze))) (sNo (Zam))) [some (.ref n),some (.ref M.length),some (encP (r :: p))] (M ++ [.lst (acc.map Zv)]) = .nx [some (.ref n),some (.ref M.length),some (encP (r :: p))] (M ++ [.lst (acc.map Zv)]):=by
 refine (Zdz (M':=M ++ [.lst (acc.map Zv)]) (Zbp (Zm (Za5 rfl rfl) rfl (ZgD ?_)))).trans (ZbI rfl)
 simp; omega
theorem ZjN {f:E3} {env:Zad} {ys:List Zaz} (e1:env[1]? = some (some (.ref M.length))) (hf:f env (M ++ [.lst (acc.map Zv)]) = .ok (encP ys) (M ++ [.lst (acc.map Zv)])) (hz:acc.length + ys.length ≤ 1000):ZaS (Zez tyL Zbs (Zb 1) (Za f (Ze))) env (M ++ [.lst (acc.map Zv)]) = .nx env (M ++ [.lst ((acc ++ ys).map Zv)]):=by
 refine ZcF (d:=.non) ?_
 have g0:(M ++ [MO.lst (acc.map Zv)])[M.length]? = some (.lst (acc.map Zv)):=Zah _ _ _
 have z:(acc.map Zv).length + (ys.map Zv).length ≤ SZ:=by rw [List.length_map,List.length_map]; exact Nat.le_trans hz (by decide)
 have st:(M ++ [MO.lst (acc.map Zv)]).set M.length (.lst (acc.map Zv ++ ys.map Zv)) = M ++ [.lst ((acc ++ ys).map Zv)]:=by rw [List.map_append]; exact Zk4 M _ 0 _
 simp only [Zez,Zb,e1,R3.bind,tyL,g0,if_true,Za,Ze,hf,Zbs,if_pos z,st]
theorem join_loop {ps0:List (List Zaz)} (hn:M[n]? = some (.lst (ps0.map encP))):∀ (ps:List (List Zaz)) (acc:List Zaz) (x2:Option D),acc.length + Zc1 ps ≤ 1000 →
  (∀ r,joinM ps acc = some r → ∃ x',Zaw ⟨ps0.map encP,some n⟩ (Zbt 2) ZdV (ps.map encP) [some (.ref n),some (.ref M.length),x2] (M ++ [.lst (acc.map Zv)]) = .nx [some (.ref n),some (.ref M.length),x'] (M ++ [.lst (r.map Zv)])) ∧
  (joinM ps acc = none → ∃ a':List Zaz,Zaw ⟨ps0.map encP,some n⟩ (Zbt 2) ZdV (ps.map encP) [some (.ref n),some (.ref M.length),x2] (M ++ [.lst (acc.map Zv)]) = .exc ⟨BC,.ref (M ++ [MO.lst (a'.map Zv)]).length⟩ (BCx (M ++ [.lst (a'.map Zv)])))
 | [],acc,x2,_=>by
  have lk:locked ⟨ps0.map encP,some n⟩ (M ++ [.lst (acc.map Zv)]) = true:=by simp only [locked,Zaf hn,decide_true]
  refine ⟨fun r h=>⟨x2,?_⟩,(fun z=>nomatch z)⟩
  cases h
  simp only [List.map_nil,Zaw,lk,if_true]
 | [] :: ps,acc,x2,_=>by
  have lk:locked ⟨ps0.map encP,some n⟩ (M ++ [.lst (acc.map Zv)]) = true:=by simp only [locked,Zaf hn,decide_true]
  refine ⟨(fun r h=>nomatch h),fun _=>⟨acc,?_⟩⟩
  have:=Zle (n:=n) (M:=M) (acc:=acc)
  simp only [List.map_cons,Zaw,lk,if_true,Zbt,List.set_cons_succ,List.set_cons_zero,this]
 | (r :: p) :: ps,acc,x2,hz=>by
  have lk:locked ⟨ps0.map encP,some n⟩ (M ++ [.lst (acc.map Zv)]) = true:=by simp only [locked,Zaf hn,decide_true]
  have j1:=ZlC (n:=n) (M:=M) (acc:=acc) (r:=r) (p:=p)
  simp only [Zc1,List.length_cons] at hz
  have hgo:∀ (ys:List Zaz),ZdV [some (.ref n),some (.ref M.length),some (encP (r :: p))] (M ++ [.lst (acc.map Zv)]) = .nx [some (.ref n),some (.ref M.length),some (encP (r :: p))] (M ++ [.lst (ys.map Zv)]) → Zaw ⟨ps0.map encP,some n⟩ (Zbt 2) ZdV (((r :: p) :: ps).map encP) [some (.ref n),some (.ref M.length),x2] (M ++ [.lst (acc.map Zv)]) = Zaw ⟨ps0.map encP,some n⟩ (Zbt 2) ZdV (ps.map encP) [some (.ref n),some (.ref M.length),some (encP (r :: p))] (M ++ [.lst (ys.map Zv)]):=fun ys h=>by
   simp only [List.map_cons,Zaw,lk,if_true,Zbt,List.set_cons_succ,List.set_cons_zero]
   rw [h]
  have la:=ZkP (M:=M) (acc:=acc) (env:=[some (.ref n),some (.ref M.length),some (encP (r :: p))]) rfl
  rcases List.eq_nil_or_concat acc with e | ⟨q,l,e⟩
  ·subst e
   have st:ZdV [some (.ref n),some (.ref M.length),some (encP (r :: p))] (M ++ [.lst (([]:List Zaz).map Zv)]) = .nx [some (.ref n),some (.ref M.length),some (encP (r :: p))] (M ++ [.lst ((r :: p).map Zv)]):=by
    refine (Zk j1).trans ((Zk ((Zdz (M':=M ++ [.lst (([]:List Zaz).map Zv)]) (Zbp (Zh0 (Zm la rfl rfl)))).trans (ZbI rfl))).trans (ZbI (ZjN (ys:=r :: p) rfl ?_ (by simp; omega))))
    have c:(e2 ZbG (Zas ZaD (Za (Zb 1) (Ze))) (eC (.int 0))) [some (.ref n),some (.ref M.length),some (encP (r :: p))] (M ++ [.lst (([]:List Zaz).map Zv)]) = .ok (.bl true) (M ++ [.lst (([]:List Zaz).map Zv)]):=Zm la rfl (Zhb rfl)
    simp only [eIf,c,R3.bind]; rfl
   obtain ⟨i1,i2⟩:=join_loop hn ps (r :: p) (some (encP (r :: p))) (by simp only [List.length_nil,List.length_cons] at hz ⊢; omega)
   have ej:joinM ((r :: p) :: ps) [] = joinM ps (r :: p):=rfl
   rw [ej]
   exact ⟨fun z h=>(i1 z h).imp fun _ w=>(hgo _ st).trans w,fun h=>(i2 h).imp fun _ w=>(hgo _ st).trans w⟩
  ·rw [List.concat_eq_append] at e
   have gl:acc.getLast? = some l:=by rw [e]; simp
   have gt:(acc.length:Int) > 0:=by rw [e]; simp
   have il:(e2 Zr (Zb 1) (e1 Zb5 (eC (.int 1)))) [some (.ref n),some (.ref M.length),some (encP (r :: p))] (M ++ [.lst (acc.map Zv)]) = .ok (Zv l) (M ++ [.lst (acc.map Zv)]):=Zm rfl rfl (Zcc (Zah _ _ _) (by rw [ZeU,List.getLast?_map,gl]; rfl))
   have c:(Zdd (e2 Zdq (Zas ZaD (Za (Zb 1) (Ze))) (eC (.int 0))) (e2 ZdQ (e2 Zr (Zb 2) (eC (.int 0))) (e2 Zr (Zb 1) (e1 Zb5 (eC (.int 1)))))) [some (.ref n),some (.ref M.length),some (encP (r :: p))] (M ++ [.lst (acc.map Zv)]) = .ok (.bl (!decide (r = l))) (M ++ [.lst (acc.map Zv)]):=(Zd3 (M1:=M ++ [.lst (acc.map Zv)]) (Zm la rfl (by simp only [Zdq,decide_eq_true gt]))).trans (Zm (Zm rfl rfl (Zfm ((ZbB _ 0).trans rfl))) il (Zn3 r l _))
   have ej:joinM ((r :: p) :: ps) acc = if r = l then joinM ps (acc ++ p) else none:=by
    show (match acc.getLast? with | none=>_ | some l=>_) = _
    rw [gl]
   rw [ej]
   by_cases h:r = l
   ·rw [decide_eq_true h] at c
    rw [if_pos h]
    have st:ZdV [some (.ref n),some (.ref M.length),some (encP (r :: p))] (M ++ [.lst (acc.map Zv)]) = .nx [some (.ref n),some (.ref M.length),some (encP (r :: p))] (M ++ [.lst ((acc ++ p).map Zv)]):=by
     refine (Zk j1).trans ((Zk ((Zdz (M':=M ++ [.lst (acc.map Zv)]) (Zbp c)).trans (ZbI rfl))).trans (ZbI (ZjN (ys:=p) rfl ?_ (by omega))))
     have c0:(e2 ZbG (Zas ZaD (Za (Zb 1) (Ze))) (eC (.int 0))) [some (.ref n),some (.ref M.length),some (encP (r :: p))] (M ++ [.lst (acc.map Zv)]) = .ok (.bl false) (M ++ [.lst (acc.map Zv)]):=Zm la rfl (ZgD (by omega))
     have cd:cutD ((r :: p).map Zv) (some 1) none = p.map Zv:=(Zcj ((r :: p).map Zv) 1).trans rfl
     simp only [eIf,c0,R3.bind,eSl,Zb,List.getElem?_cons_succ,List.getElem?_cons_zero,Zx,Zak,eC,Zcg,cd]
    obtain ⟨i1,i2⟩:=join_loop hn ps (acc ++ p) (some (encP (r :: p))) (by rw [List.length_append]; omega)
    exact ⟨fun z h=>(i1 z h).imp fun _ w=>(hgo _ st).trans w,fun h=>(i2 h).imp fun _ w=>(hgo _ st).trans w⟩
   ·rw [decide_eq_false h] at c
    rw [if_neg h]
    refine ⟨(fun r h=>nomatch h),fun _=>⟨acc,?_⟩⟩
    have st:ZdV [some (.ref n),some (.ref M.length),some (encP (r :: p))] (M ++ [.lst (acc.map Zv)]) = .exc ⟨BC,.ref (M ++ [MO.lst (acc.map Zv)]).length⟩ (BCx (M ++ [.lst (acc.map Zv)])):=(Zk j1).trans (ZcE ((Zda (M':=M ++ [.lst (acc.map Zv)]) (Zbp c)).trans (ZdK rfl)))
    simp only [List.map_cons,Zaw,lk,if_true,Zbt,List.set_cons_succ,List.set_cons_zero,st]
end
section
variable {n:Nat} {M:Store} {ps:List (List Zaz)}
theorem Zfp {r:List Zaz} (hn:M[n]? = some (.lst (ps.map encP))) (hz:Zc1 ps ≤ 1000) (h0:ps ≠ []) (h:joinM ps [] = some r):Zap [.ref n] M = .ok (encP r) M:=by
 obtain ⟨x',lp⟩:=(join_loop hn ps [] none (by simpa using hz)).1 r h
 have lp0:0 < ps.length:=List.length_pos_iff.mpr h0
 have c:(e2 ZbG (Zas ZaD (Za (Zb 0) (Ze))) (eC (.int 0))) [some (.ref n),none,none] M = .ok (.bl false) M:=Zm (Za5 rfl (Zcu hn)) rfl (ZgD (by rw [List.length_map]; omega))
 refine (Zbq (env:=[some (.ref n),none,none]) (d:=encP r) (M':=M ++ [.lst (r.map Zv)]) ((Zk ((Zdz (M':=M) (Zbp c)).trans (ZbI rfl))).trans ((Zk (ZbI (Zaj (Zbj rfl rfl)))).trans ((Zk ((Zej (it:=⟨ps.map encP,some n⟩) (M':=M ++ [.lst []]) (by simp [Zaf hn])).trans lp)).trans (Zid (Za0 (Za5 rfl (ZgN (Zah _ _ _))))))))).trans ?_
 have bl:∀ l:List Zaz,belowL M.length (l.map Zv) = true:=fun l=>by
  induction l with
  | nil=>rfl
  | cons a l ih=>
   have bi:∀ x:List Int,belowL M.length (x.map D.int) = true:=fun x=>by
    induction x with
    | nil=>rfl
    | cons _ _ ih=>simp only [List.map_cons,belowL,below,ih,Bool.and_self]
   simp only [List.map_cons,belowL,ih,Zv,below,bi,Bool.and_self]
 simp [ZbU,below,bl]
theorem Zj4 (hn:M[n]? = some (.lst (ps.map encP))) (hz:Zc1 ps ≤ 1000) (h:ps = [] ∨ joinM ps [] = none):∃ G:Store,Zap [.ref n] M = .exc ⟨BC,.ref (M ++ G).length⟩ (BCx (M ++ G)):=by
 by_cases h0:ps = []
 ·subst h0
  refine ⟨[],?_⟩
  rw [List.append_nil]
  exact ZeA (env:=[some (.ref n),none,none]) (ZcE ((Zda (M':=M) (Zbp (Zm (Za5 rfl (Zcu hn)) rfl (Zhb rfl)))).trans (ZdK rfl)))
 ·obtain ⟨a',lp⟩:=(join_loop hn ps [] none (by simpa using hz)).2 (h.resolve_left h0)
  have lp0:0 < ps.length:=List.length_pos_iff.mpr h0
  have c:(e2 ZbG (Zas ZaD (Za (Zb 0) (Ze))) (eC (.int 0))) [some (.ref n),none,none] M = .ok (.bl false) M:=Zm (Za5 rfl (Zcu hn)) rfl (ZgD (by rw [List.length_map]; omega))
  have lp':Zf1 (ZfS (Zb 0)) (Zbt 2) ZdV [some (.ref n),some (.ref M.length),none] (M ++ [.lst []]) = .exc ⟨BC,.ref (M ++ [MO.lst (a'.map Zv)]).length⟩ (BCx (M ++ [.lst (a'.map Zv)])):=(Zej (it:=⟨ps.map encP,some n⟩) (M':=M ++ [.lst []]) (by simp [Zaf hn])).trans lp
  exact ⟨[.lst (a'.map Zv)],ZeA (env:=[some (.ref n),none,none]) ((Zk ((Zdz (M':=M) (Zbp c)).trans (ZbI rfl))).trans ((Zk (ZbI (Zaj (Zbj rfl rfl)))).trans (ZcE lp')))⟩
noncomputable def ZfU (ps:List (List Zaz)):Bool:=decide (ps = [] ∨ joinM ps [] = none)
theorem Zoy {L:E3} {env:Zad} {M0:Store} (hL:L env M0 = .ok (.ref n) M) (hn:M[n]? = some (.lst (ps.map encP))) (hz:Zc1 ps ≤ 1000):
  ∃ G:Store,(e2 Zr (Zt Zn (Za (eC (.int 2)) (Za L (Za (Zag (Ze)) (Ze))))) (eC (.int 0))) env M0 = .ok (.bl (ZfU ps)) (M ++ G):=by
 have hn1:=Zaf (Zaf hn [.lst []]) [.lst []]
 have tb:∀ (env:Zad) (M:Store),env[0]? = some (some (.int 2)) → ZhC env M = Zal 4 (Zag (Za (Zt Zap (Zc7 (Za (Zb 1) (Ze)))) (Ze))) env M:=fun env M he=>(Zdz (M':=M) (Zbp (Zm (a:=.int 2) (by simp only [Zb,he]) rfl (ZgD (by decide))))).trans (Zdz (M':=M) (Zbp (Zm (a:=.int 2) (by simp only [Zb,he]) rfl (ZgD (by decide)))))
 have ea:∀ B:Store,(Zc7 (Za (Zb 1) (Ze))) [some (.int 2),some (.ref n),some (.ref M.length),some .non,some (.ref (M ++ [MO.lst []]).length),none] B = .ok [.ref n] B:=fun B=>ZdN (Zi rfl rfl)
 have e0:(Zag (Ze)) env M = .ok (.ref M.length) (M ++ [.lst []]):=Zbj rfl rfl
 by_cases h:ps = [] ∨ joinM ps [] = none
 ·obtain ⟨G,e⟩:=Zj4 hn1 hz h
  have ht:ZhC [some (.int 2),some (.ref n),some (.ref M.length),some .non,some (.ref (M ++ [MO.lst []]).length),none] (M ++ [.lst []] ++ [.lst []]) = .exc ⟨BC,.ref (M ++ [MO.lst []] ++ [MO.lst []] ++ G).length⟩ (BCx (M ++ [MO.lst []] ++ [MO.lst []] ++ G)):=(tb _ _ rfl).trans (Zhv (by simp only [Zag,Za,Zt,ea,R3.bind,e]))
  have rf:=Ze8 ht (by simp)
  have bt:ZfU ps = true:=decide_eq_true h
  rw [bt]
  refine ⟨[.lst [],.lst []] ++ G ++ [.ins (0 :: BC) [],.lst [.bl true,.ref (M ++ [MO.lst []]).length]],(Zm (ZfO rfl hL e0 rf) rfl (Zcc (ZbD _ _ 1) rfl)).trans ?_⟩
  simp
 ·obtain ⟨h0,h1⟩:=not_or.mp h
  obtain ⟨r,hr⟩:=Option.ne_none_iff_exists'.mp h1
  have e:=Zfp hn1 hz h0 hr
  have ht:ZhC [some (.int 2),some (.ref n),some (.ref M.length),some .non,some (.ref (M ++ [MO.lst []]).length),none] (M ++ [.lst []] ++ [.lst []]) = .nx [some (.int 2),some (.ref n),some (.ref M.length),some .non,some (.ref (M ++ [MO.lst []] ++ [MO.lst []]).length),none] (M ++ [.lst []] ++ [.lst []] ++ [.lst [encP r]]):=(tb _ _ rfl).trans (Zaj (Zbj (Zi (d:=encP r) (by simp only [Zt,ea,R3.bind,e]) rfl) rfl))
  have rf:=Zfv ht (by simp)
  have bt:ZfU ps = false:=decide_eq_false h
  rw [bt]
  refine ⟨[.lst [],.lst [],.lst [encP r],.lst [.bl false,.ref (M ++ [MO.lst []] ++ [MO.lst []]).length]],(Zm (ZfO rfl hL e0 rf) rfl (Zcc (Zah _ _ _) rfl)).trans ?_⟩
  simp
end
theorem Zhz (r:Zaz) (c:Int) (M:Store) (h8:r.2.length = 8):∃ t:Zaz,t ≠ r ∧ ZaP [Zv r,.int c] M = .ok (Zv t) M:=by
 obtain ⟨p,ys⟩:=r
 have h8:ys.length = 8:=h8
 have a0:Zlh (Zb 0) (ZfG [2,3]) [some (Zv (p,ys)),some (.int c),none,none] M = .nx [some (Zv (p,ys)),some (.int c),some (.int p),some (.tup (ys.map D.int))] M:=rfl
 by_cases h:c % 9 = 8
 ·refine ⟨(p + 1,ys),fun z=>by have:=(Prod.mk.inj z).1; omega,(Zbq (env:=[some (Zv (p,ys)),some (.int c),none,none]) ((Zk a0).trans (ZdM ((Zda (M':=M) (Zm (Zm rfl rfl (Zcn (by decide))) rfl (Zhb h))).trans (Za0 (Zcq (Zi (Zm rfl rfl rfl) (Zi rfl rfl)) rfl)))))).trans (Zep rfl)⟩
 ·obtain ⟨k,hk,lk⟩:=Zb1 c 9 (by decide)
  have hk':c % 9 = (k:Int):=hk
  have k8:k < 8:=by omega
  obtain ⟨x,hx,gx⟩:=ZmN (bs:=ys) h8 k8
  have c1:cutD (ys.map D.int) none (some (k:Int)) = (ys.take k).map D.int:=by rw [ZeO,List.map_take]
  have c2:cutD (ys.map D.int) (some ((k:Int) + 1)) none = (ys.drop (k + 1)).map D.int:=by
   have:=Zcj (ys.map D.int) (k + 1)
   rw [← List.map_drop] at this; exact this
  refine ⟨(p,ys.take k ++ [x + 1] ++ ys.drop (k + 1)),fun z=>?_,?_⟩
  ·have z2:=(Prod.mk.inj z).2
   have g1:(ys.take k ++ [x + 1] ++ ys.drop (k + 1))[k]? = some (x + 1):=by
    rw [List.append_assoc,List.getElem?_append_right (by simp; omega)]
    simp [Nat.min_eq_left (show k ≤ ys.length by omega)]
   rw [z2,Zl2 h8 k8,hx] at g1
   have:=Option.some.inj g1
   omega
  ·have em:∀ B:Store,(e2 Zab (Zb 1) (eC (.int 9))) [some (Zv (p,ys)),some (.int c),some (.int p),some (.tup (ys.map D.int))] B = .ok (.int (k:Int)) B:=fun B=>by rw [← hk']; exact Zm rfl rfl (Zcn (by decide))
   have s1:(eSl (Zb 3) (Zak) (Zx (e2 Zab (Zb 1) (eC (.int 9))))) [some (Zv (p,ys)),some (.int c),some (.int p),some (.tup (ys.map D.int))] M = .ok (.tup ((ys.take k).map D.int)) M:=by
    simp only [eSl,Zb,List.getElem?_cons_succ,List.getElem?_cons_zero,R3.bind,Zak,Zx,em,Zcg,c1]
   have s2:(eSl (Zb 3) (Zx (e2 Zo (e2 Zab (Zb 1) (eC (.int 9))) (eC (.int 1)))) (Zak)) [some (Zv (p,ys)),some (.int c),some (.int p),some (.tup (ys.map D.int))] M = .ok (.tup ((ys.drop (k + 1)).map D.int)) M:=by
    have ek:(e2 Zo (e2 Zab (Zb 1) (eC (.int 9))) (eC (.int 1))) [some (Zv (p,ys)),some (.int c),some (.int p),some (.tup (ys.map D.int))] M = .ok (.int ((k:Int) + 1)) M:=Zm (em M) rfl rfl
    simp only [eSl,Zb,List.getElem?_cons_succ,List.getElem?_cons_zero,R3.bind,Zak,Zx,ek,Zcg,c2]
   have z1:((ys.take k).map D.int).length + [D.int (x + 1)].length ≤ SZ:=by rw [List.length_map,List.length_take]; exact Nat.le_trans (Nat.add_le_add_right (Nat.min_le_left _ _) 1) (Nat.le_trans (by omega:k + 1 ≤ 9) (by decide))
   have z2:((ys.take k).map D.int ++ [D.int (x + 1)]).length + ((ys.drop (k + 1)).map D.int).length ≤ SZ:=by
    refine Nat.le_trans ?_ (show 100 ≤ SZ by decide)
    simp; omega
   refine (Zbq (env:=[some (Zv (p,ys)),some (.int c),none,none]) ((Zk a0).trans ((Zk (Zbe (M':=M) (Zm (Zm rfl rfl (Zcn (by decide))) rfl (ZgD h)))).trans (Za0 (Zcq (Zi rfl (Zi (d:=.tup ((ys.take k ++ [x + 1] ++ ys.drop (k + 1)).map D.int)) (Zm (a:=.tup ((ys.take k).map D.int ++ [.int (x + 1)])) (Zm s1 (Zcq (Zi (Zm (Zm rfl (em M) (Zfm gx)) rfl rfl) rfl) rfl) ?_) s2 ?_) rfl)) rfl))))).trans (Zep rfl)
   ·simp only [Zo,if_pos z1]
   ·simp only [Zo,if_pos z2,List.map_append]; rfl
noncomputable def Zik (d:D):Prop:=∃ s:Zaz,d = Zv s ∧ s.2.length = 8
theorem ints_of:∀ ys:List D,(∀ x ∈ ys,∃ i,x = D.int i) → ∃ zs:List Int,ys = zs.map D.int ∧ zs.length = ys.length
 | [],_=>⟨[],rfl,rfl⟩
 | y :: ys,h=>by
  obtain ⟨i,rfl⟩:=h y List.mem_cons_self
  obtain ⟨zs,rfl,l⟩:=ints_of ys fun x hx=>h x (List.mem_cons_of_mem _ hx)
  exact ⟨i :: zs,rfl,by simp⟩
theorem Zih:∀ ys:List D,(∀ x ∈ ys,Zik x) → ∃ zs:List Zaz,ys = zs.map Zv ∧ zs.length = ys.length ∧ ∀ z ∈ zs,z.2.length = 8
 | [],_=>⟨[],rfl,rfl,fun z hz=>nomatch hz⟩
 | y :: ys,h=>by
  obtain ⟨i,rfl,li⟩:=h y List.mem_cons_self
  obtain ⟨zs,rfl,l,a⟩:=Zih ys fun x hx=>h x (List.mem_cons_of_mem _ hx)
  refine ⟨i :: zs,rfl,by simp,fun z hz=>?_⟩
  rcases List.mem_cons.mp hz with q | q
  ·rw [q]; exact li
  ·exact a z q
theorem ZhB (cs:List Int) (c d many:Nat) (at_:Nat) (M:Store) (K:Zb2 cs c d at_ M) (hm:many ≤ 1000) (ha:at_ + many < 100000):
  ∃ (rows:List D) (n:Nat) (M':Store),Zbr [.ref d,.int (many:Int)] M = .ok (.ref n) M' ∧ M'[n]? = some (.lst rows) ∧ M.length ≤ n ∧ rows.length = many ∧ (∀ r ∈ rows,Zik r) ∧ Zb2 cs c d (at_ + many) M' ∧ Kp d M M':=by
 obtain ⟨lc,ld⟩:=K.lt
 obtain ⟨e',M',lp,rows,x3,x4,x5,rfl,K',g,lr,pl,kp⟩:=Zeq (it:=⟨Zdr 0 many,none⟩) (g:=Zbt 3)
  (body:=(Zw (Zal 4 (Zt Zac (Za (Zb 0) (Ze)))) (Zw (Zal 5 (Zag (Za (eC (.int 0)) (Za (eC (.int 0)) (Za (eC (.int 0)) (Za (eC (.int 0)) (Za (eC (.int 0)) (Za (eC (.int 0)) (Za (eC (.int 0)) (Za (eC (.int 0)) (Ze))))))))))) (Zw (Zco (Zb 5) (e2 Zab (e2 Zaq (Zb 4) (eC (.int 3))) (eC (.int 8))) (Zt Zz (Za (e2 Zaq (Zb 4) (eC (.int 24))) (Ze)))) (Zw (Zco (Zb 5) (e2 Zab (e2 Zaq (Zb 4) (eC (.int 7))) (eC (.int 8))) (e2 Zab (Zb 3) (eC (.int 3)))) (ZaS (Zez tyL Zcb (Zb 2) (Za (Zcv (Za (e2 Zo (e2 ZaJ (e2 Zab (Zb 4) (eC (.int 3))) (eC (.int 1))) (e2 ZdT (e2 Zab (Zb 3) (eC (.int 2))) (e2 Zab (Zb 4) (eC (.int 7))))) (Za (Zas Zbx (Za (Zb 5) (Ze))) (Ze)))) (Ze)))))))))
  (P:=fun j env M'=>∃ (rows:List D) (x3 x4 x5:Option D),env = [some (.ref d),some (.int (many:Int)),some (.ref M.length),x3,x4,x5] ∧ Zb2 cs c d (at_ + j) M' ∧ M'[M.length]? = some (.lst rows) ∧ rows.length = j ∧ (∀ r ∈ rows,Zik r) ∧ Kp d M M')
  (Zdr 0 many) 0 [some (.ref d),some (.int (many:Int)),some (.ref M.length),none,none,none] (M ++ [.lst []]) ⟨[],none,none,none,rfl,K.app _,Zah _ _ _,rfl,fun r hr=>by simp at hr,Kp.app _ _ _⟩ (fun _ _ _ _=>rfl)
  (fun k dd hd env M' ⟨rows,x3,x4,x5,he,K',g,lr,pl,kp⟩=>by
   obtain ⟨rfl,lk⟩:=Zfr hd
   subst he
   obtain ⟨v,M1,hv,K1,kp1,l1⟩:=K'.draw (by omega)
   obtain ⟨w,hw⟩:=Zdf (v / 24)
   have hl:=K'.lt
   have g1:=kp1.get g (by omega)
   have lM:M.length < M1.length:=(List.getElem?_eq_some_iff.mp g1).1
   obtain ⟨a,ha1,la⟩:=Zb1 (v / 3) 8 (by omega)
   obtain ⟨b,hb1,lb⟩:=Zb1 (v / 7) 8 (by omega)
   have ha1':v / 3 % 8 = (a:Int):=ha1
   have hb1':v / 7 % 8 = (b:Int):=hb1
   have s4:(Zt Zac (Za (Zb 0) (Ze))) [some (.ref d),some (.int (many:Int)),some (.ref M.length),some (.int (k:Int)),x4,x5] M' = .ok (.int v) M1:=ZcU rfl hv
   have s5:(Zag (Za (eC (.int 0)) (Za (eC (.int 0)) (Za (eC (.int 0)) (Za (eC (.int 0)) (Za (eC (.int 0)) (Za (eC (.int 0)) (Za (eC (.int 0)) (Za (eC (.int 0)) (Ze)))))))))) [some (.ref d),some (.int (many:Int)),some (.ref M.length),some (.int (k:Int)),some (.int v),x5] M1 = .ok (.ref M1.length) (M1 ++ [.lst [.int 0,.int 0,.int 0,.int 0,.int 0,.int 0,.int 0,.int 0]]):=by simp
   generalize hz:([.int 0,.int 0,.int 0,.int 0,.int 0,.int 0,.int 0,.int 0]:List D) = zs at s5
   have lz:zs.length = 8:=by rw [← hz]; rfl
   have pz:∀ x ∈ zs,∃ i,x = D.int i:=fun x hx=>by rw [← hz] at hx; simp at hx; exact ⟨0,hx⟩
   have p1:Zco (Zb 5) (e2 Zab (e2 Zaq (Zb 4) (eC (.int 3))) (eC (.int 8))) (Zt Zz (Za (e2 Zaq (Zb 4) (eC (.int 24))) (Ze))) [some (.ref d),some (.int (many:Int)),some (.ref M.length),some (.int (k:Int)),some (.int v),some (.ref M1.length)] (M1 ++ [.lst zs]) = .nx [some (.ref d),some (.int (many:Int)),some (.ref M.length),some (.int (k:Int)),some (.int v),some (.ref M1.length)] (M1 ++ [.lst (zs.set a (.int w))]):=by
    simp [Zco,ZaS,hw,ha1',lz,la]
   have p2:Zco (Zb 5) (e2 Zab (e2 Zaq (Zb 4) (eC (.int 7))) (eC (.int 8))) (e2 Zab (Zb 3) (eC (.int 3))) [some (.ref d),some (.int (many:Int)),some (.ref M.length),some (.int (k:Int)),some (.int v),some (.ref M1.length)] (M1 ++ [.lst (zs.set a (.int w))]) = .nx [some (.ref d),some (.int (many:Int)),some (.ref M.length),some (.int (k:Int)),some (.int v),some (.ref M1.length)] (M1 ++ [.lst ((zs.set a (.int w)).set b (.int ((k:Int) % 3)))]):=by
    simp [Zco,ZaS,hb1',lz,lb]
   have pz2:∀ x ∈ (zs.set a (.int w)).set b (.int ((k:Int) % 3)),∃ i,x = D.int i:=fun x hx=>by
    rcases List.mem_or_eq_of_mem_set hx with hx | rfl
    ·rcases List.mem_or_eq_of_mem_set hx with hx | rfl
     ·exact pz x hx
     ·exact ⟨_,rfl⟩
    ·exact ⟨_,rfl⟩
   have lz2:((zs.set a (.int w)).set b (.int ((k:Int) % 3))).length = 8:=by simp [lz]
   generalize (zs.set a (.int w)).set b (.int ((k:Int) % 3)) = ys at p2 pz2 lz2
   have m1:Zc9 ((k:Int) % 2) (v % 7) = true:=ZlV (by omega)
   have g2:=Zaf g1 [.lst ys]
   have gy:(M1 ++ [MO.lst ys])[M1.length]? = some (.lst ys):=Zah _ _ _
   have ar:(Zcv (Za (e2 Zo (e2 ZaJ (e2 Zab (Zb 4) (eC (.int 3))) (eC (.int 1))) (e2 ZdT (e2 Zab (Zb 3) (eC (.int 2))) (e2 Zab (Zb 4) (eC (.int 7))))) (Za (Zas Zbx (Za (Zb 5) (Ze))) (Ze)))) [some (.ref d),some (.int (many:Int)),some (.ref M.length),some (.int (k:Int)),some (.int v),some (.ref M1.length)] (M1 ++ [.lst ys]) = .ok (.tup [.int (v % 3 - 1 + (k:Int) % 2 * (v % 7)),.tup ys]) (M1 ++ [.lst ys]):=by simp [m1,gy]
   have ap:=ZcF (ZeN (o:=Zb 2) (n:=M.length) rfl g2 ar g2 (by omega))
   have plr:Zik (.tup [.int (v % 3 - 1 + (k:Int) % 2 * (v % 7)),.tup ys]):=by
    obtain ⟨zs,e,l⟩:=ints_of ys pz2
    exact ⟨(_,zs),by rw [e]; rfl,l.trans lz2⟩
   have l3:M.length < (M1 ++ [MO.lst ys]).length:=by simp; omega
   refine ⟨_,_,_,rfl,(Zk (Zaj s4)).trans ((Zk (Zaj s5)).trans ((Zk p1).trans ((Zk p2).trans ap))),rows ++ [_],_,_,_,rfl,(K1.app _).put (by omega) (by omega) _,List.getElem?_set_self l3,by simp [lr],fun r hr=>?_,((kp.trans kp1).trans (Kp.app _ _ _)).put (Nat.le_refl _) _⟩
   rcases List.mem_append.mp hr with hr | hr
   ·exact pl r hr
   ·rw [List.mem_singleton] at hr; rw [hr]; exact plr)
 rw [ZiB,Nat.zero_add] at lr K'
 have b:((many:Int)) ≤ 1000000 ∧ -1000000 ≤ ((many:Int)):=by omega
 have ir:ZcP (Zb 1) [some (.ref d),some (.int (many:Int)),some (.ref M.length),none,none,none] (M ++ [.lst []]) = .ok ⟨Zdr 0 many,none⟩ (M ++ [.lst []]):=by simp [b]
 refine ⟨rows,M.length,M',?_,g,Nat.le_refl _,lr,pl,K',kp⟩
 refine (Zbq (env:=[some (.ref d),some (.int (many:Int)),none,none,none,none]) ((Zk (Zaj (d:=.ref M.length) (M':=M ++ [.lst []]) (by simp))).trans ((Zk ((ZdL ir).trans lp)).trans (Za0 rfl)))).trans ?_
 simp [ZbU,below]
theorem Zmz {cs:List Int} {c d at_ m:Nat} {many:Int} {ns:List Int} {M:Store} (K:Zb2 cs c d at_ M) (ha:at_ < 100000) (hm:M[m]? = some (.lst (ns.map D.int))) (hmd:m ≠ d) (ln:ns.length ≤ 64):
  ∃ (ks:List Int) (n:Nat) (M':Store),Zch [.ref d,.int many,.ref m] M = .ok (.ref n) M' ∧ M'[n]? = some (.lst (ks.map D.int)) ∧ ks.length = ns.length ∧ M.length ≤ n ∧ Zb2 cs c d (at_ + 1) M' ∧ Kp d M M':=by
 obtain ⟨lc,ld⟩:=K.lt
 have lm:=(List.getElem?_eq_some_iff.mp hm).1
 obtain ⟨e',M1,lp,acc,last,x5,rfl,g1,l1,ml1,o1⟩:=Zeq (it:=⟨ns.map D.int,some m⟩) (g:=Zbt 5)
  (body:=(Zw (Zal 4 (e2 Zo (Zb 4) (e2 Zr (Zag (Za (eC (.int 0)) (Za (eC (.int 1)) (Za (eC (.int 1)) (Za (eC (.int 2)) (Ze)))))) (e2 Zab (Zb 5) (eC (.int 4)))))) (ZaS (Zez tyL Zcb (Zb 3) (Za (Zb 4) (Ze))))))
  (P:=fun j env M'=>∃ (acc:List Int) (last:Int) (x5:Option D),env = [some (.ref d),some (.int many),some (.ref m),some (.ref M.length),some (.int last),x5,none,none,none] ∧ M'[M.length]? = some (.lst (acc.map D.int)) ∧ acc.length = j ∧ M.length < M'.length ∧ ∀ i,i < M.length → M'[i]? = M[i]?)
  (ns.map D.int) 0 [some (.ref d),some (.int many),some (.ref m),some (.ref M.length),some (.int 0),none,none,none,none] (M ++ [.lst []]) ⟨[],0,none,rfl,Zah _ _ _,rfl,by simp,fun i hi=>List.getElem?_append_left hi⟩
  (fun j env M' z=>by
   obtain ⟨_,_,_,_,_,_,_,o⟩:=z
   simp only [locked,(o m lm).trans hm,decide_true])
  (fun j dd hd env M' z=>by
   obtain ⟨acc,last,x5,rfl,g,l,ml,o⟩:=z
   have jl:=(List.getElem?_eq_some_iff.mp hd).1
   rw [List.length_map] at jl
   obtain ⟨cell,rfl⟩:∃ cell:Int,dd = .int cell:=by
    rw [List.getElem?_map] at hd
    cases q:ns[j]? with
    | none=>rw [q] at hd; cases hd
    | some x=>rw [q] at hd; cases hd; exact ⟨x,rfl⟩
   obtain ⟨k,hk,lk⟩:=Zb1 cell 4 (by decide)
   have hk':cell % 4 = (k:Int):=hk
   obtain ⟨u,hu⟩:∃ u:Int,Za9 [D.int 0,.int 1,.int 1,.int 2] (cell % 4) = some (.int u):=by
    rw [hk',ZbB]
    match k,lk with
    | 0,_=>exact ⟨0,rfl⟩
    | 1,_=>exact ⟨1,rfl⟩
    | 2,_=>exact ⟨1,rfl⟩
    | 3,_=>exact ⟨2,rfl⟩
   have s4:(e2 Zo (Zb 4) (e2 Zr (Zag (Za (eC (.int 0)) (Za (eC (.int 1)) (Za (eC (.int 1)) (Za (eC (.int 2)) (Ze)))))) (e2 Zab (Zb 5) (eC (.int 4))))) [some (.ref d),some (.int many),some (.ref m),some (.ref M.length),some (.int last),some (.int cell),none,none,none] M' = .ok (.int (last + u)) (M' ++ [.lst [.int 0,.int 1,.int 1,.int 2]]):=Zm rfl (Zm (Zbj rfl rfl) (Zm rfl rfl (Zcn (by decide))) (Zcc (Zah _ _ _) hu)) rfl
   have g2:=Zaf g [.lst [.int 0,.int 1,.int 1,.int 2]]
   have ap:=ZcF (ZeN (o:=Zb 3) (arg:=Zb 4) (env:=[some (.ref d),some (.int many),some (.ref m),some (.ref M.length),some (.int (last + u)),some (.int cell),none,none,none]) (d:=.int (last + u)) rfl g2 rfl g2 (by rw [List.length_map]; omega))
   refine ⟨_,_,_,rfl,(Zk (Zaj s4)).trans ap,acc ++ [last + u],last + u,some (.int cell),rfl,?_,by simp [l],by simp; omega,fun i hi=>?_⟩
   ·rw [List.getElem?_set_self (by simp; omega)]; simp
   ·rw [List.getElem?_set_ne (by omega),List.getElem?_append_left (by omega)]; exact o i hi)
 rw [List.length_map,Nat.zero_add] at l1
 have K1:Zb2 cs c d at_ M1:=⟨(o1 d ld).trans K.hd,(o1 c lc).trans K.hc,K.ne⟩
 obtain ⟨v,M2,en,K2,kp2,ml2⟩:=K1.draw (by omega)
 have nd:M.length ≠ d:=by omega
 have nc:M.length ≠ c:=by omega
 have g2:M2[M.length]? = some (.lst (acc.map D.int)):=kp2.get g1 nd
 have kp:Kp d M M2:=⟨by omega,fun j h1 h2=>(kp2.old j (by omega) h2).trans (o1 j h1)⟩
 have head:∀ (ks:List Int) (M':Store) (env':Zad),M'[M.length]? = some (.lst (ks.map D.int)) → env'[3]? = some (some (.ref M.length)) → (sIf (Zdd (e2 ZdQ (Zb 3) (Zag (Ze))) (e2 Zdq (e2 Zab (Zb 5) (eC (.int 3))) (eC (.int 0)))) (Zw (Zal 6 (e2 Zab (e2 Zaq (Zb 5) (eC (.int 3))) (Zas ZaD (Za (Zb 3) (Ze))))) (Zw (Zal 7 (e2 Zab (e2 Zaq (Zb 5) (eC (.int 11))) (e2 Ze5 (eC (.int 10)) (eC (.int 58))))) (Zw (Zal 8 (Zag (Za (eC (.int 0)) (Za (e2 ZaJ (Zb 1) (eC (.int 1))) (Za (Zb 1) (Za (e2 Zo (Zb 1) (eC (.int 1))) (Za (e1 Zb5 (eC (.int 1))) (Za (e2 ZaJ (e1 Zb5 (eC (.int 1))) (Zb 7)) (Za (e2 Zo (Zb 1) (Zb 7)) (Za (e2 Zr (Zb 3) (e2 ZaJ (Zb 6) (eC (.int 1)))) (Za (e2 Zr (Zb 3) (e1 Zb5 (eC (.int 1)))) (Ze)))))))))))) (Zco (Zb 3) (Zb 6) (e2 Zr (Zb 8) (e2 Zab (e2 Zaq (Zb 5) (eC (.int 5))) (Zas ZaD (Za (Zb 8) (Ze))))))))) (Zam)) [some (.ref d),some (.int many),some (.ref m),some (.ref M.length),some (.int last),some (.int v),none,none,none] M2 = .nx env' M' →
   Zch [.ref d,.int many,.ref m] M = .ok (.ref M.length) M':=fun ks M' env' hM he h=>by
  have iv:ZfS (Zb 2) [some (.ref d),some (.int many),some (.ref m),some (.ref M.length),some (.int 0),none,none,none,none] (M ++ [.lst []]) = .ok ⟨ns.map D.int,some m⟩ (M ++ [.lst []]):=by simp [Zaf hm]
  refine (Zbq (env:=[some (.ref d),some (.int many),some (.ref m),none,none,none,none,none,none]) (d:=.ref M.length) (M':=M') ((Zk (Zaj (Zbj rfl rfl))).trans ((Zk (Zaj rfl)).trans ((Zk ((ZdL iv).trans lp)).trans ((Zk (Zaj (ZcU rfl en))).trans ((Zk h).trans (Za0 (by simp only [Zb,he])))))))).trans (ZgB (by simp [below]))
 have pi:(acc.map D.int).all (Zai DEEP) = true:=by simp [Zfq]
 have dl:Zbn (acc.map D.int) [] = decide (acc = []):=by cases acc <;> simp [Zbn]
 have cn:(e2 ZdQ (Zb 3) (Zag (Ze))) [some (.ref d),some (.int many),some (.ref m),some (.ref M.length),some (.int last),some (.int v),none,none,none] M2 = .ok (.bl (!decide (acc = []))) (M2 ++ [.lst []]):=by
  refine Zm rfl (Zbj rfl rfl) ?_
  simp only [ZdQ,eqD,Zaf g2,Zah,pi,List.all_nil,Bool.and_self,if_true,dl]
 have g3:=Zaf g2 [.lst []]
 have kp3:=kp.trans (Kp.app d M2 [.lst []])
 have K3:=K2.app [.lst []]
 by_cases h0:acc = []
 ·rw [decide_eq_true h0] at cn
  exact ⟨acc,M.length,_,head acc _ _ g3 rfl (Zbe (Zh0 cn)),g3,l1,Nat.le_refl _,K3,kp3⟩
 rw [decide_eq_false h0] at cn
 by_cases h3:v % 3 > 0
 rotate_left
 ·exact ⟨acc,M.length,_,head acc _ _ g3 rfl (Zbe ((Zd3 cn).trans (Zm (Zm rfl rfl (Zcn (by decide))) rfl (by simp only [Zdq,decide_eq_false h3])))),g3,l1,Nat.le_refl _,K3,kp3⟩
 have la:0 < acc.length:=List.length_pos_iff.mpr h0
 obtain ⟨k,hk,lk⟩:=Zb1 (v / 3) acc.length la
 obtain ⟨a2,ha2⟩:∃ a2:Int,Za9 (acc.map D.int) (-1) = some (.int a2):=⟨acc.getLast h0,by rw [ZeU,List.getLast?_map,List.getLast?_eq_some_getLast h0]; rfl⟩
 obtain ⟨a1,ha1⟩:∃ a1:Int,Za9 (acc.map D.int) ((k:Int) - 1) = some (.int a1):=by
  by_cases q:k = 0
  ·subst q; exact ⟨a2,ha2⟩
  ·rw [show (k:Int) - 1 = ((k - 1:Nat):Int) by omega,ZbB,List.getElem?_map,List.getElem?_eq_getElem (show k - 1 < acc.length by omega)]
   exact ⟨_,rfl⟩
 have p58:∀ (env:Zad) (M:Store),e2 Ze5 (eC (.int 10)) (eC (.int 58)) env M = .ok (.int (10 ^ 58)) M:=fun env M=>by simp
 generalize hF:v / 11 % 10 ^ 58 = far
 generalize hO:([0,many - 1,many,many + 1,-1,-1 - far,many + far,a1,a2]:List Int) = odd
 have lo:odd.length = 9:=by rw [← hO]; rfl
 obtain ⟨i,hi,li⟩:=Zb1 (v / 5) 9 (by decide)
 have hi':v / 5 % 9 = (i:Int):=hi
 obtain ⟨w,hw⟩:∃ w:Int,Za9 (odd.map D.int) (i:Int) = some (.int w):=by
  rw [ZbB,List.getElem?_map,List.getElem?_eq_getElem (show i < odd.length by omega)]
  exact ⟨_,rfl⟩
 have g4:=Zaf g3 [.lst (odd.map D.int)]
 have s8:(Zag (Za (eC (.int 0)) (Za (e2 ZaJ (Zb 1) (eC (.int 1))) (Za (Zb 1) (Za (e2 Zo (Zb 1) (eC (.int 1))) (Za (e1 Zb5 (eC (.int 1))) (Za (e2 ZaJ (e1 Zb5 (eC (.int 1))) (Zb 7)) (Za (e2 Zo (Zb 1) (Zb 7)) (Za (e2 Zr (Zb 3) (e2 ZaJ (Zb 6) (eC (.int 1)))) (Za (e2 Zr (Zb 3) (e1 Zb5 (eC (.int 1)))) (Ze))))))))))) [some (.ref d),some (.int many),some (.ref m),some (.ref M.length),some (.int last),some (.int v),some (.int (k:Int)),some (.int far),none] (M2 ++ [.lst []]) = .ok (.ref (M2 ++ [MO.lst []]).length) (M2 ++ [.lst []] ++ [.lst (odd.map D.int)]):=by
  rw [← hO]
  exact Zbj (Zi rfl (Zi (Zm rfl rfl rfl) (Zi rfl (Zi (Zm rfl rfl rfl) (Zi rfl (Zi (Zm rfl rfl rfl) (Zi (Zm rfl rfl rfl) (Zi (Zm rfl (Zm rfl rfl rfl) (Zcc g3 ha1)) (Zi (Zm rfl rfl (Zcc g3 ha2)) rfl))))))))) rfl
 have gO:(M2 ++ [.lst []] ++ [.lst (odd.map D.int)])[(M2 ++ [MO.lst []]).length]? = some (.lst (odd.map D.int)):=Zah _ _ _
 have ix:ixD (acc.map D.int).length (k:Int) = some k:=by rw [ZgV,List.length_map,if_pos lk]
 have s6:(e2 Zab (e2 Zaq (Zb 5) (eC (.int 3))) (Zas ZaD (Za (Zb 3) (Ze)))) [some (.ref d),some (.int many),some (.ref m),some (.ref M.length),some (.int last),some (.int v),none,none,none] (M2 ++ [.lst []]) = .ok (.int (k:Int)) (M2 ++ [.lst []]):=by
  refine Zm (a:=.int (v / 3)) (b:=.int (acc.length:Int)) (Zm rfl rfl (ZdP (by decide))) (Za5 rfl ((Zcu g3).trans (by rw [List.length_map]))) ?_
  rw [← hk]; exact Zcn (by omega)
 have s7:(e2 Zab (e2 Zaq (Zb 5) (eC (.int 11))) (e2 Ze5 (eC (.int 10)) (eC (.int 58)))) [some (.ref d),some (.int many),some (.ref m),some (.ref M.length),some (.int last),some (.int v),some (.int (k:Int)),none,none] (M2 ++ [.lst []]) = .ok (.int far) (M2 ++ [.lst []]):=by
  rw [← hF]
  exact Zm (Zm rfl rfl (ZdP (by decide))) (p58 _ _) (Zcn (by decide))
 have sv:(e2 Zr (Zb 8) (e2 Zab (e2 Zaq (Zb 5) (eC (.int 5))) (Zas ZaD (Za (Zb 8) (Ze))))) [some (.ref d),some (.int many),some (.ref m),some (.ref M.length),some (.int last),some (.int v),some (.int (k:Int)),some (.int far),some (.ref (M2 ++ [MO.lst []]).length)] (M2 ++ [.lst []] ++ [.lst (odd.map D.int)]) = .ok (.int w) (M2 ++ [.lst []] ++ [.lst (odd.map D.int)]):=by
  refine Zm rfl (Zm (a:=.int (v / 5)) (b:=.int 9) (Zm rfl rfl (ZdP (by decide))) (Za5 rfl ((Zcu gO).trans (by rw [List.length_map,lo]; rfl))) (Zcn (by decide))) (Zcc gO (by rw [hi']; exact hw))
 have pt:Zco (Zb 3) (Zb 6) (e2 Zr (Zb 8) (e2 Zab (e2 Zaq (Zb 5) (eC (.int 5))) (Zas ZaD (Za (Zb 8) (Ze))))) [some (.ref d),some (.int many),some (.ref m),some (.ref M.length),some (.int last),some (.int v),some (.int (k:Int)),some (.int far),some (.ref (M2 ++ [MO.lst []]).length)] (M2 ++ [.lst []] ++ [.lst (odd.map D.int)]) = .nx [some (.ref d),some (.int many),some (.ref m),some (.ref M.length),some (.int last),some (.int v),some (.int (k:Int)),some (.int far),some (.ref (M2 ++ [MO.lst []]).length)] ((M2 ++ [MO.lst []] ++ [MO.lst (odd.map D.int)]).set M.length (.lst ((acc.set k w).map D.int))):=by
  refine ZcF (d:=.non) (Zpn sv rfl rfl ?_)
  simp only [ZhV,g4,ix,List.map_set]
 refine ⟨acc.set k w,M.length,_,head (acc.set k w) _ _ (List.getElem?_set_self (List.getElem?_eq_some_iff.mp g4).1) rfl ((Zda ((Zd3 cn).trans (Zm (Zm rfl rfl (Zcn (by decide))) rfl (by simp only [Zdq,decide_eq_true h3])))).trans ((Zk (Zaj s6)).trans ((Zk (Zaj s7)).trans ((Zk (Zaj s8)).trans pt)))),List.getElem?_set_self (List.getElem?_eq_some_iff.mp g4).1,by rw [List.length_set]; exact l1,Nat.le_refl _,(K3.app _).put nd nc _,(kp3.trans (Kp.app d _ _)).put (Nat.le_refl _) _⟩
theorem Zc8:∀ (ps:List (List Zaz)) (acc:List Zaz),[] ∈ ps → joinM ps acc = none
 | [],_,h=>nomatch h
 | [] :: _,_,_=>rfl
 | (r :: p) :: ps,acc,h=>by
  have h':[] ∈ ps:=by
   rcases List.mem_cons.mp h with z | z
   ·cases z
   ·exact z
  show (match acc.getLast? with | none=>_ | some l=>_) = _
  cases acc.getLast? with
  | none=>exact Zc8 ps _ h'
  | some l=>
   show (if r = l then _ else _) = _
   split
   ·exact Zc8 ps _ h'
   ·rfl
theorem ZcL (r:Zaz) (p:List Zaz) (ps:List (List Zaz)):joinM ((r :: p) :: ps) [] = joinM ps (r :: p):=rfl
theorem Zdv {x:Zaz} {p acc:List Zaz} {ps:List (List Zaz)} (h:acc.getLast? = some x):joinM ((x :: p) :: ps) acc = joinM ps (acc ++ p):=by
 show (match acc.getLast? with | none=>_ | some l=>_) = _
 rw [h]
 show (if x = x then _ else _) = _
 rw [if_pos rfl]
theorem Zgv {x y:Zaz} {p acc:List Zaz} {ps:List (List Zaz)} (h:acc.getLast? = some x) (hy:y ≠ x):joinM ((y :: p) :: ps) acc = none:=by
 show (match acc.getLast? with | none=>_ | some l=>_) = _
 rw [h]
 show (if y = x then _ else _) = _
 rw [if_neg hy]
theorem Zcx {S:List Zaz} {a:Nat} (h1:1 ≤ a) (h2:a ≤ S.length):(S.take a).getLast? = S[a - 1]?:=by
 rw [List.getLast?_eq_getElem?,List.length_take,Nat.min_eq_left h2,List.getElem?_take,if_pos (by omega)]
theorem ZdO {S:List Zaz} {a:Nat} (h1:1 ≤ a) (h2:a ≤ S.length):∃ r p,S.take a = r :: p:=by
 cases q:S.take a with
 | nil=>
  have:=congrArg List.length q
  rw [List.length_take,List.length_nil] at this
  omega
 | cons r p=>exact ⟨r,p,rfl⟩
section
variable {S:List Zaz} {a:Nat} {x:Zaz}
theorem Zf0 (h1:1 ≤ a) (hx:S[a - 1]? = some x):S.drop (a - 1) = x :: S.drop a:=by
 have l:=(List.getElem?_eq_some_iff.mp hx)
 obtain ⟨lt,e⟩:=l
 rw [List.drop_eq_getElem_cons lt,e,show a - 1 + 1 = a by omega]
theorem ZjA (h1:1 ≤ a) (h2:a ≤ S.length) (hx:S[a - 1]? = some x):joinM [S.take a,S.drop (a - 1)] [] = some S:=by
 obtain ⟨r,p,e⟩:=ZdO h1 h2
 have gl:=(Zcx h1 h2).trans hx
 rw [Zf0 h1 hx,e,ZcL,← e,Zdv gl,List.take_append_drop]
 rfl
theorem Zhk (h1:1 ≤ a) (h2:a ≤ S.length) (hx:S[a - 1]? = some x) {t:Zaz} (ht:t ≠ x) (q:List Zaz) (ps:List (List Zaz)):joinM (S.take a :: (t :: q) :: ps) [] = none:=by
 obtain ⟨r,p,e⟩:=ZdO h1 h2
 have gl:=(Zcx h1 h2).trans hx
 rw [e,ZcL,← e,Zgv gl ht]
theorem Zje (h1:1 ≤ a) (h2:a ≤ S.length) (hx:S[a - 1]? = some x):joinM [S.take a,[x],S.drop (a - 1)] [] = some S:=by
 obtain ⟨r,p,e⟩:=ZdO h1 h2
 have gl:=(Zcx h1 h2).trans hx
 rw [Zf0 h1 hx,e,ZcL,← e,Zdv gl,List.append_nil,Zdv gl,List.take_append_drop]
 rfl
theorem ZlS {b:Nat} {y:Zaz} (hab:a ≤ b) (hy:S[a]? = some y):(S.drop a).take (b + 1 - a) = y :: (S.drop (a + 1)).take (b - a):=by
 obtain ⟨lt,e⟩:=List.getElem?_eq_some_iff.mp hy
 rw [List.drop_eq_getElem_cons lt,e,show b + 1 - a = (b - a) + 1 by omega,List.take_succ_cons]
theorem Zjp {b:Nat} (hab:a ≤ b):S.take (a + 1) ++ (S.drop (a + 1)).take (b - a) = S.take (b + 1):=by
 rw [show b + 1 = (a + 1) + (b - a) by omega]
 exact List.take_add.symm
theorem Zd2 {b:Nat} {y z:Zaz} (hab:a ≤ b) (hb:b < S.length) (hy:S[a]? = some y) (hz:S[b]? = some z) (ps:List (List Zaz)):joinM (S.take (a + 1) :: (S.drop a).take (b + 1 - a) :: ps) [] = joinM ps (S.take (b + 1)) ∧ (S.take (b + 1)).getLast? = some z:=by
 obtain ⟨r,p,e⟩:=ZdO (S:=S) (a:=a + 1) (by omega) (by omega)
 have gl:(S.take (a + 1)).getLast? = some y:=(Zcx (by omega) (by omega)).trans hy
 refine ⟨?_,(Zcx (by omega) (by omega)).trans hz⟩
 rw [ZlS hab hy,e,ZcL,← e,Zdv gl,Zjp hab]
theorem Zie {b:Nat} {y z:Zaz} (hab:a ≤ b) (hb:b < S.length) (hy:S[a]? = some y) (hz:S[b]? = some z):joinM [S.take (a + 1),(S.drop a).take (b + 1 - a),S.drop b] [] = some S:=by
 obtain ⟨e,gl⟩:=Zd2 hab hb hy hz [S.drop b]
 have d:S.drop b = z :: S.drop (b + 1):=Zf0 (a:=b + 1) (by omega) hz
 rw [e,d,Zdv gl,List.take_append_drop]
 rfl
end
theorem Rt.fn {ps n:Nat} {body:S3} {ds:List D} {env:Zad} {M:Store} {d:D} (h:Rt (body env M) d) (hl:ds.length = ps:=by rfl) (he:ds.map some ++ List.replicate (n - ps) none = env:=by rfl):∃ M',mkF ps n body ds M = .ok d M':=by
 obtain ⟨M',h⟩:=h
 rw [← he] at h
 unfold mkF
 rw [if_pos hl,h]
 simp only [ZbU]
 split <;> exact ⟨_,rfl⟩
section
variable {M:Store} {ps:List (List Zaz)} {env:Zad}
theorem Zmq {g:EL3} (hg:g env M = .ok (ps.map encP) M) (hz:Zc1 ps ≤ 1000) (hl:decide ((ps.map encP).length ≤ 100) = true:=by rfl):∃ G:Store,(e2 Zr (Zt Zn (Za (eC (.int 2)) (Za (Zag g) (Za (Zag (Ze)) (Ze))))) (eC (.int 0))) env M = .ok (.bl (ZfU ps)) (M ++ G):=by
 obtain ⟨G,e⟩:=Zoy (L:=Zag g) (Zbj hg hl) (Zah _ _ _) hz
 rw [List.append_assoc] at e
 exact ⟨_,e⟩
theorem Zjv {g:EL3} (hg:g env M = .ok (ps.map encP) M) (hb:joinM ps [] = none) (hz:Zc1 ps ≤ 1000) (hl:decide ((ps.map encP).length ≤ 100) = true:=by rfl):∃ G:Store,(e1 Za2 (e2 Zr (Zt Zn (Za (eC (.int 2)) (Za (Zag g) (Za (Zag (Ze)) (Ze))))) (eC (.int 0)))) env M = .ok (.bl false) (M ++ G):=by
 obtain ⟨G,e⟩:=Zmq hg hz hl
 rw [show ZfU ps = true from decide_eq_true (.inr hb)] at e
 exact ⟨G,ZdS e rfl⟩
end
theorem ZjV {f g:E3} {env:Zad} {M:Store} (hf:∃ G,f env M = .ok (.bl false) (M ++ G)) (hg:∀ M':Store,∃ G,g env M' = .ok (.bl false) (M' ++ G)):∃ G,eOr f g env M = .ok (.bl false) (M ++ G):=by
 obtain ⟨G,e⟩:=hf
 obtain ⟨G',e'⟩:=hg (M ++ G)
 rw [List.append_assoc] at e'
 exact ⟨_,(Ziu e).trans e'⟩
theorem ZhN {cs:List Int} {c d at_:Nat} {S:List Zaz} {M:Store} (K:Zb2 cs c d at_ M) (ha:at_ < 100000) (lS:S.length ≤ 100) (h8:∀ s ∈ S,s.2.length = 8) (three:∀ (a:Nat) (x:Int) (M:Store),1 ≤ a → a < S.length → ∃ M',ZbZ [encP S,.int (a:Int),.int x] M = .ok (.bl true) M'):∃ M',Zbl [.ref d,encP S] M = .ok (.bl true) M':=by
 refine Rt.fn (env:=[some (.ref d),some (encP S),none,none,none,none,none]) ?_
 obtain ⟨v,M1,en,_,_,_⟩:=K.draw (by omega)
 refine Rt.set (ZcU rfl en) ?_
 obtain ⟨G1,e1'⟩:=ZjV (M:=M1) (env:=[some (.ref d),some (encP S),some (.int v),none,none,none,none]) (f:=e1 Za2 (e2 Zr (Zt Zn (Za (eC (.int 2)) (Za (Zag (Ze)) (Za (Zag (Ze)) (Ze))))) (eC (.int 0)))) (g:=e1 Za2 (e2 Zr (Zt Zn (Za (eC (.int 2)) (Za (Zag (Za (Zcv (Ze)) (Ze))) (Za (Zag (Ze)) (Ze))))) (eC (.int 0))))
  (by
   obtain ⟨G,e⟩:=Zmq (M:=M1) (ps:=[]) (env:=[some (.ref d),some (encP S),some (.int v),none,none,none,none]) (g:=Ze) rfl (by decide)
   exact ⟨G,ZdS e rfl⟩)
  (fun M'=>Zjv (ps:=[[]]) (Zi (Zcq rfl rfl) rfl) rfl (by decide))
 refine Rt.skip e1' ?_
 generalize M1 ++ G1 = M2
 by_cases h2:S.length < 2
 ·refine ⟨M2,ZdM ((Zda (M':=M2) (Zm (Za5 rfl rfl) rfl ?_)).trans (Za0 rfl))⟩
  have:((S.map Zv).length:Int) < 2:=by rw [List.length_map]; omega
  simp only [ZcQ,decide_eq_true this]
 refine Rt.skip (M':=M2) (Zm (Za5 rfl rfl) rfl (by
  have:¬ ((S.map Zv).length:Int) < 2:=by rw [List.length_map]; omega
  simp only [ZcQ,decide_eq_false this])) ?_
 obtain ⟨k,hk,lk⟩:=Zb1 v (S.length - 1) (by omega)
 have e3':(e2 Zo (eC (.int 1)) (e2 Zab (Zb 2) (e2 ZaJ (Zas ZaD (Za (Zb 1) (Ze))) (eC (.int 1))))) [some (.ref d),some (encP S),some (.int v),none,none,none,none] M2 = .ok (.int ((k + 1:Nat):Int)) M2:=by
  refine Zm (M1:=M2) (M2:=M2) rfl (Zm (M1:=M2) (M2:=M2) (b:=.int ((S.length - 1:Nat):Int)) rfl (Zm (M1:=M2) (M2:=M2) (Za5 (M1:=M2) rfl rfl) rfl ?_) (Zcn (by omega))) ?_
  ·simp only [ZaJ,List.length_map]; rw [show (S.length:Int) - 1 = ((S.length - 1:Nat):Int) by omega]
  ·rw [hk]; simp only [Zo]; rw [show (1:Int) + (k:Int) = ((k + 1:Nat):Int) by omega]
 refine Rt.set e3' ?_
 have ga:∃ x,S[k]? = some x:=⟨S[k]'(by omega),List.getElem?_eq_getElem _⟩
 obtain ⟨x,gx⟩:=ga
 have xm:x ∈ S:=List.mem_of_getElem? gx
 have gx':S[k + 1 - 1]? = some x:=gx
 have c4:cutD (S.map Zv) none (some ((k + 1:Nat):Int)) = (S.take (k + 1)).map Zv:=by rw [ZeO,List.map_take]
 have c5:cutD (S.map Zv) (some (((k + 1:Nat):Int) - 1)) none = (S.drop k).map Zv:=by
  rw [show ((k + 1:Nat):Int) - 1 = (k:Int) by omega,Zcj,List.map_drop]
 refine Rt.set (d:=encP (S.take (k + 1))) (M':=M2) (by
  refine Za5 (a:=encP (S.take (k + 1))) ?_ rfl
  simp only [eSl,Zb,List.getElem?_cons_succ,List.getElem?_cons_zero,R3.bind,Zak,Zx,Zcg,c4]) ?_
 refine Rt.set (d:=encP (S.drop k)) (M':=M2) (by
  refine Za5 (a:=encP (S.drop k)) ?_ rfl
  simp only [eSl,e2,Zb,eC,ZaJ,List.getElem?_cons_succ,List.getElem?_cons_zero,R3.bind,Zak,Zx,Zcg,c5]) ?_
 have dx:S.drop k = x :: S.drop (k + 1):=Zf0 (a:=k + 1) (by omega) gx
 have b1:(S.take (k + 1)).length ≤ 100:=by rw [List.length_take]; omega
 have b2:(S.drop k).length ≤ 100:=by rw [List.length_drop]; omega
 have tw:=ZjA (S:=S) (a:=k + 1) (by omega) (by omega) gx'
 have tl:=Zje (S:=S) (a:=k + 1) (by omega) (by omega) gx'
 have od:=fun {t:Zaz} (ht:t ≠ x)=>Zhk (S:=S) (a:=k + 1) (by omega) (by omega) gx' ht (S.drop (k + 1)) []
 rw [show k + 1 - 1 = k by omega] at tw tl
 have gl:Za9 ((S.take (k + 1)).map Zv) (-1) = some (Zv x):=by rw [ZeU,List.getLast?_map,Zcx (by omega) (by omega),gx']; rfl
 obtain ⟨G3,e5⟩:=ZjV (M:=M2) (env:=[some (.ref d),some (encP S),some (.int v),some (.int ((k + 1:Nat):Int)),some (encP (S.take (k + 1))),some (encP (S.drop k)),none])
  (Zjv (ps:=[S.take (k + 1),[],S.drop k]) (g:=Za (Zb 4) (Za (Zcv (Ze)) (Za (Zb 5) (Ze)))) (Zi rfl (Zi (Zcq rfl rfl) (Zi rfl rfl))) (Zc8 _ _ (by simp)) (by simp only [Zc1,List.length_nil]; omega))
  (fun M'=>Zjv (ps:=[S.take (k + 1),S.drop k,[]]) (g:=Za (Zb 4) (Za (Zb 5) (Za (Zcv (Ze)) (Ze)))) (Zi rfl (Zi rfl (Zi (Zcq rfl rfl) rfl))) (Zc8 _ _ (by simp)) (by simp only [Zc1,List.length_nil]; omega))
 refine Rt.skip e5 ?_
 generalize M2 ++ G3 = M3
 obtain ⟨G4,e6⟩:=Zjv (M:=M3) (env:=[some (.ref d),some (encP S),some (.int v),some (.int ((k + 1:Nat):Int)),some (encP (S.take (k + 1))),some (encP (S.drop k)),none]) (ps:=[[],S.take (k + 1),S.drop k]) (g:=Za (Zcv (Ze)) (Za (Zb 4) (Za (Zb 5) (Ze)))) (Zi (Zcq rfl rfl) (Zi rfl (Zi rfl rfl))) (Zc8 _ _ (by simp)) (by simp only [Zc1,List.length_nil]; omega)
 refine Rt.skip e6 ?_
 generalize M3 ++ G4 = M4
 obtain ⟨t,ht,eu⟩:=Zhz x (v / 9) M4 (h8 x xm)
 have c6:cutD ((S.drop k).map Zv) (some 1) none = (S.drop (k + 1)).map Zv:=by
  rw [dx]; exact (Zcj ((x :: S.drop (k + 1)).map Zv) 1).trans rfl
 have i0:Zr (encP (S.drop k)) (.int 0) M4 = .ok (Zv x) M4:=by rw [dx]; exact Zfm ((ZbB _ 0).trans rfl)
 have z6:[Zv t].length + ((S.drop (k + 1)).map Zv).length ≤ SZ:=by
  refine Nat.le_trans ?_ (show 1000 ≤ SZ by decide)
  rw [List.length_map,List.length_drop]; simp; omega
 have s6:(eSl (Zb 5) (Zx (eC (.int 1))) (Zak)) [some (.ref d),some (encP S),some (.int v),some (.int ((k + 1:Nat):Int)),some (encP (S.take (k + 1))),some (encP (S.drop k)),none] M4 = .ok (.tup ((S.drop (k + 1)).map Zv)) M4:=by
  simp only [eSl,Zb,eC,List.getElem?_cons_succ,List.getElem?_cons_zero,R3.bind,Zak,Zx,Zcg,c6]
 refine Rt.set (d:=encP (t :: S.drop (k + 1))) (M':=M4) (Zm (M1:=M4) (M2:=M4) (Zcq (Zi (ZfV (Zm rfl rfl i0) (Zm rfl rfl (ZdP (by decide))) eu) rfl) rfl) s6 (by simp only [Zo,if_pos z6]; rfl)) ?_
 obtain ⟨G5,e7⟩:=ZjV (M:=M4) (env:=[some (.ref d),some (encP S),some (.int v),some (.int ((k + 1:Nat):Int)),some (encP (S.take (k + 1))),some (encP (S.drop k)),some (encP (t :: S.drop (k + 1)))])
  (Zjv (ps:=[S.take (k + 1),t :: S.drop (k + 1)]) (g:=Za (Zb 4) (Za (Zb 6) (Ze))) (Zi rfl (Zi rfl rfl)) (od ht) (by simp only [Zc1,List.length_cons,List.length_drop]; omega))
  (fun M'=>by
   obtain ⟨G,e⟩:=Zmq (M:=M') (ps:=[S.take (k + 1),S.drop k]) (env:=[some (.ref d),some (encP S),some (.int v),some (.int ((k + 1:Nat):Int)),some (encP (S.take (k + 1))),some (encP (S.drop k)),some (encP (t :: S.drop (k + 1)))]) (g:=Za (Zb 4) (Za (Zb 5) (Ze))) (Zi rfl (Zi rfl rfl)) (by simp only [Zc1]; omega)
   have bf:ZfU [S.take (k + 1),S.drop k] = false:=decide_eq_false fun z=>by
    rw [tw] at z
    rcases z with z | z <;> cases z
   rw [bf] at e
   exact ⟨G,e⟩)
 refine Rt.skip e7 ?_
 generalize M4 ++ G5 = M5
 have cl:cutD ((S.take (k + 1)).map Zv) (some (-1)) none = [Zv x]:=by
  have ln:((S.take (k + 1)).map Zv).length = k + 1:=by rw [List.length_map,List.length_take]; omega
  have gk:((S.take (k + 1)).map Zv)[k]? = some (Zv x):=by rw [List.getElem?_map,List.getElem?_take,if_pos (by omega),gx]; rfl
  obtain ⟨lt,ev⟩:=List.getElem?_eq_some_iff.mp gk
  unfold cutD
  rw [Zeu,ln]
  have:sIx (k + 1) 0 (some (-1)) = k:=by simp [sIx]; omega
  rw [this,List.drop_eq_getElem_cons lt,ev,show k + 1 - k = 1 by omega]
  rfl
 have s9:(eSl (Zb 4) (Zx (e1 Zb5 (eC (.int 1)))) (Zak)) [some (.ref d),some (encP S),some (.int v),some (.int ((k + 1:Nat):Int)),some (encP (S.take (k + 1))),some (encP (S.drop k)),some (encP (t :: S.drop (k + 1)))] M5 = .ok (encP [x]) M5:=by
  have:Zcg (encP (S.take (k + 1))) (some (-1)) none M5 = .ok (encP [x]) M5:=by simp only [Zcg,cl]; rfl
  exact this
 have l9:(Zag (Za (Zb 4) (Za (eSl (Zb 4) (Zx (e1 Zb5 (eC (.int 1)))) (Zak)) (Za (Zb 5) (Ze))))) [some (.ref d),some (encP S),some (.int v),some (.int ((k + 1:Nat):Int)),some (encP (S.take (k + 1))),some (encP (S.drop k)),some (encP (t :: S.drop (k + 1)))] M5 = .ok (.ref M5.length) (M5 ++ [.lst ([S.take (k + 1),[x],S.drop k].map encP)]):=Zbj (Zi rfl (Zi s9 (Zi rfl rfl))) rfl
 have j9:=Zfp (n:=M5.length) (Zah M5 (.lst ([S.take (k + 1),[x],S.drop k].map encP)) []) (by simp only [Zc1,List.length_cons,List.length_nil]; omega) (by simp) tl
 obtain ⟨M6,e9⟩:=three (k + 1) (v / 81) (M5 ++ [.lst ([S.take (k + 1),[x],S.drop k].map encP)]) (by omega) (by omega)
 exact Rt.ret ((Zd3 (Zm (ZcU l9 j9) rfl (Zo2 S _))).trans (ZfO rfl rfl (Zm rfl rfl (ZdP (by decide))) e9))
theorem ZlB {α:Type} (xs:List α) (a b:Nat) (hb:b ≤ xs.length) (ha:a ≤ b):cutD xs (some (a:Int)) (some (b:Int)) = (xs.drop a).take (b - a):=by
 unfold cutD
 rw [Zew,Zew,Nat.min_eq_left hb,Nat.min_eq_left (Nat.le_trans ha hb)]
theorem Zn9 (u a:Int):∃ p q:Int,Zgi [.int u,.int a] = [.int p,.int q] ∧ p ≤ q ∧ (p = u ∨ p = a) ∧ (q = u ∨ q = a):=by
 have ex:∃ y,Zfs [.int u,.int a] y:=by
  by_cases h:a < u
  ·exact ⟨[.int a,.int u],List.Perm.swap _ _ _,by simp [leD,ltD]; omega⟩
  ·exact ⟨[.int u,.int a],List.Perm.refl _,by simp [leD,ltD]; omega⟩
 have e:Zgi [.int u,.int a] = ex.choose:=by unfold Zgi; rw [dif_pos ex]
 obtain ⟨pm,pw⟩:=ex.choose_spec
 rw [e]
 generalize ex.choose = y at pm pw
 have ly:=pm.length_eq
 match y,ly with
 | [y0,y1],_=>
  have m0:=pm.mem_iff.mp (show y0 ∈ [y0,y1] by simp)
  have m1:=pm.mem_iff.mp (show y1 ∈ [y0,y1] by simp)
  have le:=(List.pairwise_cons.mp pw).1 y1 (by simp)
  have k:∀ z:D,z ∈ [D.int u,.int a] → ∃ i:Int,z = .int i ∧ (i = u ∨ i = a):=fun z hz=>by
   rcases List.mem_cons.mp hz with q | q
   ·exact ⟨u,q,.inl rfl⟩
   ·exact ⟨a,List.mem_singleton.mp q,.inr rfl⟩
  obtain ⟨i,rfl,hi⟩:=k y0 m0
  obtain ⟨j,rfl,hj⟩:=k y1 m1
  refine ⟨i,j,rfl,?_,hi,hj⟩
  simp only [leD,ltD,Option.some.injEq,decide_eq_false_iff_not] at le
  omega
noncomputable def ZgY:S3:=(Zw (Zal 6 (e2 Zo (Zcv (Za (Zt ZaP (Za (e2 Zr (e2 Zr (Zb 4) (Zb 5)) (eC (.int 0))) (Za (e2 Zaq (Zb 2) (eC (.int 7))) (Ze)))) (Ze))) (eSl (e2 Zr (Zb 4) (Zb 5)) (Zx (eC (.int 1))) (Zak)))) (sIf (e1 Za2 (e2 Zr (Zt Zn (Za (eC (.int 2)) (Za (e2 Zo (e2 Zo (eSl (Zb 4) (Zak) (Zx (Zb 5))) (Zag (Za (Zb 6) (Ze)))) (eSl (Zb 4) (Zx (e2 Zo (Zb 5) (eC (.int 1)))) (Zak))) (Za (Zag (Ze)) (Ze))))) (eC (.int 0)))) (ZaF (eC (.bl false))) (Zam)))
section
variable {n:Nat} {M:Store} {ps:List (List Zaz)} {z0 z1 z3 x6:Option D} {c:Int} {k:Nat}
theorem ZfY {y:Zaz} {q:List Zaz} (hn:M[n]? = some (.lst (ps.map encP))) (hk:ps[k]? = some (y :: q)) (h8:y.2.length = 8) (lp:ps.length ≤ 10) (lq:q.length ≤ 100) (hj:∀ t,t ≠ y → joinM (ps.take k ++ [t :: q] ++ ps.drop (k + 1)) [] = none) (hz:∀ t,Zc1 (ps.take k ++ [t :: q] ++ ps.drop (k + 1)) ≤ 1000):
  ∃ (x':Option D) (G:Store),ZgY [z0,z1,some (.int c),z3,some (.ref n),some (.int (k:Int)),x6] M = .nx [z0,z1,some (.int c),z3,some (.ref n),some (.int (k:Int)),x'] (M ++ G):=by
 have gk:Za9 (ps.map encP) (k:Int) = some (encP (y :: q)):=by rw [ZbB,List.getElem?_map,hk]; rfl
 have ip:∀ x6,(e2 Zr (Zb 4) (Zb 5)) [z0,z1,some (.int c),z3,some (.ref n),some (.int (k:Int)),x6] M = .ok (encP (y :: q)) M:=fun _=>Zm rfl rfl (Zcc hn gk)
 obtain ⟨t,ht,eu⟩:=Zhz y (c / 7) M h8
 have cq:cutD ((y :: q).map Zv) (some 1) none = q.map Zv:=(Zcj ((y :: q).map Zv) 1).trans rfl
 have z6:[Zv t].length + (q.map Zv).length ≤ SZ:=by
  refine Nat.le_trans ?_ (show 1000 ≤ SZ by decide)
  rw [List.length_map]; simp; omega
 have sl:(eSl (e2 Zr (Zb 4) (Zb 5)) (Zx (eC (.int 1))) (Zak)) [z0,z1,some (.int c),z3,some (.ref n),some (.int (k:Int)),x6] M = .ok (.tup (q.map Zv)) M:=by
  have i6:=ip x6
  generalize e2 Zr (Zb 4) (Zb 5) = E at i6
  simp only [eSl,i6,eC,R3.bind,Zak,Zx,Zcg,cq]
 have s6:(e2 Zo (Zcv (Za (Zt ZaP (Za (e2 Zr (e2 Zr (Zb 4) (Zb 5)) (eC (.int 0))) (Za (e2 Zaq (Zb 2) (eC (.int 7))) (Ze)))) (Ze))) (eSl (e2 Zr (Zb 4) (Zb 5)) (Zx (eC (.int 1))) (Zak))) [z0,z1,some (.int c),z3,some (.ref n),some (.int (k:Int)),x6] M = .ok (encP (t :: q)) M:=Zm (M1:=M) (M2:=M) (Zcq (Zi (ZfV (Zm (ip x6) rfl (Zfm ((ZbB _ 0).trans rfl))) (Zm rfl rfl (ZdP (by decide))) eu) rfl) rfl) sl (by simp only [Zo,if_pos z6]; rfl)
 have c1:cutD (ps.map encP) none (some (k:Int)) = (ps.take k).map encP:=by rw [ZeO,List.map_take]
 have c2:cutD (ps.map encP) (some ((k:Int) + 1)) none = (ps.drop (k + 1)).map encP:=by
  have:=Zcj (ps.map encP) (k + 1)
  rw [← List.map_drop] at this; exact this
 have l1:(ps.take k).length ≤ 10:=by rw [List.length_take]; omega
 have l2:(ps.drop (k + 1)).length ≤ 10:=by rw [List.length_drop]; omega
 have zz1:((ps.take k).map encP).length + [encP (t :: q)].length ≤ SZ:=by
  refine Nat.le_trans ?_ (show 1000 ≤ SZ by decide)
  rw [List.length_map]; simp only [List.length_cons,List.length_nil]; omega
 have zz2:((ps.take k).map encP ++ [encP (t :: q)]).length + ((ps.drop (k + 1)).map encP).length ≤ SZ:=by
  refine Nat.le_trans ?_ (show 1000 ≤ SZ by decide)
  rw [List.length_append,List.length_map,List.length_map]; simp only [List.length_cons,List.length_nil]; omega
 have a1:(eSl (Zb 4) (Zak) (Zx (Zb 5))) [z0,z1,some (.int c),z3,some (.ref n),some (.int (k:Int)),some (encP (t :: q))] M = .ok (.ref M.length) (M ++ [.lst ((ps.take k).map encP)]):=by
  have:Zcg (.ref n) none (some (k:Int)) M = .ok (.ref M.length) (M ++ [.lst ((ps.take k).map encP)]):=by simp only [Zcg,hn,alloc,c1]
  exact this
 have hnG:∀ G,(M ++ G)[n]? = some (.lst (ps.map encP)):=fun G=>Zaf hn G
 have a2:(e2 Zo (eSl (Zb 4) (Zak) (Zx (Zb 5))) (Zag (Za (Zb 6) (Ze)))) [z0,z1,some (.int c),z3,some (.ref n),some (.int (k:Int)),some (encP (t :: q))] M = .ok (.ref (M.length + 2)) (M ++ [.lst ((ps.take k).map encP),.lst [encP (t :: q)],.lst ((ps.take k).map encP ++ [encP (t :: q)])]):=by
  refine Zm (a:=.ref M.length) (b:=.ref (M.length + 1)) (M1:=M ++ [.lst ((ps.take k).map encP)]) (M2:=M ++ [.lst ((ps.take k).map encP),.lst [encP (t :: q)]]) a1 ?_ ?_
  ·refine (Zbj (Zi rfl rfl) rfl).trans ?_
   rw [List.length_append,List.append_assoc]; rfl
  ·have g0:(M ++ [MO.lst ((ps.take k).map encP),.lst [encP (t :: q)]])[M.length]? = some (.lst ((ps.take k).map encP)):=Zah _ _ _
   have g1:(M ++ [MO.lst ((ps.take k).map encP),.lst [encP (t :: q)]])[M.length + 1]? = some (.lst [encP (t :: q)]):=ZbD _ _ 1
   simp only [Zo,g0,g1,if_pos zz1,alloc]
   simp
 have a3:(eSl (Zb 4) (Zx (e2 Zo (Zb 5) (eC (.int 1)))) (Zak)) [z0,z1,some (.int c),z3,some (.ref n),some (.int (k:Int)),some (encP (t :: q))] (M ++ [.lst ((ps.take k).map encP),.lst [encP (t :: q)],.lst ((ps.take k).map encP ++ [encP (t :: q)])]) = .ok (.ref (M.length + 3)) (M ++ [.lst ((ps.take k).map encP),.lst [encP (t :: q)],.lst ((ps.take k).map encP ++ [encP (t :: q)]),.lst ((ps.drop (k + 1)).map encP)]):=by
  have:Zcg (.ref n) (some ((k:Int) + 1)) none (M ++ [.lst ((ps.take k).map encP),.lst [encP (t :: q)],.lst ((ps.take k).map encP ++ [encP (t :: q)])]) = .ok (.ref (M.length + 3)) (M ++ [.lst ((ps.take k).map encP),.lst [encP (t :: q)],.lst ((ps.take k).map encP ++ [encP (t :: q)]),.lst ((ps.drop (k + 1)).map encP)]):=by
   simp only [Zcg,hnG,alloc,c2]
   simp
  exact this
 have a4:(e2 Zo (e2 Zo (eSl (Zb 4) (Zak) (Zx (Zb 5))) (Zag (Za (Zb 6) (Ze)))) (eSl (Zb 4) (Zx (e2 Zo (Zb 5) (eC (.int 1)))) (Zak))) [z0,z1,some (.int c),z3,some (.ref n),some (.int (k:Int)),some (encP (t :: q))] M = .ok (.ref (M.length + 4)) (M ++ [.lst ((ps.take k).map encP),.lst [encP (t :: q)],.lst ((ps.take k).map encP ++ [encP (t :: q)]),.lst ((ps.drop (k + 1)).map encP),.lst ((ps.take k ++ [t :: q] ++ ps.drop (k + 1)).map encP)]):=by
  refine Zm a2 a3 ?_
  have g2:(M ++ [MO.lst ((ps.take k).map encP),.lst [encP (t :: q)],.lst ((ps.take k).map encP ++ [encP (t :: q)]),.lst ((ps.drop (k + 1)).map encP)])[M.length + 2]? = some (.lst ((ps.take k).map encP ++ [encP (t :: q)])):=ZbD _ _ 2
  have g3:(M ++ [MO.lst ((ps.take k).map encP),.lst [encP (t :: q)],.lst ((ps.take k).map encP ++ [encP (t :: q)]),.lst ((ps.drop (k + 1)).map encP)])[M.length + 3]? = some (.lst ((ps.drop (k + 1)).map encP)):=ZbD _ _ 3
  simp only [Zo,g2,g3,if_pos zz2,alloc]
  simp
 obtain ⟨G,e⟩:=Zoy a4 (ZbD _ _ 4) (hz t)
 rw [show ZfU (ps.take k ++ [t :: q] ++ ps.drop (k + 1)) = true from decide_eq_true (.inr (hj t ht)),List.append_assoc] at e
 exact ⟨_,_,(Zk (Zaj s6)).trans (Zbe (ZdS e rfl))⟩
end
theorem ZjG {S:List Zaz} {a:Nat} {c:Int} {M:Store} (lS:S.length ≤ 100) (h8:∀ s ∈ S,s.2.length = 8) (h1:1 ≤ a) (h2:a < S.length):∃ M',ZbZ [encP S,.int (a:Int),.int c] M = .ok (.bl true) M':=by
 refine Rt.fn (env:=[some (encP S),some (.int (a:Int)),some (.int c),none,none,none,none]) ?_
 by_cases h3:S.length < 3
 ·refine ⟨M,ZdM ((Zda (M':=M) (Zm (Za5 rfl rfl) rfl ?_)).trans (Za0 rfl))⟩
  have:((S.map Zv).length:Int) < 3:=by rw [List.length_map]; omega
  simp only [ZcQ,decide_eq_true this]
 refine Rt.skip (M':=M) (Zm (Za5 rfl rfl) rfl (by
  have:¬ ((S.map Zv).length:Int) < 3:=by rw [List.length_map]; omega
  simp only [ZcQ,decide_eq_false this])) ?_
 obtain ⟨k,hk,lk⟩:=Zb1 c (S.length - 2) (by omega)
 have e1':(e2 Zo (eC (.int 1)) (e2 Zab (Zb 2) (e2 ZaJ (Zas ZaD (Za (Zb 0) (Ze))) (eC (.int 2))))) [some (encP S),some (.int (a:Int)),some (.int c),none,none,none,none] M = .ok (.int ((k + 1:Nat):Int)) M:=by
  refine Zm (M1:=M) (M2:=M) rfl (Zm (M1:=M) (M2:=M) (b:=.int ((S.length - 2:Nat):Int)) rfl (Zm (M1:=M) (M2:=M) (Za5 (M1:=M) rfl rfl) rfl ?_) (Zcn (by omega))) ?_
  ·simp only [ZaJ,List.length_map]; rw [show (S.length:Int) - 2 = ((S.length - 2:Nat):Int) by omega]
  ·rw [hk]; simp only [Zo]; rw [show (1:Int) + (k:Int) = ((k + 1:Nat):Int) by omega]
 obtain ⟨p',q',es,hpq,hp,hq⟩:=Zn9 ((k + 1:Nat):Int) (a:Int)
 obtain ⟨p,rfl⟩:∃ p:Nat,p' = (p:Int):=by rcases hp with z | z <;> exact ⟨_,z⟩
 obtain ⟨q,rfl⟩:∃ q:Nat,q' = (q:Int):=by rcases hq with z | z <;> exact ⟨_,z⟩
 have pq:p ≤ q:=by omega
 have qS:q < S.length:=by omega
 have so:ZjK [.int ((k + 1:Nat):Int),.int (a:Int)]:=⟨by simp,.inr rfl,fun x hx y hy=>by
  rcases List.mem_cons.mp hx with z | z
  ·rcases List.mem_cons.mp hy with w | w
   ·rw [z,w]; rfl
   ·rw [z,List.mem_singleton.mp w]; rfl
  ·rcases List.mem_cons.mp hy with w | w
   ·rw [List.mem_singleton.mp z,w]; rfl
   ·rw [List.mem_singleton.mp z,List.mem_singleton.mp w]; rfl⟩
 have e3':(Zas Zcw (Za (Zag (Za (e2 Zo (eC (.int 1)) (e2 Zab (Zb 2) (e2 ZaJ (Zas ZaD (Za (Zb 0) (Ze))) (eC (.int 2))))) (Za (Zb 1) (Ze)))) (Ze))) [some (encP S),some (.int (a:Int)),some (.int c),none,none,none,none] M = .ok (.ref (M ++ [MO.lst [.int ((k + 1:Nat):Int),.int (a:Int)]]).length) (M ++ [.lst [.int ((k + 1:Nat):Int),.int (a:Int)]] ++ [.lst [.int (p:Int),.int (q:Int)]]):=by
  refine Za5 (Zbj (Zi e1' (Zi rfl rfl)) rfl) ?_
  have g:(M ++ [MO.lst [.int ((k + 1:Nat):Int),.int (a:Int)]])[M.length]? = some (.lst [.int ((k + 1:Nat):Int),.int (a:Int)]):=Zah _ _ _
  simp only [Zcw,g,if_pos so,es,alloc]
 refine Rt.set e3' ?_
 have g3:(M ++ [.lst [.int ((k + 1:Nat):Int),.int (a:Int)]] ++ [.lst [.int (p:Int),.int (q:Int)]])[(M ++ [MO.lst [.int ((k + 1:Nat):Int),.int (a:Int)]]).length]? = some (.lst [.int (p:Int),.int (q:Int)]):=Zah _ _ _
 generalize (M ++ [MO.lst [.int ((k + 1:Nat):Int),.int (a:Int)]]).length = r3 at g3
 generalize M ++ [.lst [.int ((k + 1:Nat):Int),.int (a:Int)]] ++ [.lst [.int (p:Int),.int (q:Int)]] = M3 at g3
 obtain ⟨y,gy⟩:∃ y,S[p]? = some y:=⟨S[p]'(by omega),List.getElem?_eq_getElem _⟩
 obtain ⟨z,gz⟩:∃ z,S[q]? = some z:=⟨S[q]'(by omega),List.getElem?_eq_getElem _⟩
 have c1:cutD (S.map Zv) none (some ((p:Int) + 1)) = (S.take (p + 1)).map Zv:=by
  have:=ZeO (S.map Zv) (p + 1)
  rw [← List.map_take] at this; exact this
 have c2:cutD (S.map Zv) (some (p:Int)) (some ((q:Int) + 1)) = ((S.drop p).take (q + 1 - p)).map Zv:=by
  have:=ZlB (S.map Zv) p (q + 1) (by rw [List.length_map]; omega) (by omega)
  rw [← List.map_drop,← List.map_take] at this; exact this
 have c3:cutD (S.map Zv) (some (q:Int)) none = (S.drop q).map Zv:=by rw [Zcj,List.map_drop]
 have i0:(e2 Zr (Zb 3) (eC (.int 0))) [some (encP S),some (.int (a:Int)),some (.int c),some (.ref r3),none,none,none] M3 = .ok (.int (p:Int)) M3:=Zm rfl rfl (Zcc g3 rfl)
 have i1:(e2 Zr (Zb 3) (eC (.int 1))) [some (encP S),some (.int (a:Int)),some (.int c),some (.ref r3),none,none,none] M3 = .ok (.int (q:Int)) M3:=Zm rfl rfl (Zcc g3 rfl)
 have i0':(e2 Zo (e2 Zr (Zb 3) (eC (.int 0))) (eC (.int 1))) [some (encP S),some (.int (a:Int)),some (.int c),some (.ref r3),none,none,none] M3 = .ok (.int ((p:Int) + 1)) M3:=Zm i0 rfl rfl
 have i1':(e2 Zo (e2 Zr (Zb 3) (eC (.int 1))) (eC (.int 1))) [some (encP S),some (.int (a:Int)),some (.int c),some (.ref r3),none,none,none] M3 = .ok (.int ((q:Int) + 1)) M3:=Zm i1 rfl rfl
 have p1:(eSl (Zb 0) (Zak) (Zx (e2 Zo (e2 Zr (Zb 3) (eC (.int 0))) (eC (.int 1))))) [some (encP S),some (.int (a:Int)),some (.int c),some (.ref r3),none,none,none] M3 = .ok (encP (S.take (p + 1))) M3:=by
  generalize e2 Zo (e2 Zr (Zb 3) (eC (.int 0))) (eC (.int 1)) = E at i0'
  simp only [eSl,Zb,List.getElem?_cons_zero,R3.bind,Zak,Zx,i0',Zcg,c1]
 have p2:(eSl (Zb 0) (Zx (e2 Zr (Zb 3) (eC (.int 0)))) (Zx (e2 Zo (e2 Zr (Zb 3) (eC (.int 1))) (eC (.int 1))))) [some (encP S),some (.int (a:Int)),some (.int c),some (.ref r3),none,none,none] M3 = .ok (encP ((S.drop p).take (q + 1 - p))) M3:=by
  generalize e2 Zo (e2 Zr (Zb 3) (eC (.int 1))) (eC (.int 1)) = E at i1'
  generalize e2 Zr (Zb 3) (eC (.int 0)) = F at i0
  simp only [eSl,Zb,List.getElem?_cons_zero,R3.bind,Zx,i0,i1',Zcg,c2]
 have p3:(eSl (Zb 0) (Zx (e2 Zr (Zb 3) (eC (.int 1)))) (Zak)) [some (encP S),some (.int (a:Int)),some (.int c),some (.ref r3),none,none,none] M3 = .ok (encP (S.drop q)) M3:=by
  generalize e2 Zr (Zb 3) (eC (.int 1)) = F at i1
  simp only [eSl,Zb,List.getElem?_cons_zero,R3.bind,Zak,Zx,i1,Zcg,c3]
 have s4:(Zag (Za (eSl (Zb 0) (Zak) (Zx (e2 Zo (e2 Zr (Zb 3) (eC (.int 0))) (eC (.int 1))))) (Za (eSl (Zb 0) (Zx (e2 Zr (Zb 3) (eC (.int 0)))) (Zx (e2 Zo (e2 Zr (Zb 3) (eC (.int 1))) (eC (.int 1))))) (Za (eSl (Zb 0) (Zx (e2 Zr (Zb 3) (eC (.int 1)))) (Zak)) (Ze))))) [some (encP S),some (.int (a:Int)),some (.int c),some (.ref r3),none,none,none] M3 = .ok (.ref M3.length) (M3 ++ [.lst ([S.take (p + 1),(S.drop p).take (q + 1 - p),S.drop q].map encP)]):=Zbj (Zi p1 (Zi p2 (Zi p3 rfl))) rfl
 refine Rt.set s4 ?_
 have b1:(S.take (p + 1)).length ≤ 100:=by rw [List.length_take]; omega
 have b2:((S.drop p).take (q + 1 - p)).length ≤ 100:=by rw [List.length_take,List.length_drop]; omega
 have b3:(S.drop q).length ≤ 100:=by rw [List.length_drop]; omega
 have jw:=Zie pq qS gy gz
 have g4:(M3 ++ [MO.lst ([S.take (p + 1),(S.drop p).take (q + 1 - p),S.drop q].map encP)])[M3.length]? = some (.lst ([S.take (p + 1),(S.drop p).take (q + 1 - p),S.drop q].map encP)):=Zah _ _ _
 have jd:=Zfp g4 (by simp only [Zc1]; omega) (by simp) jw
 refine Rt.skip (M':=M3 ++ [MO.lst ([S.take (p + 1),(S.drop p).take (q + 1 - p),S.drop q].map encP)]) (Zm (ZcU rfl jd) rfl (Zo7 S _)) ?_
 generalize M3.length = n at g4 ⊢
 generalize M3 ++ [MO.lst ([S.take (p + 1),(S.drop p).take (q + 1 - p),S.drop q].map encP)] = M4 at g4 ⊢
 have mx:=ZlS (S:=S) pq gy
 have dz:S.drop q = z :: S.drop (q + 1):=Zf0 (a:=q + 1) (by omega) gz
 have bm:((S.drop (p + 1)).take (q - p)).length ≤ 100:=by rw [List.length_take,List.length_drop]; omega
 have bz:(S.drop (q + 1)).length ≤ 100:=by rw [List.length_drop]; omega
 obtain ⟨j3,gl⟩:(∀ ps,joinM (S.take (p + 1) :: (S.drop p).take (q + 1 - p) :: ps) [] = joinM ps (S.take (q + 1))) ∧ (S.take (q + 1)).getLast? = some z:=⟨fun ps=>(Zd2 pq qS gy gz ps).1,(Zd2 pq qS gy gz []).2⟩
 have iv:(Zag (Za (eC (.int 1)) (Za (eC (.int 2)) (Ze)))) [some (encP S),some (.int (a:Int)),some (.int c),some (.ref r3),some (.ref n),none,none] M4 = .ok (.ref M4.length) (M4 ++ [.lst [.int 1,.int 2]]):=Zbj rfl rfl
 have g5:=Zaf g4 [.lst [.int 1,.int 2]]
 have gk:(M4 ++ [MO.lst [.int 1,.int 2]])[M4.length]? = some (.lst [.int 1,.int 2]):=Zah _ _ _
 generalize M4 ++ [MO.lst [.int 1,.int 2]] = M5 at iv g5 gk
 obtain ⟨x1,G1,t1⟩:=ZfY (z0:=some (encP S)) (z1:=some (.int (a:Int))) (z3:=some (.ref r3)) (x6:=none) (c:=c) (k:=1) (y:=y) (q:=(S.drop (p + 1)).take (q - p)) g5 (by rw [← mx]; rfl) (h8 y (List.mem_of_getElem? gy)) (by simp) bm
  (fun t ht=>Zhk (S:=S) (a:=p + 1) (by omega) (by omega) gy ht _ [S.drop q]) (fun t=>by
   show Zc1 [S.take (p + 1),t :: (S.drop (p + 1)).take (q - p),S.drop q] ≤ 1000
   simp only [Zc1,List.length_cons]; omega)
 obtain ⟨x2,G2,t2⟩:=ZfY (z0:=some (encP S)) (z1:=some (.int (a:Int))) (z3:=some (.ref r3)) (x6:=x1) (c:=c) (k:=2) (y:=z) (q:=S.drop (q + 1)) (Zaf g5 G1) (by rw [← dz]; rfl) (h8 z (List.mem_of_getElem? gz)) (by simp) bz
  (fun t ht=>by
   show joinM (S.take (p + 1) :: (S.drop p).take (q + 1 - p) :: [t :: S.drop (q + 1)]) [] = none
   rw [j3,Zgv gl ht]) (fun t=>by
   show Zc1 [S.take (p + 1),(S.drop p).take (q + 1 - p),t :: S.drop (q + 1)] ≤ 1000
   simp only [Zc1,List.length_cons]; omega)
 have k0:locked ⟨[.int 1,.int 2],some M4.length⟩ M5 = true:=by simp only [locked,decide_eq_true_eq]; exact gk
 have k1:locked ⟨[.int 1,.int 2],some M4.length⟩ (M5 ++ G1) = true:=by simp only [locked,decide_eq_true_eq]; exact Zaf gk _
 have k2:locked ⟨[.int 1,.int 2],some M4.length⟩ (M5 ++ G1 ++ G2) = true:=by simp only [locked,decide_eq_true_eq]; exact Zaf (Zaf gk _) _
 have lp:Zaw ⟨[.int 1,.int 2],some M4.length⟩ (Zbt 5) ZgY [.int 1,.int 2] [some (encP S),some (.int (a:Int)),some (.int c),some (.ref r3),some (.ref n),none,none] M5 = .nx [some (encP S),some (.int (a:Int)),some (.int c),some (.ref r3),some (.ref n),some (.int 2),x2] (M5 ++ G1 ++ G2):=by
  simp only [Zaw,k0,if_true,Zbt,List.set_cons_succ,List.set_cons_zero]
  have t1':ZgY [some (encP S),some (.int (a:Int)),some (.int c),some (.ref r3),some (.ref n),some (.int 1),none] M5 = .nx [some (encP S),some (.int (a:Int)),some (.int c),some (.ref r3),some (.ref n),some (.int 1),x1] (M5 ++ G1):=t1
  have t2':ZgY [some (encP S),some (.int (a:Int)),some (.int c),some (.ref r3),some (.ref n),some (.int 2),x1] (M5 ++ G1) = .nx [some (encP S),some (.int (a:Int)),some (.int c),some (.ref r3),some (.ref n),some (.int 2),x2] (M5 ++ G1 ++ G2):=t2
  rw [t1']
  simp only [k1,if_true,List.set_cons_succ,List.set_cons_zero]
  rw [t2']
  simp only [k2,if_true]
 exact Rt.loop (it:=⟨[.int 1,.int 2],some M4.length⟩) (M1:=M5) (by simp only [ZfS,iv,R3.bind,gk]) lp (Rt.ret rfl)
theorem Zlp {α β:Type} (f:α → β) (xs:List α) (a b:Option Int):cutD (xs.map f) a b = (cutD xs a b).map f:=by
 unfold cutD
 rw [List.length_map,List.map_take,List.map_drop]
noncomputable def Zj9:S3:=(Zw (Zal 7 (e2 Zo (eSl (Zb 5) (Zx (Zb 6)) (Zak)) (eSl (Zb 5) (Zak) (Zx (Zb 6))))) (Zw (sIf (e2 ZbG (Zb 6) (eC (.int 0))) (Zal 7 (Zb 5)) (Zam)) (Zw (sIf (e1 Za2 (Zt ZaN (Za (eC (.int 0)) (Za (Zb 3) (Za (Zb 7) (Za (Zt ZaX (Za (Zb 7) (Za (eC (.int 1)) (Za (e2 ZaJ (Zb 2) (eC (.int 2))) (Za (eC (.int 1)) (Ze)))))) (Ze))))))) (ZaF (eC (.bl false))) (Zam)) (sIf (e1 Za2 (Zt ZaN (Za (eC (.int 1)) (Za (Zb 4) (Za (Zb 7) (Za (Zt ZaX (Za (Zb 7) (Za (eC (.int 0)) (Za (Zb 2) (Za (eC (.int 0)) (Ze)))))) (Ze))))))) (ZaF (eC (.bl false))) (Zam)))))
theorem ZjZ {z0 z1 x7:Option D} {many k n:Nat} {rs us:List D} {ks:List Int} {M:Store} (lr:rs.length = many) (lu:us.length = many) (hn:M[n]? = some (.lst (ks.map D.int))) (lk:ks.length ≤ 100):
  ∃ (x':Option D) (G:Store),Zj9 [z0,z1,some (.int (many:Int)),some (.tup rs),some (.tup us),some (.ref n),some (.int (k:Int)),x7] M = .nx [z0,z1,some (.int (many:Int)),some (.tup rs),some (.tup us),some (.ref n),some (.int (k:Int)),x'] (M ++ G):=by
 have c1:cutD (ks.map D.int) (some (k:Int)) none = (ks.drop k).map D.int:=by rw [Zcj,List.map_drop]
 have c2:cutD (ks.map D.int) none (some (k:Int)) = (ks.take k).map D.int:=by rw [ZeO,List.map_take]
 have a1:(eSl (Zb 5) (Zx (Zb 6)) (Zak)) [z0,z1,some (.int (many:Int)),some (.tup rs),some (.tup us),some (.ref n),some (.int (k:Int)),x7] M = .ok (.ref M.length) (M ++ [.lst ((ks.drop k).map D.int)]):=by
  have:Zcg (.ref n) (some (k:Int)) none M = .ok (.ref M.length) (M ++ [.lst ((ks.drop k).map D.int)]):=by simp only [Zcg,hn,alloc,c1]
  exact this
 have hn1:=Zaf hn [.lst ((ks.drop k).map D.int)]
 have a2:(eSl (Zb 5) (Zak) (Zx (Zb 6))) [z0,z1,some (.int (many:Int)),some (.tup rs),some (.tup us),some (.ref n),some (.int (k:Int)),x7] (M ++ [.lst ((ks.drop k).map D.int)]) = .ok (.ref (M.length + 1)) (M ++ [.lst ((ks.drop k).map D.int),.lst ((ks.take k).map D.int)]):=by
  have:Zcg (.ref n) none (some (k:Int)) (M ++ [.lst ((ks.drop k).map D.int)]) = .ok (.ref (M.length + 1)) (M ++ [.lst ((ks.drop k).map D.int),.lst ((ks.take k).map D.int)]):=by
   simp only [Zcg,hn1,alloc,c2]
   simp
  exact this
 have zz:((ks.drop k).map D.int).length + ((ks.take k).map D.int).length ≤ SZ:=by
  refine Nat.le_trans ?_ (show 1000 ≤ SZ by decide)
  rw [List.length_map,List.length_map,List.length_drop,List.length_take]; omega
 have a3:(e2 Zo (eSl (Zb 5) (Zx (Zb 6)) (Zak)) (eSl (Zb 5) (Zak) (Zx (Zb 6)))) [z0,z1,some (.int (many:Int)),some (.tup rs),some (.tup us),some (.ref n),some (.int (k:Int)),x7] M = .ok (.ref (M.length + 2)) (M ++ [.lst ((ks.drop k).map D.int),.lst ((ks.take k).map D.int),.lst ((ks.drop k ++ ks.take k).map D.int)]):=by
  refine Zm a1 a2 ?_
  have g0:(M ++ [MO.lst ((ks.drop k).map D.int),.lst ((ks.take k).map D.int)])[M.length]? = some (.lst ((ks.drop k).map D.int)):=Zah _ _ _
  have g1:(M ++ [MO.lst ((ks.drop k).map D.int),.lst ((ks.take k).map D.int)])[M.length + 1]? = some (.lst ((ks.take k).map D.int)):=ZbD _ _ 1
  simp only [Zo,g0,g1,if_pos zz,alloc]
  simp
 have g2:(M ++ [MO.lst ((ks.drop k).map D.int),.lst ((ks.take k).map D.int),.lst ((ks.drop k ++ ks.take k).map D.int)])[M.length + 2]? = some (.lst ((ks.drop k ++ ks.take k).map D.int)):=ZbD _ _ 2
 have hn3:=Zaf hn [MO.lst ((ks.drop k).map D.int),.lst ((ks.take k).map D.int),.lst ((ks.drop k ++ ks.take k).map D.int)]
 refine ⟨?_,[MO.lst ((ks.drop k).map D.int),.lst ((ks.take k).map D.int),.lst ((ks.drop k ++ ks.take k).map D.int)],?_⟩
 ·exact if k = 0 then some (.ref n) else some (.ref (M.length + 2))
 generalize M ++ [MO.lst ((ks.drop k).map D.int),.lst ((ks.take k).map D.int),.lst ((ks.drop k ++ ks.take k).map D.int)] = B at *
 have rest:∀ (s:Nat) (ss:List Int),B[s]? = some (.lst (ss.map D.int)) → ss.length ≤ 1000 → (Zw (sIf (e1 Za2 (Zt ZaN (Za (eC (.int 0)) (Za (Zb 3) (Za (Zb 7) (Za (Zt ZaX (Za (Zb 7) (Za (eC (.int 1)) (Za (e2 ZaJ (Zb 2) (eC (.int 2))) (Za (eC (.int 1)) (Ze)))))) (Ze))))))) (ZaF (eC (.bl false))) (Zam)) (sIf (e1 Za2 (Zt ZaN (Za (eC (.int 1)) (Za (Zb 4) (Za (Zb 7) (Za (Zt ZaX (Za (Zb 7) (Za (eC (.int 0)) (Za (Zb 2) (Za (eC (.int 0)) (Ze)))))) (Ze))))))) (ZaF (eC (.bl false))) (Zam))) [z0,z1,some (.int (many:Int)),some (.tup rs),some (.tup us),some (.ref n),some (.int (k:Int)),some (.ref s)] B = .nx [z0,z1,some (.int (many:Int)),some (.tup rs),some (.tup us),some (.ref n),some (.int (k:Int)),some (.ref s)] B:=fun s ss hs ls=>by
  have w0:=ZiC (rows:=rs) (k:=0) (.inl rfl) hs (by omega)
  have w1:=ZiC (rows:=us) (k:=1) (.inr rfl) hs (by omega)
  have q0:ZdW 0 rs ss = Zb8 1 ((many:Int) - 2) 1 ss:=by unfold ZdW; rw [if_pos rfl,lr]
  have q1:ZdW 1 us ss = Zb8 0 (many:Int) 0 ss:=by unfold ZdW; rw [if_neg (by decide),lu]
  rw [q0] at w0
  rw [q1] at w1
  have gd0:=Zil (l:=1) (m:=(many:Int) - 2) (a:=1) hs
  have gd1:=Zil (l:=0) (m:=(many:Int)) (a:=0) hs
  exact (Zk (Zbe (ZdS (ZgU rfl rfl rfl (ZgU rfl rfl (Zm rfl rfl rfl) rfl gd0) w0) rfl))).trans (Zbe (ZdS (ZgU rfl rfl rfl (ZgU rfl rfl rfl rfl gd1) w1) rfl))
 refine (Zk (Zaj a3)).trans ?_
 by_cases h:k = 0
 ·rw [if_pos h]
  exact (Zk ((Zda (M':=B) (Zm rfl rfl (Zhb (by omega)))).trans (Zaj rfl))).trans (rest n ks hn3 (by omega))
 ·rw [if_neg h]
  exact (Zk (Zbe (M':=B) (Zm rfl rfl (ZgD (by omega))))).trans (rest (M.length + 2) _ g2 (by rw [List.length_append,List.length_drop,List.length_take]; omega))
theorem law_holds:∀ ns:List Int,ns.length ≤ 63 → ∃ M',Ziy [.scr (ns.map D.int)] [] = .ok (.bl true) M':=by
 intro ns hns
 refine Rt.law (env:=[some (.scr (ns.map D.int)),none,none,none,none,none,none,none]) ?_
 unfold Zju
 have c64:cutD (ns.map D.int) none (some 64) = (ns.take 64).map D.int:=by
  have:=ZeO (ns.map D.int) 64
  rw [← List.map_take] at this
  exact this
 generalize ns.take 64 = cs at c64
 refine Rt.set (d:=.ref 1) (M':=[.lst (cs.map D.int),.lst [.ref 0,.int 0]]) (by simp [c64]) ?_
 have K0:Zb2 cs 0 1 0 [.lst (cs.map D.int),.lst [.ref 0,.int 0]]:=⟨rfl,rfl,by decide⟩
 generalize [MO.lst (cs.map D.int),MO.lst [.ref 0,.int 0]] = M0 at K0 ⊢
 obtain ⟨v,M1,en,K1,_,_⟩:=K0.draw (by decide)
 obtain ⟨many,hm,lm⟩:=Zb1 v 61 (by decide)
 have hm':v % 61 = (many:Int):=hm
 refine Rt.set (d:=.int (many:Int)) (M':=M1) (Zm (ZcU rfl en) rfl (by rw [← hm']; exact Zcn (by decide))) ?_
 obtain ⟨rows,n2,M2,er,g2,_,lr,pr,K2,_⟩:=ZhB cs 0 1 many _ M1 K1 (by omega) (by omega)
 obtain ⟨S,rfl,lS,h8⟩:=Zih rows pr
 refine Rt.set (d:=encP S) (M':=M2) (Za5 (ZfV rfl rfl er) (ZgN g2)) ?_
 obtain ⟨us,n3,M3,eu,g3,_,lu,_,K3,_⟩:=ZhD cs 0 1 many _ M2 K2 (by omega) (by omega)
 refine Rt.set (d:=.tup us) (M':=M3) (Za5 (ZfV rfl rfl eu) (ZgN g3)) ?_
 have lc:(cutD ns (some 4) (some 64)).length ≤ 64:=by
  unfold cutD
  rw [List.length_take,List.length_drop]; omega
 generalize hc0:cutD ns (some 4) (some 64) = cells at lc
 have sl:(eSl (Zb 0) (Zx (eC (.int 4))) (Zx (eC (.int 64)))) [some (.scr (ns.map D.int)),some (.ref 1),some (.int (many:Int)),some (encP S),some (.tup us),none,none,none] M3 = .ok (.ref M3.length) (M3 ++ [.lst (cells.map D.int)]):=by
  have:=Zlp D.int ns (some 4) (some 64)
  rw [hc0] at this
  simp [this]
 have l1:=K3.lt
 obtain ⟨ks,n,M4,el,g4,lk,_,K4,_⟩:=Zmz (many:=(many:Int)) (K3.app [.lst (cells.map D.int)]) (by omega) (Zah M3 (.lst (cells.map D.int)) []) (by omega) lc
 refine Rt.set (ZfO rfl rfl sl el) ?_
 have rng:ZcP (e2 Zo (Zas ZaD (Za (Zb 5) (Ze))) (eC (.int 1))) [some (.scr (ns.map D.int)),some (.ref 1),some (.int (many:Int)),some (encP S),some (.tup us),some (.ref n),none,none] M4 = .ok ⟨Zdr 0 (ks.length + 1),none⟩ M4:=by
  have e:(e2 Zo (Zas ZaD (Za (Zb 5) (Ze))) (eC (.int 1))) [some (.scr (ns.map D.int)),some (.ref 1),some (.int (many:Int)),some (encP S),some (.tup us),some (.ref n),none,none] M4 = .ok (.int ((ks.length + 1:Nat):Int)) M4:=Zm (Za5 rfl ((Zcu g4).trans (by rw [List.length_map]))) rfl rfl
  have hz:((ks.length + 1:Nat):Int) ≤ 1000000 ∧ -1000000 ≤ ((ks.length + 1:Nat):Int):=by omega
  simp only [ZcP,e,R3.bind,if_pos hz,Int.toNat_natCast]
 obtain ⟨e',M5,lp,x6,x7,rfl,l5,o5⟩:=Zeq (it:=⟨Zdr 0 (ks.length + 1),none⟩) (g:=Zbt 6) (body:=Zj9)
  (P:=fun j env M'=>∃ (x6 x7:Option D),env = [some (.scr (ns.map D.int)),some (.ref 1),some (.int (many:Int)),some (encP S),some (.tup us),some (.ref n),x6,x7] ∧ M4.length ≤ M'.length ∧ ∀ i,i < M4.length → M'[i]? = M4[i]?)
  (Zdr 0 (ks.length + 1)) 0 [some (.scr (ns.map D.int)),some (.ref 1),some (.int (many:Int)),some (encP S),some (.tup us),some (.ref n),none,none] M4 ⟨none,none,rfl,Nat.le_refl _,fun _ _=>rfl⟩ (fun _ _ _ _=>rfl)
  (fun k d hd env M' z=>by
   obtain ⟨x6,x7,rfl,ll,o⟩:=z
   obtain ⟨rfl,_⟩:=Zfr hd
   obtain ⟨x',G,e⟩:=ZjZ (z0:=some (.scr (ns.map D.int))) (z1:=some (.ref 1)) (x7:=x7) (many:=many) (k:=k) (n:=n) (rs:=S.map Zv) (us:=us) (ks:=ks) (M:=M') lr lu ((o n (List.getElem?_eq_some_iff.mp g4).1).trans g4) (by omega)
   exact ⟨_,_,_,rfl,e,some (.int (k:Int)),x',rfl,by simp; omega,fun i hi=>by rw [List.getElem?_append_left (by omega)]; exact o i hi⟩)
 obtain ⟨lc4,ld4⟩:=K4.lt
 have K5:Zb2 cs 0 1 _ M5:=⟨(o5 1 ld4).trans K4.hd,(o5 0 lc4).trans K4.hc,K4.ne⟩
 have lS':S.length = many:=by rw [← lr,List.length_map]
 obtain ⟨M6,ej⟩:=ZhN K5 (by omega) (by omega) h8 fun a x M h1 h2=>ZjG (by omega) h8 h1 h2
 exact Rt.loop rng lp (Rt.ret (ZfV rfl rfl ej))
end Law
set_option maxHeartbeats 400000
namespace Law
open PySem PySem.Spec PyProof.Rows L2 L3
theorem uZ {P:List Value → Prop} (h:P []):∀ us:List Value,us.length = 0 → P us:=fun us e=>(List.eq_nil_of_length_eq_zero e) ▸ h
theorem uS {P:List Value → Prop} {n:Nat} (h:∀ a us,us.length = n → P (a :: us)) (us:List Value) (e:us.length = n + 1):P us:=by
 cases us with
 | nil=>exact absurd e (Nat.succ_ne_zero n).symm
 | cons a us=>exact h a us (Nat.succ.inj e)
theorem ub1 {P:List Value → Prop} {xa:Str} (h:∀ a,P [a]):∀ us:List Value,us.length = [xa].length → P us:=uS fun a=>uZ (h a)
theorem ub2 {P:List Value → Prop} {xa xb:Str} (h:∀ a b,P [a,b]):∀ us:List Value,us.length = [xa,xb].length → P us:=uS fun a=>uS fun b=>uZ (h a b)
theorem ub3 {P:List Value → Prop} {xa xb xc:Str} (h:∀ a b c,P [a,b,c]):∀ us:List Value,us.length = [xa,xb,xc].length → P us:=uS fun a=>uS fun b=>uS fun c=>uZ (h a b c)
theorem ub4 {P:List Value → Prop} {xa xb xc xd:Str} (h:∀ a b c d,P [a,b,c,d]):∀ us:List Value,us.length = [xa,xb,xc,xd].length → P us:=uS fun a=>uS fun b=>uS fun c=>uS fun d=>uZ (h a b c d)
theorem Znl {l:PySem.W.OpenLaw} {w:World} {K:W.Frag} {h:Heap} {mg:Str → Option Value} {fa f0 f1 f2 f3 f4 f5 f6 f7 f8 f9 f10 f11 f12 f13 f14 f15 f16:Addr} (X:K.In h) (G:h.Ns mainGlobals mg) (hfa:mg "law" = some (.ref fa))
  {od0 an0 od1 an1 od2 an2 od3 an3 od4 an4 od5 an5 od6 an6 od7 an7 od8 an8 od9 an9 od10 an10 od11 an11 od12 an12 od13 an13 od14 an14 od15 an15 od16 an16:Option Addr} {sl0 sl1 sl2 sl3 sl4 sl5 sl6 sl7 sl8 sl9 sl10 sl11 sl12 sl13 sl14 sl15 sl16:Array (Option Value)} {oc0 kV0 dc0 pm0 cd0 ct0 oc1 kV1 dc1 pm1 cd1 ct1 oc2 kV2 dc2 pm2 cd2 ct2 oc3 kV3 dc3 pm3 cd3 ct3 oc4 kV4 dc4 pm4 cd4 ct4 oc5 kV5 dc5 pm5 cd5 ct5 oc6 kV6 dc6 pm6 cd6 ct6 oc7 kV7 dc7 pm7 cd7 ct7 oc8 kV8 dc8 pm8 cd8 ct8 oc9 kV9 dc9 pm9 cd9 ct9 oc10 kV10 dc10 pm10 cd10 ct10 oc11 kV11 dc11 pm11 cd11 ct11 oc12 kV12 dc12 pm12 cd12 ct12 oc13 kV13 dc13 pm13 cd13 ct13 oc14 kV14 dc14 pm14 cd14 ct14 oc15 kV15 dc15 pm15 cd15 ct15 oc16 kV16 dc16 pm16 cd16 ct16:Value} {C_LedgerError C_BadCut C_BadGiven C_BadRow C_NoDispute C_NoRoll C_NoTime C_Spent C_Unfit:Addr} {cd_LedgerError cd_BadCut cd_BadGiven cd_BadRow cd_NoDispute cd_NoRoll cd_NoTime cd_Spent cd_Unfit:ClassData} {na_LedgerError qn_LedgerError:Str} {N_LedgerError:Addr} {bs_LedgerError su_LedgerError:List Value} {hd_LedgerError ab_LedgerError:Bool} {sn_LedgerError:List Str} {co_LedgerError:Option Bool} {dd_LedgerError od_LedgerError:Option Addr} {ka_LedgerError kb_LedgerError kc_LedgerError kd_LedgerError kf_LedgerError:Option Value} {oc_LedgerError:Value} {es_LedgerError:Array DictEntry} {ep_LedgerError:Nat} {sl_LedgerError:Array (Option Value)} {na_BadCut qn_BadCut:Str} {N_BadCut:Addr} {bs_BadCut su_BadCut:List Value} {hd_BadCut ab_BadCut:Bool} {sn_BadCut:List Str} {co_BadCut:Option Bool} {dd_BadCut od_BadCut:Option Addr} {ka_BadCut kb_BadCut kc_BadCut kd_BadCut kf_BadCut:Option Value} {oc_BadCut:Value} {es_BadCut:Array DictEntry} {ep_BadCut:Nat} {sl_BadCut:Array (Option Value)}
  (a0:W.nsIn K mainGlobals "is_whole" = some (some (.ref f0))) (l0:K.lookup f0 = some ⟨oc0,od0,.func (W.fnOf "is_whole" "is_whole" (Zax Zb6) (Zao Zb6) (Zj Zb6) .none kV0 dc0 pm0 an0 cd0 ct0),sl0⟩) (c0:W.codeIn K cd0 "is_whole" = true) (k0:W.keepIn K (.ref f0) = true)
  (a1:W.nsIn K mainGlobals "refuse_bad_cuts" = some (some (.ref f1))) (l1:K.lookup f1 = some ⟨oc1,od1,.func (W.fnOf "refuse_bad_cuts" "refuse_bad_cuts" (Zax ZaI) (Zao ZaI) (Zj ZaI) .none kV1 dc1 pm1 an1 cd1 ct1),sl1⟩) (c1:W.codeIn K cd1 "refuse_bad_cuts" = true) (k1:W.keepIn K (.ref f1) = true)
  (a2:W.nsIn K mainGlobals "cut_steps" = some (some (.ref f2))) (l2:K.lookup f2 = some ⟨oc2,od2,.func (W.fnOf "cut_steps" "cut_steps" (Zax ZbM) (Zao ZbM) (Zj ZbM) .none kV2 dc2 pm2 an2 cd2 ct2),sl2⟩) (c2:W.codeIn K cd2 "cut_steps" = true) (k2:W.keepIn K (.ref f2) = true)
  (a3:W.nsIn K mainGlobals "cut_uses" = some (some (.ref f3))) (l3:K.lookup f3 = some ⟨oc3,od3,.func (W.fnOf "cut_uses" "cut_uses" (Zax Zb7) (Zao Zb7) (Zj Zb7) .none kV3 dc3 pm3 an3 cd3 ct3),sl3⟩) (c3:W.codeIn K cd3 "cut_uses" = true) (k3:W.keepIn K (.ref f3) = true)
  (a4:W.nsIn K mainGlobals "joined_steps" = some (some (.ref f4))) (l4:K.lookup f4 = some ⟨oc4,od4,.func (W.fnOf "joined_steps" "joined_steps" (Zax Za6) (Zao Za6) (Zj Za6) .none kV4 dc4 pm4 an4 cd4 ct4),sl4⟩) (c4:W.codeIn K cd4 "joined_steps" = true) (k4:W.keepIn K (.ref f4) = true)
  (a5:W.nsIn K mainGlobals "_law_next" = some (some (.ref f5))) (l5:K.lookup f5 = some ⟨oc5,od5,.func (W.fnOf "_law_next" "_law_next" (Zax ZbP) (Zao ZbP) (Zj ZbP) .none kV5 dc5 pm5 an5 cd5 ct5),sl5⟩) (c5:W.codeIn K cd5 "_law_next" = true) (k5:W.keepIn K (.ref f5) = true)
  (a6:W.nsIn K mainGlobals "_law_number" = some (some (.ref f6))) (l6:K.lookup f6 = some ⟨oc6,od6,.func (W.fnOf "_law_number" "_law_number" (Zax Zbi) (Zao Zbi) (Zj Zbi) .none kV6 dc6 pm6 an6 cd6 ct6),sl6⟩) (c6:W.codeIn K cd6 "_law_number" = true) (k6:W.keepIn K (.ref f6) = true)
  (a7:W.nsIn K mainGlobals "_law_any_steps" = some (some (.ref f7))) (l7:K.lookup f7 = some ⟨oc7,od7,.func (W.fnOf "_law_any_steps" "_law_any_steps" (Zax ZaQ) (Zao ZaQ) (Zj ZaQ) .none kV7 dc7 pm7 an7 cd7 ct7),sl7⟩) (c7:W.codeIn K cd7 "_law_any_steps" = true) (k7:W.keepIn K (.ref f7) = true)
  (a8:W.nsIn K mainGlobals "_law_any_uses" = some (some (.ref f8))) (l8:K.lookup f8 = some ⟨oc8,od8,.func (W.fnOf "_law_any_uses" "_law_any_uses" (Zax ZaV) (Zao ZaV) (Zj ZaV) .none kV8 dc8 pm8 an8 cd8 ct8),sl8⟩) (c8:W.codeIn K cd8 "_law_any_uses" = true) (k8:W.keepIn K (.ref f8) = true)
  (a9:W.nsIn K mainGlobals "_law_list" = some (some (.ref f9))) (l9:K.lookup f9 = some ⟨oc9,od9,.func (W.fnOf "_law_list" "_law_list" (Zax ZbR) (Zao ZbR) (Zj ZbR) .none kV9 dc9 pm9 an9 cd9 ct9),sl9⟩) (c9:W.codeIn K cd9 "_law_list" = true) (k9:W.keepIn K (.ref f9) = true)
  (a10:W.nsIn K mainGlobals "_law_good" = some (some (.ref f10))) (l10:K.lookup f10 = some ⟨oc10,od10,.func (W.fnOf "_law_good" "_law_good" (Zax ZbL) (Zao ZbL) (Zj ZbL) .none kV10 dc10 pm10 an10 cd10 ct10),sl10⟩) (c10:W.codeIn K cd10 "_law_good" = true) (k10:W.keepIn K (.ref f10) = true)
  (a11:W.nsIn K mainGlobals "_law_refused" = some (some (.ref f11))) (l11:K.lookup f11 = some ⟨oc11,od11,.func (W.fnOf "_law_refused" "_law_refused" (Zax Za8) (Zao Za8) (Zj Za8) .none kV11 dc11 pm11 an11 cd11 ct11),sl11⟩) (c11:W.codeIn K cd11 "_law_refused" = true) (k11:W.keepIn K (.ref f11) = true)
  (a12:W.nsIn K mainGlobals "_law_asked" = some (some (.ref f12))) (l12:K.lookup f12 = some ⟨oc12,od12,.func (W.fnOf "_law_asked" "_law_asked" (Zax Zbv) (Zao Zbv) (Zj Zbv) .none kV12 dc12 pm12 an12 cd12 ct12),sl12⟩) (c12:W.codeIn K cd12 "_law_asked" = true) (k12:W.keepIn K (.ref f12) = true)
  (a13:W.nsIn K mainGlobals "_law_unlike" = some (some (.ref f13))) (l13:K.lookup f13 = some ⟨oc13,od13,.func (W.fnOf "_law_unlike" "_law_unlike" (Zax Zbh) (Zao Zbh) (Zj Zbh) .none kV13 dc13 pm13 an13 cd13 ct13),sl13⟩) (c13:W.codeIn K cd13 "_law_unlike" = true) (k13:W.keepIn K (.ref f13) = true)
  (a14:W.nsIn K mainGlobals "_law_three" = some (some (.ref f14))) (l14:K.lookup f14 = some ⟨oc14,od14,.func (W.fnOf "_law_three" "_law_three" (Zax Zbu) (Zao Zbu) (Zj Zbu) .none kV14 dc14 pm14 an14 cd14 ct14),sl14⟩) (c14:W.codeIn K cd14 "_law_three" = true) (k14:W.keepIn K (.ref f14) = true)
  (a15:W.nsIn K mainGlobals "_law_not_joined" = some (some (.ref f15))) (l15:K.lookup f15 = some ⟨oc15,od15,.func (W.fnOf "_law_not_joined" "_law_not_joined" (Zax ZaK) (Zao ZaK) (Zj ZaK) .none kV15 dc15 pm15 an15 cd15 ct15),sl15⟩) (c15:W.codeIn K cd15 "_law_not_joined" = true) (k15:W.keepIn K (.ref f15) = true)
  (a16:W.nsIn K mainGlobals "law" = some (some (.ref f16))) (l16:K.lookup f16 = some ⟨oc16,od16,.func (W.fnOf "law" "law" (Zax ZeG) (Zao ZeG) (Zj ZeG) .none kV16 dc16 pm16 an16 cd16 ct16),sl16⟩) (c16:W.codeIn K cd16 "law" = true) (k16:W.keepIn K (.ref f16) = true)
  (z_ValueError:W.nsIn K mainGlobals "ValueError" = some none)
  (z_bool:W.nsIn K mainGlobals "bool" = some none)
  (z_int:W.nsIn K mainGlobals "int" = some none)
  (z_isinstance:W.nsIn K mainGlobals "isinstance" = some none)
  (z_len:W.nsIn K mainGlobals "len" = some none)
  (z_list:W.nsIn K mainGlobals "list" = some none)
  (z_range:W.nsIn K mainGlobals "range" = some none)
  (z_sorted:W.nsIn K mainGlobals "sorted" = some none)
  (z_tuple:W.nsIn K mainGlobals "tuple" = some none)
  (z_zip:W.nsIn K mainGlobals "zip" = some none)
  (w_LedgerError_a:W.nsIn K mainGlobals "LedgerError" = some (some (.ref C_LedgerError)))
  (w_BadCut_a:W.nsIn K mainGlobals "BadCut" = some (some (.ref C_BadCut)))
  (w_BadGiven_a:W.nsIn K mainGlobals "BadGiven" = some (some (.ref C_BadGiven)))
  (w_BadRow_a:W.nsIn K mainGlobals "BadRow" = some (some (.ref C_BadRow)))
  (w_NoDispute_a:W.nsIn K mainGlobals "NoDispute" = some (some (.ref C_NoDispute)))
  (w_NoRoll_a:W.nsIn K mainGlobals "NoRoll" = some (some (.ref C_NoRoll)))
  (w_NoTime_a:W.nsIn K mainGlobals "NoTime" = some (some (.ref C_NoTime)))
  (w_Spent_a:W.nsIn K mainGlobals "Spent" = some (some (.ref C_Spent)))
  (w_Unfit_a:W.nsIn K mainGlobals "Unfit" = some (some (.ref C_Unfit)))
  (w_LedgerError_cl:PySem.W.clsIn K C_LedgerError = some cd_LedgerError)
  (w_LedgerError_ty:PySem.W.typeIn K (.ref C_LedgerError) = some (.type "type"))
  (w_LedgerError_se:PySem.W.subIn K (.ref C_LedgerError) (.ref C_LedgerError) = some true)
  (w_BadCut_cl:PySem.W.clsIn K C_BadCut = some cd_BadCut)
  (w_BadCut_ty:PySem.W.typeIn K (.ref C_BadCut) = some (.type "type"))
  (w_BadCut_se:PySem.W.subIn K (.ref C_BadCut) (.ref C_BadCut) = some true)
  (w_BadGiven_cl:PySem.W.clsIn K C_BadGiven = some cd_BadGiven)
  (w_BadGiven_ty:PySem.W.typeIn K (.ref C_BadGiven) = some (.type "type"))
  (w_BadGiven_se:PySem.W.subIn K (.ref C_BadGiven) (.ref C_BadGiven) = some true)
  (w_BadRow_cl:PySem.W.clsIn K C_BadRow = some cd_BadRow)
  (w_BadRow_ty:PySem.W.typeIn K (.ref C_BadRow) = some (.type "type"))
  (w_BadRow_se:PySem.W.subIn K (.ref C_BadRow) (.ref C_BadRow) = some true)
  (w_NoDispute_cl:PySem.W.clsIn K C_NoDispute = some cd_NoDispute)
  (w_NoDispute_ty:PySem.W.typeIn K (.ref C_NoDispute) = some (.type "type"))
  (w_NoDispute_se:PySem.W.subIn K (.ref C_NoDispute) (.ref C_NoDispute) = some true)
  (w_NoRoll_cl:PySem.W.clsIn K C_NoRoll = some cd_NoRoll)
  (w_NoRoll_ty:PySem.W.typeIn K (.ref C_NoRoll) = some (.type "type"))
  (w_NoRoll_se:PySem.W.subIn K (.ref C_NoRoll) (.ref C_NoRoll) = some true)
  (w_NoTime_cl:PySem.W.clsIn K C_NoTime = some cd_NoTime)
  (w_NoTime_ty:PySem.W.typeIn K (.ref C_NoTime) = some (.type "type"))
  (w_NoTime_se:PySem.W.subIn K (.ref C_NoTime) (.ref C_NoTime) = some true)
  (w_Spent_cl:PySem.W.clsIn K C_Spent = some cd_Spent)
  (w_Spent_ty:PySem.W.typeIn K (.ref C_Spent) = some (.type "type"))
  (w_Spent_se:PySem.W.subIn K (.ref C_Spent) (.ref C_Spent) = some true)
  (w_Unfit_cl:PySem.W.clsIn K C_Unfit = some cd_Unfit)
  (w_Unfit_ty:PySem.W.typeIn K (.ref C_Unfit) = some (.type "type"))
  (w_Unfit_se:PySem.W.subIn K (.ref C_Unfit) (.ref C_Unfit) = some true)
  (w_LedgerError_lk:K.lookup C_LedgerError = some (excClassObj na_LedgerError qn_LedgerError C_LedgerError N_LedgerError bs_LedgerError [.type "ValueError",.type "Exception",.type "BaseException",.type "object"] hd_LedgerError sn_LedgerError su_LedgerError ab_LedgerError co_LedgerError dd_LedgerError ka_LedgerError kb_LedgerError kc_LedgerError kd_LedgerError kf_LedgerError "ValueError.__new__"))
  (w_LedgerError_ns:K.lookup N_LedgerError = some ⟨oc_LedgerError,od_LedgerError,.dict es_LedgerError ep_LedgerError,sl_LedgerError⟩)
  (r_LedgerError_sk:Zln es_LedgerError = true)
  (r_LedgerError_ni:nsFind es_LedgerError "__init__" = none)
  (w_BadCut_lk:K.lookup C_BadCut = some (excClassObj na_BadCut qn_BadCut C_BadCut N_BadCut bs_BadCut [.ref C_LedgerError,.type "ValueError",.type "Exception",.type "BaseException",.type "object"] hd_BadCut sn_BadCut su_BadCut ab_BadCut co_BadCut dd_BadCut ka_BadCut kb_BadCut kc_BadCut kd_BadCut kf_BadCut "ValueError.__new__"))
  (w_BadCut_ns:K.lookup N_BadCut = some ⟨oc_BadCut,od_BadCut,.dict es_BadCut ep_BadCut,sl_BadCut⟩)
  (r_BadCut_sk:Zln es_BadCut = true)
  (r_BadCut_ni:nsFind es_BadCut "__init__" = none)
  (w_BadCut_ga:PySem.W.findIn K (.ref C_BadCut) "__getattribute__" = some (some (.builtin "BaseException.__getattribute__")))
  (w_BadCut_gh:PySem.W.findIn K (.ref C_BadCut) "__getattr__" = some none)
  (w_BadCut_be:PySem.W.mroIn K C_BadCut (.type "BaseException") = some true)
  (w_BadCut_fa:PySem.W.findIn K (.ref C_BadCut) "__class__" = some (some (.builtin "object.__class__")))
  (w_BadCut_mo:PySem.W.mroIn K C_BadCut (.type "object") = some true)
  (w_xsp:PySem.W.specialIn K (.builtin "object.__class__") "__get__" = some (some (.builtin "getset_descriptor.__get__")))
  (w_xtk:PySem.W.takesIn K (.builtin "object.__class__") = some true)
  (s_LedgerError_BaseException:PySem.W.subIn K (.ref C_LedgerError) (.type "BaseException") = some true)
  (s_BadCut_LedgerError:PySem.W.subIn K (.ref C_BadCut) (.ref C_LedgerError) = some true)
  (s_NoneType_BadCut:PySem.W.subIn K (.type "NoneType") (.ref C_BadCut) = some false)
  (s_BadCut_BadCut:PySem.W.subIn K (.ref C_BadCut) (.ref C_BadCut) = some true)
  (s_NoneType_ValueError:PySem.W.subIn K (.type "NoneType") (.type "ValueError") = some false)
  (s_BadCut_ValueError:PySem.W.subIn K (.ref C_BadCut) (.type "ValueError") = some true)
  (s_NoneType_Unfit:PySem.W.subIn K (.type "NoneType") (.ref C_Unfit) = some false)
  (s_NoneType_Spent:PySem.W.subIn K (.type "NoneType") (.ref C_Spent) = some false)
  (s_NoneType_NoTime:PySem.W.subIn K (.type "NoneType") (.ref C_NoTime) = some false)
  (s_NoneType_NoRoll:PySem.W.subIn K (.type "NoneType") (.ref C_NoRoll) = some false)
  (s_NoneType_NoDispute:PySem.W.subIn K (.type "NoneType") (.ref C_NoDispute) = some false)
  (s_NoneType_BadRow:PySem.W.subIn K (.type "NoneType") (.ref C_BadRow) = some false)
  (s_NoneType_BadGiven:PySem.W.subIn K (.type "NoneType") (.ref C_BadGiven) = some false)
  (s_BadCut_Unfit:PySem.W.subIn K (.ref C_BadCut) (.ref C_Unfit) = some false)
  (s_BadCut_Spent:PySem.W.subIn K (.ref C_BadCut) (.ref C_Spent) = some false)
  (s_BadCut_NoTime:PySem.W.subIn K (.ref C_BadCut) (.ref C_NoTime) = some false)
  (s_BadCut_NoRoll:PySem.W.subIn K (.ref C_BadCut) (.ref C_NoRoll) = some false)
  (s_BadCut_NoDispute:PySem.W.subIn K (.ref C_BadCut) (.ref C_NoDispute) = some false)
  (s_BadCut_BadRow:PySem.W.subIn K (.ref C_BadCut) (.ref C_BadRow) = some false)
  (s_BadCut_BadGiven:PySem.W.subIn K (.ref C_BadCut) (.ref C_BadGiven) = some false):
  ∃ fd:FuncData,(∀ (s:Shared) (v:Value),BindsTo s fd ⟨[v],[]⟩ [("script",v)]) ∧ ∀ base:Heap,K.In base → base.Ns mainGlobals mg → ZcW l.prog w K mg base CX0 7 fa fd ["script"] (sp3 K 1 Ziy):=by
 have e:=hfa.symm.trans (W.mg_of X G a16)
 cases e
 have T:Txt K mg:=⟨trivial,W.mg_none_of X G z_ValueError,W.mg_none_of X G z_bool,W.mg_none_of X G z_int,W.mg_none_of X G z_isinstance,W.mg_none_of X G z_len,W.mg_none_of X G z_list,W.mg_none_of X G z_range,W.mg_none_of X G z_sorted,W.mg_none_of X G z_tuple,W.mg_none_of X G z_zip⟩
 have at_BadCut:ClsAt K [66,97,100,67,117,116] C_BadCut:=by unfold L3.ClsAt; rw [show (⟨([66,97,100,67,117,116]:List Nat).toArray⟩:Str) = "BadCut" by decide +kernel]; exact w_BadCut_a
 have ki_BadCut:ZdE K C_BadCut:=⟨w_BadCut_ga,w_BadCut_gh,w_BadCut_be,by rw [w_BadCut_cl]; rfl,w_BadCut_fa,w_xsp,w_xtk,w_BadCut_mo⟩
 have XO:ExT K mg C_LedgerError C_BadCut C_BadGiven C_BadRow C_NoDispute C_NoRoll C_NoTime C_Spent C_Unfit:=⟨W.mg_of X G w_LedgerError_a,W.mg_of X G w_BadCut_a,W.mg_of X G w_BadGiven_a,W.mg_of X G w_BadRow_a,W.mg_of X G w_NoDispute_a,W.mg_of X G w_NoRoll_a,W.mg_of X G w_NoTime_a,W.mg_of X G w_Spent_a,W.mg_of X G w_Unfit_a,⟨at_BadCut,_,_,_,_,_,_,_,_,_,_,_,_,_,_,_,_,w_BadCut_lk,fun h Y=>⟨_,Zl3 Y w_BadCut_ns r_BadCut_sk,r_BadCut_ni⟩,fun h Y=>.own (Y _ _ w_LedgerError_lk) (Zl3 Y w_LedgerError_ns r_LedgerError_sk) r_LedgerError_ni (.base)⟩,(Zfh (P:=fun C=>PySem.W.exmOne K (.ref C) (.ref C_LedgerError) = some true) at_BadCut (PySem.W.exm1 w_LedgerError_cl w_LedgerError_ty s_LedgerError_BaseException s_BadCut_LedgerError) Zdc),⟨(PySem.W.kitF (PySem.W.kit1 w_BadCut_cl w_BadCut_ty w_BadCut_se s_NoneType_BadCut) PySem.W.kit0),(Zfh (P:=fun C=>ZdE K C ∧ PySem.W.kitAny K (.ref C) [.ref C_BadCut] = some true) at_BadCut ⟨ki_BadCut,(PySem.W.kitT (PySem.W.kit1 w_BadCut_cl w_BadCut_ty w_BadCut_se s_BadCut_BadCut))⟩ Zdc),Zdc⟩,⟨(PySem.W.kitF (PySem.W.kit1T (by decide +kernel) (by first | rfl | decide) s_NoneType_ValueError) PySem.W.kit0),(Zfh (P:=fun C=>ZdE K C ∧ PySem.W.kitAny K (.ref C) [.type "ValueError"] = some true) at_BadCut ⟨ki_BadCut,(PySem.W.kitT (PySem.W.kit1T (by decide +kernel) (by first | rfl | decide) s_BadCut_ValueError))⟩ Zdc),Zdc⟩,⟨(PySem.W.kitF (PySem.W.kit1 w_BadGiven_cl w_BadGiven_ty w_BadGiven_se s_NoneType_BadGiven) (PySem.W.kitF (PySem.W.kit1 w_BadRow_cl w_BadRow_ty w_BadRow_se s_NoneType_BadRow) (PySem.W.kitF (PySem.W.kit1 w_NoDispute_cl w_NoDispute_ty w_NoDispute_se s_NoneType_NoDispute) (PySem.W.kitF (PySem.W.kit1 w_NoRoll_cl w_NoRoll_ty w_NoRoll_se s_NoneType_NoRoll) (PySem.W.kitF (PySem.W.kit1 w_NoTime_cl w_NoTime_ty w_NoTime_se s_NoneType_NoTime) (PySem.W.kitF (PySem.W.kit1 w_Spent_cl w_Spent_ty w_Spent_se s_NoneType_Spent) (PySem.W.kitF (PySem.W.kit1 w_Unfit_cl w_Unfit_ty w_Unfit_se s_NoneType_Unfit) PySem.W.kit0))))))),Zdc,(Zfh (P:=fun C=>ZdE K C ∧ PySem.W.kitAny K (.ref C) (refsOf [C_BadGiven,C_BadRow,C_NoDispute,C_NoRoll,C_NoTime,C_Spent,C_Unfit]) = some false) at_BadCut ⟨ki_BadCut,(PySem.W.kitF (PySem.W.kit1 w_BadGiven_cl w_BadGiven_ty w_BadGiven_se s_BadCut_BadGiven) (PySem.W.kitF (PySem.W.kit1 w_BadRow_cl w_BadRow_ty w_BadRow_se s_BadCut_BadRow) (PySem.W.kitF (PySem.W.kit1 w_NoDispute_cl w_NoDispute_ty w_NoDispute_se s_BadCut_NoDispute) (PySem.W.kitF (PySem.W.kit1 w_NoRoll_cl w_NoRoll_ty w_NoRoll_se s_BadCut_NoRoll) (PySem.W.kitF (PySem.W.kit1 w_NoTime_cl w_NoTime_ty w_NoTime_se s_BadCut_NoTime) (PySem.W.kitF (PySem.W.kit1 w_Spent_cl w_Spent_ty w_Spent_se s_BadCut_Spent) (PySem.W.kitF (PySem.W.kit1 w_Unfit_cl w_Unfit_ty w_Unfit_se s_BadCut_Unfit) PySem.W.kit0)))))))⟩ Zdc)⟩⟩
 have D_is_whole:ZaH K mg "is_whole" Zb6 ["number"]:=ZaM X G a0 l0 c0 k0 (Binds.all (ub1 fun _=>rfl))
 have D_refuse_bad_cuts:ZaH K mg "refuse_bad_cuts" ZaI ["cuts","apart","most"]:=ZaM X G a1 l1 c1 k1 (Binds.all (ub3 fun _ _ _=>rfl))
 have D_cut_steps:ZaH K mg "cut_steps" ZbM ["steps","cuts"]:=ZaM X G a2 l2 c2 k2 (Binds.all (ub2 fun _ _=>rfl))
 have D_cut_uses:ZaH K mg "cut_uses" Zb7 ["uses","cuts"]:=ZaM X G a3 l3 c3 k3 (Binds.all (ub2 fun _ _=>rfl))
 have D_joined_steps:ZaH K mg "joined_steps" Za6 ["pieces"]:=ZaM X G a4 l4 c4 k4 (Binds.all (ub1 fun _=>rfl))
 have D__law_next:ZaH K mg "_law_next" ZbP ["deck"]:=ZaM X G a5 l5 c5 k5 (Binds.all (ub1 fun _=>rfl))
 have D__law_number:ZaH K mg "_law_number" Zbi ["cell"]:=ZaM X G a6 l6 c6 k6 (Binds.all (ub1 fun _=>rfl))
 have D__law_any_steps:ZaH K mg "_law_any_steps" ZaQ ["deck","many"]:=ZaM X G a7 l7 c7 k7 (Binds.all (ub2 fun _ _=>rfl))
 have D__law_any_uses:ZaH K mg "_law_any_uses" ZaV ["deck","many"]:=ZaM X G a8 l8 c8 k8 (Binds.all (ub2 fun _ _=>rfl))
 have D__law_list:ZaH K mg "_law_list" ZbR ["deck","many","cells"]:=ZaM X G a9 l9 c9 k9 (Binds.all (ub3 fun _ _ _=>rfl))
 have D__law_good:ZaH K mg "_law_good" ZbL ["cuts","low","high","step"]:=ZaM X G a10 l10 c10 k10 (Binds.all (ub4 fun _ _ _ _=>rfl))
 have D__law_refused:ZaH K mg "_law_refused" Za8 ["way","rows","cuts"]:=ZaM X G a11 l11 c11 k11 (Binds.all (ub3 fun _ _ _=>rfl))
 have D__law_asked:ZaH K mg "_law_asked" Zbv ["way","rows","cuts","good"]:=ZaM X G a12 l12 c12 k12 (Binds.all (ub4 fun _ _ _ _=>rfl))
 have D__law_unlike:ZaH K mg "_law_unlike" Zbh ["row","cell"]:=ZaM X G a13 l13 c13 k13 (Binds.all (ub2 fun _ _=>rfl))
 have D__law_three:ZaH K mg "_law_three" Zbu ["steps","at","cell"]:=ZaM X G a14 l14 c14 k14 (Binds.all (ub3 fun _ _ _=>rfl))
 have D__law_not_joined:ZaH K mg "_law_not_joined" ZaK ["deck","steps"]:=ZaM X G a15 l15 c15 k15 (Binds.all (ub2 fun _ _=>rfl))
 refine ⟨W.fnOf "law" "law" (Zax ZeG) (Zao ZeG) (Zj ZeG) .none kV16 dc16 pm16 an16 cd16 ct16,fun s v=>.of_eq rfl,fun base _ _=>?_⟩
 have F_is_whole:=ZhG (P:=l.prog) (w:=w) (base:=base) D_is_whole T
 have E_refuse_bad_cuts:=Zd7 (P:=l.prog) (w:=w) (base:=base) D_refuse_bad_cuts T XO F_is_whole
 have F_refuse_bad_cuts:=E_refuse_bad_cuts.fn
 have E_cut_steps:=ZgT (P:=l.prog) (w:=w) (base:=base) D_cut_steps T E_refuse_bad_cuts
 have F_cut_steps:=E_cut_steps.fn
 have E_cut_uses:=Zhd (P:=l.prog) (w:=w) (base:=base) D_cut_uses T E_refuse_bad_cuts
 have F_cut_uses:=E_cut_uses.fn
 have E_joined_steps:=Ze9 (P:=l.prog) (w:=w) (base:=base) D_joined_steps T XO
 have F_joined_steps:=E_joined_steps.fn
 have F__law_next:=Zg1 (P:=l.prog) (w:=w) (base:=base) D__law_next T
 have F__law_number:=Zfu (P:=l.prog) (w:=w) (base:=base) D__law_number T
 have F__law_any_steps:=Zel (P:=l.prog) (w:=w) (base:=base) D__law_any_steps T F__law_next F__law_number
 have F__law_any_uses:=ZeK (P:=l.prog) (w:=w) (base:=base) D__law_any_uses T F__law_next F__law_number
 have F__law_list:=ZgJ (P:=l.prog) (w:=w) (base:=base) D__law_list T F__law_next
 have F__law_good:=ZgK (P:=l.prog) (w:=w) (base:=base) D__law_good T
 have F__law_refused:=Zff (P:=l.prog) (w:=w) (base:=base) D__law_refused T XO E_cut_steps E_cut_uses E_joined_steps
 have F__law_asked:=Zf8 (P:=l.prog) (w:=w) (base:=base) D__law_asked T F__law_refused
 have F__law_unlike:=ZfJ (P:=l.prog) (w:=w) (base:=base) D__law_unlike T
 have F__law_three:=Zf4 (P:=l.prog) (w:=w) (base:=base) D__law_three T F_joined_steps F__law_refused F__law_unlike
 have F__law_not_joined:=Zed (P:=l.prog) (w:=w) (base:=base) D__law_not_joined T F_joined_steps F__law_next F__law_refused F__law_unlike F__law_three
 exact Zna (Zjq (st:=ZeG) l16 c16 k16) T F__law_next F__law_any_steps F__law_any_uses F__law_list F__law_good F__law_asked F__law_not_joined
end Law
open PySem PySem.W PyProof.Rows
set_option maxRecDepth 100000 in
set_option maxHeartbeats 0 in
theorem PySem.Challenge.cw_stepledger_k42_bad_cuts_holds : PySem.Challenge.rw_stepledger_k42_bad_cuts.Holds := by
 w_on; o_law; k_head; (case hw=>w_witness2)
 k_fill
 refine L3.ZoF (l:=PySem.Challenge.rw_stepledger_k42_bad_cuts) (k:=7) (F:=Law.Ziy) rfl rfl ⟨rfl,by decide,by decide⟩ (fun w h Y=>W.kIn_of Y) ?G Law.law_holds
 case G=>
  intro w mg fa h KX G hmg
  refine' Law.Znl KX G hmg ?a0 ?l0 ?c0 ?k0 ?a1 ?l1 ?c1 ?k1 ?a2 ?l2 ?c2 ?k2 ?a3 ?l3 ?c3 ?k3 ?a4 ?l4 ?c4 ?k4 ?a5 ?l5 ?c5 ?k5 ?a6 ?l6 ?c6 ?k6 ?a7 ?l7 ?c7 ?k7 ?a8 ?l8 ?c8 ?k8 ?a9 ?l9 ?c9 ?k9 ?a10 ?l10 ?c10 ?k10 ?a11 ?l11 ?c11 ?k11 ?a12 ?l12 ?c12 ?k12 ?a13 ?l13 ?c13 ?k13 ?a14 ?l14 ?c14 ?k14 ?a15 ?l15 ?c15 ?k15 ?a16 ?l16 ?c16 ?k16 ?z_ValueError ?z_bool ?z_int ?z_isinstance ?z_len ?z_list ?z_range ?z_sorted ?z_tuple ?z_zip ?w_LedgerError_a ?w_BadCut_a ?w_BadGiven_a ?w_BadRow_a ?w_NoDispute_a ?w_NoRoll_a ?w_NoTime_a ?w_Spent_a ?w_Unfit_a ?w_LedgerError_cl ?w_LedgerError_ty ?w_LedgerError_se ?w_BadCut_cl ?w_BadCut_ty ?w_BadCut_se ?w_BadGiven_cl ?w_BadGiven_ty ?w_BadGiven_se ?w_BadRow_cl ?w_BadRow_ty ?w_BadRow_se ?w_NoDispute_cl ?w_NoDispute_ty ?w_NoDispute_se ?w_NoRoll_cl ?w_NoRoll_ty ?w_NoRoll_se ?w_NoTime_cl ?w_NoTime_ty ?w_NoTime_se ?w_Spent_cl ?w_Spent_ty ?w_Spent_se ?w_Unfit_cl ?w_Unfit_ty ?w_Unfit_se ?w_LedgerError_lk ?w_LedgerError_ns ?r_LedgerError_sk ?r_LedgerError_ni ?w_BadCut_lk ?w_BadCut_ns ?r_BadCut_sk ?r_BadCut_ni ?w_BadCut_ga ?w_BadCut_gh ?w_BadCut_be ?w_BadCut_fa ?w_BadCut_mo ?w_xsp ?w_xtk ?s_LedgerError_BaseException ?s_BadCut_LedgerError ?s_NoneType_BadCut ?s_BadCut_BadCut ?s_NoneType_ValueError ?s_BadCut_ValueError ?s_NoneType_Unfit ?s_NoneType_Spent ?s_NoneType_NoTime ?s_NoneType_NoRoll ?s_NoneType_NoDispute ?s_NoneType_BadRow ?s_NoneType_BadGiven ?s_BadCut_Unfit ?s_BadCut_Spent ?s_BadCut_NoTime ?s_BadCut_NoRoll ?s_BadCut_NoDispute ?s_BadCut_BadRow ?s_BadCut_BadGiven
  (case a0=>k_is)
  (case l0=>k_is)
  (case c0=>k_is)
  (case k0=>k_is)
  (case a1=>k_is)
  (case l1=>k_is)
  (case c1=>k_is)
  (case k1=>k_is)
  (case a2=>k_is)
  (case l2=>k_is)
  (case c2=>k_is)
  (case k2=>k_is)
  (case a3=>k_is)
  (case l3=>k_is)
  (case c3=>k_is)
  (case k3=>k_is)
  (case a4=>k_is)
  (case l4=>k_is)
  (case c4=>k_is)
  (case k4=>k_is)
  (case a5=>k_is)
  (case l5=>k_is)
  (case c5=>k_is)
  (case k5=>k_is)
  (case a6=>k_is)
  (case l6=>k_is)
  (case c6=>k_is)
  (case k6=>k_is)
  (case a7=>k_is)
  (case l7=>k_is)
  (case c7=>k_is)
  (case k7=>k_is)
  (case a8=>k_is)
  (case l8=>k_is)
  (case c8=>k_is)
  (case k8=>k_is)
  (case a9=>k_is)
  (case l9=>k_is)
  (case c9=>k_is)
  (case k9=>k_is)
  (case a10=>k_is)
  (case l10=>k_is)
  (case c10=>k_is)
  (case k10=>k_is)
  (case a11=>k_is)
  (case l11=>k_is)
  (case c11=>k_is)
  (case k11=>k_is)
  (case a12=>k_is)
  (case l12=>k_is)
  (case c12=>k_is)
  (case k12=>k_is)
  (case a13=>k_is)
  (case l13=>k_is)
  (case c13=>k_is)
  (case k13=>k_is)
  (case a14=>k_is)
  (case l14=>k_is)
  (case c14=>k_is)
  (case k14=>k_is)
  (case a15=>k_is)
  (case l15=>k_is)
  (case c15=>k_is)
  (case k15=>k_is)
  (case a16=>k_is)
  (case l16=>k_is)
  (case c16=>k_is)
  (case k16=>k_is)
  (case z_ValueError=>k_is)
  (case z_bool=>k_is)
  (case z_int=>k_is)
  (case z_isinstance=>k_is)
  (case z_len=>k_is)
  (case z_list=>k_is)
  (case z_range=>k_is)
  (case z_sorted=>k_is)
  (case z_tuple=>k_is)
  (case z_zip=>k_is)
  (case w_LedgerError_a=>k_is)
  (case w_BadCut_a=>k_is)
  (case w_BadGiven_a=>k_is)
  (case w_BadRow_a=>k_is)
  (case w_NoDispute_a=>k_is)
  (case w_NoRoll_a=>k_is)
  (case w_NoTime_a=>k_is)
  (case w_Spent_a=>k_is)
  (case w_Unfit_a=>k_is)
  (case w_LedgerError_cl=>k_is)
  (case w_LedgerError_ty=>k_is)
  (case w_LedgerError_se=>k_is)
  (case w_BadCut_cl=>k_is)
  (case w_BadCut_ty=>k_is)
  (case w_BadCut_se=>k_is)
  (case w_BadGiven_cl=>k_is)
  (case w_BadGiven_ty=>k_is)
  (case w_BadGiven_se=>k_is)
  (case w_BadRow_cl=>k_is)
  (case w_BadRow_ty=>k_is)
  (case w_BadRow_se=>k_is)
  (case w_NoDispute_cl=>k_is)
  (case w_NoDispute_ty=>k_is)
  (case w_NoDispute_se=>k_is)
  (case w_NoRoll_cl=>k_is)
  (case w_NoRoll_ty=>k_is)
  (case w_NoRoll_se=>k_is)
  (case w_NoTime_cl=>k_is)
  (case w_NoTime_ty=>k_is)
  (case w_NoTime_se=>k_is)
  (case w_Spent_cl=>k_is)
  (case w_Spent_ty=>k_is)
  (case w_Spent_se=>k_is)
  (case w_Unfit_cl=>k_is)
  (case w_Unfit_ty=>k_is)
  (case w_Unfit_se=>k_is)
  (case w_LedgerError_lk=>k_is)
  (case w_LedgerError_ns=>k_is)
  (case r_LedgerError_sk=>first | rfl | decide +kernel)
  (case r_LedgerError_ni=>first | rfl | decide +kernel)
  (case w_BadCut_lk=>k_is)
  (case w_BadCut_ns=>k_is)
  (case r_BadCut_sk=>first | rfl | decide +kernel)
  (case r_BadCut_ni=>first | rfl | decide +kernel)
  (case w_BadCut_ga=>k_is)
  (case w_BadCut_gh=>k_is)
  (case w_BadCut_be=>k_is)
  (case w_BadCut_fa=>k_is)
  (case w_BadCut_mo=>k_is)
  (case w_xsp=>k_is)
  (case w_xtk=>k_is)
  (case s_LedgerError_BaseException=>k_is)
  (case s_BadCut_LedgerError=>k_is)
  (case s_NoneType_BadCut=>k_is)
  (case s_BadCut_BadCut=>k_is)
  (case s_NoneType_ValueError=>k_is)
  (case s_BadCut_ValueError=>k_is)
  (case s_NoneType_Unfit=>k_is)
  (case s_NoneType_Spent=>k_is)
  (case s_NoneType_NoTime=>k_is)
  (case s_NoneType_NoRoll=>k_is)
  (case s_NoneType_NoDispute=>k_is)
  (case s_NoneType_BadRow=>k_is)
  (case s_NoneType_BadGiven=>k_is)
  (case s_BadCut_Unfit=>k_is)
  (case s_BadCut_Spent=>k_is)
  (case s_BadCut_NoTime=>k_is)
  (case s_BadCut_NoRoll=>k_is)
  (case s_BadCut_NoDispute=>k_is)
  (case s_BadCut_BadRow=>k_is)
  (case s_BadCut_BadGiven=>k_is)
