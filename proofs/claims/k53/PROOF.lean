import PyProof.Rows.All
import Wide.All
import OpenK.AllK
import Wide.FinOn
import Lean
import PyProof.EqAt
import PyProof.EqKinds
import PyProof.TupleCall
import PySem.Challenge.RW_stepledger_k53_whole_true_teller
namespace L3
set_option compiler.extract_closed false
set_option genSizeOf false in
set_option genInjectivity false in
inductive AE where
 | v (i:Nat)
 | k (n:Nat)
 | a (x y:AE)
 | m (n:Nat) (x:AE)
noncomputable def Zoj:List Nat → Nat → Nat
 | [],_=>0
 | x :: _,0=>x
 | _ :: l,n + 1=>Zoj l n
noncomputable def AE.ev (c:List Nat):AE → Nat
 | .v i=>Zoj c i
 | .k n=>n
 | .a x y=>x.ev c + y.ev c
 | .m n x=>n * x.ev c
noncomputable def aL:List Nat → List Nat → List Nat
 | [],r=>r
 | x :: l,[]=>x :: l
 | x :: l,y :: r=>(x + y) :: aL l r
noncomputable def sL (n:Nat):List Nat → List Nat
 | []=>[]
 | x :: l=>(n * x) :: sL n l
noncomputable def uL:Nat → List Nat
 | 0=>[1]
 | n + 1=>0 :: uL n
noncomputable def AE.li:AE → List Nat
 | .v i=>0 :: uL i
 | .k n=>[n]
 | .a x y=>aL x.li y.li
 | .m n x=>sL n x.li
noncomputable def dt:List Nat → List Nat → Nat
 | x :: c,y :: l=>x * y + dt c l
 | [],_=>0
 | _,[]=>0
noncomputable def leL:List Nat → List Nat → Bool
 | [],_=>true
 | x :: l,[]=>Nat.ble x 0 && leL l []
 | x :: l,y :: r=>Nat.ble x y && leL l r
theorem Zc2:∀ c,dt c [] = 0
 | []=>rfl
 | _ :: _=>rfl
theorem Zfa:∀ c l r,dt c (aL l r) = dt c l + dt c r
 | c,[],r=>by rw [Zc2,Nat.zero_add]; rfl
 | c,x :: l,[]=>by rw [Zc2]; rfl
 | [],x :: l,y :: r=>rfl
 | z :: c,x :: l,y :: r=>by
  show z * (x + y) + dt c (aL l r) = _
  rw [Zfa c l r,Nat.mul_add]; exact Nat.add_add_add_comm _ _ _ _
theorem Zjg (n:Nat):∀ c l,dt c (sL n l) = n * dt c l
 | c,[]=>by rw [Zc2]; exact Zc2 c
 | [],x :: l=>rfl
 | z :: c,x :: l=>by
  show z * (n * x) + dt c (sL n l) = n * (z * x + dt c l)
  rw [Zjg n c l,Nat.mul_add,Nat.mul_left_comm]
theorem Zph:∀ c i,dt c (uL i) = Zoj c i
 | [],0=>rfl
 | [],_ + 1=>rfl
 | x :: c,0=>by show x * 1 + dt c [] = x; rw [Zc2,Nat.mul_one]; rfl
 | x :: c,n + 1=>by show x * 0 + dt c (uL n) = Zoj c n; rw [Zph c n,Nat.mul_zero,Nat.zero_add]
theorem Zf2:∀ c l r,leL l r = true → dt c l ≤ dt c r
 | c,[],r,_=>by rw [Zc2]; exact Nat.zero_le _
 | [],x :: l,r,_=>Nat.zero_le _
 | z :: c,x :: l,[],h=>by
  have h:=(Bool.and_eq_true _ _).mp h
  have e:x = 0:=Nat.le_zero.1 (Nat.le_of_ble_eq_true h.1)
  have i:=Zf2 c l [] h.2
  rw [Zc2] at i
  show z * x + dt c l ≤ 0
  rw [e,Nat.le_zero.1 i]; exact Nat.le_refl 0
 | z :: c,x :: l,y :: r,h=>
  have h:=(Bool.and_eq_true _ _).mp h
  Nat.add_le_add (Nat.mul_le_mul_left z (Nat.le_of_ble_eq_true h.1)) (Zf2 c l r h.2)
theorem AE.li_ev (c:List Nat):∀ e:AE,dt (1 :: c) e.li = e.ev c
 | .v i=>(Nat.zero_add _).trans (Zph c i)
 | .k n=>by show 1 * n + dt c [] = n; rw [Zc2,Nat.one_mul]; rfl
 | .a x y=>(Zfa _ _ _).trans (congr (congrArg _ (x.li_ev c)) (y.li_ev c))
 | .m n x=>(Zjg n _ _).trans (congrArg _ (x.li_ev c))
noncomputable def rdE:Nat → Nat → AE × Nat
 | 0,s=>(.k 0,s)
 | f + 1,s=>bif Nat.ble (s % 16) 9 then (.v (s % 16),s / 16) else bif Nat.beq (s % 16) 10 then (.k 1,s / 16)
  else bif Nat.beq (s % 16) 11 then (.k (s / 256 % 16 ^ (s / 16 % 16)),s / 256 / 16 ^ (s / 16 % 16))
  else bif Nat.beq (s % 16) 12 then (.a (rdE f (s / 16)).1 (rdE f (rdE f (s / 16)).2).1,(rdE f (rdE f (s / 16)).2).2)
  else bif Nat.beq (s % 16) 13 then (.m (s / 16 % 256) (rdE f (s / 4096)).1,(rdE f (s / 4096)).2)
  else (.k 0,s / 16)
noncomputable def Zmo:Nat → Nat → Nat → Prop
 | 0,x,y=>x ≤ y
 | 1,x,y=>x < y
 | 2,x,y=>x = y
 | 3,x,y=>x = y
 | 4,x,y=>¬ x ≤ y
 | 5,x,y=>¬ x < y
 | _,_,_=>False
noncomputable def loN:Nat → AE → AE → List Nat
 | 0,x,_=>x.li
 | 1,x,_=>aL [1] x.li
 | 2,x,_=>x.li
 | 4,_,y=>aL [1] y.li
 | _,_,y=>y.li
noncomputable def hiN:Nat → AE → AE → List Nat
 | 0,_,y=>y.li
 | 1,_,y=>y.li
 | 2,_,y=>y.li
 | _,x,_=>x.li
noncomputable def ZiJ (c:List Nat):Nat → Nat → Prop
 | 0,s=>Zmo (s % 16) ((rdE 9 (s / 16)).1.ev c) ((rdE 9 (rdE 9 (s / 16)).2).1.ev c)
 | n + 1,s=>Zmo (s / 16 % 16) ((rdE 9 (s / 256)).1.ev c) ((rdE 9 (rdE 9 (s / 256)).2).1.ev c) → ZiJ c n (rdE 9 (rdE 9 (s / 256)).2).2
noncomputable def gN:Nat → AE → AE → List Nat → List Nat → Bool
 | 0,x,y,L,R=>leL (aL R x.li) (aL L y.li)
 | 1,x,y,L,R=>leL (aL [1] (aL R x.li)) (aL L y.li)
 | _,_,_,L,R=>leL (aL [1] R) L
noncomputable def chN:Nat → Nat → List Nat → List Nat → Bool
 | 0,s,L,R=>gN (s % 16) (rdE 9 (s / 16)).1 (rdE 9 (rdE 9 (s / 16)).2).1 L R
 | n + 1,s,L,R=>chN n (rdE 9 (rdE 9 (s / 256)).2).2 (aL L (sL (s % 16) (loN (s / 16 % 16) (rdE 9 (s / 256)).1 (rdE 9 (rdE 9 (s / 256)).2).1))) (aL R (sL (s % 16) (hiN (s / 16 % 16) (rdE 9 (s / 256)).1 (rdE 9 (rdE 9 (s / 256)).2).1)))
theorem ZgZ (c l:List Nat):dt (1 :: c) (aL [1] l) = dt (1 :: c) l + 1:=by
 rw [Zfa]; show 1 * 1 + dt c [] + _ = _; rw [Zc2]; exact Nat.add_comm _ _
theorem Zmc (c:List Nat) (x y:AE):∀ r,Zmo r (x.ev c) (y.ev c) → dt (1 :: c) (loN r x y) ≤ dt (1 :: c) (hiN r x y)
 | 0,h=>by show dt _ x.li ≤ dt _ y.li; rw [x.li_ev,y.li_ev]; exact h
 | 1,h=>by show dt _ (aL [1] x.li) ≤ dt _ y.li; rw [ZgZ,x.li_ev,y.li_ev]; exact h
 | 2,h=>by show dt _ x.li ≤ dt _ y.li; rw [x.li_ev,y.li_ev]; exact Nat.le_of_eq h
 | 3,h=>by show dt _ y.li ≤ dt _ x.li; rw [x.li_ev,y.li_ev]; exact Nat.le_of_eq h.symm
 | 4,h=>by show dt _ (aL [1] y.li) ≤ dt _ x.li; rw [ZgZ,x.li_ev,y.li_ev]; exact Nat.lt_of_not_le h
 | 5,h=>by show dt _ y.li ≤ dt _ x.li; rw [x.li_ev,y.li_ev]; exact Nat.le_of_not_lt h
 | _ + 6,h=>h.elim
theorem Zru (c:List Nat) (x y:AE) (L R:List Nat) (h:dt (1 :: c) L ≤ dt (1 :: c) R):∀ r,gN r x y L R = true → Zmo r (x.ev c) (y.ev c)
 | 0,k=>by
  have e:=Zf2 (1 :: c) _ _ k
  rw [Zfa,Zfa,x.li_ev,y.li_ev] at e
  exact Nat.le_of_add_le_add_left (Nat.le_trans e (Nat.add_le_add_right h _))
 | 1,k=>by
  have e:=Zf2 (1 :: c) _ _ k
  rw [ZgZ,Zfa,Zfa,x.li_ev,y.li_ev] at e
  exact Nat.lt_of_add_lt_add_left (Nat.le_trans e (Nat.add_le_add_right h _))
 | r + 2,k=>by
  have e:=Zf2 (1 :: c) _ _ k
  rw [ZgZ] at e
  exact absurd (Nat.le_trans e h) (Nat.not_succ_le_self _)
theorem arN (c:List Nat):∀ (n s:Nat) (L R:List Nat),dt (1 :: c) L ≤ dt (1 :: c) R → chN n s L R = true → ZiJ c n s
 | 0,s,L,R,h,k=>Zru c _ _ L R h _ k
 | n + 1,s,L,R,h,k=>fun g=>arN c n _ _ _ (by
   rw [Zfa,Zfa,Zjg,Zjg]; exact Nat.add_le_add h (Nat.mul_le_mul_left _ (Zmc c _ _ _ g))) k
end L3
theorem lN (c:List Nat) (n s:Nat) (h:L3.chN n s [] [] = true):L3.ZiJ c n s:=L3.arN c n s [] [] (Nat.le_refl _) h
theorem sbA (a b:Nat):a ≤ a - b + b:=Nat.le_add_of_sub_le (Nat.le_refl _)
theorem T1:true = true:=rfl
theorem lA {a:Nat} (n s:Nat) (y:L3.chN n s [] [] = true):L3.ZiJ [a] n s:=lN _ n s y
theorem lB {a b:Nat} (n s:Nat) (y:L3.chN n s [] [] = true):L3.ZiJ [a,b] n s:=lN _ n s y
theorem lC {a b c:Nat} (n s:Nat) (y:L3.chN n s [] [] = true):L3.ZiJ [a,b,c] n s:=lN _ n s y
theorem lD {a b c d:Nat} (n s:Nat) (y:L3.chN n s [] [] = true):L3.ZiJ [a,b,c,d] n s:=lN _ n s y
theorem lE {a b c d e:Nat} (n s:Nat) (y:L3.chN n s [] [] = true):L3.ZiJ [a,b,c,d,e] n s:=lN _ n s y
theorem lF {a b c d e f:Nat} (n s:Nat) (y:L3.chN n s [] [] = true):L3.ZiJ [a,b,c,d,e,f] n s:=lN _ n s y
theorem clA (w:Int):max w 0 = (w.toNat:Int):=(Int.ofNat_toNat w).symm
theorem clB (v:Int) (n:Nat) (h:¬ v < 0):min v (n:Int) = ((min v.toNat n:Nat):Int):=by
 obtain ⟨k,rfl⟩:=Int.eq_ofNat_of_zero_le (Int.not_lt.1 h)
 rcases Nat.le_total k n with z | z
 ·rw [Int.min_eq_left (Int.ofNat_le.2 z)]; exact congrArg Int.ofNat (Nat.min_eq_left z).symm
 ·rw [Int.min_eq_right (Int.ofNat_le.2 z)]; exact congrArg Int.ofNat (Nat.min_eq_right z).symm
theorem clC (v:Int) (n:Nat) (h:v < 0):max 0 (min (v + (n:Int)) (n:Int)) = ((v + (n:Int)).toNat:Int):=by
 rw [Int.min_eq_left (Int.le_of_lt (Int.lt_of_lt_of_le (Int.add_lt_add_right h _) (Int.le_of_eq (Int.zero_add _)))),Int.max_comm]; exact clA _
theorem clD (v:Int) (n:Nat) (h:¬ v < 0):max 0 (min v (n:Int)) = ((min v.toNat n:Nat):Int):=by
 rw [clB v n h]; exact Int.max_eq_right (Int.natCast_nonneg _)
namespace L3
set_option genSizeOf false in
set_option genInjectivity false in
inductive AI where
 | v (i:Nat)
 | k (n:Nat)
 | c (e:AE)
 | a (x y:AI)
 | s (x y:AI)
 | g (x:AI)
 | m (n:Nat) (x:AI)
noncomputable def ZnI:List Int → Nat → Int
 | [],_=>0
 | x :: _,0=>x
 | _ :: l,n + 1=>ZnI l n
noncomputable def AI.ev (c:List Nat) (d:List Int):AI → Int
 | .v i=>ZnI d i
 | .k n=>Int.ofNat n
 | .c e=>((e.ev c:Nat):Int)
 | .a x y=>x.ev c d + y.ev c d
 | .s x y=>x.ev c d - y.ev c d
 | .g x=>-x.ev c d
 | .m n x=>Int.ofNat n * x.ev c d
noncomputable def pL (u w:List Nat × List Nat):List Nat × List Nat:=(aL u.1 w.1,aL u.2 w.2)
noncomputable def AI.li:AI → Bool → List Nat × List Nat
 | .v i,b=>bif b then ([],uL i) else ([],[])
 | .k n,b=>bif b then ([n],[]) else ([],[])
 | .c e,b=>bif b then (e.li,[]) else ([],[])
 | .a x y,b=>pL (x.li b) (y.li b)
 | .s x y,b=>pL (x.li b) (y.li (!b))
 | .g x,b=>x.li (!b)
 | .m n x,b=>(sL n (x.li b).1,sL n (x.li b).2)
noncomputable def dtI:List Int → List Nat → Int
 | x :: c,y :: l=>x * (y:Int) + dtI c l
 | [],_=>0
 | _,[]=>0
noncomputable def dI (c:List Nat) (d:List Int) (u:List Nat × List Nat):Int:=((dt (1 :: c) u.1:Nat):Int) + dtI d u.2
theorem Zo5 (p q r s:Int):p + q + (r + s) = p + r + (q + s):=by omega
theorem Zch:∀ c,dtI c [] = 0
 | []=>rfl
 | _ :: _=>rfl
theorem Znm:∀ c l r,dtI c (aL l r) = dtI c l + dtI c r
 | c,[],r=>by rw [Zch,Int.zero_add]; rfl
 | c,x :: l,[]=>by rw [Zch,Int.add_zero]; rfl
 | [],x :: l,y :: r=>rfl
 | z :: c,x :: l,y :: r=>by
  show z * ((x + y:Nat):Int) + dtI c (aL l r) = (z * x + dtI c l) + (z * y + dtI c r)
  rw [Znm c l r,Int.natCast_add,Int.mul_add]; exact Zo5 _ _ _ _
theorem ZmU (n:Nat):∀ c l,dtI c (sL n l) = Int.ofNat n * dtI c l
 | c,[]=>by rw [Zch,Int.mul_zero]; exact Zch c
 | [],x :: l=>(Int.mul_zero _).symm
 | z :: c,x :: l=>by
  show z * ((n * x:Nat):Int) + dtI c (sL n l) = Int.ofNat n * (z * x + dtI c l)
  rw [ZmU n c l,Int.mul_add,Int.natCast_mul,Int.mul_left_comm]; rfl
theorem Zm4:∀ c i,dtI c (uL i) = ZnI c i
 | [],0=>rfl
 | [],_ + 1=>rfl
 | x :: c,0=>by show x * 1 + dtI c [] = x; rw [Zch,Int.mul_one,Int.add_zero]
 | x :: c,n + 1=>by show x * 0 + dtI c (uL n) = ZnI c n; rw [Zm4 c n,Int.mul_zero,Int.zero_add]
section
variable (c:List Nat) (d:List Int)
theorem Zc8 (u w:List Nat × List Nat):dI c d (pL u w) = dI c d u + dI c d w:=by
 show ((dt (1 :: c) (aL u.1 w.1):Nat):Int) + dtI d (aL u.2 w.2) = _
 rw [Zfa,Znm,Int.natCast_add]; exact Zo5 _ _ _ _
theorem ZkV (n:Nat) (u:List Nat × List Nat):dI c d (sL n u.1,sL n u.2) = Int.ofNat n * dI c d u:=by
 show ((dt (1 :: c) (sL n u.1):Nat):Int) + dtI d (sL n u.2) = _
 rw [Zjg,ZmU,Int.natCast_mul]; exact (Int.mul_add _ _ _).symm
theorem ZpO:dI c d ([],[]) = 0:=by
 show ((dt (1 :: c) []:Nat):Int) + dtI d [] = 0
 rw [Zc2,Zch]; rfl
theorem ZqA (p q r s:Int):p - q + (r - s) = p + r - (q + s):=by omega
theorem Znu (p q r s:Int):p - q - (r - s) = p + s - (q + r):=by omega
theorem AI.li_ev:∀ e:AI,e.ev c d = dI c d (e.li true) - dI c d (e.li false)
 | .v i=>by show ZnI d i = dI c d ([],uL i) - dI c d ([],[]); rw [ZpO,Int.sub_zero]; show _ = ((dt (1 :: c) []:Nat):Int) + dtI d (uL i); rw [Zc2,Zm4]; exact (Int.zero_add _).symm
 | .k n=>by show Int.ofNat n = dI c d ([n],[]) - dI c d ([],[]); rw [ZpO,Int.sub_zero]; show _ = ((dt (1 :: c) [n]:Nat):Int) + dtI d []; rw [Zch,Int.add_zero]; show _ = ((1 * n + dt c []:Nat):Int); rw [Zc2,Nat.one_mul]; rfl
 | .c e=>by show ((e.ev c:Nat):Int) = dI c d (e.li,[]) - dI c d ([],[]); rw [ZpO,Int.sub_zero]; show _ = ((dt (1 :: c) e.li:Nat):Int) + dtI d []; rw [Zch,Int.add_zero,e.li_ev]
 | .a x y=>by show x.ev c d + y.ev c d = dI c d (pL (x.li true) (y.li true)) - dI c d (pL (x.li false) (y.li false)); rw [Zc8,Zc8,x.li_ev,y.li_ev]; exact ZqA _ _ _ _
 | .s x y=>by show x.ev c d - y.ev c d = dI c d (pL (x.li true) (y.li false)) - dI c d (pL (x.li false) (y.li true)); rw [Zc8,Zc8,x.li_ev,y.li_ev]; exact Znu _ _ _ _
 | .g x=>by show -x.ev c d = dI c d (x.li false) - dI c d (x.li true); rw [x.li_ev]; exact Int.neg_sub _ _
 | .m n x=>by show Int.ofNat n * x.ev c d = dI c d (sL n (x.li true).1,sL n (x.li true).2) - dI c d (sL n (x.li false).1,sL n (x.li false).2); rw [ZkV,ZkV,x.li_ev]; exact Int.mul_sub _ _ _
noncomputable def cI (x y:AI):List Nat × List Nat:=pL (x.li true) (y.li false)
noncomputable def Zkz (u:List Nat × List Nat):List Nat × List Nat:=(aL [1] u.1,u.2)
theorem ZiV (u:List Nat × List Nat):dI c d (Zkz u) = dI c d u + 1:=by
 show ((dt (1 :: c) (aL [1] u.1):Nat):Int) + dtI d u.2 = ((dt (1 :: c) u.1:Nat):Int) + dtI d u.2 + 1
 rw [ZgZ,Int.natCast_add,Int.add_right_comm]; rfl
theorem Zin (x y:AI):dI c d (cI x y) - dI c d (cI y x) = x.ev c d - y.ev c d:=by
 unfold cI
 rw [Zc8,Zc8,x.li_ev,y.li_ev,Znu,Int.add_comm (dI c d (y.li true))]
theorem Zlc {x y:AI} (h:x.ev c d ≤ y.ev c d):dI c d (cI x y) ≤ dI c d (cI y x):=by
 have:=Zin c d x y; omega
theorem Zq0 {x y:AI} (h:dI c d (cI x y) ≤ dI c d (cI y x)):x.ev c d ≤ y.ev c d:=by
 have:=Zin c d x y; omega
noncomputable def Zrb:Nat → Int → Int → Prop
 | 0,x,y=>x ≤ y
 | 1,x,y=>x < y
 | 2,x,y=>x = y
 | 3,x,y=>x = y
 | 4,x,y=>¬ x ≤ y
 | 5,x,y=>¬ x < y
 | _,_,_=>False
noncomputable def loI:Nat → AI → AI → List Nat × List Nat
 | 0,x,y=>cI x y
 | 1,x,y=>Zkz (cI x y)
 | 2,x,y=>cI x y
 | 4,x,y=>Zkz (cI y x)
 | _,x,y=>cI y x
noncomputable def hiI:Nat → AI → AI → List Nat × List Nat
 | 0,x,y=>cI y x
 | 1,x,y=>cI y x
 | 2,x,y=>cI y x
 | _,x,y=>cI x y
theorem ZoZ {x y:AI} (h:x.ev c d < y.ev c d):dI c d (Zkz (cI x y)) ≤ dI c d (cI y x):=by
 have:=Zin c d x y; rw [ZiV]; omega
theorem Zql (x y:AI):∀ r,Zrb r (x.ev c d) (y.ev c d) → dI c d (loI r x y) ≤ dI c d (hiI r x y)
 | 0,h=>Zlc c d h
 | 1,h=>ZoZ c d h
 | 2,h=>Zlc c d (Int.le_of_eq h)
 | 3,h=>Zlc c d (Int.le_of_eq h.symm)
 | 4,h=>ZoZ c d (Int.not_le.1 h)
 | 5,h=>Zlc c d (Int.not_lt.1 h)
 | _ + 6,h=>h.elim
end
noncomputable def rdI:Nat → Nat → AI × Nat
 | 0,s=>(.k 0,s)
 | f + 1,s=>bif Nat.ble (s % 16) 7 then (.v (s % 16),s / 16) else bif Nat.beq (s % 16) 8 then (.c (rdE 9 (s / 16)).1,(rdE 9 (s / 16)).2)
  else bif Nat.beq (s % 16) 9 then (.g (rdI f (s / 16)).1,(rdI f (s / 16)).2) else bif Nat.beq (s % 16) 10 then (.k 1,s / 16)
  else bif Nat.beq (s % 16) 11 then (.k (s / 256 % 16 ^ (s / 16 % 16)),s / 256 / 16 ^ (s / 16 % 16))
  else bif Nat.beq (s % 16) 12 then (.a (rdI f (s / 16)).1 (rdI f (rdI f (s / 16)).2).1,(rdI f (rdI f (s / 16)).2).2)
  else bif Nat.beq (s % 16) 13 then (.m (s / 16 % 256) (rdI f (s / 4096)).1,(rdI f (s / 4096)).2)
  else bif Nat.beq (s % 16) 14 then (.k 0,s / 16) else (.s (rdI f (s / 16)).1 (rdI f (rdI f (s / 16)).2).1,(rdI f (rdI f (s / 16)).2).2)
noncomputable def hP (c:List Nat) (d:List Int) (r s:Nat):Prop:=bif Nat.ble 8 r then Zrb (r - 8) ((rdI 9 s).1.ev c d) ((rdI 9 (rdI 9 s).2).1.ev c d) else Zmo r ((rdE 9 s).1.ev c) ((rdE 9 (rdE 9 s).2).1.ev c)
noncomputable def hR (r s:Nat):Nat:=bif Nat.ble 8 r then (rdI 9 (rdI 9 s).2).2 else (rdE 9 (rdE 9 s).2).2
noncomputable def hL (r s:Nat):List Nat × List Nat:=bif Nat.ble 8 r then loI (r - 8) (rdI 9 s).1 (rdI 9 (rdI 9 s).2).1 else (loN r (rdE 9 s).1 (rdE 9 (rdE 9 s).2).1,[])
noncomputable def hH (r s:Nat):List Nat × List Nat:=bif Nat.ble 8 r then hiI (r - 8) (rdI 9 s).1 (rdI 9 (rdI 9 s).2).1 else (hiN r (rdE 9 s).1 (rdE 9 (rdE 9 s).2).1,[])
theorem ZrZ (c:List Nat) (d:List Int) (r s:Nat) (h:hP c d r s):dI c d (hL r s) ≤ dI c d (hH r s):=by
 unfold hP at h
 unfold hL hH
 cases e:Nat.ble 8 r <;> rw [e] at h
 ·exact Int.add_le_add_right (Int.ofNat_le.2 (Zmc c _ _ _ h)) _
 ·exact Zql c d _ _ _ h
noncomputable def zL:List Nat → Bool
 | []=>true
 | x :: l=>Nat.beq x 0 && zL l
noncomputable def eqL:List Nat → List Nat → Bool
 | [],r=>zL r
 | x :: l,[]=>Nat.beq x 0 && zL l
 | x :: l,y :: r=>Nat.beq x y && eqL l r
theorem Zno:∀ c l,zL l = true → dtI c l = 0
 | c,[],_=>Zch c
 | [],x :: l,_=>rfl
 | z :: c,x :: l,h=>by
  have h:=(Bool.and_eq_true _ _).mp h
  show z * (x:Int) + dtI c l = 0
  rw [Nat.eq_of_beq_eq_true h.1,Zno c l h.2,Int.add_zero]; exact Int.mul_zero z
theorem ZmB:∀ c l r,eqL l r = true → dtI c l = dtI c r
 | c,[],r,h=>(Zch c).trans (Zno c r h).symm
 | c,x :: l,[],h=>(Zno c (x :: l) h).trans (Zch c).symm
 | [],x :: l,y :: r,_=>rfl
 | z :: c,x :: l,y :: r,h=>by
  have h:=(Bool.and_eq_true _ _).mp h
  show z * (x:Int) + dtI c l = z * (y:Int) + dtI c r
  rw [Nat.eq_of_beq_eq_true h.1,ZmB c l r h.2]
noncomputable def leP (u w:List Nat × List Nat):Bool:=leL u.1 w.1 && eqL u.2 w.2
theorem Zg5 (c:List Nat) (d:List Int) {u w:List Nat × List Nat} (h:leP u w = true):dI c d u ≤ dI c d w:=by
 have h:=(Bool.and_eq_true _ _).mp h
 exact Int.add_le_add (Int.ofNat_le.2 (Zf2 _ _ _ h.1)) (Int.le_of_eq (ZmB d _ _ h.2))
noncomputable def ZqM (c:List Nat) (d:List Int):Nat → Nat → Prop
 | 0,s=>hP c d (s % 16) (s / 16)
 | n + 1,s=>hP c d (s / 16 % 16) (s / 256) → ZqM c d n (hR (s / 16 % 16) (s / 256))
noncomputable def gI (r s:Nat) (L R:List Nat × List Nat):Bool:=bif Nat.beq r 0 then leP (pL R ((rdE 9 s).1.li,[])) (pL L ((rdE 9 (rdE 9 s).2).1.li,[]))
 else bif Nat.beq r 1 then leP (Zkz (pL R ((rdE 9 s).1.li,[]))) (pL L ((rdE 9 (rdE 9 s).2).1.li,[]))
 else bif Nat.beq r 8 then leP (pL R (cI (rdI 9 s).1 (rdI 9 (rdI 9 s).2).1)) (pL L (cI (rdI 9 (rdI 9 s).2).1 (rdI 9 s).1))
 else bif Nat.beq r 9 then leP (Zkz (pL R (cI (rdI 9 s).1 (rdI 9 (rdI 9 s).2).1))) (pL L (cI (rdI 9 (rdI 9 s).2).1 (rdI 9 s).1))
 else leP (Zkz R) L
noncomputable def chI:Nat → Nat → List Nat × List Nat → List Nat × List Nat → Bool
 | 0,s,L,R=>gI (s % 16) (s / 16) L R
 | n + 1,s,L,R=>chI n (hR (s / 16 % 16) (s / 256)) (pL L (sL (s % 16) (hL (s / 16 % 16) (s / 256)).1,sL (s % 16) (hL (s / 16 % 16) (s / 256)).2)) (pL R (sL (s % 16) (hH (s / 16 % 16) (s / 256)).1,sL (s % 16) (hH (s / 16 % 16) (s / 256)).2))
theorem ZkO (c:List Nat) (d:List Int) (e:AE):dI c d (e.li,[]) = ((e.ev c:Nat):Int):=by
 show ((dt (1 :: c) e.li:Nat):Int) + dtI d [] = _
 rw [Zch,Int.add_zero,e.li_ev]
theorem ZmQ {a b l r:Int} (h:l ≤ r) (e:r + a ≤ l + b):a ≤ b:=by omega
theorem Znr {a b l r:Int} (h:l ≤ r) (e:r + a + 1 ≤ l + b):a < b:=by omega
theorem Zqg {l r:Int} (h:l ≤ r) (e:r + 1 ≤ l):False:=by omega
theorem Zr3 (c:List Nat) (d:List Int) (r s:Nat) (L R:List Nat × List Nat) (h:dI c d L ≤ dI c d R) (k:gI r s L R = true):hP c d r s:=by
 unfold gI at k
 cases e0:Nat.beq r 0 with
 | true=>
  rw [Nat.eq_of_beq_eq_true e0] at k ⊢
  have e:=Zg5 c d k
  rw [Zc8,Zc8,ZkO,ZkO] at e
  exact Int.ofNat_le.1 (ZmQ h e)
 | false=>
  cases e1:Nat.beq r 1 with
  | true=>
   rw [Nat.eq_of_beq_eq_true e1] at k ⊢
   have e:=Zg5 c d k
   rw [ZiV,Zc8,Zc8,ZkO,ZkO] at e
   exact Int.ofNat_lt.1 (Znr h e)
  | false=>
   cases e8:Nat.beq r 8 with
   | true=>
    rw [Nat.eq_of_beq_eq_true e8] at k ⊢
    have e:=Zg5 c d k
    rw [Zc8,Zc8] at e
    exact Zq0 c d (ZmQ h e)
   | false=>
    cases e9:Nat.beq r 9 with
    | true=>
     rw [Nat.eq_of_beq_eq_true e9] at k ⊢
     have e:=Zg5 c d k
     rw [ZiV,Zc8,Zc8] at e
     have z:=Znr h e
     have y:=Zin c d (rdI 9 s).1 (rdI 9 (rdI 9 s).2).1
     show (rdI 9 s).1.ev c d < (rdI 9 (rdI 9 s).2).1.ev c d
     exact Int.lt_of_sub_neg (y ▸ Int.sub_neg_of_lt z)
    | false=>
     rw [e0,e1,e8,e9] at k
     have e:=Zg5 c d k
     rw [ZiV] at e
     exact (Zqg h e).elim
theorem arI (c:List Nat) (d:List Int):∀ (n s:Nat) (L R:List Nat × List Nat),dI c d L ≤ dI c d R → chI n s L R = true → ZqM c d n s
 | 0,s,L,R,h,k=>Zr3 c d _ _ L R h k
 | n + 1,s,L,R,h,k=>fun g=>arI c d n _ _ _ (by
   rw [Zc8,Zc8,ZkV,ZkV]; exact Int.add_le_add h (Int.mul_le_mul_of_nonneg_left (ZrZ c d _ _ g) (Int.natCast_nonneg _))) k
end L3
theorem iN (c:List Nat) (d:List Int) (n s:Nat) (h:L3.chI n s ([],[]) ([],[]) = true):L3.ZqM c d n s:=L3.arI c d n s ([],[]) ([],[]) (Int.le_refl _) h
set_option Elab.async false
set_option linter.all false
set_option maxRecDepth 100000
namespace L2
open PySem PySem.Spec PyProof.Rows
noncomputable abbrev Key:=Sum Int Str
noncomputable def ZhW:Key → Value → Bool
 | .inl k,v=>Value.isInt k v
 | .inr x,v=>Value.isStrOf x v
noncomputable def Zsx (w:World):Key → Int
 | .inl k=>hashInt k
 | .inr x=>hashStr w x
theorem Zbi:∀ {k:Key} {v:Value},ZhW k v = true → (∃ i t,k = Sum.inl i ∧ v = Value.int i t) ∨ (∃ x t,k = Sum.inr x ∧ v = Value.str x t)
 | .inl i,v,h=>by
  obtain ⟨t,e⟩:=Value.isInt_shape (k:=i) (v:=v) h
  exact .inl ⟨i,t,rfl,e⟩
 | .inr x,v,h=>by
  obtain ⟨t,e⟩:=Value.isStrOf_shape (x:=x) (v:=v) h
  exact .inr ⟨x,t,rfl,e⟩
theorem ZlM (i:Int) (t:Tok):ZhW (.inl i) (.int i t) = true:=by simp [ZhW,Value.isInt]
theorem Zlz (x:Str) (t:Tok):ZhW (.inr x) (.str x t) = true:=by simp [ZhW,Value.isStrOf]
theorem Zpz (a b:Int):decide ((Sum.inl a:Key) = Sum.inl b) = (a == b):=by
 by_cases e:a = b
 ·subst e; simp
 ·have h:¬ (Sum.inl a:Key) = Sum.inl b:=fun q=>e (Sum.inl.inj q)
  rw [decide_eq_false h]
  exact (beq_eq_false_iff_ne.mpr e).symm
theorem Zqf (a b:Str):decide ((Sum.inr a:Key) = Sum.inr b) = decide (a = b):=by
 by_cases e:a = b
 ·subst e; simp
 ·have h:¬ (Sum.inr a:Key) = Sum.inr b:=fun q=>e (Sum.inr.inj q)
  rw [decide_eq_false h,decide_eq_false e]
theorem ZpV (a:Int) (b:Str):decide ((Sum.inl a:Key) = Sum.inr b) = false:=decide_eq_false (fun q=>nomatch q)
theorem ZpY (a:Str) (b:Int):decide ((Sum.inr a:Key) = Sum.inl b) = false:=decide_eq_false (fun q=>nomatch q)
noncomputable def ZaV (prog:Program) (w:World):PySem.KeyKind prog w Key where
 is:=ZhW
 hash:=Zsx w
 inj:=fun v a b ha hb=>by
  rcases Zbi ha with ⟨i,t,rfl,rfl⟩ | ⟨x,t,rfl,rfl⟩
  ·rcases Zbi hb with ⟨j,u,rfl,e⟩ | ⟨y,u,rfl,e⟩
   ·injection e with e1 _; rw [e1]
   ·exact nomatch e
  ·rcases Zbi hb with ⟨j,u,rfl,e⟩ | ⟨y,u,rfl,e⟩
   ·exact nomatch e
   ·injection e with e1 _; rw [e1]
 byValue:=fun k v h=>by
  rcases Zbi h with ⟨i,t,rfl,rfl⟩ | ⟨x,t,rfl,rfl⟩ <;> rfl
 pyHash:=fun hv h=>by
  rcases Zbi hv with ⟨i,t,rfl,rfl⟩ | ⟨x,t,rfl,rfl⟩
  ·exact wpAny_pyHash_int h
  ·exact wpAny_pyHash_str h
 eqBool:=fun hu hv h=>by
  rcases Zbi hu with ⟨i,t,rfl,rfl⟩ | ⟨x,t,rfl,rfl⟩
  ·rcases Zbi hv with ⟨j,u,rfl,rfl⟩ | ⟨y,u,rfl,rfl⟩
   ·rw [Zpz] at h; exact wpAny_eqBool_int h
   ·rw [ZpV] at h; exact SeqAt.EqAt.int_str i t y u _ _ _ _ h
  ·rcases Zbi hv with ⟨j,u,rfl,rfl⟩ | ⟨y,u,rfl,rfl⟩
   ·rw [ZpY] at h; exact SeqAt.EqAt.str_int x t j u _ _ _ _ h
   ·rw [Zqf] at h; exact wpAny_eqBool_str h
 «strs»:=fun k x t v h=>by
  rcases Zbi h with ⟨i,u,rfl,e⟩ | ⟨y,u,rfl,e⟩
  ·exact nomatch e
  ·injection e with e1 _
   subst e1
   cases v <;> rfl
theorem Zju (prog:Program) (w:World) (i:Int) (t:Tok):(ZaV prog w).is (.inl i) (.int i t) = true:=ZlM i t
theorem Zjp (prog:Program) (w:World) (x:Str) (t:Tok):(ZaV prog w).is (.inr x) (.str x t) = true:=Zlz x t
end L2
namespace L2
open PySem PySem.Spec PyProof.Rows
inductive V where
 | non | bl (b:Bool) | int (i:Int) | str (x:Str) | byt (b:Array UInt8) | flt (b:UInt64) | ref (a:Addr) | ty (n:String)
 deriving DecidableEq
noncomputable def RelV:V → Value → Prop
 | .non,u=>u = Value.none
 | .bl b,u=>u = Value.bool b
 | .int i,u=>∃ t,u = Value.int i t
 | .str x,u=>∃ t,u = Value.str x t
 | .byt b,u=>∃ t,u = Value.bytes b t
 | .flt b,u=>∃ t,u = Value.float b t
 | .ref a,u=>u = Value.ref a
 | .ty n,u=>u = Value.type n
noncomputable abbrev Vals:List V → List Value → Prop:=Paired RelV
theorem Vals.length {xs:List V} {us:List Value} (r:Vals xs us):xs.length = us.length:=Paired.length r
theorem Vals.get:∀ {xs:List V} {us:List Value} {i:Nat} {x:V},Vals xs us → xs[i]? = some x → ∃ u,us[i]? = some u ∧ RelV x u
 | _,_,_,_,.nil,e=>by simp at e
 | _,_,0,_,.cons r _,e=>by simp at e; subst e; exact ⟨_,rfl,r⟩
 | _,_,i + 1,x,.cons _ t,e=>by
  obtain ⟨u,h1,h2⟩:=Vals.get (i:=i) (x:=x) t (by simpa using e)
  exact ⟨u,by simpa using h1,h2⟩
theorem Vals.set {x:V} {u:Value} (r:RelV x u):∀ {xs:List V} {us:List Value} (i:Nat),Vals xs us → Vals (xs.set i x) (us.set i u)
 | _,_,_,.nil=>.nil
 | _,_,0,.cons _ t=>.cons r t
 | _,_,i + 1,.cons q t=>.cons q (Vals.set r i t)
theorem Vals.append:∀ {xs ys:List V} {us ws:List Value},Vals xs us → Vals ys ws → Vals (xs ++ ys) (us ++ ws)
 | _,_,_,_,.nil,s=>s
 | _,_,_,_,.cons r t,s=>.cons r (Vals.append t s)
theorem Vals.take:∀ {xs:List V} {us:List Value} (n:Nat),Vals xs us → Vals (xs.take n) (us.take n)
 | _,_,0,_=>.nil
 | _,_,_ + 1,.nil=>.nil
 | _,_,n + 1,.cons r t=>.cons r (Vals.take n t)
theorem Vals.drop:∀ {xs:List V} {us:List Value} (n:Nat),Vals xs us → Vals (xs.drop n) (us.drop n)
 | _,_,0,r=>r
 | _,_,_ + 1,.nil=>.nil
 | _,_,n + 1,.cons _ t=>Vals.drop n t
noncomputable def ZfQ:Option V → Option Value → Prop
 | some v,some u=>RelV v u
 | none,none=>True
 | _,_=>False
noncomputable def KV {κ:Type}:List (κ × V) → List (κ × Value) → Prop:=Paired fun (p:κ × V) (q:κ × Value)=>p.1 = q.1 ∧ RelV p.2 q.2
noncomputable def kV:Key → V
 | .inl i=>.int i
 | .inr x=>.str x
inductive HO where
 /-- a list -/
 | lst (xs:List V)
 /-- a tuple (never changes) -/
 | tup (xs:List V)
 /-- a dict whose keys are ints and texts; one whose keys are tuples of ints and texts (the empty one is both) -/
 | dK (kvs:List (Key × V)) | dT (kvs:List (List Key × V))
 /-- a set of ints: its members,its size -/
 | set (S:Int → Bool) (n:Nat)
 /-- an instance of the class at C,its dict at dx,its attributes -/
 | ins (C dx:Addr) (fs:List (Str × V))
 /-- the dict of the instance at x -/
 | own (x:Addr)
 /-- the dict of an exception -/
 | xd (fs:List (Str × V))
 /-- a bound method,f of x -/
 | met (f x:Addr)
 /-- a range object lo,lo + 1,.. below hi -/
 | rng (lo hi:Int)
 /-- a thing that is known to the object (the script; a dict while a loop walks it): read,never written while it is so -/
 | frz (o:Obj) (u:HO)
 /-- a code object's table -/
 | tbl (ps:Array Value)
 /-- any other thing,by what is true of its one object (a def of one's own: SetO a S n:=HO.ext fun h=>..) -/
 | ext (φ:Heap → Prop)
noncomputable abbrev Hp:=Addr → Option HO
noncomputable def upd (H:Hp) (a:Addr) (o:HO):Hp:=fun b=>if b = a then some o else H b
theorem Zcx {H:Hp} {a:Addr} {o:HO}:upd H a o a = some o:=by unfold upd; rw [if_pos rfl]
theorem ZaX {H:Hp} {a b:Addr} {o:HO} (h:b ≠ a):upd H a o b = H b:=by unfold upd; rw [if_neg h]
theorem Zdq {H:Hp} {a b:Addr} {o:HO} (h:H a = some o) (h':H b = none):a ≠ b:=by
 intro e; subst e; rw [h] at h'; cases h'
section
variable (P:Program) (w:World)
noncomputable def Zds (h:Heap) (a:Addr) (items:Array Value):Prop:=∃ o,h.get? a = some o ∧ (o.cls = .type "tuple" ∧ o.dict = none) ∧ ∃ n,o.data = .seq items n
theorem Zds.tup {h:Heap} {a:Addr} {items:Array Value} (x:Zds h a items):IsTup h a items:=let ⟨o,e,c,d⟩:=x; ⟨o,e,c.1,d⟩
theorem Zds.new (h:Heap) (items:Array Value):Zds (h.push { cls:=.type "tuple",data:=.seq items }) h.objs.size items:=⟨_,Heap.get?_push_size _ rfl,⟨rfl,rfl⟩,0,rfl⟩
noncomputable def Zbj (H:Hp) (h:Heap) (a:Addr):HO → Prop
 | .lst xs=>xs.length ≤ sizeLine ∧ ∃ (its:List Value) (n:Nat),Vals xs its ∧ h.get? a = some { cls:=.type "list",data:=.seq its.toArray n }
 | .tup xs=>xs.length ≤ sizeLine ∧ ∃ its:List Value,Vals xs its ∧ Zds h a its.toArray
 | .dK kvs=>kvs.length ≤ sizeLine ∧ (a == sysModules) = false ∧ ∃ vs,KV kvs vs ∧ h.DictOf (ZaV P w) a vs
 | .dT kvs=>kvs.length ≤ sizeLine ∧ (a == sysModules) = false ∧ ∃ xs:List (List Key × Addr × Value),
   Paired (fun (p:List Key × V) (q:List Key × Addr × Value)=>p.1 = q.1 ∧ H q.2.1 = some (.tup (p.1.map kV)) ∧ RelV p.2 q.2.2) kvs xs ∧
   ∃ o es ep,h.get? a = some o ∧ o.ExactDict ∧ o.data = .dict es ep ∧ es.toList = xs.map (entryOfKey (tupleKind (ZaV P w))) ∧ (xs.map (·.1)).Nodup
 | .set S n=>h.SetOf (intKind P w) a S n
 | .ins C dx fs=>H dx = some (.own a) ∧ fs.length ≤ 1000 ∧ dx ≠ a ∧ h.get? a = some (PySem.W.instObj C dx) ∧
   ∃ mA,h.Ns1 dx mA ∧ (∀ f,ZfQ (fs.lookup f) (mA f)) ∧ PySem.Within mA (fs.map (·.1))
 | .own _=>∃ o,h.get? a = some o
 | .xd fs=>∃ mA,h.Ns1 a mA ∧ ∀ f,ZfQ (fs.lookup f) (mA f)
 | .rng lo hi=>∃ t u v,h.get? a = some { cls:=.type "range",data:=.fields #[.int lo t,.int hi u,.int 1 v] }
 | .frz o u=>h.get? a = some o ∧ Zbj H h a u
 | .tbl ps=>h.get? a = some { cls:=.none,data:=.fields ps }
 | .met f x=>h.get? a = some (PySem.W.methodObj (.ref f) (.ref x))
 | .ext φ=>φ h ∧ (∃ o,h.get? a = some o) ∧ ∀ h1 h2:Heap,φ h1 → (∀ o,h1.get? a = some o → h2.get? a = some o) → φ h2
noncomputable def HOk (H:Hp) (h:Heap):Prop:=∀ a o,H a = some o → Zbj P w H h a o
end
section
variable {P:Program} {w:World} {H H':Hp} {h h':Heap} {a:Addr} {o:HO}
theorem Zbj.lt (x:Zbj P w H h a o):a < h.objs.size:=by
 cases o with
 | lst xs=>obtain ⟨_,_,_,_,e⟩:=x; exact Heap.lt_size e
 | tup xs=>obtain ⟨_,_,_,p⟩:=x; exact p.tup.lt
 | dK kvs=>obtain ⟨_,_,_,_,o,_,_,e,_⟩:=x; exact Heap.lt_size e
 | dT kvs=>obtain ⟨_,_,_,_,o,_,_,e,_⟩:=x; exact Heap.lt_size e
 | set S n=>obtain ⟨o,_,_,_,e,_⟩:=x; exact Heap.lt_size e
 | ins C dx fs=>obtain ⟨_,_,_,e,_⟩:=x; exact Heap.lt_size e
 | own y=>obtain ⟨_,e⟩:=x; exact Heap.lt_size e
 | xd fs=>obtain ⟨_,⟨_,_,_,e,_⟩,_⟩:=x; exact Heap.lt_size e
 | rng lo hi=>obtain ⟨_,_,_,e⟩:=x; exact Heap.lt_size e
 | frz ob u=>obtain ⟨e,_⟩:=x; exact Heap.lt_size e
 | tbl ps=>exact Heap.lt_size (show h.get? a = some _ from x)
 | met f y=>exact Heap.lt_size (show h.get? a = some _ from x)
 | ext φ=>obtain ⟨_,⟨_,e⟩,_⟩:=x; exact Heap.lt_size e
theorem Paired.mapP {α β:Type} {F G:α → β → Prop}:∀ {l₁:List α} {l₂:List β},Paired F l₁ l₂ → (∀ a b,F a b → G a b) → Paired G l₁ l₂
 | _,_,.nil,_=>.nil
 | _,_,.cons r t,f=>.cons (f _ _ r) (Paired.mapP t f)
theorem Zbj.stay (x:Zbj P w H h a o) (k:∀ b u,(b = a ∨ H b = some (.own a)) → h.get? b = some u → h'.get? b = some u)
  (ho:∀ b,H b = some (.own a) → H' b = some (.own a)) (ht:∀ b xs,H b = some (.tup xs) → H' b = some (.tup xs)):Zbj P w H' h' a o:=by
 induction o with
 | lst xs=>obtain ⟨z,its,n,r,e⟩:=x; exact ⟨z,its,n,r,k _ _ (.inl rfl) e⟩
 | tup xs=>obtain ⟨z,its,r,ob,e,c⟩:=x; exact ⟨z,its,r,ob,k _ _ (.inl rfl) e,c⟩
 | dK kvs=>obtain ⟨z,y,vs,r,ob,es,ep,e,c⟩:=x; exact ⟨z,y,vs,r,ob,es,ep,k _ _ (.inl rfl) e,c⟩
 | dT kvs=>
  obtain ⟨z,y,xs,r,ob,es,ep,e,c⟩:=x
  exact ⟨z,y,xs,Paired.mapP r fun p q z=>⟨z.1,ht _ _ z.2.1,z.2.2⟩,ob,es,ep,k _ _ (.inl rfl) e,c⟩
 | set S n=>obtain ⟨ob,es,ep,t,e,c⟩:=x; exact ⟨ob,es,ep,t,k _ _ (.inl rfl) e,c⟩
 | ins C dx fs=>
  obtain ⟨d,z,ne,e,mA,⟨od,es,ep,e2,c⟩,r⟩:=x
  exact ⟨ho _ d,z,ne,k _ _ (.inl rfl) e,mA,⟨od,es,ep,k _ _ (.inr d) e2,c⟩,r⟩
 | own y=>obtain ⟨ob,e⟩:=x; exact ⟨ob,k _ _ (.inl rfl) e⟩
 | xd fs=>obtain ⟨mA,⟨od,es,ep,e,c⟩,r⟩:=x; exact ⟨mA,⟨od,es,ep,k _ _ (.inl rfl) e,c⟩,r⟩
 | rng lo hi=>obtain ⟨t,u,v,e⟩:=x; exact ⟨t,u,v,k _ _ (.inl rfl) e⟩
 | frz ob u ih=>obtain ⟨e,q⟩:=x; exact ⟨k _ _ (.inl rfl) e,ih q⟩
 | tbl ps=>
  have e:h.get? a = some { cls:=.none,data:=.fields ps }:=x
  show h'.get? a = some { cls:=.none,data:=.fields ps }
  exact k a _ (.inl rfl) e
 | met f y=>
  have e:h.get? a = some (PySem.W.methodObj (.ref f) (.ref y)):=x
  show h'.get? a = some (PySem.W.methodObj (.ref f) (.ref y))
  exact k a _ (.inl rfl) e
 | ext φ=>obtain ⟨p,⟨o,e⟩,st⟩:=x; exact ⟨st _ _ p fun o q=>k _ _ (.inl rfl) q,⟨o,k _ _ (.inl rfl) e⟩,st⟩
theorem HOk.lt (x:HOk P w H h) (e:H a = some o):a < h.objs.size:=(x a o e).lt
theorem HOk.fresh (x:HOk P w H h) (e:h.objs.size ≤ a):H a = none:=by
 cases q:H a with
 | none=>rfl
 | some u=>exact absurd (Nat.lt_of_lt_of_le (x.lt q) e) (Nat.lt_irrefl _)
theorem HOk.kept (x:HOk P w H h) (k:∀ b u,h.get? b = some u → h'.get? b = some u):HOk P w H h':=fun a o e=>
 (x a o e).stay (fun b u _ q=>k b u q) (fun _ q=>q) fun _ _ q=>q
theorem HOk.laid (x:HOk P w H h) (k:∀ b u,h.get? b = some u → h'.get? b = some u) (hp:h.objs.size ≤ a) (new:Zbj P w (upd H a o) h' a o):HOk P w (upd H a o) h':=fun b u e=>by
 have hn:=x.fresh hp
 by_cases hb:b = a
 ·subst hb; rw [Zcx] at e; cases e; exact new
 ·rw [ZaX hb] at e
  exact (x b u e).stay (fun c v _ q=>k c v q) (fun c q=>by rw [ZaX (Zdq q hn)]; exact q) fun c xs q=>by rw [ZaX (Zdq q hn)]; exact q
end
noncomputable def Rd (H:Hp) (a:Addr) (u:HO):Prop:=H a = some u ∨ ∃ o,H a = some (.frz o u)
theorem Rd.ok {P:Program} {w:World} {H:Hp} {h:Heap} {a:Addr} {u:HO} (r:Rd H a u) (x:HOk P w H h):Zbj P w H h a u:=by
 rcases r with r | ⟨o,r⟩
 ·exact x a u r
 ·obtain ⟨_,q⟩:=x a _ r
  exact q
noncomputable def Mut:Option HO → Prop
 | some (.lst _)=>True
 | some (.dK _)=>True
 | some (.dT _)=>True
 | some (.set _ _)=>True
 | some (.ins _ _ _)=>True
 | some (.ext _)=>True
 | _=>False
section
variable {P:Program} {w:World} {H:Hp} {h h':Heap} {x e:Addr} {o':HO}
theorem HOk.write (ok:HOk P w H h) (mu:Mut (H x)) (he:e = x ∨ H e = some (.own x)) (k:∀ b u,b ≠ e → h.get? b = some u → h'.get? b = some u) (heo:∃ u,h'.get? e = some u)
  (new:Zbj P w (upd H x o') h' x o'):HOk P w (upd H x o') h':=fun b u q=>by
 have nown:∀ c y,H c = some (.own y) → c ≠ x:=fun c y r z=>by subst z; rw [r] at mu; exact mu
 have ntup:∀ c xs,H c = some (.tup xs) → c ≠ x:=fun c xs r z=>by subst z; rw [r] at mu; exact mu
 by_cases hb:b = x
 ·subst hb; rw [Zcx] at q; cases q; exact new
 ·rw [ZaX hb] at q
  by_cases hbe:b = e
  ·have q':H b = some (.own x):=by
    rcases he with z | z
    ·exact absurd (hbe.trans z) hb
    ·rw [hbe]; exact z
   rw [q] at q'; cases q'
   obtain ⟨v,hv⟩:=heo
   exact ⟨v,by rw [hbe]; exact hv⟩
  ·refine (ok b u q).stay (fun c v hc r=>k c v ?_ r) (fun c r=>by rw [ZaX (nown c b r)]; exact r) fun c xs r=>by rw [ZaX (ntup c xs r)]; exact r
   rcases hc with rfl | hc
   ·exact hbe
   ·rintro rfl
    rcases he with z | z
    ·exact nown c b hc z
    ·rw [hc] at z; cases z; exact hb rfl
end
structure Un (fs ex:List Addr) (H H':Hp) (h h':Heap):Prop where
 keep:∀ b o,h.get? b = some o → H b = none → b ∉ fs → b ∉ ex → h'.get? b = some o
 slot:∀ b o,h.get? b = some o → H b = none → b ∈ fs → b ∉ ex → ∃ sl,h'.get? b = some { o with slots:=sl }
 free:∀ b o,h.get? b = some o → H b = none → b ∉ ex → H' b = none
 there:∀ b o,h.get? b = some o → b ∉ ex → ∃ o',h'.get? b = some o'
 tups:∀ b xs,H b = some (.tup xs) → H' b = some (.tup xs)
 frzs:∀ b o u,H b = some (.frz o u) → H' b = some (.frz o u)
 tbls:∀ b ps,H b = some (.tbl ps) → ∃ more,H' b = some (.tbl (ps ++ more))
section
variable {fs fs' ex ex':List Addr} {H H1 H2:Hp} {h h1 h2 h':Heap} {a x e:Addr} {o:HO}
theorem Un.any (u:Un fs ex H H1 h h1) {b:Addr} {ob:Obj} (q:h.get? b = some ob) (n:H b = none) (hx:b ∉ ex):∃ sl,h1.get? b = some { ob with slots:=sl }:=by
 by_cases hb:b ∈ fs
 ·exact u.slot b ob q n hb hx
 ·exact ⟨ob.slots,u.keep b ob q n hb hx⟩
theorem Un.trans (a:Un fs ex H H1 h h1) (b:Un fs ex H1 H2 h1 h2):Un fs ex H H2 h h2 where
 keep:=fun c ob q n hc hx=>b.keep c ob (a.keep c ob q n hc hx) (a.free c ob q n hx) hc hx
 slot:=fun c ob q n hc hx=>by
  obtain ⟨sl,e1⟩:=a.slot c ob q n hc hx
  obtain ⟨sl',e2⟩:=b.slot c _ e1 (a.free c ob q n hx) hc hx
  exact ⟨sl',e2⟩
 free:=fun c ob q n hx=>by
  obtain ⟨o',e1⟩:=a.there c ob q hx
  exact b.free c o' e1 (a.free c ob q n hx) hx
 there:=fun c ob q hx=>by
  obtain ⟨o',e1⟩:=a.there c ob q hx
  exact b.there c o' e1 hx
 tups:=fun c xs q=>b.tups c xs (a.tups c xs q)
 frzs:=fun c ob xs q=>b.frzs c ob xs (a.frzs c ob xs q)
 tbls:=fun c ps q=>by
  obtain ⟨m1,e1⟩:=a.tbls c ps q
  obtain ⟨m2,e2⟩:=b.tbls c _ e1
  exact ⟨m1 ++ m2,by rw [e2,Array.append_assoc]⟩
theorem Un.kept (k:∀ b u,h.get? b = some u → h'.get? b = some u):Un fs ex H H h h':=
 ⟨fun b ob q _ _ _=>k b ob q,fun b ob q _ _ _=>⟨ob.slots,k b ob q⟩,fun _ _ _ n _=>n,fun b ob q _=>⟨ob,k b ob q⟩,fun _ _ q=>q,fun _ _ _ q=>q,fun _ ps q=>⟨#[],by rw [q]; simp⟩⟩
theorem Un.refl:Un fs ex H H h h:=Un.kept fun _ _ q=>q
theorem Un.laid (k:∀ b u,h.get? b = some u → h'.get? b = some u) (hp:h.objs.size ≤ a) (hn:H a = none):Un fs ex H (upd H a o) h h' where
 keep:=fun b u q _ _ _=>k b u q
 slot:=fun b u q _ _ _=>⟨u.slots,k b u q⟩
 free:=fun b u q n _=>by rw [ZaX (Nat.ne_of_lt (Nat.lt_of_lt_of_le (Heap.lt_size q) hp))]; exact n
 there:=fun b u q _=>⟨u,k b u q⟩
 tups:=fun b xs q=>by rw [ZaX (Zdq q hn)]; exact q
 frzs:=fun b u xs q=>by rw [ZaX (Zdq q hn)]; exact q
 tbls:=fun b ps q=>⟨#[],by rw [ZaX (Zdq q hn),q]; simp⟩
theorem Un.write (mu:Mut (H x)) (he:e = x ∨ H e = some (.own x)) (k:∀ b u,b ≠ e → h.get? b = some u → h'.get? b = some u) (heo:∃ u,h'.get? e = some u):Un fs ex H (upd H x o) h h':=by
 have hx:∀ b,H b = none → b ≠ x:=fun b n z=>by subst z; rw [n] at mu; exact mu
 have hb:∀ b,H b = none → b ≠ e:=fun b n z=>by
  subst z
  rcases he with r | r
  ·exact hx b n r
  ·rw [n] at r; cases r
 have hm:∀ b u,H b = some u → ¬ Mut (some u) → b ≠ x:=fun b u q nm z=>by subst z; rw [q] at mu; exact nm mu
 refine ⟨fun b u q n _ _=>k b u (hb b n) q,fun b u q n _ _=>⟨u.slots,k b u (hb b n) q⟩,fun b u q n _=>by rw [ZaX (hx b n)]; exact n,fun b u q _=>?_,
  fun b xs q=>by rw [ZaX (hm b _ q fun z=>z)]; exact q,fun b u xs q=>by rw [ZaX (hm b _ q fun z=>z)]; exact q,fun b ps q=>⟨#[],by rw [ZaX (hm b _ q fun z=>z),q]; simp⟩⟩
 by_cases hbe:b = e
 ·subst hbe; exact heo
 ·exact ⟨u,k b u hbe q⟩
end
noncomputable def trk (h:Heap) (H:Hp):List Addr:=(List.range h.objs.size).filter fun a=>(H a).isSome
noncomputable def Zit (h:Heap) (H:Hp):Heap:=PySem.W.hideAll h (trk h H)
theorem ZlT (h:Heap) (H:Hp):(Zit h H).objs.size = h.objs.size:=PySem.W.hideAll_size _ _
theorem ZmR {h:Heap} {H:Hp} {b:Addr} {o:Obj} (e:h.get? b = some o) (n:H b = none):(Zit h H).get? b = some o:=
 PySem.W.hideAll_get _ e fun hm=>by
  have q:(H b).isSome = true:=(List.mem_filter.mp hm).2
  rw [n] at q; simp at q
theorem ZoH {h:Heap} {H:Hp} {b:Addr} {o:Obj} (e:(Zit h H).get? b = some o):h.get? b = some o ∧ H b = none:=by
 have e':h.get? b = some o:=PySem.W.of_hideAll (trk h H) e
 refine ⟨e',?_⟩
 cases q:H b with
 | none=>rfl
 | some x=>
  have hm:b ∈ trk h H:=List.mem_filter.mpr ⟨List.mem_range.mpr (Heap.lt_size e'),by simp [q]⟩
  have z:(Zit h H).get? b = none:=PySem.W.hideAll_none (trk h H) hm
  rw [z] at e; cases e
noncomputable def Zob (g h:Heap) (L:Addr):List (Addr × Obj):=(List.range h.objs.size).filterMap fun a=>if a = L ∨ (g.get? a).isSome = true then none else (h.get? a).map fun o=>(a,o)
noncomputable def rest (g h:Heap) (L d:Addr):List (Addr × Obj):=(Zob g h L).filter fun p=>decide (p.1 ≠ d)
end L2
namespace L2
open PySem PySem.Spec PyProof.Rows
structure Mod (K:PySem.W.Frag) (mg:Str → Option Value) (base:Heap):Prop where
 kin:K.In base
 glob:base.Ns mainGlobals mg
 blt:∃ mb,base.Ns builtinsNs mb ∧ ∀ x:Str,x ≠ "__name__" → mb x = bootBuiltins x
 nolimit:base.NoLimit
/-- the context: a def's body (or a comprehension's block) running. base: fixed through the whole law; s₀,H₀: the entry; outer: the frames whose slots others may change (a def's callers); stack: all frames that run;
  ex: iterators that were made ahead of the entry and are walked here (a comprehension's); fn: the names whose cells were made at the entry (a def: all; a comprehension's block: its own); calm: not within an except suite; pn: pins that every state bears; xe: what is wanted of an exception that leaves the code -/
structure Cx where
 prog:Program
 w:World
 K:PySem.W.Frag
 mg:Str → Option Value
 base:Heap
 A:Around
 N:List Str
 s₀:Shared
 H₀:Hp
 env:Env
 outer:List Env
 stack:List Env
 ex:List Addr
 fn:Str → Bool
 calm:Bool
 pn:List (Addr × Obj)
 xe:Value → Shared → Prop
noncomputable def frs (l:List Env):List Addr:=l.filterMap (·.frame)
noncomputable abbrev Cx.fs (X:Cx):List Addr:=frs X.outer
noncomputable def Vis (sc:Scope) (x:Str):Prop:=sc.names.lookup x = some .local ∨ sc.names.lookup x = some .cell ∨ sc.names.lookup x = some .free
noncomputable def Loc (sc:Scope) (x:Str):Prop:=sc.names.lookup x = some .local ∨ sc.names.lookup x = some .cell
noncomputable def Look (env:Env) (h:Heap) (m:Str → Option Value) (x:Str) (u:Value):Prop:=
 (env.kindOf x = some .local ∧ m x = some u) ∨ ((env.kindOf x = some .cell ∨ env.kindOf x = some .free) ∧ ∃ c,env.cells.lookup x = some c ∧ h.IsCell c (some u))
structure Cx.Ok (X:Cx):Prop where
 mod:Mod X.K X.mg X.base
 kind:X.env.scope.kind = .function
 glob:X.env.globals = mainGlobals
 blt:X.env.builtins = builtinsNs
 above:X.s₀.heap.objs.size ≤ X.env.locals
 inj:∀ x y c,X.env.cells.lookup x = some c → X.env.cells.lookup y = some c → x = y
 has:∀ x,(X.env.kindOf x = some .cell ∨ X.env.kindOf x = some .free) → ∃ c,X.env.cells.lookup x = some c
 cab:∀ x c,X.fn x = true → X.env.cells.lookup x = some c → X.s₀.heap.objs.size ≤ c
 hd:X.calm = true → X.A.handled = none
 frames:X.A.frames = some X.stack
 stk:X.stack = X.outer ∨ (X.stack = X.env :: X.outer ∧ X.env.frame = some X.env.locals)
 exf:∀ b ∈ X.ex,b ≠ X.env.locals ∧ ∀ x c,X.env.cells.lookup x = some c → c ≠ b
 bs:∀ b o,X.base.get? b = some o → X.s₀.heap.get? b = some o ∧ X.H₀ b = none
 bsz:X.base.objs.size ≤ X.s₀.heap.objs.size
 noex:∀ b o,X.base.get? b = some o → b ∉ X.ex
 exfs:∀ b ∈ X.ex,b ∉ X.fs
 funs:X.s₀.heap.FunFrames X.base X.outer
 frf:∀ b ∈ X.fs,X.H₀ b = none
structure Inv (X:Cx) (pins:List (Addr × Obj)) (σ:List (Option V)) (H:Hp) (s:Shared):Prop where
 ok:X.Ok
 os:s.os = X.s₀.os
 bare:AllBare s.gens
 base:Un X.fs X.ex X.H₀ H X.s₀.heap s.heap
 loc:∃ m,s.heap.Ns X.env.locals m ∧ ∀ (i:Nat) (x:Str) (v:V),X.N[i]? = some x → σ[i]? = some (some v) → Vis X.env.scope x → ∃ u,RelV v u ∧ Look X.env s.heap m x u
 cell:∀ x c,X.env.cells.lookup x = some c → ∃ v,s.heap.IsCell c v
 free:H X.env.locals = none
 freeC:∀ x c,X.env.cells.lookup x = some c → H c = none
 pin:∀ p ∈ X.pn ++ pins,s.heap.get? p.1 = some p.2 ∧ H p.1 = none ∧ p.1 ≠ X.env.locals ∧ p.1 ∉ X.fs ∧ ∀ v,p.2.data ≠ .cell v
 hok:HOk X.prog X.w H s.heap
 len:σ.length = X.N.length
section
variable {X:Cx} {pins:List (Addr × Obj)} {σ:List (Option V)} {H H':Hp} {s:Shared} {h':Heap}
theorem Cx.Ok.nofr (ok:X.Ok) {b:Addr} {o:Obj} (e:X.base.get? b = some o):b ∉ X.fs:=fun hb=>by
 have:=(ok.funs.mem hb).1
 rw [e] at this; cases this
theorem Inv.bs (I:Inv X pins σ H s):∀ b o,X.base.get? b = some o → s.heap.get? b = some o ∧ H b = none:=fun b o e=>
 ⟨I.base.keep b o (I.ok.bs b o e).1 (I.ok.bs b o e).2 (I.ok.nofr e) (I.ok.noex b o e),I.base.free b o (I.ok.bs b o e).1 (I.ok.bs b o e).2 (I.ok.noex b o e)⟩
theorem Inv.bk (I:Inv X pins σ H s):∀ b o,X.base.get? b = some o → s.heap.get? b = some o:=fun b o e=>(I.bs b o e).1
theorem Inv.mod (I:Inv X pins σ H s):Mod X.K X.mg X.base:=I.ok.mod
theorem Inv.kIn (I:Inv X pins σ H s):X.K.In s.heap:=I.ok.mod.kin.keeps I.bk
theorem Inv.nolimit (I:Inv X pins σ H s):s.heap.NoLimit:=I.ok.mod.nolimit.keeps I.bk
theorem Inv.fr (I:Inv X pins σ H s):∃ m,Fr X.base X.env.locals s.heap m:=
 let ⟨m,hn,_⟩:=I.loc
 ⟨m,hn,I.bk,Nat.le_trans I.ok.bsz I.ok.above⟩
theorem Inv.lt (I:Inv X pins σ H s):X.env.locals < s.heap.objs.size:=let ⟨_,hn,_⟩:=I.loc; hn.lt
theorem Inv.sz (I:Inv X pins σ H s):X.s₀.heap.objs.size ≤ s.heap.objs.size:=Nat.le_trans I.ok.above (Nat.le_of_lt I.lt)
theorem Inv.nofs (I:Inv X pins σ H s) {a:Addr} (h:s.heap.objs.size ≤ a):a ∉ X.fs:=fun hb=>by
 obtain ⟨_,o,ho,_⟩:=I.ok.funs.mem hb
 exact absurd (Nat.lt_of_lt_of_le (Heap.lt_size ho) (Nat.le_trans I.sz h)) (Nat.lt_irrefl _)
theorem Inv.cne (I:Inv X pins σ H s):∀ x c,X.env.cells.lookup x = some c → c ≠ X.env.locals:=fun x c e z=>by
 obtain ⟨v,o,ho,hd⟩:=I.cell x c e
 obtain ⟨m,⟨o',es,ep,ho',hd',_⟩,_⟩:=I.loc
 rw [z,ho'] at ho; cases ho; rw [hd'] at hd; cases hd
theorem Inv.funs (I:Inv X pins σ H s):s.heap.FunFrames X.base X.outer:=by
 have all:∀ (l:List Env),(∀ b ∈ frs l,b ∈ X.fs) → X.s₀.heap.FunFrames X.base l → s.heap.FunFrames X.base l:=by
  intro l
  induction l with
  | nil=>intro _ _; trivial
  | cons env r ih=>
   intro hs hl
   obtain ⟨hk,⟨L,o,hf,hn,ho,hd⟩,hr⟩:=hl
   have hL:L ∈ X.fs:=hs L (by unfold frs; rw [List.filterMap_cons,hf]; exact List.mem_cons_self)
   obtain ⟨sl,e⟩:=I.base.slot L o ho (I.ok.frf L hL) hL fun z=>I.ok.exfs L z hL
   exact ⟨hk,⟨L,_,hf,hn,e,hd⟩,ih (fun b hb=>hs b (by unfold frs; rw [List.filterMap_cons,hf]; exact List.mem_cons_of_mem _ hb)) hr⟩
 exact all X.outer (fun _ hb=>hb) I.ok.funs
theorem Inv.stack (I:Inv X pins σ H s):s.heap.FunFrames X.base X.stack:=by
 rcases I.ok.stk with e | ⟨e,hf⟩
 ·rw [e]; exact I.funs
 ·rw [e]
  obtain ⟨m,hn,_⟩:=I.loc
  refine .cons (by rw [I.ok.kind]; decide) hf hn ?_ I.funs
  exact Heap.get?_none_of_le (Nat.le_trans I.ok.bsz I.ok.above)
theorem Inv.stkSub (I:Inv X pins σ H s):∀ b ∈ frs X.stack,b ∈ X.env.locals :: X.fs:=fun b hb=>by
 rcases I.ok.stk with e | ⟨e,hf⟩
 ·rw [e] at hb; exact List.mem_cons_of_mem _ hb
 ·rw [e] at hb
  unfold frs at hb
  rw [List.filterMap_cons,hf] at hb
  exact hb
theorem Inv.stkFree (I:Inv X pins σ H s):∀ b ∈ frs X.stack,H b = none:=fun b hb=>by
 rcases List.mem_cons.mp (I.stkSub b hb) with e | hb
 ·rw [e]; exact I.free
 ·obtain ⟨_,o,ho,_⟩:=I.ok.funs.mem hb
  exact I.base.free b o ho (I.ok.frf b hb) fun z=>I.ok.exfs b z hb
theorem Inv.step {g':Array GenState} {t':Nat} {d':Drawn} {ch:List Addr} (I:Inv X pins σ H s)
  (hch:∀ b ∈ ch,(b ∈ X.ex ∨ X.s₀.heap.objs.size ≤ b) ∧ b ≠ X.env.locals ∧ (∀ x c,X.env.cells.lookup x = some c → c ≠ b) ∧ ∀ p ∈ X.pn ++ pins,p.1 ≠ b)
  (keep:∀ b o,b ≠ X.env.locals → b ∉ X.fs → b ∉ ch → s.heap.get? b = some o → H b = none → h'.get? b = some o)
  (slot:∀ b o,b ≠ X.env.locals → b ∈ X.fs → b ∉ ch → s.heap.get? b = some o → H b = none → ∃ sl,h'.get? b = some { o with slots:=sl }) (free:∀ b o,b ∉ ch → s.heap.get? b = some o → H b = none → H' b = none)
  (there:∀ b o,b ∉ ch → s.heap.get? b = some o → ∃ o',h'.get? b = some o')
  (tups:∀ b xs,H b = some (.tup xs) → H' b = some (.tup xs)) (frzs:∀ b o u,H b = some (.frz o u) → H' b = some (.frz o u)) (tbls:∀ b ps,H b = some (.tbl ps) → ∃ more,H' b = some (.tbl (ps ++ more)))
  (ns:∀ m,s.heap.Ns X.env.locals m → h'.Ns X.env.locals m) (hok:HOk X.prog X.w H' h') (hg:AllBare g'):
  Inv X pins σ H' { s with heap:=h',gens:=g',drawn:=d',toks:=t' }:=by
 have neL:∀ b o,X.s₀.heap.get? b = some o → b ≠ X.env.locals:=fun b o e=>Nat.ne_of_lt (Nat.lt_of_lt_of_le (Heap.lt_size e) I.ok.above)
 have neC:∀ b o,X.s₀.heap.get? b = some o → b ∉ X.ex → b ∉ ch:=fun b o e hx hb=>by
  rcases (hch b hb).1 with z | z
  ·exact hx z
  ·exact absurd (Nat.lt_of_lt_of_le (Heap.lt_size e) z) (Nat.lt_irrefl _)
 have cellK:∀ x c,X.env.cells.lookup x = some c → ∀ v,s.heap.IsCell c v → h'.IsCell c v:=fun x c e v zz1=>by
  obtain ⟨o,ho,hd⟩:=zz1
  have nch:c ∉ ch:=fun z=>(hch c z).2.2.1 x c e rfl
  by_cases hc:c ∈ X.fs
  ·obtain ⟨sl,q⟩:=slot c o (I.cne x c e) hc nch ho (I.freeC x c e)
   exact ⟨_,q,hd⟩
  ·exact ⟨o,keep c o (I.cne x c e) hc nch ho (I.freeC x c e),hd⟩
 refine ⟨I.ok,I.os,hg,⟨fun b o e n hb hx=>?_,fun b o e n hb hx=>?_,fun b o e n hx=>?_,fun b o e hx=>?_,fun b xs e=>tups b xs (I.base.tups b xs e),fun b o xs e=>frzs b o xs (I.base.frzs b o xs e),fun b ps e=>?_⟩,?_,fun x c e=>?_,?_,fun x c e=>?_,fun p hp=>?_,hok,I.len⟩
 ·exact keep b o (neL b o e) hb (neC b o e hx) (I.base.keep b o e n hb hx) (I.base.free b o e n hx)
 ·obtain ⟨sl,e1⟩:=I.base.slot b o e n hb hx
  obtain ⟨sl',e2⟩:=slot b _ (neL b o e) hb (neC b o e hx) e1 (I.base.free b o e n hx)
  exact ⟨sl',e2⟩
 ·obtain ⟨o',e1⟩:=I.base.there b o e hx
  exact free b o' (neC b o e hx) e1 (I.base.free b o e n hx)
 ·obtain ⟨o',e1⟩:=I.base.there b o e hx
  exact there b o' (neC b o e hx) e1
 ·obtain ⟨m1,e1⟩:=I.base.tbls b ps e
  obtain ⟨m2,e2⟩:=tbls b _ e1
  exact ⟨m1 ++ m2,by rw [e2,Array.append_assoc]⟩
 ·obtain ⟨m,hn,hl⟩:=I.loc
  refine ⟨m,ns m hn,fun i x v e1 e2 e3=>?_⟩
  obtain ⟨u,r,l⟩:=hl i x v e1 e2 e3
  refine ⟨u,r,?_⟩
  rcases l with l | ⟨k,c,e,z⟩
  ·exact .inl l
  ·exact .inr ⟨k,c,e,cellK x c e _ z⟩
 ·obtain ⟨v,z⟩:=I.cell x c e
  exact ⟨v,cellK x c e v z⟩
 ·obtain ⟨m,⟨o,_,_,ho,_⟩,_⟩:=I.loc
  exact free _ o (fun z=>(hch _ z).2.1 rfl) ho I.free
 ·obtain ⟨v,o,ho,hd⟩:=I.cell x c e
  exact free c o (fun z=>(hch c z).2.2.1 x c e rfl) ho (I.freeC x c e)
 ·obtain ⟨e,n,ne,nf,d⟩:=I.pin p hp
  have nch:p.1 ∉ ch:=fun z=>(hch p.1 z).2.2.2 p hp rfl
  exact ⟨keep p.1 p.2 ne nf nch e n,free p.1 p.2 nch e n,ne,nf,d⟩
theorem Inv.un {t':Nat} (I:Inv X pins σ H s) (u:Un X.fs [] H H' s.heap h') (hok:HOk X.prog X.w H' h'):Inv X pins σ H' { s with heap:=h',toks:=t' }:=by
 obtain ⟨m,⟨o,es,ep,ho,r⟩,_⟩:=id I.loc
 obtain ⟨sl,hL⟩:=u.any ho I.free (by simp)
 exact I.step (g':=s.gens) (d':=s.drawn) (ch:=[]) (fun _ z=>nomatch z) (fun b o _ hb _ e n=>u.keep b o e n hb (by simp)) (fun b o _ hb _ e n=>u.slot b o e n hb (by simp)) (fun b o _ e n=>u.free b o e n (by simp)) (fun b o _ e=>u.there b o e (by simp)) u.tups u.frzs u.tbls (fun m' hm=>by
  obtain ⟨o',es',ep',ho',r'⟩:=hm
  rw [ho] at ho'; cases ho'
  exact ⟨_,es',ep',hL,r'⟩) hok I.bare
theorem Inv.call {g':Array GenState} {t':Nat} {d':Drawn} {ch:List Addr} (I:Inv X pins σ H s) (u:Un (frs X.stack) ch H H' s.heap h') (hok:HOk X.prog X.w H' h') (hg:AllBare g')
  (hch:∀ b ∈ ch,(b ∈ X.ex ∨ X.s₀.heap.objs.size ≤ b) ∧ b ≠ X.env.locals ∧ (∀ x c,X.env.cells.lookup x = some c → c ≠ b) ∧ ∀ p ∈ X.pn ++ pins,p.1 ≠ b):
  Inv X pins σ H' { s with heap:=h',gens:=g',drawn:=d',toks:=t' }:=by
 obtain ⟨m,⟨o,es,ep,ho,r⟩,_⟩:=id I.loc
 obtain ⟨sl,hL⟩:=u.any ho I.free fun z=>(hch _ z).2.1 rfl
 exact I.step (ch:=ch) hch (fun b o hL hb hc e n=>u.keep b o e n (fun z=>(List.mem_cons.mp (I.stkSub b z)).elim hL hb) hc) (fun b o _ _ hc e n=>u.any e n hc) (fun b o hc e n=>u.free b o e n hc) (fun b o hc e=>u.there b o e hc) u.tups u.frzs u.tbls (fun m' hm=>by
  obtain ⟨o',es',ep',ho',r'⟩:=hm
  rw [ho] at ho'; cases ho'
  exact ⟨_,es',ep',hL,r'⟩) hok hg
theorem Inv.turned {t':Nat} {it:Addr} (I:Inv X pins σ H s) (k:∀ b o,b ≠ it → s.heap.get? b = some o → h'.get? b = some o) (hn:H it = none) (hL:it ≠ X.env.locals)
  (h1:it ∈ X.ex ∨ X.s₀.heap.objs.size ≤ it) (h2:∀ x c,X.env.cells.lookup x = some c → c ≠ it) (h3:∀ p ∈ X.pn ++ pins,p.1 ≠ it):Inv X pins σ H { s with heap:=h',toks:=t' }:=by
 have nit:∀ b u,H b = some u → b ≠ it:=fun b u e z=>by rw [z,hn] at e; cases e
 refine I.step (g':=s.gens) (d':=s.drawn) (ch:=[it]) (fun b hb=>?_) (fun b o _ _ hc e _=>k b o (fun z=>hc (by simp [z])) e) (fun b o _ _ hc e _=>⟨o.slots,k b o (fun z=>hc (by simp [z])) e⟩) (fun _ _ _ _ n=>n)
  (fun b o hc e=>⟨o,k b o (fun z=>hc (by simp [z])) e⟩) (fun _ _ e=>e) (fun _ _ _ e=>e) (fun b ps e=>⟨#[],by rw [e]; simp⟩) (fun m hm=>?_) (fun b u e=>?_) I.bare
 ·have e:b = it:=by simpa using hb
  subst e
  exact ⟨h1,hL,h2,h3⟩
 ·obtain ⟨o,es,ep,ho,r⟩:=hm
  exact ⟨o,es,ep,k _ o (Ne.symm hL) ho,r⟩
 ·refine (I.hok b u e).stay (fun c v hc q=>k c v ?_ q) (fun _ q=>q) fun _ _ q=>q
  rcases hc with z | z
  ·rw [z]; exact nit b u e
  ·exact nit c _ z
theorem Inv.tok (I:Inv X pins σ H s) (t:Nat):Inv X pins σ H { s with toks:=t }:=I.un (h':=s.heap) (t':=t) Un.refl I.hok
theorem Inv.kept {t':Nat} (I:Inv X pins σ H s) (k:∀ b u,s.heap.get? b = some u → h'.get? b = some u):Inv X pins σ H { s with heap:=h',toks:=t' }:=I.un (Un.kept k) (I.hok.kept k)
theorem Inv.laid {a:Addr} {o:HO} {t':Nat} (I:Inv X pins σ H s) (k:∀ b u,s.heap.get? b = some u → h'.get? b = some u) (hp:s.heap.objs.size ≤ a) (new:Zbj X.prog X.w (upd H a o) h' a o):
  Inv X pins σ (upd H a o) { s with heap:=h',toks:=t' }:=I.un (Un.laid k hp (I.hok.fresh hp)) (I.hok.laid k hp new)
theorem Inv.write {x e:Addr} {o:HO} {t':Nat} (I:Inv X pins σ H s) (mu:Mut (H x)) (he:e = x ∨ H e = some (.own x)) (k:∀ b u,b ≠ e → s.heap.get? b = some u → h'.get? b = some u) (heo:∃ u,h'.get? e = some u)
  (new:Zbj X.prog X.w (upd H x o) h' x o):Inv X pins σ (upd H x o) { s with heap:=h',toks:=t' }:=I.un (Un.write mu he k heo) (I.hok.write mu he k heo new)
theorem Inv.pins_of {pins':List (Addr × Obj)} (I:Inv X pins σ H s) (h:∀ p ∈ pins',s.heap.get? p.1 = some p.2 ∧ H p.1 = none ∧ p.1 ≠ X.env.locals ∧ p.1 ∉ X.fs ∧ ∀ v,p.2.data ≠ .cell v):Inv X pins' σ H s:=
 ⟨I.ok,I.os,I.bare,I.base,I.loc,I.cell,I.free,I.freeC,fun p hp=>(List.mem_append.mp hp).elim (fun z=>I.pin p (List.mem_append_left _ z)) (h p),I.hok,I.len⟩
theorem Zjq {N:List Str} (hN:N.Nodup) {i j:Nat} {x:Str} (a:N[i]? = some x) (b:N[j]? = some x):i = j:=by
 obtain ⟨h1,e1⟩:=List.getElem?_eq_some_iff.mp a
 obtain ⟨h2,e2⟩:=List.getElem?_eq_some_iff.mp b
 exact (List.getElem_inj hN).mp (e1.trans e2.symm)
theorem Zif {M:Model} {A:Around} {E:Value → Shared → Prop} {i:Nat} {x:Str} {v:V} {u:Value} {Q:Unit → Shared → Prop} (I:Inv X pins σ H s) (hN:X.N.Nodup) (hi:X.N[i]? = some x) (hx:Loc X.env.scope x) (r:RelV v u)
  (h:∀ s',Inv X pins (σ.set i (some v)) H s' → (∃ a,Heap.SameBut a s.heap s'.heap ∧ (a = X.env.locals ∨ X.env.cells.lookup x = some a)) → Q () s') (hf:X.fn x = true ∨ X.env.scope.names.lookup x = some .local:=by first | exact .inl rfl | exact .inr rfl | assumption):wpAny M A (storeName X.env x u) Q E s:=by
 obtain ⟨m,hn,hl⟩:=id I.loc
 have hcls:(X.env.scope.kind == .class || (X.env.scope.kind == .module && X.env.locals != X.env.globals)) = false:=by rw [I.ok.kind]; rfl
 have hiσ:i < σ.length:=by rw [I.len]; exact (List.getElem?_eq_some_iff.mp hi).1
 have cne:=I.cne
 have tracked:∀ {a:Addr} {h':Heap},(∃ o,s.heap.get? a = some o ∧ H a = none) → Heap.SameBut a s.heap h' → HOk X.prog X.w H h':=fun {a h'} ha hs b ob e=>by
  obtain ⟨_,_,hfree⟩:=ha
  refine (I.hok b ob e).stay (fun c w' hc q=>(hs.2 c ?_).trans q) (fun _ q=>q) fun _ _ q=>q
  rintro rfl
  rcases hc with rfl | hc
  ·rw [hfree] at e; cases e
  ·rw [hfree] at hc; cases hc
 rcases hx with hk | hk
 ·refine wpAny_storeName_local hk hn (fun h' hn' hs=>?_) hcls
  obtain ⟨oL,_,_,hoL,_⟩:=id hn
  refine h _ ⟨I.ok,I.os,I.bare,⟨fun b o e n hb hx=>?_,fun b o e n hb hx=>?_,I.base.free,fun b o e hx=>?_,I.base.tups,I.base.frzs,I.base.tbls⟩,⟨_,hn',fun j y v' e1 e2 e3=>?_⟩,fun y c e=>?_,I.free,I.freeC,fun p hp=>?_,tracked ⟨oL,hoL,I.free⟩ hs,by simpa using I.len⟩ ⟨_,hs,.inl rfl⟩
  ·exact (hs.2 b (Nat.ne_of_lt (Nat.lt_of_lt_of_le (Heap.lt_size e) I.ok.above))).trans (I.base.keep b o e n hb hx)
  ·obtain ⟨sl,e1⟩:=I.base.slot b o e n hb hx
   exact ⟨sl,(hs.2 b (Nat.ne_of_lt (Nat.lt_of_lt_of_le (Heap.lt_size e) I.ok.above))).trans e1⟩
  ·obtain ⟨o',e1⟩:=I.base.there b o e hx
   exact ⟨o',(hs.2 b (Nat.ne_of_lt (Nat.lt_of_lt_of_le (Heap.lt_size e) I.ok.above))).trans e1⟩
  ·by_cases hj:j = i
   ·subst hj
    rw [hi] at e1; cases e1
    rw [List.getElem?_set_self hiσ] at e2
    cases e2
    exact ⟨u,r,.inl ⟨hk,by simp⟩⟩
   ·rw [List.getElem?_set_ne (Ne.symm hj)] at e2
    obtain ⟨u',r',q⟩:=hl j y v' e1 e2 e3
    refine ⟨u',r',?_⟩
    rcases q with ⟨k,e⟩ | ⟨k,c,e,z⟩
    ·refine .inl ⟨k,?_⟩
     have:y ≠ x:=fun e=>hj (Zjq hN e1 (e ▸ hi))
     simp [this,e]
    ·exact .inr ⟨k,c,e,z.sameBut hs (cne y c e)⟩
  ·obtain ⟨w',z⟩:=I.cell y c e
   exact ⟨w',z.sameBut hs (cne y c e)⟩
  ·obtain ⟨e,n,ne,nf,d⟩:=I.pin p hp
   exact ⟨(hs.2 p.1 ne).trans e,n,ne,nf,d⟩
 ·have hfn:X.fn x = true:=by
   rcases hf with z | z
   ·exact z
   ·rw [z] at hk; cases hk
  obtain ⟨c,hc⟩:=I.ok.has x (.inl hk)
  obtain ⟨w',z⟩:=I.cell x c hc
  refine wpAny_storeName_cell I.ok.kind hk hc z (fun h' hc' hs=>?_)
  obtain ⟨oc,hoc,hocd⟩:=id z
  refine h { s with heap:=h' } ⟨I.ok,I.os,I.bare,⟨fun b o e n hb hx=>?_,fun b o e n hb hx=>?_,I.base.free,fun b o e hx=>?_,I.base.tups,I.base.frzs,I.base.tbls⟩,⟨m,hn.sameBut hs (Ne.symm (cne x c hc)),fun j y v' e1 e2 e3=>?_⟩,fun y c' e=>?_,I.free,I.freeC,fun p hp=>?_,tracked ⟨oc,hoc,I.freeC x c hc⟩ hs,by simpa using I.len⟩ ⟨c,hs,.inr hc⟩
  ·exact (hs.2 b (Nat.ne_of_lt (Nat.lt_of_lt_of_le (Heap.lt_size e) (I.ok.cab x c hfn hc)))).trans (I.base.keep b o e n hb hx)
  ·obtain ⟨sl,e1⟩:=I.base.slot b o e n hb hx
   exact ⟨sl,(hs.2 b (Nat.ne_of_lt (Nat.lt_of_lt_of_le (Heap.lt_size e) (I.ok.cab x c hfn hc)))).trans e1⟩
  ·obtain ⟨o',e1⟩:=I.base.there b o e hx
   exact ⟨o',(hs.2 b (Nat.ne_of_lt (Nat.lt_of_lt_of_le (Heap.lt_size e) (I.ok.cab x c hfn hc)))).trans e1⟩
  ·by_cases hj:j = i
   ·subst hj
    rw [hi] at e1; cases e1
    rw [List.getElem?_set_self hiσ] at e2
    cases e2
    exact ⟨u,r,.inr ⟨.inl hk,c,hc,hc'⟩⟩
   ·rw [List.getElem?_set_ne (Ne.symm hj)] at e2
    obtain ⟨u',r',q⟩:=hl j y v' e1 e2 e3
    refine ⟨u',r',?_⟩
    rcases q with q | ⟨k,c',e,z'⟩
    ·exact .inl q
    ·refine .inr ⟨k,c',e,z'.sameBut hs ?_⟩
     rintro rfl
     exact hj (Zjq hN e1 (I.ok.inj _ _ _ e hc ▸ hi))
  ·by_cases hcc:c' = c
   ·subst hcc; exact ⟨_,hc'⟩
   ·obtain ⟨w2,z2⟩:=I.cell y c' e
    exact ⟨w2,z2.sameBut hs hcc⟩
  ·obtain ⟨e,n,ne,nf,d⟩:=I.pin p hp
   refine ⟨(hs.2 p.1 ?_).trans e,n,ne,nf,d⟩
   intro q
   rw [q,hoc] at e
   have q':oc = p.2:=Option.some.inj e
   exact d w' (by rw [← q']; exact hocd)
theorem ZjH {M:Model} {A:Around} {E:Value → Shared → Prop} {i:Nat} {x:Str} {v:V} {u:Value} {Q:Unit → Shared → Prop} (I:Inv X pins σ H s) (hN:X.N.Nodup) (hi:X.N[i]? = some x) (hx:Loc X.env.scope x) (r:RelV v u)
  (h:∀ s',Inv X pins (σ.set i (some v)) H s' → Q () s') (hf:X.fn x = true ∨ X.env.scope.names.lookup x = some .local:=by first | exact .inl rfl | exact .inr rfl | assumption):wpAny M A (storeName X.env x u) Q E s:=
 Zif I hN hi hx r (fun s' I' _=>h s' I') hf
theorem Inv.call' {s':Shared} {ch:List Addr} (I:Inv X pins σ H s) (ho:s'.os = s.os) (u:Un (frs X.stack) ch H H' s.heap s'.heap) (hok:HOk X.prog X.w H' s'.heap) (hg:AllBare s'.gens)
  (hch:∀ b ∈ ch,(b ∈ X.ex ∨ X.s₀.heap.objs.size ≤ b) ∧ b ≠ X.env.locals ∧ (∀ x c,X.env.cells.lookup x = some c → c ≠ b) ∧ ∀ p ∈ X.pn ++ pins,p.1 ≠ b):Inv X pins σ H' s':=by
 obtain ⟨h',g',d',t',o'⟩:=s'
 have e:o' = s.os:=ho
 subst e
 exact I.call (g':=g') (t':=t') (d':=d') u hok hg hch
end
noncomputable abbrev XK:=Value → Option Addr → Hp → Prop
noncomputable abbrev St:=List (Option V)
noncomputable abbrev VK:=V → Hp → Prop
noncomputable abbrev TE:=St → Hp → VK → Prop
noncomputable abbrev TT:=St → Hp → (Bool → Hp → Prop) → Prop
noncomputable abbrev TA:=St → Hp → (List V → Hp → Prop) → Prop
structure Ends where
 nx:St → Hp → Prop
 rt:VK
 bk:St → Hp → Prop:=fun _ _=>False
 ct:St → Hp → Prop:=fun _ _=>False
noncomputable abbrev TS:=Ends → St → Hp → Prop
noncomputable def EP (X:Cx) (pins:List (Addr × Obj)) (σ:St) (Q:VK) (u:Value) (s':Shared):Prop:=∃ v H',Inv X pins σ H' s' ∧ RelV v u ∧ Q v H'
noncomputable def TP (X:Cx) (pins:List (Addr × Obj)) (σ:St) (Q:Bool → Hp → Prop) (b:Bool) (s':Shared):Prop:=∃ H',Inv X pins σ H' s' ∧ Q b H'
noncomputable def AP (X:Cx) (pins:List (Addr × Obj)) (σ:St) (Q:List V → Hp → Prop) (us:List Value) (s':Shared):Prop:=∃ vs H',Inv X pins σ H' s' ∧ Vals vs us ∧ Q vs H'
noncomputable def SP (X:Cx) (pins:List (Addr × Obj)) (D:Ends) (f:Flow) (s':Shared):Prop:=
 match f with
 | .next=>∃ σ' H',Inv X pins σ' H' s' ∧ D.nx σ' H'
 | .brk=>∃ σ' H',Inv X pins σ' H' s' ∧ D.bk σ' H'
 | .cont=>∃ σ' H',Inv X pins σ' H' s' ∧ D.ct σ' H'
 | .ret u=>∃ v σ' H',Inv X pins σ' H' s' ∧ RelV v u ∧ D.rt v H'
noncomputable def PE (X:Cx) (e:Expr) (t:TE):Prop:=
 ∀ (pins:List (Addr × Obj)) (s:Shared) (σ:St) (H:Hp) (Q:VK),Inv X pins σ H s → t σ H Q → wpAny (model X.prog X.w) X.A (eval e X.env) (EP X pins σ Q) X.xe s
noncomputable def PT (X:Cx) (e:Expr) (t:TT):Prop:=
 ∀ (pins:List (Addr × Obj)) (s:Shared) (σ:St) (H:Hp) (Q:Bool → Hp → Prop),Inv X pins σ H s → t σ H Q → wpAny (model X.prog X.w) X.A (isTrue e X.env (eval e X.env)) (TP X pins σ Q) X.xe s
noncomputable def PW (X:Cx) (e:Expr) (t:TT):Prop:=
 ∀ (whole:Sem Value) (pins:List (Addr × Obj)) (s:Shared) (σ:St) (H:Hp) (Q:Bool → Hp → Prop),Inv X pins σ H s → t σ H Q → wpAny (model X.prog X.w) X.A (isTrue e X.env whole) (TP X pins σ Q) X.xe s
theorem PW.pt {X:Cx} {e:Expr} {t:TT} (h:PW X e t):PT X e t:=h _
noncomputable def PA (X:Cx) (es:List Expr) (t:TA):Prop:=
 ∀ (pos:Pos) (pins:List (Addr × Obj)) (s:Shared) (σ:St) (H:Hp) (Q:List V → Hp → Prop),Inv X pins σ H s → t σ H Q → wpAny (model X.prog X.w) X.A (spliced (backTo pos (starEach es X.env))) (AP X pins σ Q) X.xe s
noncomputable def PS (X:Cx) (st:Stmt) (t:TS):Prop:=
 ∀ (pins:List (Addr × Obj)) (s:Shared) (σ:St) (H:Hp) (D:Ends),Inv X pins σ H s → t D σ H → wpAny (model X.prog X.w) X.A (exec st X.env) (SP X pins D) X.xe s
noncomputable def PSs (X:Cx) (st:List Stmt) (t:TS):Prop:=
 ∀ (pins:List (Addr × Obj)) (s:Shared) (σ:St) (H:Hp) (D:Ends),Inv X pins σ H s → t D σ H → wpAny (model X.prog X.w) X.A (execs st X.env) (SP X pins D) X.xe s
theorem thn {α:Type} {t:Sem α} {Q Q':α → Shared → Prop} {M:Model} {A:Around} {E:Value → Shared → Prop} {s:Shared} (h:wpAny M A t Q E s) (hQ:∀ a s,Q a s → Q' a s):wpAny M A t Q' E s:=wpAny_mono h hQ fun _ _ x=>x
end L2
namespace L2
open PySem PySem.Spec PyProof.Rows
section
variable {X:Cx}
noncomputable def ZsA (i:Nat):TE:=fun σ H Q=>∃ v,σ[i]? = some (some v) ∧ Q v H
noncomputable def tC (v:V):TE:=fun _ H Q=>Q v H
theorem Zqe {i:Nat} {x:Str} {pos:Pos} (hN:X.N[i]? = some x) (hv:Vis X.env.scope x) (hd:(x == ("__debug__":Str)) = false:=by decide) (hcd:(x == ("__classdict__":Str)) = false:=by decide):PE X (.Name x pos) (ZsA i):=by
 intro pins s σ H Q I h
 obtain ⟨v,e,h⟩:=h
 obtain ⟨m,hn,hl⟩:=I.loc
 obtain ⟨u,r,l⟩:=hl i x v hN e hv
 have fin:EP X pins σ Q u s:=⟨v,H,I,r,h⟩
 rcases l with ⟨hk,hm⟩ | ⟨hk,c,hc,hcell⟩
 ·exact wpAny_Name (wpAny_loadName_local I.ok.kind hk hn hm fin) hd
 ·rcases hk with hk | hk
  ·exact wpAny_Name (wpAny_loadName_cell I.ok.kind hk hc hcell fin) hd
  ·exact wpAny_Name (wpAny_loadName_free I.ok.kind hk hc hcell fin hcd) hd
theorem ZpZ {i j pos}:PE X (.Constant (.int i) j pos) (tC (.int i)):=fun _ _ _ H _ I h=>wpAny_Constant_int ⟨.int i,H,I.tok _,⟨_,rfl⟩,h⟩
theorem Zq6 {b j pos}:PE X (.Constant (.bool b) j pos) (tC (.bl b)):=fun _ _ _ H _ I h=>Constant_bool ⟨.bl b,H,I,rfl,h⟩
theorem Zp4 {j pos}:PE X (.Constant .none j pos) (tC .non):=fun _ _ _ H _ I h=>Constant_none ⟨.non,H,I,rfl,h⟩
theorem ZpS {x j pos}:PE X (.Constant (.str x) j pos) (tC (.str x)):=fun _ _ _ H _ I h=>Calls.Constant_str ⟨.str x,H,I.tok _,⟨_,rfl⟩,h⟩
noncomputable def Gl (X:Cx) (x:Str):Prop:=X.env.kindOf x = some .globalImplicit
theorem ZkJ {E:Value → Shared → Prop} {pins:List (Addr × Obj)} {s:Shared} {σ:St} {H:Hp} {x:Str} {u:Value} {pos:Pos} {Q:Value → Shared → Prop} (I:Inv X pins σ H s) (hg:Gl X x) (hm:X.mg x = some u) (h:Q u s)
  (hd:(x == ("__debug__":Str)) = false:=by decide):wpAny (model X.prog X.w) X.A (eval (.Name x pos) X.env) Q E s:=
 Calls.Name_function_global I.ok.kind hg (Calls.loadGlobal_global (by rw [I.ok.glob]; exact I.mod.glob.keeps I.bk) hm h) hd
theorem Zf0 {E:Value → Shared → Prop} {pins:List (Addr × Obj)} {s:Shared} {σ:St} {H:Hp} {x:Str} {u:Value} {pos:Pos} {Q:Value → Shared → Prop} (I:Inv X pins σ H s) (hg:Gl X x) (hm:X.mg x = none) (hv:bootBuiltins x = some u) (h:Q u s)
  (hn:x ≠ "__name__":=by decide) (hd:(x == ("__debug__":Str)) = false:=by decide):wpAny (model X.prog X.w) X.A (eval (.Name x pos) X.env) Q E s:=by
 obtain ⟨mb,h1,h2⟩:=I.mod.blt
 exact Calls.Name_function_global I.ok.kind hg (Calls.loadGlobal_builtin (by rw [I.ok.glob]; exact I.mod.glob.keeps I.bk) hm (by rw [I.ok.blt]; exact h1.keeps I.bk) ((h2 x hn).trans hv) h) hd
theorem ZoM {x:Str} {v:V} {u:Value} {pos:Pos} (hg:Gl X x) (hm:X.mg x = none) (hv:bootBuiltins x = some u) (r:RelV v u) (hn:x ≠ "__name__":=by decide) (hd:(x == ("__debug__":Str)) = false:=by decide):PE X (.Name x pos) (tC v):=
 fun _ _ _ H _ I h=>Zf0 I hg hm hv ⟨v,H,I,r,h⟩ hn hd
variable {a b:Expr} {ta tb:TE} {pos:Pos}
noncomputable def tB (t:TE):TT:=fun σ H Q=>t σ H fun x H1=>∃ c,x = .bl c ∧ Q c H1
theorem ZqJ {e:Expr} {t:TE} (h:PE X e t) (he:∀ whole,isTrue e X.env whole = (do let v ← whole; standAt e.pos; holding [v] (truthy v)):=by intro _; rfl):PT X e (tB t):=by
 intro pins s σ H Q I hw
 refine isTrue_plain (thn (h pins s σ H _ I hw) fun v s1 zz1=>?_) (he _)
 obtain ⟨x,H1,I1,r1,q1⟩:=zz1
 obtain ⟨d,rfl,q⟩:=q1
 cases r1
 exact wpAny_truthy_bool ⟨H1,I1,q⟩
variable {tA tB':TT} {rest:List Expr}
noncomputable def Zs1 (t u:TT):TT:=fun σ H Q=>t σ H fun c H1=>if c = true then u σ H1 Q else Q false H1
noncomputable def tOr (t u:TT):TT:=fun σ H Q=>t σ H fun c H1=>if c = true then Q true H1 else u σ H1 Q
noncomputable def ZsK (t:TT):TT:=fun σ H Q=>t σ H fun c H1=>Q (!c) H1
theorem Zos (ha:PT X a tA):PW X (.BoolOp .And [a] pos) tA:=by
 intro wh pins s σ H Q I h
 refine isTrue_and (thn (ha pins s σ H Q I h) fun c s1 e=>?_)
 cases c with
 | true=>exact isTrue_and_nil e
 | false=>exact e
theorem Zp3 (ha:PT X a tA):PW X (.BoolOp .Or [a] pos) tA:=by
 intro wh pins s σ H Q I h
 refine isTrue_or (thn (ha pins s σ H Q I h) fun c s1 e=>?_)
 cases c with
 | false=>exact isTrue_or_nil e
 | true=>exact e
theorem Zqz (ha:PT X a tA) (hb:PW X (.BoolOp .And (b :: rest) pos) tB'):PW X (.BoolOp .And (a :: b :: rest) pos) (Zs1 tA tB'):=by
 intro wh pins s σ H Q I h
 refine isTrue_and (thn (ha pins s σ H _ I h) fun c s1 zz1=>?_)
 obtain ⟨H1,I1,q1⟩:=zz1
 cases c with
 | true=>exact hb wh pins s1 σ H1 Q I1 q1
 | false=>exact ⟨H1,I1,q1⟩
theorem Zrj (ha:PT X a tA) (hb:PW X (.BoolOp .Or (b :: rest) pos) tB'):PW X (.BoolOp .Or (a :: b :: rest) pos) (tOr tA tB'):=by
 intro wh pins s σ H Q I h
 refine isTrue_or (thn (ha pins s σ H _ I h) fun c s1 zz1=>?_)
 obtain ⟨H1,I1,q1⟩:=zz1
 cases c with
 | true=>exact ⟨H1,I1,q1⟩
 | false=>exact hb wh pins s1 σ H1 Q I1 q1
theorem Zqj (ha:PT X a tA):PT X (.UnaryOp .Not a pos) (ZsK tA):=by
 intro pins s σ H Q I h
 exact isTrue_not (ha pins s σ H (fun c H1=>Q (!c) H1) I h)
noncomputable def Zr5 (ta tb:TE):TE:=fun σ H Q=>ta σ H fun x H1=>∃ c,x = .bl c ∧ if c = true then tb σ H1 Q else Q (.bl false) H1
noncomputable def ZrD (ta:TE):TE:=fun σ H Q=>ta σ H fun x H1=>∃ c,x = .bl c ∧ Q (.bl (!c)) H1
theorem ZqB {op} {t:TE} (h:PE X a t):PE X (.BoolOp op [a] pos) t:=fun pins s σ H Q I hw=>BoolOp_one (h pins s σ H Q I hw)
theorem ZpA (ha:PE X a ta) (hb:PE X (.BoolOp .And (b :: rest) pos) tb):PE X (.BoolOp .And (a :: b :: rest) pos) (Zr5 ta tb):=by
 intro pins s σ H Q I h
 refine BoolOp_and (thn (ha pins s σ H _ I h) fun v s1 zz1=>?_)
 obtain ⟨x,H1,I1,r1,q1⟩:=zz1
 obtain ⟨c,rfl,q1⟩:=q1
 cases r1
 refine wpAny_truthy_bool ?_
 cases c with
 | true=>exact hb pins s1 σ H1 Q I1 q1
 | false=>exact ⟨.bl false,H1,I1,rfl,q1⟩
theorem ZqD (ha:PE X a ta):PE X (.UnaryOp .Not a pos) (ZrD ta):=by
 intro pins s σ H Q I h
 refine UnaryOp_ (thn (ha pins s σ H _ I h) fun v s1 zz1=>?_)
 obtain ⟨x,H1,I1,r1,q1⟩:=zz1
 obtain ⟨c,rfl,q1⟩:=q1
 cases r1
 exact not_of (wpAny_truthy_bool ⟨.bl (!c),H1,I1,rfl,q1⟩)
noncomputable def tIf (t:TT) (ta tb:TE):TE:=fun σ H Q=>t σ H fun c H1=>if c = true then ta σ H1 Q else tb σ H1 Q
theorem ZmY {c:Expr} (hc:PT X c tA) (ha:PE X a ta) (hb:PE X b tb):PE X (.IfExp c a b pos) (tIf tA ta tb):=by
 intro pins s σ H Q I h
 refine wpAny_IfExp (thn (hc pins s σ H _ I h) fun d s1 zz1=>?_)
 obtain ⟨H1,I1,q1⟩:=zz1
 cases d with
 | true=>exact ha pins s1 σ H1 Q I1 q1
 | false=>exact hb pins s1 σ H1 Q I1 q1
end
end L2
namespace L2
open PySem PySem.Spec PyProof.Rows
noncomputable def SqL (K:PySem.W.Frag) (H:Hp) (a:Addr) (xs:List V):Prop:=
 Rd H a (.lst xs) ∨
  ∃ (o:Obj) (its:Array Value) (n:Nat),K.lookup a = some o ∧ o.cls = .type "list" ∧ o.dict = none ∧ o.data = .seq its n ∧ its.size ≤ sizeLine ∧ Vals xs its.toList
noncomputable def SqT (K:PySem.W.Frag) (H:Hp) (a:Addr) (xs:List V):Prop:=
 Rd H a (.tup xs) ∨
  ∃ (o:Obj) (its:Array Value) (n:Nat),K.lookup a = some o ∧ (o.cls = .type "tuple" ∧ o.dict = none) ∧ o.data = .seq its n ∧ its.size ≤ sizeLine ∧ Vals xs its.toList
noncomputable def ZsO:Value → Option V
 | .none=>some .non
 | .bool b=>some (.bl b)
 | .int i _=>some (.int i)
 | .str x _=>some (.str x)
 | .bytes b _=>some (.byt b)
 | .float b _=>some (.flt b)
 | .ref a=>some (.ref a)
 | .type n=>some (.ty n)
 | _=>none
theorem RelV.abs {x:V} {u:Value} (r:RelV x u):ZsO u = some x:=by
 cases x with
 | non=>cases r; rfl
 | bl _=>cases r; rfl
 | int _=>obtain ⟨t,rfl⟩:=r; rfl
 | str _=>obtain ⟨t,rfl⟩:=r; rfl
 | byt _=>obtain ⟨t,rfl⟩:=r; rfl
 | flt _=>obtain ⟨t,rfl⟩:=r; rfl
 | ref _=>cases r; rfl
 | ty _=>cases r; rfl
theorem RelV.inj {x y:V} {u:Value} (r:RelV x u) (q:RelV y u):x = y:=Option.some.inj (r.abs.symm.trans q.abs)
theorem Vals.inj:∀ {xs ys:List V} {us:List Value},Vals xs us → Vals ys us → xs = ys
 | _,_,_,.nil,.nil=>rfl
 | _,_,_,.cons r t,.cons r' t'=>by rw [r.inj r',Vals.inj t t']
section
variable {X:Cx} {pins:List (Addr × Obj)} {σ:St} {H:Hp} {s:Shared} {a:Addr} {xs ys:List V}
theorem SqL.of {K:PySem.W.Frag} (h:H a = some (.lst xs)):SqL K H a xs:=.inl (.inl h)
theorem SqT.of {K:PySem.W.Frag} (h:H a = some (.tup xs)):SqT K H a xs:=.inl (.inl h)
theorem Inv.list (I:Inv X pins σ H s) (h:SqL X.K H a xs):∃ its:List Value,Vals xs its ∧ PlainL s.heap a its.toArray ∧ xs.length ≤ sizeLine:=by
 rcases h with h | ⟨o,its,n,hk,hc,hd,hs,hz,r⟩
 ·obtain ⟨z,its,n,r,e⟩:=h.ok I.hok
  exact ⟨its,r,⟨_,n,e,rfl,rfl,rfl⟩,z⟩
 ·refine ⟨its.toList,r,⟨o,n,I.kIn a o hk,hc,hd,by simpa using hs⟩,?_⟩
  have e:=r.length
  simp only [Array.length_toList] at e
  exact lC 2 2199576973345 T1 e hz
theorem Inv.tuple (I:Inv X pins σ H s) (h:SqT X.K H a xs):∃ its:List Value,Vals xs its ∧ IsTup s.heap a its.toArray ∧ xs.length ≤ sizeLine:=by
 rcases h with h | ⟨o,its,n,hk,hc,hs,hz,r⟩
 ·obtain ⟨z,its,r,p⟩:=h.ok I.hok
  exact ⟨its,r,p.tup,z⟩
 ·refine ⟨its.toList,r,⟨o,I.kIn a o hk,hc.1,n,by simpa using hs⟩,?_⟩
  have e:=r.length
  simp only [Array.length_toList] at e
  exact lC 2 2199576973345 T1 e hz
theorem Inv.list_inj (I:Inv X pins σ H s) (h:SqL X.K H a xs) (h':SqL X.K H a ys):xs = ys:=by
 obtain ⟨its,r,⟨o,n,e,_,_,d⟩,_⟩:=I.list h
 obtain ⟨its',r',⟨o',n',e',_,_,d'⟩,_⟩:=I.list h'
 rw [e] at e'; cases e'
 rw [d] at d'
 injection d' with d1 _
 have:its = its':=by simpa using congrArg Array.toList d1
 subst this
 exact r.inj r'
theorem Inv.tupleN (I:Inv X pins σ H s) (h:SqT X.K H a xs):∃ its:List Value,Vals xs its ∧ Zds s.heap a its.toArray ∧ xs.length ≤ sizeLine:=by
 rcases h with h | ⟨o,its,n,hk,hc,hs,hz,r⟩
 ·obtain ⟨z,its,r,p⟩:=h.ok I.hok; exact ⟨its,r,p,z⟩
 ·refine ⟨its.toList,r,⟨o,I.kIn a o hk,hc,n,by simpa using hs⟩,?_⟩; have e:=r.length; simp only [Array.length_toList] at e; exact lC 2 2199576973345 T1 e hz
theorem Inv.tuple_inj (I:Inv X pins σ H s) (h:SqT X.K H a xs) (h':SqT X.K H a ys):xs = ys:=by
 obtain ⟨its,r,⟨o,e,_,n,d⟩,_⟩:=I.tuple h
 obtain ⟨its',r',⟨o',e',_,n',d'⟩,_⟩:=I.tuple h'
 rw [e] at e'; cases e'
 rw [d] at d'
 injection d' with d1 _
 have:its = its':=by simpa using congrArg Array.toList d1
 subst this
 exact r.inj r'
end
noncomputable abbrev Cx.wish (X:Cx) (E:Value → Shared → Prop):Cx:={ X with xe:=E }
noncomputable abbrev Cx.nox (X:Cx):Cx:=X.wish fun _ _=>False
theorem Cx.Ok.wish {X:Cx} (ok:X.Ok) (E:Value → Shared → Prop):(X.wish E).Ok:=
 ⟨ok.mod,ok.kind,ok.glob,ok.blt,ok.above,ok.inj,ok.has,ok.cab,ok.hd,ok.frames,ok.stk,ok.exf,ok.bs,ok.bsz,ok.noex,ok.exfs,ok.funs,ok.frf⟩
theorem Cx.Ok.unwish {X:Cx} {E:Value → Shared → Prop} (ok:(X.wish E).Ok):X.Ok:=
 ⟨ok.mod,ok.kind,ok.glob,ok.blt,ok.above,ok.inj,ok.has,ok.cab,ok.hd,ok.frames,ok.stk,ok.exf,ok.bs,ok.bsz,ok.noex,ok.exfs,ok.funs,ok.frf⟩
section
variable {X:Cx} {pins:List (Addr × Obj)} {σ:St} {H:Hp} {s:Shared} {E:Value → Shared → Prop}
theorem Inv.wish (I:Inv X pins σ H s) (E:Value → Shared → Prop):Inv (X.wish E) pins σ H s:=⟨I.ok.wish E,I.os,I.bare,I.base,I.loc,I.cell,I.free,I.freeC,I.pin,I.hok,I.len⟩
theorem Inv.unwish (I:Inv (X.wish E) pins σ H s):Inv X pins σ H s:=⟨I.ok.unwish,I.os,I.bare,I.base,I.loc,I.cell,I.free,I.freeC,I.pin,I.hok,I.len⟩
theorem SP.unwish {D:Ends} {f:Flow} {s':Shared} (h:SP (X.wish E) pins D f s'):SP X pins D f s':=by
 cases f with
 | next=>obtain ⟨σ',H',I,q⟩:=h; exact ⟨σ',H',I.unwish,q⟩
 | brk=>obtain ⟨σ',H',I,q⟩:=h; exact ⟨σ',H',I.unwish,q⟩
 | cont=>obtain ⟨σ',H',I,q⟩:=h; exact ⟨σ',H',I.unwish,q⟩
 | ret u=>obtain ⟨v,σ',H',I,r,q⟩:=h; exact ⟨v,σ',H',I.unwish,r,q⟩
theorem PSs.nox {st:List Stmt} {t:TS} (h:PSs X.nox st t):PSs X st t:=fun pins s σ H D I hw=>
 wpAny_mono (h pins s σ H D (I.wish _) hw) (fun _ _ q=>q.unwish) fun _ _ z=>False.elim z
end
section
variable {X:Cx} {st:Stmt} {rest:List Stmt} {t u:TS} {e:Expr} {te:TE} {pos:Pos}
noncomputable def Zri:TS:=fun D σ H=>D.nx σ H
noncomputable def Zs4 (t u:TS):TS:=fun D σ H=>t { D with nx:=u D } σ H
theorem Zof:PSs X [] Zri:=fun _ _ σ H _ I h=>wpAny_execs_nil ⟨σ,H,I,h⟩
theorem ZmO (h1:PS X st t) (h2:PSs X rest u):PSs X (st :: rest) (Zs4 t u):=by
 intro pins s σ H D I h
 refine wpAny_execs_cons (thn (h1 pins s σ H { D with nx:=u D } I h) fun f s1 q=>?_)
 cases f with
 | next=>
  obtain ⟨σ',H',I',q⟩:=q
  exact h2 pins s1 σ' H' D I' q
 | ret v=>exact q
 | brk=>exact q
 | cont=>exact q
theorem ZoA (h1:PS X st t):PSs X [st] t:=by
 intro pins s σ H D I h
 refine wpAny_execs_cons (thn (h1 pins s σ H D I h) fun f s1 q=>?_)
 cases f with
 | next=>exact wpAny_execs_nil q
 | ret v=>exact q
 | brk=>exact q
 | cont=>exact q
theorem Inv.quiet {pins:List (Addr × Obj)} {σ:St} {H:Hp} {s:Shared} (I:Inv X pins σ H s):interactive X.env = false:=by simp [interactive,I.ok.kind]
noncomputable def ZrU (te:TE):TS:=fun D σ H=>te σ H fun _ H1=>D.nx σ H1
theorem ZnU (he:PE X e te) (hs:swapsWith e none pos.line X.env = pure false:=by rfl):PS X (.Expr e pos) (ZrU te):=by
 intro pins s σ H D I h
 exact wpAny_Expr_any (thn (he pins s σ H _ I h) fun v s1 ⟨x,H1,I1,r1,q1⟩=>⟨σ,H1,I1,q1⟩) I.quiet hs
noncomputable def ZsQ (te:TE):TS:=fun D σ H=>te σ H D.rt
theorem Zp1 (he:PE X e te):PS X (.Return (some e) pos) (ZsQ te):=by
 intro pins s σ H D I h
 exact wpAny_Return_some (thn (he pins s σ H _ I h) fun v s1 ⟨x,H1,I1,r1,q1⟩=>⟨x,σ,H1,I1,r1,q1⟩)
noncomputable def ZsX (c:TT) (t u:TS):TS:=fun D σ H=>c σ H fun b H1=>if b = true then t D σ H1 else u D σ H1
theorem Zrt {c:Expr} {a b:List Stmt} {tc:TT} (hc:PT X c tc) (ha:PSs X a t) (hb:PSs X b u):PS X (.If c a b pos) (ZsX tc t u):=by
 intro pins s σ H D I h
 refine wpAny_If (thn (hc pins s σ H _ I h) fun d s1 zz1=>?_)
 obtain ⟨H1,I1,q1⟩:=zz1
 cases d with
 | true=>exact ha pins s1 σ H1 D I1 q1
 | false=>exact hb pins s1 σ H1 D I1 q1
end
noncomputable abbrev TG:=V → St → Hp → (St → Hp → Prop) → Prop
noncomputable abbrev TGs:=List V → St → Hp → (St → Hp → Prop) → Prop
noncomputable def PG (X:Cx) (target:Expr) (t:TG):Prop:=
 ∀ (pins:List (Addr × Obj)) (s:Shared) (σ:St) (H:Hp) (v:V) (u:Value) (Q:St → Hp → Prop),Inv X pins σ H s → RelV v u → t v σ H Q →
  wpAny (model X.prog X.w) X.A (assign target X.env u) (fun _ s'=>∃ σ' H',Inv X pins σ' H' s' ∧ Q σ' H') X.xe s
noncomputable def PGs (X:Cx) (ts:List Expr) (t:TGs):Prop:=
 ∀ (pins:List (Addr × Obj)) (s:Shared) (σ:St) (H:Hp) (vs:List V) (us:List Value) (Q:St → Hp → Prop),Inv X pins σ H s → Vals vs us → t vs σ H Q →
  wpAny (model X.prog X.w) X.A (assignInOrder ((assignEach ts X.env).map (·.2)) us) (fun _ s'=>∃ σ' H',Inv X pins σ' H' s' ∧ Q σ' H') X.xe s
noncomputable abbrev Zpt:=V → V → V → Hp → (Hp → Prop) → Prop
noncomputable def Zq7 (X:Cx) (t:Zpt):Prop:=
 ∀ (pins:List (Addr × Obj)) (s:Shared) (σ:St) (H:Hp) (o i v:V) (ov iv u:Value) (Q:Hp → Prop),Inv X pins σ H s → RelV o ov → RelV i iv → RelV v u → t o i v H Q →
  wpAny (model X.prog X.w) X.A (setItem ov iv u) (fun _ s'=>∃ H',Inv X pins σ H' s' ∧ Q H') X.xe s
section
variable {X:Cx} {pos:Pos}
noncomputable def ZoU (i:Nat):TG:=fun v σ H Q=>Q (σ.set i (some v)) H
theorem ZkS {i:Nat} {x:Str} (hN:X.N.Nodup) (hi:X.N[i]? = some x) (hx:Loc X.env.scope x) (hf:X.fn x = true ∨ X.env.scope.names.lookup x = some .local:=by first | exact .inl rfl | exact .inr rfl | assumption):PG X (.Name x pos) (ZoU i):=by
 intro pins s σ H v u Q I r h
 exact wpAny_assign_Name (ZjH I hN hi hx r (fun s' I'=>⟨_,H,I',h⟩) hf)
noncomputable def ZsB:TGs:=fun vs σ H Q=>vs = [] ∧ Q σ H
noncomputable def Zrr (t:TG) (u:TGs):TGs:=fun vs σ H Q=>∃ v r,vs = v :: r ∧ t v σ H fun σ' H'=>u r σ' H' Q
theorem ZoJ:PGs X [] ZsB:=by
 intro pins s σ H vs us Q I r h
 obtain ⟨e,h⟩:=h
 subst e
 cases r
 exact assignInOrder_nil ⟨σ,H,I,h⟩
theorem Zmj {e:Expr} {es:List Expr} {t:TG} {u:TGs} (h1:PG X e t) (h2:PGs X es u)
  (hs:(assignEach (e :: es) X.env).map (·.2) = assign e X.env :: (assignEach es X.env).map (·.2):=by rfl):PGs X (e :: es) (Zrr t u):=by
 intro pins s σ H vs us Q I r h
 obtain ⟨v,vr,e1,h⟩:=h
 subst e1
 cases r with
 | cons r rr=>
  rw [hs]
  refine assignInOrder_cons (thn (h1 pins s σ H _ _ _ I r h) fun _ s1 zz1=>?_)
  obtain ⟨σ1,H1,I1,q1⟩:=zz1
  exact h2 pins s1 σ1 H1 _ _ Q I1 rr q1
noncomputable def ZsC (K:PySem.W.Frag) (n:Nat) (t:TGs):TG:=fun v σ H Q=>∃ a xs,v = .ref a ∧ SqT K H a xs ∧ xs.length = n ∧ t xs σ H Q
theorem Zpu {es:List Expr} {k:Nat} {t:TGs} {n:Nat} (hc:X.calm = true) (h:PGs X es t)
  (hn:(assignEach es X.env).length = n:=by rfl) (hst:(assignEach es X.env).findIdx? (·.1) = none:=by rfl):PG X (.Tuple es k pos) (ZsC X.K n t):=by
 intro pins s σ H v u Q I r hw
 obtain ⟨a,xs,e1,hq,hl,hw⟩:=hw
 subst e1
 cases r
 obtain ⟨its,rv,ht,hz⟩:=I.tuple hq
 refine assign_Tuple_tuple (I.ok.hd hc) ht (by simp [hn,← hl,rv.length]) hst fun h' hx=>?_
 have I1:Inv X pins σ H { s with heap:=h' }:=I.kept (t':=s.toks) fun b o e=>hx b o (Nat.ne_of_lt (Heap.lt_size e)) e
 exact h pins _ σ H xs _ Q I1 (by simpa using rv) hw
noncomputable def ZsZ (to ti:TE) (t:Zpt):TG:=fun v σ H Q=>to σ H fun o H1=>ti σ H1 fun i H2=>t o i v H2 fun H3=>Q σ H3
theorem Zps {o i:Expr} {to ti:TE} {t:Zpt} (ho:PE X o to) (hi:PE X i ti) (hs:Zq7 X t)
  (ha:∀ v,assign (.Subscript o i pos) X.env v = (do
   let ov ← holding [v] (eval o X.env)
   let iv ← holding [v,ov] (eval i X.env)
   standAt pos
   holding [v,ov,iv] (setItem ov iv v)
   release [v,ov,iv] []):=by intro _; rfl):PG X (.Subscript o i pos) (ZsZ to ti t):=by
 intro pins s σ H v u Q I r h
 rw [ha]
 refine wpAny_bind (wpAny_holding (thn (ho pins s σ H _ I h) fun ov s1 zz1=>?_))
 obtain ⟨x,H1,I1,r1,q1⟩:=zz1
 refine wpAny_bind (wpAny_holding (thn (hi pins s1 σ H1 _ I1 q1) fun iv s2 zz1=>?_))
 obtain ⟨y,H2,I2,r2,q2⟩:=zz1
 refine wpAny_bind (wpAny_standAt (wpAny_bind (wpAny_holding (thn (hs pins s2 σ H2 x y v ov iv u _ I2 r1 r2 r q2) fun _ s3 zz1=>?_))))
 obtain ⟨H3,I3,q3⟩:=zz1
 exact wpAny_release ⟨σ,H3,I3,q3⟩
noncomputable def ZrO (te:TE) (g:TG):TS:=fun D σ H=>te σ H fun x H1=>g x σ H1 D.nx
theorem Zmz {tg e:Expr} {te:TE} {g:TG} (he:PE X e te) (hg:PG X tg g) (hs:swapsWithSole [tg] e pos.line X.env = pure false:=by rfl) (hw:swappedStores [tg] e X.env = pure none:=by rfl)
  (h1:(assignEach [tg] X.env).map (·.2) = [assign tg X.env]:=by rfl):PS X (.Assign [tg] e pos) (ZrO te g):=by
 intro pins s σ H D I h
 refine wpAny_Assign_stores (thn (he pins s σ H _ I h) fun v s1 zz1=>?_) hs hw
 obtain ⟨x,H1,I1,r1,q1⟩:=zz1
 rw [h1]
 exact thn (hg pins s1 σ H1 x v _ I1 r1 q1) fun _ s2 q=>q
theorem ZqC {i:Nat} {x:Str} {e:Expr} {te:TE} {pos':Pos} (hN:X.N.Nodup) (hi:X.N[i]? = some x) (hx:Loc X.env.scope x) (he:PE X e te) (hs:swapsWith e (some (.Name x pos')) pos.line X.env = pure false:=by rfl) (hf:X.fn x = true ∨ X.env.scope.names.lookup x = some .local:=by first | exact .inl rfl | exact .inr rfl | assumption):
  PS X (.Assign [.Name x pos'] e pos) (ZrO te (ZoU i)):=by
 intro pins s σ H D I h
 refine wpAny_Assign_Name (thn (he pins s σ H _ I h) fun v s1 zz1=>?_) hs
 obtain ⟨y,H1,I1,r1,q1⟩:=zz1
 exact ZjH I1 hN hi hx r1 (fun s2 I2=>⟨_,H1,I2,q1⟩) hf
end
section
variable {X:Cx} {pos:Pos}
noncomputable def Zp7 (c:TT) (tb:TS):TS:=fun D σ H=>∃ W:Nat → St → Hp → Prop,(∃ m,W m σ H) ∧ ∀ m σ H,W m σ H →
 c σ H fun b H1=>if b = true then ∃ N:St → Hp → Prop,(∀ σ' H',N σ' H' → ∃ m',m' < m ∧ W m' σ' H') ∧ tb { D with nx:=N,ct:=N,bk:=D.nx } σ H1 else D.nx σ H1
theorem ZmN {c:Expr} {body:List Stmt} {tc:TT} {tb:TS} (hp:PassesOwn (model X.prog X.w) X.A X.env X.xe) (hc:PT X c tc) (hb:PSs X body tb):PS X (.While c body [] pos) (Zp7 tc tb):=by
 intro pins s σ H D I h
 obtain ⟨W,⟨m0,w0⟩,turn⟩:=h
 refine wpAny_While (codeAny_whileLoop (fun n s'=>∃ σ' H',Inv X pins σ' H' s' ∧ W n σ' H') ?_ m0 ⟨σ,H,I,w0⟩)
 rintro n s1 ⟨σ1,H1,I1,w1⟩
 refine wpAny_passesOwn hp (thn (hc pins s1 σ1 H1 _ I1 (turn n σ1 H1 w1)) fun b s2 zz1=>?_)
 obtain ⟨H2,I2,q2⟩:=zz1
 cases b with
 | true=>
  obtain ⟨N,hN,q2⟩:=q2
  rw [if_pos rfl]
  refine wpAny_passesOwn hp (thn (hb pins s2 σ1 H2 _ I2 q2) fun f s3 q3=>?_)
  cases f with
  | next=>
   obtain ⟨σ3,H3,I3,n3⟩:=q3
   obtain ⟨m',hm,w3⟩:=hN σ3 H3 n3
   exact ⟨m',hm,σ3,H3,I3,w3⟩
  | cont=>
   obtain ⟨σ3,H3,I3,n3⟩:=q3
   obtain ⟨m',hm,w3⟩:=hN σ3 H3 n3
   exact ⟨m',hm,σ3,H3,I3,w3⟩
  | brk=>exact q3
  | ret v=>exact q3
 | false=>
  rw [if_neg Bool.false_ne_true]
  exact wpAny_execs_nil ⟨σ1,H2,I2,q2⟩
end
structure It where
 go:Nat → Hp → Prop
 yld:Nat → Hp → V → Hp → Prop
 stop:Nat → Hp → Prop
noncomputable def ZfP (X:Cx) (pins:List (Addr × Obj)) (H:Hp) (b:Addr):Prop:=
 H b = none ∧ b ≠ X.env.locals ∧ b ∉ X.fs ∧ (b ∈ X.ex ∨ X.s₀.heap.objs.size ≤ b) ∧ (∀ x c,X.env.cells.lookup x = some c → c ≠ b) ∧ ∀ p ∈ X.pn ++ pins,p.1 ≠ b
theorem Inv.fpOk {X:Cx} {pins:List (Addr × Obj)} {σ:St} {H H':Hp} {s:Shared} {b:Addr} (I:Inv X pins σ H s) (hb:s.heap.objs.size ≤ b) (hn:H' b = none):ZfP X pins H' b:=by
 refine ⟨hn,Nat.ne_of_gt (Nat.lt_of_lt_of_le I.lt hb),I.nofs hb,.inr (Nat.le_trans I.sz hb),fun x c e z=>?_,fun p hp z=>?_⟩
 ·obtain ⟨v,q⟩:=I.cell x c e
  exact absurd (Nat.lt_of_lt_of_le q.lt (by rw [z]; exact hb)) (Nat.lt_irrefl _)
 ·exact absurd (Nat.lt_of_lt_of_le (Heap.lt_size (I.pin p hp).1) (by rw [z]; exact hb)) (Nat.lt_irrefl _)
structure Turn (P:Program) (w:World) (K:PySem.W.Frag) (tg:Expr) (J:It) (fp:List Addr) (it:Addr) (tn:Nat → Heap → Prop):Prop where
 mem:it ∈ fp
 obj:∀ i h,tn i h → ∀ b ∈ fp,∃ o,h.get? b = some o ∧ ∀ v,o.data ≠ .cell v
 keep:∀ i h h',tn i h → (∀ b ∈ fp,∀ o,h.get? b = some o → h'.get? b = some o) → tn i h'
 item:∀ (X:Cx),X.prog = P → X.w = w → X.K = K → X.calm = true → ∀ (i:Nat) (pins:List (Addr × Obj)) (s:Shared) (σ:St) (H:Hp) (E:Value → Shared → Prop),Inv X pins σ H s → (∀ b ∈ fp,ZfP X pins H b) → tn i s.heap → J.go i H →
  wpAny (model P w) X.A (pyNext (.ref it)) (fun r s1=>∃ u,r = some u ∧
   wpAny (model P w) X.A (letOwnedTupleGo tg (.ref it) u) (fun _ s2=>∃ x H',Inv X pins σ H' s2 ∧ RelV x u ∧ J.yld i H x H' ∧ tn (i + 1) s2.heap ∧ ∀ b ∈ fp,H' b = none) E s1) E s
 done:∀ (X:Cx),X.prog = P → X.w = w → X.K = K → X.calm = true → ∀ (i:Nat) (pins:List (Addr × Obj)) (s:Shared) (σ:St) (H:Hp) (E:Value → Shared → Prop),Inv X pins σ H s → (∀ b ∈ fp,ZfP X pins H b) → tn i s.heap → J.stop i H →
  wpAny (model P w) X.A (pyNext (.ref it)) (fun r s1=>r = none ∧ Inv X pins σ H s1) E s
 self:∀ (A:Around) (i:Nat) (s:Shared) (Q:Value → Shared → Prop) (E:Value → Shared → Prop),tn i s.heap → Q (.ref it) s → wpAny (model P w) A (pyIter (.ref it)) Q E s
noncomputable abbrev TI:=St → Hp → (It → Hp → Prop) → Prop
noncomputable def PIE (X:Cx) (pins:List (Addr × Obj)) (σ:St) (tg:Expr) (R:It → Hp → Prop) (itv:Value) (s2:Shared):Prop:=
 ∃ (it:Addr) (fp:List Addr) (tn:Nat → Heap → Prop) (J:It) (H':Hp),itv = .ref it ∧ Inv X pins σ H' s2 ∧ Turn X.prog X.w X.K tg J fp it tn ∧ tn 0 s2.heap ∧ (∀ b ∈ fp,ZfP X pins H' b) ∧ R J H'
noncomputable def PI (X:Cx) (tg iter:Expr) (wi:TI):Prop:=
 ∀ (pins:List (Addr × Obj)) (s:Shared) (σ:St) (H:Hp) (R:It → Hp → Prop),Inv X pins σ H s → wi σ H R →
  wpAny (model X.prog X.w) X.A (eval iter X.env) (fun v s1=>wpAny (model X.prog X.w) X.A (pyIter v) (PIE X pins σ tg R) X.xe s1) X.xe s
theorem Zlm {M:Model} {A:Around} {E:Value → Shared → Prop} {s:Shared} {tg:Expr} {it:Addr} {u:Value} {o:Obj} {n:String} {vs:Array Value} {Q:Unit → Shared → Prop} (ho:s.heap.get? it = some o) (hc:o.cls = .type n) (hd:o.data = .fields vs)
  (hn:["enumerate","zip","dict_itemiterator","dict_reverseitemiterator","odict_iterator","itertools.zip_longest","itertools.pairwise"].contains n = false) (hQ:Q () s):wpAny M A (letOwnedTupleGo tg (.ref it) u) Q E s:=by
 unfold letOwnedTupleGo
 cases tg <;> first
  | exact wpAny_pure hQ
  | (cases u <;> first
    | exact wpAny_pure hQ
    | (refine wpAny_bind (wpAny_load ho ?_)
       rw [hc,hd]
       show wpAny M A (if (["enumerate","zip","dict_itemiterator","dict_reverseitemiterator","odict_iterator","itertools.zip_longest","itertools.pairwise"].contains n && vs[0]? == some (rawInt _)) = true then _ else _) Q E s
       rw [if_neg (by intro h; rw [hn,Bool.false_and] at h; cases h)]
       exact wpAny_pure hQ))
noncomputable def Itl (K:PySem.W.Frag) (a:Addr):It:=
 ⟨fun i H=>∃ xs x,SqL K H a xs ∧ xs[i]? = some x,fun i H x H'=>H' = H ∧ ∀ xs,SqL K H a xs → xs[i]? = some x,fun i H=>∃ xs,SqL K H a xs ∧ xs.length ≤ i⟩
noncomputable def Itt (K:PySem.W.Frag) (a:Addr):It:=
 ⟨fun i H=>∃ xs x,SqT K H a xs ∧ xs[i]? = some x,fun i H x H'=>H' = H ∧ ∀ xs,SqT K H a xs → xs[i]? = some x,fun i H=>∃ xs,SqT K H a xs ∧ xs.length ≤ i⟩
noncomputable def Itr (lo:Int) (n:Nat):It:=⟨fun i _=>i < n,fun i H x H'=>H' = H ∧ x = .int (lo + i),fun i _=>n ≤ i⟩
theorem ZlW {P:Program} {w:World} {K:PySem.W.Frag} {tg:Expr} (a it:Addr):Turn P w K tg (Itl K a) [it] it (fun i h=>h.IsListIter it a i) where
 mem:=by simp
 obj:=fun i h st b hb=>by
  have e:b = it:=by simpa using hb
  subst e
  obtain ⟨o,e,c,d⟩:=st
  exact ⟨o,e,fun v z=>by rw [d] at z; cases z⟩
 keep:=fun i h h' st k=>st.at fun o e=>k it (by simp) o e
 item:=by
  intro X hP hw hK hc i pins s σ H E I hf st hg
  subst hP hw hK
  obtain ⟨xs,x,hq,hx⟩:=hg
  obtain ⟨its,rv,p,hz⟩:=I.list hq
  obtain ⟨u,hu,ru⟩:=rv.get hx
  obtain ⟨f0,f1,f2,f3,f4,f5⟩:=hf it (by simp)
  refine wpAny_pyNext_list_item st p.isList (x:=u) (by simpa using hu) fun h' st' sb=>?_
  have I1:Inv X pins σ H { s with heap:=h' }:=I.turned (t':=s.toks) (fun b o hb e=>(sb.2 b hb).trans e) f0 f1 f3 f4 f5
  obtain ⟨o,e,c,d⟩:=id st'
  exact ⟨u,rfl,Zlm (s:={ s with heap:=h' }) e c d (by decide) ⟨x,H,I1,ru,⟨rfl,fun ys hy=>by rw [I.list_inj hy hq]; exact hx⟩,st',fun b hb=>(hf b hb).1⟩⟩
 done:=by
  intro X hP hw hK hc i pins s σ H E I hf st hg
  subst hP hw hK
  obtain ⟨xs,hq,hx⟩:=hg
  obtain ⟨its,rv,p,hz⟩:=I.list hq
  obtain ⟨f0,f1,f2,f3,f4,f5⟩:=hf it (by simp)
  have hl:=rv.length
  exact wpAny_pyNext_list_end (I.ok.hd hc) st p.isList (by simp; exact lC 2 2268279672881 T1 hl hx) fun h' eb=>⟨rfl,I.turned (t':=s.toks) (fun b o hb e=>eb b o hb e) f0 f1 f3 f4 f5⟩
 self:=fun _ _ _ _ _ st h=>wpAny_pyIter_listiter st h
theorem Zke {P:Program} {w:World} {K:PySem.W.Frag} {tg:Expr} (a it:Addr):Turn P w K tg (Itt K a) [it] it (fun i h=>h.IsTupleIter it a i) where
 mem:=by simp
 obj:=fun i h st b hb=>by
  have e:b = it:=by simpa using hb
  subst e
  obtain ⟨o,e,c,d⟩:=st
  exact ⟨o,e,fun v z=>by rw [d] at z; cases z⟩
 keep:=fun i h h' st k=>st.at fun o e=>k it (by simp) o e
 item:=by
  intro X hP hw hK hc i pins s σ H E I hf st hg
  subst hP hw hK
  obtain ⟨xs,x,hq,hx⟩:=hg
  obtain ⟨its,rv,p,hz⟩:=I.tuple hq
  obtain ⟨u,hu,ru⟩:=rv.get hx
  obtain ⟨f0,f1,f2,f3,f4,f5⟩:=hf it (by simp)
  refine wpAny_pyNext_tuple_item st (show s.heap.IsTuple a its.toArray from p) (x:=u) (by simpa using hu) fun h' st' sb=>?_
  have I1:Inv X pins σ H { s with heap:=h' }:=I.turned (t':=s.toks) (fun b o hb e=>(sb.2 b hb).trans e) f0 f1 f3 f4 f5
  obtain ⟨o,e,c,d⟩:=id st'
  exact ⟨u,rfl,Zlm (s:={ s with heap:=h' }) e c d (by decide) ⟨x,H,I1,ru,⟨rfl,fun ys hy=>by rw [I.tuple_inj hy hq]; exact hx⟩,st',fun b hb=>(hf b hb).1⟩⟩
 done:=by
  intro X hP hw hK hc i pins s σ H E I hf st hg
  subst hP hw hK
  obtain ⟨xs,hq,hx⟩:=hg
  obtain ⟨its,rv,p,hz⟩:=I.tuple hq
  obtain ⟨f0,f1,f2,f3,f4,f5⟩:=hf it (by simp)
  have hl:=rv.length
  exact wpAny_pyNext_tuple_end (I.ok.hd hc) st (show s.heap.IsTuple a its.toArray from p) (by simp; exact lC 2 2268279672881 T1 hl hx) fun h' eb=>⟨rfl,I.turned (t':=s.toks) (fun b o hb e=>eb b o hb e) f0 f1 f3 f4 f5⟩
 self:=fun _ _ _ _ _ st h=>wpAny_pyIter_tupleiter st h
theorem Zj9 {P:Program} {w:World} {K:PySem.W.Frag} {tg:Expr} (it:Addr) (lo:Int) (n:Nat):Turn P w K tg (Itr lo n) [it] it (fun i h=>IsRangeIter h it (lo + (i:Nat) * 1) ((n:Int) - (i:Nat)) 1) where
 mem:=by simp
 obj:=fun i h st b hb=>by
  have e:b = it:=by simpa using hb
  subst e
  exact ⟨_,st,fun v z=>by
   have z':Data.fields _ = Data.cell v:=z
   cases z'⟩
 keep:=fun i h h' st k=>k it (by simp) _ st
 item:=by
  intro X hP hw hK hc i pins s σ H E I hf st hg
  subst hP hw hK
  obtain ⟨f0,f1,f2,f3,f4,f5⟩:=hf it (by simp)
  have W:=Walks.range (prog:=X.prog) (w:=X.w) (I.ok.hd hc) it lo 1 n
  refine W.item i s _ _ hg st fun v h' tk hv st' kk=>?_
  obtain ⟨t,rfl⟩:=hv
  have I1:Inv X pins σ H { s with heap:=h',toks:=tk }:=I.turned (fun b o hb e=>kk b o (by simpa using hb) e) f0 f1 f3 f4 f5
  refine ⟨_,rfl,Zlm (s:={ s with heap:=h',toks:=tk }) (n:="range_iterator") st' rfl rfl (by decide) ⟨.int (lo + i),H,I1,⟨t,?_⟩,⟨rfl,rfl⟩,st',fun b hb=>(hf b hb).1⟩⟩
  rw [Int.mul_one]
 done:=by
  intro X hP hw hK hc i pins s σ H E I hf st hg
  subst hP hw hK
  obtain ⟨f0,f1,f2,f3,f4,f5⟩:=hf it (by simp)
  exact wpAny_pyNext_range_end (I.ok.hd hc) st (by have:n ≤ i:=hg; exact iN [_,_] [] 1 0xe1808f81001 T1 this) fun h' eb=>⟨rfl,I.turned (t':=s.toks) (fun b o hb e=>eb b o hb e) f0 f1 f3 f4 f5⟩
 self:=fun _ _ _ _ _ st h=>wpAny_pyIter_rangeiter st h
end L2
namespace L2
open PySem PySem.Spec PyProof.Rows
section
variable {X:Cx} {tg:Expr}
noncomputable def Zr7 (K:PySem.W.Frag) (tl:TE):TI:=fun σ H R=>tl σ H fun x H1=>∃ a,x = .ref a ∧ (∃ xs,SqL K H1 a xs) ∧ R (Itl K a) H1
noncomputable def Zsw (K:PySem.W.Frag) (tl:TE):TI:=fun σ H R=>tl σ H fun x H1=>∃ a,x = .ref a ∧ (∃ xs,SqT K H1 a xs) ∧ R (Itt K a) H1
theorem Zox {l:Expr} {tl:TE} (hl:PE X l tl):PI X tg l (Zr7 X.K tl):=by
 intro pins s σ H R I h
 refine thn (hl pins s σ H _ I h) fun v s1 zz1=>?_
 obtain ⟨x,H1,I1,r1,q1⟩:=zz1
 obtain ⟨a,e,⟨xs,hq⟩,q⟩:=q1
 subst e
 cases r1
 obtain ⟨its,rv,p,hz⟩:=I1.list hq
 refine wpAny_pyIter_list p.isList ?_
 refine ⟨s1.heap.objs.size,[s1.heap.objs.size],_,_,H1,rfl,I1.kept (t':=s1.toks) fun b o e=>Heap.get?_push_of_some _ e,ZlW a _,⟨_,Heap.get?_push_size _ rfl,rfl,rfl⟩,fun b hb=>?_,q⟩
 have e:b = s1.heap.objs.size:=by simpa using hb
 subst e
 exact I1.fpOk (Nat.le_refl _) (I1.hok.fresh (Nat.le_refl _))
theorem Zqr {l:Expr} {tl:TE} (hl:PE X l tl):PI X tg l (Zsw X.K tl):=by
 intro pins s σ H R I h
 refine thn (hl pins s σ H _ I h) fun v s1 zz1=>?_
 obtain ⟨x,H1,I1,r1,q1⟩:=zz1
 obtain ⟨a,e,⟨xs,hq⟩,q⟩:=q1
 subst e
 cases r1
 obtain ⟨its,rv,p,hz⟩:=I1.tuple hq
 refine wpAny_pyIter_tuple (show s1.heap.IsTuple a its.toArray from p) ?_
 refine ⟨s1.heap.objs.size,[s1.heap.objs.size],_,_,H1,rfl,I1.kept (t':=s1.toks) fun b o e=>Heap.get?_push_of_some _ e,Zke a _,⟨_,Heap.get?_push_size _ rfl,rfl,rfl⟩,fun b hb=>?_,q⟩
 have e:b = s1.heap.objs.size:=by simpa using hb
 subst e
 exact I1.fpOk (Nat.le_refl _) (I1.hok.fresh (Nat.le_refl _))
theorem Zjf {pins:List (Addr × Obj)} {σ:St} {H:Hp} {s:Shared} {R:It → Hp → Prop} {E:Value → Shared → Prop} {lo hi:Int} {t u v:Tok} {tk:Nat} (I:Inv X pins σ H s) (h1:-(2 ^ 62) ≤ lo) (h2:lo < 2 ^ 62) (h3:-(2 ^ 62) ≤ hi) (h4:hi < 2 ^ 62)
  (q:R (Itr lo (hi - lo).toNat) H):wpAny (model X.prog X.w) X.A (pyIter (.ref s.heap.objs.size)) (PIE X pins σ tg R) E { s with heap:=s.heap.push { cls:=.type "range",data:=.fields #[.int lo t,.int hi u,.int 1 v] },toks:=tk }:=by
 refine wpAny_pyIter_range (IsRange.new ..) (small_one h1 h2 h3 h4) ?_
 have I1:Inv X pins σ H { s with heap:=s.heap.push { cls:=.type "range",data:=.fields #[.int lo t,.int hi u,.int 1 v] },toks:=tk }:=I.kept fun b o e=>Heap.get?_push_of_some _ e
 refine ⟨(s.heap.push { cls:=.type "range",data:=.fields #[.int lo t,.int hi u,.int 1 v] }).objs.size,[(s.heap.push { cls:=.type "range",data:=.fields #[.int lo t,.int hi u,.int 1 v] }).objs.size],_,_,H,rfl,
  I1.kept (t':=tk) fun b o e=>Heap.get?_push_of_some _ e,Zj9 _ lo (hi - lo).toNat,?_,fun b hb=>?_,q⟩
 ·have e1:lo + ((0:Nat):Int) * 1 = lo:=by simp
  have e2:(((hi - lo).toNat:Nat):Int) - ((0:Nat):Int) = Builtin.Range.rangeSize lo hi 1:=by rw [rangeSize_one]; split <;> omega
  show IsRangeIter _ _ (lo + ((0:Nat):Int) * 1) ((((hi - lo).toNat:Nat):Int) - ((0:Nat):Int)) 1
  rw [e1,e2]
  exact Heap.get?_push_size _ rfl
 ·have e:b = (s.heap.push { cls:=.type "range",data:=.fields #[.int lo t,.int hi u,.int 1 v] }).objs.size:=by simpa using hb
  subst e
  exact I1.fpOk (Nat.le_refl _) (I1.hok.fresh (Nat.le_refl _))
noncomputable def Zrg (ta:TA):TI:=fun σ H R=>ta σ H fun vs H1=>∃ j:Int,vs = [.int j] ∧ -(2 ^ 62) ≤ j ∧ j < 2 ^ 62 ∧ R (Itr 0 j.toNat) H1
noncomputable def ZrE (ta:TA):TI:=fun σ H R=>ta σ H fun vs H1=>∃ i j:Int,vs = [.int i,.int j] ∧ (-(2 ^ 62) ≤ i ∧ i < 2 ^ 62 ∧ -(2 ^ 62) ≤ j ∧ j < 2 ^ 62) ∧ R (Itr i (j - i).toNat) H1
theorem ZlV {a:Expr} {ta:TA} {p pos:Pos} (hg:Gl X "range") (hm:X.mg "range" = none) (ha:PA X [a] ta) (hs:starEach [a] X.env = [(false,eval a X.env)]:=by rfl):PI X tg (.Call (.Name "range" p) [a] [] pos) (Zrg ta):=by
 intro pins s σ H R I h
 refine Call_ (Zf0 I hg hm boot_range (PyProof.Rows.callWith_type1 (thn (ha pos pins s σ H _ I h) fun us s1 zz1=>?_) hs rfl))
 obtain ⟨vs,H1,I1,r1,q1⟩:=zz1
 obtain ⟨j,e,q1,q2,q⟩:=q1
 subst e
 cases r1 with
 | cons r rr=>
  cases rr
  obtain ⟨t,rfl⟩:=r
  exact call_range_1 (Zjf I1 (by omega) (by omega) q1 q2 (by simpa using q))
theorem ZlR {a b:Expr} {ta:TA} {p pos:Pos} (hg:Gl X "range") (hm:X.mg "range" = none) (ha:PA X [a,b] ta) (hs:starEach [a,b] X.env = [(false,eval a X.env),(false,eval b X.env)]:=by rfl) (hs2:starEach [b] X.env = [(false,eval b X.env)]:=by rfl):
  PI X tg (.Call (.Name "range" p) [a,b] [] pos) (ZrE ta):=by
 intro pins s σ H R I h
 refine Call_ (Zf0 I hg hm boot_range (PyProof.Rows.callWith_type1 (thn (ha pos pins s σ H _ I h) fun us s1 zz1=>?_) (by rw [hs,hs2]) (by rw [hs2]; rfl)))
 obtain ⟨vs,H1,I1,r1,q1⟩:=zz1
 obtain ⟨i,j,e,⟨q1,q2,q3,q4⟩,q⟩:=q1
 subst e
 cases r1 with
 | cons r rr=>
  cases rr with
  | cons r' rr=>
   cases rr
   obtain ⟨t,rfl⟩:=r
   obtain ⟨t',rfl⟩:=r'
   exact call_range_2 (Zjf I1 q1 q2 q3 q4 q)
noncomputable def Zsq (wi:TI) (g:TG) (tb:TS):TS:=fun D σ H=>wi σ H fun J H1=>∃ W:Nat → Nat → St → Hp → Prop,(∃ m,W 0 m σ H1) ∧ ∀ i m σ H,W i m σ H →
 (J.stop i H ∧ D.nx σ H) ∨ (J.go i H ∧ ∃ N:St → Hp → Prop,(∀ σ' H',N σ' H' → ∃ m',m' < m ∧ W (i + 1) m' σ' H') ∧ ∀ x H',J.yld i H x H' → g x σ H' fun σ2 H2=>tb { D with nx:=N,ct:=N,bk:=D.nx } σ2 H2)
noncomputable def ZgY (fp:List Addr) (h:Heap):List (Addr × Obj):=fp.filterMap fun b=>(h.get? b).map fun o=>(b,o)
theorem Zek {fp:List Addr} {h:Heap} {b:Addr} {o:Obj} (hb:b ∈ fp) (e:h.get? b = some o):(b,o) ∈ ZgY fp h:=List.mem_filterMap.mpr ⟨b,hb,by rw [e]; rfl⟩
theorem ZlL {fp:List Addr} {h:Heap} {p:Addr × Obj} (hp:p ∈ ZgY fp h):p.1 ∈ fp ∧ h.get? p.1 = some p.2:=by
 obtain ⟨b,hb,e⟩:=List.mem_filterMap.mp hp
 cases q:h.get? b with
 | none=>rw [q] at e; cases e
 | some o=>
  rw [q] at e
  have e':(b,o) = p:=Option.some.inj e
  subst e'
  exact ⟨hb,q⟩
theorem Inv.pinned {pins:List (Addr × Obj)} {σ:St} {H:Hp} {s:Shared} {fp:List Addr} (I:Inv X pins σ H s) (hf:∀ b ∈ fp,ZfP X pins H b) (ho:∀ b ∈ fp,∃ o,s.heap.get? b = some o ∧ ∀ v,o.data ≠ .cell v):Inv X (pins ++ ZgY fp s.heap) σ H s:=
 I.pins_of fun p hp=>(List.mem_append.mp hp).elim (fun z=>I.pin p (List.mem_append_right _ z)) fun z=>by
  obtain ⟨hb,e⟩:=ZlL z
  obtain ⟨f0,f1,f2,_⟩:=hf p.1 hb
  obtain ⟨o,e',d⟩:=ho p.1 hb
  rw [e] at e'; cases e'
  exact ⟨e,f0,f1,f2,d⟩
theorem Inv.unpinned {pins pl:List (Addr × Obj)} {σ:St} {H:Hp} {s:Shared} (I:Inv X (pins ++ pl) σ H s):Inv X pins σ H s:=I.pins_of fun p hp=>I.pin p (List.mem_append_right _ (List.mem_append_left _ hp))
theorem Zmt {iter:Expr} {body:List Stmt} {wi:TI} {g:TG} {tb:TS} {pos:Pos} (hp:PassesOwn (model X.prog X.w) X.A X.env X.xe) (hc:X.calm = true) (hi:PI X tg iter wi) (hg:PG X tg g) (hb:PSs X body tb)
  (hs:∀ x,foldedSetIterable iter X.env x = pure x:=by intro _; rfl):PS X (.For tg iter body [] pos) (Zsq wi g tb):=by
 intro pins s σ H D I h
 refine wpAny_For (thn (hi pins s σ H _ I h) fun v s1 h1=>thn h1 fun itv s2 h2=>?_) hs
 obtain ⟨it,fp,tn,J,H2,e,I2,T,st2,f2,W,⟨m0,w0⟩,turn⟩:=h2
 subst e
 have stat:∀ {H':Hp},(∀ b ∈ fp,H' b = none) → ∀ b ∈ fp,ZfP X pins H' b:=fun hn b hb=>⟨hn b hb,(f2 b hb).2⟩
 refine codeAny_forLoop_any (fun n s'=>∃ i σ' H',Inv X pins σ' H' s' ∧ tn i s'.heap ∧ (∀ b ∈ fp,H' b = none) ∧ W i n σ' H') ?_ m0 ⟨0,σ,H2,I2,st2,fun b hb=>(f2 b hb).1,w0⟩
 rintro n s3 ⟨i,σ3,H3,I3,st3,fr3,w3⟩
 rcases turn i n σ3 H3 w3 with ⟨stop,qn⟩ | ⟨go,N,hN,step⟩
 ·refine wpAny_passesOwn hp (thn (T.done X rfl rfl rfl hc i pins s3 σ3 H3 X.xe I3 (stat fr3) st3 stop) fun r s4 ⟨hr,I4⟩=>?_)
  subst hr
  exact wpAny_execs_nil ⟨σ3,H3,I4,qn⟩
 ·refine wpAny_passesOwn hp (thn (T.item X rfl rfl rfl hc i pins s3 σ3 H3 X.xe I3 (stat fr3) st3 go) fun r s4 ⟨u,hr,h4⟩=>?_)
  subst hr
  refine wpAny_passesOwn hp (thn h4 fun _ s5 zz1=>?_)
  obtain ⟨x,H5,I5,r5,y5,st5,fr5⟩:=zz1
  have I5':=I5.pinned (stat fr5) (T.obj _ _ st5)
  refine wpAny_passesOwn hp (thn (hg _ s5 σ3 H5 x u _ I5' r5 (step x H5 y5)) fun _ s6 zz1=>?_)
  obtain ⟨σ6,H6,I6,q6⟩:=zz1
  refine wpAny_passesOwn hp (thn (hb _ s6 σ6 H6 _ I6 q6) fun f s7 q7=>?_)
  have again:∀ {σ7:St} {H7:Hp},Inv X (pins ++ ZgY fp s5.heap) σ7 H7 s7 → N σ7 H7 → ∃ m,m < n ∧ ∃ i σ' H',Inv X pins σ' H' s7 ∧ tn i s7.heap ∧ (∀ b ∈ fp,H' b = none) ∧ W i m σ' H':=fun {σ7 H7} I7 n7=>by
   obtain ⟨m',hm,w7⟩:=hN σ7 H7 n7
   refine ⟨m',hm,i + 1,σ7,H7,I7.unpinned,T.keep _ _ _ st5 fun b hb o e=>(I7.pin (b,o) (List.mem_append_right _ (List.mem_append_right _ (Zek hb e)))).1,fun b hb=>?_,w7⟩
   obtain ⟨o,e,d⟩:=T.obj _ _ st5 b hb
   exact (I7.pin (b,o) (List.mem_append_right _ (List.mem_append_right _ (Zek hb e)))).2.1
  cases f with
  | next=>obtain ⟨σ7,H7,I7,n7⟩:=q7; exact again I7 n7
  | cont=>obtain ⟨σ7,H7,I7,n7⟩:=q7; exact again I7 n7
  | brk=>obtain ⟨σ7,H7,I7,q7⟩:=q7; exact ⟨σ7,H7,I7.unpinned,q7⟩
  | ret v=>obtain ⟨x7,σ7,H7,I7,r7,q7⟩:=q7; exact ⟨x7,σ7,H7,I7.unpinned,r7,q7⟩
end
end L2
namespace L2
open PySem PySem.Spec PyProof.Rows
noncomputable abbrev R2:=V → V → Hp → VK → Prop
noncomputable def OpR (X:Cx) (f:Value → Value → Sem Value) (r:R2):Prop:=
 ∀ (pins:List (Addr × Obj)) (s:Shared) (σ:St) (H:Hp) (x y:V) (v u:Value) (Q:VK),Inv X pins σ H s → RelV x v → RelV y u → r x y H Q →
  wpAny (model X.prog X.w) X.A (f v u) (EP X pins σ Q) X.xe s
noncomputable def UnR (X:Cx) (f:Value → Sem Value) (r:V → Hp → VK → Prop):Prop:=
 ∀ (pins:List (Addr × Obj)) (s:Shared) (σ:St) (H:Hp) (x:V) (v:Value) (Q:VK),Inv X pins σ H s → RelV x v → r x H Q →
  wpAny (model X.prog X.w) X.A (f v) (EP X pins σ Q) X.xe s
noncomputable def Zbd (X:Cx) (f:Value) (r:List V → Hp → VK → Prop):Prop:=
 ∀ (pins:List (Addr × Obj)) (s:Shared) (σ:St) (H:Hp) (xs:List V) (us:List Value) (Q:VK),Inv X pins σ H s → Vals xs us → r xs H Q →
  wpAny (model X.prog X.w) X.A (call f us) (EP X pins σ Q) X.xe s
noncomputable def tOp (r:R2) (ta tb:TE):TE:=fun σ H Q=>ta σ H fun x H1=>tb σ H1 fun y H2=>r x y H2 Q
noncomputable def tUn (r:V → Hp → VK → Prop) (ta:TE):TE:=fun σ H Q=>ta σ H fun x H1=>r x H1 Q
noncomputable def rI (C:Int → Int → Prop) (g:Int → Int → V):R2:=fun x y H Q=>∃ i j,x = .int i ∧ y = .int j ∧ C i j ∧ Q (g i j) H
noncomputable def rI0 (g:Int → Int → V):R2:=fun x y H Q=>∃ i j,x = .int i ∧ y = .int j ∧ Q (g i j) H
noncomputable def rU (g:Int → V):V → Hp → VK → Prop:=fun x H Q=>∃ i,x = .int i ∧ Q (g i) H
section
variable {X:Cx} {a b c:Expr} {ta tb tc:TE} {pos:Pos}
theorem Zqv (ha:PE X a ta) (hb:PE X b tb) {pins:List (Addr × Obj)} {s:Shared} {σ:St} {H:Hp} {R:V → V → Hp → Prop} (I:Inv X pins σ H s)
  (h:ta σ H fun x H1=>tb σ H1 fun y H2=>R x y H2) {Q:Value → Shared → Prop} {f:Value → Value → Sem Value}
  (hf:∀ v u s2 x y H2,Inv X pins σ H2 s2 → RelV x v → RelV y u → R x y H2 → wpAny (model X.prog X.w) X.A (f v u) Q X.xe s2):
  wpAny (model X.prog X.w) X.A (eval a X.env) (fun v s₁=>wpAny (model X.prog X.w) X.A (eval b X.env) (fun u s₂=>wpAny (model X.prog X.w) X.A (f v u) Q X.xe s₂) X.xe s₁) X.xe s:=by
 refine thn (ha pins s σ H _ I h) fun v s1 zz1=>?_
 obtain ⟨x,H1,I1,r1,q1⟩:=zz1
 refine thn (hb pins s1 σ H1 _ I1 q1) fun u s2 zz1=>?_
 obtain ⟨y,H2,I2,r2,q2⟩:=zz1
 exact hf v u s2 x y H2 I2 r1 r2 q2
theorem Zrz {op:Operator} {r:R2} (ho:OpR X (binaryOp op) r) (ha:PE X a ta) (hb:PE X b tb):PE X (.BinOp a op b pos) (tOp r ta tb):=by
 intro pins s σ H Q I h
 exact wpAny_BinOp (Zqv ha hb I h fun v u s2 x y H2 I2 rx ry q=>ho pins s2 σ H2 x y v u Q I2 rx ry q)
theorem Zsb {op:UnaryOp} {r:V → Hp → VK → Prop} (ho:UnR X (unaryOp op) r) (ha:PE X a ta):PE X (.UnaryOp op a pos) (tUn r ta):=by
 intro pins s σ H Q I h
 exact UnaryOp_ (thn (ha pins s σ H _ I h) fun v s1 ⟨x,H1,I1,r1,q1⟩=>ho pins s1 σ H1 x v Q I1 r1 q1)
theorem opI {f:Value → Value → Sem Value} {C:Int → Int → Prop} {g:Int → Int → Int}
  (rule:∀ (i j:Int) (t u:Tok) (s:Shared) (Q:Value → Shared → Prop) (E:Value → Shared → Prop),C i j → Q (.int (g i j) s.toks) { s with toks:=s.toks + 1 } → wpAny (model X.prog X.w) X.A (f (.int i t) (.int j u)) Q E s):
  OpR X f (rI C fun i j=>.int (g i j)):=by
 intro pins s σ H x y v u Q I rx ry h
 obtain ⟨i,j,rfl,rfl,hc,q⟩:=h
 obtain ⟨t,rfl⟩:=rx
 obtain ⟨t',rfl⟩:=ry
 exact rule i j t t' s _ _ hc ⟨.int (g i j),H,I.tok _,⟨_,rfl⟩,q⟩
theorem ZrV {f:Value → Value → Sem Value} {g:Int → Int → Int}
  (rule:∀ (i j:Int) (t u:Tok) (s:Shared) (Q:Value → Shared → Prop) (E:Value → Shared → Prop),Q (.int (g i j) s.toks) { s with toks:=s.toks + 1 } → wpAny (model X.prog X.w) X.A (f (.int i t) (.int j u)) Q E s):
  OpR X f (rI0 fun i j=>.int (g i j)):=by
 intro pins s σ H x y v u Q I rx ry h
 obtain ⟨i,j,rfl,rfl,q⟩:=h
 obtain ⟨t,rfl⟩:=rx
 obtain ⟨t',rfl⟩:=ry
 exact rule i j t t' s _ _ ⟨.int (g i j),H,I.tok _,⟨_,rfl⟩,q⟩
theorem Zn6 {f:Value → Value → Sem Value} {g:Int → Int → Bool}
  (rule:∀ (i j:Int) (t u:Tok) (s:Shared) (Q:Value → Shared → Prop) (E:Value → Shared → Prop),Q (.bool (g i j)) s → wpAny (model X.prog X.w) X.A (f (.int i t) (.int j u)) Q E s):
  OpR X f (rI0 fun i j=>.bl (g i j)):=by
 intro pins s σ H x y v u Q I rx ry h
 obtain ⟨i,j,rfl,rfl,q⟩:=h
 obtain ⟨t,rfl⟩:=rx
 obtain ⟨t',rfl⟩:=ry
 exact rule i j t t' s _ _ ⟨.bl (g i j),H,I,rfl,q⟩
noncomputable def Zst (i j:Int):Prop:=0 < j ∧ j < 1073741824
noncomputable def ZsN (i j:Int):Prop:=0 ≤ j ∧ j ≤ 1000000 ∧ i.natAbs < 2 ^ 64
noncomputable def ZqH (i j:Int):Prop:=(-(2 ^ 64) < i ∧ i < 2 ^ 64) ∨ (-(2 ^ 64) < j ∧ j < 2 ^ 64)
theorem ZqH.ok {i j:Int} (h:ZqH i j):IntMulOk i j:=by
 rcases h with ⟨h1,h2⟩ | ⟨h1,h2⟩
 ·exact .of_left (intBits_le_64 h1 h2)
 ·exact .of_right (intBits_le_64 h1 h2)
theorem ZpQ:OpR X (binaryOp .Add) (rI0 fun i j=>.int (i + j)):=ZrV fun _ _ _ _ _ _ _ q=>add_int q
theorem ZpC:OpR X (binaryOp .Sub) (rI0 fun i j=>.int (i - j)):=ZrV fun _ _ _ _ _ _ _ q=>sub_int q
theorem ZpE:OpR X (binaryOp .Mult) (rI ZqH fun i j=>.int (i * j)):=opI fun _ _ _ _ _ _ _ hc q=>mul_int q hc.ok
theorem ZnS:OpR X (binaryOp .FloorDiv) (rI Zst fun i j=>.int (i / j)):=opI fun i j _ _ _ _ _ hc q=>by
 have h1:(0:Int) < j:=hc.1
 have h2:j < 1073741824:=hc.2
 exact floordiv_int (by exact fun z=>iN [] [_] 2 26014245025 T1 z h1) (by rw [Int.fdiv_eq_ediv_of_nonneg i (by exact Int.le_of_lt h1)]; exact q) (.inl (PyProof.noPylong_small (by omega)))
theorem ZpM:OpR X (binaryOp .Mod) (rI (fun _ j=>0 < j) fun i j=>.int (i % j)):=opI fun i j _ _ _ _ _ hc q=>by
 have h1:(0:Int) < j:=hc
 exact mod_int' (by exact fun z=>iN [] [_] 2 26014245025 T1 z h1) (by rw [Int.fmod_eq_emod_of_nonneg i (by exact Int.le_of_lt h1)]; exact q)
theorem Zqp:OpR X (binaryOp .Pow) (rI ZsN fun i j=>.int (i ^ j.toNat)):=opI fun _ _ _ _ _ _ _ hc q=>pow_int_small hc.1 hc.2.1 hc.2.2 q
theorem unI {f:Value → Sem Value} {g:Int → Int}
  (rule:∀ (i:Int) (t:Tok) (s:Shared) (Q:Value → Shared → Prop) (E:Value → Shared → Prop),Q (.int (g i) s.toks) { s with toks:=s.toks + 1 } → wpAny (model X.prog X.w) X.A (f (.int i t)) Q E s):
  UnR X f (rU fun i=>.int (g i)):=by
 intro pins s σ H x v Q I rx h
 obtain ⟨i,rfl,q⟩:=h
 obtain ⟨t,rfl⟩:=rx
 exact rule i t s _ _ ⟨.int (g i),H,I.tok _,⟨_,rfl⟩,q⟩
theorem ZpW:UnR X (unaryOp .USub) (rU fun i=>.int (-i)):=unI fun _ _ _ _ _ q=>neg_int q
end
section
variable {X:Cx} {a b c:Expr} {ta tb tc:TE} {pos:Pos}
theorem Zl9 {pins:List (Addr × Obj)} {σ:St} {H:Hp} {s:Shared} {Q:VK} {k k':Bool} (I:Inv X pins σ H s) (q:Q (.bl k) H) (e:k = k'):EP X pins σ Q (.bool k') s:=by
 subst e
 exact ⟨.bl k,H,I,rfl,q⟩
theorem Zrc:OpR X (compareOp .Lt) (rI0 fun i j=>.bl (decide (i < j))):=Zn6 fun _ _ _ _ _ _ _ q=>lt_int q
theorem Zq8:OpR X (compareOp .LtE) (rI0 fun i j=>.bl (decide (i ≤ j))):=Zn6 fun _ _ _ _ _ _ _ q=>le_int q
theorem Zra:OpR X (compareOp .Gt) (rI0 fun i j=>.bl (decide (j < i))):=Zn6 fun _ _ _ _ _ _ _ q=>gt_int q
theorem Zr4:OpR X (compareOp .GtE) (rI0 fun i j=>.bl (decide (j ≤ i))):=Zn6 fun _ _ _ _ _ _ _ q=>ge_int q
theorem ZlO:OpR X (compareOp .In) (fun x y H Q=>∃ i j,x = .str i ∧ y = .str j ∧ Q (.bl (!(Builtin.Str.occurrences j i 0 j.length 1).isEmpty)) H):=by
 intro pins s σ H x y v u Q I rx ry h
 obtain ⟨i,j,rfl,rfl,q⟩:=h
 obtain ⟨t,rfl⟩:=rx
 obtain ⟨t',rfl⟩:=ry
 exact in_str (Zl9 I q rfl)
theorem ZnY:OpR X (compareOp .IsNot) (fun x y H Q=>y = .non ∧ Q (.bl (!decide (x = .non))) H):=by
 intro pins s σ H x y v u Q I rx ry h
 obtain ⟨rfl,q⟩:=h
 cases ry
 refine isnot_none_gen (Zl9 I q ?_)
 cases x <;> first
  | (cases rx; rfl)
  | (obtain ⟨t,rfl⟩:=rx; rfl)
theorem OpR.or {f:Value → Value → Sem Value} {r r':R2} (h:OpR X f r) (h':OpR X f r'):OpR X f (fun x y H Q=>r x y H Q ∨ r' x y H Q):=by
 intro pins s σ H x y v u Q I rx ry q
 rcases q with q | q
 ·exact h pins s σ H x y v u Q I rx ry q
 ·exact h' pins s σ H x y v u Q I rx ry q
theorem ZnO {op:CmpOp} {r:R2} (ho:OpR X (compareOp op) r) (ha:PE X a ta) (hb:PE X b tb) (hm:behindInMarks op b = false):PE X (.Compare a [op] [b] pos) (tOp r ta tb):=by
 intro pins s σ H Q I h
 exact wpAny_Compare1 (Zqv ha hb I h fun v u s2 x y H2 I2 rx ry q=>ho pins s2 σ H2 x y v u Q I2 rx ry q) hm
noncomputable def ZrS (t:TE):TT:=fun σ H Q=>t σ H fun x H'=>∃ k,x = .bl k ∧ Q k H'
theorem Zn9 {op:CmpOp} {r:R2} (ho:OpR X (compareOp op) r) (ha:PE X a ta) (hb:PE X b tb) (hm:behindInMarks op b = false):PT X (.Compare a [op] [b] pos) (ZrS (tOp r ta tb)):=by
 intro pins s σ H Q I h
 refine wpAny_isTrue_Compare1 (thn (ha pins s σ H _ I h) fun v s1 ⟨x,H1,I1,r1,q1⟩=>thn (hb pins s1 σ H1 _ I1 q1) fun u s2 ⟨y,H2,I2,r2,q2⟩=>
  thn (ho pins s2 σ H2 x y v u _ I2 r1 r2 q2) fun c s3 ⟨z,H3,I3,r3,k,e,q3⟩=>?_) hm
 subst e
 cases r3
 exact wpAny_truthy_bool ⟨H3,I3,q3⟩
theorem ZgM:(sizeLine:Nat) < 2 ^ 63:=by rw [sizeLine_eq]; decide
theorem ZjZ:OpR X (binaryOp .Add) (fun x y H Q=>∃ i j,x = .str i ∧ y = .str j ∧ i.length + j.length ≤ sizeLine ∧ Q (.str (i ++ j)) H):=by
 intro pins s σ H x y v u Q I rx ry h
 obtain ⟨i,j,rfl,rfl,hz,q⟩:=h
 obtain ⟨t,rfl⟩:=rx
 obtain ⟨t',rfl⟩:=ry
 exact add_str (fun t' tk=>⟨.str (i ++ j),H,I.tok _,⟨_,rfl⟩,q⟩) hz
theorem vals1 {x:V} {us:List Value} (r:Vals [x] us):∃ u,us = [u] ∧ RelV x u:=by
 cases r with
 | cons r1 r2=>cases r2; exact ⟨_,rfl,r1⟩
theorem vals2 {x y:V} {us:List Value} (r:Vals [x,y] us):∃ u w',us = [u,w'] ∧ RelV x u ∧ RelV y w':=by
 cases r with
 | cons r1 r2=>
  cases r2 with
  | cons r3 r4=>cases r4; exact ⟨_,_,rfl,r1,r3⟩
theorem ZlF:Zbd X (.type "int") (fun xs H Q=>(∃ i,xs = [.int i] ∧ Q (.int i) H) ∨ ∃ k,xs = [.bl k] ∧ Q (.int (if k then 1 else 0)) H):=by
 intro pins s σ H xs us Q I r h
 rcases h with ⟨i,rfl,q⟩ | ⟨k,rfl,q⟩
 ·obtain ⟨u,rfl,t,rfl⟩:=vals1 r
  exact call_int_int ⟨.int i,H,I,⟨_,rfl⟩,q⟩
 ·obtain ⟨u,rfl,r1⟩:=vals1 r
  cases r1
  exact call_int_bool ⟨.int (if k then 1 else 0),H,I.tok _,⟨_,rfl⟩,q⟩
noncomputable def ZsY (K:PySem.W.Frag) (x:V) (H:Hp) (n:Nat):Prop:=
 match x with
 | .str y=>y.length ≤ sizeLine ∧ n = y.length
 | .byt y=>y.size ≤ sizeLine ∧ n = y.size
 | .ref p=>(∃ xs,SqL K H p xs ∧ n = xs.length) ∨ ∃ xs,SqT K H p xs ∧ n = xs.length
 | _=>False
theorem Zmm:Zbd X (.builtin "len") (fun xs H Q=>∃ x n,xs = [x] ∧ ZsY X.K x H n ∧ Q (.int n) H):=by
 intro pins s σ H xs us Q I r h
 obtain ⟨x,n,rfl,e,q⟩:=h
 obtain ⟨u,rfl,rx⟩:=vals1 r
 have hl:=ZgM
 have hs:sizeLine = 16777216:=sizeLine_eq
 cases x with
 | str y=>
  obtain ⟨t,rfl⟩:=rx
  obtain ⟨hy,e'⟩:y.length ≤ sizeLine ∧ n = y.length:=e
  subst e'
  exact len_str (by omega) ⟨.int _,H,I.tok _,⟨_,rfl⟩,q⟩
 | byt y=>
  obtain ⟨t,rfl⟩:=rx
  obtain ⟨hy,e'⟩:y.size ≤ sizeLine ∧ n = y.size:=e
  subst e'
  exact PySem.W.len_bytes (by omega) ⟨.int _,H,I.tok _,⟨_,rfl⟩,q⟩
 | ref p=>
  cases rx
  have e':(∃ xs,SqL X.K H p xs ∧ n = xs.length) ∨ ∃ xs,SqT X.K H p xs ∧ n = xs.length:=e
  rcases e' with ⟨xs,hx,e'⟩ | ⟨xs,hx,e'⟩
  ·subst e'
   obtain ⟨its,r',pl,hz⟩:=I.list hx
   have hlen:=r'.length
   exact Calls.call_len_list pl.isList (by simp only [List.size_toArray]; omega) ⟨.int xs.length,H,I.tok _,⟨_,by simp only [List.size_toArray]; rw [hlen]⟩,q⟩
  ·subst e'
   obtain ⟨its,r',pl,hz⟩:=I.tuple hx
   have hlen:=r'.length
   exact len_tuple pl (by simp only [List.size_toArray]; omega) ⟨.int xs.length,H,I.tok _,⟨_,by simp only [List.size_toArray]; rw [hlen]⟩,q⟩
 | _=>exact (show False from e).elim
end
end L2
namespace L2
open PySem PySem.Spec PyProof.Rows
structure ZkE (h:Heap) (x dx C:Addr) (mA:Str → Option Value):Prop where
 obj:h.get? x = some (PySem.W.instObj C dx)
 ns:h.Ns1 dx mA
 ne:dx ≠ x
theorem ZlH {h:Heap} {dx:Addr} {mA:Str → Option Value} (n:h.Ns1 dx mA):∃ od,h.get? dx = some od ∧ ∀ name,PySem.W.lookIn name od = some (mA name):=by
 obtain ⟨o,es,ep,ho,hd,hk,_,hm⟩:=n
 refine ⟨o,ho,fun name=>?_⟩
 have e:=hm name
 unfold nsFind findBy at e
 rw [← Array.find?_toList] at e
 unfold PySem.W.lookIn
 rw [hd]
 dsimp only
 split
 ·rename_i y q
  rw [q] at e
  exact congrArg some e
 ·rename_i q
  rw [q] at e
  have a:es.toList.any (·.refKey) = false:=by
   rw [List.any_eq_false]
   intro y hy
   obtain ⟨z,t,hkey⟩:=hk y (Array.mem_toList_iff.mp hy)
   simp [DictEntry.refKey,hkey]
  have a':¬ es.toList.any (·.refKey) = true:=by rw [a]; exact Bool.false_ne_true
  rw [if_neg a']
  exact congrArg some e
theorem ZkE.look {h:Heap} {x dx C:Addr} {mA:Str → Option Value} (I:ZkE h x dx C mA):∃ od,PySem.W.InstAt h x (PySem.W.instObj C dx) C (some od) ∧ ∀ name,PySem.W.lookIn name od = some (mA name):=
 let ⟨od,ho,hl⟩:=ZlH I.ns
 ⟨od,⟨I.obj,rfl,rfl,ho⟩,hl⟩
section
variable {prog:Program} {w:World} {A:Around} {E:Value → Shared → Prop} {s:Shared} {K:PySem.W.Frag} {x dx C f:Addr} {mA:Str → Option Value} {name:Str} {v:Value}
theorem Zn8 {expr:Bool} {Q:Value → Shared → Prop} (X:K.In s.heap) (I:ZkE s.heap x dx C mA) (hg:PySem.W.plainGet K C name = true) (hh:PySem.W.hasDictIn K C = true)
  (ha:PySem.W.findIn K (.ref C) name = some none) (hv:mA name = some v) (hv':PySem.W.handedIn v = true) (h:Q v { s with toks:=s.toks + 1 }):
  wpAny (model prog w) A (getAttr (.ref x) name expr) Q E s:=by
 obtain ⟨od,J,hl⟩:=I.look
 exact PySem.W.get_value X J (PySem.W.plainGet_of hg).1 (PySem.W.findObj_own hh ha rfl (by rw [hl,hv])) hv' h
theorem ZnC {pl:Sem Bool} {Q:Value × List Value → Shared → Prop} (X:K.In s.heap) (I:ZkE s.heap x dx C mA) (hg:PySem.W.plainGet K C name = true)
  (hf:PySem.W.findIn K (.ref C) name = some (some (.ref f))) (ht:PySem.W.isFn K (.ref f) = true) (hv:mA name = none) (h:Q (.ref f,[.ref x]) s):
  wpAny (model prog w) A (getMethod (.ref x) name pl) Q E s:=by
 obtain ⟨od,J,hl⟩:=I.look
 exact PySem.W.method_fn X J (PySem.W.plainGet_of hg).1 (PySem.W.plainGet_of hg).2 hf (beq_iff_eq.mp ht) (by show (PySem.W.lookIn name od).map (·.isSome) = some false; rw [hl,hv]; rfl) h
theorem ZnT {ns:List Str} {Q:Unit → Shared → Prop} (X:K.In s.heap) (I:ZkE s.heap x dx C mA)
  (hs:PySem.W.findIn K (.ref C) "__setattr__" = some (some (.builtin "object.__setattr__"))) (hp:PySem.W.plainOver K C = true) (ht:PySem.W.takerIn K C name = some none) (hh:PySem.W.hasDictIn K C = true)
  (hw:PySem.Within mA ns) (hsz:ns.length ≤ sizeLine)
  (h:∀ h',ZkE h' x dx C (fun y=>if y = name then some v else mA y) → Heap.SameBut dx s.heap h' → Q () { s with heap:=h',toks:=s.toks + 2 }):
  wpAny (model prog w) A (setAttr (.ref x) name v) Q E s:=by
 obtain ⟨od,J,hl⟩:=I.look
 refine PySem.W.set_plain X J hs (PySem.W.osa_open (s:={ s with toks:=s.toks + 1 }) (r:=none) X J hp ht fun b=>?_)
 obtain ⟨cd,hc,hd'⟩:=PySem.W.any_some hh
 have hx:s.heap.get? x = some ⟨.ref C,some dx,.plain,#[]⟩:=I.obj
 refine wpAny_bind (wpAny_pure (wpAny_bind (wpAny_bind (wpAny_loadPart hx (wpAny_bind (PySem.W.Looks.here (s:={ s with toks:=s.toks + 1 }) (PySem.W.looks_clsIn X hc) ?_))))))
 rw [hd']
 refine wpAny_pure (a:=some dx) (wpAny_bind (wpAny_pure (wpAny_bind ?_)))
 refine wpAny_nsSet1 (s:={ s with toks:=s.toks + 1 }) I.ns fun h' hn2 hs2=>?_
 obtain ⟨oD,esD,epD,hoD,hdD,hcD⟩:=hn2.count (PySem.Within.cons name v hw)
 refine wpAny_bind (wpAny_lookBehind hoD (by rw [hdD]; exact pastItsLine_dict (Nat.le_trans hcD (by rw [List.length_cons]; exact lB 1 0xa1ca0c01001 T1 hsz))) ?_)
 exact wpAny_pure (h _ ⟨(hs2.2 _ (Ne.symm I.ne)).trans I.obj,hn2,I.ne⟩ hs2)
theorem Zm7 {R:Result → Shared → Prop} {vs:List Value} {kw:List (Str × Value)} (X:K.In s.heap) (hm:PySem.W.makesIn K C = true)
  (hi:PySem.W.findIn K (.ref C) "__init__" = some (some (.ref f))) (hf:PySem.W.typeIn K (.ref f) = some (.type "function"))
  (h:codeAny (model prog w) (A.under (.builtin "type.__call__" ⟨.ref C :: vs,kw⟩)) (.call (.ref f) ⟨.ref (s.heap.objs.size + 1) :: vs,kw⟩) (PySem.W.InitBack (s.heap.objs.size + 1) R)
   { s with heap:=(s.heap.push PySem.W.emptyDict).push (PySem.W.instObj C s.heap.objs.size) }):
  codeAny (model prog w) A (.call (.ref C) ⟨vs,kw⟩) R s:=by
 obtain ⟨hh,g,d,t,os⟩:=s
 exact PySem.W.make_core (PySem.W.makes_of X hm) (PySem.W.looks_findIn X hi) (fun self=>PySem.W.bind_fn X self hf) (.inl rfl) h
end
noncomputable def ZdX (f:Str) (v:V):List (Str × V) → List (Str × V)
 | []=>[(f,v)]
 | (g,x) :: r=>if g = f then (g,v) :: r else (g,x) :: ZdX f v r
theorem Zgc (f g:Str) (v:V):∀ fs:List (Str × V),(ZdX f v fs).lookup g = if g = f then some v else fs.lookup g
 | []=>by
  show List.lookup g [(f,v)] = _
  by_cases h:g = f
  ·have hb:(g == f) = true:=beq_iff_eq.mpr h
   simp only [List.lookup,hb,if_pos h]
  ·have hb:(g == f) = false:=beq_eq_false_iff_ne.mpr h
   simp only [List.lookup,hb,if_neg h]
 | (k,x) :: r=>by
  have ih:=Zgc f g v r
  rw [show ZdX f v ((k,x) :: r) = (if k = f then (k,v) :: r else (k,x) :: ZdX f v r) from rfl]
  by_cases hk:k = f
  ·rw [if_pos hk]
   by_cases h:g = k
   ·have hb:(g == k) = true:=beq_iff_eq.mpr h
    simp only [List.lookup,hb,if_pos (h.trans hk)]
   ·have hb:(g == k) = false:=beq_eq_false_iff_ne.mpr h
    simp only [List.lookup,hb,if_neg (fun e:g = f=>h (e.trans hk.symm))]
  ·rw [if_neg hk]
   by_cases h:g = k
   ·have hb:(g == k) = true:=beq_iff_eq.mpr h
    simp only [List.lookup,hb,if_neg (fun e:g = f=>hk (h.symm.trans e))]
   ·have hb:(g == k) = false:=beq_eq_false_iff_ne.mpr h
    simp only [List.lookup,hb]
    exact ih
theorem ZfW (f:Str) (v:V):∀ fs:List (Str × V),f ∈ (ZdX f v fs).map (·.1) ∧ ∀ g,g ∈ fs.map (·.1) → g ∈ (ZdX f v fs).map (·.1)
 | []=>⟨by simp [ZdX],fun g h=>by simp at h⟩
 | (k,x) :: r=>by
  obtain ⟨i1,i2⟩:=ZfW f v r
  rw [show ZdX f v ((k,x) :: r) = (if k = f then (k,v) :: r else (k,x) :: ZdX f v r) from rfl]
  by_cases hk:k = f
  ·rw [if_pos hk]
   subst hk
   exact ⟨by simp,fun g h=>by simpa using h⟩
  ·rw [if_neg hk]
   refine ⟨?_,fun g h=>?_⟩
   ·rw [List.map_cons]
    exact List.mem_cons_of_mem _ i1
   ·rw [List.map_cons] at h ⊢
    rcases List.mem_cons.mp h with e | e
    ·exact List.mem_cons.mpr (.inl e)
    ·exact List.mem_cons_of_mem _ (i2 g e)
theorem Zgd (f:Str) (v:V):∀ fs:List (Str × V),(ZdX f v fs).length ≤ fs.length + 1
 | []=>by simp [ZdX]
 | (k,x) :: r=>by
  have ih:=Zgd f v r
  rw [show ZdX f v ((k,x) :: r) = (if k = f then (k,v) :: r else (k,x) :: ZdX f v r) from rfl]
  by_cases hk:k = f
  ·rw [if_pos hk,List.length_cons,List.length_cons]; exact Nat.le_add_right _ _
  ·rw [if_neg hk,List.length_cons,List.length_cons]; exact lB 1 0xaa1cca0c0a1c001 T1 ih
theorem ZfQ.some_of {v:V} {o:Option Value} (r:ZfQ (some v) o):∃ u,o = some u ∧ RelV v u:=by
 cases o with
 | none=>exact (show False from r).elim
 | some u=>exact ⟨u,rfl,r⟩
theorem ZfQ.none_of {o:Option Value} (r:ZfQ none o):o = none:=by
 cases o with
 | none=>rfl
 | some u=>exact (show False from r).elim
theorem Zlr {v:V} {u:Value} (r:RelV v u):PySem.W.handedIn u = true:=by
 cases v with
 | non=>cases (show u = Value.none from r); rfl
 | bl b=>cases (show u = Value.bool b from r); rfl
 | int i=>obtain ⟨t,e⟩:=(show ∃ t,u = Value.int i t from r); cases e; rfl
 | str x=>obtain ⟨t,e⟩:=(show ∃ t,u = Value.str x t from r); cases e; rfl
 | byt b=>obtain ⟨t,e⟩:=(show ∃ t,u = Value.bytes b t from r); cases e; rfl
 | flt b=>obtain ⟨t,e⟩:=(show ∃ t,u = Value.float b t from r); cases e; rfl
 | ref a=>cases (show u = Value.ref a from r); rfl
 | ty n=>cases (show u = Value.type n from r); rfl
section
variable {P:Program} {w:World} {H H':Hp} {h h':Heap} {a C dx:Addr} {fs fs':List (Str × V)}
theorem ZgA (hok:HOk P w H h) (e:H a = some (.ins C dx fs)):∃ mA,ZkE h a dx C mA ∧ (∀ f,ZfQ (fs.lookup f) (mA f)) ∧ PySem.Within mA (fs.map (·.1)) ∧ fs.length ≤ 1000 ∧ H dx = some (.own a):=by
 obtain ⟨d,z,ne,ob,mA,n,r,q⟩:=(show Zbj P w H h a (.ins C dx fs) from hok a _ e)
 exact ⟨mA,⟨ob,n,ne⟩,r,q,z,d⟩
end
structure Cls (K:PySem.W.Frag) (C:Addr):Prop where
 pg:PySem.W.plainGet K C Str.empty = true
 hd:PySem.W.hasDictIn K C = true
 po:PySem.W.plainOver K C = true
 sa:PySem.W.findIn K (.ref C) "__setattr__" = some (some (.builtin "object.__setattr__"))
theorem Cls.get {K:PySem.W.Frag} {C:Addr} (c:Cls K C) (f:Str):PySem.W.plainGet K C f = true:=c.pg
noncomputable def ZdQ (K:PySem.W.Frag) (C:Addr) (f:Str):Prop:=PySem.W.findIn K (.ref C) f = some none
theorem ZdQ.taker {K:PySem.W.Frag} {C:Addr} {f:Str} (n:ZdQ K C f):PySem.W.takerIn K C f = some none:=by
 unfold PySem.W.takerIn
 rw [show PySem.W.findIn K (.ref C) f = some none from n]
 rfl
structure Meth (K:PySem.W.Frag) (C:Addr) (m:Str) (f:Addr):Prop where
 at_:PySem.W.findIn K (.ref C) m = some (some (.ref f))
 fn:PySem.W.isFn K (.ref f) = true
 kp:PySem.W.keepIn K (.ref f) = true
section
variable {X:Cx} {pins:List (Addr × Obj)} {σ:St} {H:Hp} {s:Shared} {a C dx:Addr} {fs:List (Str × V)} {f:Str} {v:V} {A:Around} {E:Value → Shared → Prop}
theorem Zko {b:Bool} {Q:Value → Shared → Prop} (I:Inv X pins σ H s) (e:H a = some (.ins C dx fs)) (c:Cls X.K C) (n:ZdQ X.K C f) (l:fs.lookup f = some v)
  (h:∀ u s',Inv X pins σ H s' → RelV v u → Q u s'):wpAny (model X.prog X.w) A (getAttr (.ref a) f b) Q E s:=by
 obtain ⟨mA,O,r,_,_,_⟩:=ZgA I.hok e
 obtain ⟨u,hu,ru⟩:=ZfQ.some_of (v:=v) (o:=mA f) (by rw [← l]; exact r f)
 exact Zn8 I.kIn O (c.get f) c.hd n hu (Zlr ru) (h u _ (I.tok _) ru)
theorem ZgK {m:Str} {g:Addr} {pl:Sem Bool} {Q:Value × List Value → Shared → Prop} (I:Inv X pins σ H s) (e:H a = some (.ins C dx fs)) (c:Cls X.K C) (k:Meth X.K C m g) (l:fs.lookup m = none)
  (h:Q (.ref g,[.ref a]) s):wpAny (model X.prog X.w) A (getMethod (.ref a) m pl) Q E s:=by
 obtain ⟨mA,O,r,_,_,_⟩:=ZgA I.hok e
 have hn:mA m = none:=ZfQ.none_of (by rw [← l]; exact r m)
 exact ZnC I.kIn O (c.get m) k.at_ k.fn hn h
theorem Zj3 {y:V} {u:Value} {Q:Unit → Shared → Prop} (I:Inv X pins σ H s) (e:H a = some (.ins C dx fs)) (c:Cls X.K C) (n:ZdQ X.K C f) (hl:fs.length < 1000) (ry:RelV y u)
  (h:∀ s',Inv X pins σ (upd H a (.ins C dx (ZdX f y fs))) s' → Q () s'):wpAny (model X.prog X.w) A (setAttr (.ref a) f u) Q E s:=by
 obtain ⟨mA,O,r,wi,_,ho⟩:=ZgA I.hok e
 have hz:(fs.map (·.1)).length ≤ sizeLine:=by rw [List.length_map,sizeLine_eq]; exact lA 1 0x10000007b003e83b011 T1 hl
 refine ZnT I.kIn O c.sa c.po n.taker c.hd wi hz fun h' O' sb=>h _ ?_
 have hd:∃ o,h'.get? dx = some o:=let ⟨o,_,_,e',_⟩:=O'.ns; ⟨o,e'⟩
 refine I.write (x:=a) (e:=dx) (by rw [e]; exact True.intro) (.inr ho) (fun b q hb z=>(sb.2 b hb).trans z) hd ?_
 refine ⟨by rw [ZaX O.ne]; exact ho,?_,O.ne,O'.obj,_,O'.ns,fun g=>?_,fun g hg=>?_⟩
 ·have:=Zgd f y fs; exact lB 2 0x3e83b003e83b111a1c001 T1 this hl
 ·show ZfQ ((ZdX f y fs).lookup g) (if g = f then some u else mA g)
  rw [Zgc]
  by_cases q:g = f
  ·rw [if_pos q,if_pos q]; exact ry
  ·rw [if_neg q,if_neg q]; exact r g
 ·by_cases q:g = f
  ·rw [q]; exact (ZfW f y fs).1
  ·refine (ZfW f y fs).2 g (wi g fun z=>hg ?_)
   show (if g = f then some u else mA g) = none
   rw [if_neg q]; exact z
theorem Inv.made (I:Inv X pins σ H s):Inv X pins σ (upd (upd H s.heap.objs.size (.own (s.heap.objs.size + 1))) (s.heap.objs.size + 1) (.ins C s.heap.objs.size []))
  { s with heap:=(s.heap.push PySem.W.emptyDict).push (PySem.W.instObj C s.heap.objs.size) }:=by
 have e1:(s.heap.push PySem.W.emptyDict).get? s.heap.objs.size = some PySem.W.emptyDict:=Heap.get?_push_size s.heap rfl
 have e2:((s.heap.push PySem.W.emptyDict).push (PySem.W.instObj C s.heap.objs.size)).get? (s.heap.objs.size + 1) = some (PySem.W.instObj C s.heap.objs.size):=by
  have:=Heap.get?_push_size (s.heap.push PySem.W.emptyDict) (o:=PySem.W.instObj C s.heap.objs.size) rfl
  rwa [Heap.size_push] at this
 have e3:(s.heap.push PySem.W.emptyDict).Ns s.heap.objs.size (fun _=>none):=⟨PySem.W.emptyDict,#[],_,e1,rfl,(fun e he=>absurd he (by simp)),fun _=>rfl⟩
 have I1:=I.laid (a:=s.heap.objs.size) (o:=.own (s.heap.objs.size + 1)) (h':=s.heap.push PySem.W.emptyDict) (t':=s.toks) (fun b u q=>Heap.get?_push_of_some _ q) (Nat.le_refl _) ⟨_,e1⟩
 refine I1.laid (a:=s.heap.objs.size + 1) (o:=.ins C s.heap.objs.size []) (t':=s.toks) (fun b u q=>Heap.get?_push_of_some _ q) (Nat.le_of_eq (Heap.size_push _ _)) ?_
 have ne:s.heap.objs.size ≠ s.heap.objs.size + 1:=Nat.ne_of_lt (Nat.lt_succ_self _)
 refine ⟨by rw [ZaX ne,Zcx],Nat.zero_le _,ne,e2,fun _=>none,(Heap.Ns1.of_empty e3).at fun o q=>Heap.get?_push_of_some _ q,fun _=>True.intro,fun y hy=>absurd rfl hy⟩
theorem ZnM {prog:Program} {w:World} {env:Env} {e:Expr} {f:Str} {pos:Pos} {s:Shared} {Q:Value → Shared → Prop} (hb:attributeBase e f env (eval e env) = eval e env)
  (h:wpAny (model prog w) A (eval e env) (fun o s₁=>wpAny (model prog w) A (getAttr o f true) Q E s₁) E s):wpAny (model prog w) A (eval (.Attribute e f pos) env) Q E s:=
 Attribute_any_ h (by rw [arm_eval_Attribute,hb])
end
noncomputable def ZsM (K:PySem.W.Frag) (ta:TE) (f:Str):TE:=fun σ H Q=>ta σ H fun x H1=>∃ a C dx fs v,x = .ref a ∧ H1 a = some (.ins C dx fs) ∧ Cls K C ∧ ZdQ K C f ∧ fs.lookup f = some v ∧ Q v H1
noncomputable def Zsy (K:PySem.W.Frag) (ta tv:TE) (f:Str):TS:=fun D σ H=>tv σ H fun y H1=>ta σ H1 fun x H2=>∃ a C dx fs,x = .ref a ∧ H2 a = some (.ins C dx fs) ∧ Cls K C ∧ ZdQ K C f ∧ fs.length < 1000 ∧
 D.nx σ (upd H2 a (.ins C dx (ZdX f y fs)))
section
variable {X:Cx} {o e value:Expr} {f:Str} {pos pos' tpos:Pos} {ta tv:TE}
theorem ZqI (he:PE X e ta) (hb:attributeBase e f X.env (eval e X.env) = eval e X.env):PE X (.Attribute e f pos) (ZsM X.K ta f):=by
 intro pins s σ H Q I h
 refine ZnM hb (thn (he pins s σ H _ I h) fun u s1 zz1=>?_)
 obtain ⟨x,H1,I1,rx,a,C,dx,fs,v,ex,ea,c,n,l,q⟩:=zz1
 subst ex
 obtain rfl:u = Value.ref a:=rx
 exact Zko I1 ea c n l fun u' s2 I2 ru=>⟨v,H1,I2,ru,q⟩
theorem ZpT (ha:PE X o ta) (hv:PE X value tv) (hs:swapsWith value (some (.Attribute o f pos')) pos.line X.env = pure false):PS X (.Assign [.Attribute o f pos'] value pos) (Zsy X.K ta tv f):=by
 intro pins s σ H D I h
 refine plainObj_wpAny_Assign_Attribute (thn (hv pins s σ H _ I h) fun u s1 ⟨y,H1,I1,ry,q⟩=>thn (ha pins s1 σ H1 _ I1 q) fun ov s2 zz1=>?_) hs
 obtain ⟨x,H2,I2,rx,a,C,dx,fs,ex,ea,c,n,l,q2⟩:=zz1
 subst ex
 obtain rfl:ov = Value.ref a:=rx
 exact Zj3 I2 ea c n l ry fun s3 I3=>⟨σ,_,I3,q2⟩
end
section
variable {X:Cx} {pins:List (Addr × Obj)} {σ:St} {H:Hp} {s:Shared} {A:Around} {E:Value → Shared → Prop} {Q:Value → Shared → Prop} {c:Value} {b:Bool}
inductive Zgt (K:PySem.W.Frag) (H:Hp):V → Value → Prop where
 | non:Zgt K H .non (.type "NoneType")
 | bl (x:Bool):Zgt K H (.bl x) (.type "bool")
 | int (i:Int):Zgt K H (.int i) (.type "int")
 | str (x:Str):Zgt K H (.str x) (.type "str")
 | flt (x:UInt64):Zgt K H (.flt x) (.type "float")
 | lst {a:Addr} {xs:List V} (e:H a = some (.lst xs)):Zgt K H (.ref a) (.type "list")
 | frz {a:Addr} {o:Obj} {xs:List V} (e:H a = some (.frz o (.lst xs))):Zgt K H (.ref a) (.type "list")
 | tup {a:Addr} {xs:List V} (e:H a = some (.tup xs)):Zgt K H (.ref a) (.type "tuple")
 | dK {a:Addr} {kvs:List (Key × V)} (e:H a = some (.dK kvs)):Zgt K H (.ref a) (.type "dict")
 | dT {a:Addr} {kvs:List (List Key × V)} (e:H a = some (.dT kvs)):Zgt K H (.ref a) (.type "dict")
 | ins {a C dx:Addr} {fs:List (Str × V)} (e:H a = some (.ins C dx fs)) (cl:Cls K C) (ha:PySem.W.findIn K (.ref C) "__class__" = some (some (.builtin "object.__class__")))
   (hn:PySem.W.specialIn K (.builtin "object.__class__") "__get__" = some (some (.builtin "getset_descriptor.__get__"))) (htk:PySem.W.takesIn K (.builtin "object.__class__") = some true)
   (hm:PySem.W.mroIn K C (.type "object") = some true):Zgt K H (.ref a) (.ref C)
theorem Zdh {x:V} {u t:Value} (I:Inv X pins σ H s) (rx:RelV x u) (ty:Zgt X.K H x t) (e:PySem.W.kitOne X.K t c = some b) (h:∀ tk,Q (.bool b) { s with toks:=tk }):
  wpAny (model X.prog X.w) A (call (.builtin "isinstance") [u,c]) Q E s:=by
 cases ty with
 | non=>cases (show u = Value.none from rx); exact PySem.W.kia_one PySem.W.kitx_none I.kIn True.intro e (fun z=>nomatch z) h
 | bl y=>cases (show u = Value.bool y from rx); exact PySem.W.kia_one PySem.W.kitx_bool I.kIn True.intro e (fun z=>nomatch z) h
 | int i=>obtain ⟨t,q⟩:=(show ∃ t,u = Value.int i t from rx); cases q; exact PySem.W.kia_one PySem.W.kitx_int I.kIn True.intro e (fun z=>nomatch z) h
 | str y=>obtain ⟨t,q⟩:=(show ∃ t,u = Value.str y t from rx); cases q; exact PySem.W.kia_one PySem.W.kitx_str I.kIn True.intro e (fun z=>nomatch z) h
 | flt y=>obtain ⟨t,q⟩:=(show ∃ t,u = Value.float y t from rx); cases q; exact PySem.W.kia_one PySem.W.kitx_float I.kIn True.intro e (fun z=>nomatch z) h
 | @lst a xs ea=>
  cases (show u = Value.ref a from rx)
  obtain ⟨_,_,n,_,h1⟩:=(show Zbj X.prog X.w H s.heap a (.lst xs) from I.hok a _ ea)
  exact PySem.W.kia_one PySem.W.kitx_list I.kIn ⟨_,h1,rfl⟩ e (fun z=>nomatch z) h
 | @frz a ob xs ea=>
  cases (show u = Value.ref a from rx)
  obtain ⟨_,_,_,n,_,h1⟩:=(show Zbj X.prog X.w H s.heap a (.frz ob (.lst xs)) from I.hok a _ ea)
  exact PySem.W.kia_one PySem.W.kitx_list I.kIn ⟨_,h1,rfl⟩ e (fun z=>nomatch z) h
 | @tup a xs ea=>
  cases (show u = Value.ref a from rx)
  obtain ⟨_,_,_,p⟩:=(show Zbj X.prog X.w H s.heap a (.tup xs) from I.hok a _ ea)
  obtain ⟨o,h1,h2,_⟩:=p
  exact PySem.W.kia_one PySem.W.kitx_tuple I.kIn ⟨o,h1,h2.1⟩ e (fun z=>nomatch z) h
 | @dK a kvs ea=>
  cases (show u = Value.ref a from rx)
  obtain ⟨_,_,vs,_,p⟩:=(show Zbj X.prog X.w H s.heap a (.dK kvs) from I.hok a _ ea)
  obtain ⟨o,es,ep,h1,h2,_⟩:=p
  exact PySem.W.kia_one PySem.W.kitx_dict I.kIn ⟨o,h1,h2.1⟩ e (fun z=>nomatch z) h
 | @dT a kvs ea=>
  cases (show u = Value.ref a from rx)
  obtain ⟨_,_,xs,_,o,es,ep,h1,h2,_⟩:=(show Zbj X.prog X.w H s.heap a (.dT kvs) from I.hok a _ ea)
  exact PySem.W.kia_one PySem.W.kitx_dict I.kIn ⟨o,h1,h2.1⟩ e (fun z=>nomatch z) h
 | @ins a C dx fs ea cl ha hn htk hm=>
  cases (show u = Value.ref a from rx)
  obtain ⟨mA,O,_⟩:=ZgA I.hok ea
  obtain ⟨od,J,_⟩:=O.look
  exact PySem.W.kia_one (PySem.W.kitx_own (cl.get _) cl.hd ha hn htk hm) I.kIn J e (fun z=>nomatch z) h
end
end L2
namespace L2
open PySem PySem.Spec PyProof.Rows
structure ZbB (k:Nat) (A:Around):Prop where
 hd:A.handled = none
 dp:A.depth + 3 * k + 5 < recursionLimit
 un:A.units + 16 * k + 200 < cLine
theorem ZbB.mono {j k:Nat} {A:Around} (r:ZbB k A) (h:j ≤ k):ZbB j A:=⟨r.hd,by have:=r.dp; exact lD 2 0x251b303d0cc11303251b103d0cc11 T1 this h,by have:=r.un; omega⟩
theorem ZbB.deeper {k:Nat} {A:Around} (r:ZbB (k + 1) A) (env:Env):ZbB k (A.deeper env):=
 ⟨r.hd,by have:=r.dp; show A.depth + 1 + 3 * k + 5 < _; exact lC 1 0x251b103da0ccc1251ba1c03d0cc11 T1 this,by have:=r.un; show A.units + 3 + 16 * k + 200 < _; exact lC 1 0x2c82b110d31b0ccc12c82ba1c10d0cc11 T1 this⟩
theorem ZbB.in1 {k:Nat} {A:Around} (r:ZbB (k + 1) A):ZbB k A.in1:=
 ⟨r.hd,by have:=r.dp; show A.depth + 3 * k + 5 < _; exact lC 1 0x251b103d0cc1251ba1c03d0cc11 T1 this,by have:=r.un; show A.units + 1 + 16 * k + 200 < _; exact lC 1 0x2c82b110da0ccc12c82ba1c10d0cc11 T1 this⟩
theorem Zkk {A:Around} {C:Addr} {us:List Value} {kw:List (Str × Value)}:(A.under (.builtin "type.__call__" ⟨.ref C :: us,kw⟩)).depth = A.depth + 1:=by
 first | rfl | simp [Around.under,Code.weight,Code.isCreation,Code.isGuard,Code.isCaller,Code.frames,Code.isFrame,guardIds]
theorem ZkF {A:Around} {C:Addr} {us:List Value} {kw:List (Str × Value)}:(A.under (.builtin "type.__call__" ⟨.ref C :: us,kw⟩)).units = A.units + 1:=by
 first | rfl | simp [Around.under,Code.cUnits,Code.frames,Code.isFrame]
theorem ZbB.make {k:Nat} {A:Around} (r:ZbB (k + 1) A) (C:Addr) (us:List Value) (kw:List (Str × Value)):ZbB k (A.under (.builtin "type.__call__" ⟨.ref C :: us,kw⟩)):=
 ⟨r.hd,by have:=r.dp; rw [Zkk]; exact lC 1 0x251b103da0ccc1251ba1c03d0cc11 T1 this,by have:=r.un; rw [ZkF]; exact lC 1 0x2c82b110da0ccc12c82ba1c10d0cc11 T1 this⟩
theorem ZbB.depth {k:Nat} {A:Around} (r:ZbB k A):A.depth < recursionLimit:=by have:=r.dp; exact lC 1 0x201251b103d0cc11 T1 this
theorem ZbB.units {k:Nat} {A:Around} (r:ZbB k A):A.units + 64 < cLine:=by have:=r.un; exact lC 1 0x2402b0c12c82b110d0cc11 T1 this
noncomputable def Zsa:TA:=fun _ H Q=>Q [] H
noncomputable def ZrW (ta:TE) (tr:TA):TA:=fun σ H Q=>ta σ H fun x H1=>tr σ H1 fun xs H2=>Q (x :: xs) H2
section
variable {X:Cx} {e:Expr} {es:List Expr} {te:TE} {t:TA} {pos:Pos}
theorem Zmp:PA X [] Zsa:=fun _ _ _ _ H Q I h=>Calls.spliced_nil ⟨[],H,I,.nil,h⟩
theorem ZiX (ha:PE X e te) (hr:PA X es t) (hs:starEach (e :: es) X.env = (false,eval e X.env) :: starEach es X.env:=by rfl):PA X (e :: es) (ZrW te t):=by
 intro pos pins s σ H Q I h
 rw [hs]
 show wpAny _ _ (spliced ((false,eval e X.env) :: backTo pos (starEach es X.env))) _ _ s
 refine Calls.spliced_cons (thn (ha pins s σ H _ I h) fun u s1 zz1=>?_)
 obtain ⟨x,H1,I1,r1,q1⟩:=zz1
 exact thn (hr pos pins s1 σ H1 _ I1 q1) fun us s2 ⟨xs,H2,I2,r2,q2⟩=>⟨x :: xs,H2,I2,.cons r1 r2,q2⟩
noncomputable def ZsR (t:TA):TE:=fun σ H Q=>t σ H fun xs H1=>xs.length ≤ sizeLine ∧ ∀ p,H1 p = none → Q (.ref p) (upd H1 p (.tup xs))
noncomputable def ZsL (t:TA):TE:=fun σ H Q=>t σ H fun xs H1=>xs.length ≤ sizeLine ∧ ∀ p,H1 p = none → Q (.ref p) (upd H1 p (.lst xs))
theorem Zpl {x1} (h:PA X es t):PE X (.Tuple es x1 pos) (ZsR t):=by
 intro pins s σ H Q I hq
 refine wpAny_Tuple_spliced (thn (h pos pins s σ H _ I hq) fun us s1 ⟨xs,H1,I1,r,z,q⟩=>⟨by rw [← r.length]; exact z,?_⟩)
 have hf:H1 s1.heap.objs.size = none:=I1.hok.fresh (Nat.le_refl _)
 refine ⟨.ref s1.heap.objs.size,upd H1 s1.heap.objs.size (.tup xs),I1.laid (t':=s1.toks) (fun b u e=>Heap.get?_push_of_some _ e) (Nat.le_refl _) ?_,rfl,q _ hf⟩
 exact ⟨z,us,r,⟨_,Heap.get?_push_size _ rfl,⟨rfl,rfl⟩,_,rfl⟩⟩
theorem ZpF (h:PA X es t):PE X (.List es pos) (ZsL t):=by
 intro pins s σ H Q I hq
 refine wpAny_List_spliced (thn (h pos pins s σ H _ I hq) fun us s1 ⟨xs,H1,I1,r,z,q⟩=>⟨by rw [← r.length]; exact z,?_⟩)
 have hf:H1 s1.heap.objs.size = none:=I1.hok.fresh (Nat.le_refl _)
 refine ⟨.ref s1.heap.objs.size,upd H1 s1.heap.objs.size (.lst xs),I1.laid (t':=s1.toks) (fun b u e=>Heap.get?_push_of_some _ e) (Nat.le_refl _) ?_,rfl,q _ hf⟩
 exact ⟨z,us,0,r,Heap.get?_push_size _ rfl⟩
end
noncomputable abbrev Sp:=List V → Hp → VK → XK → Prop
noncomputable abbrev CXT:=List Env → Hp → Shared → XK → Value → Shared → Prop
structure ZhS (P:Program) (w:World) (K:PySem.W.Frag) (mg:Str → Option Value) (base:Heap) (A:Around) (outer:List Env) (s:Shared) (H:Hp):Prop where
 frames:A.frames = some outer
 mod:Mod K mg base
 bs:∀ b o,base.get? b = some o → s.heap.get? b = some o ∧ H b = none
 bsz:base.objs.size ≤ s.heap.objs.size
 funs:s.heap.FunFrames base outer
 frf:∀ b ∈ frs outer,H b = none
 hok:HOk P w H s.heap
 bare:AllBare s.gens
noncomputable def CE (outer:List Env) (P:Program) (w:World) (H:Hp) (s:Shared) (Q:VK) (u:Value) (s':Shared):Prop:=
 ∃ v H',s'.os = s.os ∧ AllBare s'.gens ∧ Un (frs outer) [] H H' s.heap s'.heap ∧ HOk P w H' s'.heap ∧ RelV v u ∧ Q v H'
noncomputable def CR (CX:CXT) (outer:List Env) (P:Program) (w:World) (H:Hp) (s:Shared) (Q:VK) (E:XK) (r:Result) (s':Shared):Prop:=
 match r with
 | .ok (.ret u)=>CE outer P w H s Q u s'
 | .ok _=>False
 | .error e=>CX outer H s E e s'
structure Zdw (P:Program) (w:World) (K:PySem.W.Frag) (mg:Str → Option Value) (base:Heap) (CX:CXT) (k:Nat) (f:Addr) (fd:FuncData) (ps:List Str) (sp:Sp):Prop where
 len:∀ vs H Q E,sp vs H Q E → vs.length = ps.length
 run:∀ (A:Around) (outer:List Env) (s:Shared) (H:Hp) (args:Args) (us:List Value) (vs:List V) (Q:VK) (E:XK),ZbB k A → ZhS P w K mg base A outer s H → BindsTo s fd args (ps.zip us) → Vals vs us → sp vs H Q E →
  codeAny (model P w) A (.call (.ref f) args) (CR CX outer P w H s Q E) s
theorem ZhS.make {P:Program} {w:World} {K:PySem.W.Frag} {mg:Str → Option Value} {base:Heap} {A:Around} {outer:List Env} {s:Shared} {H:Hp} (e:ZhS P w K mg base A outer s H) (C:Addr) (us:List Value) (kw:List (Str × Value)):
  ZhS P w K mg base (A.under (.builtin "type.__call__" ⟨.ref C :: us,kw⟩)) outer s H:=⟨by first | exact e.frames | (simpa [Around.under,Code.envs,Code.isFrame,pushEnvs] using e.frames),e.mod,e.bs,e.bsz,e.funs,e.frf,e.hok,e.bare⟩
theorem ZhS.in1 {P:Program} {w:World} {K:PySem.W.Frag} {mg:Str → Option Value} {base:Heap} {A:Around} {outer:List Env} {s:Shared} {H:Hp} (e:ZhS P w K mg base A outer s H):
  ZhS P w K mg base A.in1 outer s H:=⟨e.frames,e.mod,e.bs,e.bsz,e.funs,e.frf,e.hok,e.bare⟩
section
variable {X:Cx} {pins:List (Addr × Obj)} {σ:St} {H:Hp} {s s':Shared}
theorem Inv.env0 (I:Inv X pins σ H s):ZhS X.prog X.w X.K X.mg X.base X.A X.stack s H:=
 ⟨I.ok.frames,I.ok.mod,I.bs,Nat.le_trans I.ok.bsz I.sz,I.stack,I.stkFree,I.hok,I.bare⟩
theorem Inv.after {Q:VK} {u:Value} (I:Inv X pins σ H s) (h:CE X.stack X.prog X.w H s Q u s'):EP X pins σ Q u s':=by
 obtain ⟨v,H',os,bare,un,hok,r,q⟩:=h
 obtain ⟨hh,g,d,t,os'⟩:=s'
 obtain rfl:os' = s.os:=os
 exact ⟨v,H',I.call (h':=hh) (g':=g) (d':=d) (t':=t) (ch:=[]) un hok bare (fun b z=>absurd z (by simp)),r,q⟩
end
noncomputable def ZrQ (sp:Sp) (dvs:List V) (E:XK) (t:TA):TE:=fun σ H Q=>t σ H fun vs H1=>sp (vs ++ dvs) H1 Q E
noncomputable def Zpi (C:Addr) (m:Str) (sp:Sp) (dvs:List V) (E:XK) (ta:TE) (t:TA):TE:=fun σ H Q=>ta σ H fun x H1=>∃ a dx fs,x = .ref a ∧ H1 a = some (.ins C dx fs) ∧ fs.lookup m = none ∧
 t σ H1 fun vs H2=>sp (x :: (vs ++ dvs)) H2 Q E
noncomputable def Zrw (C:Addr) (sp:Sp) (dvs:List V) (E:XK) (t:TA):TE:=fun σ H Q=>t σ H fun vs H1=>∀ x dx,H1 x = none → H1 dx = none → dx ≠ x →
 sp (.ref x :: (vs ++ dvs)) (upd (upd H1 dx (.own x)) x (.ins C dx [])) (fun v H2=>v = .non ∧ Q (.ref x) H2) E
noncomputable def Binds (K:PySem.W.Frag) (fd:FuncData) (ps:List Str) (ds:List Value):Prop:=
 ∀ (s:Shared) (us:List Value),K.In s.heap → (us ++ ds).length = ps.length → BindsTo s fd ⟨us,[]⟩ (ps.zip (us ++ ds))
theorem Binds.all {K:PySem.W.Frag} {fd:FuncData} {ps:List Str} (h:∀ us:List Value,us.length = ps.length → bindArgs fd ⟨us,[]⟩ = pure (ps.zip us)):Binds K fd ps []:=fun s us _ hl=>by
 rw [List.append_nil] at hl ⊢
 exact .of_eq (h us hl)
noncomputable def Zfr (CX:CXT) (X:Cx) (E:XK):Prop:=∀ (pins:List (Addr × Obj)) (σ:St) (H:Hp) (s:Shared) (e:Value) (s':Shared),Inv X pins σ H s → CX X.stack H s E e s' → X.xe e s'
section
variable {X:Cx} {CX:CXT} {k:Nat} {f C:Addr} {fd:FuncData} {ps:List Str} {sp:Sp} {dvs:List V} {ds:List Value} {E:XK} {x m:Str} {p pos apos:Pos} {e o:Expr} {es:List Expr} {ta:TE} {t:TA}
theorem Zj8 {pins:List (Addr × Obj)} {σ:St} {H:Hp} {s:Shared} {Q:VK} {us:List Value} {vs:List V} (F:Zdw X.prog X.w X.K X.mg X.base CX k f fd ps sp) (hr:ZbB k X.A) (hb:Binds X.K fd ps ds) (hd:Vals dvs ds) (hx:Zfr CX X E)
  (I:Inv X pins σ H s) (r:Vals vs us) (h:sp (vs ++ dvs) H Q E):wpAny (model X.prog X.w) X.A (call (.ref f) us) (EP X pins σ Q) X.xe s:=by
 have r2:Vals (vs ++ dvs) (us ++ ds):=r.append hd
 have hl:(us ++ ds).length = ps.length:=by rw [← r2.length]; exact F.len _ _ _ _ h
 refine wpAny_call (codeAny_mono (F.run X.A X.stack s H ⟨us,[]⟩ (us ++ ds) (vs ++ dvs) Q E hr I.env0 (hb s us I.kIn hl) r2 h) fun r s' hq=>?_)
 cases r with
 | error e=>exact hx pins σ H s e s' I hq
 | ok fl=>
  cases fl with
  | ret u=>exact I.after hq
  | next=>exact False.elim hq
  | brk=>exact False.elim hq
  | cont=>exact False.elim hq
theorem ZoK (F:Zdw X.prog X.w X.K X.mg X.base CX k f fd ps sp) (hr:ZbB k X.A) (hg:Gl X x) (hm:X.mg x = some (.ref f)) (hk:PySem.W.keepIn X.K (.ref f) = true) (hb:Binds X.K fd ps ds) (hd:Vals dvs ds) (hx:Zfr CX X E)
  (ha:PA X (e :: es) t) (hdb:(x == ("__debug__":Str)) = false:=by decide) (he:starEach (e :: es) X.env = (false,eval e X.env) :: starEach es X.env:=by rfl) (hpl:(backTo pos (starEach es X.env)).any (·.1) = false:=by rfl):
  PE X (.Call (.Name x p) (e :: es) [] pos) (ZrQ sp dvs E t):=by
 intro pins s σ H Q I h
 refine wpAny_Call_Name_kw (ZkJ I hg hm ?_ hdb)
 refine PySem.W.callWith_K (h₀:=X.base) I.ok.mod.kin hk (thn (ha pos pins s σ H _ I h) fun us s1 ⟨vs,H1,I1,r,q⟩=>⟨I1.kIn,?_⟩) he hpl
 exact Zj8 F hr hb hd hx I1 r q
theorem Zn7 {pl:Sem Bool} (he:PE X o ta) (c:Cls X.K C) (hm:Meth X.K C m f) (F:Zdw X.prog X.w X.K X.mg X.base CX k f fd ps sp) (hr:ZbB k X.A) (hb:Binds X.K fd ps ds) (hd:Vals dvs ds) (hx:Zfr CX X E) (ha:PA X (e :: es) t)
  (hst:starEach (e :: es) X.env = (false,eval e X.env) :: starEach es X.env:=by rfl) (hpl:(backTo pos (starEach es X.env)).any (·.1) = false:=by rfl)
  (ht:eval (.Call (.Attribute o m apos) (e :: es) [] pos) X.env = (do
   let ov ← eval o X.env
   standAt apos.atName
   let (f,first) ← holding [ov] (getMethod ov m pl)
   callWith pos f first (backTo pos (starEach (e :: es) X.env)) (backToKw pos (keywordEach [] X.env))):=by rfl):
  PE X (.Call (.Attribute o m apos) (e :: es) [] pos) (Zpi C m sp dvs E ta t):=by
 intro pins s σ H Q I h
 refine PySem.W.methodCall_KW (pl:=pl) (thn (he pins s σ H _ I h) fun u s1 zz1=>?_) ht
 obtain ⟨x,H1,I1,rx,a,dx,fs,ex,ea,l,q⟩:=zz1
 subst ex
 obtain rfl:u = Value.ref a:=rx
 refine ZgK I1 ea c hm l ?_
 refine PySem.W.callWith_K (first:=[.ref a]) (h₀:=X.base) I.ok.mod.kin hm.kp (thn (ha pos pins s1 σ H1 _ I1 q) fun us s2 ⟨vs,H2,I2,r,q2⟩=>⟨I2.kIn,?_⟩) hst hpl
 exact Zj8 (us:=.ref a :: us) (vs:=.ref a :: vs) F hr hb hd hx I2 (.cons rfl r) q2
theorem ZmD {pl:Sem Bool} (he:PE X o ta) (c:Cls X.K C) (hm:Meth X.K C m f) (F:Zdw X.prog X.w X.K X.mg X.base CX k f fd ps sp) (hr:ZbB k X.A) (hb:Binds X.K fd ps ds) (hd:Vals dvs ds) (hx:Zfr CX X E)
  (ht:eval (.Call (.Attribute o m apos) [] [] pos) X.env = (do
   let ov ← eval o X.env
   standAt apos.atName
   let (f,first) ← holding [ov] (getMethod ov m pl)
   callWith pos f first (backTo pos (starEach [] X.env)) (backToKw pos (keywordEach [] X.env))):=by rfl):
  PE X (.Call (.Attribute o m apos) [] [] pos) (Zpi C m sp dvs E ta Zsa):=by
 intro pins s σ H Q I h
 refine PySem.W.methodCall_KW (pl:=pl) (thn (he pins s σ H _ I h) fun u s1 zz1=>?_) ht
 obtain ⟨x,H1,I1,rx,a,dx,fs,ex,ea,l,q⟩:=zz1
 subst ex
 obtain rfl:u = Value.ref a:=rx
 refine ZgK I1 ea c hm l ?_
 exact PySem.W.callWith_K0 (first:=[.ref a]) I1.kIn hm.kp (Zj8 (us:=[.ref a]) (vs:=[.ref a]) F hr hb hd hx I1 (.cons rfl .nil) q)
structure Mk (K:PySem.W.Frag) (C f:Addr):Prop where
 makes:PySem.W.makesIn K C = true
 init:PySem.W.findIn K (.ref C) "__init__" = some (some (.ref f))
 fn:PySem.W.isFn K (.ref f) = true
 kp:PySem.W.keepIn K (.ref C) = true
theorem Zma {pins:List (Addr × Obj)} {σ:St} {H:Hp} {s:Shared} {Q:VK} {us:List Value} {vs:List V} (M:Mk X.K C f) (F:Zdw X.prog X.w X.K X.mg X.base CX k f fd ps sp) (hr:ZbB (k + 1) X.A) (hb:Binds X.K fd ps ds) (hd:Vals dvs ds)
  (hx:Zfr CX X E) (I:Inv X pins σ H s) (r:Vals vs us)
  (h:∀ x dx,H x = none → H dx = none → dx ≠ x → sp (.ref x :: (vs ++ dvs)) (upd (upd H dx (.own x)) x (.ins C dx [])) (fun v H2=>v = .non ∧ Q (.ref x) H2) E):
  wpAny (model X.prog X.w) X.A (call (.ref C) us) (EP X pins σ Q) X.xe s:=by
 have hq:=h (s.heap.objs.size + 1) s.heap.objs.size (I.hok.fresh (Nat.le_succ _)) (I.hok.fresh (Nat.le_refl _)) (Nat.ne_of_lt (Nat.lt_succ_self _))
 have I2:=Inv.made (C:=C) I
 have r2:Vals (V.ref (s.heap.objs.size + 1) :: (vs ++ dvs)) (Value.ref (s.heap.objs.size + 1) :: (us ++ ds)):=.cons rfl (r.append hd)
 have hl:(Value.ref (s.heap.objs.size + 1) :: us ++ ds).length = ps.length:=by
  have e:=r2.length
  rw [F.len _ _ _ _ hq] at e
  exact e.symm
 refine wpAny_call (Zm7 (f:=f) I.kIn M.makes M.init (beq_iff_eq.mp M.fn) (codeAny_mono (F.run _ X.stack _ _ ⟨Value.ref (s.heap.objs.size + 1) :: us,[]⟩ (Value.ref (s.heap.objs.size + 1) :: (us ++ ds)) _ _ E (hr.make C us [])
  (I2.env0.make C us []) (hb _ (Value.ref (s.heap.objs.size + 1) :: us) I2.kIn hl) r2 hq) fun r s' hq'=>?_))
 cases r with
 | error e=>exact hx pins σ _ _ e s' I2 hq'
 | ok fl=>
  cases fl with
  | ret u=>
   obtain ⟨v,H',I3,rv,ev,q3⟩:=I2.after hq'
   subst ev
   exact ⟨rv,⟨V.ref (s.heap.objs.size + 1),H',I3,rfl,q3⟩⟩
  | next=>exact False.elim hq'
  | brk=>exact False.elim hq'
  | cont=>exact False.elim hq'
theorem Zog (M:Mk X.K C f) (F:Zdw X.prog X.w X.K X.mg X.base CX k f fd ps sp) (hr:ZbB (k + 1) X.A) (hg:Gl X x) (hm:X.mg x = some (.ref C)) (hb:Binds X.K fd ps ds) (hd:Vals dvs ds) (hx:Zfr CX X E)
  (ha:PA X (e :: es) t) (hdb:(x == ("__debug__":Str)) = false:=by decide) (he:starEach (e :: es) X.env = (false,eval e X.env) :: starEach es X.env:=by rfl) (hpl:(backTo pos (starEach es X.env)).any (·.1) = false:=by rfl):
  PE X (.Call (.Name x p) (e :: es) [] pos) (Zrw C sp dvs E t):=by
 intro pins s σ H Q I h
 refine wpAny_Call_Name_kw (ZkJ I hg hm ?_ hdb)
 refine PySem.W.callWith_K (h₀:=X.base) I.ok.mod.kin M.kp (thn (ha pos pins s σ H _ I h) fun us s1 ⟨vs,H1,I1,r,q⟩=>⟨I1.kIn,?_⟩) he hpl
 exact Zma M F hr hb hd hx I1 r q
end
section
variable {X:Cx} {CX:CXT} {k:Nat} {f C:Addr} {fd:FuncData} {ps ks:List Str} {sp:Sp} {E:XK} {x m:Str} {p pos apos kpos:Pos} {e o:Expr} {es:List Expr} {kws:List Keyword} {te ta:TE} {t tk:TA} {nm:Option Str}
structure ZpL (K:PySem.W.Frag) (fd:FuncData) (ps ks:List Str) (g:List Value → List Value → List Value) (gV:List V → List V → List V):Prop where
 to:∀ (s:Shared) (us ws:List Value),K.In s.heap → (g us ws).length = ps.length → BindsTo s fd ⟨us,ks.zip ws⟩ (ps.zip (g us ws))
 rel:∀ {vs:List V} {us:List Value} {zs:List V} {ws:List Value},Vals vs us → Vals zs ws → Vals (gV vs zs) (g us ws)
variable {g:List Value → List Value → List Value} {gV:List V → List V → List V}
end
structure Zaq (N P:List Str) (sc:Scope):Prop where
 kind:sc.kind = .function
 co:sc.isCoroutine = false
 gen:sc.isGenerator = false
 nd:N.Nodup
 pre:N.take P.length = P
 par:∀ x ∈ P,sc.names.lookup x = some .local ∨ sc.names.lookup x = some .cell
 nofree:∀ y ∈ sc.names,y.2 ≠ .free
theorem Zh7 {kindOf:Str → Option NameKind} {x:Str}:∀ {binds:List (Str × Value)} {m:Str → Option Value},(∀ v,(x,v) ∉ binds) → bindL kindOf binds m x = m x
 | [],_,_=>rfl
 | (n,v) :: r,m,h=>by
  unfold bindL
  rw [Zh7 fun w hw=>h w (List.mem_cons_of_mem _ hw)]
  split
  ·have:x ≠ n:=by rintro rfl; exact h v List.mem_cons_self
   simp [this]
  ·rfl
theorem Zij {kindOf:Str → Option NameKind} {x:Str}:∀ {binds:List (Str × Value)} {m:Str → Option Value},(∀ v,(x,v) ∉ binds) → bindC kindOf binds m x = m x
 | [],_,_=>rfl
 | (n,v) :: r,m,h=>by
  unfold bindC
  rw [Zij fun w hw=>h w (List.mem_cons_of_mem _ hw)]
  split
  ·rfl
  ·have:x ≠ n:=by rintro rfl; exact h v List.mem_cons_self
   simp [this]
theorem Zh9 {kindOf:Str → Option NameKind} {x:Str} {v:Value}:∀ {P:List Str} {vs:List Value} {i:Nat} {m:Str → Option Value},P.Nodup → P[i]? = some x → vs[i]? = some v → kindOf x = some .local →
  bindL kindOf (P.zip vs) m x = some v
 | [],_,_,_,_,h,_,_=>by simp at h
 | _ :: _,[],_,_,_,_,h,_=>by simp at h
 | p :: P,w :: vs,0,m,nd,h1,h2,hk=>by
  simp at h1 h2; subst h1; subst h2
  show bindL kindOf ((p,w) :: P.zip vs) m p = _
  unfold bindL
  rw [Zh7 fun v hv=>(List.nodup_cons.mp nd).1 (List.of_mem_zip hv).1,if_pos hk]
  simp
 | p :: P,w :: vs,i + 1,m,nd,h1,h2,hk=>by
  show bindL kindOf ((p,w) :: P.zip vs) m x = _
  unfold bindL
  exact Zh9 (i:=i) (List.nodup_cons.mp nd).2 (by simpa using h1) (by simpa using h2) hk
theorem Zh2 {kindOf:Str → Option NameKind} {x:Str} {v:Value}:∀ {P:List Str} {vs:List Value} {i:Nat} {m:Str → Option Value},P.Nodup → P[i]? = some x → vs[i]? = some v → kindOf x ≠ some .local →
  bindC kindOf (P.zip vs) m x = some v
 | [],_,_,_,_,h,_,_=>by simp at h
 | _ :: _,[],_,_,_,_,h,_=>by simp at h
 | p :: P,w :: vs,0,m,nd,h1,h2,hk=>by
  simp at h1 h2; subst h1; subst h2
  show bindC kindOf ((p,w) :: P.zip vs) m p = _
  unfold bindC
  rw [Zij fun v hv=>(List.nodup_cons.mp nd).1 (List.of_mem_zip hv).1,if_neg hk]
  simp
 | p :: P,w :: vs,i + 1,m,nd,h1,h2,hk=>by
  show bindC kindOf ((p,w) :: P.zip vs) m x = _
  unfold bindC
  exact Zh2 (i:=i) (List.nodup_cons.mp nd).2 (by simpa using h1) (by simpa using h2) hk
noncomputable def start (N:List Str) (vs:List V):St:=vs.map some ++ List.replicate (N.length - vs.length) none
noncomputable def ZhM (CX:CXT) (P:Program) (w:World) (K:PySem.W.Frag) (mg:Str → Option Value) (base:Heap) (N:List Str) (qual:Str) (scope:Scope) (f:Addr) (cd:Value) (A:Around) (outer:List Env) (s:Shared) (H:Hp) (E:XK):Cx where
 prog:=P
 w:=w
 K:=K
 mg:=mg
 base:=base
 A:=A.deeper (envOfC qual scope s.heap.objs.size f cd)
 N:=N
 s₀:=s
 H₀:=H
 env:=envOfC qual scope s.heap.objs.size f cd
 outer:=outer
 stack:=envOfC qual scope s.heap.objs.size f cd :: outer
 ex:=[]
 calm:=true
 fn:=fun _=>true
 pn:=[]
 xe:=fun e s'=>wpAny (model P w) (A.deeper (envOfC qual scope s.heap.objs.size f cd)) (leaving (envOfC qual scope s.heap.objs.size f cd) e) (fun _ s''=>CX outer H s E e s'') (fun e' s''=>CX outer H s E e' s'') s'
theorem Zjm {sc:Scope} {n:Nat} {x:Str} (h:sc.names.lookup x = some .cell):∃ c,(cellsFrom n sc.names []).lookup x = some c:=by
 have q:=PySem.W.cellsFrom_some sc.names n [] (.inl h)
 exact Option.isSome_iff_exists.mp q
theorem ZlP {CX:CXT} {P:Program} {w:World} {K:PySem.W.Frag} {mg:Str → Option Value} {base:Heap} {N ps:List Str} {qual:Str} {scope:Scope} {f:Addr} {cd:Value} {A:Around} {outer:List Env} {s s1:Shared} {H:Hp} {E:XK} {us:List Value} {vs:List V}
  (S:Zaq N ps scope) (hd:A.handled = none) (e0:ZhS P w K mg base A outer s H) (hl:vs.length = ps.length) (r:Vals vs us)
  (x:InCallC s s.heap.objs.size (bindL (envOfC qual scope s.heap.objs.size f cd).kindOf (ps.zip us) fun _=>none) (cellsFrom (s.heap.objs.size + 1) scope.names []) (bindC (envOfC qual scope s.heap.objs.size f cd).kindOf (ps.zip us) fun _=>none) s1):
  Inv (ZhM CX P w K mg base N qual scope f cd A outer s H E) [] (start N vs) H s1:=by
 have hpl:ps.length ≤ N.length:=by have:=congrArg List.length S.pre; rw [List.length_take] at this; omega
 obtain ⟨h1,tk,rfl,hk⟩:=x.done
 have noA:∀ b:Addr,b ∉ (ZhM CX P w K mg base N qual scope f cd A outer s H E).ex:=fun b z=>absurd (show b ∈ ([]:List Addr) from z) (by simp)
 refine ⟨⟨e0.mod,S.kind,rfl,rfl,Nat.le_refl _,fun y z c h1 h2=>?_,fun y hy=>?_,fun y c _ h=>?_,fun _=>hd,Around.frames_deeper e0.frames,.inr ⟨rfl,rfl⟩,fun b z=>absurd z (noA b),e0.bs,e0.bsz,fun b _ _=>noA b,fun b z=>absurd z (noA b),e0.funs,e0.frf⟩,
  rfl,e0.bare,Un.kept hk,⟨_,x.toInCall.ns,fun i y v h1 h2 h3=>?_⟩,fun y c h=>⟨_,x.cell y c h⟩,e0.hok.fresh (Nat.le_refl _),fun y c h=>?_,fun p hp=>absurd (show p ∈ ([]:List (Addr × Obj)) from hp) (by simp),e0.hok.kept hk,?_⟩
 ·exact name_of_addr x.apart (PySem.mem_of_lookup h1) (PySem.mem_of_lookup h2)
 ·have hy:scope.names.lookup y = some .cell ∨ scope.names.lookup y = some .free:=hy
  rcases hy with hy | hy
  ·exact Zjm hy
  ·exact absurd rfl (S.nofree _ (PySem.mem_of_lookup hy))
 ·exact Nat.le_of_lt (x.above y c (PySem.mem_of_lookup h))
 ·have hi:i < vs.length:=by
   unfold start at h2
   by_cases hi:i < vs.length
   ·exact hi
   ·rw [List.getElem?_append_right (by simpa using hi)] at h2
    rw [List.getElem?_replicate] at h2
    split at h2 <;> cases h2
  have ha:vs[i]? = some v:=by
   unfold start at h2
   rw [List.getElem?_append_left (by simpa using hi),List.getElem?_map] at h2
   cases e:vs[i]? with
   | none=>rw [e] at h2; cases h2
   | some a=>rw [e] at h2; cases h2; rfl
  obtain ⟨u,hu,rv⟩:=r.get ha
  have hp:ps[i]? = some y:=by
   rw [← S.pre,List.getElem?_take_of_lt (by exact lC 2 2203874037777 T1 hi hl)]; exact h1
  have ndP:ps.Nodup:=by rw [← S.pre]; exact S.nd.sublist (List.take_sublist _ _)
  refine ⟨u,rv,?_⟩
  rcases S.par y (List.mem_of_getElem? hp) with k | k
  ·exact .inl ⟨k,Zh9 ndP hp hu k⟩
  ·obtain ⟨c,e⟩:=Zjm (n:=s.heap.objs.size + 1) k
   refine .inr ⟨.inl k,c,e,?_⟩
   have q:=x.cell y c e
   rw [Zh2 ndP hp hu (by show scope.names.lookup y ≠ _; rw [k]; decide)] at q
   exact q
 ·exact e0.hok.fresh (Nat.le_of_lt (x.above y c (PySem.mem_of_lookup h)))
 ·unfold start
  show _ = N.length
  rw [List.length_append,List.length_map,List.length_replicate]
  exact Nat.le_antisymm (lC 1 2206541614113 T1 (Nat.sub_add_cancel (lC 2 1236986302465 T1 hpl hl))) (lC 1 1288492400641 T1 (sbA _ _))
theorem ZrF {CX:CXT} {P:Program} {w:World} {K:PySem.W.Frag} {mg:Str → Option Value} {base:Heap} {k:Nat} {f:Addr} {name qual:Str} {params:Arguments} {body:List Stmt} {scope:Scope} {dV kV doc pm cdv ct oc:Value} {an od:Option Addr}
  {osl:Array (Option Value)} {N ps:List Str} {sp:Sp} (lk:K.lookup f = some ⟨oc,od,.func (PySem.W.fnOf name qual params body scope dV kV doc pm an cdv ct),osl⟩) (hcd:PySem.W.codeIn K cdv qual = true) (S:Zaq N ps scope)
  (len:∀ vs H Q E,sp vs H Q E → vs.length = ps.length)
  (hbody:∀ (A:Around) (outer:List Env) (s:Shared) (H:Hp) (vs:List V) (Q:VK) (E:XK),ZbB k (A.deeper (envOfC qual scope s.heap.objs.size f cdv)) → sp vs H Q E →
   ∃ t,PSs (ZhM CX P w K mg base N qual scope f cdv A outer s H E) body t ∧ t { nx:=fun _ H'=>Q .non H',rt:=Q } (start N vs) H):
  Zdw P w K mg base CX (k + 1) f (PySem.W.fnOf name qual params body scope dV kV doc pm an cdv ct) ps sp:=by
 refine ⟨len,fun A outer s H args us vs Q E hr e0 hb r hsp=>?_⟩
 have hl:=len _ _ _ _ hsp
 have KX:K.In s.heap:=e0.mod.kin.keeps fun b o e=>(e0.bs b o e).1
 have lim:s.heap.NoLimit:=e0.mod.nolimit.keeps fun b o e=>(e0.bs b o e).1
 have hkind:∀ y ∈ ps.zip us,scope.names.lookup y.1 = some .local ∨ (scope.names.lookup y.1 = some .cell ∧ ((cellsFrom (s.heap.objs.size + 1) scope.names []).lookup y.1).isSome = true):=fun ⟨n,v⟩ hy=>by
  rcases S.par n (List.of_mem_zip hy).1 with q | q
  ·exact .inl q
  ·exact .inr ⟨q,PySem.W.cellsFrom_some _ _ _ (.inl q)⟩
 refine codeAny_call_function hr.depth (KX _ _ lk) rfl S.co S.gen rfl (PySem.W.codeRec_of KX hcd) (hb _ _ _ _ ?_)
 refine wpAny_newFunctionEnv_cells S.kind hkind fun env he s1 x=>?_
 subst he
 refine ⟨lim.keeps x.toInCall.keep,codeAny_func ?_⟩
 obtain ⟨t,ht,hq⟩:=hbody A outer s H vs Q E (hr.deeper _) hsp
 have I:Inv (ZhM CX P w K mg base N qual scope f cdv A outer s H E) [] (start N vs) H s1:=ZlP S hr.hd e0 hl r x
 refine wpAny_mono (ht [] s1 (start N vs) H _ I hq) (fun fl s' hs=>?_) fun e s' hs=>hs
 have fin:∀ {σ':St} {H':Hp} {v:V} {u:Value},Inv (ZhM CX P w K mg base N qual scope f cdv A outer s H E) [] σ' H' s' → RelV v u → Q v H' → CE outer P w H s Q u s':=
  fun {σ' H' v u} J rv q=>⟨v,H',J.os,J.bare,J.base,J.hok,rv,q⟩
 cases fl with
 | ret u=>
  obtain ⟨v,σ',H',J,rv,q⟩:=hs
  exact fin J rv q
 | next=>
  obtain ⟨σ',H',J,q⟩:=hs
  exact fin (v:=V.non) (u:=Value.none) J rfl q
 | brk=>
  obtain ⟨_,_,_,q⟩:=hs
  exact False.elim q
 | cont=>
  obtain ⟨_,_,_,q⟩:=hs
  exact False.elim q
end L2
namespace L2
open PySem PySem.Spec PyProof.Rows
section
variable {X:Cx} {x:Str} {p pos:Pos} {e:Expr} {es:List Expr} {t:TA} {id T:String} {r:List V → Hp → VK → Prop}
noncomputable def tCB (r:List V → Hp → VK → Prop) (t:TA):TE:=fun σ H Q=>t σ H fun vs H1=>r vs H1 Q
theorem Zjo (hc:Zbd X (.builtin id) r) (hg:Gl X x) (hm:X.mg x = none) (hv:bootBuiltins x = some (.builtin id)) (ha:PA X (e :: es) t) (hn:x ≠ "__name__":=by decide) (hdb:(x == ("__debug__":Str)) = false:=by decide)
  (he:starEach (e :: es) X.env = (false,eval e X.env) :: starEach es X.env:=by rfl) (hpl:(backTo pos (starEach es X.env)).any (·.1) = false:=by rfl):PE X (.Call (.Name x p) (e :: es) [] pos) (tCB r t):=by
 intro pins s σ H Q I h
 refine wpAny_Call_Name_kw (Zf0 I hg hm hv ?_ hn hdb)
 exact PyProof.Rows.callWith_builtin1 (thn (ha pos pins s σ H _ I h) fun us s1 ⟨vs,H1,I1,r1,q1⟩=>hc pins s1 σ H1 vs us Q I1 r1 q1) he hpl
theorem ZlB (hc:Zbd X (.type T) r) (hg:Gl X x) (hm:X.mg x = none) (hv:bootBuiltins x = some (.type T)) (ha:PA X (e :: es) t) (hn:x ≠ "__name__":=by decide) (hdb:(x == ("__debug__":Str)) = false:=by decide)
  (he:starEach (e :: es) X.env = (false,eval e X.env) :: starEach es X.env:=by rfl) (hpl:(backTo pos (starEach es X.env)).any (·.1) = false:=by rfl):PE X (.Call (.Name x p) (e :: es) [] pos) (tCB r t):=by
 intro pins s σ H Q I h
 refine wpAny_Call_Name_kw (Zf0 I hg hm hv ?_ hn hdb)
 exact PyProof.Rows.callWith_type1 (thn (ha pos pins s σ H _ I h) fun us s1 ⟨vs,H1,I1,r1,q1⟩=>hc pins s1 σ H1 vs us Q I1 r1 q1) he hpl
end
end L2
namespace HT
open PySem PyProof.Rows
section
open PySem.SeqAt
open PySem.AutoSeq1 (wpAny_loadPart')
open PySem.MeetsSeq PySem.MeetsSeq2 PySem.MeetsSeq3
end
section
variable {prog:Program} {w:World} {A:Around} {E:Value → Shared → Prop} {s:Shared}
theorem cat_tup {t b:Addr} {vs ws:List Value} {Q:Value → Shared → Prop} (ht:IsTup s.heap t vs.toArray) (hb:IsTup s.heap b ws.toArray) (hv:vs ≠ [])
  (h1:ws = [] → Q (.ref t) s) (h2:ws ≠ [] → Q (.ref s.heap.objs.size) { s with heap:=s.heap.push { cls:=.type "tuple",data:=.seq (vs ++ ws).toArray } })
  (hsz:vs.length + ws.length ≤ sizeLine):wpAny (model prog w) A (binaryOp .Add (.ref t) (.ref b)) Q E s:=by
 obtain ⟨⟨cls,dd,data,sl⟩,ho,hc,n,hd⟩:=id ht
 obtain ⟨⟨cls2,dd2,data2,sl2⟩,ho2,hc2,n2,hd2⟩:=id hb
 simp only at hc hd hc2 hd2
 subst hc hd hc2 hd2
 have e:vs.toArray ++ ws.toArray = (vs ++ ws).toArray:=by simp
 by_cases hw:ws = []
 ·exact concat_meets ⟨_,ho,rfl⟩ ⟨_,ho2,rfl⟩ noFill_tuple_add seq_tuple_add PySem.F.slot_tuple_add PySem.F.entry_tuple_add (PySem.F.args_tuple_add_2 _ _)
   (tuple_addW1 t b vs.toArray ws.toArray n n2 dd dd2 sl sl2 (by simpa using hv) (by simp [hw])) ⟨ho,ho2,h1 hw⟩
 ·refine concat_meets ⟨_,ho,rfl⟩ ⟨_,ho2,rfl⟩ noFill_tuple_add seq_tuple_add PySem.F.slot_tuple_add PySem.F.entry_tuple_add (PySem.F.args_tuple_add_2 _ _)
   (tuple_addW2 t b vs.toArray ws.toArray n n2 dd dd2 sl sl2 (by simpa using hv) (by simpa using hw) (by rw [List.size_toArray,List.size_toArray]; exact hsz)) ⟨ho,ho2,?_⟩
  rw [e]
  exact h2 hw
noncomputable def sIx (n d:Nat):Option Int → Nat
 | none=>d
 | some v=>if v < 0 then (v + (n:Int)).toNat else min v.toNat n
theorem ZgW (n d:Nat):sIx n d none = d:=rfl
theorem ZiZ (n d k:Nat):sIx n d (some (k:Int)) = min k n:=by
 show (if (k:Int) < 0 then ((k:Int) + (n:Int)).toNat else min (k:Int).toNat n) = min k n
 rw [if_neg (Int.not_lt.2 (Int.natCast_nonneg _)),Int.toNat_natCast]
theorem Ziy (n d:Nat) (hd:d ≤ n) (o:Option Int):sIx n d o ≤ n:=by
 cases o with
 | none=>exact hd
 | some v=>
  show (if v < 0 then (v + (n:Int)).toNat else min v.toNat n) ≤ n
  by_cases hv:v < 0
  ·rw [if_pos hv]; omega
  ·rw [if_neg hv]; exact Nat.min_le_right _ _
theorem Zli (v:Int) (n d:Nat):(if v < 0 then max (v + (n:Int)) 0 else min v (n:Int)) = ((sIx n d (some v):Nat):Int):=by
 show (if v < 0 then max (v + (n:Int)) 0 else min v (n:Int)) = (((if v < 0 then (v + (n:Int)).toNat else min v.toNat n):Nat):Int)
 by_cases hv:v < 0
 ·simp only [if_pos hv]; exact clA _
 ·simp only [if_neg hv]; exact clB _ _ hv
theorem Zj4 (lo hi:Option Int) (n:Nat):Builtin.Slice.sliceAdjust lo hi 1 (n:Int) = (((sIx n 0 lo:Nat):Int),((sIx n n hi:Nat):Int)):=by
 have h1:¬ ((1:Int) < 0):=by decide
 unfold Builtin.Slice.sliceAdjust
 simp only [h1,if_false]
 refine Prod.ext ?_ ?_
 ·cases lo with
  | none=>rfl
  | some v=>exact Zli v n 0
 ·cases hi with
  | none=>rfl
  | some v=>exact Zli v n n
theorem Zkj (i j:Nat):Builtin.Slice.slicePlaces (i:Int) (j:Int) 1 = j - i:=by
 unfold Builtin.Slice.slicePlaces
 have h1:(1:Int) > 0:=by decide
 simp only [h1,if_true,Int.ediv_one]
 split <;> omega
theorem Zhc {v:Value} {o:Option Int} {Q:Option Int → Shared → Prop} (p:IsPart v o) (h:Q o s):wpAny (model prog w) A (Builtin.Slice.slicePartIndex v) Q E s:=by
 cases p with
 | none=>exact slicePart_none h
 | int i t=>exact slicePart_int h
theorem sliceApplied_gen {sl:Addr} {vl vu:Value} {lo hi:Option Int} {n:Nat} {Q:Int × Int × Nat → Shared → Prop} (hs:s.heap.IsSliceOf sl vl vu .none) (pl:IsPart vl lo) (pu:IsPart vu hi)
  (h:Q (((sIx n 0 lo:Nat):Int),1,sIx n n hi - sIx n 0 lo) s):wpAny (model prog w) A (Builtin.Slice.sliceApplied (.ref sl) (pure (n:Int))) Q E s:=by
 obtain ⟨os,hos,hcs,hds⟩:=id hs
 unfold Builtin.Slice.sliceApplied Builtin.Slice.sliceFields
 refine wpAny_bind (wpAny_bind (wpAny_field hos hds (x:=vl) rfl (wpAny_bind (wpAny_field hos hds (x:=vu) rfl (wpAny_bind (wpAny_field hos hds (x:=.none) rfl (wpAny_pure ?_)))))))
 refine wpAny_bind (slicePart_none ?_)
 show wpAny _ _ (if ((1:Int) == 0) = true then _ else _) _ _ s
 rw [if_neg (by decide)]
 refine wpAny_bind (Zhc pl (wpAny_bind (Zhc pu (wpAny_bind (wpAny_pure ?_)))))
 show wpAny _ _ (match Builtin.Slice.sliceAdjust lo hi 1 (n:Int) with | (lo,hi)=>pure (lo,(1:Int),Builtin.Slice.slicePlaces lo hi 1)) _ _ s
 rw [Zj4 lo hi n]
 show wpAny _ _ (pure (((sIx n 0 lo:Nat):Int),(1:Int),Builtin.Slice.slicePlaces ((sIx n 0 lo:Nat):Int) ((sIx n n hi:Nat):Int) 1)) _ _ s
 rw [Zkj]
 exact wpAny_pure h
theorem Zmd (xs:Array Value) (i k:Nat):((List.range k).filterMap fun (m:Nat)=>xs[((i:Int) + (m:Int) * 1).toNat]?).toArray = ((xs.toList.drop i).take k).toArray:=by
 have e:(fun (m:Nat)=>xs[((i:Int) + (m:Int) * 1).toNat]?) = fun m=>xs[i + m]?:=by
  funext m
  have:((i:Int) + (m:Int) * 1).toNat = i + m:=by omega
  rw [this]
 rw [e]
 have:=pick_run xs i k
 rw [List.filterMap_map] at this
 have e2:((fun x=>xs[x]?) ∘ fun x=>i + x) = fun m=>xs[i + m]?:=rfl
 rw [e2] at this
 rw [this]
theorem getItem_tuple_cut {t sl:Addr} {items:Array Value} {vl vu:Value} {lo hi:Option Int} {Q:Value → Shared → Prop} (ht:IsTup s.heap t items) (hs:s.heap.IsSliceOf sl vl vu .none) (pl:IsPart vl lo) (pu:IsPart vu hi)
  (hw:¬ (sIx items.size 0 lo = 0 ∧ sIx items.size items.size hi = items.size))
  (h:Q (.ref s.heap.objs.size) { s with heap:=s.heap.push { cls:=.type "tuple",data:=.seq ((items.toList.drop (sIx items.size 0 lo)).take (sIx items.size items.size hi - sIx items.size 0 lo)).toArray } })
  (hsz:items.size ≤ sizeLine):wpAny (model prog w) A (getItem (.ref t) (.ref sl)) Q E s:=by
 have htake:sizeOk (.seq ((items.toList.drop (sIx items.size 0 lo)).take (sIx items.size items.size hi - sIx items.size 0 lo)).toArray):=by
  show ((items.toList.drop (sIx items.size 0 lo)).take (sIx items.size items.size hi - sIx items.size 0 lo)).toArray.size ≤ sizeLine
  rw [List.size_toArray,List.length_take,List.length_drop,Array.length_toList]
  exact lD 3 85606880155602945 T1 hsz (Nat.sub_le _ _) (Nat.min_le_right _ _)
 have hj:sIx items.size items.size hi ≤ items.size:=Ziy _ _ (Nat.le_refl _) hi
 obtain ⟨os,hos,hcs,hds⟩:=id hs
 have hTs:s.TypeIs (.ref sl) "slice":=⟨os,hos,hcs⟩
 unfold getItem
 try with_reducible refine wpAny_holding ?_
 first | refine wpAny_bind (wpAny_pure ?_) | skip
 refine wpAny_bind (wpAny_sequenceKey ht.typeIs (by decide) ?_)
 refine wpAny_bind (wpAny_callSpecial?_slot (name:=Str.ofString "__getitem__") ht.typeIs PyProof.Rows.slot_tuple_getitem
  (wpAny_call_entry PyProof.Rows.slot_tuple_getitem ht.typeIs entry_tuple_getitem ?_ (args_tuple_getitem _ _)))
 show wpAny _ _ (Builtin.Tuple.tupleItemsOf (.ref t) >>= _) _ _ s
 refine wpAny_bind (tupleItemsOf_ ht ?_)
 refine wpAny_bind (wpAny_typeOf hTs ?_)
 rw [if_pos (by decide)]
 refine wpAny_bind (sliceApplied_gen hs pl pu ?_)
 have hno:¬ ((((sIx items.size 0 lo:Nat):Int) == 0 && (1:Int) == 1 && (sIx items.size items.size hi - sIx items.size 0 lo) == items.size) = true):=by
  intro q
  rw [Bool.and_eq_true,Bool.and_eq_true] at q
  have q1:((sIx items.size 0 lo:Nat):Int) = 0:=eq_of_beq q.1.1
  have q2:sIx items.size items.size hi - sIx items.size 0 lo = items.size:=eq_of_beq q.2
  exact hw ⟨by exact Nat.le_antisymm (iN [_] [] 1 3759016097 T1 q1) (Nat.zero_le _),by exact Nat.le_antisymm hj (lC 2 2268279672881 T1 q2 (Nat.sub_le _ _))⟩
 show wpAny _ _ (if (((sIx items.size 0 lo:Nat):Int) == 0 && (1:Int) == 1 && (sIx items.size items.size hi - sIx items.size 0 lo) == items.size) = true then _ else _) _ _ s
 rw [if_neg hno,Zmd]
 first
  | exact wpAny_bind (m:=Builtin.Tuple.tupleExact _) (wpAny_newObj_type (wpAny_pure ⟨_,rfl,wpAny_pure h⟩) htake)
  | exact wpAny_bind (m:=Builtin.Tuple.tupleExact _) (wpAny_newObj_type (wpAny_bind (wpAny_pure (wpAny_pure ⟨_,rfl,wpAny_pure h⟩))) htake)
  | exact wpAny_bind (wpAny_bind (m:=Builtin.Tuple.tupleExact _) (wpAny_newObj_type (wpAny_pure (wpAny_pure ⟨_,rfl,wpAny_pure h⟩)) htake))
  | exact wpAny_bind (wpAny_bind (m:=Builtin.Tuple.tupleExact _) (wpAny_newObj_type (wpAny_pure ⟨_,rfl,wpAny_pure h⟩) htake))
end
end HT
namespace L2
open PySem PySem.Spec PyProof.Rows
noncomputable abbrev TO:=St → Hp → (Option Int → Hp → Prop) → Prop
noncomputable def PO (X:Cx) (e:Option Expr) (t:TO):Prop:=
 ∀ (pins:List (Addr × Obj)) (s:Shared) (σ:St) (H:Hp) (Q:Option Int → Hp → Prop),Inv X pins σ H s → t σ H Q →
  wpAny (model X.prog X.w) X.A (evalPart e X.env) (fun u s'=>∃ o H',Inv X pins σ H' s' ∧ IsPart u o ∧ Q o H') X.xe s
noncomputable def ZoD:TO:=fun _ H Q=>Q none H
noncomputable def Zro (t:TE):TO:=fun σ H Q=>t σ H fun x H1=>∃ i,x = .int i ∧ Q (some i) H1
section
variable {X:Cx} {e:Expr} {te:TE} {lo hi:Option Expr} {tl th:TO} {pos p2:Pos}
theorem Zor:PO X none ZoD:=by
 intro pins s σ H Q I h
 rw [evalPart_none]
 exact wpAny_pure ⟨none,H,I,.none,h⟩
theorem ZoF (h:PE X e te):PO X (some e) (Zro te):=by
 intro pins s σ H Q I hw
 rw [evalPart_some]
 refine thn (h pins s σ H _ I hw) fun u s1 zz1=>?_
 obtain ⟨x,H1,I1,r1,q1⟩:=zz1
 obtain ⟨i,rfl,q⟩:=q1
 obtain ⟨t,rfl⟩:=r1
 exact ⟨some i,H1,I1,.int i t,q⟩
noncomputable def SlR (X:Cx) (r:V → Option Int → Option Int → Hp → VK → Prop):Prop:=
 ∀ (pins:List (Addr × Obj)) (s:Shared) (σ:St) (H:Hp) (x:V) (v vl vu:Value) (lo hi:Option Int) (sl:Addr) (Q:VK),Inv X pins σ H s → RelV x v → s.heap.IsSliceOf sl vl vu .none → IsPart vl lo → IsPart vu hi → r x lo hi H Q →
  ∃ T id,typeLookup (.type T) "__getitem__" = pure (some (.builtin id)) ∧ s.TypeIs v T ∧ wpAny (model X.prog X.w) X.A (getItem v (.ref sl)) (EP X pins σ Q) X.xe s
theorem SlR.or {r r':V → Option Int → Option Int → Hp → VK → Prop} (h:SlR X r) (h':SlR X r'):SlR X (fun x lo hi H Q=>r x lo hi H Q ∨ r' x lo hi H Q):=by
 intro pins s σ H x v vl vu lo hi sl Q I rx hs pl pu q
 rcases q with q | q
 ·exact h pins s σ H x v vl vu lo hi sl Q I rx hs pl pu q
 ·exact h' pins s σ H x v vl vu lo hi sl Q I rx hs pl pu q
noncomputable def tSl (r:V → Option Int → Option Int → Hp → VK → Prop) (te:TE) (tl th:TO):TE:=fun σ H Q=>te σ H fun x H1=>tl σ H1 fun l H2=>th σ H2 fun u H3=>r x l u H3 Q
theorem Znn {r:V → Option Int → Option Int → Hp → VK → Prop} (hr:SlR X r) (he:PE X e te) (hl:PO X lo tl) (hu:PO X hi th):PE X (.Subscript e (.Slice lo hi none p2) pos) (tSl r te tl th):=by
 intro pins s σ H Q I h
 refine Subscript_ (thn (he pins s σ H _ I h) fun v s1 zz1=>?_)
 obtain ⟨x,H1,I1,r1,q1⟩:=zz1
 refine wpAny_Slice (thn (hl pins s1 σ H1 _ I1 q1) fun vl s2 ⟨l,H2,I2,pl,q2⟩=>thn (hu pins s2 σ H2 _ I2 q2) fun vu s3 zz1=>?_)
 obtain ⟨u,H3,I3,pu,q3⟩:=zz1
 rw [evalPart_none]
 refine wpAny_pure ?_
 have I4:Inv X pins σ H3 { s3 with heap:=s3.heap.push { cls:=.type "slice",data:=.fields #[vl,vu,.none] } }:=I3.kept (t':=s3.toks) fun b ob q=>Heap.get?_push_of_some _ q
 obtain ⟨T,id,hT,ht,hg⟩:=hr pins { s3 with heap:=s3.heap.push { cls:=.type "slice",data:=.fields #[vl,vu,.none] } } σ H3 x v vl vu l u s3.heap.objs.size Q I4 r1 (Heap.IsSliceOf.new ..) pl pu q3
 show wpAny (model X.prog X.w) X.A (subscriptTail e (.Slice lo hi none p2) v (.ref s3.heap.objs.size)) (EP X pins σ Q) X.xe { s3 with heap:=s3.heap.push { cls:=.type "slice",data:=.fields #[vl,vu,.none] } }
 exact tail_any (ops:=[.ref s3.heap.objs.size,v]) ht hT hg (by with_unfolding_all rfl)
noncomputable def Zjn (xs:List V) (lo hi:Option Int):List V:=(xs.drop (HT.sIx xs.length 0 lo)).take (HT.sIx xs.length xs.length hi - HT.sIx xs.length 0 lo)
theorem Zgq (xs:List V) (lo hi:Option Int):(Zjn xs lo hi).length ≤ xs.length:=by
 unfold Zjn
 rw [List.length_take,List.length_drop]
 exact Nat.le_trans (Nat.min_le_right _ _) (Nat.sub_le _ _)
noncomputable def Zsv (K:PySem.W.Frag):V → Option Int → Option Int → Hp → VK → Prop:=fun x lo hi H Q=>∃ a xs,x = .ref a ∧ SqT K H a xs ∧
 ¬ (HT.sIx xs.length 0 lo = 0 ∧ HT.sIx xs.length xs.length hi = xs.length) ∧ ∀ p,H p = none → Q (.ref p) (upd H p (.tup (Zjn xs lo hi)))
theorem ZpG:SlR X (Zsv X.K):=by
 intro pins s σ H x v vl vu lo hi sl Q I rx hs pl pu h
 obtain ⟨a,xs,rfl,hx,hw,q⟩:=h
 cases rx
 obtain ⟨its,r,ht,hz⟩:=I.tuple hx
 have hlen:its.toArray.size = xs.length:=by rw [List.size_toArray]; exact r.length.symm
 refine ⟨"tuple",_,PyProof.Rows.slot_tuple_getitem.lookup,ht.typeIs,?_⟩
 refine HT.getItem_tuple_cut ht hs pl pu (by rw [hlen]; exact hw) ?_ (by rw [hlen]; exact hz)
 rw [hlen]
 refine ⟨.ref s.heap.objs.size,_,I.laid (t':=s.toks) (o:=.tup (Zjn xs lo hi)) (fun b ob q=>Heap.get?_push_of_some _ q) (Nat.le_refl _) ?_,rfl,q _ (I.hok.fresh (Nat.le_refl _))⟩
 exact ⟨Nat.le_trans (Zgq xs lo hi) hz,_,(r.drop (HT.sIx xs.length 0 lo)).take (HT.sIx xs.length xs.length hi - HT.sIx xs.length 0 lo),Zds.new _ _⟩
noncomputable def Zrk (K:PySem.W.Frag):R2:=fun x y H Q=>∃ a b xs ys,x = .ref a ∧ y = .ref b ∧ SqT K H a xs ∧ SqT K H b ys ∧ xs ≠ [] ∧ xs.length + ys.length ≤ sizeLine ∧
 (ys = [] → Q (.ref a) H) ∧ (ys ≠ [] → ∀ p,H p = none → Q (.ref p) (upd H p (.tup (xs ++ ys))))
theorem Vals.nil_iff {xs:List V} {us:List Value} (r:Vals xs us):us = [] ↔ xs = []:=by
 cases r with
 | nil=>simp
 | cons _ _=>simp
theorem Zop:OpR X (binaryOp .Add) (Zrk X.K):=by
 intro pins s σ H x y v u Q I rx ry h
 obtain ⟨a,b,xs,ys,rfl,rfl,ha,hb,hx,hz,q1,q2⟩:=h
 cases rx
 cases ry
 obtain ⟨its,r1,p1,_⟩:=I.tuple ha
 obtain ⟨its2,r2,p2,_⟩:=I.tuple hb
 refine HT.cat_tup p1 p2 (fun z=>hx (r1.nil_iff.mp z)) (fun z=>⟨.ref a,H,I,rfl,q1 (r2.nil_iff.mp z)⟩) (fun z=>?_) (by rw [← r1.length,← r2.length]; exact hz)
 refine ⟨.ref s.heap.objs.size,_,I.laid (t':=s.toks) (o:=.tup (xs ++ ys)) (fun b ob q=>Heap.get?_push_of_some _ q) (Nat.le_refl _) ?_,rfl,q2 (fun w=>z (r2.nil_iff.mpr w)) _ (I.hok.fresh (Nat.le_refl _))⟩
 exact ⟨by rw [List.length_append]; exact hz,_,r1.append r2,Zds.new _ _⟩
end
end L2
namespace L2
open PySem PySem.Spec PyProof.Rows
noncomputable def ixN (n:Nat) (i:Int):Option Nat:=if 0 ≤ i then (if i < n then some i.toNat else none) else if -(n:Int) ≤ i then some (i + n).toNat else none
noncomputable def atI {α:Type} (xs:List α) (i:Int):Option α:=(ixN xs.length i).bind fun j=>xs[j]?
theorem ZkI {n:Nat} {i:Int} {j:Nat} (h:ixN n i = some j):seqIndex? i n = some j ∧ j < n ∧ -(n:Int) ≤ i ∧ i < n:=by
 unfold ixN at h
 by_cases h0:0 ≤ i
 ·rw [if_pos h0] at h
  by_cases h1:i < n
  ·rw [if_pos h1] at h
   have e:i.toNat = j:=Option.some.inj h
   exact ⟨by rw [seqIndex_of h0 h1,e],by exact iN [_,_,_] [_] 3 0x211008a1280911031 T1 e h1 (Int.toNat_of_nonneg h0),by exact iN [_] [_] 1 144182913 T1 h0,h1⟩
  ·rw [if_neg h1] at h; cases h
 ·rw [if_neg h0] at h
  by_cases h1:-(n:Int) ≤ i
  ·rw [if_pos h1] at h
   have e:(i + n).toNat = j:=Option.some.inj h
   exact ⟨by rw [seqIndex_neg (by exact Int.not_le.1 h0) h1,e],by exact iN [_,_,_] [_] 3 0x211280c08a10ec11031 T1 e h0 (Int.toNat_of_nonneg (iN [_] [_] 1 8851524979073 T1 h1)),h1,by exact iN [_] [_] 1 134811329 T1 h0⟩
  ·rw [if_neg h1] at h; cases h
theorem ZiI {α:Type} {xs:List α} {i:Int} {v:α} (h:atI xs i = some v):∃ j,seqIndex? i xs.length = some j ∧ xs[j]? = some v ∧ j < xs.length ∧ -(xs.length:Int) ≤ i ∧ i < xs.length:=by
 unfold atI at h
 cases e:ixN xs.length i with
 | none=>rw [e] at h; cases h
 | some j=>
  rw [e] at h
  obtain ⟨h1,h2,h3,h4⟩:=ZkI e
  exact ⟨j,h1,h,h2,h3,h4⟩
noncomputable def Zld (b:Expr):Prop:=∀ o i,subscripted b false o i = operate [o,i] (getItem o i)
noncomputable def IxR (X:Cx) (r:R2):Prop:=
 ∀ (value slice:Expr) (pins:List (Addr × Obj)) (s:Shared) (σ:St) (H:Hp) (x y:V) (v u:Value) (Q:VK),Inv X pins σ H s → RelV x v → RelV y u → r x y H Q →
  subscripted slice false v u = operate [v,u] (getItem v u) → wpAny (model X.prog X.w) X.A (subscriptTail value slice v u) (EP X pins σ Q) X.xe s
noncomputable def MtR (X:Cx) (id:String) (r:V → List V → Hp → VK → Prop):Prop:=
 ∀ (pins:List (Addr × Obj)) (s:Shared) (σ:St) (H:Hp) (x:V) (xs:List V) (v:Value) (us:List Value) (Q:VK),Inv X pins σ H s → RelV x v → Vals xs us → r x xs H Q →
  wpAny (model X.prog X.w) X.A (call (.builtin id) (v :: us)) (EP X pins σ Q) X.xe s
section
variable {X:Cx} {a b:Expr} {ta tb:TE} {pos:Pos}
theorem IxR.or {r r':R2} (h:IxR X r) (h':IxR X r'):IxR X (fun x y H Q=>r x y H Q ∨ r' x y H Q):=by
 intro value slice pins s σ H x y v u Q I rx ry q hs
 rcases q with q | q
 ·exact h value slice pins s σ H x y v u Q I rx ry q hs
 ·exact h' value slice pins s σ H x y v u Q I rx ry q hs
theorem Zrs {r:R2} (hr:IxR X r) (ha:PE X a ta) (hb:PE X b tb) (hs:Zld b):PE X (.Subscript a b pos) (tOp r ta tb):=by
 intro pins s σ H Q I h
 exact Subscript_ (Zqv ha hb I h fun v u s2 x y H2 I2 rx ry q=>hr a b pins s2 σ H2 x y v u Q I2 rx ry q (hs _ _))
noncomputable def ZrH (K:PySem.W.Frag):R2:=fun x y H Q=>∃ p xs i v,x = .ref p ∧ y = .int i ∧ SqL K H p xs ∧ atI xs i = some v ∧ Q v H
noncomputable def Zr9 (K:PySem.W.Frag):R2:=fun x y H Q=>∃ p xs i v,x = .ref p ∧ y = .int i ∧ SqT K H p xs ∧ atI xs i = some v ∧ Q v H
noncomputable def Zq2:R2:=fun x y H Q=>∃ z i c,x = .str z ∧ y = .int i ∧ z.length ≤ sizeLine ∧ atI z.cps.toList i = some c ∧ Q (.str ⟨#[c]⟩) H
theorem ZoB:IxR X (ZrH X.K):=by
 intro value slice pins s σ H x y v u Q I rx ry h hs
 obtain ⟨p,xs,i,z,rfl,rfl,hq,he,q⟩:=h
 cases rx
 obtain ⟨t,rfl⟩:=ry
 obtain ⟨its,r,pl,hz⟩:=I.list hq
 obtain ⟨j,h1,h2,h3,h4,h5⟩:=ZiI he
 obtain ⟨w,ew,rw'⟩:=r.get h2
 have hl:=r.length
 have hn:=ZgM
 have fin:EP X pins σ Q w s:=⟨z,H,I,rw',q⟩
 by_cases h0:0 ≤ i
 ·have hj:i.toNat = j:=by
   rw [seqIndex_of h0 h5] at h1
   exact Option.some.inj h1
  exact item_listR pl.isList h0 (by omega) (by rw [hj]; simpa using ew) fin hs
 ·have hj:(i + (its.toArray.size:Int)).toNat = j:=by
   rw [seqIndex_neg (by exact Int.not_le.1 h0) h4] at h1
   rw [List.size_toArray,← hl]
   exact Option.some.inj h1
  exact subscriptTail_builtinR (x:=w) pl.isList.typeIs slot_list_getitem.lookup
   (wpAny_getItem_list_neg (Q:=fun r s'=>r = w ∧ EP X pins σ Q r s') pl.isList (by exact Int.not_le.1 h0) (by rw [List.size_toArray] <;> exact iN [_,_] [_] 2 6922527515414561 T1 hl h4) (by omega) (by rw [hj]; simpa using ew) ⟨rfl,fin⟩) hs
theorem ZpB:IxR X (Zr9 X.K):=by
 intro value slice pins s σ H x y v u Q I rx ry h hs
 obtain ⟨p,xs,i,z,rfl,rfl,hq,he,q⟩:=h
 cases rx
 obtain ⟨t,rfl⟩:=ry
 obtain ⟨its,r,pl,hz⟩:=I.tuple hq
 obtain ⟨j,h1,h2,h3,h4,h5⟩:=ZiI he
 obtain ⟨w,ew,rw'⟩:=r.get h2
 have hl:=r.length
 have hn:=ZgM
 have fin:EP X pins σ Q w s:=⟨z,H,I,rw',q⟩
 exact subscriptTail_builtinR (x:=w) pl.typeIs slot_tuple_getitem.lookup
  (getItem_tuple (j:=j) (Q:=fun r s'=>r = w ∧ EP X pins σ Q r s') pl (by omega) (by omega) (by rw [List.size_toArray,← hl]; exact h1) (by simpa using ew) ⟨rfl,fin⟩) hs
theorem ZpN:IxR X Zq2:=by
 intro value slice pins s σ H x y v u Q I rx ry h hs
 obtain ⟨z,i,c,rfl,rfl,hz,he,q⟩:=h
 obtain ⟨t,rfl⟩:=rx
 obtain ⟨t',rfl⟩:=ry
 obtain ⟨j,h1,h2,h3,h4,h5⟩:=ZiI he
 have hl:z.cps.toList.length = z.length:=by simp [Str.length]
 rw [hl] at h1 h4 h5
 have hn:=ZgM
 exact tail_any (typeIs_str s z t) slot_str_getitem.lookup (getItem_str (c:=c) (by
  have e1:decide (i < -(2 ^ 63:Int)) = false:=decide_eq_false (by omega)
  have e2:decide (i ≥ 2 ^ 63) = false:=decide_eq_false (by omega)
  rw [e1,e2,Bool.or_false]) (by rw [h1]; simpa using h2) ⟨.str ⟨#[c]⟩,H,I.tok _,⟨_,rfl⟩,q⟩) hs
noncomputable def rIx (K:PySem.W.Frag):R2:=fun x y H Q=>ZrH K x y H Q ∨ Zr9 K x y H Q ∨ Zq2 x y H Q
theorem Zqi:IxR X (rIx X.K):=ZoB.or (ZpB.or ZpN)
theorem Zky (its:List Value) (n j:Nat) (u:Value):Obj.mapSeq (·.setIfInBounds j u) { cls:=.type "list",data:=.seq its.toArray n } = { cls:=.type "list",data:=.seq (its.set j u).toArray n }:=by
 simp [Obj.mapSeq]
theorem Inv.lst {pins:List (Addr × Obj)} {σ:St} {H:Hp} {s:Shared} {p:Addr} {xs:List V} (I:Inv X pins σ H s) (h:H p = some (.lst xs)):
  ∃ (its:List Value) (n:Nat),Vals xs its ∧ s.heap.get? p = some { cls:=.type "list",data:=.seq its.toArray n } ∧ xs.length ≤ sizeLine:=by
 obtain ⟨z,its,n,r,e⟩:=I.hok p _ h
 exact ⟨its,n,r,e,z⟩
theorem Inv.lstUpd {pins:List (Addr × Obj)} {σ:St} {H:Hp} {s:Shared} {p:Addr} {xs ys:List V} {its its':List Value} {n n':Nat} {f:Obj → Obj} (I:Inv X pins σ H s) (h:H p = some (.lst xs))
  (ho:s.heap.get? p = some { cls:=.type "list",data:=.seq its.toArray n }) (hf:f { cls:=.type "list",data:=.seq its.toArray n } = { cls:=.type "list",data:=.seq its'.toArray n' }) (r:Vals ys its') (hz:ys.length ≤ sizeLine) (t:Nat):
  Inv X pins σ (upd H p (.lst ys)) { s with heap:=s.heap.update p f,toks:=t }:=by
 have e:(s.heap.update p f).get? p = some { cls:=.type "list",data:=.seq its'.toArray n' }:=by
  rw [Heap.get?_update_self f ho (by rw [hf] <;> rfl),hf]
 refine I.write (x:=p) (e:=p) (by rw [h]; trivial) (.inl rfl) (fun b u hb q=>(Heap.get?_update_other _ _ (Ne.symm hb)).trans q) ⟨_,e⟩ ?_
 exact ⟨hz,its',n',r,e⟩
noncomputable def Zrn:V → V → V → Hp → (Hp → Prop) → Prop:=fun o i v H Q=>∃ p xs k j,o = .ref p ∧ i = .int k ∧ H p = some (.lst xs) ∧ ixN xs.length k = some j ∧ Q (upd H p (.lst (xs.set j v)))
theorem set_list:Zq7 X Zrn:=by
 intro pins s σ H o i v ov iv u Q I ro ri rv h
 obtain ⟨p,xs,k,j,rfl,rfl,hp,hj,q⟩:=h
 cases ro
 obtain ⟨t,rfl⟩:=ri
 obtain ⟨its,n,r,ho,hz⟩:=I.lst hp
 obtain ⟨h1,h2,h3,h4⟩:=ZkI hj
 have hl:=r.length
 have hn:=ZgM
 have I':Inv X pins σ (upd H p (.lst (xs.set j v))) { s with heap:=s.heap.update p (Obj.mapSeq (·.setIfInBounds j u)) }:=
  I.lstUpd hp ho (Zky its n j u) (r.set rv j) (by rw [List.length_set]; exact hz) s.toks
 by_cases h0:0 ≤ k
 ·have hk:k.toNat = j:=by
   rw [seqIndex_of h0 h4] at h1
   exact Option.some.inj h1
  exact PySem.W.ki_setAt ho h0 (by omega) (by rw [List.size_toArray,← hl]; exact h4) (by rw [hk]; exact ⟨_,I',q⟩)
 ·have hk:(k + (its.toArray.size:Int)).toNat = j:=by
   rw [seqIndex_neg (by exact Int.not_le.1 h0) h3] at h1
   rw [List.size_toArray,← hl]
   exact Option.some.inj h1
  exact PySem.W.ki_setBack ho (by exact Int.not_le.1 h0) (by rw [List.size_toArray,← hl]; exact h3) (by omega) (by rw [hk]; exact ⟨_,I',q⟩)
theorem Zim (lo hi:Option Int) (n:Nat):(sliceBounds lo hi none n).1 = ((HT.sIx n 0 lo:Nat):Int) ∧ (sliceBounds lo hi none n).2.1 = ((HT.sIx n n hi:Nat):Int) ∧ (sliceBounds lo hi none n).2.2 = 1:=by
 refine ⟨?_,?_,rfl⟩
 ·cases lo with
  | none=>simp [sliceBounds,HT.sIx]
  | some i=>
   simp only [sliceBounds,HT.sIx,Option.getD_none,show (1:Int) > 0 by decide,if_true]
   by_cases h:i < 0
   ·simp only [h,if_true] <;> exact clC _ _ h
   ·simp only [h,if_false] <;> exact clD _ _ h
 ·cases hi with
  | none=>simp [sliceBounds,HT.sIx]
  | some i=>
   simp only [sliceBounds,HT.sIx,Option.getD_none,show (1:Int) > 0 by decide,if_true]
   by_cases h:i < 0
   ·simp only [h,if_true] <;> exact clC _ _ h
   ·simp only [h,if_false] <;> exact clD _ _ h
theorem Zht (its:List Value) (lo hi:Option Int):slicePick its.toArray lo hi none = ((its.drop (HT.sIx its.length 0 lo)).take (HT.sIx its.length its.length hi - HT.sIx its.length 0 lo)).toArray:=by
 obtain ⟨h1,h2,h3⟩:=Zim lo hi its.toArray.size
 unfold slicePick
 rw [h1,h2,h3]
 simp only [sliceRange_one,pick_run,List.size_toArray] <;> rfl
noncomputable def Zs5 (K:PySem.W.Frag):V → Option Int → Option Int → Hp → VK → Prop:=fun x lo hi H Q=>∃ a xs,x = .ref a ∧ SqL K H a xs ∧ ∀ p,H p = none → Q (.ref p) (upd H p (.lst (Zjn xs lo hi)))
theorem Zoi:SlR X (Zs5 X.K):=by
 intro pins s σ H x v vl vu lo hi sl Q I rx hs pl pu h
 obtain ⟨a,xs,rfl,hx,q⟩:=h
 cases rx
 obtain ⟨its,r,ht,hz⟩:=I.list hx
 have hlen:=r.length
 refine ⟨"list",_,slot_list_getitem.lookup,ht.isList.typeIs,?_⟩
 refine wpAny_getItem_list_slice ht.isList hs pl pu .none (by simp) ?_ (by rw [List.size_toArray] <;> exact lC 2 2268279672881 T1 hlen hz)
 rw [Zht,← hlen]
 refine ⟨.ref s.heap.objs.size,_,I.laid (t':=s.toks) (o:=.lst (Zjn xs lo hi)) (fun b ob q=>Heap.get?_push_of_some _ q) (Nat.le_refl _) ?_,rfl,q _ (I.hok.fresh (Nat.le_refl _))⟩
 exact ⟨Nat.le_trans (Zgq xs lo hi) hz,_,0,(r.drop (HT.sIx xs.length 0 lo)).take (HT.sIx xs.length xs.length hi - HT.sIx xs.length 0 lo),Heap.get?_push_size _ rfl⟩
noncomputable def Ze4:V → Bool
 | .non=>true
 | .bl _=>true
 | .int _=>true
 | .str _=>true
 | _=>false
noncomputable def eqV:V → V → Bool
 | .non,.non=>true
 | .bl a,.bl b=>a == b
 | .bl a,.int b=>(if a then 1 else 0) == b
 | .int a,.bl b=>a == (if b then 1 else 0)
 | .int a,.int b=>a == b
 | .str a,.str b=>a == b
 | _,_=>false
theorem ZpI {A:Around} {s:Shared} {y x:V} {u v:Value} (ry:RelV y u) (rx:RelV x v) (fy:Ze4 y = true) (fx:Ze4 x = true):SeqAt.EqAt A s u v (eqV y x):=by
 cases y with
 | non=>
  cases ry
  cases x with
  | non=>cases rx; exact SeqAt.EqAt.same _
  | bl b=>cases rx; exact SeqAt.EqAt.none_bool b
  | int b=>obtain ⟨t,rfl⟩:=rx; exact SeqAt.EqAt.none_int b t
  | str b=>obtain ⟨t,rfl⟩:=rx; exact SeqAt.EqAt.none_str b t
  | _=>exact absurd (show false = true from fx) Bool.false_ne_true
 | bl a=>
  cases ry
  cases x with
  | non=>cases rx; exact SeqAt.EqAt.bool_none a
  | bl b=>cases rx; exact SeqAt.EqAt.bool_bool a b
  | int b=>obtain ⟨t,rfl⟩:=rx; exact SeqAt.EqAt.bool_int a b t
  | str b=>obtain ⟨t,rfl⟩:=rx; exact SeqAt.EqAt.bool_str a b t
  | _=>exact absurd (show false = true from fx) Bool.false_ne_true
 | int a=>
  obtain ⟨t',rfl⟩:=ry
  cases x with
  | non=>cases rx; exact SeqAt.EqAt.int_none a t'
  | bl b=>cases rx; exact SeqAt.EqAt.int_bool a t' b
  | int b=>obtain ⟨t,rfl⟩:=rx; exact SeqAt.EqAt.int_int a t' b t
  | str b=>obtain ⟨t,rfl⟩:=rx; exact SeqAt.EqAt.int_str a t' b t
  | _=>exact absurd (show false = true from fx) Bool.false_ne_true
 | str a=>
  obtain ⟨t',rfl⟩:=ry
  cases x with
  | non=>cases rx; exact SeqAt.EqAt.str_none a t'
  | bl b=>cases rx; exact SeqAt.EqAt.str_bool a t' b
  | int b=>obtain ⟨t,rfl⟩:=rx; exact SeqAt.EqAt.str_int a t' b t
  | str b=>obtain ⟨t,rfl⟩:=rx; exact SeqAt.EqAt.str_str a t' b t
  | _=>exact absurd (show false = true from fx) Bool.false_ne_true
 | _=>exact absurd (show false = true from fy) Bool.false_ne_true
noncomputable def eqU (x:V) (u:Value):Bool:=match u with
 | .none=>eqV .non x
 | .bool b=>eqV (.bl b) x
 | .int i _=>eqV (.int i) x
 | .str z _=>eqV (.str z) x
 | _=>false
theorem Zng {x y:V} {u:Value} (r:RelV y u) (f:Ze4 y = true):eqU x u = eqV y x:=by
 cases y with
 | non=>cases r; rfl
 | bl b=>cases r; rfl
 | int i=>obtain ⟨t,rfl⟩:=r; rfl
 | str z=>obtain ⟨t,rfl⟩:=r; rfl
 | _=>exact absurd (show false = true from f) Bool.false_ne_true
theorem ZiW {x:V}:∀ {xs:List V} {us:List Value},Vals xs us → xs.all Ze4 = true → us.any (eqU x) = xs.any fun y=>eqV y x
 | _,_,.nil,_=>rfl
 | y :: xs,u :: us,.cons r t,f=>by
  rw [List.all_cons,Bool.and_eq_true] at f
  rw [List.any_cons,List.any_cons,Zng r f.1,ZiW t f.2]
theorem Zhd {A:Around} {s:Shared} {x:V} {v:Value} (rx:RelV x v) (fx:Ze4 x = true):∀ {xs:List V} {us:List Value},Vals xs us → xs.all Ze4 = true → ∀ u ∈ us,SeqAt.EqAt A s u v (eqU x u)
 | _,_,.nil,_=>fun u hu=>by cases hu
 | y :: xs,u :: us,.cons r t,f=>fun u' hu=>by
  rw [List.all_cons,Bool.and_eq_true] at f
  rcases List.mem_cons.mp hu with rfl | hu
  ·rw [Zng r f.1]; exact ZpI r rx f.1 fx
  ·exact Zhd rx fx t f.2 u' hu
noncomputable def inV (x:V) (xs:List V):Bool:=xs.any fun y=>eqV y x
noncomputable def rIn (K:PySem.W.Frag) (neg:Bool):R2:=fun x y H Q=>∃ p xs,y = .ref p ∧ (SqL K H p xs ∨ SqT K H p xs) ∧ Ze4 x = true ∧ xs.all Ze4 = true ∧ Q (.bl (if neg then !inV x xs else inV x xs)) H
theorem ZlG:OpR X (compareOp .In) (rIn X.K false):=by
 intro pins s σ H x y v u Q I rx ry h
 obtain ⟨p,xs,rfl,hq,fx,fs,q⟩:=h
 cases ry
 rcases hq with hq | hq
 ·obtain ⟨its,r,pl,hz⟩:=I.list hq
  refine SeqAt.in_listAt (eqU x) pl.isList (fun w hw=>Zhd rx fx r fs w (by simpa using hw)) ⟨.bl _,H,I,rfl,?_⟩
  rw [show its.toArray.any (eqU x) = its.any (eqU x) by simp,ZiW r fs]
  exact q
 ·obtain ⟨its,r,pl,hz⟩:=I.tuple hq
  refine SeqAt.in_tupleAt (eqU x) pl (fun w hw=>Zhd rx fx r fs w (by simpa using hw)) ⟨.bl _,H,I,rfl,?_⟩
  rw [show its.toArray.any (eqU x) = its.any (eqU x) by simp,ZiW r fs]
  exact q
theorem Zbd.or {f:Value} {r r':List V → Hp → VK → Prop} (h:Zbd X f r) (h':Zbd X f r'):Zbd X f (fun xs H Q=>r xs H Q ∨ r' xs H Q):=by
 intro pins s σ H xs us Q I rs q
 rcases q with q | q
 ·exact h pins s σ H xs us Q I rs q
 ·exact h' pins s σ H xs us Q I rs q
theorem ZiN:Zbd X (.type "list") (fun xs H Q=>∃ p ys,xs = [.ref p] ∧ (SqL X.K H p ys ∨ SqT X.K H p ys) ∧ ∀ l,H l = none → Q (.ref l) (upd H l (.lst ys))):=by
 intro pins s σ H xs us Q I r h
 obtain ⟨p,ys,rfl,hq,q⟩:=h
 obtain ⟨u,rfl,rx⟩:=vals1 r
 cases rx
 have fin:∀ (its:List Value),Vals ys its → ys.length ≤ sizeLine → ∀ (h':Heap) (c':Nat),(∀ b o',s.heap.get? b = some o' → h'.get? b = some o') →
   h'.get? s.heap.objs.size = some { cls:=.type "list",dict:=none,data:=.seq its.toArray c',slots:=#[] } → EP X pins σ Q (.ref s.heap.objs.size) { s with heap:=h' }:=fun its r' hz h' c' kp e=>
  ⟨.ref s.heap.objs.size,_,I.laid (t':=s.toks) kp (Nat.le_refl _) (show Zbj X.prog X.w _ h' _ (.lst ys) from ⟨hz,its,c',r',e⟩),rfl,q _ (I.hok.fresh (Nat.le_refl _))⟩
 rcases hq with hq | hq
 ·obtain ⟨its,r',pl,hz⟩:=I.list hq
  have hlen:=r'.length
  obtain ⟨o,ho,hc,n,hd⟩:=pl.isList
  exact call_list_seq p (.inl rfl) ho hc hd (fun h' c' kp e=>fin its r' hz h' c' kp e) (by simp only [List.size_toArray] <;> exact lC 2 2268279672881 T1 hlen hz)
 ·obtain ⟨its,r',pl,hz⟩:=I.tuple hq
  have hlen:=r'.length
  obtain ⟨o,ho,hc,n,hd⟩:=pl
  exact call_list_seq p (.inr rfl) ho hc hd (fun h' c' kp e=>fin its r' hz h' c' kp e) (by simp only [List.size_toArray] <;> exact lC 2 2268279672881 T1 hlen hz)
theorem Zhz:Zbd X (.type "tuple") (fun xs H Q=>∃ p ys,xs = [.ref p] ∧ ((SqL X.K H p ys ∧ ∀ l,H l = none → Q (.ref l) (upd H l (.tup ys))) ∨ (SqT X.K H p ys ∧ Q (.ref p) H))):=by
 intro pins s σ H xs us Q I r h
 obtain ⟨p,ys,rfl,h⟩:=h
 obtain ⟨u,rfl,rx⟩:=vals1 r
 cases rx
 rcases h with ⟨hq,q⟩ | ⟨hq,q⟩
 ·obtain ⟨its,r',pl,hz⟩:=I.list hq
  have hlen:=r'.length
  refine call_tuple_list pl.isList (fun h' kp=>?_) (by simp only [List.size_toArray] <;> exact lC 2 2268279672881 T1 hlen hz)
  have I1:Inv X pins σ H { s with heap:=h' }:=I.kept (t':=s.toks) kp
  have I2:Inv X pins σ (upd H h'.objs.size (.tup ys)) { s with heap:=h'.push { cls:=.type "tuple",data:=.seq its.toArray } }:=
   I1.laid (t':=s.toks) (fun b o e=>Heap.get?_push_of_some _ e) (Nat.le_refl _) (show Zbj X.prog X.w _ _ _ (.tup ys) from ⟨hz,its,r',Zds.new _ _⟩)
  exact ⟨.ref h'.objs.size,_,I2,rfl,q _ (I1.hok.fresh (Nat.le_refl _))⟩
 ·obtain ⟨its,r',pl,hz⟩:=I.tuple hq
  exact call_tuple_same pl ⟨.ref p,H,I,rfl,q⟩
noncomputable def tyV (K:PySem.W.Frag) (T:String) (x:V) (H:Hp):Prop:=match x with
 | .str _=>T = "str"
 | .int _=>T = "int"
 | .ref p=>(T = "list" ∧ ∃ xs,SqL K H p xs) ∨ (T = "tuple" ∧ ∃ o,K.lookup p = some o ∧ o.cls = .type "tuple" ∧ o.dict = none) ∨
   (T = "dict" ∧ ((∃ kvs,H p = some (.dK kvs)) ∨ ∃ kvs,H p = some (.dT kvs))) ∨ (T = "set" ∧ ∃ S n,H p = some (.set S n))
 | _=>False
theorem ZmA {pins:List (Addr × Obj)} {σ:St} {H:Hp} {s:Shared} {T:String} {x:V} {v:Value} (I:Inv X pins σ H s) (r:RelV x v) (ty:tyV X.K T x H):
  s.TypeIs v T ∧ ∀ a,v = .ref a → ∃ ob,s.heap.get? a = some ob ∧ ob.dict = none:=by
 cases x with
 | str z=>
  obtain ⟨t,rfl⟩:=r
  cases (show T = "str" from ty)
  exact ⟨typeIs_str s z t,fun _ e=>nomatch e⟩
 | int i=>
  obtain ⟨t,rfl⟩:=r
  cases (show T = "int" from ty)
  exact ⟨typeIs_int s i t,fun _ e=>nomatch e⟩
 | ref p=>
  cases r
  rcases ty with ⟨rfl,xs,hq⟩ | ⟨rfl,o,hk,hc,hd⟩ | ⟨rfl,hk⟩ | ⟨rfl,S,n,hk⟩
  ·obtain ⟨its,_,pl,_⟩:=I.list hq
   refine ⟨pl.isList.typeIs,fun a e=>?_⟩
   cases e
   obtain ⟨o,n,e,c,hd,_⟩:=pl
   exact ⟨o,e,hd⟩
  ·refine ⟨⟨o,I.kIn p o hk,hc⟩,fun a e=>?_⟩
   cases e
   exact ⟨o,I.kIn _ o hk,hd⟩
  ·have z:∃ o,s.heap.get? p = some o ∧ o.ExactDict:=by
    rcases hk with ⟨kvs,hk⟩ | ⟨kvs,hk⟩
    ·obtain ⟨_,_,_,_,o,_,_,e,ex,_⟩:=I.hok p _ hk
     exact ⟨o,e,ex⟩
    ·obtain ⟨_,_,_,_,o,_,_,e,ex,_⟩:=I.hok p _ hk
     exact ⟨o,e,ex⟩
   obtain ⟨o,e,ex⟩:=z
   refine ⟨⟨o,e,ex.1⟩,fun a e2=>?_⟩
   cases e2
   exact ⟨o,e,ex.2.1⟩
  ·obtain ⟨o,_,_,_,e,ex,_⟩:=I.hok p _ hk
   refine ⟨⟨o,e,ex.1⟩,fun a e2=>?_⟩
   cases e2
   exact ⟨o,e,ex.2.1⟩
 | _=>exact False.elim ty
noncomputable def Zrd (K:PySem.W.Frag) (T:String) (r:V → List V → Hp → VK → Prop) (to:TE):TE:=fun σ H Q=>to σ H fun x H1=>tyV K T x H1 ∧ r x [] H1 Q
noncomputable def tBM (K:PySem.W.Frag) (T:String) (r:V → List V → Hp → VK → Prop) (to:TE) (t:TA):TE:=fun σ H Q=>to σ H fun x H1=>tyV K T x H1 ∧ t σ H1 fun xs H2=>r x xs H2 Q
variable {o e:Expr} {es:List Expr} {to:TE} {t:TA} {name:Str} {apos cpos:Pos} {T id:String} {r:V → List V → Hp → VK → Prop}
theorem Zqb (pa:PlainAttrs T) (slot:Slot T name id) (hty:typeOf (.builtin id) = pure (.type "method_descriptor")) (hm:MtR X id r) (ho:PE X o to)
  (hbase:attributeBase o name X.env (eval o X.env) = eval o X.env:=by rfl) (hline:(apos.endLine == cpos.line) = true:=by rfl):PE X (.Call (.Attribute o name apos) [] [] cpos) (Zrd X.K T r to):=by
 intro pins s σ H Q I h
 refine wpAny_Call_method0_late hbase hline (thn (ho pins s σ H _ I h) fun v s1 zz1=>?_)
 obtain ⟨x,H1,I1,r1,ty,q1⟩:=zz1
 obtain ⟨h1,h2⟩:=ZmA I1 r1 ty
 exact ⟨T,id,pa,slot,hty,h1,h2,Calls.callWith_builtin rfl (PySem.evalArgs_none (hm pins s1 σ H1 x [] v [] Q I1 r1 .nil q1))⟩
theorem Zrh (pa:PlainAttrs T) (slot:Slot T name id) (hty:typeOf (.builtin id) = pure (.type "method_descriptor")) (hm:MtR X id r) (ho:PE X o to) (ha:PA X (e :: es) t)
  (hbase:attributeBase o name X.env (eval o X.env) = eval o X.env:=by rfl)
  (hfew:((backTo cpos (starEach (e :: es) X.env)).all (fun x=>!x.1) && (backToKw cpos (keywordEach [] X.env)).all (fun x=>x.1.isSome)
   && decide ((e :: es).length + ([]:List Keyword).length + (if ([]:List Keyword).isEmpty then 0 else 1) < 30)) = true:=by rfl)
  (hline:(apos.endLine == cpos.line) = true:=by rfl) (hs:starEach (e :: es) X.env = (false,eval e X.env) :: starEach es X.env:=by rfl) (hplain:(backTo cpos (starEach es X.env)).any (·.1) = false:=by rfl):
  PE X (.Call (.Attribute o name apos) (e :: es) [] cpos) (tBM X.K T r to t):=by
 intro pins s σ H Q I h
 refine wpAny_Call_method_late hbase hfew hline rfl (thn (ho pins s σ H _ I h) fun v s1 zz1=>?_)
 obtain ⟨x,H1,I1,r1,ty,q1⟩:=zz1
 obtain ⟨h1,h2⟩:=ZmA I1 r1 ty
 refine ⟨T,id,pa,slot,hty,h1,h2,?_⟩
 have hA:=ha cpos pins s1 σ H1 _ I1 q1
 rw [hs] at hA ⊢
 refine Calls.callWith_builtin (by show (false || (backTo cpos (starEach es X.env)).any (·.1)) = false; rw [hplain] <;> rfl) (Calls.evalArgs_plain ?_)
 exact thn hA fun us s2 ⟨vs,H2,I2,r2,q2⟩=>hm pins s2 σ H2 x vs v us Q I2 r1 r2 q2
/- xs.append(e),list.index on a module's tuple .. are MtR facts of 06m -/
end
end L2
namespace L2
open PySem PySem.Spec PyProof.Rows
noncomputable def MtM (X:Cx) (id:String) (r:V → List V → Hp → VK → Prop):Prop:=
 ∀ (pins:List (Addr × Obj)) (s:Shared) (σ:St) (H:Hp) (x:V) (xs:List V) (v:Value) (us:List Value) (Q:VK),Inv X pins σ H s → RelV x v → Vals xs us → r x xs H Q →
  wpAny (model X.prog X.w) X.A (call (.builtin id) (v :: us)) (EP X pins σ Q) X.xe s
theorem Vals.one:∀ {x:V} {us:List Value},Vals [x] us → ∃ u,us = [u] ∧ RelV x u
 | _,_,.cons r .nil=>⟨_,rfl,r⟩
theorem Vals.zero:∀ {us:List Value},Vals [] us → us = []
 | _,.nil=>rfl
theorem Vals.eraseIdx:∀ {xs:List V} {us:List Value} (i:Nat),Vals xs us → Vals (xs.eraseIdx i) (us.eraseIdx i)
 | _,_,_,.nil=>.nil
 | _,_,0,.cons _ t=>t
 | _,_,i + 1,.cons r t=>.cons r (Vals.eraseIdx i t)
theorem Vals.reverse {xs:List V} {us:List Value} (h:Vals xs us):Vals xs.reverse us.reverse:=by
 induction h with
 | nil=>exact .nil
 | cons r t ih=>rw [List.reverse_cons,List.reverse_cons]; exact Vals.append ih (.cons r .nil)
theorem Vals.rep {xs:List V} {us:List Value} (h:Vals xs us):∀ k:Nat,Vals (List.replicate k xs).flatten (List.replicate k us).flatten
 | 0=>.nil
 | k + 1=>by
  rw [List.replicate_succ,List.replicate_succ,List.flatten_cons,List.flatten_cons]
  exact Vals.append h (Vals.rep h k)
theorem foldl_rep (its:List Value):∀ (k:Nat) (acc:List Value),
  List.foldl (fun x1 x2=>x1 ++ x2) acc.toArray (List.replicate k its.toArray) = (acc ++ (List.replicate k its).flatten).toArray
 | 0,acc=>by simp
 | k + 1,acc=>by
  have e:acc.toArray ++ its.toArray = (acc ++ its).toArray:=by simp
  have e2:(acc ++ its) ++ (List.replicate k its).flatten = acc ++ (List.replicate (k + 1) its).flatten:=by
   rw [List.replicate_succ,List.flatten_cons,List.append_assoc]
  rw [← e2,← foldl_rep its k (acc ++ its),← e,List.replicate_succ,List.foldl_cons]
section
variable {X:Cx} {pins:List (Addr × Obj)} {σ:St} {H:Hp} {s:Shared} {l b:Addr} {xs ys zs:List V}
theorem Inv.lset {its its':List Value} {n:Nat} {f:Array Value → Array Value} {t':Nat} (I:Inv X pins σ H s) (hH:H l = some (.lst xs))
  (e:s.heap.get? l = some { cls:=.type "list",data:=.seq its.toArray n }) (hf:f its.toArray = its'.toArray) (hv:Vals ys its') (hz:ys.length ≤ sizeLine):
  Inv X pins σ (upd H l (.lst ys)) { s with heap:=s.heap.update l (Obj.mapSeq f),toks:=t' }:=by
 have q:=PySem.IsL.update e f
 rw [hf] at q
 refine I.write (x:=l) (e:=l) (by rw [hH]; exact trivial) (.inl rfl) (fun b' u hb hu=>(Heap.get?_update_other s.heap (Obj.mapSeq f) (Ne.symm hb)).trans hu) ⟨_,q⟩ ?_
 exact ⟨hz,its',_,hv,q⟩
theorem Inv.lnew {its:List Value} {t':Nat} (I:Inv X pins σ H s) (hv:Vals ys its) (hz:ys.length ≤ sizeLine):
  Inv X pins σ (upd H s.heap.objs.size (.lst ys)) { s with heap:=s.heap.push { cls:=.type "list",data:=.seq its.toArray },toks:=t' }:=
 I.laid (fun _ _ q=>Heap.get?_push_of_some _ q) (Nat.le_refl _) ⟨hz,its,0,hv,Heap.get?_push_size _ rfl⟩
theorem Inv.fresh (I:Inv X pins σ H s):H s.heap.objs.size = none:=I.hok.fresh (Nat.le_refl _)
theorem Inv.lstM (I:Inv X pins σ H s) (hH:H l = some (.lst xs)):xs.length ≤ sizeLine ∧ ∃ (its:List Value) (n:Nat),Vals xs its ∧ xs.length = its.length ∧ s.heap.get? l = some { cls:=.type "list",data:=.seq its.toArray n }:=by
 obtain ⟨z,its,n,r,e⟩:=I.hok l _ hH
 exact ⟨z,its,n,r,r.length,e⟩
theorem Znl {n:Nat} (h:n ≤ sizeLine):Builtin.List.listTooLong n = false:=by
 unfold Builtin.List.listTooLong
 exact decide_eq_false (by omega)
end
section
variable {X:Cx}
noncomputable def ZkN:V → List V → Hp → VK → Prop:=fun x vs H Q=>∃ l xs y,x = .ref l ∧ vs = [y] ∧ H l = some (.lst xs) ∧ xs.length < sizeLine ∧ Q .non (upd H l (.lst (xs ++ [y])))
theorem Zih:MtM X "list.append" ZkN:=by
 intro pins s σ H x vs v us Q I rx rv h
 obtain ⟨l,xs,y,rfl,rfl,hH,hz,q⟩:=h
 cases rx
 obtain ⟨u,rfl,ru⟩:=rv.one
 obtain ⟨z,its,n,r,hl,e⟩:=I.lstM hH
 refine call_meets F.slot_list_append ⟨_,e,rfl⟩ F.entry_list_append (F.args_list_append_2 _ _) (PySem.list_append l its.toArray n u (by rw [List.size_toArray]; exact lC 2 2268279672881 T1 hl z)) ⟨e,?_⟩
 refine ⟨.non,_,I.lset (its':=its ++ [u]) hH e (by simp) (r.append (.cons ru .nil)) ?_,rfl,q⟩
 rw [List.length_append,List.length_singleton]
 exact lB 1 6991908881 T1 hz
noncomputable def Zi9:V → List V → Hp → VK → Prop:=fun x vs H Q=>∃ l xs,x = .ref l ∧ vs = [] ∧ H l = some (.lst xs) ∧ Q .non (upd H l (.lst xs.reverse))
theorem ZjW:MtM X "list.reverse" Zi9:=by
 intro pins s σ H x vs v us Q I rx rv h
 obtain ⟨l,xs,rfl,rfl,hH,q⟩:=h
 cases rx
 have hus:=rv.zero
 subst hus
 obtain ⟨z,its,n,r,hl,e⟩:=I.lstM hH
 refine call_meets F.slot_list_reverse ⟨_,e,rfl⟩ F.entry_list_reverse (F.args_list_reverse_1 _) (AutoSeq1.list_reverse_list_0 l its.toArray n (by rw [List.size_toArray]; exact lC 2 2268279672881 T1 hl z)) ⟨e,?_⟩
 refine ⟨.non,_,I.lset (its':=its.reverse) hH e (by simp) r.reverse ?_,rfl,q⟩
 rw [List.length_reverse]
 exact z
noncomputable def ZsU:R2:=fun x y H Q=>∃ l b xs zs,x = .ref l ∧ y = .ref b ∧ H l = some (.lst xs) ∧ H b = some (.lst zs) ∧ xs.length + zs.length ≤ sizeLine ∧ ∀ p,H p = none → Q (.ref p) (upd H p (.lst (xs ++ zs)))
theorem Zqx:OpR X (binaryOp .Add) ZsU:=by
 intro pins s σ H x y v u Q I rx ry h
 obtain ⟨l,b,xs,zs,rfl,rfl,hH,hB,hz,q⟩:=h
 cases rx
 cases ry
 obtain ⟨z,its,n,r,hl,e⟩:=I.lstM hH
 obtain ⟨z2,its2,n2,r2,hl2,e2⟩:=I.lstM hB
 refine PySem.P.add_list e e2 ?_ (by rw [List.size_toArray,List.size_toArray]; exact lE 3 0x413c0402c0132311031 T1 hl2 hl hz)
 have ea:its.toArray ++ its2.toArray = (its ++ its2).toArray:=by simp
 rw [ea]
 exact ⟨.ref _,_,I.lnew (t':=s.toks) (r.append r2) (by rw [List.length_append]; exact hz),rfl,q _ I.fresh⟩
noncomputable def Zso:R2:=fun x y H Q=>∃ l k xs,x = .ref l ∧ y = .int k ∧ H l = some (.lst xs) ∧ -(2 ^ 63) ≤ k ∧ k < 2 ^ 63 ∧ xs.length * k.toNat ≤ sizeLine ∧
 ∀ p,H p = none → Q (.ref p) (upd H p (.lst (List.replicate k.toNat xs).flatten))
theorem len_rep {α:Type} (xs:List α) (k:Nat):(List.replicate k xs).flatten.length = k * xs.length:=by
 induction k with
 | zero=>simp
 | succ k ih=>rw [List.replicate_succ,List.flatten_cons,List.length_append,ih,Nat.succ_mul,Nat.add_comm]
theorem Zpn:OpR X (binaryOp .Mult) Zso:=by
 intro pins s σ H x y v u Q I rx ry h
 obtain ⟨l,k,xs,rfl,rfl,hH,h1,h2,hz,q⟩:=h
 cases rx
 obtain ⟨t,rfl⟩:=ry
 obtain ⟨z,its,n,r,hl,e⟩:=I.lstM hH
 have hlen:its.toArray.size * k.toNat ≤ sizeLine:=by rw [List.size_toArray,← hl]; exact hz
 have hcap:¬ its.toArray.size * k.toNat > (2 ^ 63 - 1) / 8:=by
  have:(sizeLine:Nat) ≤ (2 ^ 63 - 1) / 8:=by decide
  omega
 have hfit:¬ (!Builtin.List.listFitsIndex k) = true:=by
  rw [fitsIndex_both h1 h2]
  exact Bool.false_ne_true
 have hlong:¬ Builtin.List.listTooLong (its.toArray.size * k.toNat) = true:=by
  rw [Znl hlen]
  exact Bool.false_ne_true
 have hnew:List.foldl (fun x1 x2=>x1 ++ x2) #[] (List.replicate (if its.toArray.isEmpty = true then 0 else k.toNat) its.toArray) = (List.replicate k.toNat its).flatten.toArray:=by
  have f0:∀ m:Nat,List.foldl (fun x1 x2=>x1 ++ x2) #[] (List.replicate m its.toArray) = (List.replicate m its).flatten.toArray:=fun m=>by
   have:=foldl_rep its m []
   rw [List.nil_append] at this
   exact this
  rw [f0]
  cases its with
  | nil=>simp
  | cons a r'=>rw [if_neg (by simp)]
 refine wpAny_binaryOp_repeat_ref (T:="list") (U:="int") (by decide) ⟨_,e,rfl⟩ (fun s'=>typeIs_int s' k t) noFill_list_mul F.fills_int_mul F.slot_int_rmul repeat_list F.slot_int_index.lookup
  (call_meets F.slot_int_rmul (typeIs_int s k t) F.entry_int_rmul (F.args_int_rmul_2 _ _) (int___rmul___int_list k t l its.toArray n)
   ⟨e,rfl,⟨_,e,rfl⟩,call_meets F.slot_list_mul ⟨_,e,rfl⟩ F.entry_list_mul (F.args_list_mul_2 _ _) (AutoListH.list___mul___list_int_3 l its.toArray n k t hfit hcap hlong) ⟨e,?_⟩⟩)
 rw [hnew]
 exact ⟨.ref _,_,I.lnew (t':=s.toks) (r.rep k.toNat) (by rw [len_rep,Nat.mul_comm]; exact hz),rfl,q _ I.fresh⟩
end
section
variable {prog:Program} {w:World} {A:Around} {E:Value → Shared → Prop} {s:Shared}
end
section
variable {X:Cx}
end
end L2
namespace Att
open PySem PySem.W PySem.Calls PyProof.Rows
theorem Zgv {P:Params} {h:Heap}:∀ (ns:List Int) (vs:List Value),WellAll P h vs (ns.map WData.int) → IntsAre vs ns:=by
 intro ns
 induction ns with
 | nil=>
  intro vs w
  rw [List.map_nil] at w
  cases w
  exact .nil
 | cons n ns ih=>
  intro vs w
  rw [List.map_cons] at w
  cases w with
  | cons a b=>
   cases a
   exact .cons _ _ (ih _ b)
theorem Zl4 {l:OpenLaw} {n:Nat} (hn:l.most = some n) {P:Params} {h:Heap} {args:List WData} {vals:List Value}
  (hpre:l.row.toRowW.claim.pre args = true) (hwl:WellAll P h vals args):
  ∃ a vs ns,vals = [Value.ref a] ∧ args = [WData.list (ns.map WData.int)] ∧ h.get? a = some { cls:=.type "list",data:=.seq vs.toArray } ∧ IntsAre vs ns ∧ ns.length ≤ n:=by
 have hsh:WShape.hasAll [] args [.list .int] = true:=(pre_splitW hpre).1
 have hc:l.pre.holds [] { args:=args } = true:=(pre_splitW hpre).2
 obtain ⟨d,r,rfl,h1,h2⟩:=hasAllW_cons hsh
 obtain rfl:=hasAllW_nil h2
 obtain ⟨xs,rfl,h3⟩:=hasW_list h1
 obtain ⟨ns,rfl⟩:=items_int h3
 have hlen:ns.length ≤ n:=by
  unfold OpenLaw.pre at hc
  have h4:(WTm.not (.lt (.lit (.int (n:Int))) (.len (.arg 0)))).holds [] { args:=[.list (ns.map .int)] } = true:=by
   have h4:=(holds_andW hc).1
   rw [hn] at h4
   exact h4
  have h5:=condW_of h4 (w_not (w_lt w_lit (w_len_list (w_arg rfl))))
  rw [List.length_map] at h5
  refine Nat.le_of_not_lt fun q=>?_
  have q':(n:Int) < ((ns.length:Nat):Int):=by exact Int.ofNat_lt.2 q
  first
   | (rw [decide_eq_true q'] at h5; exact absurd h5 (by decide))
   | (simp at h5; omega)
 cases hwl with
 | cons w1 w2=>
  cases w2
  cases w1 with
  | list ho hall=>exact ⟨_,_,ns,rfl,rfl,ho,Zgv ns _ hall,hlen⟩
theorem Zl5 (l:OpenLaw) (args:List WData):l.row.toRowW.claim.post args (.bool true) args = true:=
 postW_of (r:=l.row.toRowW) (X:=(true == true))
  (show WShape.has [] (.bool true) .bool = true by first | rfl | decide | simp [WShape.has,WShape.arms,WShape.armsAll])
  (show (WTm.eq .res (.lit (.bool true))).value [] { args:=args,res:=some (.bool true),after:=args } = some (.bool (true == true)) from w_eq_bool (w_res rfl) w_lit) rfl
theorem attach_call {l:OpenLaw} {n:Nat} {q:Program} {loose:List Str} {XP:(Str → Option Value) → Heap → Prop} {YP:World → Heap → Prop} {d:DefRec}
  (hn:l.most = some n) (hdf:d.params.defaults = [])
  (call:∀ (w:World) (s₀ s₁:Shared) (mg mb:Str → Option Value) (fa:Addr) (o:Obj) (pm cd doc:Value) (a:Addr) (vs:List Value) (ns:List Int),
   Ground q loose [] XP w s₀ mg mb s₁.heap → YP w s₁.heap →
   s₁.heap.get? fa = some o → o.data = .func (docDef d.name d.params d.body d.scope pm cd doc) → s₁.heap.CodeRec cd d.name → mg d.name = some (.ref fa) →
   s₁.heap.get? a = some { cls:=.type "list",data:=.seq vs.toArray } → IntsAre vs ns → ns.length ≤ n → s₁.gens = #[] →
   codeAny (model l.prog w) callerA (.call (.ref fa) ⟨[.ref a],[]⟩) (fun r s'=>r = .ok (.ret (.bool true)) ∧ OldK s₁.heap s'.heap ∧ s'.os = s₁.os ∧ AllBare s'.gens) s₁):
  WalkO q loose XP YP l.row.toRowW d [] (fun f vs=>PySem.call f vs):=by
 intro w s₀ s₁ mg mb G Y fa o pm cd doc dV kV ho hd hcd hD hmg hg args vals as hpre hlay hrd hwl hlo
 obtain rfl:dV = .none:=Dflts.none hD hdf
 obtain rfl:kV = .none:=Dflts.noKw hD
 obtain ⟨a,vs,ns,rfl,rfl,hobj,hints,hlen⟩:=Zl4 hn hpre hwl
 refine enter_call (codeAny_mono (call w s₀ s₁ mg mb fa o pm cd doc a vs ns G Y ho (fd_plain hd) hcd hmg hobj hints hlen hg) fun r s' hq=>?_)
 obtain ⟨rfl,h2,h3,h4⟩:=hq
 exact ⟨.inl ⟨.bool true,.bool true,[],rfl,fun _=>rfl,.bool true,Zl5 l _,fun _=>⟨List.Pairwise.nil,fun _ hm=>(nomatch hm)⟩⟩,h2,h3,h4⟩
section
variable {prog:Program} {w:World} {A:Around} {E:Value → Shared → Prop} {s:Shared} {K:Frag}
end
end Att
namespace L2
open PySem PySem.Spec PyProof.Rows
theorem Zh3:∀ {vs:List Value} {ns:List Int},IntsAre vs ns → Vals (ns.map V.int) vs
 | _,_,.nil=>.nil
 | _,_,.cons n t h=>.cons ⟨t,rfl⟩ (Zh3 h)
noncomputable def Only (H:Hp):Prop:=∀ b,H b = none ∨ ∃ o xs,H b = some (.frz o (.lst xs))
theorem ZmV {P:Program} {w:World} {K:PySem.W.Frag} {mg mb:Str → Option Value} {CX:CXT} {k:Nat} {fa a:Addr} {fd:FuncData} {x:Str} {sp:Sp} {s₁:Shared} {vs:List Value} {ns:List Int}
  (KX:K.In s₁.heap) (hns:s₁.heap.Ns mainGlobals mg) (hb:s₁.heap.Ns builtinsNs mb) (hbb:∀ x:Str,x ≠ "__name__" → mb x = bootBuiltins x) (hlim:s₁.heap.NoLimit) (hg:s₁.gens = #[])
  (ha:s₁.heap.get? a = some { cls:=.type "list",data:=.seq vs.toArray }) (hi:IntsAre vs ns) (hl:ns.length ≤ sizeLine) (hr:ZbB k callerA)
  (F:∀ base:Heap,K.In base → base.Ns mainGlobals mg → Zdw P w K mg base CX k fa fd [x] sp) (hbind:∀ (s:Shared) (u:Value),BindsTo s fd ⟨[u],[]⟩ [(x,u)])
  (hsp:∀ H:Hp,Only H → SqL K H a (ns.map V.int) → sp [.ref a] H (fun v _=>v = .bl true) fun _ _ _=>False)
  (hCX:∀ H e s',CX [] H s₁ (fun _ _ _=>False) e s' → False):
  codeAny (model P w) callerA (.call (.ref fa) ⟨[.ref a],[]⟩) (fun r s'=>r = .ok (.ret (.bool true)) ∧ OldK s₁.heap s'.heap ∧ s'.os = s₁.os ∧ AllBare s'.gens) s₁:=by
 have rv:=Zh3 hi
 have lenV:=hi.length
 have core:∀ H:Hp,Only H → SqL K H a (ns.map V.int) → HOk P w H s₁.heap → (∀ b,H b ≠ none → b = a) → (H a ≠ none → K.lookup a = none) →
   codeAny (model P w) callerA (.call (.ref fa) ⟨[.ref a],[]⟩) (fun r s'=>r = .ok (.ret (.bool true)) ∧ OldK s₁.heap s'.heap ∧ s'.os = s₁.os ∧ AllBare s'.gens) s₁:=by
  intro H hO hS hok hA hK
  have base_of:∀ {b:Addr} {o:Obj},s₁.heap.get? b = some o → H b = none → (Zit s₁.heap H).get? b = some o:=fun e n=>ZmR e n
  have noA:∀ {b:Addr} {o:Obj} {es:Array DictEntry} {ep:Nat},s₁.heap.get? b = some o → o.data = .dict es ep → H b = none:=fun {b o es ep} e d=>by
   cases q:H b with
   | none=>rfl
   | some u=>
    have e':b = a:=hA b (by rw [q]; simp)
    subst e'
    rw [ha] at e; cases e
    have d':Data.seq vs.toArray _ = Data.dict es ep:=d
    cases d'
  have nsK:∀ {b:Addr} {m:Str → Option Value},s₁.heap.Ns b m → (Zit s₁.heap H).Ns b m:=fun {b m} ⟨o,es,ep,e,d,r⟩=>⟨o,es,ep,base_of e (noA e d),d,r⟩
  have hKb:K.In (Zit s₁.heap H):=fun b o e=>base_of (KX b o e) (by
   cases q:H b with
   | none=>rfl
   | some u=>
    have e':b = a:=hA b (by rw [q]; simp)
    subst e'
    rw [hK (by rw [q]; simp)] at e; cases e)
  have hM:Mod K mg (Zit s₁.heap H):=⟨hKb,nsK hns,⟨mb,nsK hb,hbb⟩,let ⟨mc,h1,h2⟩:=hlim; ⟨mc,nsK h1,h2⟩⟩
  have e0:ZhS P w K mg (Zit s₁.heap H) callerA [] s₁ H:=⟨rfl,hM,fun b o e=>ZoH e,Nat.le_of_eq (ZlT _ _),trivial,fun b hb=>absurd (show b ∈ ([]:List Addr) from hb) (by simp),hok,.of_eq hg⟩
  refine codeAny_mono ((F _ hKb (nsK hns)).run callerA [] s₁ H ⟨[.ref a],[]⟩ [.ref a] [.ref a] _ _ hr e0 (hbind s₁ (.ref a)) (.cons rfl .nil) (hsp H hO hS)) fun r s' h=>?_
  cases r with
  | error e=>exact (hCX H e s' h).elim
  | ok fl=>
   cases fl with
   | next=>exact False.elim h
   | brk=>exact False.elim h
   | cont=>exact False.elim h
   | ret u=>
    obtain ⟨v,H',os,bare,un,hok',r',q⟩:=h
    have q':v = .bl true:=q
    subst q'
    obtain rfl:u = Value.bool true:=r'
    refine ⟨rfl,OldK.of_keep fun b o e=>?_,os,bare⟩
    cases q:H b with
    | none=>exact un.keep b o e q (by intro z; exact absurd (show b ∈ ([]:List Addr) from z) (by simp)) (by simp)
    | some u=>
     rcases hO b with z | ⟨ob,xs,z⟩
     ·rw [q] at z; cases z
     ·have z2:=un.frzs b ob _ z
      obtain ⟨e1,_⟩:=hok b _ z
      obtain ⟨e2,_⟩:=hok' b _ z2
      rw [e] at e1; cases e1
      exact e2
 cases hk:K.lookup a with
 | some o=>
  have e:=KX a o hk
  rw [ha] at e
  cases e
  refine core (fun _=>none) (fun _=>.inl rfl) (.inr ⟨_,vs.toArray,_,hk,rfl,rfl,rfl,by rw [List.size_toArray,lenV]; exact hl,by simpa using rv⟩) (fun b u z=>by have z':(none:Option HO) = some u:=z; cases z') (fun b z=>absurd rfl z) fun z=>absurd rfl z
 | none=>
  refine core (fun b=>if b = a then some (.frz { cls:=.type "list",data:=.seq vs.toArray } (.lst (ns.map V.int))) else none) (fun b=>?_) (.inl (.inr ⟨{ cls:=.type "list",data:=.seq vs.toArray },if_pos rfl⟩)) (fun b u z=>?_) (fun b z=>?_) fun _=>hk
  ·by_cases hb:b = a
   ·exact .inr ⟨_,_,if_pos hb⟩
   ·exact .inl (if_neg hb)
  ·by_cases hb:b = a
   ·have z':=(if_pos hb).symm.trans z
    cases z'
    subst hb
    exact ⟨ha,by rw [List.length_map]; exact hl,vs,_,rv,ha⟩
   ·have z':=(if_neg hb).symm.trans z
    cases z'
  ·by_cases hb:b = a
   ·exact hb
   ·exact absurd (if_neg hb) z
end L2
namespace L2
open PySem PySem.Spec PyProof.Rows
theorem Zlg {l:PySem.W.OpenLaw} {n k:Nat} {q:Program} {loose:List Str} {XP:(Str → Option Value) → Heap → Prop} {YP:World → Heap → Prop} {d:DefRec} {K:Params → PySem.W.Frag} {CX:World → CXT} {sp:World → Sp} {x:Str}
  (hn:l.most = some n) (hn2:n ≤ sizeLine) (hdf:d.params.defaults = []) (hr:ZbB k callerA)
  (hY:∀ (w:World) (h:Heap),YP w h → (K w.params).In h)
  (F:∀ (w:World) (mg:Str → Option Value) (fa:Addr) (h:Heap),(K w.params).In h → h.Ns mainGlobals mg → mg d.name = some (.ref fa) →
   ∃ fd:FuncData,(∀ (s:Shared) (u:Value),BindsTo s fd ⟨[u],[]⟩ [(x,u)]) ∧
    ∀ base:Heap,(K w.params).In base → base.Ns mainGlobals mg → Zdw l.prog w (K w.params) mg base (CX w) k fa fd [x] (sp w))
  (hsp:∀ (w:World) (H:Hp) (a:Addr) (ns:List Int),ns.length ≤ n → Only H → SqL (K w.params) H a (ns.map V.int) → sp w [.ref a] H (fun v _=>v = .bl true) fun _ _ _=>False)
  (hCX:∀ (w:World) (H:Hp) (s:Shared) (e:Value) (s':Shared),CX w [] H s (fun _ _ _=>False) e s' → False):
  PySem.W.WalkO q loose XP YP l.row.toRowW d [] (fun f vs=>PySem.call f vs):=by
 refine Att.attach_call hn hdf fun w s₀ s₁ mg mb fa o pm cd doc a vs ns G Y ho hd hcd hmg hobj hints hlen hg=>?_
 have KX:=hY w _ Y
 obtain ⟨fd,hb,hF⟩:=F w mg fa _ KX G.T.g hmg
 exact ZmV KX G.T.g G.T.b G.T.builtins G.T.nolimit hg hobj hints (Nat.le_trans hlen hn2) hr hF hb (fun H hO hS=>hsp w H a ns hlen hO hS) fun H e s'=>hCX w H s₁ e s'
end L2
/- THE LAST THEOREM (shape; LID,My.* are yours):
  My.Adr: a structure of the addresses that your layer names (classes,functions); My.Txt K t: a structure (Prop) of the equations over K;
  My.txt_mk:{K} {implicit addresses ..} (e1:nsIn K mainGlobals "law" = some (some (.ref f))) (e2:K.lookup f = some ⟨oc,od,.func (fnOf "law" "law" params body scope dV kV doc pm an cdv ct),sl⟩) (e3:codeIn K cdv "law" = true) ..:∃ t,My.Txt K t
set_option maxRecDepth 100000 in
set_option maxHeartbeats 0 in
theorem PySem.Challenge.cw_LID_holds : PySem.Challenge.rw_LID.Holds := by
 w_on; o_law; k_head; (case hw=>w_witness2)
 k_fill
 refine L2.Zlg (l:=PySem.Challenge.rw_LID) (n:=63) (k:=40) (x:="script") (CX:=fun w=>..) (sp:=fun _=>My.sp_law) rfl (by decide) rfl ⟨rfl,by decide,by decide⟩ (fun w h Y=>PySem.W.kIn_of Y) ?F ?S ?C
 case F=>
  intro w mg fa h KX G hmg
  have T:∃ t,My.Txt (L2.KOf KX) t:=by
   dsimp only [L2.KOf]                          -- K must stand as «<heap const> w.params» for k_is
   refine' My.txt_mk ?e1 ?e2 ?e3 ..
   (case e1=>PySem.W.k_is)                    -- in the order: a name -> its address -> its object -> its parts
   (case e2=>PySem.W.k_is)
   ..
  obtain ⟨t,T⟩:=T
  have e0:=hmg.symm.trans (PySem.W.mg_of KX G T.law)
  cases e0                                       -- fa is the law's own address
  exact ⟨_,fun s u=>.of_eq rfl,fun base kb nb=>My.law_fn T kb nb⟩     -- if «.of_eq rfl» comes too early: refine' ⟨_,?b,fun base kb nb=>My.law_fn T kb nb⟩; exact fun s u=>.of_eq rfl
 case S=>exact fun w H a ns hl hO hS=>..
 case C=>exact ..
(the tactic k_is has no namespace: write k_is) -/
namespace L2
open PySem PySem.Spec PyProof.Rows
noncomputable def Zal (s:Stmt):Arguments:=match s with
 | .FunctionDef _ a _ _ _ _ _ _ _ _=>a
 | _=>{ posonlyargs:=[],args:=[],vararg:=none,kwonlyargs:=[],kw_defaults:=[],kwarg:=none,defaults:=[] }
noncomputable def Zah (s:Stmt):List Stmt:=match s with
 | .FunctionDef _ _ b _ _ _ _ _ _ _=>b
 | _=>[]
noncomputable def Zm (s:Stmt):Scope:=match s with
 | .FunctionDef _ _ _ _ _ _ sc _ _ _=>sc
 | _=>{ kind:=.function,names:=[],isGenerator:=false,isCoroutine:=false }
noncomputable abbrev CX0:CXT:=fun _ _ _ _ _ _=>False
noncomputable abbrev E0:XK:=fun _ _ _=>False
theorem ZkQ {X:Cx}:Zfr CX0 X E0:=fun _ _ _ _ _ _ _ h=>h.elim
structure Fun (K:PySem.W.Frag) (x qual:Str) (st:Stmt) (f:Addr) (fd:FuncData):Prop where
 ex:∃ (oc:Value) (od:Option Addr) (dV kV doc pm:Value) (an:Option Addr) (cdv ct:Value) (osl:Array (Option Value)),
  fd = PySem.W.fnOf x qual (Zal st) (Zah st) (Zm st) dV kV doc pm an cdv ct ∧ K.lookup f = some ⟨oc,od,.func fd,osl⟩ ∧ PySem.W.codeIn K cdv qual = true
 kp:PySem.W.keepIn K (.ref f) = true
section
variable {P:Program} {w:World} {K:PySem.W.Frag} {mg:Str → Option Value} {base:Heap}
theorem Fun.ok {x qual:Str} {st:Stmt} {f:Addr} {fd:FuncData} {N ps:List Str} {k:Nat} {sp:Sp} (F:Fun K x qual st f fd) (S:Zaq N ps (Zm st)) (len:∀ vs H Q E,sp vs H Q E → vs.length = ps.length)
  (hbody:∀ (cdv:Value) (A:Around) (outer:List Env) (s:Shared) (H:Hp) (vs:List V) (Q:VK) (E:XK),ZbB k (A.deeper (envOfC qual (Zm st) s.heap.objs.size f cdv)) → sp vs H Q E →
   ∃ t,PSs (ZhM CX0 P w K mg base N qual (Zm st) f cdv A outer s H E).nox (Zah st) t ∧ t { nx:=fun _ H'=>Q .non H',rt:=Q } (start N vs) H):Zdw P w K mg base CX0 (k + 1) f fd ps sp:=by
 obtain ⟨oc,od,dV,kV,doc,pm,an,cdv,ct,osl,rfl,lk,hcd⟩:=F.ex
 refine ZrF lk hcd S len fun A outer s H vs Q E hr hsp=>?_
 obtain ⟨t,h,q⟩:=hbody cdv A outer s H vs Q E hr hsp
 exact ⟨t,h.nox,q⟩
theorem Fun.binds {x qual:Str} {st:Stmt} {f:Addr} {fd:FuncData} {ps:List Str} (F:Fun K x qual st f fd)
  (h:∀ (dV kV doc pm:Value) (an:Option Addr) (cdv ct:Value) (us:List Value),us.length = ps.length → bindArgs (PySem.W.fnOf x qual (Zal st) (Zah st) (Zm st) dV kV doc pm an cdv ct) ⟨us,[]⟩ = pure (ps.zip us)):Binds K fd ps []:=by
 obtain ⟨oc,od,dV,kV,doc,pm,an,cdv,ct,osl,rfl,lk,hcd⟩:=F.ex
 exact .all (h dV kV doc pm an cdv ct)
theorem Zmk {x qual:Str} {st:Stmt} {f:Addr} {oc:Value} {od an:Option Addr} {osl:Array (Option Value)} {dV kV doc pm cdv ct:Value} (l:K.lookup f = some ⟨oc,od,.func (PySem.W.fnOf x qual (Zal st) (Zah st) (Zm st) dV kV doc pm an cdv ct),osl⟩)
  (c:PySem.W.codeIn K cdv qual = true) (k:PySem.W.keepIn K (.ref f) = true):Fun K x qual st f (PySem.W.fnOf x qual (Zal st) (Zah st) (Zm st) dV kV doc pm an cdv ct):=⟨⟨oc,od,dV,kV,doc,pm,an,cdv,ct,osl,rfl,l,c⟩,k⟩
end
section
variable {X:Cx}
end
noncomputable def Zjh (H H':Hp):Prop:=∀ b o,H b = some o → H' b = some o
theorem Zjh.trans {H H1 H2:Hp} (a:Zjh H H1) (b:Zjh H1 H2):Zjh H H2:=fun c o h=>b c o (a c o h)
theorem Zjh.free {H H':Hp} (e:Zjh H H') {l:Addr} (h:H' l = Option.none):H l = Option.none:=by
 cases q:H l with
 | none=>rfl
 | some o=>
  rw [e l o q] at h
  cases h
theorem Zjh.seq {K:PySem.W.Frag} {H H':Hp} {a:Addr} {xs:List V} (e:Zjh H H') (h:SqL K H a xs):SqL K H' a xs:=by
 rcases h with (h | ⟨o,h⟩) | h
 ·exact .inl (.inl (e _ _ h))
 ·exact .inl (.inr ⟨o,e _ _ h⟩)
 ·exact .inr h
end L2
namespace L2
open PySem PySem.Spec PyProof.Rows
section
variable {κ:Type} [DecidableEq κ]
noncomputable def Ze2 (kvs:List (κ × V)) (k:κ):Option V:=(kvs.find? fun kv=>decide (kv.1 = k)).map (·.2)
noncomputable def putK (kvs:List (κ × V)) (k:κ) (v:V):List (κ × V):=
 if (kvs.any fun kv=>decide (kv.1 = k)) = true then kvs.map (fun kv=>if kv.1 = k then (kv.1,v) else kv) else kvs ++ [(k,v)]
noncomputable def Zpd (kvs:List (κ × V)) (k:κ):List (κ × V):=kvs.filter fun kv=>decide (kv.1 ≠ k)
theorem Znb {k:κ}:Ze2 ([]:List (κ × V)) k = none:=rfl
theorem ZgR {p:κ × V} {r:List (κ × V)} {k:κ} (e:p.1 = k):Ze2 (p :: r) k = some p.2:=by simp [Ze2,List.find?_cons,e]
theorem Zhj {p:κ × V} {r:List (κ × V)} {k:κ} (e:¬ p.1 = k):Ze2 (p :: r) k = Ze2 r k:=by simp [Ze2,List.find?_cons,e]
theorem ZjI (kvs:List (κ × V)) (k:κ) (v:V):(putK kvs k v).length ≤ kvs.length + 1:=by
 unfold putK
 split
 ·rw [List.length_map]; exact Nat.le_add_right _ _
 ·rw [List.length_append,List.length_cons,List.length_nil]; exact lA 0 43162452160 T1
theorem ZfQ.getD {o:Option V} {u:Option Value} {d:V} {d':Value} (r:ZfQ o u) (rd:RelV d d'):RelV (o.getD d) (u.getD d'):=by
 cases o with
 | none=>cases u with
  | none=>exact rd
  | some _=>exact (show False from r).elim
 | some _=>cases u with
  | none=>exact (show False from r).elim
  | some _=>exact r
theorem KV.val {kvs:List (κ × V)} {vs:List (κ × Value)} (r:KV kvs vs) (k:κ):ZfQ (Ze2 kvs k) (valueAt vs k):=by
 unfold KV at r
 induction r with
 | nil=>exact True.intro
 | @cons p q ps qs h t ih=>
  obtain ⟨h1,h2⟩:=h
  by_cases e:p.1 = k
  ·have e':q.1 = k:=h1.symm.trans e
   have b:valueAt (q :: qs) k = some q.2:=by simp [valueAt,List.find?_cons,e']
   rw [ZgR e,b]; exact h2
  ·have e':¬ q.1 = k:=fun z=>e (h1.trans z)
   have b:valueAt (q :: qs) k = valueAt qs k:=by simp [valueAt,List.find?_cons,e']
   rw [Zhj e,b]; exact ih
theorem KV.any {kvs:List (κ × V)} {vs:List (κ × Value)} (r:KV kvs vs) (k:κ):(kvs.any fun kv=>decide (kv.1 = k)) = vs.any fun kv=>decide (kv.1 = k):=by
 unfold KV at r
 induction r with
 | nil=>rfl
 | cons h t ih=>rw [List.any_cons,List.any_cons,ih,h.1]
theorem KV.repl {kvs:List (κ × V)} {vs:List (κ × Value)} (r:KV kvs vs) (k:κ) {y:V} {u:Value} (ry:RelV y u):
  KV (kvs.map fun kv=>if kv.1 = k then (kv.1,y) else kv) (vs.map fun kv=>if kv.1 = k then (kv.1,u) else kv):=by
 unfold KV at r ⊢
 induction r with
 | nil=>exact .nil
 | @cons p q ps qs h t ih=>
  rw [List.map_cons,List.map_cons]
  refine .cons ?_ ih
  obtain ⟨h1,h2⟩:=h
  by_cases e:p.1 = k
  ·rw [if_pos e,if_pos (h1.symm.trans e)]; exact ⟨h1,ry⟩
  ·rw [if_neg e,if_neg (fun z=>e (h1.trans z))]; exact ⟨h1,h2⟩
theorem KV.put {kvs:List (κ × V)} {vs:List (κ × Value)} (r:KV kvs vs) (k:κ) {y:V} {u:Value} (ry:RelV y u):KV (putK kvs k y) (stored vs k u):=by
 unfold putK stored
 rw [r.any k]
 by_cases e:(vs.any fun kv=>decide (kv.1 = k)) = true
 ·rw [if_pos e,if_pos e]; exact r.repl k ry
 ·rw [if_neg e,if_neg e]; exact Paired.snoc r ⟨rfl,ry⟩
theorem KV.drop {kvs:List (κ × V)} {vs:List (κ × Value)} (r:KV kvs vs) (k:κ):KV (Zpd kvs k) (without vs k):=by
 unfold KV at r ⊢
 unfold Zpd without
 induction r with
 | nil=>exact .nil
 | @cons p q ps qs h t ih=>
  obtain ⟨h1,h2⟩:=h
  rw [List.filter_cons,List.filter_cons]
  by_cases e:p.1 = k
  ·have a:¬ decide (p.1 ≠ k) = true:=by simp [e]
   have b:¬ decide (q.1 ≠ k) = true:=by simp [h1.symm.trans e]
   rw [if_neg a,if_neg b]; exact ih
  ·have e':¬ q.1 = k:=fun z=>e (h1.trans z)
   have a:decide (p.1 ≠ k) = true:=by simp [e]
   have b:decide (q.1 ≠ k) = true:=by simp [e']
   rw [if_pos a,if_pos b]; exact .cons ⟨h1,h2⟩ ih
theorem KV.length {kvs:List (κ × V)} {vs:List (κ × Value)} (r:KV kvs vs):kvs.length = vs.length:=Paired.length r
end
theorem Zmy {P:Program} {w:World} {k:Key} {u:Value} (r:RelV (kV k) u):(ZaV P w).is k u = true:=by
 cases k with
 | inl i=>obtain ⟨t,e⟩:=(show ∃ t,u = Value.int i t from r); subst e; exact Zju P w i t
 | inr x=>obtain ⟨t,e⟩:=(show ∃ t,u = Value.str x t from r); subst e; exact Zjp P w x t
theorem ZhV {P:Program} {w:World}:∀ {ks:List Key} {us:List Value},Vals (ks.map kV) us → ItemsAre (ZaV P w) ks us
 | [],_,r=>by rw [List.map_nil] at r; cases r; exact .nil
 | k :: ks,_,r=>by
  rw [List.map_cons] at r
  cases r with
  | cons h t=>exact .cons (Zmy h) (ZhV t)
noncomputable abbrev KT (H:Hp):List (List Key × V) → List (List Key × Addr × Value) → Prop:=Paired fun p q=>p.1 = q.1 ∧ H q.2.1 = some (.tup (p.1.map kV)) ∧ RelV p.2 q.2.2
theorem KT.val {H:Hp} {kvs:List (List Key × V)} {xs:List (List Key × Addr × Value)} (r:KT H kvs xs) (k:List Key):ZfQ (Ze2 kvs k) ((atKey xs k).map (·.2)):=by
 induction r with
 | nil=>exact True.intro
 | @cons p q ps qs h t ih=>
  obtain ⟨h1,_,h2⟩:=h
  by_cases e:p.1 = k
  ·have e':q.1 = k:=h1.symm.trans e
   have b:atKey (q :: qs) k = some q.2:=by simp [atKey,List.find?_cons,e']
   rw [ZgR e,b]; exact h2
  ·have e':¬ q.1 = k:=fun z=>e (h1.trans z)
   have b:atKey (q :: qs) k = atKey qs k:=by simp [atKey,List.find?_cons,e']
   rw [Zhj e,b]; exact ih
theorem KT.keeps {H H':Hp} {kvs:List (List Key × V)} {xs:List (List Key × Addr × Value)} (r:KT H kvs xs) (ht:∀ b ys,H b = some (.tup ys) → H' b = some (.tup ys)):KT H' kvs xs:=
 Paired.mapP r fun _ _ z=>⟨z.1,ht _ _ z.2.1,z.2.2⟩
section
variable {P:Program} {w:World} {H:Hp} {h:Heap} {a:Addr}
theorem Zpg {u:HO} (ok:HOk P w H h) (e:Rd H a u):Zbj P w H h a u:=e.ok ok
theorem Zne {kvs:List (Key × V)} (ok:HOk P w H h) (e:Rd H a (.dK kvs)):kvs.length ≤ sizeLine ∧ (a == sysModules) = false ∧ ∃ vs,KV kvs vs ∧ h.DictOf (ZaV P w) a vs:=
 show Zbj P w H h a (.dK kvs) from Zpg ok e
theorem ZmZ {ks:List Key} (ok:HOk P w H h) (e:H a = some (.tup (ks.map kV))):(tupleKind (ZaV P w)).is h ks a:=by
 obtain ⟨_,its,r,o,h1,h2,n,h3⟩:=(show Zbj P w H h a (.tup (ks.map kV)) from ok a _ e)
 exact ⟨o,its.toArray,n,h1,h2.1,h3,by simpa using ZhV r⟩
theorem Zpc {kvs:List (List Key × V)} (ok:HOk P w H h) (e:Rd H a (.dT kvs)):kvs.length ≤ sizeLine ∧ (a == sysModules) = false ∧
  ∃ xs,KT H kvs xs ∧ h.DictOfH (tupleKind (ZaV P w)) a xs:=by
 obtain ⟨z,y,xs,r,o,es,ep,h1,h2,h3,h4,h5⟩:=(show Zbj P w H h a (.dT kvs) from Zpg ok e)
 refine ⟨z,y,xs,r,o,es,ep,h1,h2,h3,h4,fun x hx=>?_,h5⟩
 have all:∀ {l:List (List Key × V)} {m:List (List Key × Addr × Value)},KT H l m → ∀ x ∈ m,(tupleKind (ZaV P w)).is h x.1 x.2.1:=by
  intro l m q
  induction q with
  | nil=>intro x hx; exact nomatch hx
  | @cons p q ps qs hq t ih=>
   intro x hx
   rcases List.mem_cons.mp hx with e | hx
   ·subst e
    exact ZmZ ok (by rw [← hq.1]; exact hq.2.1)
   ·exact ih x hx
 exact all r x hx
end
noncomputable def ZlZ (H:Hp) (a:Addr) (y:V) (r:Option V):Prop:=
 (∃ kvs k,Rd H a (.dK kvs) ∧ y = kV k ∧ r = Ze2 kvs k) ∨ ∃ kvs k b,Rd H a (.dT kvs) ∧ y = .ref b ∧ H b = some (.tup (k.map kV)) ∧ r = Ze2 kvs k
noncomputable def Zoz (H:Hp) (a:Addr) (y v:V) (H':Hp):Prop:=
 (∃ kvs k,H a = some (.dK kvs) ∧ y = kV k ∧ kvs.length < sizeLine ∧ H' = upd H a (.dK (putK kvs k v))) ∨
 ∃ kvs k b,H a = some (.dT kvs) ∧ y = .ref b ∧ H b = some (.tup (k.map kV)) ∧ kvs.length < sizeLine ∧ H' = upd H a (.dT (putK kvs k v))
theorem ZlZ.k {H:Hp} {a:Addr} {kvs:List (Key × V)} {k:Key} (e:H a = some (.dK kvs)):ZlZ H a (kV k) (Ze2 kvs k):=.inl ⟨kvs,k,.inl e,rfl,rfl⟩
theorem ZlZ.t {H:Hp} {a b:Addr} {kvs:List (List Key × V)} {k:List Key} (e:H a = some (.dT kvs)) (eb:H b = some (.tup (k.map kV))):ZlZ H a (.ref b) (Ze2 kvs k):=.inr ⟨kvs,k,b,.inl e,rfl,eb,rfl⟩
theorem Zoz.k {H:Hp} {a:Addr} {kvs:List (Key × V)} {k:Key} {v:V} (e:H a = some (.dK kvs)) (hl:kvs.length < sizeLine):Zoz H a (kV k) v (upd H a (.dK (putK kvs k v))):=.inl ⟨kvs,k,e,rfl,hl,rfl⟩
theorem Zoz.t {H:Hp} {a b:Addr} {kvs:List (List Key × V)} {k:List Key} {v:V} (e:H a = some (.dT kvs)) (eb:H b = some (.tup (k.map kV))) (hl:kvs.length < sizeLine):
  Zoz H a (.ref b) v (upd H a (.dT (putK kvs k v))):=.inr ⟨kvs,k,b,e,rfl,eb,hl,rfl⟩
section
variable {X:Cx} {pins:List (Addr × Obj)} {σ:St} {H:Hp} {s:Shared} {a:Addr} {y v:V} {u r:Value} {o:Option V} {A:Around} {E:Value → Shared → Prop}
theorem Inv.big (I:Inv X pins σ H s):sysModules < s.heap.objs.size:=by
 have h:mainGlobals < s.heap.objs.size:=(I.mod.glob.keeps I.bk).lt
 exact Nat.lt_trans (by decide) h
theorem Zmw {P:Program} {w:World} {H':Hp} {h':Heap} {kvs:List (Key × V)} {vs:List (Key × Value)} (z:kvs.length ≤ sizeLine) (hd:(a == sysModules) = false) (rel:KV kvs vs) (dd:h'.DictOf (ZaV P w) a vs):
  Zbj P w H' h' a (.dK kvs):=⟨z,hd,vs,rel,dd⟩
end
section
variable {X:Cx} {pins:List (Addr × Obj)} {σ:St} {H:Hp} {s:Shared} {a:Addr} {kvs:List (Key × V)} {k:Key} {u:Value} {A:Around} {E:Value → Shared → Prop}
end
section
variable {X:Cx} {o i e value:Expr} {pos pos' tpos:Pos} {td ty tv:TE}
end
section
variable {X:Cx} {pos:Pos}
end
noncomputable def Zhm (kvs more:List (Key × V)):List (Key × V):=more.foldl (fun acc kv=>putK acc kv.1 kv.2) kvs
theorem KV.merge:∀ {more:List (Key × V)} {rs:List (Key × Value)} {kvs:List (Key × V)} {vs:List (Key × Value)},KV more rs → KV kvs vs → KV (Zhm kvs more) (merged vs rs):=by
 intro more rs kvs vs r
 unfold KV at r
 induction r generalizing kvs vs with
 | nil=>intro q; exact q
 | @cons p q ps qs h t ih=>
  intro r0
  have e:KV (putK kvs p.1 p.2) (stored vs q.1 q.2):=by
   have:=r0.put p.1 h.2
   rw [← h.1]; exact this
  exact ih e
theorem Ze6:∀ (more kvs:List (Key × V)),(Zhm kvs more).length ≤ kvs.length + more.length
 | [],kvs=>by show kvs.length ≤ kvs.length + 0; exact Nat.le_add_right _ _
 | p :: r,kvs=>by
  have h1:=Ze6 r (putK kvs p.1 p.2)
  have h2:=ZjI kvs p.1 p.2
  show (Zhm (putK kvs p.1 p.2) r).length ≤ _
  rw [List.length_cons]; exact lD 2 0xa3c1c2030c201a1c001 T1 h2 h1
structure M1 (X:Cx) (o:Expr) (m:Str) (apos:Pos) (e:Expr) (cpos:Pos):Prop where
 base:attributeBase o m X.env (eval o X.env) = eval o X.env
 few:((backTo cpos (starEach [e] X.env)).all (fun x=>!x.1) && (backToKw cpos (keywordEach [] X.env)).all (fun x=>x.1.isSome)
  && decide (([e]:List Expr).length + ([]:List Keyword).length + (if ([]:List Keyword).isEmpty then 0 else 1) < 30)) = true
 line:(apos.endLine == cpos.line) = true
 trees:backTo cpos (starEach [e] X.env) = [(false,eval e X.env)]
structure M2 (X:Cx) (o:Expr) (m:Str) (apos:Pos) (e f:Expr) (cpos:Pos):Prop where
 base:attributeBase o m X.env (eval o X.env) = eval o X.env
 few:((backTo cpos (starEach [e,f] X.env)).all (fun x=>!x.1) && (backToKw cpos (keywordEach [] X.env)).all (fun x=>x.1.isSome)
  && decide (([e,f]:List Expr).length + ([]:List Keyword).length + (if ([]:List Keyword).isEmpty then 0 else 1) < 30)) = true
 line:(apos.endLine == cpos.line) = true
 trees:backTo cpos (starEach [e,f] X.env) = [(false,eval e X.env),(false,eval f X.env)]
noncomputable def IsD (H:Hp) (a:Addr):Prop:=(∃ kvs,Rd H a (.dK kvs)) ∨ ∃ kvs,Rd H a (.dT kvs)
theorem Zpk {X:Cx} {pins:List (Addr × Obj)} {σ:St} {H:Hp} {s:Shared} {a:Addr} (I:Inv X pins σ H s) (d:IsD H a):
  s.TypeIs (.ref a) "dict" ∧ (∀ b,Value.ref a = .ref b → ∃ ob,s.heap.get? b = some ob ∧ ob.dict = none) ∧ (a == sysModules) = false:=by
 rcases d with ⟨kvs,e⟩ | ⟨kvs,e⟩
 ·obtain ⟨_,hd,vs,_,dd⟩:=Zne I.hok e
  refine ⟨dd.typeIs,fun b q=>?_,hd⟩
  cases q
  obtain ⟨ob,_,_,h1,h2,_⟩:=dd
  exact ⟨ob,h1,h2.2.1⟩
 ·obtain ⟨_,hd,xs,_,dd⟩:=Zpc I.hok e
  refine ⟨dd.typeIs,fun b q=>?_,hd⟩
  cases q
  obtain ⟨ob,_,_,h1,h2,_⟩:=dd
  exact ⟨ob,h1,h2.2.1⟩
section
variable {X:Cx} {pins:List (Addr × Obj)} {σ:St} {H:Hp} {s:Shared} {a:Addr} {y d:V} {u r:Value} {o:Option V} {A:Around} {E:Value → Shared → Prop}
theorem Zpw {Q:Value → Shared → Prop} (hu:A.units + 1 < cLine) (I:Inv X pins σ H s) (g:ZlZ H a y o) (ry:RelV y u) (rd:RelV d r) (h:∀ w' s',Inv X pins σ H s' → RelV (o.getD d) w' → Q w' s'):
  wpAny (model X.prog X.w) A (call (.builtin "dict.get") [.ref a,u,r]) Q E s:=by
 rcases g with ⟨kvs,k,e,ey,l⟩ | ⟨kvs,k,b,e,ey,eb,l⟩
 ·subst ey
  obtain ⟨z,hd,vs,rel,dd⟩:=Zne I.hok e
  refine call_meetsIn PySem.F.slot_dict_get dd.typeIs PySem.F.entry_dict_get (PySem.F.args_dict_get_3 _ _ _) (meets_dict_get_default (ZaV X.prog X.w) a (Zmy ry) hd r) ⟨_,dd.mapOf,h _ _ (I.tok _) ?_⟩
  rw [l]
  exact (rel.val k).getD rd
 ·subst ey
  cases (show u = Value.ref b from ry)
  obtain ⟨z,hd,xs,rel,dd⟩:=Zpc I.hok e
  refine call_meetsIn PySem.F.slot_dict_get dd.typeIs PySem.F.entry_dict_get (PySem.F.args_dict_get_3 _ _ _) (meetsH_dict_get_default (tupleKind (ZaV X.prog X.w)) a b hd r) ⟨tupleKind_room_in1 hu,k,xs,ZmZ I.hok eb,dd,h _ _ (I.tok _) ?_⟩
  rw [l]
  exact (rel.val k).getD rd
end
noncomputable def ZqG (td ty tx:TE):TE:=fun σ H Q=>td σ H fun x H1=>∃ a,x = .ref a ∧ IsD H1 a ∧ ty σ H1 fun y H2=>tx σ H2 fun z H3=>∃ o,ZlZ H3 a y o ∧ Q (o.getD z) H3
section
variable {X:Cx} {o e f:Expr} {apos cpos:Pos} {td ty tx:TE}
theorem Zm1 (hu:X.A.units + 1 < cLine) (ho:PE X o td) (he:PE X e ty) (hf:PE X f tx) (m:M2 X o "get" apos e f cpos):PE X (.Call (.Attribute o "get" apos) [e,f] [] cpos) (ZqG td ty tx):=by
 intro pins s σ H Q I h
 refine wpAny_Call_method m.base m.few m.line PySem.F.plainAttrs_dict PySem.F.slot_dict_get PySem.F.type_dict_get (thn (ho pins s σ H _ I h) fun u s1 zz1=>?_)
 obtain ⟨x,H1,I1,rx,a,ex,d,q1⟩:=zz1
 subst ex
 obtain rfl:u = Value.ref a:=rx
 obtain ⟨t1,t2,_⟩:=Zpk I1 d
 refine ⟨t1,t2,?_⟩
 rw [m.trees]
 refine Calls.callWith_builtin rfl (Calls.evalArgs_plain (Calls.spliced_cons (thn (he pins s1 σ H1 _ I1 q1) fun iv s2 ⟨y,H2,I2,ry,q2⟩=>
  Calls.spliced_cons (thn (hf pins s2 σ H2 _ I2 q2) fun fv s3 ⟨z,H3,I3,rz,ov,g,q3⟩=>Calls.spliced_nil ?_))))
 exact Zpw hu I3 g ry rz fun w' s4 I4 rw'=>⟨_,H3,I4,rw',q3⟩
end
section
variable {X:Cx} {pins:List (Addr × Obj)} {σ:St} {H:Hp} {s:Shared} {a:Addr} {kvs:List (Key × V)} {A:Around} {E:Value → Shared → Prop}
theorem ZnA {Q:Value → Shared → Prop} (I:Inv X pins σ H s) (e:Rd H a (.dK kvs)) (h:∀ p s',H p = none → Inv X pins σ (upd H p (.dK kvs)) s' → Q (.ref p) s'):wpAny (model X.prog X.w) A (call (.type "dict") [.ref a]) Q E s:=by
 obtain ⟨z,hd,vs,rel,dd⟩:=Zne I.hok e
 refine kt_call_dict hd dd (by rw [← rel.length]; exact z) fun h' dd' hs=>?_
 refine h _ _ (I.hok.fresh (Nat.le_refl _)) (I.laid (a:=s.heap.objs.size) (o:=.dK kvs) (t':=s.toks) (fun b q hq=>?_) (Nat.le_refl _) (Zmw z (beq_eq_false_iff_ne.mpr (Ne.symm (Nat.ne_of_lt I.big))) rel dd'))
 exact (hs.2 b (Nat.ne_of_lt (Heap.lt_size hq))).trans (Heap.get?_push_of_some _ hq)
end
section
variable {X:Cx} {pins:List (Addr × Obj)} {σ:St} {H:Hp} {s:Shared} {a:Addr} {y:V} {u:Value} {A:Around} {E:Value → Shared → Prop}
end
end L2
namespace L3
open PySem
noncomputable section
inductive D where
 | non | bl (b:Bool) | int (i:Int) | str (x:List Nat) | tup (ds:List D) | scr (ds:List D) | ref (n:Nat)
 deriving Inhabited
noncomputable abbrev Zbe:=Sum Int (List Nat)
inductive MO where
 | lst (xs:List D) | dct (kvs:List (Zbe × D)) | fdct (kvs:List (Zbe × D)) | ins (c:List Nat) (fs:List (List Nat × D))
 deriving Inhabited
noncomputable abbrev Store:=List MO
structure X3 where
 cls:List Nat
 arg:D
inductive R3 (α:Type) where
 | ok (a:α) (M:Store) | exc (x:X3) (M:Store) | bad
@[simp] noncomputable def R3.bind {α β:Type} (r:R3 α) (k:α → Store → R3 β):R3 β:=match r with
 | .ok a M=>k a M
 | .exc x M=>.exc x M
 | .bad=>.bad
noncomputable def Zax:Nat → D → Bool
 | _,.non=>true | _,.bl _=>true | _,.int _=>true | _,.str _=>true
 | n + 1,.tup ds=>ds.all (Zax n)
 | _,_=>false
noncomputable abbrev DEEP:Nat:=60
mutual
noncomputable def deq:D → D → Bool
 | .non,.non=>true
 | .bl a,.bl b=>a == b
 | .int a,.int b=>a == b
 | .str a,.str b=>a == b
 | .tup a,.tup b=>ZbV a b
 | .bl a,.int b=>(if a then 1 else 0) == b
 | .int a,.bl b=>a == (if b then 1 else 0)
 | _,_=>false
noncomputable def ZbV:List D → List D → Bool
 | [],[]=>true
 | a :: x,b :: y=>deq a b && ZbV x y
 | _,_=>false
end
mutual
noncomputable def below (n:Nat):D → Bool
 | .tup ds=>belowL n ds
 | .scr ds=>belowL n ds
 | .ref k=>k < n
 | .non=>true | .bl _=>true | .int _=>true | .str _=>true
noncomputable def belowL (n:Nat):List D → Bool
 | []=>true
 | d :: ds=>below n d && belowL n ds
end
mutual
noncomputable def same:D → D → Bool
 | .non,.non=>true
 | .bl a,.bl b=>a == b
 | .int a,.int b=>a == b
 | .str a,.str b=>a == b
 | .tup a,.tup b=>ZgP a b
 | .scr a,.scr b=>ZgP a b
 | .ref a,.ref b=>a == b
 | _,_=>false
noncomputable def ZgP:List D → List D → Bool
 | [],[]=>true
 | a :: x,b :: y=>same a b && ZgP x y
 | _,_=>false
end
mutual
theorem same_iff:∀ {a b:D},same a b = true ↔ a = b
 | .non,b=>by cases b <;> simp [same]
 | .bl a,b=>by cases b <;> simp [same]
 | .int a,b=>by cases b <;> simp [same]
 | .str a,b=>by cases b <;> simp [same]
 | .tup a,b=>by cases b <;> simp [same,ZfT (x:=a)]
 | .scr a,b=>by cases b <;> simp [same,ZfT (x:=a)]
 | .ref a,b=>by cases b <;> simp [same]
theorem ZfT:∀ {x y:List D},ZgP x y = true ↔ x = y
 | [],y=>by cases y <;> simp [ZgP]
 | a :: x,y=>by
  cases y with
  | nil=>simp [ZgP]
  | cons b y=>simp [ZgP,same_iff (a:=a),ZfT (x:=x)]
end
noncomputable instance:DecidableEq D:=fun a b=>decidable_of_iff (same a b = true) same_iff
noncomputable instance:DecidableEq MO:=fun a b=>match a,b with
 | .lst x,.lst y=>if h:x = y then isTrue (by rw [h]) else isFalse (by intro e; cases e; exact h rfl)
 | .dct x,.dct y=>if h:x = y then isTrue (by rw [h]) else isFalse (by intro e; cases e; exact h rfl)
 | .fdct x,.fdct y=>if h:x = y then isTrue (by rw [h]) else isFalse (by intro e; cases e; exact h rfl)
 | .ins c x,.ins d y=>if h:c = d ∧ x = y then isTrue (by rw [h.1,h.2]) else isFalse (by intro e; cases e; exact h ⟨rfl,rfl⟩)
 | .ins _ _,.lst _=>isFalse (by intro e; cases e)
 | .ins _ _,.dct _=>isFalse (by intro e; cases e)
 | .ins _ _,.fdct _=>isFalse (by intro e; cases e)
 | .lst _,.ins _ _=>isFalse (by intro e; cases e)
 | .dct _,.ins _ _=>isFalse (by intro e; cases e)
 | .fdct _,.ins _ _=>isFalse (by intro e; cases e)
 | .lst _,.dct _=>isFalse (by intro e; cases e)
 | .lst _,.fdct _=>isFalse (by intro e; cases e)
 | .dct _,.lst _=>isFalse (by intro e; cases e)
 | .dct _,.fdct _=>isFalse (by intro e; cases e)
 | .fdct _,.lst _=>isFalse (by intro e; cases e)
 | .fdct _,.dct _=>isFalse (by intro e; cases e)
@[simp] noncomputable abbrev SZ:Nat:=1000000
noncomputable abbrev Zau:=List (Option D)
noncomputable abbrev E3:=Zau → Store → R3 D
noncomputable abbrev EL3:=Zau → Store → R3 (List D)
noncomputable abbrev F3:=List D → Store → R3 D
inductive O3 where
 | nx (env:Zau) (M:Store) | rt (d:D) (M:Store) | bk (env:Zau) (M:Store) | ct (env:Zau) (M:Store) | exc (x:X3) (M:Store) | bad
noncomputable abbrev S3:=Zau → Store → O3
@[simp] noncomputable def Zb (i:Nat):E3:=fun env M=>match env[i]? with
 | some (some d)=>.ok d M
 | _=>.bad
@[simp] noncomputable def eC (d:D):E3:=fun _ M=>.ok d M
@[simp] noncomputable def e1 (op:D → Store → R3 D) (f:E3):E3:=fun env M=>(f env M).bind op
@[simp] noncomputable def e2 (op:D → D → Store → R3 D) (f g:E3):E3:=fun env M=>(f env M).bind fun a M1=>(g env M1).bind fun b M2=>op a b M2
@[simp] noncomputable def Zh:EL3:=fun _ M=>.ok [] M
@[simp] noncomputable def Za (f:E3) (g:EL3):EL3:=fun env M=>(f env M).bind fun a M1=>(g env M1).bind fun b M2=>.ok (a :: b) M2
@[simp] noncomputable def alloc (o:MO) (M:Store):R3 D:=.ok (.ref M.length) (M ++ [o])
section
local instance (priority:=100000) clP1 (p:Prop):Decidable p:=Classical.propDecidable p
@[simp] noncomputable def ZaY (g:EL3):E3:=fun env M=>(g env M).bind fun ds M1=>if ds.length ≤ SZ then .ok (.tup ds) M1 else .bad
end
section
local instance (priority:=100000) clP2 (p:Prop):Decidable p:=Classical.propDecidable p
@[simp] noncomputable def Zbz (g:EL3):E3:=fun env M=>(g env M).bind fun ds M1=>if ds.length ≤ SZ then alloc (.lst ds) M1 else .bad
end
@[simp] noncomputable def Zdt (f g:E3):E3:=fun env M=>(f env M).bind fun a M1=>match a with
 | .bl true=>g env M1
 | .bl false=>.ok (.bl false) M1
 | _=>.bad
@[simp] noncomputable def eOr (f g:E3):E3:=fun env M=>(f env M).bind fun a M1=>match a with
 | .bl false=>g env M1
 | .bl true=>.ok (.bl true) M1
 | _=>.bad
@[simp] noncomputable def ZcK (a:D) (M:Store):R3 D:=match a with
 | .bl b=>.ok (.bl (!b)) M
 | _=>.bad
@[simp] noncomputable def eIf (c f g:E3):E3:=fun env M=>(c env M).bind fun a M1=>match a with
 | .bl true=>f env M1
 | .bl false=>g env M1
 | _=>.bad
@[simp] noncomputable def Zae (F:F3) (g:EL3):E3:=fun env M=>(g env M).bind fun ds M1=>F ds M1
section
local instance (priority:=100000) clP3 (p:Prop):Decidable p:=Classical.propDecidable p
@[simp] noncomputable def Zak (a b:D) (M:Store):R3 D:=match a,b with
 | .int i,.int j=>.ok (.int (i + j)) M
 | .str x,.str y=>if x.length + y.length ≤ SZ then .ok (.str (x ++ y)) M else .bad
 | .tup x,.tup y=>if x.length + y.length ≤ SZ then .ok (.tup (x ++ y)) M else .bad
 | .ref n,.ref m=>match M[n]?,M[m]? with
  | some (.lst x),some (.lst y)=>if x.length + y.length ≤ SZ then alloc (.lst (x ++ y)) M else .bad
  | _,_=>.bad
 | _,_=>.bad
end
@[simp] noncomputable def ZbU (a b:D) (M:Store):R3 D:=match a,b with
 | .int i,.int j=>.ok (.int (i - j)) M
 | _,_=>.bad
section
local instance (priority:=100000) clP4 (p:Prop):Decidable p:=Classical.propDecidable p
noncomputable def ZdJ (i j:Int):Bool:=(decide (-(2 ^ 64) < i) && decide (i < 2 ^ 64)) || (decide (-(2 ^ 64) < j) && decide (j < 2 ^ 64))
end
section
local instance (priority:=100000) clP5 (p:Prop):Decidable p:=Classical.propDecidable p
@[simp] noncomputable def Zg6 (a b:D) (M:Store):R3 D:=match a,b with
 | .int i,.int j=>if ZdJ i j then .ok (.int (i * j)) M else .bad
 | .str x,.int k=>if x.length * k.toNat ≤ SZ ∧ k < 1000000 ∧ -1000000 < k then .ok (.str (List.replicate k.toNat x).flatten) M else .bad
 | .ref n,.int k=>match M[n]? with
  | some (.lst x)=>if x.length * k.toNat ≤ SZ ∧ k < 1000000 ∧ -1000000 < k then alloc (.lst (List.replicate k.toNat x).flatten) M else .bad
  | _=>.bad
 | _,_=>.bad
end
@[simp] noncomputable def Zan (a b:D) (M:Store):R3 D:=match a,b with
 | .int i,.int j=>if 0 < j then .ok (.int (i % j)) M else .bad
 | _,_=>.bad
section
local instance (priority:=100000) clP6 (p:Prop):Decidable p:=Classical.propDecidable p
@[simp] noncomputable def Zag (a b:D) (M:Store):R3 D:=match a,b with
 | .int i,.int j=>if 0 < j ∧ j < 1073741824 then .ok (.int (i / j)) M else .bad
 | _,_=>.bad
end
@[simp] noncomputable def ZcY (a b:D) (M:Store):R3 D:=match a,b with
 | .int i,.int j=>if 0 ≤ j ∧ j ≤ 1000 ∧ i.natAbs < 1000 then .ok (.int (i ^ j.toNat)) M else .bad
 | _,_=>.bad
@[simp] noncomputable def Zba (a:D) (M:Store):R3 D:=match a with
 | .int i=>.ok (.int (-i)) M
 | _=>.bad
@[simp] noncomputable def Zfv (a b:D) (M:Store):R3 D:=match a,b with
 | .int i,.int j=>.ok (.bl (decide (i < j))) M
 | _,_=>.bad
@[simp] noncomputable def ZiP (a b:D) (M:Store):R3 D:=match a,b with
 | .int i,.int j=>.ok (.bl (decide (i ≤ j))) M
 | _,_=>.bad
@[simp] noncomputable def Zey (a b:D) (M:Store):R3 D:=match a,b with
 | .int i,.int j=>.ok (.bl (decide (j < i))) M
 | _,_=>.bad
@[simp] noncomputable def ZrM (a b:D) (M:Store):R3 D:=match a,b with
 | .int i,.int j=>.ok (.bl (decide (j ≤ i))) M
 | _,_=>.bad
@[simp] noncomputable def eqD (a b:D) (M:Store):Option Bool:=match a,b with
 | .ref n,.ref m=>match M[n]?,M[m]? with
  | some (.lst x),some (.lst y)=>if x.all (Zax DEEP) && y.all (Zax DEEP) then some (ZbV x y) else none
  | _,_=>none
 | .int i,.int j=>some (decide (i = j))
 | .str x,.str y=>some (decide (x = y))
 | .bl x,.bl y=>some (decide (x = y))
 | .tup x,.tup y=>if x.all (Zax DEEP) && y.all (Zax DEEP) then some (ZbV x y) else none
 | _,_=>none
@[simp] noncomputable def ZaS (a b:D) (M:Store):R3 D:=match eqD a b M with
 | some r=>.ok (.bl r) M
 | none=>.bad
@[simp] noncomputable def ZcQ (a b:D) (M:Store):R3 D:=match eqD a b M with
 | some r=>.ok (.bl (!r)) M
 | none=>.bad
@[simp] noncomputable def ZtD (a b:D) (M:Store):R3 D:=match b with
 | .non=>.ok (.bl (decide (a = .non))) M
 | _=>.bad
@[simp] noncomputable def Zdd (a b:D) (M:Store):R3 D:=match b with
 | .non=>.ok (.bl (!decide (a = .non))) M
 | _=>.bad
noncomputable def ZaT:D → Bool
 | .non=>true | .bl _=>true | .int _=>true | .str _=>true | _=>false
@[simp] noncomputable def inD (a b:D):Option Bool:=match a,b with
 | .str [c],.str y=>some (decide (c ∈ y))
 | x,.tup ys=>if ZaT x && ys.all ZaT then some (ys.any fun y=>deq y x) else none
 | _,_=>none
@[simp] noncomputable def Zm3 (a b:D) (M:Store):R3 D:=match inD a b with
 | some r=>.ok (.bl r) M
 | none=>.bad
noncomputable def ixD (n:Nat) (i:Int):Option Nat:=if 0 ≤ i then (if i < n then some i.toNat else none) else if -(n:Int) ≤ i then some (i + n).toNat else none
noncomputable def ZaU {α:Type} (xs:List α) (i:Int):Option α:=(ixD xs.length i).bind fun j=>xs[j]?
@[simp] noncomputable def ZfS:D → Option Zbe
 | .int i=>some (.inl i)
 | .str x=>some (.inr x)
 | _=>none
noncomputable def Zcv:List (Zbe × D) → Zbe → Option D
 | [],_=>none
 | (k,v) :: r,x=>if k = x then some v else Zcv r x
section
local instance (priority:=100000) clP7 (p:Prop):Decidable p:=Classical.propDecidable p
@[simp] noncomputable def Zi (a b:D) (M:Store):R3 D:=match a,b with
 | .tup ds,.int i=>match ZaU ds i with
  | some d=>.ok d M
  | none=>.bad
 | .scr ds,.int i=>match ZaU ds i with
  | some d=>.ok d M
  | none=>.bad
 | .str x,.int i=>match ZaU x i with
  | some c=>if x.length ≤ SZ then .ok (.str [c]) M else .bad
  | none=>.bad
 | .ref n,.int i=>match M[n]? with
  | some (.lst ds)=>match ZaU ds i with
   | some d=>.ok d M
   | none=>.bad
  | _=>.bad
 | _,_=>.bad
end
@[simp] noncomputable def ZdI:Option MO → Option (List (Zbe × D))
 | some (.dct kvs)=>some kvs
 | some (.fdct kvs)=>some kvs
 | _=>none
@[simp] noncomputable def ZsG (a b:D) (M:Store):R3 D:=match a with
 | .ref n=>match ZdI M[n]?,ZfS b with
  | some kvs,some x=>match Zcv kvs x with
   | some d=>.ok d M
   | none=>.bad
  | _,_=>.bad
 | _=>.bad
noncomputable def sIx (n d:Nat):Option Int → Nat
 | none=>d
 | some v=>if v < 0 then (v + (n:Int)).toNat else min v.toNat n
noncomputable def cutD {α:Type} (xs:List α) (lo hi:Option Int):List α:=(xs.drop (sIx xs.length 0 lo)).take (sIx xs.length xs.length hi - sIx xs.length 0 lo)
noncomputable abbrev EO3:=Zau → Store → R3 (Option Int)
@[simp] noncomputable def Zb8:EO3:=fun _ M=>.ok none M
@[simp] noncomputable def Zb9 (f:E3):EO3:=fun env M=>(f env M).bind fun a M1=>match a with
 | .int i=>.ok (some i) M1
 | _=>.bad
section
local instance (priority:=100000) clP8 (p:Prop):Decidable p:=Classical.propDecidable p
@[simp] noncomputable def Zhx (a:D) (lo hi:Option Int) (M:Store):R3 D:=match a with
 | .tup ds=>.ok (.tup (cutD ds lo hi)) M
 | .scr ds=>alloc (.lst (cutD ds lo hi)) M
 | .str x=>if x.length ≤ SZ then .ok (.str (cutD x lo hi)) M else .bad
 | .ref n=>match M[n]? with
  | some (.lst ds)=>alloc (.lst (cutD ds lo hi)) M
  | _=>.bad
 | _=>.bad
end
@[simp] noncomputable def eSl (f:E3) (lo hi:EO3):E3:=fun env M=>(f env M).bind fun a M1=>(lo env M1).bind fun l M2=>(hi env M2).bind fun h M3=>Zhx a l h M3
section
local instance (priority:=100000) clP9 (p:Prop):Decidable p:=Classical.propDecidable p
@[simp] noncomputable def Zbb (ds:List D) (M:Store):R3 D:=match ds with
 | [.tup x]=>.ok (.int x.length) M
 | [.scr x]=>.ok (.int x.length) M
 | [.str x]=>if x.length ≤ SZ then .ok (.int x.length) M else .bad
 | [.ref n]=>match M[n]? with
  | some (.lst x)=>.ok (.int x.length) M
  | _=>.bad
 | _=>.bad
end
@[simp] noncomputable def Zca (ds:List D) (M:Store):R3 D:=match ds with
 | [.tup x]=>.ok (.tup x) M
 | [.scr x]=>.ok (.tup x) M
 | [.ref n]=>match M[n]? with
  | some (.lst x)=>.ok (.tup x) M
  | _=>.bad
 | _=>.bad
@[simp] noncomputable def Zgj (ds:List D) (M:Store):R3 D:=match ds with
 | [.tup x]=>alloc (.lst x) M
 | [.scr x]=>alloc (.lst x) M
 | [.ref n]=>match M[n]? with
  | some (.lst x)=>alloc (.lst x) M
  | _=>.bad
 | _=>.bad
inductive Ty3 where
 | int | bool | str | list | tuple
 deriving DecidableEq
@[simp] noncomputable def ZdU (T:Ty3) (d:D) (M:Store):Option Bool:=match d with
 | .non=>some false
 | .bl _=>some (T == .bool || T == .int)
 | .int _=>some (T == .int)
 | .str _=>some (T == .str)
 | .tup _=>some (T == .tuple)
 | .scr _=>none
 | .ref n=>match M[n]? with
  | some (.lst _)=>some (T == .list)
  | some (.dct _)=>some false
  | some (.fdct _)=>none
  | some (.ins _ _)=>none
  | none=>none
@[simp] noncomputable def Zd9 (T:Ty3) (d:D) (M:Store):R3 D:=match ZdU T d M with
 | some b=>.ok (.bl b) M
 | none=>.bad
noncomputable def isB:D → Bool
 | .bl _=>true
 | _=>false
noncomputable def isT:D → Bool
 | .bl b=>b
 | _=>false
noncomputable def allB (l:List D):Option Bool:=if l.all isB then some (l.all isT) else none
@[simp] noncomputable def Ztw (ds:List D) (M:Store):R3 D:=match ds with
 | [.ref n]=>match M[n]? with
  | some (.lst x)=>match allB x with
   | some b=>.ok (.bl b) M
   | none=>.bad
  | _=>.bad
 | _=>.bad
section
local instance (priority:=100000) clP11 (p:Prop):Decidable p:=Classical.propDecidable p
@[simp] noncomputable def ZaD (o:D) (ds:List D) (M:Store):R3 D:=match o,ds with
 | .ref n,[d]=>match M[n]? with
  | some (.lst x)=>if x.length < SZ then .ok .non (M.set n (.lst (x ++ [d]))) else .bad
  | _=>.bad
 | _,_=>.bad
end
section
local instance (priority:=100000) clPp (p:Prop):Decidable p:=Classical.propDecidable p
end
@[simp] noncomputable def tyL (a:D) (M:Store):Bool:=match a with
 | .ref n=>match M[n]? with
  | some (.lst _)=>true
  | _=>false
 | _=>false
@[simp] noncomputable def Zgs (a:D) (M:Store):Bool:=match a with
 | .ref n=>(ZdI M[n]?).isSome
 | _=>false
@[simp] noncomputable def Zbl (ty:D → Store → Bool) (m:D → List D → Store → R3 D) (o:E3) (g:EL3):E3:=fun env M=>(o env M).bind fun a M1=>if ty a M1 then (g env M1).bind fun ds M2=>m a ds M2 else .bad
@[simp] noncomputable def ZaN (b:List D → Store → R3 D) (g:EL3):E3:=fun env M=>(g env M).bind fun ds M1=>b ds M1
noncomputable def putD (k:Zbe) (v:D) (kvs:List (Zbe × D)):List (Zbe × D):=
 if (kvs.any fun p=>decide (p.1 = k)) = true then kvs.map (fun p=>if p.1 = k then (p.1,v) else p) else kvs ++ [(k,v)]
noncomputable abbrev EP3:=Zau → Store → R3 (List (Zbe × D))
@[simp] noncomputable def Zs6 (f g:E3) (r:EP3):EP3:=fun env M=>(f env M).bind fun a M1=>(g env M1).bind fun b M2=>match ZfS a with
 | some k=>(r env M2).bind fun l M3=>.ok ((k,b) :: l) M3
 | none=>.bad
noncomputable def dictOf (l:List (Zbe × D)):List (Zbe × D):=l.foldl (fun acc p=>putD p.1 p.2 acc) []
@[simp] noncomputable def e3 (op:D → D → D → Store → R3 D) (f g h:E3):E3:=fun env M=>(f env M).bind fun a M1=>(g env M1).bind fun b M2=>(h env M2).bind fun c M3=>op a b c M3
section
local instance (priority:=100000) clP12 (p:Prop):Decidable p:=Classical.propDecidable p
end
@[simp] noncomputable def Zj5 (v a b:D) (M:Store):R3 D:=match a,b with
 | .ref n,.int i=>match M[n]? with
  | some (.lst xs)=>match ixD xs.length i with
   | some j=>.ok .non (M.set n (.lst (xs.set j v)))
   | none=>.bad
  | _=>.bad
 | _,_=>.bad
@[simp] noncomputable def ZgL (o:D) (ds:List D) (M:Store):R3 D:=match o,ds with
 | .ref n,[b]=>match ZdI M[n]?,ZfS b with
  | some kvs,some k=>.ok ((Zcv kvs k).getD .non) M
  | _,_=>.bad
 | .ref n,[b,d]=>match ZdI M[n]?,ZfS b with
  | some kvs,some k=>.ok ((Zcv kvs k).getD d) M
  | _,_=>.bad
 | _,_=>.bad
noncomputable def ZcO:List D → Option (List (Zbe × D))
 | []=>some []
 | .tup [a,b] :: r=>match ZfS a with
  | some k=>(ZcO r).map fun l=>(k,b) :: l
  | none=>none
 | _ :: _=>none
section
local instance (priority:=100000) clP13 (p:Prop):Decidable p:=Classical.propDecidable p
@[simp] noncomputable def Zc7 (ds:List D) (M:Store):R3 D:=match ds with
 | [.ref n]=>match ZdI M[n]? with
  | some kvs=>alloc (.dct kvs) M
  | none=>.bad
 | [.tup x]=>match ZcO x with
  | some l=>if l.length ≤ 100000 then alloc (.dct (dictOf l)) M else .bad
  | none=>.bad
 | _=>.bad
end
@[simp] noncomputable def ZrT (ds:List D) (M:Store):R3 D:=match ds with
 | [.int i]=>.ok (.int i) M
 | [.bl b]=>.ok (.int (if b then 1 else 0)) M
 | _=>.bad
noncomputable def ltT:List D → List D → Option Bool
 | [],[]=>some false
 | [],_ :: _=>some true
 | _ :: _,[]=>some false
 | .int i :: x,.int j :: y=>if i = j then ltT x y else some (decide (i < j))
 | .str a :: x,.str b :: y=>if a = b then ltT x y else some (decide (a < b))
 | _ :: _,_ :: _=>none
noncomputable def ltD:D → D → Option Bool
 | .tup a,.tup b=>ltT a b
 | .int i,.int j=>some (decide (i < j))
 | _,_=>none
noncomputable def leD (a b:D):Prop:=ltD b a = some false
noncomputable def ZgO (x y:List D):Prop:=y.Perm x ∧ y.Pairwise leD
noncomputable def Zdf:D → Bool
 | .tup (.int _ :: _)=>true
 | _=>false
noncomputable def Zft:D → Bool
 | .int _=>true
 | _=>false
structure Zm2 (x:List D):Prop where
 len:x.length < 64
 kind:x.all Zdf = true ∨ x.all Zft = true
 cmp:∀ a ∈ x,∀ b ∈ x,(ltD a b).isSome = true
section
local instance (priority:=100000) clPs (p:Prop):Decidable p:=Classical.propDecidable p
noncomputable def ZkR (x:List D):List D:=if h:∃ y,ZgO x y then h.choose else x
@[simp] noncomputable def ZdL (ds:List D) (M:Store):R3 D:=match ds with
 | [.ref n]=>match M[n]? with
  | some (.lst x)=>if Zm2 x then alloc (.lst (ZkR x)) M else .bad
  | _=>.bad
 | _=>.bad
end
noncomputable def Zas:S3:=fun env M=>.nx env M
noncomputable def ZmW:S3:=fun _ _=>.bad
noncomputable def Zx (f g:S3):S3:=fun env M=>match f env M with
 | .nx env' M'=>g env' M'
 | o=>o
noncomputable def sIf (c:E3) (f g:S3):S3:=fun env M=>match c env M with
 | .ok (.bl true) M1=>f env M1
 | .ok (.bl false) M1=>g env M1
 | .exc x M1=>.exc x M1
 | _=>.bad
noncomputable def Zaw (f:E3):S3:=fun env M=>match f env M with
 | .ok d M1=>.rt d M1
 | .exc x M1=>.exc x M1
 | .bad=>.bad
noncomputable def ZaH (f:E3):S3:=fun env M=>match f env M with
 | .ok _ M1=>.nx env M1
 | .exc x M1=>.exc x M1
 | .bad=>.bad
noncomputable def Zaf (i:Nat) (f:E3):S3:=fun env M=>match f env M with
 | .ok d M1=>.nx (env.set i (some d)) M1
 | .exc x M1=>.exc x M1
 | .bad=>.bad
noncomputable def Zib (o i f:E3):S3:=ZaH (e3 Zj5 f o i)
noncomputable abbrev G3:=D → Zau → Option Zau
@[simp] noncomputable def ZdT (i:Nat):G3:=fun d env=>some (env.set i (some d))
@[simp] noncomputable def bindAll:List Nat → List D → Zau → Option Zau
 | [],[],env=>some env
 | i :: is,d :: ds,env=>bindAll is ds (env.set i (some d))
 | _,_,_=>none
@[simp] noncomputable def Zev (is:List Nat):G3:=fun d env=>match d with
 | .tup ds=>bindAll is ds env
 | _=>none
structure It3 where
 items:List D
 lock:Option Nat
noncomputable abbrev I3:=Zau → Store → R3 It3
section
local instance (priority:=100000) clP14 (p:Prop):Decidable p:=Classical.propDecidable p
@[simp] noncomputable def ZfV (f:E3):I3:=fun env M=>(f env M).bind fun a M1=>match a with
 | .tup ds=>.ok ⟨ds,none⟩ M1
 | .scr ds=>.ok ⟨ds,none⟩ M1
 | .str x=>if x.length ≤ SZ then .ok ⟨x.map fun c=>.str [c],none⟩ M1 else .bad
 | .ref n=>match M1[n]? with
  | some (.lst ds)=>.ok ⟨ds,some n⟩ M1
  | _=>.bad
 | _=>.bad
end
noncomputable def Zen (lo:Int) (n:Nat):List D:=(List.range n).map fun (k:Nat)=>D.int (lo + (k:Int))
section
local instance (priority:=100000) clP15 (p:Prop):Decidable p:=Classical.propDecidable p
@[simp] noncomputable def ZkW (f:E3):I3:=fun env M=>(f env M).bind fun a M1=>match a with
 | .int j=>if j ≤ 1000000 ∧ -1000000 ≤ j then .ok ⟨Zen 0 j.toNat,none⟩ M1 else .bad
 | _=>.bad
end
section
local instance (priority:=100000) clP16 (p:Prop):Decidable p:=Classical.propDecidable p
@[simp] noncomputable def ZeX (f g:E3):I3:=fun env M=>(f env M).bind fun a M1=>(g env M1).bind fun b M2=>match a,b with
 | .int i,.int j=>if (j ≤ 1000000 ∧ -1000000 ≤ j) ∧ (i ≤ 1000000 ∧ -1000000 ≤ i) then .ok ⟨Zen i (j - i).toNat,none⟩ M2 else .bad
 | _,_=>.bad
end
noncomputable def locked (it:It3) (M:Store):Bool:=match it.lock with
 | none=>true
 | some n=>decide (M[n]? = some (.lst it.items))
noncomputable def ZcV (it:It3) (g:G3) (body:S3):List D → Zau → Store → O3
 | [],env,M=>if locked it M then .nx env M else .bad
 | d :: ds,env,M=>if locked it M then match g d env with
  | none=>.bad
  | some env1=>match body env1 M with
   | .nx e M'=>ZcV it g body ds e M'
   | .ct e M'=>ZcV it g body ds e M'
   | .bk e M'=>.nx e M'
   | o=>o
  else .bad
noncomputable def Zhb (i:I3) (g:G3) (body:S3):S3:=fun env M=>match i env M with
 | .ok it M1=>ZcV it g body it.items env M1
 | .exc x M1=>.exc x M1
 | .bad=>.bad
noncomputable def ZbQ (c:E3) (body:S3):Nat → Zau → Store → O3
 | 0,_,_=>.bad
 | n + 1,env,M=>match c env M with
  | .ok (.bl true) M1=>match body env M1 with
   | .nx e M'=>ZbQ c body n e M'
   | .ct e M'=>ZbQ c body n e M'
   | .bk e M'=>.nx e M'
   | o=>o
  | .ok (.bl false) M1=>.nx env M1
  | .exc x M1=>.exc x M1
  | _=>.bad
noncomputable def Zf6 (c:E3) (body:S3):S3:=ZbQ c body 1000000
noncomputable def ZeO:List E3 → Zau → Store → R3 Bool
 | [],_,M=>.ok true M
 | c :: cs,env,M=>(c env M).bind fun a M1=>match a with
  | .bl true=>ZeO cs env M1
  | .bl false=>.ok false M1
  | _=>.bad
section
local instance (priority:=100000) clP17 (p:Prop):Decidable p:=Classical.propDecidable p
noncomputable def Zet (it:It3) (g:G3) (ifs:List E3) (elt:E3) (n:Nat):List D → Zau → Store → R3 D
 | [],_,M=>if locked it M then .ok (.ref n) M else .bad
 | d :: ds,env,M=>if locked it M then match g d env with
  | none=>.bad
  | some env1=>(ZeO ifs env1 M).bind fun b M1=>if b then (elt env1 M1).bind fun e M2=>match M2[n]? with
    | some (.lst x)=>if x.length < SZ then Zet it g ifs elt n ds env1 (M2.set n (.lst (x ++ [e]))) else .bad
    | _=>.bad
   else Zet it g ifs elt n ds env1 M1
  else .bad
end
noncomputable def eLC (i:I3) (own:Nat) (g:G3) (ifs:List E3) (elt:E3):E3:=fun env M=>(i env M).bind fun it M1=>
 Zet it g ifs elt M1.length it.items (env ++ List.replicate own none) (M1 ++ [.lst []])
noncomputable def Zfj (n:Nat):MO → Bool
 | .lst xs=>belowL n xs
 | .dct kvs=>belowL n (kvs.map (·.2))
 | .fdct kvs=>belowL n (kvs.map (·.2))
 | .ins _ fs=>belowL n (fs.map (·.2))
noncomputable def ZcU (M:Store) (d:D) (M':Store):R3 D:=
 if below M.length d && (decide (M'.take M.length = M) || (M'.take M.length).all (Zfj M.length)) then .ok d (M'.take M.length) else .ok d M'
noncomputable def mkF (ps n:Nat) (body:S3):F3:=fun ds M=>if ds.length = ps then match body (ds.map some ++ List.replicate (n - ps) none) M with
  | .nx _ M'=>ZcU M .non M'
  | .rt d M'=>ZcU M d M'
  | .exc x M'=>.exc x M'
  | _=>.bad
 else .bad
end
theorem Zhl:∀ (a b:List D),ltT a b = some true → ltT b a = some false
 | [],[],h=>by simp [ltT] at h
 | [],_ :: _,_=>by simp [ltT]
 | _ :: _,[],h=>by simp [ltT] at h
 | .int i :: x,.int j :: y,h=>by
  simp only [ltT] at h ⊢
  by_cases e:i = j
  ·subst e; simp only [if_true] at h ⊢; exact Zhl x y h
  ·rw [if_neg e] at h
   rw [if_neg (Ne.symm e)]
   simp only [Option.some.injEq,decide_eq_true_eq,decide_eq_false_iff_not] at h ⊢
   exact fun z=>iN [] [_,_] 2 25796087953 T1 z h
 | .str p :: x,.str q :: y,h=>by
  simp only [ltT] at h ⊢
  by_cases e:p = q
  ·subst e; simp only [if_true] at h ⊢; exact Zhl x y h
  ·rw [if_neg e] at h
   rw [if_neg (Ne.symm e)]
   simp only [Option.some.injEq,decide_eq_true_eq,decide_eq_false_iff_not] at h ⊢
   exact fun z=>List.lt_irrefl _ (List.lt_trans h z)
 | .non :: _,_ :: _,h=>by simp [ltT] at h
 | .bl _ :: _,_ :: _,h=>by simp [ltT] at h
 | .tup _ :: _,_ :: _,h=>by simp [ltT] at h
 | .scr _ :: _,_ :: _,h=>by simp [ltT] at h
 | .ref _ :: _,_ :: _,h=>by simp [ltT] at h
 | .int _ :: _,.non :: _,h=>by simp [ltT] at h
 | .int _ :: _,.bl _ :: _,h=>by simp [ltT] at h
 | .int _ :: _,.str _ :: _,h=>by simp [ltT] at h
 | .int _ :: _,.tup _ :: _,h=>by simp [ltT] at h
 | .int _ :: _,.scr _ :: _,h=>by simp [ltT] at h
 | .int _ :: _,.ref _ :: _,h=>by simp [ltT] at h
 | .str _ :: _,.non :: _,h=>by simp [ltT] at h
 | .str _ :: _,.bl _ :: _,h=>by simp [ltT] at h
 | .str _ :: _,.int _ :: _,h=>by simp [ltT] at h
 | .str _ :: _,.tup _ :: _,h=>by simp [ltT] at h
 | .str _ :: _,.scr _ :: _,h=>by simp [ltT] at h
 | .str _ :: _,.ref _ :: _,h=>by simp [ltT] at h
theorem ZdH {p:Prop} {b:Bool} (h:(none:Option Bool) = some b):p:=by cases h
theorem Zd1 {d e:D} {x y:List D} {r:Bool} (h:ltT (d :: x) (e :: y) = some r):(∃ i j,d = .int i ∧ e = .int j) ∨ ∃ i j,d = .str i ∧ e = .str j:=by
 cases d with
 | int i=>cases e with
  | int j=>exact .inl ⟨_,_,rfl,rfl⟩
  | _=>exact ZdH h
 | str i=>cases e with
  | str j=>exact .inr ⟨_,_,rfl,rfl⟩
  | _=>exact ZdH h
 | _=>cases e <;> exact ZdH h
theorem ZjX:∀ (a b c:List D),ltT b a = some false → ltT c b = some false → ltT c a = some false
 | [],b,c,h1,h2=>by cases c <;> simp [ltT]
 | _ :: _,[],c,h1,h2=>by simp [ltT] at h1
 | _ :: _,_ :: _,[],h1,h2=>by simp [ltT] at h2
 | d :: x,e :: y,f :: z,h1,h2=>by
  rcases Zd1 h1 with ⟨j,i,rfl,rfl⟩ | ⟨j,i,rfl,rfl⟩
  ·rcases Zd1 h2 with ⟨k,j',rfl,e⟩ | ⟨k,j',rfl,e⟩
   ·cases e
    simp only [ltT] at h1 h2 ⊢
    by_cases e1:j = i
    ·subst e1
     simp only [if_true] at h1
     by_cases e2:k = j
     ·subst e2; simp only [if_true] at h2 ⊢; exact ZjX x y z h1 h2
     ·rw [if_neg e2] at h2 ⊢; exact h2
    ·rw [if_neg e1] at h1
     by_cases e2:k = j
     ·subst e2; rw [if_neg e1]; exact h1
     ·rw [if_neg e2] at h2
      simp only [Option.some.injEq,decide_eq_false_iff_not] at h1 h2
      rw [if_neg (by exact fun z=>iN [] [_,_] 2 26047746257 T1 h1 (Int.lt_iff_le_and_ne.2 ⟨(iN [] [_,_,_] 2 1271860891809 T1 z h2),e1⟩))]
      simp only [Option.some.injEq,decide_eq_false_iff_not]; exact fun z=>iN [] [_,_,_] 3 0x612d120d11091 T1 z h2 h1
   ·cases e
  ·rcases Zd1 h2 with ⟨k,j',rfl,e⟩ | ⟨k,j',rfl,e⟩
   ·cases e
   ·cases e
    simp only [ltT] at h1 h2 ⊢
    by_cases e1:j = i
    ·subst e1
     simp only [if_true] at h1
     by_cases e2:k = j
     ·subst e2; simp only [if_true] at h2 ⊢; exact ZjX x y z h1 h2
     ·rw [if_neg e2] at h2 ⊢; exact h2
    ·rw [if_neg e1] at h1
     by_cases e2:k = j
     ·subst e2; rw [if_neg e1]; exact h1
     ·rw [if_neg e2] at h2
      simp only [Option.some.injEq,decide_eq_false_iff_not,List.not_lt] at h1 h2
      have h3:i ≤ k:=List.le_trans h1 h2
      have ne:k ≠ i:=fun z=>by subst z; exact e1 (List.le_antisymm h2 h1)
      rw [if_neg ne]
      simp only [Option.some.injEq,decide_eq_false_iff_not,List.not_lt]; exact h3
theorem ZgQ:∀ (a b:List D),ltT a b = some false → ltT b a = some false → a = b
 | [],[],_,_=>rfl
 | [],_ :: _,h,_=>by simp [ltT] at h
 | _ :: _,[],_,h=>by simp [ltT] at h
 | d :: x,e :: y,h1,h2=>by
  rcases Zd1 h1 with ⟨i,j,rfl,rfl⟩ | ⟨i,j,rfl,rfl⟩
  ·simp only [ltT] at h1 h2
   by_cases e1:i = j
   ·subst e1; simp only [if_true] at h1 h2; rw [ZgQ x y h1 h2]
   ·rw [if_neg e1] at h1
    rw [if_neg (Ne.symm e1)] at h2
    simp only [Option.some.injEq,decide_eq_false_iff_not] at h1 h2
    exact (iN [] [_,_] 2 26047746257 T1 h1 (Int.lt_iff_le_and_ne.2 ⟨(Int.not_lt.1 h2),e1⟩)).elim
  ·simp only [ltT] at h1 h2
   by_cases e1:i = j
   ·subst e1; simp only [if_true] at h1 h2; rw [ZgQ x y h1 h2]
   ·rw [if_neg e1] at h1
    rw [if_neg (Ne.symm e1)] at h2
    simp only [Option.some.injEq,decide_eq_false_iff_not,List.not_lt] at h1 h2
    exact absurd (List.le_antisymm h2 h1) e1
theorem Zjz {a b:D} (h:ltD a b = some true):ltD b a = some false:=by
 cases a with
 | int i=>cases b with
  | int j=>
   simp only [ltD,Option.some.injEq,decide_eq_true_eq,decide_eq_false_iff_not] at h ⊢; exact fun z=>iN [] [_,_] 2 25796087953 T1 z h
  | _=>exact ZdH h
 | tup x=>cases b with
  | tup y=>exact Zhl _ _ h
  | _=>exact ZdH h
 | _=>exact ZdH h
theorem Zqs {a b c:D} (h1:ltD b a = some false) (h2:ltD c b = some false):ltD c a = some false:=by
 cases b with
 | int j=>cases a with
  | int i=>cases c with
   | int k=>
    simp only [ltD,Option.some.injEq,decide_eq_false_iff_not] at h1 h2 ⊢; exact fun z=>iN [] [_,_,_] 3 0x612d120d11091 T1 z h2 h1
   | _=>exact ZdH h2
  | _=>exact ZdH h1
 | tup y=>cases a with
  | tup x=>cases c with
   | tup z=>exact ZjX _ _ _ h1 h2
   | _=>exact ZdH h2
  | _=>exact ZdH h1
 | _=>exact ZdH h1
theorem ZmE {a b:D} (h1:ltD a b = some false) (h2:ltD b a = some false):a = b:=by
 cases a with
 | int i=>cases b with
  | int j=>
   simp only [ltD,Option.some.injEq,decide_eq_false_iff_not] at h1 h2; rw [show i = j by exact Int.le_antisymm (Int.not_lt.1 h2) (Int.not_lt.1 h1)]
  | _=>exact ZdH h1
 | tup x=>cases b with
  | tup y=>rw [ZgQ _ _ h1 h2]
  | _=>exact ZdH h1
 | _=>exact ZdH h1
theorem Zh6:∀ {x y:List D},y.Perm x → x.Pairwise leD → y.Pairwise leD → y = x
 | [],y,p,_,_=>p.eq_nil
 | a :: x,y,p,hx,hy=>by
  cases y with
  | nil=>exact (p.symm.eq_nil).symm ▸ rfl
  | cons b y=>
   have hx':=List.pairwise_cons.mp hx
   have hy':=List.pairwise_cons.mp hy
   have e:b = a:=by
    rcases List.mem_cons.mp (p.mem_iff.mp List.mem_cons_self) with h | h
    ·exact h
    ·rcases List.mem_cons.mp (p.mem_iff.mpr (List.mem_cons_self (a:=a) (l:=x))) with h' | h'
     ·exact h'.symm
     ·exact ZmE (hx'.1 b h) (hy'.1 a h')
   subst e
   rw [Zh6 (List.Perm.cons_inv p) hx'.2 hy'.2]
theorem Zjk {x y:List D} (h:ZgO x y):ZkR x = y:=by
 unfold ZkR
 rw [dif_pos ⟨y,h⟩]
 have hc:=Exists.choose_spec (⟨y,h⟩:∃ y,ZgO x y)
 exact Zh6 (hc.1.trans h.1.symm) h.2 hc.2
end L3
namespace L3
theorem ZjN {it:It3} {g:G3} {body:S3} {P:Nat → Zau → Store → Prop}:∀ (ds:List D) (j:Nat) (env:Zau) (M:Store),P j env M → (∀ j env M,P j env M → locked it M = true) →
  (∀ (k:Nat) d,ds[k]? = some d → ∀ env M,P (j + k) env M → ∃ env1 e' M',g d env = some env1 ∧ body env1 M = .nx e' M' ∧ P (j + k + 1) e' M') → ∃ e' M',ZcV it g body ds env M = .nx e' M' ∧ P (j + ds.length) e' M':=by
 intro ds
 induction ds with
 | nil=>intro j env M p hl _; exact ⟨env,M,by simp only [ZcV,hl j env M p,if_true],p⟩
 | cons d ds ih=>
  intro j env M p hl hs
  obtain ⟨env1,e',M',h1,h2,p'⟩:=hs 0 d rfl env M p
  obtain ⟨e2,M2,h3,p2⟩:=ih (j + 1) e' M' p' hl fun k d' hd' env M p=>by
   have:=hs (k + 1) d' (by simpa using hd') env M (by rw [show j + (k + 1) = j + 1 + k by exact Nat.le_antisymm (lB 0 1790139547840 T1) (lB 0 0xa1c0c1a0cc0 T1)]; exact p)
   rw [show j + (k + 1) + 1 = j + 1 + k + 1 by exact Nat.le_antisymm (lB 0 0xa1a0cccaa1c0cc0 T1) (lB 0 0xaa1c0cca1a0ccc0 T1)] at this
   exact this
  exact ⟨e2,M2,by simp only [ZcV,hl j env M p,if_true,h1,h2,h3],by rw [List.length_cons,show j + (ds.length + 1) = j + 1 + ds.length by exact Nat.le_antisymm (lB 0 1790139547840 T1) (lB 0 0xa1c0c1a0cc0 T1)]; exact p2⟩
theorem Zf {f g:S3} {env env':Zau} {M M':Store} (h:f env M = .nx env' M'):Zx f g env M = g env' M':=by rw [Zx,h]
theorem Zdz {f g:S3} {env:Zau} {M M':Store} {d:D} (h:f env M = .rt d M'):Zx f g env M = .rt d M':=by rw [Zx,h]
theorem ZaR {c:E3} {f g:S3} {env:Zau} {M M':Store} (h:c env M = .ok (.bl true) M'):sIf c f g env M = f env M':=by rw [sIf,h]
theorem Zb7 {c:E3} {f g:S3} {env:Zau} {M M':Store} (h:c env M = .ok (.bl false) M'):sIf c f g env M = g env M':=by rw [sIf,h]
theorem ZaC {f:E3} {env:Zau} {M M':Store} {d:D} (h:f env M = .ok d M'):Zaw f env M = .rt d M':=by rw [Zaw,h]
theorem Zr {f:E3} {i:Nat} {env env':Zau} {M M':Store} {d:D} (h:f env M = .ok d M') (he:env.set i (some d) = env':=by first | (dsimp only [List.set_cons_succ,List.set_cons_zero] <;> exact rfl) | exact rfl):Zaf i f env M = .nx env' M':=by rw [Zaf,h]; simp only [he]
theorem Zj {c:E3} {f:S3} {env:Zau} {M M':Store} (h:c env M = .ok (.bl false) M'):sIf c f Zas env M = .nx env M':=by rw [sIf,h]; rfl
theorem ZcC {f:E3} {env:Zau} {M M':Store} {d:D} (h:f env M = .ok d M'):ZaH f env M = .nx env M':=by rw [ZaH,h]
theorem ZgC {i:I3} {g:G3} {u:S3} {env:Zau} {M M':Store} {it:It3} (h:i env M = .ok it M'):Zhb i g u env M = ZcV it g u it.items env M':=by rw [Zhb,h]
theorem ZqE {i:I3} {own:Nat} {g:G3} {ts:List E3} {f:E3} {env:Zau} {M M':Store} {it:It3} (h:i env M = .ok it M'):eLC i own g ts f env M = Zet it g ts f M'.length it.items (env ++ List.replicate own none) (M' ++ [.lst []]):=by rw [eLC,h]; rfl
theorem Zck {ps n:Nat} {body:S3} {ds:List D} {env:Zau} {M M':Store} {d:D} (h:body env M = .rt d M') (hl:ds.length = ps:=by rfl) (he:ds.map some ++ List.replicate (n - ps) none = env:=by rfl):mkF ps n body ds M = ZcU M d M':=by rw [mkF,if_pos hl,he,h]
theorem Zp2 {ps n:Nat} {body:S3} {ds:List D} {env env':Zau} {M M':Store} (h:body env M = .nx env' M') (hl:ds.length = ps:=by rfl) (he:ds.map some ++ List.replicate (n - ps) none = env:=by rfl):mkF ps n body ds M = ZcU M .non M':=by rw [mkF,if_pos hl,he,h]
theorem Znd {M G:Store} {d:D} (h:below M.length d = true):ZcU M d (M ++ G) = .ok d M:=by
 simp [ZcU,h]
end L3
namespace L3
theorem ZaB {α:Type} (M:List α) (x:α) (xs:List α):(M ++ x :: xs)[M.length]? = some x:=by simp
theorem ZiF {α:Type} (M xs:List α) (k:Nat):(M ++ xs)[M.length + k]? = xs[k]?:=by
 rw [List.getElem?_append_right (Nat.le_add_right _ _)]; congr 1; exact Nat.le_antisymm (lC 1 2199589555233 T1 (Nat.sub_add_cancel (Nat.le_add_right _ _))) (lC 1 2267788938241 T1 (sbA _ _))
theorem ZgD {α:Type} (M xs:List α) (k:Nat) (o:α):(M ++ xs).set (M.length + k) o = M ++ xs.set k o:=by
 rw [List.set_append_right _ _ (Nat.le_add_right _ _)]; congr 2; exact Nat.le_antisymm (lC 1 2199589555233 T1 (Nat.sub_add_cancel (Nat.le_add_right _ _))) (lC 1 2267788938241 T1 (sbA _ _))
theorem ZaI {α:Type} {M:List α} {n:Nat} {o:α} (h:M[n]? = some o) (xs:List α):(M ++ xs)[n]? = some o:=by
 rw [List.getElem?_append_left (List.getElem?_eq_some_iff.mp h).1,h]
theorem ZbT {α:Type} (xs:List α) (k:Nat):ZaU xs (k:Int) = xs[k]?:=by
 unfold ZaU ixD
 rw [if_pos (Int.natCast_nonneg k)]
 by_cases h:k < xs.length
 ·rw [if_pos (Int.ofNat_lt.2 h)]; simp
 ·rw [if_neg (by exact fun z=>iN [_,_] [] 2 6667149772945 T1 z h)]; simp at h ⊢; exact h
@[simp] theorem Zdi {α:Type} (xs:List α) (k:Nat):ZaU xs (k:Int) = xs[k]?:=ZbT xs k
@[simp] theorem Zrx {α:Type} (xs:List α) (n:Nat):ZaU xs (no_index (OfNat.ofNat n:Int)) = xs[(OfNat.ofNat n:Nat)]?:=ZbT xs n
@[simp] theorem ZqO {α:Type} (xs:List α):ZaU xs (-1) = xs.getLast?:=by
 unfold ZaU ixD
 rw [if_neg (by decide),List.getLast?_eq_getElem?]
 by_cases h:0 < xs.length
 ·rw [if_pos (by exact iN [_] [] 1 725993655825 T1 h)]
  simp only [Option.bind_some]
  congr 1; exact Nat.le_antisymm (iN [_,_,_] [] 2 0x200a2c10118a9c08a1 T1 (Int.toNat_of_nonneg (iN [_] [] 1 595337940497 T1 h)) (sbA _ _)) (iN [_,_,_] [] 2 0x1200a2c211808a9c81 T1 (Int.self_le_toNat _) (Nat.sub_add_cancel (lA 1 10489361 T1 h)))
 ·have:xs = []:=by simpa using h
  subst this; rfl
theorem ZkL (n k:Nat):ixD n (k:Int) = if k < n then some k else none:=by
 unfold ixD
 rw [if_pos (Int.natCast_nonneg k)]
 by_cases h:k < n
 ·rw [if_pos (Int.ofNat_lt.2 h),if_pos h]; simp
 ·rw [if_neg (by exact fun z=>iN [_,_] [] 2 6667149772945 T1 z h),if_neg h]
@[simp] theorem Zq1 (n k:Nat):ixD n (k:Int) = if k < n then some k else none:=ZkL n k
@[simp] theorem Zsk (m n:Nat):ixD m (no_index (OfNat.ofNat n:Int)) = if (OfNat.ofNat n:Nat) < m then some (OfNat.ofNat n:Nat) else none:=ZkL m n
theorem getD_last {α:Type} (xs:List α) (x:α):ZaU (xs ++ [x]) (-1) = some x:=by
 unfold ZaU ixD
 rw [if_neg (by decide),if_pos (by simp; exact iN [_] [] 0 10521768 T1)]
 have:(-1 + ((xs ++ [x]).length:Int)).toNat = xs.length:=by simp; exact Nat.le_antisymm (iN [_,_] [] 1 4514701222086817 T1 (Int.toNat_of_nonneg (iN [_] [] 0 43097169128 T1))) (iN [_,_] [] 1 4505291991981185 T1 (Int.self_le_toNat _))
 simp only [Option.bind_some,this]
 simp
inductive Row where
 | put (a:Nat) (n:Int) | add (a b c:Nat) | sub (a b c:Nat) | more (a b c:Nat) | get (a b:Nat) | set (a b:Nat) | jump (k:Nat) | when (a k:Nat) | tell (a:Nat) | halt
 deriving Inhabited
noncomputable def Zw:Row → D
 | .put a n=>.tup [.str [112,117,116],.int a,.int n]
 | .add a b c=>.tup [.str [97,100,100],.int a,.int b,.int c]
 | .sub a b c=>.tup [.str [115,117,98],.int a,.int b,.int c]
 | .more a b c=>.tup [.str [109,111,114,101],.int a,.int b,.int c]
 | .get a b=>.tup [.str [103,101,116],.int a,.int b]
 | .set a b=>.tup [.str [115,101,116],.int a,.int b]
 | .jump k=>.tup [.str [106,117,109,112],.int k]
 | .when a k=>.tup [.str [119,104,101,110],.int a,.int k]
 | .tell a=>.tup [.str [116,101,108,108],.int a]
 | .halt=>.tup [.str [104,97,108,116]]
noncomputable def Row.ok (many:Nat):Row → Prop
 | .put a _=>a < 8
 | .add a b c=>a < 8 ∧ b < 8 ∧ c < 8
 | .sub a b c=>a < 8 ∧ b < 8 ∧ c < 8
 | .more a b c=>a < 8 ∧ b < 8 ∧ c < 8
 | .get a b=>a < 8 ∧ b < 8
 | .set a b=>a < 8 ∧ b < 8
 | .jump k=>k < many
 | .when a k=>a < 8 ∧ k < many
 | .tell a=>a < 8
 | .halt=>True
noncomputable abbrev ZbH:=List Row
noncomputable def Zu (r:ZbH):D:=.tup (r.map Zw)
structure Zc6 (r:ZbH):Prop where
 rows:∀ x ∈ r,x.ok r.length
 last:∃ q x,r = q ++ [x] ∧ (x = .halt ∨ ∃ k,x = .jump k)
structure Stt where
 place:Nat
 boxes:List Int
 cells:List (Int × Int)
 deriving Inhabited,DecidableEq
noncomputable def Zo (bs:List Int):D:=.tup (bs.map D.int)
noncomputable def Zac (c:Int × Int):D:=.tup [.int c.1,.int c.2]
noncomputable def Zv (cs:List (Int × Int)):D:=.tup (cs.map Zac)
noncomputable def Zc (s:Stt):D:=.tup [.int s.place,Zo s.boxes,Zv s.cells]
noncomputable def Stt.ok (r:ZbH) (s:Stt):Prop:=s.place < r.length ∧ s.boxes.length = 8
noncomputable def Row.tells (bs:List Int):Row → Option Int
 | .tell a=>bs[a]?
 | _=>none
noncomputable def Row.isHalt:Row → Bool
 | .halt=>true
 | _=>false
@[simp] theorem ZqV {a:Nat} {n:Int} {bs:List Int}:(Row.put a n).tells bs = none:=rfl
@[simp] theorem Zpo {a:Nat} {n:Int}:(Row.put a n).isHalt = false:=rfl
@[simp] theorem ZqU {a:Nat} {b:Nat} {c:Nat} {bs:List Int}:(Row.add a b c).tells bs = none:=rfl
@[simp] theorem Zqk {a:Nat} {b:Nat} {c:Nat}:(Row.add a b c).isHalt = false:=rfl
@[simp] theorem ZqR {a:Nat} {b:Nat} {c:Nat} {bs:List Int}:(Row.sub a b c).tells bs = none:=rfl
@[simp] theorem Zp0 {a:Nat} {b:Nat} {c:Nat}:(Row.sub a b c).isHalt = false:=rfl
@[simp] theorem Zqc {a:Nat} {b:Nat} {c:Nat} {bs:List Int}:(Row.more a b c).tells bs = none:=rfl
@[simp] theorem Zo0 {a:Nat} {b:Nat} {c:Nat}:(Row.more a b c).isHalt = false:=rfl
@[simp] theorem ZqP {a:Nat} {b:Nat} {bs:List Int}:(Row.get a b).tells bs = none:=rfl
@[simp] theorem Zpy {a:Nat} {b:Nat}:(Row.get a b).isHalt = false:=rfl
@[simp] theorem ZqX {a:Nat} {b:Nat} {bs:List Int}:(Row.set a b).tells bs = none:=rfl
@[simp] theorem ZqF {a:Nat} {b:Nat}:(Row.set a b).isHalt = false:=rfl
@[simp] theorem ZpD {k:Nat} {bs:List Int}:(Row.jump k).tells bs = none:=rfl
@[simp] theorem Zo4 {k:Nat}:(Row.jump k).isHalt = false:=rfl
@[simp] theorem Zpq {a:Nat} {k:Nat} {bs:List Int}:(Row.when a k).tells bs = none:=rfl
@[simp] theorem ZoW {a:Nat} {k:Nat}:(Row.when a k).isHalt = false:=rfl
@[simp] theorem Zp5 {a:Nat} {bs:List Int}:(Row.tell a).tells bs = bs[a]?:=rfl
@[simp] theorem Zpb {a:Nat}:(Row.tell a).isHalt = false:=rfl
@[simp] theorem ZpR  {bs:List Int}:(Row.halt).tells bs = none:=rfl
@[simp] theorem ZoS :(Row.halt).isHalt = true:=rfl
noncomputable def Zfm (r:ZbH) (s:Stt):Bool:=match r[s.place]? with
 | some x=>x.isHalt
 | none=>false
theorem ZeJ (n:Nat) (i:Int):Zax n (.int i) = true:=by cases n <;> rfl
theorem Zf8 (n:Nat) (bs:List Int):Zax (n + 1) (Zo bs) = true:=by simp [Zo,Zax,ZeJ]
theorem Zfq (n:Nat) (cs:List (Int × Int)):Zax (n + 2) (Zv cs) = true:=by simp [Zv,Zac,Zax,ZeJ]
theorem ZkD (n:Nat) (s:Stt):Zax (n + 3) (Zc s) = true:=by simp [Zc,Zax,ZeJ,Zf8,Zfq]
theorem ZjB (ss:List Stt):(ss.map Zc).all (Zax DEEP) = true:=by
 simp only [List.all_map,List.all_eq_true]
 intro s _
 exact ZkD 57 s
mutual
theorem ZlS:∀ (n:Nat) (d:D),Zax n d = true → deq d d = true
 | _,.non,_=>rfl
 | _,.bl _,_=>by simp [deq]
 | _,.int _,_=>by simp [deq]
 | _,.str _,_=>by simp [deq]
 | 0,.tup _,h=>by simp [Zax] at h
 | n + 1,.tup ds,h=>by simp only [deq]; exact Zfi n ds (by simpa [Zax] using h)
 | _,.scr _,h=>by simp [Zax] at h
 | _,.ref _,h=>by simp [Zax] at h
theorem Zfi:∀ (n:Nat) (ds:List D),(∀ d ∈ ds,Zax n d = true) → ZbV ds ds = true
 | _,[],_=>rfl
 | n,d :: ds,h=>by
  simp only [ZbV,Bool.and_eq_true]
  exact ⟨ZlS n d (h d List.mem_cons_self),Zfi n ds fun x hx=>h x (List.mem_cons_of_mem _ hx)⟩
end
theorem ZlY {ds:List D} (h:ds.all (Zax DEEP) = true):ZbV ds ds = true:=Zfi DEEP ds (by simpa using h)
end L3
namespace L3
noncomputable def Rt (o:O3) (d:D):Prop:=∃ M',o = .rt d M'
theorem Rt.set {i:Nat} {f:E3} {g:S3} {env env':Zau} {M M':Store} {d r:D} (h:f env M = .ok d M') (k:Rt (g env' M') r) (he:env.set i (some d) = env':=by first | (dsimp only [List.set_cons_succ,List.set_cons_zero] <;> exact rfl) | exact rfl):Rt (Zx (Zaf i f) g env M) r:=by
 rw [Rt,Zf (Zr h he)]; exact k
theorem Rt.expr {f:E3} {g:S3} {env:Zau} {M M':Store} {d r:D} (h:f env M = .ok d M') (k:Rt (g env M') r):Rt (Zx (ZaH f) g env M) r:=by
 rw [Rt,Zf (ZcC h)]; exact k
theorem Rt.skip {c:E3} {u g:S3} {env:Zau} {M M':Store} {r:D} (h:c env M = .ok (.bl false) M') (k:Rt (g env M') r):Rt (Zx (sIf c u Zas) g env M) r:=by
 rw [Rt,Zf (Zj h)]; exact k
theorem Rt.loop {i:I3} {t:G3} {u g:S3} {env env':Zau} {M M' M1:Store} {it:It3} {r:D} (h:i env M = .ok it M1) (hl:ZcV it t u it.items env M1 = .nx env' M') (k:Rt (g env' M') r):Rt (Zx (Zhb i t u) g env M) r:=by
 rw [Rt,Zf ((ZgC h).trans hl)]; exact k
theorem Rt.ret {f:E3} {env:Zau} {M M':Store} {d:D} (h:f env M = .ok d M'):Rt (Zaw f env M) d:=⟨M',ZaC h⟩
theorem Rt.law {ps n:Nat} {body:S3} {ds:List D} {env:Zau} {b:Bool} (h:Rt (body env []) (.bl b)) (hl:ds.length = ps:=by rfl) (he:ds.map some ++ List.replicate (n - ps) none = env:=by rfl):∃ M',mkF ps n body ds [] = .ok (.bl b) M':=by
 obtain ⟨M',h⟩:=h
 exact ⟨_,(Zck h hl he).trans (by rw [ZcU,if_pos (by simp [below])])⟩
theorem Rt.pure {ps n:Nat} {body:S3} {ds:List D} {env:Zau} {M G:Store} {d:D} (h:body env M = .rt d (M ++ G)) (hd:below M.length d = true) (hl:ds.length = ps:=by rfl) (he:ds.map some ++ List.replicate (n - ps) none = env:=by rfl):mkF ps n body ds M = .ok d M:=
 (Zck h hl he).trans (Znd hd)
theorem Zlb {n:Nat} {lo:Int} {j:Nat} {d:D} (h:(Zen lo n)[j]? = some d):d = .int (lo + j) ∧ j < n:=by
 unfold Zen at h
 rw [List.getElem?_map] at h
 cases q:(List.range n)[j]? with
 | none=>rw [q] at h; cases h
 | some k=>
  rw [q] at h
  obtain ⟨hi,e⟩:=List.getElem?_eq_some_iff.mp q
  rw [List.getElem_range] at e
  subst e
  simp at h hi
  exact ⟨h.symm,hi⟩
theorem Znw {n:Nat} {j:Nat} {d:D} (h:(Zen 0 n)[j]? = some d):d = .int (j:Int) ∧ j < n:=by
 obtain ⟨e,l⟩:=Zlb h
 exact ⟨by rw [e,Int.zero_add],l⟩
theorem ZkH (lo:Int) (n:Nat):(Zen lo n).length = n:=by simp [Zen]
end L3
namespace L3
theorem ZeW {o arg:E3} {env:Zau} {M M2:Store} {n:Nat} {xs ys:List D} {d:D} (ho:o env M = .ok (.ref n) M) (hM:M[n]? = some (.lst xs)) (ha:arg env M = .ok d M2) (hM2:M2[n]? = some (.lst ys)) (hz:ys.length < 1000000):
  Zbl tyL ZaD o (Za arg Zh) env M = .ok .non (M2.set n (.lst (ys ++ [d]))):=by
 simp [ho,hM,ha,hM2,hz]
theorem Zoq {M:Store} {n m:Nat} {xs:List D} (h1:M[n]? = some (.lst xs)) (h2:M[m]? = some (.lst xs)) (hp:xs.all (Zax DEEP) = true):ZcQ (.ref n) (.ref m) M = .ok (.bl false) M:=by
 simp only [ZcQ,eqD,h1,h2,hp,Bool.and_self,if_true,ZlY hp,Bool.not_true]
theorem Zt {op:D → D → Store → R3 D} {f g:E3} {env:Zau} {M M1 M2 M3:Store} {a b d:D} (h1:f env M = .ok a M1) (h2:g env M1 = .ok b M2) (h3:op a b M2 = .ok d M3):e2 op f g env M = .ok d M3:=by
 simp only [e2,h1,h2,h3,R3.bind]
theorem Zc5 {F:F3} {f:E3} {env:Zau} {M M1 M2:Store} {a d:D} (h1:f env M = .ok a M1) (h2:F [a] M1 = .ok d M2):Zae F (Za f Zh) env M = .ok d M2:=by
 simp only [Zae,Za,Zh,h1,h2,R3.bind]
theorem ZdS {F:F3} {f g:E3} {env:Zau} {M M1 M2 M3:Store} {a b d:D} (h1:f env M = .ok a M1) (h2:g env M1 = .ok b M2) (h3:F [a,b] M2 = .ok d M3):Zae F (Za f (Za g Zh)) env M = .ok d M3:=by
 simp only [Zae,Za,Zh,h1,h2,h3,R3.bind]
theorem ZcB {F:F3} {f g h:E3} {env:Zau} {M M1 M2 M3 M4:Store} {a b c d:D} (h1:f env M = .ok a M1) (h2:g env M1 = .ok b M2) (h3:h env M2 = .ok c M3) (h4:F [a,b,c] M3 = .ok d M4):Zae F (Za f (Za g (Za h Zh))) env M = .ok d M4:=by
 simp only [Zae,Za,Zh,h1,h2,h3,h4,R3.bind]
@[simp] theorem ZsT (a b:Ty3):(a == b) = decide (a = b):=by cases a <;> cases b <;> rfl
theorem ZpH {F:F3} {f g h k:E3} {env:Zau} {M M1 M2 M3 M4 M5:Store} {a b c d e:D} (h1:f env M = .ok a M1) (h2:g env M1 = .ok b M2) (h3:h env M2 = .ok c M3) (h4:k env M3 = .ok d M4) (h5:F [a,b,c,d] M4 = .ok e M5):Zae F (Za f (Za g (Za h (Za k Zh)))) env M = .ok e M5:=by
 simp only [Zae,Za,Zh,h1,h2,h3,h4,h5,R3.bind]
theorem ZcX {b:List D → Store → R3 D} {f:E3} {env:Zau} {M M1 M2:Store} {a d:D} (h1:f env M = .ok a M1) (h2:b [a] M1 = .ok d M2):ZaN b (Za f Zh) env M = .ok d M2:=by
 simp only [ZaN,Za,Zh,h1,h2,R3.bind]
theorem ZjR {op:D → Store → R3 D} {f:E3} {env:Zau} {M M1 M2:Store} {a d:D} (h1:f env M = .ok a M1) (h2:op a M1 = .ok d M2):e1 op f env M = .ok d M2:=by
 simp only [e1,h1,h2,R3.bind]
theorem Zaj {f:E3} {g:EL3} {env:Zau} {M M1 M2:Store} {d:D} {ds:List D} (h1:f env M = .ok d M1) (h2:g env M1 = .ok ds M2):Za f g env M = .ok (d :: ds) M2:=by
 simp only [Za,h1,h2,R3.bind]
theorem Za6 {g:EL3} {env:Zau} {M M':Store} {ds:List D} (h:g env M = .ok ds M') (hl:decide (ds.length ≤ 100) = true):ZaY g env M = .ok (.tup ds) M':=by
 have:=of_decide_eq_true hl
 simp only [ZaY,h,R3.bind]
 rw [if_pos (Nat.le_trans this (by decide))]
theorem Zeb {n:Nat} {M:Store} {xs:List D} (h:M[n]? = some (.lst xs)):Zbb [.ref n] M = .ok (.int (xs.length:Int)) M:=by simp only [Zbb,h]
theorem Zk1 {n:Nat} {M:Store} {xs:List D} (h:M[n]? = some (.lst xs)):Zca [.ref n] M = .ok (.tup xs) M:=by simp only [Zca,h]
theorem Zcg {n:Nat} {M:Store} {xs:List D} {i:Int} {d:D} (h:M[n]? = some (.lst xs)) (hd:ZaU xs i = some d):Zi (.ref n) (.int i) M = .ok d M:=by simp only [Zi,h,hd]
theorem ZeZ {M:Store} {xs:List D} {i:Int} {d:D} (hd:ZaU xs i = some d):Zi (.tup xs) (.int i) M = .ok d M:=by simp only [Zi,hd]
theorem Zrf {a b:Int} {M:Store} (h:a = b):ZaS (.int a) (.int b) M = .ok (.bl true) M:=by simp only [ZaS,eqD,decide_eq_true h]
theorem Zr2 {a b:Int} {M:Store} (h:¬ a = b):ZaS (.int a) (.int b) M = .ok (.bl false) M:=by simp only [ZaS,eqD,decide_eq_false h]
theorem ZbP {i j:Int} {M:Store} (h:0 < j):Zan (.int i) (.int j) M = .ok (.int (i % j)) M:=by simp only [Zan,if_pos h]
theorem Zg8 {f g:E3} {env:Zau} {M M1:Store} (h1:f env M = .ok (.bl false) M1):eOr f g env M = g env M1:=by simp only [eOr,h1,R3.bind]
theorem ZgT {f g:E3} {env:Zau} {M M1:Store} (h1:f env M = .ok (.bl true) M1):Zdt f g env M = g env M1:=by simp only [Zdt,h1,R3.bind]
theorem Zkt {f g:E3} {env:Zau} {M M1:Store} (h1:f env M = .ok (.bl false) M1):Zdt f g env M = .ok (.bl false) M1:=by simp only [Zdt,h1,R3.bind]
end L3
namespace L3
noncomputable def Zc3 (t:List (Int × Int)):List (Zbe × D):=t.map fun p=>(.inl p.1,.int p.2)
noncomputable def keysOk (t:List (Int × Int)):Prop:=(t.map (·.1)).Nodup
noncomputable def Zdo:List (Int × Int) → Int → Int
 | [],_=>0
 | (k,v) :: r,n=>if k = n then v else Zdo r n
theorem Znf (t:List (Int × Int)) (n:Int):Zcv (Zc3 t) (.inl n) = (if t.any (fun p=>decide (p.1 = n)) = true then some (D.int (Zdo t n)) else none):=by
 induction t with
 | nil=>rfl
 | cons p t ih=>
  obtain ⟨k,v⟩:=p
  show (if (Sum.inl k:Zbe) = Sum.inl n then some (D.int v) else Zcv (Zc3 t) (.inl n)) = _
  by_cases e:k = n
  ·simp [e,Zdo]
  ·rw [if_neg (by simp [e]),ih]
   simp only [List.any_cons,Zdo,if_neg e,decide_eq_false e,Bool.false_or]
theorem Zh5 {t:List (Int × Int)} {n:Int} (h:¬ t.any (fun p=>decide (p.1 = n)) = true):Zdo t n = 0:=by
 induction t with
 | nil=>rfl
 | cons p t ih=>
  obtain ⟨k,v⟩:=p
  simp only [List.any_cons,Bool.or_eq_true,decide_eq_true_eq,not_or] at h
  simp only [Zdo,if_neg h.1]
  exact ih (by simpa using h.2)
theorem Zm6 (t:List (Int × Int)) (n:Int):(Zcv (Zc3 t) (.inl n)).getD (.int 0) = .int (Zdo t n):=by
 rw [Znf]
 by_cases c:(t.any fun p=>decide (p.1 = n)) = true
 ·rw [if_pos c]; rfl
 ·rw [if_neg c,Zh5 c]; rfl
theorem ZnH {t:List (Int × Int)} (h:keysOk t) {k v:Int} (hm:(k,v) ∈ t):Zdo t k = v:=by
 induction t with
 | nil=>simp at hm
 | cons p t ih=>
  obtain ⟨a,b⟩:=p
  unfold keysOk at h
  simp only [List.map_cons,List.nodup_cons] at h
  rcases List.mem_cons.mp hm with e | e
  ·cases e; simp [Zdo]
  ·have:a ≠ k:=fun z=>h.1 (List.mem_map.mpr ⟨(k,v),e,z.symm⟩)
   simp only [Zdo,if_neg this]
   exact ih h.2 e
noncomputable def Ze0 (cs:List (Int × Int)):Prop:=cs.Pairwise fun a b=>a.1 < b.1
theorem Ze0.keys {cs:List (Int × Int)} (h:Ze0 cs):keysOk cs:=by
 unfold keysOk Ze0 at *
 rw [List.Nodup,List.pairwise_map]
 exact h.imp fun h=>(fun z=>iN [] [_,_] 2 26047746225 T1 z h)
noncomputable def ZaW (cs:List (Int × Int)) (n v:Int):List (Int × Int):=cs.filter (fun c=>decide (c.1 < n)) ++ (if v ≠ 0 then [(n,v)] else []) ++ cs.filter (fun c=>decide (n < c.1))
theorem Zgg {cs:List (Int × Int)} {n v:Int} {q:Int × Int}:q ∈ ZaW cs n v ↔ (q = (n,v) ∧ v ≠ 0) ∨ (q.1 ≠ n ∧ q ∈ cs):=by
 unfold ZaW
 simp only [List.mem_append,List.mem_filter,decide_eq_true_eq]
 have hm:q ∈ (if v ≠ 0 then [(n,v)] else []) ↔ (q = (n,v) ∧ v ≠ 0):=by
  by_cases c:v ≠ 0
  ·rw [if_pos c]; simp [c]
  ·rw [if_neg c]; simp [c]
 rw [hm]
 constructor
 ·rintro ((⟨h1,h2⟩ | h) | ⟨h1,h2⟩)
  ·right; exact ⟨(fun z=>iN [] [_,_] 2 26047746225 T1 z h2),h1⟩
  ·left; exact h
  ·right; exact ⟨(fun z=>iN [] [_,_] 2 25796087969 T1 z h2),h1⟩
 ·rintro (h | ⟨h1,h2⟩)
  ·left; right; exact h
  ·rcases Int.lt_or_gt_of_ne h1 with c | c
   ·left; left; exact ⟨h2,c⟩
   ·right; exact ⟨h2,c⟩
theorem Zee {cs:List (Int × Int)} {n v:Int} (h:Ze0 cs):Ze0 (ZaW cs n v):=by
 unfold ZaW Ze0 at *
 have hm:∀ q ∈ (if v ≠ 0 then [(n,v)] else []),q.1 = n:=fun q hq=>by
  by_cases c:v ≠ 0
  ·rw [if_pos c] at hq; simp at hq; rw [hq]
  ·rw [if_neg c] at hq; simp at hq
 refine List.pairwise_append.mpr ⟨List.pairwise_append.mpr ⟨h.filter _,?_,fun a ha b hb=>?_⟩,h.filter _,fun a ha b hb=>?_⟩
 ·by_cases c:v ≠ 0
  ·rw [if_pos c]; simp
  ·rw [if_neg c]; simp
 ·have h1:=(List.mem_filter.mp ha).2
  rw [hm b hb]; simpa using h1
 ·have h2:n < b.1:=by simpa using (List.mem_filter.mp hb).2
  rcases List.mem_append.mp ha with ha | ha
  ·have:a.1 < n:=by simpa using (List.mem_filter.mp ha).2
   exact Int.lt_trans this h2
  ·rw [hm a ha]; exact h2
noncomputable def Row.place (bs:List Int) (p:Nat):Row → Nat
 | .jump k=>k
 | .when a k=>if 0 < bs.getD a 0 then k else p + 1
 | _=>p + 1
noncomputable def Row.boxes (bs:List Int) (cs:List (Int × Int)):Row → List Int
 | .put a n=>bs.set a n
 | .add a b c=>bs.set a (bs.getD b 0 + bs.getD c 0)
 | .sub a b c=>bs.set a (bs.getD b 0 - bs.getD c 0)
 | .more a b c=>bs.set a (if bs.getD c 0 < bs.getD b 0 then 1 else 0)
 | .get a b=>bs.set a (Zdo cs (bs.getD b 0))
 | _=>bs
noncomputable def Row.cells (bs:List Int) (cs:List (Int × Int)):Row → List (Int × Int)
 | .set a b=>ZaW cs (bs.getD a 0) (bs.getD b 0)
 | _=>cs
noncomputable def Ze5 (s:Stt) (r:Row):Option Stt:=if r.isHalt then none else some ⟨r.place s.boxes s.place,r.boxes s.boxes s.cells,r.cells s.boxes s.cells⟩
noncomputable def Za1 (roll:ZbH) (s:Stt):Option Stt:=(roll[s.place]?).bind (Ze5 s)
noncomputable def Zfn:Option Stt → D
 | none=>.non
 | some s=>Zc s
theorem Zfx (cs:List (Int × Int)):ZcO (cs.map Zac) = some (Zc3 cs):=by
 induction cs with
 | nil=>rfl
 | cons p cs ih=>simp only [List.map_cons,Zac,ZcO,ZfS,ih,Option.map_some,Zc3]
theorem Znc (kvs:List (Zbe × D)) (k j:Zbe) (v:D):Zcv (putD k v kvs) j = if j = k then some v else Zcv kvs j:=by
 have mp:∀ l:List (Zbe × D),Zcv (l.map fun p=>if p.1 = k then (p.1,v) else p) j = if j = k then (if l.any (fun p=>decide (p.1 = k)) then some v else none) else Zcv l j:=by
  intro l
  induction l with
  | nil=>simp [Zcv]
  | cons p l ih=>
   obtain ⟨a,b⟩:=p
   rw [List.map_cons]
   by_cases e:a = k
   ·subst e
    simp only [if_true,Zcv]
    by_cases ej:a = j
    ·subst ej; simp
    ·rw [if_neg ej,ih,if_neg (Ne.symm ej),if_neg (Ne.symm ej),if_neg ej]
   ·simp only [if_neg e,Zcv]
    by_cases ej:a = j
    ·subst ej; simp [e]
    ·rw [if_neg ej,ih,if_neg ej]; simp only [List.any_cons,decide_eq_false e,Bool.false_or]
 have ap:∀ l:List (Zbe × D),¬ l.any (fun p=>decide (p.1 = k)) = true → Zcv (l ++ [(k,v)]) j = if j = k then some v else Zcv l j:=by
  intro l
  induction l with
  | nil=>intro _; simp only [List.nil_append,Zcv]; by_cases e:k = j <;> simp [e,Ne.symm,eq_comm]
  | cons p l ih=>
   intro h
   obtain ⟨a,b⟩:=p
   simp only [List.any_cons,Bool.or_eq_true,decide_eq_true_eq,not_or] at h
   simp only [List.cons_append,Zcv]
   by_cases ej:a = j
   ·subst ej; rw [if_pos rfl,if_neg h.1,if_pos rfl]
   ·rw [if_neg ej,if_neg ej]; exact ih (by simpa using h.2)
 unfold putD
 by_cases c:(kvs.any fun p=>decide (p.1 = k)) = true
 ·rw [if_pos c,mp,c]; simp
 ·rw [if_neg c]; exact ap kvs c
theorem ZhX:∀ (l acc:List (Zbe × D)) (j:Zbe),(l.map (·.1)).Nodup → Zcv (l.foldl (fun a p=>putD p.1 p.2 a) acc) j = (match Zcv l j with | some v=>some v | none=>Zcv acc j)
 | [],acc,j,_=>rfl
 | p :: l,acc,j,h=>by
  obtain ⟨k,v⟩:=p
  simp only [List.map_cons,List.nodup_cons] at h
  rw [List.foldl_cons,ZhX l _ j h.2,Znc]
  simp only [Zcv]
  by_cases e:k = j
  ·subst e
   have:Zcv l k = none:=by
    have hn:=h.1
    clear h
    induction l with
    | nil=>rfl
    | cons q l ih=>
     simp only [List.map_cons,List.mem_cons,not_or] at hn
     simp only [Zcv]
     rw [if_neg (Ne.symm hn.1)]; exact ih hn.2
   rw [this]; simp
  ·rw [if_neg e,if_neg (Ne.symm e)]
theorem ZlU {t:List (Int × Int)} (h:keysOk t):((Zc3 t).map (·.1)).Nodup:=by
 unfold keysOk at h
 simp only [Zc3,List.map_map]
 rw [List.Nodup,List.pairwise_map] at *
 exact h.imp fun h e=>h (by simpa using e)
theorem ZfR {t:List (Int × Int)} (h:keysOk t) (n:Int):(Zcv (dictOf (Zc3 t)) (.inl n)).getD (.int 0) = .int (Zdo t n):=by
 unfold dictOf
 rw [ZhX _ _ _ (ZlU h),← Zm6]
 cases Zcv (Zc3 t) (.inl n) <;> rfl
theorem ZiU {α:Type} {enc h:α → D} {p:α → Bool} {it:It3} {i n:Nat} {c elt:E3} {env0:Zau}:∀ (as:List α) (acc:List D) (env:Zau) (M:Store),(∀ d,env.set i (some d) = env0.set i (some d)) →
  (∀ a ∈ as,∀ x,c (env0.set i (some (enc a))) (M.set n (.lst x)) = .ok (.bl (p a)) (M.set n (.lst x))) → (∀ a ∈ as,p a = true → ∀ x,elt (env0.set i (some (enc a))) (M.set n (.lst x)) = .ok (h a) (M.set n (.lst x))) →
  (∀ x,locked it (M.set n (.lst x)) = true) → M[n]? = some (.lst acc) → acc.length + as.length ≤ SZ →
  Zet it (ZdT i) [c] elt n (as.map enc) env M = .ok (.ref n) (M.set n (.lst (acc ++ (as.filter p).map h))):=by
 intro as
 induction as with
 | nil=>
  intro acc env M _ _ _ hl hM _
  have e:M.set n (.lst acc) = M:=by
   apply List.ext_getElem?
   intro j
   by_cases hj:j = n
   ·subst hj; rw [List.getElem?_set_self (List.getElem?_eq_some_iff.mp hM).1,hM]
   ·rw [List.getElem?_set_ne (Ne.symm hj)]
  have hl':=hl acc
  rw [e] at hl'
  simp only [List.map_nil,Zet,hl',if_true,List.filter_nil,List.append_nil,e]
 | cons a as ih=>
  intro acc env M he hc hf hl hM hz
  have hn:n < M.length:=(List.getElem?_eq_some_iff.mp hM).1
  have e:M.set n (.lst acc) = M:=by
   apply List.ext_getElem?
   intro j
   by_cases hj:j = n
   ·subst hj; rw [List.getElem?_set_self hn,hM]
   ·rw [List.getElem?_set_ne (Ne.symm hj)]
  have hl':=hl acc
  rw [e] at hl'
  have hc':=hc a List.mem_cons_self acc
  rw [e] at hc'
  rw [List.map_cons]
  cases hp:p a with
  | false=>
   rw [hp] at hc'
   simp only [Zet,hl',if_true,ZdT,he (enc a),ZeO,hc',R3.bind,Bool.false_eq_true,if_false]
   rw [ih acc (env0.set i (some (enc a))) M (fun d'=>by rw [List.set_set]) (fun b hb x=>hc b (List.mem_cons_of_mem _ hb) x) (fun b hb=>hf b (List.mem_cons_of_mem _ hb)) hl hM (by simp at hz ⊢; exact lB 1 0xf42405b10c0f42405ba1c0c01 T1 hz),List.filter_cons_of_neg (by simp [hp])]
  | true=>
   rw [hp] at hc'
   have hf':=hf a List.mem_cons_self hp acc
   rw [e] at hf'
   have hz':acc.length < SZ:=by simp at hz ⊢; exact lB 1 0xf42405b01f42405ba1c0c01 T1 hz
   simp only [Zet,hl',if_true,ZdT,he (enc a),ZeO,hc',R3.bind,hf',hM,hz']
   rw [ih (acc ++ [h a]) (env0.set i (some (enc a))) (M.set n (.lst (acc ++ [h a]))) (fun d'=>by rw [List.set_set]) (fun b hb x=>by rw [List.set_set]; exact hc b (List.mem_cons_of_mem _ hb) x) (fun b hb hpb x=>by rw [List.set_set]; exact hf b (List.mem_cons_of_mem _ hb) hpb x) (fun x=>by rw [List.set_set]; exact hl x) (by rw [List.getElem?_set_self hn]) (by simp at hz ⊢; exact lB 1 0xf42405b1a0cc0f42405ba1c0c01 T1 hz),List.filter_cons_of_pos hp,List.set_set]
   simp
theorem Zf1 {α:Type} {enc h:α → D} {p:α → Bool} {own:Nat} {i:Nat} {it:I3} {c elt:E3} {env:Zau} {M M1:Store} {lock:Option Nat} {as:List α} (hi:it env M = .ok ⟨as.map enc,lock⟩ M1) (hlock:∀ n,lock = some n → M1[n]? = some (.lst (as.map enc)))
  (hc:∀ a ∈ as,∀ M,c ((env ++ List.replicate own none).set i (some (enc a))) M = .ok (.bl (p a)) M) (he:∀ a ∈ as,p a = true → ∀ M,elt ((env ++ List.replicate own none).set i (some (enc a))) M = .ok (h a) M) (hz:as.length ≤ 100000):
  eLC it own (ZdT i) [c] elt env M = .ok (.ref M1.length) (M1 ++ [.lst ((as.filter p).map h)]):=by
 rw [ZqE hi]
 have:=ZiU (it:=⟨as.map enc,lock⟩) (i:=i) (n:=M1.length) (c:=c) (elt:=elt) (env0:=env ++ List.replicate own none) as [] (env ++ List.replicate own none) (M1 ++ [.lst []]) (fun _=>rfl) (fun a ha x=>hc a ha _) (fun a ha hp x=>he a ha hp _)
  (fun x=>by
   cases lock with
   | none=>rfl
   | some n=>
    have hn:=hlock n rfl
    have hlt:=(List.getElem?_eq_some_iff.mp hn).1
    simp only [locked,decide_eq_true_eq]
    rw [List.getElem?_set_ne (by exact fun z=>lB 2 25787699233 T1 z hlt),List.getElem?_append_left hlt,hn]) (by simp) (by simp; exact lA 1 0xf42405b00186a05b001 T1 hz)
 refine this.trans ?_
 simp
theorem ZjY {x y:List (Int × Int)} (hp:y.Perm x) (hr:Ze0 y):ZgO (x.map Zac) (y.map Zac):=by
 refine ⟨hp.map _,?_⟩
 rw [List.pairwise_map]
 refine hr.imp fun {a b} h=>?_
 show (if b.1 = a.1 then _ else _) = _
 rw [if_neg (by omega),decide_eq_false (by exact fun z=>iN [] [_,_] 2 25796087953 T1 z h)]
theorem Zi2 {x:List (Int × Int)} (h:x.length < 64):Zm2 (x.map Zac):=by
 refine ⟨by simpa using h,.inl (by simp [Zac,Zdf]),fun a ha b hb=>?_⟩
 obtain ⟨p,_,rfl⟩:=List.mem_map.mp ha
 obtain ⟨q,_,rfl⟩:=List.mem_map.mp hb
 simp only [ltD,Zac,ltT]
 split
 ·split
  ·rfl
  ·rfl
 ·rfl
end L3
namespace L3
theorem Zhk {cs:List (Int × Int)} (h:Ze0 cs) (n v:Int):(ZaW cs n v).length ≤ cs.length + 1:=by
 unfold ZaW
 have f:(cs.filter (fun c=>decide (c.1 < n))).length + (cs.filter (fun c=>decide (n < c.1))).length ≤ cs.length:=by
  clear h
  induction cs with
  | nil=>simp
  | cons c cs ih=>
   simp only [List.filter_cons]
   by_cases h1:c.1 < n
   ·have h2:¬ n < c.1:=(fun z=>iN [] [_,_] 2 25796087953 T1 z h1)
    simp only [h1,h2,decide_true,decide_false,if_true,Bool.false_eq_true,if_false,List.length_cons]; exact lC 1 0xa2c1a0cc0210c01 T1 ih
   ·by_cases h2:n < c.1
    ·simp only [h1,h2,decide_true,decide_false,if_true,Bool.false_eq_true,if_false,List.length_cons]; exact lC 1 0xa2ca1c0c0210c01 T1 ih
    ·simp only [h1,h2,decide_false,Bool.false_eq_true,if_false,List.length_cons]; exact lC 1 0xa2c10c0210c01 T1 ih
 rw [List.length_append,List.length_append]
 split <;> simp only [List.length_cons,List.length_nil] <;> omega
end L3
namespace L3
noncomputable def ZcZ (roll:ZbH):Nat → Stt → List Stt
 | 0,s=>[s]
 | k + 1,s=>match Za1 roll s with
  | none=>[s]
  | some s'=>s :: ZcZ roll k s'
theorem ZcL {roll:ZbH} {s s':Stt} (k:Nat) (h:Za1 roll s = some s'):ZcZ roll (k + 1) s = s :: ZcZ roll k s':=by
 show (match Za1 roll s with | none=>[s] | some s'=>s :: ZcZ roll k s') = _
 rw [h]
theorem Zdk {roll:ZbH} {s:Stt} (k:Nat) (h:Za1 roll s = none):ZcZ roll (k + 1) s = [s]:=by
 show (match Za1 roll s with | none=>[s] | some s'=>s :: ZcZ roll k s') = _
 rw [h]
structure Good (roll:ZbH) (s:Stt):Prop where
 pl:s.place < roll.length
 bx:s.boxes.length = 8
 rs:Ze0 s.cells
theorem Zg0 {roll:ZbH} {s:Stt} (h:s.place < roll.length):Za1 roll s = none ↔ Zfm roll s = true:=by
 have hr:roll[s.place]? = some roll[s.place]:=by simp [h]
 unfold Za1 Zfm
 rw [hr]
 show Ze5 s roll[s.place] = none ↔ roll[s.place].isHalt = true
 unfold Ze5
 split <;> simp_all
theorem Zlx (r:Row) (bs:List Int) (cs:List (Int × Int)):(r.boxes bs cs).length = bs.length:=by cases r <;> simp [Row.boxes]
theorem ZeN {roll:ZbH} (R:Zc6 roll) {s s':Stt} (g:Good roll s) (h:Za1 roll s = some s'):Good roll s' ∧ s'.cells.length ≤ s.cells.length + 1:=by
 obtain ⟨hp,hb,hc⟩:=g
 have hr:roll[s.place]? = some roll[s.place]:=by simp [hp]
 have ro:=R.rows _ (List.getElem_mem hp)
 unfold Za1 at h
 rw [hr] at h
 have h':Ze5 s roll[s.place] = some s':=h
 unfold Ze5 at h'
 split at h'
 ·cases h'
 ·rename_i nh
  cases h'
  have nl:roll[s.place] ≠ .halt → (∀ k,roll[s.place] ≠ .jump k) → s.place + 1 < roll.length:=fun n1 n2=>by
   obtain ⟨q,x,e,hx⟩:=R.last
   have hl:roll.length = q.length + 1:=by rw [e]; simp
   by_cases c:s.place = q.length
   ·have:roll[s.place] = x:=by
     have:=hr
     simp only [e,c] at this
     simp at this
     simp [c,e]
    rw [this] at n1 n2
    rcases hx with hx | ⟨k,hx⟩
    ·exact absurd hx n1
    ·exact absurd hx (n2 k)
   ·exact lC 2 0xa2c11211a1c031 T1 hl (Nat.lt_of_le_of_ne (lC 2 316668234547233 T1 hl hp) c)
  have nh':roll[s.place] ≠ .halt:=fun z=>by rw [z] at nh; simp at nh
  refine ⟨⟨?_,by rw [Zlx]; exact hb,?_⟩,?_⟩
  ·generalize roll[s.place] = r at ro nl nh'
   cases r with
   | jump k=>exact ro
   | when a k=>
    show (if 0 < s.boxes.getD a 0 then k else s.place + 1) < _
    split
    ·exact ro.2
    ·exact nl nh' (fun _ z=>by cases z)
   | halt=>exact absurd rfl nh'
   | _=>exact nl nh' (fun _ z=>by cases z)
  ·generalize roll[s.place] = r
   cases r with
   | set a b=>exact Zee hc
   | _=>exact hc
  ·generalize roll[s.place] = r
   cases r with
   | set a b=>exact Zhk hc _ _
   | _=>exact Nat.le_succ _
theorem ZjD (roll:ZbH):∀ k s,(ZcZ roll k s).length ≤ k + 1
 | 0,s=>by simp [ZcZ]
 | k + 1,s=>by
  unfold ZcZ
  split
  ·simp
  ·have:=ZjD roll k ‹_›; simp; exact this
theorem ZkM (roll:ZbH) (k:Nat) (s:Stt):ZcZ roll k s ≠ []:=by
 cases k with
 | zero=>simp [ZcZ]
 | succ k=>unfold ZcZ; split <;> simp
end L3
namespace L3
noncomputable def ZoP (i:Int):List Nat:=(PySem.Str.ofString (toString i)).cps.toList
noncomputable section
local instance (priority:=100000) clQ1 (p:Prop):Decidable p:=Classical.propDecidable p
@[simp] noncomputable def Ztu (ds:List D) (M:Store):R3 D:=match ds with
 | [.int i]=>if i.natAbs.log2 < 1920 then .ok (.str (ZoP i)) M else .bad
 | [.str x]=>.ok (.str x) M
 | _=>.bad
noncomputable def Zrl:List D → Option (List (List Nat))
 | []=>some []
 | .str x :: ds=>(Zrl ds).map (x :: ·)
 | _=>none
@[simp] noncomputable def Zmr (ds:List D) (M:Store):R3 D:=match ds with
 | [.str x]=>match PySem.intText? ⟨x.toArray⟩ with
  | some n=>if x.length ≤ 640 then .ok (.int n) M else .bad
  | none=>.bad
 | ds=>ZrT ds M
end
end L3
namespace L3
noncomputable section
noncomputable def ZgJ (f:E3) (g:G3):S3:=fun env M=>match f env M with
 | .ok d M1=>match g d env with
  | some env1=>.nx env1 M1
  | none=>.bad
 | .exc x M1=>.exc x M1
 | .bad=>.bad
structure ItL where
 items:List D
 lk:List (Nat × List D)
noncomputable def Zdg (lk:List (Nat × List D)) (M:Store):Bool:=lk.all fun q=>decide (M[q.1]? = some (.lst q.2))
noncomputable def Zfc (lk:List (Nat × List D)) (g:G3) (body:S3):List D → Zau → Store → O3
 | [],env,M=>if Zdg lk M then .nx env M else .bad
 | d :: ds,env,M=>if Zdg lk M then match g d env with
  | none=>.bad
  | some env1=>match body env1 M with
   | .nx e M'=>Zfc lk g body ds e M'
   | .ct e M'=>Zfc lk g body ds e M'
   | .bk e M'=>.nx e M'
   | o=>o
  else .bad
noncomputable abbrev IL3:=Zau → Store → R3 ItL
noncomputable def ZkU (i:IL3) (g:G3) (body:S3):S3:=fun env M=>match i env M with
 | .ok it M1=>Zfc it.lk g body it.items env M1
 | .exc x M1=>.exc x M1
 | .bad=>.bad
noncomputable def Zd5:Nat → List D → List D
 | _,[]=>[]
 | k,d :: ds=>.tup [.int k,d] :: Zd5 (k + 1) ds
@[simp] noncomputable def ZmC (f:E3):IL3:=fun env M=>(f env M).bind fun a M1=>match a with
 | .tup ds=>.ok ⟨Zd5 0 ds,[]⟩ M1
 | .ref n=>match M1[n]? with
  | some (.lst ds)=>.ok ⟨Zd5 0 ds,[(n,ds)]⟩ M1
  | _=>.bad
 | _=>.bad
noncomputable def Zth (f:E3) (is:List Nat):S3:=fun env M=>match f env M with
 | .ok (.ref n) M1=>(match M1[n]? with
  | some (.lst ds)=>(match bindAll is ds env with
   | some env1=>.nx env1 M1
   | none=>.bad)
  | _=>.bad)
 | _=>.bad
@[simp] noncomputable def Zgb (a b:D) (M:Store):R3 D:=match b with
 | .ref n=>match M[n]? with
  | some (.lst ys)=>if ZaT a && ys.all ZaT then .ok (.bl (ys.any fun y=>deq y a)) M else .bad
  | _=>.bad
 | _=>.bad
theorem ZfX:∀ (k:Nat) (ds:List D) (i:Nat),(Zd5 k ds)[i]? = (ds[i]?).map fun d=>.tup [.int ((k + i:Nat):Int),d]
 | _,[],_=>by simp [Zd5]
 | k,d :: ds,0=>by simp [Zd5]
 | k,d :: ds,i + 1=>by
  simp only [Zd5,List.getElem?_cons_succ,ZfX (k + 1) ds i]
  rw [show k + 1 + i = k + (i + 1) by exact Nat.le_antisymm (lB 0 0xa1c0c1a0cc0 T1) (lB 0 1790139547840 T1)]
theorem ZfY:∀ (k:Nat) (ds:List D),(Zd5 k ds).length = ds.length
 | _,[]=>rfl
 | k,d :: ds=>by simp [Zd5,ZfY (k + 1) ds]
end
end L3
namespace L3
noncomputable section
section
local instance (priority:=100000) clZ1 (p:Prop):Decidable p:=Classical.propDecidable p
end
section
local instance (priority:=100000) clZ2 (p:Prop):Decidable p:=Classical.propDecidable p
end
end
end L3
namespace L3
noncomputable section
section
local instance (priority:=100000) clPg (p:Prop):Decidable p:=Classical.propDecidable p
end
end
end L3
namespace L3
noncomputable def Zg7 (f:List Nat) (d:D):List (List Nat × D) → List (List Nat × D)
 | []=>[(f,d)]
 | (g,x) :: r=>if g = f then (g,d) :: r else (g,x) :: Zg7 f d r
@[simp] noncomputable def ZdK (c f:List Nat) (a:D) (M:Store):R3 D:=match a with
 | .ref n=>match M[n]? with
  | some (.ins c' fs)=>if c' = c then (match fs.lookup f with
   | some d=>.ok d M
   | none=>.bad) else .bad
  | _=>.bad
 | _=>.bad
@[simp] noncomputable def Zf9 (c f:List Nat) (v a:D) (M:Store):R3 D:=match a with
 | .ref n=>match M[n]? with
  | some (.ins c' fs)=>if c' = c ∧ fs.length < 1000 then .ok .non (M.set n (.ins c (Zg7 f v fs))) else .bad
  | _=>.bad
 | _=>.bad
noncomputable def ZmS (c f:List Nat) (o v:E3):S3:=ZaH (e2 (Zf9 c f) v o)
@[simp] noncomputable def Zia (c m:List Nat) (a:D) (M:Store):Bool:=match a with
 | .ref n=>match M[n]? with
  | some (.ins c' fs)=>decide (c' = c) && (fs.lookup m).isNone
  | _=>false
 | _=>false
@[simp] noncomputable def ZbI (c m:List Nat) (F:F3) (o:E3) (g:EL3):E3:=fun env M=>(o env M).bind fun a M1=>if Zia c m a M1 then (g env M1).bind fun ds M2=>F (a :: ds) M2 else .bad
@[simp] noncomputable def Zgp (c:List Nat) (F:F3) (g:EL3):E3:=fun env M=>(g env M).bind fun ds M1=>match F (.ref M1.length :: ds) (M1 ++ [.ins c []]) with
 | .ok .non M2=>.ok (.ref M1.length) M2
 | _=>.bad
end L3
namespace L3
noncomputable section
end
end L3
namespace L3
open PySem PySem.Spec PyProof.Rows L2
noncomputable abbrev St:=L2.St
theorem Zcf:SZ ≤ sizeLine:=by rw [sizeLine_eq]; decide
noncomputable def SqF (K:PySem.W.Frag) (H:Hp) (a:Addr) (xs:List V):Prop:=
 (∃ o,H a = some (.frz o (.lst xs))) ∨
  ∃ (o:Obj) (its:Array Value) (n:Nat),K.lookup a = some o ∧ o.cls = .type "list" ∧ o.dict = none ∧ o.data = .seq its n ∧ its.size ≤ sizeLine ∧ Vals xs its.toList
theorem SqF.sq {K:PySem.W.Frag} {H:Hp} {a:Addr} {xs:List V} (h:SqF K H a xs):SqL K H a xs:=by
 rcases h with ⟨o,h⟩ | h
 ·exact .inl (.inr ⟨o,h⟩)
 ·exact .inr h
mutual
noncomputable def Rep (K:PySem.W.Frag) (H:Hp) (ι:List Addr):D → V → Prop
 | .non,v=>v = .non
 | .bl b,v=>v = .bl b
 | .int i,v=>v = .int i
 | .str x,v=>v = .str ⟨x.toArray⟩
 | .tup ds,v=>∃ a vs,v = .ref a ∧ SqT K H a vs ∧ Zab K H ι ds vs
 | .scr ds,v=>∃ a vs,v = .ref a ∧ SqF K H a vs ∧ Zab K H ι ds vs
 | .ref n,v=>∃ a,ι[n]? = some a ∧ v = .ref a
noncomputable def Zab (K:PySem.W.Frag) (H:Hp) (ι:List Addr):List D → List V → Prop
 | [],vs=>vs = []
 | d :: ds,vs=>∃ v ws,vs = v :: ws ∧ Rep K H ι d v ∧ Zab K H ι ds ws
end
structure Ext (K:PySem.W.Frag) (H:Hp) (ι:List Addr) (H':Hp) (ι':List Addr):Prop where
 tup:∀ a xs,SqT K H a xs → SqT K H' a xs
 scr:∀ a xs,SqF K H a xs → SqF K H' a xs
 pre:∀ (n:Nat) (a:Addr),ι[n]? = some a → ι'[n]? = some a
 frz:∀ a o u,H a = some (.frz o u) → H' a = some (.frz o u)
section
variable {K:PySem.W.Frag} {H H' H1 H2:Hp} {ι ι' ι1 ι2:List Addr}
theorem Ext.refl:Ext K H ι H ι:=⟨fun _ _ h=>h,fun _ _ h=>h,fun _ _ h=>h,fun _ _ _ h=>h⟩
theorem Ext.trans (a:Ext K H ι H1 ι1) (b:Ext K H1 ι1 H2 ι2):Ext K H ι H2 ι2:=
 ⟨fun x xs h=>b.tup x xs (a.tup x xs h),fun x xs h=>b.scr x xs (a.scr x xs h),fun n x h=>b.pre n x (a.pre n x h),fun x o u h=>b.frz x o u (a.frz x o u h)⟩
mutual
theorem Rep.mono (e:Ext K H ι H' ι'):∀ {d:D} {v:V},Rep K H ι d v → Rep K H' ι' d v
 | .non,_,h=>by simpa [Rep] using h
 | .bl _,_,h=>by simpa [Rep] using h
 | .int _,_,h=>by simpa [Rep] using h
 | .str _,_,h=>by simpa [Rep] using h
 | .tup ds,_,h=>by
  simp only [Rep] at h ⊢
  obtain ⟨a,vs,rfl,s,r⟩:=h
  exact ⟨a,vs,rfl,e.tup _ _ s,Zab.mono e (ds:=ds) r⟩
 | .scr ds,_,h=>by
  simp only [Rep] at h ⊢
  obtain ⟨a,vs,rfl,s,r⟩:=h
  exact ⟨a,vs,rfl,e.scr _ _ s,Zab.mono e (ds:=ds) r⟩
 | .ref n,_,h=>by
  simp only [Rep] at h ⊢
  obtain ⟨a,s,rfl⟩:=h
  exact ⟨a,e.pre _ _ s,rfl⟩
theorem Zab.mono (e:Ext K H ι H' ι'):∀ {ds:List D} {vs:List V},Zab K H ι ds vs → Zab K H' ι' ds vs
 | [],_,h=>by simpa [Zab] using h
 | d :: ds,_,h=>by
  simp only [Zab] at h ⊢
  obtain ⟨v,ws,rfl,r,q⟩:=h
  exact ⟨v,ws,rfl,Rep.mono e (d:=d) r,Zab.mono e (ds:=ds) q⟩
end
mutual
theorem Rep.keep (ht:∀ a xs,SqT K H a xs → SqT K H' a xs) (hs:∀ a xs,SqF K H a xs → SqF K H' a xs):∀ {d:D} {v:V},Rep K H ι d v → Rep K H' ι d v
 | .non,_,h=>by simpa [Rep] using h
 | .bl _,_,h=>by simpa [Rep] using h
 | .int _,_,h=>by simpa [Rep] using h
 | .str _,_,h=>by simpa [Rep] using h
 | .tup ds,_,h=>by
  simp only [Rep] at h ⊢
  obtain ⟨a,vs,rfl,s,r⟩:=h
  exact ⟨a,vs,rfl,ht _ _ s,Zab.keep ht hs (ds:=ds) r⟩
 | .scr ds,_,h=>by
  simp only [Rep] at h ⊢
  obtain ⟨a,vs,rfl,s,r⟩:=h
  exact ⟨a,vs,rfl,hs _ _ s,Zab.keep ht hs (ds:=ds) r⟩
 | .ref n,_,h=>by simpa [Rep] using h
theorem Zab.keep (ht:∀ a xs,SqT K H a xs → SqT K H' a xs) (hs:∀ a xs,SqF K H a xs → SqF K H' a xs):∀ {ds:List D} {vs:List V},Zab K H ι ds vs → Zab K H' ι ds vs
 | [],_,h=>by simpa [Zab] using h
 | d :: ds,_,h=>by
  simp only [Zab] at h ⊢
  obtain ⟨v,ws,rfl,r,q⟩:=h
  exact ⟨v,ws,rfl,Rep.keep ht hs (d:=d) r,Zab.keep ht hs (ds:=ds) q⟩
end
theorem Zab.nil:Zab K H ι [] []:=by simp [Zab]
theorem Zab.cons {d:D} {ds:List D} {v:V} {vs:List V} (h:Rep K H ι d v) (t:Zab K H ι ds vs):Zab K H ι (d :: ds) (v :: vs):=by
 simp only [Zab]
 exact ⟨v,vs,rfl,h,t⟩
theorem Zab.nil_inv {vs:List V} (h:Zab K H ι [] vs):vs = []:=by simpa [Zab] using h
theorem Zab.cons_inv {d:D} {ds:List D} {vs:List V} (h:Zab K H ι (d :: ds) vs):∃ v ws,vs = v :: ws ∧ Rep K H ι d v ∧ Zab K H ι ds ws:=by simpa [Zab] using h
theorem Zab.length:∀ {ds:List D} {vs:List V},Zab K H ι ds vs → vs.length = ds.length
 | [],_,h=>by rw [h.nil_inv]; rfl
 | d :: ds,_,h=>by
  obtain ⟨v,ws,rfl,_,q⟩:=h.cons_inv
  simp [q.length]
theorem Zab.append:∀ {ds es:List D} {vs ws:List V},Zab K H ι ds vs → Zab K H ι es ws → Zab K H ι (ds ++ es) (vs ++ ws)
 | [],_,_,_,h,q=>by rw [h.nil_inv]; exact q
 | d :: ds,_,_,_,h,q=>by
  obtain ⟨v,us,rfl,r,t⟩:=h.cons_inv
  exact Zab.cons r (t.append q)
theorem Zab.drop:∀ {ds:List D} {vs:List V} (n:Nat),Zab K H ι ds vs → Zab K H ι (ds.drop n) (vs.drop n)
 | _,_,0,h=>h
 | [],_,n + 1,h=>by rw [h.nil_inv]; exact Zab.nil
 | d :: ds,_,n + 1,h=>by
  obtain ⟨v,us,rfl,r,t⟩:=h.cons_inv
  exact t.drop n
theorem Zab.take:∀ {ds:List D} {vs:List V} (n:Nat),Zab K H ι ds vs → Zab K H ι (ds.take n) (vs.take n)
 | _,_,0,h=>Zab.nil
 | [],_,n + 1,h=>by rw [h.nil_inv]; exact Zab.nil
 | d :: ds,_,n + 1,h=>by
  obtain ⟨v,us,rfl,r,t⟩:=h.cons_inv
  exact Zab.cons r (t.take n)
theorem Zab.get:∀ {ds:List D} {vs:List V} {i:Nat} {d:D},Zab K H ι ds vs → ds[i]? = some d → ∃ v,vs[i]? = some v ∧ Rep K H ι d v
 | [],_,_,_,_,e=>by simp at e
 | d :: ds,_,0,_,h,e=>by
  obtain ⟨v,us,rfl,r,t⟩:=h.cons_inv
  simp at e; subst e
  exact ⟨v,rfl,r⟩
 | d :: ds,_,i + 1,_,h,e=>by
  obtain ⟨v,us,rfl,r,t⟩:=h.cons_inv
  obtain ⟨w,q,z⟩:=t.get (i:=i) (by simpa using e)
  exact ⟨w,by simpa using q,z⟩
theorem Zab.set:∀ {ds:List D} {vs:List V} {d:D} {v:V} (i:Nat),Zab K H ι ds vs → Rep K H ι d v → Zab K H ι (ds.set i d) (vs.set i v)
 | [],_,_,_,_,h,_=>by rw [h.nil_inv]; exact Zab.nil
 | d :: ds,_,_,_,0,h,q=>by
  obtain ⟨v,us,rfl,r,t⟩:=h.cons_inv
  exact Zab.cons q t
 | d :: ds,_,_,_,i + 1,h,q=>by
  obtain ⟨v,us,rfl,r,t⟩:=h.cons_inv
  exact Zab.cons r (t.set i q)
theorem Zab.ints:∀ (ns:List Int),Zab K H ι (ns.map D.int) (ns.map V.int)
 | []=>Zab.nil
 | n :: ns=>Zab.cons (by simp [Rep]) (Zab.ints ns)
theorem Rep.non_inv {v:V} (h:Rep K H ι .non v):v = .non:=by simpa [Rep] using h
theorem Rep.bl_inv {v:V} {b:Bool} (h:Rep K H ι (.bl b) v):v = .bl b:=by simpa [Rep] using h
theorem Rep.int_inv {v:V} {i:Int} (h:Rep K H ι (.int i) v):v = .int i:=by simpa [Rep] using h
theorem Rep.str_inv {v:V} {x:List Nat} (h:Rep K H ι (.str x) v):v = .str ⟨x.toArray⟩:=by simpa [Rep] using h
theorem Rep.tup_inv {v:V} {ds:List D} (h:Rep K H ι (.tup ds) v):∃ a vs,v = .ref a ∧ SqT K H a vs ∧ Zab K H ι ds vs:=by simpa [Rep] using h
theorem Rep.scr_inv {v:V} {ds:List D} (h:Rep K H ι (.scr ds) v):∃ a vs,v = .ref a ∧ SqF K H a vs ∧ Zab K H ι ds vs:=by simpa [Rep] using h
theorem Rep.ref_inv {v:V} {n:Nat} (h:Rep K H ι (.ref n) v):∃ a,ι[n]? = some a ∧ v = .ref a:=by simpa [Rep] using h
theorem Rep.non:Rep K H ι .non .non:=by simp [Rep]
theorem Rep.bl {b:Bool}:Rep K H ι (.bl b) (.bl b):=by simp [Rep]
theorem Rep.int {i:Int}:Rep K H ι (.int i) (.int i):=by simp [Rep]
theorem Rep.str {x:List Nat}:Rep K H ι (.str x) (.str ⟨x.toArray⟩):=by simp [Rep]
theorem Rep.tup {a:Addr} {vs:List V} {ds:List D} (s:SqT K H a vs) (r:Zab K H ι ds vs):Rep K H ι (.tup ds) (.ref a):=by
 simp only [Rep]; exact ⟨a,vs,rfl,s,r⟩
theorem Rep.ref {a:Addr} {n:Nat} (s:ι[n]? = some a):Rep K H ι (.ref n) (.ref a):=by
 simp only [Rep]; exact ⟨a,s,rfl⟩
end
noncomputable def ExO (e C:Addr) (h:Heap):Prop:=∃ o vs,h.get? e = some o ∧ o.cls = .ref C ∧ o.data = .fields vs
noncomputable abbrev exH (e C:Addr):HO:=.ext (ExO e C)
noncomputable def dk:Zbe → Key
 | .inl i=>.inl i
 | .inr x=>.inr ⟨x.toArray⟩
noncomputable def KvR (K:PySem.W.Frag) (H:Hp) (ι:List Addr) (kvs:List (Zbe × D)) (ws:List (Key × V)):Prop:=
 ws.map (·.1) = kvs.map (fun p=>dk p.1) ∧ Zab K H ι (kvs.map (·.2)) (ws.map (·.2))
noncomputable def FsR (K:PySem.W.Frag) (H:Hp) (ι:List Addr) (fs:List (List Nat × D)) (gs:List (Str × V)):Prop:=
 gs.map (·.1) = fs.map (fun p=>(⟨p.1.toArray⟩:Str)) ∧ Zab K H ι (fs.map (·.2)) (gs.map (·.2))
noncomputable def ClsAt (K:PySem.W.Frag) (c:List Nat) (C:Addr):Prop:=PySem.W.nsIn K mainGlobals ⟨c.toArray⟩ = some (some (.ref C))
noncomputable def Zfy (K:PySem.W.Frag) (H:Hp) (ι:List Addr):MO → Addr → Prop
 | .lst xs,a=>∃ vs,H a = some (.lst vs) ∧ Zab K H ι xs vs
 | .dct kvs,a=>∃ ws,H a = some (.dK ws) ∧ KvR K H ι kvs ws
 | .fdct kvs,a=>∃ ws,(∃ o,H a = some (.frz o (.dK ws))) ∧ KvR K H ι kvs ws
 | .ins c fs,a=>(∃ C dx gs,H a = some (.ins C dx gs) ∧ (ClsAt K c C ∧ c.head? ≠ some 0) ∧ FsR K H ι fs gs) ∨ ∃ C,H a = some (exH a C) ∧ c.head? = some 0 ∧ ClsAt K c.tail C ∧ fs = []
structure Zat (K:PySem.W.Frag) (H:Hp) (ι:List Addr) (M:Store):Prop where
 len:ι.length = M.length
 nd:ι.Nodup
 obj:∀ (n:Nat) o a,M[n]? = some o → ι[n]? = some a → Zfy K H ι o a
noncomputable def Loose (H:Hp) (p:Addr):Prop:=H p = none ∨ (∃ vs,H p = some (.lst vs)) ∨ (∃ ws,H p = some (.dK ws)) ∨ ∃ C dx gs,H p = some (.ins C dx gs)
section
variable {K:PySem.W.Frag} {H H':Hp} {ι ι':List Addr} {M:Store} {p:Addr} {o:HO}
theorem Loose.ne {a:Addr} {u:HO} (l:Loose H p) (h:H a = some u) (h1:∀ vs,u ≠ .lst vs) (h2:∀ ws,u ≠ .dK ws) (h3:∀ C dx gs,u ≠ .ins C dx gs:=by exact fun _ _ _ z=>nomatch z):a ≠ p:=by
 rintro rfl
 rcases l with l | ⟨vs,l⟩ | ⟨ws,l⟩ | ⟨C,dx,gs,l⟩
 ·rw [h] at l; cases l
 ·rw [h] at l; exact h1 vs (Option.some.inj l)
 ·rw [h] at l; exact h2 ws (Option.some.inj l)
 ·rw [h] at l; exact h3 C dx gs (Option.some.inj l)
theorem Loose.tup (l:Loose H p) {a:Addr} {xs:List V} (h:SqT K H a xs):SqT K (upd H p o) a xs:=by
 rcases h with (h | ⟨ob,h⟩) | h
 ·exact .inl (.inl (by rw [ZaX (l.ne h (fun _ z=>nomatch z) (fun _ z=>nomatch z))]; exact h))
 ·exact .inl (.inr ⟨ob,by rw [ZaX (l.ne h (fun _ z=>nomatch z) (fun _ z=>nomatch z))]; exact h⟩)
 ·exact .inr h
theorem Loose.scr (l:Loose H p) {a:Addr} {xs:List V} (h:SqF K H a xs):SqF K (upd H p o) a xs:=by
 rcases h with ⟨ob,h⟩ | h
 ·exact .inl ⟨ob,by rw [ZaX (l.ne h (fun _ z=>nomatch z) (fun _ z=>nomatch z))]; exact h⟩
 ·exact .inr h
theorem Loose.frz (l:Loose H p) {a:Addr} {ob:Obj} {u:HO} (h:H a = some (.frz ob u)):upd H p o a = some (.frz ob u):=by
 rw [ZaX (l.ne h (fun _ z=>nomatch z) (fun _ z=>nomatch z))]; exact h
theorem Loose.ext (l:Loose H p):Ext K H ι (upd H p o) ι:=⟨fun _ _ h=>l.tup h,fun _ _ h=>l.scr h,fun _ _ h=>h,fun _ _ _ h=>l.frz h⟩
theorem Loose.extA (l:Loose H p):Ext K H ι (upd H p o) (ι ++ [p]):=⟨fun _ _ h=>l.tup h,fun _ _ h=>l.scr h,fun n a h=>by
 rw [List.getElem?_append_left (List.getElem?_eq_some_iff.mp h).1]; exact h,fun _ _ _ h=>l.frz h⟩
theorem Zfy.mono {m:MO} {a:Addr} (e:Ext K H ι H' ι') (h:Zfy K H ι m a) (k:H' a = H a):Zfy K H' ι' m a:=by
 cases m with
 | lst xs=>obtain ⟨vs,q,r⟩:=h; exact ⟨vs,k.trans q,r.mono e⟩
 | dct kvs=>obtain ⟨ws,q,r1,r2⟩:=h; exact ⟨ws,k.trans q,r1,r2.mono e⟩
 | fdct kvs=>obtain ⟨ws,⟨o,q⟩,r1,r2⟩:=h; exact ⟨ws,⟨o,k.trans q⟩,r1,r2.mono e⟩
 | ins c fs=>
  rcases h with ⟨C,dx,gs,q,c,r1,r2⟩ | ⟨C,q,r⟩
  ·exact .inl ⟨C,dx,gs,k.trans q,c,r1,r2.mono e⟩
  ·exact .inr ⟨C,k.trans q,r⟩
theorem Zfy.ne {m:MO} {a:Addr} (h:Zfy K H ι m a):H a ≠ none:=by
 cases m with
 | lst xs=>obtain ⟨vs,q,r⟩:=h; rw [q]; simp
 | dct kvs=>obtain ⟨ws,q,r⟩:=h; rw [q]; simp
 | fdct kvs=>obtain ⟨ws,⟨o,q⟩,r⟩:=h; rw [q]; simp
 | ins c fs=>rcases h with ⟨C,dx,gs,q,r⟩ | ⟨C,q,r⟩ <;> (rw [q]; simp)
theorem Zat.at (S:Zat K H ι M) {n:Nat} {m:MO} (h:M[n]? = some m):∃ a,ι[n]? = some a ∧ Zfy K H ι m a:=by
 have hn:n < ι.length:=by rw [S.len]; exact (List.getElem?_eq_some_iff.mp h).1
 exact ⟨ι[n],by simp [hn],S.obj n m _ h (by simp [hn])⟩
theorem Zat.there (S:Zat K H ι M) {n:Nat} {a:Addr} (h:ι[n]? = some a):∃ m,M[n]? = some m ∧ Zfy K H ι m a:=by
 have hn:n < M.length:=by rw [← S.len]; exact (List.getElem?_eq_some_iff.mp h).1
 exact ⟨M[n],by simp [hn],S.obj n _ _ (by simp [hn]) h⟩
theorem Zat.fresh (S:Zat K H ι M) (hp:H p = none):p ∉ ι:=fun h=>by
 obtain ⟨n,hn⟩:=List.getElem?_of_mem h
 obtain ⟨m,_,q⟩:=S.there hn
 exact q.ne hp
theorem Zat.other (S:Zat K H ι M) (l:Loose H p) (hp:p ∉ ι):Zat K (upd H p o) ι M:=
 ⟨S.len,S.nd,fun n m a h1 h2=>(S.obj n m a h1 h2).mono l.ext (by
  rw [ZaX]; rintro rfl; exact hp (List.mem_of_getElem? h2))⟩
theorem Zat.new (S:Zat K H ι M) (hp:H p = none) {m:MO} (h:Zfy K (upd H p o) (ι ++ [p]) m p):Zat K (upd H p o) (ι ++ [p]) (M ++ [m]):=by
 have hf:=S.fresh hp
 refine ⟨by simp [S.len],?_,fun n m' a h1 h2=>?_⟩
 ·exact List.nodup_append.mpr ⟨S.nd,by simp,fun x hx y hy=>by
   have e:y = p:=by simpa using hy
   subst e
   rintro rfl
   exact hf hx⟩
 ·by_cases hn:n < ι.length
  ·rw [List.getElem?_append_left hn] at h2
   rw [List.getElem?_append_left (by rw [← S.len]; exact hn)] at h1
   refine (S.obj n m' a h1 h2).mono (Loose.extA (.inl hp)) ?_
   rw [ZaX]
   rintro rfl
   exact hf (List.mem_of_getElem? h2)
  ·rw [List.getElem?_append_right (Nat.le_of_not_lt hn)] at h2
   rw [List.getElem?_append_right (by rw [← S.len]; exact Nat.le_of_not_lt hn)] at h1
   have hlt:n - ι.length < 1:=by
    have:=(List.getElem?_eq_some_iff.mp h2).1
    simpa using this
   have e0:n - ι.length = 0:=Nat.le_antisymm (lA 1 234922001 T1 hlt) (Nat.zero_le _)
   rw [e0] at h2
   rw [← S.len,e0] at h1
   simp at h1 h2
   subst h1 h2
   exact h
theorem Zat.put (S:Zat K H ι M) {n:Nat} (l0:Loose H p) (hn:ι[n]? = some p) {m:MO} (h:Zfy K (upd H p o) ι m p):Zat K (upd H p o) ι (M.set n m):=by
 obtain ⟨m0,hm0,q0⟩:=S.there hn
 refine ⟨by simp [S.len],S.nd,fun k m' a h1 h2=>?_⟩
 by_cases hk:k = n
 ·subst hk
  rw [hn] at h2
  cases h2
  have hlt:k < M.length:=(List.getElem?_eq_some_iff.mp hm0).1
  rw [List.getElem?_set_self hlt] at h1
  cases h1
  exact h
 ·rw [List.getElem?_set_ne (Ne.symm hk)] at h1
  refine (S.obj k m' a h1 h2).mono (Loose.ext l0) ?_
  rw [ZaX]
  rintro rfl
  have hlt1:=(List.getElem?_eq_some_iff.mp h2)
  have hlt2:=(List.getElem?_eq_some_iff.mp hn)
  exact hk ((List.getElem_inj S.nd).mp (hlt1.2.trans hlt2.2.symm))
theorem Zat.lst (S:Zat K H ι M) (hp:H p = none) {xs:List D} {vs:List V} (r:Zab K H ι xs vs):Ext K H ι (upd H p (.lst vs)) (ι ++ [p]) ∧ Zat K (upd H p (.lst vs)) (ι ++ [p]) (M ++ [.lst xs]) ∧ Rep K (upd H p (.lst vs)) (ι ++ [p]) (.ref M.length) (.ref p):=by
 have e:Ext K H ι (upd H p (.lst vs)) (ι ++ [p]):=Loose.extA (.inl hp)
 refine ⟨e,S.new hp ⟨vs,Zcx,r.mono e⟩,Rep.ref ?_⟩
 rw [← S.len]; simp
theorem Zat.tupl (S:Zat K H ι M) (hp:H p = none) {xs:List D} {vs:List V} (r:Zab K H ι xs vs):Ext K H ι (upd H p (.tup vs)) ι ∧ Zat K (upd H p (.tup vs)) ι M ∧ Rep K (upd H p (.tup vs)) ι (.tup xs) (.ref p):=by
 have e:Ext K H ι (upd H p (.tup vs)) ι:=Loose.ext (.inl hp)
 exact ⟨e,S.other (.inl hp) (S.fresh hp),Rep.tup (SqT.of Zcx) (r.mono e)⟩
theorem Zat.setl (S:Zat K H ι M) {n:Nat} (l0:Loose H p) (hn:ι[n]? = some p) {xs:List D} {vs:List V} (r:Zab K H ι xs vs):Ext K H ι (upd H p (.lst vs)) ι ∧ Zat K (upd H p (.lst vs)) ι (M.set n (.lst xs)):=by
 have e:Ext K H ι (upd H p (.lst vs)) ι:=Loose.ext l0
 exact ⟨e,S.put l0 hn ⟨vs,Zcx,r.mono e⟩⟩
end
noncomputable def ZbF (K:PySem.W.Frag) (H:Hp) (ι:List Addr) (env:Zau) (σ:St):Prop:=
 env.length = σ.length ∧ ∀ (i:Nat) d,env[i]? = some (some d) → ∃ v,σ[i]? = some (some v) ∧ Rep K H ι d v
theorem ZbF.mono {K:PySem.W.Frag} {H H':Hp} {ι ι':List Addr} {env:Zau} {σ:St} (r:ZbF K H ι env σ) (e:Ext K H ι H' ι'):ZbF K H' ι' env σ:=
 ⟨r.1,fun i d h=>let ⟨v,q,z⟩:=r.2 i d h; ⟨v,q,z.mono e⟩⟩
theorem ZbF.set {K:PySem.W.Frag} {H:Hp} {ι:List Addr} {env:Zau} {σ:St} {d:D} {v:V} (r:ZbF K H ι env σ) (i:Nat) (h:Rep K H ι d v):ZbF K H ι (env.set i (some d)) (σ.set i (some v)):=by
 refine ⟨by simp [r.1],fun j e hj=>?_⟩
 by_cases hij:j = i
 ·subst hij
  have hlt:j < env.length:=by
   have:=(List.getElem?_eq_some_iff.mp hj).1
   simpa using this
  rw [List.getElem?_set_self hlt] at hj
  cases hj
  exact ⟨v,by rw [List.getElem?_set_self (by rw [← r.1]; exact hlt)],h⟩
 ·rw [List.getElem?_set_ne (Ne.symm hij)] at hj
  obtain ⟨w,q,z⟩:=r.2 j e hj
  exact ⟨w,by rw [List.getElem?_set_ne (Ne.symm hij)]; exact q,z⟩
noncomputable def Zam (K:PySem.W.Frag) (H:Hp) (ι:List Addr) (Q:VK) (r:R3 D):Prop:=match r with
 | .ok d M'=>∀ v H' ι',Ext K H ι H' ι' → Zat K H' ι' M' → Rep K H' ι' d v → Q v H'
 | _=>False
noncomputable def tOf (K:PySem.W.Frag) (f:E3):TE:=fun σ H Q=>∃ ι M env,Zat K H ι M ∧ ZbF K H ι env σ ∧ Zam K H ι Q (f env M)
noncomputable def Zhi (K:PySem.W.Frag) (H:Hp) (ι:List Addr) (Q:Bool → Hp → Prop) (r:R3 D):Prop:=match r with
 | .ok (.bl b) M'=>∀ H' ι',Ext K H ι H' ι' → Zat K H' ι' M' → Q b H'
 | _=>False
noncomputable def tTf (K:PySem.W.Frag) (f:E3):TT:=fun σ H Q=>∃ ι M env,Zat K H ι M ∧ ZbF K H ι env σ ∧ Zhi K H ι Q (f env M)
noncomputable def ZlX (K:PySem.W.Frag) (H:Hp) (ι:List Addr) (Q:List V → Hp → Prop) (r:R3 (List D)):Prop:=match r with
 | .ok ds M'=>∀ vs H' ι',Ext K H ι H' ι' → Zat K H' ι' M' → Zab K H' ι' ds vs → Q vs H'
 | _=>False
noncomputable def tAf (K:PySem.W.Frag) (f:EL3):TA:=fun σ H Q=>∃ ι M env,Zat K H ι M ∧ ZbF K H ι env σ ∧ ZlX K H ι Q (f env M)
noncomputable def ZmT (K:PySem.W.Frag) (H:Hp) (ι:List Addr) (Q:Option Int → Hp → Prop) (r:R3 (Option Int)):Prop:=match r with
 | .ok o M'=>∀ H' ι',Ext K H ι H' ι' → Zat K H' ι' M' → Q o H'
 | _=>False
noncomputable def tOo (K:PySem.W.Frag) (f:EO3):TO:=fun σ H Q=>∃ ι M env,Zat K H ι M ∧ ZbF K H ι env σ ∧ ZmT K H ι Q (f env M)
noncomputable def Ze1 (K:PySem.W.Frag) (H:Hp) (ι:List Addr) (E:Ends) (r:O3):Prop:=match r with
 | .nx env' M'=>∀ σ' H' ι',Ext K H ι H' ι' → Zat K H' ι' M' → ZbF K H' ι' env' σ' → E.nx σ' H'
 | .bk env' M'=>∀ σ' H' ι',Ext K H ι H' ι' → Zat K H' ι' M' → ZbF K H' ι' env' σ' → E.bk σ' H'
 | .ct env' M'=>∀ σ' H' ι',Ext K H ι H' ι' → Zat K H' ι' M' → ZbF K H' ι' env' σ' → E.ct σ' H'
 | .rt d M'=>∀ v H' ι',Ext K H ι H' ι' → Zat K H' ι' M' → Rep K H' ι' d v → E.rt v H'
 | _=>False
noncomputable def tSf (K:PySem.W.Frag) (f:S3):TS:=fun E σ H=>∃ ι M env,Zat K H ι M ∧ ZbF K H ι env σ ∧ Ze1 K H ι E (f env M)
noncomputable def C3 (X:Cx) (e:Expr) (f:E3):Prop:=PE X e (tOf X.K f)
noncomputable def CT (X:Cx) (e:Expr) (f:E3):Prop:=PT X e (tTf X.K f)
noncomputable def CA (X:Cx) (es:List Expr) (f:EL3):Prop:=PA X es (tAf X.K f)
noncomputable def CO (X:Cx) (e:Option Expr) (f:EO3):Prop:=PO X e (tOo X.K f)
noncomputable def CS (X:Cx) (st:Stmt) (f:S3):Prop:=PS X st (tSf X.K f)
noncomputable def CSs (X:Cx) (st:List Stmt) (f:S3):Prop:=PSs X st (tSf X.K f)
theorem _root_.L2.PE.imp {X:Cx} {e:Expr} {t t':TE} (h:PE X e t) (i:∀ σ H Q,t' σ H Q → t σ H Q):PE X e t':=fun pins s σ H Q I q=>h pins s σ H Q I (i σ H Q q)
theorem _root_.L2.PT.imp {X:Cx} {e:Expr} {t t':TT} (h:PT X e t) (i:∀ σ H Q,t' σ H Q → t σ H Q):PT X e t':=fun pins s σ H Q I q=>h pins s σ H Q I (i σ H Q q)
theorem _root_.L2.PA.imp {X:Cx} {e:List Expr} {t t':TA} (h:PA X e t) (i:∀ σ H Q,t' σ H Q → t σ H Q):PA X e t':=fun pos pins s σ H Q I q=>h pos pins s σ H Q I (i σ H Q q)
theorem _root_.L2.PO.imp {X:Cx} {e:Option Expr} {t t':TO} (h:PO X e t) (i:∀ σ H Q,t' σ H Q → t σ H Q):PO X e t':=fun pins s σ H Q I q=>h pins s σ H Q I (i σ H Q q)
theorem _root_.L2.PS.imp {X:Cx} {e:Stmt} {t t':TS} (h:PS X e t) (i:∀ D σ H,t' D σ H → t D σ H):PS X e t':=fun pins s σ H D I q=>h pins s σ H D I (i D σ H q)
theorem _root_.L2.PSs.imp {X:Cx} {e:List Stmt} {t t':TS} (h:PSs X e t) (i:∀ D σ H,t' D σ H → t D σ H):PSs X e t':=fun pins s σ H D I q=>h pins s σ H D I (i D σ H q)
theorem _root_.L2.OpR.imp {X:Cx} {f:Value → Value → Sem Value} {r r':R2} (h:OpR X f r) (i:∀ x y H Q,r' x y H Q → r x y H Q):OpR X f r':=fun pins s σ H x y v u Q I rx ry q=>h pins s σ H x y v u Q I rx ry (i x y H Q q)
theorem _root_.L2.UnR.imp {X:Cx} {f:Value → Sem Value} {r r':V → Hp → VK → Prop} (h:UnR X f r) (i:∀ x H Q,r' x H Q → r x H Q):UnR X f r':=fun pins s σ H x v Q I rx q=>h pins s σ H x v Q I rx (i x H Q q)
theorem _root_.L2.Zbd.imp {X:Cx} {f:Value} {r r':List V → Hp → VK → Prop} (h:Zbd X f r) (i:∀ x H Q,r' x H Q → r x H Q):Zbd X f r':=fun pins s σ H xs us Q I rx q=>h pins s σ H xs us Q I rx (i xs H Q q)
theorem _root_.L2.IxR.imp {X:Cx} {r r':R2} (h:IxR X r) (i:∀ x y H Q,r' x y H Q → r x y H Q):IxR X r':=fun value slice pins s σ H x y v u Q I rx ry q hs=>h value slice pins s σ H x y v u Q I rx ry (i x y H Q q) hs
theorem _root_.L2.SlR.imp {X:Cx} {r r':V → Option Int → Option Int → Hp → VK → Prop} (h:SlR X r) (i:∀ x lo hi H Q,r' x lo hi H Q → r x lo hi H Q):SlR X r':=fun pins s σ H x v vl vu lo hi sl Q I rx hs pl pu q=>h pins s σ H x v vl vu lo hi sl Q I rx hs pl pu (i x lo hi H Q q)
section
variable {K:PySem.W.Frag} {H H1:Hp} {ι ι1:List Addr}
theorem Zam.up {Q:VK} {r:R3 D} (e:Ext K H ι H1 ι1) (h:Zam K H ι Q r):Zam K H1 ι1 Q r:=by
 cases r with
 | ok d M=>exact fun v H' ι' e' S r=>h v H' ι' (e.trans e') S r
 | exc x M=>exact h
 | bad=>exact h
theorem Zhi.up {Q:Bool → Hp → Prop} {r:R3 D} (e:Ext K H ι H1 ι1) (h:Zhi K H ι Q r):Zhi K H1 ι1 Q r:=by
 cases r with
 | ok d M=>cases d <;> first | exact h | exact fun H' ι' e' S=>h H' ι' (e.trans e') S
 | exc x M=>exact h
 | bad=>exact h
theorem Ze1.up {Q:Ends} {r:O3} (e:Ext K H ι H1 ι1) (h:Ze1 K H ι Q r):Ze1 K H1 ι1 Q r:=by
 cases r with
 | nx d M=>exact fun v H' ι' e' S r=>h v H' ι' (e.trans e') S r
 | bk d M=>exact fun v H' ι' e' S r=>h v H' ι' (e.trans e') S r
 | ct d M=>exact fun v H' ι' e' S r=>h v H' ι' (e.trans e') S r
 | rt d M=>exact fun v H' ι' e' S r=>h v H' ι' (e.trans e') S r
 | exc x M=>exact h
 | bad=>exact h
theorem Zam.ok {Q:VK} {d:D} {M:Store} {v:V} (h:Zam K H ι Q (.ok d M)) (S:Zat K H ι M) (r:Rep K H ι d v):Q v H:=h v H ι Ext.refl S r
theorem Zam.bind {α:Type} {Q:VK} {r:R3 α} {k:α → Store → R3 D} (h:Zam K H ι Q (r.bind k)):∃ a M,r = .ok a M ∧ Zam K H ι Q (k a M):=by
 cases r with
 | ok a M=>exact ⟨a,M,rfl,h⟩
 | exc x M=>exact h.elim
 | bad=>exact h.elim
theorem ZlX.bind {α:Type} {Q:List V → Hp → Prop} {r:R3 α} {k:α → Store → R3 (List D)} (h:ZlX K H ι Q (r.bind k)):∃ a M,r = .ok a M ∧ ZlX K H ι Q (k a M):=by
 cases r with
 | ok a M=>exact ⟨a,M,rfl,h⟩
 | exc x M=>exact h.elim
 | bad=>exact h.elim
theorem ZmT.bind {α:Type} {Q:Option Int → Hp → Prop} {r:R3 α} {k:α → Store → R3 (Option Int)} (h:ZmT K H ι Q (r.bind k)):∃ a M,r = .ok a M ∧ ZmT K H ι Q (k a M):=by
 cases r with
 | ok a M=>exact ⟨a,M,rfl,h⟩
 | exc x M=>exact h.elim
 | bad=>exact h.elim
theorem Zhi.bind {α:Type} {Q:Bool → Hp → Prop} {r:R3 α} {k:α → Store → R3 D} (h:Zhi K H ι Q (r.bind k)):∃ a M,r = .ok a M ∧ Zhi K H ι Q (k a M):=by
 cases r with
 | ok a M=>exact ⟨a,M,rfl,h⟩
 | exc x M=>exact h.elim
 | bad=>exact h.elim
end
noncomputable def r2 (K:PySem.W.Frag) (op:D → D → Store → R3 D):R2:=fun x y H Q=>∃ ι M a b,Zat K H ι M ∧ Rep K H ι a x ∧ Rep K H ι b y ∧ Zam K H ι Q (op a b M)
noncomputable def r1 (K:PySem.W.Frag) (op:D → Store → R3 D):V → Hp → VK → Prop:=fun x H Q=>∃ ι M a,Zat K H ι M ∧ Rep K H ι a x ∧ Zam K H ι Q (op a M)
noncomputable def rB (K:PySem.W.Frag) (b:List D → Store → R3 D):List V → Hp → VK → Prop:=fun xs H Q=>∃ ι M ds,Zat K H ι M ∧ Zab K H ι ds xs ∧ Zam K H ι Q (b ds M)
noncomputable def rM (K:PySem.W.Frag) (m:D → List D → Store → R3 D):V → List V → Hp → VK → Prop:=fun x xs H Q=>∃ ι M a ds,Zat K H ι M ∧ Rep K H ι a x ∧ Zab K H ι ds xs ∧ Zam K H ι Q (m a ds M)
noncomputable def rS (K:PySem.W.Frag):V → Option Int → Option Int → Hp → VK → Prop:=fun x lo hi H Q=>∃ ι M a,Zat K H ι M ∧ Rep K H ι a x ∧ Zam K H ι Q (Zhx a lo hi M)
theorem Ziw {K:PySem.W.Frag} {op:D → D → Store → R3 D} {f g:E3} (σ:St) (H:Hp) (Q:VK) (h:tOf K (e2 op f g) σ H Q):tOp (r2 K op) (tOf K f) (tOf K g) σ H Q:=by
 obtain ⟨ι,M,env,S,E,h⟩:=h
 obtain ⟨a,M1,e1,h⟩:=Zam.bind h
 obtain ⟨b,M2,e2,h⟩:=Zam.bind h
 refine ⟨ι,M,env,S,E,?_⟩
 rw [e1]
 intro v H1 ι1 x1 S1 r1
 refine ⟨ι1,M1,env,S1,E.mono x1,?_⟩
 rw [e2]
 intro u H2 ι2 x2 S2 r2
 exact ⟨ι2,M2,a,b,S2,r1.mono x2,r2,(h.up x1).up x2⟩
theorem Zqw {K:PySem.W.Frag} {op:D → Store → R3 D} {f:E3} (σ:St) (H:Hp) (Q:VK) (h:tOf K (e1 op f) σ H Q):tUn (r1 K op) (tOf K f) σ H Q:=by
 obtain ⟨ι,M,env,S,E,h⟩:=h
 obtain ⟨a,M1,e1,h⟩:=Zam.bind h
 refine ⟨ι,M,env,S,E,?_⟩
 rw [e1]
 intro v H1 ι1 x1 S1 r1
 exact ⟨ι1,M1,a,S1,r1,h.up x1⟩
section
variable {X:Cx} {a b c e o:Expr} {es:List Expr} {pos p:Pos} {f g h:E3} {gl:EL3}
theorem Ze (i:Nat) {x:Str} (hN:X.N[i]? = some x:=by rfl) (hv:Vis X.env.scope x:=by first | exact Or.inl rfl | exact Or.inr (Or.inl rfl) | exact Or.inr (Or.inr rfl)) (hd:(x == ("__debug__":Str)) = false:=by decide)
  (hcd:(x == ("__classdict__":Str)) = false:=by decide):C3 X (.Name x pos) (Zb i):=(Zqe hN hv hd hcd).imp fun σ H Q zz1=>by
 obtain ⟨ι,M,env,S,E,h⟩:=zz1
 unfold Zb at h
 cases q:env[i]? with
 | none=>rw [q] at h; exact h.elim
 | some od=>
  cases od with
  | none=>rw [q] at h; exact h.elim
  | some d=>
   rw [q] at h
   obtain ⟨v,e1,r⟩:=E.2 i d q
   exact ⟨v,e1,Zam.ok h S r⟩
theorem Zk {i j}:C3 X (.Constant (.int i) j pos) (eC (.int i)):=ZpZ.imp fun σ H Q ⟨ι,M,env,S,E,h⟩=>Zam.ok h S Rep.int
theorem Zg3 {i j}:C3 X (.Constant (.bool i) j pos) (eC (.bl i)):=Zq6.imp fun σ H Q ⟨ι,M,env,S,E,h⟩=>Zam.ok h S Rep.bl
theorem ZhZ {j}:C3 X (.Constant .none j pos) (eC .non):=Zp4.imp fun σ H Q ⟨ι,M,env,S,E,h⟩=>Zam.ok h S Rep.non
theorem ZaM {x:Str} {cs:List Nat} {j} (hx:x = ⟨cs.toArray⟩:=by decide +kernel):C3 X (.Constant (.str x) j pos) (eC (.str cs)):=ZpS.imp fun σ H Q zz1=>by
 obtain ⟨ι,M,env,S,E,h⟩:=zz1
 subst hx
 exact Zam.ok h S Rep.str
theorem Zaa {op:Operator} {q:D → D → Store → R3 D} (ho:OpR X (binaryOp op) (r2 X.K q)) (ha:C3 X a f) (hb:C3 X b g):C3 X (.BinOp a op b pos) (e2 q f g):=(Zrz ho ha hb).imp Ziw
theorem Zgx {op:UnaryOp} {q:D → Store → R3 D} (ho:UnR X (unaryOp op) (r1 X.K q)) (ha:C3 X a f):C3 X (.UnaryOp op a pos) (e1 q f):=(Zsb ho ha).imp Zqw
theorem Zho {op:CmpOp} {q:D → D → Store → R3 D} (ho:OpR X (compareOp op) (r2 X.K q)) (ha:C3 X a f) (hb:C3 X b g) (hm:behindInMarks op b = false:=by rfl):C3 X (.Compare a [op] [b] pos) (e2 q f g):=(ZnO ho ha hb hm).imp Ziw
theorem ZhY {K:PySem.W.Frag} {H:Hp} {ι:List Addr} {Q:Bool → Hp → Prop} {r:R3 D} (h:Zhi K H ι Q r):Zam K H ι (fun x H'=>∃ k,x = .bl k ∧ Q k H') r:=by
 cases r with
 | ok d M=>
  cases d with
  | bl b=>exact fun v H' ι' e S r=>⟨b,r.bl_inv,h H' ι' e S⟩
  | _=>exact h.elim
 | exc x M=>exact h.elim
 | bad=>exact h.elim
theorem ZdP (h:C3 X e f) (he:∀ whole,isTrue e X.env whole = (do let v ← whole; standAt e.pos; holding [v] (truthy v)):=by intro _; rfl):CT X e f:=(ZqJ h he).imp fun σ H Q ⟨ι,M,env,S,E,h⟩=>⟨ι,M,env,S,E,ZhY h⟩
theorem Zai {op:CmpOp} {q:D → D → Store → R3 D} (ho:OpR X (compareOp op) (r2 X.K q)) (ha:C3 X a f) (hb:C3 X b g) (hm:behindInMarks op b = false:=by rfl):CT X (.Compare a [op] [b] pos) (e2 q f g):=
 (Zn9 ho ha hb hm).imp fun σ H Q ⟨ι,M,env,S,E,h⟩=>Ziw σ H _ ⟨ι,M,env,S,E,ZhY h⟩
end
end L3
namespace L3
open PySem PySem.Spec PyProof.Rows L2
section
variable {X:Cx} {a b c e o:Expr} {es rest:List Expr} {pos p:Pos} {f g h:E3} {gl:EL3}
theorem ZrL {op} (h:C3 X a f):C3 X (.BoolOp op [a] pos) f:=ZqB h
theorem Zq5 (ha:C3 X a f) (hb:C3 X (.BoolOp .And (b :: rest) pos) g):C3 X (.BoolOp .And (a :: b :: rest) pos) (Zdt f g):=(ZpA ha hb).imp fun σ H Q zz1=>by
 obtain ⟨ι,M,env,S,E,h⟩:=zz1
 obtain ⟨d,M1,e1,h⟩:=Zam.bind h
 refine ⟨ι,M,env,S,E,?_⟩
 rw [e1]
 intro v H1 ι1 x1 S1 r1
 cases d with
 | bl k=>
  refine ⟨k,r1.bl_inv,?_⟩
  cases k with
  | true=>rw [if_pos rfl]; exact ⟨ι1,M1,env,S1,E.mono x1,h.up x1⟩
  | false=>rw [if_neg (by decide)]; exact Zam.ok (h.up x1) S1 Rep.bl
 | _=>exact h.elim
theorem Zq9 (ha:C3 X a f):C3 X (.UnaryOp .Not a pos) (e1 ZcK f):=(ZqD ha).imp fun σ H Q zz1=>by
 obtain ⟨ι,M,env,S,E,h⟩:=zz1
 obtain ⟨d,M1,e1,h⟩:=Zam.bind h
 refine ⟨ι,M,env,S,E,?_⟩
 rw [e1]
 intro v H1 ι1 x1 S1 r1
 cases d with
 | bl k=>exact ⟨k,r1.bl_inv,Zam.ok (h.up x1) S1 Rep.bl⟩
 | _=>exact h.elim
noncomputable def CW (X:Cx) (e:Expr) (f:E3):Prop:=PW X e (tTf X.K f)
theorem CW.ct (h:CW X e f):CT X e f:=PW.pt h
theorem PW.imp {t t':TT} (h:PW X e t) (i:∀ σ H Q,t' σ H Q → t σ H Q):PW X e t':=fun wh pins s σ H Q I q=>h wh pins s σ H Q I (i σ H Q q)
theorem ZeQ (ha:CT X a f):CW X (.BoolOp .And [a] pos) f:=Zos ha
theorem ZgU (ha:CT X a f):CW X (.BoolOp .Or [a] pos) f:=Zp3 ha
theorem ZfU (ha:CT X a f) (hb:CW X (.BoolOp .And (b :: rest) pos) g):CW X (.BoolOp .And (a :: b :: rest) pos) (Zdt f g):=PW.imp (Zqz ha hb) fun σ H Q zz1=>by
 obtain ⟨ι,M,env,S,E,h⟩:=zz1
 obtain ⟨d,M1,e1,h⟩:=Zhi.bind h
 refine ⟨ι,M,env,S,E,?_⟩
 rw [e1]
 cases d with
 | bl k=>
  intro H1 ι1 x1 S1
  cases k with
  | true=>rw [if_pos rfl]; exact ⟨ι1,M1,env,S1,E.mono x1,h.up x1⟩
  | false=>rw [if_neg (by decide)]; exact h H1 ι1 x1 S1
 | _=>exact h.elim
theorem Zgk (ha:CT X a f) (hb:CW X (.BoolOp .Or (b :: rest) pos) g):CW X (.BoolOp .Or (a :: b :: rest) pos) (eOr f g):=PW.imp (Zrj ha hb) fun σ H Q zz1=>by
 obtain ⟨ι,M,env,S,E,h⟩:=zz1
 obtain ⟨d,M1,e1,h⟩:=Zhi.bind h
 refine ⟨ι,M,env,S,E,?_⟩
 rw [e1]
 cases d with
 | bl k=>
  intro H1 ι1 x1 S1
  cases k with
  | false=>rw [if_neg (by decide)]; exact ⟨ι1,M1,env,S1,E.mono x1,h.up x1⟩
  | true=>rw [if_pos rfl]; exact h H1 ι1 x1 S1
 | _=>exact h.elim
theorem Zfs (ha:CT X a f):CT X (.UnaryOp .Not a pos) (e1 ZcK f):=(Zqj ha).imp fun σ H Q zz1=>by
 obtain ⟨ι,M,env,S,E,h⟩:=zz1
 obtain ⟨d,M1,e1,h⟩:=Zhi.bind h
 refine ⟨ι,M,env,S,E,?_⟩
 rw [e1]
 cases d with
 | bl k=>exact fun H1 ι1 x1 S1=>h H1 ι1 x1 S1
 | _=>exact h.elim
theorem Zrv (hc:CT X c f) (ha:C3 X a g) (hb:C3 X b h):C3 X (.IfExp c a b pos) (eIf f g h):=(ZmY hc ha hb).imp fun σ H Q zz1=>by
 obtain ⟨ι,M,env,S,E,h⟩:=zz1
 obtain ⟨d,M1,e1,h⟩:=Zam.bind h
 refine ⟨ι,M,env,S,E,?_⟩
 rw [e1]
 cases d with
 | bl k=>
  intro H1 ι1 x1 S1
  cases k with
  | true=>rw [if_pos rfl]; exact ⟨ι1,M1,env,S1,E.mono x1,h.up x1⟩
  | false=>rw [if_neg (by decide)]; exact ⟨ι1,M1,env,S1,E.mono x1,h.up x1⟩
 | _=>exact h.elim
theorem Zn:CA X [] Zh:=Zmp.imp fun σ H Q ⟨ι,M,env,S,E,h⟩=>h [] H ι Ext.refl S Zab.nil
theorem Zd (ha:C3 X e f) (hr:CA X es gl) (hs:starEach (e :: es) X.env = (false,eval e X.env) :: starEach es X.env:=by rfl):CA X (e :: es) (Za f gl):=(ZiX ha hr hs).imp fun σ H Q zz1=>by
 obtain ⟨ι,M,env,S,E,h⟩:=zz1
 obtain ⟨d,M1,e1,h⟩:=ZlX.bind h
 obtain ⟨ds,M2,e2,h⟩:=ZlX.bind h
 refine ⟨ι,M,env,S,E,?_⟩
 rw [e1]
 intro v H1 ι1 x1 S1 r1
 refine ⟨ι1,M1,env,S1,E.mono x1,?_⟩
 rw [e2]
 intro vs H2 ι2 x2 S2 r2
 exact h (v :: vs) H2 ι2 (x1.trans x2) S2 (Zab.cons (r1.mono x2) r2)
theorem Zbv {x1} (h:CA X es gl):C3 X (.Tuple es x1 pos) (ZaY gl):=(Zpl h).imp fun σ H Q zz1=>by
 obtain ⟨ι,M,env,S,E,h⟩:=zz1
 obtain ⟨ds,M1,e1,h⟩:=Zam.bind h
 refine ⟨ι,M,env,S,E,?_⟩
 rw [e1]
 intro vs H1 ι1 x1 S1 r1
 by_cases hz:ds.length ≤ SZ
 ·rw [if_pos hz] at h
  refine ⟨by rw [r1.length]; exact Nat.le_trans hz Zcf,fun p hp=>?_⟩
  obtain ⟨x2,S2,r2⟩:=S1.tupl hp r1
  exact h _ _ _ (x1.trans x2) S2 r2
 ·rw [if_neg hz] at h; exact h.elim
theorem ZcI (h:CA X es gl):C3 X (.List es pos) (Zbz gl):=(ZpF h).imp fun σ H Q zz1=>by
 obtain ⟨ι,M,env,S,E,h⟩:=zz1
 obtain ⟨ds,M1,e1,h⟩:=Zam.bind h
 refine ⟨ι,M,env,S,E,?_⟩
 rw [e1]
 intro vs H1 ι1 x1 S1 r1
 by_cases hz:ds.length ≤ SZ
 ·rw [if_pos hz] at h
  refine ⟨by rw [r1.length]; exact Nat.le_trans hz Zcf,fun p hp=>?_⟩
  obtain ⟨x2,S2,r2⟩:=S1.lst hp r1
  exact h _ _ _ (x1.trans x2) S2 r2
 ·rw [if_neg hz] at h; exact h.elim
theorem ZmX {K:PySem.W.Frag} {q:List D → Store → R3 D} (σ:St) (H:Hp) (Q:VK) (h:tOf K (ZaN q gl) σ H Q):tCB (rB K q) (tAf K gl) σ H Q:=by
 obtain ⟨ι,M,env,S,E,h⟩:=h
 obtain ⟨ds,M1,e1,h⟩:=Zam.bind h
 refine ⟨ι,M,env,S,E,?_⟩
 rw [e1]
 intro vs H1 ι1 x1 S1 r1
 exact ⟨ι1,M1,ds,S1,r1,h.up x1⟩
theorem ZcG {x:Str} {id:String} {q:List D → Store → R3 D} (hc:Zbd X (.builtin id) (rB X.K q)) (hm:X.mg x = none) (hv:bootBuiltins x = some (.builtin id)) (ha:CA X (e :: es) gl) (hg:Gl X x:=by rfl) (hn:x ≠ "__name__":=by decide) (hdb:(x == ("__debug__":Str)) = false:=by decide)
  (he:starEach (e :: es) X.env = (false,eval e X.env) :: starEach es X.env:=by rfl) (hpl:(backTo pos (starEach es X.env)).any (·.1) = false:=by rfl):C3 X (.Call (.Name x p) (e :: es) [] pos) (ZaN q gl):=(Zjo hc hg hm hv ha hn hdb he hpl).imp ZmX
theorem ZeK {x:Str} {T:String} {q:List D → Store → R3 D} (hc:Zbd X (.type T) (rB X.K q)) (hm:X.mg x = none) (hv:bootBuiltins x = some (.type T)) (ha:CA X (e :: es) gl) (hg:Gl X x:=by rfl) (hn:x ≠ "__name__":=by decide) (hdb:(x == ("__debug__":Str)) = false:=by decide)
  (he:starEach (e :: es) X.env = (false,eval e X.env) :: starEach es X.env:=by rfl) (hpl:(backTo pos (starEach es X.env)).any (·.1) = false:=by rfl):C3 X (.Call (.Name x p) (e :: es) [] pos) (ZaN q gl):=(ZlB hc hg hm hv ha hn hdb he hpl).imp ZmX
theorem Zy (hr:IxR X (r2 X.K Zi)) (ha:C3 X a f) (hb:C3 X b g) (hs:Zld b:=by exact fun _ _=>rfl):C3 X (.Subscript a b pos) (e2 Zi f g):=(Zrs hr ha hb hs).imp Ziw
theorem ZdG:CO X none Zb8:=Zor.imp fun σ H Q ⟨ι,M,env,S,E,h⟩=>h H ι Ext.refl S
theorem ZdE (h:C3 X e f):CO X (some e) (Zb9 f):=(ZoF h).imp fun σ H Q zz1=>by
 obtain ⟨ι,M,env,S,E,h⟩:=zz1
 obtain ⟨d,M1,e1,h⟩:=ZmT.bind h
 refine ⟨ι,M,env,S,E,?_⟩
 rw [e1]
 intro v H1 ι1 x1 S1 r1
 cases d with
 | int i=>exact ⟨i,r1.int_inv,h H1 ι1 x1 S1⟩
 | _=>exact h.elim
theorem Zi6 {lo hi:Option Expr} {ol oh:EO3} {p2:Pos} (hr:SlR X (rS X.K)) (he:C3 X e f) (hl:CO X lo ol) (hu:CO X hi oh):C3 X (.Subscript e (.Slice lo hi none p2) pos) (eSl f ol oh):=(Znn hr he hl hu).imp fun σ H Q zz1=>by
 obtain ⟨ι,M,env,S,E,h⟩:=zz1
 obtain ⟨d,M1,e1,h⟩:=Zam.bind h
 obtain ⟨l,M2,e2,h⟩:=Zam.bind h
 obtain ⟨u,M3,e3,h⟩:=Zam.bind h
 refine ⟨ι,M,env,S,E,?_⟩
 rw [e1]
 intro v H1 ι1 x1 S1 r1
 refine ⟨ι1,M1,env,S1,E.mono x1,?_⟩
 rw [e2]
 intro H2 ι2 x2 S2
 refine ⟨ι2,M2,env,S2,(E.mono x1).mono x2,?_⟩
 rw [e3]
 intro H3 ι3 x3 S3
 exact ⟨ι3,M3,d,S3,(r1.mono x2).mono x3,((h.up x1).up x2).up x3⟩
theorem Zar:CSs X [] Zas:=Zof.imp fun D σ H ⟨ι,M,env,S,E,h⟩=>h σ H ι Ext.refl S E
theorem Zq {st:Stmt} {u:S3} (h:CS X st u):CSs X [st] u:=ZoA h
theorem Zg {st:Stmt} {sts:List Stmt} {u w:S3} (h1:CS X st u) (h2:CSs X sts w):CSs X (st :: sts) (Zx u w):=(ZmO h1 h2).imp fun D σ H zz1=>by
 obtain ⟨ι,M,env,S,E,h⟩:=zz1
 refine ⟨ι,M,env,S,E,?_⟩
 have h':Ze1 X.K H ι D (match u env M with | .nx env' M'=>w env' M' | o=>o):=h
 cases q:u env M with
 | nx env' M'=>rw [q] at h'; exact fun σ' H' ι' x S' E'=>⟨ι',M',env',S',E',h'.up x⟩
 | _=>rw [q] at h'; exact h'
theorem ZaF {c1:Expr} {x y:List Stmt} {u w:S3} (hc:CT X c1 f) (ha:CSs X x u) (hb:CSs X y w):CS X (.If c1 x y pos) (sIf f u w):=(Zrt hc ha hb).imp fun D σ H zz1=>by
 obtain ⟨ι,M,env,S,E,h⟩:=zz1
 refine ⟨ι,M,env,S,E,?_⟩
 unfold sIf at h
 cases q:f env M with
 | ok d M1=>
  rw [q] at h
  cases d with
  | bl k=>
   intro H1 ι1 x1 S1
   cases k with
   | true=>rw [if_pos rfl]; exact ⟨ι1,M1,env,S1,E.mono x1,h.up x1⟩
   | false=>rw [if_neg (by decide)]; exact ⟨ι1,M1,env,S1,E.mono x1,h.up x1⟩
  | _=>exact h.elim
 | exc x M1=>rw [q] at h; exact h.elim
 | bad=>rw [q] at h; exact h.elim
theorem Zap (h:C3 X e f):CS X (.Return (some e) pos) (Zaw f):=(Zp1 h).imp fun D σ H zz1=>by
 obtain ⟨ι,M,env,S,E,h⟩:=zz1
 refine ⟨ι,M,env,S,E,?_⟩
 unfold Zaw at h
 cases q:f env M with
 | ok d M1=>rw [q] at h; exact h
 | exc x M1=>rw [q] at h; exact h.elim
 | bad=>rw [q] at h; exact h.elim
theorem Zb1 (h:C3 X e f) (hs:swapsWith e none pos.line X.env = pure false:=by rfl):CS X (.Expr e pos) (ZaH f):=(ZnU h hs).imp fun D σ H zz1=>by
 obtain ⟨ι,M,env,S,E,h⟩:=zz1
 refine ⟨ι,M,env,S,E,?_⟩
 unfold ZaH at h
 cases q:f env M with
 | ok d M1=>rw [q] at h; exact fun v H1 ι1 x1 S1 r1=>h σ H1 ι1 x1 S1 (E.mono x1)
 | exc x M1=>rw [q] at h; exact h.elim
 | bad=>rw [q] at h; exact h.elim
theorem Zad (i:Nat) {x:Str} {pos':Pos} (hN:X.N.Nodup) (he:C3 X e f) (hi:X.N[i]? = some x:=by rfl) (hx:Loc X.env.scope x:=by first | exact Or.inl rfl | exact Or.inr rfl) (hs:swapsWith e (some (.Name x pos')) pos.line X.env = pure false:=by rfl)
  (hf:X.fn x = true ∨ X.env.scope.names.lookup x = some .local:=by first | exact .inl rfl | exact .inr rfl):CS X (.Assign [.Name x pos'] e pos) (Zaf i f):=(ZqC hN hi hx he hs hf).imp fun D σ H zz1=>by
 obtain ⟨ι,M,env,S,E,h⟩:=zz1
 refine ⟨ι,M,env,S,E,?_⟩
 unfold Zaf at h
 cases q:f env M with
 | ok d M1=>rw [q] at h; exact fun v H1 ι1 x1 S1 r1=>h _ H1 ι1 x1 S1 ((E.mono x1).set i r1)
 | exc x M1=>rw [q] at h; exact h.elim
 | bad=>rw [q] at h; exact h.elim
theorem ZiM {st:Stmt}:CS X st ZmW:=fun _ _ _ _ _ _ ⟨_,_,_,_,_,h⟩=>h.elim
end
noncomputable def sp3 (K:PySem.W.Frag) (n:Nat) (F:F3):Sp:=fun vs H Q _=>∃ ι M ds,Zat K H ι M ∧ Zab K H ι ds vs ∧ ds.length = n ∧ Zam K H ι Q (F ds M)
section
variable {K:PySem.W.Frag} {H H':Hp} {ι ι':List Addr} {M M':Store}
mutual
theorem Rep.below:∀ {d:D} {v:V},Rep K H ι d v → L3.below ι.length d = true
 | .non,_,_=>rfl
 | .bl _,_,_=>rfl
 | .int _,_,_=>rfl
 | .str _,_,_=>rfl
 | .tup ds,_,h=>by
  obtain ⟨a,vs,_,_,r⟩:=h.tup_inv
  simp only [L3.below]
  exact Zab.belowL (ds:=ds) r
 | .scr ds,_,h=>by
  obtain ⟨a,vs,_,_,r⟩:=h.scr_inv
  simp only [L3.below]
  exact Zab.belowL (ds:=ds) r
 | .ref n,_,h=>by
  obtain ⟨a,q,_⟩:=h.ref_inv
  simp only [L3.below,decide_eq_true_eq]
  exact (List.getElem?_eq_some_iff.mp q).1
theorem Zab.belowL:∀ {ds:List D} {vs:List V},Zab K H ι ds vs → L3.belowL ι.length ds = true
 | [],_,_=>rfl
 | d :: ds,_,h=>by
  obtain ⟨v,ws,_,r,q⟩:=h.cons_inv
  simp only [L3.belowL,Bool.and_eq_true]
  exact ⟨Rep.below (d:=d) r,Zab.belowL (ds:=ds) q⟩
end
mutual
theorem Rep.cut {n:Nat}:∀ {d:D} {v:V},L3.below n d = true → Rep K H ι d v → Rep K H (ι.take n) d v
 | .non,_,_,h=>by simpa [Rep] using h
 | .bl _,_,_,h=>by simpa [Rep] using h
 | .int _,_,_,h=>by simpa [Rep] using h
 | .str _,_,_,h=>by simpa [Rep] using h
 | .tup ds,_,hb,h=>by
  obtain ⟨a,vs,rfl,s,r⟩:=h.tup_inv
  exact Rep.tup s (Zab.cut (ds:=ds) (by simpa only [L3.below] using hb) r)
 | .scr ds,_,hb,h=>by
  obtain ⟨a,vs,rfl,s,r⟩:=h.scr_inv
  simp only [Rep]
  exact ⟨a,vs,rfl,s,Zab.cut (ds:=ds) (by simpa only [L3.below] using hb) r⟩
 | .ref k,_,hb,h=>by
  obtain ⟨a,q,rfl⟩:=h.ref_inv
  refine Rep.ref ?_
  rw [List.getElem?_take_of_lt (by simpa [L3.below] using hb)]
  exact q
theorem Zab.cut {n:Nat}:∀ {ds:List D} {vs:List V},L3.belowL n ds = true → Zab K H ι ds vs → Zab K H (ι.take n) ds vs
 | [],_,_,h=>by simpa [Zab] using h
 | d :: ds,_,hb,h=>by
  obtain ⟨v,ws,rfl,r,q⟩:=h.cons_inv
  simp only [L3.belowL,Bool.and_eq_true] at hb
  exact Zab.cons (Rep.cut (d:=d) hb.1 r) (Zab.cut (ds:=ds) hb.2 q)
end
theorem Zfy.below {m:MO} {a:Addr} (h:Zfy K H ι m a):Zfj ι.length m = true:=by
 cases m with
 | lst xs=>obtain ⟨vs,_,r⟩:=h; exact r.belowL
 | dct kvs=>obtain ⟨ws,_,_,r⟩:=h; exact r.belowL
 | fdct kvs=>obtain ⟨ws,_,_,r⟩:=h; exact r.belowL
 | ins c fs=>
  rcases h with ⟨_,_,gs,_,_,_,r⟩ | ⟨_,_,_,_,rfl⟩
  ·exact r.belowL
  ·rfl
theorem Zfy.cut {n:Nat} {m:MO} {a:Addr} (hb:Zfj n m = true) (h:Zfy K H ι m a):Zfy K H (ι.take n) m a:=by
 cases m with
 | lst xs=>obtain ⟨vs,q,r⟩:=h; exact ⟨vs,q,r.cut hb⟩
 | dct kvs=>obtain ⟨ws,q,r1,r2⟩:=h; exact ⟨ws,q,r1,r2.cut hb⟩
 | fdct kvs=>obtain ⟨ws,q,r1,r2⟩:=h; exact ⟨ws,q,r1,r2.cut hb⟩
 | ins c fs=>
  rcases h with ⟨C,dx,gs,q,c,r1,r2⟩ | h
  ·exact .inl ⟨C,dx,gs,q,c,r1,r2.cut hb⟩
  ·exact .inr h
theorem Zat.cut {n:Nat} (S:Zat K H ι M) (h:(M.take n).all (Zfj n) = true):Zat K H (ι.take n) (M.take n):=by
 refine ⟨by simp [S.len],S.nd.sublist (List.take_sublist _ _),fun k m a h1 h2=>?_⟩
 have hk:k < n:=by
  have:=(List.getElem?_eq_some_iff.mp h1).1
  rw [List.length_take] at this
  exact Nat.lt_of_lt_of_le this (Nat.min_le_left _ _)
 have hb:Zfj n m = true:=List.all_eq_true.mp h m (List.mem_of_getElem? h1)
 rw [List.getElem?_take_of_lt hk] at h1 h2
 exact (S.obj k m a h1 h2).cut hb
theorem ZkG {Q:VK} {d:D} {v:V} (S:Zat K H ι M) (x:Ext K H ι H' ι') (S':Zat K H' ι' M') (r:Rep K H' ι' d v) (h:Zam K H ι Q (ZcU M d M')):Q v H':=by
 unfold ZcU at h
 split at h
 ·rename_i c
  simp only [Bool.and_eq_true,Bool.or_eq_true,decide_eq_true_eq] at c
  have hall:(M'.take M.length).all (Zfj M.length) = true:=by
   rcases c.2 with e | e
   ·rw [e,List.all_eq_true]
    intro m hm
    obtain ⟨n,hn⟩:=List.getElem?_of_mem hm
    obtain ⟨a,q,w⟩:=S.at hn
    rw [← S.len]
    exact w.below
   ·exact e
  refine h v H' (ι'.take M.length) ⟨x.tup,x.scr,fun n a q=>?_,x.frz⟩ (S'.cut hall) (r.cut c.1)
  rw [List.getElem?_take_of_lt (by rw [← S.len]; exact (List.getElem?_eq_some_iff.mp q).1)]
  exact x.pre n a q
 ·exact h v H' ι' x S' r
end
theorem ZbF.start {K:PySem.W.Frag} {H:Hp} {ι:List Addr} {ds:List D} {vs:List V} (r:Zab K H ι ds vs) (n:Nat):ZbF K H ι (ds.map some ++ List.replicate n none) (vs.map some ++ List.replicate n none):=by
 refine ⟨by simp [r.length],fun i d h=>?_⟩
 by_cases hi:i < ds.length
 ·rw [List.getElem?_append_left (by simpa using hi),List.getElem?_map] at h
  cases q:ds[i]? with
  | none=>rw [q] at h; simp at h
  | some d'=>
   rw [q] at h
   simp at h
   subst h
   obtain ⟨v,e,z⟩:=r.get q
   refine ⟨v,?_,z⟩
   rw [List.getElem?_append_left (by simpa [r.length] using hi),List.getElem?_map,e]
   rfl
 ·rw [List.getElem?_append_right (by simpa using hi),List.getElem?_replicate] at h
  split at h <;> simp at h
section
variable {P:Program} {w:World} {K:PySem.W.Frag} {mg:Str → Option Value} {base:Heap}
theorem fn3 {x qual:Str} {st:Stmt} {f:Addr} {fd:FuncData} {N ps:List Str} {k:Nat} {body:S3} (F:Fun K x qual st f fd) (S:Zaq N ps (Zm st))
  (hb:∀ (cdv:Value) (A:Around) (outer:List Env) (s:Shared) (H:Hp) (E:XK),ZbB k (A.deeper (envOfC qual (Zm st) s.heap.objs.size f cdv)) → CSs (ZhM CX0 P w K mg base N qual (Zm st) f cdv A outer s H E).nox (Zah st) body):
  Zdw P w K mg base CX0 (k + 1) f fd ps (sp3 K ps.length (mkF ps.length N.length body)):=by
 refine F.ok S (fun vs H Q E ⟨ι,M,ds,_,r,l,_⟩=>by rw [r.length,l]) fun cdv A outer s H vs Q E hr zz1=>?_
 obtain ⟨ι,M,ds,SR,r,l,h⟩:=zz1
 refine ⟨_,hb cdv A outer s H E hr,ι,M,ds.map some ++ List.replicate (N.length - ps.length) none,SR,?_,?_⟩
 ·have e:L2.start N vs = vs.map some ++ List.replicate (N.length - ps.length) none:=by unfold L2.start; rw [r.length,l]
  rw [e]
  exact ZbF.start r _
 ·unfold mkF at h
  rw [if_pos l] at h
  cases q:body (ds.map some ++ List.replicate (N.length - ps.length) none) M with
  | nx env' M'=>rw [q] at h; exact fun σ' H' ι' x S' E'=>ZkG SR x S' Rep.non h
  | rt d M'=>rw [q] at h; exact fun v H' ι' x S' r'=>ZkG SR x S' r' h
  | bk _ _=>rw [q] at h; exact h.elim
  | ct _ _=>rw [q] at h; exact h.elim
  | exc _ _=>rw [q] at h; exact h.elim
  | bad=>rw [q] at h; exact h.elim
noncomputable def Fn3 (P:Program) (w:World) (K:PySem.W.Frag) (mg:Str → Option Value) (base:Heap) (k:Nat) (x:Str) (ps:List Str) (F:F3):Prop:=
 (∀ ds M,ds.length ≠ ps.length → F ds M = .bad) ∧ ∃ f fd,mg x = some (.ref f) ∧ PySem.W.keepIn K (.ref f) = true ∧ Binds K fd ps [] ∧ Zdw P w K mg base CX0 k f fd ps (sp3 K ps.length F)
noncomputable def Zay (K:PySem.W.Frag) (mg:Str → Option Value) (x:Str) (st:Stmt) (ps:List Str):Prop:=∃ f fd,Fun K x x st f fd ∧ mg x = some (.ref f) ∧ Binds K fd ps []
theorem Fn3.of {x:Str} {st:Stmt} {N ps:List Str} {k:Nat} {body:S3} (d:Zay K mg x st ps) (S:Zaq N ps (Zm st))
  (hb:∀ (f:Addr) (cdv:Value) (A:Around) (outer:List Env) (s:Shared) (H:Hp) (E:XK),ZbB k (A.deeper (envOfC x (Zm st) s.heap.objs.size f cdv)) → CSs (ZhM CX0 P w K mg base N x (Zm st) f cdv A outer s H E).nox (Zah st) body):
  Fn3 P w K mg base (k + 1) x ps (mkF ps.length N.length body):=by
 obtain ⟨f,fd,F,m,bi⟩:=d
 exact ⟨fun ds M h=>if_neg h,f,fd,m,F.kp,bi,fn3 F S (hb f)⟩
end
section
variable {X:Cx} {e:Expr} {es:List Expr} {pos p:Pos} {gl:EL3} {x:Str} {k:Nat} {ps:List Str} {F:F3}
theorem Zaz (G:Fn3 X.prog X.w X.K X.mg X.base k x ps F) (hr:ZbB k X.A) (ha:CA X (e :: es) gl) (hg:Gl X x:=by rfl) (hdb:(x == ("__debug__":Str)) = false:=by decide)
  (he:starEach (e :: es) X.env = (false,eval e X.env) :: starEach es X.env:=by rfl) (hpl:(backTo pos (starEach es X.env)).any (·.1) = false:=by rfl):C3 X (.Call (.Name x p) (e :: es) [] pos) (Zae F gl):=by
 obtain ⟨hn,f,fd,m,kp,bi,ok⟩:=G
 refine (ZoK ok hr hg m kp bi .nil ZkQ ha hdb he hpl).imp fun σ H Q zz1=>?_
 obtain ⟨ι,M,env,S,E,h⟩:=zz1
 obtain ⟨ds,M1,e1,h⟩:=Zam.bind h
 refine ⟨ι,M,env,S,E,?_⟩
 rw [e1]
 intro vs H1 ι1 x1 S1 r1
 have hl:ds.length = ps.length:=by
  refine Decidable.byContradiction fun q=>?_
  rw [hn ds M1 q] at h
  exact h.elim
 exact ⟨ι1,M1,ds,S1,by rw [List.append_nil]; exact r1,hl,h.up x1⟩
end
end L3
namespace L3
open PySem PySem.Spec PyProof.Rows L2
noncomputable def tGf (K:PySem.W.Frag) (g:G3):TG:=fun v σ H Q=>∃ ι M env d env',Zat K H ι M ∧ ZbF K H ι env σ ∧ Rep K H ι d v ∧ g d env = some env' ∧ ∀ σ',ZbF K H ι env' σ' → Q σ' H
noncomputable def tGs (K:PySem.W.Frag) (is:List Nat):TGs:=fun vs σ H Q=>∃ ι M env ds env',Zat K H ι M ∧ ZbF K H ι env σ ∧ Zab K H ι ds vs ∧ bindAll is ds env = some env' ∧ ∀ σ',ZbF K H ι env' σ' → Q σ' H
noncomputable def CG (X:Cx) (tg:Expr) (g:G3):Prop:=PG X tg (tGf X.K g)
noncomputable def CGs (X:Cx) (tg:List Expr) (is:List Nat):Prop:=PGs X tg (tGs X.K is)
theorem PG.imp {X:Cx} {e:Expr} {t t':TG} (h:PG X e t) (i:∀ v σ H Q,t' v σ H Q → t v σ H Q):PG X e t':=fun pins s σ H v u Q I r q=>h pins s σ H v u Q I r (i v σ H Q q)
theorem PGs.imp {X:Cx} {e:List Expr} {t t':TGs} (h:PGs X e t) (i:∀ v σ H Q,t' v σ H Q → t v σ H Q):PGs X e t':=fun pins s σ H v u Q I r q=>h pins s σ H v u Q I r (i v σ H Q q)
section
variable {X:Cx} {e:Expr} {es:List Expr} {pos:Pos}
theorem Zec (i:Nat) {x:Str} (hN:X.N.Nodup) (hi:X.N[i]? = some x:=by rfl) (hx:Loc X.env.scope x:=by first | exact Or.inl rfl | exact Or.inr rfl)
  (hf:X.fn x = true ∨ X.env.scope.names.lookup x = some .local:=by first | exact .inl rfl | exact .inr rfl):CG X (.Name x pos) (ZdT i):=PG.imp (ZkS hN hi hx hf) fun v σ H Q zz1=>by
 obtain ⟨ι,M,env,d,env',S,E,r,q,h⟩:=zz1
 cases q
 exact h _ (E.set i r)
theorem ZgF:CGs X [] []:=PGs.imp ZoJ fun v σ H Q zz1=>by
 obtain ⟨ι,M,env,ds,env',S,E,r,q,h⟩:=zz1
 cases ds with
 | nil=>cases q; exact ⟨r.nil_inv,h σ E⟩
 | cons d ds=>cases q
theorem Zce (i:Nat) {is:List Nat} {x:Str} (hN:X.N.Nodup) (ht:CGs X es is) (hi:X.N[i]? = some x:=by rfl) (hx:Loc X.env.scope x:=by first | exact Or.inl rfl | exact Or.inr rfl)
  (hf:X.fn x = true ∨ X.env.scope.names.lookup x = some .local:=by first | exact .inl rfl | exact .inr rfl) (hs:(assignEach (.Name x pos :: es) X.env).map (·.2) = assign (.Name x pos) X.env :: (assignEach es X.env).map (·.2):=by rfl):
  CGs X (.Name x pos :: es) (i :: is):=PGs.imp (Zmj (ZkS hN hi hx hf) ht hs) fun v σ H Q zz1=>by
 obtain ⟨ι,M,env,ds,env',S,E,r,q,h⟩:=zz1
 cases ds with
 | nil=>cases q
 | cons d ds=>
  obtain ⟨v,ws,rfl,r1,r2⟩:=r.cons_inv
  exact ⟨v,ws,rfl,ι,M,env.set i (some d),ds,env',S,E.set i r1,r2,q,h⟩
theorem ZiG {is:List Nat} {k:Nat} (hc:X.calm = true) (h:CGs X es is) (hl:es.length = is.length:=by rfl) (hn:(assignEach es X.env).length = is.length:=by rfl) (hst:(assignEach es X.env).findIdx? (·.1) = none:=by rfl):CG X (.Tuple es k pos) (Zev is):=
 PG.imp (Zpu (n:=is.length) hc h hn hst) fun v σ H Q zz1=>by
  obtain ⟨ι,M,env,d,env',S,E,r,q,h⟩:=zz1
  cases d with
  | tup ds=>
   obtain ⟨a,vs,rfl,s,r⟩:=r.tup_inv
   have hlen:∀ (is:List Nat) (ds:List D) (env env':Zau),bindAll is ds env = some env' → ds.length = is.length:=by
    intro is
    induction is with
    | nil=>intro ds env env' h; cases ds with | nil=>rfl | cons d ds=>cases h
    | cons i is ih=>intro ds env env' h; cases ds with | nil=>cases h | cons d ds=>simp [ih ds _ _ h]
   exact ⟨a,vs,rfl,s,by rw [r.length]; exact hlen _ _ _ _ q,ι,M,env,ds,env',S,E,r,q,h⟩
  | _=>cases q
end
noncomputable def ZlJ (K:PySem.W.Frag) (H:Hp) (ι:List Addr) (it:It3) (J:It):Prop:=∀ (i:Nat) H2 ι2 M2,Ext K H ι H2 ι2 → Zat K H2 ι2 M2 → locked it M2 = true →
 (∀ d,it.items[i]? = some d → J.go i H2 ∧ ∀ x H3,J.yld i H2 x H3 → H3 = H2 ∧ Rep K H2 ι2 d x) ∧ (i = it.items.length → J.stop i H2)
noncomputable def ZjS (K:PySem.W.Frag) (H:Hp) (ι:List Addr) (R:It → Hp → Prop) (r:R3 It3):Prop:=match r with
 | .ok it M'=>∀ J H' ι',Ext K H ι H' ι' → Zat K H' ι' M' → ZlJ K H' ι' it J → R J H'
 | _=>False
noncomputable def tIf (K:PySem.W.Frag) (g:I3):TI:=fun σ H R=>∃ ι M env,Zat K H ι M ∧ ZbF K H ι env σ ∧ ZjS K H ι R (g env M)
noncomputable def CI (X:Cx) (tg e:Expr) (g:I3):Prop:=PI X tg e (tIf X.K g)
theorem PI.imp {X:Cx} {tg e:Expr} {t t':TI} (h:PI X tg e t) (i:∀ σ H Q,t' σ H Q → t σ H Q):PI X tg e t':=fun pins s σ H Q I q=>h pins s σ H Q I (i σ H Q q)
theorem PI.or {X:Cx} {tg e:Expr} {t t':TI} (h:PI X tg e t) (h':PI X tg e t'):PI X tg e (fun σ H R=>t σ H R ∨ t' σ H R):=fun pins s σ H Q I q=>q.elim (h pins s σ H Q I) (h' pins s σ H Q I)
theorem ZjS.bind {K:PySem.W.Frag} {H:Hp} {ι:List Addr} {α:Type} {Q:It → Hp → Prop} {r:R3 α} {k:α → Store → R3 It3} (h:ZjS K H ι Q (r.bind k)):∃ a M,r = .ok a M ∧ ZjS K H ι Q (k a M):=by
 cases r with
 | ok a M=>exact ⟨a,M,rfl,h⟩
 | exc x M=>exact h.elim
 | bad=>exact h.elim
section
variable {K:PySem.W.Frag} {H:Hp} {ι:List Addr}
end
section
variable {X:Cx} {tg e a b:Expr} {pos p:Pos} {f g:E3}
theorem Zqn (h:C3 X e f) (hs:PI X tg e (fun σ H R=>tOf X.K f σ H fun x H1=>∃ z:Str,x = .str z ∧ z.length ≤ SZ ∧ ∀ J,(∀ ι,ZlJ X.K H1 ι ⟨z.cps.toList.map fun c=>.str [c],none⟩ J) → R J H1)):CI X tg e (ZfV f):=
 PI.imp (PI.or (Zqr h) (PI.or (Zox h) hs)) fun σ H R zz1=>by
  obtain ⟨ι,M,env,S,E,h⟩:=zz1
  obtain ⟨d,M1,e1,h⟩:=ZjS.bind h
  cases d with
  | tup ds=>
   refine .inl ⟨ι,M,env,S,E,?_⟩
   rw [e1]
   intro v H1 ι1 x1 S1 r1
   obtain ⟨a,vs,rfl,s,r⟩:=r1.tup_inv
   refine ⟨a,rfl,⟨vs,s⟩,h _ H1 ι1 x1 S1 ?_⟩
   intro i H2 ι2 M2 x S2 _
   refine ⟨fun d hd=>?_,fun hl=>⟨vs,x.tup _ _ s,by rw [r.length,hl]; exact Nat.le_refl _⟩⟩
   obtain ⟨v,hv,rv⟩:=r.get hd
   refine ⟨⟨vs,v,x.tup _ _ s,hv⟩,fun y H3 hy=>⟨hy.1,?_⟩⟩
   have e:=hy.2 vs (x.tup _ _ s)
   rw [hv] at e
   cases e
   exact rv.mono x
  | scr ds=>
   refine .inr (.inl ⟨ι,M,env,S,E,?_⟩)
   rw [e1]
   intro v H1 ι1 x1 S1 r1
   obtain ⟨a,vs,rfl,s,r⟩:=r1.scr_inv
   refine ⟨a,rfl,⟨vs,s.sq⟩,h _ H1 ι1 x1 S1 ?_⟩
   intro i H2 ι2 M2 x S2 _
   refine ⟨fun d hd=>?_,fun hl=>⟨vs,(x.scr _ _ s).sq,by rw [r.length,hl]; exact Nat.le_refl _⟩⟩
   obtain ⟨v,hv,rv⟩:=r.get hd
   refine ⟨⟨vs,v,(x.scr _ _ s).sq,hv⟩,fun y H3 hy=>⟨hy.1,?_⟩⟩
   have e:=hy.2 vs (x.scr _ _ s).sq
   rw [hv] at e
   cases e
   exact rv.mono x
  | ref n=>
   refine .inr (.inl ⟨ι,M,env,S,E,?_⟩)
   rw [e1]
   intro v H1 ι1 x1 S1 r1
   cases hm:M1[n]? with
   | none=>simp only [hm] at h; exact h.elim
   | some o=>
    cases o with
    | dct kvs=>simp only [hm] at h; exact h.elim
    | fdct kvs=>simp only [hm] at h; exact h.elim
    | ins _ _=>simp only [hm] at h; exact h.elim
    | lst ds=>
     simp only [hm] at h
     obtain ⟨a,ha,rfl⟩:=r1.ref_inv
     obtain ⟨vs,q,r⟩:=S1.obj n _ a hm ha
     refine ⟨a,rfl,⟨vs,SqL.of q⟩,h _ H1 ι1 x1 S1 ?_⟩
     intro i H2 ι2 M2 x S2 lk
     have lk':M2[n]? = some (.lst ds):=of_decide_eq_true lk
     obtain ⟨vs2,q2,r2⟩:=S2.obj n _ a lk' (x.pre _ _ ha)
     refine ⟨fun d hd=>?_,fun hl=>⟨vs2,SqL.of q2,by rw [r2.length,hl]; exact Nat.le_refl _⟩⟩
     obtain ⟨v,hv,rv⟩:=r2.get hd
     refine ⟨⟨vs2,v,SqL.of q2,hv⟩,fun y H3 hy=>⟨hy.1,?_⟩⟩
     have e:=hy.2 vs2 (SqL.of q2)
     rw [hv] at e
     cases e
     exact rv
  | str z=>
   refine .inr (.inr ⟨ι,M,env,S,E,?_⟩)
   rw [e1]
   intro v H1 ι1 x1 S1 r1
   have hv:=r1.str_inv
   subst hv
   by_cases hz:z.length ≤ SZ
   ·simp only [if_pos hz] at h
    refine ⟨_,rfl,by simpa [Str.length] using hz,fun J hJ=>h J H1 ι1 x1 S1 ?_⟩
    simpa using hJ ι1
   ·simp only [if_neg hz] at h; exact h.elim
  | non=>exact h.elim
  | bl b=>exact h.elim
  | int i=>exact h.elim
theorem ZjA {K:PySem.W.Frag} {H:Hp} {ι:List Addr} (lo:Int) (n:Nat):ZlJ K H ι ⟨Zen lo n,none⟩ (Itr lo n):=by
 intro i H2 ι2 M2 x S _
 refine ⟨fun d hd=>?_,fun hl=>?_⟩
 ·unfold Zen at hd
  rw [List.getElem?_map] at hd
  cases q:(List.range n)[i]? with
  | none=>rw [q] at hd; cases hd
  | some k=>
   rw [q] at hd
   obtain ⟨hi,e⟩:=List.getElem?_eq_some_iff.mp q
   rw [List.getElem_range] at e
   subst e
   have hd':D.int (lo + (i:Int)) = d:=by simpa using hd
   subst hd'
   exact ⟨(by show i < n; simpa using hi),fun y H3 hy=>⟨hy.1,by rw [hy.2]; exact Rep.int⟩⟩
 ·show n ≤ i
  rw [hl]
  simp [Zen]
theorem Zlt (hm:X.mg "range" = none) (h:C3 X a f) (hg:Gl X "range":=by rfl) (hs:starEach [a] X.env = [(false,eval a X.env)]:=by rfl) (hs':starEach (a :: []) X.env = (false,eval a X.env) :: starEach [] X.env:=by rfl):CI X tg (.Call (.Name "range" p) [a] [] pos) (ZkW f):=
 PI.imp (ZlV hg hm (Zd h Zn hs') hs) fun σ H R zz1=>by
  obtain ⟨ι,M,env,S,E,h⟩:=zz1
  obtain ⟨d,M1,e1,h⟩:=ZjS.bind h
  refine ⟨ι,M,env,S,E,?_⟩
  have e2:Za f Zh env M = .ok [d] M1:=by unfold Za; rw [e1]; rfl
  rw [e2]
  intro vs H1 ι1 x1 S1 r1
  obtain ⟨v,ws,rfl,r,q⟩:=r1.cons_inv
  have:=q.nil_inv
  subst this
  cases d with
  | int j=>
   have hv:=r.int_inv
   subst hv
   by_cases hj:j ≤ 1000000 ∧ -1000000 ≤ j
   ·simp only [if_pos hj] at h
    exact ⟨j,rfl,by omega,by omega,h _ H1 ι1 x1 S1 (ZjA 0 j.toNat)⟩
   ·simp only [if_neg hj] at h; exact h.elim
  | _=>exact h.elim
theorem Zln (hm:X.mg "range" = none) (h:C3 X a f) (h':C3 X b g) (hg:Gl X "range":=by rfl) (hs:starEach [a,b] X.env = [(false,eval a X.env),(false,eval b X.env)]:=by rfl) (hs2:starEach [b] X.env = [(false,eval b X.env)]:=by rfl)
  (hs':starEach (b :: []) X.env = (false,eval b X.env) :: starEach [] X.env:=by rfl) (hs3:starEach (a :: [b]) X.env = (false,eval a X.env) :: starEach [b] X.env:=by rfl):CI X tg (.Call (.Name "range" p) [a,b] [] pos) (ZeX f g):=
 PI.imp (ZlR hg hm (Zd h (Zd h' Zn hs') hs3) hs hs2) fun σ H R zz1=>by
  obtain ⟨ι,M,env,S,E,h⟩:=zz1
  obtain ⟨d,M1,e1,h⟩:=ZjS.bind h
  obtain ⟨d',M2,e2,h⟩:=ZjS.bind h
  refine ⟨ι,M,env,S,E,?_⟩
  have e3:Za f (Za g Zh) env M = .ok [d,d'] M2:=by
   unfold Za
   rw [e1]
   show ((Za g Zh env M1).bind _) = _
   unfold Za
   rw [e2]
   rfl
  rw [e3]
  intro vs H1 ι1 x1 S1 r1
  obtain ⟨v,ws,rfl,r,q⟩:=r1.cons_inv
  obtain ⟨v',ws',rfl,r',q⟩:=q.cons_inv
  have:=q.nil_inv
  subst this
  cases d with
  | int i=>
   cases d' with
   | int j=>
    have hv:=r.int_inv
    have hv':=r'.int_inv
    subst hv hv'
    by_cases hj:(j ≤ 1000000 ∧ -1000000 ≤ j) ∧ (i ≤ 1000000 ∧ -1000000 ≤ i)
    ·simp only [if_pos hj] at h
     exact ⟨i,j,rfl,⟨by omega,by omega,by omega,by omega⟩,h _ H1 ι1 x1 S1 (ZjA i (j - i).toNat)⟩
    ·simp only [if_neg hj] at h; exact h.elim
   | _=>exact h.elim
  | _=>exact h.elim
theorem ZiH {iter:Expr} {body:List Stmt} {i:I3} {g:G3} {u:S3} (hxe:X.xe = fun _ _=>False) (hc:X.calm = true) (hi:CI X tg iter i) (hg:CG X tg g) (hb:CSs X body u) (hs:∀ x,foldedSetIterable iter X.env x = pure x:=by intro _; rfl):
  CS X (.For tg iter body [] pos) (Zhb i g u):=(Zmt (by rw [hxe]; exact PassesOwn.never) hc hi hg hb hs).imp fun D σ H zz1=>by
 obtain ⟨ι,M,env,S,E,h⟩:=zz1
 unfold Zhb at h
 cases q:i env M with
 | exc x M1=>rw [q] at h; exact h.elim
 | bad=>rw [q] at h; exact h.elim
 | ok it M1=>
  rw [q] at h
  refine ⟨ι,M,env,S,E,?_⟩
  rw [q]
  intro J H1 ι1 x1 S1 ok
  refine ⟨fun i m σ2 H2=>m = it.items.length - i ∧ i ≤ it.items.length ∧ ∃ ι2 M2 env2,Ext X.K H1 ι1 H2 ι2 ∧ Zat X.K H2 ι2 M2 ∧ ZbF X.K H2 ι2 env2 σ2 ∧ Ze1 X.K H2 ι2 D (ZcV it g u (it.items.drop i) env2 M2),
   ⟨_,rfl,Nat.zero_le _,ι1,M1,env,Ext.refl,S1,E.mono x1,Ze1.up x1 h⟩,?_⟩
  rintro i m σ2 H2 ⟨rfl,hi,ι2,M2,env2,x2,S2,E2,h2⟩
  by_cases hlt:i < it.items.length
  ·have hd:it.items[i]? = some it.items[i]:=by simp [hlt]
   rw [List.drop_eq_getElem_cons hlt] at h2
   unfold ZcV at h2
   by_cases lk:locked it M2 = true
   ·rw [if_pos lk] at h2
    obtain ⟨go,yl⟩:=(ok i H2 ι2 M2 x2 S2 lk).1 _ hd
    cases eg:g it.items[i] env2 with
    | none=>rw [eg] at h2; exact h2.elim
    | some env3=>
     rw [eg] at h2
     refine .inr ⟨go,fun σ' H'=>∃ ι3 M3 env4,Ext X.K H2 ι2 H' ι3 ∧ Zat X.K H' ι3 M3 ∧ ZbF X.K H' ι3 env4 σ' ∧ Ze1 X.K H' ι3 D (ZcV it g u (it.items.drop (i + 1)) env4 M3),
      fun σ' H' ⟨ι3,M3,env4,x3,S3,E3,h3⟩=>⟨it.items.length - (i + 1),lD 2 0x30113c2012a1c0c21 T1 (Nat.sub_add_cancel (lB 1 6991908881 T1 hlt)) (sbA _ _),rfl,hlt,ι3,M3,env4,x2.trans x3,S3,E3,h3⟩,fun x H' hy=>?_⟩
     obtain ⟨rfl,rx⟩:=yl x H' hy
     refine ⟨ι2,M2,env2,_,env3,S2,E2,rx,eg,fun σ' E'=>⟨ι2,M2,env3,S2,E',?_⟩⟩
     cases qu:u env3 M2 with
     | nx e' M'=>simp only [qu] at h2; exact fun σ' H' ι' x' S' E'=>⟨ι',M',e',x',S',E',h2.up x'⟩
     | ct e' M'=>simp only [qu] at h2; exact fun σ' H' ι' x' S' E'=>⟨ι',M',e',x',S',E',h2.up x'⟩
     | bk e' M'=>simp only [qu] at h2; exact h2
     | rt d M'=>simp only [qu] at h2; exact h2
     | exc x' M'=>simp only [qu] at h2; exact h2.elim
     | bad=>simp only [qu] at h2; exact h2.elim
   ·rw [if_neg lk] at h2; exact h2.elim
  ·have e0:i = it.items.length:=Nat.le_antisymm hi (Nat.le_of_not_lt hlt)
   subst e0
   rw [List.drop_length] at h2
   unfold ZcV at h2
   by_cases lk:locked it M2 = true
   ·rw [if_pos lk] at h2
    exact .inl ⟨(ok _ H2 ι2 M2 x2 S2 lk).2 rfl,h2 σ2 H2 ι2 Ext.refl S2 E2⟩
   ·rw [if_neg lk] at h2; exact h2.elim
theorem ZfN {c1:Expr} {body:List Stmt} {u:S3} (hxe:X.xe = fun _ _=>False) (hc:CT X c1 f) (hb:CSs X body u):CS X (.While c1 body [] pos) (Zf6 f u):=(ZmN (by rw [hxe]; exact PassesOwn.never) hc hb).imp fun D σ H zz1=>by
 obtain ⟨ι,M,env,S,E,h⟩:=zz1
 refine ⟨fun m σ2 H2=>∃ ι2 M2 env2,Zat X.K H2 ι2 M2 ∧ ZbF X.K H2 ι2 env2 σ2 ∧ Ze1 X.K H2 ι2 D (ZbQ f u m env2 M2),⟨1000000,ι,M,env,S,E,h⟩,?_⟩
 rintro m σ2 H2 ⟨ι2,M2,env2,S2,E2,h2⟩
 cases m with
 | zero=>exact h2.elim
 | succ m=>
  refine ⟨ι2,M2,env2,S2,E2,?_⟩
  unfold ZbQ at h2
  cases q:f env2 M2 with
  | exc x M1=>rw [q] at h2; exact h2.elim
  | bad=>rw [q] at h2; exact h2.elim
  | ok d M1=>
   rw [q] at h2
   cases d with
   | bl k=>
    cases k with
    | false=>
     intro H3 ι3 x3 S3
     rw [if_neg (by decide)]
     exact h2 σ2 H3 ι3 x3 S3 (E2.mono x3)
    | true=>
     intro H3 ι3 x3 S3
     rw [if_pos rfl]
     refine ⟨fun σ' H'=>∃ ι4 M4 env4,Zat X.K H' ι4 M4 ∧ ZbF X.K H' ι4 env4 σ' ∧ Ze1 X.K H' ι4 D (ZbQ f u m env4 M4),fun σ' H' q=>⟨m,Nat.lt_succ_self _,q⟩,ι3,M1,env2,S3,E2.mono x3,?_⟩
     have h3:=Ze1.up x3 h2
     cases qu:u env2 M1 with
     | nx e' M'=>simp only [qu] at h3; exact fun σ' H' ι' x' S' E'=>⟨ι',M',e',S',E',h3.up x'⟩
     | ct e' M'=>simp only [qu] at h3; exact fun σ' H' ι' x' S' E'=>⟨ι',M',e',S',E',h3.up x'⟩
     | bk e' M'=>simp only [qu] at h3; exact h3
     | rt d M'=>simp only [qu] at h3; exact h3
     | exc x' M'=>simp only [qu] at h3; exact h3.elim
     | bad=>simp only [qu] at h3; exact h3.elim
   | _=>exact h2.elim
end
end L3
namespace L3
open PySem PySem.Spec PyProof.Rows L2
theorem Rep.non_iff {K:PySem.W.Frag} {H:Hp} {ι:List Addr} {d:D} {v:V} (r:Rep K H ι d v):decide (v = V.non) = decide (d = D.non):=by
 cases d with
 | non=>rw [r.non_inv]; rfl
 | bl b=>rw [r.bl_inv]; simp
 | int i=>rw [r.int_inv]; simp
 | str x=>rw [r.str_inv]; simp
 | tup ds=>obtain ⟨a,vs,rfl,_⟩:=r.tup_inv; simp
 | scr ds=>obtain ⟨a,vs,rfl,_⟩:=r.scr_inv; simp
 | ref n=>obtain ⟨a,_,rfl⟩:=r.ref_inv; simp
theorem Zfu {x y:List Nat}:decide (V.str ⟨x.toArray⟩ = V.str ⟨y.toArray⟩) = (x == y):=by
 by_cases h:x = y
 ·subst h; simp
 ·rw [decide_eq_false (fun e=>h (by injection e with e1; injection e1 with e2; simpa using congrArg Array.toList e2))]
  exact (beq_eq_false_iff_ne.mpr h).symm
section
variable {X:Cx}
theorem ZnB:OpR X (binaryOp .Add) (fun x y H Q=>∃ a b ys,x = .ref a ∧ y = .ref b ∧ SqT X.K H a [] ∧ SqT X.K H b ys ∧ Q (.ref b) H):=by
 intro pins s σ H x y v u Q I rx ry h
 obtain ⟨a,b,ys,rfl,rfl,ha,hb,q⟩:=h
 cases rx
 cases ry
 obtain ⟨its,r1,p1,_⟩:=I.tuple ha
 obtain ⟨its2,r2,p2,_⟩:=I.tuple hb
 cases r1
 obtain ⟨⟨cls,dd,data,sl⟩,ho,hc,n,hd⟩:=id p1
 obtain ⟨⟨cls2,dd2,data2,sl2⟩,ho2,hc2,n2,hd2⟩:=id p2
 simp only at hc hd hc2 hd2
 subst hc hd hc2 hd2
 exact concat_meets ⟨_,ho,rfl⟩ ⟨_,ho2,rfl⟩ noFill_tuple_add seq_tuple_add PySem.F.slot_tuple_add PySem.F.entry_tuple_add (PySem.F.args_tuple_add_2 _ _)
   (tuple_addW0 a b _ its2.toArray n n2 dd dd2 sl sl2 (by simp)) ⟨ho,ho2,⟨.ref b,H,I,rfl,q⟩⟩
theorem Zn3 (x y:List Nat):(⟨x.toArray⟩:Str) ++ ⟨y.toArray⟩ = ⟨(x ++ y).toArray⟩:=by
 show Str.append _ _ = _
 unfold Str.append
 simp
theorem Za4:OpR X (binaryOp .Add) (r2 X.K Zak):=OpR.imp (OpR.or ZpQ (OpR.or ZjZ (OpR.or Zqx (OpR.or Zop ZnB)))) fun x y H Q zz1=>by
 obtain ⟨ι,M,a,b,S,ra,rb,h⟩:=zz1
 cases a with
 | int i=>cases b with
  | int j=>exact .inl ⟨i,j,ra.int_inv,rb.int_inv,Zam.ok h S Rep.int⟩
  | _=>exact h.elim
 | str x=>cases b with
  | str y=>
   simp only [Zak] at h
   split at h
   ·rename_i hz
    refine .inr (.inl ⟨_,_,ra.str_inv,rb.str_inv,?_,?_⟩)
    ·have:=Zcf
     simp only [Str.length,List.size_toArray]
     exact Nat.le_trans hz this
    ·rw [Zn3]; exact Zam.ok h S Rep.str
   ·exact h.elim
  | _=>exact h.elim
 | tup x=>cases b with
  | tup y=>
   simp only [Zak] at h
   split at h
   ·rename_i hz
    obtain ⟨p,vs,rfl,s,r⟩:=ra.tup_inv
    obtain ⟨q,ws,rfl,s',r'⟩:=rb.tup_inv
    by_cases hv:vs = []
    ·subst hv
     have hx:x = []:=by have:=r.length; simpa using this.symm
     subst hx
     exact .inr (.inr (.inr (.inr ⟨p,q,ws,rfl,rfl,s,s',Zam.ok h S (Rep.tup s' r')⟩)))
    ·refine .inr (.inr (.inr (.inl ⟨p,q,vs,ws,rfl,rfl,s,s',hv,?_,fun hw=>?_,fun hw p' hp=>?_⟩)))
     ·have:=Zcf
      rw [r.length,r'.length]
      exact Nat.le_trans hz this
     ·subst hw
      have hy:y = []:=by have:=r'.length; simpa using this.symm
      subst hy
      rw [List.append_nil] at h
      exact Zam.ok h S (Rep.tup s r)
     ·obtain ⟨x2,S2,r2⟩:=S.tupl hp (r.append r')
      exact h _ _ _ x2 S2 r2
   ·exact h.elim
  | _=>exact h.elim
 | ref n=>cases b with
  | ref m=>
   simp only [Zak] at h
   cases hn:M[n]? with
   | none=>simp only [hn] at h; exact h.elim
   | some o=>
    cases o with
    | dct _=>simp only [hn] at h; exact h.elim
    | fdct _=>simp only [hn] at h; exact h.elim
    | ins _ _=>simp only [hn] at h; exact h.elim
    | lst x=>
     cases hm:M[m]? with
     | none=>simp only [hn,hm] at h; exact h.elim
     | some o=>
      cases o with
      | dct _=>simp only [hn,hm] at h; exact h.elim
      | fdct _=>simp only [hn,hm] at h; exact h.elim
      | ins _ _=>simp only [hn,hm] at h; exact h.elim
      | lst y=>
       simp only [hn,hm] at h
       split at h
       ·rename_i hz
        obtain ⟨p,hp,rfl⟩:=ra.ref_inv
        obtain ⟨q,hq,rfl⟩:=rb.ref_inv
        obtain ⟨vs,e1,r1⟩:=S.obj n _ p hn hp
        obtain ⟨ws,e2,r2⟩:=S.obj m _ q hm hq
        refine .inr (.inr (.inl ⟨p,q,vs,ws,rfl,rfl,e1,e2,?_,fun p' hp'=>?_⟩))
        ·have:=Zcf
         rw [r1.length,r2.length]
         exact Nat.le_trans hz this
        ·obtain ⟨x2,S2,r3⟩:=S.lst hp' (r1.append r2)
         exact h _ _ _ x2 S2 r3
       ·exact h.elim
  | _=>exact h.elim
 | _=>cases b <;> exact h.elim
theorem Ze3:OpR X (binaryOp .Sub) (r2 X.K ZbU):=OpR.imp ZpC fun x y H Q zz1=>by
 obtain ⟨ι,M,a,b,S,ra,rb,h⟩:=zz1
 cases a <;> cases b <;> first | exact h.elim | exact ⟨_,_,ra.int_inv,rb.int_inv,Zam.ok h S Rep.int⟩
theorem Zby:OpR X (binaryOp .Mod) (r2 X.K Zan):=OpR.imp ZpM fun x y H Q zz1=>by
 obtain ⟨ι,M,a,b,S,ra,rb,h⟩:=zz1
 cases a with
 | int i=>cases b with
  | int j=>
   simp only [Zan] at h
   split at h
   ·rename_i hj
    exact ⟨i,j,ra.int_inv,rb.int_inv,hj,Zam.ok h S Rep.int⟩
   ·exact h.elim
  | _=>exact h.elim
 | _=>cases b <;> exact h.elim
theorem Zbg:OpR X (binaryOp .FloorDiv) (r2 X.K Zag):=OpR.imp ZnS fun x y H Q zz1=>by
 obtain ⟨ι,M,a,b,S,ra,rb,h⟩:=zz1
 cases a with
 | int i=>cases b with
  | int j=>
   simp only [Zag] at h
   split at h
   ·rename_i hj
    exact ⟨i,j,ra.int_inv,rb.int_inv,hj,Zam.ok h S Rep.int⟩
   ·exact h.elim
  | _=>exact h.elim
 | _=>cases b <;> exact h.elim
theorem Zk3:OpR X (binaryOp .Pow) (r2 X.K ZcY):=OpR.imp Zqp fun x y H Q zz1=>by
 obtain ⟨ι,M,a,b,S,ra,rb,h⟩:=zz1
 cases a with
 | int i=>cases b with
  | int j=>
   simp only [ZcY] at h
   split at h
   ·rename_i hj
    exact ⟨i,j,ra.int_inv,rb.int_inv,⟨hj.1,iN [] [_] 1 0xf42405b083e83b081 T1 hj.2.1,by have:=hj.2.2; omega⟩,Zam.ok h S Rep.int⟩
   ·exact h.elim
  | _=>exact h.elim
 | _=>cases b <;> exact h.elim
theorem Zeu:UnR X (unaryOp .USub) (r1 X.K Zba):=UnR.imp ZpW fun x H Q zz1=>by
 obtain ⟨ι,M,a,S,ra,h⟩:=zz1
 cases a with
 | int i=>exact ⟨i,ra.int_inv,Zam.ok h S Rep.int⟩
 | _=>exact h.elim
theorem Zj2:OpR X (compareOp .Lt) (r2 X.K Zfv):=OpR.imp Zrc fun x y H Q zz1=>by
 obtain ⟨ι,M,a,b,S,ra,rb,h⟩:=zz1
 cases a <;> cases b <;> first | exact h.elim | exact ⟨_,_,ra.int_inv,rb.int_inv,Zam.ok h S Rep.bl⟩
theorem Zr6:OpR X (compareOp .LtE) (r2 X.K ZiP):=OpR.imp Zq8 fun x y H Q zz1=>by
 obtain ⟨ι,M,a,b,S,ra,rb,h⟩:=zz1
 cases a <;> cases b <;> first | exact h.elim | exact ⟨_,_,ra.int_inv,rb.int_inv,Zam.ok h S Rep.bl⟩
theorem Zix:OpR X (compareOp .Gt) (r2 X.K Zey):=OpR.imp Zra fun x y H Q zz1=>by
 obtain ⟨ι,M,a,b,S,ra,rb,h⟩:=zz1
 cases a <;> cases b <;> first | exact h.elim | exact ⟨_,_,ra.int_inv,rb.int_inv,Zam.ok h S Rep.bl⟩
theorem ZsS:OpR X (compareOp .GtE) (r2 X.K ZrM):=OpR.imp Zr4 fun x y H Q zz1=>by
 obtain ⟨ι,M,a,b,S,ra,rb,h⟩:=zz1
 cases a <;> cases b <;> first | exact h.elim | exact ⟨_,_,ra.int_inv,rb.int_inv,Zam.ok h S Rep.bl⟩
theorem Zip:OpR X (compareOp .IsNot) (r2 X.K Zdd):=OpR.imp ZnY fun x y H Q zz1=>by
 obtain ⟨ι,M,a,b,S,ra,rb,h⟩:=zz1
 cases b with
 | non=>exact ⟨rb.non_inv,by rw [ra.non_iff]; exact Zam.ok h S Rep.bl⟩
 | _=>exact h.elim
end
theorem units_in1 (A:Around):A.in1.units = A.units + 1:=rfl
section
variable {X:Cx} {pins:List (Addr × Obj)} {σ:St} {H:Hp} {s:Shared} {ι:List Addr}
theorem ZcA {e:Nat → Bool}:∀ {x y:List D},x.length = y.length → (∀ (j:Nat) a b,x[j]? = some a → y[j]? = some b → e j = deq a b) → (List.range x.length).all e = ZbV x y:=by
 intro x
 induction x generalizing e with
 | nil=>intro y h _; cases y with | nil=>rfl | cons _ _=>simp at h
 | cons a x ih=>
  intro y h he
  cases y with
  | nil=>simp at h
  | cons b y=>
   rw [List.length_cons,List.range_succ_eq_map,List.all_cons,List.all_map,he 0 a b rfl rfl]
   rw [ZbV]
   congr 1
   exact ih (e:=e ∘ Nat.succ) (by simpa using h) fun j a' b' h1 h2=>he (j + 1) a' b' (by simpa using h1) (by simpa using h2)
theorem Zd6:∀ {x y:List D},ZbV x y = true → x.length = y.length
 | [],[],_=>rfl
 | [],_ :: _,h=>by simp [ZbV] at h
 | _ :: _,[],h=>by simp [ZbV] at h
 | a :: x,b :: y,h=>by
  simp only [ZbV,Bool.and_eq_true] at h
  simp [Zd6 h.2]
theorem Rep.fun1 (I:Inv X pins σ H s):∀ (n:Nat) (a b:D) (v:V),Zax n a = true → Zax n b = true → Rep X.K H ι a v → Rep X.K H ι b v → deq a b = true:=by
 intro n
 induction n with
 | zero=>
  intro a b v ha hb r q
  cases a with
  | non=>have:=r.non_inv; subst this; cases b <;> simp_all [Zax,Rep,deq]
  | bl x=>have:=r.bl_inv; subst this; cases b <;> simp_all [Zax,Rep,deq]
  | int x=>have:=r.int_inv; subst this; cases b <;> simp_all [Zax,Rep,deq]
  | str x=>have:=r.str_inv; subst this; cases b <;> simp_all [Zax,Rep,deq]
  | _=>simp [Zax] at ha
 | succ n ih=>
  intro a b v ha hb r q
  cases a with
  | non=>have:=r.non_inv; subst this; cases b <;> simp_all [Zax,Rep,deq]
  | bl x=>have:=r.bl_inv; subst this; cases b <;> simp_all [Zax,Rep,deq]
  | int x=>have:=r.int_inv; subst this; cases b <;> simp_all [Zax,Rep,deq]
  | str x=>have:=r.str_inv; subst this; cases b <;> simp_all [Zax,Rep,deq]
  | tup ds=>
   obtain ⟨p,vs,rfl,s1,r1⟩:=r.tup_inv
   cases b with
   | tup es=>
    obtain ⟨p',ws,e,s2,r2⟩:=q.tup_inv
    cases e
    have e:=I.tuple_inj s1 s2
    subst e
    rw [deq]
    have h1:ds.all (Zax n) = true:=ha
    have h2:es.all (Zax n) = true:=hb
    have key:∀ (ds es:List D) (vs:List V),ds.all (Zax n) = true → es.all (Zax n) = true → Zab X.K H ι ds vs → Zab X.K H ι es vs → ZbV ds es = true:=by
     intro ds
     induction ds with
     | nil=>intro es vs _ _ r1 r2; have:=r1.nil_inv; subst this; cases es with | nil=>rfl | cons _ _=>obtain ⟨_,_,e,_⟩:=r2.cons_inv; cases e
     | cons d ds ih2=>
      intro es vs h1 h2 r1 r2
      obtain ⟨v,ws,rfl,q1,q2⟩:=r1.cons_inv
      cases es with
      | nil=>have:=r2.nil_inv; cases this
      | cons e es=>
       obtain ⟨v',ws',z,q3,q4⟩:=r2.cons_inv
       cases z
       rw [List.all_cons,Bool.and_eq_true] at h1 h2
       rw [ZbV,ih d e v h1.1 h2.1 q1 q3,ih2 es ws h1.2 h2.2 q2 q4]
       rfl
    exact key ds es vs h1 h2 r1 r2
   | non=>have:=q.non_inv; cases this
   | bl _=>have:=q.bl_inv; cases this
   | int _=>have:=q.int_inv; cases this
   | str _=>have:=q.str_inv; cases this
   | _=>simp [Zax] at hb
  | _=>simp [Zax] at ha
theorem Zdl (A:Around) (a b:D) (x y:V) (u v:Value) (ha:ZaT a = true) (hb:ZaT b = true) (ra:Rep X.K H ι a x) (rb:Rep X.K H ι b y) (ru:RelV x u) (rv:RelV y v):SeqAt.EqAt A s u v (deq a b):=by
 cases a with
 | non=>have:=ra.non_inv; subst this; cases ru; cases b with
  | non=>have:=rb.non_inv; subst this; cases rv; exact SeqAt.EqAt.same _
  | bl k=>have:=rb.bl_inv; subst this; cases rv; exact SeqAt.EqAt.none_bool _
  | int k=>have:=rb.int_inv; subst this; obtain ⟨t,rfl⟩:=rv; exact SeqAt.EqAt.none_int _ _
  | str k=>have:=rb.str_inv; subst this; obtain ⟨t,rfl⟩:=rv; exact SeqAt.EqAt.none_str _ _
  | _=>simp [ZaT] at hb
 | bl i=>have:=ra.bl_inv; subst this; cases ru; cases b with
  | non=>have:=rb.non_inv; subst this; cases rv; exact SeqAt.EqAt.bool_none _
  | bl k=>have:=rb.bl_inv; subst this; cases rv; exact SeqAt.EqAt.bool_bool _ _
  | int k=>have:=rb.int_inv; subst this; obtain ⟨t,rfl⟩:=rv; exact SeqAt.EqAt.bool_int _ _ _
  | str k=>have:=rb.str_inv; subst this; obtain ⟨t,rfl⟩:=rv; exact SeqAt.EqAt.bool_str _ _ _
  | _=>simp [ZaT] at hb
 | int i=>have:=ra.int_inv; subst this; obtain ⟨t0,rfl⟩:=ru; cases b with
  | non=>have:=rb.non_inv; subst this; cases rv; exact SeqAt.EqAt.int_none _ _
  | bl k=>have:=rb.bl_inv; subst this; cases rv; exact SeqAt.EqAt.int_bool _ _ _
  | int k=>have:=rb.int_inv; subst this; obtain ⟨t,rfl⟩:=rv; exact SeqAt.EqAt.int_int _ _ _ _
  | str k=>have:=rb.str_inv; subst this; obtain ⟨t,rfl⟩:=rv; exact SeqAt.EqAt.int_str _ _ _ _
  | _=>simp [ZaT] at hb
 | str i=>have:=ra.str_inv; subst this; obtain ⟨t0,rfl⟩:=ru; cases b with
  | non=>have:=rb.non_inv; subst this; cases rv; exact SeqAt.EqAt.str_none _ _
  | bl k=>have:=rb.bl_inv; subst this; cases rv; exact SeqAt.EqAt.str_bool _ _ _
  | int k=>have:=rb.int_inv; subst this; obtain ⟨t,rfl⟩:=rv; exact SeqAt.EqAt.str_int _ _ _ _
  | str k=>have:=rb.str_inv; subst this; obtain ⟨t,rfl⟩:=rv; exact (by
    have e:deq (.str i) (.str k) = ((⟨i.toArray⟩:Str) == ⟨k.toArray⟩):=by
     rw [deq,← Zfu]
     by_cases h:(⟨i.toArray⟩:Str) = ⟨k.toArray⟩
     ·simp [h]
     ·simp [h]
    rw [e]
    exact SeqAt.EqAt.str_str _ _ _ _)
  | _=>simp [ZaT] at hb
 | _=>simp [ZaT] at ha
theorem ZiE (I:Inv X pins σ H s):∀ (n:Nat) (A:Around) (a b:D) (x y:V) (u v:Value),A.units + n + 1 < cLine → Zax n a = true → Zax n b = true → Rep X.K H ι a x → Rep X.K H ι b y → RelV x u → RelV y v → SeqAt.EqAt A s u v (deq a b):=by
 intro n
 induction n with
 | zero=>
  intro A a b x y u v hu ha hb ra rb ru rv
  have f:∀ d:D,Zax 0 d = true → ZaT d = true:=fun d h=>by cases d <;> simp_all [Zax,ZaT]
  exact Zdl A a b x y u v (f a ha) (f b hb) ra rb ru rv
 | succ n ih=>
  intro A a b x y u v hu ha hb ra rb ru rv
  have hu0:A.units + 0 + 1 < cLine:=lC 1 0x2ae0cc12aa1c0cc11 T1 hu
  have hu1:A.units < cLine:=lB 1 1104257534993 T1 hu0
  cases a with
  | tup ds=>
   obtain ⟨p,vs,rfl,s1,r1⟩:=ra.tup_inv
   cases ru
   obtain ⟨its,rvs,ht,_⟩:=I.tuple s1
   have it1:s.heap.IsTuple p its.toArray:=ht
   cases b with
   | tup es=>
    obtain ⟨p',ws,rfl,s2,r2⟩:=rb.tup_inv
    cases rv
    obtain ⟨its2,rws,ht2,_⟩:=I.tuple s2
    have it2:s.heap.IsTuple p' its2.toArray:=ht2
    by_cases hp:p = p'
    ·subst hp
     rw [Rep.fun1 I (n + 1) _ _ _ ha hb ra rb]
     exact SeqAt.EqAt.same _
    ·refine SeqAt.EqAt.of_refs hp ?_
     have e1:its.length = ds.length:=by rw [← rvs.length,r1.length]
     have e2:its2.length = es.length:=by rw [← rws.length,r2.length]
     have key:((List.range (min its.toArray.size its2.toArray.size)).all (fun j=>match ds[j]?,es[j]? with | some a,some b=>deq a b | _,_=>false) && its.toArray.size == its2.toArray.size) = deq (.tup ds) (.tup es):=by
      rw [deq,List.size_toArray,List.size_toArray,e1,e2]
      by_cases hl:ds.length = es.length
      ·rw [hl,Nat.min_self,beq_self_eq_true,Bool.and_true,← hl]
       exact ZcA hl fun j a b h1 h2=>by rw [h1,h2]
      ·have z:ZbV ds es = false:=by
        cases q:ZbV ds es with
        | false=>rfl
        | true=>exact absurd (Zd6 q) hl
       rw [z,beq_eq_false_iff_ne.mpr hl,Bool.and_false]
     rw [← key]
     refine SeqAt.RcAt.tuples it1 it2 hu1 fun j h1 h2=>?_
     have h1':j < ds.length:=by rw [← e1]; simpa using h1
     have h2':j < es.length:=by rw [← e2]; simpa using h2
     have q1:ds[j]? = some ds[j]:=by simp [h1']
     have q2:es[j]? = some es[j]:=by simp [h2']
     rw [q1,q2]
     obtain ⟨v1,g1,z1⟩:=r1.get q1
     obtain ⟨v2,g2,z2⟩:=r2.get q2
     obtain ⟨u1,k1,l1⟩:=rvs.get g1
     obtain ⟨u2,k2,l2⟩:=rws.get g2
     have m1:its.toArray[j] = u1:=by
      have:=List.getElem?_eq_some_iff.mp k1
      simpa using this.2
     have m2:its2.toArray[j] = u2:=by
      have:=List.getElem?_eq_some_iff.mp k2
      simpa using this.2
     rw [m1,m2]
     exact ih A.in1 ds[j] es[j] v1 v2 u1 u2 (by rw [units_in1]; exact lC 1 0x2a1a0ccc12aa1c0cc11 T1 hu) (List.all_eq_true.mp (show ds.all (Zax n) = true from ha) _ (List.getElem_mem h1')) (List.all_eq_true.mp (show es.all (Zax n) = true from hb) _ (List.getElem_mem h2')) z1 z2 l1 l2
   | non=>have:=rb.non_inv; subst this; cases rv; exact SeqAt.EqAt.tuple_none it1 hu1
   | bl k=>have:=rb.bl_inv; subst this; cases rv; exact SeqAt.EqAt.tuple_bool _ it1 hu1
   | int k=>have:=rb.int_inv; subst this; obtain ⟨t,rfl⟩:=rv; exact SeqAt.EqAt.tuple_int _ _ it1 hu1
   | str k=>have:=rb.str_inv; subst this; obtain ⟨t,rfl⟩:=rv; exact SeqAt.EqAt.tuple_str _ _ it1 hu1
   | _=>simp [Zax] at hb
  | non=>cases b with
   | tup es=>
    have:=ra.non_inv; subst this; cases ru
    obtain ⟨p',ws,rfl,s2,r2⟩:=rb.tup_inv
    cases rv
    obtain ⟨its2,rws,ht2,_⟩:=I.tuple s2
    exact SeqAt.EqAt.none_tuple (show s.heap.IsTuple p' its2.toArray from ht2) hu1
   | scr _=>simp [Zax] at hb
   | ref _=>simp [Zax] at hb
   | _=>exact Zdl A _ _ x y u v (by rfl) (by rfl) ra rb ru rv
  | bl i=>cases b with
   | tup es=>
    have:=ra.bl_inv; subst this; cases ru
    obtain ⟨p',ws,rfl,s2,r2⟩:=rb.tup_inv
    cases rv
    obtain ⟨its2,rws,ht2,_⟩:=I.tuple s2
    exact SeqAt.EqAt.bool_tuple _ (show s.heap.IsTuple p' its2.toArray from ht2) hu1
   | scr _=>simp [Zax] at hb
   | ref _=>simp [Zax] at hb
   | _=>exact Zdl A _ _ x y u v (by rfl) (by rfl) ra rb ru rv
  | int i=>cases b with
   | tup es=>
    have:=ra.int_inv; subst this; obtain ⟨t0,rfl⟩:=ru
    obtain ⟨p',ws,rfl,s2,r2⟩:=rb.tup_inv
    cases rv
    obtain ⟨its2,rws,ht2,_⟩:=I.tuple s2
    exact SeqAt.EqAt.int_tuple _ _ (show s.heap.IsTuple p' its2.toArray from ht2) hu1
   | scr _=>simp [Zax] at hb
   | ref _=>simp [Zax] at hb
   | _=>exact Zdl A _ _ x y u v (by rfl) (by rfl) ra rb ru rv
  | str i=>cases b with
   | tup es=>
    have:=ra.str_inv; subst this; obtain ⟨t0,rfl⟩:=ru
    obtain ⟨p',ws,rfl,s2,r2⟩:=rb.tup_inv
    cases rv
    obtain ⟨its2,rws,ht2,_⟩:=I.tuple s2
    exact SeqAt.EqAt.str_tuple _ _ (show s.heap.IsTuple p' its2.toArray from ht2) hu1
   | scr _=>simp [Zax] at hb
   | ref _=>simp [Zax] at hb
   | _=>exact Zdl A _ _ x y u v (by rfl) (by rfl) ra rb ru rv
  | _=>simp [Zax] at ha
end
end L3
namespace L3
open PySem PySem.Spec PyProof.Rows L2
section
variable {X:Cx}
theorem Zqq {pins:List (Addr × Obj)} {σ:St} {H:Hp} {s:Shared} {ι:List Addr} {M:Store} {a b:D} {x y:V} {u v:Value} {k:Bool} (hu:X.A.units + 80 < cLine) (I:Inv X pins σ H s) (S:Zat X.K H ι M)
  (ra:Rep X.K H ι a x) (rb:Rep X.K H ι b y) (ru:RelV x u) (rv:RelV y v) (h:eqD a b M = some k):SeqAt.RcAt X.A s u v k:=by
 cases a with
 | ref n=>
  cases b with
  | ref m=>
   simp only [eqD] at h
   cases hn:M[n]? with
   | none=>simp [hn] at h
   | some o=>
    cases o with
    | dct _=>simp [hn] at h
    | fdct _=>simp [hn] at h
    | ins _ _=>simp [hn] at h
    | lst ds=>
     cases hm:M[m]? with
     | none=>simp [hn,hm] at h
     | some o=>
      cases o with
      | dct _=>simp [hn,hm] at h
      | fdct _=>simp [hn,hm] at h
      | ins _ _=>simp [hn,hm] at h
      | lst es=>
       simp only [hn,hm] at h
       split at h
       ·rename_i hp
        cases h
        rw [Bool.and_eq_true] at hp
        obtain ⟨p,hp1,rfl⟩:=ra.ref_inv
        obtain ⟨q,hq1,rfl⟩:=rb.ref_inv
        cases ru
        cases rv
        obtain ⟨vs,e1,r1⟩:=S.obj n _ p hn hp1
        obtain ⟨ws,e2,r2⟩:=S.obj m _ q hm hq1
        obtain ⟨its,rvs,pl1,_⟩:=I.list (SqL.of e1)
        obtain ⟨its2,rws,pl2,_⟩:=I.list (SqL.of e2)
        have it1:=pl1.isList
        have it2:=pl2.isList
        have l1:its.length = ds.length:=by rw [← rvs.length,r1.length]
        have l2:its2.length = es.length:=by rw [← rws.length,r2.length]
        have hu1:X.A.units < cLine:=lB 1 17666545486865 T1 hu
        by_cases hl:ds.length = es.length
        ·have key:(List.range its.toArray.size).all (fun j=>match ds[j]?,es[j]? with | some a,some b=>deq a b | _,_=>false) = ZbV ds es:=by
          rw [List.size_toArray,l1]
          exact ZcA hl fun j a b h1 h2=>by rw [h1,h2]
         rw [← key]
         refine SeqAt.RcAt.lists it1 it2 (by rw [List.size_toArray,List.size_toArray,l1,l2,hl]) hu1 fun j h1 h2=>?_
         have h1':j < ds.length:=by rw [← l1]; simpa using h1
         have h2':j < es.length:=by rw [← l2]; simpa using h2
         have q1:ds[j]? = some ds[j]:=by simp [h1']
         have q2:es[j]? = some es[j]:=by simp [h2']
         rw [q1,q2]
         obtain ⟨v1,g1,z1⟩:=r1.get q1
         obtain ⟨v2,g2,z2⟩:=r2.get q2
         obtain ⟨u1,k1,w1⟩:=rvs.get g1
         obtain ⟨u2,k2,w2⟩:=rws.get g2
         have m1:its.toArray[j] = u1:=by
          have:=List.getElem?_eq_some_iff.mp k1
          simpa using this.2
         have m2:its2.toArray[j] = u2:=by
          have:=List.getElem?_eq_some_iff.mp k2
          simpa using this.2
         rw [m1,m2]
         exact ZiE I DEEP X.A.in1 ds[j] es[j] v1 v2 u1 u2 (by rw [units_in1]; show X.A.units + 1 + 60 + 1 < cLine; exact lB 1 0x1a3c2ba0ccc11502b0c11 T1 hu) (List.all_eq_true.mp hp.1 _ (List.getElem_mem h1')) (List.all_eq_true.mp hp.2 _ (List.getElem_mem h2')) z1 z2 w1 w2
        ·have z:ZbV ds es = false:=by
          cases q:ZbV ds es with
          | false=>rfl
          | true=>exact absurd (Zd6 q) hl
         rw [z]
         exact SeqAt.RcAt.lists_lengths it1 it2 (by rw [List.size_toArray,List.size_toArray,l1,l2]; simpa using hl) hu1
       ·cases h
  | _=>simp [eqD] at h
 | int i=>cases b with
  | int j=>
   simp only [eqD] at h
   cases h
   have:=ra.int_inv; subst this; have:=rb.int_inv; subst this
   obtain ⟨t,rfl⟩:=ru
   obtain ⟨t',rfl⟩:=rv
   rw [← Bool.beq_eq_decide_eq]
   exact SeqAt.RcAt.int_int _ _ _ _
  | _=>simp [eqD] at h
 | str i=>cases b with
  | str j=>
   simp only [eqD] at h
   cases h
   have:=ra.str_inv; subst this; have:=rb.str_inv; subst this
   obtain ⟨t,rfl⟩:=ru
   obtain ⟨t',rfl⟩:=rv
   have e:decide (i = j) = ((⟨i.toArray⟩:Str) == ⟨j.toArray⟩):=by
    rw [← Bool.beq_eq_decide_eq,← Zfu]
    by_cases h:(⟨i.toArray⟩:Str) = ⟨j.toArray⟩
    ·simp [h]
    ·simp [h]
   rw [e]
   exact SeqAt.RcAt.str_str _ _ _ _
  | _=>simp [eqD] at h
 | bl i=>cases b with
  | bl j=>
   simp only [eqD] at h
   cases h
   have:=ra.bl_inv; subst this; have:=rb.bl_inv; subst this
   cases ru
   cases rv
   rw [← Bool.beq_eq_decide_eq]
   exact SeqAt.RcAt.bool_bool _ _
  | _=>simp [eqD] at h
 | tup ds=>cases b with
  | tup es=>
   simp only [eqD] at h
   split at h
   ·rename_i hp
    cases h
    rw [Bool.and_eq_true] at hp
    obtain ⟨p,vs,rfl,s1,r1⟩:=ra.tup_inv
    obtain ⟨p',ws,rfl,s2,r2⟩:=rb.tup_inv
    cases ru
    cases rv
    obtain ⟨its,rvs,ht,_⟩:=I.tuple s1
    obtain ⟨its2,rws,ht2,_⟩:=I.tuple s2
    have e1:its.length = ds.length:=by rw [← rvs.length,r1.length]
    have e2:its2.length = es.length:=by rw [← rws.length,r2.length]
    have hu1:X.A.units < cLine:=lB 1 17666545486865 T1 hu
    have key:((List.range (min its.toArray.size its2.toArray.size)).all (fun j=>match ds[j]?,es[j]? with | some a,some b=>deq a b | _,_=>false) && its.toArray.size == its2.toArray.size) = ZbV ds es:=by
     rw [List.size_toArray,List.size_toArray,e1,e2]
     by_cases hl:ds.length = es.length
     ·rw [hl,Nat.min_self,beq_self_eq_true,Bool.and_true,← hl]
      exact ZcA hl fun j a b h1 h2=>by rw [h1,h2]
     ·have z:ZbV ds es = false:=by
       cases q:ZbV ds es with
       | false=>rfl
       | true=>exact absurd (Zd6 q) hl
      rw [z,beq_eq_false_iff_ne.mpr hl,Bool.and_false]
    rw [← key]
    refine SeqAt.RcAt.tuples (show s.heap.IsTuple p its.toArray from ht) (show s.heap.IsTuple p' its2.toArray from ht2) hu1 fun j h1 h2=>?_
    have h1':j < ds.length:=by rw [← e1]; simpa using h1
    have h2':j < es.length:=by rw [← e2]; simpa using h2
    have q1:ds[j]? = some ds[j]:=by simp [h1']
    have q2:es[j]? = some es[j]:=by simp [h2']
    rw [q1,q2]
    obtain ⟨v1,g1,z1⟩:=r1.get q1
    obtain ⟨v2,g2,z2⟩:=r2.get q2
    obtain ⟨u1,k1,w1⟩:=rvs.get g1
    obtain ⟨u2,k2,w2⟩:=rws.get g2
    have m1:its.toArray[j] = u1:=by
     have:=List.getElem?_eq_some_iff.mp k1
     simpa using this.2
    have m2:its2.toArray[j] = u2:=by
     have:=List.getElem?_eq_some_iff.mp k2
     simpa using this.2
    rw [m1,m2]
    exact ZiE I DEEP X.A.in1 ds[j] es[j] v1 v2 u1 u2 (by rw [units_in1]; show X.A.units + 1 + 60 + 1 < cLine; exact lB 1 0x1a3c2ba0ccc11502b0c11 T1 hu) (List.all_eq_true.mp hp.1 _ (List.getElem_mem h1')) (List.all_eq_true.mp hp.2 _ (List.getElem_mem h2')) z1 z2 w1 w2
   ·cases h
  | _=>simp [eqD] at h
 | _=>cases b <;> simp [eqD] at h
theorem ZcD (hu:X.A.units + 80 < cLine):OpR X (compareOp .Eq) (r2 X.K ZaS):=by
 intro pins s σ H x y v u Q I rx ry h
 obtain ⟨ι,M,a,b,S,ra,rb,h⟩:=h
 unfold ZaS at h
 cases q:eqD a b M with
 | none=>rw [q] at h; exact h.elim
 | some k=>
  rw [q] at h
  exact Zqq hu I S ra rb rx ry q X.prog X.w X.xe _ ⟨.bl k,H,I,rfl,Zam.ok h S Rep.bl⟩
theorem Zkq {K:PySem.W.Frag} {H:Hp} {ι:List Addr} {ds:List D} {vs:List V} {i:Int} {d:D} (r:Zab K H ι ds vs) (h:ZaU ds i = some d):∃ v,atI vs i = some v ∧ Rep K H ι d v:=by
 unfold ZaU at h
 unfold atI
 have e:ixN vs.length i = ixD ds.length i:=by rw [r.length]; rfl
 rw [e]
 cases q:ixD ds.length i with
 | none=>rw [q] at h; cases h
 | some j=>
  rw [q] at h
  exact r.get h
theorem Zz:IxR X (r2 X.K Zi):=IxR.imp Zqi fun x y H Q zz1=>by
 obtain ⟨ι,M,a,b,S,ra,rb,h⟩:=zz1
 cases a with
 | tup ds=>cases b with
  | int i=>
   simp only [Zi] at h
   cases q:ZaU ds i with
   | none=>simp only [q] at h; exact h.elim
   | some d=>
    simp only [q] at h
    obtain ⟨p,vs,rfl,s1,r1⟩:=ra.tup_inv
    obtain ⟨v,e,rv⟩:=Zkq r1 q
    exact .inr (.inl ⟨p,vs,i,v,rfl,rb.int_inv,s1,e,Zam.ok h S rv⟩)
  | _=>exact h.elim
 | scr ds=>cases b with
  | int i=>
   simp only [Zi] at h
   cases q:ZaU ds i with
   | none=>simp only [q] at h; exact h.elim
   | some d=>
    simp only [q] at h
    obtain ⟨p,vs,rfl,s1,r1⟩:=ra.scr_inv
    obtain ⟨v,e,rv⟩:=Zkq r1 q
    exact .inl ⟨p,vs,i,v,rfl,rb.int_inv,s1.sq,e,Zam.ok h S rv⟩
  | _=>exact h.elim
 | str z=>cases b with
  | int i=>
   simp only [Zi] at h
   cases q:ZaU z i with
   | none=>simp only [q] at h; exact h.elim
   | some c=>
    simp only [q] at h
    split at h
    ·rename_i hz
     refine .inr (.inr ⟨_,i,c,ra.str_inv,rb.int_inv,?_,?_,Zam.ok h S Rep.str⟩)
     ·have:=Zcf
      simp only [Str.length,List.size_toArray]
      exact Nat.le_trans hz this
     ·simpa [atI,ixN,ZaU,ixD] using q
    ·exact h.elim
  | _=>exact h.elim
 | ref n=>cases b with
  | int i=>
   cases hn:M[n]? with
   | none=>simp only [Zi,hn] at h; exact h.elim
   | some o=>
    cases o with
    | dct _=>simp only [Zi,hn] at h; exact h.elim
    | fdct _=>simp only [Zi,hn] at h; exact h.elim
    | ins _ _=>simp only [Zi,hn] at h; exact h.elim
    | lst ds=>
     simp only [Zi,hn] at h
     cases q:ZaU ds i with
     | none=>simp only [q] at h; exact h.elim
     | some d=>
      simp only [q] at h
      obtain ⟨p,hp,rfl⟩:=ra.ref_inv
      obtain ⟨vs,e1,r1⟩:=S.obj n _ p hn hp
      obtain ⟨v,e,rv⟩:=Zkq r1 q
      exact .inl ⟨p,vs,i,v,rfl,rb.int_inv,SqL.of e1,e,Zam.ok h S rv⟩
  | _=>exact h.elim
 | _=>cases b <;> exact h.elim
theorem Zkp {K:PySem.W.Frag} {H:Hp} {ι:List Addr} {ds:List D} {vs:List V} (r:Zab K H ι ds vs) (lo hi:Option Int):Zab K H ι (cutD ds lo hi) (Zjn vs lo hi):=by
 have e:∀ n d o,HT.sIx n d o = sIx n d o:=fun n d o=>by cases o <;> rfl
 unfold cutD Zjn
 rw [e,e,r.length]
 exact (r.drop _).take _
end
end L3
namespace L3
open PySem PySem.Spec PyProof.Rows L2
noncomputable def ZbJ (cells:List (Str × Addr)):List (Str × NameKind) → List (Str × Addr) → List (Str × Addr)
 | [],cs=>cs
 | (n,k) :: r,cs=>ZbJ cells r (if k == .free then (n,(cells.lookup n).getD 0) :: cs else cs)
theorem Zhs {scope:Scope} {env:Env} (h:∀ y ∈ scope.names,y.2 = .free → ∃ c,env.cells.lookup y.1 = some c):closureFor scope env = pure (ZbJ env.cells scope.names []):=by
 unfold closureFor
 have key:∀ (names:List (Str × NameKind)) (cs:List (Str × Addr)),(∀ y ∈ names,y.2 = .free → ∃ c,env.cells.lookup y.1 = some c) →
   (forIn names cs fun x r=>match x with | (name,kind)=>if (kind == NameKind.free) = true then do let c ← cellOf env name; pure (ForInStep.yield ((name,c) :: r)) else pure (ForInStep.yield r):Sem (List (Str × Addr))) = pure (ZbJ env.cells names cs):=by
  intro names
  induction names with
  | nil=>intro cs _; rfl
  | cons y r ih=>
   intro cs hy
   obtain ⟨n,k⟩:=y
   rw [List.forIn_cons]
   by_cases hk:k = .free
   ·subst hk
    obtain ⟨c,hc⟩:=hy (n,.free) List.mem_cons_self rfl
    have e1:cellOf env n = pure c:=by unfold cellOf; rw [hc]
    simp only [beq_self_eq_true,if_true,e1,pure_bind]
    rw [ih _ fun z hz=>hy z (List.mem_cons_of_mem _ hz)]
    simp [ZbJ,hc]
   ·have hb:(k == NameKind.free) = false:=by simpa using hk
    simp only [hb,Bool.false_eq_true,if_false,pure_bind]
    rw [ih _ fun z hz=>hy z (List.mem_cons_of_mem _ hz)]
    simp [ZbJ,hb]
 have:=key scope.names [] h
 first
  | exact this
  | (simp only [bind_pure]; exact this)
theorem Zlo {cells:List (Str × Addr)} {x:Str} {c:Addr}:∀ (names:List (Str × NameKind)) (cs:List (Str × Addr)),(∀ y ∈ names,y.2 = .free → ∃ c,cells.lookup y.1 = some c) → (ZbJ cells names cs).lookup x = some c → cs.lookup x = some c ∨ cells.lookup x = some c:=by
 intro names
 induction names with
 | nil=>intro cs _ h; exact .inl h
 | cons y r ih=>
  intro cs hy h
  obtain ⟨n,k⟩:=y
  rw [ZbJ] at h
  rcases ih _ (fun z hz=>hy z (List.mem_cons_of_mem _ hz)) h with q | q
  ·by_cases hk:k = .free
   ·subst hk
    obtain ⟨c0,hc⟩:=hy (n,.free) List.mem_cons_self rfl
    simp only [beq_self_eq_true,if_true,hc,Option.getD_some,List.lookup_cons] at q
    cases hx:x == n with
    | true=>
     simp only [hx] at q
     cases q
     have:x = n:=by simpa using hx
     subst this
     exact .inr hc
    | false=>simp only [hx] at q; exact .inl q
   ·have hb:(k == NameKind.free) = false:=by simpa using hk
    simp only [hb,Bool.false_eq_true,if_false] at q
    exact .inl q
  ·exact .inr q
theorem Zkg {cells:List (Str × Addr)} {x:Str}:∀ (names:List (Str × NameKind)) (cs:List (Str × Addr)),(cs.lookup x).isSome = true → ((ZbJ cells names cs).lookup x).isSome = true:=by
 intro names
 induction names with
 | nil=>intro cs h; exact h
 | cons y r ih=>
  intro cs h
  obtain ⟨n,k⟩:=y
  rw [ZbJ]
  refine ih _ ?_
  split
  ·rw [List.lookup_cons]
   split
   ·rfl
   ·exact h
  ·exact h
theorem Zh0 {cells:List (Str × Addr)} {x:Str}:∀ (names:List (Str × NameKind)) (cs:List (Str × Addr)),(x,NameKind.free) ∈ names → ((ZbJ cells names cs).lookup x).isSome = true:=by
 intro names
 induction names with
 | nil=>intro cs h; cases h
 | cons y r ih=>
  intro cs h
  obtain ⟨n,k⟩:=y
  rw [ZbJ]
  rcases List.mem_cons.mp h with e | h
  ·cases e
   refine Zkg _ _ ?_
   simp
  ·exact ih _ h
noncomputable def ZcP (X:Cx) (scope:Scope) (N':List Str) (C:Addr) (cl:List (Str × Addr)) (s:Shared) (H:Hp) (ex:List Addr):Cx:=
 { X with N:=N',s₀:=s,H₀:=H,env:=compEnvC scope cl C X.env,outer:=X.stack,stack:=X.stack,ex:=ex,fn:=fun _=>false,pn:=[],xe:=fun _ _=>False }
noncomputable def ZmG (N N':List Str) (scope:Scope):Bool:=(List.range N.length).all fun i=>match N'[i]? with
 | some x=>(scope.names.lookup x).isNone || (decide (N[i]? = some x) && decide (scope.names.lookup x = some .free))
 | none=>false
noncomputable def CTs (X:Cx) (ifs:List Expr) (ts:List E3):Prop:=∀ (pins:List (Addr × Obj)) (s:Shared) (σ:St) (H:Hp) (Q:Bool → Hp → Prop),Inv X pins σ H s →
 (∃ ι M env,Zat X.K H ι M ∧ ZbF X.K H ι env σ ∧ match ZeO ts env M with | .ok b M'=>∀ H' ι',Ext X.K H ι H' ι' → Zat X.K H' ι' M' → Q b H' | _=>False) →
 wpAny (model X.prog X.w) X.A (forIn ifs true fun c r=>if r = true then do let ok ← isTrue c X.env (eval c X.env); pure (ForInStep.yield ok) else pure (ForInStep.yield r)) (TP X pins σ Q) X.xe s
theorem ZiT {X:Cx} {c:Expr} {f:E3} (hc:CT X c f):CTs X [c] [f]:=fun pins s σ H Q I zz1=>by
 obtain ⟨ι,M,env,S,E,h⟩:=zz1
 refine wpAny_tests_one (hc pins s σ H Q I ⟨ι,M,env,S,E,?_⟩)
 unfold ZeO at h
 cases q:f env M with
 | ok d M1=>
  rw [q] at h
  cases d with
  | bl b=>cases b with
   | true=>exact h
   | false=>exact h
  | _=>exact h.elim
 | exc x M1=>rw [q] at h; exact h.elim
 | bad=>rw [q] at h; exact h.elim
section
variable {prog:Program} {w:World} {A:Around} {R:Result → Shared → Prop} {s:Shared}
theorem Zi0 {elt target iter:Expr} {ifs:List Expr} {scope:Scope} {pos:Pos} {it acc:Value} {env:Env} (I:Nat → Shared → Prop)
  (turn:∀ n s,I n s → wpAny (model prog w) A (pyNext it) (fun r s₁=>match r with
   | none=>R (.ok .next) s₁
   | some v=>wpAny (model prog w) A (letOwnedTupleGo target it v) (fun _ s₁'=>wpAny (model prog w) A (assign target env v) (fun _ s₂=>
     wpAny (model prog w) A (forIn ifs true fun c r=>if r = true then do let ok ← isTrue c env (eval c env); pure (ForInStep.yield ok) else pure (ForInStep.yield r)) (fun ok s₃=>
      if ok = true then wpAny (model prog w) A (eval elt env) (fun x s₄=>
       wpAny (model prog w) A (call (.builtin "list.append") [acc,x]) (fun _ s₅=>∃ m,m < n ∧ I m s₅) (fun _ _=>False) s₄) (fun _ _=>False) s₃
      else ∃ m,m < n ∧ I m s₃) (fun _ _=>False) s₂) (fun _ _=>False) s₁') (fun _ _=>False) s₁) (fun _ _=>False) s)
  (n:Nat) (h:I n s):codeAny (model prog w) A (.compLoop (.ListComp elt [⟨target,iter,ifs,0⟩] scope pos) 0 it acc env) R s:=by
 refine codeAny_loop rfl I (fun n s hI=>?_) n h
 show wpAny _ A ((compTurn (.ListComp elt [⟨target,iter,ifs,0⟩] scope pos) 0 it acc env).onRaise (fun x=>do noteFrame x env; theTreesLotGoes x)) _ _ s
 refine wpAny_noted ?_
 rw [compTurn_list]
 refine wpAny_bind (wpAny_standAt (wpAny_bind (wpAny_mono (turn n s hI) (fun r s₁ h₁=>?_) fun _ _ h'=>False.elim h')))
 cases r with
 | none=>exact wpAny_pure h₁
 | some v=>
  refine wpAny_bind (wpAny_mono h₁ (fun _ s₁' h₁'=>?_) fun _ _ h'=>False.elim h')
  refine wpAny_bind (wpAny_mono h₁' (fun _ s₂ h₂=>wpAny_bind (wpAny_mono h₂ (fun ok s₃ h₃=>?_) fun _ _ h'=>False.elim h')) fun _ _ h'=>False.elim h')
  cases ok with
  | false=>exact wpAny_pure ⟨rfl,h₃⟩
  | true=>
   exact wpAny_bind (wpAny_bind (wpAny_mono h₃ (fun x s₄ h₄=>wpAny_bind (wpAny_mono h₄ (fun _ s₅ h₅=>wpAny_pure (wpAny_pure ⟨rfl,h₅⟩)) fun _ _ h'=>False.elim h')) fun _ _ h'=>False.elim h'))
end
theorem Zdm {env:Env} {x:Str} {k:NameKind}:∀ {names:List (Str × NameKind)},(names.map fun (n,k)=>if (k == NameKind.free && env.scope.kind == .function && env.kindOf n == some .cell) then (n,NameKind.cell) else (n,k)).lookup x = some k →
  ∃ k0,names.lookup x = some k0 ∧ (k0 = k ∨ (k0 = .free ∧ k = .cell)):=by
 intro names
 induction names with
 | nil=>intro h; simp at h
 | cons y r ih=>
  intro h
  obtain ⟨n,k1⟩:=y
  rw [List.map_cons] at h
  cases hx:x == n with
  | true=>
   refine ⟨k1,by simp [List.lookup_cons,hx],?_⟩
   by_cases hc:(k1 == NameKind.free && env.scope.kind == .function && env.kindOf n == some .cell) = true
   ·simp only [if_pos hc,List.lookup_cons,hx] at h
    cases h
    simp only [Bool.and_eq_true,beq_iff_eq] at hc
    exact .inr ⟨hc.1.1,rfl⟩
   ·simp only [if_neg hc,List.lookup_cons,hx] at h
    cases h
    exact .inl rfl
  | false=>
   have h':(r.map fun (n,k)=>if (k == NameKind.free && env.scope.kind == .function && env.kindOf n == some .cell) then (n,NameKind.cell) else (n,k)).lookup x = some k:=by
    by_cases hc:(k1 == NameKind.free && env.scope.kind == .function && env.kindOf n == some .cell) = true
    ·simp only [if_pos hc,List.lookup_cons,hx] at h; exact h
    ·simp only [if_neg hc,List.lookup_cons,hx] at h; exact h
   obtain ⟨k0,e,q⟩:=ih h'
   exact ⟨k0,by simp [List.lookup_cons,hx,e],q⟩
theorem ZiD {env:Env} {x:Str}:∀ {names:List (Str × NameKind)},names.lookup x = some .free →
  (names.map fun (n,k)=>if (k == NameKind.free && env.scope.kind == .function && env.kindOf n == some .cell) then (n,NameKind.cell) else (n,k)).lookup x = some .free ∨
  (names.map fun (n,k)=>if (k == NameKind.free && env.scope.kind == .function && env.kindOf n == some .cell) then (n,NameKind.cell) else (n,k)).lookup x = some .cell:=by
 intro names
 induction names with
 | nil=>intro h; simp at h
 | cons y r ih=>
  intro h
  obtain ⟨n,k1⟩:=y
  rw [List.map_cons]
  cases hx:x == n with
  | true=>
   simp only [List.lookup_cons,hx] at h
   cases h
   by_cases hc:(NameKind.free == NameKind.free && env.scope.kind == .function && env.kindOf n == some .cell) = true
   ·simp only [if_pos hc,List.lookup_cons,hx]; exact .inr trivial
   ·simp only [if_neg hc,List.lookup_cons,hx]; exact .inl trivial
  | false=>
   simp only [List.lookup_cons,hx] at h
   by_cases hc:(k1 == NameKind.free && env.scope.kind == .function && env.kindOf n == some .cell) = true
   ·simp only [if_pos hc,List.lookup_cons,hx]; exact ih h
   ·simp only [if_neg hc,List.lookup_cons,hx]; exact ih h
section
variable {X:Cx} {pins:List (Addr × Obj)} {σ:St} {H:Hp} {s:Shared} {scope:Scope} {N':List Str} {own:Nat} {fp:List Addr}
theorem Znv (I:Inv X pins σ H s) (hk:scope.kind = .function) (hcell:∀ y ∈ scope.names,y.2 ≠ .cell) (hfree:∀ y ∈ scope.names,y.2 = .free → X.env.kindOf y.1 = some .cell ∨ X.env.kindOf y.1 = some .free)
  (hN:N'.length = X.N.length + own) (hv:ZmG X.N N' scope = true) (hfp:∀ b ∈ fp,ZfP X pins H b) (hlt:∀ b ∈ fp,b < s.heap.objs.size) {h1:Heap} {tk:Nat}
  (hns:h1.Ns s.heap.objs.size fun _=>none) (keep:∀ b o,s.heap.get? b = some o → h1.get? b = some o):
  Inv (ZcP X scope N' s.heap.objs.size (ZbJ X.env.cells scope.names []) s H fp) [] (σ ++ List.replicate own none) H { s with heap:=h1,toks:=tk }:=by
 have hc0:∀ y ∈ scope.names,y.2 = .free → ∃ c,X.env.cells.lookup y.1 = some c:=fun y hy e=>I.ok.has y.1 (hfree y hy e)
 have sub:∀ x c,(ZbJ X.env.cells scope.names []).lookup x = some c → X.env.cells.lookup x = some c:=fun x c h=>by
  rcases Zlo scope.names [] hc0 h with q | q
  ·simp at q
  ·exact q
 have cellK:∀ {c:Addr} {v:Option Value},s.heap.IsCell c v → h1.IsCell c v:=fun ⟨o,ho,hd⟩=>⟨o,keep _ o ho,hd⟩
 refine ⟨⟨I.ok.mod,hk,I.ok.glob,I.ok.blt,Nat.le_refl _,fun x y c h1 h2=>I.ok.inj x y c (sub x c h1) (sub y c h2),fun x hx=>?_,fun x c h=>?_,I.ok.hd,I.ok.frames,.inl rfl,fun b hb=>⟨Nat.ne_of_lt (hlt b hb),fun x c h=>(hfp b hb).2.2.2.2.1 x c (sub x c h)⟩,
   I.bs,Nat.le_trans I.ok.bsz I.sz,fun b o e hb=>?_,fun b hb hz=>?_,I.stack,I.stkFree⟩,rfl,I.bare,Un.kept keep,⟨_,hns,fun i x v h1 h2 h3=>?_⟩,fun x c h=>?_,I.hok.fresh (Nat.le_refl _),fun x c h=>I.freeC x c (sub x c h),
  fun p hp=>absurd (show p ∈ ([]:List (Addr × Obj)) from hp) (by simp),I.hok.kept keep,?_⟩
 ·have hx':(relabel scope X.env).names.lookup x = some .cell ∨ (relabel scope X.env).names.lookup x = some .free:=hx
  have:scope.names.lookup x = some .free:=by
   rcases hx' with hx' | hx'
   ·obtain ⟨k0,e,q⟩:=Zdm (names:=scope.names) hx'
    rcases q with q | ⟨q,_⟩
    ·subst q; exact absurd rfl (hcell _ (PySem.mem_of_lookup e))
    ·rw [e,q]
   ·obtain ⟨k0,e,q⟩:=Zdm (names:=scope.names) hx'
    rcases q with q | ⟨_,q⟩
    ·rw [e,q]
    ·cases q
  exact Option.isSome_iff_exists.mp (Zh0 scope.names [] (PySem.mem_of_lookup this))
 ·cases h
 ·obtain ⟨_,_,_,q,_⟩:=hfp b hb
  rcases q with q | q
  ·exact I.ok.noex b o e q
  ·exact absurd (Nat.lt_of_lt_of_le (Heap.lt_size e) (Nat.le_trans I.ok.bsz q)) (Nat.lt_irrefl _)
 ·have hz':b ∈ frs X.stack:=hz
  obtain ⟨_,q1,q2,_⟩:=hfp b hb
  rcases List.mem_cons.mp (I.stkSub b hz') with e | e
  ·exact q1 e
  ·exact q2 e
 ·have hi:i < σ.length:=by
   by_cases hi:i < σ.length
   ·exact hi
   ·rw [List.getElem?_append_right (Nat.le_of_not_lt hi),List.getElem?_replicate] at h2
    split at h2 <;> cases h2
  rw [List.getElem?_append_left hi] at h2
  have hiN:i < X.N.length:=by rw [← I.len]; exact hi
  have hN':N'[i]? = some x:=h1
  have vq:=List.all_eq_true.mp hv i (List.mem_range.mpr hiN)
  rw [hN'] at vq
  have h3':(relabel scope X.env).names.lookup x = some .local ∨ (relabel scope X.env).names.lookup x = some .cell ∨ (relabel scope X.env).names.lookup x = some .free:=h3
  have some_of:∃ k0,scope.names.lookup x = some k0:=by
   rcases h3' with q | q | q <;> (obtain ⟨k0,e,_⟩:=Zdm (names:=scope.names) q; exact ⟨k0,e⟩)
  obtain ⟨k0,ek⟩:=some_of
  simp only [ek,Option.isNone_some,Bool.false_or,Bool.and_eq_true,decide_eq_true_eq] at vq
  obtain ⟨vq1,vq2⟩:=vq
  cases vq2
  have hkind:=hfree (x,.free) (PySem.mem_of_lookup ek) rfl
  obtain ⟨m,hn,hl⟩:=I.loc
  have hVis:Vis X.env.scope x:=by
   rcases hkind with q | q
   ·exact .inr (.inl q)
   ·exact .inr (.inr q)
  obtain ⟨u,ru,lk⟩:=hl i x v vq1 h2 hVis
  refine ⟨u,ru,?_⟩
  rcases lk with ⟨kl,_⟩ | ⟨_,c,ec,ic⟩
  ·rcases hkind with q | q <;> (rw [q] at kl; cases kl)
  ·have hkk:(compEnvC scope (ZbJ X.env.cells scope.names []) s.heap.objs.size X.env).kindOf x = some .cell ∨ (compEnvC scope (ZbJ X.env.cells scope.names []) s.heap.objs.size X.env).kindOf x = some .free:=by
    rcases ZiD (env:=X.env) ek with q | q
    ·exact .inr q
    ·exact .inl q
   obtain ⟨c',ec'⟩:=Option.isSome_iff_exists.mp (Zh0 (cells:=X.env.cells) scope.names [] (PySem.mem_of_lookup ek))
   have e2:=sub x c' ec'
   rw [ec] at e2
   cases e2
   exact .inr ⟨hkk,c,ec',cellK ic⟩
 ·obtain ⟨v,ic⟩:=I.cell x c (sub x c h)
  exact ⟨v,cellK ic⟩
 ·show (σ ++ List.replicate own none).length = N'.length
  rw [List.length_append,List.length_replicate,I.len,hN]
theorem ZbF.grow {K:PySem.W.Frag} {H:Hp} {ι:List Addr} {env:Zau} {σ:St} (E:ZbF K H ι env σ) (n:Nat):ZbF K H ι (env ++ List.replicate n none) (σ ++ List.replicate n none):=by
 refine ⟨by simp [E.1],fun i d h=>?_⟩
 by_cases hi:i < env.length
 ·rw [List.getElem?_append_left hi] at h
  obtain ⟨v,e,r⟩:=E.2 i d h
  exact ⟨v,by rw [List.getElem?_append_left (by rw [← E.1]; exact hi)]; exact e,r⟩
 ·rw [List.getElem?_append_right (Nat.le_of_not_lt hi),List.getElem?_replicate] at h
  split at h <;> cases h
end
section
variable {X:Cx} {elt tg iter:Expr} {ifs:List Expr} {scope:Scope} {pos:Pos} {i:I3} {own:Nat} {g:G3} {ts:List E3} {f:E3} {N':List Str}
structure Zkf (X:Cx) (scope:Scope) (N':List Str) (own:Nat):Prop where
 kind:scope.kind = .function
 cell:∀ y ∈ scope.names,y.2 ≠ .cell
 free:∀ y ∈ scope.names,y.2 = .free → X.env.kindOf y.1 = some .cell ∨ X.env.kindOf y.1 = some .free
 names:∀ y ∈ scope.names,y.2 = .local → scope.names.lookup y.1 = some .local
 len:N'.length = X.N.length + own
 vis:ZmG X.N N' scope = true
inductive CbI (Y:Cx) (K:PySem.W.Frag) (fp:List Addr) (tn:Nat → Heap → Prop) (itd:It3) (H2:Hp) (ι2:List Addr) (Q:VK) (g:G3) (ts:List E3) (f:E3) (nM:Nat) (acc:Addr) (n:Nat) (s':Shared):Prop
 | mk (k:Nat) (σ5:St) (H5:Hp) (ι5:List Addr) (M5:Store) (env5:Zau) (I5:Inv Y [] σ5 H5 s') (st5:tn k s'.heap) (fr5:∀ b ∈ fp,H5 b = none) (hn:n = itd.items.length - k) (hk:k ≤ itd.items.length)
   (x5:Ext K H2 ι2 H5 ι5) (S5:Zat K H5 ι5 M5) (E5:ZbF K H5 ι5 env5 σ5) (hι:ι5[nM]? = some acc) (h5:Zam K H5 ι5 Q (Zet itd g ts f nM (itd.items.drop k) env5 M5))
theorem Zkc {pins:List (Addr × Obj)} {σ:St} {s2:Shared} {H2:Hp} {ι2:List Addr} {M2:Store} {env:Zau} {it:Addr} {fp:List Addr} {tn:Nat → Heap → Prop} {J:It} {itd:It3} {Q:VK} {E:Value → Shared → Prop} (O:Zkf X scope N' own) (hc:X.calm = true)
  (hb:∀ C cl s H ex,CG (ZcP X scope N' C cl s H ex) tg g ∧ CTs (ZcP X scope N' C cl s H ex) ifs ts ∧ C3 (ZcP X scope N' C cl s H ex) elt f)
  (I2:Inv X pins σ H2 s2) (T:Turn X.prog X.w X.K tg J fp it tn) (st0:tn 0 s2.heap) (hfp:∀ b ∈ fp,ZfP X pins H2 b) (S2:Zat X.K H2 ι2 M2) (E2:ZbF X.K H2 ι2 env σ) (ok:ZlJ X.K H2 ι2 itd J)
  (h:Zam X.K H2 ι2 Q (Zet itd g ts f M2.length itd.items (env ++ List.replicate own none) (M2 ++ [.lst []])))
  (RR:Value → Addr → Result → Shared → Prop)
  (fin:∀ (acc C:Addr) (s':Shared) (m:Str → Option Value) (H':Hp),s'.heap.Ns C m → ZfP X pins H' C → Inv X pins σ H' s' → Q (.ref acc) H' → RR (.ref acc) C (.ok .next) s'):
  wpAny (model X.prog X.w) X.A (newList []) (fun acc s₃=>wpAny (model X.prog X.w) X.A (newFunctionEnv scope X.env.globals (ZbJ X.env.cells scope.names []) [] X.env.qual none .none (some X.env)) (fun cenv s₄=>
   codeAny (model X.prog X.w) X.A (.compStart (.ListComp elt [⟨tg,iter,ifs,0⟩] scope pos) 0 (.ref it) acc { cenv with scope:=relabel scope X.env }) (RR acc cenv.locals) s₄) E s₃) E s2:=by
 refine wpAny_newObj_type ?_
 have hD:H2 s2.heap.objs.size = none:=I2.hok.fresh (Nat.le_refl _)
 obtain ⟨x3,S3,r3⟩:=S2.lst hD (Zab.nil (K:=X.K) (H:=H2) (ι:=ι2))
 have I3:Inv X pins σ (upd H2 s2.heap.objs.size (.lst [])) { s2 with heap:=s2.heap.push { cls:=.type "list",data:=.seq ([]:List Value).toArray } }:=
  I2.laid (t':=s2.toks) (fun b u e=>Heap.get?_push_of_some _ e) (Nat.le_refl _) ⟨Nat.zero_le _,[],0,.nil,Heap.get?_push_size _ rfl⟩
 generalize hs3:({ s2 with heap:=s2.heap.push { cls:=.type "list",data:=.seq ([]:List Value).toArray } }:Shared) = s3 at I3 ⊢
 have keep23:∀ b o,s2.heap.get? b = some o → s3.heap.get? b = some o:=fun b o e=>by rw [← hs3]; exact Heap.get?_push_of_some _ e
 have hfp3:∀ b ∈ fp,ZfP X pins (upd H2 s2.heap.objs.size (.lst [])) b:=fun b hb=>by
  refine ⟨?_,(hfp b hb).2⟩
  obtain ⟨o,e,_⟩:=T.obj _ _ st0 b hb
  rw [ZaX (Nat.ne_of_lt (Heap.lt_size e))]
  exact (hfp b hb).1
 have hlt3:∀ b ∈ fp,b < s3.heap.objs.size:=fun b hb=>by
  obtain ⟨o,e,_⟩:=T.obj _ _ st0 b hb
  exact Heap.lt_size (keep23 b o e)
 have st3:tn 0 s3.heap:=T.keep _ _ _ st0 fun b hb o e=>keep23 b o e
 refine wpAny_newFunctionEnv O.cell (by intro y hy; cases hy) (fun h4 hns hsb=>?_) O.kind
 have keep34:∀ b o,s3.heap.get? b = some o → h4.get? b = some o:=fun b o e=>hsb.extBut b o (Nat.ne_of_lt (Heap.lt_size e)) (Heap.get?_push_of_some _ e)
 have I4:=Znv (own:=own) (N':=N') (tk:=s3.toks + ([]:List (Str × Value)).length) I3 O.kind O.cell O.free O.len O.vis hfp3 hlt3 hns keep34
 have st4:tn 0 h4:=T.keep _ _ _ st3 fun b hb o e=>keep34 b o e
 have hfp4:∀ {H':Hp},(∀ b ∈ fp,H' b = none) → ∀ b ∈ fp,ZfP (ZcP X scope N' s3.heap.objs.size (ZbJ X.env.cells scope.names []) s3 (upd H2 s2.heap.objs.size (.lst [])) fp) [] H' b:=fun hn b hb=>by
  have hc0:∀ y ∈ scope.names,y.2 = .free → ∃ c,X.env.cells.lookup y.1 = some c:=fun y hy e=>I2.ok.has y.1 (O.free y hy e)
  refine ⟨hn b hb,Nat.ne_of_lt (hlt3 b hb),fun hz=>I4.ok.exfs b hb hz,.inl hb,fun x c hx=>(I4.ok.exf b hb).2 x c hx,fun p hp=>absurd (show p ∈ ([]:List (Addr × Obj)) from hp) (by simp)⟩
 obtain ⟨hg,hts,helt⟩:=hb s3.heap.objs.size (ZbJ X.env.cells scope.names []) s3 (upd H2 s2.heap.objs.size (.lst [])) fp
 have loop:∀ s₄:Shared,s₄ = { s3 with heap:=h4,toks:=s3.toks + ([]:List (Str × Value)).length } →
   codeAny (model X.prog X.w) X.A (.compLoop (.ListComp elt [⟨tg,iter,ifs,0⟩] scope pos) 0 (.ref it) (.ref s2.heap.objs.size) (compEnvC scope (ZbJ X.env.cells scope.names []) s3.heap.objs.size X.env)) (RR (.ref s2.heap.objs.size) s3.heap.objs.size) s₄:=by
  rintro s₄ rfl
  refine Zi0 (CbI (ZcP X scope N' s3.heap.objs.size (ZbJ X.env.cells scope.names []) s3 (upd H2 s2.heap.objs.size (.lst [])) fp) X.K fp tn itd H2 ι2 Q g ts f M2.length s2.heap.objs.size) ?_ itd.items.length
   ⟨0,_,_,_,_,_,I4,st4,fun b hb=>(hfp3 b hb).1,rfl,Nat.zero_le _,x3,S3,(E2.mono x3).grow own,?_,h.up x3⟩
  ·rintro n s5 ⟨k,σ5,H5,ι5,M5,env5,I5,st5,fr5,rfl,hk,x5,S5,E5,hι,h5⟩
   by_cases hlt:k < itd.items.length
   ·have hd:itd.items[k]? = some itd.items[k]:=by simp [hlt]
    rw [List.drop_eq_getElem_cons hlt] at h5
    unfold Zet at h5
    by_cases lk:locked itd M5 = true
    ·rw [if_pos lk] at h5
     obtain ⟨go,yl⟩:=(ok k H5 ι5 M5 x5 S5 lk).1 _ hd
     cases eg:g itd.items[k] env5 with
     | none=>rw [eg] at h5; exact h5.elim
     | some env6=>
      rw [eg] at h5
      refine thn (T.item (ZcP X scope N' s3.heap.objs.size (ZbJ X.env.cells scope.names []) s3 (upd H2 s2.heap.objs.size (.lst [])) fp) rfl rfl rfl hc k [] s5 σ5 H5 (fun _ _=>False) I5 (hfp4 fr5) st5 go) fun r s6 zz1=>?_
      obtain ⟨u,hr,h6⟩:=zz1
      subst hr
      refine thn h6 fun _ s7 zz1=>?_
      obtain ⟨x,H7,I7,r7,y7,st7,fr7⟩:=zz1
      obtain ⟨rfl,rx⟩:=yl x H7 y7
      have I7':=I7.pinned (hfp4 fr7) (T.obj _ _ st7)
      refine thn (hg _ s7 σ5 H7 x u (fun σ' H'=>H' = H7 ∧ ZbF X.K H7 ι5 env6 σ') I7' r7 ⟨ι5,M5,env5,_,env6,S5,E5,rx,eg,fun σ' E'=>⟨rfl,E'⟩⟩) fun _ s8 zz1=>?_
      obtain ⟨σ8,H8,I8,e8,E8⟩:=zz1
      subst e8
      have back:∀ {σ':St} {H':Hp} {s':Shared},Inv (ZcP X scope N' s3.heap.objs.size (ZbJ X.env.cells scope.names []) s3 (upd H2 s2.heap.objs.size (.lst [])) fp) ([] ++ ZgY fp s7.heap) σ' H' s' →
        Inv (ZcP X scope N' s3.heap.objs.size (ZbJ X.env.cells scope.names []) s3 (upd H2 s2.heap.objs.size (.lst [])) fp) [] σ' H' s' ∧ tn (k + 1) s'.heap ∧ ∀ b ∈ fp,H' b = none:=fun {σ' H' s'} I'=>by
       refine ⟨I'.unpinned,T.keep _ _ _ st7 fun b hb o e=>(I'.pin (b,o) (List.mem_append_right _ (List.mem_append_right _ (Zek hb e)))).1,fun b hb=>?_⟩
       obtain ⟨o,e,d⟩:=T.obj _ _ st7 b hb
       exact (I'.pin (b,o) (List.mem_append_right _ (List.mem_append_right _ (Zek hb e)))).2.1
      obtain ⟨b,M9,e9,h9⟩:=Zam.bind h5
      refine thn (hts _ s8 σ8 H8 (fun b' H'=>b' = b ∧ ∃ ι9,Ext X.K H8 ι5 H' ι9 ∧ Zat X.K H' ι9 M9) I8 ⟨ι5,M5,env6,S5,E8,by rw [e9]; exact fun H' ι' x' S'=>⟨rfl,ι',x',S'⟩⟩) fun b' s9 zz1=>?_
      obtain ⟨H9,I9,eb,ι9,x9,S9⟩:=zz1
      subst eb
      cases b' with
      | false=>
       rw [if_neg (by decide)] at h9 ⊢
       obtain ⟨I9',st9,fr9⟩:=back I9
       exact ⟨itd.items.length - (k + 1),lD 2 0x30113c2012a1c0c21 T1 (Nat.sub_add_cancel (lB 1 6991908881 T1 hlt)) (sbA _ _),⟨k + 1,σ8,H9,ι9,M9,env6,I9',st9,fr9,rfl,hlt,x5.trans x9,S9,E8.mono x9,x9.pre _ _ hι,h9.up x9⟩⟩
      | true=>
       rw [if_pos rfl] at h9 ⊢
       obtain ⟨d,M10,e10,h10⟩:=Zam.bind h9
       refine thn (helt _ s9 σ8 H9 (fun v H'=>∃ ι10,Ext X.K H9 ι9 H' ι10 ∧ Zat X.K H' ι10 M10 ∧ Rep X.K H' ι10 d v) I9 ⟨ι9,M9,env6,S9,E8.mono x9,by rw [e10]; exact fun v H' ι' x' S' r'=>⟨ι',x',S',r'⟩⟩) fun xv s10 zz1=>?_
       obtain ⟨v,H10,I10,r10,ι10,x10,S10,rd⟩:=zz1
       have hι10:ι10[M2.length]? = some s2.heap.objs.size:=x10.pre _ _ (x9.pre _ _ hι)
       cases hm:M10[M2.length]? with
       | none=>rw [hm] at h10; exact h10.elim
       | some o=>
        cases o with
        | dct _=>rw [hm] at h10; exact h10.elim
        | fdct _=>rw [hm] at h10; exact h10.elim
        | ins _ _=>rw [hm] at h10; exact h10.elim
        | lst xs=>
         rw [hm] at h10
         by_cases hz:xs.length < SZ
         ·simp only [if_pos hz] at h10
          obtain ⟨vs,ev,rvs⟩:=S10.obj _ _ _ hm hι10
          obtain ⟨x11,S11⟩:=S10.setl (.inr (.inl ⟨_,ev⟩)) hι10 (rvs.append (Zab.cons rd Zab.nil))
          refine thn (Zih _ s10 σ8 H10 (.ref s2.heap.objs.size) [v] (.ref s2.heap.objs.size) [xv] (fun _ H'=>H' = upd H10 s2.heap.objs.size (.lst (vs ++ [v]))) I10 rfl (.cons r10 .nil) ⟨_,vs,v,rfl,rfl,ev,by rw [rvs.length]; exact Nat.lt_of_lt_of_le hz Zcf,rfl⟩) fun _ s11 zz1=>?_
          obtain ⟨_,H11,I11,_,eH⟩:=zz1
          subst eH
          obtain ⟨I11',st11,fr11⟩:=back I11
          exact ⟨itd.items.length - (k + 1),lD 2 0x30113c2012a1c0c21 T1 (Nat.sub_add_cancel (lB 1 6991908881 T1 hlt)) (sbA _ _),⟨k + 1,σ8,_,ι10,_,env6,I11',st11,fr11,rfl,hlt,((x5.trans x9).trans x10).trans x11,S11,((E8.mono x9).mono x10).mono x11,hι10,((h10.up x9).up x10).up x11⟩⟩
         ·simp only [if_neg hz] at h10; exact h10.elim
    ·rw [if_neg lk] at h5; exact h5.elim
   ·have e0:k = itd.items.length:=Nat.le_antisymm hk (Nat.le_of_not_lt hlt)
    subst e0
    rw [List.drop_length] at h5
    unfold Zet at h5
    by_cases lk:locked itd M5 = true
    ·rw [if_pos lk] at h5
     refine thn (T.done (ZcP X scope N' s3.heap.objs.size (ZbJ X.env.cells scope.names []) s3 (upd H2 s2.heap.objs.size (.lst [])) fp) rfl rfl rfl hc _ [] s5 σ5 H5 (fun _ _=>False) I5 (hfp4 fr5) st5 ((ok _ H5 ι5 M5 x5 S5 lk).2 rfl)) fun r s6 zz1=>?_
     obtain ⟨hr,I6⟩:=zz1
     subst hr
     obtain ⟨m6,hn6,_⟩:=I6.loc
     have I7:Inv X pins σ H5 s6:=I3.call' (ch:=fp) I6.os I6.base I6.hok I6.bare fun b hb=>⟨(hfp3 b hb).2.2.2.1,(hfp3 b hb).2.1,(hfp3 b hb).2.2.2.2.1,(hfp3 b hb).2.2.2.2.2⟩
     exact fin _ _ s6 m6 H5 hn6 (I3.fpOk (Nat.le_refl _) I6.free) I7 (h5 _ H5 ι5 Ext.refl S5 (Rep.ref hι))
    ·rw [if_neg lk] at h5; exact h5.elim
  ·rw [← S2.len]; simp
 exact codeAny_compStart_list (loop _ rfl) (T.self _ 0 _ _ _ st4 (loop _ rfl))
theorem Zhg (j:Nat) {x:Str} {pos' spos:Pos} (O:Zkf X scope N' own) (hxe:X.xe = fun _ _=>False) (hc:X.calm = true) (hN:X.N.Nodup) (hi:CI X tg iter i)
  (hb:∀ C cl s H ex,CG (ZcP X scope N' C cl s H ex) tg g ∧ CTs (ZcP X scope N' C cl s H ex) ifs ts ∧ C3 (ZcP X scope N' C cl s H ex) elt f)
  (hj:X.N[j]? = some x:=by rfl) (hx:Loc X.env.scope x:=by first | exact Or.inl rfl | exact Or.inr rfl)
  (hf:X.fn x = true ∨ X.env.scope.names.lookup x = some .local:=by first | exact .inl rfl | exact .inr rfl)
  (hsw:swapsWith (.ListComp elt [⟨tg,iter,ifs,0⟩] scope pos) (some (.Name x pos')) spos.line X.env = pure true:=by rfl)
  (hs:∀ x,foldedSetIterable iter X.env x = pure x:=by intro _; rfl):CS X (.Assign [.Name x pos'] (.ListComp elt [⟨tg,iter,ifs,0⟩] scope pos) spos) (Zaf j (eLC i own g ts f)):=by
 intro pins s σ H D I h
 obtain ⟨ι,M,env,S,E,h⟩:=h
 have h0:Zam X.K H ι (fun v H'=>D.nx (σ.set j (some v)) H') (eLC i own g ts f env M):=by
  unfold Zaf at h
  cases q:eLC i own g ts f env M with
  | ok d M1=>rw [q] at h; exact fun v H1 ι1 x1 S1 r1=>h _ H1 ι1 x1 S1 ((E.mono x1).set j r1)
  | exc _ _=>rw [q] at h; exact h.elim
  | bad=>rw [q] at h; exact h.elim
 obtain ⟨itd,M1,e1,h1⟩:=Zam.bind h0
 have hc0:∀ y ∈ scope.names,y.2 = .free → ∃ c,X.env.cells.lookup y.1 = some c:=fun y hy e=>I.ok.has y.1 (O.free y hy e)
 rw [exec_Assign_Name_used _ _ _ _ hsw]
 refine wpAny_bind (wpAny_standAt (wpAny_bind ?_))
 show wpAny _ X.A (do let _ ← comprehension (.ListComp elt [⟨tg,iter,ifs,0⟩] scope pos) scope X.env _ (newList []) false (eval iter X.env) (some (assign (.Name x pos') X.env))) _ _ s
 refine wpAny_bind (wpAny_mono (wpAny_comprehension_free (use:=some (assign (.Name x pos') X.env)) (Q:=fun _ s'=>SP X pins D .next s') rfl hs (Zhs hc0) O.kind O.names ?_) (fun _ s' hq=>wpAny_pure (wpAny_pure hq)) fun _ _ e=>e)
 refine thn (hi pins s σ H (fun J H'=>∃ ι',Ext X.K H ι H' ι' ∧ Zat X.K H' ι' M1 ∧ ZlJ X.K H' ι' itd J) I ⟨ι,M,env,S,E,by rw [e1]; exact fun J H' ι' x S' o=>⟨ι',x,S',o⟩⟩) fun v s1 h1'=>thn h1' fun itv s2 h2=>?_
 obtain ⟨it,fp,tn,J,H2,rfl,I2,T,st2,f2,ι2,x2,S2,ok⟩:=h2
 refine Zkc (own:=own) (g:=g) (ts:=ts) (f:=f) O hc hb I2 T st2 f2 S2 (E.mono x2) ok (h1.up x2) (fun acc C=>compPost (model X.prog X.w) X.A X.xe (some (assign (.Name x pos') X.env)) (fun _ s'=>SP X pins D .next s') acc C) ?_
 intro acc C s' m H' hn hfC I' hq
 obtain ⟨f0,f1,f2',f3,f4,f5⟩:=hfC
 show wpAny _ X.A (assign (.Name x pos') X.env (.ref acc)) _ _ s'
 refine wpAny_assign_Name (Zif I' hN hj hx (show RelV (.ref acc) (.ref acc) from rfl) (fun s'' I'' ⟨a,sb,ha⟩=>?_) hf)
 have hCa:C ≠ a:=by
  rcases ha with rfl | ha
  ·exact f1
  ·exact Ne.symm (f4 x a ha)
 exact ⟨m,hn.sameBut sb hCa,fun h' sb'=>⟨_,H',I''.turned (t':=s''.toks) (fun b o hb e=>(sb'.2 b hb).trans e) f0 f1 f3 f4 f5,hq⟩⟩
end
end L3
namespace L3
open PySem PySem.Spec PyProof.Rows L2
theorem Zcc {k:Nat} {A:Around} (r:ZbB k A):A.units + 80 < cLine:=by have:=r.un; exact lC 1 0x2502b0c12c82b110d0cc11 T1 this
noncomputable def Its (x:Str):It:=⟨fun i _=>i < x.cps.size,fun i H y H'=>H' = H ∧ ∃ c,x.cps[i]? = some c ∧ y = .str ⟨#[c]⟩,fun i _=>i = x.cps.size⟩
theorem ZmI {P:Program} {w:World} {K:PySem.W.Frag} {tg:Expr} {it:Addr} {x:Str} {t:Tok} {ty:String} (W:∀ A':Around,A'.handled = none → Walks P w A' it [it] [it] x.cps.size (SignAt x) (fun i h=>h.IsStrIter it ty x t i))
  (hs:∀ (A:Around) (i:Nat) (s:Shared) (Q:Value → Shared → Prop) (E:Value → Shared → Prop),s.heap.IsStrIter it ty x t i → Q (.ref it) s → wpAny (model P w) A (pyIter (.ref it)) Q E s)
  (hty:["enumerate","zip","dict_itemiterator","dict_reverseitemiterator","odict_iterator","itertools.zip_longest","itertools.pairwise"].contains ty = false):Turn P w K tg (Its x) [it] it (fun i h=>h.IsStrIter it ty x t i) where
 mem:=by simp
 obj:=fun i h st b hb=>by
  have e:b = it:=by simpa using hb
  subst e
  obtain ⟨o,e,c,d⟩:=st
  exact ⟨o,e,fun v z=>by rw [d] at z; cases z⟩
 keep:=fun i h h' st k=>let ⟨o,e,r⟩:=st; ⟨o,k it (by simp) o e,r⟩
 item:=by
  intro X hP hw hK hc i pins s σ H E I hf st hg
  subst hP hw hK
  obtain ⟨f0,f1,f2,f3,f4,f5⟩:=hf it (by simp)
  refine (W X.A (I.ok.hd hc)).item i s _ _ hg st fun v h' tk hv st' kk=>?_
  obtain ⟨c,u,hx,rfl⟩:=hv
  have I1:Inv X pins σ H { s with heap:=h',toks:=tk }:=I.turned (fun b o hb e=>kk b o (by simpa using hb) e) f0 f1 f3 f4 f5
  obtain ⟨o,e,cc,d⟩:=id st'
  exact ⟨_,rfl,Zlm (s:={ s with heap:=h',toks:=tk }) e cc d hty ⟨.str ⟨#[c]⟩,H,I1,⟨u,rfl⟩,⟨rfl,c,hx,rfl⟩,st',fun b hb=>(hf b hb).1⟩⟩
 done:=by
  intro X hP hw hK hc i pins s σ H E I hf st hg
  subst hP hw hK
  obtain ⟨f0,f1,f2,f3,f4,f5⟩:=hf it (by simp)
  have e:i = x.cps.size:=hg
  subst e
  exact (W X.A (I.ok.hd hc)).done s _ _ st fun h' tk kk=>⟨rfl,I.turned (fun b o hb e=>kk b o (by simpa using hb) e) f0 f1 f3 f4 f5⟩
 self:=hs
section
variable {X:Cx} {tg e o:Expr} {es:List Expr} {pos p apos cpos:Pos} {f:E3} {gl:EL3}
theorem Zpx (h:C3 X e f):PI X tg e (fun σ H R=>tOf X.K f σ H fun x H1=>∃ z:Str,x = .str z ∧ z.length ≤ SZ ∧ ∀ J,(∀ ι,ZlJ X.K H1 ι ⟨z.cps.toList.map fun c=>.str [c],none⟩ J) → R J H1):=by
 intro pins s σ H R I hw
 refine thn (h pins s σ H _ I hw) fun v s1 zz1=>?_
 obtain ⟨x,H1,I1,r1,z,ex,hz,q⟩:=zz1
 subst ex
 obtain ⟨t,rfl⟩:=r1
 have key:∀ (ty:String) (o:Obj),(∀ A':Around,A'.handled = none → Walks X.prog X.w A' s1.heap.objs.size [s1.heap.objs.size] [s1.heap.objs.size] z.cps.size (SignAt z) (fun i h=>h.IsStrIter s1.heap.objs.size ty z t i)) →
   (∀ (A:Around) (i:Nat) (s:Shared) (Q:Value → Shared → Prop) (E:Value → Shared → Prop),s.heap.IsStrIter s1.heap.objs.size ty z t i → Q (.ref s1.heap.objs.size) s → wpAny (model X.prog X.w) A (pyIter (.ref s1.heap.objs.size)) Q E s) →
   ["enumerate","zip","dict_itemiterator","dict_reverseitemiterator","odict_iterator","itertools.zip_longest","itertools.pairwise"].contains ty = false → (s1.heap.push o).IsStrIter s1.heap.objs.size ty z t 0 →
   PIE X pins σ tg R (.ref s1.heap.objs.size) { s1 with heap:=s1.heap.push o }:=by
  intro ty o W hs hty st
  refine ⟨s1.heap.objs.size,[s1.heap.objs.size],_,_,H1,rfl,I1.kept (t':=s1.toks) fun b o e=>Heap.get?_push_of_some _ e,ZmI W hs hty,st,fun b hb=>?_,q _ fun ι=>?_⟩
  ·have e:b = s1.heap.objs.size:=by simpa using hb
   subst e
   exact I1.fpOk (Nat.le_refl _) (I1.hok.fresh (Nat.le_refl _))
  ·intro i H2 ι2 M2 x S _
   refine ⟨fun d hd=>?_,fun hl=>?_⟩
   ·rw [List.getElem?_map] at hd
    cases hq:z.cps.toList[i]? with
    | none=>rw [hq] at hd; cases hd
    | some c=>
     rw [hq] at hd
     have hd':D.str [c] = d:=by simpa using hd
     subst hd'
     have hi:i < z.cps.size:=by
      have:=(List.getElem?_eq_some_iff.mp hq).1
      simpa using this
     refine ⟨hi,fun y H3 hy=>⟨hy.1,?_⟩⟩
     obtain ⟨_,c',hc',rfl⟩:=hy
     have:c' = c:=by
      rw [← Array.getElem?_toList,hq] at hc'
      exact (Option.some.inj hc').symm
     subst this
     exact Rep.str
   ·show i = z.cps.size
    rw [hl]
    simp
 cases ha:z.cps.all (· < 128)
 ·exact wpAny_pyIter_wide ha (key "str_iterator" _ (fun A' hA=>Walks.strWide hA _ z t) (fun _ _ _ _ _ st h=>wpAny_pyIter_striter_wide st h) (by decide) ⟨_,Heap.get?_push_size _ rfl,rfl,rfl⟩)
 ·exact wpAny_pyIter_ascii ha (key "str_ascii_iterator" _ (fun A' hA=>Walks.strAscii hA _ z t) (fun _ _ _ _ _ st h=>wpAny_pyIter_striter_ascii st h) (by decide) ⟨_,Heap.get?_push_size _ rfl,rfl,rfl⟩)
theorem Znx (h:C3 X e f):CI X tg e (ZfV f):=Zqn h (Zpx h)
theorem ZqK {K:PySem.W.Frag} {T:String} {ty:D → Store → Bool} {m:D → List D → Store → R3 D} (hty:∀ H ι M a x,Zat K H ι M → Rep K H ι a x → ty a M = true → tyV K T x H) (σ:St) (H:Hp) (Q:VK) (h:tOf K (Zbl ty m f gl) σ H Q):tBM K T (rM K m) (tOf K f) (tAf K gl) σ H Q:=by
 obtain ⟨ι,M,env,S,E,h⟩:=h
 obtain ⟨a,M1,e1,h⟩:=Zam.bind h
 refine ⟨ι,M,env,S,E,?_⟩
 rw [e1]
 intro v H1 ι1 x1 S1 r1
 by_cases ht:ty a M1 = true
 ·rw [if_pos ht] at h
  obtain ⟨ds,M2,e2,h⟩:=Zam.bind h
  refine ⟨hty _ _ _ _ _ S1 r1 ht,ι1,M1,env,S1,E.mono x1,?_⟩
  rw [e2]
  intro vs H2 ι2 x2 S2 r2
  exact ⟨ι2,M2,a,ds,S2,r1.mono x2,r2,(h.up x1).up x2⟩
 ·rw [if_neg ht] at h; exact h.elim
theorem Zmx {K:PySem.W.Frag} (H:Hp) (ι:List Addr) (M:Store) (a:D) (x:V) (S:Zat K H ι M) (r:Rep K H ι a x) (h:tyL a M = true):tyV K "list" x H:=by
 cases a with
 | ref n=>
  simp only [tyL] at h
  cases hn:M[n]? with
  | none=>simp [hn] at h
  | some o=>
   cases o with
   | dct _=>simp [hn] at h
   | fdct _=>simp [hn] at h
   | ins _ _=>simp [hn] at h
   | lst xs=>
    obtain ⟨p,hp,rfl⟩:=r.ref_inv
    obtain ⟨vs,e,_⟩:=S.obj n _ p hn hp
    exact .inl ⟨rfl,vs,SqL.of e⟩
 | _=>simp at h
theorem _root_.L2.MtR.imp {id:String} {r r':V → List V → Hp → VK → Prop} (h:MtR X id r) (i:∀ x xs H Q,r' x xs H Q → r x xs H Q):MtR X id r':=fun pins s σ H x xs v us Q I rx rs q=>h pins s σ H x xs v us Q I rx rs (i x xs H Q q)
theorem ZnF:MtR X "list.append" (rM X.K ZaD):=MtR.imp (r:=ZkN) Zih fun x xs H Q zz1=>by
 obtain ⟨ι,M,a,ds,S,ra,rd,h⟩:=zz1
 cases a with
 | ref n=>
  cases ds with
  | nil=>exact h.elim
  | cons d ds=>
   cases ds with
   | cons _ _=>exact h.elim
   | nil=>
    simp only [ZaD] at h
    cases hn:M[n]? with
    | none=>simp only [hn] at h; exact h.elim
    | some o=>
     cases o with
     | dct _=>simp only [hn] at h; exact h.elim
     | fdct _=>simp only [hn] at h; exact h.elim
     | ins _ _=>simp only [hn] at h; exact h.elim
     | lst z=>
      simp only [hn] at h
      split at h
      ·rename_i hz
       obtain ⟨p,hp,rfl⟩:=ra.ref_inv
       obtain ⟨v,ws,rfl,r1,r2⟩:=rd.cons_inv
       have:=r2.nil_inv
       subst this
       obtain ⟨vs,e,rv⟩:=S.obj n _ p hn hp
       obtain ⟨x2,S2⟩:=S.setl (.inr (.inl ⟨_,e⟩)) hp (rv.append (Zab.cons r1 Zab.nil))
       exact ⟨p,vs,v,rfl,rfl,e,by rw [rv.length]; exact Nat.lt_of_lt_of_le hz Zcf,h _ _ _ x2 S2 Rep.non⟩
      ·exact h.elim
 | _=>exact h.elim
theorem ZaL (ho:C3 X o f) (ha:CA X (e :: es) gl)
  (hbase:attributeBase o "append" X.env (eval o X.env) = eval o X.env:=by rfl)
  (hfew:((backTo cpos (starEach (e :: es) X.env)).all (fun x=>!x.1) && (backToKw cpos (keywordEach [] X.env)).all (fun x=>x.1.isSome)
   && decide ((e :: es).length + ([]:List Keyword).length + (if ([]:List Keyword).isEmpty then 0 else 1) < 30)) = true:=by rfl)
  (hline:(apos.endLine == cpos.line) = true:=by rfl) (hs:starEach (e :: es) X.env = (false,eval e X.env) :: starEach es X.env:=by rfl) (hplain:(backTo cpos (starEach es X.env)).any (·.1) = false:=by rfl):
  C3 X (.Call (.Attribute o "append" apos) (e :: es) [] cpos) (Zbl tyL ZaD f gl):=
 (Zrh PySem.F.plainAttrs_list PySem.F.slot_list_append PySem.F.type_list_append ZnF ho ha hbase hfew hline hs hplain).imp (ZqK Zmx)
theorem Zrm:OpR X (compareOp .In) (r2 X.K fun a b M=>match a,b with | .str [c],.str y=>.ok (.bl (decide (c ∈ y))) M | _,_=>.bad):=OpR.imp ZlO fun x y H Q zz1=>by
 obtain ⟨ι,M,a,b,S,ra,rb,h⟩:=zz1
 cases a with
 | str z=>
  cases z with
  | nil=>cases b <;> exact h.elim
  | cons c z=>
   cases z with
   | cons _ _=>cases b <;> exact h.elim
   | nil=>
    cases b with
    | str y=>
     refine ⟨_,_,ra.str_inv,rb.str_inv,?_⟩
     have e:=StrLaws.found_one (⟨y.toArray⟩:Str) c
     rw [show (⟨[c].toArray⟩:Str) = ⟨#[c]⟩ from rfl,e]
     exact Zam.ok h S Rep.bl
    | _=>exact h.elim
 | _=>cases b <;> exact h.elim
end
end L3
namespace L3
open PySem PySem.Spec PyProof.Rows L2
section
variable {X:Cx}
theorem Zpr {pins:List (Addr × Obj)} {σ:St} {H:Hp} {s:Shared} {ι:List Addr} {M:Store} {a b:D} {x y:V} {u v:Value} {k:Bool} (hu:X.A.units + 80 < cLine) (I:Inv X pins σ H s) (S:Zat X.K H ι M)
  (ra:Rep X.K H ι a x) (rb:Rep X.K H ι b y) (ru:RelV x u) (rv:RelV y v) (h:eqD a b M = some k):SeqAt.RcNeAt X.A s u v (!k):=by
 cases a with
 | ref n=>
  cases b with
  | ref m=>
   simp only [eqD] at h
   cases hn:M[n]? with
   | none=>simp [hn] at h
   | some o=>
    cases o with
    | dct _=>simp [hn] at h
    | fdct _=>simp [hn] at h
    | ins _ _=>simp [hn] at h
    | lst ds=>
     cases hm:M[m]? with
     | none=>simp [hn,hm] at h
     | some o=>
      cases o with
      | dct _=>simp [hn,hm] at h
      | fdct _=>simp [hn,hm] at h
      | ins _ _=>simp [hn,hm] at h
      | lst es=>
       simp only [hn,hm] at h
       split at h
       ·rename_i hp
        cases h
        rw [Bool.and_eq_true] at hp
        obtain ⟨p,hp1,rfl⟩:=ra.ref_inv
        obtain ⟨q,hq1,rfl⟩:=rb.ref_inv
        cases ru
        cases rv
        obtain ⟨vs,e1,r1⟩:=S.obj n _ p hn hp1
        obtain ⟨ws,e2,r2⟩:=S.obj m _ q hm hq1
        obtain ⟨its,rvs,pl1,_⟩:=I.list (SqL.of e1)
        obtain ⟨its2,rws,pl2,_⟩:=I.list (SqL.of e2)
        have it1:=pl1.isList
        have it2:=pl2.isList
        have l1:its.length = ds.length:=by rw [← rvs.length,r1.length]
        have l2:its2.length = es.length:=by rw [← rws.length,r2.length]
        have hu1:X.A.units < cLine:=lB 1 17666545486865 T1 hu
        by_cases hl:ds.length = es.length
        ·have key:(List.range its.toArray.size).all (fun j=>match ds[j]?,es[j]? with | some a,some b=>deq a b | _,_=>false) = ZbV ds es:=by
          rw [List.size_toArray,l1]
          exact ZcA hl fun j a b h1 h2=>by rw [h1,h2]
         rw [← key]
         refine SeqAt.RcNeAt.lists it1 it2 (by rw [List.size_toArray,List.size_toArray,l1,l2,hl]) hu1 fun j h1 h2=>?_
         have h1':j < ds.length:=by rw [← l1]; simpa using h1
         have h2':j < es.length:=by rw [← l2]; simpa using h2
         have q1:ds[j]? = some ds[j]:=by simp [h1']
         have q2:es[j]? = some es[j]:=by simp [h2']
         rw [q1,q2]
         obtain ⟨v1,g1,z1⟩:=r1.get q1
         obtain ⟨v2,g2,z2⟩:=r2.get q2
         obtain ⟨u1,k1,w1⟩:=rvs.get g1
         obtain ⟨u2,k2,w2⟩:=rws.get g2
         have m1:its.toArray[j] = u1:=by
          have:=List.getElem?_eq_some_iff.mp k1
          simpa using this.2
         have m2:its2.toArray[j] = u2:=by
          have:=List.getElem?_eq_some_iff.mp k2
          simpa using this.2
         rw [m1,m2]
         exact ZiE I DEEP X.A.in1 ds[j] es[j] v1 v2 u1 u2 (by rw [units_in1]; show X.A.units + 1 + 60 + 1 < cLine; exact lB 1 0x1a3c2ba0ccc11502b0c11 T1 hu) (List.all_eq_true.mp hp.1 _ (List.getElem_mem h1')) (List.all_eq_true.mp hp.2 _ (List.getElem_mem h2')) z1 z2 w1 w2
        ·have z:ZbV ds es = false:=by
          cases q:ZbV ds es with
          | false=>rfl
          | true=>exact absurd (Zd6 q) hl
         rw [z]
         exact SeqAt.RcNeAt.lists_lengths it1 it2 (by rw [List.size_toArray,List.size_toArray,l1,l2]; simpa using hl) hu1
       ·cases h
  | _=>simp [eqD] at h
 | int i=>cases b with
  | int j=>
   simp only [eqD] at h
   cases h
   have:=ra.int_inv; subst this; have:=rb.int_inv; subst this
   obtain ⟨t,rfl⟩:=ru
   obtain ⟨t',rfl⟩:=rv
   rw [← Bool.beq_eq_decide_eq]
   exact SeqAt.RcNeAt.int_int _ _ _ _
  | _=>simp [eqD] at h
 | str i=>cases b with
  | str j=>
   simp only [eqD] at h
   cases h
   have:=ra.str_inv; subst this; have:=rb.str_inv; subst this
   obtain ⟨t,rfl⟩:=ru
   obtain ⟨t',rfl⟩:=rv
   have e:decide (i = j) = ((⟨i.toArray⟩:Str) == ⟨j.toArray⟩):=by
    rw [← Bool.beq_eq_decide_eq,← Zfu]
    by_cases h:(⟨i.toArray⟩:Str) = ⟨j.toArray⟩
    ·simp [h]
    ·simp [h]
   rw [e]
   exact SeqAt.RcNeAt.str_str _ _ _ _
  | _=>simp [eqD] at h
 | bl i=>cases b with
  | bl j=>
   simp only [eqD] at h
   cases h
   have:=ra.bl_inv; subst this; have:=rb.bl_inv; subst this
   cases ru
   cases rv
   rw [← Bool.beq_eq_decide_eq]
   exact SeqAt.RcNeAt.bool_bool _ _
  | _=>simp [eqD] at h
 | tup ds=>cases b with
  | tup es=>
   simp only [eqD] at h
   split at h
   ·rename_i hp
    cases h
    rw [Bool.and_eq_true] at hp
    obtain ⟨p,vs,rfl,s1,r1⟩:=ra.tup_inv
    obtain ⟨p',ws,rfl,s2,r2⟩:=rb.tup_inv
    cases ru
    cases rv
    obtain ⟨its,rvs,ht,_⟩:=I.tuple s1
    obtain ⟨its2,rws,ht2,_⟩:=I.tuple s2
    have e1:its.length = ds.length:=by rw [← rvs.length,r1.length]
    have e2:its2.length = es.length:=by rw [← rws.length,r2.length]
    have hu1:X.A.units < cLine:=lB 1 17666545486865 T1 hu
    have key:((List.range (min its.toArray.size its2.toArray.size)).all (fun j=>match ds[j]?,es[j]? with | some a,some b=>deq a b | _,_=>false) && its.toArray.size == its2.toArray.size) = ZbV ds es:=by
     rw [List.size_toArray,List.size_toArray,e1,e2]
     by_cases hl:ds.length = es.length
     ·rw [hl,Nat.min_self,beq_self_eq_true,Bool.and_true,← hl]
      exact ZcA hl fun j a b h1 h2=>by rw [h1,h2]
     ·have z:ZbV ds es = false:=by
       cases q:ZbV ds es with
       | false=>rfl
       | true=>exact absurd (Zd6 q) hl
      rw [z,beq_eq_false_iff_ne.mpr hl,Bool.and_false]
    rw [← key]
    refine SeqAt.RcNeAt.tuples (show s.heap.IsTuple p its.toArray from ht) (show s.heap.IsTuple p' its2.toArray from ht2) hu1 fun j h1 h2=>?_
    have h1':j < ds.length:=by rw [← e1]; simpa using h1
    have h2':j < es.length:=by rw [← e2]; simpa using h2
    have q1:ds[j]? = some ds[j]:=by simp [h1']
    have q2:es[j]? = some es[j]:=by simp [h2']
    rw [q1,q2]
    obtain ⟨v1,g1,z1⟩:=r1.get q1
    obtain ⟨v2,g2,z2⟩:=r2.get q2
    obtain ⟨u1,k1,w1⟩:=rvs.get g1
    obtain ⟨u2,k2,w2⟩:=rws.get g2
    have m1:its.toArray[j] = u1:=by
     have:=List.getElem?_eq_some_iff.mp k1
     simpa using this.2
    have m2:its2.toArray[j] = u2:=by
     have:=List.getElem?_eq_some_iff.mp k2
     simpa using this.2
    rw [m1,m2]
    exact ZiE I DEEP X.A.in1 ds[j] es[j] v1 v2 u1 u2 (by rw [units_in1]; show X.A.units + 1 + 60 + 1 < cLine; exact lB 1 0x1a3c2ba0ccc11502b0c11 T1 hu) (List.all_eq_true.mp hp.1 _ (List.getElem_mem h1')) (List.all_eq_true.mp hp.2 _ (List.getElem_mem h2')) z1 z2 w1 w2
   ·cases h
  | _=>simp [eqD] at h
 | _=>cases b <;> simp [eqD] at h
theorem Zg1 (hu:X.A.units + 80 < cLine):OpR X (compareOp .NotEq) (r2 X.K ZcQ):=by
 intro pins s σ H x y v u Q I rx ry h
 obtain ⟨ι,M,a,b,S,ra,rb,h⟩:=h
 unfold ZcQ at h
 cases q:eqD a b M with
 | none=>rw [q] at h; exact h.elim
 | some k=>
  rw [q] at h
  exact Zpr hu I S ra rb rx ry q X.prog X.w X.xe _ ⟨.bl (!k),H,I,rfl,Zam.ok h S Rep.bl⟩
theorem ZjE {K:PySem.W.Frag} {H:Hp} {ι:List Addr} {d:D} {v:V} (r:Rep K H ι d v) (h:ZaT d = true):Ze4 v = true:=by
 cases d with
 | non=>rw [r.non_inv]; rfl
 | bl b=>rw [r.bl_inv]; rfl
 | int i=>rw [r.int_inv]; rfl
 | str x=>rw [r.str_inv]; rfl
 | _=>simp [ZaT] at h
theorem Zod (x y:List Nat):((⟨x.toArray⟩:Str) == ⟨y.toArray⟩) = (x == y):=by
 rw [Bool.eq_iff_iff]
 simp
theorem Zn2 {K:PySem.W.Frag} {H:Hp} {ι:List Addr} {d e:D} {v w:V} (r:Rep K H ι d v) (q:Rep K H ι e w) (h:ZaT d = true) (h':ZaT e = true):eqV v w = deq d e:=by
 cases d with
 | non=>have:=r.non_inv; subst this; cases e with
  | non=>have:=q.non_inv; subst this; rfl
  | bl _=>have:=q.bl_inv; subst this; rfl
  | int _=>have:=q.int_inv; subst this; rfl
  | str _=>have:=q.str_inv; subst this; rfl
  | _=>simp [ZaT] at h'
 | bl _=>have:=r.bl_inv; subst this; cases e with
  | non=>have:=q.non_inv; subst this; rfl
  | bl _=>have:=q.bl_inv; subst this; rfl
  | int _=>have:=q.int_inv; subst this; rfl
  | str _=>have:=q.str_inv; subst this; rfl
  | _=>simp [ZaT] at h'
 | int _=>have:=r.int_inv; subst this; cases e with
  | non=>have:=q.non_inv; subst this; rfl
  | bl _=>have:=q.bl_inv; subst this; rfl
  | int _=>have:=q.int_inv; subst this; rfl
  | str _=>have:=q.str_inv; subst this; rfl
  | _=>simp [ZaT] at h'
 | str _=>have:=r.str_inv; subst this; cases e with
  | non=>have:=q.non_inv; subst this; rfl
  | bl _=>have:=q.bl_inv; subst this; rfl
  | int _=>have:=q.int_inv; subst this; rfl
  | str _=>have:=q.str_inv; subst this; exact Zod _ _
  | _=>simp [ZaT] at h'
 | _=>simp [ZaT] at h
theorem Zk2 {K:PySem.W.Frag} {H:Hp} {ι:List Addr} {d:D} {v:V} (r:Rep K H ι d v) (h:ZaT d = true):∀ {ds:List D} {vs:List V},Zab K H ι ds vs → ds.all ZaT = true → vs.all Ze4 = true ∧ inV v vs = ds.any fun y=>deq y d
 | [],_,q,_=>by rw [q.nil_inv]; exact ⟨rfl,rfl⟩
 | e :: ds,_,q,hd=>by
  obtain ⟨w,ws,rfl,r1,r2⟩:=q.cons_inv
  rw [List.all_cons,Bool.and_eq_true] at hd
  obtain ⟨h1,h2⟩:=Zk2 r h r2 hd.2
  refine ⟨by rw [List.all_cons,ZjE r1 hd.1,h1]; rfl,?_⟩
  unfold inV at h2 ⊢
  rw [List.any_cons,List.any_cons,h2,Zn2 r1 r hd.1 h]
theorem ZsW (hu:X.A.units + 80 < cLine):OpR X (compareOp .In) (r2 X.K Zm3):=OpR.imp (OpR.or Zrm ZlG) fun x y H Q zz1=>by
 obtain ⟨ι,M,a,b,S,ra,rb,h⟩:=zz1
 have seq:∀ (d:D) (ys:List D),b = .tup ys → (ZaT d && ys.all ZaT) = true → a = d → Q (.bl (ys.any fun y=>deq y d)) H → rIn X.K false x y H Q:=by
  rintro d ys rfl hf rfl q
  rw [Bool.and_eq_true] at hf
  obtain ⟨p,vs,rfl,s,r⟩:=rb.tup_inv
  obtain ⟨h1,h2⟩:=Zk2 ra hf.1 r hf.2
  exact ⟨p,vs,rfl,.inr s,ZjE ra hf.1,h1,by rw [if_neg (by decide),h2]; exact q⟩
 cases b with
 | tup ys=>
  have h':Zam X.K H ι Q (match (if ZaT a && ys.all ZaT then some (ys.any fun y=>deq y a) else none) with | some r=>.ok (.bl r) M | none=>.bad):=by
   cases a with
   | str z=>cases z with
    | nil=>exact h
    | cons c z=>cases z <;> exact h
   | _=>exact h
  by_cases hf:(ZaT a && ys.all ZaT) = true
  ·rw [if_pos hf] at h'
   exact .inr (seq a ys rfl hf rfl (Zam.ok h' S Rep.bl))
  ·rw [if_neg hf] at h'; exact h'.elim
 | str y=>cases a with
  | str z=>cases z with
   | nil=>exact h.elim
   | cons c z=>cases z with
    | nil=>exact .inl ⟨ι,M,_,_,S,ra,rb,h⟩
    | cons _ _=>exact h.elim
  | _=>exact h.elim
 | _=>cases a with
  | str z=>cases z with
   | nil=>exact h.elim
   | cons c z=>cases z <;> exact h.elim
  | _=>exact h.elim
theorem ZmF (x:List Nat) (n:Nat) (a:List Nat):(List.replicate n x.toArray).foldl (· ++ ·) a.toArray = (a ++ (List.replicate n x).flatten).toArray:=by
 induction n generalizing a with
 | zero=>simp
 | succ n ih=>
  rw [List.replicate_succ,List.foldl_cons,List.replicate_succ,List.flatten_cons]
  have:=ih (a ++ x)
  simp only [List.append_toArray] at this ⊢
  rw [this]
  simp
theorem Zqy (x:List Nat) (k:Int):Txt.mul (⟨x.toArray⟩:Str) k = ⟨(List.replicate k.toNat x).flatten.toArray⟩:=by
 unfold Txt.mul
 split
 ·rename_i h
  have:k.toNat = 0:=Nat.le_antisymm (Nat.le_of_eq (Int.toNat_of_nonpos (iN [] [_] 1 235446417 T1 h))) (Nat.zero_le _)
  rw [this]; rfl
 ·split
  ·rename_i h1 h2
   simp only [Bool.or_eq_true,beq_iff_eq,Str.length,List.size_toArray] at h2
   rcases h2 with h2 | h2
   ·subst h2; simp
   ·have:x = []:=List.eq_nil_of_length_eq_zero h2
    subst this
    simp
  ·have:=ZmF x k.toNat []
   rw [List.nil_append] at this
   exact congrArg Str.mk this
theorem Zab.repl {K:PySem.W.Frag} {H:Hp} {ι:List Addr} {ds:List D} {vs:List V} (r:Zab K H ι ds vs):∀ k:Nat,Zab K H ι (List.replicate k ds).flatten (List.replicate k vs).flatten
 | 0=>Zab.nil
 | k + 1=>by rw [List.replicate_succ,List.replicate_succ,List.flatten_cons,List.flatten_cons]; exact r.append (Zab.repl r k)
theorem Znt:OpR X (binaryOp .Mult) (r2 X.K Zg6):=by
 have hs:OpR X (binaryOp .Mult) (fun x y H Q=>∃ (z:List Nat) (k:Int),x = .str ⟨z.toArray⟩ ∧ y = .int k ∧ z.length * k.toNat ≤ 1000000 ∧ k < 1000000 ∧ -1000000 < k ∧ Q (.str ⟨(List.replicate k.toNat z).flatten.toArray⟩) H):=by
  intro pins s σ H x y v u Q I rx ry h
  obtain ⟨z,k,rfl,rfl,h1,h2,h3,q⟩:=h
  obtain ⟨t,rfl⟩:=rx
  obtain ⟨t',rfl⟩:=ry
  refine SB.mul ⟨?_,fun h4 h5=>?_,fun h4 h5=>?_⟩ fun t'' tk=>?_
  ·simp; omega
  ·simp only [Str.length,List.size_toArray]
   simp at h4 h5
   have hk:2 ≤ k:=by
    simp only [Str.length,List.size_toArray] at h5
    omega
   have e:(k.toNat:Int) = k:=Int.le_antisymm (Int.le_of_eq (Int.toNat_of_nonneg (iN [] [_] 1 3892452225 T1 hk))) ((Int.self_le_toNat _))
   have hm:(z.length:Int) * k ≤ 1000000:=by
    have h1':((z.length * k.toNat:Nat):Int) ≤ 1000000:=Int.ofNat_le.mpr h1
    rw [Int.natCast_mul,e] at h1'
    exact h1'
   have hd:(z.length:Int) ≤ 9223372036854775807 / k:=Int.le_ediv_of_mul_le (iN [] [_] 1 3909229441 T1 hk) (by omega)
   show ¬ ((z.length:Int) > (2 ^ 63 - 1) / k)
   have e3:((2:Int) ^ 63 - 1) = 9223372036854775807:=by decide
   rw [e3]
   exact fun z=>iN [_] [_] 2 6599352549521 T1 z hd
  ·unfold Builtin.Str.tooLong
   simp only [Str.length,List.size_toArray,decide_eq_false_iff_not]
   have hsz:(1000000:Nat) ≤ sizeLine:=Zcf
   exact fun z=>lB 3 0x6f42405b1010f42405b011011 T1 z hsz h1
  ·rw [Zqy]
   exact ⟨.str _,H,I.tok _,⟨_,rfl⟩,q⟩
 refine OpR.imp (OpR.or ZpE (OpR.or hs Zpn)) fun x y H Q zz1=>?_
 obtain ⟨ι,M,a,b,S,ra,rb,h⟩:=zz1
 cases a with
 | int i=>cases b with
  | int j=>
   simp only [Zg6] at h
   split at h
   ·rename_i hm
    refine .inl ⟨i,j,ra.int_inv,rb.int_inv,?_,Zam.ok h S Rep.int⟩
    simp only [ZdJ,Bool.or_eq_true,Bool.and_eq_true,decide_eq_true_eq] at hm
    exact hm
   ·exact h.elim
  | _=>exact h.elim
 | str z=>cases b with
  | int k=>
   simp only [Zg6] at h
   split at h
   ·rename_i hz
    exact .inr (.inl ⟨z,k,ra.str_inv,rb.int_inv,hz.1,hz.2.1,hz.2.2,Zam.ok h S Rep.str⟩)
   ·exact h.elim
  | _=>exact h.elim
 | ref n=>cases b with
  | int k=>
   simp only [Zg6] at h
   cases hn:M[n]? with
   | none=>simp only [hn] at h; exact h.elim
   | some o=>
    cases o with
    | dct _=>simp only [hn] at h; exact h.elim
    | fdct _=>simp only [hn] at h; exact h.elim
    | ins _ _=>simp only [hn] at h; exact h.elim
    | lst z=>
     simp only [hn] at h
     split at h
     ·rename_i hz
      obtain ⟨p,hp,rfl⟩:=ra.ref_inv
      obtain ⟨vs,e,r⟩:=S.obj n _ p hn hp
      refine .inr (.inr ⟨p,k,vs,rfl,rb.int_inv,e,by omega,by omega,by rw [r.length]; exact Nat.le_trans hz.1 Zcf,fun q hq=>?_⟩)
      obtain ⟨x2,S2,r2⟩:=S.lst hq (Zab.repl r k.toNat)
      exact h _ _ _ x2 S2 r2
     ·exact h.elim
  | _=>exact h.elim
 | _=>cases b <;> exact h.elim
theorem ZkK (n d:Nat) (hd:d ≤ n) (o:Option Int):(match o with | none=>(d:Int) | some i=>max 0 (min (if i < 0 then i + (n:Int) else i) (n:Int))) = ((sIx n d o:Nat):Int):=by
 cases o with
 | none=>rfl
 | some v=>
  show max 0 (min (if v < 0 then v + (n:Int) else v) (n:Int)) = (((if v < 0 then (v + (n:Int)).toNat else min v.toNat n):Nat):Int)
  by_cases h:v < 0
  ·rw [if_pos h,if_pos h]; exact clC v n h
  ·rw [if_neg h,if_neg h]; exact clD v n h
theorem Zgi (lo hi:Option Int) (n:Nat):Builtin.Str.strSliceIndices lo hi 1 n = (List.range (sIx n n hi - sIx n 0 lo)).map (fun k=>sIx n 0 lo + k):=by
 have e1:=ZkK n 0 (Nat.zero_le _) lo
 have e2:=ZkK n n (Nat.le_refl _) hi
 have key:Builtin.Str.strSliceIndices lo hi 1 n = sliceRange ((sIx n 0 lo:Nat):Int) ((sIx n n hi:Nat):Int) 1:=by
  rw [← e1,← e2]
  simp only [Builtin.Str.strSliceIndices,show ((1:Int) > 0) = True from by simp,if_true]
  cases lo <;> cases hi <;> rfl
 rw [key]
 generalize sIx n 0 lo = a
 generalize sIx n n hi = b
 simp only [sliceRange,show ((1:Int) > 0) = True from by simp,if_true]
 by_cases hlt:(a:Int) < b
 ·have e3:(((b:Int) - a + 1 - 1) / 1).toNat = b - a:=by first | exact Nat.le_antisymm (iN [_,_,_,_] [_] 3 0x230038a112c001aa1808fcf001d81 T1 (Int.mul_ediv_self_le (by decide)) (sbA _ _) (Int.toNat_of_nonneg (iN [_,_] [_] 2 0xe8a001dcaa0818fcf91180891 T1 hlt (Int.lt_mul_ediv_self_add (by decide))))) (iN [_,_,_,_] [_] 3 0x230013c2128081a001dcaa1808fcf91 T1 (Int.lt_mul_ediv_self_add (by decide)) (Int.self_le_toNat _) (Nat.sub_add_cancel (iN [_,_] [] 1 4296542353 T1 hlt))) | (simp; done) | (simp; omega)
  simp only [hlt,if_true,e3]
  refine List.map_congr_left fun k _=>?_
  exact Nat.le_antisymm (iN [_,_,_] [] 1 0x21c002801d18c08a1 T1 (Int.toNat_of_nonneg (iN [_,_] [] 0 103109659880 T1))) (iN [_,_,_] [] 1 0x210c0281801d08c81 T1 (Int.self_le_toNat _))
 ·have:b - a = 0:=Nat.le_antisymm (Nat.le_of_eq (Nat.sub_eq_zero_of_le (iN [_,_] [] 1 270010577 T1 hlt))) (Nat.zero_le _)
  simp [hlt,this]
theorem Ziy (n d:Nat) (hd:d ≤ n) (o:Option Int):sIx n d o ≤ n:=by
 cases o with
 | none=>exact hd
 | some v=>simp only [sIx]; split <;> omega
theorem Zkd (z:List Nat) (lo hi:Option Int) (l u:Option (Int × Tok)) (hl:l.map (·.1) = lo) (hu:u.map (·.1) = hi):
  (if ((1:Int) == 1 && (slicePicked ⟨z.toArray⟩ l u none).length == (⟨z.toArray⟩:Str).length) = true then (⟨z.toArray⟩:Str) else ⟨((slicePicked ⟨z.toArray⟩ l u none).filterMap ((⟨z.toArray⟩:Str).cps[·]?)).toArray⟩) = ⟨(cutD z lo hi).toArray⟩:=by
 have e0:slicePicked ⟨z.toArray⟩ l u none = (List.range (sIx z.length z.length hi - sIx z.length 0 lo)).map (fun k=>sIx z.length 0 lo + k):=by
  unfold slicePicked
  rw [hl,hu]
  simp only [Str.length,List.size_toArray]
  exact Zgi lo hi z.length
 have hb:=Ziy z.length z.length (Nat.le_refl _) hi
 rw [e0]
 have pick:((List.range (sIx z.length z.length hi - sIx z.length 0 lo)).map (fun k=>sIx z.length 0 lo + k)).filterMap ((⟨z.toArray⟩:Str).cps[·]?) = cutD z lo hi:=by
  unfold cutD
  by_cases hab:sIx z.length 0 lo ≤ sIx z.length z.length hi
  ·have h:=StrLaws.picks z (sIx z.length z.length hi - sIx z.length 0 lo) (sIx z.length 0 lo) (lD 2 82120338080600065 T1 hb (Nat.sub_add_cancel hab))
   simpa using h
  ·have:sIx z.length z.length hi - sIx z.length 0 lo = 0:=Nat.le_antisymm (Nat.le_of_eq (Nat.sub_eq_zero_of_le (lB 1 1052737 T1 hab))) (Nat.zero_le _)
   rw [this]
   simp
 rw [pick]
 split
 ·rename_i hc
  simp only [List.length_map,List.length_range,Str.length,List.size_toArray,Bool.and_eq_true,beq_iff_eq] at hc
  have hc2:=hc.2
  have h0:sIx z.length 0 lo = 0 ∨ z.length = 0:=by omega
  have:cutD z lo hi = z:=by
   unfold cutD
   rcases h0 with h0 | h0
   ·rw [h0,List.drop_zero,List.take_of_length_le (by exact lD 3 0x3102001e3c2011031 T1 hc2 (sbA _ _) (Nat.sub_le _ _))]
   ·have:z = []:=List.eq_nil_of_length_eq_zero h0
    subst this
    simp
  rw [this]
 ·rfl
theorem Zqd:SlR X (fun x lo hi H Q=>∃ z:List Nat,x = .str ⟨z.toArray⟩ ∧ z.length ≤ SZ ∧ Q (.str ⟨(cutD z lo hi).toArray⟩) H):=by
 intro pins s σ H x v vl vu lo hi sl Q I rx hs pl pu h
 obtain ⟨z,rfl,hz,q⟩:=h
 obtain ⟨t,rfl⟩:=rx
 have part:∀ {v:Value} {o:Option Int},IsPart v o → ∃ p:Option (Int × Tok),v = partValue p ∧ p.map (·.1) = o:=by
  intro v o h
  cases h with
  | none=>exact ⟨none,rfl,rfl⟩
  | int i t=>exact ⟨some (i,t),rfl,rfl⟩
 obtain ⟨l,rfl,hl⟩:=part pl
 obtain ⟨u,rfl,hu⟩:=part pu
 refine ⟨"str",_,PySem.F.slot_str_getitem.lookup,typeIs_str _ _ _,?_⟩
 refine wpAny_getItem_str_slice (l:=l) (u:=u) (st:=none) hs rfl ?_
 unfold sliceMade
 refine post_val_or_made (fun _=>?_) fun t' k=>?_
 ·show ((slicePicked ⟨z.toArray⟩ l u none).filterMap ((⟨z.toArray⟩:Str).cps[·]?)).toArray.size ≤ sizeLine
  rw [List.size_toArray]
  refine Nat.le_trans (List.length_filterMap_le _ _) ?_
  show (Builtin.Str.strSliceIndices (l.map (·.1)) (u.map (·.1)) 1 (⟨z.toArray⟩:Str).length).length ≤ sizeLine
  rw [Zgi]
  simp only [List.length_map,List.length_range,Str.length,List.size_toArray]
  have:=Ziy z.length z.length (Nat.le_refl _) (u.map (·.1))
  have:=Zcf
  omega
 ·have e:=Zkd z lo hi l u hl hu
  have e':(if (((none:Option (Int × Tok)).map (·.1)).getD 1 == 1 && (slicePicked ⟨z.toArray⟩ l u none).length == (⟨z.toArray⟩:Str).length) = true then (⟨z.toArray⟩:Str) else ⟨((slicePicked ⟨z.toArray⟩ l u none).filterMap ((⟨z.toArray⟩:Str).cps[·]?)).toArray⟩) = ⟨(cutD z lo hi).toArray⟩:=e
  rw [e']
  exact ⟨.str _,H,I.tok _,⟨_,rfl⟩,q⟩
theorem Zfl {prog:Program} {w:World} {A:Around} {E:Value → Shared → Prop} {s:Shared} {t sl:Addr} {items:Array Value} {vl vu:Value} {lo hi:Option Int} {Q:Value → Shared → Prop} (ht:IsTup s.heap t items) (hs:s.heap.IsSliceOf sl vl vu .none) (pl:IsPart vl lo) (pu:IsPart vu hi)
  (hw:HT.sIx items.size 0 lo = 0 ∧ HT.sIx items.size items.size hi = items.size) (h:Q (.ref t) s):wpAny (model prog w) A (getItem (.ref t) (.ref sl)) Q E s:=by
 obtain ⟨os,hos,hcs,hds⟩:=id hs
 have hTs:s.TypeIs (.ref sl) "slice":=⟨os,hos,hcs⟩
 unfold getItem
 try with_reducible refine wpAny_holding ?_
 first | refine wpAny_bind (wpAny_pure ?_) | skip
 refine wpAny_bind (wpAny_sequenceKey ht.typeIs (by decide) ?_)
 refine wpAny_bind (wpAny_callSpecial?_slot (name:=Str.ofString "__getitem__") ht.typeIs PyProof.Rows.slot_tuple_getitem
  (wpAny_call_entry PyProof.Rows.slot_tuple_getitem ht.typeIs entry_tuple_getitem ?_ (args_tuple_getitem _ _)))
 show wpAny _ _ (Builtin.Tuple.tupleItemsOf (.ref t) >>= _) _ _ s
 refine wpAny_bind (tupleItemsOf_ ht ?_)
 refine wpAny_bind (wpAny_typeOf hTs ?_)
 rw [if_pos (by decide)]
 refine wpAny_bind (HT.sliceApplied_gen hs pl pu ?_)
 have hyes:(((HT.sIx items.size 0 lo:Nat):Int) == 0 && (1:Int) == 1 && (HT.sIx items.size items.size hi - HT.sIx items.size 0 lo) == items.size) = true:=by
  rw [hw.1,hw.2]; simp
 show wpAny _ _ (if (((HT.sIx items.size 0 lo:Nat):Int) == 0 && (1:Int) == 1 && (HT.sIx items.size items.size hi - HT.sIx items.size 0 lo) == items.size) = true then _ else _) _ _ s
 rw [if_pos hyes]
 unfold Builtin.Tuple.tupleIsExact
 refine wpAny_bind (wpAny_bind (wpAny_typeOf ht.typeIs (wpAny_pure ?_)))
 rw [if_pos (by decide)]
 exact wpAny_bind (wpAny_rule (wpAny_pure ⟨_,rfl,wpAny_pure h⟩))
theorem ZnV:SlR X (fun x lo hi H Q=>∃ a xs,x = .ref a ∧ SqT X.K H a xs ∧ (HT.sIx xs.length 0 lo = 0 ∧ HT.sIx xs.length xs.length hi = xs.length) ∧ Q (.ref a) H):=by
 intro pins s σ H x v vl vu lo hi sl Q I rx hs pl pu h
 obtain ⟨a,xs,rfl,hx,hw,q⟩:=h
 cases rx
 obtain ⟨its,r,ht,hz⟩:=I.tuple hx
 have hlen:its.toArray.size = xs.length:=by rw [List.size_toArray]; exact r.length.symm
 refine ⟨"tuple",_,PyProof.Rows.slot_tuple_getitem.lookup,ht.typeIs,?_⟩
 exact Zfl ht hs pl pu (by rw [hlen]; exact hw) ⟨.ref a,H,I,rfl,q⟩
theorem ZjL:SlR X (rS X.K):=SlR.imp (SlR.or (SlR.or ZpG ZnV) (SlR.or Zoi Zqd)) fun x lo hi H Q zz1=>by
 obtain ⟨ι,M,a,S,ra,h⟩:=zz1
 have ex:∀ n d o,HT.sIx n d o = sIx n d o:=fun n d o=>by cases o <;> rfl
 cases a with
 | tup ds=>
  simp only [Zhx] at h
  obtain ⟨p,vs,rfl,s,r⟩:=ra.tup_inv
  by_cases hw:sIx ds.length 0 lo = 0 ∧ sIx ds.length ds.length hi = ds.length
  ·refine .inl (.inr ⟨p,vs,rfl,s,by rw [ex,ex,r.length]; exact hw,?_⟩)
   have e:cutD ds lo hi = ds:=by unfold cutD; rw [hw.1,hw.2]; simp
   rw [e] at h
   exact Zam.ok h S (Rep.tup s r)
  ·refine .inl (.inl ⟨p,vs,rfl,s,by rw [ex,ex,r.length]; exact hw,fun q hq=>?_⟩)
   obtain ⟨x2,S2,r2⟩:=S.tupl hq (Zkp r lo hi)
   exact h _ _ _ x2 S2 r2
 | scr ds=>
  simp only [Zhx] at h
  obtain ⟨p,vs,rfl,s,r⟩:=ra.scr_inv
  refine .inr (.inl ⟨p,vs,rfl,s.sq,fun q hq=>?_⟩)
  obtain ⟨x2,S2,r2⟩:=S.lst hq (Zkp r lo hi)
  exact h _ _ _ x2 S2 r2
 | str z=>
  simp only [Zhx] at h
  split at h
  ·rename_i hz
   exact .inr (.inr ⟨z,ra.str_inv,hz,Zam.ok h S Rep.str⟩)
  ·exact h.elim
 | ref n=>
  simp only [Zhx] at h
  cases hn:M[n]? with
  | none=>simp only [hn] at h; exact h.elim
  | some o=>
   cases o with
   | dct _=>simp only [hn] at h; exact h.elim
   | fdct _=>simp only [hn] at h; exact h.elim
   | ins _ _=>simp only [hn] at h; exact h.elim
   | lst ds=>
    simp only [hn] at h
    obtain ⟨p,hp,rfl⟩:=ra.ref_inv
    obtain ⟨vs,e,r⟩:=S.obj n _ p hn hp
    refine .inr (.inl ⟨p,vs,rfl,SqL.of e,fun q hq=>?_⟩)
    obtain ⟨x2,S2,r2⟩:=S.lst hq (Zkp r lo hi)
    exact h _ _ _ x2 S2 r2
 | _=>exact h.elim
theorem Zep {K:PySem.W.Frag} {H:Hp} {ι:List Addr} {d:D} {xs:List V} (r:Zab K H ι [d] xs):∃ x,xs = [x] ∧ Rep K H ι d x:=by
 obtain ⟨v,ws,rfl,r1,r2⟩:=r.cons_inv
 have:=r2.nil_inv
 subst this
 exact ⟨v,rfl,r1⟩
theorem ZcJ:Zbd X (.builtin "len") (rB X.K Zbb):=Zbd.imp Zmm fun xs H Q zz1=>by
 obtain ⟨ι,M,ds,S,rd,h⟩:=zz1
 cases ds with
 | nil=>exact h.elim
 | cons d ds=>
  cases ds with
  | cons _ _=>cases d <;> exact h.elim
  | nil=>
   obtain ⟨x,rfl,r⟩:=Zep rd
   cases d with
   | tup z=>
    obtain ⟨p,vs,rfl,s,r'⟩:=r.tup_inv
    exact ⟨_,vs.length,rfl,.inr ⟨vs,s,rfl⟩,by rw [r'.length]; exact Zam.ok h S Rep.int⟩
   | scr z=>
    obtain ⟨p,vs,rfl,s,r'⟩:=r.scr_inv
    exact ⟨_,vs.length,rfl,.inl ⟨vs,s.sq,rfl⟩,by rw [r'.length]; exact Zam.ok h S Rep.int⟩
   | str z=>
    simp only [Zbb] at h
    split at h
    ·rename_i hz
     have:=r.str_inv
     subst this
     refine ⟨_,z.length,rfl,⟨?_,?_⟩,Zam.ok h S Rep.int⟩
     ·show z.toArray.size ≤ sizeLine
      rw [List.size_toArray]
      exact Nat.le_trans hz Zcf
     ·show z.length = z.toArray.size
      rw [List.size_toArray]
    ·exact h.elim
   | ref n=>
    cases hn:M[n]? with
    | none=>simp only [Zbb,hn] at h; exact h.elim
    | some o=>
     cases o with
     | dct _=>simp only [Zbb,hn] at h; exact h.elim
     | fdct _=>simp only [Zbb,hn] at h; exact h.elim
     | ins _ _=>simp only [Zbb,hn] at h; exact h.elim
     | lst z=>
      simp only [Zbb,hn] at h
      obtain ⟨p,hp,rfl⟩:=r.ref_inv
      obtain ⟨vs,e,r'⟩:=S.obj n _ p hn hp
      exact ⟨_,vs.length,rfl,.inl ⟨vs,SqL.of e,rfl⟩,by rw [r'.length]; exact Zam.ok h S Rep.int⟩
   | _=>exact h.elim
theorem ZeS:Zbd X (.type "tuple") (rB X.K Zca):=Zbd.imp Zhz fun xs H Q zz1=>by
 obtain ⟨ι,M,ds,S,rd,h⟩:=zz1
 cases ds with
 | nil=>exact h.elim
 | cons d ds=>
  cases ds with
  | cons _ _=>cases d <;> exact h.elim
  | nil=>
   obtain ⟨x,rfl,r⟩:=Zep rd
   cases d with
   | tup z=>
    obtain ⟨p,vs,rfl,s,r'⟩:=r.tup_inv
    exact ⟨p,vs,rfl,.inr ⟨s,Zam.ok h S (Rep.tup s r')⟩⟩
   | scr z=>
    obtain ⟨p,vs,rfl,s,r'⟩:=r.scr_inv
    refine ⟨p,vs,rfl,.inl ⟨s.sq,fun q hq=>?_⟩⟩
    obtain ⟨x2,S2,r2⟩:=S.tupl hq r'
    exact h _ _ _ x2 S2 r2
   | ref n=>
    cases hn:M[n]? with
    | none=>simp only [Zca,hn] at h; exact h.elim
    | some o=>
     cases o with
     | dct _=>simp only [Zca,hn] at h; exact h.elim
     | fdct _=>simp only [Zca,hn] at h; exact h.elim
     | ins _ _=>simp only [Zca,hn] at h; exact h.elim
     | lst z=>
      simp only [Zca,hn] at h
      obtain ⟨p,hp,rfl⟩:=r.ref_inv
      obtain ⟨vs,e,r'⟩:=S.obj n _ p hn hp
      refine ⟨p,vs,rfl,.inl ⟨SqL.of e,fun q hq=>?_⟩⟩
      obtain ⟨x2,S2,r2⟩:=S.tupl hq r'
      exact h _ _ _ x2 S2 r2
   | _=>exact h.elim
theorem Zqt:Zbd X (.type "list") (rB X.K Zgj):=Zbd.imp ZiN fun xs H Q zz1=>by
 obtain ⟨ι,M,ds,S,rd,h⟩:=zz1
 cases ds with
 | nil=>exact h.elim
 | cons d ds=>
  cases ds with
  | cons _ _=>cases d <;> exact h.elim
  | nil=>
   obtain ⟨x,rfl,r⟩:=Zep rd
   cases d with
   | tup z=>
    obtain ⟨p,vs,rfl,s,r'⟩:=r.tup_inv
    refine ⟨p,vs,rfl,.inr s,fun q hq=>?_⟩
    obtain ⟨x2,S2,r2⟩:=S.lst hq r'
    exact h _ _ _ x2 S2 r2
   | scr z=>
    obtain ⟨p,vs,rfl,s,r'⟩:=r.scr_inv
    refine ⟨p,vs,rfl,.inl s.sq,fun q hq=>?_⟩
    obtain ⟨x2,S2,r2⟩:=S.lst hq r'
    exact h _ _ _ x2 S2 r2
   | ref n=>
    cases hn:M[n]? with
    | none=>simp only [Zgj,hn] at h; exact h.elim
    | some o=>
     cases o with
     | dct _=>simp only [Zgj,hn] at h; exact h.elim
     | fdct _=>simp only [Zgj,hn] at h; exact h.elim
     | ins _ _=>simp only [Zgj,hn] at h; exact h.elim
     | lst z=>
      simp only [Zgj,hn] at h
      obtain ⟨p,hp,rfl⟩:=r.ref_inv
      obtain ⟨vs,e,r'⟩:=S.obj n _ p hn hp
      refine ⟨p,vs,rfl,.inl (SqL.of e),fun q hq=>?_⟩
      obtain ⟨x2,S2,r2⟩:=S.lst hq r'
      exact h _ _ _ x2 S2 r2
   | _=>exact h.elim
end
end L3
namespace L3
open PySem PySem.Spec PyProof.Rows L2
theorem ZbG:bootBuiltins "len" = some (.builtin "len"):=by decide +kernel
theorem Zlp:bootBuiltins "sorted" = some (.builtin "sorted"):=by decide +kernel
theorem Zhw:bootBuiltins "isinstance" = some (.builtin "isinstance"):=by decide +kernel
theorem Zp9:bootBuiltins "int" = some (.type "int"):=by decide +kernel
theorem Zn4:bootBuiltins "list" = some (.type "list"):=by decide +kernel
theorem ZdV:bootBuiltins "tuple" = some (.type "tuple"):=by decide +kernel
theorem ZiS:bootBuiltins "dict" = some (.type "dict"):=by decide +kernel
section
variable {X:Cx} {a:Expr} {pos p p2:Pos} {f:E3}
noncomputable def tyN:Ty3 → String
 | .int=>"int" | .bool=>"bool" | .str=>"str" | .list=>"list" | .tuple=>"tuple"
theorem Zfz (K:PySem.W.Frag) (t:String) (T:Ty3) (ht:t ∈ ["NoneType","bool","int","str","list","tuple","dict"]):
  PySem.W.kitOne K (.type t) (.type (tyN T)) = some (t == tyN T || (t == "bool" && tyN T == "int")):=by
 simp only [List.mem_cons,List.not_mem_nil,or_false] at ht
 rcases ht with rfl | rfl | rfl | rfl | rfl | rfl | rfl <;> cases T <;> kernel_rfl
theorem ZrC (T:Ty3):bootBuiltins (tyN T) = some (.type (tyN T)):=by cases T <;> decide +kernel
theorem ZnX {pins:List (Addr × Obj)} {σ:St} {H:Hp} {s:Shared} {ι:List Addr} {M:Store} {A:Around} {E:Value → Shared → Prop} {Q:Value → Shared → Prop} {T:Ty3} {d:D} {x:V} {u:Value} {b:Bool} (I:Inv X pins σ H s) (S:Zat X.K H ι M) (r:Rep X.K H ι d x) (ru:RelV x u)
  (e:ZdU T d M = some b) (h:∀ tk,Q (.bool b) { s with toks:=tk }):wpAny (model X.prog X.w) A (call (.builtin "isinstance") [u,.type (tyN T)]) Q E s:=by
 cases d with
 | non=>
  have:=r.non_inv; subst this
  have hb:b = false:=by simpa [ZdU] using e.symm
  subst hb
  exact Zdh I ru (.non) ((Zfz X.K "NoneType" T (by simp)).trans (by cases T <;> rfl)) h
 | bl c=>
  have:=r.bl_inv; subst this
  have hb:b = (T == .bool || T == .int):=by simpa [ZdU] using e.symm
  subst hb
  exact Zdh I ru (.bl c) ((Zfz X.K "bool" T (by simp)).trans (by cases T <;> rfl)) h
 | int i=>
  have:=r.int_inv; subst this
  have hb:b = (T == .int):=by simpa [ZdU] using e.symm
  subst hb
  exact Zdh I ru (.int i) ((Zfz X.K "int" T (by simp)).trans (by cases T <;> rfl)) h
 | str z=>
  have:=r.str_inv; subst this
  have hb:b = (T == .str):=by simpa [ZdU] using e.symm
  subst hb
  exact Zdh I ru (.str _) ((Zfz X.K "str" T (by simp)).trans (by cases T <;> rfl)) h
 | tup ds=>
  obtain ⟨a,vs,rfl,st,rr⟩:=r.tup_inv
  cases ru
  have hb:b = (T == .tuple):=by simpa [ZdU] using e.symm
  subst hb
  obtain ⟨its,_,pt,_⟩:=I.tuple st
  obtain ⟨o,h1,h2,_⟩:=pt
  exact PySem.W.kia_one PySem.W.kitx_tuple I.kIn ⟨o,h1,h2⟩ ((Zfz X.K "tuple" T (by simp)).trans (by cases T <;> rfl)) (fun z=>nomatch z) h
 | scr ds=>simp [ZdU] at e
 | ref n=>
  simp only [ZdU] at e
  cases hn:M[n]? with
  | none=>simp [hn] at e
  | some o=>
   obtain ⟨a,ha,rfl⟩:=r.ref_inv
   cases o with
   | lst z=>
    have hb:b = (T == .list):=by simpa [hn] using e.symm
    subst hb
    obtain ⟨vs,ev,_⟩:=S.obj n _ a hn ha
    exact Zdh I ru (.lst ev) ((Zfz X.K "list" T (by simp)).trans (by cases T <;> rfl)) h
   | dct z=>
    have hb:b = false:=by simpa [hn] using e.symm
    subst hb
    obtain ⟨vs,ev,_⟩:=S.obj n _ a hn ha
    exact Zdh I ru (.dK ev) ((Zfz X.K "dict" T (by simp)).trans (by cases T <;> rfl)) h
   | fdct z=>simp [hn] at e
   | ins _ _=>simp [hn] at e
theorem Zkx (T:Ty3) {x:Str} (hm:X.mg "isinstance" = none) (hm2:X.mg x = none) (h:C3 X a f) (hx:x = (Str.ofString (tyN T)):=by rfl) (hg:Gl X "isinstance":=by rfl) (hg2:Gl X x:=by rfl)
  (hn:x ≠ "__name__":=by decide) (hd:(x == ("__debug__":Str)) = false:=by decide)
  (hs:starEach (a :: [.Name x p2]) X.env = (false,eval a X.env) :: starEach [.Name x p2] X.env:=by rfl) (hs2:starEach (.Name x p2 :: []) X.env = (false,eval (.Name x p2) X.env) :: starEach [] X.env:=by rfl)
  (hpl:(backTo pos (starEach [.Name x p2] X.env)).any (·.1) = false:=by rfl):C3 X (.Call (.Name "isinstance" p) [a,.Name x p2] [] pos) (e1 (Zd9 T) f):=by
 subst hx
 have hc:Zbd X (.builtin "isinstance") (fun xs H Q=>∃ ι M d x,xs = [x,.ty (tyN T)] ∧ Zat X.K H ι M ∧ Rep X.K H ι d x ∧ Zam X.K H ι Q (Zd9 T d M)):=by
  intro pins s σ H xs us Q I r q
  obtain ⟨ι,M,d,x,rfl,S,rd,q⟩:=q
  obtain ⟨u,w',rfl,ru,rw'⟩:=vals2 r
  cases rw'
  unfold Zd9 at q
  cases e:ZdU T d M with
  | none=>rw [e] at q; exact q.elim
  | some b=>
   rw [e] at q
   exact ZnX I S rd ru e fun tk=>⟨.bl b,H,I.tok _,rfl,Zam.ok q S Rep.bl⟩
 refine (Zjo hc hg hm Zhw (ZiX h (ZiX (ZoM hg2 hm2 (ZrC T) (v:=.ty (tyN T)) rfl hn hd) Zmp hs2) hs) (by decide) (by decide) hs hpl).imp fun σ H Q zz1=>?_
 obtain ⟨ι,M,env,S,E,h⟩:=zz1
 obtain ⟨d,M1,e1,h⟩:=Zam.bind h
 refine ⟨ι,M,env,S,E,?_⟩
 rw [e1]
 intro v H1 ι1 x1 S1 r1
 exact ⟨ι1,M1,d,v,rfl,S1,r1,h.up x1⟩
end
noncomputable def Zo2 (outer:List (Str × NameKind)) (N:List Str) (scope:Scope) (N':List Str) (own:Nat):Bool:=
 (scope.names.all fun y=>decide (y.2 ≠ .cell) && (decide (y.2 ≠ .free) || decide (outer.lookup y.1 = some .cell) || decide (outer.lookup y.1 = some .free)) && (decide (y.2 ≠ .local) || decide (scope.names.lookup y.1 = some .local))) &&
  decide (N'.length = N.length + own) && ZmG N N' scope
theorem Zga {X:Cx} {scope:Scope} {N':List Str} {own:Nat} (hk:scope.kind = .function) (h:Zo2 X.env.scope.names X.N scope N' own = true):Zkf X scope N' own:=by
 simp only [Zo2,Bool.and_eq_true,decide_eq_true_eq,List.all_eq_true,Bool.or_eq_true] at h
 obtain ⟨⟨h1,h2⟩,h3⟩:=h
 refine ⟨hk,fun y hy=>(h1 y hy).1.1,fun y hy e=>?_,fun y hy e=>?_,h2,h3⟩
 ·rcases (h1 y hy).1.2 with (q | q) | q
  ·exact absurd e q
  ·exact .inl q
  ·exact .inr q
 ·rcases (h1 y hy).2 with q | q
  ·exact absurd e q
  ·exact q
theorem ZaA {K:PySem.W.Frag} {h:Heap} {mg:Str → Option Value} (KX:K.In h) (G:h.Ns mainGlobals mg) {x:Str} {st:Stmt} {f:Addr} {oc:Value} {od an:Option Addr} {osl:Array (Option Value)} {dV kV doc pm cdv ct:Value}
  (a:PySem.W.nsIn K mainGlobals x = some (some (.ref f))) (l:K.lookup f = some ⟨oc,od,.func (PySem.W.fnOf x x (Zal st) (Zah st) (Zm st) dV kV doc pm an cdv ct),osl⟩)
  (c:PySem.W.codeIn K cdv x = true) (k:PySem.W.keepIn K (.ref f) = true) {ps:List Str} (b:Binds K (PySem.W.fnOf x x (Zal st) (Zah st) (Zm st) dV kV doc pm an cdv ct) ps []):Zay K mg x st ps:=⟨f,_,Zmk l c k,PySem.W.mg_of KX G a,b⟩
theorem Zrp {l:PySem.W.OpenLaw} {k:Nat} {q:Program} {loose:List Str} {XP:(Str → Option Value) → Heap → Prop} {YP:World → Heap → Prop} {d:DefRec} {K:Params → PySem.W.Frag} {F:F3} (hn:l.most = some 63) (hdf:d.params.defaults = []) (hr:ZbB k callerA)
  (hY:∀ (w:World) (h:Heap),YP w h → (K w.params).In h)
  (G:∀ (w:World) (mg:Str → Option Value) (fa:Addr) (h:Heap),(K w.params).In h → h.Ns mainGlobals mg → mg d.name = some (.ref fa) →
   ∃ fd:FuncData,(∀ (s:Shared) (u:Value),BindsTo s fd ⟨[u],[]⟩ [("script",u)]) ∧ ∀ base:Heap,(K w.params).In base → base.Ns mainGlobals mg → Zdw l.prog w (K w.params) mg base CX0 k fa fd ["script"] (sp3 (K w.params) 1 F))
  (hF:∀ ns:List Int,ns.length ≤ 63 → ∃ M',F [.scr (ns.map D.int)] [] = .ok (.bl true) M'):
  PySem.W.WalkO q loose XP YP l.row.toRowW d [] (fun f vs=>PySem.call f vs):=
 L2.Zlg (n:=63) (k:=k) (x:="script") (CX:=fun _=>CX0) (sp:=fun w=>sp3 (K w.params) 1 F) hn (by decide) hdf hr hY G (fun w H a ns hl hO hS=>by
  obtain ⟨M',e⟩:=hF ns hl
  refine ⟨[],[],[.scr (ns.map D.int)],⟨rfl,List.nodup_nil,fun n o a h=>by simp at h⟩,Zab.cons ?_ Zab.nil,rfl,?_⟩
  ·simp only [Rep]
   refine ⟨a,ns.map V.int,rfl,?_,Zab.ints ns⟩
   rcases hS with (h | ⟨o,h⟩) | h
   ·rcases hO a with z | ⟨ob,xs,z⟩
    ·rw [h] at z; cases z
    ·rw [h] at z; cases z
   ·exact .inl ⟨o,h⟩
   ·exact .inr h
  ·rw [e]
   exact fun v H' ι' _ _ r=>r.bl_inv) fun _ _ _ _ _ z=>z
end L3
namespace L3
open PySem PySem.Spec PyProof.Rows L2
theorem Zkr {a b:Zbe} (h:dk a = dk b):a = b:=by
 cases a with
 | inl i=>cases b with
  | inl j=>simp only [dk,Sum.inl.injEq] at h; rw [h]
  | inr y=>simp [dk] at h
 | inr x=>cases b with
  | inl j=>simp [dk] at h
  | inr y=>
   simp only [dk,Sum.inr.injEq,Str.mk.injEq] at h
   have:=congrArg Array.toList h
   simp at this
   rw [this]
theorem ZkY {K:PySem.W.Frag} {H:Hp} {ι:List Addr} {b:D} {y:V} {k:Zbe} (h:ZfS b = some k) (r:Rep K H ι b y):y = kV (dk k):=by
 cases b with
 | int i=>cases h; exact r.int_inv
 | str x=>cases h; exact r.str_inv
 | _=>simp [ZfS] at h
section
variable {K:PySem.W.Frag} {H H':Hp} {ι ι':List Addr} {M:Store} {p:Addr}
theorem KvR.nil:KvR K H ι [] []:=⟨rfl,Zab.nil⟩
theorem KvR.cons {k:Zbe} {d:D} {v:V} {kvs:List (Zbe × D)} {ws:List (Key × V)} (h:Rep K H ι d v) (r:KvR K H ι kvs ws):KvR K H ι ((k,d) :: kvs) ((dk k,v) :: ws):=
 ⟨by simp [r.1],Zab.cons h r.2⟩
theorem KvR.cons_inv {q:Zbe × D} {kvs:List (Zbe × D)} {ws:List (Key × V)} (r:KvR K H ι (q :: kvs) ws):∃ v ws',ws = (dk q.1,v) :: ws' ∧ Rep K H ι q.2 v ∧ KvR K H ι kvs ws':=by
 obtain ⟨h1,h2⟩:=r
 cases ws with
 | nil=>simp at h1
 | cons w ws=>
  simp only [List.map_cons,List.cons.injEq] at h1
  obtain ⟨v,us,e,r1,r2⟩:=Zab.cons_inv h2
  simp only [List.map_cons,List.cons.injEq] at e
  exact ⟨w.2,ws,by rw [← h1.1],e.1 ▸ r1,h1.2,e.2 ▸ r2⟩
theorem KvR.nil_inv {ws:List (Key × V)} (r:KvR K H ι [] ws):ws = []:=by simpa using r.1
theorem KvR.mono {kvs:List (Zbe × D)} {ws:List (Key × V)} (r:KvR K H ι kvs ws) (e:Ext K H ι H' ι'):KvR K H' ι' kvs ws:=⟨r.1,r.2.mono e⟩
theorem KvR.length {kvs:List (Zbe × D)} {ws:List (Key × V)} (r:KvR K H ι kvs ws):ws.length = kvs.length:=by
 have:=congrArg List.length r.1
 simpa using this
theorem KvR.val {kvs:List (Zbe × D)} (k:Zbe):∀ {ws:List (Key × V)},KvR K H ι kvs ws → match Zcv kvs k with | some d=>∃ v,Ze2 ws (dk k) = some v ∧ Rep K H ι d v | none=>Ze2 ws (dk k) = none:=by
 induction kvs with
 | nil=>intro ws r; rw [r.nil_inv]; exact Znb
 | cons q kvs ih=>
  intro ws r
  obtain ⟨v,ws',rfl,r1,r2⟩:=r.cons_inv
  obtain ⟨k',d⟩:=q
  unfold Zcv
  by_cases e:k' = k
  ·rw [if_pos e]
   exact ⟨v,ZgR (by rw [e]),r1⟩
  ·rw [if_neg e,Zhj fun z=>e (Zkr z)]
   exact ih r2
theorem KvR.append {k1 k2:List (Zbe × D)} {w1 w2:List (Key × V)} (a:KvR K H ι k1 w1) (b:KvR K H ι k2 w2):KvR K H ι (k1 ++ k2) (w1 ++ w2):=
 ⟨by simp [a.1,b.1],by rw [List.map_append,List.map_append]; exact a.2.append b.2⟩
theorem KvR.any {kvs:List (Zbe × D)} (k:Zbe):∀ {ws:List (Key × V)},KvR K H ι kvs ws → (ws.any fun kv=>decide (kv.1 = dk k)) = (kvs.any fun q=>decide (q.1 = k)):=by
 induction kvs with
 | nil=>intro ws r; rw [r.nil_inv]; rfl
 | cons q kvs ih=>
  intro ws r
  obtain ⟨v,ws',rfl,r1,r2⟩:=r.cons_inv
  rw [List.any_cons,List.any_cons,ih r2]
  congr 1
  by_cases e:q.1 = k
  ·simp [e]
  ·simp [e]; exact fun z=>e (Zkr z)
theorem KvR.put {kvs:List (Zbe × D)} {k:Zbe} {d:D} {v:V} {ws:List (Key × V)} (r:KvR K H ι kvs ws) (rd:Rep K H ι d v):KvR K H ι (putD k d kvs) (putK ws (dk k) v):=by
 unfold putD putK
 rw [r.any k]
 by_cases c:(kvs.any fun q=>decide (q.1 = k)) = true
 ·rw [if_pos c,if_pos c]
  clear c
  induction kvs generalizing ws with
  | nil=>rw [r.nil_inv]; exact KvR.nil
  | cons q kvs ih=>
   obtain ⟨u,ws',rfl,r1,r2⟩:=r.cons_inv
   rw [List.map_cons,List.map_cons]
   by_cases e:q.1 = k
   ·rw [if_pos e,if_pos (by rw [e])]; exact KvR.cons rd (ih r2)
   ·rw [if_neg e,if_neg fun z=>e (Zkr z)]; exact KvR.cons r1 (ih r2)
 ·rw [if_neg c,if_neg c]
  exact r.append (KvR.cons rd KvR.nil)
theorem KvR.merge {l:List (Zbe × D)}:∀ {kvs:List (Zbe × D)} {ws us:List (Key × V)},KvR K H ι l us → KvR K H ι kvs ws → KvR K H ι (l.foldl (fun acc p=>putD p.1 p.2 acc) kvs) (Zhm ws us):=by
 induction l with
 | nil=>intro kvs ws us r r0; rw [r.nil_inv]; exact r0
 | cons q l ih=>
  intro kvs ws us r r0
  obtain ⟨v,us',rfl,r1,r2⟩:=r.cons_inv
  exact ih (ws:=putK ws (dk q.1) v) (us:=us') r2 (r0.put r1)
theorem Zat.dct (S:Zat K H ι M) (hp:H p = none) {kvs:List (Zbe × D)} {ws:List (Key × V)} (r:KvR K H ι kvs ws):Ext K H ι (upd H p (.dK ws)) (ι ++ [p]) ∧ Zat K (upd H p (.dK ws)) (ι ++ [p]) (M ++ [.dct kvs]) ∧ Rep K (upd H p (.dK ws)) (ι ++ [p]) (.ref M.length) (.ref p):=by
 have e:Ext K H ι (upd H p (.dK ws)) (ι ++ [p]):=Loose.extA (.inl hp)
 exact ⟨e,S.new hp ⟨ws,Zcx,r.mono e⟩,Rep.ref (by rw [← S.len]; simp)⟩
end
section
variable {X:Cx} {a b c e o:Expr} {es:List Expr} {pos p pos' apos cpos:Pos} {f g h:E3} {gl:EL3}
theorem hu1 (hu:X.A.units + 80 < cLine):X.A.units + 1 < cLine:=lB 1 7331617893452817 T1 hu
theorem Zj0 {K:PySem.W.Frag} {H:Hp} {ι:List Addr} {M:Store} (S:Zat K H ι M) {n:Nat} {kvs:List (Zbe × D)} {a:Addr} (h:ZdI M[n]? = some kvs) (ha:ι[n]? = some a):∃ ws,Rd H a (.dK ws) ∧ KvR K H ι kvs ws:=by
 cases hn:M[n]? with
 | none=>simp [hn] at h
 | some ob=>
  cases ob with
  | lst _=>simp [hn] at h
  | dct k=>
   have e:k = kvs:=by simpa [hn] using h
   subst e
   obtain ⟨ws,hw,kr⟩:=S.obj n _ a hn ha
   exact ⟨ws,.inl hw,kr⟩
  | fdct k=>
   have e:k = kvs:=by simpa [hn] using h
   subst e
   obtain ⟨ws,⟨o,hw⟩,kr⟩:=S.obj n _ a hn ha
   exact ⟨ws,.inr ⟨o,hw⟩,kr⟩
  | ins _ _=>simp [hn] at h
theorem ZnZ {K:PySem.W.Frag} {op:D → D → D → Store → R3 D} {H:Hp} {ι:List Addr} {Q:VK} {env:Zau} {M:Store} (h':Zam K H ι Q (e3 op f g h env M)):
  ∃ a M1 b M2 c M3,f env M = .ok a M1 ∧ g env M1 = .ok b M2 ∧ h env M2 = .ok c M3 ∧ Zam K H ι Q (op a b c M3):=by
 obtain ⟨a,M1,e1,h'⟩:=Zam.bind h'
 obtain ⟨b,M2,e2,h'⟩:=Zam.bind h'
 obtain ⟨c,M3,e3,h'⟩:=Zam.bind h'
 exact ⟨a,M1,b,M2,c,M3,e1,e2,e3,h'⟩
theorem Zjs {K:PySem.W.Frag} {H:Hp} {ι:List Addr} {D':Ends} {env:Zau} {M:Store} {σ:St} (E:ZbF K H ι env σ) (h':Ze1 K H ι D' (ZaH f env M)):Zam K H ι (fun _ H'=>D'.nx σ H') (f env M):=by
 unfold ZaH at h'
 cases q:f env M with
 | ok d M1=>rw [q] at h'; exact fun v H1 ι1 x1 S1 r1=>h' σ H1 ι1 x1 S1 (E.mono x1)
 | exc x M1=>rw [q] at h'; exact h'.elim
 | bad=>rw [q] at h'; exact h'.elim
theorem Zk8 {i:Expr} {spos:Pos} (ho:C3 X o f) (hi:C3 X i g) (hv:C3 X e h)
  (ha:∀ v,assign (.Subscript o i spos) X.env v = (do
   let ov ← holding [v] (eval o X.env)
   let iv ← holding [v,ov] (eval i X.env)
   standAt spos
   holding [v,ov,iv] (setItem ov iv v)
   release [v,ov,iv] []):=by intro _; rfl)
  (hs:swapsWithSole [.Subscript o i spos] e pos.line X.env = pure false:=by rfl) (hw:swappedStores [.Subscript o i spos] e X.env = pure none:=by rfl)
  (h1:(assignEach [.Subscript o i spos] X.env).map (·.2) = [assign (.Subscript o i spos) X.env]:=by rfl):CS X (.Assign [.Subscript o i spos] e pos) (Zib f g h):=(Zmz hv (Zps ho hi set_list ha) hs hw h1).imp fun D' σ H zz1=>by
 obtain ⟨ι,M,env,S,E,hh⟩:=zz1
 obtain ⟨d,M1,b,M2,k,M3,e1,e2,e3,hh⟩:=ZnZ (Zjs E hh)
 refine ⟨ι,M,env,S,E,?_⟩
 rw [e1]
 intro v H1 ι1 x1 S1 r1
 refine ⟨ι1,M1,env,S1,E.mono x1,?_⟩
 rw [e2]
 intro x H2 ι2 x2 S2 r2
 refine ⟨ι2,M2,env,S2,(E.mono x1).mono x2,?_⟩
 rw [e3]
 intro y H3 ι3 x3 S3 r3
 cases b with
 | ref n=>
  cases k with
  | int j=>
   simp only [Zj5] at hh
   cases hn:M3[n]? with
   | none=>simp only [hn] at hh; exact hh.elim
   | some ob=>
    cases ob with
    | dct _=>simp only [hn] at hh; exact hh.elim
    | fdct _=>simp only [hn] at hh; exact hh.elim
    | ins _ _=>simp only [hn] at hh; exact hh.elim
    | lst xs=>
     simp only [hn] at hh
     cases hj:ixD xs.length j with
     | none=>simp only [hj] at hh; exact hh.elim
     | some q=>
      simp only [hj] at hh
      obtain ⟨ad,ha,rfl⟩:=(r2.mono x3).ref_inv
      obtain ⟨ws,hw,kr⟩:=S3.obj n _ ad hn ha
      obtain ⟨x4,S4⟩:=S3.setl (.inr (.inl ⟨_,hw⟩)) ha (kr.set q ((r1.mono x2).mono x3))
      exact ⟨ad,ws,j,q,rfl,r3.int_inv,hw,by rw [kr.length]; exact hj,hh .non _ _ (((x1.trans x2).trans x3).trans x4) S4 Rep.non⟩
  | _=>exact hh.elim
 | _=>exact hh.elim
end
end L3
namespace L3
open PySem PySem.W PyProof.Rows
section
noncomputable def kev {α:Type} (lt:Nat → Nat → Bool):KasT α → α
 | .ret a=>a
 | .ask i j k=>kev lt (k (lt i j))
theorem Zd0 {α β:Type} (lt:Nat → Nat → Bool) (f:α → KasT β):∀ t:KasT α,kev lt (t.bind f) = kev lt (f (kev lt t))
 | .ret _=>rfl
 | .ask i j k=>Zd0 lt f (k (lt i j))
variable {lt:Nat → Nat → Bool}
structure Zdr (lt:Nat → Nat → Bool):Prop where
 asym:∀ {a b},lt a b = true → lt b a = false
 tr:∀ {a b c},lt b a = false → lt c b = false → lt c a = false
theorem Zdr.rf (o:Zdr lt) (a:Nat):lt a a = false:=by
 cases h:lt a a
 ·rfl
 ·exact h ▸ o.asym h
noncomputable abbrev at' (p:Array Nat) (i:Nat):Nat:=p.getD i 0
theorem Zjr {p q:Array Nat} {i j:Nat} (h:p[i]? = q[j]?):at' p i = at' q j:=by
 simp only [at',Array.getD_eq_getD_getElem?,h]
noncomputable def Up (lt:Nat → Nat → Bool) (p:Array Nat) (n:Nat):Prop:=∀ i j,i ≤ j → j < n → lt (at' p j) (at' p i) = false
noncomputable def ZhF (lt:Nat → Nat → Bool) (p:Array Nat) (n:Nat):Prop:=∀ i j,i ≤ j → j < n → lt (at' p i) (at' p j) = false
theorem ZoO (o:Zdr lt) {p:Array Nat} {n:Nat} (h1:1 ≤ n) (u:Up lt p n) (h:lt (at' p n) (at' p (n - 1)) = false):Up lt p (n + 1):=by
 intro i j hij hj
 by_cases e:j = n
 ·subst e
  by_cases e':i = j
  ·subst e'; exact o.rf _
  ·exact o.tr (u i (j - 1) (lC 2 563648976195601 T1 (Nat.lt_of_le_of_ne hij e') (sbA _ _)) (lB 1 4313451553 T1 (Nat.sub_add_cancel h1))) h
 ·exact u i j hij ((Nat.lt_of_le_of_ne (lB 1 4305567761 T1 hj) e))
theorem ZeT (o:Zdr lt) {p:Array Nat} {n:Nat} (h1:1 ≤ n) (u:ZhF lt p n) (h:lt (at' p (n - 1)) (at' p n) = false):ZhF lt p (n + 1):=by
 intro i j hij hj
 by_cases e:j = n
 ·subst e
  by_cases e':i = j
  ·subst e'; exact o.rf _
  ·exact o.tr h (u i (j - 1) (lC 2 563648976195601 T1 (Nat.lt_of_le_of_ne hij e') (sbA _ _)) (lB 1 4313451553 T1 (Nat.sub_add_cancel h1)))
 ·exact u i j hij ((Nat.lt_of_le_of_ne (lB 1 4305567761 T1 hj) e))
theorem Zkm (o:Zdr lt) {p:Array Nat}:∀ (f n:Nat),1 ≤ n → Up lt p n → n ≤ kev lt (kas_asc p f n) ∧ kev lt (kas_asc p f n) ≤ n + f ∧ Up lt p (kev lt (kas_asc p f n)) ∧
  (kev lt (kas_asc p f n) = n + f ∨ lt (at' p (kev lt (kas_asc p f n))) (at' p (kev lt (kas_asc p f n) - 1)) = true)
 | 0,n,h1,u=>⟨Nat.le_refl _,Nat.le_refl _,u,.inl rfl⟩
 | f + 1,n,h1,u=>by
  have e:kev lt (kas_asc p (f + 1) n) = kev lt (if lt (at' p n) (at' p (n - 1)) = true then KasT.ret n else kas_asc p f (n + 1)):=rfl
  rw [e]
  cases c:lt (at' p n) (at' p (n - 1)) with
  | true=>exact ⟨Nat.le_refl _,by simp only [if_true,kev]; exact Nat.le_add_right _ _,u,.inr c⟩
  | false=>
   simp only [Bool.false_eq_true,if_false]
   obtain ⟨a,b,d,e⟩:=Zkm o f (n + 1) (Nat.le_add_left _ _) (ZoO o h1 u c)
   exact ⟨lB 1 4296674305 T1 a,lC 1 0xa2c1c002a1cc001 T1 b,d,e.elim (fun z=>.inl (Nat.le_antisymm (lC 1 0xa2c1c002a1cc021 T1 z) (lC 1 0xa2c1c02a1cc031 T1 z))) .inr⟩
theorem ZeI {p:Array Nat} {i j:Nat} (hj:j ≤ p.size) (k:Nat):at' (kas_rev p i j) k = if i ≤ k ∧ k < j then at' p (i + j - 1 - k) else at' p k:=by
 have e:=getElem?_mirror_all (xs:=p) (i:=i) hj k
 unfold kas_rev
 split
 ·rename_i h; rw [if_pos h] at e; exact Zjr e
 ·rename_i h; rw [if_neg h] at e; exact Zjr e
theorem ZcE (p:Array Nat) (i j:Nat):(kas_rev p i j).Perm p:=mirror_perm _ _ _ _
theorem Zdn (p:Array Nat) (i j:Nat):(kas_rev p i j).size = p.size:=mirror_size _ _ _ _
noncomputable def Alike (lt:Nat → Nat → Bool) (p:Array Nat) (n q:Nat):Prop:=∀ i j,n - (q + 1) ≤ i → i < n → n - (q + 1) ≤ j → j < n → lt (at' p i) (at' p j) = false
theorem Zh8 (o:Zdr lt) {p:Array Nat} {n q:Nat} (hn:n ≤ p.size) (hq:q + 1 ≤ n) (d:ZhF lt p n) (a:Alike lt p n q):ZhF lt (kas_rev p (n - (q + 1)) n) n:=by
 intro i j hij hj
 rw [ZeI hn,ZeI hn]
 by_cases h1:n - (q + 1) ≤ i
 ·rw [if_pos ⟨h1,Nat.lt_of_le_of_lt hij hj⟩,if_pos ⟨Nat.le_trans h1 hij,hj⟩]
  exact a _ _ (lF 4 0x53025c401a4c13c0102011011 T1 hj hij (sbA _ _) (sbA _ _)) (lE 3 0x341214c2130ca2c211001 T1 h1 (Nat.sub_add_cancel (lC 1 5043654673 T1 hj)) (Nat.sub_add_cancel (lE 3 0x420a4c13c0102011011 T1 hj hij (sbA _ _)))) (lE 3 0x42004c301a3c12c011011 T1 hj (sbA _ _) (sbA _ _)) (lF 4 0x451325c2140ca3c2121011001 T1 h1 hij (Nat.sub_add_cancel (lC 1 5043654673 T1 hj)) (Nat.sub_add_cancel (lD 2 0x300a3c12c011011 T1 hj (sbA _ _))))
 ·rw [if_neg (fun z=>lB 2 26042503169 T1 z.1 h1)]
  by_cases h2:n - (q + 1) ≤ j
  ·rw [if_pos ⟨h2,hj⟩]; exact d _ _ (lF 4 0x51025c401a4c30c0132111041 T1 h1 hj (sbA _ _) (sbA _ _)) (lE 3 0x341214c2130ca2c211001 T1 h2 (Nat.sub_add_cancel (lC 1 8801751105 T1 h1)) (Nat.sub_add_cancel (lD 2 0x300a3c12c011011 T1 hj (sbA _ _))))
  ·rw [if_neg (fun z=>lB 2 26042503169 T1 z.1 h2)]; exact d _ _ hij hj
theorem Zgz (o:Zdr lt):∀ (f:Nat) (p:Array Nat) (n q:Nat),q + 1 ≤ n → n + f ≤ p.size → ZhF lt p n → Alike lt p n q →
  let r:=kev lt (kas_desc f p n q); r.1.Perm p ∧ r.1.size = p.size ∧ n ≤ r.2.1 ∧ r.2.1 ≤ n + f ∧ r.2.2 + 1 ≤ r.2.1 ∧ ZhF lt r.1 r.2.1 ∧ Alike lt r.1 r.2.1 r.2.2
 | 0,p,n,q,hq,hs,d,a=>⟨Array.Perm.refl _,rfl,Nat.le_refl _,Nat.le_refl _,hq,d,a⟩
 | f + 1,p,n,q,hq,hs,d,a=>by
  have one:∀ (p':Array Nat),Alike lt p' (n + 1) 0:=fun p' i j h1 h2 h3 h4=>by
   have:i = j:=Nat.le_antisymm (lD 3 0x120aec0ca3c01a3c2111001 T1 h3 h2 (sbA _ _)) (lD 3 0x300aec2ca1c013201a1c011 T1 h4 h1 (sbA _ _))
   subst this; exact o.rf _
  unfold kas_desc
  simp only [kev]
  cases c:lt (p.getD n 0) (p.getD (n - 1) 0) with
  | true=>
   simp only [if_true]
   by_cases hq0:q > 0
   ·rw [if_pos hq0]
    have hl:lt (at' (kas_rev p (n - (q + 1)) n) (n - 1)) (at' (kas_rev p (n - (q + 1)) n) n) = false:=by
     rw [ZeI (by exact lC 1 2199729736705 T1 hs),ZeI (by exact lC 1 2199729736705 T1 hs),if_pos ⟨lD 2 0x300a3c2012a1c0c21 T1 (Nat.sub_add_cancel hq) (sbA _ _),lB 1 4313451553 T1 (Nat.sub_add_cancel (lB 1 6981028865 T1 hq))⟩,if_neg (fun z=>lA 1 393233 T1 z.2)]
     exact o.tr (o.asym c) (a _ _ (lE 3 0x40034c2011a3c21a2c10c01 T1 (sbA _ _) (Nat.sub_add_cancel (lB 1 6981028865 T1 hq)) (sbA _ _)) (lF 4 0x251345c21a4c20120ca3c212a1c0c21 T1 (Nat.sub_add_cancel hq) (Nat.sub_add_cancel (lC 1 1291176250369 T1 hq)) (sbA _ _) (Nat.sub_add_cancel (lD 2 0x2301a3c21a2c10c01 T1 (sbA _ _) (Nat.sub_add_cancel (lB 1 6981028865 T1 hq))))) (lD 2 0x300a3c2012a1c0c21 T1 (Nat.sub_add_cancel hq) (sbA _ _)) (lB 1 4313451553 T1 (Nat.sub_add_cancel (lB 1 6981028865 T1 hq))))
    obtain ⟨h1,h2,h3,h4,h5,h6,h7⟩:=Zgz o f (kas_rev p (n - (q + 1)) n) (n + 1) 0 (lA 0 168603328 T1) (by rw [Zdn]; exact lC 1 0x21a0cc02a1c0c01 T1 hs) (ZeT o (lB 1 6981028865 T1 hq) (Zh8 o (lC 1 2199729736705 T1 hs) hq d a) hl) (one _)
    exact ⟨h1.trans (ZcE _ _ _),h2.trans (Zdn _ _ _),lB 1 4296674305 T1 h3,lC 1 0xa2c1c002a1cc001 T1 h4,h5,h6,h7⟩
   ·rw [if_neg hq0]
    obtain ⟨h1,h2,h3,h4,h5,h6,h7⟩:=Zgz o f p (n + 1) 0 (lA 0 168603328 T1) (lC 1 0x21a0cc02a1c0c01 T1 hs) (ZeT o (lB 1 6981028865 T1 hq) d (o.asym c)) (one _)
    exact ⟨h1,h2,lB 1 4296674305 T1 h3,lC 1 0xa2c1c002a1cc001 T1 h4,h5,h6,h7⟩
  | false=>
   simp only [Bool.false_eq_true,if_false,kev]
   cases c2:lt (p.getD (n - 1) 0) (p.getD n 0) with
   | true=>exact ⟨Array.Perm.refl _,rfl,Nat.le_refl _,by simp only [if_true,kev]; exact Nat.le_add_right _ _,hq,d,a⟩
   | false=>
    simp only [Bool.false_eq_true,if_false]
    have al:Alike lt p (n + 1) (q + 1):=fun i j h1 h2 h3 h4=>by
     have z:∀ k,n + 1 - (q + 1 + 1) ≤ k → k < n + 1 → lt (at' p k) (at' p n) = false ∧ lt (at' p n) (at' p k) = false:=fun k k1 k2=>by
      by_cases e:k = n
      ·subst e; exact ⟨o.rf _,o.rf _⟩
      ·exact ⟨o.tr c2 (a k (n - 1) (lE 3 0x120aa3cc0ca4c014a3c2c211001 T1 k1 (Nat.sub_add_cancel hq) (sbA _ _)) ((Nat.lt_of_le_of_ne (lB 1 4305567761 T1 k2) e)) (lD 2 0x300a3c2012a1c0c21 T1 (Nat.sub_add_cancel hq) (sbA _ _)) (lB 1 4313451553 T1 (Nat.sub_add_cancel (lB 1 6981028865 T1 hq)))),o.tr (a (n - 1) k (lD 2 0x300a3c2012a1c0c21 T1 (Nat.sub_add_cancel hq) (sbA _ _)) (lB 1 4313451553 T1 (Nat.sub_add_cancel (lB 1 6981028865 T1 hq))) (lE 3 0x120aa3cc0ca4c014a3c2c211001 T1 k1 (Nat.sub_add_cancel hq) (sbA _ _)) ((Nat.lt_of_le_of_ne (lB 1 4305567761 T1 k2) e))) c⟩
     exact o.tr (z j h3 h4).2 (z i h1 h2).1
    obtain ⟨h1,h2,h3,h4,h5,h6,h7⟩:=Zgz o f p (n + 1) (q + 1) (lB 1 0xa1caa0cc01a0c01 T1 hq) (lC 1 0x21a0cc02a1c0c01 T1 hs) (ZeT o (lB 1 6981028865 T1 hq) d c2) al
    exact ⟨h1,h2,lB 1 4296674305 T1 h3,lC 1 0xa2c1c002a1cc001 T1 h4,h5,h6,h7⟩
theorem Zkw {p:Array Nat} {n:Nat} (hn:n ≤ p.size) (d:ZhF lt p n):Up lt (kas_rev p 0 n) n:=by
 intro i j hij hj
 rw [ZeI hn,ZeI hn,if_pos ⟨Nat.zero_le _,hj⟩,if_pos ⟨Nat.zero_le _,Nat.lt_of_le_of_lt hij hj⟩]
 exact d _ _ (lE 3 0x340214c2103c2011001 T1 hij (sbA _ _) (Nat.sub_add_cancel (lC 2 0x200a2c1ec011011 T1 hj (sbA _ _)))) (lC 2 81348472104160289 T1 (Nat.sub_add_cancel (lB 1 8264880145 T1 hj)) (Nat.sub_le _ _))
theorem Zi7 (o:Zdr lt) {p:Array Nat} {n nrem:Nat} (h1:1 ≤ n) (hn:n ≤ nrem) (hs:nrem ≤ p.size) (d:ZhF lt p n):
  let r:=kev lt (kas_tail3 n nrem p); r.2.Perm p ∧ r.2.size = p.size ∧ 1 ≤ r.1 ∧ r.1 ≤ nrem ∧ Up lt r.2 r.1:=by
 unfold kas_tail3
 rw [Zd0]
 obtain ⟨a,b,c,_⟩:=Zkm o (p:=kas_rev p 0 n) (nrem - n) n h1 (Zkw (Nat.le_trans hn hs) d)
 exact ⟨ZcE _ _ _,Zdn _ _ _,Nat.le_trans h1 a,Nat.le_trans b (lC 1 2206541614113 T1 (Nat.sub_add_cancel hn)),c⟩
theorem Zge (o:Zdr lt) {p:Array Nat} {n nrem:Nat} (h1:1 ≤ n) (hn:n + 1 ≤ nrem) (hs:nrem ≤ p.size) (d:ZhF lt p (n + 1)):
  let r:=kev lt (kas_descPart n nrem p); r.2.Perm p ∧ r.2.size = p.size ∧ 1 ≤ r.1 ∧ r.1 ≤ nrem ∧ Up lt r.2 r.1:=by
 unfold kas_descPart
 rw [Zd0]
 have one:Alike lt p (n + 1) 0:=fun i j h1 h2 h3 h4=>by
  have:i = j:=Nat.le_antisymm (lD 3 0x120aec0ca3c01a3c2111001 T1 h3 h2 (sbA _ _)) (lD 3 0x300aec2ca1c013201a1c011 T1 h4 h1 (sbA _ _))
  subst this; exact o.rf _
 obtain ⟨a1,a2,a3,a4,a5,a6,a7⟩:=Zgz o (nrem - (n + 1)) p (n + 1) 0 (lA 0 168603328 T1) (lD 2 0x12a3cc00a3c2c211001 T1 hs (Nat.sub_add_cancel hn)) d one
 generalize kev lt (kas_desc (nrem - (n + 1)) p (n + 1) 0) = r at *
 dsimp only
 by_cases hq:r.2.2 > 0
 ·rw [if_pos hq]
  obtain ⟨b1,b2,b3,b4,b5⟩:=Zi7 o (p:=kas_rev r.1 (r.2.1 - (r.2.2 + 1)) r.2.1) (n:=r.2.1) (nrem:=nrem) (lB 1 6981028865 T1 a5) (lD 2 0x3003a1c2c212a1cc001 T1 a4 (Nat.sub_add_cancel hn)) (by rw [Zdn]; exact lC 2 137741013041 T1 a2 hs) (Zh8 o (lF 4 0x3005a1c2c21450143312a1cc001 T1 a4 a2 hs (Nat.sub_add_cancel hn)) a5 a6 a7)
  exact ⟨(b1.trans (ZcE _ _ _)).trans a1,(b2.trans (Zdn _ _ _)).trans a2,b3,b4,b5⟩
 ·rw [if_neg hq]
  obtain ⟨b1,b2,b3,b4,b5⟩:=Zi7 o (p:=r.1) (n:=r.2.1) (nrem:=nrem) (lB 1 6981028865 T1 a5) (lD 2 0x3003a1c2c212a1cc001 T1 a4 (Nat.sub_add_cancel hn)) (lC 2 137741013041 T1 a2 hs) a6
  exact ⟨b1.trans a1,b2.trans a2,b3,b4,b5⟩
theorem Zm8 (o:Zdr lt) {p:Array Nat} {nrem:Nat} (h1:1 ≤ nrem) (hs:nrem ≤ p.size):let r:=kev lt (kas_count nrem p); r.2.Perm p ∧ r.2.size = p.size ∧ 1 ≤ r.1 ∧ r.1 ≤ nrem ∧ Up lt r.2 r.1:=by
 unfold kas_count
 rw [Zd0]
 have u1:Up lt p 1:=fun i j hij hj=>by
  have:i = j:=Nat.le_antisymm hij (lB 1 16818193 T1 hj)
  subst this; exact o.rf _
 obtain ⟨a,b,c,d⟩:=Zkm o (p:=p) (nrem - 1) 1 (Nat.le_refl _) u1
 generalize kev lt (kas_asc p (nrem - 1) 1) = n at *
 dsimp only
 by_cases e:(n == nrem) = true
 ·rw [if_pos e]; exact ⟨Array.Perm.refl _,rfl,a,by show n ≤ nrem; exact lC 2 0x2002a1c211ac001 T1 b (Nat.sub_add_cancel h1),c⟩
 ·rw [if_neg e]
  have hne:n ≠ nrem:=by simpa using e
  have hlt:lt (at' p n) (at' p (n - 1)) = true:=d.resolve_left (fun z=>lB 2 25787699217 T1 (Nat.lt_of_le_of_ne (lC 2 0x2002a1c211ac021 T1 z (Nat.sub_add_cancel h1)) hne) (Nat.lt_of_le_of_ne (lC 2 9185053868998705 T1 z (sbA _ _)) (Ne.symm hne)))
  by_cases hn:n > 1
  ·rw [if_pos hn]
   simp only [kev]
   cases c0:lt (p.getD 0 0) (p.getD (n - 1) 0) with
   | true=>exact ⟨Array.Perm.refl _,rfl,a,by show n ≤ nrem; exact Nat.le_of_lt (Nat.lt_of_le_of_ne (lC 2 0x2002a1c211ac001 T1 b (Nat.sub_add_cancel h1)) hne),c⟩
   | false=>
    simp only [Bool.false_eq_true,if_false]
    have dn:ZhF lt (kas_rev p 0 n) (n + 1):=by
     have al:∀ i j,i < n → j < n → lt (at' p i) (at' p j) = false:=fun i j hi hj=>
      o.tr (o.tr (c j (n - 1) (lC 2 563648976195601 T1 hj (sbA _ _)) (lB 1 4313451553 T1 (Nat.sub_add_cancel (lB 1 27267089 T1 hj)))) c0) (c 0 i (Nat.zero_le _) (hi))
     intro i j hij hj
     rw [ZeI (by exact lC 2 1236985253889 T1 hs (Nat.lt_of_le_of_ne (lC 2 0x2002a1c211ac001 T1 b (Nat.sub_add_cancel h1)) hne)),ZeI (by exact lC 2 1236985253889 T1 hs (Nat.lt_of_le_of_ne (lC 2 0x2002a1c211ac001 T1 b (Nat.sub_add_cancel h1)) hne))]
     by_cases ej:j < n
     ·rw [if_pos ⟨Nat.zero_le _,Nat.lt_of_le_of_lt hij ej⟩,if_pos ⟨Nat.zero_le _,ej⟩]; exact al _ _ (lC 2 81348472104160289 T1 (Nat.sub_add_cancel (lB 1 8264880145 T1 ej)) (Nat.sub_le _ _)) (lC 2 81348472104160289 T1 (Nat.sub_add_cancel (lB 1 8264880145 T1 ej)) (Nat.sub_le _ _))
     ·have:j = n:=Nat.le_antisymm (lB 1 4305567761 T1 hj) (Nat.le_of_not_lt ej)
      subst this
      by_cases ei:i < j
      ·rw [if_pos ⟨Nat.zero_le _,ei⟩,if_neg (fun z=>lA 1 393233 T1 z.2)]
       exact o.tr (o.asym hlt) (al _ _ (lC 2 81348472104160289 T1 (Nat.sub_add_cancel (lB 1 8264880145 T1 ei)) (Nat.sub_le _ _)) (lB 1 4313451553 T1 (Nat.sub_add_cancel (lB 1 27267089 T1 ei))))
      ·have:i = j:=Nat.le_antisymm hij (Nat.le_of_not_lt ei)
       subst this; rw [if_neg (fun z=>lA 1 393233 T1 z.2)]; exact o.rf _
    obtain ⟨b1,b2,b3,b4,b5⟩:=Zge o (p:=kas_rev p 0 n) (n:=n) (nrem:=nrem) a (lB 1 6991908881 T1 (Nat.lt_of_le_of_ne (lC 2 0x2002a1c211ac001 T1 b (Nat.sub_add_cancel h1)) hne)) (by rw [Zdn]; exact hs) dn
    exact ⟨b1.trans (ZcE _ _ _),b2.trans (Zdn _ _ _),b3,b4,b5⟩
  ·rw [if_neg hn]
   have:n = 1:=Nat.le_antisymm (Nat.le_of_not_lt hn) a
   subst this
   exact Zge o (Nat.le_refl _) (lA 1 2864712209 T1 (Nat.lt_of_le_of_ne h1 hne)) hs (ZeT o (Nat.le_refl _) (fun i j hij hj=>by
    have:i = j:=Nat.le_antisymm hij (lB 1 16818193 T1 hj)
    subst this; exact o.rf _) (o.asym hlt))
theorem Zhf (o:Zdr lt) {p:Array Nat} {k:Nat} (u:Up lt p k):∀ (f l r:Nat),l ≤ r → r ≤ k → r ≤ l + f → (∀ i,i < l → lt (at' p k) (at' p i) = false) → (∀ i,r ≤ i → i < k → lt (at' p k) (at' p i) = true) →
  let m:=kev lt (kas_place p k f l r); m ≤ k ∧ (∀ i,i < m → lt (at' p k) (at' p i) = false) ∧ (∀ i,m ≤ i → i < k → lt (at' p k) (at' p i) = true)
 | 0,l,r,h1,h2,h3,hl,hr=>⟨by show l ≤ k; exact Nat.le_trans h1 h2,hl,fun i hi hk=>hr i (by have:l ≤ i:=hi; exact lC 2 317624676323329 T1 this h3) hk⟩
 | f + 1,l,r,h1,h2,h3,hl,hr=>by
  unfold kas_place
  by_cases c:l ≥ r
  ·rw [if_pos c]; exact ⟨by show l ≤ k; exact Nat.le_trans h1 h2,hl,fun i hi hk=>hr i (by have:l ≤ i:=hi; exact Nat.le_trans c this) hk⟩
  ·rw [if_neg c]
   simp only [kev]
   cases q:lt (p.getD k 0) (p.getD ((l + r) / 2) 0) with
   | true=>
    simp only [if_true]
    refine Zhf o u f l ((l + r) / 2) (Nat.le_of_not_lt fun z=>lC 3 0x6a0c02d21c1112411012 T1 z c (Nat.lt_mul_div_succ _ (by decide))) (Nat.le_of_not_lt fun z=>lD 4 0x623c102d01020232411012 T1 z c h2 (Nat.mul_div_le _ _)) (Nat.le_of_not_lt fun z=>lD 3 0x630c202d01a1c0c301210c12 T1 z h3 (Nat.mul_div_le _ _)) hl fun i hi hk=>?_
    cases z:lt (at' p k) (at' p i) with
    | true=>rfl
    | false=>
     have:=o.tr (u ((l + r) / 2) i hi hk) z
     rw [q] at this; cases this
   | false=>
    simp only [Bool.false_eq_true,if_false]
    exact Zhf o u f ((l + r) / 2 + 1) r (Nat.le_of_not_lt fun z=>lC 3 0x602c102d012041a1c012 T1 z c (Nat.mul_div_le _ _)) h2 (Nat.le_of_not_lt fun z=>lD 3 0x6a0c02d23c11a1c3c20121a0cc12 T1 z h3 (Nat.lt_mul_div_succ _ (by decide))) (fun i hi=>o.tr (u i ((l + r) / 2) (lB 1 4305567761 T1 hi) (Nat.lt_of_not_le fun z=>lD 4 0x623c102d01020232411002 T1 z c h2 (Nat.mul_div_le _ _))) q) hr
theorem Zil {p:Array Nat} {k d:Nat} (hk:k < p.size) (hd:d ≤ k) (i:Nat):at' (bubble p k d) i = if i = k - d then at' p k else if k - d < i ∧ i ≤ k then at' p (i - 1) else at' p i:=by
 have e:=getElem?_bubble (xs:=p) hk d hd i
 by_cases h1:i = k - d
 ·rw [if_pos h1] at e ⊢; exact Zjr e
 ·rw [if_neg h1] at e ⊢
  by_cases h2:k - d < i ∧ i ≤ k
  ·rw [if_pos h2] at e ⊢; exact Zjr e
  ·rw [if_neg h2] at e ⊢; exact Zjr e
theorem Zmu (o:Zdr lt):∀ (f:Nat) (p:Array Nat) (k:Nat),k + f = p.size → Up lt p k → (kev lt (kas_bin f p k)).Perm p ∧ Up lt (kev lt (kas_bin f p k)) p.size
 | 0,p,k,h,u=>⟨Array.Perm.refl _,by rw [← h]; exact u⟩
 | f + 1,p,k,h,u=>by
  unfold kas_bin
  rw [Zd0]
  obtain ⟨a,b,c⟩:=Zhf o u k 0 k (Nat.zero_le _) (Nat.le_refl _) (Nat.le_add_left _ _) (fun i hi=>(lA 1 450577 T1 hi).elim) (fun i h1 h2=>(lB 2 25786650641 T1 h2 h1).elim)
  generalize kev lt (kas_place p k k 0 k) = m at *
  have sz:=bubble_size p k (k - m)
  have up:Up lt (bubble p k (k - m)) (k + 1):=by
   intro i j hij hj
   have e:k - (k - m) = m:=Nat.le_antisymm (lD 2 0x230013c2121c001 T1 (sbA _ _) (Nat.sub_add_cancel ((Nat.sub_le _ _)))) (lD 2 0x31003c201210c21 T1 (Nat.sub_add_cancel a) (sbA _ _))
   rw [Zil (by exact lC 1 2204024704033 T1 h) ((Nat.sub_le _ _)),Zil (by exact lC 1 2204024704033 T1 h) ((Nat.sub_le _ _)),e]
   by_cases e1:i = m
   ·rw [if_pos e1]
    by_cases e2:j = m
    ·rw [if_pos e2]; exact o.rf _
    ·rw [if_neg e2,if_pos ⟨(Nat.lt_of_le_of_ne (lC 2 2268279672881 T1 e1 hij) (Ne.symm e2)),lB 1 4305567761 T1 hj⟩]; exact o.asym (c _ (lC 2 563648976195601 T1 (Nat.lt_of_le_of_ne (lC 2 2268279672881 T1 e1 hij) (Ne.symm e2)) (sbA _ _)) (lC 2 81357452928466961 T1 hj (Nat.sub_add_cancel (lB 1 27267089 T1 (Nat.lt_of_le_of_ne (lC 2 2268279672881 T1 e1 hij) (Ne.symm e2))))))
   ·rw [if_neg e1]
    by_cases e2:j = m
    ·rw [if_pos e2,if_neg (fun z=>lC 3 0x6210102211011 T1 z.1 e2 hij)]; exact b _ ((Nat.lt_of_le_of_ne (lC 2 1236984205345 T1 e2 hij) e1))
    ·rw [if_neg e2]
     by_cases e3:m < i
     ·rw [if_pos (show m < i ∧ i ≤ k from ⟨e3,lC 2 316667966111761 T1 hj hij⟩),if_pos (show m < j ∧ j ≤ k from ⟨Nat.lt_of_lt_of_le e3 hij,lB 1 4305567761 T1 hj⟩)]; exact u _ _ (lD 3 0x320a3c1010a2c211001 T1 hij (Nat.sub_add_cancel (lB 1 27267089 T1 e3)) (sbA _ _)) (lC 2 81357452928466961 T1 hj (Nat.sub_add_cancel (lC 2 2886771740689 T1 e3 hij)))
     ·rw [if_neg (show ¬ (m < i ∧ i ≤ k) from fun z=>e3 z.1)]
      by_cases e4:m < j
      ·rw [if_pos (show m < j ∧ j ≤ k from ⟨e4,lB 1 4305567761 T1 hj⟩)]; exact u _ _ (lD 3 0x320a3c10120511011 T1 e4 e3 (sbA _ _)) (lC 2 81357452928466961 T1 hj (Nat.sub_add_cancel (lB 1 27267089 T1 e4)))
      ·rw [if_neg (show ¬ (m < j ∧ j ≤ k) from fun z=>e4 z.1)]; exact u _ _ (hij) (Nat.lt_of_lt_of_le (Nat.lt_of_le_of_ne (Nat.le_of_not_lt e4) e2) a)
  obtain ⟨h1,h2⟩:=Zmu o f (bubble p k (k - m)) (k + 1) (by rw [sz]; exact Nat.le_antisymm (lC 1 0x21a0cc02a1c0c21 T1 h) (lC 1 0x1a0cc202a1c0c31 T1 h)) up
  exact ⟨h1.trans (bubble_perm _ _ _),by rw [sz] at h2; exact h2⟩
theorem ZnP (o:Zdr lt) {n:Nat} (h1:1 ≤ n):(kev lt (kas_sort n)).Perm (List.toArray (List.range n)) ∧ Up lt (kev lt (kas_sort n)) n:=by
 unfold kas_sort
 rw [Zd0]
 obtain ⟨a1,a2,a3,a4,a5⟩:=Zm8 o (p:=List.toArray (List.range n)) h1 (by simp)
 generalize kev lt (kas_count n (List.toArray (List.range n))) = r at *
 have sz:r.2.size = n:=by rw [a2]; simp
 by_cases c:r.1 < n
 ·rw [if_pos c]
  have hm:max r.1 1 = r.1:=by omega
  rw [hm]
  obtain ⟨b1,b2⟩:=Zmu o (n - r.1) r.2 r.1 (Nat.le_antisymm (lD 2 0x23c0132c211031 T1 sz (Nat.sub_add_cancel (Nat.le_of_lt c))) (lD 2 0x23c0032c1011021 T1 sz (sbA _ _))) a5
  exact ⟨b1.trans a1,by rw [sz] at b2; exact b2⟩
 ·rw [if_neg c]
  have:r.1 = n:=Nat.le_antisymm a4 (Nat.le_of_not_lt c)
  exact ⟨a1,by rw [← this]; exact a5⟩
end
end L3
namespace L3
open PySem PySem.W PyProof.Rows
section
noncomputable def Zd7 {α:Type} (n:Nat) (R:α → Prop):KasT α → Prop
 | .ret a=>R a
 | .ask i j k=>i < n ∧ j < n ∧ ∀ b,Zd7 n R (k b)
theorem Zd7.bind {α β:Type} {n:Nat} {R:α → Prop} {R':β → Prop} {f:α → KasT β} (hf:∀ a,R a → Zd7 n R' (f a)):∀ {t:KasT α},Zd7 n R t → Zd7 n R' (t.bind f)
 | .ret a,h=>hf a h
 | .ask _ _ _,⟨h1,h2,h3⟩=>⟨h1,h2,fun b=>(h3 b).bind hf⟩
theorem Zjb {α:Type} {n:Nat} {lt:Nat → Nat → Bool} {cmp:Nat → Nat → (Bool → Shared → Prop) → Shared → Prop} {G:Shared → Prop} {R:α → Prop} (hc:∀ i j (C:Bool → Shared → Prop) s,i < n → j < n → G s → (∀ s',G s' → C (lt i j) s') → cmp i j C s) {Q:α → Shared → Prop}:
  ∀ (t:KasT α),Zd7 n R t → ∀ (s:Shared),G s → (∀ s',G s' → Q (kev lt t) s') → t.kasWp cmp Q s
 | .ret _,_,s,g,h=>h s g
 | .ask i j k,⟨h1,h2,h3⟩,s,g,h=>hc i j _ s h1 h2 g fun s' g'=>Zjb hc (k (lt i j)) (h3 _) s' g' h
variable {n:Nat}
noncomputable def Low (n:Nat) (p:Array Nat):Prop:=∀ i,at' p i < n
theorem Low.perm {p q:Array Nat} (h0:0 < n) (l:Low n p) (e:q.Perm p):Low n q:=by
 intro i
 unfold at'
 rw [Array.getD_eq_getD_getElem?]
 cases h:q[i]? with
 | none=>simpa using h0
 | some x=>
  have hx:x ∈ p:=e.mem_iff.mp (Array.mem_of_getElem? h)
  obtain ⟨j,hj,e2⟩:=Array.mem_iff_getElem.mp hx
  have:=l j
  unfold at' at this
  rw [Array.getD_eq_getD_getElem?,Array.getElem?_eq_getElem hj,e2] at this
  simpa using this
theorem ZiR {p:Array Nat} (l:Low n p):∀ (f m:Nat),Zd7 n (fun _=>True) (kas_asc p f m)
 | 0,_=>trivial
 | f + 1,m=>⟨l _,l _,fun b=>by
  cases b with
  | true=>exact trivial
  | false=>exact ZiR l f (m + 1)⟩
theorem ZfE (h0:0 < n):∀ (f:Nat) (p:Array Nat) (m q:Nat),Low n p → Zd7 n (fun r=>Low n r.1) (kas_desc f p m q)
 | 0,p,_,_,l=>l
 | f + 1,p,m,q,l=>by
  unfold kas_desc
  refine ⟨l _,l _,fun b=>?_⟩
  cases b with
  | true=>
   simp only [if_true]
   split
   ·exact ZfE h0 f _ _ _ (l.perm h0 (ZcE _ _ _))
   ·exact ZfE h0 f _ _ _ l
  | false=>
   simp only [Bool.false_eq_true,if_false]
   refine ⟨l _,l _,fun c=>?_⟩
   cases c with
   | true=>exact l
   | false=>exact ZfE h0 f _ _ _ l
theorem Zig (h0:0 < n) {p:Array Nat} {m nrem:Nat} (l:Low n p):Zd7 n (fun r=>Low n r.2) (kas_tail3 m nrem p):=
 Zd7.bind (R:=fun _=>True) (R':=fun r=>Low n r.2) (f:=fun m'=>KasT.ret (m',kas_rev p 0 m)) (fun _ _=>l.perm h0 (ZcE p 0 m)) (ZiR (l.perm h0 (ZcE _ _ _)) _ _)
theorem ZfF (h0:0 < n) {p:Array Nat} {m nrem:Nat} (l:Low n p):Zd7 n (fun r=>Low n r.2) (kas_descPart m nrem p):=by
 refine Zd7.bind (fun r hr=>?_) (ZfE h0 _ _ _ _ l)
 split
 ·exact Zig h0 (Low.perm h0 hr (ZcE _ _ _))
 ·exact Zig h0 hr
theorem Zlq (h0:0 < n) {p:Array Nat} {nrem:Nat} (l:Low n p):Zd7 n (fun r=>Low n r.2) (kas_count nrem p):=by
 refine Zd7.bind (fun m _=>?_) (ZiR l _ _)
 split
 ·exact l
 ·split
  ·refine ⟨l _,l _,fun b=>?_⟩
   cases b with
   | true=>exact l
   | false=>exact ZfF h0 (l.perm h0 (ZcE _ _ _))
  ·exact ZfF h0 l
theorem Zf3 {p:Array Nat} {k:Nat} (l:Low n p):∀ (f a b:Nat),Zd7 n (fun _=>True) (kas_place p k f a b)
 | 0,_,_=>trivial
 | f + 1,a,b=>by
  unfold kas_place
  split
  ·exact trivial
  ·refine ⟨l _,l _,fun c=>?_⟩
   cases c with
   | true=>exact Zf3 l f _ _
   | false=>exact Zf3 l f _ _
theorem Zlf (h0:0 < n):∀ (f:Nat) (p:Array Nat) (k:Nat),Low n p → Zd7 n (fun _=>True) (kas_bin f p k)
 | 0,_,_,_=>trivial
 | f + 1,p,k,l=>Zd7.bind (fun _ _=>Zlf h0 f _ _ (l.perm h0 (bubble_perm _ _ _))) (Zf3 l _ _ _)
theorem ZmP (h0:0 < n):Zd7 n (fun _=>True) (kas_sort n):=by
 have l:Low n (List.toArray (List.range n)):=fun i=>by
  unfold at'
  rw [Array.getD_eq_getD_getElem?]
  cases h:(List.toArray (List.range n))[i]? with
  | none=>simpa using h0
  | some x=>
   have:=Array.mem_of_getElem? h
   simpa using this
 refine Zd7.bind (fun r hr=>?_) (Zlq h0 l)
 split
 ·exact Zlf h0 _ _ _ hr
 ·exact trivial
end
section
variable {prog:Program} {w:World} {A:Around} {E:Value → Shared → Prop} {s:Shared}
noncomputable def Zgw (h:Heap) (a:Addr) (vs:List Value):Heap:=((h.update a (Obj.mapSeq fun _=>#[])).push (seqObj "tuple" vs.toArray 0)).push (seqObj "list" #[] 0)
noncomputable def Zfb (s s':Shared):Prop:=∃ t,s' = { s with toks:=t }
theorem Znz {h:Heap} {a b:Addr} {vs:List Value} (hb:b ≠ a) (hlt:b < h.objs.size):(Zgw h a vs).get? b = h.get? b:=by
 unfold Zgw
 rw [Heap.get?_push_ne _ _ _ (by rw [size_push',Heap.size_update]; exact Nat.ne_of_lt (Nat.lt_succ_of_lt hlt)),Heap.get?_push_ne _ _ _ (by rw [Heap.size_update]; exact Nat.ne_of_lt hlt),Heap.get?_update_ne _ _ _ _ hb]
theorem ZnG {a:Addr} {vs:List Value} {n:Nat} {lt:Nat → Nat → Bool} {κ:SortKind} {P:PySem.Fin → Shared → Prop} (o:Zdr lt) (ho:s.heap.get? a = some (seqObj "list" vs.toArray n)) (h64:vs.length < 64)
  (hk:2 ≤ vs.length → ∀ (Q:SortKind → Shared → Prop) s',Zfb { s with heap:=Zgw s.heap a vs } s' → (∀ s'',Zfb { s with heap:=Zgw s.heap a vs } s'' → Q κ s'') → wpAny (model prog w) A (keyKind' vs.toArray) Q E s')
  (hc:2 ≤ vs.length → ∀ i j (C:Bool → Shared → Prop) s',i < vs.length → j < vs.length → Zfb { s with heap:=Zgw s.heap a vs } s' → (∀ s'',Zfb { s with heap:=Zgw s.heap a vs } s'' → C (lt i j) s'') → kas_ask prog w A κ vs i j C s')
  (h:∀ (out:List Value) (p:List Nat) t,p.Perm (List.range vs.length) → (∀ (i j x y:Nat),i ≤ j → p[i]? = some x → p[j]? = some y → lt y x = false) → out = p.map (fun i=>vs.getD i Value.none) → P (.done (.ret .none)) { s with heap:=sortedHeap s.heap a vs out.toArray,toks:=t }):
  wpAny (model prog w) A (Builtin.«list.sort» ⟨[.ref a],[]⟩) P E s:=by
 have ha:a < s.heap.objs.size:=Heap.lt_size ho
 obtain ⟨e1,g1⟩:∃ e1,(s.heap.update a (Obj.mapSeq fun _=>(#[]:Array Value))).get? a = some (seqObj "list" #[] e1):=⟨_,get?_update_seq ho _⟩
 have g6:(Zgw s.heap a vs).get? a = some (seqObj "list" #[] e1):=by
  unfold Zgw; rw [Heap.get?_push_ne _ _ _ (by rw [size_push',Heap.size_update]; exact Nat.ne_of_lt (Nat.lt_succ_of_lt ha)),Heap.get?_push_ne _ _ _ (by rw [Heap.size_update]; exact Nat.ne_of_lt ha)]; exact g1
 rw [list_sort_plain]; refine wpAny_bind (listItems_at ho rfl (wpAny_bind (listUpdate_at ho rfl ?_ (by rw [List.size_toArray,sizeLine_eq]; exact lA 1 0x10000007b00402b011 T1 h64) (Nat.zero_le _))))
 refine wpAny_bind (seqEpoch_at g1 rfl (wpAny_bind (wpAny_newTuple ?_ (by show vs.length ≤ _; rw [sizeLine_eq]; exact lA 1 0x10000007b00402b011 T1 h64)))); refine wpAny_bind (wpAny_newList ?_ (Nat.zero_le _))
 refine wpAny_holding ?_
 show wpAny (model prog w) A _ P E { s with heap:=Zgw s.heap a vs }
 dsimp only
 by_cases h2:vs.length < 2
 ·have q2:vs.toArray.size < 2:=by rw [List.size_toArray]; exact h2
  rw [if_pos q2,if_pos q2]; refine wpAny_bind (wpAny_pure ?_)
  rw [StateT.run_pure]; refine wpAny_bind (wpAny_pure ?_)
  dsimp only; refine wpAny_bind (seqEpoch_at g6 rfl (wpAny_bind (listUpdate_at g6 rfl ?_ (Nat.zero_le _) ?_)))
  ·have es:(arrOf (SortSt.mk' general' (vs.toArray.zip vs.toArray) #[] 7 none)).map (·.2) = vs.toArray:=by
    show (vs.toArray.zip vs.toArray).map (·.2) = _
    apply Array.toList_inj.mp; simp [List.map_snd_zip]
   rw [es]; simp only [bne_self_eq_false,Bool.false_eq_true,if_false]
   refine wpAny_pure (h vs (List.range vs.length) s.toks (List.Perm.refl _) (fun i j x y hij hx hy=>?_) ?_)
   ·have:=(List.getElem?_eq_some_iff.mp hx).1
    have:=(List.getElem?_eq_some_iff.mp hy).1
    simp only [List.length_range] at *
    have:i = j:=Nat.le_antisymm hij (lC 2 563094658027537 T1 this h2)
    subst this; rw [hx] at hy; cases hy; exact o.rf _
   ·apply List.ext_getElem?
    intro i
    rw [List.getElem?_map]
    by_cases hi:i < vs.length
    ·simp [hi]
    ·simp [hi]
  ·refine Nat.le_trans (Nat.le_of_eq (Array.size_map ..)) ?_
   show (vs.toArray.zip vs.toArray).size ≤ _
   rw [Array.size_zip,List.size_toArray,sizeLine_eq]; exact lB 2 0xa10000007bc10010121b011 T1 h2 (Nat.min_le_left _ _)
 ·have q2:¬ vs.toArray.size < 2:=by rw [List.size_toArray]; exact h2
  have h2':2 ≤ vs.length:=Nat.le_of_not_lt h2
  rw [if_neg q2,if_neg q2]
  refine wpAny_bind (hk h2' _ _ ⟨s.toks,rfl⟩ fun s' hs'=>?_)
  refine wpAny_bind (wpAny_mono (kat_run (Q:=fun st' s''=>Zfb { s with heap:=Zgw s.heap a vs } s'' ∧ failedOf st' = none ∧ arrOf st' = (kev lt (kas_sort vs.length)).map (kas_item (vs.toArray.zip vs.toArray))) (G:=fun p s''=>Zfb { s with heap:=Zgw s.heap a vs } s'' ∧ p = kev lt (kas_sort vs.length)) rfl h2' h64
   (fun p st' s'' _ a2 a3 ⟨a4,a5⟩=>⟨a4,a3,by rw [a2,a5]⟩) (Zjb (n:=vs.length) (hc h2') _ (ZmP (lA 1 3775011585 T1 h2')) s' hs' fun s'' g=>⟨g,rfl⟩)) ?_ fun _ _ e=>e)
  rintro ⟨⟨⟩,st'⟩ s'' ⟨⟨t,rfl⟩,hf,har⟩
  dsimp only
  obtain ⟨pp,pu⟩:=ZnP o (n:=vs.length) (lA 1 2684492545 T1 h2')
  generalize kev lt (kas_sort vs.length) = p at pp pu har
  have hout:=kat_snds (vs:=vs) (ks:=vs) rfl har
  rw [hout]
  have hlen:p.toList.length = vs.length:=by have:=pp.size_eq; simpa using this
  refine wpAny_bind (seqEpoch_at g6 rfl (wpAny_bind (listUpdate_at g6 rfl ?_ (Nat.zero_le _) (by rw [List.size_toArray,List.length_map,hlen,sizeLine_eq]; exact lA 1 0xa10000007bc00402b011 T1 h64))))
  rw [hf]; simp only [bne_self_eq_false,Bool.false_eq_true,if_false]
  refine wpAny_pure (h _ p.toList t ?_ (fun i j x y hij hx hy=>?_) rfl)
  ·have:=Array.perm_iff_toList_perm.mp pp; simpa using this
  ·have hj:=(List.getElem?_eq_some_iff.mp hy).1
   have u:=pu i j hij (by rw [hlen] at hj; exact hj)
   have cv:∀ (k z:Nat),p.toList[k]? = some z → at' p k = z:=fun k z hz=>by
    rw [at',Array.getD_eq_getD_getElem?,← Array.getElem?_toList,hz]; rfl
   rw [cv i x hx,cv j y hy] at u; exact u
theorem ZjG {l:Addr} {vs:List Value} {lt:Nat → Nat → Bool} {κ:SortKind} {Q:Value → Shared → Prop} (o:Zdr lt) (hl:s.heap.IsList l vs.toArray) (h64:vs.length < 64)
  (hk:2 ≤ vs.length → ∀ (h':Heap) (Q:SortKind → Shared → Prop) s',(∀ b u,s.heap.get? b = some u → h'.get? b = some u) → Zfb { s with heap:=h' } s' → (∀ s'',Zfb { s with heap:=h' } s'' → Q κ s'') → wpAny (model prog w) A.in1.in1 (keyKind' vs.toArray) Q (fun _ _=>False) s')
  (hc:2 ≤ vs.length → ∀ (h':Heap) i j (C:Bool → Shared → Prop) s',(∀ b u,s.heap.get? b = some u → h'.get? b = some u) → i < vs.length → j < vs.length → Zfb { s with heap:=h' } s' → (∀ s'',Zfb { s with heap:=h' } s'' → C (lt i j) s'') → kas_ask prog w A.in1.in1 κ vs i j C s')
  (h:∀ (out:List Value) (p:List Nat) t h' a,p.Perm (List.range vs.length) → (∀ (i j x y:Nat),i ≤ j → p[i]? = some x → p[j]? = some y → lt y x = false) → out = p.map (fun i=>vs.getD i Value.none) →
   (∀ b u,s.heap.get? b = some u → h'.get? b = some u) → s.heap.objs.size ≤ a → (∃ e,h'.get? a = some (seqObj "list" out.toArray e)) → Q (.ref a) { s with heap:=h',toks:=t }):
  wpAny (model prog w) A (call (.builtin "sorted") [.ref l]) Q E s:=by
 refine Calls.call_function_entry kind_sorted plain_sorted entry_sorted (args_sorted1 _) ?_; unfold Builtin.«sorted»
 refine wpAny_bind (m:=checkCount "sorted" 1 1 _) (wpAny_pure (wpAny_bind (collect_list hl ?_ (by rw [sizeLine_eq]; exact lA 1 0x10000007b00402b011 T1 h64)))); refine wpAny_bind (wpAny_newList ?_ (by rw [sizeLine_eq]; exact lA 1 0x10000007b00402b011 T1 h64))
 have hsz:((s.heap.push (seqObj "list" #[] 0)).update s.heap.objs.size (Obj.mapSeq (· ++ vs.toArray))).objs.size = s.heap.objs.size + 1:=(Heap.size_update ..).trans (size_push' ..)
 obtain ⟨h3,e3⟩:∃ h3,((s.heap.push (seqObj "list" #[] 0)).update s.heap.objs.size (Obj.mapSeq (· ++ vs.toArray))).push (seqObj "list" vs.toArray 0) = h3:=⟨_,rfl⟩
 have g3:h3.get? (s.heap.objs.size + 1) = some (seqObj "list" vs.toArray 0):=by rw [← e3,← hsz]; exact Heap.get?_push_size _ rfl
 have k3:∀ b u,s.heap.get? b = some u → h3.get? b = some u:=fun b u q=>by
  have hlt:b < s.heap.objs.size:=Heap.lt_size q
  rw [← e3,Heap.get?_push_ne _ _ _ (by rw [hsz]; exact Nat.ne_of_lt (Nat.lt_succ_of_lt hlt)),Heap.get?_update_ne _ _ _ _ (Nat.ne_of_lt hlt),Heap.get?_push_ne _ _ _ (Nat.ne_of_lt hlt)]; exact q
 have z3:h3.objs.size = s.heap.objs.size + 2:=by rw [← e3,size_push',hsz]
 show wpAny _ _ _ _ _ { s with heap:=((s.heap.push (seqObj "list" #[] 0)).update s.heap.objs.size (Obj.mapSeq (· ++ vs.toArray))).push (seqObj "list" vs.toArray 0) }
 rw [hsz,e3]
 have km:∀ b u,s.heap.get? b = some u → (Zgw h3 (s.heap.objs.size + 1) vs).get? b = some u:=fun b u q=>by
  have hlt:b < s.heap.objs.size:=Heap.lt_size q
  rw [Znz (Nat.ne_of_lt (Nat.lt_succ_of_lt hlt)) (by rw [z3]; exact Nat.lt_succ_of_lt (Nat.lt_succ_of_lt hlt))]; exact k3 b u q
 refine wpAny_bind (wpAny_holding (wpAny_call_entry slot_list_sort ⟨_,g3,rfl⟩ entry_list_sort ?body (args_list_sort _)))
 case body=>
  refine ZnG (s:={ s with heap:=h3 }) (κ:=κ) o g3 h64 (fun h2 Q' s' hs' hq=>wpAny_mono (hk h2 _ Q' s' km hs' hq) (fun _ _ q=>q) fun _ _ z=>z.elim) (fun h2 i j C s' hi hj hs' hq=>hc h2 _ i j C s' km hi hj hs' hq) fun out p t hp hu ho=>⟨_,rfl,wpAny_pure ⟨_,rfl,?_⟩⟩
  refine h out p t (sortedHeap h3 (s.heap.objs.size + 1) vs out.toArray) (s.heap.objs.size + 1) hp hu ho (fun b u q=>?_) (Nat.le_add_right _ _) ?_
  ·have hlt:b < s.heap.objs.size:=Heap.lt_size q
   rw [sortedHeap_old (Nat.ne_of_lt (Nat.lt_succ_of_lt hlt)) (by rw [z3]; exact Nat.lt_succ_of_lt (Nat.lt_succ_of_lt hlt))]; exact k3 b u q
  ·exact sortedHeap_at g3
end
end L3
namespace L3
open PySem PySem.W PySem.Spec PyProof.Rows L2
section
variable {prog:Program} {w:World} {A:Around} {K:PySem.W.Frag} {H:Hp} {ι:List Addr}
theorem Zml {s:Shared} {C:Bool → Shared → Prop} {r:Bool} (hC:C r s):∀ (x y:List D) (xs ys:List V) (us ws:List Value) (k:Nat) (fin:Bool),Zab K H ι x xs → Zab K H ι y ys → Vals xs us → Vals ys ws → fin = decide (x.length < y.length) →
  (k = 0 → (∀ d,x.head? = some d → Zft d = true)) → ltT x y = some r → KatLex prog w A true fin C (us.zip ws) k s
 | [],[],xs,ys,us,ws,k,fin,rx,ry,vx,vy,hf,_,h=>by
  have e1:=rx.nil_inv; have e2:=ry.nil_inv; subst e1 e2; cases vx; cases vy
  refine kat_nil ?_
  simp [ltT] at h; subst hf; simpa [h] using hC
 | [],d :: y,xs,ys,us,ws,k,fin,rx,ry,vx,vy,hf,_,h=>by
  have e1:=rx.nil_inv; subst e1; cases vx
  refine kat_nil ?_
  simp [ltT] at h; subst hf; simpa [h] using hC
 | d :: x,[],xs,ys,us,ws,k,fin,rx,ry,vx,vy,hf,_,h=>by
  have e1:=ry.nil_inv; subst e1; cases vy
  rw [List.zip_nil_right]
  refine kat_nil ?_
  simp [ltT] at h; subst hf; simpa [h] using hC
 | d :: x,e :: y,xs,ys,us,ws,k,fin,rx,ry,vx,vy,hf,h0,h=>by
  obtain ⟨v,xs',rfl,r1,r2⟩:=rx.cons_inv
  obtain ⟨v',ys',rfl,r1',r2'⟩:=ry.cons_inv
  cases vx with
  | @cons _ u _ us' ru rus=>
  cases vy with
  | @cons _ u' _ ws' ru' rus'=>
  rw [List.zip_cons_cons]
  have hfin:fin = decide (x.length < y.length):=by rw [hf]; simp
  rcases Zd1 h with ⟨i,j,rfl,rfl⟩ | ⟨i,j,rfl,rfl⟩
  ·have ev:=r1.int_inv; have ev':=r1'.int_inv
   subst ev ev'
   obtain ⟨t,rfl⟩:=ru
   obtain ⟨t',rfl⟩:=ru'
   refine kat_cons (wpAny_eqBool_int ?_)
   simp only [ltT] at h
   by_cases e:i = j
   ·subst e
    rw [if_pos rfl] at h
    rw [beq_self_eq_true]
    exact kat_yes (Zml hC x y xs' ys' us' ws' (k + 1) fin r2 r2' rus rus' hfin (fun z=>(lA 1 116001825 T1 z).elim) h)
   ·rw [if_neg e] at h
    have hb:(i == j) = false:=by simpa using e
    rw [hb]
    refine kat_no ?_
    have hr:decide (i < j) = r:=by simpa using h
    cases hk:(true && k == 0) with
    | true=>exact oneLt_int (by rw [hr]; exact hC)
    | false=>exact kat_one _ _ (lt_int (by show C _ s; rw [hr]; exact hC))
  ·have ev:=r1.str_inv; have ev':=r1'.str_inv
   subst ev ev'
   obtain ⟨t,rfl⟩:=ru
   obtain ⟨t',rfl⟩:=ru'
   refine kat_cons (wpAny_eqBool_str ?_)
   simp only [ltT] at h
   by_cases e:i = j
   ·subst e
    rw [if_pos rfl] at h
    rw [decide_eq_true rfl]
    exact kat_yes (Zml hC x y xs' ys' us' ws' (k + 1) fin r2 r2' rus rus' hfin (fun z=>(lA 1 116001825 T1 z).elim) h)
   ·rw [if_neg e] at h
    have hb:decide ((⟨i.toArray⟩:Str) = ⟨j.toArray⟩) = false:=by
     rw [decide_eq_false_iff_not]; intro z; injection z with z; exact e (by simpa using congrArg Array.toList z)
    rw [hb]
    refine kat_no ?_
    have hr:decide (i < j) = r:=by simpa using h
    have hk0:k ≠ 0:=fun z=>by have:=h0 z _ rfl; simp [Zft] at this
    have hk:(true && k == 0) = false:=by simp [hk0]
    rw [hk]
    exact kat_one _ _ (lt_str (by show C _ s; rw [show decide ((⟨i.toArray⟩:Str).cps.toList < (⟨j.toArray⟩:Str).cps.toList) = r from hr]; exact hC))
end
section
variable {X:Cx}
theorem ZdY {x:List D} {vs:List V} {its:List Value} {K:PySem.W.Frag} {H:Hp} {ι:List Addr} (r:Zab K H ι x vs) (v:Vals vs its) {i:Nat} {d:D} (h:x[i]? = some d):∃ u,RelV u (its.getD i Value.none) ∧ Rep K H ι d u ∧ vs[i]? = some u:=by
 obtain ⟨u,e1,r1⟩:=r.get h
 obtain ⟨z,e2,r2⟩:=v.get e1
 refine ⟨u,?_,r1,e1⟩
 rw [List.getD_eq_getElem?_getD,e2]; exact r2
theorem Zgh {pins:List (Addr × Obj)} {σ:St} {H:Hp} {s:Shared} {ι:List Addr} (I:Inv X pins σ H s) {h':Heap} (k:∀ b u,s.heap.get? b = some u → h'.get? b = some u):∀ (x:List D) (vs:List V) (its:List Value),Zab X.K H ι x vs → Vals vs its → x.all Zdf = true →
  ∃ fs:List Value,KatTups h' its fs ∧ fs.length = x.length ∧ ∀ f ∈ fs,∃ i t,f = .int i t
 | [],vs,its,r,v,_=>by have e:=r.nil_inv; subst e; cases v; exact ⟨[],.nil,rfl,fun f h=>by simp at h⟩
 | d :: x,vs,its,r,v,h=>by
  obtain ⟨u,vs',rfl,r1,r2⟩:=r.cons_inv
  cases v with
  | @cons _ z _ its' rz rzs=>
  simp only [List.all_cons,Bool.and_eq_true] at h
  obtain ⟨fs,t,l,hf⟩:=Zgh I k x vs' its' r2 rzs h.2
  have hd:=h.1
  cases d with
  | tup ds=>
   cases ds with
   | nil=>simp [Zdf] at hd
   | cons e ds=>
    cases e with
    | int i=>
     obtain ⟨a,ws,rfl,sq,rr⟩:=r1.tup_inv
     cases (show z = Value.ref a from rz)
     obtain ⟨its2,rv,⟨o,ho,hc,n,hdat⟩,_⟩:=I.tuple sq
     obtain ⟨u0,ws',rfl,q1,q2⟩:=rr.cons_inv
     have e0:=q1.int_inv
     subst e0
     cases rv with
     | @cons _ y0 _ ys ry0 _=>
     obtain ⟨tk,rfl⟩:=ry0
     refine ⟨.int i tk :: fs,KatTups.cons (k a o ho) hc hdat (by simp) t,by simp [l],fun f hm=>?_⟩
     rcases List.mem_cons.mp hm with rfl | hm
     ·exact ⟨i,tk,rfl⟩
     ·exact hf f hm
    | _=>simp [Zdf] at hd
  | _=>simp [Zdf] at hd
theorem Zab.pick {K:PySem.W.Frag} {H:Hp} {ι:List Addr} {x:List D} {vs:List V} (r:Zab K H ι x vs) (d0:D) (v0:V):∀ (p:List Nat),(∀ i ∈ p,i < x.length) → Zab K H ι (p.map fun i=>x.getD i d0) (p.map fun i=>vs.getD i v0)
 | [],_=>Zab.nil
 | i :: p,h=>by
  have hi:=h i List.mem_cons_self
  obtain ⟨v,e,q⟩:=r.get (i:=i) (d:=x[i]) (by simp [hi])
  refine Zab.cons ?_ (Zab.pick r d0 v0 p fun j hj=>h j (List.mem_cons_of_mem _ hj))
  dsimp only
  rw [List.getD_eq_getElem?_getD,List.getD_eq_getElem?_getD,e,List.getElem?_eq_getElem hi]; exact q
theorem Vals.pick {vs:List V} {us:List Value} (r:Vals vs us) (v0:V):∀ (p:List Nat),(∀ i ∈ p,i < vs.length) → Vals (p.map fun i=>vs.getD i v0) (p.map fun i=>us.getD i Value.none)
 | [],_=>.nil
 | i :: p,h=>by
  have hi:=h i List.mem_cons_self
  obtain ⟨v,e,q⟩:=r.get (i:=i) (x:=vs[i]) (by simp [hi])
  refine .cons ?_ (Vals.pick r v0 p fun j hj=>h j (List.mem_cons_of_mem _ hj))
  dsimp only
  rw [List.getD_eq_getElem?_getD,List.getD_eq_getElem?_getD,e,List.getElem?_eq_getElem hi]; exact q
theorem ZlC {x:List D} (d0:D) {p:List Nat} (h:p.Perm (List.range x.length)):(p.map fun i=>x.getD i d0).Perm x:=by
 have h1:=h.map (fun i=>x.getD i d0)
 have h2:(List.range x.length).map (fun i=>x.getD i d0) = x:=by
  apply List.ext_getElem?
  intro i
  rw [List.getElem?_map]
  by_cases hi:i < x.length
  ·simp [hi]
  ·simp [hi]
 rwa [h2] at h1
theorem Zio {x:List D} (cmp:∀ a ∈ x,∀ b ∈ x,(ltD a b).isSome = true) {a b:D} (ha:a ∈ x) (hb:b ∈ x) (h:decide (ltD a b = some true) = false):ltD a b = some false:=by
 have c:=cmp a ha b hb
 cases q:ltD a b with
 | none=>rw [q] at c; cases c
 | some z=>cases z with
  | true=>exact absurd q (of_decide_eq_false h)
  | false=>rfl
theorem Zpm (x:List D):∃ d0:D,∀ i:Nat,x ≠ [] → x.getD i d0 ∈ x:=by
 cases x with
 | nil=>exact ⟨.non,fun _ h=>absurd rfl h⟩
 | cons e y=>
  refine ⟨e,fun i _=>?_⟩
  rw [List.getD_eq_getElem?_getD]
  cases q:(e :: y)[i]? with
  | some d=>exact List.mem_of_getElem? q
  | none=>exact List.mem_cons_self
theorem Zqo {x:List D} (cmp:∀ a ∈ x,∀ b ∈ x,(ltD a b).isSome = true) {d0:D} (mem:∀ i:Nat,x ≠ [] → x.getD i d0 ∈ x):Zdr fun i j=>decide (ltD (x.getD i d0) (x.getD j d0) = some true):=by
 refine ⟨fun {i j} h=>decide_eq_false fun h'=>?_,fun {i j k} h1 h2=>decide_eq_false fun h3=>?_⟩
 ·rw [Zjz (of_decide_eq_true h)] at h'; cases h'
 ·by_cases hx:x = []
  ·subst hx
   rw [List.getD_nil,List.getD_nil] at h3
   have z:=Zjz h3; rw [h3] at z; cases z
  ·rw [Zqs (Zio cmp (mem j hx) (mem i hx) h1) (Zio cmp (mem k hx) (mem j hx) h2)] at h3; cases h3
theorem ZpJ {x:List D} (cmp:∀ a ∈ x,∀ b ∈ x,(ltD a b).isSome = true) {d0:D} (mem:∀ i:Nat,x ≠ [] → x.getD i d0 ∈ x) {p:List Nat} (hp:p.Perm (List.range x.length))
  (hu:∀ (i j x' y':Nat),i ≤ j → p[i]? = some x' → p[j]? = some y' → decide (ltD (x.getD y' d0) (x.getD x' d0) = some true) = false):ZgO x (p.map fun i=>x.getD i d0):=by
 refine ⟨ZlC d0 hp,?_⟩
 rw [List.pairwise_map,List.pairwise_iff_getElem]
 intro i j hi hj hij
 have hx:x ≠ []:=fun e=>by
  subst e
  have z:=hp.length_eq
  rw [List.length_range] at z
  rw [z] at hi
  exact absurd hi (Nat.not_lt_zero _)
 have z:=Zio cmp (mem p[j] hx) (mem p[i] hx) (hu i j p[i] p[j] (Nat.le_of_lt hij) (List.getElem?_eq_getElem hi) (List.getElem?_eq_getElem hj))
 unfold leD
 rw [z]
theorem Zmq:Zbd X (.builtin "sorted") (rB X.K ZdL):=by
 intro pins s σ H xs us Q I rs ⟨ι,M,ds,S,rd,h⟩
 cases ds with
 | nil=>exact h.elim
 | cons d ds=>
  cases ds with
  | cons _ _=>cases d <;> exact h.elim
  | nil=>
   obtain ⟨x0,rfl,r⟩:=Zep rd
   obtain ⟨u,rfl,ru⟩:=vals1 rs
   cases d with
   | ref n=>
    cases hn:M[n]? with
    | none=>simp only [ZdL,hn] at h; exact h.elim
    | some ob=>
     cases ob with
     | dct _=>simp only [ZdL,hn] at h; exact h.elim
     | fdct _=>simp only [ZdL,hn] at h; exact h.elim
     | ins _ _=>simp only [ZdL,hn] at h; exact h.elim
     | lst x=>
      simp only [ZdL,hn] at h
      split at h
      ·rename_i ok
       obtain ⟨a,ha,rfl⟩:=r.ref_inv
       cases ru
       obtain ⟨vs,ev,rv⟩:=S.obj n _ a hn ha
       obtain ⟨its,rr,pl,zl⟩:=I.list (SqL.of ev)
       have lx:its.length = x.length:=by rw [← rr.length,rv.length]
       obtain ⟨d0,mem⟩:=Zpm x
       have ltok:=Zqo ok.cmp mem
       have fin:∀ (out:List Value) (p:List Nat) t h' a',p.Perm (List.range its.length) → (∀ (i j x' y':Nat),i ≤ j → p[i]? = some x' → p[j]? = some y' → decide (ltD (x.getD y' d0) (x.getD x' d0) = some true) = false) → out = p.map (fun i=>its.getD i Value.none) →
         (∀ b u,s.heap.get? b = some u → h'.get? b = some u) → s.heap.objs.size ≤ a' → (∃ e,h'.get? a' = some (seqObj "list" out.toArray e)) → ∃ v H',Inv X pins σ H' { s with heap:=h',toks:=t } ∧ RelV v (.ref a') ∧ Q v H':=by
        intro out p t h' a' hp hu ho hk ha' ⟨e,he⟩
        have hlt:∀ i ∈ p,i < x.length:=fun i hi=>by have:=hp.mem_iff.mp hi; rw [lx] at this; simpa using this
        have plen:p.length = x.length:=by have:=hp.length_eq; simpa [lx] using this
        have sq:=ZpJ ok.cmp mem (by rw [← lx]; exact hp) hu
        rw [Zjk sq] at h
        have hn0:=I.hok.fresh ha'
        obtain ⟨x2,S2,r2⟩:=S.lst hn0 (rv.pick d0 .non p hlt)
        refine ⟨.ref a',_,I.laid (o:=.lst (p.map fun i=>vs.getD i .non)) hk ha' ⟨?_,out,e,?_,he⟩,rfl,h _ _ _ x2 S2 r2⟩
        ·rw [List.length_map,plen,sizeLine_eq]; have:=ok.len; exact lA 1 0x10000007b00402b011 T1 this
        ·rw [ho]; exact Vals.pick rr .non p fun i hi=>by rw [rv.length]; exact hlt i hi
       rcases ok.kind with kd | kd
       ·refine ZjG (κ:=tuples' (Value.type "int" != Value.type "tuple")) ltok pl.isList (by rw [lx]; exact ok.len) (fun h2 h' Q' s' hk hs' hq=>?_) (fun h2 h' i j C s' hk hi hj hs' hC=>?_) fun out p t h' a' hp hu ho hk ha' he=>fin out p t h' a' hp hu ho hk ha' he
        ·obtain ⟨fs,kt,lf,hf⟩:=Zgh I hk x vs its rv rr kd
         obtain ⟨t,rfl⟩:=hs'
         refine kat_kind (T:=.type "int") kt (by rw [lf,← lx]; exact lA 1 3775011585 T1 h2) (fun v hv=>?_) (by decide) (hq _ ⟨t,rfl⟩)
         obtain ⟨i,tk,rfl⟩:=hf v hv
         exact Looks.now
        ·obtain ⟨t,rfl⟩:=hs'
         have hxi:x[i]? = some x[i]:=by rw [List.getElem?_eq_getElem]
         have hxj:x[j]? = some x[j]:=by rw [List.getElem?_eq_getElem]
         obtain ⟨vi,ri,qi,_⟩:=ZdY rv rr hxi
         obtain ⟨vj,rj,qj,_⟩:=ZdY rv rr hxj
         have ki:=List.all_eq_true.mp kd _ (List.getElem_mem (show i < x.length by exact lC 2 2203874037777 T1 hi lx))
         have kj:=List.all_eq_true.mp kd _ (List.getElem_mem (show j < x.length by exact lC 2 2203874037777 T1 hj lx))
         have cm:=ok.cmp _ (List.getElem_mem (show i < x.length by exact lC 2 2203874037777 T1 hi lx)) _ (List.getElem_mem (show j < x.length by exact lC 2 2203874037777 T1 hj lx))
         have gi:x.getD i d0 = x[i]:=by simp [show i < x.length by exact lC 2 2203874037777 T1 hi lx]
         have gj:x.getD j d0 = x[j]:=by simp [show j < x.length by exact lC 2 2203874037777 T1 hj lx]
         simp only [gi,gj] at hC
         generalize x[i] = di at *
         generalize x[j] = dj at *
         cases di with
         | tup di=>
          cases dj with
          | tup dj=>
           obtain ⟨a1,w1,rfl,s1,e1⟩:=qi.tup_inv
           obtain ⟨a2,w2,rfl,s2,e2⟩:=qj.tup_inv
           obtain ⟨i1,v1,⟨o1,g1,_,n1,d1⟩,_⟩:=I.tuple s1
           obtain ⟨i2,v2,⟨o2,g2,_,n2,d2⟩,_⟩:=I.tuple s2
           unfold kas_ask
           rw [show its.getD i Value.none = .ref a1 from ri,show its.getD j Value.none = .ref a2 from rj]
           cases q:ltT di dj with
           | none=>simp only [ltD,q] at cm; cases cm
           | some b=>
            refine kat_lt (hk _ _ g1) d1 (hk _ _ g2) d2 (Zml (r:=b) ?_ di dj w1 w2 i1 i2 0 _ e1 e2 v1 v2 ?_ (fun _ d hd=>?_) q)
            ·have:=hC _ ⟨t,rfl⟩
             simp only [ltD,q] at this
             cases b <;> simpa using this
            ·rw [List.size_toArray,List.size_toArray,← v1.length,← v2.length,e1.length,e2.length]
            ·cases di with
             | nil=>cases hd
             | cons d' r'=>cases hd; cases d <;> simp [Zdf,Zft] at ki ⊢
          | _=>simp [Zdf] at kj
         | _=>simp [Zdf] at ki
       ·refine ZjG (κ:=oneType') ltok pl.isList (by rw [lx]; exact ok.len) (fun h2 h' Q' s' hk hs' hq=>?_) (fun h2 h' i j C s' hk hi hj hs' hC=>?_) fun out p t h' a' hp hu ho hk ha' he=>fin out p t h' a' hp hu ho hk ha' he
        ·obtain ⟨t,rfl⟩:=hs'
         refine kas_kind (T:=.type "int") h2 (fun v hv=>?_) (by decide) (by decide) (hq _ ⟨t,rfl⟩)
         obtain ⟨i,hi,rfl⟩:=List.getElem_of_mem hv
         have hxi:x[i]? = some x[i]:=by rw [List.getElem?_eq_getElem]
         obtain ⟨vi,ri,qi,_⟩:=ZdY rv rr hxi
         have ki:=List.all_eq_true.mp kd _ (List.getElem_mem (show i < x.length by exact lC 2 2203874037777 T1 hi lx))
         have gi:its.getD i Value.none = its[i]:=by simp [hi]
         rw [gi] at ri
         generalize x[i] = di at *
         cases di with
         | int k=>
          have:=qi.int_inv
          subst this
          obtain ⟨tk,e⟩:=ri
          rw [e]
          exact Looks.now
         | _=>simp [Zft] at ki
        ·obtain ⟨t,rfl⟩:=hs'
         have hxi:x[i]? = some x[i]:=by rw [List.getElem?_eq_getElem]
         have hxj:x[j]? = some x[j]:=by rw [List.getElem?_eq_getElem]
         obtain ⟨vi,ri,qi,_⟩:=ZdY rv rr hxi
         obtain ⟨vj,rj,qj,_⟩:=ZdY rv rr hxj
         have ki:=List.all_eq_true.mp kd _ (List.getElem_mem (show i < x.length by exact lC 2 2203874037777 T1 hi lx))
         have kj:=List.all_eq_true.mp kd _ (List.getElem_mem (show j < x.length by exact lC 2 2203874037777 T1 hj lx))
         have gi:x.getD i d0 = x[i]:=by simp [show i < x.length by exact lC 2 2203874037777 T1 hi lx]
         have gj:x.getD j d0 = x[j]:=by simp [show j < x.length by exact lC 2 2203874037777 T1 hj lx]
         simp only [gi,gj] at hC
         generalize x[i] = di at *
         generalize x[j] = dj at *
         cases di with
         | int p=>
          cases dj with
          | int q=>
           have:=qi.int_inv; subst this
           have:=qj.int_inv; subst this
           obtain ⟨t1,e1⟩:=ri
           obtain ⟨t2,e2⟩:=rj
           unfold kas_ask
           rw [e1,e2,keyLt'_oneType]
           refine oneLt_int ?_
           have:=hC _ ⟨t,rfl⟩
           simpa [ltD] using this
          | _=>simp [Zft] at kj
         | _=>simp [Zft] at ki
      ·exact h.elim
   | _=>exact h.elim
end
end L3
namespace L3
open PySem PySem.Spec PyProof.Rows L2
section
variable {X:Cx} {a b c e o:Expr} {es:List Expr} {pos p apos cpos:Pos} {f g h:E3} {gl:EL3}
theorem ZrR:Zbd X (.type "int") (rB X.K ZrT):=Zbd.imp ZlF fun xs H Q zz1=>by
 obtain ⟨ι,M,ds,S,rd,h⟩:=zz1
 cases ds with
 | nil=>exact h.elim
 | cons d ds=>
  cases ds with
  | cons _ _=>cases d <;> exact h.elim
  | nil=>
   obtain ⟨x,rfl,r⟩:=Zep rd
   cases d with
   | int i=>exact .inl ⟨i,by rw [r.int_inv],Zam.ok h S Rep.int⟩
   | bl k=>exact .inr ⟨k,by rw [r.bl_inv],Zam.ok h S Rep.int⟩
   | _=>exact h.elim
theorem ZqL {K:PySem.W.Frag} {H:Hp} {ι:List Addr} {M:Store} (S:Zat K H ι M) {n:Nat} {a:Addr} (h:(ZdI M[n]?).isSome = true) (ha:ι[n]? = some a):IsD H a:=by
 cases hn:ZdI M[n]? with
 | none=>rw [hn] at h; cases h
 | some kvs=>
  obtain ⟨ws,hw,_⟩:=Zj0 S hn ha
  exact .inl ⟨ws,hw⟩
theorem Zm5 {K:PySem.W.Frag} {H:Hp} {ι:List Addr} {kvs:List (Zbe × D)} {ws:List (Key × V)} {d:D} {z:V} (kr:KvR K H ι kvs ws) (k:Zbe) (rd:Rep K H ι d z):Rep K H ι ((Zcv kvs k).getD d) ((Ze2 ws (dk k)).getD z):=by
 have hv:=kr.val k
 cases q:Zcv kvs k with
 | none=>rw [q] at hv; rw [hv]; exact rd
 | some w=>
  rw [q] at hv
  obtain ⟨v,ev,rv⟩:=hv
  rw [ev]; exact rv
theorem Zkb {e':Expr} (hu:X.A.units + 80 < cLine) (ho:C3 X o f) (he:C3 X e g) (he':C3 X e' h) (m:M2 X o "get" apos e e' cpos:=by exact ⟨rfl,rfl,rfl,rfl⟩):C3 X (.Call (.Attribute o "get" apos) [e,e'] [] cpos) (Zbl Zgs ZgL f (Za g (Za h Zh))):=(Zm1 (hu1 hu) ho he he' m).imp fun σ H Q zz1=>by
 obtain ⟨ι,M,env,S,E,hh⟩:=zz1
 obtain ⟨d,M1,e1,hh⟩:=Zam.bind hh
 refine ⟨ι,M,env,S,E,?_⟩
 rw [e1]
 intro x H1 ι1 x1 S1 r1
 cases d with
 | ref n=>
  by_cases hD:(ZdI M1[n]?).isSome = true
  ·simp only [Zgs,hD,if_true] at hh
   obtain ⟨ad,ha,rfl⟩:=r1.ref_inv
   obtain ⟨ds,M2,e2,hh⟩:=Zam.bind hh
   refine ⟨ad,rfl,ZqL S1 hD ha,ι1,M1,env,S1,E.mono x1,?_⟩
   cases q:g env M1 with
   | bad=>simp [q] at e2
   | exc x' M'=>simp [q] at e2
   | ok b M2'=>
    cases q':h env M2' with
    | bad=>simp [q,q'] at e2
    | exc x' M'=>simp [q,q'] at e2
    | ok b' M3'=>
     simp only [Za,q,q',R3.bind,Zh] at e2
     cases e2
     intro y H2 ι2 x2 S2 r2
     refine ⟨ι2,M2',env,S2,(E.mono x1).mono x2,?_⟩
     rw [q']
     intro z H3 ι3 x3 S3 r3
     simp only [ZgL] at hh
     cases hn:ZdI M2[n]? with
     | none=>simp only [hn] at hh; exact hh.elim
     | some kvs=>
      cases hk:ZfS b with
      | none=>simp only [hn,hk] at hh; exact hh.elim
      | some kk=>
       simp only [hn,hk] at hh
       obtain ⟨ws,hw,kr⟩:=Zj0 S3 hn (x3.pre _ _ (x2.pre _ _ ha))
       refine ⟨Ze2 ws (dk kk),.inl ⟨ws,dk kk,hw,ZkY hk r2,rfl⟩,hh _ H3 ι3 ((x1.trans x2).trans x3) S3 (Zm5 kr kk r3)⟩
  ·simp only [Zgs,hD] at hh; exact hh.elim
 | _=>exact hh.elim
end
section
variable {X:Cx} {pins:List (Addr × Obj)} {σ:St} {H:Hp} {s:Shared} {d:Addr} {ws:List (Key × V)} {ob:Obj}
end
section
variable {X:Cx} {tg e elt:Expr} {ifs:List Expr} {pos:Pos} {f fe:E3} {ts:List E3} {g:G3} {scope:Scope} {N':List Str} {own:Nat}
end
end L3
namespace L3
open PySem PySem.Spec PyProof.Rows L2
section
variable {prog:Program} {w:World} {A:Around} {E:Value → Shared → Prop} {s:Shared}
theorem Zly:typeLookup (.type "tuple") (Str.ofString "keys") = pure none:=by rw [typeLookup_type,builtinLookup_eq_fast]; kernel_rfl
set_option maxRecDepth 8000 in
theorem ZjP {a:Addr} {o:Obj} {xs:Array Value} {k:Nat} {Q:Option Value → Shared → Prop} (hx:s.heap.get? a = some o) (hc:o.cls = .type "tuple") (hdat:o.data = .seq xs k) (hd:o.dict = none) (hA:A.handled = none)
  (h:∀ h' tk,(∀ b u,s.heap.get? b = some u → h'.get? b = some u) → Q none { s with heap:=h',toks:=tk }):wpAny (model prog w) A (getAttr? (.ref a) (Str.ofString "keys")) Q E s:=by
 obtain ⟨c,dct,dat,sl⟩:=o
 simp only at hc hdat hd
 subst hc hdat hd
 obtain ⟨hp,g,d,tk,os⟩:=s
 have hT:∀ tk',(⟨hp,g,d,tk',os⟩:Shared).TypeIs (.ref a) "tuple":=fun _=>⟨_,hx,rfl⟩
 have f1:=sub_AttributeError; have f3:=F.slot_tuple_getattribute.lookup; have f4:=F.slot_tuple_getattribute.bind (.ref a); have f5:=am_tuple_getattr_none
 unfold getAttr? getAttrBy? getAttrBy
 repeat (any_goals (first | assumption | exact hT _ | ((with_reducible show wpAny _ _ (call (Value.builtin "tuple.__getattribute__") _ _) _ _ _); refine call_meets F.slot_tuple_getattribute (hT _) am_entry_tuple_getattribute (F.args_tuple_getattribute_2 _ _) (meets_getattribute_miss_tuple a xs k sl _ _ Zly (by decide) (by rw [sizeLine_eq]; decide)) ⟨hx,hA,fun h' tk' e hx'=>?_⟩) | wp_step))
 obtain ⟨t',u',he⟩:=hx'.there
 show wpAny _ _ (getattributeRaised _ _ _ _ _ _ _) _ _ _
 unfold getattributeRaised
 repeat (any_goals (first | assumption | wp_step))
 all_goals exact h _ _ hx'.of.keeps
theorem ZeF:entryFor table "dict.update.loop" = some Builtin.«dict.update.loop»:=entryFor_of_tree (by kernel_rfl)
theorem ZcF:plainId "dict.update.loop" = true:=by decide +kernel
noncomputable def ZkA (prog:Program) (w:World) (h:Heap) (v:Value) (q:Key × Value):Prop:=∃ a o key n,v = .ref a ∧ h.get? a = some o ∧ o.cls = .type "tuple" ∧ o.data = .seq #[key,q.2] n ∧ (ZaV prog w).is q.1 key = true
theorem Zmb {d I ax:Addr} {items:Array Value} {ps:List (Key × Value)} {res:Value} (hh:A.in1.handled = none) (hne:ax ≠ I) (hdI:d ≠ I) (hda:d ≠ ax) (hl:ps.length = items.size) (hz:ps.length ≤ 100000):
  ∀ (k i:Nat) (s:Shared) (kvs:List (Key × Value)) {R:Result → Shared → Prop},items.size - i = k → i ≤ items.size → s.heap.IsTupleIter I ax i → s.heap.IsTuple ax items → s.heap.DictOf (ZaV prog w) d kvs → kvs.length ≤ i →
   (∀ (j:Nat) v q,items[j]? = some v → ps[j]? = some q → ZkA prog w s.heap v q ∧ v ≠ .ref d ∧ v ≠ .ref I) →
   (∀ h' tk,h'.DictOf (ZaV prog w) d (merged kvs (ps.drop i)) → (∀ b o,b ≠ d → b ≠ I → s.heap.get? b = some o → h'.get? b = some o) → R (.ok (.ret res)) { s with heap:=h',toks:=tk }) →
   codeAny (model prog w) A (.builtin "dict.update.loop" ⟨[.ref d,.ref I,rawInt i,res],[]⟩) R s:=by
 have W:=Walks.tuple (prog:=prog) (w:=w) hh I ax hne items
 intro k
 induction k with
 | zero=>
  intro i s kvs R hk hi st tup dd hkl hp hR
  have hin:i = items.size:=Nat.le_antisymm hi (lC 2 580682816544801 T1 hk (sbA _ _))
  subst hin
  refine codeAny_builtin ZeF ?_
  rw [Around.under_plainId ZcF _]
  show wpAny _ A.in1 (pyNext (.ref I) >>= _) _ _ s
  refine wpAny_bind (W.done s _ _ ⟨st,tup⟩ fun h' tk kk=>?_)
  show wpAny _ A.in1 (Builtin.Dict.addKeywords d [] >>= _) _ _ _
  refine wpAny_bind (wpAny_pure (wpAny_pure (hR h' tk ?_ fun b o hb hI e=>kk b o (by simpa using hI) e)))
  rw [List.drop_of_length_le (Nat.le_of_eq hl)]
  obtain ⟨o,es,ep,ho,r⟩:=dd
  exact ⟨o,es,ep,kk d o (by simpa using hdI) ho,r⟩
 | succ k ih=>
  intro i s kvs R hk hi st tup dd hkl hp hR
  have hlt:i < items.size:=lD 2 0x321320c21a1c031 T1 hk (Nat.sub_add_cancel hi)
  have hv:items[i]? = some items[i]:=by simp [hlt]
  have hq:ps[i]? = some (ps[i]'(by omega)):=by simp [show i < ps.length by omega]
  refine codeAny_builtin ZeF ?_
  rw [Around.under_plainId ZcF _]
  show wpAny _ A.in1 (pyNext (.ref I) >>= _) _ _ s
  refine wpAny_bind (W.item i s _ _ hlt ⟨st,tup⟩ fun v h1 tk1 hP st1 kk1=>?_)
  rw [hv] at hP
  cases hP
  obtain ⟨⟨a,o,key,n,ev,ho,hc,hd,hkey⟩,nd,nI⟩:=hp i _ _ hv hq
  have haI:a ≠ I:=fun z=>nI (by rw [ev,z])
  have had:a ≠ d:=fun z=>nd (by rw [ev,z])
  have ho1:h1.get? a = some o:=kk1 a o (by simpa using haI) ho
  have dd1:h1.DictOf (ZaV prog w) d kvs:=by
   obtain ⟨o',es,ep,ho',r⟩:=dd
   exact ⟨o',es,ep,kk1 d o' (by simpa using hdI) ho',r⟩
  rw [ev]
  generalize ps[i]'(lC 2 2203623428113 T1 hlt hl) = q at hq hkey hd
  dsimp only
  refine wpAny_bind (wpAny_holding (wpAny_bind (wpAny_tryCatch ?_)))
  unfold Builtin.Dict.pairItems
  refine wpAny_bind (wpAny_typeOf (T:="tuple") ⟨o,ho1,hc⟩ ?_)
  rw [if_pos (by decide)]
  refine wpAny_bind ?_
  unfold seqItems?
  refine wpAny_bind (wpAny_load ho1 ?_)
  rw [hd]
  refine wpAny_pure (wpAny_pure ?_)
  show wpAny _ A.in1 (holding [key,q.2] (dictSet d key q.2)) _ _ _
  refine wpAny_holding (wpAny_dictSet_pairs hkey dd1 (fun h2 dd2 sb=>?_) (by rw [sizeLine_eq]; exact lD 4 0x10000007b201331186a05b30102011011 T1 hlt hkl hz hl))
  refine wpAny_pure ⟨plainId_quiet ZcF _,?_⟩
  show codeAny (model prog w) A (.builtin "dict.update.loop" ⟨[.ref d,.ref I,rawInt ((i:Int) + 1),res],[]⟩) R _
  have e1:((i:Int) + 1) = ((i + 1:Nat):Int):=rfl
  rw [e1]
  have k2:∀ b u,b ≠ d → b ≠ I → s.heap.get? b = some u → h2.get? b = some u:=fun b u hb hI e=>(sb.2 b hb).trans (kk1 b u (by simpa using hI) e)
  refine ih (i + 1) _ (stored kvs q.1 q.2) (Nat.le_antisymm (lE 3 0x12030c4014a3c2c21a1c021 T1 hk (Nat.sub_add_cancel (lB 1 6991908881 T1 hlt)) (sbA _ _)) (lE 3 0x310240c21a4c3c201a1c031 T1 hk (sbA _ _) (Nat.sub_add_cancel (Nat.le_of_lt hlt)))) hlt ?_ ?_ dd2 ?_ ?_ ?_
  ·obtain ⟨o',e',r⟩:=st1.1
   exact ⟨o',(sb.2 I (Ne.symm hdI)).trans e',r⟩
  ·obtain ⟨o',e',r⟩:=st1.2
   exact ⟨o',(sb.2 ax (Ne.symm hda)).trans e',r⟩
  ·have:=(show (stored kvs q.1 q.2).length ≤ kvs.length + 1 from by unfold stored; split <;> simp)
   exact lC 2 0xa2c002101a1c001 T1 this hkl
  ·intro j v q' hj hq'
   obtain ⟨⟨a',o',key',n',ev',ho',r⟩,nd',nI'⟩:=hp j v q' hj hq'
   exact ⟨⟨a',o',key',n',ev',k2 a' o' (fun z=>nd' (by rw [ev',z])) (fun z=>nI' (by rw [ev',z])) ho',r⟩,nd',nI'⟩
  ·intro h' tk dd' kk'
   refine hR h' tk ?_ fun b u hb hI e=>kk' b u hb hI (k2 b u hb hI e)
   have hq2:ps.drop i = q :: ps.drop (i + 1):=by rw [List.drop_eq_getElem_cons (by exact lC 2 2203623428113 T1 hlt hl)]; congr 1; rw [List.getElem?_eq_getElem (by exact lC 2 2203623428113 T1 hlt hl)] at hq; exact Option.some.inj hq
   rw [hq2]
   exact dd'
theorem ZkC {ax:Addr} {items:Array Value} {ps:List (Key × Value)} {Q:Value → Shared → Prop} (hA:A.handled = none) (ht:Zds s.heap ax items) (hl:ps.length = items.size) (hz:ps.length ≤ 100000)
  (hp:∀ (j:Nat) v q,items[j]? = some v → ps[j]? = some q → ZkA prog w s.heap v q)
  (h:∀ h' tk,h'.DictOf (ZaV prog w) s.heap.objs.size (merged [] ps) → (∀ b o,s.heap.get? b = some o → h'.get? b = some o) → Q (.ref s.heap.objs.size) { s with heap:=h',toks:=tk }):
  wpAny (model prog w) A (call (.type "dict") [.ref ax]) Q E s:=by
 obtain ⟨o,ho,⟨hc,hdn⟩,n,hdat⟩:=id ht
 have hlt:ax < s.heap.objs.size:=Heap.lt_size ho
 refine callType_codes (Q₁:=fun obj s₁=>obj = .ref s.heap.objs.size ∧ s₁ = { s with heap:=s.heap.push { cls:=.type "dict",data:=.dict #[] } }) F.kt_called_dict (F.kt_typeCall_dict_1 _) F.entry_dict_init (kt_code_dict_new _ ⟨rfl,rfl⟩) ?_
 rintro obj s₁ ⟨rfl,rfl⟩
 have hnew:(s.heap.push { cls:=.type "dict",data:=.dict #[] }).DictOf (ZaV prog w) s.heap.objs.size []:=Heap.DictOf.new s.heap
 have hk1:∀ b u,s.heap.get? b = some u → (s.heap.push { cls:=.type "dict",data:=.dict #[] }).get? b = some u:=fun b u q=>Heap.get?_push_of_some _ q
 refine ⟨hnew.typeIs,F.args_dict_init_2 _ _,?_⟩
 unfold Builtin.«dict.__init__»
 refine wpAny_bind ?_; unfold Builtin.Dict.selfAndRest
 refine wpAny_bind (wpAny_notOrdered_dict hnew.typeIs ?_); show wpAny _ _ (pure (s.heap.objs.size,[Value.ref ax])) _ _ _
 refine wpAny_pure ?_; show wpAny _ _ (Builtin.Dict.updateFrom "dict.__init__" s.heap.objs.size (.ref ax) [] .none) _ _ _
 unfold Builtin.Dict.updateFrom
 refine wpAny_bind (wpAny_typeOf (T:="tuple") ⟨o,hk1 _ _ ho,hc⟩ ?_)
 rw [if_pos (by decide)]
 refine wpAny_bind (ZjP (hk1 _ _ ho) hc hdat hdn hA fun h2 tk2 k2=>?_)
 simp only [Option.isNone_none,if_true]
 refine wpAny_bind (wpAny_rule ?_)
 have d2:h2.DictOf (ZaV prog w) s.heap.objs.size []:=by
  obtain ⟨o',es,ep,ho',r⟩:=hnew
  exact ⟨o',es,ep,k2 _ _ ho',r⟩
 have t2:h2.IsTuple ax items:=⟨o,k2 _ _ (hk1 _ _ ho),hc,n,hdat⟩
 have l2:s.heap.objs.size < h2.objs.size:=by obtain ⟨o',_,_,ho',_⟩:=d2; exact Heap.lt_size ho'
 refine wpAny_bind (wpAny_pyIter_tuple t2 ?_)
 have k3:∀ b u,h2.get? b = some u → (h2.push { cls:=.type "tuple_iterator",data:=.fields #[.ref ax,.int 0 0] }).get? b = some u:=fun b u q=>Heap.get?_push_of_some _ q
 have t3:(h2.push { cls:=.type "tuple_iterator",data:=.fields #[.ref ax,.int 0 0] }).IsTuple ax items:=by obtain ⟨o',e',r⟩:=t2; exact ⟨o',k3 _ _ e',r⟩
 have d3:(h2.push { cls:=.type "tuple_iterator",data:=.fields #[.ref ax,.int 0 0] }).DictOf (ZaV prog w) s.heap.objs.size []:=by obtain ⟨o',es,ep,ho',r⟩:=d2; exact ⟨o',es,ep,k3 _ _ ho',r⟩
 refine wpAny_pure ⟨plainId_quiet ZcF _,Zmb (prog:=prog) (w:=w) (A:=A.in1) (ax:=ax) (items:=items) (ps:=ps) hA (Nat.ne_of_lt (Nat.lt_trans hlt l2)) (Nat.ne_of_lt l2) (Nat.ne_of_gt hlt) hl hz items.size 0 _ [] (Nat.le_antisymm ((Nat.sub_le _ _)) (lB 1 4309762049 T1 (sbA _ _))) (Nat.zero_le _) ⟨_,Heap.get?_push_size _ rfl,rfl,rfl⟩ t3 d3 (Nat.zero_le _) (fun j v q hj hq=>?_) fun h' tk dd' kk'=>?_⟩
 ·obtain ⟨a,o',key,n',ev,ho',r⟩:=hp j v q hj hq
  have hla:a < s.heap.objs.size:=Heap.lt_size ho'
  refine ⟨⟨a,o',key,n',ev,k3 _ _ (k2 _ _ (hk1 _ _ ho')),r⟩,fun z=>?_,fun z=>?_⟩
  ·rw [ev] at z; injection z with z; exact absurd hla (by rw [z]; exact Nat.lt_irrefl _)
  ·rw [ev] at z; injection z with z; exact absurd (Nat.lt_trans hla l2) (by rw [z]; exact Nat.lt_irrefl _)
 ·refine ⟨rfl,h h' tk dd' fun b u q=>kk' b u (Nat.ne_of_lt (Heap.lt_size q)) (Nat.ne_of_lt (Nat.lt_trans (Heap.lt_size q) l2)) (k3 _ _ (k2 _ _ (hk1 _ _ q)))⟩
end
section
variable {X:Cx}
theorem pairs_at {pins:List (Addr × Obj)} {σ:St} {H:Hp} {s:Shared} {ι:List Addr} (I:Inv X pins σ H s):∀ {x:List D} {l:List (Zbe × D)} {vs:List V} {us:List Value},ZcO x = some l → Zab X.K H ι x vs → Vals vs us →
  ∃ (ws:List (Key × V)) (ps:List (Key × Value)),KvR X.K H ι l ws ∧ KV ws ps ∧ ps.length = us.length ∧ ∀ (j:Nat) v q,us[j]? = some v → ps[j]? = some q → ZkA X.prog X.w s.heap v q
 | [],l,vs,us,h,r,v=>by
  have e:=r.nil_inv; subst e; cases v
  have:l = []:=by simpa [ZcO] using h.symm
  subst this
  exact ⟨[],[],KvR.nil,.nil,rfl,fun j v q h=>by simp at h⟩
 | d :: x,l,vs,us,h,r,v=>by
  obtain ⟨u,vs',rfl,r1,r2⟩:=r.cons_inv
  cases v with
  | @cons _ z _ us' rz rzs=>
  cases d with
  | tup ds=>
   match ds,h,r1 with
   | [a,b],h,r1=>
    simp only [ZcO] at h
    cases hk:ZfS a with
    | none=>simp only [hk] at h; cases h
    | some kk=>
     simp only [hk] at h
     cases hx:ZcO x with
     | none=>rw [hx] at h; cases h
     | some l'=>
      rw [hx] at h
      have:l = (kk,b) :: l':=by simpa using h.symm
      subst this
      obtain ⟨ws,ps,kr,kv,lp,hp⟩:=pairs_at I hx r2 rzs
      obtain ⟨ad,xs,rfl,sq,rr⟩:=r1.tup_inv
      cases (show z = Value.ref ad from rz)
      obtain ⟨ya,ys,rfl,ra,rr⟩:=rr.cons_inv
      obtain ⟨yb,ys,rfl,rb,rr⟩:=rr.cons_inv
      have e:=rr.nil_inv; subst e
      obtain ⟨its,rv,⟨o,ho,hc,n,hd⟩,_⟩:=I.tuple sq
      cases rv with
      | @cons _ u1 _ _ q1 rv=>
      cases rv with
      | @cons _ u2 _ _ q2 rv=>
      cases rv
      refine ⟨(dk kk,yb) :: ws,(dk kk,u2) :: ps,KvR.cons rb kr,.cons ⟨rfl,q2⟩ kv,by simp [lp],fun j v q hj hq=>?_⟩
      cases j with
      | zero=>
       simp at hj hq
       subst hj hq
       exact ⟨ad,o,u1,n,rfl,ho,hc,hd,Zmy (by rw [← ZkY hk ra]; exact q1)⟩
      | succ j=>exact hp j v q (by simpa using hj) (by simpa using hq)
   | [],h,_=>simp [ZcO] at h
   | [_],h,_=>simp [ZcO] at h
   | _ :: _ :: _ :: _,h,_=>simp [ZcO] at h
  | _=>simp [ZcO] at h
theorem Zkn (hc:X.calm = true):Zbd X (.type "dict") (rB X.K Zc7):=by
 intro pins s σ H xs us Q I rs ⟨ι,M,ds,S,rd,h⟩
 cases ds with
 | nil=>exact h.elim
 | cons d ds=>
  cases ds with
  | cons _ _=>cases d <;> exact h.elim
  | nil=>
   obtain ⟨x,rfl,r⟩:=Zep rd
   obtain ⟨u,rfl,ru⟩:=vals1 rs
   cases d with
   | ref n=>
    cases hn:ZdI M[n]? with
    | none=>simp only [Zc7,hn] at h; exact h.elim
    | some kvs=>
     simp only [Zc7,hn] at h
     obtain ⟨a,ha,rfl⟩:=r.ref_inv
     cases ru
     obtain ⟨ws,hw,kr⟩:=Zj0 S hn ha
     refine ZnA I hw fun p s' hp I'=>⟨.ref p,_,I',rfl,?_⟩
     obtain ⟨x2,S2,r2⟩:=S.dct hp kr
     exact h _ _ _ x2 S2 r2
   | tup z=>
    simp only [Zc7] at h
    cases hp:ZcO z with
    | none=>rw [hp] at h; exact h.elim
    | some l=>
     rw [hp] at h
     dsimp only at h
     split at h
     ·rename_i hz
      obtain ⟨a,vs,rfl,sq,rr⟩:=r.tup_inv
      cases ru
      obtain ⟨its,rv,ht,_⟩:=I.tupleN sq
      obtain ⟨ws,ps,kr,kv,lp,hpp⟩:=pairs_at I hp rr rv
      have hl:ps.length = l.length:=by rw [← kv.length,kr.length]
      refine ZkC (ps:=ps) (I.ok.hd hc) ht (by simpa using lp) (by rw [hl]; exact hz) (fun j v q hj hq=>hpp j v q (by simpa using hj) hq) fun h' tk dd kk=>⟨.ref s.heap.objs.size,upd H s.heap.objs.size (.dK (Zhm [] ws)),?_,rfl,?_⟩
      ·have hm:=kv.merge (kvs:=[]) (vs:=[]) .nil
       refine I.laid kk (Nat.le_refl _) (Zmw ?_ (beq_eq_false_iff_ne.mpr (Ne.symm (Nat.ne_of_lt I.big))) hm dd)
       have h1:=Ze6 ws []
       rw [List.length_nil] at h1
       rw [sizeLine_eq]
       have:=kr.length
       exact lC 3 0x10000007b20186a05b1010ec2011021 T1 this h1 hz
      ·obtain ⟨x2,S2,r2⟩:=S.dct (I.hok.fresh (Nat.le_refl _)) (KvR.merge (kvs:=[]) (ws:=[]) kr KvR.nil)
       exact h _ _ _ x2 S2 r2
     ·exact h.elim
   | _=>exact h.elim
end
end L3
namespace L3
open PySem PySem.Spec PyProof.Rows L2
end L3
namespace L3
open PySem PySem.Spec PyProof.Rows L2
section
variable {X:Cx} {o e:Expr} {es:List Expr} {apos cpos:Pos} {f:E3} {gl:EL3}
end
end L3
namespace L3
open PySem PySem.Spec PyProof.Rows L2
section
variable {X:Cx} {a b c e o:Expr} {es:List Expr} {pos p apos cpos:Pos} {f g h:E3} {gl:EL3}
end
end L3
namespace L3
open PySem PySem.Spec PyProof.Rows L2
section
variable {X:Cx} {a b c e o:Expr} {es:List Expr} {pos p apos cpos:Pos} {f g h:E3} {gl:EL3}
theorem ZhP:Zbd X (.type "int") (fun xs H Q=>∃ x n,xs = [.str x] ∧ intText? x = some n ∧ x.length ≤ 640 ∧ Q (.int n) H):=by
 intro pins s σ H xs us Q I r h
 obtain ⟨x,n,rfl,hn,hz,q⟩:=h
 obtain ⟨u,rfl,t,rfl⟩:=vals1 r
 exact PySem.W.KIN.call_text hn hz ⟨.int n,H,I.tok _,⟨_,rfl⟩,q⟩
theorem ZpU:Zbd X (.type "int") (rB X.K Zmr):=Zbd.imp (Zbd.or ZrR ZhP) fun xs H Q zz1=>by
 obtain ⟨ι,M,ds,S,rd,h⟩:=zz1
 match ds,rd,h with
 | [.str x],rd,h=>
  obtain ⟨v,rfl,r⟩:=Zep rd
  simp only [Zmr] at h
  cases hn:PySem.intText? ⟨x.toArray⟩ with
  | none=>rw [hn] at h; exact h.elim
  | some n=>
   rw [hn] at h
   dsimp only at h
   split at h
   ·rename_i hz
    exact .inr ⟨_,n,by rw [r.str_inv],hn,by simpa [Str.length] using hz,Zam.ok h S Rep.int⟩
   ·exact h.elim
 | [],rd,h=>exact h.elim
 | [.int i],rd,h=>exact .inl ⟨ι,M,_,S,rd,h⟩
 | [.bl i],rd,h=>exact .inl ⟨ι,M,_,S,rd,h⟩
 | [.non],rd,h=>exact h.elim
 | [.tup _],rd,h=>exact h.elim
 | [.scr _],rd,h=>exact h.elim
 | [.ref _],rd,h=>exact h.elim
 | .str _ :: _ :: _,rd,h=>exact h.elim
 | .int _ :: _ :: _,rd,h=>exact h.elim
 | .bl _ :: _ :: _,rd,h=>exact h.elim
 | .non :: _ :: _,rd,h=>exact h.elim
 | .tup _ :: _ :: _,rd,h=>exact h.elim
 | .scr _ :: _ :: _,rd,h=>exact h.elim
 | .ref _ :: _ :: _,rd,h=>exact h.elim
end
end L3
namespace L3
open PySem PySem.Spec PyProof.Rows L2
section
variable {X:Cx} {a b c e o:Expr} {es:List Expr} {pos p p1 p2 p3 pt apos cpos:Pos} {f g h:E3} {gl:EL3}
theorem Zlj {pins:List (Addr × Obj)} {σ:St} {H:Hp} {s:Shared} {ι:List Addr} {M:Store} {d:D} {x:V} {u:Value} (I:Inv X pins σ H s) (S:Zat X.K H ι M) (r:Rep X.K H ι d x) (ru:RelV x u) (hd:ZdU .int d M ≠ none):
  ∃ (t:String) (Hc:Heap → Prop),PySem.W.KitX X.K u (.type t) Hc ∧ Hc s.heap ∧ u ≠ .builtin "__main__.__loader__#opaque" ∧ t ∈ ["NoneType","bool","int","str","list","tuple","dict"] ∧ ∀ T b,ZdU T d M = some b → b = (t == tyN T || (t == "bool" && tyN T == "int")):=by
 cases d with
 | non=>
  have:=r.non_inv; subst this
  cases (show u = Value.none from ru)
  exact ⟨"NoneType",_,PySem.W.kitx_none,True.intro,(fun z=>nomatch z),by simp,fun T b e=>by
   have hb:b = false:=by simpa [ZdU] using e.symm
   subst hb; cases T <;> rfl⟩
 | bl c=>
  have:=r.bl_inv; subst this
  cases (show u = Value.bool c from ru)
  exact ⟨"bool",_,PySem.W.kitx_bool,True.intro,(fun z=>nomatch z),by simp,fun T b e=>by
   have hb:b = (T == .bool || T == .int):=by simpa [ZdU] using e.symm
   subst hb; cases T <;> rfl⟩
 | int i=>
  have:=r.int_inv; subst this
  obtain ⟨t,q⟩:=(show ∃ t,u = Value.int i t from ru); cases q
  exact ⟨"int",_,PySem.W.kitx_int,True.intro,(fun z=>nomatch z),by simp,fun T b e=>by
   have hb:b = (T == .int):=by simpa [ZdU] using e.symm
   subst hb; cases T <;> rfl⟩
 | str z=>
  have:=r.str_inv; subst this
  obtain ⟨t,q⟩:=(show ∃ t,u = Value.str _ t from ru); cases q
  exact ⟨"str",_,PySem.W.kitx_str,True.intro,(fun z=>nomatch z),by simp,fun T b e=>by
   have hb:b = (T == .str):=by simpa [ZdU] using e.symm
   subst hb; cases T <;> rfl⟩
 | tup ds=>
  obtain ⟨a,vs,rfl,st,rr⟩:=r.tup_inv
  cases ru
  obtain ⟨its,_,pt,_⟩:=I.tuple st
  obtain ⟨o,h1,h2,_⟩:=pt
  exact ⟨"tuple",_,PySem.W.kitx_tuple,⟨o,h1,h2⟩,(fun z=>nomatch z),by simp,fun T b e=>by
   have hb:b = (T == .tuple):=by simpa [ZdU] using e.symm
   subst hb; cases T <;> rfl⟩
 | scr ds=>exact absurd (by simp [ZdU]) hd
 | ref n=>
  simp only [ZdU] at hd
  cases hn:M[n]? with
  | none=>exact absurd (by simp [hn]) hd
  | some o=>
   obtain ⟨a,ha,rfl⟩:=r.ref_inv
   cases o with
   | lst z=>
    obtain ⟨vs,ev,_⟩:=S.obj n _ a hn ha
    cases (show u = Value.ref a from ru)
    obtain ⟨_,_,n',_,h1⟩:=(show Zbj X.prog X.w H s.heap a (.lst vs) from I.hok a _ ev)
    exact ⟨"list",_,PySem.W.kitx_list,⟨_,h1,rfl⟩,(fun z=>nomatch z),by simp,fun T b e=>by
     have hb:b = (T == .list):=by simpa [ZdU,hn] using e.symm
     subst hb; cases T <;> rfl⟩
   | dct z=>
    obtain ⟨vs,ev,_⟩:=S.obj n _ a hn ha
    cases (show u = Value.ref a from ru)
    obtain ⟨_,_,vs',_,q⟩:=(show Zbj X.prog X.w H s.heap a (.dK vs) from I.hok a _ ev)
    obtain ⟨o,es,ep,h1,h2,_⟩:=q
    exact ⟨"dict",_,PySem.W.kitx_dict,⟨o,h1,h2.1⟩,(fun z=>nomatch z),by simp,fun T b e=>by
     have hb:b = false:=by simpa [ZdU,hn] using e.symm
     subst hb; cases T <;> rfl⟩
   | fdct z=>exact absurd (by simp [hn]) hd
   | ins _ _=>exact absurd (by simp [hn]) hd
end
end L3
namespace L3
open PySem PySem.Spec PyProof.Rows L2
section
variable {X:Cx} {tg e:Expr} {pos:Pos} {f:E3} {g:G3}
theorem ZjV (he:C3 X e f) (hg:CG X tg g) (hs:swapsWithSole [tg] e pos.line X.env = pure false:=by rfl) (hw:swappedStores [tg] e X.env = pure none:=by rfl)
  (h1:(assignEach [tg] X.env).map (·.2) = [assign tg X.env]:=by rfl):CS X (.Assign [tg] e pos) (ZgJ f g):=(Zmz he hg hs hw h1).imp fun D σ H zz1=>by
 obtain ⟨ι,M,env,S,E,h⟩:=zz1
 refine ⟨ι,M,env,S,E,?_⟩
 unfold ZgJ at h
 cases q:f env M with
 | ok d M1=>
  rw [q] at h
  cases qg:g d env with
  | none=>simp only [qg] at h; exact h.elim
  | some env1=>
   simp only [qg] at h
   exact fun v H1 ι1 x1 S1 r1=>⟨ι1,M1,env,d,env1,S1,E.mono x1,r1,qg,fun σ' E'=>h σ' H1 ι1 x1 S1 E'⟩
 | exc x M1=>rw [q] at h; exact h.elim
 | bad=>rw [q] at h; exact h.elim
end
section
variable {X:Cx} {tg e elt:Expr} {ifs:List Expr} {pos:Pos} {f fe:E3} {ts:List E3} {g:G3} {scope:Scope} {N':List Str} {own:Nat}
end
noncomputable def Zr0 (K:PySem.W.Frag) (H:Hp) (ι:List Addr) (it:ItL) (J:It):Prop:=∀ (i:Nat) H2 ι2 M2,Ext K H ι H2 ι2 → Zat K H2 ι2 M2 → Zdg it.lk M2 = true →
 (∀ d,it.items[i]? = some d → J.go i H2 ∧ ∀ x H3,J.yld i H2 x H3 → Ext K H2 ι2 H3 ι2 ∧ Zat K H3 ι2 M2 ∧ Rep K H3 ι2 d x) ∧ (i = it.items.length → J.stop i H2)
noncomputable def Zja (K:PySem.W.Frag) (H:Hp) (ι:List Addr) (R:It → Hp → Prop) (r:R3 ItL):Prop:=match r with
 | .ok it M'=>∀ J H' ι',Ext K H ι H' ι' → Zat K H' ι' M' → Zr0 K H' ι' it J → R J H'
 | _=>False
noncomputable def tIL (K:PySem.W.Frag) (g:IL3):TI:=fun σ H R=>∃ ι M env,Zat K H ι M ∧ ZbF K H ι env σ ∧ Zja K H ι R (g env M)
noncomputable def CIL (X:Cx) (tg e:Expr) (g:IL3):Prop:=PI X tg e (tIL X.K g)
theorem Zja.bind {K:PySem.W.Frag} {H:Hp} {ι:List Addr} {α:Type} {Q:It → Hp → Prop} {r:R3 α} {k:α → Store → R3 ItL} (h:Zja K H ι Q (r.bind k)):∃ a M,r = .ok a M ∧ Zja K H ι Q (k a M):=by
 cases r with
 | ok a M=>exact ⟨a,M,rfl,h⟩
 | exc x M=>exact h.elim
 | bad=>exact h.elim
section
variable {X:Cx} {tg:Expr} {pos:Pos}
theorem ZoN {iter:Expr} {body:List Stmt} {i:IL3} {g:G3} {u:S3} (hxe:X.xe = fun _ _=>False) (hc:X.calm = true) (hi:CIL X tg iter i) (hg:CG X tg g) (hb:CSs X body u) (hs:∀ x,foldedSetIterable iter X.env x = pure x:=by intro _; rfl):
  CS X (.For tg iter body [] pos) (ZkU i g u):=(Zmt (by rw [hxe]; exact PassesOwn.never) hc hi hg hb hs).imp fun D σ H zz1=>by
 obtain ⟨ι,M,env,S,E,h⟩:=zz1
 unfold ZkU at h
 cases q:i env M with
 | exc x M1=>rw [q] at h; exact h.elim
 | bad=>rw [q] at h; exact h.elim
 | ok it M1=>
  rw [q] at h
  refine ⟨ι,M,env,S,E,?_⟩
  rw [q]
  intro J H1 ι1 x1 S1 ok
  refine ⟨fun i m σ2 H2=>m = it.items.length - i ∧ i ≤ it.items.length ∧ ∃ ι2 M2 env2,Ext X.K H1 ι1 H2 ι2 ∧ Zat X.K H2 ι2 M2 ∧ ZbF X.K H2 ι2 env2 σ2 ∧ Ze1 X.K H2 ι2 D (Zfc it.lk g u (it.items.drop i) env2 M2),
   ⟨_,rfl,Nat.zero_le _,ι1,M1,env,Ext.refl,S1,E.mono x1,Ze1.up x1 h⟩,?_⟩
  rintro i m σ2 H2 ⟨rfl,hi,ι2,M2,env2,x2,S2,E2,h2⟩
  by_cases hlt:i < it.items.length
  ·have hd:it.items[i]? = some it.items[i]:=by simp [hlt]
   rw [List.drop_eq_getElem_cons hlt] at h2
   unfold Zfc at h2
   by_cases lk:Zdg it.lk M2 = true
   ·rw [if_pos lk] at h2
    obtain ⟨go,yl⟩:=(ok i H2 ι2 M2 x2 S2 lk).1 _ hd
    cases eg:g it.items[i] env2 with
    | none=>rw [eg] at h2; exact h2.elim
    | some env3=>
     rw [eg] at h2
     refine .inr ⟨go,fun σ' H'=>∃ ι3 M3 env4,Ext X.K H2 ι2 H' ι3 ∧ Zat X.K H' ι3 M3 ∧ ZbF X.K H' ι3 env4 σ' ∧ Ze1 X.K H' ι3 D (Zfc it.lk g u (it.items.drop (i + 1)) env4 M3),
      fun σ' H' ⟨ι3,M3,env4,x3,S3,E3,h3⟩=>⟨it.items.length - (i + 1),lD 2 0x30113c2012a1c0c21 T1 (Nat.sub_add_cancel (lB 1 6991908881 T1 hlt)) (sbA _ _),rfl,hlt,ι3,M3,env4,x2.trans x3,S3,E3,h3⟩,fun x H' hy=>?_⟩
     obtain ⟨x7,S7,rx⟩:=yl x H' hy
     refine ⟨ι2,M2,env2,_,env3,S7,E2.mono x7,rx,eg,fun σ' E'=>⟨ι2,M2,env3,S7,E',?_⟩⟩
     have h2':=Ze1.up x7 h2
     cases qu:u env3 M2 with
     | nx e' M'=>simp only [qu] at h2'; exact fun σ' H' ι' x' S' E'=>⟨ι',M',e',x7.trans x',S',E',h2'.up x'⟩
     | ct e' M'=>simp only [qu] at h2'; exact fun σ' H' ι' x' S' E'=>⟨ι',M',e',x7.trans x',S',E',h2'.up x'⟩
     | bk e' M'=>simp only [qu] at h2'; exact h2'
     | rt d M'=>simp only [qu] at h2'; exact h2'
     | exc x' M'=>simp only [qu] at h2'; exact h2'.elim
     | bad=>simp only [qu] at h2'; exact h2'.elim
   ·rw [if_neg lk] at h2; exact h2.elim
  ·have e0:i = it.items.length:=Nat.le_antisymm hi (Nat.le_of_not_lt hlt)
   subst e0
   rw [List.drop_length] at h2
   unfold Zfc at h2
   by_cases lk:Zdg it.lk M2 = true
   ·rw [if_pos lk] at h2
    exact .inl ⟨(ok _ H2 ι2 M2 x2 S2 lk).2 rfl,h2 σ2 H2 ι2 Ext.refl S2 E2⟩
   ·rw [if_neg lk] at h2; exact h2.elim
end
theorem _root_.L2.Inv.turnedL {X:Cx} {pins:List (Addr × Obj)} {σ:St} {H:Hp} {s:Shared} {h':Heap} {t':Nat} {fp:List Addr} (I:Inv X pins σ H s) (k:∀ b o,b ∉ fp → s.heap.get? b = some o → h'.get? b = some o) (hf:∀ b ∈ fp,ZfP X pins H b):
  Inv X pins σ H { s with heap:=h',toks:=t' }:=by
 have nit:∀ b u,H b = some u → b ∉ fp:=fun b u e z=>by rw [(hf b z).1] at e; cases e
 refine I.step (g':=s.gens) (d':=s.drawn) (ch:=fp) (fun b hb=>⟨(hf b hb).2.2.2.1,(hf b hb).2.1,(hf b hb).2.2.2.2.1,(hf b hb).2.2.2.2.2⟩) (fun b o _ _ hc e _=>k b o hc e) (fun b o _ _ hc e _=>⟨o.slots,k b o hc e⟩) (fun _ _ _ _ n=>n)
  (fun b o hc e=>⟨o,k b o hc e⟩) (fun _ _ e=>e) (fun _ _ _ e=>e) (fun b ps e=>⟨#[],by rw [e]; simp⟩) (fun m hm=>?_) (fun b u e=>?_) I.bare
 ·obtain ⟨o,es,ep,ho,r⟩:=hm
  exact ⟨o,es,ep,k _ o (fun z=>(hf _ z).2.1 rfl) ho,r⟩
 ·refine (I.hok b u e).stay (fun c v hc q=>k c v ?_ q) (fun _ q=>q) fun _ _ q=>q
  rcases hc with z | z
  ·rw [z]; exact nit b u e
  ·exact nit c _ z
noncomputable def Ite (S:Hp → List V → Prop):It:=⟨fun i H=>∃ xs x,S H xs ∧ xs[i]? = some x,fun i H x H'=>∃ T y,x = .ref T ∧ H T = none ∧ H' = upd H T (.tup [.int i,y]) ∧ ∀ xs,S H xs → xs[i]? = some y,fun i H=>∃ xs,S H xs ∧ xs.length ≤ i⟩
theorem Zik {X:Cx} {pins:List (Addr × Obj)} {σ:St} {H:Hp} {s:Shared} {h' h'':Heap} {e it:Addr} {i:Nat} {x:V} {u:Value} {tk tk':Nat} (I:Inv X pins σ H s) (hf:∀ b ∈ [e,it],ZfP X pins H b) (he:e < s.heap.objs.size) (hi:it < s.heap.objs.size) (ru:RelV x u)
  (hT:h'.get? s.heap.objs.size = some { cls:=.type "tuple",data:=.seq #[.int i tk,u] }) (hk:∀ b o,b ≠ e → b ≠ it → s.heap.get? b = some o → h'.get? b = some o) (hs:Heap.SameBut e h' h''):
  Inv X pins σ (upd H s.heap.objs.size (.tup [.int i,x])) { s with heap:=h'',toks:=tk' } ∧ ∀ b ∈ [e,it],upd H s.heap.objs.size (.tup [.int i,x]) b = none:=by
 have hn:∀ b ∈ [e,it],upd H s.heap.objs.size (.tup [.int i,x]) b = none:=fun b hb=>by
  have:b ≠ s.heap.objs.size:=by
   simp only [List.mem_cons,List.not_mem_nil,or_false] at hb
   rcases hb with rfl | rfl
   ·exact Nat.ne_of_lt he
   ·exact Nat.ne_of_lt hi
  rw [ZaX this]; exact (hf b hb).1
 refine ⟨?_,hn⟩
 have I1:Inv X pins σ (upd H s.heap.objs.size (.tup [.int i,x])) { s with heap:=s.heap.push { cls:=.type "tuple",data:=.seq ([.int i tk,u]:List Value).toArray },toks:=s.toks }:=
  I.laid (t':=s.toks) (fun b o e=>Heap.get?_push_of_some _ e) (Nat.le_refl _) (show Zbj X.prog X.w _ _ _ (.tup [.int i,x]) from ⟨by rw [sizeLine_eq]; show 2 ≤ _; decide,[.int i tk,u],.cons ⟨tk,rfl⟩ (.cons ru .nil),Zds.new _ _⟩)
 have I3:=I1.turnedL (t':=tk') (h':=h'') (fp:=[e,it]) (fun b o hb q=>by
  have hbe:b ≠ e:=fun z=>hb (by simp [z])
  have hbi:b ≠ it:=fun z=>hb (by simp [z])
  rcases Heap.get?_push_cases q with ⟨rfl,rfl⟩ | q
  ·exact (hs.2 _ (Nat.ne_of_gt he)).trans hT
  ·exact (hs.2 _ hbe).trans (hk b o hbe hbi q)) fun b hb=>⟨hn b hb,(hf b hb).2⟩
 exact I3
theorem Zkl {P:Program} {w:World} {K:PySem.W.Frag} {es:List Expr} {k:Nat} {pos:Pos} (a e it:Addr) (hne:e ≠ it):
  Turn P w K (.Tuple es k pos) (Ite fun H xs=>SqL K H a xs) [e,it] e (fun i h=>(∃ old,IsEnum h e it i old) ∧ h.IsListIter it a i) where
 mem:=by simp
 obj:=fun i h st b hb=>by
  obtain ⟨⟨old,he⟩,o,ho,c,d⟩:=st
  simp only [List.mem_cons,List.not_mem_nil,or_false] at hb
  rcases hb with rfl | rfl
  ·exact ⟨_,he,fun v z=>by cases z⟩
  ·exact ⟨o,ho,fun v z=>by rw [d] at z; cases z⟩
 keep:=fun i h h' st k=>by
  obtain ⟨⟨old,he⟩,hit⟩:=st
  exact ⟨⟨old,k e (by simp) _ he⟩,hit.at fun o q=>k it (by simp) o q⟩
 item:=by
  intro X hP hw hK hc i pins s σ H E I hf st hg
  subst hP hw hK
  obtain ⟨xs,x,hq,hx⟩:=hg
  obtain ⟨its,rv,p,hz⟩:=I.list hq
  obtain ⟨u,hu,ru⟩:=rv.get hx
  obtain ⟨⟨old,he⟩,hit⟩:=st
  have hel:=Heap.lt_size he
  have hil:it < s.heap.objs.size:=by obtain ⟨o,ho,_⟩:=id hit; exact Heap.lt_size ho
  refine wpAny_pyNext_enum_item he hit p.isList (x:=u) (by simpa using hu) hne fun h' ho hit' hT hsz hk=>?_
  refine ⟨_,rfl,wpAny_letOwnedTupleGo_enum (s:={ s with heap:=h',toks:=s.toks + 1 }) ho fun h'' he'' hs''=>?_⟩
  obtain ⟨I2,n2⟩:=Zik (x:=x) (tk':=s.toks + 1) I hf hel hil ru hT hk hs''
  exact ⟨.ref s.heap.objs.size,_,I2,rfl,⟨_,x,rfl,I.hok.fresh (Nat.le_refl _),rfl,fun ys hy=>by rw [I.list_inj hy hq]; exact hx⟩,⟨⟨_,by simpa using he''⟩,hit'.extBut hs''.extBut (Ne.symm hne)⟩,n2⟩
 done:=by
  intro X hP hw hK hc i pins s σ H E I hf st hg
  subst hP hw hK
  obtain ⟨xs,hq,hx⟩:=hg
  obtain ⟨its,rv,p,hz⟩:=I.list hq
  obtain ⟨⟨old,he⟩,hit⟩:=st
  have hl:=rv.length
  exact wpAny_pyNext_enum_end (I.ok.hd hc) he hit p.isList (by simp; exact lC 2 2268279672881 T1 hl hx) fun h' eb=>⟨rfl,I.turnedL (t':=s.toks) (fun b o hb q=>eb b o (fun z=>hb (by simp [z])) q) hf⟩
 self:=fun _ _ _ _ _ st h=>by
  obtain ⟨⟨old,he⟩,_⟩:=st
  exact wpAny_pyIter_enum he h
theorem boot_enumerate:bootBuiltins "enumerate" = some (.type "enumerate"):=by decide +kernel
end L3
namespace L3
open PySem PySem.Spec PyProof.Rows L2
open AutoSeq1 (wpAny_loadPart')
set_option maxRecDepth 100000
section
variable {prog:Program} {w:World} {A:Around} {E:Value → Shared → Prop} {s:Shared}
theorem ZfI {it t:Addr} {i:Nat} {items:Array Value} {x:Value} {Q:Value → Shared → Prop} (hit:s.heap.IsTupleIter it t i) (ht:s.heap.IsTuple t items) (hx:items[i]? = some x)
  (hQ:∀ h',h'.IsTupleIter it t (i + 1) → Heap.SameBut it s.heap h' → Q x { s with heap:=h' }):wpAny (model prog w) A (Builtin.SmallTypes.nextOf (.ref it)) Q E s:=by
 obtain ⟨o,ho,hc,hd⟩:=id hit
 obtain ⟨ol,hol,_,nl,hdl⟩:=ht
 unfold Builtin.SmallTypes.nextOf
 refine wpAny_bind (wpAny_callSpecial?_slot (name:=Str.ofString "__next__") hit.typeIs slot_tupleiter_next
  (wpAny_call_entry slot_tupleiter_next hit.typeIs entry_tupleiter_next ?_ (args_tupleiter_next _)))
 show wpAny _ _ (field (.ref it) 0 >>= _) _ _ s
 refine wpAny_bind (wpAny_field ho hd (x:=.ref t) rfl ?_)
 show wpAny _ _ (if (Value.ref t == Value.none) = true then _ else _) _ _ s
 rw [if_neg (show ¬ ((Value.ref t == Value.none) = true) from Bool.false_ne_true)]
 show wpAny _ _ (field (.ref it) 1 >>= _) _ _ s
 refine wpAny_bind (wpAny_field ho hd (x:=.int i 0) rfl ?_)
 show wpAny _ _ (seqItems? (.ref t) >>= _) _ _ s
 refine wpAny_bind (wpAny_seqItems hol hdl ?_)
 simp only [Int.toNat_natCast,hx]
 refine wpAny_bind (wpAny_setField ho hd (by simp) (wpAny_pure ⟨x,rfl,wpAny_pure (hQ _ ?_ (Heap.SameBut.update ..))⟩))
 exact ⟨_,Heap.get?_update_self _ ho (Obj.isFreed_of_fields (Obj.data_mapFields hd _)),(Obj.cls_mapFields ..).trans hc,by
  rw [Obj.data_mapFields hd]; simp [rawInt]⟩
theorem Zd3 {it t:Addr} {i:Nat} {items:Array Value} {Q:Value → Shared → Prop} (hh:A.handled = none) (hit:s.heap.IsTupleIter it t i) (ht:s.heap.IsTuple t items) (hx:items[i]? = none)
  (hE:∀ h' e,Heap.ExtBut it s.heap h' → (∃ o,h'.get? e = some o ∧ o.cls = .type "StopIteration") → E (.ref e) { s with heap:=h' }):wpAny (model prog w) A (Builtin.SmallTypes.nextOf (.ref it)) Q E s:=by
 obtain ⟨o,ho,hc,hd⟩:=id hit
 obtain ⟨ol,hol,_,nl,hdl⟩:=ht
 unfold Builtin.SmallTypes.nextOf
 refine wpAny_bind (wpAny_callSpecial?_slot (name:=Str.ofString "__next__") hit.typeIs slot_tupleiter_next
  (wpAny_call_entry slot_tupleiter_next hit.typeIs entry_tupleiter_next ?_ (args_tupleiter_next _)))
 show wpAny _ _ (field (.ref it) 0 >>= _) _ _ s
 refine wpAny_bind (wpAny_field ho hd (x:=.ref t) rfl ?_)
 show wpAny _ _ (if (Value.ref t == Value.none) = true then _ else _) _ _ s
 rw [if_neg (show ¬ ((Value.ref t == Value.none) = true) from Bool.false_ne_true)]
 show wpAny _ _ (field (.ref it) 1 >>= _) _ _ s
 refine wpAny_bind (wpAny_field ho hd (x:=.int i 0) rfl ?_)
 show wpAny _ _ (seqItems? (.ref t) >>= _) _ _ s
 refine wpAny_bind (wpAny_seqItems hol hdl ?_)
 simp only [Int.toNat_natCast,hx]
 refine wpAny_bind (wpAny_rule (wpAny_bind (wpAny_setField ho hd (by simp) ?_)))
 show wpAny _ _ (newExc (.type "StopIteration") [] >>= _) _ _ _
 refine wpAny_bind ?_
 simp only [newExc,newTuple]
 refine wpAny_bind (wpAny_newObj_type ?_ (by size_fits))
 refine wpAny_bind (m:=firstArgMember _ _) (wpAny_of_eq (a:=Value.none) (by first | rfl | (simp only [firstArgMember]; rfl)) ?_)
 refine wpAny_newObj_type ?_ (by size_fits)
 simp only [raiseNew]
 refine wpAny_bind (wpAny_handled ?_)
 first | rw [show A.in1.handled = none from hh] | rw [hh]
 refine wpAny_bind (wpAny_pure (wpAny_throw ?_))
 exact hE _ _ (((Heap.SameBut.update ..).extBut.push _).push _) ⟨_,Heap.get?_push_size _ rfl,rfl⟩
end
theorem ZjF {prog:Program} {w:World} {A:Around} (hh:A.handled = none) (it l:Addr) (hne:l ≠ it) (items:Array Value):
  Draws prog w A it [it,l] items.size (fun i v=>items[i]? = some v) (fun i h=>h.IsTupleIter it l i ∧ h.IsTuple l items) where
 live:=fun _ _ st=>let ⟨o,ho,_⟩:=st.1; ⟨o,ho⟩
 frame:=fun _ _ _ st hk=>⟨st.1.at fun o e=>hk it (by simp) o e,st.2.at fun o e=>hk l (by simp) o e⟩
 item:=fun i s Q E hi st hQ=>by
  refine ZfI st.1 st.2 (x:=items[i]) (by simp [hi]) fun h' hit' hs'=>?_
  exact hQ _ h' s.toks (by simp [hi]) ⟨hit',st.2.extBut hs'.extBut hne⟩ hs'
 done:=fun s Q E st hE=>Zd3 hh st.1 st.2 (by simp) hE
theorem ZeB (l:Addr) (items:Array Value) (n:Nat) (dct:Option Addr) (sl:Array (Option Value)):
  Meets (Builtin.«enumerate.__new__» ⟨[.type "enumerate",.ref l],[]⟩) (fun _ R s=>s.heap.get? l = some { cls:=.type "tuple",dict:=dct,data:=.seq items n,slots:=sl } ∧
   R (.ok (.ret (.ref (s.heap.push { cls:=.type "tuple_iterator",data:=.fields #[.ref l,.int 0 0] }).objs.size)))
    { s with heap:=(s.heap.push { cls:=.type "tuple_iterator",data:=.fields #[.ref l,.int 0 0] }).push { cls:=.type "enumerate",data:=.fields #[.none,.bool false,.ref s.heap.objs.size,rawInt 0,.none,.none] } }):=
 .of_wp fun prog w A R s h=>by
  obtain ⟨hp,g,d,tk,os⟩:=s; obtain ⟨hl,h⟩:=h
  have hsub:=sub_enumerate
  have hL:Heap.IsTuple (Shared.heap ⟨hp,g,d,tk,os⟩) l items:=⟨_,hl,rfl,n,rfl⟩
  wp_walk using wpAny_loadPart' hl
  refine wpAny_stack_any fun st=>wpAny_pure ?_
  split
  ·rename_i c _ _ _ _ _
   cases (c == Value.type "enumerate")
   ·wp_walk using wpAny_loadPart' hl,wpAny_pyIter_tuple hL
    exact ⟨_,rfl,h⟩
   ·wp_walk using wpAny_loadPart' hl,wpAny_pyIter_tuple hL
    exact ⟨_,rfl,h⟩
  ·wp_walk using wpAny_loadPart' hl,wpAny_pyIter_tuple hL
   exact ⟨_,rfl,h⟩
theorem ZeE {prog:Program} {w:World} {A:Around} {E:Value → Shared → Prop} {s:Shared} {l:Addr} {items:Array Value} {Q:Value → Shared → Prop} (hL:s.heap.IsTuple l items)
  (h:∀ h',IsEnum h' (s.heap.objs.size + 1) s.heap.objs.size 0 .none → h'.IsTupleIter s.heap.objs.size l 0 → h'.objs.size = s.heap.objs.size + 2 →
   (∀ b o,s.heap.get? b = some o → h'.get? b = some o) → Q (.ref (s.heap.objs.size + 1)) { s with heap:=h' }):
  wpAny (model prog w) A (call (.type "enumerate") [.ref l]) Q E s:=by
 obtain ⟨⟨c,dct,dt,sl⟩,hl,hc,n,hd⟩:=hL
 replace hc:c = .type "tuple":=hc
 replace hd:dt = .seq items n:=hd
 subst hc hd
 refine callType_new F.called_enumerate (by decide) (F.typeCall_enumerate_1 _) (F.newCall_enumerate_1 _) (fun obj=>F.args_object_init_2 obj _) F.entry_enumerate_new
  (ZeB l items n dct sl) ⟨hl,?_⟩
 have hz:(s.heap.push { cls:=.type "tuple_iterator",data:=.fields #[.ref l,.int 0 0] }).objs.size = s.heap.objs.size + 1:=Heap.size_push ..
 show _ ∧ _
 rw [hz]
 have he:IsEnum ((s.heap.push { cls:=.type "tuple_iterator",data:=.fields #[.ref l,.int 0 0] }).push
   { cls:=.type "enumerate",data:=.fields #[.none,.bool false,.ref s.heap.objs.size,rawInt 0,.none,.none] }) (s.heap.objs.size + 1) s.heap.objs.size 0 .none:=by
  have:=Heap.get?_push_size (s.heap.push { cls:=.type "tuple_iterator",data:=.fields #[.ref l,.int 0 0] })
   (o:={ cls:=.type "enumerate",data:=.fields #[.none,.bool false,.ref s.heap.objs.size,rawInt 0,.none,.none] }) rfl
  rw [hz] at this; exact this
 refine ⟨⟨_,he,rfl⟩,h _ he ⟨_,Heap.get?_push_of_some _ (Heap.get?_push_size _ rfl),rfl,rfl⟩ (by rw [Heap.size_push,hz]) fun b o x=>Heap.get?_push_of_some _ (Heap.get?_push_of_some _ x)⟩
theorem Zj7 {P:Program} {w:World} {K:PySem.W.Frag} {es:List Expr} {k:Nat} {pos:Pos} (a e it:Addr) (hne:e ≠ it):
  Turn P w K (.Tuple es k pos) (Ite fun H xs=>SqT K H a xs) [e,it] e (fun i h=>(∃ old,IsEnum h e it i old) ∧ h.IsTupleIter it a i) where
 mem:=by simp
 obj:=fun i h st b hb=>by
  obtain ⟨⟨old,he⟩,o,ho,c,d⟩:=st
  simp only [List.mem_cons,List.not_mem_nil,or_false] at hb
  rcases hb with rfl | rfl
  ·exact ⟨_,he,fun v z=>by cases z⟩
  ·exact ⟨o,ho,fun v z=>by rw [d] at z; cases z⟩
 keep:=fun i h h' st k=>by
  obtain ⟨⟨old,he⟩,hit⟩:=st
  exact ⟨⟨old,k e (by simp) _ he⟩,hit.at fun o q=>k it (by simp) o q⟩
 item:=by
  intro X hP hw hK hc i pins s σ H E I hf st hg
  subst hP hw hK
  obtain ⟨xs,x,hq,hx⟩:=hg
  obtain ⟨its,rv,p,hz⟩:=I.tuple hq
  obtain ⟨u,hu,ru⟩:=rv.get hx
  obtain ⟨⟨old,he⟩,hit⟩:=st
  have hel:=Heap.lt_size he
  have hil:it < s.heap.objs.size:=by obtain ⟨o,ho,_⟩:=id hit; exact Heap.lt_size ho
  have pt:s.heap.IsTuple a its.toArray:=p
  have hae:e ≠ a:=by
   rintro rfl
   obtain ⟨o,ho,hc,_⟩:=pt
   rw [he] at ho; cases ho
   exact absurd hc (by simp)
  have hai:a ≠ it:=by
   rintro rfl
   obtain ⟨o,ho,hc,_⟩:=pt
   obtain ⟨o',ho',hc',_⟩:=hit
   rw [ho'] at ho; cases ho
   rw [hc'] at hc
   exact absurd hc (by simp)
  have D:=ZjF (prog:=X.prog) (w:=X.w) (A:=X.A.in1) (I.ok.hd hc) it a hai its.toArray
  refine wpAny_pyNext_enum_itemD D he ⟨hit,pt⟩ (by simpa using (List.getElem?_eq_some_iff.mp hu).1) hne (by simp [hne,hae]) fun y h' tk hy ho hst hT hsz hk=>?_
  have ey:y = u:=by
   have:its.toArray[i]? = some u:=by simpa using hu
   rw [this] at hy; cases hy; rfl
  subst ey
  refine ⟨_,rfl,wpAny_letOwnedTupleGo_enum (s:={ s with heap:=h',toks:=tk + 1 }) ho fun h'' he'' hs''=>?_⟩
  obtain ⟨I2,n2⟩:=Zik (x:=x) (tk':=tk + 1) I hf hel hil ru hT hk hs''
  exact ⟨.ref s.heap.objs.size,_,I2,rfl,⟨_,x,rfl,I.hok.fresh (Nat.le_refl _),rfl,fun ys hy=>by rw [I.tuple_inj hy hq]; exact hx⟩,⟨⟨_,by simpa using he''⟩,hst.1.extBut hs''.extBut (Ne.symm hne)⟩,n2⟩
 done:=by
  intro X hP hw hK hc i pins s σ H E I hf st hg
  subst hP hw hK
  obtain ⟨xs,hq,hx⟩:=hg
  obtain ⟨its,rv,p,hz⟩:=I.tuple hq
  obtain ⟨⟨old,he⟩,hit⟩:=st
  have hl:=rv.length
  have pt:s.heap.IsTuple a its.toArray:=p
  have hT:s.TypeIs (.ref e) "enumerate":=⟨_,he,rfl⟩
  unfold pyNext
  refine wpAny_bind (wpAny_attempt (wpAny_callSpecial?_slot (name:=Str.ofString "__next__") hT F.slot_enumerate_next
   (wpAny_call_entry F.slot_enumerate_next hT F.entry_enumerate_next ?_ (F.args_enumerate_next_1 _))))
  show wpAny _ _ (field (.ref e) 2 >>= _) _ _ _
  refine wpAny_bind (wpAny_field he rfl (x:=.ref it) rfl ?_)
  refine wpAny_bind (Zd3 (I.ok.hd hc) hit pt (by simp; exact lC 2 2268279672881 T1 hl hx) fun h' x he' hx'=>?_)
  obtain ⟨o,ho,hc⟩:=hx'
  refine wpAny_bind (wpAny_isInstance (T:="StopIteration") (b:=true) ⟨o,ho,hc⟩ isSubtype_stop ?_)
  exact wpAny_pure ⟨rfl,I.turnedL (t':=s.toks) (fun b o hb q=>he' b o (fun z=>hb (by simp [z])) q) hf⟩
 self:=fun _ _ _ _ _ st h=>by
  obtain ⟨⟨old,he⟩,_⟩:=st
  exact wpAny_pyIter_enum he h
section
variable {X:Cx} {es:List Expr} {k:Nat} {a:Expr} {p pos tpos:Pos} {f:E3}
noncomputable def ZpP (K:PySem.W.Frag) (ta:TA):TI:=fun σ H R=>ta σ H fun vs H1=>∃ b,vs = [.ref b] ∧ ((∃ xs,SqL K H1 b xs ∧ R (Ite fun H xs=>SqL K H b xs) H1) ∨ ∃ xs,SqT K H1 b xs ∧ R (Ite fun H xs=>SqT K H b xs) H1)
theorem ZoI {ta:TA} (hg:Gl X "enumerate") (hm:X.mg "enumerate" = none) (ha:PA X [a] ta) (hs:starEach [a] X.env = [(false,eval a X.env)]:=by rfl):PI X (.Tuple es k tpos) (.Call (.Name "enumerate" p) [a] [] pos) (ZpP X.K ta):=by
 intro pins s σ H R I h
 refine Call_ (Zf0 I hg hm boot_enumerate (PyProof.Rows.callWith_type1 (thn (ha pos pins s σ H _ I h) fun us s1 ⟨vs,H1,I1,r1,q1⟩=>?_) hs rfl))
 obtain ⟨b,e,q⟩:=q1
 subst e
 cases r1 with
 | cons r rr=>
  cases rr
  cases r
  have fp:∀ {h':Heap} {s2:Shared},∀ c ∈ [s1.heap.objs.size + 1,s1.heap.objs.size],ZfP X pins H1 c:=fun {h' s2} c hc=>by
   have hc':s1.heap.objs.size ≤ c:=by
    simp only [List.mem_cons,List.not_mem_nil,or_false] at hc
    rcases hc with rfl | rfl <;> omega
   exact I1.fpOk hc' (I1.hok.fresh hc')
  rcases q with ⟨xs,hq,q⟩ | ⟨xs,hq,q⟩
  ·obtain ⟨its,rv,pl,hz⟩:=I1.list hq
   refine call_enumerate_list pl.isList fun h' hE hI hsz hk=>?_
   have I2:Inv X pins σ H1 { s1 with heap:=h' }:=I1.kept (t':=s1.toks) hk
   exact wpAny_pyIter_enum (s:={ s1 with heap:=h' }) hE ⟨_,[s1.heap.objs.size + 1,s1.heap.objs.size],_,_,H1,rfl,I2,Zkl b _ _ (Nat.succ_ne_self _),⟨⟨_,hE⟩,hI⟩,fp (h':=h') (s2:=s1),q⟩
  ·obtain ⟨its,rv,pl,hz⟩:=I1.tuple hq
   refine ZeE (show s1.heap.IsTuple b its.toArray from pl) fun h' hE hI hsz hk=>?_
   have I2:Inv X pins σ H1 { s1 with heap:=h' }:=I1.kept (t':=s1.toks) hk
   exact wpAny_pyIter_enum (s:={ s1 with heap:=h' }) hE ⟨_,[s1.heap.objs.size + 1,s1.heap.objs.size],_,_,H1,rfl,I2,Zj7 b _ _ (Nat.succ_ne_self _),⟨⟨_,hE⟩,hI⟩,fp (h':=h') (s2:=s1),q⟩
theorem Zot (hm:X.mg "enumerate" = none) (h:C3 X a f) (hg:Gl X "enumerate":=by rfl) (hs:starEach [a] X.env = [(false,eval a X.env)]:=by rfl) (hs':starEach (a :: []) X.env = (false,eval a X.env) :: starEach [] X.env:=by rfl):CIL X (.Tuple es k tpos) (.Call (.Name "enumerate" p) [a] [] pos) (ZmC f):=
 PI.imp (ZoI hg hm (Zd h Zn hs') hs) fun σ H R zz1=>by
  obtain ⟨ι,M,env,S,E,h⟩:=zz1
  obtain ⟨d,M1,e1,h⟩:=Zja.bind h
  refine ⟨ι,M,env,S,E,?_⟩
  have e2:Za f Zh env M = .ok [d] M1:=by unfold Za; rw [e1]; rfl
  rw [e2]
  intro vs H1 ι1 x1 S1 r1
  obtain ⟨v,ws,rfl,r,q⟩:=r1.cons_inv
  have:=q.nil_inv
  subst this
  cases d with
  | tup ds=>
   obtain ⟨b,vs,rfl,s,r⟩:=r.tup_inv
   refine ⟨b,rfl,.inr ⟨vs,s,h _ H1 ι1 x1 S1 ?_⟩⟩
   intro i H2 ι2 M2 x S2 _
   refine ⟨fun d hd=>?_,fun hl=>⟨vs,x.tup _ _ s,by rw [r.length,hl,ZfY]; exact Nat.le_refl _⟩⟩
   rw [ZfX] at hd
   cases hq:ds[i]? with
   | none=>rw [hq] at hd; cases hd
   | some d0=>
    rw [hq] at hd
    simp only [Option.map_some,Nat.zero_add,Option.some.injEq] at hd
    subst hd
    obtain ⟨v,hv,rv⟩:=r.get hq
    refine ⟨⟨vs,v,x.tup _ _ s,hv⟩,fun y H3 hy=>?_⟩
    obtain ⟨T,y',rfl,hT,rfl,hall⟩:=hy
    have e:=hall vs (x.tup _ _ s)
    rw [hv] at e
    cases e
    exact S2.tupl hT (Zab.cons Rep.int (Zab.cons (rv.mono x) Zab.nil))
  | ref n=>
   cases hm:M1[n]? with
   | none=>simp only [hm] at h; exact h.elim
   | some o=>
    cases o with
    | dct kvs=>simp only [hm] at h; exact h.elim
    | fdct kvs=>simp only [hm] at h; exact h.elim
    | ins _ _=>simp only [hm] at h; exact h.elim
    | lst ds=>
     simp only [hm] at h
     obtain ⟨b,ha,rfl⟩:=r.ref_inv
     obtain ⟨vs,q,r⟩:=S1.obj n _ b hm ha
     refine ⟨b,rfl,.inl ⟨vs,SqL.of q,h _ H1 ι1 x1 S1 ?_⟩⟩
     intro i H2 ι2 M2 x S2 lk
     have lk':M2[n]? = some (.lst ds):=by simpa [Zdg] using lk
     obtain ⟨vs2,q2,r2⟩:=S2.obj n _ b lk' (x.pre _ _ ha)
     refine ⟨fun d hd=>?_,fun hl=>⟨vs2,SqL.of q2,by rw [r2.length,hl,ZfY]; exact Nat.le_refl _⟩⟩
     rw [ZfX] at hd
     cases hq:ds[i]? with
     | none=>rw [hq] at hd; cases hd
     | some d0=>
      rw [hq] at hd
      simp only [Option.map_some,Nat.zero_add,Option.some.injEq] at hd
      subst hd
      obtain ⟨v,hv,rv⟩:=r2.get hq
      refine ⟨⟨vs2,v,SqL.of q2,hv⟩,fun y H3 hy=>?_⟩
      obtain ⟨T,y',rfl,hT,rfl,hall⟩:=hy
      have e:=hall vs2 (SqL.of q2)
      rw [hv] at e
      cases e
      exact S2.tupl hT (Zab.cons Rep.int (Zab.cons rv Zab.nil))
  | _=>exact h.elim
end
end L3
namespace L3
open PySem PySem.Spec PyProof.Rows L2
open AutoSeq1 (wpAny_loadPart')
open PySem.SeqAt MeetsSeq
set_option maxRecDepth 100000
end L3
namespace L3
open PySem PySem.Spec PyProof.Rows L2
section
variable {X:Cx} {o i p j e:Expr} {pos:Pos} {f g h fo fi fp fj:E3}
end
end L3
namespace L3
open PySem PySem.Spec PyProof.Rows L2
section
variable {X:Cx}
noncomputable def ofV:Value → D
 | .int i _=>.int i
 | .bool b=>.bl b
 | .str x _=>.str x.cps.toList
 | _=>.non
theorem Zk6 {K:PySem.W.Frag} {H:Hp} {ι:List Addr} {d:D} {v:V} {y:Value} (hf:ZaT d = true) (r:Rep K H ι d v) (rv:RelV v y):ofV y = d:=by
 cases d with
 | non=>have:=r.non_inv; subst this; cases rv; rfl
 | bl b=>have:=r.bl_inv; subst this; cases rv; rfl
 | int i=>have:=r.int_inv; subst this; obtain ⟨t,rfl⟩:=rv; rfl
 | str x=>have:=r.str_inv; subst this; obtain ⟨t,rfl⟩:=rv; rfl
 | _=>simp [ZaT] at hf
theorem Zk4 {K:PySem.W.Frag} {H:Hp} {ι:List Addr} {a:D}:∀ {ds:List D} {vs:List V} {its:List Value},Zab K H ι ds vs → Vals vs its → ds.all ZaT = true → (ds.any fun y=>deq y a) = its.any fun y=>deq (ofV y) a
 | [],vs,its,r,rv,_=>by
  have:=r.nil_inv
  subst this
  cases rv
  rfl
 | d :: ds,vs,its,r,rv,hf=>by
  obtain ⟨v,ws,rfl,r1,r2⟩:=r.cons_inv
  cases rv with
  | cons q rv=>
   simp only [List.all_cons,Bool.and_eq_true] at hf
   simp only [List.any_cons,Zk4 r2 rv hf.2,Zk6 hf.1 r1 q]
theorem ZoX:OpR X (compareOp .In) (r2 X.K Zgb):=by
 intro pins s σ H x y v u Q I rx ry ⟨ι,M,a,b,S,ra,rb,h⟩
 unfold Zgb at h
 cases b with
 | ref n=>
  cases hn:M[n]? with
  | none=>simp only [hn] at h; exact h.elim
  | some ob=>
   cases ob with
   | dct _=>simp only [hn] at h; exact h.elim
   | fdct _=>simp only [hn] at h; exact h.elim
   | ins _ _=>simp only [hn] at h; exact h.elim
   | lst ds=>
    simp only [hn] at h
    by_cases hf:(ZaT a && ds.all ZaT) = true
    ·rw [if_pos hf] at h
     rw [Bool.and_eq_true] at hf
     obtain ⟨p,hp,rfl⟩:=rb.ref_inv
     cases ry
     obtain ⟨vs,e1,r1⟩:=S.obj n _ p hn hp
     obtain ⟨its,rvs,pl,_⟩:=I.list (SqL.of e1)
     have he:∀ y,y ∈ its.toArray → SeqAt.EqAt X.A.in1 s y v (deq (ofV y) a):=fun y hy=>by
      have hy:y ∈ its:=by simpa using hy
      obtain ⟨j,hj⟩:=List.getElem?_of_mem hy
      have hjl:j < vs.length:=by rw [rvs.length]; exact (List.getElem?_eq_some_iff.mp hj).1
      obtain ⟨w,hw,rw'⟩:=rvs.get (List.getElem?_eq_getElem hjl)
      rw [hj] at hw; cases hw
      have hjd:j < ds.length:=by rw [← r1.length]; exact hjl
      obtain ⟨z,hz,rz⟩:=r1.get (List.getElem?_eq_getElem hjd)
      rw [List.getElem?_eq_getElem hjl] at hz; cases hz
      have hfl:=List.all_eq_true.mp hf.2 _ (List.getElem_mem hjd)
      rw [Zk6 hfl rz rw']
      exact Zdl X.A.in1 ds[j] a _ x y v hfl hf.1 rz ra rw' rx
     refine SeqAt.in_listAt (fun y=>deq (ofV y) a) pl.isList he ⟨.bl (ds.any fun y=>deq y a),H,I,?_,h _ H ι Ext.refl S Rep.bl⟩
     show (.bool _:Value) = .bool _
     rw [Zk4 r1 rvs hf.2]
     simp
    ·rw [if_neg hf] at h; exact h.elim
 | _=>exact h.elim
end
end L3
namespace L3
open PySem PySem.Spec PyProof.Rows L2
section
variable {prog:Program} {w:World} {A:Around} {E:Value → Shared → Prop} {s:Shared}
end
section
variable {X:Cx} {e:Expr} {es:List Expr} {pos:Pos} {f:E3}
end
end L3
namespace L3
open PySem PySem.Spec PyProof.Rows L2
section
variable {X:Cx} {a b c:Expr} {p p2 pos pos2:Pos} {f g h:E3}
end
end L3
namespace L3
open PySem PySem.Spec PyProof.Rows L2
open AutoSeq1 (wpAny_loadPart')
set_option maxRecDepth 100000
section
variable {X:Cx} {o e:Expr} {es:List Expr} {apos cpos:Pos} {f:E3} {gl:EL3}
theorem Zol {K:PySem.W.Frag} {T:String} {ty:D → Store → Bool} {m:D → List D → Store → R3 D} (hty:∀ H ι M a x,Zat K H ι M → Rep K H ι a x → ty a M = true → tyV K T x H) (σ:St) (H:Hp) (Q:VK) (h:tOf K (Zbl ty m f Zh) σ H Q):Zrd K T (rM K m) (tOf K f) σ H Q:=by
 obtain ⟨ι,M,env,S,E,h⟩:=h
 obtain ⟨a,M1,e1,h⟩:=Zam.bind h
 refine ⟨ι,M,env,S,E,?_⟩
 rw [e1]
 intro v H1 ι1 x1 S1 r1
 by_cases ht:ty a M1 = true
 ·rw [if_pos ht] at h
  exact ⟨hty _ _ _ _ _ S1 r1 ht,ι1,M1,a,[],S1,r1,Zab.nil,h.up x1⟩
 ·rw [if_neg ht] at h; exact h.elim
end
end L3
namespace L3
open PySem PySem.Spec PyProof.Rows L2
set_option maxRecDepth 100000
section
variable {X:Cx} {es:List Expr} {k:Nat} {a b:Expr} {p pos tpos:Pos} {f g:E3}
end
end L3
namespace L3
open PySem PySem.Spec PyProof.Rows L2
set_option maxRecDepth 100000
section
variable {X:Cx} {elt tg iter:Expr} {ifs:List Expr} {scope:Scope} {pos:Pos} {i:IL3} {own:Nat} {g:G3} {ts:List E3} {f:E3} {N':List Str}
end
end L3
namespace L3
open PySem PySem.W PyProof.Rows
section
variable {M:Model} {A:Around} {E:Value → Shared → Prop} {G:Shared → Prop}
noncomputable def TT (M:Model) (A:Around) (E:Value → Shared → Prop) (G:Shared → Prop) {α:Type} (m:StateT SortSt Sem α) (Q:α → SortSt → Prop) (st:SortSt):Prop:=∀ s,G s → kasC M A E m (fun a st' s'=>Q a st' ∧ G s') st s
end
structure Cmp (prog:Program) (w:World) (A:Around) (E:Value → Shared → Prop) (G:Shared → Prop) (κ:SortKind) (it:Array Keyed) (lt:Nat → Nat → Bool) (N:Nat):Prop where
 ok:Zdr lt
 ask:∀ i j (C:Bool → Shared → Prop) s,i < N → j < N → G s → (∀ s',G s' → C (lt i j) s') → kas_cmp prog w A κ it i j C s
section
variable {prog:Program} {w:World} {A:Around} {E:Value → Shared → Prop} {G:Shared → Prop} {κ:SortKind} {it:Array Keyed} {lt:Nat → Nat → Bool} {N:Nat}
noncomputable abbrev Zks (it:Array Keyed) (l:List Nat):Array Keyed:=(l.map (kas_item it)).toArray
noncomputable def Srt (lt:Nat → Nat → Bool) (l:List Nat):Prop:=l.Pairwise fun x y=>lt y x = false
section
variable {left:Bool} {key:Nat} {l:List Nat} {base n:Nat} {st:SortSt} {B:Nat → Bool}
end
end
end L3
namespace L3
open PySem PySem.W PyProof.Rows
section
variable {lt:Nat → Nat → Bool}
structure W (lt:Nat → Nat → Bool) (la lb out:List Nat) (ia ib:Nat):Prop where
 p:out.Perm (la.take ia ++ lb.take ib)
 s:Srt lt out
 a:∀ x ∈ out,∀ y ∈ la.drop ia,lt y x = false
 b:∀ x ∈ out,∀ y ∈ lb.drop ib,lt y x = false
 ha:ia ≤ la.length
 hb:ib ≤ lb.length
noncomputable def RR (lt:Nat → Nat → Bool) (la lb r:List Nat):Prop:=r.Perm (la ++ lb) ∧ Srt lt r
theorem W.last {la lb out:List Nat} {ia ib x:Nat} (sb:Srt lt lb) (w:W lt la lb out ia ib) (h:ia + 1 = la.length) (hx:la[ia]? = some x) (hm:∀ y ∈ lb,lt x y = false):RR lt la lb (out ++ lb.drop ib ++ la.drop ia):=by
 obtain ⟨hl,e⟩:=List.getElem?_eq_some_iff.mp hx
 have d:la.drop ia = [x]:=by rw [List.drop_eq_getElem_cons hl,e,h,List.drop_length]
 have p:=w.p
 refine ⟨?_,?_⟩
 ·refine ((p.append_right _).append_right _).trans ?_
  rw [List.append_assoc (la.take ia),List.take_append_drop,List.append_assoc]
  refine (List.Perm.append_left _ List.perm_append_comm).trans ?_
  rw [← List.append_assoc,List.take_append_drop]
 ·refine List.pairwise_append.mpr ⟨List.pairwise_append.mpr ⟨w.s,List.Pairwise.sublist (List.drop_sublist _ _) sb,w.b⟩,by rw [d]; simp,fun u hu y hy=>?_⟩
  rw [d,List.mem_singleton] at hy
  rw [hy]
  rcases List.mem_append.mp hu with hu | hu
  ·exact w.a u hu x (by rw [d]; simp)
  ·exact hm u (List.mem_of_mem_drop hu)
end
section
variable {prog:Program} {w:World} {A:Around} {E:Value → Shared → Prop} {G:Shared → Prop} {κ:SortKind} {it:Array Keyed} {lt:Nat → Nat → Bool} {N:Nat}
noncomputable def Zo6 (st st':SortSt):Prop:=∃ g,st' = SortSt.mk' (kindOf st) (arrOf st) (pendingOf st) g (failedOf st)
theorem Zo6.kind {st st':SortSt} (h:Zo6 st st'):kindOf st' = kindOf st:=by obtain ⟨g,rfl⟩:=h; rfl
structure Two (lt:Nat → Nat → Bool) (N:Nat) (la lb:List Nat):Prop where
 sa:Srt lt la
 sb:Srt lt lb
 na:∀ x ∈ la,x < N
 nb:∀ x ∈ lb,x < N
structure Mid (lt:Nat → Nat → Bool) (la lb:List Nat) (n:Nat) (out:List Nat) (ia ib:Nat):Prop where
 w:W lt la lb out ia ib
 a:ia + 1 < la.length
 b:ib < lb.length
 n:n ≤ ia + ib
noncomputable def DD (lt:Nat → Nat → Bool) (it:Array Keyed) (la lb:List Nat) (n:Nat) (r:Option (Array Keyed)) (o:Array Keyed) (ia ib:Nat):Prop:=(∃ l,r = some (Zks it l) ∧ RR lt la lb l) ∨ (r = none ∧ ∃ out,o = Zks it out ∧ Mid lt la lb n out ia ib)
noncomputable def YY (lt:Nat → Nat → Bool) (it:Array Keyed) (la lb:List Nat) (n:Nat) (r:Option (Array Keyed)) (o:Array Keyed) (ia ib:Nat):Prop:=r = none ∧ ∃ out,o = Zks it out ∧ Mid lt la lb n out ia ib
section
variable {la lb:List Nat} {st st':SortSt} {n:Nat} {out:List Nat} {ia ib:Nat}
theorem Srt.from {l:List Nat} (s:Srt lt l) (o:Zdr lt) {i x y:Nat} (hx:l[i]? = some x) (h:lt x y = false):∀ z ∈ l.drop i,lt z y = false:=fun z hz=>by
 obtain ⟨hl,e⟩:=List.getElem?_eq_some_iff.mp hx
 rw [List.drop_eq_getElem_cons hl,e] at hz
 rcases List.mem_cons.mp hz with rfl | hz
 ·exact h
 ·have sd:(x :: l.drop (i + 1)).Pairwise fun x y=>lt y x = false:=by
   have:=List.Pairwise.sublist (List.drop_sublist i _) s
   rw [List.drop_eq_getElem_cons hl,e] at this
   exact this
  exact o.tr h ((List.pairwise_cons.mp sd).1 z hz)
theorem Mid.le {m:Nat} (h:Mid lt la lb n out ia ib) (hm:m ≤ n):Mid lt la lb m out ia ib:=⟨h.w,h.a,h.b,Nat.le_trans hm h.n⟩
theorem DD.le {m:Nat} {r:Option (Array Keyed)} {o:Array Keyed} (h:DD lt it la lb n r o ia ib) (hm:m ≤ n):DD lt it la lb m r o ia ib:=by
 rcases h with h | ⟨h1,out,h2,h3⟩
 ·exact .inl h
 ·exact .inr ⟨h1,out,h2,h3.le hm⟩
theorem YY.le {m:Nat} {r:Option (Array Keyed)} {o:Array Keyed} (h:YY lt it la lb n r o ia ib) (hm:m ≤ n):YY lt it la lb m r o ia ib:=⟨h.1,h.2.elim fun out h=>⟨out,h.1,h.2.le hm⟩⟩
end
end
end L3
namespace L3
open PySem PySem.W PyProof.Rows
section
variable {prog:Program} {w:World} {A:Around} {E:Value → Shared → Prop} {G:Shared → Prop} {κ:SortKind} {it:Array Keyed} {lt:Nat → Nat → Bool} {N:Nat}
noncomputable abbrev fl (lt:Nat → Nat → Bool):Nat → Nat → Bool:=fun x y=>lt y x
theorem Srt.rev {l:List Nat} (h:Srt lt l):Srt (fl lt) l.reverse:=List.pairwise_reverse.mpr h
theorem RR.rev {la lb r:List Nat} (h:RR (fl lt) lb.reverse la.reverse r):RR lt la lb r.reverse:=by
 refine ⟨(List.reverse_perm r).trans (h.1.trans ?_),List.pairwise_reverse.mpr h.2⟩
 exact ((List.reverse_perm lb).append (List.reverse_perm la)).trans List.perm_append_comm
theorem ZrJ (o:Zdr lt):Zdr (fl lt):=⟨fun h=>o.asym h,fun h1 h2=>o.tr h2 h1⟩
theorem ZnW {l:List Nat} {k x:Nat} (h0:0 < k) (hk:k ≤ l.length) (hx:l[k - 1]? = some x):l.reverse[l.length - k]? = some x:=by
 rw [List.getElem?_reverse (by exact lC 2 581779561975313 T1 h0 (Nat.sub_add_cancel hk)),show l.length - 1 - (l.length - k) = k - 1 by exact Nat.le_antisymm (lF 4 0x450025c21a4c30132c1011a0c21 T1 (Nat.sub_add_cancel (lB 2 1786942394369 T1 hk h0)) (sbA _ _) (sbA _ _) (Nat.sub_add_cancel (lD 3 0x230103c21a2c1010e11 T1 h0 (sbA _ _) (Nat.sub_add_cancel hk)))) (lF 4 0x4503a5c2124c101032c21a1c001 T1 (sbA _ _) (Nat.sub_add_cancel hk) (sbA _ _) (Nat.sub_add_cancel (lA 1 10489361 T1 h0))),hx]
theorem Zjc {l:List Nat} {k:Nat} (hk:k ≤ l.length):l.reverse.drop (l.length - k) = (l.take k).reverse:=by
 rw [List.drop_reverse,show l.length - (l.length - k) = k by exact Nat.le_antisymm (lD 2 0x230013c2121c001 T1 (sbA _ _) (Nat.sub_add_cancel ((Nat.sub_le _ _)))) (lD 2 0x31003c201210c21 T1 (Nat.sub_add_cancel hk) (sbA _ _))]
section
variable {la lb:List Nat} {st st':SortSt} {n:Nat} {out:List Nat} {na nb:Nat}
structure Zns (lt:Nat → Nat → Bool) (la lb:List Nat) (n:Nat) (out:List Nat) (na nb:Nat):Prop where
 w:W (fl lt) lb.reverse la.reverse out (lb.length - nb) (la.length - na)
 a:0 < na
 b:1 < nb
 ha:na ≤ la.length
 hb:nb ≤ lb.length
 n:n + na + nb ≤ la.length + lb.length
theorem Zov (h:RR (fl lt) lb.reverse la.reverse (out ++ la.reverse.drop (la.length - na) ++ lb.reverse.drop (lb.length - nb))) (ha:na ≤ la.length) (hb:nb ≤ lb.length):RR lt la lb (lb.take nb ++ la.take na ++ out.reverse):=by
 have:=h.rev
 rw [Zjc ha,Zjc hb] at this
 simpa using this
noncomputable def DH (lt:Nat → Nat → Bool) (it:Array Keyed) (la lb:List Nat) (n:Nat) (r:Option (Array Keyed)) (na nb:Nat) (o:Array Keyed):Prop:=(∃ l,r = some (Zks it l) ∧ RR lt la lb l) ∨ (r = none ∧ ∃ out,o = Zks it out ∧ Zns lt la lb n out na nb)
noncomputable def YH (lt:Nat → Nat → Bool) (it:Array Keyed) (la lb:List Nat) (n:Nat) (r:Option (Array Keyed)) (na nb:Nat) (o:Array Keyed):Prop:=r = none ∧ ∃ out,o = Zks it out ∧ Zns lt la lb n out na nb
structure Hi (prog:Program) (w:World) (A:Around) (E:Value → Shared → Prop) (G:Shared → Prop) (κ:SortKind) (it:Array Keyed) (lt:Nat → Nat → Bool) (N:Nat) (la lb:List Nat) (st:SortSt):Prop where
 K:Cmp prog w A E G κ it lt N
 T:Two lt N la lb
 hm:∀ x,lb[0]? = some x → ∀ y ∈ la,lt y x = false
 hk:kindOf st = κ
theorem Hi.o (H:Hi prog w A E G κ it lt N la lb st):Zdr (fl lt):=ZrJ H.K.ok
theorem Hi.first (H:Hi prog w A E G κ it lt N la lb st) (hw:W (fl lt) lb.reverse la.reverse out (lb.length - nb) (la.length - na)) (h1:nb = 1) (ha:na ≤ la.length) (hb:0 < lb.length):RR lt la lb (lb.take nb ++ la.take na ++ out.reverse):=by
 subst h1
 have hx:lb[0]? = some lb[0]:=by simp
 refine Zov (hw.last H.T.sa.rev (by rw [List.length_reverse]; exact Nat.le_antisymm (Nat.le_of_eq (Nat.sub_add_cancel (lA 1 10489361 T1 hb))) ((sbA _ _))) (ZnW (lN [] 0 2785 rfl) hb hx) fun y hy=>H.hm _ hx y (List.mem_reverse.mp hy)) ha hb
theorem Srt.at {l:List Nat} (s:Srt lt l) (o:Zdr lt) {i j:Nat} (hij:i ≤ j) (hj:j < l.length):lt (l.getD j 0) (l.getD i 0) = false:=by
 have e:∀ k,(hk:k < l.length) → l.getD k 0 = l[k]:=fun k hk=>by rw [List.getD_eq_getElem?_getD,List.getElem?_eq_getElem hk]; rfl
 rcases Nat.lt_or_eq_of_le hij with c | c
 ·rw [e i (Nat.lt_trans c hj),e j hj]
  exact List.pairwise_iff_getElem.mp s i j (Nat.lt_trans c hj) hj c
 ·rw [c]; exact o.rf _
theorem Zns.le {m:Nat} (h:Zns lt la lb n out na nb) (hm:m ≤ n):Zns lt la lb m out na nb:=⟨h.w,h.a,h.b,h.ha,h.hb,by have:=h.n; exact lF 2 0x43c215cc0050143c210cc01 T1 this hm⟩
theorem DH.le {m:Nat} {r:Option (Array Keyed)} {o:Array Keyed} (h:DH lt it la lb n r na nb o) (hm:m ≤ n):DH lt it la lb m r na nb o:=by
 rcases h with h | ⟨h1,out,h2,h3⟩
 ·exact .inl h
 ·exact .inr ⟨h1,out,h2,h3.le hm⟩
theorem YH.le {m:Nat} {r:Option (Array Keyed)} {o:Array Keyed} (h:YH lt it la lb n r na nb o) (hm:m ≤ n):YH lt it la lb m r na nb o:=⟨h.1,h.2.elim fun out h=>⟨out,h.1,h.2.le hm⟩⟩
end
end
end L3
namespace L3
open PySem PySem.W PyProof.Rows
section
variable {prog:Program} {w:World} {A:Around} {E:Value → Shared → Prop} {G:Shared → Prop} {κ:SortKind} {it:Array Keyed} {lt:Nat → Nat → Bool} {N:Nat}
structure SS (κ:SortKind) (it:Array Keyed) (st:SortSt) (l:List Nat) (pd:Array (Nat × Nat × Nat)):Prop where
 kind:kindOf st = κ
 arr:arrOf st = Zks it l
 pend:pendingOf st = pd
 fail:failedOf st = none
section
variable {st:SortSt} {l:List Nat} {pd:Array (Nat × Nat × Nat)}
end
end
end L3
namespace L3
open PySem PySem.W PyProof.Rows
section
variable {prog:Program} {w:World} {A:Around} {E:Value → Shared → Prop} {G:Shared → Prop} {κ:SortKind} {it:Array Keyed} {lt:Nat → Nat → Bool} {N:Nat}
variable {st:SortSt} {pd:Array (Nat × Nat × Nat)}
structure Dn (lt:Nat → Nat → Bool) (T X B:List Nat) (neq:Nat):Prop where
 e:T = X ++ B
 len:B.length = neq + 1
 s:Srt (fl lt) T
 eq:∀ x ∈ B,∀ y ∈ B,lt x y = false
theorem Dn.rev {T X B:List Nat} {neq:Nat} (d:Dn lt T X B neq):Srt (fl lt) (X ++ B.reverse):=by
 have s:=d.s
 rw [d.e] at s
 obtain ⟨s1,s2,s3⟩:=List.pairwise_append.mp s
 refine List.pairwise_append.mpr ⟨s1,?_,fun x hx y hy=>s3 x hx y (List.mem_reverse.mp hy)⟩
 exact List.pairwise_of_forall_mem_list fun x hx y hy=>d.eq x (List.mem_reverse.mp hx) y (List.mem_reverse.mp hy)
theorem Dn.last {T X B:List Nat} {neq z:Nat} (d:Dn lt T X B neq) (hz:B[neq]? = some z):∀ x ∈ T,lt x z = false:=fun x hx=>by
 have zB:=List.mem_of_getElem? hz
 rw [d.e] at hx
 rcases List.mem_append.mp hx with hx | hx
 ·have s:=d.s
  rw [d.e] at s
  exact (List.pairwise_append.mp s).2.2 x hx z zB
 ·exact d.eq x hx z zB
end
end L3
namespace L3
open PySem PySem.W PyProof.Rows
section
variable {prog:Program} {w:World} {A:Around} {E:Value → Shared → Prop} {G:Shared → Prop} {κ:SortKind} {it:Array Keyed} {lt:Nat → Nat → Bool} {N:Nat}
variable {st:SortSt} {l':List Nat} {pd:Array (Nat × Nat × Nat)}
inductive BnI {α:Type} (lt:Nat → Nat → Bool) (X:List Nat) (u k:Nat) (st':SortSt) (x:Nat) (c:Option α × Nat × Nat) (st2:SortSt):Prop
 | mk (l r:Nat) (e0:st2 = st') (e:c = (none,l,r)) (a1:l ≤ r) (a2:r ≤ k) (a3:r - l ≤ k - x) (a4:∀ i z,i < l → X[i]? = some z → lt u z = false) (a5:∀ i z,r ≤ i → X[i]? = some z → lt u z = true)
inductive BnQ {α:Type} (lt:Nat → Nat → Bool) (X:List Nat) (u k:Nat) (st':SortSt) (c:Option α × Nat × Nat) (st2:SortSt):Prop
 | mk (l:Nat) (e0:st2 = st') (e1:c.1 = none) (e2:c.2.1 = l) (a2:l ≤ k) (a4:∀ i z,i < l → X[i]? = some z → lt u z = false) (a5:∀ i z,l ≤ i → X[i]? = some z → lt u z = true)
end
end L3
namespace L3
open PySem PySem.W PyProof.Rows
section
variable {prog:Program} {w:World} {A:Around} {E:Value → Shared → Prop} {G:Shared → Prop} {κ:SortKind} {it:Array Keyed} {lt:Nat → Nat → Bool} {N:Nat}
variable {st:SortSt} {pd:Array (Nat × Nat × Nat)}
theorem merged (o:Zdr lt) {X Y r:List Nat} {k k2 y0 x1:Nat} (sX:Srt lt X) (sY:Srt lt Y) (hk:∀ x ∈ X.take k,lt y0 x = false) (h2:∀ y ∈ Y.drop k2,lt y x1 = false) (hy:∀ y ∈ Y,lt y y0 = false) (hx:∀ x ∈ X,lt x1 x = false) (hr:RR lt (X.drop k) (Y.take k2) r):RR lt X Y (X.take k ++ r ++ Y.drop k2):=by
 have eX:=List.take_append_drop k X
 have eY:=List.take_append_drop k2 Y
 rw [← eX] at sX
 rw [← eY] at sY
 obtain ⟨a1,a2,a3⟩:=List.pairwise_append.mp sX
 obtain ⟨b1,b2,b3⟩:=List.pairwise_append.mp sY
 obtain ⟨hp,hs⟩:=hr
 have xy:∀ x ∈ X.take k,∀ y ∈ Y,lt y x = false:=fun x hx' y hy'=>o.tr (hk x hx') (hy y hy')
 refine ⟨?_,?_⟩
 ·have e:(X.take k ++ (X.drop k ++ Y.take k2) ++ Y.drop k2) = X ++ Y:=by
   rw [← List.append_assoc,eX,List.append_assoc,eY]
  rw [← e]
  exact (hp.append_left _).append_right _
 ·refine List.pairwise_append.mpr ⟨List.pairwise_append.mpr ⟨a1,hs,fun x hx' z hz=>?_⟩,b2,fun z hz y hy'=>?_⟩
  ·rcases List.mem_append.mp (hp.mem_iff.mp hz) with q | q
   ·exact a3 x hx' z q
   ·exact xy x hx' z (List.mem_of_mem_take q)
  ·rcases List.mem_append.mp hz with q | q
   ·exact xy z q y (List.mem_of_mem_drop hy')
   ·rcases List.mem_append.mp (hp.mem_iff.mp q) with q | q
    ·exact o.tr (hx z (List.mem_of_mem_drop q)) (h2 y hy')
    ·exact b3 z q y hy'
end
end L3
namespace L3
open PySem PySem.W PyProof.Rows
section
variable {prog:Program} {w:World} {A:Around} {E:Value → Shared → Prop} {G:Shared → Prop} {κ:SortKind} {it:Array Keyed} {lt:Nat → Nat → Bool} {N:Nat}
variable {st:SortSt}
noncomputable def Rn (lt:Nat → Nat → Bool):Nat → List (List Nat) → List (Nat × Nat × Nat) → Prop
 | _,[],[]=>True
 | b,X :: rs,z :: pd=>z.1 = b ∧ z.2.1 = X.length ∧ 0 < X.length ∧ Srt lt X ∧ Rn lt (b + X.length) rs pd
 | _,_,_=>False
theorem Rn.len:∀ {b:Nat} {rs:List (List Nat)} {pd:List (Nat × Nat × Nat)},Rn lt b rs pd → pd.length = rs.length
 | _,[],[],_=>rfl
 | _,_ :: _,_ :: _,h=>congrArg (· + 1) h.2.2.2.2.len
 | _,[],_ :: _,h=>h.elim
 | _,_ :: _,[],h=>h.elim
theorem Rn.many:∀ {b:Nat} {rs:List (List Nat)} {pd:List (Nat × Nat × Nat)},Rn lt b rs pd → rs.length ≤ rs.flatten.length
 | _,[],[],_=>Nat.le_refl _
 | _,X :: rs,_ :: _,h=>by
  have:=h.2.2.2.2.many
  have:=h.2.2.1
  rw [List.flatten_cons,List.length_append,List.length_cons]; omega
 | _,[],_ :: _,h=>h.elim
 | _,_ :: _,[],h=>h.elim
theorem Rn.push:∀ {b:Nat} {rs:List (List Nat)} {pd:List (Nat × Nat × Nat)} (_:Rn lt b rs pd) {X:List Nat} (_:0 < X.length) (_:Srt lt X) {z:Nat × Nat × Nat} (_:z.1 = b + rs.flatten.length) (_:z.2.1 = X.length),Rn lt b (rs ++ [X]) (pd ++ [z])
 | _,[],[],_,_,h1,h2,_,h3,h4=>⟨h3,h4,h1,h2,trivial⟩
 | _,Y :: rs,_ :: _,h,_,h1,h2,_,h3,h4=>⟨h.1,h.2.1,h.2.2.1,h.2.2.2.1,h.2.2.2.2.push h1 h2 (by rw [h3,List.flatten_cons,List.length_append]; exact Nat.le_antisymm (lC 0 2271167496384 T1) (lC 0 2319485832384 T1)) h4⟩
 | _,[],_ :: _,h,_,_,_,_,_,_=>h.elim
 | _,_ :: _,[],h,_,_,_,_,_,_=>h.elim
theorem Rn.at:∀ {i b:Nat} {rs:List (List Nat)} {pd:List (Nat × Nat × Nat)} (_:Rn lt b rs pd) (_:i + 1 < pd.length),∃ rs0 X Y rs1 p q,rs = rs0 ++ X :: Y :: rs1 ∧ 0 < X.length ∧ 0 < Y.length ∧ Srt lt X ∧ Srt lt Y ∧
  pd[i]? = some (b + rs0.flatten.length,X.length,p) ∧ pd[i + 1]? = some (b + rs0.flatten.length + X.length,Y.length,q) ∧ ∀ Z,Z.length = X.length + Y.length → Srt lt Z → Rn lt b (rs0 ++ Z :: rs1) ((pd.set i (b + rs0.flatten.length,X.length + Y.length,p)).eraseIdx (i + 1))
 | 0,b,X :: Y :: rs,z :: z' :: pd,h,_=>by
  obtain ⟨h1,h2,h3,h4,h5,h6,h7,h8,h9⟩:=h
  refine ⟨[],X,Y,rs,z.2.2,z'.2.2,rfl,h3,h7,h4,h8,?_,?_,fun Z hZ sZ=>⟨rfl,hZ.symm,lC 2 0xe12e1121c031 T1 hZ h7,sZ,?_⟩⟩
  ·obtain ⟨z1,z2,z3⟩:=z; cases h1; cases h2; rfl
  ·obtain ⟨z1,z2,z3⟩:=z'; cases h5; cases h6; rfl
  ·rw [hZ,← Nat.add_assoc]; exact h9
 | i + 1,b,X0 :: rs,z :: pd,h,hi=>by
  obtain ⟨h1,h2,h3,h4,h5⟩:=h
  obtain ⟨rs0,X,Y,rs1,p,q,rfl,a1,a2,a3,a4,a5,a6,a7⟩:=h5.at (i:=i) (by simpa using hi)
  have e:b + X0.length + rs0.flatten.length = b + (X0 :: rs0).flatten.length:=by rw [List.flatten_cons,List.length_append]; exact Nat.le_antisymm (lC 0 2319485832384 T1) (lC 0 2271167496384 T1)
  rw [e] at a5 a6 a7
  exact ⟨X0 :: rs0,X,Y,rs1,p,q,rfl,a1,a2,a3,a4,a5,a6,fun Z hZ sZ=>⟨h1,h2,h3,h4,a7 Z hZ sZ⟩⟩
 | 0,_,_ :: [],_ :: _ :: _,h,_=>h.2.2.2.2.elim
 | 0,_,_,[],_,hi=>by cases hi
 | 0,_,_,[_],_,hi=>by simp at hi
 | _ + 1,_,_,[],_,hi=>by cases hi
 | _,_,[],_ :: _,h,_=>h.elim
structure MM (κ:SortKind) (it:Array Keyed) (lt:Nat → Nat → Bool) (st:SortSt) (rs:List (List Nat)) (R:List Nat):Prop where
 s:SS κ it st (rs.flatten ++ R) (pendingOf st)
 r:Rn lt 0 rs (pendingOf st).toList
theorem MM.push {rs rs':List (List Nat)} {R X l:List Nat} {n x lo:Nat} (hp:(rs.flatten ++ R).Perm l) (hX:X.Perm (R.take n)) (sX:Srt lt X) (h1:1 ≤ n) (hn:n ≤ R.length) (hr:rs'.flatten.Perm rs.flatten) (m:MM κ it lt st rs' (X ++ R.drop n)) (hx:x ≤ rs.flatten.length ∨ R = []) (hlo:lo = rs.flatten.length):∃ rs2 R2,((none,lo + n):Option Unit × Nat) = (none,rs2.flatten.length) ∧ (rs2.flatten ++ R2).Perm l ∧ MM κ it lt (setPending st ((pendingOf st).push (lo,n,0))) rs2 R2 ∧ (x + 1 ≤ rs2.flatten.length ∨ R2 = []):=by
 subst hlo
 have Xl:X.length = n:=by rw [hX.length_eq,List.length_take,Nat.min_eq_left hn]
 have fl2:(rs' ++ [X]).flatten = rs'.flatten ++ X:=by simp
 have ln:(rs' ++ [X]).flatten.length = rs.flatten.length + n:=by rw [fl2,List.length_append,hr.length_eq,Xl]
 obtain ⟨⟨a1,a2,a3,a4⟩,r⟩:=m
 refine ⟨rs' ++ [X],R.drop n,by rw [ln],?_,⟨⟨a1,?_,rfl,a4⟩,?_⟩,?_⟩
 ·refine List.Perm.trans ?_ hp
  rw [fl2,List.append_assoc]
  refine List.Perm.trans (hr.append_right _) (List.Perm.append_left _ ?_)
  have:=hX.append_right (R.drop n)
  rwa [List.take_append_drop] at this
 ·rw [fl2,List.append_assoc]; exact a2
 ·show Rn lt 0 _ ((pendingOf st).push (rs.flatten.length,n,0)).toList
  rw [Array.toList_push]
  exact r.push (lB 2 966803918897 T1 Xl h1) sX (by rw [Nat.zero_add,hr.length_eq]) Xl.symm
 ·rcases hx with q | q
  ·exact .inl (by rw [ln]; exact lC 2 0x21ca0c02a011001 T1 q h1)
  ·subst q; exact .inr (by simp)
end
end L3
namespace L3
open PySem PySem.W PyProof.Rows
section
variable {prog:Program} {w:World} {A:Around} {E:Value → Shared → Prop} {s:Shared}
end
end L3
namespace L3
open PySem PySem.W PySem.Spec PyProof.Rows L2
section
variable {X:Cx}
end
end L3
namespace L3
open PySem PySem.Spec PyProof.Rows L2
noncomputable def gK {α:Type} (n:Nat) (us ws:List α):List α:=if us.length = n ∧ ws.length = 1 then us ++ ws else []
noncomputable def ZrP (P:Program) (w:World) (K:PySem.W.Frag) (mg:Str → Option Value) (base:Heap) (k:Nat) (x:Str) (ps:List Str) (F:F3) (dd:List D) (n:Nat) (nm:Str):Prop:=
 (∀ ds M,ds.length ≠ ps.length → F ds M = .bad) ∧ ∃ f fd ds dvs,mg x = some (.ref f) ∧ PySem.W.keepIn K (.ref f) = true ∧ Binds K fd ps [] ∧ Binds K fd ps ds ∧ Vals dvs ds ∧ (∀ H ι,Zab K H ι dd dvs) ∧ ZpL K fd ps [nm] (gK n) (gK n) ∧ Zdw P w K mg base CX0 k f fd ps (sp3 K ps.length F)
section
variable {P:Program} {w:World} {K:PySem.W.Frag} {mg:Str → Option Value} {base:Heap} {dd:List D} {n:Nat} {nm:Str}
theorem ZrP.fn {k:Nat} {x:Str} {ps:List Str} {F:F3} (h:ZrP P w K mg base k x ps F dd n nm):Fn3 P w K mg base k x ps F:=
 let ⟨a,f,fd,_,_,b,c,d,_,_,_,_,e⟩:=h; ⟨a,f,fd,b,c,d,e⟩
end
section
variable {X:Cx} {e e':Expr} {es:List Expr} {pos p kpos:Pos} {gl:EL3} {g:E3} {x nm:Str} {k n:Nat} {ps:List Str} {F:F3} {dd:List D}
end
end L3
namespace L3
open PySem PySem.W PySem.Spec PyProof.Rows L2
@[simp] noncomputable def Zid (a b:D) (M:Store):R3 D:=match a,b with
 | .non,.non=>.ok (.bl false) M
 | .tup _,.non=>.ok (.bl true) M
 | .non,.tup _=>.ok (.bl true) M
 | a,b=>ZcQ a b M
section
variable {X:Cx}
theorem Zo7 (hu:X.A.units + 80 < cLine):OpR X (compareOp .NotEq) (r2 X.K Zid):=by
 intro pins s σ H x y v u Q I rx ry h
 obtain ⟨ι,M,a,b,S,ra,rb,h⟩:=h
 have hu1:X.A.units < cLine:=lB 1 17666545486865 T1 hu
 have old:Zid a b M = ZcQ a b M → wpAny (model X.prog X.w) X.A (compareOp .NotEq v u) (EP X pins σ Q) X.xe s:=fun e=>by
  rw [e] at h
  exact Zg1 hu pins s σ H x y v u Q I rx ry ⟨ι,M,a,b,S,ra,rb,h⟩
 cases a with
 | non=>
  cases b with
  | non=>
   have e1:=ra.non_inv; subst e1
   have e2:=rb.non_inv; subst e2
   cases rx
   cases ry
   exact EqNone.ne_none_none ⟨.bl false,H,I,rfl,Zam.ok h S Rep.bl⟩
  | tup ds=>
   have e1:=ra.non_inv; subst e1
   obtain ⟨p,vs,rfl,sq,r⟩:=rb.tup_inv
   cases rx
   cases ry
   obtain ⟨its,rr,pl,zl⟩:=I.tuple sq
   exact SeqAt.RcNeAt.none_tuple (show s.heap.IsTuple p its.toArray from pl) hu1 X.prog X.w X.xe _ ⟨.bl true,H,I,rfl,Zam.ok h S Rep.bl⟩
  | _=>exact old rfl
 | tup ds=>
  cases b with
  | non=>
   have e1:=rb.non_inv; subst e1
   obtain ⟨p,vs,rfl,sq,r⟩:=ra.tup_inv
   cases rx
   cases ry
   obtain ⟨its,rr,pl,zl⟩:=I.tuple sq
   exact SeqAt.RcNeAt.tuple_none (show s.heap.IsTuple p its.toArray from pl) hu1 X.prog X.w X.xe _ ⟨.bl true,H,I,rfl,Zam.ok h S Rep.bl⟩
  | _=>exact old rfl
 | _=>cases b <;> exact old rfl
end
end L3
namespace L3
open PySem PySem.Spec PyProof.Rows L2
noncomputable abbrev nm (f:List Nat):Str:=⟨f.toArray⟩
theorem Zni {f g:List Nat} (h:nm f = nm g):f = g:=by
 have:=congrArg (fun s:Str=>s.cps.toList) h
 simpa using this
section
variable {K:PySem.W.Frag} {H H':Hp} {ι ι':List Addr} {fs:List (List Nat × D)} {gs:List (Str × V)}
theorem FsR.mono (e:Ext K H ι H' ι') (h:FsR K H ι fs gs):FsR K H' ι' fs gs:=⟨h.1,h.2.mono e⟩
theorem FsR.nil:FsR K H ι [] []:=⟨rfl,Zab.nil⟩
theorem FsR.nil_inv (h:FsR K H ι [] gs):gs = []:=List.map_eq_nil_iff.mp h.1
theorem FsR.cons_inv {f:List Nat} {d:D} (h:FsR K H ι ((f,d) :: fs) gs):∃ v gs',gs = (nm f,v) :: gs' ∧ Rep K H ι d v ∧ FsR K H ι fs gs':=by
 cases gs with
 | nil=>cases h.1
 | cons p gs'=>
  obtain ⟨g,v⟩:=p
  obtain ⟨h1,h2⟩:=h
  rw [List.map_cons,List.map_cons] at h1 h2
  obtain ⟨e1,e2⟩:=List.cons.inj h1
  obtain ⟨v',ws,e,r,q⟩:=h2.cons_inv
  obtain ⟨rfl,rfl⟩:=List.cons.inj e
  exact ⟨v,gs',by rw [show g = nm f from e1],r,e2,q⟩
theorem FsR.cons {f:List Nat} {d:D} {v:V} (r:Rep K H ι d v) (h:FsR K H ι fs gs):FsR K H ι ((f,d) :: fs) ((nm f,v) :: gs):=⟨by rw [List.map_cons,List.map_cons,h.1],Zab.cons r h.2⟩
theorem FsR.length (h:FsR K H ι fs gs):gs.length = fs.length:=by
 have:=congrArg List.length h.1
 simpa using this
theorem FsR.look {f:List Nat}:∀ {fs:List (List Nat × D)} {gs:List (Str × V)},FsR K H ι fs gs → (fs.lookup f = none → gs.lookup (nm f) = none) ∧ ∀ d,fs.lookup f = some d → ∃ v,gs.lookup (nm f) = some v ∧ Rep K H ι d v
 | [],_,h=>by rw [h.nil_inv]; exact ⟨fun _=>rfl,fun d e=>by cases e⟩
 | (g,x) :: fs,_,h=>by
  obtain ⟨v,gs',rfl,r,t⟩:=h.cons_inv
  rw [List.lookup_cons,List.lookup_cons]
  by_cases e:f = g
  ·subst e
   rw [beq_self_eq_true,beq_self_eq_true]
   exact ⟨fun q=>(by cases q),fun d q=>(by cases q; exact ⟨v,rfl,r⟩)⟩
  ·rw [beq_false_of_ne e,beq_false_of_ne fun q=>e (Zni q)]
   exact t.look
theorem FsR.put {f:List Nat} {d:D} {v:V} (r:Rep K H ι d v):∀ {fs:List (List Nat × D)} {gs:List (Str × V)},FsR K H ι fs gs → FsR K H ι (Zg7 f d fs) (ZdX (nm f) v gs)
 | [],_,h=>by rw [h.nil_inv]; exact FsR.cons r FsR.nil
 | (g,x) :: fs,_,h=>by
  obtain ⟨w,gs',rfl,r',t⟩:=h.cons_inv
  unfold Zg7 ZdX
  by_cases e:g = f
  ·subst e
   rw [if_pos rfl,if_pos rfl]; exact FsR.cons r t
  ·rw [if_neg e,if_neg fun q=>e (Zni q)]; exact FsR.cons r' (t.put r)
end
structure ZfM (K:PySem.W.Frag) (c:List Nat) (C:Addr):Prop where
 at_:ClsAt K c C
 cls:Cls K C
 nz:c.head? ≠ some 0
theorem ZfM.same {K:PySem.W.Frag} {c:List Nat} {C C':Addr} (h:ZfM K c C) (q:ClsAt K c C'):C' = C:=by
 have:=q.symm.trans h.at_
 cases this; rfl
section
variable {X:Cx} {o e:Expr} {es:List Expr} {f g:E3} {gl:EL3} {c m:List Nat} {C:Addr} {fn:Str} {pos pos' apos p:Pos} {x:Str}
theorem ZgB {M:Store} {n:Nat} {H:Hp} {ι:List Addr} {a:Addr} (kc:ZfM X.K c C) (S:Zat X.K H ι M) (ha:ι[n]? = some a) {fs:List (List Nat × D)} (hn:M[n]? = some (.ins c fs)):∃ dx gs,H a = some (.ins C dx gs) ∧ FsR X.K H ι fs gs:=by
 rcases S.obj n _ a hn ha with ⟨C',dx,gs,q,ca,fr⟩ | ⟨_,_,z,_⟩
 ·rw [kc.same ca.1] at q
  exact ⟨dx,gs,q,fr⟩
 ·exact absurd z kc.nz
theorem Zje (kc:ZfM X.K c C) (nf:ZdQ X.K C (nm m)) (he:C3 X e f) (hf:fn = nm m:=by decide +kernel) (hb:attributeBase e fn X.env (eval e X.env) = eval e X.env:=by rfl):C3 X (.Attribute e fn pos) (e1 (ZdK c m) f):=by
 subst hf
 refine (ZqI he hb).imp fun σ H Q zz1=>?_
 obtain ⟨ι,M,env,S,E,h⟩:=zz1
 obtain ⟨d,M1,e1,hh⟩:=Zam.bind h
 refine ⟨ι,M,env,S,E,?_⟩
 rw [e1]
 intro v H1 ι1 x1 S1 r1
 cases d with
 | ref n=>
  simp only [ZdK] at hh
  cases hn:M1[n]? with
  | none=>simp only [hn] at hh; exact hh.elim
  | some ob=>
   cases ob with
   | ins c' fs=>
    simp only [hn] at hh
    split at hh
    ·rename_i ec
     subst ec
     obtain ⟨a,ha,rfl⟩:=r1.ref_inv
     obtain ⟨dx,gs,q,fr⟩:=ZgB kc S1 ha hn
     split at hh
     ·rename_i d hl
      obtain ⟨w,lw,rw'⟩:=(fr.look (f:=m)).2 d hl
      exact ⟨a,C,dx,gs,w,rfl,q,kc.cls,nf,lw,hh w H1 ι1 x1 S1 rw'⟩
     ·exact hh.elim
    ·exact hh.elim
   | _=>simp only [hn] at hh; exact hh.elim
 | _=>exact hh.elim
theorem Znk (kc:ZfM X.K c C) (nf:ZdQ X.K C (nm m)) (ho:C3 X o f) (hv:C3 X e g) (hf:fn = nm m:=by decide +kernel) (hs:swapsWith e (some (.Attribute o fn pos')) pos.line X.env = pure false:=by rfl):CS X (.Assign [.Attribute o fn pos'] e pos) (ZmS c m f g):=by
 subst hf
 refine (ZpT ho hv hs).imp fun D' σ H zz1=>?_
 obtain ⟨ι,M,env,S,E,hh⟩:=zz1
 have hh:=Zjs E hh
 obtain ⟨d,M1,e1,hh⟩:=Zam.bind hh
 obtain ⟨b,M2,e2,hh⟩:=Zam.bind hh
 refine ⟨ι,M,env,S,E,?_⟩
 rw [e1]
 intro y H1 ι1 x1 S1 r1
 refine ⟨ι1,M1,env,S1,E.mono x1,?_⟩
 rw [e2]
 intro w H2 ι2 x2 S2 r2
 cases b with
 | ref n=>
  simp only [Zf9] at hh
  cases hn:M2[n]? with
  | none=>simp only [hn] at hh; exact hh.elim
  | some ob=>
   cases ob with
   | ins c' fs=>
    simp only [hn] at hh
    split at hh
    ·rename_i ec
     obtain ⟨ec,lf⟩:=ec
     subst ec
     obtain ⟨a,ha,rfl⟩:=r2.ref_inv
     obtain ⟨dx,gs,q,fr⟩:=ZgB kc S2 ha hn
     have l0:Loose H2 a:=.inr (.inr (.inr ⟨C,dx,gs,q⟩))
     have x3:Ext X.K H2 ι2 (upd H2 a (.ins C dx (ZdX (nm m) y gs))) ι2:=l0.ext
     have S3:Zat X.K (upd H2 a (.ins C dx (ZdX (nm m) y gs))) ι2 (M2.set n (.ins c' (Zg7 m d fs))):=S2.put l0 ha (.inl ⟨C,dx,_,Zcx,⟨kc.at_,kc.nz⟩,(fr.put (r1.mono x2)).mono x3⟩)
     exact ⟨a,C,dx,gs,rfl,q,kc.cls,nf,by rw [fr.length]; exact lf,hh .non _ _ ((x1.trans x2).trans x3) S3 Rep.non⟩
    ·exact hh.elim
   | _=>simp only [hn] at hh; exact hh.elim
 | _=>exact hh.elim
noncomputable def Zf4 (P:Program) (w:World) (K:PySem.W.Frag) (mg:Str → Option Value) (base:Heap) (k:Nat) (C:Addr) (m:Str) (ps:List Str) (F:F3):Prop:=
 (∀ ds M,ds.length ≠ ps.length → F ds M = .bad) ∧ ∃ f fd,Meth K C m f ∧ Binds K fd ps [] ∧ Zdw P w K mg base CX0 k f fd ps (sp3 K ps.length F)
theorem ZjK {ps:List Str} {F:F3} {a:D} {M1:Store} {n:Nat} (hi:Zia c m a M1 = true):∃ n fs,a = .ref n ∧ M1[n]? = some (.ins c fs) ∧ fs.lookup m = none:=by
 cases a with
 | ref n=>
  simp only [Zia] at hi
  cases hn:M1[n]? with
  | none=>simp [hn] at hi
  | some ob=>
   cases ob with
   | ins c' fs=>
    simp only [hn,Bool.and_eq_true,decide_eq_true_eq,Option.isNone_iff_eq_none] at hi
    obtain ⟨rfl,hl⟩:=hi
    exact ⟨n,fs,rfl,hn,hl⟩
   | _=>simp [hn] at hi
 | _=>simp at hi
theorem Znj {k:Nat} {ps:List Str} {F:F3} {pl:Sem Bool} (kc:ZfM X.K c C) (G:Zf4 X.prog X.w X.K X.mg X.base k C fn ps F) (hr:ZbB k X.A) (ho:C3 X o f) (ha:CA X (e :: es) gl) (hf:fn = nm m:=by decide +kernel)
  (hst:starEach (e :: es) X.env = (false,eval e X.env) :: starEach es X.env:=by rfl) (hpl:(backTo pos (starEach es X.env)).any (·.1) = false:=by rfl)
  (ht:eval (.Call (.Attribute o fn apos) (e :: es) [] pos) X.env = (do
   let ov ← eval o X.env
   standAt apos.atName
   let (f,first) ← holding [ov] (getMethod ov fn pl)
   callWith pos f first (backTo pos (starEach (e :: es) X.env)) (backToKw pos (keywordEach [] X.env))):=by rfl):C3 X (.Call (.Attribute o fn apos) (e :: es) [] pos) (ZbI c m F f gl):=by
 subst hf
 obtain ⟨hn,fa,fd,mt,bi,ok⟩:=G
 refine (Zn7 ho kc.cls mt ok hr bi .nil ZkQ ha hst hpl ht).imp fun σ H Q zz1=>?_
 obtain ⟨ι,M,env,S,E,h⟩:=zz1
 obtain ⟨a,M1,e1,h⟩:=Zam.bind h
 refine ⟨ι,M,env,S,E,?_⟩
 rw [e1]
 intro v H1 ι1 x1 S1 r1
 split at h
 ·rename_i hi
  obtain ⟨n,fs,rfl,hm,hl⟩:=ZjK (ps:=ps) (F:=F) (n:=0) hi
  obtain ⟨p,hp,rfl⟩:=r1.ref_inv
  obtain ⟨dx,gs,q,fr⟩:=ZgB kc S1 hp hm
  refine ⟨p,dx,gs,rfl,q,(fr.look (f:=m)).1 hl,?_⟩
  obtain ⟨ds,M2,e2,h⟩:=Zam.bind h
  refine ⟨ι1,M1,env,S1,E.mono x1,?_⟩
  rw [e2]
  intro vs H2 ι2 x2 S2 r2
  have hl:(D.ref n :: ds).length = ps.length:=by
   refine Decidable.byContradiction fun q=>?_
   rw [hn _ M2 q] at h
   exact h.elim
  exact ⟨ι2,M2,_,S2,by rw [List.append_nil]; exact Zab.cons (r1.mono x2) r2,hl,h.up (x1.trans x2)⟩
 ·exact h.elim
theorem ZfB {k:Nat} {ps:List Str} {F:F3} {pl:Sem Bool} (kc:ZfM X.K c C) (G:Zf4 X.prog X.w X.K X.mg X.base k C fn ps F) (hr:ZbB k X.A) (ho:C3 X o f) (hf:fn = nm m:=by decide +kernel)
  (ht:eval (.Call (.Attribute o fn apos) [] [] pos) X.env = (do
   let ov ← eval o X.env
   standAt apos.atName
   let (f,first) ← holding [ov] (getMethod ov fn pl)
   callWith pos f first (backTo pos (starEach [] X.env)) (backToKw pos (keywordEach [] X.env))):=by rfl):C3 X (.Call (.Attribute o fn apos) [] [] pos) (ZbI c m F f Zh):=by
 subst hf
 obtain ⟨hn,fa,fd,mt,bi,ok⟩:=G
 refine (ZmD ho kc.cls mt ok hr bi .nil ZkQ ht).imp fun σ H Q zz1=>?_
 obtain ⟨ι,M,env,S,E,h⟩:=zz1
 obtain ⟨a,M1,e1,h⟩:=Zam.bind h
 refine ⟨ι,M,env,S,E,?_⟩
 rw [e1]
 intro v H1 ι1 x1 S1 r1
 split at h
 ·rename_i hi
  obtain ⟨n,fs,rfl,hm,hl⟩:=ZjK (ps:=ps) (F:=F) (n:=0) hi
  obtain ⟨p,hp,rfl⟩:=r1.ref_inv
  obtain ⟨dx,gs,q,fr⟩:=ZgB kc S1 hp hm
  refine ⟨p,dx,gs,rfl,q,(fr.look (f:=m)).1 hl,?_⟩
  have hl:([D.ref n]:List D).length = ps.length:=by
   refine Decidable.byContradiction fun q=>?_
   have h':Zam X.K H ι Q (F [.ref n] M1):=h
   rw [hn _ M1 q] at h'
   exact h'.elim
  exact ⟨ι1,M1,[.ref n],S1,Zab.cons r1 Zab.nil,hl,Zam.up x1 h⟩
 ·exact h.elim
theorem Zqh {k:Nat} {ps:List Str} {F:F3} {fa:Addr} {fd:FuncData} (at_:ClsAt X.K c C ∧ c.head? ≠ some 0) (Mc:Mk X.K C fa) (hF:∀ ds M,ds.length ≠ ps.length → F ds M = .bad) (ok:Zdw X.prog X.w X.K X.mg X.base CX0 k fa fd ps (sp3 X.K ps.length F)) (bi:Binds X.K fd ps []) (hm:X.mg x = some (.ref C)) (hr:ZbB (k + 1) X.A) (ha:CA X (e :: es) gl) (hg:Gl X x:=by rfl)
  (hdb:(x == ("__debug__":Str)) = false:=by decide) (he:starEach (e :: es) X.env = (false,eval e X.env) :: starEach es X.env:=by rfl) (hpl:(backTo pos (starEach es X.env)).any (·.1) = false:=by rfl):C3 X (.Call (.Name x p) (e :: es) [] pos) (Zgp c F gl):=by
 refine (Zog Mc ok hr hg hm bi .nil ZkQ ha hdb he hpl).imp fun σ H Q zz1=>?_
 obtain ⟨ι,M,env,S,E,h⟩:=zz1
 obtain ⟨ds,M1,e1,h⟩:=Zam.bind h
 refine ⟨ι,M,env,S,E,?_⟩
 rw [e1]
 intro vs H1 ι1 x1 S1 r1 y dx hy hd ne
 have y2:upd H1 dx (.own y) y = none:=by rw [ZaX (Ne.symm ne)]; exact hy
 have x2:Ext X.K H1 ι1 (upd H1 dx (.own y)) ι1:=Loose.ext (.inl hd)
 have S2:Zat X.K (upd H1 dx (.own y)) ι1 M1:=S1.other (.inl hd) (S1.fresh hd)
 have x3:Ext X.K (upd H1 dx (.own y)) ι1 (upd (upd H1 dx (.own y)) y (.ins C dx [])) (ι1 ++ [y]):=Loose.extA (.inl y2)
 have S3:Zat X.K (upd (upd H1 dx (.own y)) y (.ins C dx [])) (ι1 ++ [y]) (M1 ++ [.ins c []]):=S2.new y2 (.inl ⟨C,dx,[],Zcx,at_,FsR.nil⟩)
 have hy':(ι1 ++ [y])[M1.length]? = some y:=by rw [← S1.len]; simp
 have rr:Rep X.K (upd (upd H1 dx (.own y)) y (.ins C dx [])) (ι1 ++ [y]) (.ref M1.length) (.ref y):=Rep.ref hy'
 cases q:F (.ref M1.length :: ds) (M1 ++ [.ins c []]) with
 | bad=>simp only [q] at h; exact h.elim
 | exc _ _=>simp only [q] at h; exact h.elim
 | ok d M2=>
  have hl:(D.ref M1.length :: ds).length = ps.length:=by
   refine Decidable.byContradiction fun z=>?_
   rw [hF _ _ z] at q; cases q
  refine ⟨ι1 ++ [y],M1 ++ [.ins c []],.ref M1.length :: ds,S3,by rw [List.append_nil]; exact Zab.cons rr ((r1.mono x2).mono x3),hl,?_⟩
  rw [q]
  simp only [q] at h
  cases d with
  | non=>
   intro v H4 ι4 x4 S4 r4
   exact ⟨r4.non_inv,h _ H4 ι4 (((x1.trans x2).trans x3).trans x4) S4 (rr.mono x4)⟩
  | _=>exact h.elim
end
noncomputable def ZgE (s:Stmt):List Stmt:=match s with
 | .ClassDef _ _ _ b _ _ _ _ _ _ _=>b
 | _=>[]
noncomputable def Zgo (K:PySem.W.Frag) (C:Addr) (m qual:Str) (st:Stmt) (ps:List Str):Prop:=∃ f fd,Fun K m qual st f fd ∧ Meth K C m f ∧ Binds K fd ps []
noncomputable def ZnQ (K:PySem.W.Frag) (C:Addr) (qual:Str) (st:Stmt) (ps:List Str):Prop:=∃ f fd,Fun K "__init__" qual st f fd ∧ Mk K C f ∧ Binds K fd ps []
noncomputable def Mk3 (P:Program) (w:World) (K:PySem.W.Frag) (mg:Str → Option Value) (base:Heap) (k:Nat) (C:Addr) (ps:List Str) (F:F3):Prop:=
 (∀ ds M,ds.length ≠ ps.length → F ds M = .bad) ∧ ∃ f fd,Mk K C f ∧ Binds K fd ps [] ∧ Zdw P w K mg base CX0 k f fd ps (sp3 K ps.length F)
section
variable {P:Program} {w:World} {K:PySem.W.Frag} {mg:Str → Option Value} {base:Heap} {C f:Addr} {m qual:Str} {st:Stmt} {N ps:List Str} {k:Nat} {body:S3} {oc:Value} {od an:Option Addr} {osl:Array (Option Value)} {dV kV doc pm cdv ct:Value}
theorem Zg2 (a:PySem.W.findIn K (.ref C) m = some (some (.ref f))) (i:PySem.W.isFn K (.ref f) = true) (l:K.lookup f = some ⟨oc,od,.func (PySem.W.fnOf m qual (Zal st) (Zah st) (Zm st) dV kV doc pm an cdv ct),osl⟩)
  (c:PySem.W.codeIn K cdv qual = true) (kp:PySem.W.keepIn K (.ref f) = true) (b:Binds K (PySem.W.fnOf m qual (Zal st) (Zah st) (Zm st) dV kV doc pm an cdv ct) ps []):Zgo K C m qual st ps:=
 ⟨f,_,⟨⟨oc,od,dV,kV,doc,pm,an,cdv,ct,osl,rfl,l,c⟩,kp⟩,⟨a,i,kp⟩,b⟩
theorem Zn1 (mk:PySem.W.makesIn K C = true) (kc:PySem.W.keepIn K (.ref C) = true) (a:PySem.W.findIn K (.ref C) "__init__" = some (some (.ref f))) (i:PySem.W.isFn K (.ref f) = true) (l:K.lookup f = some ⟨oc,od,.func (PySem.W.fnOf "__init__" qual (Zal st) (Zah st) (Zm st) dV kV doc pm an cdv ct),osl⟩)
  (c:PySem.W.codeIn K cdv qual = true) (kp:PySem.W.keepIn K (.ref f) = true) (b:Binds K (PySem.W.fnOf "__init__" qual (Zal st) (Zah st) (Zm st) dV kV doc pm an cdv ct) ps []):ZnQ K C qual st ps:=
 ⟨f,_,⟨⟨oc,od,dV,kV,doc,pm,an,cdv,ct,osl,rfl,l,c⟩,kp⟩,⟨mk,a,i,kc⟩,b⟩
theorem Zf4.of (d:Zgo K C m qual st ps) (S:Zaq N ps (Zm st))
  (hb:∀ (f:Addr) (cdv:Value) (A:Around) (outer:List Env) (s:Shared) (H:Hp) (E:XK),ZbB k (A.deeper (envOfC qual (Zm st) s.heap.objs.size f cdv)) → CSs (ZhM CX0 P w K mg base N qual (Zm st) f cdv A outer s H E).nox (Zah st) body):
  Zf4 P w K mg base (k + 1) C m ps (mkF ps.length N.length body):=by
 obtain ⟨f,fd,F,mt,bi⟩:=d
 exact ⟨fun ds M h=>if_neg h,f,fd,mt,bi,fn3 F S (hb f)⟩
theorem Mk3.of (d:ZnQ K C qual st ps) (S:Zaq N ps (Zm st))
  (hb:∀ (f:Addr) (cdv:Value) (A:Around) (outer:List Env) (s:Shared) (H:Hp) (E:XK),ZbB k (A.deeper (envOfC qual (Zm st) s.heap.objs.size f cdv)) → CSs (ZhM CX0 P w K mg base N qual (Zm st) f cdv A outer s H E).nox (Zah st) body):
  Mk3 P w K mg base (k + 1) C ps (mkF ps.length N.length body):=by
 obtain ⟨f,fd,F,mk,bi⟩:=d
 exact ⟨fun ds M h=>if_neg h,f,fd,mk,bi,fn3 F S (hb f)⟩
end
theorem Zsc {X:Cx} {e:Expr} {es:List Expr} {gl:EL3} {c:List Nat} {C:Addr} {pos p:Pos} {x:Str} {k:Nat} {ps:List Str} {F:F3} (kc:ZfM X.K c C) (G:Mk3 X.prog X.w X.K X.mg X.base k C ps F) (hm:X.mg x = some (.ref C)) (hr:ZbB (k + 1) X.A) (ha:CA X (e :: es) gl) (hg:Gl X x:=by rfl)
  (hdb:(x == ("__debug__":Str)) = false:=by decide) (he:starEach (e :: es) X.env = (false,eval e X.env) :: starEach es X.env:=by rfl) (hpl:(backTo pos (starEach es X.env)).any (·.1) = false:=by rfl):C3 X (.Call (.Name x p) (e :: es) [] pos) (Zgp c F gl):=by
 obtain ⟨hF,f,fd,mk,bi,ok⟩:=G
 exact Zqh ⟨kc.at_,kc.nz⟩ mk hF ok bi hm hr ha hg hdb he hpl
end L3
namespace L3
open PySem PySem.Spec PyProof.Rows L2
set_option maxRecDepth 100000
@[simp] noncomputable def Zcb (o:D) (ds:List D) (M:Store):R3 D:=match o,ds with
 | .ref n,[]=>match M[n]? with
  | some (.lst x)=>.ok .non (M.set n (.lst x.reverse))
  | _=>.bad
 | _,_=>.bad
section
variable {X:Cx} {o e:Expr} {es:List Expr} {apos cpos:Pos} {f:E3} {gl:EL3}
theorem Zab.rev {K:PySem.W.Frag} {H:Hp} {ι:List Addr}:∀ {ds:List D} {vs:List V},Zab K H ι ds vs → Zab K H ι ds.reverse vs.reverse
 | [],_,h=>by rw [h.nil_inv]; exact Zab.nil
 | d :: ds,_,h=>by
  obtain ⟨v,us,rfl,r,t⟩:=h.cons_inv
  rw [List.reverse_cons,List.reverse_cons]
  exact t.rev.append (Zab.cons r Zab.nil)
theorem Zls:MtR X "list.reverse" (rM X.K Zcb):=MtR.imp (r:=Zi9) ZjW fun x xs H Q zz1=>by
 obtain ⟨ι,M,a,ds,S,ra,rd,h⟩:=zz1
 cases a with
 | ref n=>
  cases ds with
  | cons _ _=>exact h.elim
  | nil=>
   have:=rd.nil_inv
   subst this
   obtain ⟨p,hp,rfl⟩:=ra.ref_inv
   cases hn:M[n]? with
   | none=>simp only [Zcb,hn] at h; exact h.elim
   | some o=>
    cases o with
    | dct _=>simp only [Zcb,hn] at h; exact h.elim
    | fdct _=>simp only [Zcb,hn] at h; exact h.elim
    | ins _ _=>simp only [Zcb,hn] at h; exact h.elim
    | lst z=>
     simp only [Zcb,hn] at h
     obtain ⟨vs,e,rv⟩:=S.obj n _ p hn hp
     obtain ⟨x2,S2⟩:=S.setl (.inr (.inl ⟨_,e⟩)) hp rv.rev
     exact ⟨p,vs,rfl,rfl,e,h _ _ _ x2 S2 Rep.non⟩
 | _=>cases ds <;> exact h.elim
theorem ZgS (ho:C3 X o f) (hbase:attributeBase o "reverse" X.env (eval o X.env) = eval o X.env:=by rfl) (hline:(apos.endLine == cpos.line) = true:=by rfl):C3 X (.Call (.Attribute o "reverse" apos) [] [] cpos) (Zbl tyL Zcb f (Zh)):=
 (Zqb PySem.F.plainAttrs_list PySem.F.slot_list_reverse PySem.F.type_list_reverse Zls ho hbase hline).imp (Zol Zmx)
end
end L3
namespace L3
open PySem PySem.Spec PyProof.Rows L2
theorem Zqu {P:Program} {w:World} {H:Hp} {h:Heap} {e C:Addr} (x:ExO e C h):Zbj P w H h e (exH e C):=
 ⟨x,(let ⟨o,_,q,_⟩:=x; ⟨o,q⟩),fun _ _ z k=>let ⟨o,vs,a,b,c⟩:=z; ⟨o,vs,k o a,b,c⟩⟩
noncomputable def ZnE (B:Heap) (l:List Env) (e C:Addr) (h:Heap):Prop:=
 ∃ a0,Heap.FlyingW B l e (.ref C) a0 h ∨ (B.StaysIn h ∧ B.get? e = none ∧ h.FunFrames B l ∧ ∃ oe vs,h.get? e = some oe ∧ oe.cls = .ref C ∧ oe.data = .fields vs ∧ vs[0]? = some a0 ∧ vs[1]? = some .none)
section
variable {B h h':Heap} {l:List Env} {e C:Addr}
theorem ZnE.stays (f:ZnE B l e C h):B.StaysIn h:=by
 obtain ⟨a0,f | f⟩:=f
 ·exact f.1
 ·exact f.1
end
section
variable {M:Model} {A:Around} {E:Value → Shared → Prop} {s:Shared} {B:Heap} {env:Env} {outer:List Env} {L e C:Addr} {Q:Unit → Shared → Prop}
end
structure Cov (B:Heap) (fs ex:List Addr) (H₀:Hp) (h₀:Heap) (H:Hp) (e:Addr):Prop where
 trk:∀ b,H b ≠ none → b ≠ e → ∃ o,B.get? b = some o
 old:∀ b o,h₀.get? b = some o → H₀ b = none → b ∉ fs → b ∉ ex → B.get? b = some o
 there:∀ b o,h₀.get? b = some o → b ∉ fs → b ∉ ex → ∃ o',B.get? b = some o'
section
variable {B h h' h₀:Heap} {fs ex:List Addr} {H H₀:Hp} {e C:Addr} {P:Program} {w:World}
theorem Cov.hok (c:Cov B fs ex H₀ h₀ H e) (ok:HOk P w H h) (he:H e = some (exH e C)) (s1:B.StaysIn h) (s2:B.StaysIn h') (x:ExO e C h'):HOk P w H h':=fun b u q=>by
 by_cases hb:b = e
 ·subst hb; rw [he] at q; cases q; exact Zqu x
 ·refine (ok b u q).stay (fun d v hd z=>?_) (fun _ z=>z) fun _ _ z=>z
  have hd':H d ≠ none ∧ d ≠ e:=by
   rcases hd with rfl | hd
   ·exact ⟨by rw [q]; simp,hb⟩
   ·exact ⟨by rw [hd]; simp,by rintro rfl; rw [he] at hd; cases hd⟩
  obtain ⟨o,ho⟩:=c.trk d hd'.1 hd'.2
  have:=(s1 d o ho).symm.trans z
  cases this
  exact s2 d _ ho
theorem Cov.un (c:Cov B fs ex H₀ h₀ H e) (u:Un fs ex H₀ H h₀ h) (s2:B.StaysIn h') (sl:h.UpToSlots h') (nf:∀ b ∈ fs,H₀ b = none ∧ ∀ o,h₀.get? b = some o → ∀ vs,o.data ≠ .fields vs):Un fs ex H₀ H h₀ h' where
 keep:=fun b o q n hb hx=>s2 b o (c.old b o q n hb hx)
 slot:=fun b o q n hb hx=>by
  obtain ⟨s,e1⟩:=u.slot b o q n hb hx
  obtain ⟨s',e2⟩:=sl b _ e1 ((nf b hb).2 o q)
  exact ⟨s',e2⟩
 free:=u.free
 there:=fun b o q hx=>by
  by_cases hb:b ∈ fs
  ·obtain ⟨s,e1⟩:=u.slot b o q (nf b hb).1 hb hx
   obtain ⟨s',e2⟩:=sl b _ e1 ((nf b hb).2 o q)
   exact ⟨_,e2⟩
  ·exact let ⟨o',z⟩:=c.there b o q hb hx; ⟨o',s2 b o' z⟩
 tups:=u.tups
 frzs:=u.frzs
 tbls:=u.tbls
end
noncomputable def CXr (P:Program) (w:World):CXT:=fun outer H s E ev s'=>∃ e C H' B,ev = .ref e ∧ s'.os = s.os ∧ AllBare s'.gens ∧ Un (frs outer) [] H H' s.heap s'.heap ∧ HOk P w H' s'.heap ∧ H' e = some (exH e C) ∧
 ZnE B outer e C s'.heap ∧ Cov B (frs outer) [] H s.heap H' e ∧ E (.ref C) (some e) H'
section
variable {X:Cx} {pins:List (Addr × Obj)} {σ:St} {H:Hp} {s s':Shared}
end
noncomputable def Zq4 (K:PySem.W.Frag) (H:Hp) (ι:List Addr) (Q:VK) (E:XK) (r:R3 D):Prop:=match r with
 | .ok d M'=>∀ v H' ι',Ext K H ι H' ι' → Zat K H' ι' M' → Rep K H' ι' d v → Q v H'
 | .exc x M'=>∀ e C H' ι',Ext K H ι H' ι' → Zat K H' ι' M' → Rep K H' ι' x.arg (.ref e) → ClsAt K x.cls C → E (.ref C) (some e) H'
 | .bad=>False
theorem Zam.x {K:PySem.W.Frag} {H:Hp} {ι:List Addr} {Q:VK} {E:XK} {r:R3 D} (h:Zam K H ι Q r):Zq4 K H ι Q E r:=by
 cases r with
 | ok d M=>exact h
 | exc x M=>exact h.elim
 | bad=>exact h
noncomputable def ZrB (K:PySem.W.Frag) (n:Nat) (F:F3):Sp:=fun vs H Q E=>∃ ι M ds,Zat K H ι M ∧ Zab K H ι ds vs ∧ ds.length = n ∧ Zq4 K H ι Q E (F ds M)
section
variable {X:Cx} {any:Bool} {st:Stmt} {sts:List Stmt} {e c1:Expr} {f:E3} {u w:S3} {pos:Pos}
end
section
variable {P:Program} {w:World} {K:PySem.W.Frag} {mg:Str → Option Value} {base:Heap}
end
end L3
namespace L3
open PySem PySem.Spec PyProof.Rows L2
section
variable {P:Program} {w:World} {K:PySem.W.Frag} {mg:Str → Option Value} {base:Heap}
theorem ZoL {k n:Nat} {f:Addr} {fd:FuncData} {ps:List Str} {F:F3} (G:Zdw P w K mg base (CXr P w) k f fd ps (ZrB K n F)):Zdw P w K mg base CX0 k f fd ps (sp3 K n F):=
 ⟨fun vs H Q E z=>let ⟨ι,M,ds,S,r,l,h⟩:=z; G.len vs H Q E0 ⟨ι,M,ds,S,r,l,h.x⟩,fun A outer s H args us vs Q E hr he hb hv z=>let ⟨ι,M,ds,S,r,l,h⟩:=z; codeAny_mono (G.run A outer s H args us vs Q E0 hr he hb hv ⟨ι,M,ds,S,r,l,h.x⟩) fun r s' z=>by
  cases r with
  | error e=>obtain ⟨_,_,_,_,_,_,_,_,_,_,_,_,z⟩:=z; exact z.elim
  | ok fl=>cases fl <;> exact z⟩
noncomputable def FnX (P:Program) (w:World) (K:PySem.W.Frag) (mg:Str → Option Value) (base:Heap) (k:Nat) (x:Str) (ps:List Str) (F:F3):Prop:=
 (∀ ds M,ds.length ≠ ps.length → F ds M = .bad) ∧ ∃ f fd,mg x = some (.ref f) ∧ PySem.W.keepIn K (.ref f) = true ∧ Binds K fd ps [] ∧ Zdw P w K mg base (CXr P w) k f fd ps (ZrB K ps.length F)
theorem FnX.fn {k:Nat} {x:Str} {ps:List Str} {F:F3} (h:FnX P w K mg base k x ps F):Fn3 P w K mg base k x ps F:=let ⟨n,f,fd,a,b,c,d⟩:=h; ⟨n,f,fd,a,b,c,ZoL d⟩
end
section
variable {X:Cx} {o e:Expr} {es:List Expr} {f:E3} {gl:EL3} {c m:List Nat} {C:Addr} {fn x:Str} {pos pos' apos p:Pos} {k:Nat} {ps:List Str} {F:F3}
end
end L3
namespace L3
open PySem PySem.Spec PyProof.Rows L2
section
variable {X:Cx} {pins:List (Addr × Obj)} {σ:St} {H:Hp} {s:Shared}
end
end L3
namespace PySem.W
open PySem PySem.Spec PySem.Calls PyProof.Rows Builtin Builtin.ObjectAttr Builtin.Getset_descriptor
section
variable {prog:Program} {w:World} {K:Frag} {x D:Addr}
noncomputable def ZoV (x D:Addr) (h:Heap):Prop:=∃ o,h.get? x = some o ∧ o.cls = .ref D
theorem ZoV.ty {h:Heap} (p:ZoV x D h) (M:Model):Looks M h (typeOf (.ref x)) (.ref D):=by
 obtain ⟨o,a,b⟩:=p
 exact b ▸ (Looks.ld a).andThen .now
end
end PySem.W
namespace L3
open PySem PySem.Spec PyProof.Rows L2
section
variable {X:Cx} {a:Expr} {es:List Expr} {f:E3} {p p1 p2 pos pt:Pos} {x:Str} {C:Addr} {vs:List V} {yes no:List (List Nat)}
end
end L3
namespace L3
open PySem PySem.Spec PyProof.Rows L2
section
variable {K:PySem.W.Frag} {h:Heap} {a:Addr} {oc:Value} {od:Option Addr} {es:Array DictEntry} {ep:Nat} {sl:Array (Option Value)}
end
end L3
set_option maxHeartbeats 400000
namespace Law
open PySem L3
noncomputable section
noncomputable def ZdR:S3:=Zaw (ZaY (Za (eC (.int 0)) (Za (ZaN Zca (Za (Zb 0) (Zh))) (Za (ZaY (Zh)) (Zh)))))
noncomputable def Zbp:F3:=mkF 1 1 ZdR
noncomputable def ZfG:S3:=Zx (sIf (e2 ZaS (e2 Zi (Zb 0) (eC (.int 0))) (eC (.str [106,117,109,112]))) (Zaw (e2 Zi (Zb 0) (eC (.int 1)))) (Zas)) (Zx (sIf (Zdt (e2 ZaS (e2 Zi (Zb 0) (eC (.int 0))) (eC (.str [119,104,101,110]))) (e2 Zey (e2 Zi (Zb 2) (e2 Zi (Zb 0) (eC (.int 1)))) (eC (.int 0)))) (Zaw (e2 Zi (Zb 0) (eC (.int 2)))) (Zas)) (Zaw (e2 Zak (Zb 1) (eC (.int 1)))))
noncomputable def Zcy:F3:=mkF 3 3 ZfG
noncomputable def ZeG:S3:=Zx (sIf (e2 ZaS (Zb 0) (eC (.str [97,100,100]))) (Zaw (e2 Zak (Zb 1) (Zb 2))) (Zas)) (Zx (sIf (e2 ZaS (Zb 0) (eC (.str [115,117,98]))) (Zaw (e2 ZbU (Zb 1) (Zb 2))) (Zas)) (Zaw (eIf (e2 Zey (Zb 1) (Zb 2)) (eC (.int 1)) (eC (.int 0)))))
noncomputable def ZbR:F3:=mkF 3 3 ZeG
noncomputable def Zhn:S3:=Zaw (e2 Zak (e2 Zak (eSl (Zb 0) (Zb8) (Zb9 (Zb 1))) (ZaY (Za (Zb 2) (Zh)))) (eSl (Zb 0) (Zb9 (e2 Zak (Zb 1) (eC (.int 1)))) (Zb8)))
noncomputable def ZbS:F3:=mkF 3 3 Zhn
noncomputable def ZfJ:S3:=Zaw (Zbl Zgs ZgL (ZaN Zc7 (Za (Zb 0) (Zh))) (Za (Zb 1) (Za (eC (.int 0)) (Zh))))
noncomputable def ZcH:F3:=mkF 2 2 ZfJ
noncomputable def Zei:S3:=Zx (Zaf 3 (e2 Zi (Zb 0) (eC (.int 0)))) (Zx (sIf (e2 ZaS (Zb 3) (eC (.str [112,117,116]))) (Zaw (Zae ZbS (Za (Zb 1) (Za (e2 Zi (Zb 0) (eC (.int 1))) (Za (e2 Zi (Zb 0) (eC (.int 2))) (Zh)))))) (Zas)) (Zx (sIf (e2 ZaS (Zb 3) (eC (.str [103,101,116]))) (Zaw (Zae ZbS (Za (Zb 1) (Za (e2 Zi (Zb 0) (eC (.int 1))) (Za (Zae ZcH (Za (Zb 2) (Za (e2 Zi (Zb 1) (e2 Zi (Zb 0) (eC (.int 2)))) (Zh)))) (Zh)))))) (Zas)) (Zx (sIf (e2 Zm3 (Zb 3) (ZaY (Za (eC (.str [97,100,100])) (Za (eC (.str [115,117,98])) (Za (eC (.str [109,111,114,101])) (Zh)))))) (Zaw (Zae ZbS (Za (Zb 1) (Za (e2 Zi (Zb 0) (eC (.int 1))) (Za (Zae ZbR (Za (Zb 3) (Za (e2 Zi (Zb 1) (e2 Zi (Zb 0) (eC (.int 2)))) (Za (e2 Zi (Zb 1) (e2 Zi (Zb 0) (eC (.int 3)))) (Zh))))) (Zh)))))) (Zas)) (Zaw (Zb 1)))))
noncomputable def Zcw:F3:=mkF 3 4 Zei
noncomputable def ZdA:S3:=Zx (Zaf 3 (eLC (ZfV (Zb 0)) 1 (ZdT 6) [e2 Zfv (e2 Zi (Zb 6) (eC (.int 0))) (Zb 1)] (Zb 6))) (Zx (Zaf 4 (eLC (ZfV (Zb 0)) 1 (ZdT 6) [e2 Zey (e2 Zi (Zb 6) (eC (.int 0))) (Zb 1)] (Zb 6))) (Zx (Zaf 5 (eIf (e2 ZcQ (Zb 2) (eC (.int 0))) (Zbz (Za (ZaY (Za (Zb 1) (Za (Zb 2) (Zh)))) (Zh))) (Zbz (Zh)))) (Zaw (ZaN Zca (Za (e2 Zak (e2 Zak (Zb 3) (Zb 5)) (Zb 4)) (Zh))))))
noncomputable def Zcm:F3:=mkF 3 6 ZdA
noncomputable def Zel:S3:=Zx (sIf (e2 ZaS (e2 Zi (Zb 0) (eC (.int 0))) (eC (.str [115,101,116]))) (Zaw (Zae Zcm (Za (Zb 2) (Za (e2 Zi (Zb 1) (e2 Zi (Zb 0) (eC (.int 1)))) (Za (e2 Zi (Zb 1) (e2 Zi (Zb 0) (eC (.int 2)))) (Zh)))))) (Zas)) (Zaw (Zb 2))
noncomputable def Zcz:F3:=mkF 3 3 Zel
noncomputable def Zeq:S3:=Zx (Zaf 2 (e2 Zi (Zb 1) (eC (.int 0)))) (Zx (Zaf 3 (e2 Zi (Zb 1) (eC (.int 1)))) (Zx (Zaf 4 (e2 Zi (Zb 1) (eC (.int 2)))) (Zx (Zaf 5 (e2 Zi (Zb 0) (Zb 2))) (Zx (sIf (e2 ZaS (e2 Zi (Zb 5) (eC (.int 0))) (eC (.str [104,97,108,116]))) (Zaw (eC .non)) (Zas)) (Zaw (ZaY (Za (Zae Zcy (Za (Zb 5) (Za (Zb 2) (Za (Zb 3) (Zh))))) (Za (Zae Zcw (Za (Zb 5) (Za (Zb 3) (Za (Zb 4) (Zh))))) (Za (Zae Zcz (Za (Zb 5) (Za (Zb 3) (Za (Zb 4) (Zh))))) (Zh))))))))))
noncomputable def Zbh:F3:=mkF 2 6 Zeq
noncomputable def ZkT:S3:=Zx (Zaf 2 (e2 Zi (Zb 1) (e1 Zba (eC (.int 1))))) (Zaw (e2 ZaS (e2 Zi (e2 Zi (Zb 0) (e2 Zi (Zb 2) (eC (.int 0)))) (eC (.int 0))) (eC (.str [104,97,108,116]))))
noncomputable def Zej:F3:=mkF 2 3 ZkT
noncomputable def Zpe:S3:=Zx (Zaf 3 (Zbz (Za (Zae Zbp (Za (Zb 1) (Zh))) (Zh)))) (Zx (Zf6 (Zdt (e2 ZiP (ZaN Zbb (Za (Zb 3) (Zh))) (Zb 2)) (e1 ZcK (Zae Zej (Za (Zb 0) (Za (Zb 3) (Zh)))))) (ZaH (Zbl tyL ZaD (Zb 3) (Za (Zae Zbh (Za (Zb 0) (Za (e2 Zi (Zb 3) (e1 Zba (eC (.int 1)))) (Zh)))) (Zh))))) (Zaw (Zb 3)))
noncomputable def Zk7:F3:=mkF 3 4 Zpe
noncomputable def ZeH:S3:=Zaw (Zdt (e2 ZrM (Zb 0) (eC (.int 0))) (e2 Zfv (Zb 0) (Zb 1)))
noncomputable def Zcl:F3:=mkF 2 2 ZeH
noncomputable def Zfe:S3:=Zaw (ZaN Zbb (Za (e1 (ZdK [84,101,108,108,101,114] [115,116,97,116,101,115]) (Zb 0)) (Zh)))
noncomputable def Za8:F3:=mkF 1 1 Zfe
noncomputable def ZdF:S3:=Zx (sIf (e1 ZcK (Zae Zcl (Za (Zb 1) (Za (ZaN Zbb (Za (e1 (ZdK [84,101,108,108,101,114] [115,116,97,116,101,115]) (Zb 0)) (Zh))) (Zh))))) (ZmW) (Zas)) (Zx (ZaH (Zbl tyL ZaD (e1 (ZdK [84,101,108,108,101,114] [97,115,107,101,100]) (Zb 0)) (Za (Zb 1) (Zh)))) (Zaw (e2 Zi (e1 (ZdK [84,101,108,108,101,114] [115,116,97,116,101,115]) (Zb 0)) (Zb 1))))
noncomputable def Zbm:F3:=mkF 2 2 ZdF
noncomputable def ZhU:S3:=Zaw (ZaY (Za (ZbI [84,101,108,108,101,114] [115,116,97,116,101,95,97,116] Zbm (Zb 0) (Za (Zb 2) (Zh))) (Za (ZbI [84,101,108,108,101,114] [115,116,97,116,101,95,97,116] Zbm (Zb 1) (Za (Zb 2) (Zh))) (Zh))))
noncomputable def Zcr:F3:=mkF 3 3 ZhU
noncomputable def ZfK:S3:=Zaw (e2 ZcQ (e2 Zi (Zb 0) (eC (.int 0))) (e2 Zi (Zb 0) (eC (.int 1))))
noncomputable def ZbA:F3:=mkF 1 1 ZfK
noncomputable def ZfL:S3:=Zx (Zaf 3 (Zae Zbh (Za (Zb 0) (Za (Zb 1) (Zh))))) (Zaw (ZaY (Za (e2 Zid (e2 Zi (Zb 2) (eC (.int 0))) (Zb 3)) (Za (e2 Zid (e2 Zi (Zb 2) (eC (.int 1))) (Zb 3)) (Zh)))))
noncomputable def Zdb:F3:=mkF 3 4 ZfL
noncomputable def ZjT:S3:=Zx (sIf (eOr (e2 ZcQ (ZbI [84,101,108,108,101,114] [109,97,110,121] Za8 (Zb 1) (Zh)) (ZbI [84,101,108,108,101,114] [109,97,110,121] Za8 (Zb 2) (Zh))) (e2 Zfv (ZbI [84,101,108,108,101,114] [109,97,110,121] Za8 (Zb 1) (Zh)) (eC (.int 2)))) (ZmW) (Zas)) (Zx (Zaf 3 (eC (.int 0))) (Zx (Zaf 4 (Zae Zcr (Za (Zb 1) (Za (Zb 2) (Za (Zb 3) (Zh)))))) (Zx (sIf (Zae ZbA (Za (Zb 4) (Zh))) (ZmW) (Zas)) (Zx (Zaf 5 (e2 ZbU (ZbI [84,101,108,108,101,114] [109,97,110,121] Za8 (Zb 1) (Zh)) (eC (.int 1)))) (Zx (Zaf 6 (Zae Zcr (Za (Zb 1) (Za (Zb 2) (Za (Zb 5) (Zh)))))) (Zx (sIf (e1 ZcK (Zae ZbA (Za (Zb 6) (Zh)))) (ZmW) (Zas)) (Zx (Zaf 7 (e2 Zi (Zb 4) (eC (.int 0)))) (Zx (Zaf 8 (Zb 6)) (Zx (Zf6 (e2 ZcQ (Zb 5) (e2 Zak (Zb 3) (eC (.int 1)))) (Zx (Zaf 9 (e2 Zag (e2 Zak (Zb 3) (Zb 5)) (eC (.int 2)))) (Zx (Zaf 10 (Zae Zcr (Za (Zb 1) (Za (Zb 2) (Za (Zb 9) (Zh)))))) (sIf (Zae ZbA (Za (Zb 10) (Zh))) (Zx (Zaf 5 (Zb 9)) (Zaf 8 (Zb 10))) (Zx (Zaf 3 (Zb 9)) (Zaf 7 (e2 Zi (Zb 10) (eC (.int 0))))))))) (Zaw (ZaY (Za (Zb 3) (Za (Zae Zdb (Za (Zb 0) (Za (Zb 7) (Za (Zb 8) (Zh))))) (Zh))))))))))))))
noncomputable def ZdZ:F3:=mkF 3 11 ZjT
noncomputable def Zcp:S3:=Zx (Zaf 1 (e2 Zi (Zb 0) (eC (.int 0)))) (Zx (Zaf 2 (e2 Zi (Zb 0) (eC (.int 1)))) (Zx (Zib (Zb 0) (eC (.int 1)) (e2 Zak (Zb 2) (eC (.int 1)))) (Zx (sIf (e2 Zfv (Zb 2) (ZaN Zbb (Za (Zb 1) (Zh)))) (Zaw (e2 Zi (Zb 1) (Zb 2))) (Zas)) (Zx (sIf (e2 ZaS (ZaN Zbb (Za (Zb 1) (Zh))) (eC (.int 0))) (Zaw (e2 Zak (e2 Zg6 (e2 Zg6 (Zb 2) (Zb 2)) (eC (.int 3))) (Zb 2))) (Zas)) (Zaw (e2 Zak (e2 Zag (e2 Zi (Zb 1) (e2 Zan (Zb 2) (ZaN Zbb (Za (Zb 1) (Zh))))) (eC (.int 2))) (e2 Zg6 (Zb 2) (Zb 2))))))))
noncomputable def ZaP:F3:=mkF 1 3 Zcp
noncomputable def ZeC:S3:=Zx (Zaf 1 (Zbz (Zh))) (Zx (ZkU (ZmC (Zb 0)) (Zev [2,3]) (Zx (Zaf 4 (e2 Zi (Zbz (Za (eC (.str [112,117,116])) (Za (eC (.str [97,100,100])) (Za (eC (.str [115,117,98])) (Za (eC (.str [109,111,114,101])) (Za (eC (.str [103,101,116])) (Za (eC (.str [115,101,116])) (Za (eC (.str [119,104,101,110])) (Za (eC (.str [106,117,109,112])) (Za (eC (.str [116,101,108,108])) (Za (eC (.str [112,117,116])) (Zh)))))))))))) (e2 Zan (Zb 3) (eC (.int 10))))) (Zx (Zaf 5 (e2 Zag (Zb 3) (eC (.int 10)))) (Zx (Zaf 6 (e2 Zan (Zb 5) (eC (.int 8)))) (Zx (Zaf 7 (e2 Zan (e2 Zag (Zb 5) (eC (.int 8))) (eC (.int 8)))) (Zx (Zaf 8 (e2 Zan (e2 Zag (Zb 5) (eC (.int 64))) (eC (.int 8)))) (Zx (Zaf 9 (e2 Zak (e2 Zak (Zb 2) (eC (.int 1))) (e2 Zan (e2 Zag (Zb 5) (eC (.int 512))) (e2 ZbU (ZaN Zbb (Za (Zb 0) (Zh))) (Zb 2))))) (Zx (sIf (e2 ZaS (e2 Zan (e2 Zag (Zb 5) (eC (.int 5))) (eC (.int 4))) (eC (.int 1))) (Zaf 9 (e2 Zan (e2 Zag (Zb 5) (eC (.int 512))) (e2 Zak (ZaN Zbb (Za (Zb 0) (Zh))) (eC (.int 1))))) (Zas)) (sIf (e2 ZaS (Zb 4) (eC (.str [112,117,116]))) (ZaH (Zbl tyL ZaD (Zb 1) (Za (ZaY (Za (Zb 4) (Za (Zb 6) (Za (e2 Zi (Zbz (Za (e2 Zan (e2 Zag (Zb 5) (eC (.int 8))) (eC (.int 3))) (Za (e2 ZbU (eC (.int 0)) (e2 Zan (e2 Zag (Zb 5) (eC (.int 8))) (e2 ZcY (eC (.int 10)) (eC (.int 40))))) (Za (e2 Zan (e2 Zag (Zb 5) (eC (.int 8))) (e2 ZcY (eC (.int 10)) (eC (.int 40)))) (Zh))))) (e2 Zan (Zb 7) (eC (.int 3)))) (Zh))))) (Zh)))) (sIf (e2 Zgb (Zb 4) (Zbz (Za (eC (.str [97,100,100])) (Za (eC (.str [115,117,98])) (Za (eC (.str [109,111,114,101])) (Zh)))))) (ZaH (Zbl tyL ZaD (Zb 1) (Za (ZaY (Za (Zb 4) (Za (Zb 6) (Za (Zb 7) (Za (Zb 8) (Zh)))))) (Zh)))) (sIf (e2 Zgb (Zb 4) (Zbz (Za (eC (.str [103,101,116])) (Za (eC (.str [115,101,116])) (Zh))))) (ZaH (Zbl tyL ZaD (Zb 1) (Za (ZaY (Za (Zb 4) (Za (Zb 6) (Za (Zb 7) (Zh))))) (Zh)))) (sIf (e2 ZaS (Zb 4) (eC (.str [119,104,101,110]))) (ZaH (Zbl tyL ZaD (Zb 1) (Za (ZaY (Za (Zb 4) (Za (Zb 6) (Za (Zb 9) (Zh))))) (Zh)))) (sIf (e2 ZaS (Zb 4) (eC (.str [106,117,109,112]))) (ZaH (Zbl tyL ZaD (Zb 1) (Za (ZaY (Za (Zb 4) (Za (Zb 9) (Zh)))) (Zh)))) (ZaH (Zbl tyL ZaD (Zb 1) (Za (ZaY (Za (Zb 4) (Za (Zb 6) (Zh)))) (Zh))))))))))))))))) (Zx (Zaf 10 (ZaY (Za (eC (.str [104,97,108,116])) (Zh)))) (Zx (sIf (Zdt (e2 Zey (ZaN Zbb (Za (Zb 0) (Zh))) (eC (.int 0))) (e2 ZaS (e2 Zan (e2 Zi (Zb 0) (e1 Zba (eC (.int 1)))) (eC (.int 4))) (eC (.int 1)))) (Zaf 10 (ZaY (Za (eC (.str [106,117,109,112])) (Za (e2 Zan (e2 Zag (e2 Zi (Zb 0) (e1 Zba (eC (.int 1)))) (eC (.int 4))) (e2 Zak (ZaN Zbb (Za (Zb 0) (Zh))) (eC (.int 1)))) (Zh))))) (Zas)) (Zaw (ZaN Zca (Za (e2 Zak (Zb 1) (Zbz (Za (Zb 10) (Zh)))) (Zh)))))))
noncomputable def ZdC:F3:=mkF 1 11 ZeC
noncomputable def ZaE:S3:=Zx (Zaf 1 (e2 Zak (Zb 1) (eC (.int 1)))) (Zx (Zaf 4 (eC .non)) (Zx (sIf (e2 ZaS (e2 Zi (Zb 0) (eC (.int 0))) (eC (.str [112,117,116]))) (Zaf 4 (e2 Zi (Zb 0) (eC (.int 2)))) (Zas)) (Zx (sIf (e2 ZaS (e2 Zi (Zb 0) (eC (.int 0))) (eC (.str [97,100,100]))) (Zaf 4 (e2 Zak (e2 Zi (Zb 2) (e2 Zi (Zb 0) (eC (.int 2)))) (e2 Zi (Zb 2) (e2 Zi (Zb 0) (eC (.int 3)))))) (Zas)) (Zx (sIf (e2 ZaS (e2 Zi (Zb 0) (eC (.int 0))) (eC (.str [115,117,98]))) (Zaf 4 (e2 ZbU (e2 Zi (Zb 2) (e2 Zi (Zb 0) (eC (.int 2)))) (e2 Zi (Zb 2) (e2 Zi (Zb 0) (eC (.int 3)))))) (Zas)) (Zx (sIf (e2 ZaS (e2 Zi (Zb 0) (eC (.int 0))) (eC (.str [109,111,114,101]))) (Zaf 4 (e2 Zi (Zbz (Za (eC (.int 0)) (Za (eC (.int 1)) (Zh)))) (ZaN Zmr (Za (e2 Zey (e2 Zi (Zb 2) (e2 Zi (Zb 0) (eC (.int 2)))) (e2 Zi (Zb 2) (e2 Zi (Zb 0) (eC (.int 3))))) (Zh))))) (Zas)) (Zx (sIf (e2 ZaS (e2 Zi (Zb 0) (eC (.int 0))) (eC (.str [103,101,116]))) (Zaf 4 (Zb 3)) (Zas)) (Zx (sIf (eOr (e2 ZaS (e2 Zi (Zb 0) (eC (.int 0))) (eC (.str [106,117,109,112]))) (Zdt (e2 ZaS (e2 Zi (Zb 0) (eC (.int 0))) (eC (.str [119,104,101,110]))) (e2 Zey (e2 Zi (Zb 2) (e2 Zi (Zb 0) (eC (.int 1)))) (eC (.int 0))))) (Zaf 1 (e2 Zi (Zb 0) (e1 Zba (eC (.int 1))))) (Zas)) (Zx (sIf (e2 Zdd (Zb 4) (eC .non)) (Zaf 2 (e2 Zak (e2 Zak (eSl (Zb 2) (Zb8) (Zb9 (e2 Zi (Zb 0) (eC (.int 1))))) (ZaY (Za (Zb 4) (Zh)))) (eSl (Zb 2) (Zb9 (e2 Zak (e2 Zi (Zb 0) (eC (.int 1))) (eC (.int 1)))) (Zb8)))) (Zas)) (Zaw (ZaY (Za (Zb 1) (Za (Zb 2) (Zh)))))))))))))
noncomputable def Za7:F3:=mkF 4 5 ZaE
noncomputable def ZdN:S3:=Zx (Zaf 3 (eLC (ZfV (Zb 0)) 1 (ZdT 4) [e2 ZcQ (e2 Zi (Zb 4) (eC (.int 0))) (Zb 1)] (Zb 4))) (Zx (sIf (e2 ZcQ (Zb 2) (eC (.int 0))) (ZaH (Zbl tyL ZaD (Zb 3) (Za (ZaY (Za (Zb 1) (Za (Zb 2) (Zh)))) (Zh)))) (Zas)) (Zaw (ZaN Zca (Za (ZaN ZdL (Za (Zb 3) (Zh))) (Zh)))))
noncomputable def Za5:F3:=mkF 3 4 ZdN
noncomputable def ZbM:S3:=Zx (ZgJ (Zb 1) (Zev [2,3,4])) (Zx (Zaf 5 (e2 Zi (Zb 0) (Zb 2))) (Zx (sIf (e2 ZaS (e2 Zi (Zb 5) (eC (.int 0))) (eC (.str [104,97,108,116]))) (Zaw (eC .non)) (Zas)) (Zx (Zaf 6 (eC (.int 0))) (Zx (sIf (e2 ZaS (e2 Zi (Zb 5) (eC (.int 0))) (eC (.str [103,101,116]))) (Zaf 6 (Zbl Zgs ZgL (ZaN Zc7 (Za (Zb 4) (Zh))) (Za (e2 Zi (Zb 3) (e2 Zi (Zb 5) (eC (.int 2)))) (Za (eC (.int 0)) (Zh))))) (Zas)) (Zx (sIf (e2 ZaS (e2 Zi (Zb 5) (eC (.int 0))) (eC (.str [115,101,116]))) (Zaf 4 (Zae Za5 (Za (Zb 4) (Za (e2 Zi (Zb 3) (e2 Zi (Zb 5) (eC (.int 1)))) (Za (e2 Zi (Zb 3) (e2 Zi (Zb 5) (eC (.int 2)))) (Zh)))))) (Zas)) (Zx (ZgJ (Zae Za7 (Za (Zb 5) (Za (Zb 2) (Za (Zb 3) (Za (Zb 6) (Zh)))))) (Zev [2,3])) (Zaw (ZaY (Za (Zb 2) (Za (Zb 3) (Za (Zb 4) (Zh))))))))))))
noncomputable def Zao:F3:=mkF 2 7 ZbM
noncomputable def ZgI:S3:=Zx (Zaf 3 (Zbz (Za (ZaY (Za (eC (.int 0)) (Za (Zb 1) (Za (ZaY (Zh)) (Zh))))) (Zh)))) (Zx (Zf6 (Zdt (e2 ZiP (ZaN Zbb (Za (Zb 3) (Zh))) (Zb 2)) (e2 Zdd (Zae Zao (Za (Zb 0) (Za (e2 Zi (Zb 3) (e1 Zba (eC (.int 1)))) (Zh)))) (eC .non))) (ZaH (Zbl tyL ZaD (Zb 3) (Za (Zae Zao (Za (Zb 0) (Za (e2 Zi (Zb 3) (e1 Zba (eC (.int 1)))) (Zh)))) (Zh))))) (Zaw (Zb 3)))
noncomputable def Zea:F3:=mkF 3 4 ZgI
noncomputable def ZfH:S3:=Zx (Zaf 1 (Zbz (Zh))) (Zx (Zhb (ZkW (eC (.int 8))) (ZdT 2) (Zx (Zaf 3 (Zae ZaP (Za (Zb 0) (Zh)))) (ZaH (Zbl tyL ZaD (Zb 1) (Za (e2 Zi (Zbz (Za (e2 Zan (e2 Zag (Zb 3) (eC (.int 4))) (eC (.int 5))) (Za (e2 ZbU (eC (.int 0)) (e2 Zan (e2 Zag (Zb 3) (eC (.int 4))) (eC (.int 5)))) (Za (e2 Zan (e2 Zag (Zb 3) (eC (.int 4))) (e2 ZcY (eC (.int 10)) (eC (.int 30)))) (Za (e2 ZbU (eC (.int 0)) (e2 Zan (e2 Zag (Zb 3) (eC (.int 4))) (e2 ZcY (eC (.int 10)) (eC (.int 30))))) (Zh)))))) (e2 Zan (Zb 3) (eC (.int 4)))) (Zh)))))) (Zaw (ZaN Zca (Za (Zb 1) (Zh)))))
noncomputable def Zde:F3:=mkF 1 4 ZfH
noncomputable def Zem:S3:=Zx (ZgJ (Zb 0) (Zev [2,3,4])) (Zx (sIf (e2 ZaS (e2 Zan (Zb 1) (eC (.int 4))) (eC (.int 0))) (Zx (Zaf 5 (e2 Zan (e2 Zag (Zb 1) (eC (.int 4))) (eC (.int 5)))) (Zx (Zaf 6 (Zbl Zgs ZgL (ZaN Zc7 (Za (Zb 4) (Zh))) (Za (Zb 5) (Za (eC (.int 0)) (Zh))))) (Zaw (ZaY (Za (Zb 2) (Za (Zb 3) (Za (Zae Za5 (Za (Zb 4) (Za (Zb 5) (Za (e2 Zak (e2 Zak (Zb 6) (eC (.int 1))) (e2 Zan (e2 Zag (Zb 1) (eC (.int 20))) (eC (.int 9)))) (Zh))))) (Zh)))))))) (Zas)) (Zx (Zaf 7 (e2 Zan (e2 Zag (Zb 1) (eC (.int 4))) (eC (.int 8)))) (Zaw (ZaY (Za (Zb 2) (Za (e2 Zak (e2 Zak (eSl (Zb 3) (Zb8) (Zb9 (Zb 7))) (ZaY (Za (e2 Zak (e2 Zak (e2 Zi (Zb 3) (Zb 7)) (eC (.int 1))) (e2 Zan (e2 Zag (Zb 1) (eC (.int 32))) (eC (.int 3)))) (Zh)))) (eSl (Zb 3) (Zb9 (e2 Zak (Zb 7) (eC (.int 1)))) (Zb8))) (Za (Zb 4) (Zh))))))))
noncomputable def Zbn:F3:=mkF 2 8 Zem
noncomputable def ZeA:S3:=Zx (Zaf 3 (Zbz (Za (e2 Zi (Zb 2) (eC (.int 0))) (Zh)))) (Zx (Zhb (ZeX (eC (.int 1)) (ZaN Zbb (Za (Zb 2) (Zh)))) (ZdT 4) (Zx (Zaf 5 (Zae ZaP (Za (Zb 0) (Zh)))) (Zx (Zaf 6 (e2 Zi (Zb 2) (Zb 4))) (Zx (Zaf 7 (Zae Zao (Za (Zb 1) (Za (e2 Zi (Zb 3) (e1 Zba (eC (.int 1)))) (Zh))))) (Zx (sIf (Zdt (e2 Zfv (e2 Zan (Zb 5) (eC (.int 5))) (eC (.int 2))) (e2 Zdd (Zb 7) (eC .non))) (Zaf 6 (Zb 7)) (sIf (e2 ZaS (e2 Zan (Zb 5) (eC (.int 5))) (eC (.int 2))) (Zaf 6 (Zae Zbn (Za (e2 Zi (Zb 2) (Zb 4)) (Za (e2 Zag (Zb 5) (eC (.int 5))) (Zh))))) (Zas))) (ZaH (Zbl tyL ZaD (Zb 3) (Za (Zb 6) (Zh))))))))) (Zx (sIf (e2 ZaS (e2 Zi (Zb 3) (e1 Zba (eC (.int 1)))) (e2 Zi (Zb 2) (e1 Zba (eC (.int 1))))) (Zib (Zb 3) (e1 Zba (eC (.int 1))) (Zae Zbn (Za (e2 Zi (Zb 2) (e1 Zba (eC (.int 1)))) (Za (Zae ZaP (Za (Zb 0) (Zh))) (Zh))))) (Zas)) (Zaw (Zb 3))))
noncomputable def Zc0:F3:=mkF 3 8 ZeA
noncomputable def ZeD:S3:=Zx (Zaf 1 (eC (.int 0))) (Zx (Zf6 (e2 Zey (Zb 0) (eC (.int 0))) (Zx (Zaf 0 (e2 Zag (Zb 0) (eC (.int 2)))) (Zaf 1 (e2 Zak (Zb 1) (eC (.int 1)))))) (Zaw (Zb 1)))
noncomputable def Zbu:F3:=mkF 1 2 ZeD
noncomputable def ZcW:S3:=Zaw (ZaN Zgj (Za (e1 (ZdK [84,101,108,108,101,114] [97,115,107,101,100]) (Zb 0)) (Zh)))
noncomputable def ZaO:F3:=mkF 1 1 ZcW
noncomputable def Zgn:S3:=Zx (sIf (eOr (e1 ZcK (e1 (Zd9 .tuple) (Zb 0))) (eOr (e2 ZcQ (ZaN Zbb (Za (Zb 0) (Zh))) (eC (.int 2))) (e2 ZcQ (e2 Zi (Zb 0) (eC (.int 1))) (ZaY (Za (e1 ZcK (Zb 3)) (Za (Zb 3) (Zh))))))) (Zaw (eC (.bl false))) (Zas)) (Zx (Zaf 5 (e2 Zi (Zb 0) (eC (.int 0)))) (Zx (sIf (eOr (e1 ZcK (e1 (Zd9 .int) (Zb 5))) (eOr (e1 (Zd9 .bool) (Zb 5)) (eOr (e2 Zfv (Zb 5) (eC (.int 0))) (e2 Zey (Zb 5) (e2 ZbU (ZaN Zbb (Za (Zb 1) (Zh))) (eC (.int 2))))))) (Zaw (eC (.bl false))) (Zas)) (Zx (sIf (eOr (e2 ZcQ (e2 Zi (Zb 1) (Zb 5)) (e2 Zi (Zb 2) (Zb 5))) (e2 ZaS (e2 Zi (Zb 1) (e2 Zak (Zb 5) (eC (.int 1)))) (e2 Zi (Zb 2) (e2 Zak (Zb 5) (eC (.int 1)))))) (Zaw (eC (.bl false))) (Zas)) (Zx (Zhb (ZfV (Zb 4)) (ZdT 6) (sIf (e2 Zey (ZaN Zbb (Za (ZbI [84,101,108,108,101,114] [116,105,109,101,115,95,97,115,107,101,100] ZaO (Zb 6) (Zh)) (Zh))) (e2 Zak (eC (.int 2)) (Zae Zbu (Za (e2 ZbU (ZaN Zbb (Za (Zb 1) (Zh))) (eC (.int 1))) (Zh))))) (Zaw (eC (.bl false))) (Zas))) (Zaw (eC (.bl true)))))))
noncomputable def Zc1:F3:=mkF 5 7 Zgn
noncomputable def ZdB:S3:=Zx (ZmS [84,101,108,108,101,114] [115,116,97,116,101,115] (Zb 0) (ZaN Zca (Za (Zb 1) (Zh)))) (ZmS [84,101,108,108,101,114] [97,115,107,101,100] (Zb 0) (Zbz (Zh)))
noncomputable def ZaJ:F3:=mkF 2 2 ZdB
noncomputable def ZmL:S3:=Zx (Zaf 1 (Zbz (Za (eSl (Zb 0) (Zb8) (Zb9 (eC (.int 400)))) (Za (eC (.int 0)) (Zh))))) (Zx (Zaf 2 (Zae ZdC (Za (eSl (Zb 0) (Zb8) (Zb9 (eC (.int 40)))) (Zh)))) (Zx (Zaf 3 (Zae Zde (Za (Zb 1) (Zh)))) (Zx (Zaf 4 (Zae Zea (Za (Zb 2) (Za (Zb 3) (Za (e2 Zak (eC (.int 1)) (e2 Zan (Zae ZaP (Za (Zb 1) (Zh))) (eC (.int 60)))) (Zh)))))) (Zx (sIf (e2 ZcQ (Zae Zk7 (Za (Zb 2) (Za (Zb 3) (Za (e2 ZbU (ZaN Zbb (Za (Zb 4) (Zh))) (eC (.int 1))) (Zh))))) (Zb 4)) (Zaw (eC (.bl false))) (Zas)) (Zx (sIf (e2 Zfv (ZaN Zbb (Za (Zb 4) (Zh))) (eC (.int 2))) (Zaw (eC (.bl true))) (Zas)) (Zx (Zaf 5 (Zae Zc0 (Za (Zb 1) (Za (Zb 2) (Za (Zb 4) (Zh)))))) (Zx (Zhb (ZfV (Zbz (Za (eC (.bl true)) (Za (eC (.bl false)) (Zh))))) (ZdT 6) (Zx (Zaf 7 (Zbz (Za (Zgp [84,101,108,108,101,114] ZaJ (Za (Zb 4) (Zh))) (Za (Zgp [84,101,108,108,101,114] ZaJ (Za (Zb 5) (Zh))) (Zh))))) (Zx (sIf (e1 ZcK (Zb 6)) (ZaH (Zbl tyL Zcb (Zb 7) (Zh))) (Zas)) (Zx (Zaf 8 (Zae ZdZ (Za (Zb 2) (Za (e2 Zi (Zb 7) (eC (.int 0))) (Za (e2 Zi (Zb 7) (eC (.int 1))) (Zh)))))) (sIf (e1 ZcK (Zae Zc1 (Za (Zb 8) (Za (Zb 4) (Za (Zb 5) (Za (Zb 6) (Za (Zb 7) (Zh)))))))) (Zaw (eC (.bl false))) (Zas)))))) (Zaw (eC (.bl true))))))))))
noncomputable def Zla:F3:=mkF 1 9 ZmL
end
end Law
namespace Law
open PySem PySem.Spec PyProof.Rows L2 L3
noncomputable def top (i:Nat):Stmt:=PySem.Challenge.pw_stepledger_k53_whole_true_teller.main.body.getD i (.Pass ⟨0,0,0,0⟩)
noncomputable abbrev ZbD:Stmt:=top 5
noncomputable abbrev Zb5:Stmt:=top 6
noncomputable abbrev ZbW:Stmt:=top 7
noncomputable abbrev Zb4:Stmt:=top 8
noncomputable abbrev ZdW:Stmt:=top 9
noncomputable abbrev ZbZ:Stmt:=top 10
noncomputable abbrev ZcM:Stmt:=top 11
noncomputable abbrev Zb0:Stmt:=top 12
noncomputable abbrev Zco:Stmt:=top 13
noncomputable abbrev Zh1:Stmt:=top 14
noncomputable abbrev ZeV:Stmt:=top 15
noncomputable abbrev Zct:Stmt:=top 17
noncomputable abbrev Zd4:Stmt:=top 20
noncomputable abbrev Zdj:Stmt:=top 21
noncomputable abbrev ZbX:Stmt:=top 22
noncomputable abbrev Zb3:Stmt:=top 23
noncomputable abbrev Zcq:Stmt:=top 25
noncomputable abbrev Zcn:Stmt:=top 26
noncomputable abbrev ZbC:Stmt:=top 27
noncomputable abbrev Za0:Stmt:=top 28
noncomputable abbrev ZaZ:Stmt:=top 29
noncomputable abbrev ZcN:Stmt:=top 30
noncomputable abbrev ZbY:Stmt:=top 31
noncomputable abbrev Zb6:Stmt:=top 32
noncomputable abbrev Zcu:Stmt:=top 33
noncomputable abbrev Zbw:Stmt:=top 34
noncomputable abbrev Zcs:Stmt:=top 35
noncomputable abbrev ZfC:Stmt:=top 36
noncomputable abbrev Za2:Stmt:=(ZgE (top 19)).getD 0 (.Pass ⟨0,0,0,0⟩)
noncomputable abbrev Za3:Stmt:=(ZgE (top 19)).getD 1 (.Pass ⟨0,0,0,0⟩)
noncomputable abbrev ZbE:Stmt:=(ZgE (top 19)).getD 2 (.Pass ⟨0,0,0,0⟩)
noncomputable abbrev ZaQ:Stmt:=(ZgE (top 19)).getD 3 (.Pass ⟨0,0,0,0⟩)
structure Zb2 (K:W.Frag) (mg:Str → Option Value) (C:Addr):Prop where
  ok:ZfM K [84,101,108,108,101,114] C
  mg:mg "Teller" = some (.ref C)
  n_asked:ZdQ K C (nm [97,115,107,101,100])
  n_states:ZdQ K C (nm [115,116,97,116,101,115])
structure Txt (K:W.Frag) (mg:Str → Option Value):Prop where
  kin:True
  m_bool:mg "bool" = none
  m_dict:mg "dict" = none
  m_enumerate:mg "enumerate" = none
  m_int:mg "int" = none
  m_isinstance:mg "isinstance" = none
  m_len:mg "len" = none
  m_list:mg "list" = none
  m_range:mg "range" = none
  m_sorted:mg "sorted" = none
  m_tuple:mg "tuple" = none
section
variable {P:Program} {w:World} {K:W.Frag} {mg:Str → Option Value} {base:Heap}
theorem ZgH:Zaq ["boxes"] ["boxes"] (Zm ZbD):=⟨rfl,rfl,rfl,by decide +kernel,rfl,by decide +kernel,by decide +kernel⟩
theorem Zhe (A:Zay K mg "first_state" ZbD ["boxes"]) (T:Txt K mg):Fn3 P w K mg base 1 "first_state" ["boxes"] Zbp:=
  Fn3.of (N:=["boxes"]) (k:=0) A ZgH fun f cdv A outer s H E hr=>by
    have hu:=Zcc hr
    unfold ZdR
    exact Zq (Zap (Zbv (Zd Zk (Zd (ZeK (T:="tuple") ZeS T.m_tuple ZdV (Zd (Ze 0) Zn)) (Zd (Zbv Zn) Zn)))))
theorem ZhK:Zaq ["row","place","boxes"] ["row","place","boxes"] (Zm ZbW):=⟨rfl,rfl,rfl,by decide +kernel,rfl,by decide +kernel,by decide +kernel⟩
theorem ZhC (A:Zay K mg "next_place" ZbW ["row","place","boxes"]) (T:Txt K mg):Fn3 P w K mg base 1 "next_place" ["row","place","boxes"] Zcy:=
  Fn3.of (N:=["row","place","boxes"]) (k:=0) A ZhK fun f cdv A outer s H E hr=>by
    have hu:=Zcc hr
    unfold ZfG
    refine Zg ?_ ?_
    ·exact ZaF (Zai ((ZcD hu)) (Zy Zz (Ze 0) Zk) ZaM) (Zq (Zap (Zy Zz (Ze 0) Zk))) Zar
    ·refine Zg ?_ ?_
     ·refine ZaF ?_ ?_ ?_
      ·exact CW.ct (ZfU (Zai ((ZcD hu)) (Zy Zz (Ze 0) Zk) ZaM) (ZeQ (Zai Zix (Zy Zz (Ze 2) (Zy Zz (Ze 0) Zk)) Zk)))
      ·exact Zq (Zap (Zy Zz (Ze 0) Zk))
      ·exact Zar
     ·exact Zq (Zap (Zaa Za4 (Ze 1) Zk))
theorem Zl2:Zaq ["name","one","other"] ["name","one","other"] (Zm ZdW):=⟨rfl,rfl,rfl,by decide +kernel,rfl,by decide +kernel,by decide +kernel⟩
theorem ZlN (A:Zay K mg "worked" ZdW ["name","one","other"]) (T:Txt K mg):Fn3 P w K mg base 1 "worked" ["name","one","other"] ZbR:=
  Fn3.of (N:=["name","one","other"]) (k:=0) A Zl2 fun f cdv A outer s H E hr=>by
    have hu:=Zcc hr
    unfold ZeG
    refine Zg ?_ ?_
    ·exact ZaF (Zai ((ZcD hu)) (Ze 0) ZaM) (Zq (Zap (Zaa Za4 (Ze 1) (Ze 2)))) Zar
    ·exact Zg (ZaF (Zai ((ZcD hu)) (Ze 0) ZaM) (Zq (Zap (Zaa Ze3 (Ze 1) (Ze 2)))) Zar) (Zq (Zap (Zrv (Zai Zix (Ze 1) (Ze 2)) Zk Zk)))
theorem Zjt:Zaq ["boxes","box","value"] ["boxes","box","value"] (Zm ZcM):=⟨rfl,rfl,rfl,by decide +kernel,rfl,by decide +kernel,by decide +kernel⟩
theorem Zjx (A:Zay K mg "with_box" ZcM ["boxes","box","value"]) (T:Txt K mg):Fn3 P w K mg base 1 "with_box" ["boxes","box","value"] ZbS:=
  Fn3.of (N:=["boxes","box","value"]) (k:=0) A Zjt fun f cdv A outer s H E hr=>by
    have hu:=Zcc hr
    unfold Zhn
    refine Zq ?_
    refine Zap ?_
    refine Zaa ?_ ?_ ?_
    ·exact Za4
    ·exact Zaa Za4 (Zi6 ZjL (Ze 0) ZdG (ZdE (Ze 1))) (Zbv (Zd (Ze 2) Zn))
    ·exact Zi6 ZjL (Ze 0) (ZdE (Zaa Za4 (Ze 1) Zk)) ZdG
theorem ZhR:Zaq ["cells","number"] ["cells","number"] (Zm Zb0):=⟨rfl,rfl,rfl,by decide +kernel,rfl,by decide +kernel,by decide +kernel⟩
theorem ZhA (A:Zay K mg "cell_value" Zb0 ["cells","number"]) (T:Txt K mg):Fn3 P w K mg base 1 "cell_value" ["cells","number"] ZcH:=
  Fn3.of (N:=["cells","number"]) (k:=0) A ZhR fun f cdv A outer s H E hr=>by
    have hu:=Zcc hr
    unfold ZfJ
    exact Zq (Zap (Zkb hu (ZeK (T:="dict") ((Zkn rfl)) T.m_dict ZiS (Zd (Ze 0) Zn)) (Ze 1) Zk))
theorem Ze7:Zaq ["row","boxes","cells","name"] ["row","boxes","cells"] (Zm Zb4):=⟨rfl,rfl,rfl,by decide +kernel,rfl,by decide +kernel,by decide +kernel⟩
theorem ZhG (A:Zay K mg "next_boxes" Zb4 ["row","boxes","cells"]) (T:Txt K mg) (F_worked:Fn3 P w K mg base 1 "worked" ["name","one","other"] ZbR) (F_with_box:Fn3 P w K mg base 1 "with_box" ["boxes","box","value"] ZbS) (F_cell_value:Fn3 P w K mg base 1 "cell_value" ["cells","number"] ZcH):Fn3 P w K mg base 2 "next_boxes" ["row","boxes","cells"] Zcw:=
  Fn3.of (N:=["row","boxes","cells","name"]) (k:=1) A Ze7 fun f cdv A outer s H E hr=>by
    have hu:=Zcc hr
    unfold Zei
    refine Zg ?_ ?_
    ·exact Zad 3 Ze7.nd (Zy Zz (Ze 0) Zk)
    ·refine Zg ?_ ?_
     ·refine ZaF ?_ ?_ ?_
      ·exact Zai ((ZcD hu)) (Ze 3) ZaM
      ·exact Zq (Zap (Zaz (k:=1) (ps:=["boxes","box","value"]) F_with_box (hr.mono (by decide)) (Zd (Ze 1) (Zd (Zy Zz (Ze 0) Zk) (Zd (Zy Zz (Ze 0) Zk) Zn)))))
      ·exact Zar
     ·refine Zg ?_ ?_
      ·refine ZaF ?_ ?_ ?_
       ·exact Zai ((ZcD hu)) (Ze 3) ZaM
       ·refine Zq ?_
        refine Zap ?_
        refine Zaz (k:=1) (ps:=["boxes","box","value"]) ?_ ?_ ?_
        ·exact F_with_box
        ·exact hr.mono (by decide)
        ·refine Zd ?_ ?_
         ·exact Ze 1
         ·exact Zd (Zy Zz (Ze 0) Zk) (Zd (Zaz (k:=1) (ps:=["cells","number"]) F_cell_value (hr.mono (by decide)) (Zd (Ze 2) (Zd (Zy Zz (Ze 1) (Zy Zz (Ze 0) Zk)) Zn))) Zn)
       ·exact Zar
      ·refine Zg ?_ ?_
       ·refine ZaF ?_ ?_ ?_
        ·exact Zai ((ZsW hu)) (Ze 3) (Zbv (Zd ZaM (Zd ZaM (Zd ZaM Zn))))
        ·refine Zq ?_
         refine Zap ?_
         refine Zaz (k:=1) (ps:=["boxes","box","value"]) ?_ ?_ ?_
         ·exact F_with_box
         ·exact hr.mono (by decide)
         ·refine Zd ?_ ?_
          ·exact Ze 1
          ·refine Zd ?_ ?_
           ·exact Zy Zz (Ze 0) Zk
           ·refine Zd ?_ ?_
            ·exact Zaz (k:=1) (ps:=["name","one","other"]) F_worked (hr.mono (by decide)) (Zd (Ze 3) (Zd (Zy Zz (Ze 1) (Zy Zz (Ze 0) Zk)) (Zd (Zy Zz (Ze 1) (Zy Zz (Ze 0) Zk)) Zn)))
            ·exact Zn
        ·exact Zar
       ·exact Zq (Zap (Ze 1))
theorem Zdc:Zaq ["cells","number","value","below","above","here"] ["cells","number","value"] (Zm Zco):=⟨rfl,rfl,rfl,by decide +kernel,rfl,by decide +kernel,by decide +kernel⟩
theorem Ziq (A:Zay K mg "with_cell" Zco ["cells","number","value"]) (T:Txt K mg):Fn3 P w K mg base 1 "with_cell" ["cells","number","value"] Zcm:=
  Fn3.of (N:=["cells","number","value","below","above","here"]) (k:=0) A Zdc fun f cdv A outer s H E hr=>by
    have hu:=Zcc hr
    unfold ZdA
    refine Zg ?_ ?_
    ·exact Zhg (N':=["cells","number","value","below","above","here","cell"]) 3 (Zga rfl (by kernel_rfl)) rfl rfl Zdc.nd (Znx (Ze 0)) (fun C cl s H ex=>⟨(Zec 6 ((show List.Nodup (["cells","number","value","below","above","here","cell"]:List Str) by decide +kernel))),(ZiT (Zai Zj2 (Zy Zz (Ze 6) Zk) (Ze 1))),(Ze 6)⟩)
    ·refine Zg ?_ ?_
     ·exact Zhg (N':=["cells","number","value","below","above","here","cell"]) 4 (Zga rfl (by kernel_rfl)) rfl rfl Zdc.nd (Znx (Ze 0)) (fun C cl s H ex=>⟨(Zec 6 ((show List.Nodup (["cells","number","value","below","above","here","cell"]:List Str) by decide +kernel))),(ZiT (Zai Zix (Zy Zz (Ze 6) Zk) (Ze 1))),(Ze 6)⟩)
     ·refine Zg ?_ ?_
      ·exact Zad 5 Zdc.nd (Zrv (Zai ((Zg1 hu)) (Ze 2) Zk) (ZcI (Zd (Zbv (Zd (Ze 1) (Zd (Ze 2) Zn))) Zn)) (ZcI Zn))
      ·exact Zq (Zap (ZeK (T:="tuple") ZeS T.m_tuple ZdV (Zd (Zaa Za4 (Zaa Za4 (Ze 3) (Ze 5)) (Ze 4)) Zn)))
theorem Zhy:Zaq ["row","boxes","cells"] ["row","boxes","cells"] (Zm ZbZ):=⟨rfl,rfl,rfl,by decide +kernel,rfl,by decide +kernel,by decide +kernel⟩
theorem Zhu (A:Zay K mg "next_cells" ZbZ ["row","boxes","cells"]) (T:Txt K mg) (F_with_cell:Fn3 P w K mg base 1 "with_cell" ["cells","number","value"] Zcm):Fn3 P w K mg base 2 "next_cells" ["row","boxes","cells"] Zcz:=
  Fn3.of (N:=["row","boxes","cells"]) (k:=1) A Zhy fun f cdv A outer s H E hr=>by
    have hu:=Zcc hr
    unfold Zel
    refine Zg ?_ ?_
    ·refine ZaF ?_ ?_ ?_
     ·exact Zai ((ZcD hu)) (Zy Zz (Ze 0) Zk) ZaM
     ·refine Zq ?_
      refine Zap ?_
      exact Zaz (k:=1) (ps:=["cells","number","value"]) F_with_cell (hr.mono (by decide)) (Zd (Ze 2) (Zd (Zy Zz (Ze 1) (Zy Zz (Ze 0) Zk)) (Zd (Zy Zz (Ze 1) (Zy Zz (Ze 0) Zk)) Zn)))
     ·exact Zar
    ·exact Zq (Zap (Ze 2))
theorem Zcd:Zaq ["roll","state","place","boxes","cells","row"] ["roll","state"] (Zm Zb5):=⟨rfl,rfl,rfl,by decide +kernel,rfl,by decide +kernel,by decide +kernel⟩
theorem ZhN (A:Zay K mg "next_state" Zb5 ["roll","state"]) (T:Txt K mg) (F_next_place:Fn3 P w K mg base 1 "next_place" ["row","place","boxes"] Zcy) (F_next_boxes:Fn3 P w K mg base 2 "next_boxes" ["row","boxes","cells"] Zcw) (F_next_cells:Fn3 P w K mg base 2 "next_cells" ["row","boxes","cells"] Zcz):Fn3 P w K mg base 3 "next_state" ["roll","state"] Zbh:=
  Fn3.of (N:=["roll","state","place","boxes","cells","row"]) (k:=2) A Zcd fun f cdv A outer s H E hr=>by
    have hu:=Zcc hr
    unfold Zeq
    refine Zg ?_ ?_
    ·exact Zad 2 Zcd.nd (Zy Zz (Ze 1) Zk)
    ·refine Zg ?_ ?_
     ·exact Zad 3 Zcd.nd (Zy Zz (Ze 1) Zk)
     ·refine Zg ?_ ?_
      ·exact Zad 4 Zcd.nd (Zy Zz (Ze 1) Zk)
      ·refine Zg ?_ ?_
       ·exact Zad 5 Zcd.nd (Zy Zz (Ze 0) (Ze 2))
       ·refine Zg ?_ ?_
        ·exact ZaF (Zai ((ZcD hu)) (Zy Zz (Ze 5) Zk) ZaM) (Zq (Zap ZhZ)) Zar
        ·refine Zq ?_
         refine Zap ?_
         refine Zbv ?_
         refine Zd ?_ ?_
         ·exact Zaz (k:=1) (ps:=["row","place","boxes"]) F_next_place (hr.mono (by decide)) (Zd (Ze 5) (Zd (Ze 2) (Zd (Ze 3) Zn)))
         ·refine Zd ?_ ?_
          ·exact Zaz (k:=2) (ps:=["row","boxes","cells"]) F_next_boxes (hr.mono (by decide)) (Zd (Ze 5) (Zd (Ze 3) (Zd (Ze 4) Zn)))
          ·exact Zd (Zaz (k:=2) (ps:=["row","boxes","cells"]) F_next_cells (hr.mono (by decide)) (Zd (Ze 5) (Zd (Ze 3) (Zd (Ze 4) Zn)))) Zn
theorem Zjl:Zaq ["roll","states","last"] ["roll","states"] (Zm ZeV):=⟨rfl,rfl,rfl,by decide +kernel,rfl,by decide +kernel,by decide +kernel⟩
theorem ZmM (A:Zay K mg "ended" ZeV ["roll","states"]) (T:Txt K mg):Fn3 P w K mg base 1 "ended" ["roll","states"] Zej:=
  Fn3.of (N:=["roll","states","last"]) (k:=0) A Zjl fun f cdv A outer s H E hr=>by
    have hu:=Zcc hr
    unfold ZkT
    refine Zg ?_ ?_
    ·exact Zad 2 Zjl.nd (Zy Zz (Ze 1) (Zgx Zeu Zk))
    ·exact Zq (Zap (Zho ((ZcD hu)) (Zy Zz (Zy Zz (Ze 0) (Zy Zz (Ze 2) Zk)) Zk) ZaM))
theorem Zmg:Zaq ["roll","boxes","most","states"] ["roll","boxes","most"] (Zm Zh1):=⟨rfl,rfl,rfl,by decide +kernel,rfl,by decide +kernel,by decide +kernel⟩
theorem Zpv (A:Zay K mg "run" Zh1 ["roll","boxes","most"]) (T:Txt K mg) (F_first_state:Fn3 P w K mg base 1 "first_state" ["boxes"] Zbp) (F_next_state:Fn3 P w K mg base 3 "next_state" ["roll","state"] Zbh) (F_ended:Fn3 P w K mg base 1 "ended" ["roll","states"] Zej):Fn3 P w K mg base 4 "run" ["roll","boxes","most"] Zk7:=
  Fn3.of (N:=["roll","boxes","most","states"]) (k:=3) A Zmg fun f cdv A outer s H E hr=>by
    have hu:=Zcc hr
    unfold Zpe
    refine Zg ?_ ?_
    ·exact Zad 3 Zmg.nd (ZcI (Zd (Zaz (k:=1) (ps:=["boxes"]) F_first_state (hr.mono (by decide)) (Zd (Ze 1) Zn)) Zn))
    ·refine Zg ?_ ?_
     ·refine ZfN ?_ ?_ ?_
      ·exact rfl
      ·refine CW.ct ?_
       exact ZfU (Zai Zr6 (ZcG (id:="len") ZcJ T.m_len ZbG (Zd (Ze 3) Zn)) (Ze 2)) (ZeQ (Zfs (ZdP (Zaz (k:=1) (ps:=["roll","states"]) F_ended (hr.mono (by decide)) (Zd (Ze 0) (Zd (Ze 3) Zn))))))
      ·exact Zq (Zb1 (ZaL (Ze 3) (Zd (Zaz (k:=3) (ps:=["roll","state"]) F_next_state (hr.mono (by decide)) (Zd (Ze 0) (Zd (Zy Zz (Ze 3) (Zgx Zeu Zk)) Zn))) Zn)))
     ·exact Zq (Zap (Ze 3))
theorem Zi3:Zaq ["number","many"] ["number","many"] (Zm Zct):=⟨rfl,rfl,rfl,by decide +kernel,rfl,by decide +kernel,by decide +kernel⟩
theorem ZiK (A:Zay K mg "is_within" Zct ["number","many"]) (T:Txt K mg):Fn3 P w K mg base 1 "is_within" ["number","many"] Zcl:=
  Fn3.of (N:=["number","many"]) (k:=0) A Zi3 fun f cdv A outer s H E hr=>by
    have hu:=Zcc hr
    unfold ZeH
    exact Zq (Zap (Zq5 (Zho ZsS (Ze 0) Zk) (ZrL (Zho Zj2 (Ze 0) (Ze 1)))))
theorem ZgG:Zaq ["self"] ["self"] (Zm ZbE):=⟨rfl,rfl,rfl,by decide +kernel,rfl,by decide +kernel,by decide +kernel⟩
theorem Zha {C_Teller:Addr} (O_Teller:Zb2 K mg C_Teller) (A:Zgo K C_Teller "many" "Teller.many" ZbE ["self"]) (T:Txt K mg):Zf4 P w K mg base 1 C_Teller "many" ["self"] Za8:=
  Zf4.of (N:=["self"]) (k:=0) A ZgG fun f cdv A outer s H E hr=>by
    have hu:=Zcc hr
    unfold Zfe
    exact Zq (Zap (ZcG (id:="len") ZcJ T.m_len ZbG (Zd (Zje (C:=C_Teller) (c:=[84,101,108,108,101,114]) (m:=[115,116,97,116,101,115]) O_Teller.ok O_Teller.n_states (Ze 0)) Zn)))
theorem Zff:Zaq ["self","time"] ["self","time"] (Zm Za3):=⟨rfl,rfl,rfl,by decide +kernel,rfl,by decide +kernel,by decide +kernel⟩
theorem Zfp {C_Teller:Addr} (O_Teller:Zb2 K mg C_Teller) (A:Zgo K C_Teller "state_at" "Teller.state_at" Za3 ["self","time"]) (T:Txt K mg) (F_is_within:Fn3 P w K mg base 1 "is_within" ["number","many"] Zcl):Zf4 P w K mg base 2 C_Teller "state_at" ["self","time"] Zbm:=
  Zf4.of (N:=["self","time"]) (k:=1) A Zff fun f cdv A outer s H E hr=>by
    have hu:=Zcc hr
    unfold ZdF
    refine Zg ?_ ?_
    ·refine ZaF ?_ ?_ ?_
     ·exact Zfs (ZdP (Zaz (k:=1) (ps:=["number","many"]) F_is_within (hr.mono (by decide)) (Zd (Ze 1) (Zd (ZcG (id:="len") ZcJ T.m_len ZbG (Zd (Zje (C:=C_Teller) (c:=[84,101,108,108,101,114]) (m:=[115,116,97,116,101,115]) O_Teller.ok O_Teller.n_states (Ze 0)) Zn)) Zn))))
     ·exact Zq ZiM
     ·exact Zar
    ·exact Zg (Zb1 (ZaL (Zje (C:=C_Teller) (c:=[84,101,108,108,101,114]) (m:=[97,115,107,101,100]) O_Teller.ok O_Teller.n_asked (Ze 0)) (Zd (Ze 1) Zn))) (Zq (Zap (Zy Zz (Zje (C:=C_Teller) (c:=[84,101,108,108,101,114]) (m:=[115,116,97,116,101,115]) O_Teller.ok O_Teller.n_states (Ze 0)) (Ze 1))))
theorem Zkv:Zaq ["one","other","time"] ["one","other","time"] (Zm Zdj):=⟨rfl,rfl,rfl,by decide +kernel,rfl,by decide +kernel,by decide +kernel⟩
theorem Zka (A:Zay K mg "both_at" Zdj ["one","other","time"]) (T:Txt K mg) {C_Teller:Addr} (O_Teller:Zb2 K mg C_Teller) (M_Teller_state_at:Zf4 P w K mg base 2 C_Teller "state_at" ["self","time"] Zbm):Fn3 P w K mg base 3 "both_at" ["one","other","time"] Zcr:=
  Fn3.of (N:=["one","other","time"]) (k:=2) A Zkv fun f cdv A outer s H E hr=>by
    have hu:=Zcc hr
    unfold ZhU
    exact Zq (Zap (Zbv (Zd (Znj (C:=C_Teller) (c:=[84,101,108,108,101,114]) (m:=[115,116,97,116,101,95,97,116]) (k:=2) (ps:=["self","time"]) O_Teller.ok M_Teller_state_at (hr.mono (by decide)) (Ze 0) (Zd (Ze 2) Zn)) (Zd (Znj (C:=C_Teller) (c:=[84,101,108,108,101,114]) (m:=[115,116,97,116,101,95,97,116]) (k:=2) (ps:=["self","time"]) O_Teller.ok M_Teller_state_at (hr.mono (by decide)) (Ze 1) (Zd (Ze 2) Zn)) Zn))))
theorem ZhQ:Zaq ["both"] ["both"] (Zm ZbX):=⟨rfl,rfl,rfl,by decide +kernel,rfl,by decide +kernel,by decide +kernel⟩
theorem ZhO (A:Zay K mg "are_unlike" ZbX ["both"]) (T:Txt K mg):Fn3 P w K mg base 1 "are_unlike" ["both"] ZbA:=
  Fn3.of (N:=["both"]) (k:=0) A ZhQ fun f cdv A outer s H E hr=>by
    have hu:=Zcc hr
    unfold ZfK
    exact Zq (Zap (Zho ((Zg1 hu)) (Zy Zz (Ze 0) Zk) (Zy Zz (Ze 0) Zk)))
theorem Zfd:Zaq ["roll","state","both","right"] ["roll","state","both"] (Zm Zb3):=⟨rfl,rfl,rfl,by decide +kernel,rfl,by decide +kernel,by decide +kernel⟩
theorem ZhE (A:Zay K mg "wrong_ones" Zb3 ["roll","state","both"]) (T:Txt K mg) (F_next_state:Fn3 P w K mg base 3 "next_state" ["roll","state"] Zbh):Fn3 P w K mg base 4 "wrong_ones" ["roll","state","both"] Zdb:=
  Fn3.of (N:=["roll","state","both","right"]) (k:=3) A Zfd fun f cdv A outer s H E hr=>by
    have hu:=Zcc hr
    unfold ZfL
    refine Zg ?_ ?_
    ·exact Zad 3 Zfd.nd (Zaz (k:=3) (ps:=["roll","state"]) F_next_state (hr.mono (by decide)) (Zd (Ze 0) (Zd (Ze 1) Zn)))
    ·exact Zq (Zap (Zbv (Zd (Zho ((Zo7 hu)) (Zy Zz (Ze 2) Zk) (Ze 3)) (Zd (Zho ((Zo7 hu)) (Zy Zz (Ze 2) Zk) (Ze 3)) Zn))))
theorem Za9:Zaq ["roll","one","other","low","first","high","last","alike","unlike","middle","both"] ["roll","one","other"] (Zm Zd4):=⟨rfl,rfl,rfl,by decide +kernel,rfl,by decide +kernel,by decide +kernel⟩
theorem Zl1 (A:Zay K mg "judged" Zd4 ["roll","one","other"]) (T:Txt K mg) {C_Teller:Addr} (O_Teller:Zb2 K mg C_Teller) (M_Teller_many:Zf4 P w K mg base 1 C_Teller "many" ["self"] Za8) (F_both_at:Fn3 P w K mg base 3 "both_at" ["one","other","time"] Zcr) (F_are_unlike:Fn3 P w K mg base 1 "are_unlike" ["both"] ZbA) (F_wrong_ones:Fn3 P w K mg base 4 "wrong_ones" ["roll","state","both"] Zdb):Fn3 P w K mg base 5 "judged" ["roll","one","other"] ZdZ:=
  Fn3.of (N:=["roll","one","other","low","first","high","last","alike","unlike","middle","both"]) (k:=4) A Za9 fun f cdv A outer s H E hr=>by
    have hu:=Zcc hr
    unfold ZjT
    refine Zg ?_ ?_
    ·refine ZaF ?_ ?_ ?_
     ·refine CW.ct ?_
      exact Zgk (Zai ((Zg1 hu)) (ZfB (C:=C_Teller) (c:=[84,101,108,108,101,114]) (m:=[109,97,110,121]) (k:=1) (ps:=["self"]) O_Teller.ok M_Teller_many (hr.mono (by decide)) (Ze 1)) (ZfB (C:=C_Teller) (c:=[84,101,108,108,101,114]) (m:=[109,97,110,121]) (k:=1) (ps:=["self"]) O_Teller.ok M_Teller_many (hr.mono (by decide)) (Ze 2))) (ZgU (Zai Zj2 (ZfB (C:=C_Teller) (c:=[84,101,108,108,101,114]) (m:=[109,97,110,121]) (k:=1) (ps:=["self"]) O_Teller.ok M_Teller_many (hr.mono (by decide)) (Ze 1)) Zk))
     ·exact Zq ZiM
     ·exact Zar
    ·refine Zg ?_ ?_
     ·exact Zad 3 Za9.nd Zk
     ·refine Zg ?_ ?_
      ·exact Zad 4 Za9.nd (Zaz (k:=3) (ps:=["one","other","time"]) F_both_at (hr.mono (by decide)) (Zd (Ze 1) (Zd (Ze 2) (Zd (Ze 3) Zn))))
      ·refine Zg ?_ ?_
       ·exact ZaF (ZdP (Zaz (k:=1) (ps:=["both"]) F_are_unlike (hr.mono (by decide)) (Zd (Ze 4) Zn))) (Zq ZiM) Zar
       ·refine Zg ?_ ?_
        ·exact Zad 5 Za9.nd (Zaa Ze3 (ZfB (C:=C_Teller) (c:=[84,101,108,108,101,114]) (m:=[109,97,110,121]) (k:=1) (ps:=["self"]) O_Teller.ok M_Teller_many (hr.mono (by decide)) (Ze 1)) Zk)
        ·refine Zg ?_ ?_
         ·exact Zad 6 Za9.nd (Zaz (k:=3) (ps:=["one","other","time"]) F_both_at (hr.mono (by decide)) (Zd (Ze 1) (Zd (Ze 2) (Zd (Ze 5) Zn))))
         ·refine Zg ?_ ?_
          ·exact ZaF (Zfs (ZdP (Zaz (k:=1) (ps:=["both"]) F_are_unlike (hr.mono (by decide)) (Zd (Ze 6) Zn)))) (Zq ZiM) Zar
          ·refine Zg ?_ ?_
           ·exact Zad 7 Za9.nd (Zy Zz (Ze 4) Zk)
           ·refine Zg ?_ ?_
            ·exact Zad 8 Za9.nd (Ze 6)
            ·refine Zg ?_ ?_
             ·refine ZfN ?_ ?_ ?_
              ·exact rfl
              ·exact Zai ((Zg1 hu)) (Ze 5) (Zaa Za4 (Ze 3) Zk)
              ·refine Zg ?_ ?_
               ·exact Zad 9 Za9.nd (Zaa Zbg (Zaa Za4 (Ze 3) (Ze 5)) Zk)
               ·refine Zg ?_ ?_
                ·exact Zad 10 Za9.nd (Zaz (k:=3) (ps:=["one","other","time"]) F_both_at (hr.mono (by decide)) (Zd (Ze 1) (Zd (Ze 2) (Zd (Ze 9) Zn))))
                ·refine Zq ?_
                 refine ZaF ?_ ?_ ?_
                 ·exact ZdP (Zaz (k:=1) (ps:=["both"]) F_are_unlike (hr.mono (by decide)) (Zd (Ze 10) Zn))
                 ·exact Zg (Zad 5 Za9.nd (Ze 9)) (Zq (Zad 8 Za9.nd (Ze 10)))
                 ·exact Zg (Zad 3 Za9.nd (Ze 9)) (Zq (Zad 7 Za9.nd (Zy Zz (Ze 10) Zk)))
             ·exact Zq (Zap (Zbv (Zd (Ze 3) (Zd (Zaz (k:=4) (ps:=["roll","state","both"]) F_wrong_ones (hr.mono (by decide)) (Zd (Ze 0) (Zd (Ze 7) (Zd (Ze 8) Zn)))) Zn))))
theorem Zed:Zaq ["deck","cells","at"] ["deck"] (Zm Zcq):=⟨rfl,rfl,rfl,by decide +kernel,rfl,by decide +kernel,by decide +kernel⟩
theorem ZiQ (A:Zay K mg "_law_next" Zcq ["deck"]) (T:Txt K mg):Fn3 P w K mg base 1 "_law_next" ["deck"] ZaP:=
  Fn3.of (N:=["deck","cells","at"]) (k:=0) A Zed fun f cdv A outer s H E hr=>by
    have hu:=Zcc hr
    unfold Zcp
    refine Zg ?_ ?_
    ·exact Zad 1 Zed.nd (Zy Zz (Ze 0) Zk)
    ·refine Zg ?_ ?_
     ·exact Zad 2 Zed.nd (Zy Zz (Ze 0) Zk)
     ·refine Zg ?_ ?_
      ·exact Zk8 (Ze 0) Zk (Zaa Za4 (Ze 2) Zk)
      ·refine Zg ?_ ?_
       ·exact ZaF (Zai Zj2 (Ze 2) (ZcG (id:="len") ZcJ T.m_len ZbG (Zd (Ze 1) Zn))) (Zq (Zap (Zy Zz (Ze 1) (Ze 2)))) Zar
       ·refine Zg ?_ ?_
        ·refine ZaF ?_ ?_ ?_
         ·exact Zai ((ZcD hu)) (ZcG (id:="len") ZcJ T.m_len ZbG (Zd (Ze 1) Zn)) Zk
         ·exact Zq (Zap (Zaa Za4 (Zaa Znt (Zaa Znt (Ze 2) (Ze 2)) Zk) (Ze 2)))
         ·exact Zar
        ·refine Zq ?_
         refine Zap ?_
         exact Zaa Za4 (Zaa Zbg (Zy Zz (Ze 1) (Zaa Zby (Ze 2) (ZcG (id:="len") ZcJ T.m_len ZbG (Zd (Ze 1) Zn)))) Zk) (Zaa Znt (Ze 2) (Ze 2))
theorem ZaG:Zaq ["cells","roll","k","cell","word","more","a","b","c","goal","last"] ["cells"] (Zm Zcn):=⟨rfl,rfl,rfl,by decide +kernel,rfl,by decide +kernel,by decide +kernel⟩
theorem Ziv (A:Zay K mg "_law_roll" Zcn ["cells"]) (T:Txt K mg):Fn3 P w K mg base 1 "_law_roll" ["cells"] ZdC:=
  Fn3.of (N:=["cells","roll","k","cell","word","more","a","b","c","goal","last"]) (k:=0) A ZaG fun f cdv A outer s H E hr=>by
    have hu:=Zcc hr
    unfold ZeC
    refine Zg ?_ ?_
    ·exact Zad 1 ZaG.nd (ZcI Zn)
    ·refine Zg ?_ ?_
     ·refine ZoN ?_ ?_ ?_ ?_ ?_
      ·exact rfl
      ·exact rfl
      ·exact Zot T.m_enumerate (Ze 0)
      ·exact ZiG rfl (Zce 2 ZaG.nd (Zce 3 ZaG.nd ZgF))
      ·refine Zg ?_ ?_
       ·refine Zad 4 ?_ ?_
        ·exact ZaG.nd
        ·refine Zy ?_ ?_ ?_
         ·exact Zz
         ·exact ZcI (Zd ZaM (Zd ZaM (Zd ZaM (Zd ZaM (Zd ZaM (Zd ZaM (Zd ZaM (Zd ZaM (Zd ZaM (Zd ZaM Zn))))))))))
         ·exact Zaa Zby (Ze 3) Zk
       ·refine Zg ?_ ?_
        ·exact Zad 5 ZaG.nd (Zaa Zbg (Ze 3) Zk)
        ·refine Zg ?_ ?_
         ·exact Zad 6 ZaG.nd (Zaa Zby (Ze 5) Zk)
         ·refine Zg ?_ ?_
          ·exact Zad 7 ZaG.nd (Zaa Zby (Zaa Zbg (Ze 5) Zk) Zk)
          ·refine Zg ?_ ?_
           ·exact Zad 8 ZaG.nd (Zaa Zby (Zaa Zbg (Ze 5) Zk) Zk)
           ·refine Zg ?_ ?_
            ·refine Zad 9 ?_ ?_
             ·exact ZaG.nd
             ·exact Zaa Za4 (Zaa Za4 (Ze 2) Zk) (Zaa Zby (Zaa Zbg (Ze 5) Zk) (Zaa Ze3 (ZcG (id:="len") ZcJ T.m_len ZbG (Zd (Ze 0) Zn)) (Ze 2)))
            ·refine Zg ?_ ?_
             ·refine ZaF ?_ ?_ ?_
              ·exact Zai ((ZcD hu)) (Zaa Zby (Zaa Zbg (Ze 5) Zk) Zk) Zk
              ·exact Zq (Zad 9 ZaG.nd (Zaa Zby (Zaa Zbg (Ze 5) Zk) (Zaa Za4 (ZcG (id:="len") ZcJ T.m_len ZbG (Zd (Ze 0) Zn)) Zk)))
              ·exact Zar
             ·refine Zq ?_
              refine ZaF ?_ ?_ ?_
              ·exact Zai ((ZcD hu)) (Ze 4) ZaM
              ·refine Zq ?_
               refine Zb1 ?_
               refine ZaL ?_ ?_
               ·exact Ze 1
               ·refine Zd ?_ ?_
                ·refine Zbv ?_
                 refine Zd ?_ ?_
                 ·exact Ze 4
                 ·refine Zd ?_ ?_
                  ·exact Ze 6
                  ·refine Zd ?_ ?_
                   ·refine Zy ?_ ?_ ?_
                    ·exact Zz
                    ·refine ZcI ?_
                     refine Zd ?_ ?_
                     ·exact Zaa Zby (Zaa Zbg (Ze 5) Zk) Zk
                     ·refine Zd ?_ ?_
                      ·exact Zaa Ze3 Zk (Zaa Zby (Zaa Zbg (Ze 5) Zk) (Zaa Zk3 Zk Zk))
                      ·exact Zd (Zaa Zby (Zaa Zbg (Ze 5) Zk) (Zaa Zk3 Zk Zk)) Zn
                    ·exact Zaa Zby (Ze 7) Zk
                   ·exact Zn
                ·exact Zn
              ·refine Zq ?_
               refine ZaF ?_ ?_ ?_
               ·exact Zai ZoX (Ze 4) (ZcI (Zd ZaM (Zd ZaM (Zd ZaM Zn))))
               ·exact Zq (Zb1 (ZaL (Ze 1) (Zd (Zbv (Zd (Ze 4) (Zd (Ze 6) (Zd (Ze 7) (Zd (Ze 8) Zn))))) Zn)))
               ·refine Zq ?_
                refine ZaF ?_ ?_ ?_
                ·exact Zai ZoX (Ze 4) (ZcI (Zd ZaM (Zd ZaM Zn)))
                ·exact Zq (Zb1 (ZaL (Ze 1) (Zd (Zbv (Zd (Ze 4) (Zd (Ze 6) (Zd (Ze 7) Zn)))) Zn)))
                ·refine Zq ?_
                 refine ZaF ?_ ?_ ?_
                 ·exact Zai ((ZcD hu)) (Ze 4) ZaM
                 ·exact Zq (Zb1 (ZaL (Ze 1) (Zd (Zbv (Zd (Ze 4) (Zd (Ze 6) (Zd (Ze 9) Zn)))) Zn)))
                 ·refine Zq ?_
                  refine ZaF ?_ ?_ ?_
                  ·exact Zai ((ZcD hu)) (Ze 4) ZaM
                  ·exact Zq (Zb1 (ZaL (Ze 1) (Zd (Zbv (Zd (Ze 4) (Zd (Ze 9) Zn))) Zn)))
                  ·exact Zq (Zb1 (ZaL (Ze 1) (Zd (Zbv (Zd (Ze 4) (Zd (Ze 6) Zn))) Zn)))
     ·refine Zg ?_ ?_
      ·exact Zad 10 ZaG.nd (Zbv (Zd ZaM Zn))
      ·refine Zg ?_ ?_
       ·refine ZaF ?_ ?_ ?_
        ·refine CW.ct ?_
         refine ZfU ?_ ?_
         ·exact Zai Zix (ZcG (id:="len") ZcJ T.m_len ZbG (Zd (Ze 0) Zn)) Zk
         ·exact ZeQ (Zai ((ZcD hu)) (Zaa Zby (Zy Zz (Ze 0) (Zgx Zeu Zk)) Zk) Zk)
        ·refine Zq ?_
         refine Zad 10 ?_ ?_
         ·exact ZaG.nd
         ·refine Zbv ?_
          refine Zd ?_ ?_
          ·exact ZaM
          ·refine Zd ?_ ?_
           ·exact Zaa Zby (Zaa Zbg (Zy Zz (Ze 0) (Zgx Zeu Zk)) Zk) (Zaa Za4 (ZcG (id:="len") ZcJ T.m_len ZbG (Zd (Ze 0) Zn)) Zk)
           ·exact Zn
        ·exact Zar
       ·exact Zq (Zap (ZeK (T:="tuple") ZeS T.m_tuple ZdV (Zd (Zaa Za4 (Ze 1) (ZcI (Zd (Ze 10) Zn))) Zn)))
theorem ZaK:Zaq ["deed","place","boxes","held","value"] ["deed","place","boxes","held"] (Zm ZbC):=⟨rfl,rfl,rfl,by decide +kernel,rfl,by decide +kernel,by decide +kernel⟩
theorem ZgV (A:Zay K mg "_law_behind" ZbC ["deed","place","boxes","held"]) (T:Txt K mg):Fn3 P w K mg base 1 "_law_behind" ["deed","place","boxes","held"] Za7:=
  Fn3.of (N:=["deed","place","boxes","held","value"]) (k:=0) A ZaK fun f cdv A outer s H E hr=>by
    have hu:=Zcc hr
    unfold ZaE
    refine Zg ?_ ?_
    ·exact Zad 1 ZaK.nd (Zaa Za4 (Ze 1) Zk)
    ·refine Zg ?_ ?_
     ·exact Zad 4 ZaK.nd ZhZ
     ·refine Zg ?_ ?_
      ·exact ZaF (Zai ((ZcD hu)) (Zy Zz (Ze 0) Zk) ZaM) (Zq (Zad 4 ZaK.nd (Zy Zz (Ze 0) Zk))) Zar
      ·refine Zg ?_ ?_
       ·refine ZaF ?_ ?_ ?_
        ·exact Zai ((ZcD hu)) (Zy Zz (Ze 0) Zk) ZaM
        ·exact Zq (Zad 4 ZaK.nd (Zaa Za4 (Zy Zz (Ze 2) (Zy Zz (Ze 0) Zk)) (Zy Zz (Ze 2) (Zy Zz (Ze 0) Zk))))
        ·exact Zar
       ·refine Zg ?_ ?_
        ·refine ZaF ?_ ?_ ?_
         ·exact Zai ((ZcD hu)) (Zy Zz (Ze 0) Zk) ZaM
         ·exact Zq (Zad 4 ZaK.nd (Zaa Ze3 (Zy Zz (Ze 2) (Zy Zz (Ze 0) Zk)) (Zy Zz (Ze 2) (Zy Zz (Ze 0) Zk))))
         ·exact Zar
        ·refine Zg ?_ ?_
         ·refine ZaF ?_ ?_ ?_
          ·exact Zai ((ZcD hu)) (Zy Zz (Ze 0) Zk) ZaM
          ·refine Zq ?_
           refine Zad 4 ?_ ?_
           ·exact ZaK.nd
           ·refine Zy ?_ ?_ ?_
            ·exact Zz
            ·exact ZcI (Zd Zk (Zd Zk Zn))
            ·exact ZeK (T:="int") ZpU T.m_int Zp9 (Zd (Zho Zix (Zy Zz (Ze 2) (Zy Zz (Ze 0) Zk)) (Zy Zz (Ze 2) (Zy Zz (Ze 0) Zk))) Zn)
          ·exact Zar
         ·refine Zg ?_ ?_
          ·exact ZaF (Zai ((ZcD hu)) (Zy Zz (Ze 0) Zk) ZaM) (Zq (Zad 4 ZaK.nd (Ze 3))) Zar
          ·refine Zg ?_ ?_
           ·refine ZaF ?_ ?_ ?_
            ·refine CW.ct ?_
             refine Zgk ?_ ?_
             ·exact Zai ((ZcD hu)) (Zy Zz (Ze 0) Zk) ZaM
             ·exact ZgU (CW.ct (ZfU (Zai ((ZcD hu)) (Zy Zz (Ze 0) Zk) ZaM) (ZeQ (Zai Zix (Zy Zz (Ze 2) (Zy Zz (Ze 0) Zk)) Zk))))
            ·exact Zq (Zad 1 ZaK.nd (Zy Zz (Ze 0) (Zgx Zeu Zk)))
            ·exact Zar
           ·refine Zg ?_ ?_
            ·refine ZaF ?_ ?_ ?_
             ·exact Zai Zip (Ze 4) ZhZ
             ·refine Zq ?_
              refine Zad 2 ?_ ?_
              ·exact ZaK.nd
              ·refine Zaa ?_ ?_ ?_
               ·exact Za4
               ·exact Zaa Za4 (Zi6 ZjL (Ze 2) ZdG (ZdE (Zy Zz (Ze 0) Zk))) (Zbv (Zd (Ze 4) Zn))
               ·exact Zi6 ZjL (Ze 2) (ZdE (Zaa Za4 (Zy Zz (Ze 0) Zk) Zk)) ZdG
             ·exact Zar
            ·exact Zq (Zap (Zbv (Zd (Ze 1) (Zd (Ze 2) Zn))))
theorem Zdp:Zaq ["cells","number","value","found"] ["cells","number","value"] (Zm Za0):=⟨rfl,rfl,rfl,by decide +kernel,rfl,by decide +kernel,by decide +kernel⟩
theorem Zfw (A:Zay K mg "_law_cells_with" Za0 ["cells","number","value"]) (T:Txt K mg):Fn3 P w K mg base 1 "_law_cells_with" ["cells","number","value"] Za5:=
  Fn3.of (N:=["cells","number","value","found"]) (k:=0) A Zdp fun f cdv A outer s H E hr=>by
    have hu:=Zcc hr
    unfold ZdN
    refine Zg ?_ ?_
    ·exact Zhg (N':=["cells","number","value","found","pair"]) 3 (Zga rfl (by kernel_rfl)) rfl rfl Zdp.nd (Znx (Ze 0)) (fun C cl s H ex=>⟨(Zec 4 ((show List.Nodup (["cells","number","value","found","pair"]:List Str) by decide +kernel))),(ZiT (Zai ((Zg1 hu)) (Zy Zz (Ze 4) Zk) (Ze 1))),(Ze 4)⟩)
    ·refine Zg ?_ ?_
     ·exact ZaF (Zai ((Zg1 hu)) (Ze 2) Zk) (Zq (Zb1 (ZaL (Ze 3) (Zd (Zbv (Zd (Ze 1) (Zd (Ze 2) Zn))) Zn)))) Zar
     ·exact Zq (Zap (ZeK (T:="tuple") ZeS T.m_tuple ZdV (Zd (ZcG (id:="sorted") Zmq T.m_sorted Zlp (Zd (Ze 3) Zn)) Zn)))
theorem Zav:Zaq ["roll","state","place","boxes","cells","deed","held"] ["roll","state"] (Zm ZaZ):=⟨rfl,rfl,rfl,by decide +kernel,rfl,by decide +kernel,by decide +kernel⟩
theorem Zfk (A:Zay K mg "_law_next_state" ZaZ ["roll","state"]) (T:Txt K mg) (F__law_behind:Fn3 P w K mg base 1 "_law_behind" ["deed","place","boxes","held"] Za7) (F__law_cells_with:Fn3 P w K mg base 1 "_law_cells_with" ["cells","number","value"] Za5):Fn3 P w K mg base 2 "_law_next_state" ["roll","state"] Zao:=
  Fn3.of (N:=["roll","state","place","boxes","cells","deed","held"]) (k:=1) A Zav fun f cdv A outer s H E hr=>by
    have hu:=Zcc hr
    unfold ZbM
    refine Zg ?_ ?_
    ·exact ZjV (Ze 1) (ZiG rfl (Zce 2 Zav.nd (Zce 3 Zav.nd (Zce 4 Zav.nd ZgF))))
    ·refine Zg ?_ ?_
     ·exact Zad 5 Zav.nd (Zy Zz (Ze 0) (Ze 2))
     ·refine Zg ?_ ?_
      ·exact ZaF (Zai ((ZcD hu)) (Zy Zz (Ze 5) Zk) ZaM) (Zq (Zap ZhZ)) Zar
      ·refine Zg ?_ ?_
       ·exact Zad 6 Zav.nd Zk
       ·refine Zg ?_ ?_
        ·refine ZaF ?_ ?_ ?_
         ·exact Zai ((ZcD hu)) (Zy Zz (Ze 5) Zk) ZaM
         ·exact Zq (Zad 6 Zav.nd (Zkb hu (ZeK (T:="dict") ((Zkn rfl)) T.m_dict ZiS (Zd (Ze 4) Zn)) (Zy Zz (Ze 3) (Zy Zz (Ze 5) Zk)) Zk))
         ·exact Zar
        ·refine Zg ?_ ?_
         ·refine ZaF ?_ ?_ ?_
          ·exact Zai ((ZcD hu)) (Zy Zz (Ze 5) Zk) ZaM
          ·refine Zq ?_
           refine Zad 4 ?_ ?_
           ·exact Zav.nd
           ·exact Zaz (k:=1) (ps:=["cells","number","value"]) F__law_cells_with (hr.mono (by decide)) (Zd (Ze 4) (Zd (Zy Zz (Ze 3) (Zy Zz (Ze 5) Zk)) (Zd (Zy Zz (Ze 3) (Zy Zz (Ze 5) Zk)) Zn)))
          ·exact Zar
         ·refine Zg ?_ ?_
          ·exact ZjV (Zaz (k:=1) (ps:=["deed","place","boxes","held"]) F__law_behind (hr.mono (by decide)) (Zd (Ze 5) (Zd (Ze 2) (Zd (Ze 3) (Zd (Ze 6) Zn))))) (ZiG rfl (Zce 2 Zav.nd (Zce 3 Zav.nd ZgF)))
          ·exact Zq (Zap (Zbv (Zd (Ze 2) (Zd (Ze 3) (Zd (Ze 4) Zn)))))
theorem Zgf:Zaq ["roll","boxes","most","states"] ["roll","boxes","most"] (Zm ZcN):=⟨rfl,rfl,rfl,by decide +kernel,rfl,by decide +kernel,by decide +kernel⟩
theorem ZjM (A:Zay K mg "_law_run" ZcN ["roll","boxes","most"]) (T:Txt K mg) (F__law_next_state:Fn3 P w K mg base 2 "_law_next_state" ["roll","state"] Zao):Fn3 P w K mg base 3 "_law_run" ["roll","boxes","most"] Zea:=
  Fn3.of (N:=["roll","boxes","most","states"]) (k:=2) A Zgf fun f cdv A outer s H E hr=>by
    have hu:=Zcc hr
    unfold ZgI
    refine Zg ?_ ?_
    ·exact Zad 3 Zgf.nd (ZcI (Zd (Zbv (Zd Zk (Zd (Ze 1) (Zd (Zbv Zn) Zn)))) Zn))
    ·refine Zg ?_ ?_
     ·refine ZfN ?_ ?_ ?_
      ·exact rfl
      ·refine CW.ct ?_
       refine ZfU ?_ ?_
       ·exact Zai Zr6 (ZcG (id:="len") ZcJ T.m_len ZbG (Zd (Ze 3) Zn)) (Ze 2)
       ·exact ZeQ (Zai Zip (Zaz (k:=2) (ps:=["roll","state"]) F__law_next_state (hr.mono (by decide)) (Zd (Ze 0) (Zd (Zy Zz (Ze 3) (Zgx Zeu Zk)) Zn))) ZhZ)
      ·exact Zq (Zb1 (ZaL (Ze 3) (Zd (Zaz (k:=2) (ps:=["roll","state"]) F__law_next_state (hr.mono (by decide)) (Zd (Ze 0) (Zd (Zy Zz (Ze 3) (Zgx Zeu Zk)) Zn))) Zn)))
     ·exact Zq (Zap (Ze 3))
theorem ZcT:Zaq ["deck","found","k","cell"] ["deck"] (Zm ZbY):=⟨rfl,rfl,rfl,by decide +kernel,rfl,by decide +kernel,by decide +kernel⟩
theorem ZhD (A:Zay K mg "_law_boxes" ZbY ["deck"]) (T:Txt K mg) (F__law_next:Fn3 P w K mg base 1 "_law_next" ["deck"] ZaP):Fn3 P w K mg base 2 "_law_boxes" ["deck"] Zde:=
  Fn3.of (N:=["deck","found","k","cell"]) (k:=1) A ZcT fun f cdv A outer s H E hr=>by
    have hu:=Zcc hr
    unfold ZfH
    refine Zg ?_ ?_
    ·exact Zad 1 ZcT.nd (ZcI Zn)
    ·refine Zg ?_ ?_
     ·refine ZiH ?_ ?_ ?_ ?_ ?_
      ·exact rfl
      ·exact rfl
      ·exact Zlt T.m_range Zk
      ·exact Zec 2 ZcT.nd
      ·refine Zg ?_ ?_
       ·exact Zad 3 ZcT.nd (Zaz (k:=1) (ps:=["deck"]) F__law_next (hr.mono (by decide)) (Zd (Ze 0) Zn))
       ·refine Zq ?_
        refine Zb1 ?_
        refine ZaL ?_ ?_
        ·exact Ze 1
        ·refine Zd ?_ ?_
         ·refine Zy ?_ ?_ ?_
          ·exact Zz
          ·refine ZcI ?_
           refine Zd ?_ ?_
           ·exact Zaa Zby (Zaa Zbg (Ze 3) Zk) Zk
           ·refine Zd ?_ ?_
            ·exact Zaa Ze3 Zk (Zaa Zby (Zaa Zbg (Ze 3) Zk) Zk)
            ·refine Zd ?_ ?_
             ·exact Zaa Zby (Zaa Zbg (Ze 3) Zk) (Zaa Zk3 Zk Zk)
             ·exact Zd (Zaa Ze3 Zk (Zaa Zby (Zaa Zbg (Ze 3) Zk) (Zaa Zk3 Zk Zk))) Zn
          ·exact Zaa Zby (Ze 3) Zk
         ·exact Zn
     ·exact Zq (Zap (ZeK (T:="tuple") ZeS T.m_tuple ZdV (Zd (Ze 1) Zn)))
theorem Zbq:Zaq ["state","cell","place","boxes","cells","number","held","box"] ["state","cell"] (Zm Zb6):=⟨rfl,rfl,rfl,by decide +kernel,rfl,by decide +kernel,by decide +kernel⟩
theorem ZhI (A:Zay K mg "_law_other" Zb6 ["state","cell"]) (T:Txt K mg) (F__law_cells_with:Fn3 P w K mg base 1 "_law_cells_with" ["cells","number","value"] Za5):Fn3 P w K mg base 2 "_law_other" ["state","cell"] Zbn:=
  Fn3.of (N:=["state","cell","place","boxes","cells","number","held","box"]) (k:=1) A Zbq fun f cdv A outer s H E hr=>by
    have hu:=Zcc hr
    unfold Zem
    refine Zg ?_ ?_
    ·exact ZjV (Ze 0) (ZiG rfl (Zce 2 Zbq.nd (Zce 3 Zbq.nd (Zce 4 Zbq.nd ZgF))))
    ·refine Zg ?_ ?_
     ·refine ZaF ?_ ?_ ?_
      ·exact Zai ((ZcD hu)) (Zaa Zby (Ze 1) Zk) Zk
      ·refine Zg ?_ ?_
       ·exact Zad 5 Zbq.nd (Zaa Zby (Zaa Zbg (Ze 1) Zk) Zk)
       ·refine Zg ?_ ?_
        ·exact Zad 6 Zbq.nd (Zkb hu (ZeK (T:="dict") ((Zkn rfl)) T.m_dict ZiS (Zd (Ze 4) Zn)) (Ze 5) Zk)
        ·refine Zq ?_
         refine Zap ?_
         refine Zbv ?_
         refine Zd ?_ ?_
         ·exact Ze 2
         ·refine Zd ?_ ?_
          ·exact Ze 3
          ·refine Zd ?_ ?_
           ·exact Zaz (k:=1) (ps:=["cells","number","value"]) F__law_cells_with (hr.mono (by decide)) (Zd (Ze 4) (Zd (Ze 5) (Zd (Zaa Za4 (Zaa Za4 (Ze 6) Zk) (Zaa Zby (Zaa Zbg (Ze 1) Zk) Zk)) Zn)))
           ·exact Zn
      ·exact Zar
     ·refine Zg ?_ ?_
      ·exact Zad 7 Zbq.nd (Zaa Zby (Zaa Zbg (Ze 1) Zk) Zk)
      ·refine Zq ?_
       refine Zap ?_
       refine Zbv ?_
       refine Zd ?_ ?_
       ·exact Ze 2
       ·refine Zd ?_ ?_
        ·refine Zaa ?_ ?_ ?_
         ·exact Za4
         ·refine Zaa ?_ ?_ ?_
          ·exact Za4
          ·exact Zi6 ZjL (Ze 3) ZdG (ZdE (Ze 7))
          ·exact Zbv (Zd (Zaa Za4 (Zaa Za4 (Zy Zz (Ze 3) (Ze 7)) Zk) (Zaa Zby (Zaa Zbg (Ze 1) Zk) Zk)) Zn)
         ·exact Zi6 ZjL (Ze 3) (ZdE (Zaa Za4 (Ze 7) Zk)) ZdG
        ·exact Zd (Ze 4) Zn
theorem Zbk:Zaq ["deck","roll","states","found","k","cell","state","behind"] ["deck","roll","states"] (Zm Zcu):=⟨rfl,rfl,rfl,by decide +kernel,rfl,by decide +kernel,by decide +kernel⟩
theorem ZiY (A:Zay K mg "_law_liar" Zcu ["deck","roll","states"]) (T:Txt K mg) (F__law_next:Fn3 P w K mg base 1 "_law_next" ["deck"] ZaP) (F__law_next_state:Fn3 P w K mg base 2 "_law_next_state" ["roll","state"] Zao) (F__law_other:Fn3 P w K mg base 2 "_law_other" ["state","cell"] Zbn):Fn3 P w K mg base 3 "_law_liar" ["deck","roll","states"] Zc0:=
  Fn3.of (N:=["deck","roll","states","found","k","cell","state","behind"]) (k:=2) A Zbk fun f cdv A outer s H E hr=>by
    have hu:=Zcc hr
    unfold ZeA
    refine Zg ?_ ?_
    ·exact Zad 3 Zbk.nd (ZcI (Zd (Zy Zz (Ze 2) Zk) Zn))
    ·refine Zg ?_ ?_
     ·refine ZiH ?_ ?_ ?_ ?_ ?_
      ·exact rfl
      ·exact rfl
      ·exact Zln T.m_range Zk (ZcG (id:="len") ZcJ T.m_len ZbG (Zd (Ze 2) Zn))
      ·exact Zec 4 Zbk.nd
      ·refine Zg ?_ ?_
       ·exact Zad 5 Zbk.nd (Zaz (k:=1) (ps:=["deck"]) F__law_next (hr.mono (by decide)) (Zd (Ze 0) Zn))
       ·refine Zg ?_ ?_
        ·exact Zad 6 Zbk.nd (Zy Zz (Ze 2) (Ze 4))
        ·refine Zg ?_ ?_
         ·exact Zad 7 Zbk.nd (Zaz (k:=2) (ps:=["roll","state"]) F__law_next_state (hr.mono (by decide)) (Zd (Ze 1) (Zd (Zy Zz (Ze 3) (Zgx Zeu Zk)) Zn)))
         ·refine Zg ?_ ?_
          ·refine ZaF ?_ ?_ ?_
           ·exact CW.ct (ZfU (Zai Zj2 (Zaa Zby (Ze 5) Zk) Zk) (ZeQ (Zai Zip (Ze 7) ZhZ)))
           ·exact Zq (Zad 6 Zbk.nd (Ze 7))
           ·refine Zq ?_
            refine ZaF ?_ ?_ ?_
            ·exact Zai ((ZcD hu)) (Zaa Zby (Ze 5) Zk) Zk
            ·exact Zq (Zad 6 Zbk.nd (Zaz (k:=2) (ps:=["state","cell"]) F__law_other (hr.mono (by decide)) (Zd (Zy Zz (Ze 2) (Ze 4)) (Zd (Zaa Zbg (Ze 5) Zk) Zn))))
            ·exact Zar
          ·exact Zq (Zb1 (ZaL (Ze 3) (Zd (Ze 6) Zn)))
     ·refine Zg ?_ ?_
      ·refine ZaF ?_ ?_ ?_
       ·exact Zai ((ZcD hu)) (Zy Zz (Ze 3) (Zgx Zeu Zk)) (Zy Zz (Ze 2) (Zgx Zeu Zk))
       ·refine Zq ?_
        refine Zk8 ?_ ?_ ?_
        ·exact Ze 3
        ·exact Zgx Zeu Zk
        ·exact Zaz (k:=2) (ps:=["state","cell"]) F__law_other (hr.mono (by decide)) (Zd (Zy Zz (Ze 2) (Zgx Zeu Zk)) (Zd (Zaz (k:=1) (ps:=["deck"]) F__law_next (hr.mono (by decide)) (Zd (Ze 0) Zn)) Zn))
       ·exact Zar
      ·exact Zq (Zap (Ze 3))
theorem Zci:Zaq ["number","many"] ["number"] (Zm Zbw):=⟨rfl,rfl,rfl,by decide +kernel,rfl,by decide +kernel,by decide +kernel⟩
theorem Zgr (A:Zay K mg "_law_figures" Zbw ["number"]) (T:Txt K mg):Fn3 P w K mg base 1 "_law_figures" ["number"] Zbu:=
  Fn3.of (N:=["number","many"]) (k:=0) A Zci fun f cdv A outer s H E hr=>by
    have hu:=Zcc hr
    unfold ZeD
    refine Zg ?_ ?_
    ·exact Zad 1 Zci.nd Zk
    ·refine Zg ?_ ?_
     ·exact ZfN rfl (Zai Zix (Ze 0) Zk) (Zg (Zad 0 Zci.nd (Zaa Zbg (Ze 0) Zk)) (Zq (Zad 1 Zci.nd (Zaa Za4 (Ze 1) Zk))))
     ·exact Zq (Zap (Ze 1))
theorem Zez:Zaq ["self"] ["self"] (Zm ZaQ):=⟨rfl,rfl,rfl,by decide +kernel,rfl,by decide +kernel,by decide +kernel⟩
theorem Zex {C_Teller:Addr} (O_Teller:Zb2 K mg C_Teller) (A:Zgo K C_Teller "times_asked" "Teller.times_asked" ZaQ ["self"]) (T:Txt K mg):Zf4 P w K mg base 1 C_Teller "times_asked" ["self"] ZaO:=
  Zf4.of (N:=["self"]) (k:=0) A Zez fun f cdv A outer s H E hr=>by
    have hu:=Zcc hr
    unfold ZcW
    exact Zq (Zap (ZeK (T:="list") Zqt T.m_list Zn4 (Zd (Zje (C:=C_Teller) (c:=[84,101,108,108,101,114]) (m:=[97,115,107,101,100]) O_Teller.ok O_Teller.n_asked (Ze 0)) Zn)))
theorem Zeh:Zaq ["found","states","liar","truth_first","tellers","low","teller"] ["found","states","liar","truth_first","tellers"] (Zm Zcs):=⟨rfl,rfl,rfl,by decide +kernel,rfl,by decide +kernel,by decide +kernel⟩
theorem Zis (A:Zay K mg "_law_fair" Zcs ["found","states","liar","truth_first","tellers"]) (T:Txt K mg) {C_Teller:Addr} (O_Teller:Zb2 K mg C_Teller) (M_Teller_times_asked:Zf4 P w K mg base 1 C_Teller "times_asked" ["self"] ZaO) (F__law_figures:Fn3 P w K mg base 1 "_law_figures" ["number"] Zbu):Fn3 P w K mg base 2 "_law_fair" ["found","states","liar","truth_first","tellers"] Zc1:=
  Fn3.of (N:=["found","states","liar","truth_first","tellers","low","teller"]) (k:=1) A Zeh fun f cdv A outer s H E hr=>by
    have hu:=Zcc hr
    unfold Zgn
    refine Zg ?_ ?_
    ·refine ZaF ?_ ?_ ?_
     ·refine CW.ct ?_
      refine Zgk ?_ ?_
      ·exact Zfs (ZdP (Zkx .tuple T.m_isinstance T.m_tuple (Ze 0)))
      ·refine Zgk ?_ ?_
       ·exact Zai ((Zg1 hu)) (ZcG (id:="len") ZcJ T.m_len ZbG (Zd (Ze 0) Zn)) Zk
       ·exact ZgU (Zai ((Zg1 hu)) (Zy Zz (Ze 0) Zk) (Zbv (Zd (Zq9 (Ze 3)) (Zd (Ze 3) Zn))))
     ·exact Zq (Zap Zg3)
     ·exact Zar
    ·refine Zg ?_ ?_
     ·exact Zad 5 Zeh.nd (Zy Zz (Ze 0) Zk)
     ·refine Zg ?_ ?_
      ·refine ZaF ?_ ?_ ?_
       ·refine CW.ct ?_
        refine Zgk ?_ ?_
        ·exact Zfs (ZdP (Zkx .int T.m_isinstance T.m_int (Ze 5)))
        ·refine Zgk ?_ ?_
         ·exact ZdP (Zkx .bool T.m_isinstance T.m_bool (Ze 5))
         ·exact Zgk (Zai Zj2 (Ze 5) Zk) (ZgU (Zai Zix (Ze 5) (Zaa Ze3 (ZcG (id:="len") ZcJ T.m_len ZbG (Zd (Ze 1) Zn)) Zk)))
       ·exact Zq (Zap Zg3)
       ·exact Zar
      ·refine Zg ?_ ?_
       ·refine ZaF ?_ ?_ ?_
        ·refine CW.ct ?_
         refine Zgk ?_ ?_
         ·exact Zai ((Zg1 hu)) (Zy Zz (Ze 1) (Ze 5)) (Zy Zz (Ze 2) (Ze 5))
         ·exact ZgU (Zai ((ZcD hu)) (Zy Zz (Ze 1) (Zaa Za4 (Ze 5) Zk)) (Zy Zz (Ze 2) (Zaa Za4 (Ze 5) Zk)))
        ·exact Zq (Zap Zg3)
        ·exact Zar
       ·refine Zg ?_ ?_
        ·refine ZiH ?_ ?_ ?_ ?_ ?_
         ·exact rfl
         ·exact rfl
         ·exact Znx (Ze 4)
         ·exact Zec 6 Zeh.nd
         ·refine Zq ?_
          refine ZaF ?_ ?_ ?_
          ·refine Zai ?_ ?_ ?_
           ·exact Zix
           ·exact ZcG (id:="len") ZcJ T.m_len ZbG (Zd (ZfB (C:=C_Teller) (c:=[84,101,108,108,101,114]) (m:=[116,105,109,101,115,95,97,115,107,101,100]) (k:=1) (ps:=["self"]) O_Teller.ok M_Teller_times_asked (hr.mono (by decide)) (Ze 6)) Zn)
           ·exact Zaa Za4 Zk (Zaz (k:=1) (ps:=["number"]) F__law_figures (hr.mono (by decide)) (Zd (Zaa Ze3 (ZcG (id:="len") ZcJ T.m_len ZbG (Zd (Ze 1) Zn)) Zk) Zn))
          ·exact Zq (Zap Zg3)
          ·exact Zar
        ·exact Zq (Zap Zg3)
theorem Zfh:Zaq ["self","states"] ["self","states"] (Zm Za2):=⟨rfl,rfl,rfl,by decide +kernel,rfl,by decide +kernel,by decide +kernel⟩
theorem Zfo {C_Teller:Addr} (O_Teller:Zb2 K mg C_Teller) (A:ZnQ K C_Teller "Teller.__init__" Za2 ["self","states"]) (T:Txt K mg):Mk3 P w K mg base 1 C_Teller ["self","states"] ZaJ:=
  Mk3.of (N:=["self","states"]) (k:=0) A Zfh fun f cdv A outer s H E hr=>by
    have hu:=Zcc hr
    unfold ZdB
    exact Zg (Znk (C:=C_Teller) (c:=[84,101,108,108,101,114]) (m:=[115,116,97,116,101,115]) O_Teller.ok O_Teller.n_states (Ze 0) (ZeK (T:="tuple") ZeS T.m_tuple ZdV (Zd (Ze 1) Zn))) (Zq (Znk (C:=C_Teller) (c:=[84,101,108,108,101,114]) (m:=[97,115,107,101,100]) O_Teller.ok O_Teller.n_asked (Ze 0) (ZcI Zn)))
theorem Zd8:Zaq ["script","deck","roll","boxes","states","liar","truth_first","tellers","found"] ["script"] (Zm ZfC):=⟨rfl,rfl,rfl,by decide +kernel,rfl,by decide +kernel,by decide +kernel⟩
theorem Zpp {f:Addr} {fd:FuncData} (F:Fun K "law" "law" ZfC f fd) (T:Txt K mg) {C_Teller:Addr} (O_Teller:Zb2 K mg C_Teller) (F_run:Fn3 P w K mg base 4 "run" ["roll","boxes","most"] Zk7) (M_Teller___init__:Mk3 P w K mg base 1 C_Teller ["self","states"] ZaJ) (F_judged:Fn3 P w K mg base 5 "judged" ["roll","one","other"] ZdZ) (F__law_next:Fn3 P w K mg base 1 "_law_next" ["deck"] ZaP) (F__law_roll:Fn3 P w K mg base 1 "_law_roll" ["cells"] ZdC) (F__law_run:Fn3 P w K mg base 3 "_law_run" ["roll","boxes","most"] Zea) (F__law_boxes:Fn3 P w K mg base 2 "_law_boxes" ["deck"] Zde) (F__law_liar:Fn3 P w K mg base 3 "_law_liar" ["deck","roll","states"] Zc0) (F__law_fair:Fn3 P w K mg base 2 "_law_fair" ["found","states","liar","truth_first","tellers"] Zc1):Zdw P w K mg base CX0 6 f fd ["script"] (sp3 K 1 Zla):=
  fn3 (N:=["script","deck","roll","boxes","states","liar","truth_first","tellers","found"]) (k:=5) F Zd8 fun cdv A outer s H E hr=>by
    have hu:=Zcc hr
    unfold ZmL
    refine Zg ?_ ?_
    ·exact Zad 1 Zd8.nd (ZcI (Zd (Zi6 ZjL (Ze 0) ZdG (ZdE Zk)) (Zd Zk Zn)))
    ·refine Zg ?_ ?_
     ·exact Zad 2 Zd8.nd (Zaz (k:=1) (ps:=["cells"]) F__law_roll (hr.mono (by decide)) (Zd (Zi6 ZjL (Ze 0) ZdG (ZdE Zk)) Zn))
     ·refine Zg ?_ ?_
      ·exact Zad 3 Zd8.nd (Zaz (k:=2) (ps:=["deck"]) F__law_boxes (hr.mono (by decide)) (Zd (Ze 1) Zn))
      ·refine Zg ?_ ?_
       ·refine Zad 4 ?_ ?_
        ·exact Zd8.nd
        ·exact Zaz (k:=3) (ps:=["roll","boxes","most"]) F__law_run (hr.mono (by decide)) (Zd (Ze 2) (Zd (Ze 3) (Zd (Zaa Za4 Zk (Zaa Zby (Zaz (k:=1) (ps:=["deck"]) F__law_next (hr.mono (by decide)) (Zd (Ze 1) Zn)) Zk)) Zn)))
       ·refine Zg ?_ ?_
        ·refine ZaF ?_ ?_ ?_
         ·exact Zai ((Zg1 hu)) (Zaz (k:=4) (ps:=["roll","boxes","most"]) F_run (hr.mono (by decide)) (Zd (Ze 2) (Zd (Ze 3) (Zd (Zaa Ze3 (ZcG (id:="len") ZcJ T.m_len ZbG (Zd (Ze 4) Zn)) Zk) Zn)))) (Ze 4)
         ·exact Zq (Zap Zg3)
         ·exact Zar
        ·refine Zg ?_ ?_
         ·exact ZaF (Zai Zj2 (ZcG (id:="len") ZcJ T.m_len ZbG (Zd (Ze 4) Zn)) Zk) (Zq (Zap Zg3)) Zar
         ·refine Zg ?_ ?_
          ·exact Zad 5 Zd8.nd (Zaz (k:=3) (ps:=["deck","roll","states"]) F__law_liar (hr.mono (by decide)) (Zd (Ze 1) (Zd (Ze 2) (Zd (Ze 4) Zn))))
          ·refine Zg ?_ ?_
           ·refine ZiH ?_ ?_ ?_ ?_ ?_
            ·exact rfl
            ·exact rfl
            ·exact Znx (ZcI (Zd Zg3 (Zd Zg3 Zn)))
            ·exact Zec 6 Zd8.nd
            ·refine Zg ?_ ?_
             ·exact Zad 7 Zd8.nd (ZcI (Zd (Zsc (C:=C_Teller) (c:=[84,101,108,108,101,114]) (k:=1) (ps:=["self","states"]) O_Teller.ok M_Teller___init__ O_Teller.mg (hr.mono (by decide)) (Zd (Ze 4) Zn)) (Zd (Zsc (C:=C_Teller) (c:=[84,101,108,108,101,114]) (k:=1) (ps:=["self","states"]) O_Teller.ok M_Teller___init__ O_Teller.mg (hr.mono (by decide)) (Zd (Ze 5) Zn)) Zn)))
             ·refine Zg ?_ ?_
              ·exact ZaF (Zfs (ZdP (Ze 6))) (Zq (Zb1 (ZgS (Ze 7)))) Zar
              ·refine Zg ?_ ?_
               ·exact Zad 8 Zd8.nd (Zaz (k:=5) (ps:=["roll","one","other"]) F_judged (hr.mono (by decide)) (Zd (Ze 2) (Zd (Zy Zz (Ze 7) Zk) (Zd (Zy Zz (Ze 7) Zk) Zn))))
               ·exact Zq (ZaF (Zfs (ZdP (Zaz (k:=2) (ps:=["found","states","liar","truth_first","tellers"]) F__law_fair (hr.mono (by decide)) (Zd (Ze 8) (Zd (Ze 4) (Zd (Ze 5) (Zd (Ze 6) (Zd (Ze 7) Zn)))))))) (Zq (Zap Zg3)) Zar)
           ·exact Zq (Zap Zg3)
end
end Law
set_option maxHeartbeats 200000
namespace Law
open L3
theorem ZgW (n d:Nat):sIx n d none = d:=rfl
theorem ZiZ (n d k:Nat):sIx n d (some (k:Int)) = min k n:=by
 have h:¬ ((k:Int) < 0):=(fun z=>iN [_] [] 1 7211153 T1 z)
 simp only [sIx,if_neg h,Int.toNat_natCast]
theorem Zjw {α:Type} (w:List α) (k:Nat):cutD w (some (k:Int)) none = w.drop k:=by
 unfold cutD
 rw [ZiZ,ZgW]
 by_cases h:k ≤ w.length
 ·rw [Nat.min_eq_left h,List.take_of_length_le (by simp)]
 ·rw [Nat.min_eq_right (by exact lB 1 1052737 T1 h),List.drop_eq_nil_of_le (Nat.le_refl _),List.drop_eq_nil_of_le (by exact lB 1 1052737 T1 h)]; simp
theorem ZiL {α:Type} (w:List α) (k:Nat):cutD w none (some (k:Int)) = w.take k:=by
 unfold cutD
 rw [ZiZ,ZgW]
 by_cases h:k ≤ w.length
 ·rw [Nat.min_eq_left h]; simp
 ·rw [Nat.min_eq_right (by exact lB 1 1052737 T1 h),Nat.sub_zero,List.drop_zero,List.take_of_length_le (Nat.le_refl _),List.take_of_length_le (by exact lB 1 1052737 T1 h)]
theorem Zeo (n:Nat) (bs:List Int):below n (Zo bs) = true:=by
 unfold Zo below
 induction bs with
 | nil=>rfl
 | cons b bs ih=>simp only [List.map_cons,belowL,below,ih,Bool.and_self]
theorem ZdD (n:Nat) (cs:List (Int × Int)):below n (Zv cs) = true:=by
 unfold Zv below
 induction cs with
 | nil=>rfl
 | cons b bs ih=>simp only [List.map_cons,belowL,ih,Zac,below,Bool.and_self]
theorem ZeM (n:Nat) (s:Stt):below n (Zc s) = true:=by
 simp only [Zc,below,belowL,Zeo,ZdD,Bool.and_self]
theorem Zg4 (n:Nat) (s:Option Stt):below n (Zfn s) = true:=by
 cases s with
 | none=>rfl
 | some s=>exact ZeM n s
theorem Zq3 {bs:List Int} (h:bs.length = 8) {a:Nat} (ha:a < 8):bs[a]? = some (bs.getD a 0):=by
 rw [List.getD_eq_getElem?_getD,List.getElem?_eq_getElem (by exact lB 2 72481667054415889 T1 ha h)]; rfl
theorem Zbo {bs:List Int} (h:bs.length = 8) {a:Nat} (ha:a < 8):∃ x,bs.getD a 0 = x ∧ ZaU (bs.map D.int) (a:Int) = some (.int x):=⟨bs.getD a 0,rfl,by rw [ZbT,List.getElem?_map,Zq3 h ha]; rfl⟩
theorem ZjO (bs:List Int) (a:Nat) (v:Int) (M:Store) (ha:a < bs.length) (hl:bs.length ≤ 1000):ZbS [Zo bs,.int a,.int v] M = .ok (Zo (bs.set a v)) M:=by
 have h1:(e2 Zak (e2 Zak (eSl (Zb 0) (Zb8) (Zb9 (Zb 1))) (ZaY (Za (Zb 2) (Zh)))) (eSl (Zb 0) (Zb9 (e2 Zak (Zb 1) (eC (.int 1)))) (Zb8))) [some (Zo bs),some (.int a),some (.int v)] M = .ok (Zo (bs.set a v)) M:=by
  have c1:cutD (bs.map D.int) none (some (a:Int)) = (bs.take a).map D.int:=by rw [ZiL,List.map_take]
  have c2:cutD (bs.map D.int) (some ((a:Int) + 1)) none = (bs.drop (a + 1)).map D.int:=by
   rw [show ((a:Int) + 1) = ((a + 1:Nat):Int) by exact rfl,Zjw,List.map_drop]
  have s1:eSl (Zb 0) (Zb8) (Zb9 (Zb 1)) [some (Zo bs),some (.int a),some (.int v)] M = .ok (.tup ((bs.take a).map D.int)) M:=by
   simp only [eSl,Zb,Zb8,Zb9,Zo,List.getElem?_cons_zero,List.getElem?_cons_succ,R3.bind,Zhx,c1]
  have s2:eSl (Zb 0) (Zb9 (e2 Zak (Zb 1) (eC (.int 1)))) (Zb8) [some (Zo bs),some (.int a),some (.int v)] M = .ok (.tup ((bs.drop (a + 1)).map D.int)) M:=by
   simp only [eSl,e2,eC,Zak,Zb,Zb8,Zb9,Zo,List.getElem?_cons_zero,List.getElem?_cons_succ,R3.bind,Zhx,c2]
  have s3:ZaY (Za (Zb 2) (Zh)) [some (Zo bs),some (.int a),some (.int v)] M = .ok (.tup [.int v]) M:=by simp
  have a1:Zak (.tup ((bs.take a).map D.int)) (.tup [.int v]) M = .ok (.tup ((bs.take a).map D.int ++ [.int v])) M:=by
   simp only [Zak]; rw [if_pos (by simp; exact lB 2 0xf423f5b1001013e83b001 T1 hl (Nat.min_le_right _ _))]
  refine (Zt (Zt s1 s3 a1) s2 ?_)
  simp only [Zak]
  rw [if_pos (by simp; exact lD 3 0xf42405b3a1cc00a2c3c2121013e83b001 T1 hl (Nat.min_le_left _ _) (Nat.sub_add_cancel (lB 1 6991908881 T1 ha))),Zo,List.set_eq_take_append_cons_drop,if_pos ha]
  simp
 exact Rt.pure (G:=[]) (env:=[some (Zo bs),some (.int a),some (.int v)]) (by rw [List.append_nil]; exact ZaC h1) (Zeo _ _)
theorem ZhB (cs:List (Int × Int)) (n:Int) (M:Store) (h:keysOk cs) (hl:cs.length ≤ 5000):ZcH [Zv cs,.int n] M = .ok (.int (Zdo cs n)) M:=by
 have h1:(Zbl Zgs ZgL (ZaN Zc7 (Za (Zb 0) (Zh))) (Za (Zb 1) (Za (eC (.int 0)) (Zh)))) [some (Zv cs),some (.int n)] M = .ok (.int (Zdo cs n)) (M ++ [.dct (dictOf (Zc3 cs))]):=by
  have hz:(Zc3 cs).length ≤ 100000:=by simp [Zc3]; exact lA 1 0x186a05b0013884b001 T1 hl
  have b1:ZaN Zc7 (Za (Zb 0) (Zh)) [some (Zv cs),some (.int n)] M = .ok (.ref M.length) (M ++ [.dct (dictOf (Zc3 cs))]):=by
   refine ZcX (a:=Zv cs) (M1:=M) rfl ?_
   simp only [Zv,Zc7,Zfx]
   rw [if_pos hz]; rfl
  simp only [Zbl,b1,R3.bind,Zgs,Za,Zb,eC,Zh,List.getElem?_cons_zero,List.getElem?_cons_succ]
  simp only [ZaB,ZdI,Option.isSome_some,if_true,ZgL,ZfS]
  rw [ZfR h]
 exact Rt.pure (env:=[some (Zv cs),some (.int n)]) (ZaC h1) rfl
theorem ZhL (r:Row) (bs:List Int) (p many:Nat) (M:Store) (hb:bs.length = 8) (hr:r.ok many):Zcy [Zw r,.int p,Zo bs] M = .ok (.int (r.place bs p)) M:=by
 refine Rt.pure (G:=[]) (env:=[some (Zw r),some (.int p),some (Zo bs)]) ?_ rfl
 rw [List.append_nil]
 cases r with
 | when a k=>
  obtain ⟨x,hx,gx⟩:=Zbo hb hr.1
  have g:Zi (Zo bs) (.int (a:Int)) M = .ok (.int x) M:=by simp only [Zo,Zi,gx]
  have cc:(Zdt (e2 ZaS (e2 Zi (Zb 0) (eC (.int 0))) (eC (.str [119,104,101,110]))) (e2 Zey (e2 Zi (Zb 2) (e2 Zi (Zb 0) (eC (.int 1)))) (eC (.int 0)))) [some (Zw (.when a k)),some (.int p),some (Zo bs)] M = .ok (.bl (decide (0 < x))) M:=(ZgT (M1:=M) rfl).trans (Zt (Zt (b:=.int (a:Int)) rfl rfl g) rfl rfl)
  have s0:(e2 ZaS (e2 Zi (Zb 0) (eC (.int 0))) (eC (.str [106,117,109,112]))) [some (Zw (.when a k)),some (.int p),some (Zo bs)] M = .ok (.bl false) M:=rfl
  simp only [Row.place,hx]
  by_cases c:0 < x
  ·rw [decide_eq_true c] at cc
   rw [if_pos c]
   exact (Zf (Zj s0)).trans (Zdz ((ZaR cc).trans rfl))
  ·rw [decide_eq_false c] at cc
   rw [if_neg c]
   exact (Zf (Zj s0)).trans ((Zf (Zj cc)).trans rfl)
 | _=>rfl
theorem ZkB (x y:Int) (M:Store):ZbR [.str [97,100,100],.int x,.int y] M = .ok (.int (x + y)) M:=by simp [ZbR,ZeG,Zx,Zaf,Zaw,sIf,Zas,ZaH,mkF,ZcU,below,belowL,ZdJ]
theorem Zku (x y:Int) (M:Store):ZbR [.str [115,117,98],.int x,.int y] M = .ok (.int (x - y)) M:=by simp [ZbR,ZeG,Zx,Zaf,Zaw,sIf,Zas,ZaH,mkF,ZcU,below,belowL,ZdJ]
theorem Zjd (x y:Int) (M:Store):ZbR [.str [109,111,114,101],.int x,.int y] M = .ok (.int (if y < x then 1 else 0)) M:=by
 by_cases c:y < x <;> simp [ZbR,ZeG,Zx,Zaf,Zaw,sIf,Zas,ZaH,mkF,ZcU,below,belowL,ZdJ,c]
theorem ZhJ (r:Row) (bs:List Int) (cs:List (Int × Int)) (many:Nat) (M:Store) (hb:bs.length = 8) (hr:r.ok many) (hk:keysOk cs) (hl:cs.length ≤ 5000):Zcw [Zw r,Zo bs,Zv cs] M = .ok (Zo (r.boxes bs cs)) M:=by
 have wb:∀ (a:Nat) (v:Int),a < 8 → ZbS [Zo bs,.int a,.int v] M = .ok (Zo (bs.set a v)) M:=fun a v ha=>ZjO bs a v M (by rw [hb]; exact ha) (by rw [hb]; decide)
 have cv:∀ (n:Int),ZcH [Zv cs,.int n] M = .ok (.int (Zdo cs n)) M:=fun n=>ZhB cs n M hk hl
 have gt:∀ {a:Nat} {x:Int},ZaU (bs.map D.int) (a:Int) = some (.int x) → Zi (Zo bs) (.int (a:Int)) M = .ok (.int x) M:=fun {a x} g=>by simp only [Zo,Zi,g]
 have tp:∀ env,(ZaY (Za (eC (.str [97,100,100])) (Za (eC (.str [115,117,98])) (Za (eC (.str [109,111,114,101])) (Zh))))) env M = .ok (.tup [.str [97,100,100],.str [115,117,98],.str [109,111,114,101]]) M:=fun env=>by simp
 refine Rt.pure (G:=[]) (env:=[some (Zw r),some (Zo bs),some (Zv cs),none]) ?_ (Zeo _ _)
 rw [List.append_nil]
 have pre:∀ {w:List Nat} {o:O3} {k:S3},Zi (Zw r) (.int 0) M = .ok (.str w) M → k [some (Zw r),some (Zo bs),some (Zv cs),some (.str w)] M = o → Zx (Zaf 3 (e2 Zi (Zb 0) (eC (.int 0)))) k [some (Zw r),some (Zo bs),some (Zv cs),none] M = o:=fun {w o k} h1 h=>(Zf (Zr (Zt rfl rfl h1))).trans h
 have sk:∀ {w v:List Nat} {f k:S3} {o:O3},decide (w = v) = false → k [some (Zw r),some (Zo bs),some (Zv cs),some (.str w)] M = o → Zx (sIf (e2 ZaS (Zb 3) (eC (.str v))) f Zas) k [some (Zw r),some (Zo bs),some (Zv cs),some (.str w)] M = o:=fun {w v f k o} h1 h=>(Zf (Zj (M':=M) (Zt rfl rfl (by simp only [ZaS,eqD,h1])))).trans h
 have wk:∀ {w:List Nat} {a b c:Nat} {x y z:Int},Zw r = .tup [.str w,.int a,.int b,.int c] → ZbR [.str w,.int x,.int y] M = .ok (.int z) M → a < 8 → ZaU (bs.map D.int) (b:Int) = some (.int x) → ZaU (bs.map D.int) (c:Int) = some (.int y) → Zm3 (.str w) (.tup [.str [97,100,100],.str [115,117,98],.str [109,111,114,101]]) M = .ok (.bl true) M →
   (Zx (sIf (e2 Zm3 (Zb 3) (ZaY (Za (eC (.str [97,100,100])) (Za (eC (.str [115,117,98])) (Za (eC (.str [109,111,114,101])) (Zh)))))) (Zaw (Zae ZbS (Za (Zb 1) (Za (e2 Zi (Zb 0) (eC (.int 1))) (Za (Zae ZbR (Za (Zb 3) (Za (e2 Zi (Zb 1) (e2 Zi (Zb 0) (eC (.int 2)))) (Za (e2 Zi (Zb 1) (e2 Zi (Zb 0) (eC (.int 3)))) (Zh))))) (Zh)))))) (Zas)) (Zaw (Zb 1))) [some (Zw r),some (Zo bs),some (Zv cs),some (.str w)] M = .rt (Zo (bs.set a z)) M:=fun {w a b c x y z} he hw ha gx gy hin=>by
  rw [he]
  exact Zdz ((ZaR (Zt rfl (tp _) hin)).trans (ZaC (ZcB rfl (b:=.int (a:Int)) (M2:=M) rfl (ZcB rfl (Zt rfl (b:=.int (b:Int)) (M2:=M) rfl (gt gx)) (Zt rfl (b:=.int (c:Int)) (M2:=M) rfl (gt gy)) hw) (wb a z ha))))
 have no:∀ {w:List Nat},Zi (Zw r) (.int 0) M = .ok (.str w) M → decide (w = [112,117,116]) = false → decide (w = [103,101,116]) = false → Zm3 (.str w) (.tup [.str [97,100,100],.str [115,117,98],.str [109,111,114,101]]) M = .ok (.bl false) M → Zei [some (Zw r),some (Zo bs),some (Zv cs),none] M = .rt (Zo bs) M:=fun {w} h1 h2 h3 h4=>
  pre h1 (sk h2 (sk h3 ((Zf (Zj (Zt rfl (tp _) h4))).trans rfl)))
 cases r with
 | put a n=>exact pre rfl (Zdz ((ZaR (M':=M) rfl).trans (ZaC (ZcB rfl rfl rfl (wb a n hr)))))
 | get a b=>
  obtain ⟨x,hx,gx⟩:=Zbo hb hr.2
  simp only [Row.boxes,hx]
  exact pre rfl (sk rfl (Zdz ((ZaR (M':=M) rfl).trans (ZaC (ZcB rfl (b:=.int (a:Int)) (M2:=M) rfl (ZdS rfl (Zt rfl (b:=.int (b:Int)) (M2:=M) rfl (gt gx)) (cv x)) (wb a _ hr.1))))))
 | add a b c=>
  obtain ⟨x,hx,gx⟩:=Zbo hb hr.2.1
  obtain ⟨y,hy,gy⟩:=Zbo hb hr.2.2
  simp only [Row.boxes,hx,hy]
  exact pre rfl (sk rfl (sk rfl (wk rfl (ZkB x y M) hr.1 gx gy rfl)))
 | sub a b c=>
  obtain ⟨x,hx,gx⟩:=Zbo hb hr.2.1
  obtain ⟨y,hy,gy⟩:=Zbo hb hr.2.2
  simp only [Row.boxes,hx,hy]
  exact pre rfl (sk rfl (sk rfl (wk rfl (Zku x y M) hr.1 gx gy rfl)))
 | more a b c=>
  obtain ⟨x,hx,gx⟩:=Zbo hb hr.2.1
  obtain ⟨y,hy,gy⟩:=Zbo hb hr.2.2
  simp only [Row.boxes,hx,hy]
  exact pre rfl (sk rfl (sk rfl (wk rfl (Zjd x y M) hr.1 gx gy rfl)))
 | _=>exact no rfl rfl rfl rfl
theorem ZiO (cs:List (Int × Int)) (n v:Int) (M:Store) (hl:cs.length ≤ 5000):Zcm [Zv cs,.int n,.int v] M = .ok (Zv (ZaW cs n v)) M:=by
 have b1:=Zf1 (α:=Int × Int) (enc:=Zac) (h:=Zac) (p:=fun c=>decide (c.1 < n)) (own:=1) (i:=6) (it:=ZfV (Zb 0)) (c:=e2 Zfv (e2 Zi (Zb 6) (eC (.int 0))) (Zb 1)) (elt:=Zb 6) (env:=[some (Zv cs),some (.int n),some (.int v),none,none,none]) (M:=M) (M1:=M) (lock:=none) (as:=cs)
  (by exact rfl) (fun _ h=>by cases h) (fun a _ M=>by exact rfl) (fun a _ _ M=>by exact rfl) (lA 1 0x186a05b0013884b001 T1 hl)
 have b2:=Zf1 (α:=Int × Int) (enc:=Zac) (h:=Zac) (p:=fun c=>decide (n < c.1)) (own:=1) (i:=6) (it:=ZfV (Zb 0)) (c:=e2 Zey (e2 Zi (Zb 6) (eC (.int 0))) (Zb 1)) (elt:=Zb 6) (env:=[some (Zv cs),some (.int n),some (.int v),some (.ref M.length),none,none]) (M:=M ++ [.lst ((cs.filter fun c=>decide (c.1 < n)).map Zac)]) (M1:=M ++ [.lst ((cs.filter fun c=>decide (c.1 < n)).map Zac)]) (lock:=none) (as:=cs)
  (by exact rfl) (fun _ h=>by cases h) (fun a _ M=>by exact rfl) (fun a _ _ M=>by exact rfl) (lA 1 0x186a05b0013884b001 T1 hl)
 have f1:=List.length_filter_le (fun c:Int × Int=>decide (c.1 < n)) cs
 have f2:=List.length_filter_le (fun c:Int × Int=>decide (n < c.1)) cs
 suffices h:∃ G,ZdA [some (Zv cs),some (.int n),some (.int v),none,none,none] M = .rt (Zv (ZaW cs n v)) (M ++ G) by
  obtain ⟨G,h⟩:=h
  exact Rt.pure h (ZdD _ _)
 unfold ZdA
 by_cases c:v = 0
 ·subst c
  refine ⟨_,(Zf (Zr b1)).trans ((Zf (Zr b2)).trans ((Zf (Zr (d:=.ref (M.length + 2)) (M':=M ++ [.lst ((cs.filter fun c=>decide (c.1 < n)).map Zac),.lst ((cs.filter fun c=>decide (n < c.1)).map Zac),.lst []]) (by simp))).trans (ZaC (M':=M ++ [.lst ((cs.filter fun c=>decide (c.1 < n)).map Zac),.lst ((cs.filter fun c=>decide (n < c.1)).map Zac),.lst [],.lst ((cs.filter fun c=>decide (c.1 < n)).map Zac),.lst ((cs.filter fun c=>decide (c.1 < n)).map Zac ++ (cs.filter fun c=>decide (n < c.1)).map Zac)]) ?_)))⟩
  have z1:(cs.filter fun c=>decide (c.1 < n)).length ≤ 1000000:=lB 2 0xf42405b0013884b1011001 T1 f1 hl
  have z2:(cs.filter fun c=>decide (c.1 < n)).length + (cs.filter fun c=>decide (n < c.1)).length ≤ 1000000:=lC 3 0xf42405b02c013884b10212011001 T1 f2 f1 hl
  simp [z1,z2,ZaW,Zv]
 ·refine ⟨_,(Zf (Zr b1)).trans ((Zf (Zr b2)).trans ((Zf (Zr (d:=.ref (M.length + 2)) (M':=M ++ [.lst ((cs.filter fun c=>decide (c.1 < n)).map Zac),.lst ((cs.filter fun c=>decide (n < c.1)).map Zac),.lst [Zac (n,v)]]) (by simp [c,Zac]))).trans (ZaC (M':=M ++ [.lst ((cs.filter fun c=>decide (c.1 < n)).map Zac),.lst ((cs.filter fun c=>decide (n < c.1)).map Zac),.lst [Zac (n,v)],.lst ((cs.filter fun c=>decide (c.1 < n)).map Zac ++ [Zac (n,v)]),.lst ((cs.filter fun c=>decide (c.1 < n)).map Zac ++ [Zac (n,v)] ++ (cs.filter fun c=>decide (n < c.1)).map Zac)]) ?_)))⟩
  have z1:(cs.filter fun c=>decide (c.1 < n)).length + 1 ≤ 1000000:=lB 2 0xf42405ba0c013884b1011001 T1 f1 hl
  have z2:(cs.filter fun c=>decide (c.1 < n)).length + ((cs.filter fun c=>decide (n < c.1)).length + 1) ≤ 1000000:=lC 3 0xf42405ba0c2c013884b10212011001 T1 f2 f1 hl
  have z3:(cs.filter fun c=>decide (c.1 < n)).length + 1 + (cs.filter fun c=>decide (n < c.1)).length ≤ 1000000:=lB 1 0xf42405b1a0cc0f42405ba1c0c01 T1 z2
  simp [z1,z2,z3,c,ZaW,Zv]
theorem Zhv (r:Row) (bs:List Int) (cs:List (Int × Int)) (many:Nat) (M:Store) (hb:bs.length = 8) (hr:r.ok many) (hl:cs.length ≤ 5000):Zcz [Zw r,Zo bs,Zv cs] M = .ok (Zv (r.cells bs cs)) M:=by
 have wc:∀ (n v:Int) (M:Store),Zcm [Zv cs,.int n,.int v] M = .ok (Zv (ZaW cs n v)) M:=fun n v M=>ZiO cs n v M hl
 refine Rt.pure (G:=[]) (env:=[some (Zw r),some (Zo bs),some (Zv cs)]) ?_ (ZdD _ _)
 rw [List.append_nil]
 unfold Zel
 generalize Zcm = F1 at *
 cases r with
 | set a b=>
  obtain ⟨x,hx,gx⟩:=Zbo hb hr.1
  obtain ⟨y,hy,gy⟩:=Zbo hb hr.2
  simp only [Row.cells,hx,hy]
  simp [Zx,Zaf,Zaw,sIf,Zas,ZaH,mkF,ZcU,below,belowL,ZdJ,Zw,Zo,-Zdi,gx,gy,wc]
 | _=>simp [Zx,Zaf,Zaw,sIf,Zas,ZaH,mkF,ZcU,below,belowL,ZdJ,Zw,Row.cells]
theorem Ze8 (roll:ZbH) (s:Stt) (M:Store) (hok:∀ x ∈ roll,x.ok roll.length) (hs:s.ok roll) (hk:keysOk s.cells) (hl:s.cells.length ≤ 5000):Zbh [Zu roll,Zc s] M = .ok (Zfn (Za1 roll s)) M:=by
 obtain ⟨hp,hb⟩:=hs
 have hr:roll[s.place]? = some roll[s.place]:=by simp [hp]
 have ro:=hok _ (List.getElem_mem hp)
 unfold Za1
 rw [hr]
 generalize roll[s.place] = r at hr ro
 show _ = R3.ok (Zfn (Ze5 s r)) M
 have np:=ZhL r s.boxes s.place roll.length
 have nb:=ZhJ r s.boxes s.cells roll.length
 have nc:=Zhv r s.boxes s.cells roll.length
 refine Rt.pure (G:=[]) (env:=[some (Zu roll),some (Zc s),none,none,none,none]) ?_ (Zg4 _ _)
 rw [List.append_nil]
 unfold Zeq
 generalize Zcy = F1 at *
 generalize Zcw = F2 at *
 generalize Zcz = F3' at *
 refine (Zf (Zr (d:=.int s.place) (M':=M) (by exact rfl))).trans ((Zf (Zr (d:=Zo s.boxes) (M':=M) (by exact rfl))).trans ((Zf (Zr (d:=Zv s.cells) (M':=M) (by exact rfl))).trans ((Zf (Zr (d:=Zw r) (M':=M) (by simp [Zu,hr]))).trans ?_)))
 have e3:ZaY (Za (Zae F1 (Za (Zb 5) (Za (Zb 2) (Za (Zb 3) (Zh))))) (Za (Zae F2 (Za (Zb 5) (Za (Zb 3) (Za (Zb 4) (Zh))))) (Za (Zae F3' (Za (Zb 5) (Za (Zb 3) (Za (Zb 4) (Zh))))) (Zh)))) [some (Zu roll),some (Zc s),some (.int s.place),some (Zo s.boxes),some (Zv s.cells),some (Zw r)] M = .ok (Zc ⟨r.place s.boxes s.place,r.boxes s.boxes s.cells,r.cells s.boxes s.cells⟩) M:=by
  simp [np M hb ro,nb M hb ro hk hl,nc M hb ro hl,Zc]
 cases hh:r.isHalt with
 | true=>
  cases r <;> simp at hh
  exact Zdz ((ZaR (M':=M) (by exact rfl)).trans (ZaC (by exact rfl)))
 | false=>
  have e4:(e2 ZaS (e2 Zi (Zb 5) (eC (.int 0))) (eC (.str [104,97,108,116]))) [some (Zu roll),some (Zc s),some (.int s.place),some (Zo s.boxes),some (Zv s.cells),some (Zw r)] M = .ok (.bl false) M:=by
   cases r <;> first | exact rfl | simp [Zw] at hh ⊢
  refine (Zf (Zj e4)).trans (ZaC (e3.trans ?_))
  simp [Ze5,hh,Zfn]
theorem ZgN (bs:List Int) (M:Store):Zbp [Zo bs] M = .ok (Zc ⟨0,bs,[]⟩) M:=by
 refine Rt.pure (G:=[]) (env:=[some (Zo bs)]) ?_ (ZeM _ _)
 simp [ZdR,Zaw,Zc,Zo,Zv]
theorem ZrG {i j:Int} (h:-(2 ^ 64) < i ∧ i < 2 ^ 64):ZdJ i j = true:=by
 unfold ZdJ; rw [Bool.or_eq_true]; left; simp only [Bool.and_eq_true,decide_eq_true_eq]; exact h
theorem mul_r {i j:Int} (h:-(2 ^ 64) < j ∧ j < 2 ^ 64):ZdJ i j = true:=by
 unfold ZdJ; rw [Bool.or_eq_true]; right; simp only [Bool.and_eq_true,decide_eq_true_eq]; exact h
theorem ZcS (x:Int) (m:Nat) (h:0 < m):∃ a:Nat,x % (m:Int) = a ∧ a < m:=by
 have h1:=Int.emod_nonneg x (b:=(m:Int)) (by exact fun z=>iN [_] [] 2 416093702305 T1 z h)
 have h2:=Int.emod_lt_of_pos x (b:=(m:Int)) (by exact iN [_] [] 1 149491217 T1 h)
 exact ⟨(x % (m:Int)).toNat,(Int.toNat_of_nonneg h1).symm,by exact iN [_,_] [_] 2 18698308976785 T1 h2 (Int.toNat_of_nonneg h1)⟩
theorem Zd2 {M M':Store} {d:D} (h:M'.length = M.length):ZcU M d M' = .ok d M':=by
 unfold ZcU
 rw [List.take_of_length_le (Nat.le_of_eq h)]
 split <;> rfl
noncomputable abbrev TEL:List Nat:=[84,101,108,108,101,114]
noncomputable abbrev STS:List Nat:=[115,116,97,116,101,115]
noncomputable abbrev ASK:List Nat:=[97,115,107,101,100]
noncomputable abbrev Zbr (ss:List D) (a:Nat):MO:=.ins TEL [(STS,.tup ss),(ASK,.ref a)]
theorem ZlQ (a b:Int) (M:Store):Zcl [.int a,.int b] M = .ok (.bl (decide (0 ≤ a) && decide (a < b))) M:=by
 by_cases h:0 ≤ a <;> simp [Zcl,ZeH,Zx,Zaf,Zaw,sIf,Zas,ZaH,mkF,ZcU,below,belowL,ZdJ,h]
theorem Ziz {ss:List D} {a n:Nat} {M:Store} (h:M[n]? = some (Zbr ss a)):ZdK TEL STS (.ref n) M = .ok (.tup ss) M:=by
 simp only [ZdK,h,if_true]; rfl
theorem Zle {ss:List D} {a n:Nat} {M:Store} (h:M[n]? = some (Zbr ss a)):ZdK TEL ASK (.ref n) M = .ok (.ref a) M:=by
 simp only [ZdK,h,if_true]; rfl
theorem ZfO {c f:List Nat} {o:E3} {env:Zau} {M M1:Store} {a d:D} (h1:o env M = .ok a M1) (h2:ZdK c f a M1 = .ok d M1):e1 (ZdK c f) o env M = .ok d M1:=ZjR h1 h2
theorem Zer {c m:List Nat} {F:F3} {o:E3} {g:EL3} {env:Zau} {M M1 M2 M3:Store} {a d:D} {ds:List D} (h1:o env M = .ok a M1) (hi:Zia c m a M1 = true) (h2:g env M1 = .ok ds M2) (h3:F (a :: ds) M2 = .ok d M3):ZbI c m F o g env M = .ok d M3:=by
 simp only [ZbI,h1,R3.bind,hi,if_true,h2,h3]
theorem Zef {ss:List D} {a n:Nat} {M:Store} {m:List Nat} (h:M[n]? = some (Zbr ss a)) (h1:decide (m = STS) = false) (h2:decide (m = ASK) = false):Zia TEL m (.ref n) M = true:=by
 have e1:¬ m = STS:=of_decide_eq_false h1
 have e2:¬ m = ASK:=of_decide_eq_false h2
 simp [Zia,h,Zbr,List.lookup,beq_false_of_ne e1,beq_false_of_ne e2]
theorem Zok {ss:List D} {a n:Nat} {M:Store} (h:M[n]? = some (Zbr ss a)):Za8 [.ref n] M = .ok (.int (ss.length:Int)) M:=
 (Zck (env:=[some (.ref n)]) (M':=M) (d:=.int (ss.length:Int)) (ZaC (ZcX (ZfO rfl (Ziz h)) rfl))).trans (Zd2 rfl)
theorem Zgm {ss ts:List D} {a n k:Nat} {d:D} {M:Store} (h:M[n]? = some (Zbr ss a)) (ha:M[a]? = some (.lst ts)) (hn:n ≠ a) (hd:ss[k]? = some d) (hz:ts.length < 1000000):Zbm [.ref n,.int (k:Int)] M = .ok d (M.set a (.lst (ts ++ [.int (k:Int)]))):=by
 have hk:k < ss.length:=(List.getElem?_eq_some_iff.mp hd).1
 have h':(M.set a (.lst (ts ++ [.int (k:Int)])))[n]? = some (Zbr ss a):=by rw [List.getElem?_set_ne (Ne.symm hn)]; exact h
 have w:Zae Zcl (Za (Zb 1) (Za (ZaN Zbb (Za (e1 (ZdK TEL STS) (Zb 0)) (Zh))) (Zh))) [some (.ref n),some (.int (k:Int))] M = .ok (.bl true) M:=by
  refine ZdS rfl (ZcX (ZfO rfl (Ziz h)) rfl) ((ZlQ _ _ _).trans ?_)
  rw [decide_eq_true (Int.natCast_nonneg _),decide_eq_true (Int.ofNat_lt.2 hk)]; rfl
 refine (Zck (env:=[some (.ref n),some (.int (k:Int))]) (M':=M.set a (.lst (ts ++ [.int (k:Int)]))) (d:=d) ?_).trans (Zd2 (by simp))
 refine (Zf (Zj (M':=M) (ZjR w rfl))).trans ((Zf (ZcC (ZeW (ZfO rfl (Zle h)) ha rfl ha hz))).trans (ZaC (Zt (ZfO rfl (Ziz h')) rfl (ZeZ ?_))))
 rw [ZbT]; exact hd
theorem Zhp {ss ts:List D} {a n:Nat} {M:Store} (h:M[n]? = some (Zbr ss a)) (ha:M[a]? = some (.lst ts)) (hz:ts.length ≤ 1000000):ZaO [.ref n] M = .ok (.ref M.length) (M ++ [.lst ts]):=by
 refine (Zck (env:=[some (.ref n)]) (M':=M ++ [.lst ts]) (d:=.ref M.length) (ZaC (ZcX (ZfO rfl (Zle h)) ?_))).trans (by simp [ZcU,below])
 simp only [Zgj,ha]
 simp [hz]
theorem Zn5 {ss:List D} {m:Nat} {M:Store} (hM:M[m]? = some (.lst ss)):ZaJ [.ref M.length,.ref m] (M ++ [.ins TEL []]) = .ok .non (M ++ [Zbr ss (M.length + 1),.lst []]):=by
 have g0:(M ++ [MO.ins TEL []])[M.length]? = some (.ins TEL []):=ZaB _ _ _
 have s1:(M ++ [MO.ins TEL []]).set M.length (.ins TEL [(STS,.tup ss)]) = M ++ [.ins TEL [(STS,.tup ss)]]:=ZgD M _ 0 _
 have p1:Zf9 TEL STS (.tup ss) (.ref M.length) (M ++ [.ins TEL []]) = .ok .non (M ++ [.ins TEL [(STS,.tup ss)]]):=by
  simp only [Zf9,g0]
  rw [if_pos ⟨trivial,by simp⟩,show Zg7 STS (.tup ss) [] = [(STS,.tup ss)] from rfl,s1]
 have g1:(M ++ [MO.ins TEL [(STS,.tup ss)],.lst []])[M.length]? = some (.ins TEL [(STS,.tup ss)]):=ZaB _ _ _
 have p2:Zf9 TEL ASK (.ref (M.length + 1)) (.ref M.length) (M ++ [.ins TEL [(STS,.tup ss)],.lst []]) = .ok .non (M ++ [Zbr ss (M.length + 1),.lst []]):=by
  simp only [Zf9,g1]
  rw [if_pos ⟨trivial,by simp⟩,show Zg7 ASK (.ref (M.length + 1)) [(STS,.tup ss)] = [(STS,.tup ss),(ASK,.ref (M.length + 1))] from rfl]
  exact congrArg (R3.ok D.non) (ZgD M [MO.ins TEL [(STS,.tup ss)],.lst []] 0 _)
 refine (Zp2 (env:=[some (.ref M.length),some (.ref m)]) (env':=[some (.ref M.length),some (.ref m)]) (M':=M ++ [Zbr ss (M.length + 1),.lst []]) ?_).trans ?_
 ·refine (Zf (ZcC (Zt (ZcX rfl (Zk1 (ZaI hM _))) rfl p1))).trans (ZcC (Zt (a:=.ref (M.length + 1)) (M1:=M ++ [.ins TEL [(STS,.tup ss)],.lst []]) ?_ rfl p2))
  simp
 ·have e:(M ++ [Zbr ss (M.length + 1),.lst []]).take (M ++ [MO.ins TEL []]).length = M ++ [Zbr ss (M.length + 1)]:=by
   rw [show M ++ [Zbr ss (M.length + 1),.lst []] = (M ++ [Zbr ss (M.length + 1)]) ++ [.lst []] by simp]
   exact List.take_left' (by simp)
  unfold ZcU
  rw [e,if_neg]
  simp [Zfj,belowL,below,Zbr]
theorem ZkZ:∀ a b:List Int,ZbV (a.map D.int) (b.map D.int) = decide (a = b)
 | [],[]=>by exact rfl
 | [],_ :: _=>by exact rfl
 | _ :: _,[]=>by exact rfl
 | x :: a,y :: b=>by
  simp only [List.map_cons,ZbV,deq,ZkZ a b,List.cons.injEq,Bool.decide_and]
  rfl
theorem Zji:∀ a b:List (Int × Int),ZbV (a.map Zac) (b.map Zac) = decide (a = b)
 | [],[]=>by exact rfl
 | [],_ :: _=>by exact rfl
 | _ :: _,[]=>by exact rfl
 | (x1,x2) :: a,(y1,y2) :: b=>by
  simp only [List.map_cons,Zac,ZbV,deq,Zji a b,List.cons.injEq,Prod.mk.injEq,Bool.decide_and,Bool.and_true]
  rfl
theorem Zjv (s t:Stt):deq (Zc s) (Zc t) = decide (s = t):=by
 obtain ⟨p,bs,cs⟩:=s
 obtain ⟨q,bs',cs'⟩:=t
 have e:((p:Int) == (q:Int)) = decide (p = q):=by
  by_cases h:p = q
  ·subst h; simp
  ·rw [decide_eq_false h]; exact beq_false_of_ne (fun z=>iN [_,_] [] 2 6666076031153 T1 z (Nat.lt_of_le_of_ne (iN [_,_] [] 1 4296542369 T1 z) h))
 simp only [Zc,Zo,Zv,deq,ZbV,ZkZ,Zji,e,Stt.mk.injEq,Bool.decide_and,Bool.and_true]
theorem ZmJ (s t:Stt) (M:Store):ZcQ (Zc s) (Zc t) M = .ok (.bl (!decide (s = t))) M:=by
 have h1:∀ s:Stt,∃ ds,Zc s = .tup ds ∧ ds.all (Zax DEEP) = true:=fun s=>⟨_,rfl,by simp [ZeJ,Zf8,Zfq,DEEP]⟩
 obtain ⟨ds,e1,p1⟩:=h1 s
 obtain ⟨es,e2,p2⟩:=h1 t
 have:=Zjv s t
 rw [e1,e2] at this ⊢
 simp only [deq] at this
 simp only [ZcQ,eqD,p1,p2,Bool.and_self,if_true,this]
theorem Zf7 (s t:Stt) (M:Store):ZbA [.tup [Zc s,Zc t]] M = .ok (.bl (!decide (s = t))) M:=
 (Zck (env:=[some (.tup [Zc s,Zc t])]) (M':=M) (ZaC (Zt (Zt rfl rfl rfl) (Zt rfl rfl rfl) (ZmJ s t M)))).trans (Zd2 rfl)
structure Tw (M:Store) (n1 a1 n2 a2:Nat) (s1 s2:List Stt) (t1 t2:List D):Prop where
 o1:M[n1]? = some (Zbr (s1.map Zc) a1)
 o2:M[n2]? = some (Zbr (s2.map Zc) a2)
 l1:M[a1]? = some (.lst t1)
 l2:M[a2]? = some (.lst t2)
 aa:a1 ≠ a2
 n11:n1 ≠ a1
 n12:n1 ≠ a2
 n21:n2 ≠ a1
 n22:n2 ≠ a2
section
variable {M:Store} {n1 a1 n2 a2:Nat} {s1 s2:List Stt} {t1 t2:List D}
noncomputable def asked (M:Store) (a1 a2:Nat) (t1 t2:List D):Store:=(M.set a1 (.lst t1)).set a2 (.lst t2)
theorem ZhT:(asked M a1 a2 t1 t2).length = M.length:=by simp [asked]
theorem ZdM {u1 u2:List D} (h:a1 ≠ a2):asked (asked M a1 a2 t1 t2) a1 a2 u1 u2 = asked M a1 a2 u1 u2:=by
 unfold asked
 rw [List.set_comm _ _ (Ne.symm h),List.set_set,List.set_set]
theorem ZiB {i:Nat} {o x:MO} (h:M[i]? = some o):(M.set i x)[i]? = some x:=List.getElem?_set_self (List.getElem?_eq_some_iff.mp h).1
theorem Tw.put (T:Tw M n1 a1 n2 a2 s1 s2 t1 t2) (u1 u2:List D):Tw (asked M a1 a2 u1 u2) n1 a1 n2 a2 s1 s2 u1 u2:=by
 obtain ⟨o1,o2,l1,l2,aa,n11,n12,n21,n22⟩:=T
 unfold asked
 refine ⟨?_,?_,?_,?_,aa,n11,n12,n21,n22⟩
 ·rw [List.getElem?_set_ne (Ne.symm n12),List.getElem?_set_ne (Ne.symm n11)]; exact o1
 ·rw [List.getElem?_set_ne (Ne.symm n22),List.getElem?_set_ne (Ne.symm n21)]; exact o2
 ·rw [List.getElem?_set_ne (Ne.symm aa)]; exact ZiB l1
 ·exact ZiB (o:=.lst t2) (by rw [List.getElem?_set_ne aa]; exact l2)
theorem Zj1 (T:Tw M n1 a1 n2 a2 s1 s2 t1 t2):asked M a1 a2 t1 t2 = M:=by
 have e1:M.set a1 (.lst t1) = M:=by
  apply List.ext_getElem?
  intro k
  by_cases h:a1 = k
  ·subst h; rw [ZiB T.l1,T.l1]
  ·rw [List.getElem?_set_ne h]
 have e2:M.set a2 (.lst t2) = M:=by
  apply List.ext_getElem?
  intro k
  by_cases h:a2 = k
  ·subst h; rw [ZiB T.l2,T.l2]
  ·rw [List.getElem?_set_ne h]
 unfold asked
 rw [e1,e2]
theorem ZiC (T:Tw M n1 a1 n2 a2 s1 s2 t1 t2) {k:Nat} {x y:Stt} (hx:s1[k]? = some x) (hy:s2[k]? = some y) (z1:t1.length < 1000000) (z2:t2.length < 1000000):
  Zcr [.ref n1,.ref n2,.int (k:Int)] M = .ok (.tup [Zc x,Zc y]) (asked M a1 a2 (t1 ++ [.int (k:Int)]) (t2 ++ [.int (k:Int)])):=by
 obtain ⟨o1,o2,l1,l2,aa,n11,n12,n21,n22⟩:=T
 have o2':(M.set a1 (.lst (t1 ++ [.int (k:Int)])))[n2]? = some (Zbr (s2.map Zc) a2):=by rw [List.getElem?_set_ne (Ne.symm n21)]; exact o2
 have l2':(M.set a1 (.lst (t1 ++ [.int (k:Int)])))[a2]? = some (.lst t2):=by rw [List.getElem?_set_ne aa]; exact l2
 have r1:=Zgm (k:=k) (d:=Zc x) o1 l1 n11 (by rw [List.getElem?_map,hx]; rfl) z1
 have r2:=Zgm (k:=k) (d:=Zc y) o2' l2' n22 (by rw [List.getElem?_map,hy]; rfl) z2
 refine (Zck (env:=[some (.ref n1),some (.ref n2),some (.int (k:Int))]) (d:=.tup [Zc x,Zc y]) (M':=asked M a1 a2 (t1 ++ [.int (k:Int)]) (t2 ++ [.int (k:Int)])) (ZaC (Za6 (Zaj (Zer rfl (Zef o1 rfl rfl) rfl r1) (Zaj (Zer rfl (Zef o2' rfl rfl) rfl r2) rfl)) rfl))).trans (Zd2 ZhT)
end
noncomputable def hv (eq:Nat → Bool):Nat → Nat → Nat → List Nat × Nat
 | 0,low,_=>([],low)
 | f + 1,low,high=>if high = low + 1 then ([],low) else if eq ((low + high) / 2) then ((low + high) / 2 :: (hv eq f ((low + high) / 2) high).1,(hv eq f ((low + high) / 2) high).2) else ((low + high) / 2 :: (hv eq f low ((low + high) / 2)).1,(hv eq f low ((low + high) / 2)).2)
theorem whT {c:E3} {body:S3} {n:Nat} {env e:Zau} {M M1 M':Store} (h:c env M = .ok (.bl true) M1) (h':body env M1 = .nx e M'):ZbQ c body (n + 1) env M = ZbQ c body n e M':=by
 show (match c env M with | .ok (.bl true) M1=>_ | .ok (.bl false) M1=>_ | .exc x M1=>_ | _=>_) = _
 rw [h]; simp only [h']
theorem whF {c:E3} {body:S3} {n:Nat} {env:Zau} {M M1:Store} (h:c env M = .ok (.bl false) M1):ZbQ c body (n + 1) env M = .nx env M1:=by
 show (match c env M with | .ok (.bl true) M1=>_ | .ok (.bl false) M1=>_ | .exc x M1=>_ | _=>_) = _
 rw [h]
noncomputable abbrev Zlu (d0:D) (n1 n2 low:Nat) (d4:D) (high:Nat) (d6 alike unlike:D) (x9 x10:Option D):Zau:=[some d0,some (.ref n1),some (.ref n2),some (.int (low:Int)),some d4,some (.int (high:Int)),some d6,some alike,some unlike,x9,x10]
theorem Zjj {n1 a1 n2 a2:Nat} {s1 s2:List Stt} (d0 d4 d6:D) (hlen:s2.length = s1.length):
  ∀ (f low high fuel:Nat) (M:Store) (t1 t2:List D) (x9 x10:Option D) (x xh yh:Stt),high - low ≤ f → f < fuel → low < high → high < s1.length → Tw M n1 a1 n2 a2 s1 s2 t1 t2 → t1.length + f < 1000000 → t2.length + f < 1000000 →
   s1[low]? = some x → s1[high]? = some xh → s2[high]? = some yh →
  ∃ x9' x10' x' u v,s1[(hv (fun m=>decide (s1[m]? = s2[m]?)) f low high).2]? = some x' ∧ s1[(hv (fun m=>decide (s1[m]? = s2[m]?)) f low high).2 + 1]? = some u ∧ s2[(hv (fun m=>decide (s1[m]? = s2[m]?)) f low high).2 + 1]? = some v ∧
   ZbQ (e2 ZcQ (Zb 5) (e2 Zak (Zb 3) (eC (.int 1)))) (Zx (Zaf 9 (e2 Zag (e2 Zak (Zb 3) (Zb 5)) (eC (.int 2)))) (Zx (Zaf 10 (Zae Zcr (Za (Zb 1) (Za (Zb 2) (Za (Zb 9) (Zh)))))) (sIf (Zae ZbA (Za (Zb 10) (Zh))) (Zx (Zaf 5 (Zb 9)) (Zaf 8 (Zb 10))) (Zx (Zaf 3 (Zb 9)) (Zaf 7 (e2 Zi (Zb 10) (eC (.int 0)))))))) fuel
    (Zlu d0 n1 n2 low d4 high d6 (Zc x) (.tup [Zc xh,Zc yh]) x9 x10) M =
   .nx (Zlu d0 n1 n2 (hv (fun m=>decide (s1[m]? = s2[m]?)) f low high).2 d4 ((hv (fun m=>decide (s1[m]? = s2[m]?)) f low high).2 + 1) d6 (Zc x') (.tup [Zc u,Zc v]) x9' x10')
    (asked M a1 a2 (t1 ++ (hv (fun m=>decide (s1[m]? = s2[m]?)) f low high).1.map fun m=>.int (m:Int)) (t2 ++ (hv (fun m=>decide (s1[m]? = s2[m]?)) f low high).1.map fun m=>.int (m:Int))):=by
 intro f
 induction f with
 | zero=>intro low high fuel M t1 t2 x9 x10 x xh yh h1 h2 h3; exact (lC 3 0x602c101e2011011 T1 h3 h1 (sbA _ _)).elim
 | succ f ih=>
  intro low high fuel M t1 t2 x9 x10 x xh yh h1 h2 h3 h4 T z1 z2 hx hxh hyh
  cases fuel with
  | zero=>exact (lA 1 116001809 T1 h2).elim
  | succ fuel=>
   by_cases q:high = low + 1
   ·subst q
    have e:hv (fun m=>decide (s1[m]? = s2[m]?)) (f + 1) low (low + 1) = ([],low):=by simp [hv]
    rw [e]
    refine ⟨x9,x10,x,xh,yh,hx,hxh,hyh,?_⟩
    simp only [List.map_nil,List.append_nil]
    rw [Zj1 T]
    refine whF (Zt rfl (Zt rfl rfl rfl) ?_)
    simp
   ·have c:(e2 ZcQ (Zb 5) (e2 Zak (Zb 3) (eC (.int 1)))) (Zlu d0 n1 n2 low d4 high d6 (Zc x) (.tup [Zc xh,Zc yh]) x9 x10) M = .ok (.bl true) M:=by
     refine Zt rfl (Zt rfl rfl rfl) ?_
     have:¬ ((high:Int) = (low:Int) + 1):=(fun z=>iN [_,_] [] 2 0x6a1c011a18c08b1 T1 z (Nat.lt_of_le_of_ne (iN [_,_] [] 1 0xa1c00a18c08a1 T1 z) q))
     simp [this]
    have lm:low < (low + high) / 2:=Nat.lt_of_not_le fun z=>lC 3 0x6a0c02d21c112a1c111002 T1 z (Nat.lt_of_le_of_ne (lB 1 6991908881 T1 h3) (Ne.symm q)) (Nat.lt_mul_div_succ _ (by decide))
    have mh:(low + high) / 2 < high:=lC 2 0x21120c102d011011 T1 lm (Nat.mul_div_le _ _)
    have hm:(e2 Zag (e2 Zak (Zb 3) (Zb 5)) (eC (.int 2))) (Zlu d0 n1 n2 low d4 high d6 (Zc x) (.tup [Zc xh,Zc yh]) x9 x10) M = .ok (.int (((low + high) / 2:Nat):Int)) M:=by
     refine Zt (Zt rfl rfl rfl) rfl ?_
     simp
    have hv':hv (fun m=>decide (s1[m]? = s2[m]?)) (f + 1) low high = if decide (s1[(low + high) / 2]? = s2[(low + high) / 2]?) then ((low + high) / 2 :: (hv (fun m=>decide (s1[m]? = s2[m]?)) f ((low + high) / 2) high).1,(hv (fun m=>decide (s1[m]? = s2[m]?)) f ((low + high) / 2) high).2) else ((low + high) / 2 :: (hv (fun m=>decide (s1[m]? = s2[m]?)) f low ((low + high) / 2)).1,(hv (fun m=>decide (s1[m]? = s2[m]?)) f low ((low + high) / 2)).2):=by
     show (if high = low + 1 then _ else _) = _
     rw [if_neg q]
    rw [hv']
    generalize (low + high) / 2 = m at *
    have gu:s1[m]? = some (s1[m]'(Nat.lt_trans mh h4)):=List.getElem?_eq_getElem _
    have gv:s2[m]? = some (s2[m]'(lD 3 0x301233121111011 T1 mh h4 hlen)):=List.getElem?_eq_getElem _
    generalize s1[m]'(Nat.lt_trans mh h4) = u at gu
    generalize s2[m]'(lD 3 0x301233121111011 T1 mh h4 hlen) = v at gv
    have ba:=ZiC T gu gv (lB 1 0xf42405b01f42405ba1c0c11 T1 z1) (lB 1 0xf42405b01f42405ba1c0c11 T1 z2)
    have T':=T.put (t1 ++ [.int (m:Int)]) (t2 ++ [.int (m:Int)])
    have un:=Zf7 u v (asked M a1 a2 (t1 ++ [.int (m:Int)]) (t2 ++ [.int (m:Int)]))
    have st1:∀ g:S3,Zx (Zaf 9 (e2 Zag (e2 Zak (Zb 3) (Zb 5)) (eC (.int 2)))) (Zx (Zaf 10 (Zae Zcr (Za (Zb 1) (Za (Zb 2) (Za (Zb 9) (Zh)))))) g) (Zlu d0 n1 n2 low d4 high d6 (Zc x) (.tup [Zc xh,Zc yh]) x9 x10) M = g (Zlu d0 n1 n2 low d4 high d6 (Zc x) (.tup [Zc xh,Zc yh]) (some (.int (m:Int))) (some (.tup [Zc u,Zc v]))) (asked M a1 a2 (t1 ++ [.int (m:Int)]) (t2 ++ [.int (m:Int)])):=fun g=>
     (Zf (Zr hm)).trans (Zf (Zr (ZcB rfl rfl rfl ba)))
    rw [gu,gv]
    by_cases uv:u = v
    ·subst uv
     rw [if_pos (by simp)]
     rw [decide_eq_true rfl] at un
     obtain ⟨x9',x10',x',u',v',g1,g2,g3,w⟩:=ih m high fuel _ (t1 ++ [.int (m:Int)]) (t2 ++ [.int (m:Int)]) (some (.int (m:Int))) (some (.tup [Zc u,Zc u])) u xh yh (lF 4 0x34002c501514c21a3c2011011 T1 lm h1 (Nat.sub_add_cancel (Nat.le_of_lt mh)) (sbA _ _)) (lB 1 1106520968209 T1 h2) mh h4 T' (by simp; exact lB 1 0xf42405b1a0cc1f42405ba1c0c11 T1 z1) (by simp; exact lB 1 0xf42405b1a0cc1f42405ba1c0c11 T1 z2) gu hxh hyh
     refine ⟨x9',x10',x',u',v',g1,g2,g3,(whT c ((st1 _).trans ((Zb7 (Zc5 rfl un)).trans ((Zf (Zr rfl)).trans (Zr (Zt rfl rfl rfl)))))).trans (w.trans ?_)⟩
     rw [ZdM T.aa]
     simp
    ·rw [if_neg (by simpa using uv)]
     rw [decide_eq_false uv] at un
     obtain ⟨x9',x10',x',u',v',g1,g2,g3,w⟩:=ih low m fuel _ (t1 ++ [.int (m:Int)]) (t2 ++ [.int (m:Int)]) (some (.int (m:Int))) (some (.tup [Zc u,Zc v])) x u v (lF 4 0x34052c101054c21a3c2011011 T1 mh h1 (Nat.sub_add_cancel (Nat.le_of_lt lm)) (sbA _ _)) (lB 1 1106520968209 T1 h2) lm (Nat.lt_trans mh h4) T' (by simp; exact lB 1 0xf42405b1a0cc1f42405ba1c0c11 T1 z1) (by simp; exact lB 1 0xf42405b1a0cc1f42405ba1c0c11 T1 z2) hx gu gv
     refine ⟨x9',x10',x',u',v',g1,g2,g3,(whT c ((st1 _).trans ((ZaR (Zc5 rfl un)).trans ((Zf (Zr rfl)).trans (Zr rfl))))).trans (w.trans ?_)⟩
     rw [ZdM T.aa]
     simp
theorem Zmi (u:Stt) (r:Option Stt) (M:Store):Zid (Zc u) (Zfn r) M = .ok (.bl (!decide (some u = r))) M:=by
 cases r with
 | none=>rfl
 | some y=>
  have e:Zid (Zc u) (Zfn (some y)) M = ZcQ (Zc u) (Zc y) M:=rfl
  rw [e,ZmJ]
  simp
theorem Znp (roll:ZbH) (hok:∀ x ∈ roll,x.ok roll.length) (s u v:Stt) (hs:s.ok roll) (hk:keysOk s.cells) (hl:s.cells.length ≤ 5000) (M:Store):
  Zdb [Zu roll,Zc s,.tup [Zc u,Zc v]] M = .ok (.tup [.bl (!decide (some u = Za1 roll s)),.bl (!decide (some v = Za1 roll s))]) M:=by
 have ns:=Ze8 roll s M hok hs hk hl
 refine (Zck (env:=[some (Zu roll),some (Zc s),some (.tup [Zc u,Zc v]),none]) (d:=.tup [.bl (!decide (some u = Za1 roll s)),.bl (!decide (some v = Za1 roll s))]) (M':=M) ?_).trans (Zd2 rfl)
 exact (Zf (Zr (ZdS rfl rfl ns))).trans (ZaC (Za6 (Zaj (Zt (Zt rfl rfl rfl) rfl (Zmi u _ M)) (Zaj (Zt (Zt rfl rfl rfl) rfl (Zmi v _ M)) rfl)) rfl))
theorem Zn0 {a b:Int} {M:Store} (h:a = b):ZcQ (.int a) (.int b) M = .ok (.bl false) M:=by simp [h]
theorem Zie {n1 a1 n2 a2:Nat} {s1 s2:List Stt} {t1 t2:List D} {M:Store} (roll:ZbH) (hok:∀ x ∈ roll,x.ok roll.length) (T:Tw M n1 a1 n2 a2 s1 s2 t1 t2) (hlen:s2.length = s1.length) (h2:2 ≤ s1.length) (z1:t1.length + s1.length < 900000) (z2:t2.length + s1.length < 900000)
  (h0:s1[0]? = s2[0]?) (hl:s1[s1.length - 1]? ≠ s2[s1.length - 1]?) (good:∀ x ∈ s1,x.ok roll ∧ keysOk x.cells ∧ x.cells.length ≤ 5000):
  ∃ x u v,s1[(hv (fun m=>decide (s1[m]? = s2[m]?)) (s1.length - 1) 0 (s1.length - 1)).2]? = some x ∧ s1[(hv (fun m=>decide (s1[m]? = s2[m]?)) (s1.length - 1) 0 (s1.length - 1)).2 + 1]? = some u ∧ s2[(hv (fun m=>decide (s1[m]? = s2[m]?)) (s1.length - 1) 0 (s1.length - 1)).2 + 1]? = some v ∧
   ZdZ [Zu roll,.ref n1,.ref n2] M = .ok (.tup [.int ((hv (fun m=>decide (s1[m]? = s2[m]?)) (s1.length - 1) 0 (s1.length - 1)).2:Int),.tup [.bl (!decide (some u = Za1 roll x)),.bl (!decide (some v = Za1 roll x))]])
    (asked M a1 a2 (t1 ++ ((0:Nat) :: (s1.length - 1) :: (hv (fun m=>decide (s1[m]? = s2[m]?)) (s1.length - 1) 0 (s1.length - 1)).1).map fun m=>.int (m:Int)) (t2 ++ ((0:Nat) :: (s1.length - 1) :: (hv (fun m=>decide (s1[m]? = s2[m]?)) (s1.length - 1) 0 (s1.length - 1)).1).map fun m=>.int (m:Int))):=by
 have g0:s1[0]? = some (s1[0]'(lA 1 3775011585 T1 h2)):=List.getElem?_eq_getElem _
 generalize s1[0]'(lA 1 3775011585 T1 h2) = x0 at g0
 have g0':s2[0]? = some x0:=by rw [← h0]; exact g0
 have gl:s1[s1.length - 1]? = some (s1[s1.length - 1]'(lB 1 4313451553 T1 (Nat.sub_add_cancel (lA 1 2684492545 T1 h2)))):=List.getElem?_eq_getElem _
 have gl':s2[s1.length - 1]? = some (s2[s1.length - 1]'(lC 2 36396293230641 T1 hlen (Nat.sub_add_cancel (lA 1 2684492545 T1 h2)))):=List.getElem?_eq_getElem _
 generalize s1[s1.length - 1]'(lB 1 4313451553 T1 (Nat.sub_add_cancel (lA 1 2684492545 T1 h2))) = xl at gl
 generalize s2[s1.length - 1]'(lC 2 36396293230641 T1 hlen (Nat.sub_add_cancel (lA 1 2684492545 T1 h2))) = yl at gl'
 have ne:¬ xl = yl:=fun e=>hl (by rw [gl,gl',e])
 have b0:=ZiC T g0 g0' (lB 1 0xf42405b01dbba05b10c11 T1 z1) (lB 1 0xf42405b01dbba05b10c11 T1 z2)
 have T1:=T.put (t1 ++ [.int ((0:Nat):Int)]) (t2 ++ [.int ((0:Nat):Int)])
 generalize hM1:asked M a1 a2 (t1 ++ [.int ((0:Nat):Int)]) (t2 ++ [.int ((0:Nat):Int)]) = M1 at b0 T1
 have b1:=ZiC T1 gl gl' (by simp; omega) (by simp; omega)
 have T2:=T1.put (t1 ++ [.int ((0:Nat):Int)] ++ [.int ((s1.length - 1:Nat):Int)]) (t2 ++ [.int ((0:Nat):Int)] ++ [.int ((s1.length - 1:Nat):Int)])
 generalize hM2:asked M1 a1 a2 (t1 ++ [.int ((0:Nat):Int)] ++ [.int ((s1.length - 1:Nat):Int)]) (t2 ++ [.int ((0:Nat):Int)] ++ [.int ((s1.length - 1:Nat):Int)]) = M2 at b1 T2
 have u0:=Zf7 x0 x0 M1
 rw [decide_eq_true rfl] at u0
 have ul:=Zf7 xl yl M2
 rw [decide_eq_false ne] at ul
 obtain ⟨x9,x10,x,u,v,gx,gu,gv,lp⟩:=Zjj (n1:=n1) (a1:=a1) (n2:=n2) (a2:=a2) (s1:=s1) (s2:=s2) (Zu roll) (.tup [Zc x0,Zc x0]) (.tup [Zc xl,Zc yl]) hlen (s1.length - 1) 0 (s1.length - 1) 1000000 M2 _ _ none none x0 xl yl ((Nat.sub_le _ _)) (by omega) (by omega) (by omega) T2 (by simp; omega) (by simp; omega) g0 gl gl'
 refine ⟨x,u,v,gx,gu,gv,?_⟩
 obtain ⟨ox,kx,lx⟩:=good x (List.mem_of_getElem? gx)
 generalize hv (fun m=>decide (s1[m]? = s2[m]?)) (s1.length - 1) 0 (s1.length - 1) = r at gx gu gv lp ⊢
 generalize hM3:asked M2 a1 a2 (t1 ++ [.int ((0:Nat):Int)] ++ [.int ((s1.length - 1:Nat):Int)] ++ r.1.map fun m=>.int (m:Int)) (t2 ++ [.int ((0:Nat):Int)] ++ [.int ((s1.length - 1:Nat):Int)] ++ r.1.map fun m=>.int (m:Int)) = M3 at lp
 have we:=Znp roll hok x u v ox kx lx M3
 have eM:M3 = asked M a1 a2 (t1 ++ ((0:Nat) :: (s1.length - 1) :: r.1).map fun m=>.int (m:Int)) (t2 ++ ((0:Nat) :: (s1.length - 1) :: r.1).map fun m=>.int (m:Int)):=by
  rw [← hM3,← hM2,← hM1,ZdM T.aa,ZdM T.aa]
  simp
 rw [← eM]
 have mn:∀ {i n a:Nat} {ss:List Stt} {M:Store} {env:Zau},env[i]? = some (some (.ref n)) → M[n]? = some (Zbr (ss.map Zc) a) → ZbI TEL [109,97,110,121] Za8 (Zb i) (Zh) env M = .ok (.int (ss.length:Int)) M:=fun {i n a ss M env} he ho=>by
  have:=Zok ho
  rw [List.length_map] at this
  exact Zer (by simp [he]) (Zef ho rfl rfl) rfl this
 refine (Zck (env:=[some (Zu roll),some (.ref n1),some (.ref n2),none,none,none,none,none,none,none,none]) (M':=M3) (d:=.tup [.int (r.2:Int),.tup [.bl (!decide (some u = Za1 roll x)),.bl (!decide (some v = Za1 roll x))]]) ?_).trans (Zd2 (by rw [eM,ZhT]))
 refine (Zf (Zj (M':=M) ?_)).trans ?_
 ·rw [Zg8 (Zt (mn rfl T.o1) (mn rfl T.o2) (Zn0 (by rw [hlen])))]
  refine Zt (mn rfl T.o1) rfl ?_
  have:¬ ((s1.length:Int) < 2):=by omega
  simp [this]
 refine (Zf (Zr rfl)).trans ((Zf (Zr (ZcB rfl rfl rfl b0))).trans ((Zf (Zj (Zc5 rfl u0))).trans ?_))
 refine (Zf (Zr (d:=.int ((s1.length - 1:Nat):Int)) (M':=M1) (Zt (mn rfl T1.o1) rfl ?_))).trans ?_
 ·have:(s1.length:Int) - 1 = ((s1.length - 1:Nat):Int):=by omega
  simp [this]
 refine (Zf (Zr (ZcB rfl rfl rfl b1))).trans ((Zf (Zj (ZjR (Zc5 rfl ul) rfl))).trans ((Zf (Zr (Zt rfl rfl rfl))).trans ((Zf (Zr rfl)).trans ((Zf (f:=Zf6 _ _) lp).trans (ZaC (Za6 (Zaj rfl (Zaj (ZcB rfl rfl rfl we) rfl)) rfl))))))
theorem Znh (roll:ZbH) (ss:List Stt) (s:Stt) (n:Nat) (M:Store) (hs:s.place < roll.length) (hM:M[n]? = some (.lst ((ss ++ [s]).map Zc))):Zej [Zu roll,.ref n] M = .ok (.bl (Zfm roll s)) M:=by
 have hr:roll[s.place]? = some roll[s.place]:=by simp [hs]
 have h1:(e2 Zi (Zb 1) (e1 Zba (eC (.int 1)))) [some (Zu roll),some (.ref n),none] M = .ok (Zc s) M:=by
  have:=getD_last (ss.map Zc) (Zc s)
  simp [hM,this]
 refine Rt.pure (G:=[]) (env:=[some (Zu roll),some (.ref n),none]) ?_ rfl
 rw [List.append_nil]
 refine (Zf (Zr h1)).trans (ZaC ?_)
 unfold Zfm
 rw [hr]
 generalize roll[s.place] = r at hr
 cases r <;> simp [Zu,Zc,hr,Zw]
theorem Znq (roll:ZbH) (R:Zc6 roll) (d:D) (most:Nat) (M:Store) (hm:most ≤ 2001):∀ (k:Nat) (pre:List Stt) (s:Stt) (fuel:Nat),pre.length + k = most → k < fuel → Good roll s → s.cells.length ≤ pre.length →
  ZbQ (Zdt (e2 ZiP (ZaN Zbb (Za (Zb 3) (Zh))) (Zb 2)) (e1 ZcK (Zae Zej (Za (Zb 0) (Za (Zb 3) (Zh)))))) (ZaH (Zbl tyL ZaD (Zb 3) (Za (Zae Zbh (Za (Zb 0) (Za (e2 Zi (Zb 3) (e1 Zba (eC (.int 1)))) (Zh)))) (Zh)))) fuel
   [some (Zu roll),some d,some (.int (most:Int)),some (.ref M.length)] (M ++ [.lst ((pre ++ [s]).map Zc)]) = .nx [some (Zu roll),some d,some (.int (most:Int)),some (.ref M.length)] (M ++ [.lst ((pre ++ ZcZ roll k s).map Zc)]):=by
 intro k
 induction k with
 | zero=>
  intro pre s fuel hk hf g hc
  cases fuel with
  | zero=>exact (lN [] 1 454161 rfl hf).elim
  | succ fuel=>
   have c1:(Zdt (e2 ZiP (ZaN Zbb (Za (Zb 3) (Zh))) (Zb 2)) (e1 ZcK (Zae Zej (Za (Zb 0) (Za (Zb 3) (Zh)))))) [some (Zu roll),some d,some (.int (most:Int)),some (.ref M.length)] (M ++ [.lst ((pre ++ [s]).map Zc)]) = .ok (.bl false) (M ++ [.lst ((pre ++ [s]).map Zc)]):=by
    refine Zkt ?_
    have:¬ ((pre.length:Int) + 1 ≤ (most:Int)):=(fun z=>iN [_,_] [] 2 0x61e0c3118a08c81 T1 z hk)
    simp [this]
   unfold ZbQ
   rw [c1]; rfl
 | succ k ih=>
  intro pre s fuel hk hf g hc
  cases fuel with
  | zero=>exact (lA 1 116001809 T1 hf).elim
  | succ fuel=>
   have en:=Znh roll pre s M.length (M ++ [.lst ((pre ++ [s]).map Zc)]) g.pl (ZaB _ _ _)
   have c1:(Zdt (e2 ZiP (ZaN Zbb (Za (Zb 3) (Zh))) (Zb 2)) (e1 ZcK (Zae Zej (Za (Zb 0) (Za (Zb 3) (Zh)))))) [some (Zu roll),some d,some (.int (most:Int)),some (.ref M.length)] (M ++ [.lst ((pre ++ [s]).map Zc)]) = .ok (.bl (!Zfm roll s)) (M ++ [.lst ((pre ++ [s]).map Zc)]):=by
    rw [ZgT (M1:=M ++ [.lst ((pre ++ [s]).map Zc)]) (by
     have:(pre.length:Int) + 1 ≤ (most:Int):=iN [_,_,_] [] 1 0x28a08c82a1c0c21 T1 hk
     simp [this])]
    exact ZjR (ZdS rfl rfl en) rfl
   unfold ZbQ
   rw [c1]
   cases q:Za1 roll s with
   | none=>
    have he:=(Zg0 g.pl).mp q
    rw [he]
    simp only [Bool.not_true]
    rw [Zdk k q]
   | some s'=>
    have he:Zfm roll s = false:=by
     cases z:Zfm roll s with
     | false=>rfl
     | true=>rw [(Zg0 g.pl).mpr z] at q; cases q
    rw [he]
    simp only [Bool.not_false]
    have nx:=Ze8 roll s (M ++ [.lst ((pre ++ [s]).map Zc)]) R.rows ⟨g.pl,g.bx⟩ g.rs.keys (lD 3 0x13884b007d13b3013a2c1c211001 T1 hc hk hm)
    rw [q] at nx
    have last:(e2 Zi (Zb 3) (e1 Zba (eC (.int 1)))) [some (Zu roll),some d,some (.int (most:Int)),some (.ref M.length)] (M ++ [.lst ((pre ++ [s]).map Zc)]) = .ok (Zc s) (M ++ [.lst ((pre ++ [s]).map Zc)]):=by
     have:=getD_last (pre.map Zc) (Zc s)
     simp [this]
    have bd:=ZcC (ZeW (o:=Zb 3) (arg:=Zae Zbh (Za (Zb 0) (Za (e2 Zi (Zb 3) (e1 Zba (eC (.int 1)))) (Zh)))) (env:=[some (Zu roll),some d,some (.int (most:Int)),some (.ref M.length)]) (M:=M ++ [.lst ((pre ++ [s]).map Zc)]) (M2:=M ++ [.lst ((pre ++ [s]).map Zc)]) (n:=M.length) (xs:=(pre ++ [s]).map Zc) (ys:=(pre ++ [s]).map Zc) (d:=Zc s') rfl (ZaB _ _ _) (ZdS rfl last nx) (ZaB _ _ _) (by simp; exact lC 2 0xf42405ba0c17d13b2012a1c0c21 T1 hk hm))
    rw [bd]
    obtain ⟨g',lc⟩:=ZeN R g q
    have:=ih (pre ++ [s]) s' fuel (by simp; exact Nat.le_antisymm (lC 1 0x21a0cc02a1c0c21 T1 hk) (lC 1 0x1a0cc202a1c0c31 T1 hk)) (lB 1 1106520968209 T1 hf) g' (by simp; exact lC 2 0xa2c002101a1c001 T1 lc hc)
    have e1:(M ++ [MO.lst ((pre ++ [s]).map Zc)]).set M.length (.lst ((pre ++ [s]).map Zc ++ [Zc s'])) = M ++ [.lst ((pre ++ [s] ++ [s']).map Zc)]:=by simp
    rw [e1]
    refine this.trans ?_
    rw [ZcL k q]
    simp
theorem Zqa (roll:ZbH) (R:Zc6 roll) (bs:List Int) (most:Nat) (M:Store) (hm:most ≤ 2001) (hb:bs.length = 8):Zk7 [Zu roll,Zo bs,.int (most:Int)] M = .ok (.ref M.length) (M ++ [.lst ((ZcZ roll most ⟨0,bs,[]⟩).map Zc)]):=by
 have fs:=ZgN bs M
 have pos:0 < roll.length:=by obtain ⟨q,x,e,_⟩:=R.last; rw [e]; simp
 have lp:=Znq roll R (Zo bs) most M hm most [] ⟨0,bs,[]⟩ 1000000 (by simp) (lA 1 0xf42405b017d13b001 T1 hm) ⟨pos,hb,by simp [Ze0]⟩ (by simp)
 have s1:(Zbz (Za (Zae Zbp (Za (Zb 1) (Zh))) (Zh))) [some (Zu roll),some (Zo bs),some (.int (most:Int)),none] M = .ok (.ref M.length) (M ++ [.lst (([] ++ [(⟨0,bs,[]⟩:Stt)]).map Zc)]):=by
  have e1:Zae Zbp (Za (Zb 1) Zh) [some (Zu roll),some (Zo bs),some (.int (most:Int)),none] M = .ok (Zc ⟨0,bs,[]⟩) M:=Zc5 rfl fs
  generalize Zae Zbp (Za (Zb 1) Zh) = E1 at e1 ⊢
  simp [e1]
 refine (Zck (env:=[some (Zu roll),some (Zo bs),some (.int (most:Int)),none]) ((Zf (Zr s1)).trans ((Zf lp).trans (ZaC rfl)))).trans ?_
 simp [ZcU,below]
theorem Zkh (n:Nat) (r:ZbH):below n (Zu r) = true:=by
 unfold Zu below
 induction r with
 | nil=>rfl
 | cons x r ih=>
  simp only [List.map_cons,belowL,ih,Bool.and_true]
  cases x <;> rfl
noncomputable def Zny:S3:=(sIf (e2 ZaS (Zb 4) (eC (.str [112,117,116]))) (ZaH (Zbl tyL ZaD (Zb 1) (Za (ZaY (Za (Zb 4) (Za (Zb 6) (Za (e2 Zi (Zbz (Za (e2 Zan (e2 Zag (Zb 5) (eC (.int 8))) (eC (.int 3))) (Za (e2 ZbU (eC (.int 0)) (e2 Zan (e2 Zag (Zb 5) (eC (.int 8))) (e2 ZcY (eC (.int 10)) (eC (.int 40))))) (Za (e2 Zan (e2 Zag (Zb 5) (eC (.int 8))) (e2 ZcY (eC (.int 10)) (eC (.int 40)))) (Zh))))) (e2 Zan (Zb 7) (eC (.int 3)))) (Zh))))) (Zh)))) (sIf (e2 Zgb (Zb 4) (Zbz (Za (eC (.str [97,100,100])) (Za (eC (.str [115,117,98])) (Za (eC (.str [109,111,114,101])) (Zh)))))) (ZaH (Zbl tyL ZaD (Zb 1) (Za (ZaY (Za (Zb 4) (Za (Zb 6) (Za (Zb 7) (Za (Zb 8) (Zh)))))) (Zh)))) (sIf (e2 Zgb (Zb 4) (Zbz (Za (eC (.str [103,101,116])) (Za (eC (.str [115,101,116])) (Zh))))) (ZaH (Zbl tyL ZaD (Zb 1) (Za (ZaY (Za (Zb 4) (Za (Zb 6) (Za (Zb 7) (Zh))))) (Zh)))) (sIf (e2 ZaS (Zb 4) (eC (.str [119,104,101,110]))) (ZaH (Zbl tyL ZaD (Zb 1) (Za (ZaY (Za (Zb 4) (Za (Zb 6) (Za (Zb 9) (Zh))))) (Zh)))) (sIf (e2 ZaS (Zb 4) (eC (.str [106,117,109,112]))) (ZaH (Zbl tyL ZaD (Zb 1) (Za (ZaY (Za (Zb 4) (Za (Zb 9) (Zh)))) (Zh)))) (ZaH (Zbl tyL ZaD (Zb 1) (Za (ZaY (Za (Zb 4) (Za (Zb 6) (Zh)))) (Zh)))))))))
noncomputable def Zoe:S3:=(Zx (Zaf 4 (e2 Zi (Zbz (Za (eC (.str [112,117,116])) (Za (eC (.str [97,100,100])) (Za (eC (.str [115,117,98])) (Za (eC (.str [109,111,114,101])) (Za (eC (.str [103,101,116])) (Za (eC (.str [115,101,116])) (Za (eC (.str [119,104,101,110])) (Za (eC (.str [106,117,109,112])) (Za (eC (.str [116,101,108,108])) (Za (eC (.str [112,117,116])) (Zh)))))))))))) (e2 Zan (Zb 3) (eC (.int 10))))) (Zx (Zaf 5 (e2 Zag (Zb 3) (eC (.int 10)))) (Zx (Zaf 6 (e2 Zan (Zb 5) (eC (.int 8)))) (Zx (Zaf 7 (e2 Zan (e2 Zag (Zb 5) (eC (.int 8))) (eC (.int 8)))) (Zx (Zaf 8 (e2 Zan (e2 Zag (Zb 5) (eC (.int 64))) (eC (.int 8)))) (Zx (Zaf 9 (e2 Zak (e2 Zak (Zb 2) (eC (.int 1))) (e2 Zan (e2 Zag (Zb 5) (eC (.int 512))) (e2 ZbU (ZaN Zbb (Za (Zb 0) (Zh))) (Zb 2))))) (Zx (sIf (e2 ZaS (e2 Zan (e2 Zag (Zb 5) (eC (.int 5))) (eC (.int 4))) (eC (.int 1))) (Zaf 9 (e2 Zan (e2 Zag (Zb 5) (eC (.int 512))) (e2 Zak (ZaN Zbb (Za (Zb 0) (Zh))) (eC (.int 1))))) (Zas)) Zny)))))))
noncomputable def kindB (j:Nat):List Nat:=[[112,117,116],[97,100,100],[115,117,98],[109,111,114,101],[103,101,116],[115,101,116],[119,104,101,110],[106,117,109,112],[116,101,108,108],[112,117,116]].getD j []
theorem ZbN {i j:Int} {M:Store} (h:0 < j ∧ j < 1073741824):Zag (.int i) (.int j) M = .ok (.int (i / j)) M:=by simp only [Zag,if_pos h]
theorem Zbx {g:EL3} {env:Zau} {M M':Store} {ds:List D} (h:g env M = .ok ds M') (hl:decide (ds.length ≤ 100) = true):Zbz g env M = .ok (.ref M'.length) (M' ++ [.lst ds]):=by
 have z:ds.length ≤ SZ:=Nat.le_trans (of_decide_eq_true hl) (by decide)
 simp only [Zbz,h,R3.bind,if_pos z,alloc]
noncomputable def ZiA:List D:=[.str [112,117,116],.str [97,100,100],.str [115,117,98],.str [109,111,114,101],.str [103,101,116],.str [115,101,116],.str [119,104,101,110],.str [106,117,109,112],.str [116,101,108,108],.str [112,117,116]]
theorem ten:∀ {j:Nat},j < 10 → j = 0 ∨ j = 1 ∨ j = 2 ∨ j = 3 ∨ j = 4 ∨ j = 5 ∨ j = 6 ∨ j = 7 ∨ j = 8 ∨ j = 9:=by decide
theorem Zlj {c:Int} {j:Nat} (hj:c % 10 = j) (lj:j < 10):ZaU ZiA (c % 10) = some (.str (kindB j)):=by
 rw [hj,ZbT]
 rcases ten lj with h | h | h | h | h | h | h | h | h | h <;> subst h <;> rfl
theorem ZcR {a:D} {M:Store} {ys:List D} {b:Bool} (hf:(ZaT a && ys.all ZaT) = true) (hb:(ys.any fun y=>deq y a) = b):Zgb a (.ref M.length) (M ++ [.lst ys]) = .ok (.bl b) (M ++ [.lst ys]):=by
 simp only [Zgb,ZaB,if_pos hf,hb]
theorem Zc4 {env:Zau} {M M':Store} {n:Nat} {xs:List D} {d:D} {o t:E3} (ho:o env M = .ok (.ref n) M) (hM:M[n]? = some (.lst xs)) (ht:t env M = .ok d M') (hM':M'[n]? = some (.lst xs)) (hl:xs.length < SZ):
  ZaH (Zbl tyL ZaD o (Za t (Zh))) env M = .nx env (M'.set n (.lst (xs ++ [d]))):=by
 have e:Zbl tyL ZaD o (Za t (Zh)) env M = .ok .non (M'.set n (.lst (xs ++ [d]))):=by
  simp only [Zbl,ho,R3.bind,tyL,hM,Za,ht,Zh,ZaD,hM',if_pos hl,if_true]
 rw [ZaH,e]
noncomputable def lsA:List D:=[.str [97,100,100],.str [115,117,98],.str [109,111,114,101]]
noncomputable def lsB:List D:=[.str [103,101,116],.str [115,101,116]]
noncomputable def nsB (p:Int):List D:=[D.int (p / 8 % 3),D.int (-(p / 8 % 10000000000000000000000000000000000000000)),D.int (p / 8 % 10000000000000000000000000000000000000000)]
theorem three (b:Nat) (p:Int):∃ v:Int,ZaU (nsB p) ((b:Int) % 3) = some (.int v):=by
 obtain ⟨i,e,l⟩:=ZcS b 3 (by decide)
 rw [show (b:Int) % 3 = i from e,ZbT]
 rcases (by decide:∀ i:Nat,i < 3 → i = 0 ∨ i = 1 ∨ i = 2) i l with h | h | h <;> subst h <;> exact ⟨_,rfl⟩
theorem pw {env:Zau} {M:Store}:e2 ZcY (eC (.int 10)) (eC (.int 40)) env M = .ok (.int 10000000000000000000000000000000000000000) M:=by simp
theorem ZoT {p v:Int} {a b:Nat} {M:Store} {x0 x1 x2 x3 x8 x9 x10:Option D} (hv:ZaU (nsB p) ((b:Int) % 3) = some (.int v)):
  (ZaY (Za (Zb 4) (Za (Zb 6) (Za (e2 Zi (Zbz (Za (e2 Zan (e2 Zag (Zb 5) (eC (.int 8))) (eC (.int 3))) (Za (e2 ZbU (eC (.int 0)) (e2 Zan (e2 Zag (Zb 5) (eC (.int 8))) (e2 ZcY (eC (.int 10)) (eC (.int 40))))) (Za (e2 Zan (e2 Zag (Zb 5) (eC (.int 8))) (e2 ZcY (eC (.int 10)) (eC (.int 40)))) (Zh))))) (e2 Zan (Zb 7) (eC (.int 3)))) (Zh))))) [x0,x1,x2,x3,some (.str [112,117,116]),some (.int p),some (.int a),some (.int b),x8,x9,x10] M = .ok (.tup [.str [112,117,116],.int a,.int v]) (M ++ [.lst (nsB p)]):=
 Za6 (Zaj rfl (Zaj rfl (Zaj (Zt (a:=.ref M.length) (M1:=M ++ [.lst (nsB p)]) (Zbx (Zaj (Zt (Zt rfl rfl (ZbN (by decide))) rfl (ZbP (by decide))) (Zaj (Zt rfl (Zt (Zt rfl rfl (ZbN (by decide))) pw (ZbP (by decide))) (by simp)) (Zaj (Zt (Zt rfl rfl (ZbN (by decide))) pw (ZbP (by decide))) rfl))) rfl) (Zt rfl rfl (ZbP (by decide))) (Zcg (ZaB _ _ _) hv)) rfl))) rfl
theorem ZrX (n m0:Nat) (k c many:Int) (cs:List D) (M:Store) (hn:M[n]? = some (.lst cs)) (hl:(cs.length:Int) = many) (hk:k < many) (h0:0 ≤ k) (x4 x5 x6 x7 x8 x9 x10:Option D) (j:Nat) (hj:c % 10 = j) (lj:j < 10):
  ∃ G,Zoe [some (.ref n),some (.ref m0),some (.int k),some (.int c),x4,x5,x6,x7,x8,x9,x10] M = Zny [some (.ref n),some (.ref m0),some (.int k),some (.int c),some (.str (kindB j)),some (.int (c / 10)),some (.int (c / 10 % 8)),some (.int (c / 10 / 8 % 8)),some (.int (c / 10 / 64 % 8)),some (.int (if c / 10 / 5 % 4 = 1 then c / 10 / 512 % (many + 1) else k + 1 + c / 10 / 512 % (many - k))),x10] (M ++ [G]):=by
 refine ⟨.lst ZiA,?_⟩
 unfold Zoe
 generalize hG:MO.lst ZiA = G
 have hnG:(M ++ [G])[n]? = some (.lst cs):=ZaI hn _
 rw [Zf (Zr (M':=M ++ [G]) (d:=.str (kindB j)) (Zt (a:=.ref M.length) (M1:=M ++ [G]) (by rw [← hG]; exact Zbx rfl rfl) (Zt rfl rfl (ZbP (by decide))) (Zcg (xs:=ZiA) (by rw [← hG]; exact ZaB _ _ _) (Zlj hj lj))))]
 rw [Zf (Zr (M':=M ++ [G]) (d:=.int (c / 10)) (Zt rfl rfl (ZbN (by decide))))]
 rw [Zf (Zr (M':=M ++ [G]) (d:=.int (c / 10 % 8)) (by exact rfl))]
 rw [Zf (Zr (M':=M ++ [G]) (d:=.int (c / 10 / 8 % 8)) (Zt (Zt rfl rfl (ZbN (by decide))) rfl (ZbP (by decide))))]
 rw [Zf (Zr (M':=M ++ [G]) (d:=.int (c / 10 / 64 % 8)) (Zt (Zt rfl rfl (ZbN (by decide))) rfl (ZbP (by decide))))]
 have p1:0 < many - k:=iN [] [_,_] 1 535367825 T1 hk
 have p2:0 < many + 1:=iN [_] [_] 1 690660313249 T1 hl
 rw [Zf (Zr (M':=M ++ [G]) (d:=.int (k + 1 + c / 10 / 512 % (many - k))) (by simp [hnG,hl,hk]))]
 by_cases z:c / 10 / 5 % 4 = 1
 ·rw [Zf (M':=M ++ [G]) (env':=[some (.ref n),some (.ref m0),some (.int k),some (.int c),some (.str (kindB j)),some (.int (c / 10)),some (.int (c / 10 % 8)),some (.int (c / 10 / 8 % 8)),some (.int (c / 10 / 64 % 8)),some (.int (c / 10 / 512 % (many + 1))),x10]) (by rw [ZaR (M':=M ++ [G]) (by simp [z])]; exact Zr (d:=.int (c / 10 / 512 % (many + 1))) (by simp [hnG,hl,p2]))]
  rw [if_pos z]
 ·rw [Zf (Zj (M':=M ++ [G]) (by simp [z])),if_neg z]
theorem Zmv (n m0 many:Nat) (k c p:Int) (a b d q j:Nat) (rows:List Row) (M:Store) (x10:Option D) (hm:M[m0]? = some (.lst (rows.map Zw))) (hr:rows.length ≤ 63) (la:a < 8) (lb:b < 8) (ld:d < 8) (lq:q < many) (hj:j < 10):
  ∃ (r:Row) (G:Store),r.ok many ∧ Zny [some (.ref n),some (.ref m0),some (.int k),some (.int c),some (.str (kindB j)),some (.int p),some (.int a),some (.int b),some (.int d),some (.int q),x10] M = .nx [some (.ref n),some (.ref m0),some (.int k),some (.int c),some (.str (kindB j)),some (.int p),some (.int a),some (.int b),some (.int d),some (.int q),x10] ((M ++ G).set m0 (.lst (rows.map Zw ++ [Zw r]))):=by
 have hmG:∀ G,(M ++ G)[m0]? = some (.lst (rows.map Zw)):=fun G=>ZaI hm G
 have lz:(rows.map Zw).length < SZ:=by rw [List.length_map]; exact Nat.lt_of_le_of_lt hr (by decide)
 have hm2:(M ++ [.lst lsA] ++ [.lst lsB])[m0]? = some (.lst (rows.map Zw)):=ZaI (hmG _) _
 obtain ⟨v,hv⟩:=three b p
 rcases ten hj with h | h | h | h | h | h | h | h | h | h <;> subst h
 ·exact ⟨.put a v,[.lst (nsB p)],la,(ZaR (M':=M) rfl).trans (Zc4 rfl hm (ZoT hv) (hmG _) lz)⟩
 ·exact ⟨.add a b d,[.lst lsA],⟨la,lb,ld⟩,(Zb7 (M':=M) rfl).trans ((ZaR (M':=M ++ [.lst lsA]) (Zt rfl (Zbx rfl rfl) (ZcR rfl rfl))).trans (Zc4 rfl (hmG _) (Za6 rfl rfl) (hmG _) lz))⟩
 ·exact ⟨.sub a b d,[.lst lsA],⟨la,lb,ld⟩,(Zb7 (M':=M) rfl).trans ((ZaR (M':=M ++ [.lst lsA]) (Zt rfl (Zbx rfl rfl) (ZcR rfl rfl))).trans (Zc4 rfl (hmG _) (Za6 rfl rfl) (hmG _) lz))⟩
 ·exact ⟨.more a b d,[.lst lsA],⟨la,lb,ld⟩,(Zb7 (M':=M) rfl).trans ((ZaR (M':=M ++ [.lst lsA]) (Zt rfl (Zbx rfl rfl) (ZcR rfl rfl))).trans (Zc4 rfl (hmG _) (Za6 rfl rfl) (hmG _) lz))⟩
 ·exact ⟨.get a b,[.lst lsA,.lst lsB],⟨la,lb⟩,by rw [List.append_cons]; exact (Zb7 (M':=M) rfl).trans ((Zb7 (M':=M ++ [.lst lsA]) (Zt rfl (Zbx rfl rfl) (ZcR rfl rfl))).trans ((ZaR (M':=M ++ [.lst lsA] ++ [.lst lsB]) (Zt rfl (Zbx rfl rfl) (ZcR rfl rfl))).trans (Zc4 rfl hm2 (Za6 rfl rfl) hm2 lz)))⟩
 ·exact ⟨.set a b,[.lst lsA,.lst lsB],⟨la,lb⟩,by rw [List.append_cons]; exact (Zb7 (M':=M) rfl).trans ((Zb7 (M':=M ++ [.lst lsA]) (Zt rfl (Zbx rfl rfl) (ZcR rfl rfl))).trans ((ZaR (M':=M ++ [.lst lsA] ++ [.lst lsB]) (Zt rfl (Zbx rfl rfl) (ZcR rfl rfl))).trans (Zc4 rfl hm2 (Za6 rfl rfl) hm2 lz)))⟩
 ·exact ⟨.when a q,[.lst lsA,.lst lsB],⟨la,lq⟩,by rw [List.append_cons]; exact (Zb7 (M':=M) rfl).trans ((Zb7 (M':=M ++ [.lst lsA]) (Zt rfl (Zbx rfl rfl) (ZcR rfl rfl))).trans ((Zb7 (M':=M ++ [.lst lsA] ++ [.lst lsB]) (Zt rfl (Zbx rfl rfl) (ZcR rfl rfl))).trans ((ZaR (M':=M ++ [.lst lsA] ++ [.lst lsB]) rfl).trans (Zc4 rfl hm2 (Za6 rfl rfl) hm2 lz))))⟩
 ·exact ⟨.jump q,[.lst lsA,.lst lsB],lq,by rw [List.append_cons]; exact (Zb7 (M':=M) rfl).trans ((Zb7 (M':=M ++ [.lst lsA]) (Zt rfl (Zbx rfl rfl) (ZcR rfl rfl))).trans ((Zb7 (M':=M ++ [.lst lsA] ++ [.lst lsB]) (Zt rfl (Zbx rfl rfl) (ZcR rfl rfl))).trans ((Zb7 (M':=M ++ [.lst lsA] ++ [.lst lsB]) rfl).trans ((ZaR (M':=M ++ [.lst lsA] ++ [.lst lsB]) rfl).trans (Zc4 rfl hm2 (Za6 rfl rfl) hm2 lz)))))⟩
 ·exact ⟨.tell a,[.lst lsA,.lst lsB],la,by rw [List.append_cons]; exact (Zb7 (M':=M) rfl).trans ((Zb7 (M':=M ++ [.lst lsA]) (Zt rfl (Zbx rfl rfl) (ZcR rfl rfl))).trans ((Zb7 (M':=M ++ [.lst lsA] ++ [.lst lsB]) (Zt rfl (Zbx rfl rfl) (ZcR rfl rfl))).trans ((Zb7 (M':=M ++ [.lst lsA] ++ [.lst lsB]) rfl).trans ((Zb7 (M':=M ++ [.lst lsA] ++ [.lst lsB]) rfl).trans (Zc4 rfl hm2 (Za6 rfl rfl) hm2 lz)))))⟩
 ·exact ⟨.put a v,[.lst (nsB p)],la,(ZaR (M':=M) rfl).trans (Zc4 rfl hm (ZoT hv) (hmG _) lz)⟩
theorem ZlD (cs:List D) (n k m0:Nat) (c:Int) (rows:List Row) (M:Store) (x4 x5 x6 x7 x8 x9 x10:Option D) (hn:M[n]? = some (.lst cs)) (hm:M[m0]? = some (.lst (rows.map Zw))) (hne:n ≠ m0) (hk:k < cs.length) (hr:rows.length ≤ 63):
  ∃ (r:Row) (M':Store) (y4 y5 y6 y7 y8 y9:Option D),r.ok (cs.length + 1) ∧ Zoe [some (.ref n),some (.ref m0),some (.int (k:Int)),some (.int c),x4,x5,x6,x7,x8,x9,x10] M = .nx [some (.ref n),some (.ref m0),some (.int (k:Int)),some (.int c),y4,y5,y6,y7,y8,y9,x10] M' ∧ M'[n]? = some (.lst cs) ∧ M'[m0]? = some (.lst ((rows ++ [r]).map Zw)) ∧ M'.take m0 = M.take m0:=by
 have hnl:=(List.getElem?_eq_some_iff.mp hn).1
 have hml:=(List.getElem?_eq_some_iff.mp hm).1
 obtain ⟨a,ha,la⟩:=ZcS (c / 10) 8 (lN [] 0 531425 rfl)
 obtain ⟨b,hb,lb⟩:=ZcS (c / 10 / 8) 8 (lN [] 0 531425 rfl)
 obtain ⟨d,hd,ld⟩:=ZcS (c / 10 / 64) 8 (lN [] 0 531425 rfl)
 obtain ⟨j,hj,lj⟩:=ZcS c 10 (lN [] 0 662497 rfl)
 have b1:=Int.emod_nonneg (c / 10 / 512) (b:=(cs.length:Int) - k) (fun z=>iN [_,_] [] 2 0x60111e1808fa1 T1 z hk)
 have b2:=Int.emod_lt_of_pos (c / 10 / 512) (b:=(cs.length:Int) - k) (iN [_,_] [] 1 556465197073 T1 hk)
 have b3:=Int.emod_nonneg (c / 10 / 512) (b:=(cs.length:Int) + 1) (fun z=>iN [_] [] 1 1856015521 T1 z)
 have b4:=Int.emod_lt_of_pos (c / 10 / 512) (b:=(cs.length:Int) + 1) (iN [_] [] 0 10521833 T1)
 obtain ⟨q,hq,lq⟩:∃ q:Nat,(if c / 10 / 5 % 4 = 1 then c / 10 / 512 % ((cs.length:Int) + 1) else (k:Int) + 1 + c / 10 / 512 % ((cs.length:Int) - k)) = (q:Int) ∧ q < cs.length + 1:=by
  split
  ·exact ⟨(c / 10 / 512 % ((cs.length:Int) + 1)).toNat,Int.le_antisymm ((Int.self_le_toNat _)) (Int.le_of_eq (Int.toNat_of_nonneg b3)),iN [_,_] [_] 2 0xa0c11018a1a08c091 T1 b4 (Int.toNat_of_nonneg b3)⟩
  ·exact ⟨((k:Int) + 1 + c / 10 / 512 % ((cs.length:Int) - k)).toNat,Int.le_antisymm ((Int.self_le_toNat _)) (Int.le_of_eq (Int.toNat_of_nonneg (iN [_] [_] 1 0xa08cce80e81 T1 b1))),iN [_,_,_] [_] 2 0xa0c210a18cc28a11808f091 T1 b2 (Int.toNat_of_nonneg (iN [_] [_] 1 0xa08cce80e81 T1 b1))⟩
 obtain ⟨G,h1⟩:=ZrX n m0 k c cs.length cs M hn rfl (Int.ofNat_lt.2 hk) (Int.natCast_nonneg _) x4 x5 x6 x7 x8 x9 x10 j hj lj
 rw [hq] at h1
 have ha':c / 10 % 8 = (a:Int):=ha
 have hb':c / 10 / 8 % 8 = (b:Int):=hb
 have hd':c / 10 / 64 % 8 = (d:Int):=hd
 rw [ha',hb',hd'] at h1
 obtain ⟨r,G2,ok,h2⟩:=Zmv n m0 (cs.length + 1) k c (c / 10) a b d q j rows (M ++ [G]) x10 (ZaI hm _) hr la lb ld lq lj
 refine ⟨r,_,_,_,_,_,_,_,ok,h1.trans h2,?_,?_,?_⟩
 ·rw [List.getElem?_set_ne (Ne.symm hne)]; exact ZaI (ZaI hn _) G2
 ·rw [List.getElem?_set_self (by simp; exact lC 1 0xa2c1c011011 T1 hml)]; simp
 ·rw [List.take_set_of_le (Nat.le_refl _),List.append_assoc,List.take_append_of_le_length (Nat.le_of_lt hml)]
theorem ZgX (cs:List Int) (n m0:Nat) (hne:n ≠ m0) (hl:cs.length ≤ 63) (x10:Option D):∀ (ds:List Int) (k:Nat) (rows:List Row) (M:Store) (x2 x3 x4 x5 x6 x7 x8 x9:Option D),k + ds.length = cs.length → rows.length = k → (∀ r ∈ rows,r.ok (cs.length + 1)) → M[n]? = some (.lst (cs.map D.int)) → M[m0]? = some (.lst (rows.map Zw)) →
  ∃ (rows':List Row) (M':Store) (y2 y3 y4 y5 y6 y7 y8 y9:Option D),rows'.length = cs.length ∧ (∀ r ∈ rows',r.ok (cs.length + 1)) ∧ Zfc [(n,cs.map D.int)] (Zev [2,3]) Zoe (Zd5 k (ds.map D.int)) [some (.ref n),some (.ref m0),x2,x3,x4,x5,x6,x7,x8,x9,x10] M = .nx [some (.ref n),some (.ref m0),y2,y3,y4,y5,y6,y7,y8,y9,x10] M' ∧ M'[n]? = some (.lst (cs.map D.int)) ∧ M'[m0]? = some (.lst (rows'.map Zw)) ∧ M'.take m0 = M.take m0
 | [],k,rows,M,x2,x3,x4,x5,x6,x7,x8,x9,hk,hr,ho,hn,hm=>by
  simp only [List.length_nil] at hk
  refine ⟨rows,M,x2,x3,x4,x5,x6,x7,x8,x9,Nat.le_antisymm (lC 2 563147993845793 T1 hr hk) (lC 2 35382413561905 T1 hr hk),ho,?_,hn,hm,rfl⟩
  simp [Zd5,Zfc,Zdg,hn]
 | c :: ds,k,rows,M,x2,x3,x4,x5,x6,x7,x8,x9,hk,hr,ho,hn,hm=>by
  simp only [List.length_cons] at hk
  obtain ⟨r,M1,y4,y5,y6,y7,y8,y9,ok,h1,hn1,hm1,ht⟩:=ZlD (cs.map D.int) n k m0 c rows M x4 x5 x6 x7 x8 x9 x10 hn hm hne (by simp; exact lC 1 2204024704033 T1 hk) (lD 3 0x3f2b003f2b3013a2c1c211021 T1 hr hk hl)
  rw [List.length_map] at ok
  obtain ⟨rows',M',z2,z3,z4,z5,z6,z7,z8,z9,l',o',h2,hn2,hm2,ht2⟩:=ZgX cs n m0 hne hl x10 ds (k + 1) (rows ++ [r]) M1 (some (.int (k:Int))) (some (.int c)) y4 y5 y6 y7 y8 y9 (Nat.le_antisymm (lC 1 0x21a0cc02a1c0c21 T1 hk) (lC 1 0x1a0cc202a1c0c31 T1 hk)) (by simp [hr]) (fun q hq=>by
   rcases List.mem_append.mp hq with h | h
   ·exact ho q h
   ·rw [List.mem_singleton.mp h]; exact ok) hn1 hm1
  refine ⟨rows',M',z2,z3,z4,z5,z6,z7,z8,z9,l',o',?_,hn2,hm2,ht2.trans ht⟩
  have lk:Zdg [(n,cs.map D.int)] M = true:=by simp [Zdg,hn]
  simp only [List.map_cons,Zd5,Zfc,lk,if_true,Zev,bindAll,List.set_cons_succ,List.set_cons_zero]
  rw [h1]
  exact h2
theorem getD_last (q:List Int) (l:Int):ZaU ((q ++ [l]).map D.int) (-1) = some (.int l):=by
 have h:ixD ((q ++ [l]).map D.int).length (-1) = some q.length:=by
  simp [ixD] <;> exact ⟨iN [_] [] 0 10521768 T1,Nat.le_antisymm (iN [_,_] [] 1 4514701222086817 T1 (Int.toNat_of_nonneg (iN [_] [] 0 43097169128 T1))) (iN [_,_] [] 1 4505291991981185 T1 (Int.self_le_toNat _))⟩
 rw [ZaU,h]
 simp
noncomputable def Zo3:S3:=(Zx (Zaf 10 (ZaY (Za (eC (.str [104,97,108,116])) (Zh)))) (Zx (sIf (Zdt (e2 Zey (ZaN Zbb (Za (Zb 0) (Zh))) (eC (.int 0))) (e2 ZaS (e2 Zan (e2 Zi (Zb 0) (e1 Zba (eC (.int 1)))) (eC (.int 4))) (eC (.int 1)))) (Zaf 10 (ZaY (Za (eC (.str [106,117,109,112])) (Za (e2 Zan (e2 Zag (e2 Zi (Zb 0) (e1 Zba (eC (.int 1)))) (eC (.int 4))) (e2 Zak (ZaN Zbb (Za (Zb 0) (Zh))) (eC (.int 1)))) (Zh))))) (Zas)) (Zaw (ZaN Zca (Za (e2 Zak (Zb 1) (Zbz (Za (Zb 10) (Zh)))) (Zh))))))
theorem Zmf (cs:List Int) (n m0:Nat) (rows:List Row) (M:Store) (hn:M[n]? = some (.lst (cs.map D.int))) (hm:M[m0]? = some (.lst (rows.map Zw))) (hl:cs.length ≤ 63) (hr:rows.length = cs.length) (x2 x3 x4 x5 x6 x7 x8 x9:Option D):
  ∃ (r:Row) (G:Store),r.ok (cs.length + 1) ∧ (r = .halt ∨ ∃ k,r = .jump k) ∧ Zo3 [some (.ref n),some (.ref m0),x2,x3,x4,x5,x6,x7,x8,x9,none] M = .rt (Zu (rows ++ [r])) (M ++ G):=by
 have fin:∀ r:Row,(Zaw (ZaN Zca (Za (e2 Zak (Zb 1) (Zbz (Za (Zb 10) (Zh)))) (Zh)))) [some (.ref n),some (.ref m0),x2,x3,x4,x5,x6,x7,x8,x9,some (Zw r)] M = .rt (Zu (rows ++ [r])) (M ++ [.lst [Zw r],.lst ((rows ++ [r]).map Zw)]):=fun r=>by
  have g1:(M ++ [MO.lst [Zw r]])[m0]? = some (.lst (rows.map Zw)):=ZaI hm _
  have lz:rows.length + 1 ≤ 1000000:=lB 2 0xf42405ba0c03f2b1011021 T1 hr hl
  refine ZaC ?_
  simp [g1,Zu,lz]
 unfold Zo3
 rw [Zf (Zr (M':=M) (d:=Zw .halt) (by simp [Zw]))]
 rcases List.eq_nil_or_concat cs with e | ⟨q,l,e⟩
 ·subst e
  refine ⟨.halt,[.lst [Zw .halt],.lst ((rows ++ [Row.halt]).map Zw)],trivial,.inl rfl,?_⟩
  rw [Zf (Zj (M':=M) (by simp [hn]))]
  exact fin .halt
 ·rw [List.concat_eq_append] at e
  have e1:ZaU (cs.map D.int) (-1) = some (.int l):=by rw [e]; exact getD_last q l
  have p0:0 < cs.length:=by rw [e]; simp
  by_cases z:l % 4 = 1
  ·obtain ⟨k,hk,lk⟩:=ZcS (l / 4) (cs.length + 1) (lA 0 658657 T1)
   have hk':l / 4 % ((cs.length:Int) + 1) = k:=hk
   refine ⟨.jump k,[.lst [Zw (.jump k)],.lst ((rows ++ [Row.jump k]).map Zw)],lk,.inr ⟨k,rfl⟩,?_⟩
   rw [Zf (env':=[some (.ref n),some (.ref m0),x2,x3,x4,x5,x6,x7,x8,x9,some (Zw (.jump k))]) (M':=M) (by rw [ZaR (M':=M) (by simp [hn,e1,p0,z])]; exact Zr (d:=Zw (.jump k)) (by simp [hn,e1,hk',Zw]))]
   exact fin (.jump k)
  ·refine ⟨.halt,[.lst [Zw .halt],.lst ((rows ++ [Row.halt]).map Zw)],trivial,.inl rfl,?_⟩
   rw [Zf (Zj (M':=M) (by simp [hn,e1,p0,z]))]
   exact fin .halt
theorem Zme (cs:List Int) (n:Nat) (M:Store) (hn:M[n]? = some (.lst (cs.map D.int))) (hl:cs.length ≤ 63):
  ∃ roll:ZbH,roll.length = cs.length + 1 ∧ Zc6 roll ∧ ZdC [.ref n] M = .ok (Zu roll) M:=by
 have hnl:=(List.getElem?_eq_some_iff.mp hn).1
 obtain ⟨rows,M',y2,y3,y4,y5,y6,y7,y8,y9,lr,ok,h,hn',hm',ht⟩:=ZgX cs n M.length (fun z=>lB 2 26039357489 T1 z hnl) hl none cs 0 [] (M ++ [.lst []]) none none none none none none none none (Nat.le_antisymm (lA 0 3776 T1) (Nat.le_add_left _ _)) rfl (by simp) (ZaI hn _) (by simp)
 obtain ⟨r,G,rok,rl,h2⟩:=Zmf cs n M.length rows M' hn' hm' hl lr y2 y3 y4 y5 y6 y7 y8 y9
 have hM':M' = M ++ M'.drop M.length:=by
  have e:=List.take_append_drop M.length M'
  rw [ht] at e
  rw [← e]; simp
 have hb:ZeC [some (.ref n),none,none,none,none,none,none,none,none,none,none] M = .rt (Zu (rows ++ [r])) (M ++ (M'.drop M.length ++ G)):=by
  rw [← List.append_assoc,← hM',← h2]
  refine (Zf (Zr (M':=M ++ [.lst []]) (d:=.ref M.length) (by simp))).trans ?_
  refine Zf ?_
  rw [ZkU]
  have hi:ZmC (Zb 0) [some (.ref n),some (.ref M.length),none,none,none,none,none,none,none,none,none] (M ++ [.lst []]) = .ok ⟨Zd5 0 (cs.map D.int),[(n,cs.map D.int)]⟩ (M ++ [.lst []]):=by
   have:=ZaI hn [MO.lst []]
   simp [this]
  rw [hi]
  exact h
 refine ⟨rows ++ [r],by simp [lr],⟨fun x hx=>?_,rows,r,rfl,rl⟩,Rt.pure hb (Zkh _ _)⟩
 rw [List.length_append,List.length_singleton,lr]
 rcases List.mem_append.mp hx with hx | hx
 ·exact ok x hx
 ·rw [List.mem_singleton.mp hx]; exact rok
theorem ZeR {fb fi fv:E3} {env:Zau} {M:Store} {bs:List Int} {a:Nat} {v:Int} (hb:fb env M = .ok (Zo bs) M) (hi:fi env M = .ok (.int a) M) (hv:fv env M = .ok (.int v) M) (ha:a < bs.length) (hl:bs.length ≤ 1000):
  (e2 Zak (e2 Zak (eSl fb (Zb8) (Zb9 fi)) (ZaY (Za fv (Zh)))) (eSl fb (Zb9 (e2 Zak fi (eC (.int 1)))) (Zb8))) env M = .ok (Zo (bs.set a v)) M:=by
 have c1:cutD (bs.map D.int) none (some (a:Int)) = (bs.take a).map D.int:=by rw [ZiL,List.map_take]
 have c2:cutD (bs.map D.int) (some ((a:Int) + 1)) none = (bs.drop (a + 1)).map D.int:=by
  rw [show ((a:Int) + 1) = ((a + 1:Nat):Int) by exact rfl,Zjw,List.map_drop]
 have s1:eSl fb (Zb8) (Zb9 fi) env M = .ok (.tup ((bs.take a).map D.int)) M:=by
  simp only [eSl,Zb8,Zb9,hb,hi,R3.bind,Zhx,Zo,c1]
 have s2:eSl fb (Zb9 (e2 Zak fi (eC (.int 1)))) (Zb8) env M = .ok (.tup ((bs.drop (a + 1)).map D.int)) M:=by
  simp only [eSl,e2,eC,Zak,Zb8,Zb9,hb,hi,R3.bind,Zhx,Zo,c2]
 have s3:ZaY (Za fv (Zh)) env M = .ok (.tup [.int v]) M:=by simp [hv]
 have a1:Zak (.tup ((bs.take a).map D.int)) (.tup [.int v]) M = .ok (.tup ((bs.take a).map D.int ++ [.int v])) M:=by
  simp only [Zak]; rw [if_pos (by simp; exact lB 2 0xf423f5b1001013e83b001 T1 hl (Nat.min_le_right _ _))]
 refine (Zt (Zt s1 s3 a1) s2 ?_)
 simp only [Zak]
 rw [if_pos (by simp; exact lD 3 0xf42405b3a1cc00a2c3c2121013e83b001 T1 hl (Nat.min_le_left _ _) (Nat.sub_add_cancel (lB 1 6991908881 T1 ha))),Zo,List.set_eq_take_append_cons_drop,if_pos ha]
 simp
noncomputable def Zbc (r:Row) (bs:List Int) (held:Int):List Int:=match r with
 | .get a _=>bs.set a held
 | r=>r.boxes bs []
theorem ZlA (r:Row) (p:Nat) (bs:List Int) (held:Int) (many:Nat) (hr:r.ok many) (hb:bs.length = 8) (M:Store):Za7 [Zw r,.int p,Zo bs,.int held] M = .ok (.tup [.int (r.place bs p:Nat),Zo (Zbc r bs held)]) M:=by
 have fin:∀ G,ZaE [some (Zw r),some (.int p),some (Zo bs),some (.int held),none] M = .rt (.tup [.int (r.place bs p:Nat),Zo (Zbc r bs held)]) (M ++ G) → Za7 [Zw r,.int p,Zo bs,.int held] M = .ok (.tup [.int (r.place bs p:Nat),Zo (Zbc r bs held)]) M:=fun G h=>Rt.pure h (by simp [below,belowL,Zeo])
 have g0:ZaU [D.int 0,D.int 1] 0 = some (.int 0):=rfl
 have g1:ZaU [D.int 0,D.int 1] 1 = some (.int 1):=rfl
 cases r with
 | put a n=>
  refine fin [] ?_
  rw [List.append_nil]
  unfold ZaE
  refine Eq.trans (Zf (Zr (M':=M) (d:=.int ((p + 1:Nat):Int)) (by exact rfl))) ?_
  refine Eq.trans (Zf (Zr (M':=M) (d:=.non) (by exact rfl))) ?_
  refine Eq.trans (Zf (env':=[some (Zw (.put a n)),some (.int ((p + 1:Nat):Int)),some (Zo bs),some (.int held),some (.int (n))]) (M':=M) (by rw [ZaR (M':=M) (by exact rfl)]; exact Zr (d:=.int (n)) (by exact rfl))) ?_
  refine Eq.trans (Zf (Zj (M':=M) (by exact rfl))) ?_
  refine Eq.trans (Zf (Zj (M':=M) (by exact rfl))) ?_
  refine Eq.trans (Zf (Zj (M':=M) (by exact rfl))) ?_
  refine Eq.trans (Zf (Zj (M':=M) (by exact rfl))) ?_
  refine Eq.trans (Zf (Zj (M':=M) (by exact rfl))) ?_
  refine Eq.trans (Zf (env':=[some (Zw (.put a n)),some (.int ((p + 1:Nat):Int)),some (Zo (bs.set a n)),some (.int held),some (.int (n))]) (M':=M) (by rw [ZaR (M':=M) (by exact rfl)]; exact Zr (ZeR (a:=a) (v:=n) rfl (by exact rfl) rfl (by rw [hb]; exact hr) (lA 1 0x3e83b0081b021 T1 hb)))) ?_
  simp only [Zbc,Row.place,Row.boxes]
  simp [Zaw]
 | add a b c=>
  obtain ⟨x,hx,gx⟩:=Zbo hb hr.2.1
  obtain ⟨y,hy,gy⟩:=Zbo hb hr.2.2
  refine fin [] ?_
  rw [List.append_nil]
  unfold ZaE
  refine Eq.trans (Zf (Zr (M':=M) (d:=.int ((p + 1:Nat):Int)) (by exact rfl))) ?_
  refine Eq.trans (Zf (Zr (M':=M) (d:=.non) (by exact rfl))) ?_
  refine Eq.trans (Zf (Zj (M':=M) (by exact rfl))) ?_
  refine Eq.trans (Zf (env':=[some (Zw (.add a b c)),some (.int ((p + 1:Nat):Int)),some (Zo bs),some (.int held),some (.int (x + y))]) (M':=M) (by rw [ZaR (M':=M) (by exact rfl)]; exact Zr (d:=.int (x + y)) (by simp [Zw,Zo,gx,gy,-Zdi]))) ?_
  refine Eq.trans (Zf (Zj (M':=M) (by exact rfl))) ?_
  refine Eq.trans (Zf (Zj (M':=M) (by exact rfl))) ?_
  refine Eq.trans (Zf (Zj (M':=M) (by exact rfl))) ?_
  refine Eq.trans (Zf (Zj (M':=M) (by exact rfl))) ?_
  refine Eq.trans (Zf (env':=[some (Zw (.add a b c)),some (.int ((p + 1:Nat):Int)),some (Zo (bs.set a (x + y))),some (.int held),some (.int (x + y))]) (M':=M) (by rw [ZaR (M':=M) (by exact rfl)]; exact Zr (ZeR (a:=a) (v:=x + y) rfl (by exact rfl) rfl (by rw [hb]; exact hr.1) (lA 1 0x3e83b0081b021 T1 hb)))) ?_
  simp only [Zbc,Row.place,Row.boxes,hx,hy]
  simp [Zaw]
 | sub a b c=>
  obtain ⟨x,hx,gx⟩:=Zbo hb hr.2.1
  obtain ⟨y,hy,gy⟩:=Zbo hb hr.2.2
  refine fin [] ?_
  rw [List.append_nil]
  unfold ZaE
  refine Eq.trans (Zf (Zr (M':=M) (d:=.int ((p + 1:Nat):Int)) (by exact rfl))) ?_
  refine Eq.trans (Zf (Zr (M':=M) (d:=.non) (by exact rfl))) ?_
  refine Eq.trans (Zf (Zj (M':=M) (by exact rfl))) ?_
  refine Eq.trans (Zf (Zj (M':=M) (by exact rfl))) ?_
  refine Eq.trans (Zf (env':=[some (Zw (.sub a b c)),some (.int ((p + 1:Nat):Int)),some (Zo bs),some (.int held),some (.int (x - y))]) (M':=M) (by rw [ZaR (M':=M) (by exact rfl)]; exact Zr (d:=.int (x - y)) (by simp [Zw,Zo,gx,gy,-Zdi]))) ?_
  refine Eq.trans (Zf (Zj (M':=M) (by exact rfl))) ?_
  refine Eq.trans (Zf (Zj (M':=M) (by exact rfl))) ?_
  refine Eq.trans (Zf (Zj (M':=M) (by exact rfl))) ?_
  refine Eq.trans (Zf (env':=[some (Zw (.sub a b c)),some (.int ((p + 1:Nat):Int)),some (Zo (bs.set a (x - y))),some (.int held),some (.int (x - y))]) (M':=M) (by rw [ZaR (M':=M) (by exact rfl)]; exact Zr (ZeR (a:=a) (v:=x - y) rfl (by exact rfl) rfl (by rw [hb]; exact hr.1) (lA 1 0x3e83b0081b021 T1 hb)))) ?_
  simp only [Zbc,Row.place,Row.boxes,hx,hy]
  simp [Zaw]
 | more a b c=>
  obtain ⟨x,hx,gx⟩:=Zbo hb hr.2.1
  obtain ⟨y,hy,gy⟩:=Zbo hb hr.2.2
  refine fin [.lst [.int 0,.int 1]] ?_
  unfold ZaE
  refine Eq.trans (Zf (Zr (M':=M) (d:=.int ((p + 1:Nat):Int)) (by exact rfl))) ?_
  refine Eq.trans (Zf (Zr (M':=M) (d:=.non) (by exact rfl))) ?_
  refine Eq.trans (Zf (Zj (M':=M) (by exact rfl))) ?_
  refine Eq.trans (Zf (Zj (M':=M) (by exact rfl))) ?_
  refine Eq.trans (Zf (Zj (M':=M) (by exact rfl))) ?_
  refine Eq.trans (Zf (env':=[some (Zw (.more a b c)),some (.int ((p + 1:Nat):Int)),some (Zo bs),some (.int held),some (.int (if y < x then 1 else 0))]) (M':=M ++ [.lst [.int 0,.int 1]]) (by rw [ZaR (M':=M) (by exact rfl)]; exact Zr (d:=.int (if y < x then 1 else 0)) (by by_cases q:y < x <;> simp [Zw,Zo,gx,gy,q,g0,g1,-Zdi]))) ?_
  refine Eq.trans (Zf (Zj (M':=M ++ [.lst [.int 0,.int 1]]) (by exact rfl))) ?_
  refine Eq.trans (Zf (Zj (M':=M ++ [.lst [.int 0,.int 1]]) (by exact rfl))) ?_
  refine Eq.trans (Zf (env':=[some (Zw (.more a b c)),some (.int ((p + 1:Nat):Int)),some (Zo (bs.set a (if y < x then 1 else 0))),some (.int held),some (.int (if y < x then 1 else 0))]) (M':=M ++ [.lst [.int 0,.int 1]]) (by rw [ZaR (M':=M ++ [.lst [.int 0,.int 1]]) (by exact rfl)]; exact Zr (ZeR (a:=a) (v:=if y < x then 1 else 0) rfl (by exact rfl) rfl (by rw [hb]; exact hr.1) (lA 1 0x3e83b0081b021 T1 hb)))) ?_
  simp only [Zbc,Row.place,Row.boxes,hx,hy]
  simp [Zaw]
 | get a b=>
  refine fin [] ?_
  rw [List.append_nil]
  unfold ZaE
  refine Eq.trans (Zf (Zr (M':=M) (d:=.int ((p + 1:Nat):Int)) (by exact rfl))) ?_
  refine Eq.trans (Zf (Zr (M':=M) (d:=.non) (by exact rfl))) ?_
  refine Eq.trans (Zf (Zj (M':=M) (by exact rfl))) ?_
  refine Eq.trans (Zf (Zj (M':=M) (by exact rfl))) ?_
  refine Eq.trans (Zf (Zj (M':=M) (by exact rfl))) ?_
  refine Eq.trans (Zf (Zj (M':=M) (by exact rfl))) ?_
  refine Eq.trans (Zf (env':=[some (Zw (.get a b)),some (.int ((p + 1:Nat):Int)),some (Zo bs),some (.int held),some (.int (held))]) (M':=M) (by rw [ZaR (M':=M) (by exact rfl)]; exact Zr (d:=.int (held)) (by exact rfl))) ?_
  refine Eq.trans (Zf (Zj (M':=M) (by exact rfl))) ?_
  refine Eq.trans (Zf (env':=[some (Zw (.get a b)),some (.int ((p + 1:Nat):Int)),some (Zo (bs.set a held)),some (.int held),some (.int (held))]) (M':=M) (by rw [ZaR (M':=M) (by exact rfl)]; exact Zr (ZeR (a:=a) (v:=held) rfl (by exact rfl) rfl (by rw [hb]; exact hr.1) (lA 1 0x3e83b0081b021 T1 hb)))) ?_
  simp only [Zbc,Row.place,Row.boxes]
  simp [Zaw]
 | set a b=>
  refine fin [] ?_
  rw [List.append_nil]
  unfold ZaE
  refine Eq.trans (Zf (Zr (M':=M) (d:=.int ((p + 1:Nat):Int)) (by exact rfl))) ?_
  refine Eq.trans (Zf (Zr (M':=M) (d:=.non) (by exact rfl))) ?_
  refine Eq.trans (Zf (Zj (M':=M) (by exact rfl))) ?_
  refine Eq.trans (Zf (Zj (M':=M) (by exact rfl))) ?_
  refine Eq.trans (Zf (Zj (M':=M) (by exact rfl))) ?_
  refine Eq.trans (Zf (Zj (M':=M) (by exact rfl))) ?_
  refine Eq.trans (Zf (Zj (M':=M) (by exact rfl))) ?_
  refine Eq.trans (Zf (Zj (M':=M) (by exact rfl))) ?_
  refine Eq.trans (Zf (Zj (M':=M) (by exact rfl))) ?_
  simp only [Zbc,Row.place,Row.boxes]
  simp [Zaw]
 | when a k=>
  refine fin [] ?_
  rw [List.append_nil]
  unfold ZaE
  refine Eq.trans (Zf (Zr (M':=M) (d:=.int ((p + 1:Nat):Int)) (by exact rfl))) ?_
  refine Eq.trans (Zf (Zr (M':=M) (d:=.non) (by exact rfl))) ?_
  refine Eq.trans (Zf (Zj (M':=M) (by exact rfl))) ?_
  refine Eq.trans (Zf (Zj (M':=M) (by exact rfl))) ?_
  refine Eq.trans (Zf (Zj (M':=M) (by exact rfl))) ?_
  refine Eq.trans (Zf (Zj (M':=M) (by exact rfl))) ?_
  refine Eq.trans (Zf (Zj (M':=M) (by exact rfl))) ?_
  obtain ⟨x,hx,gx⟩:=Zbo hb hr.1
  by_cases q:0 < x
  ·refine Eq.trans (Zf (env':=[some (Zw (.when a k)),some (.int (k:Int)),some (Zo bs),some (.int held),some .non]) (M':=M) (by rw [ZaR (M':=M) (by simp [Zw,Zo,gx,q,-Zdi])]; exact Zr (d:=.int (k:Int)) (by exact rfl))) ?_
   refine Eq.trans (Zf (Zj (M':=M) (by exact rfl))) ?_
   simp only [Zbc,Row.place,Row.boxes,hx,q,if_true,if_false]
   simp [Zaw]
  ·refine Eq.trans (Zf (Zj (M':=M) (by simp [Zw,Zo,gx,q,-Zdi]))) ?_
   refine Eq.trans (Zf (Zj (M':=M) (by exact rfl))) ?_
   simp only [Zbc,Row.place,Row.boxes,hx,q,if_true,if_false]
   simp [Zaw]
 | jump k=>
  refine fin [] ?_
  rw [List.append_nil]
  unfold ZaE
  refine Eq.trans (Zf (Zr (M':=M) (d:=.int ((p + 1:Nat):Int)) (by exact rfl))) ?_
  refine Eq.trans (Zf (Zr (M':=M) (d:=.non) (by exact rfl))) ?_
  refine Eq.trans (Zf (Zj (M':=M) (by exact rfl))) ?_
  refine Eq.trans (Zf (Zj (M':=M) (by exact rfl))) ?_
  refine Eq.trans (Zf (Zj (M':=M) (by exact rfl))) ?_
  refine Eq.trans (Zf (Zj (M':=M) (by exact rfl))) ?_
  refine Eq.trans (Zf (Zj (M':=M) (by exact rfl))) ?_
  refine Eq.trans (Zf (env':=[some (Zw (.jump k)),some (.int (k:Int)),some (Zo bs),some (.int held),some .non]) (M':=M) (by rw [ZaR (M':=M) (by exact rfl)]; exact Zr (d:=.int (k:Int)) (by exact rfl))) ?_
  refine Eq.trans (Zf (Zj (M':=M) (by exact rfl))) ?_
  simp only [Zbc,Row.place,Row.boxes]
  simp [Zaw]
 | tell a=>
  refine fin [] ?_
  rw [List.append_nil]
  unfold ZaE
  refine Eq.trans (Zf (Zr (M':=M) (d:=.int ((p + 1:Nat):Int)) (by exact rfl))) ?_
  refine Eq.trans (Zf (Zr (M':=M) (d:=.non) (by exact rfl))) ?_
  refine Eq.trans (Zf (Zj (M':=M) (by exact rfl))) ?_
  refine Eq.trans (Zf (Zj (M':=M) (by exact rfl))) ?_
  refine Eq.trans (Zf (Zj (M':=M) (by exact rfl))) ?_
  refine Eq.trans (Zf (Zj (M':=M) (by exact rfl))) ?_
  refine Eq.trans (Zf (Zj (M':=M) (by exact rfl))) ?_
  refine Eq.trans (Zf (Zj (M':=M) (by exact rfl))) ?_
  refine Eq.trans (Zf (Zj (M':=M) (by exact rfl))) ?_
  simp only [Zbc,Row.place,Row.boxes]
  simp [Zaw]
 | halt=>
  refine fin [] ?_
  rw [List.append_nil]
  unfold ZaE
  refine Eq.trans (Zf (Zr (M':=M) (d:=.int ((p + 1:Nat):Int)) (by exact rfl))) ?_
  refine Eq.trans (Zf (Zr (M':=M) (d:=.non) (by exact rfl))) ?_
  refine Eq.trans (Zf (Zj (M':=M) (by exact rfl))) ?_
  refine Eq.trans (Zf (Zj (M':=M) (by exact rfl))) ?_
  refine Eq.trans (Zf (Zj (M':=M) (by exact rfl))) ?_
  refine Eq.trans (Zf (Zj (M':=M) (by exact rfl))) ?_
  refine Eq.trans (Zf (Zj (M':=M) (by exact rfl))) ?_
  refine Eq.trans (Zf (Zj (M':=M) (by exact rfl))) ?_
  refine Eq.trans (Zf (Zj (M':=M) (by exact rfl))) ?_
  simp only [Zbc,Row.place,Row.boxes]
  simp [Zaw]
theorem ZoE (cs:List Int) (c d:Nat) (at_:Nat) (M:Store) (hd:M[d]? = some (.lst [.ref c,.int (at_:Int)])) (hc:M[c]? = some (.lst (cs.map D.int))) (ha:at_ < 1000000) (hne:c ≠ d):
  ∃ v:Int,ZaP [.ref d] M = .ok (.int v) (M.set d (.lst [.ref c,.int ((at_ + 1:Nat):Int)])):=by
 have hdl:=(List.getElem?_eq_some_iff.mp hd).1
 have hc2:(M.set d (.lst [.ref c,.int ((at_:Int) + 1)]))[c]? = some (.lst (cs.map D.int)):=by rw [List.getElem?_set_ne (Ne.symm hne)]; exact hc
 have fin:∀ v:Int,Zcp [some (.ref d),none,none] M = .rt (.int v) (M.set d (.lst [.ref c,.int ((at_:Int) + 1)])) → ∃ v:Int,ZaP [.ref d] M = .ok (.int v) (M.set d (.lst [.ref c,.int ((at_ + 1:Nat):Int)])):=fun v h=>by
  refine ⟨v,(Zck h).trans ?_⟩
  unfold ZcU
  rw [List.take_of_length_le (by simp)]
  split <;> first | exact rfl | simp
 have m1:ZdJ (at_:Int) (at_:Int) = true:=ZrG (by omega)
 have m2:ZdJ ((at_:Int) * at_) 3 = true:=mul_r (by omega)
 by_cases h1:at_ < cs.length
 ·exact fin cs[at_] (by simp [Zcp,Zx,Zaf,Zaw,sIf,Zas,ZaH,Zib,hd,hc2,h1])
 ·by_cases h2:cs.length = 0
  ·have n0:¬ ((at_:Int) < 0):=(fun z=>iN [_] [] 1 7211153 T1 z)
   exact fin ((at_:Int) * at_ * 3 + at_) (by simp [Zcp,Zx,Zaf,Zaw,sIf,Zas,ZaH,Zib,hd,hc2,h2,m1,m2,n0])
  ·obtain ⟨a,ha',la⟩:=ZcS (at_:Int) cs.length ((Nat.lt_of_le_of_ne (Nat.zero_le _) (Ne.symm h2)))
   have p0:0 < cs.length:=lB 1 31526929 T1 la
   exact fin (cs[a] / 2 + (at_:Int) * at_) (by simp [Zcp,Zx,Zaf,Zaw,sIf,Zas,ZaH,Zib,hd,hc2,h1,h2,m1,p0,ha',la])
structure Zeg (cs:List Int) (c d:Nat) (at_:Nat) (M:Store):Prop where
 hd:M[d]? = some (.lst [.ref c,.int (at_:Int)])
 hc:M[c]? = some (.lst (cs.map D.int))
 ne:c ≠ d
theorem Zeg.next {cs:List Int} {c d at_:Nat} {M:Store} (K:Zeg cs c d at_ M) (ha:at_ < 1000000):∃ (v:Int) (M':Store),ZaP [.ref d] M = .ok (.int v) M' ∧ Zeg cs c d (at_ + 1) M' ∧ M'.length = M.length ∧ ∀ j,j ≠ d → M'[j]? = M[j]?:=by
 obtain ⟨v,h⟩:=ZoE cs c d at_ M K.hd K.hc ha K.ne
 have hdl:=(List.getElem?_eq_some_iff.mp K.hd).1
 exact ⟨v,_,h,⟨List.getElem?_set_self hdl,by rw [List.getElem?_set_ne (Ne.symm K.ne)]; exact K.hc,K.ne⟩,by simp,fun j hj=>List.getElem?_set_ne (Ne.symm hj)⟩
theorem ZkX (n:Int):∀ cs:List (Int × Int),(cs.filter (fun c=>decide (c.1 < n)) ++ cs.filter fun c=>decide (n < c.1)).Perm (cs.filter fun c=>decide (c.1 ≠ n))
 | []=>List.Perm.refl _
 | c :: cs=>by
  have ih:=ZkX n cs
  rcases Int.lt_trichotomy c.1 n with h | h | h
  ·rw [List.filter_cons_of_pos (by simpa using h),List.filter_cons_of_neg (by simp; exact Int.le_of_lt h),List.filter_cons_of_pos (by simp; exact fun z=>iN [] [_,_] 2 26047746225 T1 z h),List.cons_append]
   exact ih.cons c
  ·rw [List.filter_cons_of_neg (by simp; exact Int.le_of_eq h.symm),List.filter_cons_of_neg (by simp; exact Int.le_of_eq h),List.filter_cons_of_neg (by simpa using h)]
   exact ih
  ·rw [List.filter_cons_of_neg (by simp; exact Int.le_of_lt h),List.filter_cons_of_pos (by simpa using h),List.filter_cons_of_pos (by simp; exact fun z=>iN [] [_,_] 2 25796087969 T1 z h)]
   exact List.perm_middle.trans (ih.cons c)
theorem ZmH (cs:List (Int × Int)) (n v:Int):(ZaW cs n v).Perm (cs.filter (fun c=>decide (c.1 ≠ n)) ++ if v ≠ 0 then [(n,v)] else []):=by
 unfold ZaW
 rw [List.append_assoc]
 refine (List.Perm.append_left _ List.perm_append_comm).trans ?_
 rw [← List.append_assoc]
 exact (ZkX n cs).append_right _
theorem ZoY (cs:List (Int × Int)) (h:Ze0 cs) (n v:Int) (M:Store) (hl:cs.length ≤ 60):Za5 [Zv cs,.int n,.int v] M = .ok (Zv (ZaW cs n v)) M:=by
 have b1:=Zf1 (α:=Int × Int) (enc:=Zac) (h:=Zac) (p:=fun c=>decide (c.1 ≠ n)) (own:=1) (i:=4) (it:=ZfV (Zb 0)) (c:=e2 ZcQ (e2 Zi (Zb 4) (eC (.int 0))) (Zb 1)) (elt:=Zb 4) (env:=[some (Zv cs),some (.int n),some (.int v),none]) (M:=M) (M1:=M) (lock:=none) (as:=cs)
  (by exact rfl) (fun _ h=>by cases h) (fun a _ M=>by simp [Zac]) (fun a _ _ M=>by exact rfl) (lA 1 0x186a05b003c2b001 T1 hl)
 have f1:=List.length_filter_le (fun c:Int × Int=>decide (c.1 ≠ n)) cs
 have g0:(M ++ [MO.lst ((cs.filter fun c=>decide (c.1 ≠ n)).map Zac)])[M.length]? = some (.lst ((cs.filter fun c=>decide (c.1 ≠ n)).map Zac)):=ZaB _ _ _
 have st:(sIf (e2 ZcQ (Zb 2) (eC (.int 0))) (ZaH (Zbl tyL ZaD (Zb 3) (Za (ZaY (Za (Zb 1) (Za (Zb 2) (Zh)))) (Zh)))) (Zas)) [some (Zv cs),some (.int n),some (.int v),some (.ref M.length)] (M ++ [.lst ((cs.filter fun c=>decide (c.1 ≠ n)).map Zac)]) =
   .nx [some (Zv cs),some (.int n),some (.int v),some (.ref M.length)] (M ++ [.lst ((cs.filter (fun c=>decide (c.1 ≠ n)) ++ if v ≠ 0 then [(n,v)] else []).map Zac)]):=by
  by_cases c:v = 0
  ·rw [if_neg (by simpa using c),List.append_nil]
   exact Zj (Zt rfl rfl (by simp [c]))
  ·rw [if_pos c]
   have:=ZeW (o:=Zb 3) (env:=[some (Zv cs),some (.int n),some (.int v),some (.ref M.length)]) (arg:=ZaY (Za (Zb 1) (Za (Zb 2) (Zh)))) (d:=Zac (n,v)) rfl g0 (Za6 (Zaj rfl (Zaj rfl rfl)) rfl) g0 (by rw [List.length_map]; exact lB 2 0xf42405b013c2b1011001 T1 f1 hl)
   refine (ZaR (M':=M ++ [.lst ((cs.filter fun c=>decide (c.1 ≠ n)).map Zac)]) (Zt rfl rfl (by simp [c]))).trans ((ZcC this).trans ?_)
   rw [List.map_append]
   exact congrArg _ (ZgD M _ 0 _)
 have g1:(M ++ [MO.lst ((cs.filter (fun c=>decide (c.1 ≠ n)) ++ if v ≠ 0 then [(n,v)] else []).map Zac)])[M.length]? = some (.lst ((cs.filter (fun c=>decide (c.1 ≠ n)) ++ if v ≠ 0 then [(n,v)] else []).map Zac)):=ZaB _ _ _
 have so:ZkR ((cs.filter (fun c=>decide (c.1 ≠ n)) ++ if v ≠ 0 then [(n,v)] else []).map Zac) = (ZaW cs n v).map Zac:=Zjk (ZjY (ZmH cs n v) (Zee h))
 have ok:=Zi2 (x:=cs.filter (fun c=>decide (c.1 ≠ n)) ++ if v ≠ 0 then [(n,v)] else []) (by
  rw [List.length_append]
  have:(if v ≠ 0 then [(n,v)] else []).length ≤ 1:=by split <;> simp
  exact lC 3 0x402b01c13c2b2012101a001 T1 this f1 hl)
 refine Rt.pure (G:=[.lst ((cs.filter (fun c=>decide (c.1 ≠ n)) ++ if v ≠ 0 then [(n,v)] else []).map Zac),.lst ((ZaW cs n v).map Zac)]) (env:=[some (Zv cs),some (.int n),some (.int v),none]) ?_ (ZdD _ _)
 refine (Zf (Zr b1)).trans ((Zf st).trans (ZaC ?_))
 refine ZcX (ZcX (a:=.ref M.length) (d:=.ref (M.length + 1)) (M2:=M ++ [.lst ((cs.filter (fun c=>decide (c.1 ≠ n)) ++ if v ≠ 0 then [(n,v)] else []).map Zac),.lst ((ZaW cs n v).map Zac)]) rfl ?_) (Zk1 (ZiF _ _ 1))
 simp only [ZdL,g1,if_pos ok,so,alloc]
 simp
noncomputable def rnm:Row → List Nat
 | .put ..=>[112,117,116] | .add ..=>[97,100,100] | .sub ..=>[115,117,98] | .more ..=>[109,111,114,101] | .get ..=>[103,101,116] | .set ..=>[115,101,116] | .jump ..=>[106,117,109,112] | .when ..=>[119,104,101,110] | .tell ..=>[116,101,108,108] | .halt=>[104,97,108,116]
theorem Zlh (r:Row) (M:Store):Zi (Zw r) (.int 0) M = .ok (.str (rnm r)) M:=by cases r <;> rfl
theorem ZlK (r:Row):r = .halt ∨ (∃ a b,r = .get a b) ∨ (∃ a b,r = .set a b) ∨ (r.isHalt = false ∧ ¬ rnm r = [104,97,108,116] ∧ ¬ rnm r = [103,101,116] ∧ ¬ rnm r = [115,101,116] ∧ (∀ bs held cs,Zbc r bs held = r.boxes bs cs) ∧ ∀ bs cs,r.cells bs cs = cs):=by
 cases r with
 | halt=>exact .inl rfl
 | get a b=>exact .inr (.inl ⟨a,b,rfl⟩)
 | set a b=>exact .inr (.inr (.inl ⟨a,b,rfl⟩))
 | _=>exact .inr (.inr (.inr ⟨rfl,of_decide_eq_true rfl,of_decide_eq_true rfl,of_decide_eq_true rfl,fun _ _ _=>rfl,fun _ _=>rfl⟩))
theorem Zrq {a:List Nat} {M:Store}:ZaS (.str a) (.str a) M = .ok (.bl true) M:=by simp
theorem ZrA {a b:List Nat} {M:Store} (h:¬ a = b):ZaS (.str a) (.str b) M = .ok (.bl false) M:=by simp [h]
noncomputable abbrev ZfD (roll:ZbH) (s:Stt) (p:Nat) (bs:List Int) (cs:List (Int × Int)) (x5 x6:Option D):Zau:=[some (Zu roll),some (Zc s),some (.int (p:Int)),some (Zo bs),some (Zv cs),x5,x6]
theorem Zm0 (roll:ZbH) (hok:∀ x ∈ roll,x.ok roll.length) (s:Stt) (M:Store) (hs:s.ok roll) (hr:Ze0 s.cells) (hl:s.cells.length ≤ 60):Zao [Zu roll,Zc s] M = .ok (Zfn (Za1 roll s)) M:=by
 obtain ⟨hp,hb⟩:=hs
 obtain ⟨p,bs,cs⟩:=s
 dsimp only at hp hb hr hl
 have gr:roll[p]? = some roll[p]:=by simp [hp]
 have ro:=hok _ (List.getElem_mem hp)
 have eS:Za1 roll ⟨p,bs,cs⟩ = Ze5 ⟨p,bs,cs⟩ roll[p]:=by simp [Za1,gr]
 rw [eS]
 generalize roll[p] = r at gr ro
 suffices h:∃ G,ZbM [some (Zu roll),some (Zc ⟨p,bs,cs⟩),none,none,none,none,none] M = .rt (Zfn (Ze5 ⟨p,bs,cs⟩ r)) (M ++ G) by
  obtain ⟨G,h⟩:=h
  exact Rt.pure h (Zg4 _ _)
 have s1:ZgJ (Zb 1) (Zev [2,3,4]) [some (Zu roll),some (Zc ⟨p,bs,cs⟩),none,none,none,none,none] M = .nx (ZfD roll ⟨p,bs,cs⟩ p bs cs none none) M:=rfl
 have s2:(e2 Zi (Zb 0) (Zb 2)) (ZfD roll ⟨p,bs,cs⟩ p bs cs none none) M = .ok (Zw r) M:=Zt rfl rfl (ZeZ (by rw [ZbT,List.getElem?_map,gr]; rfl))
 have nmT:∀ {w:List Nat} {cs':List (Int × Int)} {x6:Option D} {M:Store},rnm r = w → (e2 ZaS (e2 Zi (Zb 5) (eC (.int 0))) (eC (.str w))) (ZfD roll ⟨p,bs,cs⟩ p bs cs' (some (Zw r)) x6) M = .ok (.bl true) M:=fun {w cs' x6 M} h=>by
  subst h; exact Zt (Zt rfl rfl (Zlh r M)) rfl Zrq
 have nmF:∀ {w:List Nat} {cs':List (Int × Int)} {x6:Option D} {M:Store},¬ rnm r = w → (e2 ZaS (e2 Zi (Zb 5) (eC (.int 0))) (eC (.str w))) (ZfD roll ⟨p,bs,cs⟩ p bs cs' (some (Zw r)) x6) M = .ok (.bl false) M:=fun {w cs' x6 M} h=>Zt (Zt rfl rfl (Zlh r M)) rfl (ZrA h)
 have fin:∀ (cs':List (Int × Int)) (held:Int) (M':Store),(Zx (ZgJ (Zae Za7 (Za (Zb 5) (Za (Zb 2) (Za (Zb 3) (Za (Zb 6) (Zh)))))) (Zev [2,3])) (Zaw (ZaY (Za (Zb 2) (Za (Zb 3) (Za (Zb 4) (Zh))))))) (ZfD roll ⟨p,bs,cs⟩ p bs cs' (some (Zw r)) (some (.int held))) M' = .rt (Zc ⟨r.place bs p,Zbc r bs held,cs'⟩) M':=fun cs' held M'=>by
  have be:=ZlA r p bs held roll.length ro hb M'
  have b1:ZgJ (Zae Za7 (Za (Zb 5) (Za (Zb 2) (Za (Zb 3) (Za (Zb 6) (Zh)))))) (Zev [2,3]) (ZfD roll ⟨p,bs,cs⟩ p bs cs' (some (Zw r)) (some (.int held))) M' = .nx (ZfD roll ⟨p,bs,cs⟩ (r.place bs p) (Zbc r bs held) cs' (some (Zw r)) (some (.int held))) M':=by
   have:Zae Za7 (Za (Zb 5) (Za (Zb 2) (Za (Zb 3) (Za (Zb 6) (Zh))))) (ZfD roll ⟨p,bs,cs⟩ p bs cs' (some (Zw r)) (some (.int held))) M' = .ok (.tup [.int (r.place bs p:Nat),Zo (Zbc r bs held)]) M':=ZpH rfl rfl rfl rfl be
   unfold ZgJ
   rw [this]
   rfl
  exact (Zf b1).trans (ZaC (Za6 (Zaj rfl (Zaj rfl (Zaj rfl rfl))) rfl))
 have st0:∀ (g:S3),Zx (ZgJ (Zb 1) (Zev [2,3,4])) (Zx (Zaf 5 (e2 Zi (Zb 0) (Zb 2))) g) [some (Zu roll),some (Zc ⟨p,bs,cs⟩),none,none,none,none,none] M = g (ZfD roll ⟨p,bs,cs⟩ p bs cs (some (Zw r)) none) M:=fun g=>(Zf s1).trans (Zf (Zr s2))
 unfold ZbM
 rw [st0]
 have x6:∀ (g:S3),Zx (Zaf 6 (eC (.int 0))) g (ZfD roll ⟨p,bs,cs⟩ p bs cs (some (Zw r)) none) M = g (ZfD roll ⟨p,bs,cs⟩ p bs cs (some (Zw r)) (some (.int 0))) M:=fun g=>Zf (Zr rfl)
 rcases ZlK r with rfl | ⟨a,b,rfl⟩ | ⟨a,b,rfl⟩ | ⟨nh,n1,n2,n3,hbx,hcx⟩
 ·exact ⟨[],by rw [List.append_nil]; exact Zdz ((ZaR (nmT rfl)).trans rfl)⟩
 ·obtain ⟨y,hy,gy⟩:=Zbo hb ro.2
  have hz:(Zc3 cs).length ≤ 100000:=by simp [Zc3]; exact lA 1 0x186a05b003c2b001 T1 hl
  have b1:ZaN Zc7 (Za (Zb 4) (Zh)) (ZfD roll ⟨p,bs,cs⟩ p bs cs (some (Zw (.get a b))) (some (.int 0))) M = .ok (.ref M.length) (M ++ [.dct (dictOf (Zc3 cs))]):=by
   refine ZcX (a:=Zv cs) (M1:=M) rfl ?_
   simp only [Zv,Zc7,Zfx]
   rw [if_pos hz]; rfl
  have k1:∀ M,(e2 Zi (Zb 3) (e2 Zi (Zb 5) (eC (.int 2)))) (ZfD roll ⟨p,bs,cs⟩ p bs cs (some (Zw (.get a b))) (some (.int 0))) M = .ok (.int y) M:=fun M=>Zt (b:=.int (b:Int)) rfl (Zt rfl rfl rfl) (ZeZ gy)
  have gt:(Zbl Zgs ZgL (ZaN Zc7 (Za (Zb 4) (Zh))) (Za (e2 Zi (Zb 3) (e2 Zi (Zb 5) (eC (.int 2)))) (Za (eC (.int 0)) (Zh)))) (ZfD roll ⟨p,bs,cs⟩ p bs cs (some (Zw (.get a b))) (some (.int 0))) M = .ok (.int (Zdo cs y)) (M ++ [.dct (dictOf (Zc3 cs))]):=by
   have k2:=k1 (M ++ [.dct (dictOf (Zc3 cs))])
   generalize (e2 Zi (Zb 3) (e2 Zi (Zb 5) (eC (.int 2)))) = E at k2
   simp only [Zbl,b1,R3.bind,Zgs,Za,k2,eC,Zh]
   simp only [ZaB,ZdI,Option.isSome_some,if_true,ZgL,ZfS]
   rw [ZfR hr.keys]
  refine ⟨[.dct (dictOf (Zc3 cs))],(Zf (Zj (nmF (of_decide_eq_true rfl)))).trans ((x6 _).trans ((Zf ((ZaR (nmT rfl)).trans (Zr gt))).trans ((Zf (Zj (nmF (of_decide_eq_true rfl)))).trans ((fin cs (Zdo cs y) _).trans ?_))))⟩
  rw [← hy]; rfl
 ·obtain ⟨y1,hy1,gy1⟩:=Zbo hb ro.1
  obtain ⟨y2,hy2,gy2⟩:=Zbo hb ro.2
  have cw:=ZoY cs hr y1 y2 M hl
  refine ⟨[],?_⟩
  rw [List.append_nil]
  refine (Zf (Zj (nmF (of_decide_eq_true rfl)))).trans ((x6 _).trans ((Zf (Zj (nmF (of_decide_eq_true rfl)))).trans ((Zf ((ZaR (nmT rfl)).trans (Zr (d:=Zv (ZaW cs y1 y2)) (ZcB rfl (Zt (b:=.int (a:Int)) rfl (Zt rfl rfl rfl) (ZeZ gy1)) (Zt (b:=.int (b:Int)) rfl (Zt rfl rfl rfl) (ZeZ gy2)) cw)))).trans ((fin _ 0 _).trans ?_))))
  rw [← hy1,← hy2]; rfl
 ·refine ⟨[],?_⟩
  rw [List.append_nil]
  refine (Zf (Zj (nmF n1))).trans ((x6 _).trans ((Zf (Zj (nmF n2))).trans ((Zf (Zj (nmF n3))).trans ((fin cs 0 _).trans ?_))))
  simp only [Ze5,nh,hbx bs 0 cs,hcx]; rfl
theorem ZlI (roll:ZbH) (R:Zc6 roll) (d:D) (most:Nat) (M:Store) (hm:most ≤ 60):∀ (k:Nat) (pre:List Stt) (s:Stt) (fuel:Nat),pre.length + k = most → k < fuel → Good roll s → s.cells.length ≤ pre.length →
  ZbQ (Zdt (e2 ZiP (ZaN Zbb (Za (Zb 3) (Zh))) (Zb 2)) (e2 Zdd (Zae Zao (Za (Zb 0) (Za (e2 Zi (Zb 3) (e1 Zba (eC (.int 1)))) (Zh)))) (eC .non))) (ZaH (Zbl tyL ZaD (Zb 3) (Za (Zae Zao (Za (Zb 0) (Za (e2 Zi (Zb 3) (e1 Zba (eC (.int 1)))) (Zh)))) (Zh)))) fuel
   [some (Zu roll),some d,some (.int (most:Int)),some (.ref M.length)] (M ++ [.lst ((pre ++ [s]).map Zc)]) = .nx [some (Zu roll),some d,some (.int (most:Int)),some (.ref M.length)] (M ++ [.lst ((pre ++ ZcZ roll k s).map Zc)]):=by
 intro k
 induction k with
 | zero=>
  intro pre s fuel hk hf g hc
  cases fuel with
  | zero=>exact (lN [] 1 454161 rfl hf).elim
  | succ fuel=>
   have c1:(Zdt (e2 ZiP (ZaN Zbb (Za (Zb 3) (Zh))) (Zb 2)) (e2 Zdd (Zae Zao (Za (Zb 0) (Za (e2 Zi (Zb 3) (e1 Zba (eC (.int 1)))) (Zh)))) (eC .non))) [some (Zu roll),some d,some (.int (most:Int)),some (.ref M.length)] (M ++ [.lst ((pre ++ [s]).map Zc)]) = .ok (.bl false) (M ++ [.lst ((pre ++ [s]).map Zc)]):=by
    refine Zkt ?_
    have:¬ ((pre.length:Int) + 1 ≤ (most:Int)):=(fun z=>iN [_,_] [] 2 0x61e0c3118a08c81 T1 z hk)
    simp [this]
   unfold ZbQ
   rw [c1]; rfl
 | succ k ih=>
  intro pre s fuel hk hf g hc
  cases fuel with
  | zero=>exact (lA 1 116001809 T1 hf).elim
  | succ fuel=>
   have last:(e2 Zi (Zb 3) (e1 Zba (eC (.int 1)))) [some (Zu roll),some d,some (.int (most:Int)),some (.ref M.length)] (M ++ [.lst ((pre ++ [s]).map Zc)]) = .ok (Zc s) (M ++ [.lst ((pre ++ [s]).map Zc)]):=by
    have:=L3.getD_last (pre.map Zc) (Zc s)
    simp [this]
   have nx:=Zm0 roll R.rows s (M ++ [.lst ((pre ++ [s]).map Zc)]) ⟨g.pl,g.bx⟩ g.rs (lD 3 0x3c2b003c2b3013a2c1c211001 T1 hc hk hm)
   have c1:(Zdt (e2 ZiP (ZaN Zbb (Za (Zb 3) (Zh))) (Zb 2)) (e2 Zdd (Zae Zao (Za (Zb 0) (Za (e2 Zi (Zb 3) (e1 Zba (eC (.int 1)))) (Zh)))) (eC .non))) [some (Zu roll),some d,some (.int (most:Int)),some (.ref M.length)] (M ++ [.lst ((pre ++ [s]).map Zc)]) = .ok (.bl (Za1 roll s).isSome) (M ++ [.lst ((pre ++ [s]).map Zc)]):=by
    rw [ZgT (M1:=M ++ [.lst ((pre ++ [s]).map Zc)]) (by
     have:(pre.length:Int) + 1 ≤ (most:Int):=iN [_,_,_] [] 1 0x28a08c82a1c0c21 T1 hk
     simp [this])]
    exact Zt (ZdS rfl last nx) rfl (by cases Za1 roll s <;> rfl)
   unfold ZbQ
   rw [c1]
   cases q:Za1 roll s with
   | none=>
    simp only [Option.isSome_none]
    rw [Zdk k q]
   | some s'=>
    simp only [Option.isSome_some]
    rw [q] at nx
    have bd:=ZcC (ZeW (o:=Zb 3) (arg:=Zae Zao (Za (Zb 0) (Za (e2 Zi (Zb 3) (e1 Zba (eC (.int 1)))) (Zh)))) (env:=[some (Zu roll),some d,some (.int (most:Int)),some (.ref M.length)]) (M:=M ++ [.lst ((pre ++ [s]).map Zc)]) (M2:=M ++ [.lst ((pre ++ [s]).map Zc)]) (n:=M.length) (xs:=(pre ++ [s]).map Zc) (ys:=(pre ++ [s]).map Zc) (d:=Zc s') rfl (ZaB _ _ _) (ZdS rfl last nx) (ZaB _ _ _) (by simp; exact lC 2 0xf42405ba0c13c2b2012a1c0c21 T1 hk hm))
    rw [bd]
    obtain ⟨g',lc⟩:=ZeN R g q
    have:=ih (pre ++ [s]) s' fuel (by simp; exact Nat.le_antisymm (lC 1 0x21a0cc02a1c0c21 T1 hk) (lC 1 0x1a0cc202a1c0c31 T1 hk)) (lB 1 1106520968209 T1 hf) g' (by simp; exact lC 2 0xa2c002101a1c001 T1 lc hc)
    have e1:(M ++ [MO.lst ((pre ++ [s]).map Zc)]).set M.length (.lst ((pre ++ [s]).map Zc ++ [Zc s'])) = M ++ [.lst ((pre ++ [s] ++ [s']).map Zc)]:=by simp
    rw [e1]
    refine this.trans ?_
    rw [ZcL k q]
    simp
theorem ZnR (roll:ZbH) (R:Zc6 roll) (bs:List Int) (most:Nat) (M:Store) (hm:most ≤ 60) (hb:bs.length = 8):Zea [Zu roll,Zo bs,.int (most:Int)] M = .ok (.ref M.length) (M ++ [.lst ((ZcZ roll most ⟨0,bs,[]⟩).map Zc)]):=by
 have pos:0 < roll.length:=by obtain ⟨q,x,e,_⟩:=R.last; rw [e]; simp
 have lp:=ZlI roll R (Zo bs) most M hm most [] ⟨0,bs,[]⟩ 1000000 (by simp) (lA 1 0xf42405b013c2b001 T1 hm) ⟨pos,hb,by simp [Ze0]⟩ (by simp)
 have s1:(Zbz (Za (ZaY (Za (eC (.int 0)) (Za (Zb 1) (Za (ZaY (Zh)) (Zh))))) (Zh))) [some (Zu roll),some (Zo bs),some (.int (most:Int)),none] M = .ok (.ref M.length) (M ++ [.lst (([] ++ [(⟨0,bs,[]⟩:Stt)]).map Zc)]):=
  Zbx (Zaj (Za6 (Zaj rfl (Zaj rfl (Zaj (Za6 rfl rfl) rfl))) rfl) rfl) rfl
 refine (Zck (env:=[some (Zu roll),some (Zo bs),some (.int (most:Int)),none]) ((Zf (Zr s1)).trans ((Zf lp).trans (ZaC rfl)))).trans ?_
 simp [ZcU,below]
theorem Zgy (eq:Nat → Bool):∀ (f low high:Nat),high - low ≤ f → low < high → eq low = true → eq high = false → eq (hv eq f low high).2 = true ∧ eq ((hv eq f low high).2 + 1) = false ∧ low ≤ (hv eq f low high).2 ∧ (hv eq f low high).2 + 1 ≤ high
 | 0,low,high,h1,h2,_,_=>by omega
 | f + 1,low,high,h1,h2,hl,hh=>by
  unfold hv
  by_cases q:high = low + 1
  ·subst q; rw [if_pos rfl]; exact ⟨hl,hh,Nat.le_refl _,Nat.le_refl _⟩
  ·rw [if_neg q]
   have lm:low < (low + high) / 2:=Nat.lt_of_not_le fun z=>lC 3 0x6a0c02d21c112a1c111002 T1 z (Nat.lt_of_le_of_ne (lB 1 6991908881 T1 h2) (Ne.symm q)) (Nat.lt_mul_div_succ _ (by decide))
   have mh:(low + high) / 2 < high:=lC 2 0x21120c102d011011 T1 lm (Nat.mul_div_le _ _)
   cases c:eq ((low + high) / 2) with
   | true=>
    have:=Zgy eq f ((low + high) / 2) high (lF 4 0x34002c501514c21a3c2011011 T1 lm h1 (Nat.sub_add_cancel (Nat.le_of_lt mh)) (sbA _ _)) mh c hh
    rw [if_pos rfl]
    exact ⟨this.1,this.2.1,by have:=this.2.2.1; omega,this.2.2.2⟩
   | false=>
    have:=Zgy eq f low ((low + high) / 2) (lF 4 0x34052c101054c21a3c2011011 T1 mh h1 (Nat.sub_add_cancel (Nat.le_of_lt lm)) (sbA _ _)) lm hl c
    rw [if_neg (by decide)]
    exact ⟨this.1,this.2.1,this.2.2.1,by have:=this.2.2.2; omega⟩
noncomputable def Zew:Nat → Nat → Nat
 | 0,_=>0
 | f + 1,n=>if n = 0 then 0 else Zew f (n / 2) + 1
theorem Zh4 (M:Store):∀ (f n m fuel:Nat),n ≤ f → f < fuel →
  ZbQ (e2 Zey (Zb 0) (eC (.int 0))) (Zx (Zaf 0 (e2 Zag (Zb 0) (eC (.int 2)))) (Zaf 1 (e2 Zak (Zb 1) (eC (.int 1))))) fuel [some (.int (n:Int)),some (.int (m:Int))] M = .nx [some (.int 0),some (.int ((m + Zew f n:Nat):Int))] M
 | f,n,m,0,_,h=>absurd h (Nat.not_lt_zero _)
 | 0,n,m,fuel + 1,h,_=>by
  have e:n = 0:=Nat.le_zero.1 h
  subst e
  exact whF (by simp)
 | f + 1,n,m,fuel + 1,h,hf=>by
  by_cases e:n = 0
  ·subst e
   rw [show Zew (f + 1) 0 = 0 from rfl]
   exact whF (by simp)
  ·have p:(n:Int) > 0:=Int.ofNat_lt.2 (Nat.pos_of_ne_zero e)
   have bd:(Zx (Zaf 0 (e2 Zag (Zb 0) (eC (.int 2)))) (Zaf 1 (e2 Zak (Zb 1) (eC (.int 1))))) [some (.int (n:Int)),some (.int (m:Int))] M = .nx [some (.int ((n / 2:Nat):Int)),some (.int ((m + 1:Nat):Int))] M:=
    (Zf (Zr (d:=.int ((n / 2:Nat):Int)) (Zt rfl rfl (ZbN (by decide))))).trans (Zr (d:=.int ((m + 1:Nat):Int)) rfl)
   refine (whT (M1:=M) (by simp [Nat.pos_of_ne_zero e]) bd).trans ((Zh4 M f (n / 2) (m + 1) fuel (Nat.le_of_not_lt fun z=>lC 3 0x62102d01a0c2011012 T1 z h (Nat.mul_div_le _ _)) (lB 1 1106520968209 T1 hf)).trans ?_)
   rw [show Zew (f + 1) n = Zew f (n / 2) + 1 from if_neg e,Nat.add_assoc,Nat.add_comm 1]
theorem Zj6 (n:Nat) (hn:n < 1000) (M:Store):Zbu [.int (n:Int)] M = .ok (.int ((Zew n n:Nat):Int)) M:=by
 have lp:=Zh4 M n n 0 1000000 (Nat.le_refl _) (lA 1 0xf42405b013e83b011 T1 hn)
 rw [Nat.zero_add] at lp
 refine (Zck (env:=[some (.int (n:Int)),none]) ((Zf (Zr (d:=.int 0) rfl)).trans ((Zf lp).trans (ZaC rfl)))).trans ?_
 simp [ZcU,below]
theorem ZeY:∀ (g a b:Nat),a ≤ b → Zew g a ≤ Zew g b
 | 0,_,_,_=>Nat.le_refl _
 | g + 1,a,b,h=>by
  show (if a = 0 then 0 else Zew g (a / 2) + 1) ≤ (if b = 0 then 0 else Zew g (b / 2) + 1)
  by_cases e:a = 0
  ·rw [if_pos e]; exact Nat.zero_le _
  ·rw [if_neg e,if_neg (by exact fun z=>lA 1 450577 T1 (Nat.lt_of_le_of_ne (lB 2 0xe100101e021 T1 z h) e))]; exact Nat.succ_le_succ (ZeY g _ _ (Nat.div_le_div_right h))
theorem Ziu (eq:Nat → Bool):∀ (f low high g:Nat),low < high → high - low ≤ f → high - low - 1 ≤ g → (hv eq f low high).1.length ≤ Zew g (high - low - 1)
 | 0,_,_,_,_,_,_=>Nat.zero_le _
 | f + 1,low,high,g,h1,h2,h3=>by
  unfold hv
  by_cases e:high = low + 1
  ·rw [if_pos e]; exact Nat.zero_le _
  ·rw [if_neg e]
   cases g with
   | zero=>exact Nat.le_of_not_lt fun z=>lB 2 7287503654929 T1 h1 (Nat.lt_of_le_of_ne (lD 3 0xa3c10a0c20132c101e001 T1 h3 (sbA _ _) (sbA _ _)) e)
   | succ g=>
    have q:Zew (g + 1) (high - low - 1) = Zew g ((high - low - 1) / 2) + 1:=if_neg (fun z=>lB 2 7287503654929 T1 h1 (Nat.lt_of_le_of_ne (lD 3 0xa3c10a0c20132c101e021 T1 z (sbA _ _) (sbA _ _)) e))
    rw [q]
    cases c:eq ((low + high) / 2) with
    | true=>
     rw [if_pos rfl]
     exact Nat.succ_le_succ (Nat.le_trans (Ziu eq f ((low + high) / 2) high g (Nat.lt_of_not_le fun z=>lC 3 0x602c102d0102111002 T1 z h1 (Nat.mul_div_le _ _)) (by omega) (by omega)) (ZeY g _ _ (by omega)))
    | false=>
     rw [if_neg (by decide)]
     exact Nat.succ_le_succ (Nat.le_trans (Ziu eq f low ((low + high) / 2) g (Nat.lt_of_not_le fun z=>lC 3 0x6a0c02d21c112a1c111002 T1 z (Nat.lt_of_le_of_ne (lB 1 6991908881 T1 h1) (Ne.symm e)) (Nat.lt_mul_div_succ _ (by decide))) (by omega) (by omega)) (ZeY g _ _ (by omega)))
theorem ZnD (M:Store) (d:D) (M1:Store) (hl:M.length ≤ M1.length):∃ M2,ZcU M d M1 = .ok d M2 ∧ (∀ j,j < M.length → M2[j]? = M1[j]?) ∧ M.length ≤ M2.length:=by
 unfold ZcU
 split
 ·exact ⟨_,rfl,fun j hj=>List.getElem?_take_of_lt hj,by rw [List.length_take]; omega⟩
 ·exact ⟨_,rfl,fun _ _=>rfl,hl⟩
theorem Zeg.keep {cs:List Int} {c d at_:Nat} {M M':Store} (K:Zeg cs c d at_ M) (h:∀ j,j < M.length → M'[j]? = M[j]?):Zeg cs c d at_ M':=
 ⟨by rw [h d (List.getElem?_eq_some_iff.mp K.hd).1]; exact K.hd,by rw [h c (List.getElem?_eq_some_iff.mp K.hc).1]; exact K.hc,K.ne⟩
theorem ZsH {op:D → D → D → Store → R3 D} {f g h:E3} {env:Zau} {M M1 M2 M3 M4:Store} {a b c d:D} (h1:f env M = .ok a M1) (h2:g env M1 = .ok b M2) (h3:h env M2 = .ok c M3) (h4:op a b c M3 = .ok d M4):e3 op f g h env M = .ok d M4:=by simp only [e3,h1,h2,h3,h4,R3.bind]
structure Drawn (roll:ZbH) (k:Nat) (s:Stt):Prop where
 ok:s.ok roll
 rise:Ze0 s.cells
 len:s.cells.length ≤ k
noncomputable def nsX (v:Int):List D:=[.int (v / 4 % 5),.int (0 - v / 4 % 5),.int (v / 4 % 1000000000000000000000000000000),.int (0 - v / 4 % 1000000000000000000000000000000)]
theorem Zoa (v:Int):∃ w:Int,ZaU (nsX v) (v % 4) = some (.int w):=by
 obtain ⟨i,e,l⟩:=ZcS v 4 (by decide)
 rw [show v % 4 = (i:Int) from e,ZbT]
 rcases (by decide:∀ i:Nat,i < 4 → i = 0 ∨ i = 1 ∨ i = 2 ∨ i = 3) i l with h | h | h | h <;> subst h <;> exact ⟨_,rfl⟩
theorem ZsF {env:Zau} {M:Store}:e2 ZcY (eC (.int 10)) (eC (.int 30)) env M = .ok (.int 1000000000000000000000000000000) M:=by simp
theorem ZrI {x:Int} {M:Store}:ZbU (.int 0) (.int x) M = .ok (.int (0 - x)) M:=rfl
theorem Zqm {env:Zau} {v:Int} (h:env[3]? = some (some (.int v))) (M:Store):(Zbz (Za (e2 Zan (e2 Zag (Zb 3) (eC (.int 4))) (eC (.int 5))) (Za (e2 ZbU (eC (.int 0)) (e2 Zan (e2 Zag (Zb 3) (eC (.int 4))) (eC (.int 5)))) (Za (e2 Zan (e2 Zag (Zb 3) (eC (.int 4))) (e2 ZcY (eC (.int 10)) (eC (.int 30)))) (Za (e2 ZbU (eC (.int 0)) (e2 Zan (e2 Zag (Zb 3) (eC (.int 4))) (e2 ZcY (eC (.int 10)) (eC (.int 30))))) (Zh)))))) env M = .ok (.ref M.length) (M ++ [.lst (nsX v)]):=by
 have v3:Zb 3 env M = .ok (.int v) M:=by simp only [Zb,h]
 have a:(e2 Zan (e2 Zag (Zb 3) (eC (.int 4))) (eC (.int 5))) env M = .ok (.int (v / 4 % 5)) M:=Zt (Zt v3 rfl (ZbN (by decide))) rfl (ZbP (by decide))
 have b:(e2 Zan (e2 Zag (Zb 3) (eC (.int 4))) (e2 ZcY (eC (.int 10)) (eC (.int 30)))) env M = .ok (.int (v / 4 % 1000000000000000000000000000000)) M:=Zt (Zt v3 rfl (ZbN (by decide))) ZsF (ZbP (by decide))
 exact Zbx (Zaj a (Zaj (Zt rfl a ZrI) (Zaj b (Zaj (Zt rfl b ZrI) rfl)))) rfl
theorem Zlw {cs:List Int} {c d at_:Nat} {M:Store} (K:Zeg cs c d at_ M) (ha:at_ + 8 < 1000000):
  ∃ (bs:List Int) (M':Store),bs.length = 8 ∧ Zde [.ref d] M = .ok (Zo bs) M' ∧ Zeg cs c d (at_ + 8) M' ∧ M.length ≤ M'.length ∧ ∀ j,j < M.length → j ≠ d → M'[j]? = M[j]?:=by
 have hdl:=(List.getElem?_eq_some_iff.mp K.hd).1
 have hcl:=(List.getElem?_eq_some_iff.mp K.hc).1
 obtain ⟨e',M',hl,bs,x,y,lb,rfl,g,K',lm,o⟩:=ZjN (it:=⟨Zen 0 8,none⟩) (g:=ZdT 2)
  (body:=(Zx (Zaf 3 (Zae ZaP (Za (Zb 0) (Zh)))) (ZaH (Zbl tyL ZaD (Zb 1) (Za (e2 Zi (Zbz (Za (e2 Zan (e2 Zag (Zb 3) (eC (.int 4))) (eC (.int 5))) (Za (e2 ZbU (eC (.int 0)) (e2 Zan (e2 Zag (Zb 3) (eC (.int 4))) (eC (.int 5)))) (Za (e2 Zan (e2 Zag (Zb 3) (eC (.int 4))) (e2 ZcY (eC (.int 10)) (eC (.int 30)))) (Za (e2 ZbU (eC (.int 0)) (e2 Zan (e2 Zag (Zb 3) (eC (.int 4))) (e2 ZcY (eC (.int 10)) (eC (.int 30))))) (Zh)))))) (e2 Zan (Zb 3) (eC (.int 4)))) (Zh))))))
  (P:=fun j env M'=>∃ (bs:List Int) (x y:Option D),bs.length = j ∧ env = [some (.ref d),some (.ref M.length),x,y] ∧ M'[M.length]? = some (.lst (bs.map D.int)) ∧ Zeg cs c d (at_ + j) M' ∧ M.length < M'.length ∧ ∀ i,i < M.length → i ≠ d → M'[i]? = M[i]?)
  (Zen 0 8) 0 [some (.ref d),some (.ref M.length),none,none] (M ++ [.lst []]) ⟨[],none,none,rfl,rfl,ZaB _ _ _,K.keep fun j hj=>List.getElem?_append_left hj,by simp,fun i hi _=>List.getElem?_append_left hi⟩ (fun _ _ _ _=>rfl)
  (fun k e hd env M1 z=>by
   obtain ⟨bs,x,y,lb,he,g,K1,lm,o⟩:=z
   obtain ⟨rfl,lk⟩:=Znw hd
   subst he
   obtain ⟨v,M2,en,K2,l2,o2⟩:=K1.next (lB 2 0xf42405b0ec1c1f42405b81b1c1181b011 T1 lk ha)
   obtain ⟨w,hw⟩:=Zoa v
   have hne:M.length ≠ d:=(fun z=>lB 2 25787699233 T1 z hdl)
   have g2:M2[M.length]? = some (.lst (bs.map D.int)):=(o2 _ hne).trans g
   have g3:(M2 ++ [MO.lst (nsX v)])[M.length]? = some (.lst (bs.map D.int)):=ZaI g2 _
   have lz:(bs.map D.int).length < SZ:=by rw [List.length_map,lb]; exact Nat.lt_of_lt_of_le (by exact lA 1 0x81b0ec181b011 T1 lk:0 + k < 8) (by decide)
   refine ⟨_,_,(M2 ++ [MO.lst (nsX v)]).set M.length (MO.lst (bs.map D.int ++ [D.int w])),rfl,(Zf (Zr (Zc5 rfl en))).trans (Zc4 rfl g2 (Zt (Zqm rfl M2) (Zt rfl rfl (ZbP (by decide))) (Zcg (ZaB _ _ _) hw)) g3 lz),bs ++ [w],_,_,by simp [lb],rfl,?_,?_,?_,fun i hi hi'=>?_⟩
   ·rw [List.getElem?_set_self (by simp; exact lC 2 0xa0c2112111031 T1 l2 lm),List.map_append]; rfl
   ·have s:∀ j,j < M2.length → j ≠ M.length → ((M2 ++ [MO.lst (nsX v)]).set M.length (.lst (bs.map D.int ++ [.int w])))[j]? = M2[j]?:=fun j hj hj'=>by
     rw [List.getElem?_set_ne (Ne.symm hj')]; exact List.getElem?_append_left hj
    exact ⟨by rw [s d (lD 3 0x31231112111031 T1 l2 lm hdl) (fun z=>lB 2 26039357489 T1 z hdl)]; exact K2.hd,by rw [s c (lD 3 0x31231112111031 T1 l2 lm hcl) (fun z=>lB 2 26039357489 T1 z hcl)]; exact K2.hc,K2.ne⟩
   ·simp; exact lC 2 0xa0c2112111031 T1 l2 lm
   ·rw [List.getElem?_set_ne (by exact fun z=>lB 2 25787699233 T1 z hi),List.getElem?_append_left (by exact lD 3 0x201311132311011 T1 hi l2 lm),o2 i hi']; exact o i hi hi')
 rw [ZkH] at lb K'
 obtain ⟨M3,et,q,ql⟩:=ZnD M (Zo bs) M' (Nat.le_of_lt lm)
 refine ⟨bs,M3,lb,?_,?_,ql,fun j hj hj'=>(q j hj).trans (o j hj hj')⟩
 ·refine (Zck (env:=[some (.ref d),none,none,none]) ((Zf (Zr (d:=.ref M.length) (M':=M ++ [.lst []]) (Zbx rfl rfl))).trans ((Zf ((ZgC (it:=⟨Zen 0 8,none⟩) (M':=M ++ [.lst []]) (by simp)).trans hl)).trans (ZaC (d:=Zo bs) (M':=M') (ZcX rfl ?_))))).trans et
  simp [g,Zo,lb]
 ·exact ⟨(q d hdl).trans K'.hd,(q c hcl).trans K'.hc,K'.ne⟩
theorem ZhH {cs:List (Int × Int)} (h:Ze0 cs) {n v:Int} (hv:v ≠ Zdo cs n):ZaW cs n v ≠ cs:=fun e=>by
 by_cases hz:v = 0
 ·apply hv
  rw [hz,Zh5]
  simp only [List.any_eq_true,decide_eq_true_eq,not_exists,not_and]
  intro q hq hn
  rw [← e] at hq
  rcases Zgg.mp hq with ⟨_,h0⟩ | ⟨h1,_⟩
  ·exact h0 hz
  ·exact h1 hn
 ·have:(n,v) ∈ cs:=by rw [← e]; exact Zgg.mpr (.inl ⟨rfl,hz⟩)
  exact hv (ZnH h.keys this).symm
theorem ZjJ {roll:ZbH} {k:Nat} {s:Stt} (hd:Drawn roll k s) (hk:k ≤ 60) (cell:Int) (M:Store):
  ∃ s':Stt,Zbn [Zc s,.int cell] M = .ok (Zc s') M ∧ Drawn roll (k + 1) s' ∧ s' ≠ s:=by
 obtain ⟨⟨hp,hb⟩,hr,hl⟩:=hd
 obtain ⟨p,bs,cs⟩:=s
 dsimp only at hp hb hr hl
 suffices h:∃ s':Stt,(∃ G,Zem [some (Zc ⟨p,bs,cs⟩),some (.int cell),none,none,none,none,none,none] M = .rt (Zc s') (M ++ G)) ∧ Drawn roll (k + 1) s' ∧ s' ≠ ⟨p,bs,cs⟩ by
  obtain ⟨s',⟨G,h⟩,h2,h3⟩:=h
  exact ⟨s',Rt.pure h (ZeM _ _),h2,h3⟩
 have s1:ZgJ (Zb 0) (Zev [2,3,4]) [some (Zc ⟨p,bs,cs⟩),some (.int cell),none,none,none,none,none,none] M = .nx [some (Zc ⟨p,bs,cs⟩),some (.int cell),some (.int (p:Int)),some (Zo bs),some (Zv cs),none,none,none] M:=rfl
 have m4:(e2 Zan (Zb 1) (eC (.int 4))) [some (Zc ⟨p,bs,cs⟩),some (.int cell),some (.int (p:Int)),some (Zo bs),some (Zv cs),none,none,none] M = .ok (.int (cell % 4)) M:=Zt rfl rfl (ZbP (by decide))
 have d4:∀ M:Store,(e2 Zag (Zb 1) (eC (.int 4))) [some (Zc ⟨p,bs,cs⟩),some (.int cell),some (.int (p:Int)),some (Zo bs),some (Zv cs),none,none,none] M = .ok (.int (cell / 4)) M:=fun M=>Zt rfl rfl (ZbN (by decide))
 by_cases c0:cell % 4 = 0
 ·generalize hn:cell / 4 % 5 = nu at d4
  have w0:Zdo cs nu + 1 + cell / 20 % 9 ≠ Zdo cs nu:=(fun z=>by have:=Int.emod_nonneg (cell / 20) (b:=9) (by decide); exact iN [] [_,_] 2 0x610a1cca10e81 T1 this z)
  refine ⟨⟨p,bs,ZaW cs nu (Zdo cs nu + 1 + cell / 20 % 9)⟩,⟨[.dct (dictOf (Zc3 cs))],?_⟩,⟨⟨hp,hb⟩,Zee hr,Nat.le_trans (Zhk hr _ _) (Nat.succ_le_succ hl)⟩,fun e=>ZhH hr w0 (Stt.mk.inj e).2.2⟩
  have hz:(Zc3 cs).length ≤ 100000:=by simp [Zc3]; exact lB 2 0x186a05b003c2b1011001 T1 hl hk
  have b1:ZaN Zc7 (Za (Zb 4) (Zh)) [some (Zc ⟨p,bs,cs⟩),some (.int cell),some (.int (p:Int)),some (Zo bs),some (Zv cs),some (.int nu),none,none] M = .ok (.ref M.length) (M ++ [.dct (dictOf (Zc3 cs))]):=by
   refine ZcX (a:=Zv cs) (M1:=M) rfl ?_
   simp only [Zv,Zc7,Zfx]
   rw [if_pos hz]; rfl
  have gt:(Zbl Zgs ZgL (ZaN Zc7 (Za (Zb 4) (Zh))) (Za (Zb 5) (Za (eC (.int 0)) (Zh)))) [some (Zc ⟨p,bs,cs⟩),some (.int cell),some (.int (p:Int)),some (Zo bs),some (Zv cs),some (.int nu),none,none] M = .ok (.int (Zdo cs nu)) (M ++ [.dct (dictOf (Zc3 cs))]):=by
   have v5:∀ M:Store,Zb 5 [some (Zc ⟨p,bs,cs⟩),some (.int cell),some (.int (p:Int)),some (Zo bs),some (Zv cs),some (.int nu),none,none] M = .ok (.int nu) M:=fun _=>rfl
   simp only [Zbl,b1,R3.bind,Zgs,Za,eC,Zh,v5]
   simp only [ZaB,ZdI,Option.isSome_some,if_true,ZgL,ZfS]
   rw [ZfR hr.keys]
  have cw:=ZoY cs hr nu (Zdo cs nu + 1 + cell / 20 % 9) (M ++ [.dct (dictOf (Zc3 cs))]) (Nat.le_trans hl hk)
  have m5:(e2 Zan (e2 Zag (Zb 1) (eC (.int 4))) (eC (.int 5))) [some (Zc ⟨p,bs,cs⟩),some (.int cell),some (.int (p:Int)),some (Zo bs),some (Zv cs),none,none,none] M = .ok (.int nu) M:=by rw [← hn]; exact Zt (Zt rfl rfl (ZbN (by decide))) rfl (ZbP (by decide))
  exact (Zf s1).trans (Zdz ((ZaR (Zt m4 rfl (Zrf c0))).trans ((Zf (Zr m5)).trans ((Zf (Zr gt)).trans (ZaC (Za6 (Zaj rfl (Zaj rfl (Zaj (ZcB rfl rfl (Zt (Zt rfl rfl rfl) (Zt (Zt rfl rfl (ZbN (by decide))) rfl (ZbP (by decide))) rfl) cw) rfl))) rfl))))))
 ·obtain ⟨x,hx,lx⟩:=ZcS (cell / 4) 8 (by decide)
  have hx':cell / 4 % 8 = (x:Int):=hx
  obtain ⟨y,hy,gy⟩:=Zbo hb lx
  refine ⟨⟨p,bs.set x (y + 1 + cell / 32 % 3),cs⟩,⟨[],?_⟩,⟨⟨hp,by simp [hb]⟩,hr,Nat.le_succ_of_le hl⟩,fun e=>?_⟩
  ·rw [List.append_nil]
   have m8:(e2 Zan (e2 Zag (Zb 1) (eC (.int 4))) (eC (.int 8))) [some (Zc ⟨p,bs,cs⟩),some (.int cell),some (.int (p:Int)),some (Zo bs),some (Zv cs),none,none,none] M = .ok (.int (x:Int)) M:=by
    rw [← hx']; exact Zt (d4 _) rfl (ZbP (by decide))
   have up:=ZeR (fb:=Zb 3) (fi:=Zb 7) (fv:=e2 Zak (e2 Zak (e2 Zi (Zb 3) (Zb 7)) (eC (.int 1))) (e2 Zan (e2 Zag (Zb 1) (eC (.int 32))) (eC (.int 3)))) (env:=[some (Zc ⟨p,bs,cs⟩),some (.int cell),some (.int (p:Int)),some (Zo bs),some (Zv cs),none,none,some (.int (x:Int))]) (M:=M) (bs:=bs) (a:=x) (v:=y + 1 + cell / 32 % 3) rfl rfl
    (Zt (Zt (Zt rfl rfl (ZeZ gy)) rfl rfl) (Zt (Zt rfl rfl (ZbN (by decide))) rfl (ZbP (by decide))) rfl) (by rw [hb]; exact lx) (by rw [hb]; decide)
   exact (Zf s1).trans ((Zf (Zj (Zt m4 rfl (Zr2 c0)))).trans ((Zf (Zr m8)).trans (ZaC (Za6 (Zaj rfl (Zaj up (Zaj rfl rfl))) rfl))))
  ·have e2:=(Stt.mk.inj e).2.1
   have:=congrArg (fun l:List Int=>l.getD x 0) e2
   simp only [List.getD_eq_getElem?_getD] at this
   rw [List.getElem?_set_self (by rw [hb]; exact lx),Option.getD_some,← List.getD_eq_getElem?_getD,hy] at this
   have:=Int.emod_nonneg (cell / 32) (b:=3) (by decide)
   omega
noncomputable def Zll:S3:=(Zx (Zaf 5 (Zae ZaP (Za (Zb 0) (Zh)))) (Zx (Zaf 6 (e2 Zi (Zb 2) (Zb 4))) (Zx (Zaf 7 (Zae Zao (Za (Zb 1) (Za (e2 Zi (Zb 3) (e1 Zba (eC (.int 1)))) (Zh))))) (Zx (sIf (Zdt (e2 Zfv (e2 Zan (Zb 5) (eC (.int 5))) (eC (.int 2))) (e2 Zdd (Zb 7) (eC .non))) (Zaf 6 (Zb 7)) (sIf (e2 ZaS (e2 Zan (Zb 5) (eC (.int 5))) (eC (.int 2))) (Zaf 6 (Zae Zbn (Za (e2 Zi (Zb 2) (Zb 4)) (Za (e2 Zag (Zb 5) (eC (.int 5))) (Zh))))) (Zas))) (ZaH (Zbl tyL ZaD (Zb 3) (Za (Zb 6) (Zh))))))))
theorem Zoo {a b:Int} {M:Store}:Zfv (.int a) (.int b) M = .ok (.bl (decide (a < b))) M:=rfl
theorem ZoC {d n m k:Nat} {roll:ZbH} {ss:List Stt} {M:Store} {t:Stt} (v:Int) (o:Option Stt) (gn:M[n]? = some (.lst (ss.map Zc))) (gt:ZaU (ss.map Zc) ((k + 1:Nat):Int) = some (Zc t)) (dk:Drawn roll (k + 1) t) (hk:k + 1 ≤ 60) (ho:∀ s,o = some s → Drawn roll (k + 2) s):
  ∃ x:Stt,Drawn roll (k + 2) x ∧ (sIf (Zdt (e2 Zfv (e2 Zan (Zb 5) (eC (.int 5))) (eC (.int 2))) (e2 Zdd (Zb 7) (eC .non))) (Zaf 6 (Zb 7)) (sIf (e2 ZaS (e2 Zan (Zb 5) (eC (.int 5))) (eC (.int 2))) (Zaf 6 (Zae Zbn (Za (e2 Zi (Zb 2) (Zb 4)) (Za (e2 Zag (Zb 5) (eC (.int 5))) (Zh))))) (Zas))) [some (.ref d),some (Zu roll),some (.ref n),some (.ref m),some (.int ((k + 1:Nat):Int)),some (.int v),some (Zc t),some (Zfn o)] M = .nx [some (.ref d),some (Zu roll),some (.ref n),some (.ref m),some (.int ((k + 1:Nat):Int)),some (.int v),some (Zc x),some (Zfn o)] M:=by
 have m5:(e2 Zan (Zb 5) (eC (.int 5))) [some (.ref d),some (Zu roll),some (.ref n),some (.ref m),some (.int ((k + 1:Nat):Int)),some (.int v),some (Zc t),some (Zfn o)] M = .ok (.int (v % 5)) M:=Zt rfl rfl (ZbP (by decide))
 have el:∃ x:Stt,Drawn roll (k + 2) x ∧ (sIf (e2 ZaS (e2 Zan (Zb 5) (eC (.int 5))) (eC (.int 2))) (Zaf 6 (Zae Zbn (Za (e2 Zi (Zb 2) (Zb 4)) (Za (e2 Zag (Zb 5) (eC (.int 5))) (Zh))))) (Zas)) [some (.ref d),some (Zu roll),some (.ref n),some (.ref m),some (.int ((k + 1:Nat):Int)),some (.int v),some (Zc t),some (Zfn o)] M = .nx [some (.ref d),some (Zu roll),some (.ref n),some (.ref m),some (.int ((k + 1:Nat):Int)),some (.int v),some (Zc x),some (Zfn o)] M:=by
  by_cases q:v % 5 = 2
  ·obtain ⟨x,ex,dx,_⟩:=ZjJ dk hk (v / 5) M
   exact ⟨x,dx,(ZaR (Zt m5 rfl (Zrf q))).trans (Zr (ZdS (Zt rfl rfl (Zcg gn gt)) (Zt rfl rfl (ZbN (by decide))) ex))⟩
  ·exact ⟨t,⟨dk.ok,dk.rise,Nat.le_succ_of_le dk.len⟩,Zj (Zt m5 rfl (Zr2 q))⟩
 obtain ⟨x,dx,ex⟩:=el
 by_cases z:v % 5 < 2
 ·cases o with
  | none=>
   refine ⟨x,dx,(Zb7 (M':=M) ?_).trans ex⟩
   rw [ZgT (M1:=M) (Zt m5 rfl (by rw [Zoo,decide_eq_true z]))]
   exact Zt rfl rfl (by simp [Zfn])
  | some s=>
   refine ⟨s,ho s rfl,(ZaR (M':=M) ?_).trans (Zr rfl)⟩
   rw [ZgT (M1:=M) (Zt m5 rfl (by rw [Zoo,decide_eq_true z]))]
   exact Zt rfl rfl (by simp [Zfn,Zc])
 ·refine ⟨x,dx,(Zb7 (M':=M) ?_).trans ex⟩
  rw [Zkt (M1:=M) (Zt m5 rfl (by rw [Zoo,decide_eq_false z]))]
theorem Zl3 {cs:List Int} {c d at_ n m k:Nat} {roll:ZbH} (R:Zc6 roll) {ss ls:List Stt} {M:Store} (K:Zeg cs c d at_ M) (ha:at_ < 1000000) (hn:M[n]? = some (.lst (ss.map Zc))) (hm:M[m]? = some (.lst (ls.map Zc))) (hnd:n ≠ d) (hmd:m ≠ d) (hmc:m ≠ c) (lk:ls.length = k + 1) (hk:k + 1 < ss.length) (hl:ss.length ≤ 61)
  (ds:∀ (i:Nat) s,ss[i]? = some s → Drawn roll i s) (dl:∀ (i:Nat) s,ls[i]? = some s → Drawn roll (i + 1) s) (x5 x6 x7:Option D):
  ∃ (x:Stt) (M':Store) (y5 y6 y7:Option D),Drawn roll (k + 2) x ∧ Zll [some (.ref d),some (Zu roll),some (.ref n),some (.ref m),some (.int ((k + 1:Nat):Int)),x5,x6,x7] M = .nx [some (.ref d),some (Zu roll),some (.ref n),some (.ref m),some (.int ((k + 1:Nat):Int)),y5,y6,y7] M' ∧ M'[m]? = some (.lst ((ls ++ [x]).map Zc)) ∧ Zeg cs c d (at_ + 1) M' ∧ M'.length = M.length ∧ ∀ j,j ≠ d → j ≠ m → M'[j]? = M[j]?:=by
 obtain ⟨v,M2,en,K2,l2,o2⟩:=K.next ha
 have gn:M2[n]? = some (.lst (ss.map Zc)):=(o2 n hnd).trans hn
 have gm:M2[m]? = some (.lst (ls.map Zc)):=(o2 m hmd).trans hm
 have gs:ss[k + 1]? = some ss[k + 1]:=List.getElem?_eq_getElem hk
 have dk:=ds _ _ gs
 generalize ss[k + 1] = t at gs dk
 have gt:ZaU (ss.map Zc) ((k + 1:Nat):Int) = some (Zc t):=by rw [ZbT,List.getElem?_map,gs]; rfl
 obtain ⟨pre,l,e⟩:∃ pre l,ls = pre ++ [l]:=by
  rcases List.eq_nil_or_concat ls with e | ⟨p,l,e⟩
  ·subst e; cases lk
  ·exact ⟨p,l,by rw [e,List.concat_eq_append]⟩
 have pk:pre.length = k:=by rw [e,List.length_append] at lk; exact Nat.succ.inj lk
 have dlast:Drawn roll (k + 1) l:=dl k l (by rw [e,← pk]; exact ZaB _ _ _)
 have last:∀ env:Zau,env[3]? = some (some (.ref m)) → (e2 Zi (Zb 3) (e1 Zba (eC (.int 1)))) env M2 = .ok (Zc l) M2:=fun env h=>
  Zt (by simp only [Zb,h]) rfl (Zcg gm (by rw [e,List.map_append]; exact L3.getD_last _ _))
 have nx:=Zm0 roll R.rows l M2 dlast.ok dlast.rise (Nat.le_trans dlast.len (lB 2 0x3c2ba1c00a1c113d2b001 T1 hl hk))
 obtain ⟨x,dx,ex⟩:=ZoC (d:=d) (m:=m) (roll:=roll) v (Za1 roll l) gn gt dk (lB 2 0x3c2ba1c00a1c113d2b001 T1 hl hk) fun s hs=>by
  obtain ⟨g,le⟩:=ZeN R ⟨dlast.ok.1,dlast.ok.2,dlast.rise⟩ hs
  exact ⟨⟨g.pl,g.bx⟩,g.rs,Nat.le_trans le (Nat.succ_le_succ dlast.len)⟩
 have lz:(ls.map Zc).length < SZ:=by rw [List.length_map,lk]; exact Nat.lt_of_lt_of_le hk (Nat.le_trans hl (by decide))
 have ml:=(List.getElem?_eq_some_iff.mp gm).1
 refine ⟨x,M2.set m (.lst (ls.map Zc ++ [Zc x])),_,_,_,dx,(Zf (Zr (Zc5 rfl en))).trans ((Zf (Zr (Zt rfl rfl (Zcg gn gt)))).trans ((Zf (Zr (ZdS rfl (last _ rfl) nx))).trans ((Zf ex).trans (Zc4 rfl gm rfl gm lz)))),?_,?_,?_,fun j hj hj'=>?_⟩
 ·rw [List.getElem?_set_self ml,List.map_append]; rfl
 ·exact ⟨by rw [List.getElem?_set_ne hmd]; exact K2.hd,by rw [List.getElem?_set_ne hmc]; exact K2.hc,K2.ne⟩
 ·rw [List.length_set]; exact l2
 ·rw [List.getElem?_set_ne (Ne.symm hj')]; exact o2 j hj
theorem Zo1 (s t:Stt) (M:Store):ZaS (Zc s) (Zc t) M = .ok (.bl (decide (s = t))) M:=by
 have h1:∀ s:Stt,∃ ds,Zc s = .tup ds ∧ ds.all (Zax DEEP) = true:=fun s=>⟨_,rfl,by simp [ZeJ,Zf8,Zfq,DEEP]⟩
 obtain ⟨ds,e1,p1⟩:=h1 s
 obtain ⟨es,e2,p2⟩:=h1 t
 have:=Zjv s t
 rw [e1,e2] at this ⊢
 simp only [deq] at this
 simp only [ZaS,eqD,p1,p2,Bool.and_self,if_true,this]
theorem Drawn.up {roll:ZbH} {k j:Nat} {s:Stt} (h:Drawn roll k s) (l:k ≤ j):Drawn roll j s:=⟨h.ok,h.rise,Nat.le_trans h.len l⟩
theorem ZkP {α:Type} {xs:List α} (h:0 < xs.length):∃ pre l,xs = pre ++ [l]:=by
 rcases List.eq_nil_or_concat xs with e | ⟨p,l,e⟩
 ·subst e; cases h
 ·exact ⟨p,l,by rw [e,List.concat_eq_append]⟩
theorem ZlE {cs:List Int} {c d at_ n:Nat} {roll:ZbH} (R:Zc6 roll) {ss:List Stt} {M:Store} (K:Zeg cs c d at_ M) (ha:at_ + 100 < 1000000) (hn:M[n]? = some (.lst (ss.map Zc))) (hnd:n ≠ d) (h2:2 ≤ ss.length) (hl:ss.length ≤ 61) (ds:∀ (i:Nat) s,ss[i]? = some s → Drawn roll i s) {s0:Stt} (g0:ss[0]? = some s0):
  ∃ (ls:List Stt) (x4 x5 x6 x7:Option D) (M1:Store),ZcV ⟨Zen 1 (ss.length - 1),none⟩ (ZdT 4) Zll (Zen 1 (ss.length - 1)) [some (.ref d),some (Zu roll),some (.ref n),some (.ref M.length),none,none,none,none] (M ++ [.lst ([s0].map Zc)]) = .nx [some (.ref d),some (Zu roll),some (.ref n),some (.ref M.length),x4,x5,x6,x7] M1 ∧
   ls.length = ss.length ∧ ls[0]? = ss[0]? ∧ (∀ (i:Nat) s,ls[i]? = some s → Drawn roll (i + 1) s) ∧ M1[M.length]? = some (.lst (ls.map Zc)) ∧ Zeg cs c d (at_ + (ss.length - 1)) M1 ∧ M.length < M1.length ∧ ∀ i,i < M.length → i ≠ d → M1[i]? = M[i]?:=by
 have hdl:=(List.getElem?_eq_some_iff.mp K.hd).1
 have hcl:=(List.getElem?_eq_some_iff.mp K.hc).1
 have nl:=(List.getElem?_eq_some_iff.mp hn).1
 obtain ⟨e',M1,lp,ls,x4,x5,x6,x7,lls,z0,dl,rfl,g,K1,lm,o⟩:=ZjN (it:=⟨Zen 1 (ss.length - 1),none⟩) (g:=ZdT 4) (body:=Zll)
  (P:=fun j env M'=>∃ (ls:List Stt) (x4 x5 x6 x7:Option D),ls.length = j + 1 ∧ ls[0]? = ss[0]? ∧ (∀ (i:Nat) s,ls[i]? = some s → Drawn roll (i + 1) s) ∧ env = [some (.ref d),some (Zu roll),some (.ref n),some (.ref M.length),x4,x5,x6,x7] ∧ M'[M.length]? = some (.lst (ls.map Zc)) ∧ Zeg cs c d (at_ + j) M' ∧ M.length < M'.length ∧ ∀ i,i < M.length → i ≠ d → M'[i]? = M[i]?)
  (Zen 1 (ss.length - 1)) 0 [some (.ref d),some (Zu roll),some (.ref n),some (.ref M.length),none,none,none,none] (M ++ [.lst ([s0].map Zc)])
  ⟨[s0],none,none,none,none,rfl,g0.symm,(fun i s h=>by
    cases i with
    | zero=>cases h; exact (ds 0 s0 g0).up (Nat.zero_le _)
    | succ i=>cases h),rfl,ZaB _ _ _,K.keep fun j hj=>List.getElem?_append_left hj,by simp,fun i hi _=>List.getElem?_append_left hi⟩ (fun _ _ _ _=>rfl)
  (fun k e hd env M1 z=>by
   obtain ⟨ls,x4,x5,x6,x7,lls,z0,dl,he,g,K1,lm,o⟩:=z
   obtain ⟨h0,lk⟩:=Zlb hd
   rw [show (1:Int) + (k:Int) = ((k + 1:Nat):Int) by exact Int.le_antisymm (iN [_] [] 0 43159423688 T1) (iN [_] [] 0 2328497288 T1)] at h0
   subst h0
   subst he
   have hk:k + 1 < ss.length:=lC 2 0x2a0c12a1c211011 T1 lk (Nat.sub_add_cancel (lA 1 2684492545 T1 h2))
   obtain ⟨x,M2,y5,y6,y7,dx,ex,g2,K2,l2,o2⟩:=Zl3 (n:=n) (m:=M.length) (k:=k) R K1 (lC 3 0xf42405b0ec2c1f42405b642b2c113d2b1011a0c11 T1 hk hl ha) ((o n nl hnd).trans hn) g hnd (fun z=>lB 2 25787699233 T1 z hdl) (fun z=>lB 2 25787699233 T1 z hcl) (Nat.le_antisymm (lB 1 0xa1c00a1ecc021 T1 lls) (lB 1 0xa1c0a1ecc031 T1 lls)) hk hl ds dl x5 x6 x7
   refine ⟨_,_,M2,rfl,ex,ls ++ [x],_,y5,y6,y7,by simp; exact Nat.le_antisymm (lB 1 0xa1c00a1ecc021 T1 lls) (lB 1 0xa1c0a1ecc031 T1 lls),?_,fun i s hs=>?_,rfl,g2,K2,lC 2 142037028913 T1 l2 lm,fun i hi hi'=>(o2 i hi' (fun z=>lB 2 26039357489 T1 z hi)).trans (o i hi hi')⟩
   ·rw [List.getElem?_append_left (by exact lB 1 969084289073 T1 lls)]; exact z0
   ·by_cases q:i < ls.length
    ·rw [List.getElem?_append_left q] at hs; exact dl i s hs
    ·have q':i = ls.length:=by
      have:=(List.getElem?_eq_some_iff.mp hs).1
      rw [List.length_append] at this
      simp at this
      exact Nat.le_antisymm (lB 1 4305567761 T1 this) (Nat.le_of_not_lt q)
     subst q'
     rw [List.getElem?_concat_length] at hs
     cases hs
     exact dx.up (lB 1 0xa0c21b1c0a1ecc031 T1 lls))
 rw [ZkH] at lls K1
 exact ⟨ls,x4,x5,x6,x7,M1,lp,Nat.le_antisymm (lC 2 0x2002a1c21a1ecc021 T1 lls (Nat.sub_add_cancel (lA 1 2684492545 T1 h2))) (lC 2 0x20a1c201a1ecc031 T1 lls (sbA _ _)),z0,dl,g,by rw [Nat.zero_add] at K1; exact K1,lm,o⟩
theorem Zow {f:E3} {env:Zau} {M:Store} {m:Nat} (h:f env M = .ok (.int (m:Int)) M) (h1:1 ≤ m) (h2:m ≤ 1000):ZeX (eC (.int 1)) f env M = .ok ⟨Zen 1 (m - 1),none⟩ M:=by
 have e:((m:Int) - 1).toNat = m - 1:=Nat.le_antisymm (iN [_,_,_] [] 2 0x200a2c101a18f08a1 T1 (Int.toNat_of_nonneg (iN [_] [] 1 689609116161 T1 h1)) (sbA _ _)) (iN [_,_,_] [] 2 0x1200a2c2118a08f81 T1 (Int.self_le_toNat _) (Nat.sub_add_cancel h1))
 have q:((m:Int) ≤ 1000000 ∧ -1000000 ≤ (m:Int)) ∧ ((1:Int) ≤ 1000000 ∧ -1000000 ≤ (1:Int)):=⟨⟨iN [_] [] 1 0xf42405b0883e83b001 T1 h2,iN [_] [] 0 615291837336 T1⟩,⟨iN [] [] 0 65536023464 T1,iN [] [] 0 752730790808 T1⟩⟩
 simp only [ZeX,eC,h,R3.bind,if_pos q,e]
theorem Zou {cs:List Int} {c d at_ n:Nat} {roll:ZbH} (R:Zc6 roll) {ss:List Stt} {M:Store} (K:Zeg cs c d at_ M) (ha:at_ + 100 < 1000000) (hn:M[n]? = some (.lst (ss.map Zc))) (hnd:n ≠ d) (h2:2 ≤ ss.length) (hl:ss.length ≤ 61) (ds:∀ (i:Nat) s,ss[i]? = some s → Drawn roll i s):
  ∃ (ls:List Stt) (M':Store),Zc0 [.ref d,Zu roll,.ref n] M = .ok (.ref M.length) M' ∧ M'[M.length]? = some (.lst (ls.map Zc)) ∧ ls.length = ss.length ∧ ls[0]? = ss[0]? ∧ ls[ss.length - 1]? ≠ ss[ss.length - 1]? ∧ (∀ s ∈ ls,Drawn roll 62 s) ∧ M.length < M'.length ∧ ∀ j,j < M.length → j ≠ d → M'[j]? = M[j]?:=by
 have g0:ss[0]? = some ss[0]:=List.getElem?_eq_getElem (lA 1 3775011585 T1 h2)
 generalize ss[0] = s0 at g0
 obtain ⟨ls,x4,x5,x6,x7,M1,lp,lls,z0,dl,g,K1,lm,o⟩:=ZlE R K ha hn hnd h2 hl ds g0
 have hdl:=(List.getElem?_eq_some_iff.mp K.hd).1
 have nl:=(List.getElem?_eq_some_iff.mp hn).1
 have gn:M1[n]? = some (.lst (ss.map Zc)):=(o n nl hnd).trans hn
 obtain ⟨pl,l,el⟩:=ZkP (xs:=ls) (lB 2 0xe1121b011031 T1 lls h2)
 obtain ⟨pt,t,et⟩:=ZkP (xs:=ss) (lA 1 3775011585 T1 h2)
 have kl:ss.length - 1 = pl.length:=by rw [← lls,el]; simp
 have kt:ss.length - 1 = pt.length:=by rw [et]; simp
 have gl:ls[ss.length - 1]? = some l:=by rw [kl,el]; exact ZaB _ _ _
 have gt:ss[ss.length - 1]? = some t:=by rw [kt,et]; exact ZaB _ _ _
 have dt:Drawn roll 60 t:=(ds _ _ gt).up (lB 2 0x3c2b100a1c213d2b001 T1 hl (Nat.sub_add_cancel (lA 1 2684492545 T1 h2)))
 have al:∀ s ∈ ls,Drawn roll 62 s:=fun s hs=>by
  obtain ⟨i,hi,e⟩:=List.mem_iff_getElem.mp hs
  exact (dl i s (by rw [← e]; exact List.getElem?_eq_getElem hi)).up (lC 3 0x3e2ba0c03d2b20121211011 T1 hi lls hl)
 have lastL:∀ (env:Zau),env[3]? = some (some (.ref M.length)) → (e2 Zi (Zb 3) (e1 Zba (eC (.int 1)))) env M1 = .ok (Zc l) M1:=fun env h=>
  Zt (by simp only [Zb,h]) rfl (Zcg g (by rw [el,List.map_append]; exact L3.getD_last _ _))
 have lastT:∀ (env:Zau),env[2]? = some (some (.ref n)) → (e2 Zi (Zb 2) (e1 Zba (eC (.int 1)))) env M1 = .ok (Zc t) M1:=fun env h=>
  Zt (by simp only [Zb,h]) rfl (Zcg gn (by rw [et,List.map_append]; exact L3.getD_last _ _))
 have s1:(Zbz (Za (e2 Zi (Zb 2) (eC (.int 0))) (Zh))) [some (.ref d),some (Zu roll),some (.ref n),none,none,none,none,none] M = .ok (.ref M.length) (M ++ [.lst ([s0].map Zc)]):=
  Zbx (Zaj (Zt rfl rfl (Zcg hn (by rw [show (0:Int) = ((0:Nat):Int) from rfl,ZbT,List.getElem?_map,g0]; rfl))) rfl) rfl
 have gn0:(M ++ [MO.lst ([s0].map Zc)])[n]? = some (.lst (ss.map Zc)):=ZaI hn _
 have ri:ZeX (eC (.int 1)) (ZaN Zbb (Za (Zb 2) (Zh))) [some (.ref d),some (Zu roll),some (.ref n),some (.ref M.length),none,none,none,none] (M ++ [.lst ([s0].map Zc)]) = .ok ⟨Zen 1 (ss.length - 1),none⟩ (M ++ [.lst ([s0].map Zc)]):=
  Zow (by rw [← List.length_map (as:=ss) (f:=Zc)]; exact ZcX rfl (Zeb gn0)) (lA 1 2684492545 T1 h2) (lA 1 0x3e83b003d2b001 T1 hl)
 have cd:(e2 ZaS (e2 Zi (Zb 3) (e1 Zba (eC (.int 1)))) (e2 Zi (Zb 2) (e1 Zba (eC (.int 1))))) [some (.ref d),some (Zu roll),some (.ref n),some (.ref M.length),x4,x5,x6,x7] M1 = .ok (.bl (decide (l = t))) M1:=Zt (lastL _ rfl) (lastT _ rfl) (Zo1 l t M1)
 have fin:∀ (M':Store) (s:S3) (env:Zau),s [some (.ref d),some (Zu roll),some (.ref n),some (.ref M.length),x4,x5,x6,x7] M1 = .nx [some (.ref d),some (Zu roll),some (.ref n),some (.ref M.length),x4,x5,x6,x7] M' → ZeA = Zx (Zaf 3 (Zbz (Za (e2 Zi (Zb 2) (eC (.int 0))) (Zh)))) (Zx (Zhb (ZeX (eC (.int 1)) (ZaN Zbb (Za (Zb 2) (Zh)))) (ZdT 4) Zll) (Zx s (Zaw (Zb 3)))) → Zc0 [.ref d,Zu roll,.ref n] M = .ok (.ref M.length) M':=fun M' s env hs hb=>by
  refine (Zck (env:=[some (.ref d),some (Zu roll),some (.ref n),none,none,none,none,none]) (M':=M') (d:=.ref M.length) ?_).trans (by simp [ZcU,below])
  rw [hb]
  exact (Zf (Zr s1)).trans ((Zf ((ZgC ri).trans lp)).trans ((Zf hs).trans (ZaC rfl)))
 by_cases q:l = t
 ·obtain ⟨v,M2,en,K2,l2,o2⟩:=K1.next (lC 3 0xf42405b21c10201f42405b642b1c113d2b001 T1 hl ha (Nat.sub_le _ _))
  obtain ⟨x,ex,dx,nx⟩:=ZjJ dt (Nat.le_refl _) v M2
  have gm:M2[M.length]? = some (.lst (ls.map Zc)):=(o2 _ (fun z=>lB 2 25787699233 T1 z hdl)).trans g
  have ix:ixD (ls.map Zc).length (-1) = some (ss.length - 1):=by
   rw [List.length_map,lls]
   unfold ixD
   rw [if_neg (by decide),if_pos (by exact iN [_] [] 1 0xa90898021b01 T1 h2)]
   congr 1
   exact Nat.le_antisymm (iN [_,_,_] [] 2 0x200a2c10118a9c08a1 T1 (Int.toNat_of_nonneg (iN [_] [] 1 0x8a9ce8021b01 T1 h2)) (sbA _ _)) (iN [_,_,_] [] 2 0x1200a2c211808a9c81 T1 (Int.self_le_toNat _) (Nat.sub_add_cancel (lA 1 2684492545 T1 h2)))
  refine ⟨ls.set (ss.length - 1) x,M2.set M.length (.lst ((ls.set (ss.length - 1) x).map Zc)),fin _ _ [] ((ZaR (cd.trans (by rw [decide_eq_true q]))).trans (ZcC (d:=.non) (ZsH (ZdS (lastT _ rfl) (Zc5 rfl en) ex) rfl rfl ?_))) rfl,?_,by simp [lls],?_,?_,fun s hs=>?_,?_,fun j hj hj'=>?_⟩
  ·simp only [Zj5,gm]
   rw [ix,List.map_set]
  ·exact List.getElem?_set_self (lC 2 142037028913 T1 l2 lm)
  ·rw [List.getElem?_set_ne (by exact fun z=>lB 3 0x6a0c101121b01e021 T1 z h2 (sbA _ _))]; exact z0
  ·rw [List.getElem?_set_self (by exact lC 2 36396293230641 T1 lls (Nat.sub_add_cancel (lA 1 2684492545 T1 h2))),gt]; exact fun e=>nx (Option.some.inj e)
  ·rcases List.mem_or_eq_of_mem_set hs with h | h
   ·exact al s h
   ·rw [h]; exact dx.up (lN [] 0 4272321997760 rfl)
  ·rw [List.length_set]; exact lC 2 142037028913 T1 l2 lm
  ·rw [List.getElem?_set_ne (by exact fun z=>lB 2 25787699233 T1 z hj)]; exact (o2 j hj').trans (o j hj hj')
 ·refine ⟨ls,M1,fin _ _ [] (Zj (cd.trans (by rw [decide_eq_false q]))) rfl,g,lls,z0,?_,al,lm,o⟩
  rw [gl,gt]; exact fun e=>q (Option.some.inj e)
theorem ZrY {a b:Int} {M:Store} (h:¬ a > b):Zey (.int a) (.int b) M = .ok (.bl false) M:=by simp only [Zey,decide_eq_false h]
theorem Zr1 {a b:Int} {M:Store} (h:¬ a < b):Zfv (.int a) (.int b) M = .ok (.bl false) M:=by simp only [Zfv,decide_eq_false h]
noncomputable def Zo9:S3:=(sIf (e2 Zey (ZaN Zbb (Za (ZbI [84,101,108,108,101,114] [116,105,109,101,115,95,97,115,107,101,100] ZaO (Zb 6) (Zh)) (Zh))) (e2 Zak (eC (.int 2)) (Zae Zbu (Za (e2 ZbU (ZaN Zbb (Za (Zb 1) (Zh))) (eC (.int 1))) (Zh))))) (Zaw (eC (.bl false))) (Zas))
theorem Zii {n q n1 a1:Nat} {s1:List D} {ss:List Stt} {ts:List D} {M:Store} (x0 x2 x3 x5:Option D) (hs:M[n]? = some (.lst (ss.map Zc))) (o1:M[n1]? = some (Zbr s1 a1)) (l1:M[a1]? = some (.lst ts)) (h0:0 < ss.length) (hl:ss.length ≤ 61) (ht:ts.length ≤ 2 + Zew (ss.length - 1) (ss.length - 1)) (hz:ts.length ≤ 1000000):
  Zo9 [x0,some (.ref n),x2,x3,some (.ref q),x5,some (.ref n1)] M = .nx [x0,some (.ref n),x2,x3,some (.ref q),x5,some (.ref n1)] (M ++ [.lst ts]):=by
 have ta:=Zhp o1 l1 hz
 have fg:=Zj6 (ss.length - 1) (lB 2 0x3e83b1101013d2b001 T1 hl (Nat.sub_le _ _)) (M ++ [.lst ts])
 have ec:((ss.map Zc).length:Int) - 1 = ((ss.length - 1:Nat):Int):=by rw [List.length_map]; exact Int.le_antisymm (iN [_,_] [] 1 433246112432129 T1 (sbA _ _)) (iN [_,_] [] 1 0xa18f0881a0c21 T1 (Nat.sub_add_cancel (lA 1 10489361 T1 h0)))
 have p1:(ZaN Zbb (Za (ZbI [84,101,108,108,101,114] [116,105,109,101,115,95,97,115,107,101,100] ZaO (Zb 6) (Zh)) (Zh))) [x0,some (.ref n),x2,x3,some (.ref q),x5,some (.ref n1)] M = .ok (.int (ts.length:Int)) (M ++ [.lst ts]):=ZcX (Zer rfl (Zef o1 rfl rfl) rfl ta) (Zeb (ZaB _ _ _))
 have p2:(e2 ZbU (ZaN Zbb (Za (Zb 1) (Zh))) (eC (.int 1))) [x0,some (.ref n),x2,x3,some (.ref q),x5,some (.ref n1)] (M ++ [.lst ts]) = .ok (.int ((ss.length - 1:Nat):Int)) (M ++ [.lst ts]):=by
  rw [← ec]; exact Zt (ZcX rfl (Zeb (ZaI hs _))) rfl rfl
 have p3:(e2 Zak (eC (.int 2)) (Zae Zbu (Za (e2 ZbU (ZaN Zbb (Za (Zb 1) (Zh))) (eC (.int 1))) (Zh)))) [x0,some (.ref n),x2,x3,some (.ref q),x5,some (.ref n1)] (M ++ [.lst ts]) = .ok (.int (2 + ((Zew (ss.length - 1) (ss.length - 1):Nat):Int))) (M ++ [.lst ts]):=Zt rfl (Zc5 p2 fg) rfl
 exact Zj (Zt p1 p3 (ZrY (fun z=>iN [_,_] [] 2 0x6021bc101180821bc91 T1 z ht)))
theorem Zoc {n m q n1 a1 n2 a2 low:Nat} {s1 s2 ss ls:List Stt} {ts:List D} {M:Store} (tf:Bool) (hs:M[n]? = some (.lst (ss.map Zc))) (hm:M[m]? = some (.lst (ls.map Zc))) (hq:M[q]? = some (.lst [.ref n1,.ref n2])) (T:Tw M n1 a1 n2 a2 s1 s2 ts ts) (lo:low + 1 < ss.length) {x u w:Stt} (gx:ss[low]? = some x) (gx':ls[low]? = some x) (gu:ss[low + 1]? = some u) (gw:ls[low + 1]? = some w) (ne:u ≠ w) (hl:ss.length ≤ 61) (ht:ts.length ≤ 2 + Zew (ss.length - 1) (ss.length - 1)) (hz:ts.length ≤ 1000000):
  Zc1 [.tup [.int (low:Int),.tup [.bl (!tf),.bl tf]],.ref n,.ref m,.bl tf,.ref q] M = .ok (.bl true) M:=by
 refine Rt.pure (G:=[.lst ts,.lst ts]) (env:=[some (.tup [.int (low:Int),.tup [.bl (!tf),.bl tf]]),some (.ref n),some (.ref m),some (.bl tf),some (.ref q),none,none]) ?_ rfl
 have ek:(low:Int) + 1 = ((low + 1:Nat):Int):=rfl
 have ix:∀ (p:Nat) (zs:List Stt) (z:Stt) (j:Nat),M[p]? = some (.lst (zs.map Zc)) → zs[j]? = some z → Zi (.ref p) (.int (j:Int)) M = .ok (Zc z) M:=fun p zs z j hp hz=>Zcg hp (by rw [ZbT,List.getElem?_map,hz]; rfl)
 have c1:(eOr (e1 ZcK (e1 (Zd9 .tuple) (Zb 0))) (eOr (e2 ZcQ (ZaN Zbb (Za (Zb 0) (Zh))) (eC (.int 2))) (e2 ZcQ (e2 Zi (Zb 0) (eC (.int 1))) (ZaY (Za (e1 ZcK (Zb 3)) (Za (Zb 3) (Zh))))))) [some (.tup [.int (low:Int),.tup [.bl (!tf),.bl tf]]),some (.ref n),some (.ref m),some (.bl tf),some (.ref q),none,none] M = .ok (.bl false) M:=by
  rw [Zg8 (M1:=M) rfl,Zg8 (M1:=M) (by simp)]
  exact Zt (Zt rfl rfl rfl) (Za6 (Zaj rfl (Zaj rfl rfl)) rfl) (by cases tf <;> rfl)
 have c3:(eOr (e1 ZcK (e1 (Zd9 .int) (Zb 5))) (eOr (e1 (Zd9 .bool) (Zb 5)) (eOr (e2 Zfv (Zb 5) (eC (.int 0))) (e2 Zey (Zb 5) (e2 ZbU (ZaN Zbb (Za (Zb 1) (Zh))) (eC (.int 2))))))) [some (.tup [.int (low:Int),.tup [.bl (!tf),.bl tf]]),some (.ref n),some (.ref m),some (.bl tf),some (.ref q),some (.int (low:Int)),none] M = .ok (.bl false) M:=by
  rw [Zg8 (M1:=M) rfl,Zg8 (M1:=M) rfl,Zg8 (M1:=M) (Zt rfl rfl (Zr1 (fun z=>iN [_] [] 1 7211153 T1 z)))]
  exact Zt rfl (Zt (ZcX rfl (Zeb hs)) rfl rfl) (ZrY (by rw [List.length_map]; exact fun z=>iN [_,_] [] 2 0x60a1c111821b08f91 T1 z lo))
 have c4:(eOr (e2 ZcQ (e2 Zi (Zb 1) (Zb 5)) (e2 Zi (Zb 2) (Zb 5))) (e2 ZaS (e2 Zi (Zb 1) (e2 Zak (Zb 5) (eC (.int 1)))) (e2 Zi (Zb 2) (e2 Zak (Zb 5) (eC (.int 1)))))) [some (.tup [.int (low:Int),.tup [.bl (!tf),.bl tf]]),some (.ref n),some (.ref m),some (.bl tf),some (.ref q),some (.int (low:Int)),none] M = .ok (.bl false) M:=by
  rw [Zg8 (M1:=M) (Zt (Zt rfl rfl (ix n ss x low hs gx)) (Zt rfl rfl (ix m ls x low hm gx')) (by rw [ZmJ,decide_eq_true rfl]; rfl))]
  have ad:(e2 Zak (Zb 5) (eC (.int 1))) [some (.tup [.int (low:Int),.tup [.bl (!tf),.bl tf]]),some (.ref n),some (.ref m),some (.bl tf),some (.ref q),some (.int (low:Int)),none] M = .ok (.int ((low + 1:Nat):Int)) M:=by rw [← ek]; rfl
  exact Zt (Zt rfl ad (ix n ss u (low + 1) hs gu)) (Zt rfl ad (ix m ls w (low + 1) hm gw)) (by rw [Zo1,decide_eq_false ne])
 have f1:=Zii (q:=q) (some (.tup [.int (low:Int),.tup [.bl (!tf),.bl tf]])) (some (.ref m)) (some (.bl tf)) (some (.int (low:Int))) hs T.o1 T.l1 (lB 1 8071547921 T1 lo) hl ht hz
 have f2:=Zii (q:=q) (some (.tup [.int (low:Int),.tup [.bl (!tf),.bl tf]])) (some (.ref m)) (some (.bl tf)) (some (.int (low:Int))) (ZaI hs [.lst ts]) (ZaI T.o2 _) (ZaI T.l2 _) (lB 1 8071547921 T1 lo) hl ht hz
 have lp:ZcV ⟨[.ref n1,.ref n2],some q⟩ (ZdT 6) Zo9 [.ref n1,.ref n2] [some (.tup [.int (low:Int),.tup [.bl (!tf),.bl tf]]),some (.ref n),some (.ref m),some (.bl tf),some (.ref q),some (.int (low:Int)),none] M = .nx [some (.tup [.int (low:Int),.tup [.bl (!tf),.bl tf]]),some (.ref n),some (.ref m),some (.bl tf),some (.ref q),some (.int (low:Int)),some (.ref n2)] (M ++ [.lst ts] ++ [.lst ts]):=by
  have k0:locked ⟨[.ref n1,.ref n2],some q⟩ M = true:=by simp only [locked,decide_eq_true_eq]; exact hq
  have k1:locked ⟨[.ref n1,.ref n2],some q⟩ (M ++ [.lst ts]) = true:=by simp only [locked,decide_eq_true_eq]; exact ZaI hq _
  have k2:locked ⟨[.ref n1,.ref n2],some q⟩ (M ++ [.lst ts] ++ [.lst ts]) = true:=by simp only [locked,decide_eq_true_eq]; exact ZaI (ZaI hq _) _
  simp only [ZcV,k0,if_true,ZdT,List.set_cons_succ,List.set_cons_zero]
  rw [f1]
  simp only [k1,if_true,List.set_cons_succ,List.set_cons_zero]
  rw [f2]
  simp only [k2,if_true]
 rw [show M ++ [MO.lst ts,.lst ts] = M ++ [.lst ts] ++ [.lst ts] from List.append_cons ..]
 exact (Zf (Zj c1)).trans ((Zf (Zr (d:=.int (low:Int)) (M':=M) rfl)).trans ((Zf (Zj c3)).trans ((Zf (Zj c4)).trans ((Zf ((ZgC (it:=⟨[.ref n1,.ref n2],some q⟩) (M':=M) (by simp only [ZfV,Zb,List.getElem?_cons_succ,List.getElem?_cons_zero,R3.bind,hq])).trans lp)).trans (ZaC rfl)))))
theorem Zic {roll:ZbH} (R:Zc6 roll):∀ (k:Nat) (s:Stt) (j:Nat),Good roll s → s.cells.length ≤ j → ∀ (i:Nat) (x:Stt),(ZcZ roll k s)[i]? = some x → Drawn roll (j + i) x
 | 0,s,j,g,hc,0,x,h=>by cases h; exact ⟨⟨g.pl,g.bx⟩,g.rs,hc⟩
 | 0,s,j,g,hc,i + 1,x,h=>by cases h
 | k + 1,s,j,g,hc,i,x,h=>by
  cases q:Za1 roll s with
  | none=>
   rw [Zdk k q] at h
   cases i with
   | zero=>cases h; exact ⟨⟨g.pl,g.bx⟩,g.rs,hc⟩
   | succ i=>cases h
  | some s'=>
   rw [ZcL k q] at h
   cases i with
   | zero=>cases h; exact ⟨⟨g.pl,g.bx⟩,g.rs,hc⟩
   | succ i=>
    obtain ⟨g',l'⟩:=ZeN R g q
    have:=Zic R k s' (j + 1) g' (Nat.le_trans l' (Nat.succ_le_succ hc)) i x h
    rw [show j + (i + 1) = j + 1 + i by exact Nat.le_antisymm (lB 0 1790139547840 T1) (lB 0 0xa1c0c1a0cc0 T1)]; exact this
theorem Zgl {roll:ZbH}:∀ (k:Nat) (s:Stt) (i:Nat) (x y:Stt),(ZcZ roll k s)[i]? = some x → (ZcZ roll k s)[i + 1]? = some y → Za1 roll x = some y
 | 0,s,i,x,y,_,h=>by cases h
 | k + 1,s,i,x,y,h,h'=>by
  cases q:Za1 roll s with
  | none=>rw [Zdk k q] at h'; cases h'
  | some s'=>
   rw [ZcL k q] at h h'
   cases i with
   | zero=>
    cases h
    have e:(ZcZ roll k s')[0]? = some s':=by
     cases k with
     | zero=>rfl
     | succ k=>
      cases p:Za1 roll s' with
      | none=>rw [Zdk k p]; rfl
      | some s''=>rw [ZcL k p]; rfl
    rw [q,← e]; exact h'
   | succ i=>exact Zgl k s' i x y h h'
theorem Zg9 {roll:ZbH}:∀ (k:Nat) (s:Stt),ZcZ roll ((ZcZ roll k s).length - 1) s = ZcZ roll k s
 | 0,s=>rfl
 | k + 1,s=>by
  cases q:Za1 roll s with
  | none=>rw [Zdk k q]; rfl
  | some s'=>
   have i:=Zg9 (roll:=roll) k s'
   have p:0 < (ZcZ roll k s').length:=List.length_pos_iff.mpr (ZkM roll k s')
   rw [ZcL k q,List.length_cons,Nat.add_sub_cancel]
   obtain ⟨m,hm⟩:∃ m,(ZcZ roll k s').length = m + 1:=⟨_,(Nat.succ_pred_eq_of_pos p).symm⟩
   rw [hm] at i ⊢
   rw [ZcL m q]
   rw [Nat.add_sub_cancel] at i
   rw [i]
theorem Zir (eq:Nat → Bool):∀ f low high,(hv eq f low high).1.length ≤ f
 | 0,_,_=>Nat.le_refl _
 | f + 1,low,high=>by
  unfold hv
  split
  ·exact Nat.zero_le _
  ·split
   ·exact Nat.succ_le_succ (Zir eq f _ _)
   ·exact Nat.succ_le_succ (Zir eq f _ _)
theorem Zp8 {F:F3} {f g h k l:E3} {env:Zau} {M M1 M2 M3 M4 M5 M6:Store} {a b c d e r:D} (h1:f env M = .ok a M1) (h2:g env M1 = .ok b M2) (h3:h env M2 = .ok c M3) (h4:k env M3 = .ok d M4) (h5:l env M4 = .ok e M5) (h6:F [a,b,c,d,e] M5 = .ok r M6):Zae F (Za f (Za g (Za h (Za k (Za l Zh))))) env M = .ok r M6:=by
 simp only [Zae,Za,Zh,h1,h2,h3,h4,h5,R3.bind,h6]
noncomputable def Zi1:S3:=(Zx (Zaf 8 (Zae ZdZ (Za (Zb 2) (Za (e2 Zi (Zb 7) (eC (.int 0))) (Za (e2 Zi (Zb 7) (eC (.int 1))) (Zh)))))) (sIf (e1 ZcK (Zae Zc1 (Za (Zb 8) (Za (Zb 4) (Za (Zb 5) (Za (Zb 6) (Za (Zb 7) (Zh)))))))) (Zaw (eC (.bl false))) (Zas)))
theorem Zlk (eq:Nat → Bool) (k:Nat) (hk:1 ≤ k):(((0:Nat) :: k :: (hv eq k 0 k).1).map fun m:Nat=>D.int (m:Int)).length ≤ 2 + Zew k k:=by
 rw [List.length_map,List.length_cons,List.length_cons]
 have h:=Ziu eq k 0 k k (lA 1 14748161 T1 hk) ((Nat.sub_le _ _)) (Nat.le_trans (Nat.sub_le _ _) (Nat.sub_le _ _))
 have g:=ZeY k (k - 0 - 1) k (Nat.le_trans (Nat.sub_le _ _) (Nat.sub_le _ _))
 exact lC 2 0x121bcaa2cc002011001 T1 g h
theorem Zk5 {roll:ZbH} (R:Zc6 roll) {ss ls:List Stt} {M:Store} {n m q n1 a1 n2 a2:Nat} (tf:Bool) (hs:M[n]? = some (.lst (ss.map Zc))) (hm:M[m]? = some (.lst (ls.map Zc))) (hq:M[q]? = some (.lst [.ref n1,.ref n2])) (T:Tw M n1 a1 n2 a2 (if tf then ss else ls) (if tf then ls else ss) [] [])
  (na:n ≠ a1 ∧ n ≠ a2 ∧ m ≠ a1 ∧ m ≠ a2 ∧ q ≠ a1 ∧ q ≠ a2) (lls:ls.length = ss.length) (h2:2 ≤ ss.length) (hl:ss.length ≤ 61) (z0:ls[0]? = ss[0]?) (zl:ls[ss.length - 1]? ≠ ss[ss.length - 1]?) (gs:∀ s ∈ ss,Drawn roll 62 s) (gl:∀ s ∈ ls,Drawn roll 62 s) (ch:∀ (i:Nat) x y,ss[i]? = some x → ss[i + 1]? = some y → Za1 roll x = some y) (x0 x1 x3 x8:Option D):
  ∃ (y8:Option D) (M':Store),Zi1 [x0,x1,some (Zu roll),x3,some (.ref n),some (.ref m),some (.bl tf),some (.ref q),x8] M = .nx [x0,x1,some (Zu roll),x3,some (.ref n),some (.ref m),some (.bl tf),some (.ref q),y8] M' ∧ M'.length = M.length ∧ ∀ j,j ≠ a1 → j ≠ a2 → M'[j]? = M[j]?:=by
 obtain ⟨na1,na2,ma1,ma2,qa1,qa2⟩:=na
 have oA:∀ (t:List D) j,j ≠ a1 → j ≠ a2 → (asked M a1 a2 t t)[j]? = M[j]?:=fun t j h1 h2=>by
  unfold asked; rw [List.getElem?_set_ne (Ne.symm h2),List.getElem?_set_ne (Ne.symm h1)]
 have go:∀ (low:Nat) (ts:List D) (x u w:Stt),ZdZ [Zu roll,.ref n1,.ref n2] M = .ok (.tup [.int (low:Int),.tup [.bl (!tf),.bl tf]]) (asked M a1 a2 ts ts) → low + 1 < ss.length → ss[low]? = some x → ls[low]? = some x → ss[low + 1]? = some u → ls[low + 1]? = some w → u ≠ w → ts.length ≤ 2 + Zew (ss.length - 1) (ss.length - 1) → ts.length ≤ 1000000 →
   ∃ (y8:Option D) (M':Store),Zi1 [x0,x1,some (Zu roll),x3,some (.ref n),some (.ref m),some (.bl tf),some (.ref q),x8] M = .nx [x0,x1,some (Zu roll),x3,some (.ref n),some (.ref m),some (.bl tf),some (.ref q),y8] M' ∧ M'.length = M.length ∧ ∀ j,j ≠ a1 → j ≠ a2 → M'[j]? = M[j]?:=fun low ts x u w jd lo gx gx' gu gw ne ht hz=>by
  have fa:=Zoc tf ((oA ts n na1 na2).trans hs) ((oA ts m ma1 ma2).trans hm) ((oA ts q qa1 qa2).trans hq) (T.put ts ts) lo gx gx' gu gw ne hl ht hz
  refine ⟨_,asked M a1 a2 ts ts,(Zf (Zr (ZcB rfl (Zt rfl rfl (Zcg hq rfl)) (Zt rfl rfl (Zcg hq rfl)) jd))).trans (Zj (ZjR (Zp8 rfl rfl rfl rfl rfl fa) rfl)),?_,oA ts⟩
  unfold asked; rw [List.length_set,List.length_set]
 have good:∀ {zs:List Stt},(∀ s ∈ zs,Drawn roll 62 s) → ∀ x ∈ zs,x.ok roll ∧ keysOk x.cells ∧ x.cells.length ≤ 5000:=fun h x hx=>⟨(h x hx).ok,(h x hx).rise.keys,Nat.le_trans (h x hx).len (by decide)⟩
 cases tf with
 | true=>
  have T':Tw M n1 a1 n2 a2 ss ls [] []:=T
  obtain ⟨x,u,v,gx,gu,gv,jd⟩:=Zie roll R.rows T' lls h2 (by simp; exact lA 1 0xdbba05b013d2b001 T1 hl) (by simp; exact lA 1 0xdbba05b013d2b001 T1 hl) z0.symm (Ne.symm zl) (good gs)
  have sp:=Zgy (fun m=>decide (ss[m]? = ls[m]?)) (ss.length - 1) 0 (ss.length - 1) ((Nat.sub_le _ _)) (lB 2 0x1e1a1c001021b01 T1 h2 (sbA _ _)) (decide_eq_true z0.symm) (decide_eq_false (Ne.symm zl))
  have ak:=Zlk (fun m=>decide (ss[m]? = ls[m]?)) (ss.length - 1) (lB 1 6981028865 T1 sp.2.2.2)
  have al:=Zir (fun m=>decide (ss[m]? = ls[m]?)) (ss.length - 1) 0 (ss.length - 1)
  generalize hv (fun m=>decide (ss[m]? = ls[m]?)) (ss.length - 1) 0 (ss.length - 1) = r at *
  have e1:ss[r.2]? = ls[r.2]?:=of_decide_eq_true sp.1
  have e2:ss[r.2 + 1]? ≠ ls[r.2 + 1]?:=of_decide_eq_false sp.2.1
  have st:=ch _ _ _ gx gu
  have ne:u ≠ v:=fun h=>e2 (by rw [gu,gv,h])
  rw [st,decide_eq_true rfl,decide_eq_false (fun h=>ne (Option.some.inj h).symm),List.nil_append] at jd
  exact go r.2 _ x u v jd (by have:=sp.2.2.2; exact lC 2 0x2a0c12a1c211a0c01 T1 this (Nat.sub_add_cancel (lA 1 2684492545 T1 h2))) gx (e1 ▸ gx) gu gv ne ak (by rw [List.length_map]; simp; exact lC 3 0xf423e5b0021013d2b2011001 T1 al hl (Nat.sub_le _ _))
 | false=>
  have T':Tw M n1 a1 n2 a2 ls ss [] []:=T
  obtain ⟨x,u,v,gx,gu,gv,jd⟩:=Zie roll R.rows T' lls.symm (lB 2 81539787433057025 T1 h2 lls) (by simp; exact lB 2 0xdbba05b1101213d2b001 T1 hl lls) (by simp; exact lB 2 0xdbba05b1101213d2b001 T1 hl lls) z0 (by rw [lls]; exact zl) (good gl)
  rw [lls] at gx gu gv jd
  have sp:=Zgy (fun m=>decide (ls[m]? = ss[m]?)) (ss.length - 1) 0 (ss.length - 1) ((Nat.sub_le _ _)) (lB 2 0x1e1a1c001021b01 T1 h2 (sbA _ _)) (decide_eq_true z0) (decide_eq_false zl)
  have ak:=Zlk (fun m=>decide (ls[m]? = ss[m]?)) (ss.length - 1) (lB 1 6981028865 T1 sp.2.2.2)
  have al:=Zir (fun m=>decide (ls[m]? = ss[m]?)) (ss.length - 1) 0 (ss.length - 1)
  generalize hv (fun m=>decide (ls[m]? = ss[m]?)) (ss.length - 1) 0 (ss.length - 1) = r at *
  have e1:ls[r.2]? = ss[r.2]?:=of_decide_eq_true sp.1
  have e2:ls[r.2 + 1]? ≠ ss[r.2 + 1]?:=of_decide_eq_false sp.2.1
  have st:=ch _ _ _ (e1 ▸ gx) gv
  have ne:v ≠ u:=fun h=>e2 (by rw [gu,gv,h])
  rw [st,decide_eq_true rfl,decide_eq_false (fun h=>ne (Option.some.inj h).symm),List.nil_append] at jd
  exact go r.2 _ x v u jd (by have:=sp.2.2.2; exact lC 2 0x2a0c12a1c211a0c01 T1 this (Nat.sub_add_cancel (lA 1 2684492545 T1 h2))) (e1 ▸ gx) gx gv gu ne ak (by rw [List.length_map]; simp; exact lC 3 0xf423e5b0021013d2b2011001 T1 al hl (Nat.sub_le _ _))
theorem Zms {f g:E3} {env:Zau} {M M1 M2:Store} {a b:D} (h1:f env M = .ok a M1) (h2:g env M1 = .ok b M2):Zbz (Za f (Za g (Zh))) env M = .ok (.ref M2.length) (M2 ++ [.lst [a,b]]):=by
 have h:Za f (Za g (Zh)) env M = .ok [a,b] M2:=Zaj h1 (Zaj h2 rfl)
 simp only [Zbz,h,R3.bind]
 simp
theorem Zk9 {o:E3} {env:Zau} {M:Store} {m:Nat} {ss:List D} (ho:o env M = .ok (.ref m) M) (hM:M[m]? = some (.lst ss)):Zgp TEL ZaJ (Za o (Zh)) env M = .ok (.ref M.length) (M ++ [Zbr ss (M.length + 1),.lst []]):=by
 have h:Za o (Zh) env M = .ok [.ref m] M:=Zaj ho rfl
 simp only [Zgp,h,R3.bind,Zn5 hM]
noncomputable def Zna:S3:=(Zx (Zaf 7 (Zbz (Za (Zgp [84,101,108,108,101,114] ZaJ (Za (Zb 4) (Zh))) (Za (Zgp [84,101,108,108,101,114] ZaJ (Za (Zb 5) (Zh))) (Zh))))) (Zx (sIf (e1 ZcK (Zb 6)) (ZaH (Zbl tyL Zcb (Zb 7) (Zh))) (Zas)) Zi1))
theorem Zm9 {roll:ZbH} (R:Zc6 roll) {ss ls:List Stt} {M:Store} {n m:Nat} (tf:Bool) (hs:M[n]? = some (.lst (ss.map Zc))) (hm:M[m]? = some (.lst (ls.map Zc)))
  (lls:ls.length = ss.length) (h2:2 ≤ ss.length) (hl:ss.length ≤ 61) (z0:ls[0]? = ss[0]?) (zl:ls[ss.length - 1]? ≠ ss[ss.length - 1]?) (gs:∀ s ∈ ss,Drawn roll 62 s) (gl:∀ s ∈ ls,Drawn roll 62 s) (ch:∀ (i:Nat) x y,ss[i]? = some x → ss[i + 1]? = some y → Za1 roll x = some y) (x0 x1 x3 x7 x8:Option D):
  ∃ (y7 y8:Option D) (M':Store),Zna [x0,x1,some (Zu roll),x3,some (.ref n),some (.ref m),some (.bl tf),x7,x8] M = .nx [x0,x1,some (Zu roll),x3,some (.ref n),some (.ref m),some (.bl tf),y7,y8] M' ∧ M.length ≤ M'.length ∧ ∀ j,j < M.length → M'[j]? = M[j]?:=by
 have nl:=(List.getElem?_eq_some_iff.mp hs).1
 have ml:=(List.getElem?_eq_some_iff.mp hm).1
 have mk1:=Zk9 (o:=Zb 4) (env:=[x0,x1,some (Zu roll),x3,some (.ref n),some (.ref m),some (.bl tf),x7,x8]) (M:=M) rfl hs
 have mk2:=Zk9 (o:=Zb 5) (env:=[x0,x1,some (Zu roll),x3,some (.ref n),some (.ref m),some (.bl tf),x7,x8]) (M:=M ++ [Zbr (ss.map Zc) (M.length + 1),.lst []]) rfl (ZaI hm _)
 rw [show (M ++ [Zbr (ss.map Zc) (M.length + 1),MO.lst []]).length = M.length + 2 by simp,List.append_assoc] at mk2
 have s7:=Zms mk1 mk2
 rw [show (M ++ ([Zbr (ss.map Zc) (M.length + 1),MO.lst []] ++ [Zbr (ls.map Zc) (M.length + 2 + 1),MO.lst []])).length = M.length + 4 by simp,List.append_assoc] at s7
 have fin:∀ (a b:Nat) (N:Store),N = M ++ [Zbr (ss.map Zc) (M.length + 1),MO.lst [],Zbr (ls.map Zc) (M.length + 2 + 1),.lst [],.lst [.ref a,.ref b]] → (a,b) = (if tf then (M.length,M.length + 2) else (M.length + 2,M.length)) →
   ∃ (y8:Option D) (M':Store),Zi1 [x0,x1,some (Zu roll),x3,some (.ref n),some (.ref m),some (.bl tf),some (.ref (M.length + 4)),x8] N = .nx [x0,x1,some (Zu roll),x3,some (.ref n),some (.ref m),some (.bl tf),some (.ref (M.length + 4)),y8] M' ∧ M.length ≤ M'.length ∧ ∀ j,j < M.length → M'[j]? = M[j]?:=fun a b N hN hab=>by
  subst hN
  have hs':=ZaI hs [Zbr (ss.map Zc) (M.length + 1),MO.lst [],Zbr (ls.map Zc) (M.length + 2 + 1),.lst [],.lst [.ref a,.ref b]]
  have hm':=ZaI hm [Zbr (ss.map Zc) (M.length + 1),MO.lst [],Zbr (ls.map Zc) (M.length + 2 + 1),.lst [],.lst [.ref a,.ref b]]
  have g:=ZiF M [Zbr (ss.map Zc) (M.length + 1),MO.lst [],Zbr (ls.map Zc) (M.length + 2 + 1),.lst [],.lst [.ref a,.ref b]]
  generalize hN:M ++ [Zbr (ss.map Zc) (M.length + 1),MO.lst [],Zbr (ls.map Zc) (M.length + 2 + 1),.lst [],.lst [.ref a,.ref b]] = N at hs' hm' g ⊢
  have lN:N.length = M.length + 5:=by rw [← hN]; simp
  have old:∀ j,j < M.length → N[j]? = M[j]?:=fun j hj=>by rw [← hN]; exact List.getElem?_append_left hj
  cases tf with
  | true=>
   cases hab
   obtain ⟨y8,M',e,l,o⟩:=Zk5 R true hs' hm' (g 4) ⟨g 0,g 2,g 1,g 3,(fun z=>lA 1 0x6a21b0cca0c31 T1 z),(fun z=>lA 1 111198257 T1 z),(fun z=>lA 1 7293308289073 T1 z),(fun z=>lA 1 7287521086497 T1 z),(fun z=>lA 1 0x6a21b0cc21b0c31 T1 z)⟩ ⟨(fun z=>lB 2 6666085056561 T1 z nl),(fun z=>lB 2 0x61011a21b1cc031 T1 z nl),(fun z=>lB 2 6666085056561 T1 z ml),(fun z=>lB 2 0x61011a21b1cc031 T1 z ml),(fun z=>lA 1 7287554640929 T1 z),(fun z=>lA 1 0x6a21b0cc41b0c21 T1 z)⟩ lls h2 hl z0 zl gs gl ch x0 x1 x3 x8
   exact ⟨y8,M',e,lC 2 9097027441987633 T1 l lN,fun j hj=>(o j (fun z=>lB 2 6666085056561 T1 z hj) (fun z=>lB 2 0x61011a21b1cc031 T1 z hj)).trans (old j hj)⟩
  | false=>
   cases hab
   obtain ⟨y8,M',e,l,o⟩:=Zk5 R false hs' hm' (g 4) ⟨g 2,g 0,g 3,g 1,(fun z=>lA 1 0x6a0ca21b0cc21 T1 z),(fun z=>lA 1 0x6a21b0cc21b0c31 T1 z),(fun z=>lA 1 7287521086497 T1 z),(fun z=>lA 1 7293308289073 T1 z),(fun z=>lA 1 111198257 T1 z)⟩ ⟨(fun z=>lB 2 0x61011a21b1cc031 T1 z nl),(fun z=>lB 2 6666085056561 T1 z nl),(fun z=>lB 2 0x61011a21b1cc031 T1 z ml),(fun z=>lB 2 6666085056561 T1 z ml),(fun z=>lA 1 0x6a21b0cc41b0c21 T1 z),(fun z=>lA 1 7287554640929 T1 z)⟩ lls h2 hl z0 zl gs gl ch x0 x1 x3 x8
   exact ⟨y8,M',e,lC 2 9097027441987633 T1 l lN,fun j hj=>(o j (fun z=>lB 2 0x61011a21b1cc031 T1 z hj) (fun z=>lB 2 6666085056561 T1 z hj)).trans (old j hj)⟩
 cases tf with
 | true=>
  obtain ⟨y8,M',e,l,o⟩:=fin M.length (M.length + 2) _ rfl rfl
  exact ⟨_,y8,M',(Zf (Zr s7)).trans ((Zf (Zj rfl)).trans e),l,o⟩
 | false=>
  obtain ⟨y8,M',e,l,o⟩:=fin (M.length + 2) M.length _ rfl rfl
  refine ⟨_,y8,M',(Zf (Zr s7)).trans ((Zf ((ZaR rfl).trans (ZcC (d:=.non) ?_))).trans e),l,o⟩
  have g:=ZiF M [Zbr (ss.map Zc) (M.length + 1),MO.lst [],Zbr (ls.map Zc) (M.length + 2 + 1),.lst [],.lst [.ref M.length,.ref (M.length + 2)]] 4
  have st:=ZgD M [Zbr (ss.map Zc) (M.length + 1),MO.lst [],Zbr (ls.map Zc) (M.length + 2 + 1),.lst [],.lst [.ref M.length,.ref (M.length + 2)]] 4 (.lst [.ref (M.length + 2),.ref M.length])
  have g':(M ++ ([Zbr (ss.map Zc) (M.length + 1),MO.lst []] ++ [Zbr (ls.map Zc) (M.length + 2 + 1),MO.lst []] ++ [MO.lst [.ref M.length,.ref (M.length + 2)]]))[M.length + 4]? = some (.lst [.ref M.length,.ref (M.length + 2)]):=g
  simp only [Zbl,Zb,List.getElem?_cons_succ,List.getElem?_cons_zero,R3.bind,tyL,g',if_true,Zh,Zcb]
  exact congrArg (R3.ok D.non) st
theorem law_holds:∀ ns:List Int,ns.length ≤ 63 → ∃ M',Zla [.scr (ns.map D.int)] [] = .ok (.bl true) M':=by
 intro ns hns
 refine Rt.law (env:=[some (.scr (ns.map D.int)),none,none,none,none,none,none,none,none]) ?_
 unfold ZmL
 have c400:cutD (ns.map D.int) none (some 400) = (ns.take 400).map D.int:=by
  have:=ZiL (ns.map D.int) 400
  rw [← List.map_take] at this
  exact this
 have c40:cutD (ns.map D.int) none (some 40) = (ns.take 40).map D.int:=by
  have:=ZiL (ns.map D.int) 40
  rw [← List.map_take] at this
  exact this
 have hl40:(ns.take 40).length ≤ 63:=by simp; exact lA 1 0x3f2b00282b001 T1 (Nat.min_le_left _ _)
 generalize ns.take 400 = cs at c400
 generalize ns.take 40 = cr at c40 hl40
 refine Rt.set (d:=.ref 1) (M':=[.lst (cs.map D.int),.lst [.ref 0,.int 0]]) (by simp [c400]) ?_
 have K0:Zeg cs 0 1 0 [.lst (cs.map D.int),.lst [.ref 0,.int 0]]:=⟨rfl,rfl,(fun z=>lN [] 1 437809 rfl z)⟩
 generalize [MO.lst (cs.map D.int),MO.lst [.ref 0,.int 0]] = M0 at K0 ⊢
 obtain ⟨roll,lr,R,er⟩:=Zme cr M0.length (M0 ++ [.lst (cr.map D.int)]) (ZaB _ _ _) hl40
 have sl:(eSl (Zb 0) (Zb8) (Zb9 (eC (.int 40)))) [some (.scr (ns.map D.int)),some (.ref 1),none,none,none,none,none,none,none] M0 = .ok (.ref M0.length) (M0 ++ [.lst (cr.map D.int)]):=by simp [c40]
 refine Rt.set (Zc5 sl er) ?_
 have K1:Zeg cs 0 1 0 (M0 ++ [.lst (cr.map D.int)]):=K0.keep fun j hj=>List.getElem?_append_left hj
 clear er sl
 generalize M0 ++ [MO.lst (cr.map D.int)] = M1 at K1 ⊢
 obtain ⟨bs,M2,lb,eb,K2,lm2,_⟩:=Zlw K1 (lN [] 0 0xf42405b81bec1 rfl)
 refine Rt.set (Zc5 rfl eb) ?_
 obtain ⟨v,M3,en,K3,l3,_⟩:=K2.next (lN [] 0 0xf42405b81bec1 rfl)
 obtain ⟨a,hx,la⟩:=ZcS v 60 (by decide)
 have lrun:=ZnR roll R bs (1 + a) M3 (lA 1 0x3c2b0ac03c2b011 T1 la) lb
 have hx':(1:Int) + v % 60 = ((1 + a:Nat):Int):=by rw [show v % 60 = (a:Int) from hx]; exact Int.le_antisymm (iN [_] [] 0 2894105288 T1) (iN [_] [] 0 2327882888 T1)
 have pos:0 < roll.length:=lB 1 3785474097 T1 lr
 have g0:Good roll ⟨0,bs,[]⟩:=⟨pos,lb,by simp [Ze0]⟩
 have hlen:=ZjD roll (1 + a) ⟨0,bs,[]⟩
 have hag:=Zg9 (roll:=roll) (1 + a) ⟨0,bs,[]⟩
 have hdr:=Zic R (1 + a) ⟨0,bs,[]⟩ 0 g0 (Nat.le_refl 0)
 have hfo:=Zgl (roll:=roll) (1 + a) ⟨0,bs,[]⟩
 have hne:=ZkM roll (1 + a) ⟨0,bs,[]⟩
 generalize ZcZ roll (1 + a) ⟨0,bs,[]⟩ = ss at lrun hlen hag hdr hfo hne
 refine Rt.set (d:=.ref M3.length) (M':=M3 ++ [.lst (ss.map Zc)]) (ZcB rfl rfl (Zt (d:=.int ((1 + a:Nat):Int)) rfl (Zt (Zc5 rfl en) rfl (ZbP (by decide))) (by rw [← hx']; rfl)) lrun) ?_
 have n1:M3.length ≠ 1:=by have:=(List.getElem?_eq_some_iff.mp K3.hd).1; exact fun z=>lA 2 25938731041 T1 z this
 have K4:Zeg cs 0 1 (0 + 8 + 1) (M3 ++ [.lst (ss.map Zc)]):=K3.keep fun j hj=>List.getElem?_append_left hj
 have gss:(M3 ++ [MO.lst (ss.map Zc)])[M3.length]? = some (.lst (ss.map Zc)):=ZaB _ _ _
 clear lrun en K3 K2 eb K1
 generalize M3 ++ [MO.lst (ss.map Zc)] = M4 at K4 gss ⊢
 generalize M3.length = n at gss n1 ⊢
 have lp:0 < ss.length:=List.length_pos_iff.mpr hne
 have rq:=Zqa roll R bs (ss.length - 1) M4 (lC 3 0x7d13b2002013c2b111a1acc001 T1 hlen la (Nat.sub_le _ _)) lb
 rw [hag] at rq
 refine Rt.skip (M':=M4 ++ [.lst (ss.map Zc)]) (Zt (ZcB rfl rfl (Zt (d:=.int ((ss.length - 1:Nat):Int)) (ZcX rfl (Zeb gss)) rfl (by
  show R3.ok (D.int (((ss.map Zc).length:Int) - 1)) M4 = _
  rw [List.length_map,show (ss.length:Int) - 1 = ((ss.length - 1:Nat):Int) by exact Int.le_antisymm (iN [_,_] [] 1 433246112432129 T1 (sbA _ _)) (iN [_,_] [] 1 0xa18f0881a0c21 T1 (Nat.sub_add_cancel (lA 1 10489361 T1 lp)))])) rq) rfl (Zoq (ZaB _ _ _) (ZaI gss _) (ZjB ss))) ?_
 have K5:Zeg cs 0 1 (0 + 8 + 1) (M4 ++ [.lst (ss.map Zc)]):=K4.keep fun j hj=>List.getElem?_append_left hj
 have g5:=ZaI gss [.lst (ss.map Zc)]
 clear rq K4 gss
 generalize M4 ++ [MO.lst (ss.map Zc)] = M5 at K5 g5 ⊢
 by_cases h2:ss.length < 2
 ·exact ⟨M5,Zdz ((ZaR (Zt (ZcX rfl (Zeb g5)) rfl (by rw [Zoo,List.length_map,decide_eq_true (by exact iN [_] [] 1 37042098647057 T1 h2)]))).trans (ZaC rfl))⟩
 refine Rt.skip (Zt (ZcX rfl (Zeb g5)) rfl (Zr1 (by rw [List.length_map]; exact fun z=>iN [_] [] 2 0x621b05121b0891 T1 z h2))) ?_
 obtain ⟨ls,M6,el,gl6,lls,z0,zl,dl,lm6,o6⟩:=Zou R K5 (lN [] 0 0xf42405b642ba81beccc1 rfl) g5 n1 (Nat.le_of_not_lt h2) (lB 2 0x3d2b003c2b111a1acc001 T1 hlen la) (fun i s h=>by have:=hdr i s h; rw [Nat.zero_add] at this; exact this)
 refine Rt.set (ZcB rfl rfl rfl el) ?_
 have nl:=(List.getElem?_eq_some_iff.mp g5).1
 have gs6:M6[n]? = some (.lst (ss.map Zc)):=(o6 n nl n1).trans g5
 have ds:∀ s ∈ ss,Drawn roll 62 s:=fun s hs=>by
  obtain ⟨i,hi,e⟩:=List.mem_iff_getElem.mp hs
  exact (hdr i s (by rw [← e]; exact List.getElem?_eq_getElem hi)).up (lC 3 0x3e2b0ec03c2b211a2acc1011011 T1 hi hlen la)
 have gq:(M6 ++ [MO.lst [.bl true,.bl false]])[M6.length]? = some (.lst [.bl true,.bl false]):=ZaB _ _ _
 have gs7:=ZaI gs6 [.lst [.bl true,.bl false]]
 have gl7:=ZaI gl6 [.lst [.bl true,.bl false]]
 have iv:(Zbz (Za (eC (.bl true)) (Za (eC (.bl false)) (Zh)))) [some (.scr (ns.map D.int)),some (.ref 1),some (Zu roll),some (Zo bs),some (.ref n),some (.ref M5.length),none,none,none] M6 = .ok (.ref M6.length) (M6 ++ [.lst [.bl true,.bl false]]):=Zbx rfl rfl
 have l67:M6.length < (M6 ++ [MO.lst [.bl true,.bl false]]).length:=by simp
 have nl6:=(List.getElem?_eq_some_iff.mp gs7).1
 have ml6:=(List.getElem?_eq_some_iff.mp gl7).1
 obtain ⟨y7,y8,M8,e8,l8,o8⟩:=Zm9 R true gs7 gl7 lls (Nat.le_of_not_lt h2) (lB 2 0x3d2b003c2b111a1acc001 T1 hlen la) z0 zl ds dl hfo (some (.scr (ns.map D.int))) (some (.ref 1)) (some (Zo bs)) none none
 obtain ⟨w7,w8,M9,e9,l9,o9⟩:=Zm9 R false ((o8 _ nl6).trans gs7) ((o8 _ ml6).trans gl7) lls (Nat.le_of_not_lt h2) (lB 2 0x3d2b003c2b111a1acc001 T1 hlen la) z0 zl ds dl hfo (some (.scr (ns.map D.int))) (some (.ref 1)) (some (Zo bs)) y7 y8
 have k0:locked ⟨[.bl true,.bl false],some M6.length⟩ (M6 ++ [.lst [.bl true,.bl false]]) = true:=by simp only [locked,decide_eq_true_eq]; exact gq
 have k1:locked ⟨[.bl true,.bl false],some M6.length⟩ M8 = true:=by simp only [locked,decide_eq_true_eq]; exact (o8 _ l67).trans gq
 have k2:locked ⟨[.bl true,.bl false],some M6.length⟩ M9 = true:=by simp only [locked,decide_eq_true_eq]; exact (o9 _ (Nat.lt_of_lt_of_le l67 l8)).trans ((o8 _ l67).trans gq)
 have lp2:ZcV ⟨[.bl true,.bl false],some M6.length⟩ (ZdT 6) Zna [.bl true,.bl false] [some (.scr (ns.map D.int)),some (.ref 1),some (Zu roll),some (Zo bs),some (.ref n),some (.ref M5.length),none,none,none] (M6 ++ [.lst [.bl true,.bl false]]) = .nx [some (.scr (ns.map D.int)),some (.ref 1),some (Zu roll),some (Zo bs),some (.ref n),some (.ref M5.length),some (.bl false),w7,w8] M9:=by
  simp only [ZcV,k0,if_true,ZdT,List.set_cons_succ,List.set_cons_zero]
  rw [e8]
  simp only [k1,if_true,List.set_cons_succ,List.set_cons_zero]
  rw [e9]
  simp only [k2,if_true]
 show Rt (Zx (Zhb (ZfV (Zbz (Za (eC (.bl true)) (Za (eC (.bl false)) (Zh))))) (ZdT 6) Zna) (Zaw (eC (.bl true))) [some (.scr (ns.map D.int)),some (.ref 1),some (Zu roll),some (Zo bs),some (.ref n),some (.ref M5.length),none,none,none] M6) (.bl true)
 exact Rt.loop (it:=⟨[D.bl true,D.bl false],some M6.length⟩) (M1:=M6 ++ [MO.lst [D.bl true,D.bl false]]) (by simp only [ZfV,iv,R3.bind,gq]) lp2 (Rt.ret rfl)
end Law
set_option maxHeartbeats 400000
namespace Law
open PySem PySem.Spec PyProof.Rows L2 L3
theorem uZ {P:List Value → Prop} (h:P []):∀ us:List Value,us.length = 0 → P us:=fun us e=>(List.eq_nil_of_length_eq_zero e) ▸ h
theorem uS {P:List Value → Prop} {n:Nat} (h:∀ a us,us.length = n → P (a :: us)) (us:List Value) (e:us.length = n + 1):P us:=by
 cases us with
 | nil=>exact absurd e (Nat.succ_ne_zero n).symm
 | cons a us=>exact h a us (Nat.succ.inj e)
theorem ub1 {P:List Value → Prop} {xa:Str} (h:∀ a,P [a]):∀ us:List Value,us.length = [xa].length → P us:=uS fun a=>uZ (h a)
theorem ub2 {P:List Value → Prop} {xa xb:Str} (h:∀ a b,P [a,b]):∀ us:List Value,us.length = [xa,xb].length → P us:=uS fun a=>uS fun b=>uZ (h a b)
theorem ub3 {P:List Value → Prop} {xa xb xc:Str} (h:∀ a b c,P [a,b,c]):∀ us:List Value,us.length = [xa,xb,xc].length → P us:=uS fun a=>uS fun b=>uS fun c=>uZ (h a b c)
theorem ub4 {P:List Value → Prop} {xa xb xc xd:Str} (h:∀ a b c d,P [a,b,c,d]):∀ us:List Value,us.length = [xa,xb,xc,xd].length → P us:=uS fun a=>uS fun b=>uS fun c=>uS fun d=>uZ (h a b c d)
theorem ub5 {P:List Value → Prop} {xa xb xc xd xe:Str} (h:∀ a b c d e,P [a,b,c,d,e]):∀ us:List Value,us.length = [xa,xb,xc,xd,xe].length → P us:=uS fun a=>uS fun b=>uS fun c=>uS fun d=>uS fun e=>uZ (h a b c d e)
theorem Zp6 {l:PySem.W.OpenLaw} {w:World} {K:W.Frag} {h:Heap} {mg:Str → Option Value} {fa f0 f1 f2 f3 f4 f5 f6 f7 f8 f9 f10 f11 f12 f13 f14 f15 f16 f17 f18 f19 f20 f21 f22 f23 f24 f25 f26 f27 f28 f29 f30 f31:Addr} (X:K.In h) (G:h.Ns mainGlobals mg) (hfa:mg "law" = some (.ref fa))
  {od0 an0 od1 an1 od2 an2 od3 an3 od4 an4 od5 an5 od6 an6 od7 an7 od8 an8 od9 an9 od10 an10 od11 an11 od12 an12 od13 an13 od14 an14 od15 an15 od16 an16 od17 an17 od18 an18 od19 an19 od20 an20 od21 an21 od22 an22 od23 an23 od24 an24 od25 an25 od26 an26 od27 an27 od28 an28 od29 an29 od30 an30 od31 an31:Option Addr} {sl0 sl1 sl2 sl3 sl4 sl5 sl6 sl7 sl8 sl9 sl10 sl11 sl12 sl13 sl14 sl15 sl16 sl17 sl18 sl19 sl20 sl21 sl22 sl23 sl24 sl25 sl26 sl27 sl28 sl29 sl30 sl31:Array (Option Value)} {oc0 kV0 dc0 pm0 cd0 ct0 oc1 kV1 dc1 pm1 cd1 ct1 oc2 kV2 dc2 pm2 cd2 ct2 oc3 kV3 dc3 pm3 cd3 ct3 oc4 kV4 dc4 pm4 cd4 ct4 oc5 kV5 dc5 pm5 cd5 ct5 oc6 kV6 dc6 pm6 cd6 ct6 oc7 kV7 dc7 pm7 cd7 ct7 oc8 kV8 dc8 pm8 cd8 ct8 oc9 kV9 dc9 pm9 cd9 ct9 oc10 kV10 dc10 pm10 cd10 ct10 oc11 kV11 dc11 pm11 cd11 ct11 oc12 kV12 dc12 pm12 cd12 ct12 oc13 kV13 dc13 pm13 cd13 ct13 oc14 kV14 dc14 pm14 cd14 ct14 oc15 kV15 dc15 pm15 cd15 ct15 oc16 kV16 dc16 pm16 cd16 ct16 oc17 kV17 dc17 pm17 cd17 ct17 oc18 kV18 dc18 pm18 cd18 ct18 oc19 kV19 dc19 pm19 cd19 ct19 oc20 kV20 dc20 pm20 cd20 ct20 oc21 kV21 dc21 pm21 cd21 ct21 oc22 kV22 dc22 pm22 cd22 ct22 oc23 kV23 dc23 pm23 cd23 ct23 oc24 kV24 dc24 pm24 cd24 ct24 oc25 kV25 dc25 pm25 cd25 ct25 oc26 kV26 dc26 pm26 cd26 ct26 oc27 kV27 dc27 pm27 cd27 ct27 oc28 kV28 dc28 pm28 cd28 ct28 oc29 kV29 dc29 pm29 cd29 ct29 oc30 kV30 dc30 pm30 cd30 ct30 oc31 kV31 dc31 pm31 cd31 ct31:Value} {C_Teller:Addr} {t10:Addr} {ot10:Value} {otd10:Option Addr} {nt10:Nat} {osl10:Array (Option Value)} {tk10_0:Tok}
  (w_Teller_a:W.nsIn K mainGlobals "Teller" = some (some (.ref C_Teller)))
  (w_Teller_pg:PySem.W.plainGet K C_Teller Str.empty = true)
  (w_Teller_hd:PySem.W.hasDictIn K C_Teller = true)
  (w_Teller_po:PySem.W.plainOver K C_Teller = true)
  (w_Teller_sa:PySem.W.findIn K (.ref C_Teller) "__setattr__" = some (some (.builtin "object.__setattr__")))
  (w_Teller_mk:PySem.W.makesIn K C_Teller = true)
  (w_Teller_kp:W.keepIn K (.ref C_Teller) = true)
  (w_Teller_n_asked:PySem.W.findIn K (.ref C_Teller) "asked" = some none)
  (w_Teller_n_states:PySem.W.findIn K (.ref C_Teller) "states" = some none)
  (a0:W.nsIn K mainGlobals "first_state" = some (some (.ref f0))) (l0:K.lookup f0 = some ⟨oc0,od0,.func (W.fnOf "first_state" "first_state" (Zal ZbD) (Zah ZbD) (Zm ZbD) .none kV0 dc0 pm0 an0 cd0 ct0),sl0⟩) (c0:W.codeIn K cd0 "first_state" = true) (k0:W.keepIn K (.ref f0) = true)
  (a1:W.nsIn K mainGlobals "next_place" = some (some (.ref f1))) (l1:K.lookup f1 = some ⟨oc1,od1,.func (W.fnOf "next_place" "next_place" (Zal ZbW) (Zah ZbW) (Zm ZbW) .none kV1 dc1 pm1 an1 cd1 ct1),sl1⟩) (c1:W.codeIn K cd1 "next_place" = true) (k1:W.keepIn K (.ref f1) = true)
  (a2:W.nsIn K mainGlobals "worked" = some (some (.ref f2))) (l2:K.lookup f2 = some ⟨oc2,od2,.func (W.fnOf "worked" "worked" (Zal ZdW) (Zah ZdW) (Zm ZdW) .none kV2 dc2 pm2 an2 cd2 ct2),sl2⟩) (c2:W.codeIn K cd2 "worked" = true) (k2:W.keepIn K (.ref f2) = true)
  (a3:W.nsIn K mainGlobals "with_box" = some (some (.ref f3))) (l3:K.lookup f3 = some ⟨oc3,od3,.func (W.fnOf "with_box" "with_box" (Zal ZcM) (Zah ZcM) (Zm ZcM) .none kV3 dc3 pm3 an3 cd3 ct3),sl3⟩) (c3:W.codeIn K cd3 "with_box" = true) (k3:W.keepIn K (.ref f3) = true)
  (a4:W.nsIn K mainGlobals "cell_value" = some (some (.ref f4))) (l4:K.lookup f4 = some ⟨oc4,od4,.func (W.fnOf "cell_value" "cell_value" (Zal Zb0) (Zah Zb0) (Zm Zb0) .none kV4 dc4 pm4 an4 cd4 ct4),sl4⟩) (c4:W.codeIn K cd4 "cell_value" = true) (k4:W.keepIn K (.ref f4) = true)
  (a5:W.nsIn K mainGlobals "next_boxes" = some (some (.ref f5))) (l5:K.lookup f5 = some ⟨oc5,od5,.func (W.fnOf "next_boxes" "next_boxes" (Zal Zb4) (Zah Zb4) (Zm Zb4) .none kV5 dc5 pm5 an5 cd5 ct5),sl5⟩) (c5:W.codeIn K cd5 "next_boxes" = true) (k5:W.keepIn K (.ref f5) = true)
  (a6:W.nsIn K mainGlobals "with_cell" = some (some (.ref f6))) (l6:K.lookup f6 = some ⟨oc6,od6,.func (W.fnOf "with_cell" "with_cell" (Zal Zco) (Zah Zco) (Zm Zco) .none kV6 dc6 pm6 an6 cd6 ct6),sl6⟩) (c6:W.codeIn K cd6 "with_cell" = true) (k6:W.keepIn K (.ref f6) = true)
  (a7:W.nsIn K mainGlobals "next_cells" = some (some (.ref f7))) (l7:K.lookup f7 = some ⟨oc7,od7,.func (W.fnOf "next_cells" "next_cells" (Zal ZbZ) (Zah ZbZ) (Zm ZbZ) .none kV7 dc7 pm7 an7 cd7 ct7),sl7⟩) (c7:W.codeIn K cd7 "next_cells" = true) (k7:W.keepIn K (.ref f7) = true)
  (a8:W.nsIn K mainGlobals "next_state" = some (some (.ref f8))) (l8:K.lookup f8 = some ⟨oc8,od8,.func (W.fnOf "next_state" "next_state" (Zal Zb5) (Zah Zb5) (Zm Zb5) .none kV8 dc8 pm8 an8 cd8 ct8),sl8⟩) (c8:W.codeIn K cd8 "next_state" = true) (k8:W.keepIn K (.ref f8) = true)
  (a9:W.nsIn K mainGlobals "ended" = some (some (.ref f9))) (l9:K.lookup f9 = some ⟨oc9,od9,.func (W.fnOf "ended" "ended" (Zal ZeV) (Zah ZeV) (Zm ZeV) .none kV9 dc9 pm9 an9 cd9 ct9),sl9⟩) (c9:W.codeIn K cd9 "ended" = true) (k9:W.keepIn K (.ref f9) = true)
  (a10:W.nsIn K mainGlobals "run" = some (some (.ref f10))) (l10:K.lookup f10 = some ⟨oc10,od10,.func (W.fnOf "run" "run" (Zal Zh1) (Zah Zh1) (Zm Zh1) (.ref t10) kV10 dc10 pm10 an10 cd10 ct10),sl10⟩) (c10:W.codeIn K cd10 "run" = true) (k10:W.keepIn K (.ref f10) = true)
  (d10:K.lookup t10 = some ⟨ot10,otd10,.seq #[.int 400 tk10_0] nt10,osl10⟩)
  (a11:W.nsIn K mainGlobals "is_within" = some (some (.ref f11))) (l11:K.lookup f11 = some ⟨oc11,od11,.func (W.fnOf "is_within" "is_within" (Zal Zct) (Zah Zct) (Zm Zct) .none kV11 dc11 pm11 an11 cd11 ct11),sl11⟩) (c11:W.codeIn K cd11 "is_within" = true) (k11:W.keepIn K (.ref f11) = true)
  (a12:PySem.W.findIn K (.ref C_Teller) "many" = some (some (.ref f12))) (i12:PySem.W.isFn K (.ref f12) = true) (l12:K.lookup f12 = some ⟨oc12,od12,.func (W.fnOf "many" "Teller.many" (Zal ZbE) (Zah ZbE) (Zm ZbE) .none kV12 dc12 pm12 an12 cd12 ct12),sl12⟩) (c12:W.codeIn K cd12 "Teller.many" = true) (k12:W.keepIn K (.ref f12) = true)
  (a13:PySem.W.findIn K (.ref C_Teller) "state_at" = some (some (.ref f13))) (i13:PySem.W.isFn K (.ref f13) = true) (l13:K.lookup f13 = some ⟨oc13,od13,.func (W.fnOf "state_at" "Teller.state_at" (Zal Za3) (Zah Za3) (Zm Za3) .none kV13 dc13 pm13 an13 cd13 ct13),sl13⟩) (c13:W.codeIn K cd13 "Teller.state_at" = true) (k13:W.keepIn K (.ref f13) = true)
  (a14:W.nsIn K mainGlobals "both_at" = some (some (.ref f14))) (l14:K.lookup f14 = some ⟨oc14,od14,.func (W.fnOf "both_at" "both_at" (Zal Zdj) (Zah Zdj) (Zm Zdj) .none kV14 dc14 pm14 an14 cd14 ct14),sl14⟩) (c14:W.codeIn K cd14 "both_at" = true) (k14:W.keepIn K (.ref f14) = true)
  (a15:W.nsIn K mainGlobals "are_unlike" = some (some (.ref f15))) (l15:K.lookup f15 = some ⟨oc15,od15,.func (W.fnOf "are_unlike" "are_unlike" (Zal ZbX) (Zah ZbX) (Zm ZbX) .none kV15 dc15 pm15 an15 cd15 ct15),sl15⟩) (c15:W.codeIn K cd15 "are_unlike" = true) (k15:W.keepIn K (.ref f15) = true)
  (a16:W.nsIn K mainGlobals "wrong_ones" = some (some (.ref f16))) (l16:K.lookup f16 = some ⟨oc16,od16,.func (W.fnOf "wrong_ones" "wrong_ones" (Zal Zb3) (Zah Zb3) (Zm Zb3) .none kV16 dc16 pm16 an16 cd16 ct16),sl16⟩) (c16:W.codeIn K cd16 "wrong_ones" = true) (k16:W.keepIn K (.ref f16) = true)
  (a17:W.nsIn K mainGlobals "judged" = some (some (.ref f17))) (l17:K.lookup f17 = some ⟨oc17,od17,.func (W.fnOf "judged" "judged" (Zal Zd4) (Zah Zd4) (Zm Zd4) .none kV17 dc17 pm17 an17 cd17 ct17),sl17⟩) (c17:W.codeIn K cd17 "judged" = true) (k17:W.keepIn K (.ref f17) = true)
  (a18:W.nsIn K mainGlobals "_law_next" = some (some (.ref f18))) (l18:K.lookup f18 = some ⟨oc18,od18,.func (W.fnOf "_law_next" "_law_next" (Zal Zcq) (Zah Zcq) (Zm Zcq) .none kV18 dc18 pm18 an18 cd18 ct18),sl18⟩) (c18:W.codeIn K cd18 "_law_next" = true) (k18:W.keepIn K (.ref f18) = true)
  (a19:W.nsIn K mainGlobals "_law_roll" = some (some (.ref f19))) (l19:K.lookup f19 = some ⟨oc19,od19,.func (W.fnOf "_law_roll" "_law_roll" (Zal Zcn) (Zah Zcn) (Zm Zcn) .none kV19 dc19 pm19 an19 cd19 ct19),sl19⟩) (c19:W.codeIn K cd19 "_law_roll" = true) (k19:W.keepIn K (.ref f19) = true)
  (a20:W.nsIn K mainGlobals "_law_behind" = some (some (.ref f20))) (l20:K.lookup f20 = some ⟨oc20,od20,.func (W.fnOf "_law_behind" "_law_behind" (Zal ZbC) (Zah ZbC) (Zm ZbC) .none kV20 dc20 pm20 an20 cd20 ct20),sl20⟩) (c20:W.codeIn K cd20 "_law_behind" = true) (k20:W.keepIn K (.ref f20) = true)
  (a21:W.nsIn K mainGlobals "_law_cells_with" = some (some (.ref f21))) (l21:K.lookup f21 = some ⟨oc21,od21,.func (W.fnOf "_law_cells_with" "_law_cells_with" (Zal Za0) (Zah Za0) (Zm Za0) .none kV21 dc21 pm21 an21 cd21 ct21),sl21⟩) (c21:W.codeIn K cd21 "_law_cells_with" = true) (k21:W.keepIn K (.ref f21) = true)
  (a22:W.nsIn K mainGlobals "_law_next_state" = some (some (.ref f22))) (l22:K.lookup f22 = some ⟨oc22,od22,.func (W.fnOf "_law_next_state" "_law_next_state" (Zal ZaZ) (Zah ZaZ) (Zm ZaZ) .none kV22 dc22 pm22 an22 cd22 ct22),sl22⟩) (c22:W.codeIn K cd22 "_law_next_state" = true) (k22:W.keepIn K (.ref f22) = true)
  (a23:W.nsIn K mainGlobals "_law_run" = some (some (.ref f23))) (l23:K.lookup f23 = some ⟨oc23,od23,.func (W.fnOf "_law_run" "_law_run" (Zal ZcN) (Zah ZcN) (Zm ZcN) .none kV23 dc23 pm23 an23 cd23 ct23),sl23⟩) (c23:W.codeIn K cd23 "_law_run" = true) (k23:W.keepIn K (.ref f23) = true)
  (a24:W.nsIn K mainGlobals "_law_boxes" = some (some (.ref f24))) (l24:K.lookup f24 = some ⟨oc24,od24,.func (W.fnOf "_law_boxes" "_law_boxes" (Zal ZbY) (Zah ZbY) (Zm ZbY) .none kV24 dc24 pm24 an24 cd24 ct24),sl24⟩) (c24:W.codeIn K cd24 "_law_boxes" = true) (k24:W.keepIn K (.ref f24) = true)
  (a25:W.nsIn K mainGlobals "_law_other" = some (some (.ref f25))) (l25:K.lookup f25 = some ⟨oc25,od25,.func (W.fnOf "_law_other" "_law_other" (Zal Zb6) (Zah Zb6) (Zm Zb6) .none kV25 dc25 pm25 an25 cd25 ct25),sl25⟩) (c25:W.codeIn K cd25 "_law_other" = true) (k25:W.keepIn K (.ref f25) = true)
  (a26:W.nsIn K mainGlobals "_law_liar" = some (some (.ref f26))) (l26:K.lookup f26 = some ⟨oc26,od26,.func (W.fnOf "_law_liar" "_law_liar" (Zal Zcu) (Zah Zcu) (Zm Zcu) .none kV26 dc26 pm26 an26 cd26 ct26),sl26⟩) (c26:W.codeIn K cd26 "_law_liar" = true) (k26:W.keepIn K (.ref f26) = true)
  (a27:W.nsIn K mainGlobals "_law_figures" = some (some (.ref f27))) (l27:K.lookup f27 = some ⟨oc27,od27,.func (W.fnOf "_law_figures" "_law_figures" (Zal Zbw) (Zah Zbw) (Zm Zbw) .none kV27 dc27 pm27 an27 cd27 ct27),sl27⟩) (c27:W.codeIn K cd27 "_law_figures" = true) (k27:W.keepIn K (.ref f27) = true)
  (a28:PySem.W.findIn K (.ref C_Teller) "times_asked" = some (some (.ref f28))) (i28:PySem.W.isFn K (.ref f28) = true) (l28:K.lookup f28 = some ⟨oc28,od28,.func (W.fnOf "times_asked" "Teller.times_asked" (Zal ZaQ) (Zah ZaQ) (Zm ZaQ) .none kV28 dc28 pm28 an28 cd28 ct28),sl28⟩) (c28:W.codeIn K cd28 "Teller.times_asked" = true) (k28:W.keepIn K (.ref f28) = true)
  (a29:W.nsIn K mainGlobals "_law_fair" = some (some (.ref f29))) (l29:K.lookup f29 = some ⟨oc29,od29,.func (W.fnOf "_law_fair" "_law_fair" (Zal Zcs) (Zah Zcs) (Zm Zcs) .none kV29 dc29 pm29 an29 cd29 ct29),sl29⟩) (c29:W.codeIn K cd29 "_law_fair" = true) (k29:W.keepIn K (.ref f29) = true)
  (a30:PySem.W.findIn K (.ref C_Teller) "__init__" = some (some (.ref f30))) (i30:PySem.W.isFn K (.ref f30) = true) (l30:K.lookup f30 = some ⟨oc30,od30,.func (W.fnOf "__init__" "Teller.__init__" (Zal Za2) (Zah Za2) (Zm Za2) .none kV30 dc30 pm30 an30 cd30 ct30),sl30⟩) (c30:W.codeIn K cd30 "Teller.__init__" = true) (k30:W.keepIn K (.ref f30) = true)
  (a31:W.nsIn K mainGlobals "law" = some (some (.ref f31))) (l31:K.lookup f31 = some ⟨oc31,od31,.func (W.fnOf "law" "law" (Zal ZfC) (Zah ZfC) (Zm ZfC) .none kV31 dc31 pm31 an31 cd31 ct31),sl31⟩) (c31:W.codeIn K cd31 "law" = true) (k31:W.keepIn K (.ref f31) = true)
  (z_bool:W.nsIn K mainGlobals "bool" = some none)
  (z_dict:W.nsIn K mainGlobals "dict" = some none)
  (z_enumerate:W.nsIn K mainGlobals "enumerate" = some none)
  (z_int:W.nsIn K mainGlobals "int" = some none)
  (z_isinstance:W.nsIn K mainGlobals "isinstance" = some none)
  (z_len:W.nsIn K mainGlobals "len" = some none)
  (z_list:W.nsIn K mainGlobals "list" = some none)
  (z_range:W.nsIn K mainGlobals "range" = some none)
  (z_sorted:W.nsIn K mainGlobals "sorted" = some none)
  (z_tuple:W.nsIn K mainGlobals "tuple" = some none):
  ∃ fd:FuncData,(∀ (s:Shared) (v:Value),BindsTo s fd ⟨[v],[]⟩ [("script",v)]) ∧ ∀ base:Heap,K.In base → base.Ns mainGlobals mg → Zdw l.prog w K mg base CX0 6 fa fd ["script"] (sp3 K 1 Zla):=by
 have e:=hfa.symm.trans (W.mg_of X G a31)
 cases e
 have T:Txt K mg:=⟨trivial,W.mg_none_of X G z_bool,W.mg_none_of X G z_dict,W.mg_none_of X G z_enumerate,W.mg_none_of X G z_int,W.mg_none_of X G z_isinstance,W.mg_none_of X G z_len,W.mg_none_of X G z_list,W.mg_none_of X G z_range,W.mg_none_of X G z_sorted,W.mg_none_of X G z_tuple⟩
 have O_Teller:Zb2 K mg C_Teller:=⟨⟨by unfold L3.ClsAt; rw [show (⟨([84,101,108,108,101,114]:List Nat).toArray⟩:Str) = "Teller" by decide +kernel]; exact w_Teller_a,⟨w_Teller_pg,w_Teller_hd,w_Teller_po,w_Teller_sa⟩,by decide⟩,W.mg_of X G w_Teller_a,by rw [show nm [97,115,107,101,100] = "asked" by decide +kernel]; exact w_Teller_n_asked,by rw [show nm [115,116,97,116,101,115] = "states" by decide +kernel]; exact w_Teller_n_states⟩
 have D_first_state:Zay K mg "first_state" ZbD ["boxes"]:=ZaA X G a0 l0 c0 k0 (Binds.all (ub1 fun _=>rfl))
 have D_next_place:Zay K mg "next_place" ZbW ["row","place","boxes"]:=ZaA X G a1 l1 c1 k1 (Binds.all (ub3 fun _ _ _=>rfl))
 have D_worked:Zay K mg "worked" ZdW ["name","one","other"]:=ZaA X G a2 l2 c2 k2 (Binds.all (ub3 fun _ _ _=>rfl))
 have D_with_box:Zay K mg "with_box" ZcM ["boxes","box","value"]:=ZaA X G a3 l3 c3 k3 (Binds.all (ub3 fun _ _ _=>rfl))
 have D_cell_value:Zay K mg "cell_value" Zb0 ["cells","number"]:=ZaA X G a4 l4 c4 k4 (Binds.all (ub2 fun _ _=>rfl))
 have D_next_boxes:Zay K mg "next_boxes" Zb4 ["row","boxes","cells"]:=ZaA X G a5 l5 c5 k5 (Binds.all (ub3 fun _ _ _=>rfl))
 have D_with_cell:Zay K mg "with_cell" Zco ["cells","number","value"]:=ZaA X G a6 l6 c6 k6 (Binds.all (ub3 fun _ _ _=>rfl))
 have D_next_cells:Zay K mg "next_cells" ZbZ ["row","boxes","cells"]:=ZaA X G a7 l7 c7 k7 (Binds.all (ub3 fun _ _ _=>rfl))
 have D_next_state:Zay K mg "next_state" Zb5 ["roll","state"]:=ZaA X G a8 l8 c8 k8 (Binds.all (ub2 fun _ _=>rfl))
 have D_ended:Zay K mg "ended" ZeV ["roll","states"]:=ZaA X G a9 l9 c9 k9 (Binds.all (ub2 fun _ _=>rfl))
 have D_run:Zay K mg "run" Zh1 ["roll","boxes","most"]:=ZaA X G a10 l10 c10 k10 (fun s us hK hl=>by rw [List.append_nil] at hl ⊢; exact match us,hl with | [_,_,_],_=>BindsTo.of_defaults rfl (hK _ _ d10) rfl rfl rfl)
 have D_is_within:Zay K mg "is_within" Zct ["number","many"]:=ZaA X G a11 l11 c11 k11 (Binds.all (ub2 fun _ _=>rfl))
 have D_Teller_many:Zgo K C_Teller "many" "Teller.many" ZbE ["self"]:=Zg2 a12 i12 l12 c12 k12 (Binds.all (ub1 fun _=>rfl))
 have D_Teller_state_at:Zgo K C_Teller "state_at" "Teller.state_at" Za3 ["self","time"]:=Zg2 a13 i13 l13 c13 k13 (Binds.all (ub2 fun _ _=>rfl))
 have D_both_at:Zay K mg "both_at" Zdj ["one","other","time"]:=ZaA X G a14 l14 c14 k14 (Binds.all (ub3 fun _ _ _=>rfl))
 have D_are_unlike:Zay K mg "are_unlike" ZbX ["both"]:=ZaA X G a15 l15 c15 k15 (Binds.all (ub1 fun _=>rfl))
 have D_wrong_ones:Zay K mg "wrong_ones" Zb3 ["roll","state","both"]:=ZaA X G a16 l16 c16 k16 (Binds.all (ub3 fun _ _ _=>rfl))
 have D_judged:Zay K mg "judged" Zd4 ["roll","one","other"]:=ZaA X G a17 l17 c17 k17 (Binds.all (ub3 fun _ _ _=>rfl))
 have D__law_next:Zay K mg "_law_next" Zcq ["deck"]:=ZaA X G a18 l18 c18 k18 (Binds.all (ub1 fun _=>rfl))
 have D__law_roll:Zay K mg "_law_roll" Zcn ["cells"]:=ZaA X G a19 l19 c19 k19 (Binds.all (ub1 fun _=>rfl))
 have D__law_behind:Zay K mg "_law_behind" ZbC ["deed","place","boxes","held"]:=ZaA X G a20 l20 c20 k20 (Binds.all (ub4 fun _ _ _ _=>rfl))
 have D__law_cells_with:Zay K mg "_law_cells_with" Za0 ["cells","number","value"]:=ZaA X G a21 l21 c21 k21 (Binds.all (ub3 fun _ _ _=>rfl))
 have D__law_next_state:Zay K mg "_law_next_state" ZaZ ["roll","state"]:=ZaA X G a22 l22 c22 k22 (Binds.all (ub2 fun _ _=>rfl))
 have D__law_run:Zay K mg "_law_run" ZcN ["roll","boxes","most"]:=ZaA X G a23 l23 c23 k23 (Binds.all (ub3 fun _ _ _=>rfl))
 have D__law_boxes:Zay K mg "_law_boxes" ZbY ["deck"]:=ZaA X G a24 l24 c24 k24 (Binds.all (ub1 fun _=>rfl))
 have D__law_other:Zay K mg "_law_other" Zb6 ["state","cell"]:=ZaA X G a25 l25 c25 k25 (Binds.all (ub2 fun _ _=>rfl))
 have D__law_liar:Zay K mg "_law_liar" Zcu ["deck","roll","states"]:=ZaA X G a26 l26 c26 k26 (Binds.all (ub3 fun _ _ _=>rfl))
 have D__law_figures:Zay K mg "_law_figures" Zbw ["number"]:=ZaA X G a27 l27 c27 k27 (Binds.all (ub1 fun _=>rfl))
 have D_Teller_times_asked:Zgo K C_Teller "times_asked" "Teller.times_asked" ZaQ ["self"]:=Zg2 a28 i28 l28 c28 k28 (Binds.all (ub1 fun _=>rfl))
 have D__law_fair:Zay K mg "_law_fair" Zcs ["found","states","liar","truth_first","tellers"]:=ZaA X G a29 l29 c29 k29 (Binds.all (ub5 fun _ _ _ _ _=>rfl))
 have D_Teller___init__:ZnQ K C_Teller "Teller.__init__" Za2 ["self","states"]:=Zn1 w_Teller_mk w_Teller_kp a30 i30 l30 c30 k30 (Binds.all (ub2 fun _ _=>rfl))
 refine ⟨W.fnOf "law" "law" (Zal ZfC) (Zah ZfC) (Zm ZfC) .none kV31 dc31 pm31 an31 cd31 ct31,fun s v=>.of_eq rfl,fun base _ _=>?_⟩
 have F_first_state:=Zhe (P:=l.prog) (w:=w) (base:=base) D_first_state T
 have F_next_place:=ZhC (P:=l.prog) (w:=w) (base:=base) D_next_place T
 have F_worked:=ZlN (P:=l.prog) (w:=w) (base:=base) D_worked T
 have F_with_box:=Zjx (P:=l.prog) (w:=w) (base:=base) D_with_box T
 have F_cell_value:=ZhA (P:=l.prog) (w:=w) (base:=base) D_cell_value T
 have F_next_boxes:=ZhG (P:=l.prog) (w:=w) (base:=base) D_next_boxes T F_worked F_with_box F_cell_value
 have F_with_cell:=Ziq (P:=l.prog) (w:=w) (base:=base) D_with_cell T
 have F_next_cells:=Zhu (P:=l.prog) (w:=w) (base:=base) D_next_cells T F_with_cell
 have F_next_state:=ZhN (P:=l.prog) (w:=w) (base:=base) D_next_state T F_next_place F_next_boxes F_next_cells
 have F_ended:=ZmM (P:=l.prog) (w:=w) (base:=base) D_ended T
 have F_run:=Zpv (P:=l.prog) (w:=w) (base:=base) D_run T F_first_state F_next_state F_ended
 have F_is_within:=ZiK (P:=l.prog) (w:=w) (base:=base) D_is_within T
 have M_Teller_many:=Zha (P:=l.prog) (w:=w) (base:=base) O_Teller D_Teller_many T
 have M_Teller_state_at:=Zfp (P:=l.prog) (w:=w) (base:=base) O_Teller D_Teller_state_at T F_is_within
 have F_both_at:=Zka (P:=l.prog) (w:=w) (base:=base) D_both_at T O_Teller M_Teller_state_at
 have F_are_unlike:=ZhO (P:=l.prog) (w:=w) (base:=base) D_are_unlike T
 have F_wrong_ones:=ZhE (P:=l.prog) (w:=w) (base:=base) D_wrong_ones T F_next_state
 have F_judged:=Zl1 (P:=l.prog) (w:=w) (base:=base) D_judged T O_Teller M_Teller_many F_both_at F_are_unlike F_wrong_ones
 have F__law_next:=ZiQ (P:=l.prog) (w:=w) (base:=base) D__law_next T
 have F__law_roll:=Ziv (P:=l.prog) (w:=w) (base:=base) D__law_roll T
 have F__law_behind:=ZgV (P:=l.prog) (w:=w) (base:=base) D__law_behind T
 have F__law_cells_with:=Zfw (P:=l.prog) (w:=w) (base:=base) D__law_cells_with T
 have F__law_next_state:=Zfk (P:=l.prog) (w:=w) (base:=base) D__law_next_state T F__law_behind F__law_cells_with
 have F__law_run:=ZjM (P:=l.prog) (w:=w) (base:=base) D__law_run T F__law_next_state
 have F__law_boxes:=ZhD (P:=l.prog) (w:=w) (base:=base) D__law_boxes T F__law_next
 have F__law_other:=ZhI (P:=l.prog) (w:=w) (base:=base) D__law_other T F__law_cells_with
 have F__law_liar:=ZiY (P:=l.prog) (w:=w) (base:=base) D__law_liar T F__law_next F__law_next_state F__law_other
 have F__law_figures:=Zgr (P:=l.prog) (w:=w) (base:=base) D__law_figures T
 have M_Teller_times_asked:=Zex (P:=l.prog) (w:=w) (base:=base) O_Teller D_Teller_times_asked T
 have F__law_fair:=Zis (P:=l.prog) (w:=w) (base:=base) D__law_fair T O_Teller M_Teller_times_asked F__law_figures
 have M_Teller___init__:=Zfo (P:=l.prog) (w:=w) (base:=base) O_Teller D_Teller___init__ T
 exact Zpp (Zmk (st:=ZfC) l31 c31 k31) T O_Teller F_run M_Teller___init__ F_judged F__law_next F__law_roll F__law_run F__law_boxes F__law_liar F__law_fair
end Law
open PySem PySem.W PyProof.Rows
set_option maxRecDepth 100000 in
set_option maxHeartbeats 0 in
theorem PySem.Challenge.cw_stepledger_k53_whole_true_teller_holds : PySem.Challenge.rw_stepledger_k53_whole_true_teller.Holds := by
 w_on; o_law; k_head; (case hw=>w_witness2)
 k_fill
 refine L3.Zrp (l:=PySem.Challenge.rw_stepledger_k53_whole_true_teller) (k:=6) (F:=Law.Zla) rfl rfl ⟨rfl,by decide,by decide⟩ (fun w h Y=>W.kIn_of Y) ?G Law.law_holds
 case G=>
  intro w mg fa h KX G hmg
  refine' Law.Zp6 KX G hmg ?w_Teller_a ?w_Teller_pg ?w_Teller_hd ?w_Teller_po ?w_Teller_sa ?w_Teller_mk ?w_Teller_kp ?w_Teller_n_asked ?w_Teller_n_states ?a0 ?l0 ?c0 ?k0 ?a1 ?l1 ?c1 ?k1 ?a2 ?l2 ?c2 ?k2 ?a3 ?l3 ?c3 ?k3 ?a4 ?l4 ?c4 ?k4 ?a5 ?l5 ?c5 ?k5 ?a6 ?l6 ?c6 ?k6 ?a7 ?l7 ?c7 ?k7 ?a8 ?l8 ?c8 ?k8 ?a9 ?l9 ?c9 ?k9 ?a10 ?l10 ?c10 ?k10 ?d10 ?a11 ?l11 ?c11 ?k11 ?a12 ?i12 ?l12 ?c12 ?k12 ?a13 ?i13 ?l13 ?c13 ?k13 ?a14 ?l14 ?c14 ?k14 ?a15 ?l15 ?c15 ?k15 ?a16 ?l16 ?c16 ?k16 ?a17 ?l17 ?c17 ?k17 ?a18 ?l18 ?c18 ?k18 ?a19 ?l19 ?c19 ?k19 ?a20 ?l20 ?c20 ?k20 ?a21 ?l21 ?c21 ?k21 ?a22 ?l22 ?c22 ?k22 ?a23 ?l23 ?c23 ?k23 ?a24 ?l24 ?c24 ?k24 ?a25 ?l25 ?c25 ?k25 ?a26 ?l26 ?c26 ?k26 ?a27 ?l27 ?c27 ?k27 ?a28 ?i28 ?l28 ?c28 ?k28 ?a29 ?l29 ?c29 ?k29 ?a30 ?i30 ?l30 ?c30 ?k30 ?a31 ?l31 ?c31 ?k31 ?z_bool ?z_dict ?z_enumerate ?z_int ?z_isinstance ?z_len ?z_list ?z_range ?z_sorted ?z_tuple
  (case w_Teller_a=>k_is)
  (case w_Teller_pg=>k_is)
  (case w_Teller_hd=>k_is)
  (case w_Teller_po=>k_is)
  (case w_Teller_sa=>k_is)
  (case w_Teller_mk=>k_is)
  (case w_Teller_kp=>k_is)
  (case w_Teller_n_asked=>k_is)
  (case w_Teller_n_states=>k_is)
  (case a0=>k_is)
  (case l0=>k_is)
  (case c0=>k_is)
  (case k0=>k_is)
  (case a1=>k_is)
  (case l1=>k_is)
  (case c1=>k_is)
  (case k1=>k_is)
  (case a2=>k_is)
  (case l2=>k_is)
  (case c2=>k_is)
  (case k2=>k_is)
  (case a3=>k_is)
  (case l3=>k_is)
  (case c3=>k_is)
  (case k3=>k_is)
  (case a4=>k_is)
  (case l4=>k_is)
  (case c4=>k_is)
  (case k4=>k_is)
  (case a5=>k_is)
  (case l5=>k_is)
  (case c5=>k_is)
  (case k5=>k_is)
  (case a6=>k_is)
  (case l6=>k_is)
  (case c6=>k_is)
  (case k6=>k_is)
  (case a7=>k_is)
  (case l7=>k_is)
  (case c7=>k_is)
  (case k7=>k_is)
  (case a8=>k_is)
  (case l8=>k_is)
  (case c8=>k_is)
  (case k8=>k_is)
  (case a9=>k_is)
  (case l9=>k_is)
  (case c9=>k_is)
  (case k9=>k_is)
  (case a10=>k_is)
  (case l10=>k_is)
  (case c10=>k_is)
  (case k10=>k_is)
  (case d10=>k_is)
  (case a11=>k_is)
  (case l11=>k_is)
  (case c11=>k_is)
  (case k11=>k_is)
  (case a12=>k_is)
  (case i12=>k_is)
  (case l12=>k_is)
  (case c12=>k_is)
  (case k12=>k_is)
  (case a13=>k_is)
  (case i13=>k_is)
  (case l13=>k_is)
  (case c13=>k_is)
  (case k13=>k_is)
  (case a14=>k_is)
  (case l14=>k_is)
  (case c14=>k_is)
  (case k14=>k_is)
  (case a15=>k_is)
  (case l15=>k_is)
  (case c15=>k_is)
  (case k15=>k_is)
  (case a16=>k_is)
  (case l16=>k_is)
  (case c16=>k_is)
  (case k16=>k_is)
  (case a17=>k_is)
  (case l17=>k_is)
  (case c17=>k_is)
  (case k17=>k_is)
  (case a18=>k_is)
  (case l18=>k_is)
  (case c18=>k_is)
  (case k18=>k_is)
  (case a19=>k_is)
  (case l19=>k_is)
  (case c19=>k_is)
  (case k19=>k_is)
  (case a20=>k_is)
  (case l20=>k_is)
  (case c20=>k_is)
  (case k20=>k_is)
  (case a21=>k_is)
  (case l21=>k_is)
  (case c21=>k_is)
  (case k21=>k_is)
  (case a22=>k_is)
  (case l22=>k_is)
  (case c22=>k_is)
  (case k22=>k_is)
  (case a23=>k_is)
  (case l23=>k_is)
  (case c23=>k_is)
  (case k23=>k_is)
  (case a24=>k_is)
  (case l24=>k_is)
  (case c24=>k_is)
  (case k24=>k_is)
  (case a25=>k_is)
  (case l25=>k_is)
  (case c25=>k_is)
  (case k25=>k_is)
  (case a26=>k_is)
  (case l26=>k_is)
  (case c26=>k_is)
  (case k26=>k_is)
  (case a27=>k_is)
  (case l27=>k_is)
  (case c27=>k_is)
  (case k27=>k_is)
  (case a28=>k_is)
  (case i28=>k_is)
  (case l28=>k_is)
  (case c28=>k_is)
  (case k28=>k_is)
  (case a29=>k_is)
  (case l29=>k_is)
  (case c29=>k_is)
  (case k29=>k_is)
  (case a30=>k_is)
  (case i30=>k_is)
  (case l30=>k_is)
  (case c30=>k_is)
  (case k30=>k_is)
  (case a31=>k_is)
  (case l31=>k_is)
  (case c31=>k_is)
  (case k31=>k_is)
  (case z_bool=>k_is)
  (case z_dict=>k_is)
  (case z_enumerate=>k_is)
  (case z_int=>k_is)
  (case z_isinstance=>k_is)
  (case z_len=>k_is)
  (case z_list=>k_is)
  (case z_range=>k_is)
  (case z_sorted=>k_is)
  (case z_tuple=>k_is)
