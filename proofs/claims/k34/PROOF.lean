import PyProof.Rows.All
import Wide.All
import OpenK.AllK
import Wide.FinOn
import Lean
import PyProof.EqAt
import PyProof.EqKinds
import PyProof.TupleCall
import PySem.Challenge.RW_stepledger_k34_fault_is_the_first
open PySem.W renaming Frag -> Ya, codeIn -> Yak, keepIn -> Yal, nsIn -> Ya1, kia_one -> Ya2, fnOf -> Ybj, mg_none_of -> Yb6, fnOf -> Yc2, keepIn -> Yd6, codeIn -> Ye3, methodObj -> Ye8, cellsFrom_some -> Yfx, instObj -> Ygb, lookIn -> Yg9
open Nat renaming sub_add_cancel -> Yb, le_refl -> Yj, le_antisymm -> Ym, le_add_right -> Yw, lt_of_lt_of_le -> Yx, ne_of_lt -> Yy, lt_of_le_of_ne -> Yz, le_trans -> Y2, le_of_not_lt -> Yaa, zero_le -> Yag, sub_le -> Ya9, lt_succ_of_lt -> Ybc, eq_of_beq_eq_true -> Ybn, min_le_left -> Ybq, min_le_right -> Ybx, beq -> Ycd, le_of_eq -> Ycr, lt_irrefl -> Ycs, le_of_lt -> Ycz, zero_add -> Ydj, lt_of_le_of_lt -> Ydu, mul_div_le -> Ye5, min_eq_right -> Yfq, ble -> Yf4, le_of_ble_eq_true -> Yf5, min_eq_left -> Yf6, ne_of_gt -> Ygd, lt_trans -> Ygm, sub_eq_zero_of_le -> Ygr, le_add_left -> Ygs, add_le_add_right -> Ygy, mul_le_mul_left -> Yhc, lt_mul_div_succ -> Yhp
open List renaming getElem?_eq_some_iff -> Yc, getElem?_cons_succ -> Yf, replicate -> Yg, getElem?_cons_zero -> Yh, size_toArray -> Yi, getElem?_eq_getElem -> Yo, append_nil -> Yp, range -> Yt, getElem_mem -> Yu, getElem?_append_left -> Y0, getElem?_map -> Y1, mem_cons_of_mem -> Y3, getElem?_set_self -> Y4, mem_cons_self -> Y7, map_cons -> Y9, getElem?_set_ne -> Yab, length_map -> Yac, all_eq_true -> Yaf, mem_cons -> Yah, length_append -> Yaj, getElem?_append_right -> Yan, append_assoc -> Yao, lookup_cons -> Yap, mem_append_right -> Yar, getD_eq_getElem?_getD -> Yau, mem_of_getElem? -> Yax, take_of_length_le -> Yay, replicate_succ -> Ya4, length_cons -> Ya5, any_cons -> Yba, ext_getElem? -> Ybb, mem_append -> Ybe, mem_map -> Ybi, drop_eq_getElem_cons -> Ybm, find?_cons -> Ybp, pairwise_cons -> Ybt, set_cons_succ -> Ybu, set_cons_zero -> Ybv, any_eq_true -> Yby, eq_nil_of_length_eq_zero -> Ybz, getElem?_of_mem -> Yb0, all_cons -> Yb2, set_set -> Yb5, flatten_cons -> Yb8, getLast?_eq_getElem? -> Ycf, mem_filter -> Ycj, nodup_cons -> Ycm, getElem?_take_of_lt -> Ycn, nil_append -> Ycp, getElem?_replicate -> Yct, length_singleton -> Yc4, Nodup -> Yda, not_mem_nil -> Ydd, map_congr_left -> Ydh, all_nil -> Ydp, mem_singleton -> Yds, set_eq_take_append_cons_drop -> Ydw, pairwise_map -> Yd1, length_range -> Yd3, length_take -> Yea, cons_append -> Yeb, filterMap_cons -> Yeg, length_set -> Yek, map_map -> Ye0, all_map -> Ye1, toArray -> Ye2, drop_zero -> Ye4, getLastD_eq_getLast? -> Ye6, map_dropLast -> Yfc, filter_cons_of_pos -> Yfk, filter_cons_of_neg -> Yfl, map_take -> Yfo, range' -> Yfp, getElem_inj -> Yfr, drop_length -> Yft, range'_succ -> Yfv, range_succ_eq_map -> Yf1, drop_eq_nil_of_le -> Yf2, getElem?_dropLast -> Yf3, of_mem_zip -> Ygg, length_replicate -> Ygh, foldl_cons -> Ygk, length_nil -> Ygl, set_append_right -> Ygn, map_append -> Ygo, map_set -> Ygv, mem_append_left -> Ygz, pairwise_append -> Yg4, mem_of_mem_take -> Yg7, mem_of_mem_drop -> Yg8, map_drop -> Yh0, map_nil -> Yib, not_lt -> Yih
open PySem renaming wpAny_bind -> Yd, Shared -> Ye, mainGlobals -> Yl, wpAny_pure -> Ys, sizeLine -> Y8, starEach -> Yad, Program -> Yai, assignEach -> Yam, Around -> Yas, bootBuiltins -> Yaw, wpAny_holding -> Yaz, compareOp -> Ya0, mem_of_lookup -> Ya3, sizeLine_eq -> Ybf, wpAny_loadPart' -> Ybo, wpAny_mono -> Ybr, binaryOp -> Ybs, wpAny_callSpecial?_slot -> Yb1, wpAny_newObj_type -> Yb7, wpAny_passesOwn -> Yck, foldedSetIterable -> Ycl, wpAny_call_entry -> Ycw, wpAny_pyIter_tuple -> Ycy, holding -> Yc0, sysModules -> Yc7, wpAny_truthy_bool -> Yc8, assign -> Ydb, wpAny_field -> Ydg, letOwnedTupleGo -> Ydq, sliceBounds -> Ydz, slicePicked -> Yd2, wpAny_pyIter_enum -> Yd4, backTo -> Yd9, swapsWithSole -> Yed, swappedStores -> Yee, wpAny_execs_nil -> Yeh, swapsWith -> Yei, wpAny_letOwnedTupleGo_enum -> Yeq, wpAny_Call_Name_kw -> Yew, wpAny_typeOf -> Yex, tupleKind_room_in1 -> Yez, wpAny_comprehension_free -> Yfa, wpAny_standAt -> Yfd, behindInMarks -> Yfe, getItem -> Yff, attributeBase -> Yfg, noFill_tuple_add -> Yfs, wpAny_pyNext_list_item -> Yfw, tupleKind -> Yga, wpAny_pyNext_list_end -> Yge, codeAny -> Ygf, wpAny_rule -> Ygx, intText? -> Yhb, subscripted -> Yhe, keywordEach -> Yhn, callerA -> Yho, pyNext -> Yhv, seq_tuple_add -> Yhw, standAt -> Yh1, setItem -> Yh2, call_meets -> Yh3, valueAt -> Yh4, relabel -> Yh5, codeAny_mono -> Yh8, concat_meets -> Yh9, seqIndex_neg -> Yia, call_meetsIn -> Yic, BindsTo -> Yif, seqIndex_of -> Yig, rawInt -> Yik, release -> Yil
open PySem.Heap renaming get?_push_of_some -> Yk, lt_size -> Yr, get?_push_size -> Y6, get?_push_ne -> Ycq, size_update -> Yde, SameBut -> Yd8, get?_update_other -> Yfz, get?_update_self -> Ygi, get?_update_ne -> Yhq, ExtBut -> Yij
open Classical renaming propDecidable -> Yn
open Option.some renaming inj -> Yq, injEq -> Ya7
open Bool renaming and_eq_true -> Yv, false_eq_true -> Yae, false_ne_true -> Yaq, false_and -> Yb4, or_eq_true -> Yca, and_eq_true_iff -> Ych, and_self -> Ycu, true_and -> Ycv, beq_eq_decide_eq -> Yc6, eq_iff_iff -> Yej, false_or -> Yfh, and_true -> Yfm, decide_and -> Ygw
open Int renaming toNat_of_nonneg -> Y5, toNat_natCast -> Yav, eq_ofNat_of_zero_le -> Ya6, self_le_toNat -> Ya8, natCast_nonneg -> Ybd, emod_nonneg -> Ybh, emod_lt_of_pos -> Ybw, ofNat_lt -> Yb3, le_antisymm -> Yb9, le_of_eq -> Ycc, ofNat_eq_natCast -> Yci, zero_add -> Ydk, add_zero -> Ydl, ofNat_le -> Yd7, lt_iff_le_and_ne -> Yec, not_lt -> Yef, le_of_lt -> Yer, not_le -> Ye7, lt_mul_ediv_self_add -> Yfb, natCast_add -> Yf7, mul_zero -> Yf8, natCast_mul -> Yf9, sub_zero -> Yh7, mul_add -> Yie
open Ne renaming symm -> Yat
open Array renaming getD_eq_getD_getElem? -> Ybg, length_toList -> Ydf, toList -> Yeu, getElem?_toList -> Ygq, mem_of_getElem? -> Ygt
open False renaming elim -> Ybk
open PyProof.Rows renaming slot_tuple_getitem -> Ybl, callWith_type1 -> Yc1, slot_tupleiter_next -> Ydi, kindOf -> Ye9, seqObj -> Yfu, subscriptTail_builtinR -> Yfy, AllBare -> Ygc, entry_tupleiter_next -> Yg6, envOfC -> Yha, entry_tuple_getitem -> Yhd, args_tupleiter_next -> Yhr, le_int -> Yht, subscriptTail -> Yhx, listUpdate_at -> Yhy, size_push' -> Yh6, SortKind -> Yid, seqEpoch_at -> Yii
open PySem.Builtin.Str renaming strSliceIndices -> Ycb
open PySem.Builtin.Slice renaming slicePlaces -> Yce, sliceAdjust -> Ydc, sliceApplied -> Yeo
open PySem.Builtin.SmallTypes renaming nextOf -> Ycg
open PySem.Builtin.Tuple renaming tupleExact -> Yco, tupleItemsOf -> Yep
open PySem.Str renaming length -> Ycx, ofString -> Yc3
open PySem.F renaming slot_dict_get -> Yc5, args_tuple_add_2 -> Ydn, entry_tuple_add -> Ydr, slot_tuple_add -> Ydx, entry_dict_get -> Ydy, args_dict_get_3 -> Yfi, slot_enumerate_next -> Ygu
open PySem.Obj renaming mapSeq -> Yc9
open Option renaming isSome_iff_exists -> Ydm, map_some -> Yem, isSome_some -> Yey
open PySem.Builtin.List renaming listTooLong -> Ydo
open Eq renaming trans -> Ydt
open Array.Perm renaming refl -> Ydv
open PySem.SeqAt renaming EqAt -> Yd0
open PyProof.Rows.KTD renaming datumAt -> Yd5, TabOf -> Yhz
open List.cons renaming injEq -> Yel
open PySem.Calls renaming Name_function_global -> Yen, spliced_cons -> Yev, callWith_builtin -> Yf0, evalArgs_plain -> Yg3
open PySem.SeqAt.EqAt renaming int_str -> Yes, str_int -> Yet, same -> Ygj, none_bool -> Yg0, bool_none -> Yg1, bool_bool -> Yg2, none_int -> Yhf, none_str -> Yhg, bool_int -> Yhh, bool_str -> Yhi, int_none -> Yhj, int_bool -> Yhk, str_none -> Yhl, str_bool -> Yhm
open OfNat renaming ofNat -> Yfj
open PySem.Builtin.Dict renaming updateFrom -> Yfn
open PySem.PassesOwn renaming never -> Ygp
open PySem.Around renaming under_plainId -> Yg5
open PySem.Heap.SameBut renaming update -> Yhs
open PySem.Paired renaming length -> Yhu
namespace L3
set_option compiler.extract_closed false
set_option genSizeOf false in
set_option genInjectivity false in
inductive AE where
 | v (i:Nat)
 | k (n:Nat)
 | a (x y:AE)
 | m (n:Nat) (x:AE)
noncomputable def ZqW:List Nat -> Nat -> Nat
 | [],_=>0
 | x :: _,0=>x
 | _ :: l,n + 1=>ZqW l n
noncomputable def AE.ev (c:List Nat):AE -> Nat
 | .v i=>ZqW c i
 | .k n=>n
 | .a x y=>x.ev c + y.ev c
 | .m n x=>n * x.ev c
noncomputable def aL:List Nat -> List Nat -> List Nat
 | [],r=>r
 | x :: l,[]=>x :: l
 | x :: l,y :: r=>(x + y) :: aL l r
noncomputable def sL (n:Nat):List Nat -> List Nat
 | []=>[]
 | x :: l=>(n * x) :: sL n l
noncomputable def uL:Nat -> List Nat
 | 0=>[1]
 | n + 1=>0 :: uL n
noncomputable def AE.li:AE -> List Nat
 | .v i=>0 :: uL i
 | .k n=>[n]
 | .a x y=>aL x.li y.li
 | .m n x=>sL n x.li
noncomputable def dt:List Nat -> List Nat -> Nat
 | x :: c,y :: l=>x * y + dt c l
 | [],_=>0
 | _,[]=>0
noncomputable def leL:List Nat -> List Nat -> Bool
 | [],_=>true
 | x :: l,[]=>Yf4 x 0 && leL l []
 | x :: l,y :: r=>Yf4 x y && leL l r
theorem Zeq:∀ c,dt c [] = 0
 | []=>rfl
 | _ :: _=>rfl
theorem ZgH:∀ c l r,dt c (aL l r) = dt c l + dt c r
 | c,[],r=>by rw [Zeq,Ydj]; rfl
 | c,x :: l,[]=>by rw [Zeq]; rfl
 | [],x :: l,y :: r=>rfl
 | z :: c,x :: l,y :: r=>by
  show z * (x + y) + dt c (aL l r) = _;rw [ZgH c l r,Nat.mul_add]; exact Nat.add_add_add_comm _ _ _ _
theorem Zl3 (n:Nat):∀ c l,dt c (sL n l) = n * dt c l
 | c,[]=>by rw [Zeq]; exact Zeq c
 | [],x :: l=>rfl
 | z :: c,x :: l=>by
  show z * (n * x) + dt c (sL n l) = n * (z * x + dt c l);rw [Zl3 n c l,Nat.mul_add,Nat.mul_left_comm]
theorem Zr9:∀ c i,dt c (uL i) = ZqW c i
 | [],0=>rfl
 | [],_ + 1=>rfl
 | x :: c,0=>by show x * 1 + dt c [] = x; rw [Zeq,Nat.mul_one]; rfl
 | x :: c,n + 1=>by show x * 0 + dt c (uL n) = ZqW c n; rw [Zr9 c n,Nat.mul_zero,Ydj]
theorem ZhW:∀ c l r,leL l r = true -> dt c l <= dt c r
 | c,[],r,_=>by rw [Zeq]; exact Yag _
 | [],x :: l,r,_=>Yag _
 | z :: c,x :: l,[],h=>by
  have h:=(Yv _ _).mp h;have e:x = 0:=Nat.le_zero.1 (Yf5 h.1);have i:=ZhW c l [] h.2;rw [Zeq] at i;show z * x + dt c l <= 0;rw [e,Nat.le_zero.1 i]; exact Yj 0
 | z :: c,x :: l,y :: r,h=>
  have h:=(Yv _ _).mp h
  Nat.add_le_add (Yhc z (Yf5 h.1)) (ZhW c l r h.2)
theorem AE.li_ev (c:List Nat):∀ e:AE,dt (1 :: c) e.li = e.ev c
 | .v i=>(Ydj _).trans (Zr9 c i)
 | .k n=>by show 1 * n + dt c [] = n; rw [Zeq,Nat.one_mul]; rfl
 | .a x y=>(ZgH _ _ _).trans (congr (congrArg _ (x.li_ev c)) (y.li_ev c))
 | .m n x=>(Zl3 n _ _).trans (congrArg _ (x.li_ev c))
noncomputable def rdE:Nat -> Nat -> AE × Nat
 | 0,s=>(.k 0,s)
 | f + 1,s=>bif Yf4 (s % 16) 9 then (.v (s % 16),s / 16) else bif Ycd (s % 16) 10 then (.k 1,s / 16)
  else bif Ycd (s % 16) 11 then (.k (s / 256 % 16 ^ (s / 16 % 16)),s / 256 / 16 ^ (s / 16 % 16))
  else bif Ycd (s % 16) 12 then (.a (rdE f (s / 16)).1 (rdE f (rdE f (s / 16)).2).1,(rdE f (rdE f (s / 16)).2).2)
  else bif Ycd (s % 16) 13 then (.m (s / 16 % 256) (rdE f (s / 4096)).1,(rdE f (s / 4096)).2)
  else (.k 0,s / 16)
noncomputable def ZpV:Nat -> Nat -> Nat -> Prop
 | 0,x,y=>x <= y
 | 1,x,y=>x < y
 | 2,x,y=>x = y
 | 3,x,y=>x = y
 | 4,x,y=>¬ x <= y
 | 5,x,y=>¬ x < y
 | _,_,_=>False
noncomputable def loN:Nat -> AE -> AE -> List Nat
 | 0,x,_=>x.li
 | 1,x,_=>aL [1] x.li
 | 2,x,_=>x.li
 | 4,_,y=>aL [1] y.li
 | _,_,y=>y.li
noncomputable def hiN:Nat -> AE -> AE -> List Nat
 | 0,_,y=>y.li
 | 1,_,y=>y.li
 | 2,_,y=>y.li
 | _,x,_=>x.li
noncomputable def Zlo (c:List Nat):Nat -> Nat -> Prop
 | 0,s=>ZpV (s % 16) ((rdE 9 (s / 16)).1.ev c) ((rdE 9 (rdE 9 (s / 16)).2).1.ev c)
 | n + 1,s=>ZpV (s / 16 % 16) ((rdE 9 (s / 256)).1.ev c) ((rdE 9 (rdE 9 (s / 256)).2).1.ev c) -> Zlo c n (rdE 9 (rdE 9 (s / 256)).2).2
noncomputable def gN:Nat -> AE -> AE -> List Nat -> List Nat -> Bool
 | 0,x,y,L,R=>leL (aL R x.li) (aL L y.li)
 | 1,x,y,L,R=>leL (aL [1] (aL R x.li)) (aL L y.li)
 | _,_,_,L,R=>leL (aL [1] R) L
noncomputable def chN:Nat -> Nat -> List Nat -> List Nat -> Bool
 | 0,s,L,R=>gN (s % 16) (rdE 9 (s / 16)).1 (rdE 9 (rdE 9 (s / 16)).2).1 L R
 | n + 1,s,L,R=>chN n (rdE 9 (rdE 9 (s / 256)).2).2 (aL L (sL (s % 16) (loN (s / 16 % 16) (rdE 9 (s / 256)).1 (rdE 9 (rdE 9 (s / 256)).2).1))) (aL R (sL (s % 16) (hiN (s / 16 % 16) (rdE 9 (s / 256)).1 (rdE 9 (rdE 9 (s / 256)).2).1)))
theorem ZiW (c l:List Nat):dt (1 :: c) (aL [1] l) = dt (1 :: c) l + 1:=by
 rw [ZgH]; show 1 * 1 + dt c [] + _ = _; rw [Zeq]; exact Nat.add_comm _ _
theorem ZpI (c:List Nat) (x y:AE):∀ r,ZpV r (x.ev c) (y.ev c) -> dt (1 :: c) (loN r x y) <= dt (1 :: c) (hiN r x y)
 | 0,h=>by show dt _ x.li <= dt _ y.li; rw [x.li_ev,y.li_ev]; exact h
 | 1,h=>by show dt _ (aL [1] x.li) <= dt _ y.li; rw [ZiW,x.li_ev,y.li_ev]; exact h
 | 2,h=>by show dt _ x.li <= dt _ y.li; rw [x.li_ev,y.li_ev]; exact Ycr h
 | 3,h=>by show dt _ y.li <= dt _ x.li; rw [x.li_ev,y.li_ev]; exact Ycr h.symm
 | 4,h=>by show dt _ (aL [1] y.li) <= dt _ x.li; rw [ZiW,x.li_ev,y.li_ev]; exact Nat.lt_of_not_le h
 | 5,h=>by show dt _ y.li <= dt _ x.li; rw [x.li_ev,y.li_ev]; exact Yaa h
 | _ + 6,h=>h.elim
theorem Zu2 (c:List Nat) (x y:AE) (L R:List Nat) (h:dt (1 :: c) L <= dt (1 :: c) R):∀ r,gN r x y L R = true -> ZpV r (x.ev c) (y.ev c)
 | 0,k=>by
  have e:=ZhW (1 :: c) _ _ k;rw [ZgH,ZgH,x.li_ev,y.li_ev] at e;exact Nat.le_of_add_le_add_left (Y2 e (Ygy h _))
 | 1,k=>by
  have e:=ZhW (1 :: c) _ _ k;rw [ZiW,ZgH,ZgH,x.li_ev,y.li_ev] at e;exact Nat.lt_of_add_lt_add_left (Y2 e (Ygy h _))
 | r + 2,k=>by
  have e:=ZhW (1 :: c) _ _ k;rw [ZiW] at e;exact absurd (Y2 e h) (Nat.not_succ_le_self _)
theorem arN (c:List Nat):∀ (n s:Nat) (L R:List Nat),dt (1 :: c) L <= dt (1 :: c) R -> chN n s L R = true -> Zlo c n s
 | 0,s,L,R,h,k=>Zu2 c _ _ L R h _ k
 | n + 1,s,L,R,h,k=>fun g=>arN c n _ _ _ (by
   rw [ZgH,ZgH,Zl3,Zl3]; exact Nat.add_le_add h (Yhc _ (ZpI c _ _ _ g))) k
end L3
theorem lN (c:List Nat) (n s:Nat) (h:L3.chN n s [] [] = true):L3.Zlo c n s:=L3.arN c n s [] [] (Yj _) h
theorem sbA (a b:Nat):a <= a - b + b:=Nat.le_add_of_sub_le (Yj _)
theorem T1:true = true:=rfl
theorem lA {a:Nat} (n s:Nat) (y:L3.chN n s [] [] = true):L3.Zlo [a] n s:=lN _ n s y
theorem lB {a b:Nat} (n s:Nat) (y:L3.chN n s [] [] = true):L3.Zlo [a,b] n s:=lN _ n s y
theorem lC {a b c:Nat} (n s:Nat) (y:L3.chN n s [] [] = true):L3.Zlo [a,b,c] n s:=lN _ n s y
theorem lD {a b c d:Nat} (n s:Nat) (y:L3.chN n s [] [] = true):L3.Zlo [a,b,c,d] n s:=lN _ n s y
theorem lE {a b c d e:Nat} (n s:Nat) (y:L3.chN n s [] [] = true):L3.Zlo [a,b,c,d,e] n s:=lN _ n s y
theorem lF {a b c d e f:Nat} (n s:Nat) (y:L3.chN n s [] [] = true):L3.Zlo [a,b,c,d,e,f] n s:=lN _ n s y
theorem clA (w:Int):max w 0 = (w.toNat:Int):=(Int.ofNat_toNat w).symm
theorem clB (v:Int) (n:Nat) (h:¬ v < 0):min v (n:Int) = ((min v.toNat n:Nat):Int):=by
 obtain ⟨k,rfl⟩:=Ya6 (Yef.1 h);rcases Nat.le_total k n with z | z
 ·rw [Int.min_eq_left (Yd7.2 z)]; exact congrArg Int.ofNat (Yf6 z).symm
 ·rw [Int.min_eq_right (Yd7.2 z)]; exact congrArg Int.ofNat (Yfq z).symm
theorem clC (v:Int) (n:Nat) (h:v < 0):max 0 (min (v + (n:Int)) (n:Int)) = ((v + (n:Int)).toNat:Int):=by
 rw [Int.min_eq_left (Yer (Int.lt_of_lt_of_le (Int.add_lt_add_right h _) (Ycc (Ydk _)))),Int.max_comm]; exact clA _
theorem clD (v:Int) (n:Nat) (h:¬ v < 0):max 0 (min v (n:Int)) = ((min v.toNat n:Nat):Int):=by
 rw [clB v n h]; exact Int.max_eq_right (Ybd _)
namespace L3
set_option genSizeOf false in
set_option genInjectivity false in
inductive AI where
 | v (i:Nat)
 | k (n:Nat)
 | c (e:AE)
 | a (x y:AI)
 | s (x y:AI)
 | g (x:AI)
 | m (n:Nat) (x:AI)
noncomputable def ZqP:List Int -> Nat -> Int
 | [],_=>0
 | x :: _,0=>x
 | _ :: l,n + 1=>ZqP l n
noncomputable def AI.ev (c:List Nat) (d:List Int):AI -> Int
 | .v i=>ZqP d i
 | .k n=>Int.ofNat n
 | .c e=>((e.ev c:Nat):Int)
 | .a x y=>x.ev c d + y.ev c d
 | .s x y=>x.ev c d - y.ev c d
 | .g x=>-x.ev c d
 | .m n x=>Int.ofNat n * x.ev c d
noncomputable def pL (u w:List Nat × List Nat):List Nat × List Nat:=(aL u.1 w.1,aL u.2 w.2)
noncomputable def AI.li:AI -> Bool -> List Nat × List Nat
 | .v i,b=>bif b then ([],uL i) else ([],[])
 | .k n,b=>bif b then ([n],[]) else ([],[])
 | .c e,b=>bif b then (e.li,[]) else ([],[])
 | .a x y,b=>pL (x.li b) (y.li b)
 | .s x y,b=>pL (x.li b) (y.li (!b))
 | .g x,b=>x.li (!b)
 | .m n x,b=>(sL n (x.li b).1,sL n (x.li b).2)
noncomputable def dtI:List Int -> List Nat -> Int
 | x :: c,y :: l=>x * (y:Int) + dtI c l
 | [],_=>0
 | _,[]=>0
noncomputable def dI (c:List Nat) (d:List Int) (u:List Nat × List Nat):Int:=((dt (1 :: c) u.1:Nat):Int) + dtI d u.2
theorem Zr2 (p q r s:Int):p + q + (r + s) = p + r + (q + s):=by omega
theorem Zdh:∀ c,dtI c [] = 0
 | []=>rfl
 | _ :: _=>rfl
theorem Zqi:∀ c l r,dtI c (aL l r) = dtI c l + dtI c r
 | c,[],r=>by rw [Zdh,Ydk]; rfl
 | c,x :: l,[]=>by rw [Zdh,Ydl]; rfl
 | [],x :: l,y :: r=>rfl
 | z :: c,x :: l,y :: r=>by
  show z * ((x + y:Nat):Int) + dtI c (aL l r) = (z * x + dtI c l) + (z * y + dtI c r);rw [Zqi c l r,Yf7,Yie]; exact Zr2 _ _ _ _
theorem Zqy (n:Nat):∀ c l,dtI c (sL n l) = Int.ofNat n * dtI c l
 | c,[]=>by rw [Zdh,Yf8]; exact Zdh c
 | [],x :: l=>(Yf8 _).symm
 | z :: c,x :: l=>by
  show z * ((n * x:Nat):Int) + dtI c (sL n l) = Int.ofNat n * (z * x + dtI c l);rw [Zqy n c l,Yie,Yf9,Int.mul_left_comm]; rfl
theorem ZpX:∀ c i,dtI c (uL i) = ZqP c i
 | [],0=>rfl
 | [],_ + 1=>rfl
 | x :: c,0=>by show x * 1 + dtI c [] = x; rw [Zdh,Int.mul_one,Ydl]
 | x :: c,n + 1=>by show x * 0 + dtI c (uL n) = ZqP c n; rw [ZpX c n,Yf8,Ydk]
section
variable (c:List Nat) (d:List Int)
theorem Zer (u w:List Nat × List Nat):dI c d (pL u w) = dI c d u + dI c d w:=by
 show ((dt (1 :: c) (aL u.1 w.1):Nat):Int) + dtI d (aL u.2 w.2) = _;rw [ZgH,Zqi,Yf7]; exact Zr2 _ _ _ _
theorem ZnJ (n:Nat) (u:List Nat × List Nat):dI c d (sL n u.1,sL n u.2) = Int.ofNat n * dI c d u:=by
 show ((dt (1 :: c) (sL n u.1):Nat):Int) + dtI d (sL n u.2) = _;rw [Zl3,Zqy,Yf9]; exact (Yie _ _ _).symm
theorem Ztl:dI c d ([],[]) = 0:=by
 show ((dt (1 :: c) []:Nat):Int) + dtI d [] = 0;rw [Zeq,Zdh]; rfl
theorem Zss (p q r s:Int):p - q + (r - s) = p + r - (q + s):=by omega
theorem Zpd (p q r s:Int):p - q - (r - s) = p + s - (q + r):=by omega
theorem AI.li_ev:∀ e:AI,e.ev c d = dI c d (e.li true) - dI c d (e.li false)
 | .v i=>by show ZqP d i = dI c d ([],uL i) - dI c d ([],[]); rw [Ztl,Yh7]; show _ = ((dt (1 :: c) []:Nat):Int) + dtI d (uL i); rw [Zeq,ZpX]; exact (Ydk _).symm
 | .k n=>by show Int.ofNat n = dI c d ([n],[]) - dI c d ([],[]); rw [Ztl,Yh7]; show _ = ((dt (1 :: c) [n]:Nat):Int) + dtI d []; rw [Zdh,Ydl]; show _ = ((1 * n + dt c []:Nat):Int); rw [Zeq,Nat.one_mul]; rfl
 | .c e=>by show ((e.ev c:Nat):Int) = dI c d (e.li,[]) - dI c d ([],[]); rw [Ztl,Yh7]; show _ = ((dt (1 :: c) e.li:Nat):Int) + dtI d []; rw [Zdh,Ydl,e.li_ev]
 | .a x y=>by show x.ev c d + y.ev c d = dI c d (pL (x.li true) (y.li true)) - dI c d (pL (x.li false) (y.li false)); rw [Zer,Zer,x.li_ev,y.li_ev]; exact Zss _ _ _ _
 | .s x y=>by show x.ev c d - y.ev c d = dI c d (pL (x.li true) (y.li false)) - dI c d (pL (x.li false) (y.li true)); rw [Zer,Zer,x.li_ev,y.li_ev]; exact Zpd _ _ _ _
 | .g x=>by show -x.ev c d = dI c d (x.li false) - dI c d (x.li true); rw [x.li_ev]; exact Int.neg_sub _ _
 | .m n x=>by show Int.ofNat n * x.ev c d = dI c d (sL n (x.li true).1,sL n (x.li true).2) - dI c d (sL n (x.li false).1,sL n (x.li false).2); rw [ZnJ,ZnJ,x.li_ev]; exact Int.mul_sub _ _ _
noncomputable def cI (x y:AI):List Nat × List Nat:=pL (x.li true) (y.li false)
noncomputable def Znh (u:List Nat × List Nat):List Nat × List Nat:=(aL [1] u.1,u.2)
theorem Zk1 (u:List Nat × List Nat):dI c d (Znh u) = dI c d u + 1:=by
 show ((dt (1 :: c) (aL [1] u.1):Nat):Int) + dtI d u.2 = ((dt (1 :: c) u.1:Nat):Int) + dtI d u.2 + 1;rw [ZiW,Yf7,Int.add_right_comm]; rfl
theorem ZkX (x y:AI):dI c d (cI x y) - dI c d (cI y x) = x.ev c d - y.ev c d:=by
 unfold cI;rw [Zer,Zer,x.li_ev,y.li_ev,Zpd,Int.add_comm (dI c d (y.li true))]
theorem Znz {x y:AI} (h:x.ev c d <= y.ev c d):dI c d (cI x y) <= dI c d (cI y x):=by
 have:=ZkX c d x y; omega
theorem Zvc {x y:AI} (h:dI c d (cI x y) <= dI c d (cI y x)):x.ev c d <= y.ev c d:=by
 have:=ZkX c d x y; omega
noncomputable def Zuk:Nat -> Int -> Int -> Prop
 | 0,x,y=>x <= y
 | 1,x,y=>x < y
 | 2,x,y=>x = y
 | 3,x,y=>x = y
 | 4,x,y=>¬ x <= y
 | 5,x,y=>¬ x < y
 | _,_,_=>False
noncomputable def loI:Nat -> AI -> AI -> List Nat × List Nat
 | 0,x,y=>cI x y
 | 1,x,y=>Znh (cI x y)
 | 2,x,y=>cI x y
 | 4,x,y=>Znh (cI y x)
 | _,x,y=>cI y x
noncomputable def hiI:Nat -> AI -> AI -> List Nat × List Nat
 | 0,x,y=>cI y x
 | 1,x,y=>cI y x
 | 2,x,y=>cI y x
 | _,x,y=>cI x y
theorem ZrW {x y:AI} (h:x.ev c d < y.ev c d):dI c d (Znh (cI x y)) <= dI c d (cI y x):=by
 have:=ZkX c d x y; rw [Zk1]; omega
theorem Zsx (x y:AI):∀ r,Zuk r (x.ev c d) (y.ev c d) -> dI c d (loI r x y) <= dI c d (hiI r x y)
 | 0,h=>Znz c d h
 | 1,h=>ZrW c d h
 | 2,h=>Znz c d (Ycc h)
 | 3,h=>Znz c d (Ycc h.symm)
 | 4,h=>ZrW c d (Ye7.1 h)
 | 5,h=>Znz c d (Yef.1 h)
 | _ + 6,h=>h.elim
end
noncomputable def rdI:Nat -> Nat -> AI × Nat
 | 0,s=>(.k 0,s)
 | f + 1,s=>bif Yf4 (s % 16) 7 then (.v (s % 16),s / 16) else bif Ycd (s % 16) 8 then (.c (rdE 9 (s / 16)).1,(rdE 9 (s / 16)).2)
  else bif Ycd (s % 16) 9 then (.g (rdI f (s / 16)).1,(rdI f (s / 16)).2) else bif Ycd (s % 16) 10 then (.k 1,s / 16)
  else bif Ycd (s % 16) 11 then (.k (s / 256 % 16 ^ (s / 16 % 16)),s / 256 / 16 ^ (s / 16 % 16))
  else bif Ycd (s % 16) 12 then (.a (rdI f (s / 16)).1 (rdI f (rdI f (s / 16)).2).1,(rdI f (rdI f (s / 16)).2).2)
  else bif Ycd (s % 16) 13 then (.m (s / 16 % 256) (rdI f (s / 4096)).1,(rdI f (s / 4096)).2)
  else bif Ycd (s % 16) 14 then (.k 0,s / 16) else (.s (rdI f (s / 16)).1 (rdI f (rdI f (s / 16)).2).1,(rdI f (rdI f (s / 16)).2).2)
def hP (c:List Nat) (d:List Int) (r s:Nat):Prop:=bif Yf4 8 r then Zuk (r - 8) ((rdI 9 s).1.ev c d) ((rdI 9 (rdI 9 s).2).1.ev c d) else ZpV r ((rdE 9 s).1.ev c) ((rdE 9 (rdE 9 s).2).1.ev c)
noncomputable def hR (r s:Nat):Nat:=bif Yf4 8 r then (rdI 9 (rdI 9 s).2).2 else (rdE 9 (rdE 9 s).2).2
noncomputable def hL (r s:Nat):List Nat × List Nat:=bif Yf4 8 r then loI (r - 8) (rdI 9 s).1 (rdI 9 (rdI 9 s).2).1 else (loN r (rdE 9 s).1 (rdE 9 (rdE 9 s).2).1,[])
noncomputable def hH (r s:Nat):List Nat × List Nat:=bif Yf4 8 r then hiI (r - 8) (rdI 9 s).1 (rdI 9 (rdI 9 s).2).1 else (hiN r (rdE 9 s).1 (rdE 9 (rdE 9 s).2).1,[])
theorem ZuG (c:List Nat) (d:List Int) (r s:Nat) (h:hP c d r s):dI c d (hL r s) <= dI c d (hH r s):=by
 unfold hP at h;unfold hL hH;cases e:Yf4 8 r <;> rw [e] at h
 ·exact Int.add_le_add_right (Yd7.2 (ZpI c _ _ _ h)) _
 ·exact Zsx c d _ _ _ h
noncomputable def zL:List Nat -> Bool
 | []=>true
 | x :: l=>Ycd x 0 && zL l
noncomputable def eqL:List Nat -> List Nat -> Bool
 | [],r=>zL r
 | x :: l,[]=>Ycd x 0 && zL l
 | x :: l,y :: r=>Ycd x y && eqL l r
theorem ZpY:∀ c l,zL l = true -> dtI c l = 0
 | c,[],_=>Zdh c
 | [],x :: l,_=>rfl
 | z :: c,x :: l,h=>by
  have h:=(Yv _ _).mp h;show z * (x:Int) + dtI c l = 0;rw [Ybn h.1,ZpY c l h.2,Ydl]; exact Yf8 z
theorem ZqM:∀ c l r,eqL l r = true -> dtI c l = dtI c r
 | c,[],r,h=>(Zdh c).trans (ZpY c r h).symm
 | c,x :: l,[],h=>(ZpY c (x :: l) h).trans (Zdh c).symm
 | [],x :: l,y :: r,_=>rfl
 | z :: c,x :: l,y :: r,h=>by
  have h:=(Yv _ _).mp h;show z * (x:Int) + dtI c l = z * (y:Int) + dtI c r;rw [Ybn h.1,ZqM c l r h.2]
noncomputable def leP (u w:List Nat × List Nat):Bool:=leL u.1 w.1 && eqL u.2 w.2
theorem ZiX (c:List Nat) (d:List Int) {u w:List Nat × List Nat} (h:leP u w = true):dI c d u <= dI c d w:=by
 have h:=(Yv _ _).mp h;exact Int.add_le_add (Yd7.2 (ZhW _ _ _ h.1)) (Ycc (ZqM d _ _ h.2))
noncomputable def ZsO (c:List Nat) (d:List Int):Nat -> Nat -> Prop
 | 0,s=>hP c d (s % 16) (s / 16)
 | n + 1,s=>hP c d (s / 16 % 16) (s / 256) -> ZsO c d n (hR (s / 16 % 16) (s / 256))
noncomputable def gI (r s:Nat) (L R:List Nat × List Nat):Bool:=bif Ycd r 0 then leP (pL R ((rdE 9 s).1.li,[])) (pL L ((rdE 9 (rdE 9 s).2).1.li,[]))
 else bif Ycd r 1 then leP (Znh (pL R ((rdE 9 s).1.li,[]))) (pL L ((rdE 9 (rdE 9 s).2).1.li,[]))
 else bif Ycd r 8 then leP (pL R (cI (rdI 9 s).1 (rdI 9 (rdI 9 s).2).1)) (pL L (cI (rdI 9 (rdI 9 s).2).1 (rdI 9 s).1))
 else bif Ycd r 9 then leP (Znh (pL R (cI (rdI 9 s).1 (rdI 9 (rdI 9 s).2).1))) (pL L (cI (rdI 9 (rdI 9 s).2).1 (rdI 9 s).1))
 else leP (Znh R) L
noncomputable def chI:Nat -> Nat -> List Nat × List Nat -> List Nat × List Nat -> Bool
 | 0,s,L,R=>gI (s % 16) (s / 16) L R
 | n + 1,s,L,R=>chI n (hR (s / 16 % 16) (s / 256)) (pL L (sL (s % 16) (hL (s / 16 % 16) (s / 256)).1,sL (s % 16) (hL (s / 16 % 16) (s / 256)).2)) (pL R (sL (s % 16) (hH (s / 16 % 16) (s / 256)).1,sL (s % 16) (hH (s / 16 % 16) (s / 256)).2))
theorem ZnL (c:List Nat) (d:List Int) (e:AE):dI c d (e.li,[]) = ((e.ev c:Nat):Int):=by
 show ((dt (1 :: c) e.li:Nat):Int) + dtI d [] = _;rw [Zdh,Ydl,e.li_ev]
theorem Zqj {a b l r:Int} (h:l <= r) (e:r + a <= l + b):a <= b:=by omega
theorem Zpm {a b l r:Int} (h:l <= r) (e:r + a + 1 <= l + b):a < b:=by omega
theorem Zsq {l r:Int} (h:l <= r) (e:r + 1 <= l):False:=by omega
theorem Zu8 (c:List Nat) (d:List Int) (r s:Nat) (L R:List Nat × List Nat) (h:dI c d L <= dI c d R) (k:gI r s L R = true):hP c d r s:=by
 unfold gI at k;cases e0:Ycd r 0 with
 | true=>
  rw [Ybn e0] at k ⊢;have e:=ZiX c d k;rw [Zer,Zer,ZnL,ZnL] at e;exact Yd7.1 (Zqj h e)
 | false=>
  cases e1:Ycd r 1 with
  | true=>
   rw [Ybn e1] at k ⊢;have e:=ZiX c d k;rw [Zk1,Zer,Zer,ZnL,ZnL] at e;exact Yb3.1 (Zpm h e)
  | false=>
   cases e8:Ycd r 8 with
   | true=>
    rw [Ybn e8] at k ⊢;have e:=ZiX c d k;rw [Zer,Zer] at e;exact Zvc c d (Zqj h e)
   | false=>
    cases e9:Ycd r 9 with
    | true=>
     rw [Ybn e9] at k ⊢;have e:=ZiX c d k;rw [Zk1,Zer,Zer] at e;have z:=Zpm h e;have y:=ZkX c d (rdI 9 s).1 (rdI 9 (rdI 9 s).2).1;show (rdI 9 s).1.ev c d < (rdI 9 (rdI 9 s).2).1.ev c d;exact Int.lt_of_sub_neg (y ▸ Int.sub_neg_of_lt z)
    | false=>
     rw [e0,e1,e8,e9] at k;have e:=ZiX c d k;rw [Zk1] at e;exact (Zsq h e).elim
theorem arI (c:List Nat) (d:List Int):∀ (n s:Nat) (L R:List Nat × List Nat),dI c d L <= dI c d R -> chI n s L R = true -> ZsO c d n s
 | 0,s,L,R,h,k=>Zu8 c d _ _ L R h k
 | n + 1,s,L,R,h,k=>fun g=>arI c d n _ _ _ (by
   rw [Zer,Zer,ZnJ,ZnJ]; exact Int.add_le_add h (Int.mul_le_mul_of_nonneg_left (ZuG c d _ _ g) (Ybd _))) k
end L3
theorem iN (c:List Nat) (d:List Int) (n s:Nat) (h:L3.chI n s ([],[]) ([],[]) = true):L3.ZsO c d n s:=L3.arI c d n s ([],[]) ([],[]) (Int.le_refl _) h
set_option Elab.async false
set_option linter.all false
set_option maxRecDepth 100000
namespace L2
open PySem PySem.Spec PyProof.Rows
noncomputable abbrev Key:=Sum Int Str
noncomputable def Zi9:Key -> Value -> Bool
 | .inl k,v=>Value.isInt k v
 | .inr x,v=>Value.isStrOf x v
noncomputable def ZwC (w:World):Key -> Int
 | .inl k=>hashInt k
 | .inr x=>hashStr w x
theorem ZbK:∀ {k:Key} {v:Value},Zi9 k v = true -> (∃ i t,k = Sum.inl i /\ v = Value.int i t) \/ (∃ x t,k = Sum.inr x /\ v = Value.str x t)
 | .inl i,v,h=>by
  obtain ⟨t,e⟩:=Value.isInt_shape (k:=i) (v:=v) h;exact .inl ⟨i,t,rfl,e⟩
 | .inr x,v,h=>by
  obtain ⟨t,e⟩:=Value.isStrOf_shape (x:=x) (v:=v) h;exact .inr ⟨x,t,rfl,e⟩
theorem Zoj (i:Int) (t:Tok):Zi9 (.inl i) (.int i t) = true:=by simp [Zi9,Value.isInt]
theorem ZoK (x:Str) (t:Tok):Zi9 (.inr x) (.str x t) = true:=by simp [Zi9,Value.isStrOf]
theorem ZtE (a b:Int):decide ((Sum.inl a:Key) = Sum.inl b) = (a == b):=by
 by_cases e:a = b
 ·subst e; simp
 ·have h:¬ (Sum.inl a:Key) = Sum.inl b:=fun q=>e (Sum.inl.inj q)
  rw [decide_eq_false h];exact (beq_eq_false_iff_ne.mpr e).symm
theorem ZtI (a b:Str):decide ((Sum.inr a:Key) = Sum.inr b) = decide (a = b):=by
 by_cases e:a = b
 ·subst e; simp
 ·have h:¬ (Sum.inr a:Key) = Sum.inr b:=fun q=>e (Sum.inr.inj q)
  rw [decide_eq_false h,decide_eq_false e]
theorem ZsK (a:Int) (b:Str):decide ((Sum.inl a:Key) = Sum.inr b) = false:=decide_eq_false (fun q=>nomatch q)
theorem ZsR (a:Str) (b:Int):decide ((Sum.inr a:Key) = Sum.inl b) = false:=decide_eq_false (fun q=>nomatch q)
noncomputable def Zbd (prog:Yai) (w:World):PySem.KeyKind prog w Key where
 is:=Zi9
 hash:=ZwC w
 inj:=fun v a b ha hb=>by
  rcases ZbK ha with ⟨i,t,rfl,rfl⟩ | ⟨x,t,rfl,rfl⟩
  ·rcases ZbK hb with ⟨j,u,rfl,e⟩ | ⟨y,u,rfl,e⟩
   ·injection e with e1 _; rw [e1]
   ·exact nomatch e
  ·rcases ZbK hb with ⟨j,u,rfl,e⟩ | ⟨y,u,rfl,e⟩
   ·exact nomatch e
   ·injection e with e1 _; rw [e1]
 byValue:=fun k v h=>by
  rcases ZbK h with ⟨i,t,rfl,rfl⟩ | ⟨x,t,rfl,rfl⟩ <;> rfl
 pyHash:=fun hv h=>by
  rcases ZbK hv with ⟨i,t,rfl,rfl⟩ | ⟨x,t,rfl,rfl⟩
  ·exact wpAny_pyHash_int h
  ·exact wpAny_pyHash_str h
 eqBool:=fun hu hv h=>by
  rcases ZbK hu with ⟨i,t,rfl,rfl⟩ | ⟨x,t,rfl,rfl⟩
  ·rcases ZbK hv with ⟨j,u,rfl,rfl⟩ | ⟨y,u,rfl,rfl⟩
   ·rw [ZtE] at h; exact wpAny_eqBool_int h
   ·rw [ZsK] at h; exact Yes i t y u _ _ _ _ h
  ·rcases ZbK hv with ⟨j,u,rfl,rfl⟩ | ⟨y,u,rfl,rfl⟩
   ·rw [ZsR] at h; exact Yet x t j u _ _ _ _ h
   ·rw [ZtI] at h; exact wpAny_eqBool_str h
 «strs»:=fun k x t v h=>by
  rcases ZbK h with ⟨i,u,rfl,e⟩ | ⟨y,u,rfl,e⟩
  ·exact nomatch e
  ·injection e with e1 _
   subst e1;cases v <;> rfl
theorem ZmI (prog:Yai) (w:World) (k:Key) (v:Value):(Zbd prog w).is k v = Zi9 k v:=rfl
theorem Zlw (prog:Yai) (w:World) (i:Int) (t:Tok):(Zbd prog w).is (.inl i) (.int i t) = true:=Zoj i t
theorem ZlW (prog:Yai) (w:World) (x:Str) (t:Tok):(Zbd prog w).is (.inr x) (.str x t) = true:=ZoK x t
end L2
namespace L2
open PySem PySem.Spec PyProof.Rows
inductive V where
 | non | bl (b:Bool) | int (i:Int) | str (x:Str) | byt (b:Array UInt8) | flt (b:UInt64) | ref (a:Addr) | ty (n:String)
 deriving DecidableEq
noncomputable def RelV:V -> Value -> Prop
 | .non,u=>u = Value.none
 | .bl b,u=>u = Value.bool b
 | .int i,u=>∃ t,u = Value.int i t
 | .str x,u=>∃ t,u = Value.str x t
 | .byt b,u=>∃ t,u = Value.bytes b t
 | .flt b,u=>∃ t,u = Value.float b t
 | .ref a,u=>u = Value.ref a
 | .ty n,u=>u = Value.type n
noncomputable abbrev Vals:List V -> List Value -> Prop:=Paired RelV
theorem Vals.length {xs:List V} {us:List Value} (r:Vals xs us):xs.length = us.length:=Yhu r
theorem Vals.get:∀ {xs:List V} {us:List Value} {i:Nat} {x:V},Vals xs us -> xs[i]? = some x -> ∃ u,us[i]? = some u /\ RelV x u
 | _,_,_,_,.nil,e=>by simp at e
 | _,_,0,_,.cons r _,e=>by simp at e; subst e; exact ⟨_,rfl,r⟩
 | _,_,i + 1,x,.cons _ t,e=>by
  obtain ⟨u,h1,h2⟩:=Vals.get (i:=i) (x:=x) t (by simpa using e);exact ⟨u,by simpa using h1,h2⟩
theorem Vals.set {x:V} {u:Value} (r:RelV x u):∀ {xs:List V} {us:List Value} (i:Nat),Vals xs us -> Vals (xs.set i x) (us.set i u)
 | _,_,_,.nil=>.nil
 | _,_,0,.cons _ t=>.cons r t
 | _,_,i + 1,.cons q t=>.cons q (Vals.set r i t)
theorem Vals.append:∀ {xs ys:List V} {us ws:List Value},Vals xs us -> Vals ys ws -> Vals (xs ++ ys) (us ++ ws)
 | _,_,_,_,.nil,s=>s
 | _,_,_,_,.cons r t,s=>.cons r (Vals.append t s)
theorem Vals.take:∀ {xs:List V} {us:List Value} (n:Nat),Vals xs us -> Vals (xs.take n) (us.take n)
 | _,_,0,_=>.nil
 | _,_,_ + 1,.nil=>.nil
 | _,_,n + 1,.cons r t=>.cons r (Vals.take n t)
theorem Vals.drop:∀ {xs:List V} {us:List Value} (n:Nat),Vals xs us -> Vals (xs.drop n) (us.drop n)
 | _,_,0,r=>r
 | _,_,_ + 1,.nil=>.nil
 | _,_,n + 1,.cons _ t=>Vals.drop n t
noncomputable def Zh2:Option V -> Option Value -> Prop
 | some v,some u=>RelV v u
 | none,none=>True
 | _,_=>False
noncomputable def KV {κ:Type}:List (κ × V) -> List (κ × Value) -> Prop:=Paired fun (p:κ × V) (q:κ × Value)=>p.1 = q.1 /\ RelV p.2 q.2
noncomputable def kV:Key -> V
 | .inl i=>.int i
 | .inr x=>.str x
inductive HO where
 /-- a list -/
 | lst (xs:List V)
 /-- a tuple (never changes) -/
 | tup (xs:List V)
 /-- a dict whose keys are ints and texts; one whose keys are tuples of ints and texts (the empty one is both) -/
 | dK (kvs:List (Key × V)) | dT (kvs:List (List Key × V))
 /-- a set of ints: its members,its size -/
 | set (S:Int -> Bool) (n:Nat)
 /-- an instance of the class at C,its dict at dx,its attributes -/
 | ins (C dx:Addr) (fs:List (Str × V))
 /-- the dict of the instance at x -/
 | own (x:Addr)
 /-- the dict of an exception -/
 | xd (fs:List (Str × V))
 /-- a bound method,f of x -/
 | met (f x:Addr)
 /-- a range object lo,lo + 1,.. below hi -/
 | rng (lo hi:Int)
 /-- a thing that is known to the object (the script; a dict while a loop walks it): read,never written while it is so -/
 | frz (o:Obj) (u:HO)
 /-- a code object's table -/
 | tbl (ps:Array Value)
 /-- any other thing,by what is true of its one object (a def of one's own: SetO a S n:=HO.ext fun h=>..) -/
 | ext (φ:Heap -> Prop)
noncomputable abbrev Hp:=Addr -> Option HO
noncomputable def upd (H:Hp) (a:Addr) (o:HO):Hp:=fun b=>if b = a then some o else H b
theorem ZcB {H:Hp} {a:Addr} {o:HO}:upd H a o a = some o:=by unfold upd; rw [if_pos rfl]
theorem ZaC {H:Hp} {a b:Addr} {o:HO} (h:b ≠ a):upd H a o b = H b:=by unfold upd; rw [if_neg h]
theorem ZjO {H:Hp} {a b:Addr} {o u:HO} (h:H a = some o) (h':H b = some u) (d:o ≠ u):a ≠ b:=by
 intro e; subst e; rw [h] at h'; exact d (Yq h')
theorem ZeS {H:Hp} {a b:Addr} {o:HO} (h:H a = some o) (h':H b = none):a ≠ b:=by
 intro e; subst e; rw [h] at h'; cases h'
section
variable (P:Yai) (w:World)
def ZeT (h:Heap) (a:Addr) (items:Array Value):Prop:=∃ o,h.get? a = some o /\ (o.cls = .type "tuple" /\ o.dict = none) /\ ∃ n,o.data = .seq items n
theorem ZeT.tup {h:Heap} {a:Addr} {items:Array Value} (x:ZeT h a items):IsTup h a items:=let ⟨o,e,c,d⟩:=x; ⟨o,e,c.1,d⟩
theorem ZeT.new (h:Heap) (items:Array Value):ZeT (h.push { cls:=.type "tuple",data:=.seq items }) h.objs.size items:=⟨_,Y6 _ rfl,⟨rfl,rfl⟩,0,rfl⟩
noncomputable def ZbH (H:Hp) (h:Heap) (a:Addr):HO -> Prop
 | .lst xs=>xs.length <= Y8 /\ ∃ (its:List Value) (n:Nat),Vals xs its /\ h.get? a = some { cls:=.type "list",data:=.seq its.toArray n }
 | .tup xs=>xs.length <= Y8 /\ ∃ its:List Value,Vals xs its /\ ZeT h a its.toArray
 | .dK kvs=>kvs.length <= Y8 /\ (a == Yc7) = false /\ ∃ vs,KV kvs vs /\ h.DictOf (Zbd P w) a vs
 | .dT kvs=>kvs.length <= Y8 /\ (a == Yc7) = false /\ ∃ xs:List (List Key × Addr × Value),
   Paired (fun (p:List Key × V) (q:List Key × Addr × Value)=>p.1 = q.1 /\ H q.2.1 = some (.tup (p.1.map kV)) /\ RelV p.2 q.2.2) kvs xs /\
   ∃ o es ep,h.get? a = some o /\ o.ExactDict /\ o.data = .dict es ep /\ es.toList = xs.map (entryOfKey (Yga (Zbd P w))) /\ (xs.map (·.1)).Nodup
 | .set S n=>h.SetOf (intKind P w) a S n
 | .ins C dx fs=>H dx = some (.own a) /\ fs.length <= 1000 /\ dx ≠ a /\ h.get? a = some (Ygb C dx) /\
   ∃ mA,h.Ns1 dx mA /\ (∀ f,Zh2 (fs.lookup f) (mA f)) /\ PySem.Within mA (fs.map (·.1))
 | .own _=>∃ o,h.get? a = some o
 | .xd fs=>∃ mA,h.Ns1 a mA /\ ∀ f,Zh2 (fs.lookup f) (mA f)
 | .rng lo hi=>∃ t u v,h.get? a = some { cls:=.type "range",data:=.fields #[.int lo t,.int hi u,.int 1 v] }
 | .frz o u=>h.get? a = some o /\ ZbH H h a u
 | .tbl ps=>h.get? a = some { cls:=.none,data:=.fields ps }
 | .met f x=>h.get? a = some (Ye8 (.ref f) (.ref x))
 | .ext φ=>φ h /\ (∃ o,h.get? a = some o) /\ ∀ h1 h2:Heap,φ h1 -> (∀ o,h1.get? a = some o -> h2.get? a = some o) -> φ h2
def HOk (H:Hp) (h:Heap):Prop:=∀ a o,H a = some o -> ZbH P w H h a o
end
section
variable {P:Yai} {w:World} {H H':Hp} {h h':Heap} {a:Addr} {o:HO}
theorem ZbH.lt (x:ZbH P w H h a o):a < h.objs.size:=by
 cases o with
 | lst xs=>obtain ⟨_,_,_,_,e⟩:=x; exact Yr e
 | tup xs=>obtain ⟨_,_,_,p⟩:=x; exact p.tup.lt
 | dK kvs=>obtain ⟨_,_,_,_,o,_,_,e,_⟩:=x; exact Yr e
 | dT kvs=>obtain ⟨_,_,_,_,o,_,_,e,_⟩:=x; exact Yr e
 | set S n=>obtain ⟨o,_,_,_,e,_⟩:=x; exact Yr e
 | ins C dx fs=>obtain ⟨_,_,_,e,_⟩:=x; exact Yr e
 | own y=>obtain ⟨_,e⟩:=x; exact Yr e
 | xd fs=>obtain ⟨_,⟨_,_,_,e,_⟩,_⟩:=x; exact Yr e
 | rng lo hi=>obtain ⟨_,_,_,e⟩:=x; exact Yr e
 | frz ob u=>obtain ⟨e,_⟩:=x; exact Yr e
 | tbl ps=>exact Yr (show h.get? a = some _ from x)
 | met f y=>exact Yr (show h.get? a = some _ from x)
 | ext φ=>obtain ⟨_,⟨_,e⟩,_⟩:=x; exact Yr e
theorem Paired.mapP {α β:Type} {F G:α -> β -> Prop}:∀ {l₁:List α} {l₂:List β},Paired F l₁ l₂ -> (∀ a b,F a b -> G a b) -> Paired G l₁ l₂
 | _,_,.nil,_=>.nil
 | _,_,.cons r t,f=>.cons (f _ _ r) (Paired.mapP t f)
theorem ZbH.stay (x:ZbH P w H h a o) (k:∀ b u,(b = a \/ H b = some (.own a)) -> h.get? b = some u -> h'.get? b = some u)
  (ho:∀ b,H b = some (.own a) -> H' b = some (.own a)) (ht:∀ b xs,H b = some (.tup xs) -> H' b = some (.tup xs)):ZbH P w H' h' a o:=by
 induction o with
 | lst xs=>obtain ⟨z,its,n,r,e⟩:=x; exact ⟨z,its,n,r,k _ _ (.inl rfl) e⟩
 | tup xs=>obtain ⟨z,its,r,ob,e,c⟩:=x; exact ⟨z,its,r,ob,k _ _ (.inl rfl) e,c⟩
 | dK kvs=>obtain ⟨z,y,vs,r,ob,es,ep,e,c⟩:=x; exact ⟨z,y,vs,r,ob,es,ep,k _ _ (.inl rfl) e,c⟩
 | dT kvs=>
  obtain ⟨z,y,xs,r,ob,es,ep,e,c⟩:=x;exact ⟨z,y,xs,Paired.mapP r fun p q z=>⟨z.1,ht _ _ z.2.1,z.2.2⟩,ob,es,ep,k _ _ (.inl rfl) e,c⟩
 | set S n=>obtain ⟨ob,es,ep,t,e,c⟩:=x; exact ⟨ob,es,ep,t,k _ _ (.inl rfl) e,c⟩
 | ins C dx fs=>
  obtain ⟨d,z,ne,e,mA,⟨od,es,ep,e2,c⟩,r⟩:=x;exact ⟨ho _ d,z,ne,k _ _ (.inl rfl) e,mA,⟨od,es,ep,k _ _ (.inr d) e2,c⟩,r⟩
 | own y=>obtain ⟨ob,e⟩:=x; exact ⟨ob,k _ _ (.inl rfl) e⟩
 | xd fs=>obtain ⟨mA,⟨od,es,ep,e,c⟩,r⟩:=x; exact ⟨mA,⟨od,es,ep,k _ _ (.inl rfl) e,c⟩,r⟩
 | rng lo hi=>obtain ⟨t,u,v,e⟩:=x; exact ⟨t,u,v,k _ _ (.inl rfl) e⟩
 | frz ob u ih=>obtain ⟨e,q⟩:=x; exact ⟨k _ _ (.inl rfl) e,ih q⟩
 | tbl ps=>
  have e:h.get? a = some { cls:=.none,data:=.fields ps }:=x;show h'.get? a = some { cls:=.none,data:=.fields ps };exact k a _ (.inl rfl) e
 | met f y=>
  have e:h.get? a = some (Ye8 (.ref f) (.ref y)):=x;show h'.get? a = some (Ye8 (.ref f) (.ref y));exact k a _ (.inl rfl) e
 | ext φ=>obtain ⟨p,⟨o,e⟩,st⟩:=x; exact ⟨st _ _ p fun o q=>k _ _ (.inl rfl) q,⟨o,k _ _ (.inl rfl) e⟩,st⟩
theorem HOk.lt (x:HOk P w H h) (e:H a = some o):a < h.objs.size:=(x a o e).lt
theorem HOk.fresh (x:HOk P w H h) (e:h.objs.size <= a):H a = none:=by
 cases q:H a with
 | none=>rfl
 | some u=>exact absurd (Yx (x.lt q) e) (Ycs _)
theorem HOk.kept (x:HOk P w H h) (k:∀ b u,h.get? b = some u -> h'.get? b = some u):HOk P w H h':=fun a o e=>
 (x a o e).stay (fun b u _ q=>k b u q) (fun _ q=>q) fun _ _ q=>q
theorem HOk.laid (x:HOk P w H h) (k:∀ b u,h.get? b = some u -> h'.get? b = some u) (hp:h.objs.size <= a) (new:ZbH P w (upd H a o) h' a o):HOk P w (upd H a o) h':=fun b u e=>by
 have hn:=x.fresh hp;by_cases hb:b = a
 ·subst hb; rw [ZcB] at e; cases e; exact new
 ·rw [ZaC hb] at e
  exact (x b u e).stay (fun c v _ q=>k c v q) (fun c q=>by rw [ZaC (ZeS q hn)]; exact q) fun c xs q=>by rw [ZaC (ZeS q hn)]; exact q
end
def Rd (H:Hp) (a:Addr) (u:HO):Prop:=H a = some u \/ ∃ o,H a = some (.frz o u)
theorem Rd.ok {P:Yai} {w:World} {H:Hp} {h:Heap} {a:Addr} {u:HO} (r:Rd H a u) (x:HOk P w H h):ZbH P w H h a u:=by
 rcases r with r | ⟨o,r⟩
 ·exact x a u r
 ·obtain ⟨_,q⟩:=x a _ r
  exact q
noncomputable def Mut:Option HO -> Prop
 | some (.lst _)=>True
 | some (.dK _)=>True
 | some (.dT _)=>True
 | some (.set _ _)=>True
 | some (.ins _ _ _)=>True
 | some (.ext _)=>True
 | _=>False
section
variable {P:Yai} {w:World} {H:Hp} {h h':Heap} {x e:Addr} {o':HO}
theorem HOk.write (ok:HOk P w H h) (mu:Mut (H x)) (he:e = x \/ H e = some (.own x)) (k:∀ b u,b ≠ e -> h.get? b = some u -> h'.get? b = some u) (heo:∃ u,h'.get? e = some u)
  (new:ZbH P w (upd H x o') h' x o'):HOk P w (upd H x o') h':=fun b u q=>by
 have nown:∀ c y,H c = some (.own y) -> c ≠ x:=fun c y r z=>by subst z; rw [r] at mu; exact mu
 have ntup:∀ c xs,H c = some (.tup xs) -> c ≠ x:=fun c xs r z=>by subst z; rw [r] at mu; exact mu
 by_cases hb:b = x
 ·subst hb; rw [ZcB] at q; cases q; exact new
 ·rw [ZaC hb] at q
  by_cases hbe:b = e
  ·have q':H b = some (.own x):=by
    rcases he with z | z
    ·exact absurd (hbe.trans z) hb
    ·rw [hbe]; exact z
   rw [q] at q'; cases q';obtain ⟨v,hv⟩:=heo;exact ⟨v,by rw [hbe]; exact hv⟩
  ·refine (ok b u q).stay (fun c v hc r=>k c v ?_ r) (fun c r=>by rw [ZaC (nown c b r)]; exact r) fun c xs r=>by rw [ZaC (ntup c xs r)]; exact r
   rcases hc with rfl | hc
   ·exact hbe
   ·rintro rfl
    rcases he with z | z
    ·exact nown c b hc z
    ·rw [hc] at z; cases z; exact hb rfl
end
structure Un (fs ex:List Addr) (H H':Hp) (h h':Heap):Prop where
 keep:∀ b o,h.get? b = some o -> H b = none -> b ∉ fs -> b ∉ ex -> h'.get? b = some o
 slot:∀ b o,h.get? b = some o -> H b = none -> b ∈ fs -> b ∉ ex -> ∃ sl,h'.get? b = some { o with slots:=sl }
 free:∀ b o,h.get? b = some o -> H b = none -> b ∉ ex -> H' b = none
 there:∀ b o,h.get? b = some o -> b ∉ ex -> ∃ o',h'.get? b = some o'
 tups:∀ b xs,H b = some (.tup xs) -> H' b = some (.tup xs)
 frzs:∀ b o u,H b = some (.frz o u) -> H' b = some (.frz o u)
 tbls:∀ b ps,H b = some (.tbl ps) -> ∃ more,H' b = some (.tbl (ps ++ more))
section
variable {fs fs' ex ex':List Addr} {H H1 H2:Hp} {h h1 h2 h':Heap} {a x e:Addr} {o:HO}
theorem Un.any (u:Un fs ex H H1 h h1) {b:Addr} {ob:Obj} (q:h.get? b = some ob) (n:H b = none) (hx:b ∉ ex):∃ sl,h1.get? b = some { ob with slots:=sl }:=by
 by_cases hb:b ∈ fs
 ·exact u.slot b ob q n hb hx
 ·exact ⟨ob.slots,u.keep b ob q n hb hx⟩
theorem Un.kept (k:∀ b u,h.get? b = some u -> h'.get? b = some u):Un fs ex H H h h':=
 ⟨fun b ob q _ _ _=>k b ob q,fun b ob q _ _ _=>⟨ob.slots,k b ob q⟩,fun _ _ _ n _=>n,fun b ob q _=>⟨ob,k b ob q⟩,fun _ _ q=>q,fun _ _ _ q=>q,fun _ ps q=>⟨#[],by rw [q]; simp⟩⟩
theorem Un.refl:Un fs ex H H h h:=Un.kept fun _ _ q=>q
theorem Un.laid (k:∀ b u,h.get? b = some u -> h'.get? b = some u) (hp:h.objs.size <= a) (hn:H a = none):Un fs ex H (upd H a o) h h' where
 keep:=fun b u q _ _ _=>k b u q
 slot:=fun b u q _ _ _=>⟨u.slots,k b u q⟩
 free:=fun b u q n _=>by rw [ZaC (Yy (Yx (Yr q) hp))]; exact n
 there:=fun b u q _=>⟨u,k b u q⟩
 tups:=fun b xs q=>by rw [ZaC (ZeS q hn)]; exact q
 frzs:=fun b u xs q=>by rw [ZaC (ZeS q hn)]; exact q
 tbls:=fun b ps q=>⟨#[],by rw [ZaC (ZeS q hn),q]; simp⟩
theorem Un.write (mu:Mut (H x)) (he:e = x \/ H e = some (.own x)) (k:∀ b u,b ≠ e -> h.get? b = some u -> h'.get? b = some u) (heo:∃ u,h'.get? e = some u):Un fs ex H (upd H x o) h h':=by
 have hx:∀ b,H b = none -> b ≠ x:=fun b n z=>by subst z; rw [n] at mu; exact mu
 have hb:∀ b,H b = none -> b ≠ e:=fun b n z=>by
  subst z;rcases he with r | r
  ·exact hx b n r
  ·rw [n] at r; cases r
 have hm:∀ b u,H b = some u -> ¬ Mut (some u) -> b ≠ x:=fun b u q nm z=>by subst z; rw [q] at mu; exact nm mu
 refine ⟨fun b u q n _ _=>k b u (hb b n) q,fun b u q n _ _=>⟨u.slots,k b u (hb b n) q⟩,fun b u q n _=>by rw [ZaC (hx b n)]; exact n,fun b u q _=>?_,
  fun b xs q=>by rw [ZaC (hm b _ q fun z=>z)]; exact q,fun b u xs q=>by rw [ZaC (hm b _ q fun z=>z)]; exact q,fun b ps q=>⟨#[],by rw [ZaC (hm b _ q fun z=>z),q]; simp⟩⟩
 by_cases hbe:b = e
 ·subst hbe; exact heo
 ·exact ⟨u,k b u hbe q⟩
end
noncomputable def trk (h:Heap) (H:Hp):List Addr:=(Yt h.objs.size).filter fun a=>(H a).isSome
noncomputable def ZkV (h:Heap) (H:Hp):Heap:=PySem.W.hideAll h (trk h H)
theorem Zoe (h:Heap) (H:Hp):(ZkV h H).objs.size = h.objs.size:=PySem.W.hideAll_size _ _
theorem ZpO {h:Heap} {H:Hp} {b:Addr} {o:Obj} (e:h.get? b = some o) (n:H b = none):(ZkV h H).get? b = some o:=
 PySem.W.hideAll_get _ e fun hm=>by
  have q:(H b).isSome = true:=(Ycj.mp hm).2;rw [n] at q; simp at q
theorem ZrU {h:Heap} {H:Hp} {b:Addr} {o:Obj} (e:(ZkV h H).get? b = some o):h.get? b = some o /\ H b = none:=by
 have e':h.get? b = some o:=PySem.W.of_hideAll (trk h H) e;refine ⟨e',?_⟩;cases q:H b with
 | none=>rfl
 | some x=>
  have hm:b ∈ trk h H:=Ycj.mpr ⟨List.mem_range.mpr (Yr e'),by simp [q]⟩;have z:(ZkV h H).get? b = none:=PySem.W.hideAll_none (trk h H) hm;rw [z] at e; cases e
noncomputable def ZrE (g h:Heap) (L:Addr):List (Addr × Obj):=(Yt h.objs.size).filterMap fun a=>if a = L \/ (g.get? a).isSome = true then none else (h.get? a).map fun o=>(a,o)
noncomputable def rest (g h:Heap) (L d:Addr):List (Addr × Obj):=(ZrE g h L).filter fun p=>decide (p.1 ≠ d)
end L2
namespace L2
open PySem PySem.Spec PyProof.Rows
structure Mod (K:Ya) (mg:Str -> Option Value) (base:Heap):Prop where
 kin:K.In base
 glob:base.Ns Yl mg
 blt:∃ mb,base.Ns builtinsNs mb /\ ∀ x:Str,x ≠ "__name__" -> mb x = Yaw x
 nolimit:base.NoLimit
/-- the context: a def's body (or a comprehension's block) running. base: fixed through the whole law; s₀,H₀: the entry; outer: the frames whose slots others may change (a def's callers); stack: all frames that run;
  ex: iterators that were made ahead of the entry and are walked here (a comprehension's); fn: the names whose cells were made at the entry (a def: all; a comprehension's block: its own); calm: not within an except suite; pn: pins that every state bears; xe: what is wanted of an exception that leaves the code -/
structure Cx where
 prog:Yai
 w:World
 K:Ya
 mg:Str -> Option Value
 base:Heap
 A:Yas
 N:List Str
 s₀:Ye
 H₀:Hp
 env:Env
 outer:List Env
 stack:List Env
 ex:List Addr
 fn:Str -> Bool
 calm:Bool
 pn:List (Addr × Obj)
 xe:Value -> Ye -> Prop
noncomputable def frs (l:List Env):List Addr:=l.filterMap (·.frame)
noncomputable abbrev Cx.fs (X:Cx):List Addr:=frs X.outer
def Vis (sc:Scope) (x:Str):Prop:=sc.names.lookup x = some .local \/ sc.names.lookup x = some .cell \/ sc.names.lookup x = some .free
def Loc (sc:Scope) (x:Str):Prop:=sc.names.lookup x = some .local \/ sc.names.lookup x = some .cell
def Look (env:Env) (h:Heap) (m:Str -> Option Value) (x:Str) (u:Value):Prop:=
 (env.kindOf x = some .local /\ m x = some u) \/ ((env.kindOf x = some .cell \/ env.kindOf x = some .free) /\ ∃ c,env.cells.lookup x = some c /\ h.IsCell c (some u))
structure Cx.Ok (X:Cx):Prop where
 mod:Mod X.K X.mg X.base
 kind:X.env.scope.kind = .function
 glob:X.env.globals = Yl
 blt:X.env.builtins = builtinsNs
 above:X.s₀.heap.objs.size <= X.env.locals
 inj:∀ x y c,X.env.cells.lookup x = some c -> X.env.cells.lookup y = some c -> x = y
 has:∀ x,(X.env.kindOf x = some .cell \/ X.env.kindOf x = some .free) -> ∃ c,X.env.cells.lookup x = some c
 cab:∀ x c,X.fn x = true -> X.env.cells.lookup x = some c -> X.s₀.heap.objs.size <= c
 hd:X.calm = true -> X.A.handled = none
 frames:X.A.frames = some X.stack
 stk:X.stack = X.outer \/ (X.stack = X.env :: X.outer /\ X.env.frame = some X.env.locals)
 exf:∀ b ∈ X.ex,b ≠ X.env.locals /\ ∀ x c,X.env.cells.lookup x = some c -> c ≠ b
 bs:∀ b o,X.base.get? b = some o -> X.s₀.heap.get? b = some o /\ X.H₀ b = none
 bsz:X.base.objs.size <= X.s₀.heap.objs.size
 noex:∀ b o,X.base.get? b = some o -> b ∉ X.ex
 exfs:∀ b ∈ X.ex,b ∉ X.fs
 funs:X.s₀.heap.FunFrames X.base X.outer
 frf:∀ b ∈ X.fs,X.H₀ b = none
structure Inv (X:Cx) (pins:List (Addr × Obj)) (σ:List (Option V)) (H:Hp) (s:Ye):Prop where
 ok:X.Ok
 os:s.os = X.s₀.os
 bare:Ygc s.gens
 base:Un X.fs X.ex X.H₀ H X.s₀.heap s.heap
 loc:∃ m,s.heap.Ns X.env.locals m /\ ∀ (i:Nat) (x:Str) (v:V),X.N[i]? = some x -> σ[i]? = some (some v) -> Vis X.env.scope x -> ∃ u,RelV v u /\ Look X.env s.heap m x u
 cell:∀ x c,X.env.cells.lookup x = some c -> ∃ v,s.heap.IsCell c v
 free:H X.env.locals = none
 freeC:∀ x c,X.env.cells.lookup x = some c -> H c = none
 pin:∀ p ∈ X.pn ++ pins,s.heap.get? p.1 = some p.2 /\ H p.1 = none /\ p.1 ≠ X.env.locals /\ p.1 ∉ X.fs /\ ∀ v,p.2.data ≠ .cell v
 hok:HOk X.prog X.w H s.heap
 len:σ.length = X.N.length
section
variable {X:Cx} {pins:List (Addr × Obj)} {σ:List (Option V)} {H H':Hp} {s:Ye} {h':Heap}
theorem Cx.Ok.nofr (ok:X.Ok) {b:Addr} {o:Obj} (e:X.base.get? b = some o):b ∉ X.fs:=fun hb=>by
 have:=(ok.funs.mem hb).1;rw [e] at this; cases this
theorem Inv.bs (I:Inv X pins σ H s):∀ b o,X.base.get? b = some o -> s.heap.get? b = some o /\ H b = none:=fun b o e=>
 ⟨I.base.keep b o (I.ok.bs b o e).1 (I.ok.bs b o e).2 (I.ok.nofr e) (I.ok.noex b o e),I.base.free b o (I.ok.bs b o e).1 (I.ok.bs b o e).2 (I.ok.noex b o e)⟩
theorem Inv.bk (I:Inv X pins σ H s):∀ b o,X.base.get? b = some o -> s.heap.get? b = some o:=fun b o e=>(I.bs b o e).1
theorem Inv.mod (I:Inv X pins σ H s):Mod X.K X.mg X.base:=I.ok.mod
theorem Inv.kIn (I:Inv X pins σ H s):X.K.In s.heap:=I.ok.mod.kin.keeps I.bk
theorem Inv.nolimit (I:Inv X pins σ H s):s.heap.NoLimit:=I.ok.mod.nolimit.keeps I.bk
theorem Inv.lt (I:Inv X pins σ H s):X.env.locals < s.heap.objs.size:=let ⟨_,hn,_⟩:=I.loc; hn.lt
theorem Inv.sz (I:Inv X pins σ H s):X.s₀.heap.objs.size <= s.heap.objs.size:=Y2 I.ok.above (Ycz I.lt)
theorem Inv.nofs (I:Inv X pins σ H s) {a:Addr} (h:s.heap.objs.size <= a):a ∉ X.fs:=fun hb=>by
 obtain ⟨_,o,ho,_⟩:=I.ok.funs.mem hb;exact absurd (Yx (Yr ho) (Y2 I.sz h)) (Ycs _)
theorem Inv.cne (I:Inv X pins σ H s):∀ x c,X.env.cells.lookup x = some c -> c ≠ X.env.locals:=fun x c e z=>by
 obtain ⟨v,o,ho,hd⟩:=I.cell x c e;obtain ⟨m,⟨o',es,ep,ho',hd',_⟩,_⟩:=I.loc;rw [z,ho'] at ho; cases ho; rw [hd'] at hd; cases hd
theorem Inv.funs (I:Inv X pins σ H s):s.heap.FunFrames X.base X.outer:=by
 have all:∀ (l:List Env),(∀ b ∈ frs l,b ∈ X.fs) -> X.s₀.heap.FunFrames X.base l -> s.heap.FunFrames X.base l:=by
  intro l
  induction l with
  | nil=>intro _ _; trivial
  | cons env r ih=>
   intro hs hl;obtain ⟨hk,⟨L,o,hf,hn,ho,hd⟩,hr⟩:=hl;have hL:L ∈ X.fs:=hs L (by unfold frs; rw [Yeg,hf]; exact Y7);obtain ⟨sl,e⟩:=I.base.slot L o ho (I.ok.frf L hL) hL fun z=>I.ok.exfs L z hL;exact ⟨hk,⟨L,_,hf,hn,e,hd⟩,ih (fun b hb=>hs b (by unfold frs; rw [Yeg,hf]; exact Y3 _ hb)) hr⟩
 exact all X.outer (fun _ hb=>hb) I.ok.funs
theorem Inv.stack (I:Inv X pins σ H s):s.heap.FunFrames X.base X.stack:=by
 rcases I.ok.stk with e | ⟨e,hf⟩
 ·rw [e]; exact I.funs
 ·rw [e]
  obtain ⟨m,hn,_⟩:=I.loc;refine .cons (by rw [I.ok.kind]; decide) hf hn ?_ I.funs;exact Heap.get?_none_of_le (Y2 I.ok.bsz I.ok.above)
theorem Inv.stkSub (I:Inv X pins σ H s):∀ b ∈ frs X.stack,b ∈ X.env.locals :: X.fs:=fun b hb=>by
 rcases I.ok.stk with e | ⟨e,hf⟩
 ·rw [e] at hb; exact Y3 _ hb
 ·rw [e] at hb
  unfold frs at hb;rw [Yeg,hf] at hb;exact hb
theorem Inv.stkFree (I:Inv X pins σ H s):∀ b ∈ frs X.stack,H b = none:=fun b hb=>by
 rcases Yah.mp (I.stkSub b hb) with e | hb
 ·rw [e]; exact I.free
 ·obtain ⟨_,o,ho,_⟩:=I.ok.funs.mem hb
  exact I.base.free b o ho (I.ok.frf b hb) fun z=>I.ok.exfs b z hb
theorem Inv.step {g':Array GenState} {t':Nat} {d':Drawn} {ch:List Addr} (I:Inv X pins σ H s)
  (hch:∀ b ∈ ch,(b ∈ X.ex \/ X.s₀.heap.objs.size <= b) /\ b ≠ X.env.locals /\ (∀ x c,X.env.cells.lookup x = some c -> c ≠ b) /\ ∀ p ∈ X.pn ++ pins,p.1 ≠ b)
  (keep:∀ b o,b ≠ X.env.locals -> b ∉ X.fs -> b ∉ ch -> s.heap.get? b = some o -> H b = none -> h'.get? b = some o)
  (slot:∀ b o,b ≠ X.env.locals -> b ∈ X.fs -> b ∉ ch -> s.heap.get? b = some o -> H b = none -> ∃ sl,h'.get? b = some { o with slots:=sl }) (free:∀ b o,b ∉ ch -> s.heap.get? b = some o -> H b = none -> H' b = none)
  (there:∀ b o,b ∉ ch -> s.heap.get? b = some o -> ∃ o',h'.get? b = some o')
  (tups:∀ b xs,H b = some (.tup xs) -> H' b = some (.tup xs)) (frzs:∀ b o u,H b = some (.frz o u) -> H' b = some (.frz o u)) (tbls:∀ b ps,H b = some (.tbl ps) -> ∃ more,H' b = some (.tbl (ps ++ more)))
  (ns:∀ m,s.heap.Ns X.env.locals m -> h'.Ns X.env.locals m) (hok:HOk X.prog X.w H' h') (hg:Ygc g'):
  Inv X pins σ H' { s with heap:=h',gens:=g',drawn:=d',toks:=t' }:=by
 have neL:∀ b o,X.s₀.heap.get? b = some o -> b ≠ X.env.locals:=fun b o e=>Yy (Yx (Yr e) I.ok.above);have neC:∀ b o,X.s₀.heap.get? b = some o -> b ∉ X.ex -> b ∉ ch:=fun b o e hx hb=>by
  rcases (hch b hb).1 with z | z
  ·exact hx z
  ·exact absurd (Yx (Yr e) z) (Ycs _)
 have cellK:∀ x c,X.env.cells.lookup x = some c -> ∀ v,s.heap.IsCell c v -> h'.IsCell c v:=fun x c e v zz1=>by
  obtain ⟨o,ho,hd⟩:=zz1;have nch:c ∉ ch:=fun z=>(hch c z).2.2.1 x c e rfl;by_cases hc:c ∈ X.fs
  ·obtain ⟨sl,q⟩:=slot c o (I.cne x c e) hc nch ho (I.freeC x c e)
   exact ⟨_,q,hd⟩
  ·exact ⟨o,keep c o (I.cne x c e) hc nch ho (I.freeC x c e),hd⟩
 refine ⟨I.ok,I.os,hg,⟨fun b o e n hb hx=>?_,fun b o e n hb hx=>?_,fun b o e n hx=>?_,fun b o e hx=>?_,fun b xs e=>tups b xs (I.base.tups b xs e),fun b o xs e=>frzs b o xs (I.base.frzs b o xs e),fun b ps e=>?_⟩,?_,fun x c e=>?_,?_,fun x c e=>?_,fun p hp=>?_,hok,I.len⟩
 ·exact keep b o (neL b o e) hb (neC b o e hx) (I.base.keep b o e n hb hx) (I.base.free b o e n hx)
 ·obtain ⟨sl,e1⟩:=I.base.slot b o e n hb hx
  obtain ⟨sl',e2⟩:=slot b _ (neL b o e) hb (neC b o e hx) e1 (I.base.free b o e n hx);exact ⟨sl',e2⟩
 ·obtain ⟨o',e1⟩:=I.base.there b o e hx
  exact free b o' (neC b o e hx) e1 (I.base.free b o e n hx)
 ·obtain ⟨o',e1⟩:=I.base.there b o e hx
  exact there b o' (neC b o e hx) e1
 ·obtain ⟨m1,e1⟩:=I.base.tbls b ps e
  obtain ⟨m2,e2⟩:=tbls b _ e1;exact ⟨m1 ++ m2,by rw [e2,Array.append_assoc]⟩
 ·obtain ⟨m,hn,hl⟩:=I.loc
  refine ⟨m,ns m hn,fun i x v e1 e2 e3=>?_⟩;obtain ⟨u,r,l⟩:=hl i x v e1 e2 e3;refine ⟨u,r,?_⟩;rcases l with l | ⟨k,c,e,z⟩
  ·exact .inl l
  ·exact .inr ⟨k,c,e,cellK x c e _ z⟩
 ·obtain ⟨v,z⟩:=I.cell x c e
  exact ⟨v,cellK x c e v z⟩
 ·obtain ⟨m,⟨o,_,_,ho,_⟩,_⟩:=I.loc
  exact free _ o (fun z=>(hch _ z).2.1 rfl) ho I.free
 ·obtain ⟨v,o,ho,hd⟩:=I.cell x c e
  exact free c o (fun z=>(hch c z).2.2.1 x c e rfl) ho (I.freeC x c e)
 ·obtain ⟨e,n,ne,nf,d⟩:=I.pin p hp
  have nch:p.1 ∉ ch:=fun z=>(hch p.1 z).2.2.2 p hp rfl;exact ⟨keep p.1 p.2 ne nf nch e n,free p.1 p.2 nch e n,ne,nf,d⟩
theorem Inv.un {t':Nat} (I:Inv X pins σ H s) (u:Un X.fs [] H H' s.heap h') (hok:HOk X.prog X.w H' h'):Inv X pins σ H' { s with heap:=h',toks:=t' }:=by
 obtain ⟨m,⟨o,es,ep,ho,r⟩,_⟩:=id I.loc;obtain ⟨sl,hL⟩:=u.any ho I.free (by simp);exact I.step (g':=s.gens) (d':=s.drawn) (ch:=[]) (fun _ z=>nomatch z) (fun b o _ hb _ e n=>u.keep b o e n hb (by simp)) (fun b o _ hb _ e n=>u.slot b o e n hb (by simp)) (fun b o _ e n=>u.free b o e n (by simp)) (fun b o _ e=>u.there b o e (by simp)) u.tups u.frzs u.tbls (fun m' hm=>by
  obtain ⟨o',es',ep',ho',r'⟩:=hm;rw [ho] at ho'; cases ho';exact ⟨_,es',ep',hL,r'⟩) hok I.bare
theorem Inv.call {g':Array GenState} {t':Nat} {d':Drawn} {ch:List Addr} (I:Inv X pins σ H s) (u:Un (frs X.stack) ch H H' s.heap h') (hok:HOk X.prog X.w H' h') (hg:Ygc g')
  (hch:∀ b ∈ ch,(b ∈ X.ex \/ X.s₀.heap.objs.size <= b) /\ b ≠ X.env.locals /\ (∀ x c,X.env.cells.lookup x = some c -> c ≠ b) /\ ∀ p ∈ X.pn ++ pins,p.1 ≠ b):
  Inv X pins σ H' { s with heap:=h',gens:=g',drawn:=d',toks:=t' }:=by
 obtain ⟨m,⟨o,es,ep,ho,r⟩,_⟩:=id I.loc;obtain ⟨sl,hL⟩:=u.any ho I.free fun z=>(hch _ z).2.1 rfl;exact I.step (ch:=ch) hch (fun b o hL hb hc e n=>u.keep b o e n (fun z=>(Yah.mp (I.stkSub b z)).elim hL hb) hc) (fun b o _ _ hc e n=>u.any e n hc) (fun b o hc e n=>u.free b o e n hc) (fun b o hc e=>u.there b o e hc) u.tups u.frzs u.tbls (fun m' hm=>by
  obtain ⟨o',es',ep',ho',r'⟩:=hm;rw [ho] at ho'; cases ho';exact ⟨_,es',ep',hL,r'⟩) hok hg
theorem Inv.turned {t':Nat} {it:Addr} (I:Inv X pins σ H s) (k:∀ b o,b ≠ it -> s.heap.get? b = some o -> h'.get? b = some o) (hn:H it = none) (hL:it ≠ X.env.locals)
  (h1:it ∈ X.ex \/ X.s₀.heap.objs.size <= it) (h2:∀ x c,X.env.cells.lookup x = some c -> c ≠ it) (h3:∀ p ∈ X.pn ++ pins,p.1 ≠ it):Inv X pins σ H { s with heap:=h',toks:=t' }:=by
 have nit:∀ b u,H b = some u -> b ≠ it:=fun b u e z=>by rw [z,hn] at e; cases e
 refine I.step (g':=s.gens) (d':=s.drawn) (ch:=[it]) (fun b hb=>?_) (fun b o _ _ hc e _=>k b o (fun z=>hc (by simp [z])) e) (fun b o _ _ hc e _=>⟨o.slots,k b o (fun z=>hc (by simp [z])) e⟩) (fun _ _ _ _ n=>n)
  (fun b o hc e=>⟨o,k b o (fun z=>hc (by simp [z])) e⟩) (fun _ _ e=>e) (fun _ _ _ e=>e) (fun b ps e=>⟨#[],by rw [e]; simp⟩) (fun m hm=>?_) (fun b u e=>?_) I.bare
 ·have e:b = it:=by simpa using hb
  subst e;exact ⟨h1,hL,h2,h3⟩
 ·obtain ⟨o,es,ep,ho,r⟩:=hm
  exact ⟨o,es,ep,k _ o (Yat hL) ho,r⟩
 ·refine (I.hok b u e).stay (fun c v hc q=>k c v ?_ q) (fun _ q=>q) fun _ _ q=>q
  rcases hc with z | z
  ·rw [z]; exact nit b u e
  ·exact nit c _ z
theorem Inv.tok (I:Inv X pins σ H s) (t:Nat):Inv X pins σ H { s with toks:=t }:=I.un (h':=s.heap) (t':=t) Un.refl I.hok
theorem Inv.kept {t':Nat} (I:Inv X pins σ H s) (k:∀ b u,s.heap.get? b = some u -> h'.get? b = some u):Inv X pins σ H { s with heap:=h',toks:=t' }:=I.un (Un.kept k) (I.hok.kept k)
theorem Inv.laid {a:Addr} {o:HO} {t':Nat} (I:Inv X pins σ H s) (k:∀ b u,s.heap.get? b = some u -> h'.get? b = some u) (hp:s.heap.objs.size <= a) (new:ZbH X.prog X.w (upd H a o) h' a o):
  Inv X pins σ (upd H a o) { s with heap:=h',toks:=t' }:=I.un (Un.laid k hp (I.hok.fresh hp)) (I.hok.laid k hp new)
theorem Inv.write {x e:Addr} {o:HO} {t':Nat} (I:Inv X pins σ H s) (mu:Mut (H x)) (he:e = x \/ H e = some (.own x)) (k:∀ b u,b ≠ e -> s.heap.get? b = some u -> h'.get? b = some u) (heo:∃ u,h'.get? e = some u)
  (new:ZbH X.prog X.w (upd H x o) h' x o):Inv X pins σ (upd H x o) { s with heap:=h',toks:=t' }:=I.un (Un.write mu he k heo) (I.hok.write mu he k heo new)
theorem Inv.pins_of {pins':List (Addr × Obj)} (I:Inv X pins σ H s) (h:∀ p ∈ pins',s.heap.get? p.1 = some p.2 /\ H p.1 = none /\ p.1 ≠ X.env.locals /\ p.1 ∉ X.fs /\ ∀ v,p.2.data ≠ .cell v):Inv X pins' σ H s:=
 ⟨I.ok,I.os,I.bare,I.base,I.loc,I.cell,I.free,I.freeC,fun p hp=>(Ybe.mp hp).elim (fun z=>I.pin p (Ygz _ z)) (h p),I.hok,I.len⟩
theorem ZlH {N:List Str} (hN:N.Nodup) {i j:Nat} {x:Str} (a:N[i]? = some x) (b:N[j]? = some x):i = j:=by
 obtain ⟨h1,e1⟩:=Yc.mp a;obtain ⟨h2,e2⟩:=Yc.mp b;exact (Yfr hN).mp (e1.trans e2.symm)
theorem Zkh {M:Model} {A:Yas} {E:Value -> Ye -> Prop} {i:Nat} {x:Str} {v:V} {u:Value} {Q:Unit -> Ye -> Prop} (I:Inv X pins σ H s) (hN:X.N.Nodup) (hi:X.N[i]? = some x) (hx:Loc X.env.scope x) (r:RelV v u)
  (h:∀ s',Inv X pins (σ.set i (some v)) H s' -> (∃ a,Yd8 a s.heap s'.heap /\ (a = X.env.locals \/ X.env.cells.lookup x = some a)) -> Q () s') (hf:X.fn x = true \/ X.env.scope.names.lookup x = some .local:=by first | exact .inl rfl | exact .inr rfl | assumption):wpAny M A (storeName X.env x u) Q E s:=by
 obtain ⟨m,hn,hl⟩:=id I.loc;have hcls:(X.env.scope.kind == .class || (X.env.scope.kind == .module && X.env.locals != X.env.globals)) = false:=by rw [I.ok.kind]; rfl
 have hiσ:i < σ.length:=by rw [I.len]; exact (Yc.mp hi).1
 have cne:=I.cne;have tracked:∀ {a:Addr} {h':Heap},(∃ o,s.heap.get? a = some o /\ H a = none) -> Yd8 a s.heap h' -> HOk X.prog X.w H h':=fun {a h'} ha hs b ob e=>by
  obtain ⟨_,_,hfree⟩:=ha;refine (I.hok b ob e).stay (fun c w' hc q=>(hs.2 c ?_).trans q) (fun _ q=>q) fun _ _ q=>q;rintro rfl;rcases hc with rfl | hc
  ·rw [hfree] at e; cases e
  ·rw [hfree] at hc; cases hc
 rcases hx with hk | hk
 ·refine wpAny_storeName_local hk hn (fun h' hn' hs=>?_) hcls
  obtain ⟨oL,_,_,hoL,_⟩:=id hn;refine h _ ⟨I.ok,I.os,I.bare,⟨fun b o e n hb hx=>?_,fun b o e n hb hx=>?_,I.base.free,fun b o e hx=>?_,I.base.tups,I.base.frzs,I.base.tbls⟩,⟨_,hn',fun j y v' e1 e2 e3=>?_⟩,fun y c e=>?_,I.free,I.freeC,fun p hp=>?_,tracked ⟨oL,hoL,I.free⟩ hs,by simpa using I.len⟩ ⟨_,hs,.inl rfl⟩
  ·exact (hs.2 b (Yy (Yx (Yr e) I.ok.above))).trans (I.base.keep b o e n hb hx)
  ·obtain ⟨sl,e1⟩:=I.base.slot b o e n hb hx
   exact ⟨sl,(hs.2 b (Yy (Yx (Yr e) I.ok.above))).trans e1⟩
  ·obtain ⟨o',e1⟩:=I.base.there b o e hx
   exact ⟨o',(hs.2 b (Yy (Yx (Yr e) I.ok.above))).trans e1⟩
  ·by_cases hj:j = i
   ·subst hj
    rw [hi] at e1; cases e1;rw [Y4 hiσ] at e2;cases e2;exact ⟨u,r,.inl ⟨hk,by simp⟩⟩
   ·rw [Yab (Yat hj)] at e2
    obtain ⟨u',r',q⟩:=hl j y v' e1 e2 e3;refine ⟨u',r',?_⟩;rcases q with ⟨k,e⟩ | ⟨k,c,e,z⟩
    ·refine .inl ⟨k,?_⟩
     have:y ≠ x:=fun e=>hj (ZlH hN e1 (e ▸ hi));simp [this,e]
    ·exact .inr ⟨k,c,e,z.sameBut hs (cne y c e)⟩
  ·obtain ⟨w',z⟩:=I.cell y c e
   exact ⟨w',z.sameBut hs (cne y c e)⟩
  ·obtain ⟨e,n,ne,nf,d⟩:=I.pin p hp
   exact ⟨(hs.2 p.1 ne).trans e,n,ne,nf,d⟩
 ·have hfn:X.fn x = true:=by
   rcases hf with z | z
   ·exact z
   ·rw [z] at hk; cases hk
  obtain ⟨c,hc⟩:=I.ok.has x (.inl hk);obtain ⟨w',z⟩:=I.cell x c hc;refine wpAny_storeName_cell I.ok.kind hk hc z (fun h' hc' hs=>?_);obtain ⟨oc,hoc,hocd⟩:=id z;refine h { s with heap:=h' } ⟨I.ok,I.os,I.bare,⟨fun b o e n hb hx=>?_,fun b o e n hb hx=>?_,I.base.free,fun b o e hx=>?_,I.base.tups,I.base.frzs,I.base.tbls⟩,⟨m,hn.sameBut hs (Yat (cne x c hc)),fun j y v' e1 e2 e3=>?_⟩,fun y c' e=>?_,I.free,I.freeC,fun p hp=>?_,tracked ⟨oc,hoc,I.freeC x c hc⟩ hs,by simpa using I.len⟩ ⟨c,hs,.inr hc⟩
  ·exact (hs.2 b (Yy (Yx (Yr e) (I.ok.cab x c hfn hc)))).trans (I.base.keep b o e n hb hx)
  ·obtain ⟨sl,e1⟩:=I.base.slot b o e n hb hx
   exact ⟨sl,(hs.2 b (Yy (Yx (Yr e) (I.ok.cab x c hfn hc)))).trans e1⟩
  ·obtain ⟨o',e1⟩:=I.base.there b o e hx
   exact ⟨o',(hs.2 b (Yy (Yx (Yr e) (I.ok.cab x c hfn hc)))).trans e1⟩
  ·by_cases hj:j = i
   ·subst hj
    rw [hi] at e1; cases e1;rw [Y4 hiσ] at e2;cases e2;exact ⟨u,r,.inr ⟨.inl hk,c,hc,hc'⟩⟩
   ·rw [Yab (Yat hj)] at e2
    obtain ⟨u',r',q⟩:=hl j y v' e1 e2 e3;refine ⟨u',r',?_⟩;rcases q with q | ⟨k,c',e,z'⟩
    ·exact .inl q
    ·refine .inr ⟨k,c',e,z'.sameBut hs ?_⟩
     rintro rfl;exact hj (ZlH hN e1 (I.ok.inj _ _ _ e hc ▸ hi))
  ·by_cases hcc:c' = c
   ·subst hcc; exact ⟨_,hc'⟩
   ·obtain ⟨w2,z2⟩:=I.cell y c' e
    exact ⟨w2,z2.sameBut hs hcc⟩
  ·obtain ⟨e,n,ne,nf,d⟩:=I.pin p hp
   refine ⟨(hs.2 p.1 ?_).trans e,n,ne,nf,d⟩;intro q;rw [q,hoc] at e;have q':oc = p.2:=Yq e;exact d w' (by rw [← q']; exact hocd)
theorem Zme {M:Model} {A:Yas} {E:Value -> Ye -> Prop} {i:Nat} {x:Str} {v:V} {u:Value} {Q:Unit -> Ye -> Prop} (I:Inv X pins σ H s) (hN:X.N.Nodup) (hi:X.N[i]? = some x) (hx:Loc X.env.scope x) (r:RelV v u)
  (h:∀ s',Inv X pins (σ.set i (some v)) H s' -> Q () s') (hf:X.fn x = true \/ X.env.scope.names.lookup x = some .local:=by first | exact .inl rfl | exact .inr rfl | assumption):wpAny M A (storeName X.env x u) Q E s:=
 Zkh I hN hi hx r (fun s' I' _=>h s' I') hf
theorem Inv.call' {s':Ye} {ch:List Addr} (I:Inv X pins σ H s) (ho:s'.os = s.os) (u:Un (frs X.stack) ch H H' s.heap s'.heap) (hok:HOk X.prog X.w H' s'.heap) (hg:Ygc s'.gens)
  (hch:∀ b ∈ ch,(b ∈ X.ex \/ X.s₀.heap.objs.size <= b) /\ b ≠ X.env.locals /\ (∀ x c,X.env.cells.lookup x = some c -> c ≠ b) /\ ∀ p ∈ X.pn ++ pins,p.1 ≠ b):Inv X pins σ H' s':=by
 obtain ⟨h',g',d',t',o'⟩:=s';have e:o' = s.os:=ho;subst e;exact I.call (g':=g') (t':=t') (d':=d') u hok hg hch
end
noncomputable abbrev XK:=Value -> Option Addr -> Hp -> Prop
noncomputable abbrev St:=List (Option V)
noncomputable abbrev VK:=V -> Hp -> Prop
noncomputable abbrev TE:=St -> Hp -> VK -> Prop
noncomputable abbrev TT:=St -> Hp -> (Bool -> Hp -> Prop) -> Prop
noncomputable abbrev TA:=St -> Hp -> (List V -> Hp -> Prop) -> Prop
structure Ends where
 nx:St -> Hp -> Prop
 rt:VK
 bk:St -> Hp -> Prop:=fun _ _=>False
 ct:St -> Hp -> Prop:=fun _ _=>False
noncomputable abbrev TS:=Ends -> St -> Hp -> Prop
inductive EP (X:Cx) (pins:List (Addr × Obj)) (σ:St) (Q:VK) (u:Value) (s':Ye):Prop where
 | mk (v:V) (H':Hp) (I:Inv X pins σ H' s') (r:RelV v u) (q:Q v H'):EP X pins σ Q u s'
inductive TP (X:Cx) (pins:List (Addr × Obj)) (σ:St) (Q:Bool -> Hp -> Prop) (b:Bool) (s':Ye):Prop where
 | mk (H':Hp) (I:Inv X pins σ H' s') (q:Q b H'):TP X pins σ Q b s'
inductive AP (X:Cx) (pins:List (Addr × Obj)) (σ:St) (Q:List V -> Hp -> Prop) (us:List Value) (s':Ye):Prop where
 | mk (vs:List V) (H':Hp) (I:Inv X pins σ H' s') (r:Vals vs us) (q:Q vs H'):AP X pins σ Q us s'
def SP (X:Cx) (pins:List (Addr × Obj)) (D:Ends) (f:Flow) (s':Ye):Prop:=
 match f with
 | .next=>∃ σ' H',Inv X pins σ' H' s' /\ D.nx σ' H'
 | .brk=>∃ σ' H',Inv X pins σ' H' s' /\ D.bk σ' H'
 | .cont=>∃ σ' H',Inv X pins σ' H' s' /\ D.ct σ' H'
 | .ret u=>∃ v σ' H',Inv X pins σ' H' s' /\ RelV v u /\ D.rt v H'
def PE (X:Cx) (e:Expr) (t:TE):Prop:=
 ∀ (pins:List (Addr × Obj)) (s:Ye) (σ:St) (H:Hp) (Q:VK),Inv X pins σ H s -> t σ H Q -> wpAny (model X.prog X.w) X.A (eval e X.env) (EP X pins σ Q) X.xe s
def PT (X:Cx) (e:Expr) (t:TT):Prop:=
 ∀ (pins:List (Addr × Obj)) (s:Ye) (σ:St) (H:Hp) (Q:Bool -> Hp -> Prop),Inv X pins σ H s -> t σ H Q -> wpAny (model X.prog X.w) X.A (isTrue e X.env (eval e X.env)) (TP X pins σ Q) X.xe s
def PW (X:Cx) (e:Expr) (t:TT):Prop:=
 ∀ (whole:Sem Value) (pins:List (Addr × Obj)) (s:Ye) (σ:St) (H:Hp) (Q:Bool -> Hp -> Prop),Inv X pins σ H s -> t σ H Q -> wpAny (model X.prog X.w) X.A (isTrue e X.env whole) (TP X pins σ Q) X.xe s
theorem PW.pt {X:Cx} {e:Expr} {t:TT} (h:PW X e t):PT X e t:=h _
def PA (X:Cx) (es:List Expr) (t:TA):Prop:=
 ∀ (pos:Pos) (pins:List (Addr × Obj)) (s:Ye) (σ:St) (H:Hp) (Q:List V -> Hp -> Prop),Inv X pins σ H s -> t σ H Q -> wpAny (model X.prog X.w) X.A (spliced (Yd9 pos (Yad es X.env))) (AP X pins σ Q) X.xe s
def PS (X:Cx) (st:Stmt) (t:TS):Prop:=
 ∀ (pins:List (Addr × Obj)) (s:Ye) (σ:St) (H:Hp) (D:Ends),Inv X pins σ H s -> t D σ H -> wpAny (model X.prog X.w) X.A (exec st X.env) (SP X pins D) X.xe s
def PSs (X:Cx) (st:List Stmt) (t:TS):Prop:=
 ∀ (pins:List (Addr × Obj)) (s:Ye) (σ:St) (H:Hp) (D:Ends),Inv X pins σ H s -> t D σ H -> wpAny (model X.prog X.w) X.A (execs st X.env) (SP X pins D) X.xe s
theorem thn {α:Type} {t:Sem α} {Q Q':α -> Ye -> Prop} {M:Model} {A:Yas} {E:Value -> Ye -> Prop} {s:Ye} (h:wpAny M A t Q E s) (hQ:∀ a s,Q a s -> Q' a s):wpAny M A t Q' E s:=Ybr h hQ fun _ _ x=>x
end L2
namespace L2
open PySem PySem.Spec PyProof.Rows
section
variable {X:Cx}
def Zwu (i:Nat):TE:=fun σ H Q=>∃ v,σ[i]? = some (some v) /\ Q v H
def tC (v:V):TE:=fun _ H Q=>Q v H
theorem ZsZ {i:Nat} {x:Str} {pos:Pos} (hN:X.N[i]? = some x) (hv:Vis X.env.scope x) (hd:(x == ("__debug__":Str)) = false:=by decide) (hcd:(x == ("__classdict__":Str)) = false:=by decide):PE X (.Name x pos) (Zwu i):=by
 intro pins s σ H Q I h;obtain ⟨v,e,h⟩:=h;obtain ⟨m,hn,hl⟩:=I.loc;obtain ⟨u,r,l⟩:=hl i x v hN e hv;have fin:EP X pins σ Q u s:=⟨v,H,I,r,h⟩;rcases l with ⟨hk,hm⟩ | ⟨hk,c,hc,hcell⟩
 ·exact wpAny_Name (wpAny_loadName_local I.ok.kind hk hn hm fin) hd
 ·rcases hk with hk | hk
  ·exact wpAny_Name (wpAny_loadName_cell I.ok.kind hk hc hcell fin) hd
  ·exact wpAny_Name (wpAny_loadName_free I.ok.kind hk hc hcell fin hcd) hd
theorem ZtJ {i j pos}:PE X (.Constant (.int i) j pos) (tC (.int i)):=fun _ _ _ H _ I h=>wpAny_Constant_int ⟨.int i,H,I.tok _,⟨_,rfl⟩,h⟩
theorem ZuU {b j pos}:PE X (.Constant (.bool b) j pos) (tC (.bl b)):=fun _ _ _ H _ I h=>Constant_bool ⟨.bl b,H,I,rfl,h⟩
theorem Ztm {j pos}:PE X (.Constant .none j pos) (tC .non):=fun _ _ _ H _ I h=>Constant_none ⟨.non,H,I,rfl,h⟩
theorem Zs9 {x j pos}:PE X (.Constant (.str x) j pos) (tC (.str x)):=fun _ _ _ H _ I h=>Calls.Constant_str ⟨.str x,H,I.tok _,⟨_,rfl⟩,h⟩
def Gl (X:Cx) (x:Str):Prop:=X.env.kindOf x = some .globalImplicit
theorem ZrO {E:Value -> Ye -> Prop} {pins:List (Addr × Obj)} {s:Ye} {σ:St} {H:Hp} {x:Str} {u:Value} {pos:Pos} {Q:Value -> Ye -> Prop} (I:Inv X pins σ H s) (hg:Gl X x) (hm:X.mg x = some u) (h:Q u s)
  (hd:(x == ("__debug__":Str)) = false:=by decide):wpAny (model X.prog X.w) X.A (eval (.Name x pos) X.env) Q E s:=
 Yen I.ok.kind hg (Calls.loadGlobal_global (by rw [I.ok.glob]; exact I.mod.glob.keeps I.bk) hm h) hd
theorem Zji {E:Value -> Ye -> Prop} {pins:List (Addr × Obj)} {s:Ye} {σ:St} {H:Hp} {x:Str} {u:Value} {pos:Pos} {Q:Value -> Ye -> Prop} (I:Inv X pins σ H s) (hg:Gl X x) (hm:X.mg x = none) (hv:Yaw x = some u) (h:Q u s)
  (hn:x ≠ "__name__":=by decide) (hd:(x == ("__debug__":Str)) = false:=by decide):wpAny (model X.prog X.w) X.A (eval (.Name x pos) X.env) Q E s:=by
 obtain ⟨mb,h1,h2⟩:=I.mod.blt;exact Yen I.ok.kind hg (Calls.loadGlobal_builtin (by rw [I.ok.glob]; exact I.mod.glob.keeps I.bk) hm (by rw [I.ok.blt]; exact h1.keeps I.bk) ((h2 x hn).trans hv) h) hd
theorem Zro {x:Str} {v:V} {u:Value} {pos:Pos} (hg:Gl X x) (hm:X.mg x = none) (hv:Yaw x = some u) (r:RelV v u) (hn:x ≠ "__name__":=by decide) (hd:(x == ("__debug__":Str)) = false:=by decide):PE X (.Name x pos) (tC v):=
 fun _ _ _ H _ I h=>Zji I hg hm hv ⟨v,H,I,r,h⟩ hn hd
variable {a b:Expr} {ta tb:TE} {pos:Pos}
def tB (t:TE):TT:=fun σ H Q=>t σ H fun x H1=>∃ c,x = .bl c /\ Q c H1
theorem Ztw {e:Expr} {t:TE} (h:PE X e t) (he:∀ whole,isTrue e X.env whole = (do let v ← whole; Yh1 e.pos; Yc0 [v] (truthy v)):=by intro _; rfl):PT X e (tB t):=by
 intro pins s σ H Q I hw;refine isTrue_plain (thn (h pins s σ H _ I hw) fun v s1 zz1=>?_) (he _);obtain ⟨x,H1,I1,r1,q1⟩:=zz1;obtain ⟨d,rfl,q⟩:=q1;cases r1;exact Yc8 ⟨H1,I1,q⟩
variable {tA tB':TT} {rest:List Expr}
def ZvL (t u:TT):TT:=fun σ H Q=>t σ H fun c H1=>if c = true then u σ H1 Q else Q false H1
def tOr (t u:TT):TT:=fun σ H Q=>t σ H fun c H1=>if c = true then Q true H1 else u σ H1 Q
def Zwy (t:TT):TT:=fun σ H Q=>t σ H fun c H1=>Q (!c) H1
theorem ZrA (ha:PT X a tA):PW X (.BoolOp .And [a] pos) tA:=by
 intro wh pins s σ H Q I h;refine isTrue_and (thn (ha pins s σ H Q I h) fun c s1 e=>?_);cases c with
 | true=>exact isTrue_and_nil e
 | false=>exact e
theorem Zs5 (ha:PT X a tA):PW X (.BoolOp .Or [a] pos) tA:=by
 intro wh pins s σ H Q I h;refine isTrue_or (thn (ha pins s σ H Q I h) fun c s1 e=>?_);cases c with
 | false=>exact isTrue_or_nil e
 | true=>exact e
theorem Zs4 (ha:PT X a tA) (hb:PW X (.BoolOp .And (b :: rest) pos) tB'):PW X (.BoolOp .And (a :: b :: rest) pos) (ZvL tA tB'):=by
 intro wh pins s σ H Q I h;refine isTrue_and (thn (ha pins s σ H _ I h) fun c s1 zz1=>?_);obtain ⟨H1,I1,q1⟩:=zz1;cases c with
 | true=>exact hb wh pins s1 σ H1 Q I1 q1
 | false=>exact ⟨H1,I1,q1⟩
theorem ZuV (ha:PT X a tA) (hb:PW X (.BoolOp .Or (b :: rest) pos) tB'):PW X (.BoolOp .Or (a :: b :: rest) pos) (tOr tA tB'):=by
 intro wh pins s σ H Q I h;refine isTrue_or (thn (ha pins s σ H _ I h) fun c s1 zz1=>?_);obtain ⟨H1,I1,q1⟩:=zz1;cases c with
 | true=>exact ⟨H1,I1,q1⟩
 | false=>exact hb wh pins s1 σ H1 Q I1 q1
theorem ZsG (ha:PT X a tA):PT X (.UnaryOp .Not a pos) (Zwy tA):=by
 intro pins s σ H Q I h;exact isTrue_not (thn (ha pins s σ H (fun c H1=>Q (!c) H1) I h) fun c s' ⟨H',I',q⟩=>⟨H',I',q⟩)
def Zum (ta tb:TE):TE:=fun σ H Q=>ta σ H fun x H1=>∃ c,x = .bl c /\ if c = true then tb σ H1 Q else Q (.bl false) H1
def Zwi (ta tb:TE):TE:=fun σ H Q=>ta σ H fun x H1=>∃ c,x = .bl c /\ if c = true then Q (.bl true) H1 else tb σ H1 Q
def ZuN (ta:TE):TE:=fun σ H Q=>ta σ H fun x H1=>∃ c,x = .bl c /\ Q (.bl (!c)) H1
theorem ZsU {op} {t:TE} (h:PE X a t):PE X (.BoolOp op [a] pos) t:=fun pins s σ H Q I hw=>BoolOp_one (h pins s σ H Q I hw)
theorem Zsk (ha:PE X a ta) (hb:PE X (.BoolOp .And (b :: rest) pos) tb):PE X (.BoolOp .And (a :: b :: rest) pos) (Zum ta tb):=by
 intro pins s σ H Q I h;refine BoolOp_and (thn (ha pins s σ H _ I h) fun v s1 zz1=>?_);obtain ⟨x,H1,I1,r1,q1⟩:=zz1;obtain ⟨c,rfl,q1⟩:=q1;cases r1;refine Yc8 ?_;cases c with
 | true=>exact hb pins s1 σ H1 Q I1 q1
 | false=>exact ⟨.bl false,H1,I1,rfl,q1⟩
theorem ZuY (ha:PE X a ta) (hb:PE X (.BoolOp .Or (b :: rest) pos) tb):PE X (.BoolOp .Or (a :: b :: rest) pos) (Zwi ta tb):=by
 intro pins s σ H Q I h;refine BoolOp_or (thn (ha pins s σ H _ I h) fun v s1 zz1=>?_);obtain ⟨x,H1,I1,r1,q1⟩:=zz1;obtain ⟨c,rfl,q1⟩:=q1;cases r1;refine Yc8 ?_;cases c with
 | false=>exact hb pins s1 σ H1 Q I1 q1
 | true=>exact ⟨.bl true,H1,I1,rfl,q1⟩
theorem Zty (ha:PE X a ta):PE X (.UnaryOp .Not a pos) (ZuN ta):=by
 intro pins s σ H Q I h;refine UnaryOp_ (thn (ha pins s σ H _ I h) fun v s1 zz1=>?_);obtain ⟨x,H1,I1,r1,q1⟩:=zz1;obtain ⟨c,rfl,q1⟩:=q1;cases r1;exact not_of (Yc8 ⟨.bl (!c),H1,I1,rfl,q1⟩)
def tIf (t:TT) (ta tb:TE):TE:=fun σ H Q=>t σ H fun c H1=>if c = true then ta σ H1 Q else tb σ H1 Q
theorem ZpK {c:Expr} (hc:PT X c tA) (ha:PE X a ta) (hb:PE X b tb):PE X (.IfExp c a b pos) (tIf tA ta tb):=by
 intro pins s σ H Q I h;refine wpAny_IfExp (thn (hc pins s σ H _ I h) fun d s1 zz1=>?_);obtain ⟨H1,I1,q1⟩:=zz1;cases d with
 | true=>exact ha pins s1 σ H1 Q I1 q1
 | false=>exact hb pins s1 σ H1 Q I1 q1
end
end L2
namespace L2
open PySem PySem.Spec PyProof.Rows
def SqL (K:Ya) (H:Hp) (a:Addr) (xs:List V):Prop:=
 Rd H a (.lst xs) \/
  ∃ (o:Obj) (its:Array Value) (n:Nat),K.lookup a = some o /\ o.cls = .type "list" /\ o.dict = none /\ o.data = .seq its n /\ its.size <= Y8 /\ Vals xs its.toList
def SqT (K:Ya) (H:Hp) (a:Addr) (xs:List V):Prop:=
 Rd H a (.tup xs) \/
  ∃ (o:Obj) (its:Array Value) (n:Nat),K.lookup a = some o /\ (o.cls = .type "tuple" /\ o.dict = none) /\ o.data = .seq its n /\ its.size <= Y8 /\ Vals xs its.toList
noncomputable def ZwE:Value -> Option V
 | .none=>some .non
 | .bool b=>some (.bl b)
 | .int i _=>some (.int i)
 | .str x _=>some (.str x)
 | .bytes b _=>some (.byt b)
 | .float b _=>some (.flt b)
 | .ref a=>some (.ref a)
 | .type n=>some (.ty n)
 | _=>none
theorem RelV.abs {x:V} {u:Value} (r:RelV x u):ZwE u = some x:=by
 cases x with
 | non=>cases r; rfl
 | bl _=>cases r; rfl
 | int _=>obtain ⟨t,rfl⟩:=r; rfl
 | str _=>obtain ⟨t,rfl⟩:=r; rfl
 | byt _=>obtain ⟨t,rfl⟩:=r; rfl
 | flt _=>obtain ⟨t,rfl⟩:=r; rfl
 | ref _=>cases r; rfl
 | ty _=>cases r; rfl
theorem RelV.inj {x y:V} {u:Value} (r:RelV x u) (q:RelV y u):x = y:=Yq (r.abs.symm.trans q.abs)
theorem Vals.inj:∀ {xs ys:List V} {us:List Value},Vals xs us -> Vals ys us -> xs = ys
 | _,_,_,.nil,.nil=>rfl
 | _,_,_,.cons r t,.cons r' t'=>by rw [r.inj r',Vals.inj t t']
section
variable {X:Cx} {pins:List (Addr × Obj)} {σ:St} {H:Hp} {s:Ye} {a:Addr} {xs ys:List V}
theorem SqL.of {K:Ya} (h:H a = some (.lst xs)):SqL K H a xs:=.inl (.inl h)
theorem SqT.of {K:Ya} (h:H a = some (.tup xs)):SqT K H a xs:=.inl (.inl h)
theorem Inv.list (I:Inv X pins σ H s) (h:SqL X.K H a xs):∃ its:List Value,Vals xs its /\ PlainL s.heap a its.toArray /\ xs.length <= Y8:=by
 rcases h with h | ⟨o,its,n,hk,hc,hd,hs,hz,r⟩
 ·obtain ⟨z,its,n,r,e⟩:=h.ok I.hok
  exact ⟨its,r,⟨_,n,e,rfl,rfl,rfl⟩,z⟩
 ·refine ⟨its.toList,r,⟨o,n,I.kIn a o hk,hc,hd,by simpa using hs⟩,?_⟩
  have e:=r.length;simp only [Ydf] at e;exact lC 2 2199576973345 T1 e hz
theorem Inv.tuple (I:Inv X pins σ H s) (h:SqT X.K H a xs):∃ its:List Value,Vals xs its /\ IsTup s.heap a its.toArray /\ xs.length <= Y8:=by
 rcases h with h | ⟨o,its,n,hk,hc,hs,hz,r⟩
 ·obtain ⟨z,its,r,p⟩:=h.ok I.hok
  exact ⟨its,r,p.tup,z⟩
 ·refine ⟨its.toList,r,⟨o,I.kIn a o hk,hc.1,n,by simpa using hs⟩,?_⟩
  have e:=r.length;simp only [Ydf] at e;exact lC 2 2199576973345 T1 e hz
theorem Inv.list_inj (I:Inv X pins σ H s) (h:SqL X.K H a xs) (h':SqL X.K H a ys):xs = ys:=by
 obtain ⟨its,r,⟨o,n,e,_,_,d⟩,_⟩:=I.list h;obtain ⟨its',r',⟨o',n',e',_,_,d'⟩,_⟩:=I.list h';rw [e] at e'; cases e';rw [d] at d';injection d' with d1 _;have:its = its':=by simpa using congrArg Yeu d1
 subst this;exact r.inj r'
theorem Inv.tupleN (I:Inv X pins σ H s) (h:SqT X.K H a xs):∃ its:List Value,Vals xs its /\ ZeT s.heap a its.toArray /\ xs.length <= Y8:=by
 rcases h with h | ⟨o,its,n,hk,hc,hs,hz,r⟩
 ·obtain ⟨z,its,r,p⟩:=h.ok I.hok; exact ⟨its,r,p,z⟩
 ·refine ⟨its.toList,r,⟨o,I.kIn a o hk,hc,n,by simpa using hs⟩,?_⟩; have e:=r.length; simp only [Ydf] at e; exact lC 2 2199576973345 T1 e hz
theorem Inv.tuple_inj (I:Inv X pins σ H s) (h:SqT X.K H a xs) (h':SqT X.K H a ys):xs = ys:=by
 obtain ⟨its,r,⟨o,e,_,n,d⟩,_⟩:=I.tuple h;obtain ⟨its',r',⟨o',e',_,n',d'⟩,_⟩:=I.tuple h';rw [e] at e'; cases e';rw [d] at d';injection d' with d1 _;have:its = its':=by simpa using congrArg Yeu d1
 subst this;exact r.inj r'
end
noncomputable abbrev Cx.wish (X:Cx) (E:Value -> Ye -> Prop):Cx:={ X with xe:=E }
noncomputable abbrev Cx.nox (X:Cx):Cx:=X.wish fun _ _=>False
theorem Cx.Ok.wish {X:Cx} (ok:X.Ok) (E:Value -> Ye -> Prop):(X.wish E).Ok:=
 ⟨ok.mod,ok.kind,ok.glob,ok.blt,ok.above,ok.inj,ok.has,ok.cab,ok.hd,ok.frames,ok.stk,ok.exf,ok.bs,ok.bsz,ok.noex,ok.exfs,ok.funs,ok.frf⟩
theorem Cx.Ok.unwish {X:Cx} {E:Value -> Ye -> Prop} (ok:(X.wish E).Ok):X.Ok:=
 ⟨ok.mod,ok.kind,ok.glob,ok.blt,ok.above,ok.inj,ok.has,ok.cab,ok.hd,ok.frames,ok.stk,ok.exf,ok.bs,ok.bsz,ok.noex,ok.exfs,ok.funs,ok.frf⟩
section
variable {X:Cx} {pins:List (Addr × Obj)} {σ:St} {H:Hp} {s:Ye} {E:Value -> Ye -> Prop}
theorem Inv.wish (I:Inv X pins σ H s) (E:Value -> Ye -> Prop):Inv (X.wish E) pins σ H s:=⟨I.ok.wish E,I.os,I.bare,I.base,I.loc,I.cell,I.free,I.freeC,I.pin,I.hok,I.len⟩
theorem Inv.unwish (I:Inv (X.wish E) pins σ H s):Inv X pins σ H s:=⟨I.ok.unwish,I.os,I.bare,I.base,I.loc,I.cell,I.free,I.freeC,I.pin,I.hok,I.len⟩
theorem SP.unwish {D:Ends} {f:Flow} {s':Ye} (h:SP (X.wish E) pins D f s'):SP X pins D f s':=by
 cases f with
 | next=>obtain ⟨σ',H',I,q⟩:=h; exact ⟨σ',H',I.unwish,q⟩
 | brk=>obtain ⟨σ',H',I,q⟩:=h; exact ⟨σ',H',I.unwish,q⟩
 | cont=>obtain ⟨σ',H',I,q⟩:=h; exact ⟨σ',H',I.unwish,q⟩
 | ret u=>obtain ⟨v,σ',H',I,r,q⟩:=h; exact ⟨v,σ',H',I.unwish,r,q⟩
theorem PSs.nox {st:List Stmt} {t:TS} (h:PSs X.nox st t):PSs X st t:=fun pins s σ H D I hw=>
 Ybr (h pins s σ H D (I.wish _) hw) (fun _ _ q=>q.unwish) fun _ _ z=>Ybk z
end
section
variable {X:Cx} {st:Stmt} {rest:List Stmt} {t u:TS} {e:Expr} {te:TE} {pos:Pos}
def Zux:TS:=fun D σ H=>D.nx σ H
def ZvX (t u:TS):TS:=fun D σ H=>t { D with nx:=u D } σ H
theorem Zq3:PSs X [] Zux:=fun _ _ σ H _ I h=>Yeh ⟨σ,H,I,h⟩
theorem Zpb (h1:PS X st t) (h2:PSs X rest u):PSs X (st :: rest) (ZvX t u):=by
 intro pins s σ H D I h;refine wpAny_execs_cons (thn (h1 pins s σ H { D with nx:=u D } I h) fun f s1 q=>?_);cases f with
 | next=>
  obtain ⟨σ',H',I',q⟩:=q;exact h2 pins s1 σ' H' D I' q
 | ret v=>exact q
 | brk=>exact q
 | cont=>exact q
theorem Zq1 (h1:PS X st t):PSs X [st] t:=by
 intro pins s σ H D I h;refine wpAny_execs_cons (thn (h1 pins s σ H D I h) fun f s1 q=>?_);cases f with
 | next=>exact Yeh q
 | ret v=>exact q
 | brk=>exact q
 | cont=>exact q
theorem Inv.quiet {pins:List (Addr × Obj)} {σ:St} {H:Hp} {s:Ye} (I:Inv X pins σ H s):interactive X.env = false:=by simp [interactive,I.ok.kind]
def ZuS (te:TE):TS:=fun D σ H=>te σ H fun _ H1=>D.nx σ H1
theorem Zry (he:PE X e te) (hs:Yei e none pos.line X.env = pure false:=by rfl):PS X (.Expr e pos) (ZuS te):=by
 intro pins s σ H D I h;exact wpAny_Expr_any (thn (he pins s σ H _ I h) fun v s1 ⟨x,H1,I1,r1,q1⟩=>⟨σ,H1,I1,q1⟩) I.quiet hs
def Zwc (te:TE):TS:=fun D σ H=>te σ H D.rt
theorem ZsH (he:PE X e te):PS X (.Return (some e) pos) (Zwc te):=by
 intro pins s σ H D I h;exact wpAny_Return_some (thn (he pins s σ H _ I h) fun v s1 ⟨x,H1,I1,r1,q1⟩=>⟨x,σ,H1,I1,r1,q1⟩)
def Zwz (c:TT) (t u:TS):TS:=fun D σ H=>c σ H fun b H1=>if b = true then t D σ H1 else u D σ H1
theorem Zu9 {c:Expr} {a b:List Stmt} {tc:TT} (hc:PT X c tc) (ha:PSs X a t) (hb:PSs X b u):PS X (.If c a b pos) (Zwz tc t u):=by
 intro pins s σ H D I h;refine wpAny_If (thn (hc pins s σ H _ I h) fun d s1 zz1=>?_);obtain ⟨H1,I1,q1⟩:=zz1;cases d with
 | true=>exact ha pins s1 σ H1 D I1 q1
 | false=>exact hb pins s1 σ H1 D I1 q1
end
noncomputable abbrev TG:=V -> St -> Hp -> (St -> Hp -> Prop) -> Prop
noncomputable abbrev TGs:=List V -> St -> Hp -> (St -> Hp -> Prop) -> Prop
def PG (X:Cx) (target:Expr) (t:TG):Prop:=
 ∀ (pins:List (Addr × Obj)) (s:Ye) (σ:St) (H:Hp) (v:V) (u:Value) (Q:St -> Hp -> Prop),Inv X pins σ H s -> RelV v u -> t v σ H Q ->
  wpAny (model X.prog X.w) X.A (Ydb target X.env u) (fun _ s'=>∃ σ' H',Inv X pins σ' H' s' /\ Q σ' H') X.xe s
def PGs (X:Cx) (ts:List Expr) (t:TGs):Prop:=
 ∀ (pins:List (Addr × Obj)) (s:Ye) (σ:St) (H:Hp) (vs:List V) (us:List Value) (Q:St -> Hp -> Prop),Inv X pins σ H s -> Vals vs us -> t vs σ H Q ->
  wpAny (model X.prog X.w) X.A (assignInOrder ((Yam ts X.env).map (·.2)) us) (fun _ s'=>∃ σ' H',Inv X pins σ' H' s' /\ Q σ' H') X.xe s
noncomputable abbrev Ztq:=V -> V -> V -> Hp -> (Hp -> Prop) -> Prop
def Zu0 (X:Cx) (t:Ztq):Prop:=
 ∀ (pins:List (Addr × Obj)) (s:Ye) (σ:St) (H:Hp) (o i v:V) (ov iv u:Value) (Q:Hp -> Prop),Inv X pins σ H s -> RelV o ov -> RelV i iv -> RelV v u -> t o i v H Q ->
  wpAny (model X.prog X.w) X.A (Yh2 ov iv u) (fun _ s'=>∃ H',Inv X pins σ H' s' /\ Q H') X.xe s
section
variable {X:Cx} {pos:Pos}
def ZrY (i:Nat):TG:=fun v σ H Q=>Q (σ.set i (some v)) H
theorem Zod {i:Nat} {x:Str} (hN:X.N.Nodup) (hi:X.N[i]? = some x) (hx:Loc X.env.scope x) (hf:X.fn x = true \/ X.env.scope.names.lookup x = some .local:=by first | exact .inl rfl | exact .inr rfl | assumption):PG X (.Name x pos) (ZrY i):=by
 intro pins s σ H v u Q I r h;exact wpAny_assign_Name (Zme I hN hi hx r (fun s' I'=>⟨_,H,I',h⟩) hf)
def Zv6:TGs:=fun vs σ H Q=>vs = [] /\ Q σ H
def ZuK (t:TG) (u:TGs):TGs:=fun vs σ H Q=>∃ v r,vs = v :: r /\ t v σ H fun σ' H'=>u r σ' H' Q
theorem ZnY:PGs X [] Zv6:=by
 intro pins s σ H vs us Q I r h;obtain ⟨e,h⟩:=h;subst e;cases r;exact assignInOrder_nil ⟨σ,H,I,h⟩
theorem Zjn {e:Expr} {es:List Expr} {t:TG} {u:TGs} (h1:PG X e t) (h2:PGs X es u)
  (hs:(Yam (e :: es) X.env).map (·.2) = Ydb e X.env :: (Yam es X.env).map (·.2):=by rfl):PGs X (e :: es) (ZuK t u):=by
 intro pins s σ H vs us Q I r h;obtain ⟨v,vr,e1,h⟩:=h;subst e1;cases r with
 | cons r rr=>
  rw [hs];refine assignInOrder_cons (thn (h1 pins s σ H _ _ _ I r h) fun _ s1 zz1=>?_);obtain ⟨σ1,H1,I1,q1⟩:=zz1;exact h2 pins s1 σ1 H1 _ _ Q I1 rr q1
def Zwm (K:Ya) (n:Nat) (t:TGs):TG:=fun v σ H Q=>∃ a xs,v = .ref a /\ SqT K H a xs /\ xs.length = n /\ t xs σ H Q
theorem Zqp {es:List Expr} {k:Nat} {t:TGs} {n:Nat} (hc:X.calm = true) (h:PGs X es t)
  (hn:(Yam es X.env).length = n:=by rfl) (hst:(Yam es X.env).findIdx? (·.1) = none:=by rfl):PG X (.Tuple es k pos) (Zwm X.K n t):=by
 intro pins s σ H v u Q I r hw;obtain ⟨a,xs,e1,hq,hl,hw⟩:=hw;subst e1;cases r;obtain ⟨its,rv,ht,hz⟩:=I.tuple hq;refine assign_Tuple_tuple (I.ok.hd hc) ht (by simp [hn,← hl,rv.length]) hst fun h' hx=>?_;have I1:Inv X pins σ H { s with heap:=h' }:=I.kept (t':=s.toks) fun b o e=>hx b o (Yy (Yr e)) e;exact h pins _ σ H xs _ Q I1 (by simpa using rv) hw
def Zwt (to ti:TE) (t:Ztq):TG:=fun v σ H Q=>to σ H fun o H1=>ti σ H1 fun i H2=>t o i v H2 fun H3=>Q σ H3
theorem Zo7 {o i:Expr} {to ti:TE} {t:Ztq} (ho:PE X o to) (hi:PE X i ti) (hs:Zu0 X t)
  (ha:∀ v,Ydb (.Subscript o i pos) X.env v = (do
   let ov ← Yc0 [v] (eval o X.env)
   let iv ← Yc0 [v,ov] (eval i X.env)
   Yh1 pos
   Yc0 [v,ov,iv] (Yh2 ov iv v)
   Yil [v,ov,iv] []):=by intro _; rfl):PG X (.Subscript o i pos) (Zwt to ti t):=by
 intro pins s σ H v u Q I r h;rw [ha];refine Yd (Yaz (thn (ho pins s σ H _ I h) fun ov s1 zz1=>?_));obtain ⟨x,H1,I1,r1,q1⟩:=zz1;refine Yd (Yaz (thn (hi pins s1 σ H1 _ I1 q1) fun iv s2 zz1=>?_));obtain ⟨y,H2,I2,r2,q2⟩:=zz1;refine Yd (Yfd (Yd (Yaz (thn (hs pins s2 σ H2 x y v ov iv u _ I2 r1 r2 r q2) fun _ s3 zz1=>?_))));obtain ⟨H3,I3,q3⟩:=zz1;exact wpAny_release ⟨σ,H3,I3,q3⟩
def Zul (te:TE) (g:TG):TS:=fun D σ H=>te σ H fun x H1=>g x σ H1 D.nx
theorem ZkS {tg e:Expr} {te:TE} {g:TG} (he:PE X e te) (hg:PG X tg g) (hs:Yed [tg] e pos.line X.env = pure false:=by rfl) (hw:Yee [tg] e X.env = pure none:=by rfl)
  (h1:(Yam [tg] X.env).map (·.2) = [Ydb tg X.env]:=by rfl):PS X (.Assign [tg] e pos) (Zul te g):=by
 intro pins s σ H D I h;refine wpAny_Assign_stores (thn (he pins s σ H _ I h) fun v s1 zz1=>?_) hs hw;obtain ⟨x,H1,I1,r1,q1⟩:=zz1;rw [h1];exact thn (hg pins s1 σ H1 x v _ I1 r1 q1) fun _ s2 q=>q
theorem ZtH {i:Nat} {x:Str} {e:Expr} {te:TE} {pos':Pos} (hN:X.N.Nodup) (hi:X.N[i]? = some x) (hx:Loc X.env.scope x) (he:PE X e te) (hs:Yei e (some (.Name x pos')) pos.line X.env = pure false:=by rfl) (hf:X.fn x = true \/ X.env.scope.names.lookup x = some .local:=by first | exact .inl rfl | exact .inr rfl | assumption):
  PS X (.Assign [.Name x pos'] e pos) (Zul te (ZrY i)):=by
 intro pins s σ H D I h;refine wpAny_Assign_Name (thn (he pins s σ H _ I h) fun v s1 zz1=>?_) hs;obtain ⟨y,H1,I1,r1,q1⟩:=zz1;exact Zme I1 hN hi hx r1 (fun s2 I2=>⟨_,H1,I2,q1⟩) hf
end
section
variable {X:Cx} {pos:Pos}
def ZsP (c:TT) (tb:TS):TS:=fun D σ H=>∃ W:Nat -> St -> Hp -> Prop,(∃ m,W m σ H) /\ ∀ m σ H,W m σ H ->
 c σ H fun b H1=>if b = true then ∃ N:St -> Hp -> Prop,(∀ σ' H',N σ' H' -> ∃ m',m' < m /\ W m' σ' H') /\ tb { D with nx:=N,ct:=N,bk:=D.nx } σ H1 else D.nx σ H1
theorem ZqA {c:Expr} {body:List Stmt} {tc:TT} {tb:TS} (hp:PassesOwn (model X.prog X.w) X.A X.env X.xe) (hc:PT X c tc) (hb:PSs X body tb):PS X (.While c body [] pos) (ZsP tc tb):=by
 intro pins s σ H D I h;obtain ⟨W,⟨m0,w0⟩,turn⟩:=h;refine wpAny_While (codeAny_whileLoop (fun n s'=>∃ σ' H',Inv X pins σ' H' s' /\ W n σ' H') ?_ m0 ⟨σ,H,I,w0⟩);rintro n s1 ⟨σ1,H1,I1,w1⟩;refine Yck hp (thn (hc pins s1 σ1 H1 _ I1 (turn n σ1 H1 w1)) fun b s2 zz1=>?_);obtain ⟨H2,I2,q2⟩:=zz1;cases b with
 | true=>
  obtain ⟨N,hN,q2⟩:=q2;rw [if_pos rfl];refine Yck hp (thn (hb pins s2 σ1 H2 _ I2 q2) fun f s3 q3=>?_);cases f with
  | next=>
   obtain ⟨σ3,H3,I3,n3⟩:=q3;obtain ⟨m',hm,w3⟩:=hN σ3 H3 n3;exact ⟨m',hm,σ3,H3,I3,w3⟩
  | cont=>
   obtain ⟨σ3,H3,I3,n3⟩:=q3;obtain ⟨m',hm,w3⟩:=hN σ3 H3 n3;exact ⟨m',hm,σ3,H3,I3,w3⟩
  | brk=>exact q3
  | ret v=>exact q3
 | false=>
  rw [if_neg Yaq];exact Yeh ⟨σ1,H2,I2,q2⟩
end
structure It where
 go:Nat -> Hp -> Prop
 yld:Nat -> Hp -> V -> Hp -> Prop
 stop:Nat -> Hp -> Prop
def Zgi (X:Cx) (pins:List (Addr × Obj)) (H:Hp) (b:Addr):Prop:=
 H b = none /\ b ≠ X.env.locals /\ b ∉ X.fs /\ (b ∈ X.ex \/ X.s₀.heap.objs.size <= b) /\ (∀ x c,X.env.cells.lookup x = some c -> c ≠ b) /\ ∀ p ∈ X.pn ++ pins,p.1 ≠ b
theorem Inv.fpOk {X:Cx} {pins:List (Addr × Obj)} {σ:St} {H H':Hp} {s:Ye} {b:Addr} (I:Inv X pins σ H s) (hb:s.heap.objs.size <= b) (hn:H' b = none):Zgi X pins H' b:=by
 refine ⟨hn,Ygd (Yx I.lt hb),I.nofs hb,.inr (Y2 I.sz hb),fun x c e z=>?_,fun p hp z=>?_⟩
 ·obtain ⟨v,q⟩:=I.cell x c e
  exact absurd (Yx q.lt (by rw [z]; exact hb)) (Ycs _)
 ·exact absurd (Yx (Yr (I.pin p hp).1) (by rw [z]; exact hb)) (Ycs _)
structure Turn (P:Yai) (w:World) (K:Ya) (tg:Expr) (J:It) (fp:List Addr) (it:Addr) (tn:Nat -> Heap -> Prop):Prop where
 mem:it ∈ fp
 obj:∀ i h,tn i h -> ∀ b ∈ fp,∃ o,h.get? b = some o /\ ∀ v,o.data ≠ .cell v
 keep:∀ i h h',tn i h -> (∀ b ∈ fp,∀ o,h.get? b = some o -> h'.get? b = some o) -> tn i h'
 item:∀ (X:Cx),X.prog = P -> X.w = w -> X.K = K -> X.calm = true -> ∀ (i:Nat) (pins:List (Addr × Obj)) (s:Ye) (σ:St) (H:Hp) (E:Value -> Ye -> Prop),Inv X pins σ H s -> (∀ b ∈ fp,Zgi X pins H b) -> tn i s.heap -> J.go i H ->
  wpAny (model P w) X.A (Yhv (.ref it)) (fun r s1=>∃ u,r = some u /\
   wpAny (model P w) X.A (Ydq tg (.ref it) u) (fun _ s2=>∃ x H',Inv X pins σ H' s2 /\ RelV x u /\ J.yld i H x H' /\ tn (i + 1) s2.heap /\ ∀ b ∈ fp,H' b = none) E s1) E s
 done:∀ (X:Cx),X.prog = P -> X.w = w -> X.K = K -> X.calm = true -> ∀ (i:Nat) (pins:List (Addr × Obj)) (s:Ye) (σ:St) (H:Hp) (E:Value -> Ye -> Prop),Inv X pins σ H s -> (∀ b ∈ fp,Zgi X pins H b) -> tn i s.heap -> J.stop i H ->
  wpAny (model P w) X.A (Yhv (.ref it)) (fun r s1=>r = none /\ Inv X pins σ H s1) E s
 self:∀ (A:Yas) (i:Nat) (s:Ye) (Q:Value -> Ye -> Prop) (E:Value -> Ye -> Prop),tn i s.heap -> Q (.ref it) s -> wpAny (model P w) A (pyIter (.ref it)) Q E s
noncomputable abbrev TI:=St -> Hp -> (It -> Hp -> Prop) -> Prop
def PIE (X:Cx) (pins:List (Addr × Obj)) (σ:St) (tg:Expr) (R:It -> Hp -> Prop) (itv:Value) (s2:Ye):Prop:=
 ∃ (it:Addr) (fp:List Addr) (tn:Nat -> Heap -> Prop) (J:It) (H':Hp),itv = .ref it /\ Inv X pins σ H' s2 /\ Turn X.prog X.w X.K tg J fp it tn /\ tn 0 s2.heap /\ (∀ b ∈ fp,Zgi X pins H' b) /\ R J H'
def PI (X:Cx) (tg iter:Expr) (wi:TI):Prop:=
 ∀ (pins:List (Addr × Obj)) (s:Ye) (σ:St) (H:Hp) (R:It -> Hp -> Prop),Inv X pins σ H s -> wi σ H R ->
  wpAny (model X.prog X.w) X.A (eval iter X.env) (fun v s1=>wpAny (model X.prog X.w) X.A (pyIter v) (PIE X pins σ tg R) X.xe s1) X.xe s
theorem ZlC {M:Model} {A:Yas} {E:Value -> Ye -> Prop} {s:Ye} {tg:Expr} {it:Addr} {u:Value} {o:Obj} {n:String} {vs:Array Value} {Q:Unit -> Ye -> Prop} (ho:s.heap.get? it = some o) (hc:o.cls = .type n) (hd:o.data = .fields vs)
  (hn:["enumerate","zip","dict_itemiterator","dict_reverseitemiterator","odict_iterator","itertools.zip_longest","itertools.pairwise"].contains n = false) (hQ:Q () s):wpAny M A (Ydq tg (.ref it) u) Q E s:=by
 unfold Ydq;cases tg <;> first
  | exact Ys hQ
  | (cases u <;> first
    | exact Ys hQ
    | (refine Yd (wpAny_load ho ?_)
       rw [hc,hd];show wpAny M A (if (["enumerate","zip","dict_itemiterator","dict_reverseitemiterator","odict_iterator","itertools.zip_longest","itertools.pairwise"].contains n && vs[0]? == some (Yik _)) = true then _ else _) Q E s;rw [if_neg (by intro h; rw [hn,Yb4] at h; cases h)];exact Ys hQ))
noncomputable def Itl (K:Ya) (a:Addr):It:=
 ⟨fun i H=>∃ xs x,SqL K H a xs /\ xs[i]? = some x,fun i H x H'=>H' = H /\ ∀ xs,SqL K H a xs -> xs[i]? = some x,fun i H=>∃ xs,SqL K H a xs /\ xs.length <= i⟩
noncomputable def Itt (K:Ya) (a:Addr):It:=
 ⟨fun i H=>∃ xs x,SqT K H a xs /\ xs[i]? = some x,fun i H x H'=>H' = H /\ ∀ xs,SqT K H a xs -> xs[i]? = some x,fun i H=>∃ xs,SqT K H a xs /\ xs.length <= i⟩
noncomputable def Itr (lo:Int) (n:Nat):It:=⟨fun i _=>i < n,fun i H x H'=>H' = H /\ x = .int (lo + i),fun i _=>n <= i⟩
theorem Zow {P:Yai} {w:World} {K:Ya} {tg:Expr} (a it:Addr):Turn P w K tg (Itl K a) [it] it (fun i h=>h.IsListIter it a i) where
 mem:=by simp
 obj:=fun i h st b hb=>by
  have e:b = it:=by simpa using hb
  subst e;obtain ⟨o,e,c,d⟩:=st;exact ⟨o,e,fun v z=>by rw [d] at z; cases z⟩
 keep:=fun i h h' st k=>st.at fun o e=>k it (by simp) o e
 item:=by
  intro X hP hw hK hc i pins s σ H E I hf st hg;subst hP hw hK;obtain ⟨xs,x,hq,hx⟩:=hg;obtain ⟨its,rv,p,hz⟩:=I.list hq;obtain ⟨u,hu,ru⟩:=rv.get hx;obtain ⟨f0,f1,f2,f3,f4,f5⟩:=hf it (by simp);refine Yfw st p.isList (x:=u) (by simpa using hu) fun h' st' sb=>?_;have I1:Inv X pins σ H { s with heap:=h' }:=I.turned (t':=s.toks) (fun b o hb e=>(sb.2 b hb).trans e) f0 f1 f3 f4 f5;obtain ⟨o,e,c,d⟩:=id st';exact ⟨u,rfl,ZlC (s:={ s with heap:=h' }) e c d (by decide) ⟨x,H,I1,ru,⟨rfl,fun ys hy=>by rw [I.list_inj hy hq]; exact hx⟩,st',fun b hb=>(hf b hb).1⟩⟩
 done:=by
  intro X hP hw hK hc i pins s σ H E I hf st hg;subst hP hw hK;obtain ⟨xs,hq,hx⟩:=hg;obtain ⟨its,rv,p,hz⟩:=I.list hq;obtain ⟨f0,f1,f2,f3,f4,f5⟩:=hf it (by simp);have hl:=rv.length;exact Yge (I.ok.hd hc) st p.isList (by simp; exact lC 2 2268279672881 T1 hl hx) fun h' eb=>⟨rfl,I.turned (t':=s.toks) (fun b o hb e=>eb b o hb e) f0 f1 f3 f4 f5⟩
 self:=fun _ _ _ _ _ st h=>wpAny_pyIter_listiter st h
theorem Znn {P:Yai} {w:World} {K:Ya} {tg:Expr} (a it:Addr):Turn P w K tg (Itt K a) [it] it (fun i h=>h.IsTupleIter it a i) where
 mem:=by simp
 obj:=fun i h st b hb=>by
  have e:b = it:=by simpa using hb
  subst e;obtain ⟨o,e,c,d⟩:=st;exact ⟨o,e,fun v z=>by rw [d] at z; cases z⟩
 keep:=fun i h h' st k=>st.at fun o e=>k it (by simp) o e
 item:=by
  intro X hP hw hK hc i pins s σ H E I hf st hg;subst hP hw hK;obtain ⟨xs,x,hq,hx⟩:=hg;obtain ⟨its,rv,p,hz⟩:=I.tuple hq;obtain ⟨u,hu,ru⟩:=rv.get hx;obtain ⟨f0,f1,f2,f3,f4,f5⟩:=hf it (by simp);refine wpAny_pyNext_tuple_item st (show s.heap.IsTuple a its.toArray from p) (x:=u) (by simpa using hu) fun h' st' sb=>?_;have I1:Inv X pins σ H { s with heap:=h' }:=I.turned (t':=s.toks) (fun b o hb e=>(sb.2 b hb).trans e) f0 f1 f3 f4 f5;obtain ⟨o,e,c,d⟩:=id st';exact ⟨u,rfl,ZlC (s:={ s with heap:=h' }) e c d (by decide) ⟨x,H,I1,ru,⟨rfl,fun ys hy=>by rw [I.tuple_inj hy hq]; exact hx⟩,st',fun b hb=>(hf b hb).1⟩⟩
 done:=by
  intro X hP hw hK hc i pins s σ H E I hf st hg;subst hP hw hK;obtain ⟨xs,hq,hx⟩:=hg;obtain ⟨its,rv,p,hz⟩:=I.tuple hq;obtain ⟨f0,f1,f2,f3,f4,f5⟩:=hf it (by simp);have hl:=rv.length;exact wpAny_pyNext_tuple_end (I.ok.hd hc) st (show s.heap.IsTuple a its.toArray from p) (by simp; exact lC 2 2268279672881 T1 hl hx) fun h' eb=>⟨rfl,I.turned (t':=s.toks) (fun b o hb e=>eb b o hb e) f0 f1 f3 f4 f5⟩
 self:=fun _ _ _ _ _ st h=>wpAny_pyIter_tupleiter st h
theorem Zm7 {P:Yai} {w:World} {K:Ya} {tg:Expr} (it:Addr) (lo:Int) (n:Nat):Turn P w K tg (Itr lo n) [it] it (fun i h=>IsRangeIter h it (lo + (i:Nat) * 1) ((n:Int) - (i:Nat)) 1) where
 mem:=by simp
 obj:=fun i h st b hb=>by
  have e:b = it:=by simpa using hb
  subst e;exact ⟨_,st,fun v z=>by
   have z':Data.fields _ = Data.cell v:=z;cases z'⟩
 keep:=fun i h h' st k=>k it (by simp) _ st
 item:=by
  intro X hP hw hK hc i pins s σ H E I hf st hg;subst hP hw hK;obtain ⟨f0,f1,f2,f3,f4,f5⟩:=hf it (by simp);have W:=Walks.range (prog:=X.prog) (w:=X.w) (I.ok.hd hc) it lo 1 n;refine W.item i s _ _ hg st fun v h' tk hv st' kk=>?_;obtain ⟨t,rfl⟩:=hv;have I1:Inv X pins σ H { s with heap:=h',toks:=tk }:=I.turned (fun b o hb e=>kk b o (by simpa using hb) e) f0 f1 f3 f4 f5;refine ⟨_,rfl,ZlC (s:={ s with heap:=h',toks:=tk }) (n:="range_iterator") st' rfl rfl (by decide) ⟨.int (lo + i),H,I1,⟨t,?_⟩,⟨rfl,rfl⟩,st',fun b hb=>(hf b hb).1⟩⟩;rw [Int.mul_one]
 done:=by
  intro X hP hw hK hc i pins s σ H E I hf st hg;subst hP hw hK;obtain ⟨f0,f1,f2,f3,f4,f5⟩:=hf it (by simp);exact wpAny_pyNext_range_end (I.ok.hd hc) st (by have:n <= i:=hg; exact iN [_,_] [] 1 0xe1808f81001 T1 this) fun h' eb=>⟨rfl,I.turned (t':=s.toks) (fun b o hb e=>eb b o hb e) f0 f1 f3 f4 f5⟩
 self:=fun _ _ _ _ _ st h=>wpAny_pyIter_rangeiter st h
end L2
namespace L2
open PySem PySem.Spec PyProof.Rows
section
variable {X:Cx} {tg:Expr}
def ZuJ (K:Ya) (tl:TE):TI:=fun σ H R=>tl σ H fun x H1=>∃ a,x = .ref a /\ (∃ xs,SqL K H1 a xs) /\ R (Itl K a) H1
def ZwD (K:Ya) (tl:TE):TI:=fun σ H R=>tl σ H fun x H1=>∃ a,x = .ref a /\ (∃ xs,SqT K H1 a xs) /\ R (Itt K a) H1
theorem Zru {l:Expr} {tl:TE} (hl:PE X l tl):PI X tg l (ZuJ X.K tl):=by
 intro pins s σ H R I h;refine thn (hl pins s σ H _ I h) fun v s1 zz1=>?_;obtain ⟨x,H1,I1,r1,q1⟩:=zz1;obtain ⟨a,e,⟨xs,hq⟩,q⟩:=q1;subst e;cases r1;obtain ⟨its,rv,p,hz⟩:=I1.list hq;refine wpAny_pyIter_list p.isList ?_;refine ⟨s1.heap.objs.size,[s1.heap.objs.size],_,_,H1,rfl,I1.kept (t':=s1.toks) fun b o e=>Yk _ e,Zow a _,⟨_,Y6 _ rfl,rfl,rfl⟩,fun b hb=>?_,q⟩;have e:b = s1.heap.objs.size:=by simpa using hb
 subst e;exact I1.fpOk (Yj _) (I1.hok.fresh (Yj _))
theorem ZsY {l:Expr} {tl:TE} (hl:PE X l tl):PI X tg l (ZwD X.K tl):=by
 intro pins s σ H R I h;refine thn (hl pins s σ H _ I h) fun v s1 zz1=>?_;obtain ⟨x,H1,I1,r1,q1⟩:=zz1;obtain ⟨a,e,⟨xs,hq⟩,q⟩:=q1;subst e;cases r1;obtain ⟨its,rv,p,hz⟩:=I1.tuple hq;refine Ycy (show s1.heap.IsTuple a its.toArray from p) ?_;refine ⟨s1.heap.objs.size,[s1.heap.objs.size],_,_,H1,rfl,I1.kept (t':=s1.toks) fun b o e=>Yk _ e,Znn a _,⟨_,Y6 _ rfl,rfl,rfl⟩,fun b hb=>?_,q⟩;have e:b = s1.heap.objs.size:=by simpa using hb
 subst e;exact I1.fpOk (Yj _) (I1.hok.fresh (Yj _))
theorem Zpc {pins:List (Addr × Obj)} {σ:St} {H:Hp} {s:Ye} {R:It -> Hp -> Prop} {E:Value -> Ye -> Prop} {lo hi:Int} {t u v:Tok} {tk:Nat} (I:Inv X pins σ H s) (h1:-(2 ^ 62) <= lo) (h2:lo < 2 ^ 62) (h3:-(2 ^ 62) <= hi) (h4:hi < 2 ^ 62)
  (q:R (Itr lo (hi - lo).toNat) H):wpAny (model X.prog X.w) X.A (pyIter (.ref s.heap.objs.size)) (PIE X pins σ tg R) E { s with heap:=s.heap.push { cls:=.type "range",data:=.fields #[.int lo t,.int hi u,.int 1 v] },toks:=tk }:=by
 refine wpAny_pyIter_range (IsRange.new ..) (small_one h1 h2 h3 h4) ?_;have I1:Inv X pins σ H { s with heap:=s.heap.push { cls:=.type "range",data:=.fields #[.int lo t,.int hi u,.int 1 v] },toks:=tk }:=I.kept fun b o e=>Yk _ e;refine ⟨(s.heap.push { cls:=.type "range",data:=.fields #[.int lo t,.int hi u,.int 1 v] }).objs.size,[(s.heap.push { cls:=.type "range",data:=.fields #[.int lo t,.int hi u,.int 1 v] }).objs.size],_,_,H,rfl,
  I1.kept (t':=tk) fun b o e=>Yk _ e,Zm7 _ lo (hi - lo).toNat,?_,fun b hb=>?_,q⟩
 ·have e1:lo + ((0:Nat):Int) * 1 = lo:=by simp
  have e2:(((hi - lo).toNat:Nat):Int) - ((0:Nat):Int) = Builtin.Range.rangeSize lo hi 1:=by rw [rangeSize_one]; split <;> omega
  show IsRangeIter _ _ (lo + ((0:Nat):Int) * 1) ((((hi - lo).toNat:Nat):Int) - ((0:Nat):Int)) 1;rw [e1,e2];exact Y6 _ rfl
 ·have e:b = (s.heap.push { cls:=.type "range",data:=.fields #[.int lo t,.int hi u,.int 1 v] }).objs.size:=by simpa using hb
  subst e;exact I1.fpOk (Yj _) (I1.hok.fresh (Yj _))
def Zue (ta:TA):TI:=fun σ H R=>ta σ H fun vs H1=>∃ j:Int,vs = [.int j] /\ -(2 ^ 62) <= j /\ j < 2 ^ 62 /\ R (Itr 0 j.toNat) H1
theorem Zo3 {a:Expr} {ta:TA} {p pos:Pos} (hg:Gl X "range") (hm:X.mg "range" = none) (ha:PA X [a] ta) (hs:Yad [a] X.env = [(false,eval a X.env)]:=by rfl):PI X tg (.Call (.Name "range" p) [a] [] pos) (Zue ta):=by
 intro pins s σ H R I h;refine Call_ (Zji I hg hm boot_range (Yc1 (thn (ha pos pins s σ H _ I h) fun us s1 zz1=>?_) hs rfl));obtain ⟨vs,H1,I1,r1,q1⟩:=zz1;obtain ⟨j,e,q1,q2,q⟩:=q1;subst e;cases r1 with
 | cons r rr=>
  cases rr
  obtain ⟨t,rfl⟩:=r;exact call_range_1 (Zpc I1 (by omega) (by omega) q1 q2 (by simpa using q))
def Zwr (wi:TI) (g:TG) (tb:TS):TS:=fun D σ H=>wi σ H fun J H1=>∃ W:Nat -> Nat -> St -> Hp -> Prop,(∃ m,W 0 m σ H1) /\ ∀ i m σ H,W i m σ H ->
 (J.stop i H /\ D.nx σ H) \/ (J.go i H /\ ∃ N:St -> Hp -> Prop,(∀ σ' H',N σ' H' -> ∃ m',m' < m /\ W (i + 1) m' σ' H') /\ ∀ x H',J.yld i H x H' -> g x σ H' fun σ2 H2=>tb { D with nx:=N,ct:=N,bk:=D.nx } σ2 H2)
noncomputable def Zge (fp:List Addr) (h:Heap):List (Addr × Obj):=fp.filterMap fun b=>(h.get? b).map fun o=>(b,o)
theorem ZfI {fp:List Addr} {h:Heap} {b:Addr} {o:Obj} (hb:b ∈ fp) (e:h.get? b = some o):(b,o) ∈ Zge fp h:=List.mem_filterMap.mpr ⟨b,hb,by rw [e]; rfl⟩
theorem Zor {fp:List Addr} {h:Heap} {p:Addr × Obj} (hp:p ∈ Zge fp h):p.1 ∈ fp /\ h.get? p.1 = some p.2:=by
 obtain ⟨b,hb,e⟩:=List.mem_filterMap.mp hp;cases q:h.get? b with
 | none=>rw [q] at e; cases e
 | some o=>
  rw [q] at e;have e':(b,o) = p:=Yq e;subst e';exact ⟨hb,q⟩
theorem Inv.pinned {pins:List (Addr × Obj)} {σ:St} {H:Hp} {s:Ye} {fp:List Addr} (I:Inv X pins σ H s) (hf:∀ b ∈ fp,Zgi X pins H b) (ho:∀ b ∈ fp,∃ o,s.heap.get? b = some o /\ ∀ v,o.data ≠ .cell v):Inv X (pins ++ Zge fp s.heap) σ H s:=
 I.pins_of fun p hp=>(Ybe.mp hp).elim (fun z=>I.pin p (Yar _ z)) fun z=>by
  obtain ⟨hb,e⟩:=Zor z;obtain ⟨f0,f1,f2,_⟩:=hf p.1 hb;obtain ⟨o,e',d⟩:=ho p.1 hb;rw [e] at e'; cases e';exact ⟨e,f0,f1,f2,d⟩
theorem Inv.unpinned {pins pl:List (Addr × Obj)} {σ:St} {H:Hp} {s:Ye} (I:Inv X (pins ++ pl) σ H s):Inv X pins σ H s:=I.pins_of fun p hp=>I.pin p (Yar _ (Ygz _ hp))
theorem ZpT {iter:Expr} {body:List Stmt} {wi:TI} {g:TG} {tb:TS} {pos:Pos} (hp:PassesOwn (model X.prog X.w) X.A X.env X.xe) (hc:X.calm = true) (hi:PI X tg iter wi) (hg:PG X tg g) (hb:PSs X body tb)
  (hs:∀ x,Ycl iter X.env x = pure x:=by intro _; rfl):PS X (.For tg iter body [] pos) (Zwr wi g tb):=by
 intro pins s σ H D I h;refine wpAny_For (thn (hi pins s σ H _ I h) fun v s1 h1=>thn h1 fun itv s2 h2=>?_) hs;obtain ⟨it,fp,tn,J,H2,e,I2,T,st2,f2,W,⟨m0,w0⟩,turn⟩:=h2;subst e;have stat:∀ {H':Hp},(∀ b ∈ fp,H' b = none) -> ∀ b ∈ fp,Zgi X pins H' b:=fun hn b hb=>⟨hn b hb,(f2 b hb).2⟩;refine codeAny_forLoop_any (fun n s'=>∃ i σ' H',Inv X pins σ' H' s' /\ tn i s'.heap /\ (∀ b ∈ fp,H' b = none) /\ W i n σ' H') ?_ m0 ⟨0,σ,H2,I2,st2,fun b hb=>(f2 b hb).1,w0⟩;rintro n s3 ⟨i,σ3,H3,I3,st3,fr3,w3⟩;rcases turn i n σ3 H3 w3 with ⟨stop,qn⟩ | ⟨go,N,hN,step⟩
 ·refine Yck hp (thn (T.done X rfl rfl rfl hc i pins s3 σ3 H3 X.xe I3 (stat fr3) st3 stop) fun r s4 ⟨hr,I4⟩=>?_)
  subst hr;exact Yeh ⟨σ3,H3,I4,qn⟩
 ·refine Yck hp (thn (T.item X rfl rfl rfl hc i pins s3 σ3 H3 X.xe I3 (stat fr3) st3 go) fun r s4 ⟨u,hr,h4⟩=>?_)
  subst hr;refine Yck hp (thn h4 fun _ s5 zz1=>?_);obtain ⟨x,H5,I5,r5,y5,st5,fr5⟩:=zz1;have I5':=I5.pinned (stat fr5) (T.obj _ _ st5);refine Yck hp (thn (hg _ s5 σ3 H5 x u _ I5' r5 (step x H5 y5)) fun _ s6 zz1=>?_);obtain ⟨σ6,H6,I6,q6⟩:=zz1;refine Yck hp (thn (hb _ s6 σ6 H6 _ I6 q6) fun f s7 q7=>?_);have again:∀ {σ7:St} {H7:Hp},Inv X (pins ++ Zge fp s5.heap) σ7 H7 s7 -> N σ7 H7 -> ∃ m,m < n /\ ∃ i σ' H',Inv X pins σ' H' s7 /\ tn i s7.heap /\ (∀ b ∈ fp,H' b = none) /\ W i m σ' H':=fun {σ7 H7} I7 n7=>by
   obtain ⟨m',hm,w7⟩:=hN σ7 H7 n7;refine ⟨m',hm,i + 1,σ7,H7,I7.unpinned,T.keep _ _ _ st5 fun b hb o e=>(I7.pin (b,o) (Yar _ (Yar _ (ZfI hb e)))).1,fun b hb=>?_,w7⟩;obtain ⟨o,e,d⟩:=T.obj _ _ st5 b hb;exact (I7.pin (b,o) (Yar _ (Yar _ (ZfI hb e)))).2.1
  cases f with
  | next=>obtain ⟨σ7,H7,I7,n7⟩:=q7; exact again I7 n7
  | cont=>obtain ⟨σ7,H7,I7,n7⟩:=q7; exact again I7 n7
  | brk=>obtain ⟨σ7,H7,I7,q7⟩:=q7; exact ⟨σ7,H7,I7.unpinned,q7⟩
  | ret v=>obtain ⟨x7,σ7,H7,I7,r7,q7⟩:=q7; exact ⟨x7,σ7,H7,I7.unpinned,r7,q7⟩
end
end L2
namespace L2
open PySem PySem.Spec PyProof.Rows
noncomputable abbrev R2:=V -> V -> Hp -> VK -> Prop
def OpR (X:Cx) (f:Value -> Value -> Sem Value) (r:R2):Prop:=
 ∀ (pins:List (Addr × Obj)) (s:Ye) (σ:St) (H:Hp) (x y:V) (v u:Value) (Q:VK),Inv X pins σ H s -> RelV x v -> RelV y u -> r x y H Q ->
  wpAny (model X.prog X.w) X.A (f v u) (EP X pins σ Q) X.xe s
def UnR (X:Cx) (f:Value -> Sem Value) (r:V -> Hp -> VK -> Prop):Prop:=
 ∀ (pins:List (Addr × Obj)) (s:Ye) (σ:St) (H:Hp) (x:V) (v:Value) (Q:VK),Inv X pins σ H s -> RelV x v -> r x H Q ->
  wpAny (model X.prog X.w) X.A (f v) (EP X pins σ Q) X.xe s
def ZbZ (X:Cx) (f:Value) (r:List V -> Hp -> VK -> Prop):Prop:=
 ∀ (pins:List (Addr × Obj)) (s:Ye) (σ:St) (H:Hp) (xs:List V) (us:List Value) (Q:VK),Inv X pins σ H s -> Vals xs us -> r xs H Q ->
  wpAny (model X.prog X.w) X.A (call f us) (EP X pins σ Q) X.xe s
def tOp (r:R2) (ta tb:TE):TE:=fun σ H Q=>ta σ H fun x H1=>tb σ H1 fun y H2=>r x y H2 Q
def tUn (r:V -> Hp -> VK -> Prop) (ta:TE):TE:=fun σ H Q=>ta σ H fun x H1=>r x H1 Q
def rI (C:Int -> Int -> Prop) (g:Int -> Int -> V):R2:=fun x y H Q=>∃ i j,x = .int i /\ y = .int j /\ C i j /\ Q (g i j) H
def rI0 (g:Int -> Int -> V):R2:=fun x y H Q=>∃ i j,x = .int i /\ y = .int j /\ Q (g i j) H
noncomputable def rU (g:Int -> V):V -> Hp -> VK -> Prop:=fun x H Q=>∃ i,x = .int i /\ Q (g i) H
section
variable {X:Cx} {a b c:Expr} {ta tb tc:TE} {pos:Pos}
theorem ZtC (ha:PE X a ta) (hb:PE X b tb) {pins:List (Addr × Obj)} {s:Ye} {σ:St} {H:Hp} {R:V -> V -> Hp -> Prop} (I:Inv X pins σ H s)
  (h:ta σ H fun x H1=>tb σ H1 fun y H2=>R x y H2) {Q:Value -> Ye -> Prop} {f:Value -> Value -> Sem Value}
  (hf:∀ v u s2 x y H2,Inv X pins σ H2 s2 -> RelV x v -> RelV y u -> R x y H2 -> wpAny (model X.prog X.w) X.A (f v u) Q X.xe s2):
  wpAny (model X.prog X.w) X.A (eval a X.env) (fun v s₁=>wpAny (model X.prog X.w) X.A (eval b X.env) (fun u s₂=>wpAny (model X.prog X.w) X.A (f v u) Q X.xe s₂) X.xe s₁) X.xe s:=by
 refine thn (ha pins s σ H _ I h) fun v s1 zz1=>?_;obtain ⟨x,H1,I1,r1,q1⟩:=zz1;refine thn (hb pins s1 σ H1 _ I1 q1) fun u s2 zz1=>?_;obtain ⟨y,H2,I2,r2,q2⟩:=zz1;exact hf v u s2 x y H2 I2 r1 r2 q2
theorem Zt4 {op:Operator} {r:R2} (ho:OpR X (Ybs op) r) (ha:PE X a ta) (hb:PE X b tb):PE X (.BinOp a op b pos) (tOp r ta tb):=by
 intro pins s σ H Q I h;exact wpAny_BinOp (ZtC ha hb I h fun v u s2 x y H2 I2 rx ry q=>ho pins s2 σ H2 x y v u Q I2 rx ry q)
theorem Zu3 {op:UnaryOp} {r:V -> Hp -> VK -> Prop} (ho:UnR X (unaryOp op) r) (ha:PE X a ta):PE X (.UnaryOp op a pos) (tUn r ta):=by
 intro pins s σ H Q I h;exact UnaryOp_ (thn (ha pins s σ H _ I h) fun v s1 ⟨x,H1,I1,r1,q1⟩=>ho pins s1 σ H1 x v Q I1 r1 q1)
theorem opI {f:Value -> Value -> Sem Value} {C:Int -> Int -> Prop} {g:Int -> Int -> Int}
  (rule:∀ (i j:Int) (t u:Tok) (s:Ye) (Q:Value -> Ye -> Prop) (E:Value -> Ye -> Prop),C i j -> Q (.int (g i j) s.toks) { s with toks:=s.toks + 1 } -> wpAny (model X.prog X.w) X.A (f (.int i t) (.int j u)) Q E s):
  OpR X f (rI C fun i j=>.int (g i j)):=by
 intro pins s σ H x y v u Q I rx ry h;obtain ⟨i,j,rfl,rfl,hc,q⟩:=h;obtain ⟨t,rfl⟩:=rx;obtain ⟨t',rfl⟩:=ry;exact rule i j t t' s _ _ hc ⟨.int (g i j),H,I.tok _,⟨_,rfl⟩,q⟩
theorem ZuO {f:Value -> Value -> Sem Value} {g:Int -> Int -> Int}
  (rule:∀ (i j:Int) (t u:Tok) (s:Ye) (Q:Value -> Ye -> Prop) (E:Value -> Ye -> Prop),Q (.int (g i j) s.toks) { s with toks:=s.toks + 1 } -> wpAny (model X.prog X.w) X.A (f (.int i t) (.int j u)) Q E s):
  OpR X f (rI0 fun i j=>.int (g i j)):=by
 intro pins s σ H x y v u Q I rx ry h;obtain ⟨i,j,rfl,rfl,q⟩:=h;obtain ⟨t,rfl⟩:=rx;obtain ⟨t',rfl⟩:=ry;exact rule i j t t' s _ _ ⟨.int (g i j),H,I.tok _,⟨_,rfl⟩,q⟩
theorem ZrV {f:Value -> Value -> Sem Value} {g:Int -> Int -> Bool}
  (rule:∀ (i j:Int) (t u:Tok) (s:Ye) (Q:Value -> Ye -> Prop) (E:Value -> Ye -> Prop),Q (.bool (g i j)) s -> wpAny (model X.prog X.w) X.A (f (.int i t) (.int j u)) Q E s):
  OpR X f (rI0 fun i j=>.bl (g i j)):=by
 intro pins s σ H x y v u Q I rx ry h;obtain ⟨i,j,rfl,rfl,q⟩:=h;obtain ⟨t,rfl⟩:=rx;obtain ⟨t',rfl⟩:=ry;exact rule i j t t' s _ _ ⟨.bl (g i j),H,I,rfl,q⟩
def Zv1 (i j:Int):Prop:=0 < j /\ j < 1073741824
def Zv7 (i j:Int):Prop:=0 <= j /\ j <= 1000000 /\ i.natAbs < 2 ^ 64
def Zto (i j:Int):Prop:=(-(2 ^ 64) < i /\ i < 2 ^ 64) \/ (-(2 ^ 64) < j /\ j < 2 ^ 64)
theorem Zto.ok {i j:Int} (h:Zto i j):IntMulOk i j:=by
 rcases h with ⟨h1,h2⟩ | ⟨h1,h2⟩
 ·exact .of_left (intBits_le_64 h1 h2)
 ·exact .of_right (intBits_le_64 h1 h2)
theorem Ztb:OpR X (Ybs .Add) (rI0 fun i j=>.int (i + j)):=ZuO fun _ _ _ _ _ _ _ q=>add_int q
theorem Zsu:OpR X (Ybs .Sub) (rI0 fun i j=>.int (i - j)):=ZuO fun _ _ _ _ _ _ _ q=>sub_int q
theorem Zso:OpR X (Ybs .Mult) (rI Zto fun i j=>.int (i * j)):=opI fun _ _ _ _ _ _ _ hc q=>mul_int q hc.ok
theorem ZrL:OpR X (Ybs .FloorDiv) (rI Zv1 fun i j=>.int (i / j)):=opI fun i j _ _ _ _ _ hc q=>by
 have h1:(0:Int) < j:=hc.1;have h2:j < 1073741824:=hc.2;exact floordiv_int (by exact fun z=>iN [] [_] 2 26014245025 T1 z h1) (by rw [Int.fdiv_eq_ediv_of_nonneg i (by exact Yer h1)]; exact q) (.inl (PyProof.noPylong_small (by omega)))
theorem ZsA:OpR X (Ybs .Mod) (rI (fun _ j=>0 < j) fun i j=>.int (i % j)):=opI fun i j _ _ _ _ _ hc q=>by
 have h1:(0:Int) < j:=hc;exact mod_int' (by exact fun z=>iN [] [_] 2 26014245025 T1 z h1) (by rw [Int.fmod_eq_emod_of_nonneg i (by exact Yer h1)]; exact q)
theorem Ztx:OpR X (Ybs .Pow) (rI Zv7 fun i j=>.int (i ^ j.toNat)):=opI fun _ _ _ _ _ _ _ hc q=>pow_int_small hc.1 hc.2.1 hc.2.2 q
theorem unI {f:Value -> Sem Value} {g:Int -> Int}
  (rule:∀ (i:Int) (t:Tok) (s:Ye) (Q:Value -> Ye -> Prop) (E:Value -> Ye -> Prop),Q (.int (g i) s.toks) { s with toks:=s.toks + 1 } -> wpAny (model X.prog X.w) X.A (f (.int i t)) Q E s):
  UnR X f (rU fun i=>.int (g i)):=by
 intro pins s σ H x v Q I rx h;obtain ⟨i,rfl,q⟩:=h;obtain ⟨t,rfl⟩:=rx;exact rule i t s _ _ ⟨.int (g i),H,I.tok _,⟨_,rfl⟩,q⟩
theorem ZsV:UnR X (unaryOp .USub) (rU fun i=>.int (-i)):=unI fun _ _ _ _ _ q=>neg_int q
end
theorem ZkK {i j:Str}:decide (V.str i = V.str j) = (i == j):=by
 rw [Yej];simp
section
variable {X:Cx} {a b c:Expr} {ta tb tc:TE} {pos:Pos}
theorem ZmZ {pins:List (Addr × Obj)} {σ:St} {H:Hp} {s:Ye} {Q:VK} {k k':Bool} (I:Inv X pins σ H s) (q:Q (.bl k) H) (e:k = k'):EP X pins σ Q (.bool k') s:=by
 subst e;exact ⟨.bl k,H,I,rfl,q⟩
theorem Zu4:OpR X (Ya0 .Lt) (rI0 fun i j=>.bl (decide (i < j))):=ZrV fun _ _ _ _ _ _ _ q=>lt_int q
theorem Zt6:OpR X (Ya0 .LtE) (rI0 fun i j=>.bl (decide (i <= j))):=ZrV fun _ _ _ _ _ _ _ q=>le_int q
theorem ZuC:OpR X (Ya0 .Gt) (rI0 fun i j=>.bl (decide (j < i))):=ZrV fun _ _ _ _ _ _ _ q=>gt_int q
theorem ZuL:OpR X (Ya0 .GtE) (rI0 fun i j=>.bl (decide (j <= i))):=ZrV fun _ _ _ _ _ _ _ q=>ge_int q
theorem Zol:OpR X (Ya0 .In) (fun x y H Q=>∃ i j,x = .str i /\ y = .str j /\ Q (.bl (!(Builtin.Str.occurrences j i 0 j.length 1).isEmpty)) H):=by
 intro pins s σ H x y v u Q I rx ry h;obtain ⟨i,j,rfl,rfl,q⟩:=h;obtain ⟨t,rfl⟩:=rx;obtain ⟨t',rfl⟩:=ry;exact in_str (ZmZ I q rfl)
theorem Zsh:OpR X (Ya0 .Is) (fun x y H Q=>y = .non /\ Q (.bl (decide (x = .non))) H):=by
 intro pins s σ H x y v u Q I rx ry h;obtain ⟨rfl,q⟩:=h;cases ry;refine is_none_gen (ZmZ I q ?_);cases x <;> first
  | (cases rx; rfl)
  | (obtain ⟨t,rfl⟩:=rx; rfl)
theorem Zri:OpR X (Ya0 .IsNot) (fun x y H Q=>y = .non /\ Q (.bl (!decide (x = .non))) H):=by
 intro pins s σ H x y v u Q I rx ry h;obtain ⟨rfl,q⟩:=h;cases ry;refine isnot_none_gen (ZmZ I q ?_);cases x <;> first
  | (cases rx; rfl)
  | (obtain ⟨t,rfl⟩:=rx; rfl)
theorem OpR.or {f:Value -> Value -> Sem Value} {r r':R2} (h:OpR X f r) (h':OpR X f r'):OpR X f (fun x y H Q=>r x y H Q \/ r' x y H Q):=by
 intro pins s σ H x y v u Q I rx ry q;rcases q with q | q
 ·exact h pins s σ H x y v u Q I rx ry q
 ·exact h' pins s σ H x y v u Q I rx ry q
theorem ZrH {op:CmpOp} {r:R2} (ho:OpR X (Ya0 op) r) (ha:PE X a ta) (hb:PE X b tb) (hm:Yfe op b = false):PE X (.Compare a [op] [b] pos) (tOp r ta tb):=by
 intro pins s σ H Q I h;exact wpAny_Compare1 (ZtC ha hb I h fun v u s2 x y H2 I2 rx ry q=>ho pins s2 σ H2 x y v u Q I2 rx ry q) hm
def ZuF (t:TE):TT:=fun σ H Q=>t σ H fun x H'=>∃ k,x = .bl k /\ Q k H'
theorem Zrg {op:CmpOp} {r:R2} (ho:OpR X (Ya0 op) r) (ha:PE X a ta) (hb:PE X b tb) (hm:Yfe op b = false):PT X (.Compare a [op] [b] pos) (ZuF (tOp r ta tb)):=by
 intro pins s σ H Q I h;refine wpAny_isTrue_Compare1 (thn (ha pins s σ H _ I h) fun v s1 ⟨x,H1,I1,r1,q1⟩=>thn (hb pins s1 σ H1 _ I1 q1) fun u s2 ⟨y,H2,I2,r2,q2⟩=>
  thn (ho pins s2 σ H2 x y v u _ I2 r1 r2 q2) fun c s3 ⟨z,H3,I3,r3,k,e,q3⟩=>?_) hm
 subst e;cases r3;exact Yc8 ⟨H3,I3,q3⟩
theorem ZiY:(Y8:Nat) < 2 ^ 63:=by rw [Ybf]; decide
theorem ZmY:OpR X (Ybs .Add) (fun x y H Q=>∃ i j,x = .str i /\ y = .str j /\ i.length + j.length <= Y8 /\ Q (.str (i ++ j)) H):=by
 intro pins s σ H x y v u Q I rx ry h;obtain ⟨i,j,rfl,rfl,hz,q⟩:=h;obtain ⟨t,rfl⟩:=rx;obtain ⟨t',rfl⟩:=ry;exact add_str (fun t' tk=>⟨.str (i ++ j),H,I.tok _,⟨_,rfl⟩,q⟩) hz
theorem vals1 {x:V} {us:List Value} (r:Vals [x] us):∃ u,us = [u] /\ RelV x u:=by
 cases r with
 | cons r1 r2=>cases r2; exact ⟨_,rfl,r1⟩
theorem vals2 {x y:V} {us:List Value} (r:Vals [x,y] us):∃ u w',us = [u,w'] /\ RelV x u /\ RelV y w':=by
 cases r with
 | cons r1 r2=>
  cases r2 with
  | cons r3 r4=>cases r4; exact ⟨_,_,rfl,r1,r3⟩
theorem Zoz:ZbZ X (.type "int") (fun xs H Q=>(∃ i,xs = [.int i] /\ Q (.int i) H) \/ ∃ k,xs = [.bl k] /\ Q (.int (if k then 1 else 0)) H):=by
 intro pins s σ H xs us Q I r h;rcases h with ⟨i,rfl,q⟩ | ⟨k,rfl,q⟩
 ·obtain ⟨u,rfl,t,rfl⟩:=vals1 r
  exact call_int_int ⟨.int i,H,I,⟨_,rfl⟩,q⟩
 ·obtain ⟨u,rfl,r1⟩:=vals1 r
  cases r1
  exact call_int_bool ⟨.int (if k then 1 else 0),H,I.tok _,⟨_,rfl⟩,q⟩
def Zv3 (K:Ya) (x:V) (H:Hp) (n:Nat):Prop:=
 match x with
 | .str y=>y.length <= Y8 /\ n = y.length
 | .byt y=>y.size <= Y8 /\ n = y.size
 | .ref p=>(∃ xs,SqL K H p xs /\ n = xs.length) \/ ∃ xs,SqT K H p xs /\ n = xs.length
 | _=>False
theorem Zqn:ZbZ X (.builtin "len") (fun xs H Q=>∃ x n,xs = [x] /\ Zv3 X.K x H n /\ Q (.int n) H):=by
 intro pins s σ H xs us Q I r h;obtain ⟨x,n,rfl,e,q⟩:=h;obtain ⟨u,rfl,rx⟩:=vals1 r;have hl:=ZiY;have hs:Y8 = 16777216:=Ybf;cases x with
 | str y=>
  obtain ⟨t,rfl⟩:=rx;obtain ⟨hy,e'⟩:y.length <= Y8 /\ n = y.length:=e;subst e';exact len_str (by omega) ⟨.int _,H,I.tok _,⟨_,rfl⟩,q⟩
 | byt y=>
  obtain ⟨t,rfl⟩:=rx;obtain ⟨hy,e'⟩:y.size <= Y8 /\ n = y.size:=e;subst e';exact PySem.W.len_bytes (by omega) ⟨.int _,H,I.tok _,⟨_,rfl⟩,q⟩
 | ref p=>
  cases rx
  have e':(∃ xs,SqL X.K H p xs /\ n = xs.length) \/ ∃ xs,SqT X.K H p xs /\ n = xs.length:=e;rcases e' with ⟨xs,hx,e'⟩ | ⟨xs,hx,e'⟩
  ·subst e'
   obtain ⟨its,r',pl,hz⟩:=I.list hx;have hlen:=r'.length;exact Calls.call_len_list pl.isList (by simp only [Yi]; omega) ⟨.int xs.length,H,I.tok _,⟨_,by simp only [Yi]; rw [hlen]⟩,q⟩
  ·subst e'
   obtain ⟨its,r',pl,hz⟩:=I.tuple hx;have hlen:=r'.length;exact len_tuple pl (by simp only [Yi]; omega) ⟨.int xs.length,H,I.tok _,⟨_,by simp only [Yi]; rw [hlen]⟩,q⟩
 | _=>exact (show False from e).elim
end
end L2
namespace L2
open PySem PySem.Spec PyProof.Rows
structure ZtN (h:Heap) (x dx C:Addr) (mA:Str -> Option Value):Prop where
 obj:h.get? x = some (Ygb C dx)
 ns:h.Ns1 dx mA
 ne:dx ≠ x
theorem ZoP {h:Heap} {dx:Addr} {mA:Str -> Option Value} (n:h.Ns1 dx mA):∃ od,h.get? dx = some od /\ ∀ name,Yg9 name od = some (mA name):=by
 obtain ⟨o,es,ep,ho,hd,hk,_,hm⟩:=n;refine ⟨o,ho,fun name=>?_⟩;have e:=hm name;unfold nsFind findBy at e;rw [← Array.find?_toList] at e;unfold Yg9;rw [hd];dsimp only;split
 ·rename_i y q
  rw [q] at e;exact congrArg some e
 ·rename_i q
  rw [q] at e;have a:es.toList.any (·.refKey) = false:=by
   rw [List.any_eq_false];intro y hy;obtain ⟨z,t,hkey⟩:=hk y (Array.mem_toList_iff.mp hy);simp [DictEntry.refKey,hkey]
  have a':¬ es.toList.any (·.refKey) = true:=by rw [a]; exact Yaq
  rw [if_neg a'];exact congrArg some e
theorem ZtN.look {h:Heap} {x dx C:Addr} {mA:Str -> Option Value} (I:ZtN h x dx C mA):∃ od,PySem.W.InstAt h x (Ygb C dx) C (some od) /\ ∀ name,Yg9 name od = some (mA name):=
 let ⟨od,ho,hl⟩:=ZoP I.ns
 ⟨od,⟨I.obj,rfl,rfl,ho⟩,hl⟩
section
variable {prog:Yai} {w:World} {A:Yas} {E:Value -> Ye -> Prop} {s:Ye} {K:Ya} {x dx C f:Addr} {mA:Str -> Option Value} {name:Str} {v:Value}
end
theorem Zh2.some_of {v:V} {o:Option Value} (r:Zh2 (some v) o):∃ u,o = some u /\ RelV v u:=by
 cases o with
 | none=>exact (show False from r).elim
 | some u=>exact ⟨u,rfl,r⟩
section
variable {P:Yai} {w:World} {H H':Hp} {h h':Heap} {a C dx:Addr} {fs fs':List (Str × V)}
theorem Zrt (hok:HOk P w H h) (e:H a = some (.ins C dx fs)):∃ mA,ZtN h a dx C mA /\ (∀ f,Zh2 (fs.lookup f) (mA f)) /\ PySem.Within mA (fs.map (·.1)) /\ fs.length <= 1000 /\ H dx = some (.own a):=by
 obtain ⟨d,z,ne,ob,mA,n,r,q⟩:=(show ZbH P w H h a (.ins C dx fs) from hok a _ e);exact ⟨mA,⟨ob,n,ne⟩,r,q,z,d⟩
end
structure Cls (K:Ya) (C:Addr):Prop where
 pg:PySem.W.plainGet K C Str.empty = true
 hd:PySem.W.hasDictIn K C = true
 po:PySem.W.plainOver K C = true
 sa:PySem.W.findIn K (.ref C) "__setattr__" = some (some (.builtin "object.__setattr__"))
theorem Cls.get {K:Ya} {C:Addr} (c:Cls K C) (f:Str):PySem.W.plainGet K C f = true:=c.pg
section
variable {X:Cx} {pins:List (Addr × Obj)} {σ:St} {H:Hp} {s:Ye} {a C dx:Addr} {fs:List (Str × V)} {f:Str} {v:V} {A:Yas} {E:Value -> Ye -> Prop}
end
section
variable {X:Cx} {o e value:Expr} {f:Str} {pos pos' tpos:Pos} {ta tv:TE}
end
section
variable {X:Cx} {pins:List (Addr × Obj)} {σ:St} {H:Hp} {s:Ye} {A:Yas} {E:Value -> Ye -> Prop} {Q:Value -> Ye -> Prop} {c:Value} {b:Bool}
inductive Zit (K:Ya) (H:Hp):V -> Value -> Prop where
 | non:Zit K H .non (.type "NoneType")
 | bl (x:Bool):Zit K H (.bl x) (.type "bool")
 | int (i:Int):Zit K H (.int i) (.type "int")
 | str (x:Str):Zit K H (.str x) (.type "str")
 | flt (x:UInt64):Zit K H (.flt x) (.type "float")
 | lst {a:Addr} {xs:List V} (e:H a = some (.lst xs)):Zit K H (.ref a) (.type "list")
 | frz {a:Addr} {o:Obj} {xs:List V} (e:H a = some (.frz o (.lst xs))):Zit K H (.ref a) (.type "list")
 | tup {a:Addr} {xs:List V} (e:H a = some (.tup xs)):Zit K H (.ref a) (.type "tuple")
 | dK {a:Addr} {kvs:List (Key × V)} (e:H a = some (.dK kvs)):Zit K H (.ref a) (.type "dict")
 | dT {a:Addr} {kvs:List (List Key × V)} (e:H a = some (.dT kvs)):Zit K H (.ref a) (.type "dict")
 | ins {a C dx:Addr} {fs:List (Str × V)} (e:H a = some (.ins C dx fs)) (cl:Cls K C) (ha:PySem.W.findIn K (.ref C) "__class__" = some (some (.builtin "object.__class__")))
   (hn:PySem.W.specialIn K (.builtin "object.__class__") "__get__" = some (some (.builtin "getset_descriptor.__get__"))) (htk:PySem.W.takesIn K (.builtin "object.__class__") = some true)
   (hm:PySem.W.mroIn K C (.type "object") = some true):Zit K H (.ref a) (.ref C)
theorem ZeL {x:V} {u t:Value} (I:Inv X pins σ H s) (rx:RelV x u) (ty:Zit X.K H x t) (e:PySem.W.kitOne X.K t c = some b) (h:∀ tk,Q (.bool b) { s with toks:=tk }):
  wpAny (model X.prog X.w) A (call (.builtin "isinstance") [u,c]) Q E s:=by
 cases ty with
 | non=>cases (show u = Value.none from rx); exact Ya2 PySem.W.kitx_none I.kIn True.intro e (fun z=>nomatch z) h
 | bl y=>cases (show u = Value.bool y from rx); exact Ya2 PySem.W.kitx_bool I.kIn True.intro e (fun z=>nomatch z) h
 | int i=>obtain ⟨t,q⟩:=(show ∃ t,u = Value.int i t from rx); cases q; exact Ya2 PySem.W.kitx_int I.kIn True.intro e (fun z=>nomatch z) h
 | str y=>obtain ⟨t,q⟩:=(show ∃ t,u = Value.str y t from rx); cases q; exact Ya2 PySem.W.kitx_str I.kIn True.intro e (fun z=>nomatch z) h
 | flt y=>obtain ⟨t,q⟩:=(show ∃ t,u = Value.float y t from rx); cases q; exact Ya2 PySem.W.kitx_float I.kIn True.intro e (fun z=>nomatch z) h
 | @lst a xs ea=>
  cases (show u = Value.ref a from rx)
  obtain ⟨_,_,n,_,h1⟩:=(show ZbH X.prog X.w H s.heap a (.lst xs) from I.hok a _ ea);exact Ya2 PySem.W.kitx_list I.kIn ⟨_,h1,rfl⟩ e (fun z=>nomatch z) h
 | @frz a ob xs ea=>
  cases (show u = Value.ref a from rx)
  obtain ⟨_,_,_,n,_,h1⟩:=(show ZbH X.prog X.w H s.heap a (.frz ob (.lst xs)) from I.hok a _ ea);exact Ya2 PySem.W.kitx_list I.kIn ⟨_,h1,rfl⟩ e (fun z=>nomatch z) h
 | @tup a xs ea=>
  cases (show u = Value.ref a from rx)
  obtain ⟨_,_,_,p⟩:=(show ZbH X.prog X.w H s.heap a (.tup xs) from I.hok a _ ea);obtain ⟨o,h1,h2,_⟩:=p;exact Ya2 PySem.W.kitx_tuple I.kIn ⟨o,h1,h2.1⟩ e (fun z=>nomatch z) h
 | @dK a kvs ea=>
  cases (show u = Value.ref a from rx)
  obtain ⟨_,_,vs,_,p⟩:=(show ZbH X.prog X.w H s.heap a (.dK kvs) from I.hok a _ ea);obtain ⟨o,es,ep,h1,h2,_⟩:=p;exact Ya2 PySem.W.kitx_dict I.kIn ⟨o,h1,h2.1⟩ e (fun z=>nomatch z) h
 | @dT a kvs ea=>
  cases (show u = Value.ref a from rx)
  obtain ⟨_,_,xs,_,o,es,ep,h1,h2,_⟩:=(show ZbH X.prog X.w H s.heap a (.dT kvs) from I.hok a _ ea);exact Ya2 PySem.W.kitx_dict I.kIn ⟨o,h1,h2.1⟩ e (fun z=>nomatch z) h
 | @ins a C dx fs ea cl ha hn htk hm=>
  cases (show u = Value.ref a from rx)
  obtain ⟨mA,O,_⟩:=Zrt I.hok ea;obtain ⟨od,J,_⟩:=O.look;exact Ya2 (PySem.W.kitx_own (cl.get _) cl.hd ha hn htk hm) I.kIn J e (fun z=>nomatch z) h
end
end L2
namespace L2
open PySem PySem.Spec PyProof.Rows
structure Zel (k:Nat) (A:Yas):Prop where
 hd:A.handled = none
 dp:A.depth + 3 * k + 5 < recursionLimit
 un:A.units + 16 * k + 200 < cLine
theorem Zel.mono {j k:Nat} {A:Yas} (r:Zel k A) (h:j <= k):Zel j A:=⟨r.hd,by have:=r.dp; exact lD 2 0x251b303d0cc11303251b103d0cc11 T1 this h,by have:=r.un; omega⟩
theorem Zel.deeper {k:Nat} {A:Yas} (r:Zel (k + 1) A) (env:Env):Zel k (A.deeper env):=
 ⟨r.hd,by have:=r.dp; show A.depth + 1 + 3 * k + 5 < _; exact lC 1 0x251b103da0ccc1251ba1c03d0cc11 T1 this,by have:=r.un; show A.units + 3 + 16 * k + 200 < _; exact lC 1 0x2c82b110d31b0ccc12c82ba1c10d0cc11 T1 this⟩
theorem Zel.in1 {k:Nat} {A:Yas} (r:Zel (k + 1) A):Zel k A.in1:=
 ⟨r.hd,by have:=r.dp; show A.depth + 3 * k + 5 < _; exact lC 1 0x251b103d0cc1251ba1c03d0cc11 T1 this,by have:=r.un; show A.units + 1 + 16 * k + 200 < _; exact lC 1 0x2c82b110da0ccc12c82ba1c10d0cc11 T1 this⟩
theorem Zel.depth {k:Nat} {A:Yas} (r:Zel k A):A.depth < recursionLimit:=by have:=r.dp; exact lC 1 0x201251b103d0cc11 T1 this
theorem Zel.units {k:Nat} {A:Yas} (r:Zel k A):A.units + 64 < cLine:=by have:=r.un; exact lC 1 0x2402b0c12c82b110d0cc11 T1 this
def Zv5:TA:=fun _ H Q=>Q [] H
def Zuu (ta:TE) (tr:TA):TA:=fun σ H Q=>ta σ H fun x H1=>tr σ H1 fun xs H2=>Q (x :: xs) H2
section
variable {X:Cx} {e:Expr} {es:List Expr} {te:TE} {t:TA} {pos:Pos}
theorem ZpR:PA X [] Zv5:=fun _ _ _ _ H Q I h=>Calls.spliced_nil ⟨[],H,I,.nil,h⟩
theorem ZkY (ha:PE X e te) (hr:PA X es t) (hs:Yad (e :: es) X.env = (false,eval e X.env) :: Yad es X.env:=by rfl):PA X (e :: es) (Zuu te t):=by
 intro pos pins s σ H Q I h;rw [hs];show wpAny _ _ (spliced ((false,eval e X.env) :: Yd9 pos (Yad es X.env))) _ _ s;refine Yev (thn (ha pins s σ H _ I h) fun u s1 zz1=>?_);obtain ⟨x,H1,I1,r1,q1⟩:=zz1;exact thn (hr pos pins s1 σ H1 _ I1 q1) fun us s2 ⟨xs,H2,I2,r2,q2⟩=>⟨x :: xs,H2,I2,.cons r1 r2,q2⟩
def Zwd (t:TA):TE:=fun σ H Q=>t σ H fun xs H1=>xs.length <= Y8 /\ ∀ p,H1 p = none -> Q (.ref p) (upd H1 p (.tup xs))
def ZvQ (t:TA):TE:=fun σ H Q=>t σ H fun xs H1=>xs.length <= Y8 /\ ∀ p,H1 p = none -> Q (.ref p) (upd H1 p (.lst xs))
theorem ZsE {x1} (h:PA X es t):PE X (.Tuple es x1 pos) (Zwd t):=by
 intro pins s σ H Q I hq;refine wpAny_Tuple_spliced (thn (h pos pins s σ H _ I hq) fun us s1 ⟨xs,H1,I1,r,z,q⟩=>⟨by rw [← r.length]; exact z,?_⟩);have hf:H1 s1.heap.objs.size = none:=I1.hok.fresh (Yj _);refine ⟨.ref s1.heap.objs.size,upd H1 s1.heap.objs.size (.tup xs),I1.laid (t':=s1.toks) (fun b u e=>Yk _ e) (Yj _) ?_,rfl,q _ hf⟩;exact ⟨z,us,r,⟨_,Y6 _ rfl,⟨rfl,rfl⟩,_,rfl⟩⟩
theorem ZtG (h:PA X es t):PE X (.List es pos) (ZvQ t):=by
 intro pins s σ H Q I hq;refine wpAny_List_spliced (thn (h pos pins s σ H _ I hq) fun us s1 ⟨xs,H1,I1,r,z,q⟩=>⟨by rw [← r.length]; exact z,?_⟩);have hf:H1 s1.heap.objs.size = none:=I1.hok.fresh (Yj _);refine ⟨.ref s1.heap.objs.size,upd H1 s1.heap.objs.size (.lst xs),I1.laid (t':=s1.toks) (fun b u e=>Yk _ e) (Yj _) ?_,rfl,q _ hf⟩;exact ⟨z,us,0,r,Y6 _ rfl⟩
end
noncomputable abbrev Sp:=List V -> Hp -> VK -> XK -> Prop
noncomputable abbrev CXT:=List Env -> Hp -> Ye -> XK -> Value -> Ye -> Prop
structure Zm2 (P:Yai) (w:World) (K:Ya) (mg:Str -> Option Value) (base:Heap) (A:Yas) (outer:List Env) (s:Ye) (H:Hp):Prop where
 frames:A.frames = some outer
 mod:Mod K mg base
 bs:∀ b o,base.get? b = some o -> s.heap.get? b = some o /\ H b = none
 bsz:base.objs.size <= s.heap.objs.size
 funs:s.heap.FunFrames base outer
 frf:∀ b ∈ frs outer,H b = none
 hok:HOk P w H s.heap
 bare:Ygc s.gens
def CE (outer:List Env) (P:Yai) (w:World) (H:Hp) (s:Ye) (Q:VK) (u:Value) (s':Ye):Prop:=
 ∃ v H',s'.os = s.os /\ Ygc s'.gens /\ Un (frs outer) [] H H' s.heap s'.heap /\ HOk P w H' s'.heap /\ RelV v u /\ Q v H'
def CR (CX:CXT) (outer:List Env) (P:Yai) (w:World) (H:Hp) (s:Ye) (Q:VK) (E:XK) (r:Result) (s':Ye):Prop:=
 match r with
 | .ok (.ret u)=>CE outer P w H s Q u s'
 | .ok _=>False
 | .error e=>CX outer H s E e s'
structure ZiV (P:Yai) (w:World) (K:Ya) (mg:Str -> Option Value) (base:Heap) (CX:CXT) (k:Nat) (f:Addr) (fd:FuncData) (ps:List Str) (sp:Sp):Prop where
 len:∀ vs H Q E,sp vs H Q E -> vs.length = ps.length
 run:∀ (A:Yas) (outer:List Env) (s:Ye) (H:Hp) (args:Args) (us:List Value) (vs:List V) (Q:VK) (E:XK),Zel k A -> Zm2 P w K mg base A outer s H -> Yif s fd args (ps.zip us) -> Vals vs us -> sp vs H Q E ->
  Ygf (model P w) A (.call (.ref f) args) (CR CX outer P w H s Q E) s
theorem Zm2.in1 {P:Yai} {w:World} {K:Ya} {mg:Str -> Option Value} {base:Heap} {A:Yas} {outer:List Env} {s:Ye} {H:Hp} (e:Zm2 P w K mg base A outer s H):
  Zm2 P w K mg base A.in1 outer s H:=⟨e.frames,e.mod,e.bs,e.bsz,e.funs,e.frf,e.hok,e.bare⟩
section
variable {X:Cx} {pins:List (Addr × Obj)} {σ:St} {H:Hp} {s s':Ye}
theorem Inv.env0 (I:Inv X pins σ H s):Zm2 X.prog X.w X.K X.mg X.base X.A X.stack s H:=
 ⟨I.ok.frames,I.ok.mod,I.bs,Y2 I.ok.bsz I.sz,I.stack,I.stkFree,I.hok,I.bare⟩
theorem Inv.after {Q:VK} {u:Value} (I:Inv X pins σ H s) (h:CE X.stack X.prog X.w H s Q u s'):EP X pins σ Q u s':=by
 obtain ⟨v,H',os,bare,un,hok,r,q⟩:=h;obtain ⟨hh,g,d,t,os'⟩:=s';obtain rfl:os' = s.os:=os;exact ⟨v,H',I.call (h':=hh) (g':=g) (d':=d) (t':=t) (ch:=[]) un hok bare (fun b z=>absurd z (by simp)),r,q⟩
end
def Zup (sp:Sp) (dvs:List V) (E:XK) (t:TA):TE:=fun σ H Q=>t σ H fun vs H1=>sp (vs ++ dvs) H1 Q E
def Binds (K:Ya) (fd:FuncData) (ps:List Str) (ds:List Value):Prop:=
 ∀ (s:Ye) (us:List Value),K.In s.heap -> (us ++ ds).length = ps.length -> Yif s fd ⟨us,[]⟩ (ps.zip (us ++ ds))
theorem Binds.all {K:Ya} {fd:FuncData} {ps:List Str} (h:∀ us:List Value,us.length = ps.length -> bindArgs fd ⟨us,[]⟩ = pure (ps.zip us)):Binds K fd ps []:=fun s us _ hl=>by
 rw [Yp] at hl ⊢;exact .of_eq (h us hl)
def Znj (CX:CXT) (X:Cx) (E:XK):Prop:=∀ (pins:List (Addr × Obj)) (σ:St) (H:Hp) (s:Ye) (e:Value) (s':Ye),Inv X pins σ H s -> CX X.stack H s E e s' -> X.xe e s'
section
variable {X:Cx} {CX:CXT} {k:Nat} {f C:Addr} {fd:FuncData} {ps:List Str} {sp:Sp} {dvs:List V} {ds:List Value} {E:XK} {x m:Str} {p pos apos:Pos} {e o:Expr} {es:List Expr} {ta:TE} {t:TA}
theorem ZtS {pins:List (Addr × Obj)} {σ:St} {H:Hp} {s:Ye} {Q:VK} {us:List Value} {vs:List V} (F:ZiV X.prog X.w X.K X.mg X.base CX k f fd ps sp) (hr:Zel k X.A) (hb:Binds X.K fd ps ds) (hd:Vals dvs ds) (hx:Znj CX X E)
  (I:Inv X pins σ H s) (r:Vals vs us) (h:sp (vs ++ dvs) H Q E):wpAny (model X.prog X.w) X.A (call (.ref f) us) (EP X pins σ Q) X.xe s:=by
 have r2:Vals (vs ++ dvs) (us ++ ds):=r.append hd;have hl:(us ++ ds).length = ps.length:=by rw [← r2.length]; exact F.len _ _ _ _ h
 refine wpAny_call (Yh8 (F.run X.A X.stack s H ⟨us,[]⟩ (us ++ ds) (vs ++ dvs) Q E hr I.env0 (hb s us I.kIn hl) r2 h) fun r s' hq=>?_);cases r with
 | error e=>exact hx pins σ H s e s' I hq
 | ok fl=>
  cases fl with
  | ret u=>exact I.after hq
  | next=>exact Ybk hq
  | brk=>exact Ybk hq
  | cont=>exact Ybk hq
theorem Zq9 (F:ZiV X.prog X.w X.K X.mg X.base CX k f fd ps sp) (hr:Zel k X.A) (hg:Gl X x) (hm:X.mg x = some (.ref f)) (hk:Yd6 X.K (.ref f) = true) (hb:Binds X.K fd ps ds) (hd:Vals dvs ds) (hx:Znj CX X E)
  (ha:PA X (e :: es) t) (hdb:(x == ("__debug__":Str)) = false:=by decide) (he:Yad (e :: es) X.env = (false,eval e X.env) :: Yad es X.env:=by rfl) (hpl:(Yd9 pos (Yad es X.env)).any (·.1) = false:=by rfl):
  PE X (.Call (.Name x p) (e :: es) [] pos) (Zup sp dvs E t):=by
 intro pins s σ H Q I h;refine Yew (ZrO I hg hm ?_ hdb);refine PySem.W.callWith_K (h₀:=X.base) I.ok.mod.kin hk (thn (ha pos pins s σ H _ I h) fun us s1 ⟨vs,H1,I1,r,q⟩=>⟨I1.kIn,?_⟩) he hpl;exact ZtS F hr hb hd hx I1 r q
end
section
variable {X:Cx} {CX:CXT} {k:Nat} {f C:Addr} {fd:FuncData} {ps ks:List Str} {sp:Sp} {E:XK} {x m:Str} {p pos apos kpos:Pos} {e o:Expr} {es:List Expr} {kws:List Keyword} {te ta:TE} {t tk:TA} {nm:Option Str}
variable {g:List Value -> List Value -> List Value} {gV:List V -> List V -> List V}
end
structure ZaA (N P:List Str) (sc:Scope):Prop where
 kind:sc.kind = .function
 co:sc.isCoroutine = false
 gen:sc.isGenerator = false
 nd:N.Nodup
 pre:N.take P.length = P
 par:∀ x ∈ P,sc.names.lookup x = some .local \/ sc.names.lookup x = some .cell
 nofree:∀ y ∈ sc.names,y.2 ≠ .free
theorem Zkb {Ye9:Str -> Option NameKind} {x:Str}:∀ {binds:List (Str × Value)} {m:Str -> Option Value},(∀ v,(x,v) ∉ binds) -> bindL Ye9 binds m x = m x
 | [],_,_=>rfl
 | (n,v) :: r,m,h=>by
  unfold bindL;rw [Zkb fun w hw=>h w (Y3 _ hw)];split
  ·have:x ≠ n:=by rintro rfl; exact h v Y7
   simp [this]
  ·rfl
theorem Zkt {Ye9:Str -> Option NameKind} {x:Str}:∀ {binds:List (Str × Value)} {m:Str -> Option Value},(∀ v,(x,v) ∉ binds) -> bindC Ye9 binds m x = m x
 | [],_,_=>rfl
 | (n,v) :: r,m,h=>by
  unfold bindC;rw [Zkt fun w hw=>h w (Y3 _ hw)];split
  ·rfl
  ·have:x ≠ n:=by rintro rfl; exact h v Y7
   simp [this]
theorem ZjW {Ye9:Str -> Option NameKind} {x:Str} {v:Value}:∀ {P:List Str} {vs:List Value} {i:Nat} {m:Str -> Option Value},P.Nodup -> P[i]? = some x -> vs[i]? = some v -> Ye9 x = some .local ->
  bindL Ye9 (P.zip vs) m x = some v
 | [],_,_,_,_,h,_,_=>by simp at h
 | _ :: _,[],_,_,_,_,h,_=>by simp at h
 | p :: P,w :: vs,0,m,nd,h1,h2,hk=>by
  simp at h1 h2; subst h1; subst h2;show bindL Ye9 ((p,w) :: P.zip vs) m p = _;unfold bindL;rw [Zkb fun v hv=>(Ycm.mp nd).1 (Ygg hv).1,if_pos hk];simp
 | p :: P,w :: vs,i + 1,m,nd,h1,h2,hk=>by
  show bindL Ye9 ((p,w) :: P.zip vs) m x = _;unfold bindL;exact ZjW (i:=i) (Ycm.mp nd).2 (by simpa using h1) (by simpa using h2) hk
theorem Zkr {Ye9:Str -> Option NameKind} {x:Str} {v:Value}:∀ {P:List Str} {vs:List Value} {i:Nat} {m:Str -> Option Value},P.Nodup -> P[i]? = some x -> vs[i]? = some v -> Ye9 x ≠ some .local ->
  bindC Ye9 (P.zip vs) m x = some v
 | [],_,_,_,_,h,_,_=>by simp at h
 | _ :: _,[],_,_,_,_,h,_=>by simp at h
 | p :: P,w :: vs,0,m,nd,h1,h2,hk=>by
  simp at h1 h2; subst h1; subst h2;show bindC Ye9 ((p,w) :: P.zip vs) m p = _;unfold bindC;rw [Zkt fun v hv=>(Ycm.mp nd).1 (Ygg hv).1,if_neg hk];simp
 | p :: P,w :: vs,i + 1,m,nd,h1,h2,hk=>by
  show bindC Ye9 ((p,w) :: P.zip vs) m x = _;unfold bindC;exact Zkr (i:=i) (Ycm.mp nd).2 (by simpa using h1) (by simpa using h2) hk
noncomputable def start (N:List Str) (vs:List V):St:=vs.map some ++ Yg (N.length - vs.length) none
noncomputable def Zl9 (CX:CXT) (P:Yai) (w:World) (K:Ya) (mg:Str -> Option Value) (base:Heap) (N:List Str) (qual:Str) (scope:Scope) (f:Addr) (cd:Value) (A:Yas) (outer:List Env) (s:Ye) (H:Hp) (E:XK):Cx where
 prog:=P
 w:=w
 K:=K
 mg:=mg
 base:=base
 A:=A.deeper (Yha qual scope s.heap.objs.size f cd)
 N:=N
 s₀:=s
 H₀:=H
 env:=Yha qual scope s.heap.objs.size f cd
 outer:=outer
 stack:=Yha qual scope s.heap.objs.size f cd :: outer
 ex:=[]
 calm:=true
 fn:=fun _=>true
 pn:=[]
 xe:=fun e s'=>wpAny (model P w) (A.deeper (Yha qual scope s.heap.objs.size f cd)) (leaving (Yha qual scope s.heap.objs.size f cd) e) (fun _ s''=>CX outer H s E e s'') (fun e' s''=>CX outer H s E e' s'') s'
theorem ZlM {sc:Scope} {n:Nat} {x:Str} (h:sc.names.lookup x = some .cell):∃ c,(cellsFrom n sc.names []).lookup x = some c:=by
 have q:=Yfx sc.names n [] (.inl h);exact Ydm.mp q
theorem Zot {CX:CXT} {P:Yai} {w:World} {K:Ya} {mg:Str -> Option Value} {base:Heap} {N ps:List Str} {qual:Str} {scope:Scope} {f:Addr} {cd:Value} {A:Yas} {outer:List Env} {s s1:Ye} {H:Hp} {E:XK} {us:List Value} {vs:List V}
  (S:ZaA N ps scope) (hd:A.handled = none) (e0:Zm2 P w K mg base A outer s H) (hl:vs.length = ps.length) (r:Vals vs us)
  (x:InCallC s s.heap.objs.size (bindL (Yha qual scope s.heap.objs.size f cd).kindOf (ps.zip us) fun _=>none) (cellsFrom (s.heap.objs.size + 1) scope.names []) (bindC (Yha qual scope s.heap.objs.size f cd).kindOf (ps.zip us) fun _=>none) s1):
  Inv (Zl9 CX P w K mg base N qual scope f cd A outer s H E) [] (start N vs) H s1:=by
 have hpl:ps.length <= N.length:=by have:=congrArg List.length S.pre; rw [Yea] at this; omega
 obtain ⟨h1,tk,rfl,hk⟩:=x.done;have noA:∀ b:Addr,b ∉ (Zl9 CX P w K mg base N qual scope f cd A outer s H E).ex:=fun b z=>absurd (show b ∈ ([]:List Addr) from z) (by simp);refine ⟨⟨e0.mod,S.kind,rfl,rfl,Yj _,fun y z c h1 h2=>?_,fun y hy=>?_,fun y c _ h=>?_,fun _=>hd,Around.frames_deeper e0.frames,.inr ⟨rfl,rfl⟩,fun b z=>absurd z (noA b),e0.bs,e0.bsz,fun b _ _=>noA b,fun b z=>absurd z (noA b),e0.funs,e0.frf⟩,
  rfl,e0.bare,Un.kept hk,⟨_,x.toInCall.ns,fun i y v h1 h2 h3=>?_⟩,fun y c h=>⟨_,x.cell y c h⟩,e0.hok.fresh (Yj _),fun y c h=>?_,fun p hp=>absurd (show p ∈ ([]:List (Addr × Obj)) from hp) (by simp),e0.hok.kept hk,?_⟩
 ·exact name_of_addr x.apart (Ya3 h1) (Ya3 h2)
 ·have hy:scope.names.lookup y = some .cell \/ scope.names.lookup y = some .free:=hy
  rcases hy with hy | hy
  ·exact ZlM hy
  ·exact absurd rfl (S.nofree _ (Ya3 hy))
 ·exact Ycz (x.above y c (Ya3 h))
 ·have hi:i < vs.length:=by
   unfold start at h2;by_cases hi:i < vs.length
   ·exact hi
   ·rw [Yan (by simpa using hi)] at h2
    rw [Yct] at h2;split at h2 <;> cases h2
  have ha:vs[i]? = some v:=by
   unfold start at h2;rw [Y0 (by simpa using hi),Y1] at h2;cases e:vs[i]? with
   | none=>rw [e] at h2; cases h2
   | some a=>rw [e] at h2; cases h2; rfl
  obtain ⟨u,hu,rv⟩:=r.get ha;have hp:ps[i]? = some y:=by
   rw [← S.pre,Ycn (by exact lC 2 2203874037777 T1 hi hl)]; exact h1
  have ndP:ps.Nodup:=by rw [← S.pre]; exact S.nd.sublist (List.take_sublist _ _)
  refine ⟨u,rv,?_⟩;rcases S.par y (Yax hp) with k | k
  ·exact .inl ⟨k,ZjW ndP hp hu k⟩
  ·obtain ⟨c,e⟩:=ZlM (n:=s.heap.objs.size + 1) k
   refine .inr ⟨.inl k,c,e,?_⟩;have q:=x.cell y c e;rw [Zkr ndP hp hu (by show scope.names.lookup y ≠ _; rw [k]; decide)] at q;exact q
 ·exact e0.hok.fresh (Ycz (x.above y c (Ya3 h)))
 ·unfold start
  show _ = N.length;rw [Yaj,Yac,Ygh];exact Ym (lC 1 2206541614113 T1 (Yb (lC 2 1236986302465 T1 hpl hl))) (lC 1 1288492400641 T1 (sbA _ _))
theorem Zt8 {CX:CXT} {P:Yai} {w:World} {K:Ya} {mg:Str -> Option Value} {base:Heap} {k:Nat} {f:Addr} {name qual:Str} {params:Arguments} {body:List Stmt} {scope:Scope} {dV kV doc pm cdv ct oc:Value} {an od:Option Addr}
  {osl:Array (Option Value)} {N ps:List Str} {sp:Sp} (lk:K.lookup f = some ⟨oc,od,.func (Yc2 name qual params body scope dV kV doc pm an cdv ct),osl⟩) (hcd:Ye3 K cdv qual = true) (S:ZaA N ps scope)
  (len:∀ vs H Q E,sp vs H Q E -> vs.length = ps.length)
  (hbody:∀ (A:Yas) (outer:List Env) (s:Ye) (H:Hp) (vs:List V) (Q:VK) (E:XK),Zel k (A.deeper (Yha qual scope s.heap.objs.size f cdv)) -> sp vs H Q E ->
   ∃ t,PSs (Zl9 CX P w K mg base N qual scope f cdv A outer s H E) body t /\ t { nx:=fun _ H'=>Q .non H',rt:=Q } (start N vs) H):
  ZiV P w K mg base CX (k + 1) f (Yc2 name qual params body scope dV kV doc pm an cdv ct) ps sp:=by
 refine ⟨len,fun A outer s H args us vs Q E hr e0 hb r hsp=>?_⟩;have hl:=len _ _ _ _ hsp;have KX:K.In s.heap:=e0.mod.kin.keeps fun b o e=>(e0.bs b o e).1;have lim:s.heap.NoLimit:=e0.mod.nolimit.keeps fun b o e=>(e0.bs b o e).1;have hkind:∀ y ∈ ps.zip us,scope.names.lookup y.1 = some .local \/ (scope.names.lookup y.1 = some .cell /\ ((cellsFrom (s.heap.objs.size + 1) scope.names []).lookup y.1).isSome = true):=fun ⟨n,v⟩ hy=>by
  rcases S.par n (Ygg hy).1 with q | q
  ·exact .inl q
  ·exact .inr ⟨q,Yfx _ _ _ (.inl q)⟩
 refine codeAny_call_function hr.depth (KX _ _ lk) rfl S.co S.gen rfl (PySem.W.codeRec_of KX hcd) (hb _ _ _ _ ?_);refine wpAny_newFunctionEnv_cells S.kind hkind fun env he s1 x=>?_;subst he;refine ⟨lim.keeps x.toInCall.keep,codeAny_func ?_⟩;obtain ⟨t,ht,hq⟩:=hbody A outer s H vs Q E (hr.deeper _) hsp;have I:Inv (Zl9 CX P w K mg base N qual scope f cdv A outer s H E) [] (start N vs) H s1:=Zot S hr.hd e0 hl r x;refine Ybr (ht [] s1 (start N vs) H _ I hq) (fun fl s' hs=>?_) fun e s' hs=>hs;have fin:∀ {σ':St} {H':Hp} {v:V} {u:Value},Inv (Zl9 CX P w K mg base N qual scope f cdv A outer s H E) [] σ' H' s' -> RelV v u -> Q v H' -> CE outer P w H s Q u s':=
  fun {σ' H' v u} J rv q=>⟨v,H',J.os,J.bare,J.base,J.hok,rv,q⟩
 cases fl with
 | ret u=>
  obtain ⟨v,σ',H',J,rv,q⟩:=hs;exact fin J rv q
 | next=>
  obtain ⟨σ',H',J,q⟩:=hs;exact fin (v:=V.non) (u:=Value.none) J rfl q
 | brk=>
  obtain ⟨_,_,_,q⟩:=hs;exact Ybk q
 | cont=>
  obtain ⟨_,_,_,q⟩:=hs;exact Ybk q
end L2
namespace L2
open PySem PySem.Spec PyProof.Rows
section
variable {X:Cx} {x:Str} {p pos:Pos} {e:Expr} {es:List Expr} {t:TA} {id T:String} {r:List V -> Hp -> VK -> Prop}
def tCB (r:List V -> Hp -> VK -> Prop) (t:TA):TE:=fun σ H Q=>t σ H fun vs H1=>r vs H1 Q
theorem ZmC (hc:ZbZ X (.builtin id) r) (hg:Gl X x) (hm:X.mg x = none) (hv:Yaw x = some (.builtin id)) (ha:PA X (e :: es) t) (hn:x ≠ "__name__":=by decide) (hdb:(x == ("__debug__":Str)) = false:=by decide)
  (he:Yad (e :: es) X.env = (false,eval e X.env) :: Yad es X.env:=by rfl) (hpl:(Yd9 pos (Yad es X.env)).any (·.1) = false:=by rfl):PE X (.Call (.Name x p) (e :: es) [] pos) (tCB r t):=by
 intro pins s σ H Q I h;refine Yew (Zji I hg hm hv ?_ hn hdb);exact PyProof.Rows.callWith_builtin1 (thn (ha pos pins s σ H _ I h) fun us s1 ⟨vs,H1,I1,r1,q1⟩=>hc pins s1 σ H1 vs us Q I1 r1 q1) he hpl
theorem ZoR (hc:ZbZ X (.type T) r) (hg:Gl X x) (hm:X.mg x = none) (hv:Yaw x = some (.type T)) (ha:PA X (e :: es) t) (hn:x ≠ "__name__":=by decide) (hdb:(x == ("__debug__":Str)) = false:=by decide)
  (he:Yad (e :: es) X.env = (false,eval e X.env) :: Yad es X.env:=by rfl) (hpl:(Yd9 pos (Yad es X.env)).any (·.1) = false:=by rfl):PE X (.Call (.Name x p) (e :: es) [] pos) (tCB r t):=by
 intro pins s σ H Q I h;refine Yew (Zji I hg hm hv ?_ hn hdb);exact Yc1 (thn (ha pos pins s σ H _ I h) fun us s1 ⟨vs,H1,I1,r1,q1⟩=>hc pins s1 σ H1 vs us Q I1 r1 q1) he hpl
end
end L2
namespace HT
open PySem PyProof.Rows
section
open PySem.SeqAt
open PySem.AutoSeq1 (wpAny_loadPart')
open PySem.MeetsSeq PySem.MeetsSeq2 PySem.MeetsSeq3
end
section
variable {prog:Yai} {w:World} {A:Yas} {E:Value -> Ye -> Prop} {s:Ye}
theorem cat_tup {t b:Addr} {vs ws:List Value} {Q:Value -> Ye -> Prop} (ht:IsTup s.heap t vs.toArray) (hb:IsTup s.heap b ws.toArray) (hv:vs ≠ [])
  (h1:ws = [] -> Q (.ref t) s) (h2:ws ≠ [] -> Q (.ref s.heap.objs.size) { s with heap:=s.heap.push { cls:=.type "tuple",data:=.seq (vs ++ ws).toArray } })
  (hsz:vs.length + ws.length <= Y8):wpAny (model prog w) A (Ybs .Add (.ref t) (.ref b)) Q E s:=by
 obtain ⟨⟨cls,dd,data,sl⟩,ho,hc,n,hd⟩:=id ht;obtain ⟨⟨cls2,dd2,data2,sl2⟩,ho2,hc2,n2,hd2⟩:=id hb;simp only at hc hd hc2 hd2;subst hc hd hc2 hd2;have e:vs.toArray ++ ws.toArray = (vs ++ ws).toArray:=by simp
 by_cases hw:ws = []
 ·exact Yh9 ⟨_,ho,rfl⟩ ⟨_,ho2,rfl⟩ Yfs Yhw Ydx Ydr (Ydn _ _)
   (tuple_addW1 t b vs.toArray ws.toArray n n2 dd dd2 sl sl2 (by simpa using hv) (by simp [hw])) ⟨ho,ho2,h1 hw⟩
 ·refine Yh9 ⟨_,ho,rfl⟩ ⟨_,ho2,rfl⟩ Yfs Yhw Ydx Ydr (Ydn _ _)
   (tuple_addW2 t b vs.toArray ws.toArray n n2 dd dd2 sl sl2 (by simpa using hv) (by simpa using hw) (by rw [Yi,Yi]; exact hsz)) ⟨ho,ho2,?_⟩
  rw [e];exact h2 hw
noncomputable def sIx (n d:Nat):Option Int -> Nat
 | none=>d
 | some v=>if v < 0 then (v + (n:Int)).toNat else min v.toNat n
theorem ZiR (n d:Nat):sIx n d none = d:=rfl
theorem ZkT (n d k:Nat):sIx n d (some (k:Int)) = min k n:=by
 show (if (k:Int) < 0 then ((k:Int) + (n:Int)).toNat else min (k:Int).toNat n) = min k n;rw [if_neg (Yef.2 (Ybd _)),Yav]
theorem ZkR (n d:Nat) (hd:d <= n) (o:Option Int):sIx n d o <= n:=by
 cases o with
 | none=>exact hd
 | some v=>
  show (if v < 0 then (v + (n:Int)).toNat else min v.toNat n) <= n;by_cases hv:v < 0
  ·rw [if_pos hv]; omega
  ·rw [if_neg hv]; exact Ybx _ _
theorem ZnD (v:Int) (n d:Nat):(if v < 0 then max (v + (n:Int)) 0 else min v (n:Int)) = ((sIx n d (some v):Nat):Int):=by
 show (if v < 0 then max (v + (n:Int)) 0 else min v (n:Int)) = (((if v < 0 then (v + (n:Int)).toNat else min v.toNat n):Nat):Int);by_cases hv:v < 0
 ·simp only [if_pos hv]; exact clA _
 ·simp only [if_neg hv]; exact clB _ _ hv
theorem Zm1 (lo hi:Option Int) (n:Nat):Ydc lo hi 1 (n:Int) = (((sIx n 0 lo:Nat):Int),((sIx n n hi:Nat):Int)):=by
 have h1:¬ ((1:Int) < 0):=by decide
 unfold Ydc;simp only [h1,if_false];refine Prod.ext ?_ ?_
 ·cases lo with
  | none=>rfl
  | some v=>exact ZnD v n 0
 ·cases hi with
  | none=>rfl
  | some v=>exact ZnD v n n
theorem Znk (i j:Nat):Yce (i:Int) (j:Int) 1 = j - i:=by
 unfold Yce;have h1:(1:Int) > 0:=by decide
 simp only [h1,if_true,Int.ediv_one];split <;> omega
theorem Zjl {v:Value} {o:Option Int} {Q:Option Int -> Ye -> Prop} (p:IsPart v o) (h:Q o s):wpAny (model prog w) A (Builtin.Slice.slicePartIndex v) Q E s:=by
 cases p with
 | none=>exact slicePart_none h
 | int i t=>exact slicePart_int h
theorem sliceApplied_gen {sl:Addr} {vl vu:Value} {lo hi:Option Int} {n:Nat} {Q:Int × Int × Nat -> Ye -> Prop} (hs:s.heap.IsSliceOf sl vl vu .none) (pl:IsPart vl lo) (pu:IsPart vu hi)
  (h:Q (((sIx n 0 lo:Nat):Int),1,sIx n n hi - sIx n 0 lo) s):wpAny (model prog w) A (Yeo (.ref sl) (pure (n:Int))) Q E s:=by
 obtain ⟨os,hos,hcs,hds⟩:=id hs;unfold Yeo Builtin.Slice.sliceFields;refine Yd (Yd (Ydg hos hds (x:=vl) rfl (Yd (Ydg hos hds (x:=vu) rfl (Yd (Ydg hos hds (x:=.none) rfl (Ys ?_)))))));refine Yd (slicePart_none ?_);show wpAny _ _ (if ((1:Int) == 0) = true then _ else _) _ _ s;rw [if_neg (by decide)];refine Yd (Zjl pl (Yd (Zjl pu (Yd (Ys ?_)))));show wpAny _ _ (match Ydc lo hi 1 (n:Int) with | (lo,hi)=>pure (lo,(1:Int),Yce lo hi 1)) _ _ s;rw [Zm1 lo hi n];show wpAny _ _ (pure (((sIx n 0 lo:Nat):Int),(1:Int),Yce ((sIx n 0 lo:Nat):Int) ((sIx n n hi:Nat):Int) 1)) _ _ s;rw [Znk];exact Ys h
theorem Zp3 (xs:Array Value) (i k:Nat):((Yt k).filterMap fun (m:Nat)=>xs[((i:Int) + (m:Int) * 1).toNat]?).toArray = ((xs.toList.drop i).take k).toArray:=by
 have e:(fun (m:Nat)=>xs[((i:Int) + (m:Int) * 1).toNat]?) = fun m=>xs[i + m]?:=by
  funext m;have:((i:Int) + (m:Int) * 1).toNat = i + m:=by omega
  rw [this]
 rw [e];have:=pick_run xs i k;rw [List.filterMap_map] at this;have e2:((fun x=>xs[x]?) ∘ fun x=>i + x) = fun m=>xs[i + m]?:=rfl;rw [e2] at this;rw [this]
theorem getItem_tuple_cut {t sl:Addr} {items:Array Value} {vl vu:Value} {lo hi:Option Int} {Q:Value -> Ye -> Prop} (ht:IsTup s.heap t items) (hs:s.heap.IsSliceOf sl vl vu .none) (pl:IsPart vl lo) (pu:IsPart vu hi)
  (hw:¬ (sIx items.size 0 lo = 0 /\ sIx items.size items.size hi = items.size))
  (h:Q (.ref s.heap.objs.size) { s with heap:=s.heap.push { cls:=.type "tuple",data:=.seq ((items.toList.drop (sIx items.size 0 lo)).take (sIx items.size items.size hi - sIx items.size 0 lo)).toArray } })
  (hsz:items.size <= Y8):wpAny (model prog w) A (Yff (.ref t) (.ref sl)) Q E s:=by
 have htake:sizeOk (.seq ((items.toList.drop (sIx items.size 0 lo)).take (sIx items.size items.size hi - sIx items.size 0 lo)).toArray):=by
  show ((items.toList.drop (sIx items.size 0 lo)).take (sIx items.size items.size hi - sIx items.size 0 lo)).toArray.size <= Y8;rw [Yi,Yea,List.length_drop,Ydf];exact lD 3 85606880155602945 T1 hsz (Ya9 _ _) (Ybx _ _)
 have hj:sIx items.size items.size hi <= items.size:=ZkR _ _ (Yj _) hi;obtain ⟨os,hos,hcs,hds⟩:=id hs;have hTs:s.TypeIs (.ref sl) "slice":=⟨os,hos,hcs⟩;unfold Yff
 try with_reducible refine Yaz ?_
 first | refine Yd (Ys ?_) | skip
 refine Yd (wpAny_sequenceKey ht.typeIs (by decide) ?_);refine Yd (Yb1 (name:=Yc3 "__getitem__") ht.typeIs Ybl
  (Ycw Ybl ht.typeIs Yhd ?_ (args_tuple_getitem _ _)))
 show wpAny _ _ (Yep (.ref t) >>= _) _ _ s;refine Yd (tupleItemsOf_ ht ?_);refine Yd (Yex hTs ?_);rw [if_pos (by decide)];refine Yd (sliceApplied_gen hs pl pu ?_);have hno:¬ ((((sIx items.size 0 lo:Nat):Int) == 0 && (1:Int) == 1 && (sIx items.size items.size hi - sIx items.size 0 lo) == items.size) = true):=by
  intro q;rw [Yv,Yv] at q;have q1:((sIx items.size 0 lo:Nat):Int) = 0:=eq_of_beq q.1.1;have q2:sIx items.size items.size hi - sIx items.size 0 lo = items.size:=eq_of_beq q.2;exact hw ⟨by exact Ym (iN [_] [] 1 3759016097 T1 q1) (Yag _),by exact Ym hj (lC 2 2268279672881 T1 q2 (Ya9 _ _))⟩
 show wpAny _ _ (if (((sIx items.size 0 lo:Nat):Int) == 0 && (1:Int) == 1 && (sIx items.size items.size hi - sIx items.size 0 lo) == items.size) = true then _ else _) _ _ s;rw [if_neg hno,Zp3]
 first
  | exact Yd (m:=Yco _) (Yb7 (Ys ⟨_,rfl,Ys h⟩) htake)
  | exact Yd (m:=Yco _) (Yb7 (Yd (Ys (Ys ⟨_,rfl,Ys h⟩))) htake)
  | exact Yd (Yd (m:=Yco _) (Yb7 (Ys (Ys ⟨_,rfl,Ys h⟩)) htake))
  | exact Yd (Yd (m:=Yco _) (Yb7 (Ys ⟨_,rfl,Ys h⟩) htake))
end
end HT
namespace L2
open PySem PySem.Spec PyProof.Rows
noncomputable abbrev TO:=St -> Hp -> (Option Int -> Hp -> Prop) -> Prop
def PO (X:Cx) (e:Option Expr) (t:TO):Prop:=
 ∀ (pins:List (Addr × Obj)) (s:Ye) (σ:St) (H:Hp) (Q:Option Int -> Hp -> Prop),Inv X pins σ H s -> t σ H Q ->
  wpAny (model X.prog X.w) X.A (evalPart e X.env) (fun u s'=>∃ o H',Inv X pins σ H' s' /\ IsPart u o /\ Q o H') X.xe s
def ZrJ:TO:=fun _ H Q=>Q none H
def Zur (t:TE):TO:=fun σ H Q=>t σ H fun x H1=>∃ i,x = .int i /\ Q (some i) H1
section
variable {X:Cx} {e:Expr} {te:TE} {lo hi:Option Expr} {tl th:TO} {pos p2:Pos}
theorem Zrl:PO X none ZrJ:=by
 intro pins s σ H Q I h;rw [evalPart_none];exact Ys ⟨none,H,I,.none,h⟩
theorem Zrz (h:PE X e te):PO X (some e) (Zur te):=by
 intro pins s σ H Q I hw;rw [evalPart_some];refine thn (h pins s σ H _ I hw) fun u s1 zz1=>?_;obtain ⟨x,H1,I1,r1,q1⟩:=zz1;obtain ⟨i,rfl,q⟩:=q1;obtain ⟨t,rfl⟩:=r1;exact ⟨some i,H1,I1,.int i t,q⟩
def SlR (X:Cx) (r:V -> Option Int -> Option Int -> Hp -> VK -> Prop):Prop:=
 ∀ (pins:List (Addr × Obj)) (s:Ye) (σ:St) (H:Hp) (x:V) (v vl vu:Value) (lo hi:Option Int) (sl:Addr) (Q:VK),Inv X pins σ H s -> RelV x v -> s.heap.IsSliceOf sl vl vu .none -> IsPart vl lo -> IsPart vu hi -> r x lo hi H Q ->
  ∃ T id,typeLookup (.type T) "__getitem__" = pure (some (.builtin id)) /\ s.TypeIs v T /\ wpAny (model X.prog X.w) X.A (Yff v (.ref sl)) (EP X pins σ Q) X.xe s
theorem SlR.or {r r':V -> Option Int -> Option Int -> Hp -> VK -> Prop} (h:SlR X r) (h':SlR X r'):SlR X (fun x lo hi H Q=>r x lo hi H Q \/ r' x lo hi H Q):=by
 intro pins s σ H x v vl vu lo hi sl Q I rx hs pl pu q;rcases q with q | q
 ·exact h pins s σ H x v vl vu lo hi sl Q I rx hs pl pu q
 ·exact h' pins s σ H x v vl vu lo hi sl Q I rx hs pl pu q
def tSl (r:V -> Option Int -> Option Int -> Hp -> VK -> Prop) (te:TE) (tl th:TO):TE:=fun σ H Q=>te σ H fun x H1=>tl σ H1 fun l H2=>th σ H2 fun u H3=>r x l u H3 Q
theorem ZpS {r:V -> Option Int -> Option Int -> Hp -> VK -> Prop} (hr:SlR X r) (he:PE X e te) (hl:PO X lo tl) (hu:PO X hi th):PE X (.Subscript e (.Slice lo hi none p2) pos) (tSl r te tl th):=by
 intro pins s σ H Q I h;refine Subscript_ (thn (he pins s σ H _ I h) fun v s1 zz1=>?_);obtain ⟨x,H1,I1,r1,q1⟩:=zz1;refine wpAny_Slice (thn (hl pins s1 σ H1 _ I1 q1) fun vl s2 ⟨l,H2,I2,pl,q2⟩=>thn (hu pins s2 σ H2 _ I2 q2) fun vu s3 zz1=>?_);obtain ⟨u,H3,I3,pu,q3⟩:=zz1;rw [evalPart_none];refine Ys ?_;have I4:Inv X pins σ H3 { s3 with heap:=s3.heap.push { cls:=.type "slice",data:=.fields #[vl,vu,.none] } }:=I3.kept (t':=s3.toks) fun b ob q=>Yk _ q;obtain ⟨T,id,hT,ht,hg⟩:=hr pins { s3 with heap:=s3.heap.push { cls:=.type "slice",data:=.fields #[vl,vu,.none] } } σ H3 x v vl vu l u s3.heap.objs.size Q I4 r1 (Heap.IsSliceOf.new ..) pl pu q3;show wpAny (model X.prog X.w) X.A (Yhx e (.Slice lo hi none p2) v (.ref s3.heap.objs.size)) (EP X pins σ Q) X.xe { s3 with heap:=s3.heap.push { cls:=.type "slice",data:=.fields #[vl,vu,.none] } };exact tail_any (ops:=[.ref s3.heap.objs.size,v]) ht hT hg (by with_unfolding_all rfl)
noncomputable def ZlO (xs:List V) (lo hi:Option Int):List V:=(xs.drop (HT.sIx xs.length 0 lo)).take (HT.sIx xs.length xs.length hi - HT.sIx xs.length 0 lo)
theorem Zh5 (xs:List V) (lo hi:Option Int):(ZlO xs lo hi).length <= xs.length:=by
 unfold ZlO;rw [Yea,List.length_drop];exact Y2 (Ybx _ _) (Ya9 _ _)
noncomputable def Zwk (K:Ya):V -> Option Int -> Option Int -> Hp -> VK -> Prop:=fun x lo hi H Q=>∃ a xs,x = .ref a /\ SqT K H a xs /\
 ¬ (HT.sIx xs.length 0 lo = 0 /\ HT.sIx xs.length xs.length hi = xs.length) /\ ∀ p,H p = none -> Q (.ref p) (upd H p (.tup (ZlO xs lo hi)))
theorem ZsW:SlR X (Zwk X.K):=by
 intro pins s σ H x v vl vu lo hi sl Q I rx hs pl pu h;obtain ⟨a,xs,rfl,hx,hw,q⟩:=h;cases rx;obtain ⟨its,r,ht,hz⟩:=I.tuple hx;have hlen:its.toArray.size = xs.length:=by rw [Yi]; exact r.length.symm
 refine ⟨"tuple",_,PyProof.Rows.slot_tuple_getitem.lookup,ht.typeIs,?_⟩;refine HT.getItem_tuple_cut ht hs pl pu (by rw [hlen]; exact hw) ?_ (by rw [hlen]; exact hz);rw [hlen];refine ⟨.ref s.heap.objs.size,_,I.laid (t':=s.toks) (o:=.tup (ZlO xs lo hi)) (fun b ob q=>Yk _ q) (Yj _) ?_,rfl,q _ (I.hok.fresh (Yj _))⟩;exact ⟨Y2 (Zh5 xs lo hi) hz,_,(r.drop (HT.sIx xs.length 0 lo)).take (HT.sIx xs.length xs.length hi - HT.sIx xs.length 0 lo),ZeT.new _ _⟩
def Zus (K:Ya):R2:=fun x y H Q=>∃ a b xs ys,x = .ref a /\ y = .ref b /\ SqT K H a xs /\ SqT K H b ys /\ xs ≠ [] /\ xs.length + ys.length <= Y8 /\
 (ys = [] -> Q (.ref a) H) /\ (ys ≠ [] -> ∀ p,H p = none -> Q (.ref p) (upd H p (.tup (xs ++ ys))))
theorem Vals.nil_iff {xs:List V} {us:List Value} (r:Vals xs us):us = [] ↔ xs = []:=by
 cases r with
 | nil=>simp
 | cons _ _=>simp
theorem Zre:OpR X (Ybs .Add) (Zus X.K):=by
 intro pins s σ H x y v u Q I rx ry h;obtain ⟨a,b,xs,ys,rfl,rfl,ha,hb,hx,hz,q1,q2⟩:=h;cases rx;cases ry;obtain ⟨its,r1,p1,_⟩:=I.tuple ha;obtain ⟨its2,r2,p2,_⟩:=I.tuple hb;refine HT.cat_tup p1 p2 (fun z=>hx (r1.nil_iff.mp z)) (fun z=>⟨.ref a,H,I,rfl,q1 (r2.nil_iff.mp z)⟩) (fun z=>?_) (by rw [← r1.length,← r2.length]; exact hz);refine ⟨.ref s.heap.objs.size,_,I.laid (t':=s.toks) (o:=.tup (xs ++ ys)) (fun b ob q=>Yk _ q) (Yj _) ?_,rfl,q2 (fun w=>z (r2.nil_iff.mpr w)) _ (I.hok.fresh (Yj _))⟩;exact ⟨by rw [Yaj]; exact hz,_,r1.append r2,ZeT.new _ _⟩
end
end L2
namespace L2
open PySem PySem.Spec PyProof.Rows
noncomputable def ixN (n:Nat) (i:Int):Option Nat:=if 0 <= i then (if i < n then some i.toNat else none) else if -(n:Int) <= i then some (i + n).toNat else none
noncomputable def atI {α:Type} (xs:List α) (i:Int):Option α:=(ixN xs.length i).bind fun j=>xs[j]?
theorem ZnK {n:Nat} {i:Int} {j:Nat} (h:ixN n i = some j):seqIndex? i n = some j /\ j < n /\ -(n:Int) <= i /\ i < n:=by
 unfold ixN at h;by_cases h0:0 <= i
 ·rw [if_pos h0] at h
  by_cases h1:i < n
  ·rw [if_pos h1] at h
   have e:i.toNat = j:=Yq h;exact ⟨by rw [Yig h0 h1,e],by exact iN [_,_,_] [_] 3 0x211008a1280911031 T1 e h1 (Y5 h0),by exact iN [_] [_] 1 144182913 T1 h0,h1⟩
  ·rw [if_neg h1] at h; cases h
 ·rw [if_neg h0] at h
  by_cases h1:-(n:Int) <= i
  ·rw [if_pos h1] at h
   have e:(i + n).toNat = j:=Yq h;exact ⟨by rw [Yia (by exact Ye7.1 h0) h1,e],by exact iN [_,_,_] [_] 3 0x211280c08a10ec11031 T1 e h0 (Y5 (iN [_] [_] 1 8851524979073 T1 h1)),h1,by exact iN [_] [_] 1 134811329 T1 h0⟩
  ·rw [if_neg h1] at h; cases h
theorem ZkF {α:Type} {xs:List α} {i:Int} {v:α} (h:atI xs i = some v):∃ j,seqIndex? i xs.length = some j /\ xs[j]? = some v /\ j < xs.length /\ -(xs.length:Int) <= i /\ i < xs.length:=by
 unfold atI at h;cases e:ixN xs.length i with
 | none=>rw [e] at h; cases h
 | some j=>
  rw [e] at h;obtain ⟨h1,h2,h3,h4⟩:=ZnK e;exact ⟨j,h1,h,h2,h3,h4⟩
def ZnS (b:Expr):Prop:=∀ o i,Yhe b false o i = operate [o,i] (Yff o i)
def IxR (X:Cx) (r:R2):Prop:=
 ∀ (value slice:Expr) (pins:List (Addr × Obj)) (s:Ye) (σ:St) (H:Hp) (x y:V) (v u:Value) (Q:VK),Inv X pins σ H s -> RelV x v -> RelV y u -> r x y H Q ->
  Yhe slice false v u = operate [v,u] (Yff v u) -> wpAny (model X.prog X.w) X.A (Yhx value slice v u) (EP X pins σ Q) X.xe s
def MtR (X:Cx) (id:String) (r:V -> List V -> Hp -> VK -> Prop):Prop:=
 ∀ (pins:List (Addr × Obj)) (s:Ye) (σ:St) (H:Hp) (x:V) (xs:List V) (v:Value) (us:List Value) (Q:VK),Inv X pins σ H s -> RelV x v -> Vals xs us -> r x xs H Q ->
  wpAny (model X.prog X.w) X.A (call (.builtin id) (v :: us)) (EP X pins σ Q) X.xe s
section
variable {X:Cx} {a b:Expr} {ta tb:TE} {pos:Pos}
theorem IxR.or {r r':R2} (h:IxR X r) (h':IxR X r'):IxR X (fun x y H Q=>r x y H Q \/ r' x y H Q):=by
 intro value slice pins s σ H x y v u Q I rx ry q hs;rcases q with q | q
 ·exact h value slice pins s σ H x y v u Q I rx ry q hs
 ·exact h' value slice pins s σ H x y v u Q I rx ry q hs
theorem ZuD {r:R2} (hr:IxR X r) (ha:PE X a ta) (hb:PE X b tb) (hs:ZnS b):PE X (.Subscript a b pos) (tOp r ta tb):=by
 intro pins s σ H Q I h;exact Subscript_ (ZtC ha hb I h fun v u s2 x y H2 I2 rx ry q=>hr a b pins s2 σ H2 x y v u Q I2 rx ry q (hs _ _))
def ZuW (K:Ya):R2:=fun x y H Q=>∃ p xs i v,x = .ref p /\ y = .int i /\ SqL K H p xs /\ atI xs i = some v /\ Q v H
def Zt9 (K:Ya):R2:=fun x y H Q=>∃ p xs i v,x = .ref p /\ y = .int i /\ SqT K H p xs /\ atI xs i = some v /\ Q v H
def Zud:R2:=fun x y H Q=>∃ z i c,x = .str z /\ y = .int i /\ z.length <= Y8 /\ atI z.cps.toList i = some c /\ Q (.str ⟨#[c]⟩) H
theorem Zrn:IxR X (ZuW X.K):=by
 intro value slice pins s σ H x y v u Q I rx ry h hs;obtain ⟨p,xs,i,z,rfl,rfl,hq,he,q⟩:=h;cases rx;obtain ⟨t,rfl⟩:=ry;obtain ⟨its,r,pl,hz⟩:=I.list hq;obtain ⟨j,h1,h2,h3,h4,h5⟩:=ZkF he;obtain ⟨w,ew,rw'⟩:=r.get h2;have hl:=r.length;have hn:=ZiY;have fin:EP X pins σ Q w s:=⟨z,H,I,rw',q⟩;by_cases h0:0 <= i
 ·have hj:i.toNat = j:=by
   rw [Yig h0 h5] at h1;exact Yq h1
  exact item_listR pl.isList h0 (by omega) (by rw [hj]; simpa using ew) fin hs
 ·have hj:(i + (its.toArray.size:Int)).toNat = j:=by
   rw [Yia (by exact Ye7.1 h0) h4] at h1;rw [Yi,← hl];exact Yq h1
  exact Yfy (x:=w) pl.isList.typeIs slot_list_getitem.lookup
   (wpAny_getItem_list_neg (Q:=fun r s'=>r = w /\ EP X pins σ Q r s') pl.isList (by exact Ye7.1 h0) (by rw [Yi] <;> exact iN [_,_] [_] 2 6922527515414561 T1 hl h4) (by omega) (by rw [hj]; simpa using ew) ⟨rfl,fin⟩) hs
theorem Zth:IxR X (Zt9 X.K):=by
 intro value slice pins s σ H x y v u Q I rx ry h hs;obtain ⟨p,xs,i,z,rfl,rfl,hq,he,q⟩:=h;cases rx;obtain ⟨t,rfl⟩:=ry;obtain ⟨its,r,pl,hz⟩:=I.tuple hq;obtain ⟨j,h1,h2,h3,h4,h5⟩:=ZkF he;obtain ⟨w,ew,rw'⟩:=r.get h2;have hl:=r.length;have hn:=ZiY;have fin:EP X pins σ Q w s:=⟨z,H,I,rw',q⟩;exact Yfy (x:=w) pl.typeIs slot_tuple_getitem.lookup
  (getItem_tuple (j:=j) (Q:=fun r s'=>r = w /\ EP X pins σ Q r s') pl (by omega) (by omega) (by rw [Yi,← hl]; exact h1) (by simpa using ew) ⟨rfl,fin⟩) hs
theorem Zta:IxR X Zud:=by
 intro value slice pins s σ H x y v u Q I rx ry h hs;obtain ⟨z,i,c,rfl,rfl,hz,he,q⟩:=h;obtain ⟨t,rfl⟩:=rx;obtain ⟨t',rfl⟩:=ry;obtain ⟨j,h1,h2,h3,h4,h5⟩:=ZkF he;have hl:z.cps.toList.length = z.length:=by simp [Ycx]
 rw [hl] at h1 h4 h5;have hn:=ZiY;exact tail_any (typeIs_str s z t) slot_str_getitem.lookup (getItem_str (c:=c) (by
  have e1:decide (i < -(2 ^ 63:Int)) = false:=decide_eq_false (by omega);have e2:decide (i >= 2 ^ 63) = false:=decide_eq_false (by omega);rw [e1,e2,Bool.or_false]) (by rw [h1]; simpa using h2) ⟨.str ⟨#[c]⟩,H,I.tok _,⟨_,rfl⟩,q⟩) hs
def rIx (K:Ya):R2:=fun x y H Q=>ZuW K x y H Q \/ Zt9 K x y H Q \/ Zud x y H Q
theorem ZtB:IxR X (rIx X.K):=Zrn.or (Zth.or Zta)
theorem ZmU (its:List Value) (n j:Nat) (u:Value):Yc9 (·.setIfInBounds j u) { cls:=.type "list",data:=.seq its.toArray n } = { cls:=.type "list",data:=.seq (its.set j u).toArray n }:=by
 simp [Yc9]
theorem Inv.lst {pins:List (Addr × Obj)} {σ:St} {H:Hp} {s:Ye} {p:Addr} {xs:List V} (I:Inv X pins σ H s) (h:H p = some (.lst xs)):
  ∃ (its:List Value) (n:Nat),Vals xs its /\ s.heap.get? p = some { cls:=.type "list",data:=.seq its.toArray n } /\ xs.length <= Y8:=by
 obtain ⟨z,its,n,r,e⟩:=I.hok p _ h;exact ⟨its,n,r,e,z⟩
theorem Inv.lstUpd {pins:List (Addr × Obj)} {σ:St} {H:Hp} {s:Ye} {p:Addr} {xs ys:List V} {its its':List Value} {n n':Nat} {f:Obj -> Obj} (I:Inv X pins σ H s) (h:H p = some (.lst xs))
  (ho:s.heap.get? p = some { cls:=.type "list",data:=.seq its.toArray n }) (hf:f { cls:=.type "list",data:=.seq its.toArray n } = { cls:=.type "list",data:=.seq its'.toArray n' }) (r:Vals ys its') (hz:ys.length <= Y8) (t:Nat):
  Inv X pins σ (upd H p (.lst ys)) { s with heap:=s.heap.update p f,toks:=t }:=by
 have e:(s.heap.update p f).get? p = some { cls:=.type "list",data:=.seq its'.toArray n' }:=by
  rw [Ygi f ho (by rw [hf] <;> rfl),hf]
 refine I.write (x:=p) (e:=p) (by rw [h]; trivial) (.inl rfl) (fun b u hb q=>(Yfz _ _ (Yat hb)).trans q) ⟨_,e⟩ ?_;exact ⟨hz,its',n',r,e⟩
noncomputable def Zuh:V -> V -> V -> Hp -> (Hp -> Prop) -> Prop:=fun o i v H Q=>∃ p xs k j,o = .ref p /\ i = .int k /\ H p = some (.lst xs) /\ ixN xs.length k = some j /\ Q (upd H p (.lst (xs.set j v)))
theorem set_list:Zu0 X Zuh:=by
 intro pins s σ H o i v ov iv u Q I ro ri rv h;obtain ⟨p,xs,k,j,rfl,rfl,hp,hj,q⟩:=h;cases ro;obtain ⟨t,rfl⟩:=ri;obtain ⟨its,n,r,ho,hz⟩:=I.lst hp;obtain ⟨h1,h2,h3,h4⟩:=ZnK hj;have hl:=r.length;have hn:=ZiY;have I':Inv X pins σ (upd H p (.lst (xs.set j v))) { s with heap:=s.heap.update p (Yc9 (·.setIfInBounds j u)) }:=
  I.lstUpd hp ho (ZmU its n j u) (r.set rv j) (by rw [Yek]; exact hz) s.toks
 by_cases h0:0 <= k
 ·have hk:k.toNat = j:=by
   rw [Yig h0 h4] at h1;exact Yq h1
  exact PySem.W.ki_setAt ho h0 (by omega) (by rw [Yi,← hl]; exact h4) (by rw [hk]; exact ⟨_,I',q⟩)
 ·have hk:(k + (its.toArray.size:Int)).toNat = j:=by
   rw [Yia (by exact Ye7.1 h0) h3] at h1;rw [Yi,← hl];exact Yq h1
  exact PySem.W.ki_setBack ho (by exact Ye7.1 h0) (by rw [Yi,← hl]; exact h3) (by omega) (by rw [hk]; exact ⟨_,I',q⟩)
theorem Zk2 (lo hi:Option Int) (n:Nat):(Ydz lo hi none n).1 = ((HT.sIx n 0 lo:Nat):Int) /\ (Ydz lo hi none n).2.1 = ((HT.sIx n n hi:Nat):Int) /\ (Ydz lo hi none n).2.2 = 1:=by
 refine ⟨?_,?_,rfl⟩
 ·cases lo with
  | none=>simp [Ydz,HT.sIx]
  | some i=>
   simp only [Ydz,HT.sIx,Option.getD_none,show (1:Int) > 0 by decide,if_true];by_cases h:i < 0
   ·simp only [h,if_true] <;> exact clC _ _ h
   ·simp only [h,if_false] <;> exact clD _ _ h
 ·cases hi with
  | none=>simp [Ydz,HT.sIx]
  | some i=>
   simp only [Ydz,HT.sIx,Option.getD_none,show (1:Int) > 0 by decide,if_true];by_cases h:i < 0
   ·simp only [h,if_true] <;> exact clC _ _ h
   ·simp only [h,if_false] <;> exact clD _ _ h
theorem Zjw (its:List Value) (lo hi:Option Int):slicePick its.toArray lo hi none = ((its.drop (HT.sIx its.length 0 lo)).take (HT.sIx its.length its.length hi - HT.sIx its.length 0 lo)).toArray:=by
 obtain ⟨h1,h2,h3⟩:=Zk2 lo hi its.toArray.size;unfold slicePick;rw [h1,h2,h3];simp only [sliceRange_one,pick_run,Yi] <;> rfl
noncomputable def Zv8 (K:Ya):V -> Option Int -> Option Int -> Hp -> VK -> Prop:=fun x lo hi H Q=>∃ a xs,x = .ref a /\ SqL K H a xs /\ ∀ p,H p = none -> Q (.ref p) (upd H p (.lst (ZlO xs lo hi)))
theorem ZqY:SlR X (Zv8 X.K):=by
 intro pins s σ H x v vl vu lo hi sl Q I rx hs pl pu h;obtain ⟨a,xs,rfl,hx,q⟩:=h;cases rx;obtain ⟨its,r,ht,hz⟩:=I.list hx;have hlen:=r.length;refine ⟨"list",_,slot_list_getitem.lookup,ht.isList.typeIs,?_⟩;refine wpAny_getItem_list_slice ht.isList hs pl pu .none (by simp) ?_ (by rw [Yi] <;> exact lC 2 2268279672881 T1 hlen hz);rw [Zjw,← hlen];refine ⟨.ref s.heap.objs.size,_,I.laid (t':=s.toks) (o:=.lst (ZlO xs lo hi)) (fun b ob q=>Yk _ q) (Yj _) ?_,rfl,q _ (I.hok.fresh (Yj _))⟩;exact ⟨Y2 (Zh5 xs lo hi) hz,_,0,(r.drop (HT.sIx xs.length 0 lo)).take (HT.sIx xs.length xs.length hi - HT.sIx xs.length 0 lo),Y6 _ rfl⟩
noncomputable def ZgJ:V -> Bool
 | .non=>true
 | .bl _=>true
 | .int _=>true
 | .str _=>true
 | _=>false
noncomputable def eqV:V -> V -> Bool
 | .non,.non=>true
 | .bl a,.bl b=>a == b
 | .bl a,.int b=>(if a then 1 else 0) == b
 | .int a,.bl b=>a == (if b then 1 else 0)
 | .int a,.int b=>a == b
 | .str a,.str b=>a == b
 | _,_=>false
theorem Zs3 {A:Yas} {s:Ye} {y x:V} {u v:Value} (ry:RelV y u) (rx:RelV x v) (fy:ZgJ y = true) (fx:ZgJ x = true):Yd0 A s u v (eqV y x):=by
 cases y with
 | non=>
  cases ry
  cases x with
  | non=>cases rx; exact Ygj _
  | bl b=>cases rx; exact Yg0 b
  | int b=>obtain ⟨t,rfl⟩:=rx; exact Yhf b t
  | str b=>obtain ⟨t,rfl⟩:=rx; exact Yhg b t
  | _=>exact absurd (show false = true from fx) Yaq
 | bl a=>
  cases ry
  cases x with
  | non=>cases rx; exact Yg1 a
  | bl b=>cases rx; exact Yg2 a b
  | int b=>obtain ⟨t,rfl⟩:=rx; exact Yhh a b t
  | str b=>obtain ⟨t,rfl⟩:=rx; exact Yhi a b t
  | _=>exact absurd (show false = true from fx) Yaq
 | int a=>
  obtain ⟨t',rfl⟩:=ry;cases x with
  | non=>cases rx; exact Yhj a t'
  | bl b=>cases rx; exact Yhk a t' b
  | int b=>obtain ⟨t,rfl⟩:=rx; exact SeqAt.EqAt.int_int a t' b t
  | str b=>obtain ⟨t,rfl⟩:=rx; exact Yes a t' b t
  | _=>exact absurd (show false = true from fx) Yaq
 | str a=>
  obtain ⟨t',rfl⟩:=ry;cases x with
  | non=>cases rx; exact Yhl a t'
  | bl b=>cases rx; exact Yhm a t' b
  | int b=>obtain ⟨t,rfl⟩:=rx; exact Yet a t' b t
  | str b=>obtain ⟨t,rfl⟩:=rx; exact SeqAt.EqAt.str_str a t' b t
  | _=>exact absurd (show false = true from fx) Yaq
 | _=>exact absurd (show false = true from fy) Yaq
noncomputable def eqU (x:V) (u:Value):Bool:=match u with
 | .none=>eqV .non x
 | .bool b=>eqV (.bl b) x
 | .int i _=>eqV (.int i) x
 | .str z _=>eqV (.str z) x
 | _=>false
theorem Zpv {x y:V} {u:Value} (r:RelV y u) (f:ZgJ y = true):eqU x u = eqV y x:=by
 cases y with
 | non=>cases r; rfl
 | bl b=>cases r; rfl
 | int i=>obtain ⟨t,rfl⟩:=r; rfl
 | str z=>obtain ⟨t,rfl⟩:=r; rfl
 | _=>exact absurd (show false = true from f) Yaq
theorem ZkW {x:V}:∀ {xs:List V} {us:List Value},Vals xs us -> xs.all ZgJ = true -> us.any (eqU x) = xs.any fun y=>eqV y x
 | _,_,.nil,_=>rfl
 | y :: xs,u :: us,.cons r t,f=>by
  rw [Yb2,Yv] at f;rw [Yba,Yba,Zpv r f.1,ZkW t f.2]
theorem ZiM {A:Yas} {s:Ye} {x:V} {v:Value} (rx:RelV x v) (fx:ZgJ x = true):∀ {xs:List V} {us:List Value},Vals xs us -> xs.all ZgJ = true -> ∀ u ∈ us,Yd0 A s u v (eqU x u)
 | _,_,.nil,_=>fun u hu=>by cases hu
 | y :: xs,u :: us,.cons r t,f=>fun u' hu=>by
  rw [Yb2,Yv] at f;rcases Yah.mp hu with rfl | hu
  ·rw [Zpv r f.1]; exact Zs3 r rx f.1 fx
  ·exact ZiM rx fx t f.2 u' hu
noncomputable def inV (x:V) (xs:List V):Bool:=xs.any fun y=>eqV y x
def rIn (K:Ya) (neg:Bool):R2:=fun x y H Q=>∃ p xs,y = .ref p /\ (SqL K H p xs \/ SqT K H p xs) /\ ZgJ x = true /\ xs.all ZgJ = true /\ Q (.bl (if neg then !inV x xs else inV x xs)) H
theorem ZoU:OpR X (Ya0 .In) (rIn X.K false):=by
 intro pins s σ H x y v u Q I rx ry h;obtain ⟨p,xs,rfl,hq,fx,fs,q⟩:=h;cases ry;rcases hq with hq | hq
 ·obtain ⟨its,r,pl,hz⟩:=I.list hq
  refine SeqAt.in_listAt (eqU x) pl.isList (fun w hw=>ZiM rx fx r fs w (by simpa using hw)) ⟨.bl _,H,I,rfl,?_⟩;rw [show its.toArray.any (eqU x) = its.any (eqU x) by simp,ZkW r fs];exact q
 ·obtain ⟨its,r,pl,hz⟩:=I.tuple hq
  refine SeqAt.in_tupleAt (eqU x) pl (fun w hw=>ZiM rx fx r fs w (by simpa using hw)) ⟨.bl _,H,I,rfl,?_⟩;rw [show its.toArray.any (eqU x) = its.any (eqU x) by simp,ZkW r fs];exact q
theorem ZbZ.or {f:Value} {r r':List V -> Hp -> VK -> Prop} (h:ZbZ X f r) (h':ZbZ X f r'):ZbZ X f (fun xs H Q=>r xs H Q \/ r' xs H Q):=by
 intro pins s σ H xs us Q I rs q;rcases q with q | q
 ·exact h pins s σ H xs us Q I rs q
 ·exact h' pins s σ H xs us Q I rs q
theorem Zlk:ZbZ X (.type "list") (fun xs H Q=>∃ p ys,xs = [.ref p] /\ (SqL X.K H p ys \/ SqT X.K H p ys) /\ ∀ l,H l = none -> Q (.ref l) (upd H l (.lst ys))):=by
 intro pins s σ H xs us Q I r h;obtain ⟨p,ys,rfl,hq,q⟩:=h;obtain ⟨u,rfl,rx⟩:=vals1 r;cases rx;have fin:∀ (its:List Value),Vals ys its -> ys.length <= Y8 -> ∀ (h':Heap) (c':Nat),(∀ b o',s.heap.get? b = some o' -> h'.get? b = some o') ->
   h'.get? s.heap.objs.size = some { cls:=.type "list",dict:=none,data:=.seq its.toArray c',slots:=#[] } -> EP X pins σ Q (.ref s.heap.objs.size) { s with heap:=h' }:=fun its r' hz h' c' kp e=>
  ⟨.ref s.heap.objs.size,_,I.laid (t':=s.toks) kp (Yj _) (show ZbH X.prog X.w _ h' _ (.lst ys) from ⟨hz,its,c',r',e⟩),rfl,q _ (I.hok.fresh (Yj _))⟩
 rcases hq with hq | hq
 ·obtain ⟨its,r',pl,hz⟩:=I.list hq
  have hlen:=r'.length;obtain ⟨o,ho,hc,n,hd⟩:=pl.isList;exact call_list_seq p (.inl rfl) ho hc hd (fun h' c' kp e=>fin its r' hz h' c' kp e) (by simp only [Yi] <;> exact lC 2 2268279672881 T1 hlen hz)
 ·obtain ⟨its,r',pl,hz⟩:=I.tuple hq
  have hlen:=r'.length;obtain ⟨o,ho,hc,n,hd⟩:=pl;exact call_list_seq p (.inr rfl) ho hc hd (fun h' c' kp e=>fin its r' hz h' c' kp e) (by simp only [Yi] <;> exact lC 2 2268279672881 T1 hlen hz)
theorem ZjH:ZbZ X (.type "tuple") (fun xs H Q=>∃ p ys,xs = [.ref p] /\ ((SqL X.K H p ys /\ ∀ l,H l = none -> Q (.ref l) (upd H l (.tup ys))) \/ (SqT X.K H p ys /\ Q (.ref p) H))):=by
 intro pins s σ H xs us Q I r h;obtain ⟨p,ys,rfl,h⟩:=h;obtain ⟨u,rfl,rx⟩:=vals1 r;cases rx;rcases h with ⟨hq,q⟩ | ⟨hq,q⟩
 ·obtain ⟨its,r',pl,hz⟩:=I.list hq
  have hlen:=r'.length;refine call_tuple_list pl.isList (fun h' kp=>?_) (by simp only [Yi] <;> exact lC 2 2268279672881 T1 hlen hz);have I1:Inv X pins σ H { s with heap:=h' }:=I.kept (t':=s.toks) kp;have I2:Inv X pins σ (upd H h'.objs.size (.tup ys)) { s with heap:=h'.push { cls:=.type "tuple",data:=.seq its.toArray } }:=
   I1.laid (t':=s.toks) (fun b o e=>Yk _ e) (Yj _) (show ZbH X.prog X.w _ _ _ (.tup ys) from ⟨hz,its,r',ZeT.new _ _⟩)
  exact ⟨.ref h'.objs.size,_,I2,rfl,q _ (I1.hok.fresh (Yj _))⟩
 ·obtain ⟨its,r',pl,hz⟩:=I.tuple hq
  exact call_tuple_same pl ⟨.ref p,H,I,rfl,q⟩
def tyV (K:Ya) (T:String) (x:V) (H:Hp):Prop:=match x with
 | .str _=>T = "str"
 | .int _=>T = "int"
 | .ref p=>(T = "list" /\ ∃ xs,SqL K H p xs) \/ (T = "tuple" /\ ∃ o,K.lookup p = some o /\ o.cls = .type "tuple" /\ o.dict = none) \/
   (T = "dict" /\ ((∃ kvs,H p = some (.dK kvs)) \/ ∃ kvs,H p = some (.dT kvs))) \/ (T = "set" /\ ∃ S n,H p = some (.set S n))
 | _=>False
theorem ZsS {pins:List (Addr × Obj)} {σ:St} {H:Hp} {s:Ye} {T:String} {x:V} {v:Value} (I:Inv X pins σ H s) (r:RelV x v) (ty:tyV X.K T x H):
  s.TypeIs v T /\ ∀ a,v = .ref a -> ∃ ob,s.heap.get? a = some ob /\ ob.dict = none:=by
 cases x with
 | str z=>
  obtain ⟨t,rfl⟩:=r;cases (show T = "str" from ty);exact ⟨typeIs_str s z t,fun _ e=>nomatch e⟩
 | int i=>
  obtain ⟨t,rfl⟩:=r;cases (show T = "int" from ty);exact ⟨typeIs_int s i t,fun _ e=>nomatch e⟩
 | ref p=>
  cases r
  rcases ty with ⟨rfl,xs,hq⟩ | ⟨rfl,o,hk,hc,hd⟩ | ⟨rfl,hk⟩ | ⟨rfl,S,n,hk⟩
  ·obtain ⟨its,_,pl,_⟩:=I.list hq
   refine ⟨pl.isList.typeIs,fun a e=>?_⟩;cases e;obtain ⟨o,n,e,c,hd,_⟩:=pl;exact ⟨o,e,hd⟩
  ·refine ⟨⟨o,I.kIn p o hk,hc⟩,fun a e=>?_⟩
   cases e
   exact ⟨o,I.kIn _ o hk,hd⟩
  ·have z:∃ o,s.heap.get? p = some o /\ o.ExactDict:=by
    rcases hk with ⟨kvs,hk⟩ | ⟨kvs,hk⟩
    ·obtain ⟨_,_,_,_,o,_,_,e,ex,_⟩:=I.hok p _ hk
     exact ⟨o,e,ex⟩
    ·obtain ⟨_,_,_,_,o,_,_,e,ex,_⟩:=I.hok p _ hk
     exact ⟨o,e,ex⟩
   obtain ⟨o,e,ex⟩:=z;refine ⟨⟨o,e,ex.1⟩,fun a e2=>?_⟩;cases e2;exact ⟨o,e,ex.2.1⟩
  ·obtain ⟨o,_,_,_,e,ex,_⟩:=I.hok p _ hk
   refine ⟨⟨o,e,ex.1⟩,fun a e2=>?_⟩;cases e2;exact ⟨o,e,ex.2.1⟩
 | _=>exact Ybk ty
def tBM (K:Ya) (T:String) (r:V -> List V -> Hp -> VK -> Prop) (to:TE) (t:TA):TE:=fun σ H Q=>to σ H fun x H1=>tyV K T x H1 /\ t σ H1 fun xs H2=>r x xs H2 Q
variable {o e:Expr} {es:List Expr} {to:TE} {t:TA} {name:Str} {apos cpos:Pos} {T id:String} {r:V -> List V -> Hp -> VK -> Prop}
theorem Zu5 (pa:PlainAttrs T) (slot:Slot T name id) (hty:typeOf (.builtin id) = pure (.type "method_descriptor")) (hm:MtR X id r) (ho:PE X o to) (ha:PA X (e :: es) t)
  (hbase:Yfg o name X.env (eval o X.env) = eval o X.env:=by rfl)
  (hfew:((Yd9 cpos (Yad (e :: es) X.env)).all (fun x=>!x.1) && (backToKw cpos (Yhn [] X.env)).all (fun x=>x.1.isSome)
   && decide ((e :: es).length + ([]:List Keyword).length + (if ([]:List Keyword).isEmpty then 0 else 1) < 30)) = true:=by rfl)
  (hline:(apos.endLine == cpos.line) = true:=by rfl) (hs:Yad (e :: es) X.env = (false,eval e X.env) :: Yad es X.env:=by rfl) (hplain:(Yd9 cpos (Yad es X.env)).any (·.1) = false:=by rfl):
  PE X (.Call (.Attribute o name apos) (e :: es) [] cpos) (tBM X.K T r to t):=by
 intro pins s σ H Q I h;refine wpAny_Call_method_late hbase hfew hline rfl (thn (ho pins s σ H _ I h) fun v s1 zz1=>?_);obtain ⟨x,H1,I1,r1,ty,q1⟩:=zz1;obtain ⟨h1,h2⟩:=ZsS I1 r1 ty;refine ⟨T,id,pa,slot,hty,h1,h2,?_⟩;have hA:=ha cpos pins s1 σ H1 _ I1 q1;rw [hs] at hA ⊢;refine Yf0 (by show (false || (Yd9 cpos (Yad es X.env)).any (·.1)) = false; rw [hplain] <;> rfl) (Yg3 ?_);exact thn hA fun us s2 ⟨vs,H2,I2,r2,q2⟩=>hm pins s2 σ H2 x vs v us Q I2 r1 r2 q2
/- xs.append(e),list.index on a module's tuple .. are MtR facts of 06m -/
end
end L2
namespace L2
open PySem PySem.Spec PyProof.Rows
def MtM (X:Cx) (id:String) (r:V -> List V -> Hp -> VK -> Prop):Prop:=
 ∀ (pins:List (Addr × Obj)) (s:Ye) (σ:St) (H:Hp) (x:V) (xs:List V) (v:Value) (us:List Value) (Q:VK),Inv X pins σ H s -> RelV x v -> Vals xs us -> r x xs H Q ->
  wpAny (model X.prog X.w) X.A (call (.builtin id) (v :: us)) (EP X pins σ Q) X.xe s
theorem Vals.one:∀ {x:V} {us:List Value},Vals [x] us -> ∃ u,us = [u] /\ RelV x u
 | _,_,.cons r .nil=>⟨_,rfl,r⟩
theorem Vals.zero:∀ {us:List Value},Vals [] us -> us = []
 | _,.nil=>rfl
theorem Vals.dropLast {xs:List V} {us:List Value} (h:Vals xs us):Vals xs.dropLast us.dropLast:=by
 induction h with
 | nil=>exact .nil
 | cons r t ih=>
  cases t with
  | nil=>exact .nil
  | cons q t'=>exact .cons r ih
theorem Vals.rep {xs:List V} {us:List Value} (h:Vals xs us):∀ k:Nat,Vals (Yg k xs).flatten (Yg k us).flatten
 | 0=>.nil
 | k + 1=>by
  rw [Ya4,Ya4,Yb8,Yb8];exact Vals.append h (Vals.rep h k)
theorem foldl_rep (its:List Value):∀ (k:Nat) (acc:List Value),
  List.foldl (fun x1 x2=>x1 ++ x2) acc.toArray (Yg k its.toArray) = (acc ++ (Yg k its).flatten).toArray
 | 0,acc=>by simp
 | k + 1,acc=>by
  have e:acc.toArray ++ its.toArray = (acc ++ its).toArray:=by simp
  have e2:(acc ++ its) ++ (Yg k its).flatten = acc ++ (Yg (k + 1) its).flatten:=by
   rw [Ya4,Yb8,Yao]
  rw [← e2,← foldl_rep its k (acc ++ its),← e,Ya4,Ygk]
section
variable {X:Cx} {pins:List (Addr × Obj)} {σ:St} {H:Hp} {s:Ye} {l b:Addr} {xs ys zs:List V}
theorem Inv.lset {its its':List Value} {n:Nat} {f:Array Value -> Array Value} {t':Nat} (I:Inv X pins σ H s) (hH:H l = some (.lst xs))
  (e:s.heap.get? l = some { cls:=.type "list",data:=.seq its.toArray n }) (hf:f its.toArray = its'.toArray) (hv:Vals ys its') (hz:ys.length <= Y8):
  Inv X pins σ (upd H l (.lst ys)) { s with heap:=s.heap.update l (Yc9 f),toks:=t' }:=by
 have q:=PySem.IsL.update e f;rw [hf] at q;refine I.write (x:=l) (e:=l) (by rw [hH]; exact trivial) (.inl rfl) (fun b' u hb hu=>(Yfz s.heap (Yc9 f) (Yat hb)).trans hu) ⟨_,q⟩ ?_;exact ⟨hz,its',_,hv,q⟩
theorem Inv.lnew {its:List Value} {t':Nat} (I:Inv X pins σ H s) (hv:Vals ys its) (hz:ys.length <= Y8):
  Inv X pins σ (upd H s.heap.objs.size (.lst ys)) { s with heap:=s.heap.push { cls:=.type "list",data:=.seq its.toArray },toks:=t' }:=
 I.laid (fun _ _ q=>Yk _ q) (Yj _) ⟨hz,its,0,hv,Y6 _ rfl⟩
theorem Inv.fresh (I:Inv X pins σ H s):H s.heap.objs.size = none:=I.hok.fresh (Yj _)
theorem Inv.lstM (I:Inv X pins σ H s) (hH:H l = some (.lst xs)):xs.length <= Y8 /\ ∃ (its:List Value) (n:Nat),Vals xs its /\ xs.length = its.length /\ s.heap.get? l = some { cls:=.type "list",data:=.seq its.toArray n }:=by
 obtain ⟨z,its,n,r,e⟩:=I.hok l _ hH;exact ⟨z,its,n,r,r.length,e⟩
theorem Zqs {n:Nat} (h:n <= Y8):Ydo n = false:=by
 unfold Ydo;exact decide_eq_false (by omega)
end
section
variable {X:Cx}
noncomputable def ZnR:V -> List V -> Hp -> VK -> Prop:=fun x vs H Q=>∃ l xs y,x = .ref l /\ vs = [y] /\ H l = some (.lst xs) /\ xs.length < Y8 /\ Q .non (upd H l (.lst (xs ++ [y])))
theorem Zka:MtM X "list.append" ZnR:=by
 intro pins s σ H x vs v us Q I rx rv h;obtain ⟨l,xs,y,rfl,rfl,hH,hz,q⟩:=h;cases rx;obtain ⟨u,rfl,ru⟩:=rv.one;obtain ⟨z,its,n,r,hl,e⟩:=I.lstM hH;refine Yh3 F.slot_list_append ⟨_,e,rfl⟩ F.entry_list_append (F.args_list_append_2 _ _) (PySem.list_append l its.toArray n u (by rw [Yi]; exact lC 2 2268279672881 T1 hl z)) ⟨e,?_⟩;refine ⟨.non,_,I.lset (its':=its ++ [u]) hH e (by simp) (r.append (.cons ru .nil)) ?_,rfl,q⟩;rw [Yaj,Yc4];exact lB 1 6991908881 T1 hz
def Zwl:R2:=fun x y H Q=>∃ l b xs zs,x = .ref l /\ y = .ref b /\ H l = some (.lst xs) /\ H b = some (.lst zs) /\ xs.length + zs.length <= Y8 /\ ∀ p,H p = none -> Q (.ref p) (upd H p (.lst (xs ++ zs)))
theorem Zs8:OpR X (Ybs .Add) Zwl:=by
 intro pins s σ H x y v u Q I rx ry h;obtain ⟨l,b,xs,zs,rfl,rfl,hH,hB,hz,q⟩:=h;cases rx;cases ry;obtain ⟨z,its,n,r,hl,e⟩:=I.lstM hH;obtain ⟨z2,its2,n2,r2,hl2,e2⟩:=I.lstM hB;refine PySem.P.add_list e e2 ?_ (by rw [Yi,Yi]; exact lE 3 0x413c0402c0132311031 T1 hl2 hl hz);have ea:its.toArray ++ its2.toArray = (its ++ its2).toArray:=by simp
 rw [ea];exact ⟨.ref _,_,I.lnew (t':=s.toks) (r.append r2) (by rw [Yaj]; exact hz),rfl,q _ I.fresh⟩
def Zv4:R2:=fun x y H Q=>∃ l k xs,x = .ref l /\ y = .int k /\ H l = some (.lst xs) /\ -(2 ^ 63) <= k /\ k < 2 ^ 63 /\ xs.length * k.toNat <= Y8 /\
 ∀ p,H p = none -> Q (.ref p) (upd H p (.lst (Yg k.toNat xs).flatten))
theorem len_rep {α:Type} (xs:List α) (k:Nat):(Yg k xs).flatten.length = k * xs.length:=by
 induction k with
 | zero=>simp
 | succ k ih=>rw [Ya4,Yb8,Yaj,ih,Nat.succ_mul,Nat.add_comm]
theorem ZsI:OpR X (Ybs .Mult) Zv4:=by
 intro pins s σ H x y v u Q I rx ry h;obtain ⟨l,k,xs,rfl,rfl,hH,h1,h2,hz,q⟩:=h;cases rx;obtain ⟨t,rfl⟩:=ry;obtain ⟨z,its,n,r,hl,e⟩:=I.lstM hH;have hlen:its.toArray.size * k.toNat <= Y8:=by rw [Yi,← hl]; exact hz
 have hcap:¬ its.toArray.size * k.toNat > (2 ^ 63 - 1) / 8:=by
  have:(Y8:Nat) <= (2 ^ 63 - 1) / 8:=by decide
  omega
 have hfit:¬ (!Builtin.List.listFitsIndex k) = true:=by
  rw [fitsIndex_both h1 h2];exact Yaq
 have hlong:¬ Ydo (its.toArray.size * k.toNat) = true:=by
  rw [Zqs hlen];exact Yaq
 have hnew:List.foldl (fun x1 x2=>x1 ++ x2) #[] (Yg (if its.toArray.isEmpty = true then 0 else k.toNat) its.toArray) = (Yg k.toNat its).flatten.toArray:=by
  have f0:∀ m:Nat,List.foldl (fun x1 x2=>x1 ++ x2) #[] (Yg m its.toArray) = (Yg m its).flatten.toArray:=fun m=>by
   have:=foldl_rep its m [];rw [Ycp] at this;exact this
  rw [f0];cases its with
  | nil=>simp
  | cons a r'=>rw [if_neg (by simp)]
 refine wpAny_binaryOp_repeat_ref (T:="list") (U:="int") (by decide) ⟨_,e,rfl⟩ (fun s'=>typeIs_int s' k t) noFill_list_mul F.fills_int_mul F.slot_int_rmul repeat_list F.slot_int_index.lookup
  (Yh3 F.slot_int_rmul (typeIs_int s k t) F.entry_int_rmul (F.args_int_rmul_2 _ _) (int___rmul___int_list k t l its.toArray n)
   ⟨e,rfl,⟨_,e,rfl⟩,Yh3 F.slot_list_mul ⟨_,e,rfl⟩ F.entry_list_mul (F.args_list_mul_2 _ _) (AutoListH.list___mul___list_int_3 l its.toArray n k t hfit hcap hlong) ⟨e,?_⟩⟩)
 rw [hnew];exact ⟨.ref _,_,I.lnew (t':=s.toks) (r.rep k.toNat) (by rw [len_rep,Nat.mul_comm]; exact hz),rfl,q _ I.fresh⟩
end
section
variable {prog:Yai} {w:World} {A:Yas} {E:Value -> Ye -> Prop} {s:Ye}
theorem ZeM (its its2:List Value) (a c:Nat):its.toArray.extract 0 a ++ its2.toArray ++ its.toArray.extract c its.toArray.size = (its.take a ++ its2 ++ its.drop c).toArray:=by
 apply Array.toList_inj.mp
 first
  | (simp
     exact Yay (by simp))
  | simp [Yay]
  | simp
end
section
variable {X:Cx}
end
end L2
namespace Att
open PySem PySem.W PySem.Calls PyProof.Rows
theorem Zip {P:Params} {h:Heap}:∀ (ns:List Int) (vs:List Value),WellAll P h vs (ns.map WData.int) -> IntsAre vs ns:=by
 intro ns
 induction ns with
 | nil=>
  intro vs w;rw [Yib] at w;cases w;exact .nil
 | cons n ns ih=>
  intro vs w;rw [Y9] at w;cases w with
  | cons a b=>
   cases a
   exact .cons _ _ (ih _ b)
theorem Zo2 {l:OpenLaw} {n:Nat} (hn:l.most = some n) {P:Params} {h:Heap} {args:List WData} {vals:List Value}
  (hpre:l.row.toRowW.claim.pre args = true) (hwl:WellAll P h vals args):
  ∃ a vs ns,vals = [Value.ref a] /\ args = [WData.list (ns.map WData.int)] /\ h.get? a = some { cls:=.type "list",data:=.seq vs.toArray } /\ IntsAre vs ns /\ ns.length <= n:=by
 have hsh:WShape.hasAll [] args [.list .int] = true:=(pre_splitW hpre).1;have hc:l.pre.holds [] { args:=args } = true:=(pre_splitW hpre).2;obtain ⟨d,r,rfl,h1,h2⟩:=hasAllW_cons hsh;obtain rfl:=hasAllW_nil h2;obtain ⟨xs,rfl,h3⟩:=hasW_list h1;obtain ⟨ns,rfl⟩:=items_int h3;have hlen:ns.length <= n:=by
  unfold OpenLaw.pre at hc;have h4:(WTm.not (.lt (.lit (.int (n:Int))) (.len (.arg 0)))).holds [] { args:=[.list (ns.map .int)] } = true:=by
   have h4:=(holds_andW hc).1;rw [hn] at h4;exact h4
  have h5:=condW_of h4 (w_not (w_lt w_lit (w_len_list (w_arg rfl))));rw [Yac] at h5;refine Yaa fun q=>?_;have q':(n:Int) < ((ns.length:Nat):Int):=by exact Yb3.2 q
  first
   | (rw [decide_eq_true q'] at h5; exact absurd h5 (by decide))
   | (simp at h5; omega)
 cases hwl with
 | cons w1 w2=>
  cases w2
  cases w1 with
  | list ho hall=>exact ⟨_,_,ns,rfl,rfl,ho,Zip ns _ hall,hlen⟩
theorem Zoy (l:OpenLaw) (args:List WData):l.row.toRowW.claim.post args (.bool true) args = true:=
 postW_of (r:=l.row.toRowW) (X:=(true == true))
  (show WShape.has [] (.bool true) .bool = true by first | rfl | decide | simp [WShape.has,WShape.arms,WShape.armsAll])
  (show (WTm.eq .res (.lit (.bool true))).value [] { args:=args,res:=some (.bool true),after:=args } = some (.bool (true == true)) from w_eq_bool (w_res rfl) w_lit) rfl
theorem attach_call {l:OpenLaw} {n:Nat} {q:Yai} {loose:List Str} {XP:(Str -> Option Value) -> Heap -> Prop} {YP:World -> Heap -> Prop} {d:DefRec}
  (hn:l.most = some n) (hdf:d.params.defaults = [])
  (call:∀ (w:World) (s₀ s₁:Ye) (mg mb:Str -> Option Value) (fa:Addr) (o:Obj) (pm cd doc:Value) (a:Addr) (vs:List Value) (ns:List Int),
   Ground q loose [] XP w s₀ mg mb s₁.heap -> YP w s₁.heap ->
   s₁.heap.get? fa = some o -> o.data = .func (docDef d.name d.params d.body d.scope pm cd doc) -> s₁.heap.CodeRec cd d.name -> mg d.name = some (.ref fa) ->
   s₁.heap.get? a = some { cls:=.type "list",data:=.seq vs.toArray } -> IntsAre vs ns -> ns.length <= n -> s₁.gens = #[] ->
   Ygf (model l.prog w) Yho (.call (.ref fa) ⟨[.ref a],[]⟩) (fun r s'=>r = .ok (.ret (.bool true)) /\ OldK s₁.heap s'.heap /\ s'.os = s₁.os /\ Ygc s'.gens) s₁):
  WalkO q loose XP YP l.row.toRowW d [] (fun f vs=>PySem.call f vs):=by
 intro w s₀ s₁ mg mb G Y fa o pm cd doc dV kV ho hd hcd hD hmg hg args vals as hpre hlay hrd hwl hlo;obtain rfl:dV = .none:=Dflts.none hD hdf;obtain rfl:kV = .none:=Dflts.noKw hD;obtain ⟨a,vs,ns,rfl,rfl,hobj,hints,hlen⟩:=Zo2 hn hpre hwl;refine enter_call (Yh8 (call w s₀ s₁ mg mb fa o pm cd doc a vs ns G Y ho (fd_plain hd) hcd hmg hobj hints hlen hg) fun r s' hq=>?_);obtain ⟨rfl,h2,h3,h4⟩:=hq;exact ⟨.inl ⟨.bool true,.bool true,[],rfl,fun _=>rfl,.bool true,Zoy l _,fun _=>⟨List.Pairwise.nil,fun _ hm=>(nomatch hm)⟩⟩,h2,h3,h4⟩
section
variable {prog:Yai} {w:World} {A:Yas} {E:Value -> Ye -> Prop} {s:Ye} {K:Frag}
end
end Att
namespace L2
open PySem PySem.Spec PyProof.Rows
theorem ZjN:∀ {vs:List Value} {ns:List Int},IntsAre vs ns -> Vals (ns.map V.int) vs
 | _,_,.nil=>.nil
 | _,_,.cons n t h=>.cons ⟨t,rfl⟩ (ZjN h)
def Only (H:Hp):Prop:=∀ b,H b = none \/ ∃ o xs,H b = some (.frz o (.lst xs))
theorem Zp1 {P:Yai} {w:World} {K:Ya} {mg mb:Str -> Option Value} {CX:CXT} {k:Nat} {fa a:Addr} {fd:FuncData} {x:Str} {sp:Sp} {s₁:Ye} {vs:List Value} {ns:List Int}
  (KX:K.In s₁.heap) (hns:s₁.heap.Ns Yl mg) (hb:s₁.heap.Ns builtinsNs mb) (hbb:∀ x:Str,x ≠ "__name__" -> mb x = Yaw x) (hlim:s₁.heap.NoLimit) (hg:s₁.gens = #[])
  (ha:s₁.heap.get? a = some { cls:=.type "list",data:=.seq vs.toArray }) (hi:IntsAre vs ns) (hl:ns.length <= Y8) (hr:Zel k Yho)
  (F:∀ base:Heap,K.In base -> base.Ns Yl mg -> ZiV P w K mg base CX k fa fd [x] sp) (hbind:∀ (s:Ye) (u:Value),Yif s fd ⟨[u],[]⟩ [(x,u)])
  (hsp:∀ H:Hp,Only H -> SqL K H a (ns.map V.int) -> sp [.ref a] H (fun v _=>v = .bl true) fun _ _ _=>False)
  (hCX:∀ H e s',CX [] H s₁ (fun _ _ _=>False) e s' -> False):
  Ygf (model P w) Yho (.call (.ref fa) ⟨[.ref a],[]⟩) (fun r s'=>r = .ok (.ret (.bool true)) /\ OldK s₁.heap s'.heap /\ s'.os = s₁.os /\ Ygc s'.gens) s₁:=by
 have rv:=ZjN hi;have lenV:=hi.length;have core:∀ H:Hp,Only H -> SqL K H a (ns.map V.int) -> HOk P w H s₁.heap -> (∀ b,H b ≠ none -> b = a) -> (H a ≠ none -> K.lookup a = none) ->
   Ygf (model P w) Yho (.call (.ref fa) ⟨[.ref a],[]⟩) (fun r s'=>r = .ok (.ret (.bool true)) /\ OldK s₁.heap s'.heap /\ s'.os = s₁.os /\ Ygc s'.gens) s₁:=by
  intro H hO hS hok hA hK;have base_of:∀ {b:Addr} {o:Obj},s₁.heap.get? b = some o -> H b = none -> (ZkV s₁.heap H).get? b = some o:=fun e n=>ZpO e n;have noA:∀ {b:Addr} {o:Obj} {es:Array DictEntry} {ep:Nat},s₁.heap.get? b = some o -> o.data = .dict es ep -> H b = none:=fun {b o es ep} e d=>by
   cases q:H b with
   | none=>rfl
   | some u=>
    have e':b = a:=hA b (by rw [q]; simp);subst e';rw [ha] at e; cases e;have d':Data.seq vs.toArray _ = Data.dict es ep:=d;cases d'
  have nsK:∀ {b:Addr} {m:Str -> Option Value},s₁.heap.Ns b m -> (ZkV s₁.heap H).Ns b m:=fun {b m} ⟨o,es,ep,e,d,r⟩=>⟨o,es,ep,base_of e (noA e d),d,r⟩;have hKb:K.In (ZkV s₁.heap H):=fun b o e=>base_of (KX b o e) (by
   cases q:H b with
   | none=>rfl
   | some u=>
    have e':b = a:=hA b (by rw [q]; simp);subst e';rw [hK (by rw [q]; simp)] at e; cases e)
  have hM:Mod K mg (ZkV s₁.heap H):=⟨hKb,nsK hns,⟨mb,nsK hb,hbb⟩,let ⟨mc,h1,h2⟩:=hlim; ⟨mc,nsK h1,h2⟩⟩;have e0:Zm2 P w K mg (ZkV s₁.heap H) Yho [] s₁ H:=⟨rfl,hM,fun b o e=>ZrU e,Ycr (Zoe _ _),trivial,fun b hb=>absurd (show b ∈ ([]:List Addr) from hb) (by simp),hok,.of_eq hg⟩;refine Yh8 ((F _ hKb (nsK hns)).run Yho [] s₁ H ⟨[.ref a],[]⟩ [.ref a] [.ref a] _ _ hr e0 (hbind s₁ (.ref a)) (.cons rfl .nil) (hsp H hO hS)) fun r s' h=>?_;cases r with
  | error e=>exact (hCX H e s' h).elim
  | ok fl=>
   cases fl with
   | next=>exact Ybk h
   | brk=>exact Ybk h
   | cont=>exact Ybk h
   | ret u=>
    obtain ⟨v,H',os,bare,un,hok',r',q⟩:=h;have q':v = .bl true:=q;subst q';obtain rfl:u = Value.bool true:=r';refine ⟨rfl,OldK.of_keep fun b o e=>?_,os,bare⟩;cases q:H b with
    | none=>exact un.keep b o e q (by intro z; exact absurd (show b ∈ ([]:List Addr) from z) (by simp)) (by simp)
    | some u=>
     rcases hO b with z | ⟨ob,xs,z⟩
     ·rw [q] at z; cases z
     ·have z2:=un.frzs b ob _ z
      obtain ⟨e1,_⟩:=hok b _ z;obtain ⟨e2,_⟩:=hok' b _ z2;rw [e] at e1; cases e1;exact e2
 cases hk:K.lookup a with
 | some o=>
  have e:=KX a o hk;rw [ha] at e;cases e;refine core (fun _=>none) (fun _=>.inl rfl) (.inr ⟨_,vs.toArray,_,hk,rfl,rfl,rfl,by rw [Yi,lenV]; exact hl,by simpa using rv⟩) (fun b u z=>by have z':(none:Option HO) = some u:=z; cases z') (fun b z=>absurd rfl z) fun z=>absurd rfl z
 | none=>
  refine core (fun b=>if b = a then some (.frz { cls:=.type "list",data:=.seq vs.toArray } (.lst (ns.map V.int))) else none) (fun b=>?_) (.inl (.inr ⟨{ cls:=.type "list",data:=.seq vs.toArray },if_pos rfl⟩)) (fun b u z=>?_) (fun b z=>?_) fun _=>hk
  ·by_cases hb:b = a
   ·exact .inr ⟨_,_,if_pos hb⟩
   ·exact .inl (if_neg hb)
  ·by_cases hb:b = a
   ·have z':=(if_pos hb).symm.trans z
    cases z'
    subst hb;exact ⟨ha,by rw [Yac]; exact hl,vs,_,rv,ha⟩
   ·have z':=(if_neg hb).symm.trans z
    cases z'
  ·by_cases hb:b = a
   ·exact hb
   ·exact absurd (if_neg hb) z
end L2
namespace L2
open PySem PySem.Spec PyProof.Rows
theorem Zn8 {l:PySem.W.OpenLaw} {n k:Nat} {q:Yai} {loose:List Str} {XP:(Str -> Option Value) -> Heap -> Prop} {YP:World -> Heap -> Prop} {d:DefRec} {K:Params -> Ya} {CX:World -> CXT} {sp:World -> Sp} {x:Str}
  (hn:l.most = some n) (hn2:n <= Y8) (hdf:d.params.defaults = []) (hr:Zel k Yho)
  (hY:∀ (w:World) (h:Heap),YP w h -> (K w.params).In h)
  (F:∀ (w:World) (mg:Str -> Option Value) (fa:Addr) (h:Heap),(K w.params).In h -> h.Ns Yl mg -> mg d.name = some (.ref fa) ->
   ∃ fd:FuncData,(∀ (s:Ye) (u:Value),Yif s fd ⟨[u],[]⟩ [(x,u)]) /\
    ∀ base:Heap,(K w.params).In base -> base.Ns Yl mg -> ZiV l.prog w (K w.params) mg base (CX w) k fa fd [x] (sp w))
  (hsp:∀ (w:World) (H:Hp) (a:Addr) (ns:List Int),ns.length <= n -> Only H -> SqL (K w.params) H a (ns.map V.int) -> sp w [.ref a] H (fun v _=>v = .bl true) fun _ _ _=>False)
  (hCX:∀ (w:World) (H:Hp) (s:Ye) (e:Value) (s':Ye),CX w [] H s (fun _ _ _=>False) e s' -> False):
  PySem.W.WalkO q loose XP YP l.row.toRowW d [] (fun f vs=>PySem.call f vs):=by
 refine Att.attach_call hn hdf fun w s₀ s₁ mg mb fa o pm cd doc a vs ns G Y ho hd hcd hmg hobj hints hlen hg=>?_;have KX:=hY w _ Y;obtain ⟨fd,hb,hF⟩:=F w mg fa _ KX G.T.g hmg;exact Zp1 KX G.T.g G.T.b G.T.builtins G.T.nolimit hg hobj hints (Y2 hlen hn2) hr hF hb (fun H hO hS=>hsp w H a ns hlen hO hS) fun H e s'=>hCX w H s₁ e s'
end L2
/- THE LAST THEOREM (shape; LID,My.* are yours):
  My.Adr: a structure of the addresses that your layer names (classes,functions); My.Txt K t: a structure (Prop) of the equations over K;
  My.txt_mk:{K} {implicit addresses ..} (e1:nsIn K Yl "law" = some (some (.ref f))) (e2:K.lookup f = some ⟨oc,od,.func (fnOf "law" "law" params body scope dV kV doc pm an cdv ct),sl⟩) (e3:codeIn K cdv "law" = true) ..:∃ t,My.Txt K t
set_option maxRecDepth 100000 in
set_option maxHeartbeats 0 in
theorem PySem.Challenge.cw_LID_holds : PySem.Challenge.rw_LID.Holds := by
 w_on; o_law; k_head; (case hw=>w_witness2)
 k_fill
 refine L2.Zn8 (l:=PySem.Challenge.rw_LID) (n:=63) (k:=40) (x:="script") (CX:=fun w=>..) (sp:=fun _=>My.sp_law) rfl (by decide) rfl ⟨rfl,by decide,by decide⟩ (fun w h Y=>PySem.W.kIn_of Y) ?F ?S ?C
 case F=>
  intro w mg fa h KX G hmg;have T:∃ t,My.Txt (L2.KOf KX) t:=by
   dsimp only [L2.KOf]                          -- K must stand as «<heap const> w.params» for k_is;refine' My.txt_mk ?e1 ?e2 ?e3 ..
   (case e1=>PySem.W.k_is)                    -- in the order: a name -> its address -> its object -> its parts
   (case e2=>PySem.W.k_is)
   ..
  obtain ⟨t,T⟩:=T;have e0:=hmg.symm.trans (PySem.W.mg_of KX G T.law);cases e0                                       -- fa is the law's own address;exact ⟨_,fun s u=>.of_eq rfl,fun base kb nb=>My.law_fn T kb nb⟩     -- if «.of_eq rfl» comes too early: refine' ⟨_,?b,fun base kb nb=>My.law_fn T kb nb⟩; exact fun s u=>.of_eq rfl
 case S=>exact fun w H a ns hl hO hS=>..
 case C=>exact ..
(the tactic k_is has no namespace: write k_is) -/
namespace L2
open PySem PySem.Spec PyProof.Rows
noncomputable def Zaw (s:Stmt):Arguments:=match s with
 | .FunctionDef _ a _ _ _ _ _ _ _ _=>a
 | _=>{ posonlyargs:=[],args:=[],vararg:=none,kwonlyargs:=[],kw_defaults:=[],kwarg:=none,defaults:=[] }
noncomputable def Zar (s:Stmt):List Stmt:=match s with
 | .FunctionDef _ _ b _ _ _ _ _ _ _=>b
 | _=>[]
noncomputable def Zt (s:Stmt):Scope:=match s with
 | .FunctionDef _ _ _ _ _ _ sc _ _ _=>sc
 | _=>{ kind:=.function,names:=[],isGenerator:=false,isCoroutine:=false }
noncomputable abbrev CX0:CXT:=fun _ _ _ _ _ _=>False
noncomputable abbrev E0:XK:=fun _ _ _=>False
theorem ZuR {X:Cx}:Znj CX0 X E0:=fun _ _ _ _ _ _ _ h=>h.elim
structure Fun (K:Ya) (x qual:Str) (st:Stmt) (f:Addr) (fd:FuncData):Prop where
 ex:∃ (oc:Value) (od:Option Addr) (dV kV doc pm:Value) (an:Option Addr) (cdv ct:Value) (osl:Array (Option Value)),
  fd = Yc2 x qual (Zaw st) (Zar st) (Zt st) dV kV doc pm an cdv ct /\ K.lookup f = some ⟨oc,od,.func fd,osl⟩ /\ Ye3 K cdv qual = true
 kp:Yd6 K (.ref f) = true
section
variable {P:Yai} {w:World} {K:Ya} {mg:Str -> Option Value} {base:Heap}
theorem Fun.ok {x qual:Str} {st:Stmt} {f:Addr} {fd:FuncData} {N ps:List Str} {k:Nat} {sp:Sp} (F:Fun K x qual st f fd) (S:ZaA N ps (Zt st)) (len:∀ vs H Q E,sp vs H Q E -> vs.length = ps.length)
  (hbody:∀ (cdv:Value) (A:Yas) (outer:List Env) (s:Ye) (H:Hp) (vs:List V) (Q:VK) (E:XK),Zel k (A.deeper (Yha qual (Zt st) s.heap.objs.size f cdv)) -> sp vs H Q E ->
   ∃ t,PSs (Zl9 CX0 P w K mg base N qual (Zt st) f cdv A outer s H E).nox (Zar st) t /\ t { nx:=fun _ H'=>Q .non H',rt:=Q } (start N vs) H):ZiV P w K mg base CX0 (k + 1) f fd ps sp:=by
 obtain ⟨oc,od,dV,kV,doc,pm,an,cdv,ct,osl,rfl,lk,hcd⟩:=F.ex;refine Zt8 lk hcd S len fun A outer s H vs Q E hr hsp=>?_;obtain ⟨t,h,q⟩:=hbody cdv A outer s H vs Q E hr hsp;exact ⟨t,h.nox,q⟩
theorem Fun.binds {x qual:Str} {st:Stmt} {f:Addr} {fd:FuncData} {ps:List Str} (F:Fun K x qual st f fd)
  (h:∀ (dV kV doc pm:Value) (an:Option Addr) (cdv ct:Value) (us:List Value),us.length = ps.length -> bindArgs (Yc2 x qual (Zaw st) (Zar st) (Zt st) dV kV doc pm an cdv ct) ⟨us,[]⟩ = pure (ps.zip us)):Binds K fd ps []:=by
 obtain ⟨oc,od,dV,kV,doc,pm,an,cdv,ct,osl,rfl,lk,hcd⟩:=F.ex;exact .all (h dV kV doc pm an cdv ct)
theorem Zqq {x qual:Str} {st:Stmt} {f:Addr} {oc:Value} {od an:Option Addr} {osl:Array (Option Value)} {dV kV doc pm cdv ct:Value} (l:K.lookup f = some ⟨oc,od,.func (Yc2 x qual (Zaw st) (Zar st) (Zt st) dV kV doc pm an cdv ct),osl⟩)
  (c:Ye3 K cdv qual = true) (k:Yd6 K (.ref f) = true):Fun K x qual st f (Yc2 x qual (Zaw st) (Zar st) (Zt st) dV kV doc pm an cdv ct):=⟨⟨oc,od,dV,kV,doc,pm,an,cdv,ct,osl,rfl,l,c⟩,k⟩
end
section
variable {X:Cx}
end
def ZrB (H H':Hp):Prop:=∀ b o,H b = some o -> H' b = some o
theorem ZrB.free {H H':Hp} (e:ZrB H H') {l:Addr} (h:H' l = Option.none):H l = Option.none:=by
 cases q:H l with
 | none=>rfl
 | some o=>
  rw [e l o q] at h;cases h
theorem ZrB.seq {K:Ya} {H H':Hp} {a:Addr} {xs:List V} (e:ZrB H H') (h:SqL K H a xs):SqL K H' a xs:=by
 rcases h with (h | ⟨o,h⟩) | h
 ·exact .inl (.inl (e _ _ h))
 ·exact .inl (.inr ⟨o,e _ _ h⟩)
 ·exact .inr h
end L2
namespace L2
open PySem PySem.Spec PyProof.Rows
section
variable {κ:Type} [DecidableEq κ]
noncomputable def Zf8 (kvs:List (κ × V)) (k:κ):Option V:=(kvs.find? fun kv=>decide (kv.1 = k)).map (·.2)
noncomputable def putK (kvs:List (κ × V)) (k:κ) (v:V):List (κ × V):=
 if (kvs.any fun kv=>decide (kv.1 = k)) = true then kvs.map (fun kv=>if kv.1 = k then (kv.1,v) else kv) else kvs ++ [(k,v)]
theorem ZpL {k:κ}:Zf8 ([]:List (κ × V)) k = none:=rfl
theorem Zhr {p:κ × V} {r:List (κ × V)} {k:κ} (e:p.1 = k):Zf8 (p :: r) k = some p.2:=by simp [Zf8,Ybp,e]
theorem Zhi {p:κ × V} {r:List (κ × V)} {k:κ} (e:¬ p.1 = k):Zf8 (p :: r) k = Zf8 r k:=by simp [Zf8,Ybp,e]
theorem ZlU (k:κ):∀ kvs:List (κ × V),(kvs.any fun kv=>decide (kv.1 = k)) = (Zf8 kvs k).isSome
 | []=>rfl
 | p :: r=>by
  rw [Yba];by_cases e:p.1 = k
  ·simp only [Zhr e,decide_eq_true e,Bool.true_or,Yey]
  ·rw [Zhi e,decide_eq_false e,Yfh]; exact ZlU k r
theorem Zgg (kvs:List (κ × V)) (k:κ) (v:V):(putK kvs k v).length <= kvs.length + 1:=by
 unfold putK;split
 ·rw [Yac]; exact Yw _ _
 ·rw [Yaj,Ya5,Ygl]; exact lA 0 43162452160 T1
theorem Zh2.isSome_eq {o:Option V} {u:Option Value} (r:Zh2 o u):o.isSome = u.isSome:=by
 cases o with
 | none=>cases u with
  | none=>rfl
  | some _=>exact (show False from r).elim
 | some _=>cases u with
  | none=>exact (show False from r).elim
  | some _=>rfl
theorem Zh2.getD {o:Option V} {u:Option Value} {d:V} {d':Value} (r:Zh2 o u) (rd:RelV d d'):RelV (o.getD d) (u.getD d'):=by
 cases o with
 | none=>cases u with
  | none=>exact rd
  | some _=>exact (show False from r).elim
 | some _=>cases u with
  | none=>exact (show False from r).elim
  | some _=>exact r
theorem KV.val {kvs:List (κ × V)} {vs:List (κ × Value)} (r:KV kvs vs) (k:κ):Zh2 (Zf8 kvs k) (Yh4 vs k):=by
 unfold KV at r
 induction r with
 | nil=>exact True.intro
 | @cons p q ps qs h t ih=>
  obtain ⟨h1,h2⟩:=h;by_cases e:p.1 = k
  ·have e':q.1 = k:=h1.symm.trans e
   have b:Yh4 (q :: qs) k = some q.2:=by simp [Yh4,Ybp,e']
   rw [Zhr e,b]; exact h2
  ·have e':¬ q.1 = k:=fun z=>e (h1.trans z)
   have b:Yh4 (q :: qs) k = Yh4 qs k:=by simp [Yh4,Ybp,e']
   rw [Zhi e,b]; exact ih
theorem KV.any {kvs:List (κ × V)} {vs:List (κ × Value)} (r:KV kvs vs) (k:κ):(kvs.any fun kv=>decide (kv.1 = k)) = vs.any fun kv=>decide (kv.1 = k):=by
 unfold KV at r
 induction r with
 | nil=>rfl
 | cons h t ih=>rw [Yba,Yba,ih,h.1]
theorem KV.repl {kvs:List (κ × V)} {vs:List (κ × Value)} (r:KV kvs vs) (k:κ) {y:V} {u:Value} (ry:RelV y u):
  KV (kvs.map fun kv=>if kv.1 = k then (kv.1,y) else kv) (vs.map fun kv=>if kv.1 = k then (kv.1,u) else kv):=by
 unfold KV at r ⊢
 induction r with
 | nil=>exact .nil
 | @cons p q ps qs h t ih=>
  rw [Y9,Y9];refine .cons ?_ ih;obtain ⟨h1,h2⟩:=h;by_cases e:p.1 = k
  ·rw [if_pos e,if_pos (h1.symm.trans e)]; exact ⟨h1,ry⟩
  ·rw [if_neg e,if_neg (fun z=>e (h1.trans z))]; exact ⟨h1,h2⟩
theorem KV.put {kvs:List (κ × V)} {vs:List (κ × Value)} (r:KV kvs vs) (k:κ) {y:V} {u:Value} (ry:RelV y u):KV (putK kvs k y) (stored vs k u):=by
 unfold putK stored;rw [r.any k];by_cases e:(vs.any fun kv=>decide (kv.1 = k)) = true
 ·rw [if_pos e,if_pos e]; exact r.repl k ry
 ·rw [if_neg e,if_neg e]; exact Paired.snoc r ⟨rfl,ry⟩
theorem KV.keys {kvs:List (κ × V)} {vs:List (κ × Value)} (r:KV kvs vs):kvs.map (·.1) = vs.map (·.1):=by
 unfold KV at r
 induction r with
 | nil=>rfl
 | cons h t ih=>rw [Y9,Y9,ih,h.1]
theorem KV.length {kvs:List (κ × V)} {vs:List (κ × Value)} (r:KV kvs vs):kvs.length = vs.length:=Yhu r
end
theorem ZmE {P:Yai} {w:World} {k:Key} {u:Value} (r:RelV (kV k) u):(Zbd P w).is k u = true:=by
 cases k with
 | inl i=>obtain ⟨t,e⟩:=(show ∃ t,u = Value.int i t from r); subst e; exact Zlw P w i t
 | inr x=>obtain ⟨t,e⟩:=(show ∃ t,u = Value.str x t from r); subst e; exact ZlW P w x t
theorem ZjV {P:Yai} {w:World}:∀ {ks:List Key} {us:List Value},Vals (ks.map kV) us -> ItemsAre (Zbd P w) ks us
 | [],_,r=>by rw [Yib] at r; cases r; exact .nil
 | k :: ks,_,r=>by
  rw [Y9] at r;cases r with
  | cons h t=>exact .cons (ZmE h) (ZjV t)
noncomputable abbrev KT (H:Hp):List (List Key × V) -> List (List Key × Addr × Value) -> Prop:=Paired fun p q=>p.1 = q.1 /\ H q.2.1 = some (.tup (p.1.map kV)) /\ RelV p.2 q.2.2
theorem KT.val {H:Hp} {kvs:List (List Key × V)} {xs:List (List Key × Addr × Value)} (r:KT H kvs xs) (k:List Key):Zh2 (Zf8 kvs k) ((atKey xs k).map (·.2)):=by
 induction r with
 | nil=>exact True.intro
 | @cons p q ps qs h t ih=>
  obtain ⟨h1,_,h2⟩:=h;by_cases e:p.1 = k
  ·have e':q.1 = k:=h1.symm.trans e
   have b:atKey (q :: qs) k = some q.2:=by simp [atKey,Ybp,e']
   rw [Zhr e,b]; exact h2
  ·have e':¬ q.1 = k:=fun z=>e (h1.trans z)
   have b:atKey (q :: qs) k = atKey qs k:=by simp [atKey,Ybp,e']
   rw [Zhi e,b]; exact ih
theorem KT.repl {H:Hp} {kvs:List (List Key × V)} {xs:List (List Key × Addr × Value)} (r:KT H kvs xs) (k:List Key) {y:V} {u:Value} (ry:RelV y u):
  KT H (kvs.map fun kv=>if kv.1 = k then (kv.1,y) else kv) (xs.map (putAt k u)):=by
 induction r with
 | nil=>exact .nil
 | @cons p q ps qs h t ih=>
  rw [Y9,Y9];refine .cons ?_ ih;obtain ⟨h1,h2,h3⟩:=h;unfold putAt;by_cases e:p.1 = k
  ·rw [if_pos e,if_pos (h1.symm.trans e)]; exact ⟨h1,h2,ry⟩
  ·rw [if_neg e,if_neg (fun z=>e (h1.trans z))]; exact ⟨h1,h2,h3⟩
theorem KT.put {H:Hp} {kvs:List (List Key × V)} {xs:List (List Key × Addr × Value)} (r:KT H kvs xs) (k:List Key) {b:Addr} {y:V} {u:Value} (hb:H b = some (.tup (k.map kV))) (ry:RelV y u):
  KT H (putK kvs k y) (storedH xs k b u):=by
 have e:(kvs.any fun kv=>decide (kv.1 = k)) = (atKey xs k).isSome:=by
  rw [ZlU,(r.val k).isSome_eq,Option.isSome_map]
 unfold putK storedH;rw [e];by_cases q:(atKey xs k).isSome = true
 ·rw [if_pos q,if_pos q]; exact r.repl k ry
 ·rw [if_neg q,if_neg q]; exact Paired.snoc r ⟨rfl,hb,ry⟩
theorem KT.keeps {H H':Hp} {kvs:List (List Key × V)} {xs:List (List Key × Addr × Value)} (r:KT H kvs xs) (ht:∀ b ys,H b = some (.tup ys) -> H' b = some (.tup ys)):KT H' kvs xs:=
 Paired.mapP r fun _ _ z=>⟨z.1,ht _ _ z.2.1,z.2.2⟩
section
variable {P:Yai} {w:World} {H:Hp} {h:Heap} {a:Addr}
theorem Zse {u:HO} (ok:HOk P w H h) (e:Rd H a u):ZbH P w H h a u:=e.ok ok
theorem Zkv {kvs:List (Key × V)} (ok:HOk P w H h) (e:Rd H a (.dK kvs)):kvs.length <= Y8 /\ (a == Yc7) = false /\ ∃ vs,KV kvs vs /\ h.DictOf (Zbd P w) a vs:=
 show ZbH P w H h a (.dK kvs) from Zse ok e
theorem Zsc {kvs:List (Key × V)} (ok:HOk P w H h) (e:H a = some (.dK kvs)):kvs.length <= Y8 /\ (a == Yc7) = false /\ ∃ vs,KV kvs vs /\ h.DictOf (Zbd P w) a vs:=Zkv ok (.inl e)
theorem Zk7 {ks:List Key} (ok:HOk P w H h) (e:H a = some (.tup (ks.map kV))):(Yga (Zbd P w)).is h ks a:=by
 obtain ⟨_,its,r,o,h1,h2,n,h3⟩:=(show ZbH P w H h a (.tup (ks.map kV)) from ok a _ e);exact ⟨o,its.toArray,n,h1,h2.1,h3,by simpa using ZjV r⟩
theorem Zmt {kvs:List (List Key × V)} (ok:HOk P w H h) (e:Rd H a (.dT kvs)):kvs.length <= Y8 /\ (a == Yc7) = false /\
  ∃ xs,KT H kvs xs /\ h.DictOfH (Yga (Zbd P w)) a xs:=by
 obtain ⟨z,y,xs,r,o,es,ep,h1,h2,h3,h4,h5⟩:=(show ZbH P w H h a (.dT kvs) from Zse ok e);refine ⟨z,y,xs,r,o,es,ep,h1,h2,h3,h4,fun x hx=>?_,h5⟩;have all:∀ {l:List (List Key × V)} {m:List (List Key × Addr × Value)},KT H l m -> ∀ x ∈ m,(Yga (Zbd P w)).is h x.1 x.2.1:=by
  intro l m q
  induction q with
  | nil=>intro x hx; exact nomatch hx
  | @cons p q ps qs hq t ih=>
   intro x hx;rcases Yah.mp hx with e | hx
   ·subst e
    exact Zk7 ok (by rw [← hq.1]; exact hq.2.1)
   ·exact ih x hx
 exact all r x hx
theorem Zuf {kvs:List (List Key × V)} (ok:HOk P w H h) (e:H a = some (.dT kvs)):kvs.length <= Y8 /\ (a == Yc7) = false /\
  ∃ xs,KT H kvs xs /\ h.DictOfH (Yga (Zbd P w)) a xs:=Zmt ok (.inl e)
end
def ZkI (H:Hp) (a:Addr) (y:V) (r:Option V):Prop:=
 (∃ kvs k,Rd H a (.dK kvs) /\ y = kV k /\ r = Zf8 kvs k) \/ ∃ kvs k b,Rd H a (.dT kvs) /\ y = .ref b /\ H b = some (.tup (k.map kV)) /\ r = Zf8 kvs k
def Znw (H:Hp) (a:Addr) (y v:V) (H':Hp):Prop:=
 (∃ kvs k,H a = some (.dK kvs) /\ y = kV k /\ kvs.length < Y8 /\ H' = upd H a (.dK (putK kvs k v))) \/
 ∃ kvs k b,H a = some (.dT kvs) /\ y = .ref b /\ H b = some (.tup (k.map kV)) /\ kvs.length < Y8 /\ H' = upd H a (.dT (putK kvs k v))
theorem ZkI.k {H:Hp} {a:Addr} {kvs:List (Key × V)} {k:Key} (e:H a = some (.dK kvs)):ZkI H a (kV k) (Zf8 kvs k):=.inl ⟨kvs,k,.inl e,rfl,rfl⟩
theorem ZkI.t {H:Hp} {a b:Addr} {kvs:List (List Key × V)} {k:List Key} (e:H a = some (.dT kvs)) (eb:H b = some (.tup (k.map kV))):ZkI H a (.ref b) (Zf8 kvs k):=.inr ⟨kvs,k,b,.inl e,rfl,eb,rfl⟩
theorem Znw.k {H:Hp} {a:Addr} {kvs:List (Key × V)} {k:Key} {v:V} (e:H a = some (.dK kvs)) (hl:kvs.length < Y8):Znw H a (kV k) v (upd H a (.dK (putK kvs k v))):=.inl ⟨kvs,k,e,rfl,hl,rfl⟩
theorem Znw.t {H:Hp} {a b:Addr} {kvs:List (List Key × V)} {k:List Key} {v:V} (e:H a = some (.dT kvs)) (eb:H b = some (.tup (k.map kV))) (hl:kvs.length < Y8):
  Znw H a (.ref b) v (upd H a (.dT (putK kvs k v))):=.inr ⟨kvs,k,b,e,rfl,eb,hl,rfl⟩
section
variable {X:Cx} {pins:List (Addr × Obj)} {σ:St} {H:Hp} {s:Ye} {a:Addr} {y v:V} {u r:Value} {o:Option V} {A:Yas} {E:Value -> Ye -> Prop}
theorem Inv.big (I:Inv X pins σ H s):Yc7 < s.heap.objs.size:=by
 have h:Yl < s.heap.objs.size:=(I.mod.glob.keeps I.bk).lt;exact Ygm (by decide) h
theorem Zou {Q:Value -> Ye -> Prop} (hu:A.units + 1 < cLine) (I:Inv X pins σ H s) (g:ZkI H a y (some v)) (ry:RelV y u) (h:∀ w' s',Inv X pins σ H s' -> RelV v w' -> Q w' s'):
  wpAny (model X.prog X.w) A (Yff (.ref a) u) Q E s:=by
 rcases g with ⟨kvs,k,e,ey,l⟩ | ⟨kvs,k,b,e,ey,eb,l⟩
 ·subst ey
  obtain ⟨z,hd,vs,rel,dd⟩:=Zkv I.hok e;obtain ⟨w',hw,rw'⟩:=Zh2.some_of (v:=v) (o:=Yh4 vs k) (by rw [l]; exact rel.val k);exact wpAny_getItem_of (ZmE ry) dd.mapOf hw (h w' _ (I.tok _) rw')
 ·subst ey
  cases (show u = Value.ref b from ry)
  obtain ⟨z,hd,xs,rel,dd⟩:=Zmt I.hok e;obtain ⟨w',hw,rw'⟩:=Zh2.some_of (v:=v) (o:=(atKey xs k).map (·.2)) (by rw [l]; exact rel.val k);obtain ⟨p,hp,hp2⟩:=Option.map_eq_some_iff.mp hw;refine wpAny_getItem_heap (Yez hu) (Zk7 I.hok eb) dd hp ?_;rw [hp2];exact h w' _ (I.tok _) rw'
theorem ZnC {h':Heap} {t':Nat} {ob:HO} (I:Inv X pins σ H s) (mu:Mut (H a)) (hs:Yd8 a s.heap h') (he:∃ q,h'.get? a = some q) (new:ZbH X.prog X.w (upd H a ob) h' a ob):
  Inv X pins σ (upd H a ob) { s with heap:=h',toks:=t' }:=
 I.write (x:=a) (e:=a) mu (.inl rfl) (fun b q hb z=>(hs.2 b hb).trans z) he new
theorem ZmP {P:Yai} {w:World} {H':Hp} {h':Heap} {kvs:List (Key × V)} {vs:List (Key × Value)} (z:kvs.length <= Y8) (hd:(a == Yc7) = false) (rel:KV kvs vs) (dd:h'.DictOf (Zbd P w) a vs):
  ZbH P w H' h' a (.dK kvs):=⟨z,hd,vs,rel,dd⟩
theorem Zon {H':Hp} {Q:Unit -> Ye -> Prop} (hu:A.units + 1 < cLine) (I:Inv X pins σ H s) (g:Znw H a y v H') (ry:RelV y u) (rv:RelV v r) (h:∀ s',Inv X pins σ H' s' -> Q () s'):
  wpAny (model X.prog X.w) A (Yh2 (.ref a) u r) Q E s:=by
 rcases g with ⟨kvs,k,e,ey,l,eH⟩ | ⟨kvs,k,b,e,ey,eb,l,eH⟩
 ·subst ey eH
  obtain ⟨z,hd,vs,rel,dd⟩:=Zsc I.hok e;have hz:vs.length <= Y8:=by rw [← rel.length]; exact z
  have hl:(putK kvs k v).length <= Y8:=by have:=Zgg kvs k v; exact lC 2 563091983155201 T1 this l
  refine wpAny_setItem_pairs (hsz:=hz) (ZmE ry) dd fun h' dd' hs=>h _ ?_;have he:∃ q,h'.get? a = some q:=let ⟨q,_,_,hq,_⟩:=dd'; ⟨q,hq⟩;exact ZnC I (by rw [e]; exact True.intro) hs he (ZmP hl hd (rel.put k rv) dd')
 ·subst ey eH
  cases (show u = Value.ref b from ry)
  obtain ⟨z,hd,xs,rel,dd⟩:=Zuf I.hok e;have hz:xs.length <= Y8:=by rw [← Yhu rel]; exact z
  have hl:(putK kvs k v).length <= Y8:=by have:=Zgg kvs k v; exact lC 2 563091983155201 T1 this l
  refine wpAny_setItem_heap (hsz:=hz) (Yez hu) (Zk7 I.hok eb) dd fun h' dd' hs=>h _ ?_;obtain ⟨q,es,ep,hq,h2,h3,h4,_,h5⟩:=dd';refine ZnC I (by rw [e]; exact True.intro) hs ⟨q,hq⟩ ⟨hl,hd,_,(rel.put k eb rv).keeps fun c ys ec=>?_,q,es,ep,hq,h2,h3,h4,h5⟩;rw [ZaC (ZjO ec e (fun z=>nomatch z))];exact ec
end
section
variable {X:Cx} {pins:List (Addr × Obj)} {σ:St} {H:Hp} {s:Ye} {a:Addr} {kvs:List (Key × V)} {k:Key} {u:Value} {A:Yas} {E:Value -> Ye -> Prop}
end
def Ztc (i:Expr):Prop:=∀ ov iv,Yhe i false ov iv = operate [ov,iv] (Yff ov iv)
theorem ZrK {prog:Yai} {w:World} {A:Yas} {E:Value -> Ye -> Prop} {s:Ye} {env:Env} {value slice:Expr} {pos:Pos} {T id:String} {Q:Value -> Ye -> Prop}
  (hl:typeLookup (.type T) "__getitem__" = pure (some (.builtin id))) (hs:Ztc slice)
  (h:wpAny (model prog w) A (eval value env) (fun o s₁=>wpAny (model prog w) A (eval slice env) (fun i s₂=>s₂.TypeIs o T /\ wpAny (model prog w) A (Yff o i) Q E s₂) E s₁) E s):
  wpAny (model prog w) A (eval (.Subscript value slice pos) env) Q E s:=by
 refine Subscript_ (Ybr h (fun o s₁ h₁=>Ybr h₁ (fun i s₂ h₂=>?_) fun _ _ x=>x) fun _ _ x=>x);obtain ⟨hT,h₂⟩:=h₂;unfold Yhx;refine Yd ?_;rw [getitemInPython_of_ne hT.not_modules];refine Yd (wpAny_specialOf hT hl ?_);have fin:wpAny (model prog w) A (Yhe slice false o i) (fun r s₃=>wpAny (model prog w) A (letTemporaryGo value o r >>= fun _=>pure r) Q E s₃) E s₂:=by
  rw [hs o i];exact wpAny_operating (Ybr h₂ (fun r s₃ h₃=>Yd (wpAny_letTemporaryGo (Ys h₃))) fun _ _ x=>x)
 first
  | exact Ys (Yd fin)
  | exact Yd (Ys (Yd fin))
  | exact Yd fin
theorem Zl6 {X:Cx} {pins:List (Addr × Obj)} {σ:St} {H:Hp} {s:Ye} {a:Addr} {y:V} {o:Option V} (I:Inv X pins σ H s) (g:ZkI H a y o):s.TypeIs (.ref a) "dict":=by
 rcases g with ⟨kvs,k,e,_,_⟩ | ⟨kvs,k,b,e,_,_,_⟩
 ·obtain ⟨_,_,vs,_,dd⟩:=Zkv I.hok e
  exact dd.typeIs
 ·obtain ⟨_,_,xs,_,dd⟩:=Zmt I.hok e
  exact dd.typeIs
def Zuq (td ty:TE):TE:=fun σ H Q=>td σ H fun x H1=>ty σ H1 fun y H2=>∃ a v,x = .ref a /\ ZkI H2 a y (some v) /\ Q v H2
def Zuo (td ty tv:TE):TS:=fun D σ H=>tv σ H fun v H1=>td σ H1 fun x H2=>ty σ H2 fun y H3=>∃ a H4,x = .ref a /\ Znw H3 a y v H4 /\ D.nx σ H4
section
variable {X:Cx} {o i e value:Expr} {pos pos' tpos:Pos} {td ty tv:TE}
theorem ZqV (hu:X.A.units + 1 < cLine) (ho:PE X o td) (hi:PE X i ty) (hs:Ztc i):PE X (.Subscript o i pos) (Zuq td ty):=by
 intro pins s σ H Q I h;refine ZrK PySem.F.slot_dict_getitem.lookup hs (thn (ho pins s σ H _ I h) fun u s1 ⟨x,H1,I1,rx,q1⟩=>thn (hi pins s1 σ H1 _ I1 q1) fun iv s2 zz1=>?_);obtain ⟨y,H2,I2,ry,a,v,ex,g,q2⟩:=zz1;subst ex;obtain rfl:u = Value.ref a:=rx;exact ⟨Zl6 I2 g,Zou hu I2 g ry fun w' s3 I3 rw'=>⟨v,H2,I3,rw',q2⟩⟩
theorem Zq2 (hu:X.A.units + 1 < cLine) (ho:PE X o td) (hi:PE X i ty) (hv:PE X value tv) (hs:Yei value (some (.Subscript o i pos')) pos.line X.env = pure false):
  PS X (.Assign [.Subscript o i pos'] value pos) (Zuo td ty tv):=by
 intro pins s σ H D I h;refine wpAny_Assign_Subscript (thn (hv pins s σ H _ I h) fun r s1 ⟨v,H1,I1,rv,q1⟩=>thn (ho pins s1 σ H1 _ I1 q1) fun u s2 ⟨x,H2,I2,rx,q2⟩=>thn (hi pins s2 σ H2 _ I2 q2) fun iv s3 zz1=>?_) hs;obtain ⟨y,H3,I3,ry,a,H4,ex,g,q3⟩:=zz1;subst ex;obtain rfl:u = Value.ref a:=rx;exact Zon hu I3 g ry rv fun s4 I4=>⟨σ,H4,I4,q3⟩
end
theorem ZpA {P:Yai} {w:World} {H:Hp} (h:Heap) (hb:Yc7 < h.objs.size):ZbH P w H (h.push { cls:=.type "dict",data:=.dict #[] }) h.objs.size (.dK []):=
 ⟨Yag _,beq_eq_false_iff_ne.mpr (Yat (Yy hb)),[],.nil,Heap.DictOf.new h⟩
def Ztp:TE:=fun _ H Q=>∀ p,H p = none -> Q (.ref p) (upd H p (.dK []))
section
variable {X:Cx} {pos:Pos}
theorem Zpx:PE X (.Dict [] [] pos) Ztp:=fun pins s σ H Q I h=>
 wpAny_Dict_empty ⟨.ref s.heap.objs.size,_,I.laid (a:=s.heap.objs.size) (o:=.dK []) (t':=s.toks) (fun _ _ q=>Yk _ q) (Yj _) (ZpA s.heap I.big),rfl,h _ (I.hok.fresh (Yj _))⟩
end
noncomputable def Zjq (kvs more:List (Key × V)):List (Key × V):=more.foldl (fun acc kv=>putK acc kv.1 kv.2) kvs
theorem KV.merge:∀ {more:List (Key × V)} {rs:List (Key × Value)} {kvs:List (Key × V)} {vs:List (Key × Value)},KV more rs -> KV kvs vs -> KV (Zjq kvs more) (merged vs rs):=by
 intro more rs kvs vs r;unfold KV at r
 induction r generalizing kvs vs with
 | nil=>intro q; exact q
 | @cons p q ps qs h t ih=>
  intro r0;have e:KV (putK kvs p.1 p.2) (stored vs q.1 q.2):=by
   have:=r0.put p.1 h.2;rw [← h.1]; exact this
  exact ih e
theorem ZgK:∀ (more kvs:List (Key × V)),(Zjq kvs more).length <= kvs.length + more.length
 | [],kvs=>by show kvs.length <= kvs.length + 0; exact Yw _ _
 | p :: r,kvs=>by
  have h1:=ZgK r (putK kvs p.1 p.2);have h2:=Zgg kvs p.1 p.2;show (Zjq (putK kvs p.1 p.2) r).length <= _;rw [Ya5]; exact lD 2 0xa3c1c2030c201a1c001 T1 h2 h1
structure M1 (X:Cx) (o:Expr) (m:Str) (apos:Pos) (e:Expr) (cpos:Pos):Prop where
 base:Yfg o m X.env (eval o X.env) = eval o X.env
 few:((Yd9 cpos (Yad [e] X.env)).all (fun x=>!x.1) && (backToKw cpos (Yhn [] X.env)).all (fun x=>x.1.isSome)
  && decide (([e]:List Expr).length + ([]:List Keyword).length + (if ([]:List Keyword).isEmpty then 0 else 1) < 30)) = true
 line:(apos.endLine == cpos.line) = true
 trees:Yd9 cpos (Yad [e] X.env) = [(false,eval e X.env)]
structure M2 (X:Cx) (o:Expr) (m:Str) (apos:Pos) (e f:Expr) (cpos:Pos):Prop where
 base:Yfg o m X.env (eval o X.env) = eval o X.env
 few:((Yd9 cpos (Yad [e,f] X.env)).all (fun x=>!x.1) && (backToKw cpos (Yhn [] X.env)).all (fun x=>x.1.isSome)
  && decide (([e,f]:List Expr).length + ([]:List Keyword).length + (if ([]:List Keyword).isEmpty then 0 else 1) < 30)) = true
 line:(apos.endLine == cpos.line) = true
 trees:Yd9 cpos (Yad [e,f] X.env) = [(false,eval e X.env),(false,eval f X.env)]
def IsD (H:Hp) (a:Addr):Prop:=(∃ kvs,Rd H a (.dK kvs)) \/ ∃ kvs,Rd H a (.dT kvs)
theorem Zti {X:Cx} {pins:List (Addr × Obj)} {σ:St} {H:Hp} {s:Ye} {a:Addr} (I:Inv X pins σ H s) (d:IsD H a):
  s.TypeIs (.ref a) "dict" /\ (∀ b,Value.ref a = .ref b -> ∃ ob,s.heap.get? b = some ob /\ ob.dict = none) /\ (a == Yc7) = false:=by
 rcases d with ⟨kvs,e⟩ | ⟨kvs,e⟩
 ·obtain ⟨_,hd,vs,_,dd⟩:=Zkv I.hok e
  refine ⟨dd.typeIs,fun b q=>?_,hd⟩;cases q;obtain ⟨ob,_,_,h1,h2,_⟩:=dd;exact ⟨ob,h1,h2.2.1⟩
 ·obtain ⟨_,hd,xs,_,dd⟩:=Zmt I.hok e
  refine ⟨dd.typeIs,fun b q=>?_,hd⟩;cases q;obtain ⟨ob,_,_,h1,h2,_⟩:=dd;exact ⟨ob,h1,h2.2.1⟩
section
variable {X:Cx} {pins:List (Addr × Obj)} {σ:St} {H:Hp} {s:Ye} {a:Addr} {y d:V} {u r:Value} {o:Option V} {A:Yas} {E:Value -> Ye -> Prop}
theorem ZsF {Q:Value -> Ye -> Prop} (hu:A.units + 1 < cLine) (I:Inv X pins σ H s) (g:ZkI H a y o) (ry:RelV y u) (rd:RelV d r) (h:∀ w' s',Inv X pins σ H s' -> RelV (o.getD d) w' -> Q w' s'):
  wpAny (model X.prog X.w) A (call (.builtin "dict.get") [.ref a,u,r]) Q E s:=by
 rcases g with ⟨kvs,k,e,ey,l⟩ | ⟨kvs,k,b,e,ey,eb,l⟩
 ·subst ey
  obtain ⟨z,hd,vs,rel,dd⟩:=Zkv I.hok e;refine Yic Yc5 dd.typeIs Ydy (Yfi _ _ _) (meets_dict_get_default (Zbd X.prog X.w) a (ZmE ry) hd r) ⟨_,dd.mapOf,h _ _ (I.tok _) ?_⟩;rw [l];exact (rel.val k).getD rd
 ·subst ey
  cases (show u = Value.ref b from ry)
  obtain ⟨z,hd,xs,rel,dd⟩:=Zmt I.hok e;refine Yic Yc5 dd.typeIs Ydy (Yfi _ _ _) (meetsH_dict_get_default (Yga (Zbd X.prog X.w)) a b hd r) ⟨Yez hu,k,xs,Zk7 I.hok eb,dd,h _ _ (I.tok _) ?_⟩;rw [l];exact (rel.val k).getD rd
end
def Ztu (td ty tx:TE):TE:=fun σ H Q=>td σ H fun x H1=>∃ a,x = .ref a /\ IsD H1 a /\ ty σ H1 fun y H2=>tx σ H2 fun z H3=>∃ o,ZkI H3 a y o /\ Q (o.getD z) H3
section
variable {X:Cx} {o e f:Expr} {apos cpos:Pos} {td ty tx:TE}
theorem Zpy (hu:X.A.units + 1 < cLine) (ho:PE X o td) (he:PE X e ty) (hf:PE X f tx) (m:M2 X o "get" apos e f cpos):PE X (.Call (.Attribute o "get" apos) [e,f] [] cpos) (Ztu td ty tx):=by
 intro pins s σ H Q I h;refine wpAny_Call_method m.base m.few m.line PySem.F.plainAttrs_dict Yc5 PySem.F.type_dict_get (thn (ho pins s σ H _ I h) fun u s1 zz1=>?_);obtain ⟨x,H1,I1,rx,a,ex,d,q1⟩:=zz1;subst ex;obtain rfl:u = Value.ref a:=rx;obtain ⟨t1,t2,_⟩:=Zti I1 d;refine ⟨t1,t2,?_⟩;rw [m.trees];refine Yf0 rfl (Yg3 (Yev (thn (he pins s1 σ H1 _ I1 q1) fun iv s2 ⟨y,H2,I2,ry,q2⟩=>
  Yev (thn (hf pins s2 σ H2 _ I2 q2) fun fv s3 ⟨z,H3,I3,rz,ov,g,q3⟩=>Calls.spliced_nil ?_))))
 exact ZsF hu I3 g ry rz fun w' s4 I4 rw'=>⟨_,H3,I4,rw',q3⟩
end
section
variable {X:Cx} {pins:List (Addr × Obj)} {σ:St} {H:Hp} {s:Ye} {a:Addr} {kvs:List (Key × V)} {A:Yas} {E:Value -> Ye -> Prop}
theorem ZqF {Q:Value -> Ye -> Prop} (I:Inv X pins σ H s) (e:Rd H a (.dK kvs)) (h:∀ p s',H p = none -> Inv X pins σ (upd H p (.dK kvs)) s' -> Q (.ref p) s'):wpAny (model X.prog X.w) A (call (.type "dict") [.ref a]) Q E s:=by
 obtain ⟨z,hd,vs,rel,dd⟩:=Zkv I.hok e;refine kt_call_dict hd dd (by rw [← rel.length]; exact z) fun h' dd' hs=>?_;refine h _ _ (I.hok.fresh (Yj _)) (I.laid (a:=s.heap.objs.size) (o:=.dK kvs) (t':=s.toks) (fun b q hq=>?_) (Yj _) (ZmP z (beq_eq_false_iff_ne.mpr (Yat (Yy I.big))) rel dd'));exact (hs.2 b (Yy (Yr hq))).trans (Yk _ hq)
end
section
variable {X:Cx} {pins:List (Addr × Obj)} {σ:St} {H:Hp} {s:Ye} {a:Addr} {y:V} {u:Value} {A:Yas} {E:Value -> Ye -> Prop}
end
end L2
namespace L3
open PySem
noncomputable section
inductive D where
 | non | bl (b:Bool) | int (i:Int) | str (x:List Nat) | tup (ds:List D) | scr (ds:List D) | ref (n:Nat)
 deriving Inhabited
noncomputable abbrev Zbw:=Sum Int (List Nat)
inductive MO where
 | lst (xs:List D) | dct (kvs:List (Zbw × D)) | fdct (kvs:List (Zbw × D)) | ins (c:List Nat) (fs:List (List Nat × D))
 deriving Inhabited
noncomputable abbrev Store:=List MO
structure X3 where
 cls:List Nat
 arg:D
inductive R3 (α:Type) where
 | ok (a:α) (M:Store) | exc (x:X3) (M:Store) | bad
@[simp] noncomputable def R3.bind {α β:Type} (r:R3 α) (k:α -> Store -> R3 β):R3 β:=match r with
 | .ok a M=>k a M
 | .exc x M=>.exc x M
 | .bad=>.bad
theorem R3.bind_ok {α β:Type} (a:α) (M:Store) (k:α -> Store -> R3 β):(R3.ok a M).bind k = k a M:=rfl
theorem ft {C:Prop} (h:false = true):C:=Bool.noConfusion h
theorem nsm {α:Type} {C:Prop} {k:α} (h:none = some k):C:=by cases h
noncomputable def ZaM:Nat -> D -> Bool
 | _,.non=>true | _,.bl _=>true | _,.int _=>true | _,.str _=>true
 | n + 1,.tup ds=>ds.all (ZaM n)
 | _,_=>false
noncomputable abbrev DEEP:Nat:=60
mutual
noncomputable def deq:D -> D -> Bool
 | .non,.non=>true
 | .bl a,.bl b=>a == b
 | .int a,.int b=>a == b
 | .str a,.str b=>a == b
 | .tup a,.tup b=>Zej a b
 | .bl a,.int b=>(if a then 1 else 0) == b
 | .int a,.bl b=>a == (if b then 1 else 0)
 | _,_=>false
noncomputable def Zej:List D -> List D -> Bool
 | [],[]=>true
 | a :: x,b :: y=>deq a b && Zej x y
 | _,_=>false
end
theorem Zht:deq .non .non = true:=rfl
theorem Zg6 (a b:Bool):deq (.bl a) (.bl b) = (a == b):=rfl
theorem Zg9 (a b:Int):deq (.int a) (.int b) = (a == b):=rfl
theorem Zhk (a b:List Nat):deq (.str a) (.str b) = (a == b):=rfl
theorem Zgh (a b:List D):deq (.tup a) (.tup b) = Zej a b:=rfl
theorem ZhI:Zej [] [] = true:=rfl
theorem ZfS (a b:D) (x y:List D):Zej (a :: x) (b :: y) = (deq a b && Zej x y):=rfl
theorem ZeA (n:Nat):ZaM n .non = true:=by cases n <;> rfl
theorem Zew (n:Nat) (b:Bool):ZaM n (.bl b) = true:=by cases n <;> rfl
theorem Zev (n:Nat) (i:Int):ZaM n (.int i) = true:=by cases n <;> rfl
theorem ZeH (n:Nat) (x:List Nat):ZaM n (.str x) = true:=by cases n <;> rfl
theorem ZeI (n:Nat) (ds:List D):ZaM (n + 1) (.tup ds) = ds.all (ZaM n):=rfl
mutual
noncomputable def below (n:Nat):D -> Bool
 | .tup ds=>belowL n ds
 | .scr ds=>belowL n ds
 | .ref k=>k < n
 | .non=>true | .bl _=>true | .int _=>true | .str _=>true
noncomputable def belowL (n:Nat):List D -> Bool
 | []=>true
 | d :: ds=>below n d && belowL n ds
end
mutual
noncomputable def same:D -> D -> Bool
 | .non,.non=>true
 | .bl a,.bl b=>a == b
 | .int a,.int b=>a == b
 | .str a,.str b=>a == b
 | .tup a,.tup b=>Zkg a b
 | .scr a,.scr b=>Zkg a b
 | .ref a,.ref b=>a == b
 | _,_=>false
noncomputable def Zkg:List D -> List D -> Bool
 | [],[]=>true
 | a :: x,b :: y=>same a b && Zkg x y
 | _,_=>false
end
mutual
theorem ZnV:∀ {a b:D},same a b = true -> a = b
 | .non,b,h=>by cases b <;> first | exact rfl | exact ft h
 | .bl a,b,h=>by cases b <;> first | exact congrArg D.bl (beq_iff_eq.mp h) | exact ft h
 | .int a,b,h=>by cases b <;> first | exact congrArg D.int (beq_iff_eq.mp h) | exact ft h
 | .str a,b,h=>by cases b <;> first | exact congrArg D.str (beq_iff_eq.mp h) | exact ft h
 | .tup a,b,h=>by cases b <;> first | exact congrArg D.tup (Zi6 h) | exact ft h
 | .scr a,b,h=>by cases b <;> first | exact congrArg D.scr (Zi6 h) | exact ft h
 | .ref a,b,h=>by cases b <;> first | exact congrArg D.ref (beq_iff_eq.mp h) | exact ft h
theorem Zi6:∀ {x y:List D},Zkg x y = true -> x = y
 | [],y,h=>by cases y <;> first | exact rfl | exact ft h
 | a :: x,y,h=>by
  cases y with
  | nil=>exact ft h
  | cons b y=>exact have w:=Ych.mp (h:(same a b && Zkg x y) = true); congr (congrArg _ (ZnV w.1)) (Zi6 w.2)
end
mutual
theorem ZnB:∀ (a:D),same a a = true
 | .non=>rfl
 | .bl a=>beq_self_eq_true a
 | .int a=>beq_self_eq_true a
 | .str a=>beq_self_eq_true a
 | .tup a=>Zjg a
 | .scr a=>Zjg a
 | .ref a=>beq_self_eq_true a
theorem Zjg:∀ (x:List D),Zkg x x = true
 | []=>rfl
 | a :: x=>Ych.mpr ⟨ZnB a,Zjg x⟩
end
theorem same_iff {a b:D}:same a b = true ↔ a = b:=⟨ZnV,fun h=>h ▸ ZnB a⟩
noncomputable instance:DecidableEq D:=fun a b=>decidable_of_iff (same a b = true) same_iff
noncomputable instance:DecidableEq MO:=fun a b=>match a,b with
 | .lst x,.lst y=>if h:x = y then isTrue (by rw [h]) else isFalse (by intro e; cases e; exact h rfl)
 | .dct x,.dct y=>if h:x = y then isTrue (by rw [h]) else isFalse (by intro e; cases e; exact h rfl)
 | .fdct x,.fdct y=>if h:x = y then isTrue (by rw [h]) else isFalse (by intro e; cases e; exact h rfl)
 | .ins c x,.ins d y=>if h:c = d /\ x = y then isTrue (by rw [h.1,h.2]) else isFalse (by intro e; cases e; exact h ⟨rfl,rfl⟩)
 | .ins _ _,.lst _=>isFalse (by intro e; cases e)
 | .ins _ _,.dct _=>isFalse (by intro e; cases e)
 | .ins _ _,.fdct _=>isFalse (by intro e; cases e)
 | .lst _,.ins _ _=>isFalse (by intro e; cases e)
 | .dct _,.ins _ _=>isFalse (by intro e; cases e)
 | .fdct _,.ins _ _=>isFalse (by intro e; cases e)
 | .lst _,.dct _=>isFalse (by intro e; cases e)
 | .lst _,.fdct _=>isFalse (by intro e; cases e)
 | .dct _,.lst _=>isFalse (by intro e; cases e)
 | .dct _,.fdct _=>isFalse (by intro e; cases e)
 | .fdct _,.lst _=>isFalse (by intro e; cases e)
 | .fdct _,.dct _=>isFalse (by intro e; cases e)
@[simp] noncomputable abbrev SZ:Nat:=1000000
noncomputable abbrev ZaD:=List (Option D)
noncomputable abbrev E3:=ZaD -> Store -> R3 D
noncomputable abbrev EL3:=ZaD -> Store -> R3 (List D)
noncomputable abbrev F3:=List D -> Store -> R3 D
inductive O3 where
 | nx (env:ZaD) (M:Store) | rt (d:D) (M:Store) | bk (env:ZaD) (M:Store) | ct (env:ZaD) (M:Store) | exc (x:X3) (M:Store) | bad
noncomputable abbrev S3:=ZaD -> Store -> O3
@[simp] noncomputable def Za (i:Nat):E3:=fun env M=>match env[i]? with
 | some (some d)=>.ok d M
 | _=>.bad
@[simp] noncomputable def eC (d:D):E3:=fun _ M=>.ok d M
@[simp] noncomputable def e1 (op:D -> Store -> R3 D) (f:E3):E3:=fun env M=>(f env M).bind op
@[simp] noncomputable def e2 (op:D -> D -> Store -> R3 D) (f g:E3):E3:=fun env M=>(f env M).bind fun a M1=>(g env M1).bind fun b M2=>op a b M2
@[simp] noncomputable def Zj:EL3:=fun _ M=>.ok [] M
@[simp] noncomputable def Zb (f:E3) (g:EL3):EL3:=fun env M=>(f env M).bind fun a M1=>(g env M1).bind fun b M2=>.ok (a :: b) M2
@[simp] noncomputable def alloc (o:MO) (M:Store):R3 D:=.ok (.ref M.length) (M ++ [o])
section
local instance (priority:=100000) clP1 (p:Prop):Decidable p:=Yn p
@[simp] noncomputable def ZaB (g:EL3):E3:=fun env M=>(g env M).bind fun ds M1=>if ds.length <= SZ then .ok (.tup ds) M1 else .bad
end
section
local instance (priority:=100000) clP2 (p:Prop):Decidable p:=Yn p
@[simp] noncomputable def ZbT (g:EL3):E3:=fun env M=>(g env M).bind fun ds M1=>if ds.length <= SZ then alloc (.lst ds) M1 else .bad
end
@[simp] noncomputable def Zc7 (f g:E3):E3:=fun env M=>(f env M).bind fun a M1=>match a with
 | .bl true=>g env M1
 | .bl false=>.ok (.bl false) M1
 | _=>.bad
@[simp] noncomputable def eOr (f g:E3):E3:=fun env M=>(f env M).bind fun a M1=>match a with
 | .bl false=>g env M1
 | .bl true=>.ok (.bl true) M1
 | _=>.bad
noncomputable def Zb0 (a:D) (M:Store):R3 D:=match a with
 | .bl b=>.ok (.bl (!b)) M
 | _=>.bad
@[simp] theorem Zu6 {M:Store}:∀ b,Zb0 (.bl b) M = .ok (.bl (!b)) M:=fun _=>rfl
@[simp] noncomputable def eIf (c f g:E3):E3:=fun env M=>(c env M).bind fun a M1=>match a with
 | .bl true=>f env M1
 | .bl false=>g env M1
 | _=>.bad
@[simp] noncomputable def Zae (F:F3) (g:EL3):E3:=fun env M=>(g env M).bind fun ds M1=>F ds M1
section
local instance (priority:=100000) clP3 (p:Prop):Decidable p:=Yn p
noncomputable def Zag (a b:D) (M:Store):R3 D:=match a,b with
 | .int i,.int j=>.ok (.int (i + j)) M
 | .str x,.str y=>if x.length + y.length <= SZ then .ok (.str (x ++ y)) M else .bad
 | .tup x,.tup y=>if x.length + y.length <= SZ then .ok (.tup (x ++ y)) M else .bad
 | .ref n,.ref m=>match M[n]?,M[m]? with
  | some (.lst x),some (.lst y)=>if x.length + y.length <= SZ then alloc (.lst (x ++ y)) M else .bad
  | _,_=>.bad
 | _,_=>.bad
@[simp] theorem Zco {M:Store}:∀ i j,Zag (.int i) (.int j) M = .ok (.int (i + j)) M:=fun _ _=>rfl
@[simp] theorem Zcq {M:Store}:∀ x y,Zag (.str x) (.str y) M = (if x.length + y.length <= SZ then .ok (.str (x ++ y)) M else .bad):=fun _ _=>rfl
@[simp] theorem Zcl {M:Store}:∀ x y,Zag (.tup x) (.tup y) M = (if x.length + y.length <= SZ then .ok (.tup (x ++ y)) M else .bad):=fun _ _=>rfl
@[simp] theorem Zcp {M:Store}:∀ n m,Zag (.ref n) (.ref m) M = (match M[n]?,M[m]? with
  | some (.lst x),some (.lst y)=>if x.length + y.length <= SZ then alloc (.lst (x ++ y)) M else .bad
  | _,_=>.bad):=fun _ _=>rfl
end
noncomputable def ZbG (a b:D) (M:Store):R3 D:=match a,b with
 | .int i,.int j=>.ok (.int (i - j)) M
 | _,_=>.bad
@[simp] theorem Zpe {M:Store}:∀ i j,ZbG (.int i) (.int j) M = .ok (.int (i - j)) M:=fun _ _=>rfl
section
local instance (priority:=100000) clP4 (p:Prop):Decidable p:=Yn p
noncomputable def ZbS (i j:Int):Bool:=(decide (-(2 ^ 64) < i) && decide (i < 2 ^ 64)) || (decide (-(2 ^ 64) < j) && decide (j < 2 ^ 64))
end
section
local instance (priority:=100000) clP5 (p:Prop):Decidable p:=Yn p
noncomputable def ZcQ (a b:D) (M:Store):R3 D:=match a,b with
 | .int i,.int j=>if ZbS i j then .ok (.int (i * j)) M else .bad
 | .str x,.int k=>if x.length * k.toNat <= SZ /\ k < 1000000 /\ -1000000 < k then .ok (.str (Yg k.toNat x).flatten) M else .bad
 | .ref n,.int k=>match M[n]? with
  | some (.lst x)=>if x.length * k.toNat <= SZ /\ k < 1000000 /\ -1000000 < k then alloc (.lst (Yg k.toNat x).flatten) M else .bad
  | _=>.bad
 | _,_=>.bad
@[simp] theorem Zpu {M:Store}:∀ i j,ZcQ (.int i) (.int j) M = (if ZbS i j then .ok (.int (i * j)) M else .bad):=fun _ _=>rfl
@[simp] theorem ZpD {M:Store}:∀ x k,ZcQ (.str x) (.int k) M = (if x.length * k.toNat <= SZ /\ k < 1000000 /\ -1000000 < k then .ok (.str (Yg k.toNat x).flatten) M else .bad):=fun _ _=>rfl
@[simp] theorem ZqE {M:Store}:∀ n k,ZcQ (.ref n) (.int k) M = (match M[n]? with
  | some (.lst x)=>if x.length * k.toNat <= SZ /\ k < 1000000 /\ -1000000 < k then alloc (.lst (Yg k.toNat x).flatten) M else .bad
  | _=>.bad):=fun _ _=>rfl
end
noncomputable def Zaz (a b:D) (M:Store):R3 D:=match a,b with
 | .int i,.int j=>if 0 < j then .ok (.int (i % j)) M else .bad
 | _,_=>.bad
@[simp] theorem Zlz {M:Store}:∀ i j,Zaz (.int i) (.int j) M = (if 0 < j then .ok (.int (i % j)) M else .bad):=fun _ _=>rfl
section
local instance (priority:=100000) clP6 (p:Prop):Decidable p:=Yn p
noncomputable def ZaG (a b:D) (M:Store):R3 D:=match a,b with
 | .int i,.int j=>if 0 < j /\ j < 1073741824 then .ok (.int (i / j)) M else .bad
 | _,_=>.bad
@[simp] theorem Zkl {M:Store}:∀ i j,ZaG (.int i) (.int j) M = (if 0 < j /\ j < 1073741824 then .ok (.int (i / j)) M else .bad):=fun _ _=>rfl
end
noncomputable def Zj0 (a b:D) (M:Store):R3 D:=match a,b with
 | .int i,.int j=>if 0 <= j /\ j <= 1000 /\ i.natAbs < 1000 then .ok (.int (i ^ j.toNat)) M else .bad
 | _,_=>.bad
@[simp] theorem ZpP {M:Store}:∀ i j,Zj0 (.int i) (.int j) M = (if 0 <= j /\ j <= 1000 /\ i.natAbs < 1000 then .ok (.int (i ^ j.toNat)) M else .bad):=fun _ _=>rfl
noncomputable def ZeP (a:D) (M:Store):R3 D:=match a with
 | .int i=>.ok (.int (-i)) M
 | _=>.bad
@[simp] theorem Zhf {M:Store}:∀ i,ZeP (.int i) M = .ok (.int (-i)) M:=fun _=>rfl
noncomputable def Ziq (a b:D) (M:Store):R3 D:=match a,b with
 | .int i,.int j=>.ok (.bl (decide (i < j))) M
 | _,_=>.bad
@[simp] theorem Zvn {M:Store}:∀ i j,Ziq (.int i) (.int j) M = .ok (.bl (decide (i < j))) M:=fun _ _=>rfl
noncomputable def ZiF (a b:D) (M:Store):R3 D:=match a,b with
 | .int i,.int j=>.ok (.bl (decide (i <= j))) M
 | _,_=>.bad
@[simp] theorem ZnO {M:Store}:∀ i j,ZiF (.int i) (.int j) M = .ok (.bl (decide (i <= j))) M:=fun _ _=>rfl
noncomputable def ZgB (a b:D) (M:Store):R3 D:=match a,b with
 | .int i,.int j=>.ok (.bl (decide (j < i))) M
 | _,_=>.bad
@[simp] theorem Zn9 {M:Store}:∀ i j,ZgB (.int i) (.int j) M = .ok (.bl (decide (j < i))) M:=fun _ _=>rfl
noncomputable def ZjG (a b:D) (M:Store):R3 D:=match a,b with
 | .int i,.int j=>.ok (.bl (decide (j <= i))) M
 | _,_=>.bad
@[simp] theorem Zk8 {M:Store}:∀ i j,ZjG (.int i) (.int j) M = .ok (.bl (decide (j <= i))) M:=fun _ _=>rfl
noncomputable def eqD (a b:D) (M:Store):Option Bool:=match a,b with
 | .ref n,.ref m=>match M[n]?,M[m]? with
  | some (.lst x),some (.lst y)=>if x.all (ZaM DEEP) && y.all (ZaM DEEP) then some (Zej x y) else none
  | _,_=>none
 | .int i,.int j=>some (decide (i = j))
 | .str x,.str y=>some (decide (x = y))
 | .bl x,.bl y=>some (decide (x = y))
 | .tup x,.tup y=>if x.all (ZaM DEEP) && y.all (ZaM DEEP) then some (Zej x y) else none
 | _,_=>none
@[simp] theorem ZdF {M:Store}:∀ n m,eqD (.ref n) (.ref m) M = (match M[n]?,M[m]? with
  | some (.lst x),some (.lst y)=>if x.all (ZaM DEEP) && y.all (ZaM DEEP) then some (Zej x y) else none
  | _,_=>none):=fun _ _=>rfl
@[simp] theorem ZdJ {M:Store}:∀ i j,eqD (.int i) (.int j) M = some (decide (i = j)):=fun _ _=>rfl
@[simp] theorem ZdQ {M:Store}:∀ x y,eqD (.str x) (.str y) M = some (decide (x = y)):=fun _ _=>rfl
@[simp] theorem ZdE {M:Store}:∀ x y,eqD (.bl x) (.bl y) M = some (decide (x = y)):=fun _ _=>rfl
@[simp] theorem ZdH {M:Store}:∀ x y,eqD (.tup x) (.tup y) M = (if x.all (ZaM DEEP) && y.all (ZaM DEEP) then some (Zej x y) else none):=fun _ _=>rfl
@[simp] noncomputable def Zam (a b:D) (M:Store):R3 D:=match eqD a b M with
 | some r=>.ok (.bl r) M
 | none=>.bad
@[simp] noncomputable def ZbC (a b:D) (M:Store):R3 D:=match eqD a b M with
 | some r=>.ok (.bl (!r)) M
 | none=>.bad
noncomputable def Zkz (a b:D) (M:Store):R3 D:=match b with
 | .non=>.ok (.bl (decide (a = .non))) M
 | _=>.bad
@[simp] theorem Zvw {a:D} {M:Store}:Zkz a (.non) M = .ok (.bl (decide (a = .non))) M:=rfl
noncomputable def Zcb (a b:D) (M:Store):R3 D:=match b with
 | .non=>.ok (.bl (!decide (a = .non))) M
 | _=>.bad
@[simp] theorem ZtA {a:D} {M:Store}:Zcb a (.non) M = .ok (.bl (!decide (a = .non))) M:=rfl
noncomputable def ZcN:D -> Bool
 | .non=>true | .bl _=>true | .int _=>true | .str _=>true | _=>false
noncomputable def inS (a:D) (y:List Nat):Option Bool:=match a with
 | .str [c]=>some (decide (c ∈ y))
 | _=>none
@[simp] theorem Zwe {y:List Nat}:∀ c,inS (.str [c]) y = some (decide (c ∈ y)):=fun _=>rfl
noncomputable def inD (a b:D):Option Bool:=match b with
 | .str y=>inS a y
 | .tup ys=>if ZcN a && ys.all ZcN then some (ys.any fun y=>deq y a) else none
 | _=>none
@[simp] theorem ZvM {a:D}:∀ y,inD a (.str y) = inS a y:=fun _=>rfl
@[simp] theorem Zws {a:D}:∀ ys,inD a (.tup ys) = (if ZcN a && ys.all ZcN then some (ys.any fun y=>deq y a) else none):=fun _=>rfl
@[simp] noncomputable def ZhQ (a b:D) (M:Store):R3 D:=match inD a b with
 | some r=>.ok (.bl r) M
 | none=>.bad
noncomputable def ixD (n:Nat) (i:Int):Option Nat:=if 0 <= i then (if i < n then some i.toNat else none) else if -(n:Int) <= i then some (i + n).toNat else none
noncomputable def Zbb {α:Type} (xs:List α) (i:Int):Option α:=(ixD xs.length i).bind fun j=>xs[j]?
noncomputable def Zeo:D -> Option Zbw
 | .int i=>some (.inl i)
 | .str x=>some (.inr x)
 | _=>none
@[simp] theorem ZvU:Zeo .non = none:=rfl
@[simp] theorem Zv9 (b:Bool):Zeo (.bl b) = none:=rfl
@[simp] theorem ZvI (x:List D):Zeo (.tup x) = none:=rfl
@[simp] theorem Zwo (x:List D):Zeo (.scr x) = none:=rfl
@[simp] theorem ZwB (n:Nat):Zeo (.ref n) = none:=rfl
@[simp] theorem ZiB:∀ i,Zeo (.int i) = some (.inl i):=fun _=>rfl
@[simp] theorem ZiD:∀ x,Zeo (.str x) = some (.inr x):=fun _=>rfl
noncomputable def ZcV:List (Zbw × D) -> Zbw -> Option D
 | [],_=>none
 | (k,v) :: r,x=>if k = x then some v else ZcV r x
section
local instance (priority:=100000) clP7 (p:Prop):Decidable p:=Yn p
noncomputable def Ze (a b:D) (M:Store):R3 D:=match a,b with
 | .tup ds,.int i=>match Zbb ds i with
  | some d=>.ok d M
  | none=>.bad
 | .scr ds,.int i=>match Zbb ds i with
  | some d=>.ok d M
  | none=>.bad
 | .str x,.int i=>match Zbb x i with
  | some c=>if x.length <= SZ then .ok (.str [c]) M else .bad
  | none=>.bad
 | .ref n,.int i=>match M[n]? with
  | some (.lst ds)=>match Zbb ds i with
   | some d=>.ok d M
   | none=>.bad
  | _=>.bad
 | _,_=>.bad
@[simp] theorem ZaT {M:Store}:∀ ds i,Ze (.tup ds) (.int i) M = (match Zbb ds i with
  | some d=>.ok d M
  | none=>.bad):=fun _ _=>rfl
@[simp] theorem ZaU {M:Store}:∀ ds i,Ze (.scr ds) (.int i) M = (match Zbb ds i with
  | some d=>.ok d M
  | none=>.bad):=fun _ _=>rfl
@[simp] theorem ZaS {M:Store}:∀ x i,Ze (.str x) (.int i) M = (match Zbb x i with
  | some c=>if x.length <= SZ then .ok (.str [c]) M else .bad
  | none=>.bad):=fun _ _=>rfl
@[simp] theorem ZaL {M:Store}:∀ n i,Ze (.ref n) (.int i) M = (match M[n]? with
  | some (.lst ds)=>match Zbb ds i with
   | some d=>.ok d M
   | none=>.bad
  | _=>.bad):=fun _ _=>rfl
end
noncomputable def Zcr:Option MO -> Option (List (Zbw × D))
 | some (.dct kvs)=>some kvs
 | some (.fdct kvs)=>some kvs
 | _=>none
@[simp] theorem Zvj:Zcr none = none:=rfl
@[simp] theorem ZvD (x:List D):Zcr (some (.lst x)) = none:=rfl
@[simp] theorem Zvf (c:List Nat) (f:List (List Nat × D)):Zcr (some (.ins c f)) = none:=rfl
@[simp] theorem Zlu:∀ kvs,Zcr (some (.dct kvs)) = some kvs:=fun _=>rfl
@[simp] theorem Zlx:∀ kvs,Zcr (some (.fdct kvs)) = some kvs:=fun _=>rfl
noncomputable def Zep (a b:D) (M:Store):R3 D:=match a with
 | .ref n=>match Zcr M[n]?,Zeo b with
  | some kvs,some x=>match ZcV kvs x with
   | some d=>.ok d M
   | none=>.bad
  | _,_=>.bad
 | _=>.bad
@[simp] theorem ZjP {b:D} {M:Store}:∀ n,Zep (.ref n) b M = (match Zcr M[n]?,Zeo b with
  | some kvs,some x=>match ZcV kvs x with
   | some d=>.ok d M
   | none=>.bad
  | _,_=>.bad):=fun _=>rfl
noncomputable def sIx (n d:Nat):Option Int -> Nat
 | none=>d
 | some v=>if v < 0 then (v + (n:Int)).toNat else min v.toNat n
noncomputable def cutD {α:Type} (xs:List α) (lo hi:Option Int):List α:=(xs.drop (sIx xs.length 0 lo)).take (sIx xs.length xs.length hi - sIx xs.length 0 lo)
noncomputable abbrev EO3:=ZaD -> Store -> R3 (Option Int)
@[simp] noncomputable def ZaE:EO3:=fun _ M=>.ok none M
@[simp] noncomputable def ZaI (f:E3):EO3:=fun env M=>(f env M).bind fun a M1=>match a with
 | .int i=>.ok (some i) M1
 | _=>.bad
section
local instance (priority:=100000) clP8 (p:Prop):Decidable p:=Yn p
noncomputable def ZoG (a:D) (lo hi:Option Int) (M:Store):R3 D:=match a with
 | .tup ds=>.ok (.tup (cutD ds lo hi)) M
 | .scr ds=>alloc (.lst (cutD ds lo hi)) M
 | .str x=>if x.length <= SZ then .ok (.str (cutD x lo hi)) M else .bad
 | .ref n=>match M[n]? with
  | some (.lst ds)=>alloc (.lst (cutD ds lo hi)) M
  | _=>.bad
 | _=>.bad
@[simp] theorem Zce {lo:Option Int} {hi:Option Int} {M:Store}:∀ ds,ZoG (.tup ds) lo hi M = .ok (.tup (cutD ds lo hi)) M:=fun _=>rfl
@[simp] theorem Zcg {lo:Option Int} {hi:Option Int} {M:Store}:∀ ds,ZoG (.scr ds) lo hi M = alloc (.lst (cutD ds lo hi)) M:=fun _=>rfl
@[simp] theorem Zch {lo:Option Int} {hi:Option Int} {M:Store}:∀ x,ZoG (.str x) lo hi M = (if x.length <= SZ then .ok (.str (cutD x lo hi)) M else .bad):=fun _=>rfl
@[simp] theorem Zcf {lo:Option Int} {hi:Option Int} {M:Store}:∀ n,ZoG (.ref n) lo hi M = (match M[n]? with
  | some (.lst ds)=>alloc (.lst (cutD ds lo hi)) M
  | _=>.bad):=fun _=>rfl
end
@[simp] noncomputable def eSl (f:E3) (lo hi:EO3):E3:=fun env M=>(f env M).bind fun a M1=>(lo env M1).bind fun l M2=>(hi env M2).bind fun h M3=>ZoG a l h M3
section
local instance (priority:=100000) clP9 (p:Prop):Decidable p:=Yn p
noncomputable def ZaR (ds:List D) (M:Store):R3 D:=match ds with
 | [.tup x]=>.ok (.int x.length) M
 | [.scr x]=>.ok (.int x.length) M
 | [.str x]=>if x.length <= SZ then .ok (.int x.length) M else .bad
 | [.ref n]=>match M[n]? with
  | some (.lst x)=>.ok (.int x.length) M
  | _=>.bad
 | _=>.bad
@[simp] theorem Zgs {M:Store}:∀ x,ZaR ([.tup x]) M = .ok (.int x.length) M:=fun _=>rfl
@[simp] theorem Zgp {M:Store}:∀ x,ZaR ([.scr x]) M = .ok (.int x.length) M:=fun _=>rfl
@[simp] theorem Zgr {M:Store}:∀ x,ZaR ([.str x]) M = (if x.length <= SZ then .ok (.int x.length) M else .bad):=fun _=>rfl
@[simp] theorem Zea {M:Store}:∀ n,ZaR ([.ref n]) M = (match M[n]? with
  | some (.lst x)=>.ok (.int x.length) M
  | _=>.bad):=fun _=>rfl
end
noncomputable def ZaZ (ds:List D) (M:Store):R3 D:=match ds with
 | [.tup x]=>.ok (.tup x) M
 | [.scr x]=>.ok (.tup x) M
 | [.ref n]=>match M[n]? with
  | some (.lst x)=>.ok (.tup x) M
  | _=>.bad
 | _=>.bad
@[simp] theorem ZhM {M:Store}:∀ x,ZaZ ([.tup x]) M = .ok (.tup x) M:=fun _=>rfl
@[simp] theorem ZhG {M:Store}:∀ x,ZaZ ([.scr x]) M = .ok (.tup x) M:=fun _=>rfl
@[simp] theorem Zd2 {M:Store}:∀ n,ZaZ ([.ref n]) M = (match M[n]? with
  | some (.lst x)=>.ok (.tup x) M
  | _=>.bad):=fun _=>rfl
noncomputable def Zgd (ds:List D) (M:Store):R3 D:=match ds with
 | [.tup x]=>alloc (.lst x) M
 | [.scr x]=>alloc (.lst x) M
 | [.ref n]=>match M[n]? with
  | some (.lst x)=>alloc (.lst x) M
  | _=>.bad
 | _=>.bad
@[simp] theorem Zps {M:Store}:∀ x,Zgd ([.tup x]) M = alloc (.lst x) M:=fun _=>rfl
@[simp] theorem Zpn {M:Store}:∀ x,Zgd ([.scr x]) M = alloc (.lst x) M:=fun _=>rfl
@[simp] theorem ZfZ {M:Store}:∀ n,Zgd ([.ref n]) M = (match M[n]? with
  | some (.lst x)=>alloc (.lst x) M
  | _=>.bad):=fun _=>rfl
inductive Ty3 where
 | int | bool | str | list | tuple
 deriving DecidableEq
noncomputable def Zjz (T:Ty3) (d:D) (M:Store):Option Bool:=match d with
 | .non=>some false
 | .bl _=>some (T == .bool || T == .int)
 | .int _=>some (T == .int)
 | .str _=>some (T == .str)
 | .tup _=>some (T == .tuple)
 | .scr _=>none
 | .ref n=>match M[n]? with
  | some (.lst _)=>some (T == .list)
  | some (.dct _)=>some false
  | some (.fdct _)=>none
  | some (.ins _ _)=>none
  | none=>none
@[simp] theorem Zvo {T:Ty3} {M:Store}:Zjz T (.non) M = some false:=rfl
@[simp] theorem ZvC {T:Ty3} {M:Store}:∀ w0,Zjz T (.bl w0) M = some (T == .bool || T == .int):=fun _=>rfl
@[simp] theorem Zvg {T:Ty3} {M:Store}:∀ w0,Zjz T (.int w0) M = some (T == .int):=fun _=>rfl
@[simp] theorem Zvv {T:Ty3} {M:Store}:∀ w0,Zjz T (.str w0) M = some (T == .str):=fun _=>rfl
@[simp] theorem Zvi {T:Ty3} {M:Store}:∀ w0,Zjz T (.tup w0) M = some (T == .tuple):=fun _=>rfl
@[simp] theorem ZvB {T:Ty3} {M:Store}:∀ w0,Zjz T (.scr w0) M = none:=fun _=>rfl
@[simp] theorem Zvl {T:Ty3} {M:Store}:∀ n,Zjz T (.ref n) M = (match M[n]? with
  | some (.lst _)=>some (T == .list)
  | some (.dct _)=>some false
  | some (.fdct _)=>none
  | some (.ins _ _)=>none
  | none=>none):=fun _=>rfl
@[simp] noncomputable def Zg0 (T:Ty3) (d:D) (M:Store):R3 D:=match Zjz T d M with
 | some b=>.ok (.bl b) M
 | none=>.bad
noncomputable def isB:D -> Bool
 | .bl _=>true
 | _=>false
noncomputable def isT:D -> Bool
 | .bl b=>b
 | _=>false
noncomputable def allB (l:List D):Option Bool:=if l.all isB then some (l.all isT) else none
noncomputable def ZvO (ds:List D) (M:Store):R3 D:=match ds with
 | [.ref n]=>match M[n]? with
  | some (.lst x)=>match allB x with
   | some b=>.ok (.bl b) M
   | none=>.bad
  | _=>.bad
 | _=>.bad
@[simp] theorem Zvx {M:Store}:∀ n,ZvO ([.ref n]) M = (match M[n]? with
  | some (.lst x)=>match allB x with
   | some b=>.ok (.bl b) M
   | none=>.bad
  | _=>.bad):=fun _=>rfl
section
local instance (priority:=100000) clP11 (p:Prop):Decidable p:=Yn p
noncomputable def Zb3 (o:D) (ds:List D) (M:Store):R3 D:=match o,ds with
 | .ref n,[d]=>match M[n]? with
  | some (.lst x)=>if x.length < SZ then .ok .non (M.set n (.lst (x ++ [d]))) else .bad
  | _=>.bad
 | _,_=>.bad
@[simp] theorem Znr {M:Store}:∀ n d,Zb3 (.ref n) ([d]) M = (match M[n]? with
  | some (.lst x)=>if x.length < SZ then .ok .non (M.set n (.lst (x ++ [d]))) else .bad
  | _=>.bad):=fun _ _=>rfl
end
section
local instance (priority:=100000) clPp (p:Prop):Decidable p:=Yn p
end
noncomputable def tyL (a:D) (M:Store):Bool:=match a with
 | .ref n=>match M[n]? with
  | some (.lst _)=>true
  | _=>false
 | _=>false
@[simp] theorem Zsp {M:Store}:∀ n,tyL (.ref n) M = (match M[n]? with
  | some (.lst _)=>true
  | _=>false):=fun _=>rfl
noncomputable def Zox (a:D) (M:Store):Bool:=match a with
 | .ref n=>(Zcr M[n]?).isSome
 | _=>false
@[simp] theorem Ziz {M:Store}:∀ n,Zox (.ref n) M = (Zcr M[n]?).isSome:=fun _=>rfl
@[simp] noncomputable def ZeQ (ty:D -> Store -> Bool) (m:D -> List D -> Store -> R3 D) (o:E3) (g:EL3):E3:=fun env M=>(o env M).bind fun a M1=>if ty a M1 then (g env M1).bind fun ds M2=>m a ds M2 else .bad
@[simp] noncomputable def Zak (b:List D -> Store -> R3 D) (g:EL3):E3:=fun env M=>(g env M).bind fun ds M1=>b ds M1
noncomputable def putD (k:Zbw) (v:D) (kvs:List (Zbw × D)):List (Zbw × D):=
 if (kvs.any fun p=>decide (p.1 = k)) = true then kvs.map (fun p=>if p.1 = k then (p.1,v) else p) else kvs ++ [(k,v)]
noncomputable abbrev EP3:=ZaD -> Store -> R3 (List (Zbw × D))
@[simp] noncomputable def ZwP (f g:E3) (r:EP3):EP3:=fun env M=>(f env M).bind fun a M1=>(g env M1).bind fun b M2=>match Zeo a with
 | some k=>(r env M2).bind fun l M3=>.ok ((k,b) :: l) M3
 | none=>.bad
noncomputable def dictOf (l:List (Zbw × D)):List (Zbw × D):=l.foldl (fun acc p=>putD p.1 p.2 acc) []
@[simp] noncomputable def Zxe (r:EP3):E3:=fun env M=>(r env (M ++ [.dct []])).bind fun l M1=>match M1[M.length]? with
 | some (.dct [])=>if l.length <= 15 then .ok (.ref M.length) (M1.set M.length (.dct (dictOf l))) else .bad
 | _=>.bad
@[simp] noncomputable def ZnM:E3:=fun _ M=>alloc (.dct []) M
@[simp] noncomputable def e3 (op:D -> D -> D -> Store -> R3 D) (f g h:E3):E3:=fun env M=>(f env M).bind fun a M1=>(g env M1).bind fun b M2=>(h env M2).bind fun c M3=>op a b c M3
section
local instance (priority:=100000) clP12 (p:Prop):Decidable p:=Yn p
noncomputable def ZpQ (v a b:D) (M:Store):R3 D:=match a with
 | .ref n=>match M[n]?,Zeo b with
  | some (.dct kvs),some k=>if kvs.length < SZ then .ok .non (M.set n (.dct (putD k v kvs))) else .bad
  | _,_=>.bad
 | _=>.bad
@[simp] theorem Zki {v:D} {b:D} {M:Store}:∀ n,ZpQ v (.ref n) b M = (match M[n]?,Zeo b with
  | some (.dct kvs),some k=>if kvs.length < SZ then .ok .non (M.set n (.dct (putD k v kvs))) else .bad
  | _,_=>.bad):=fun _=>rfl
end
noncomputable def ZiO (v a b:D) (M:Store):R3 D:=match a,b with
 | .ref n,.int i=>match M[n]? with
  | some (.lst xs)=>match ixD xs.length i with
   | some j=>.ok .non (M.set n (.lst (xs.set j v)))
   | none=>.bad
  | _=>.bad
 | _,_=>.bad
@[simp] theorem Zfk {v:D} {M:Store}:∀ n i,ZiO v (.ref n) (.int i) M = (match M[n]? with
  | some (.lst xs)=>match ixD xs.length i with
   | some j=>.ok .non (M.set n (.lst (xs.set j v)))
   | none=>.bad
  | _=>.bad):=fun _ _=>rfl
noncomputable def ZmQ (o:D) (ds:List D) (M:Store):R3 D:=match o,ds with
 | .ref n,[b]=>match Zcr M[n]?,Zeo b with
  | some kvs,some k=>.ok ((ZcV kvs k).getD .non) M
  | _,_=>.bad
 | .ref n,[b,d]=>match Zcr M[n]?,Zeo b with
  | some kvs,some k=>.ok ((ZcV kvs k).getD d) M
  | _,_=>.bad
 | _,_=>.bad
@[simp] theorem Zk9 {M:Store}:∀ n b,ZmQ (.ref n) ([b]) M = (match Zcr M[n]?,Zeo b with
  | some kvs,some k=>.ok ((ZcV kvs k).getD .non) M
  | _,_=>.bad):=fun _ _=>rfl
@[simp] theorem Zk3 {M:Store}:∀ n b d,ZmQ (.ref n) ([b,d]) M = (match Zcr M[n]?,Zeo b with
  | some kvs,some k=>.ok ((ZcV kvs k).getD d) M
  | _,_=>.bad):=fun _ _ _=>rfl
noncomputable def Zem:List D -> Option (List (Zbw × D))
 | []=>some []
 | .tup [a,b] :: r=>match Zeo a with
  | some k=>(Zem r).map fun l=>(k,b) :: l
  | none=>none
 | _ :: _=>none
theorem Zpt (i:Int) (b:D) (r:List D):Zem (.tup [.int i,b] :: r) = (Zem r).map fun l=>(.inl i,b) :: l:=rfl
section
local instance (priority:=100000) clP13 (p:Prop):Decidable p:=Yn p
noncomputable def Zko (ds:List D) (M:Store):R3 D:=match ds with
 | [.ref n]=>match Zcr M[n]? with
  | some kvs=>alloc (.dct kvs) M
  | none=>.bad
 | [.tup x]=>match Zem x with
  | some l=>if l.length <= 100000 then alloc (.dct (dictOf l)) M else .bad
  | none=>.bad
 | _=>.bad
@[simp] theorem ZhA {M:Store}:∀ n,Zko ([.ref n]) M = (match Zcr M[n]? with
  | some kvs=>alloc (.dct kvs) M
  | none=>.bad):=fun _=>rfl
@[simp] theorem ZiS {M:Store}:∀ x,Zko ([.tup x]) M = (match Zem x with
  | some l=>if l.length <= 100000 then alloc (.dct (dictOf l)) M else .bad
  | none=>.bad):=fun _=>rfl
end
noncomputable def ZqB (ds:List D) (M:Store):R3 D:=match ds with
 | [.int i]=>.ok (.int i) M
 | [.bl b]=>.ok (.int (if b then 1 else 0)) M
 | _=>.bad
@[simp] theorem ZvH {M:Store}:∀ i,ZqB ([.int i]) M = .ok (.int i) M:=fun _=>rfl
@[simp] theorem Zvs {M:Store}:∀ b,ZqB ([.bl b]) M = .ok (.int (if b then 1 else 0)) M:=fun _=>rfl
noncomputable def ltT:List D -> List D -> Option Bool
 | [],[]=>some false
 | [],_ :: _=>some true
 | _ :: _,[]=>some false
 | .int i :: x,.int j :: y=>if i = j then ltT x y else some (decide (i < j))
 | .str a :: x,.str b :: y=>if a = b then ltT x y else some (decide (a < b))
 | _ :: _,_ :: _=>none
noncomputable def ltD:D -> D -> Option Bool
 | .tup a,.tup b=>ltT a b
 | .int i,.int j=>some (decide (i < j))
 | _,_=>none
def leD (a b:D):Prop:=ltD b a = some false
def Zi7 (x y:List D):Prop:=y.Perm x /\ y.Pairwise leD
noncomputable def ZnF:D -> Bool
 | .tup (.int _ :: _)=>true
 | _=>false
noncomputable def Zjk:D -> Bool
 | .int _=>true
 | _=>false
structure ZkN (x:List D):Prop where
 len:x.length < 64
 kind:x.all ZnF = true \/ x.all Zjk = true
 cmp:∀ a ∈ x,∀ b ∈ x,(ltD a b).isSome = true
section
local instance (priority:=100000) clPs (p:Prop):Decidable p:=Yn p
noncomputable def Zkx (x:List D):List D:=if h:∃ y,Zi7 x y then h.choose else x
noncomputable def Zcc (ds:List D) (M:Store):R3 D:=match ds with
 | [.ref n]=>match M[n]? with
  | some (.lst x)=>if ZkN x then alloc (.lst (Zkx x)) M else .bad
  | _=>.bad
 | _=>.bad
@[simp] theorem ZcS {M:Store}:∀ n,Zcc ([.ref n]) M = (match M[n]? with
  | some (.lst x)=>if ZkN x then alloc (.lst (Zkx x)) M else .bad
  | _=>.bad):=fun _=>rfl
end
noncomputable def Zab:S3:=fun env M=>.nx env M
noncomputable def Zw (f g:S3):S3:=fun env M=>match f env M with
 | .nx env' M'=>g env' M'
 | o=>o
noncomputable def sIf (c:E3) (f g:S3):S3:=fun env M=>match c env M with
 | .ok (.bl true) M1=>f env M1
 | .ok (.bl false) M1=>g env M1
 | .exc x M1=>.exc x M1
 | _=>.bad
noncomputable def Zaf (f:E3):S3:=fun env M=>match f env M with
 | .ok d M1=>.rt d M1
 | .exc x M1=>.exc x M1
 | .bad=>.bad
noncomputable def Zbq (f:E3):S3:=fun env M=>match f env M with
 | .ok _ M1=>.nx env M1
 | .exc x M1=>.exc x M1
 | .bad=>.bad
noncomputable def Zaj (i:Nat) (f:E3):S3:=fun env M=>match f env M with
 | .ok d M1=>.nx (env.set i (some d)) M1
 | .exc x M1=>.exc x M1
 | .bad=>.bad
noncomputable def Znx (o i f:E3):S3:=Zbq (e3 ZpQ f o i)
noncomputable def ZfU (o i f:E3):S3:=Zbq (e3 ZiO f o i)
noncomputable abbrev G3:=D -> ZaD -> Option ZaD
@[simp] noncomputable def Zcj (i:Nat):G3:=fun d env=>some (env.set i (some d))
noncomputable def bindAll:List Nat -> List D -> ZaD -> Option ZaD
 | [],[],env=>some env
 | i :: is,d :: ds,env=>bindAll is ds (env.set i (some d))
 | _,_,_=>none
@[simp] theorem ZeW:∀ env,bindAll ([]) ([]) (env) = some env:=fun _=>rfl
@[simp] theorem ZeZ:∀ i is d ds env,bindAll (i :: is) (d :: ds) (env) = bindAll is ds (env.set i (some d)):=fun _ _ _ _ _=>rfl
@[simp] noncomputable def Zci (is:List Nat):G3:=fun d env=>match d with
 | .tup ds=>bindAll is ds env
 | _=>none
structure It3 where
 items:List D
 lock:Option Nat
noncomputable abbrev I3:=ZaD -> Store -> R3 It3
section
local instance (priority:=100000) clP14 (p:Prop):Decidable p:=Yn p
@[simp] noncomputable def Zih (f:E3):I3:=fun env M=>(f env M).bind fun a M1=>match a with
 | .tup ds=>.ok ⟨ds,none⟩ M1
 | .scr ds=>.ok ⟨ds,none⟩ M1
 | .str x=>if x.length <= SZ then .ok ⟨x.map fun c=>.str [c],none⟩ M1 else .bad
 | .ref n=>match M1[n]? with
  | some (.lst ds)=>.ok ⟨ds,some n⟩ M1
  | _=>.bad
 | _=>.bad
end
noncomputable def Zdl (lo:Int) (n:Nat):List D:=(Yt n).map fun (k:Nat)=>D.int (lo + (k:Int))
section
local instance (priority:=100000) clP15 (p:Prop):Decidable p:=Yn p
@[simp] noncomputable def ZbJ (f:E3):I3:=fun env M=>(f env M).bind fun a M1=>match a with
 | .int j=>if j <= 1000000 /\ -1000000 <= j then .ok ⟨Zdl 0 j.toNat,none⟩ M1 else .bad
 | _=>.bad
end
section
local instance (priority:=100000) clP16 (p:Prop):Decidable p:=Yn p
end
noncomputable def locked (it:It3) (M:Store):Bool:=match it.lock with
 | none=>true
 | some n=>decide (M[n]? = some (.lst it.items))
noncomputable def Ze0 (it:It3) (g:G3) (body:S3):List D -> ZaD -> Store -> O3
 | [],env,M=>if locked it M then .nx env M else .bad
 | d :: ds,env,M=>if locked it M then match g d env with
  | none=>.bad
  | some env1=>match body env1 M with
   | .nx e M'=>Ze0 it g body ds e M'
   | .ct e M'=>Ze0 it g body ds e M'
   | .bk e M'=>.nx e M'
   | o=>o
  else .bad
noncomputable def Zlb (i:I3) (g:G3) (body:S3):S3:=fun env M=>match i env M with
 | .ok it M1=>Ze0 it g body it.items env M1
 | .exc x M1=>.exc x M1
 | .bad=>.bad
noncomputable def Zfj (c:E3) (body:S3):Nat -> ZaD -> Store -> O3
 | 0,_,_=>.bad
 | n + 1,env,M=>match c env M with
  | .ok (.bl true) M1=>match body env M1 with
   | .nx e M'=>Zfj c body n e M'
   | .ct e M'=>Zfj c body n e M'
   | .bk e M'=>.nx e M'
   | o=>o
  | .ok (.bl false) M1=>.nx env M1
  | .exc x M1=>.exc x M1
  | _=>.bad
noncomputable def Zns (c:E3) (body:S3):S3:=Zfj c body 1000000
noncomputable def Zfe:List E3 -> ZaD -> Store -> R3 Bool
 | [],_,M=>.ok true M
 | c :: cs,env,M=>(c env M).bind fun a M1=>match a with
  | .bl true=>Zfe cs env M1
  | .bl false=>.ok false M1
  | _=>.bad
section
local instance (priority:=100000) clP17 (p:Prop):Decidable p:=Yn p
noncomputable def ZcL (it:It3) (g:G3) (ifs:List E3) (elt:E3) (n:Nat):List D -> ZaD -> Store -> R3 D
 | [],_,M=>if locked it M then .ok (.ref n) M else .bad
 | d :: ds,env,M=>if locked it M then match g d env with
  | none=>.bad
  | some env1=>(Zfe ifs env1 M).bind fun b M1=>if b then (elt env1 M1).bind fun e M2=>match M2[n]? with
    | some (.lst x)=>if x.length < SZ then ZcL it g ifs elt n ds env1 (M2.set n (.lst (x ++ [e]))) else .bad
    | _=>.bad
   else ZcL it g ifs elt n ds env1 M1
  else .bad
end
noncomputable def eLC (i:I3) (own:Nat) (g:G3) (ifs:List E3) (elt:E3):E3:=fun env M=>(i env M).bind fun it M1=>
 ZcL it g ifs elt M1.length it.items (env ++ Yg own none) (M1 ++ [.lst []])
noncomputable def keyV:Zbw -> D
 | .inl i=>.int i
 | .inr x=>.str x
noncomputable def ZmR (f:E3) (own:Nat) (g:G3) (ifs:List E3) (elt:E3):E3:=fun env M=>(f env M).bind fun a M1=>match a with
 | .ref n=>match M1[n]? with
  | some (.dct kvs)=>(ZcL ⟨kvs.map fun q=>keyV q.1,none⟩ g ifs elt M1.length (kvs.map fun q=>keyV q.1) (env ++ Yg own none) (M1.set n (.fdct kvs) ++ [.lst []])).bind fun v M2=>match M2[n]? with
   | some (.fdct kvs')=>.ok v (M2.set n (.dct kvs'))
   | _=>.bad
  | _=>.bad
 | _=>.bad
noncomputable def ZhX (n:Nat):MO -> Bool
 | .lst xs=>belowL n xs
 | .dct kvs=>belowL n (kvs.map (·.2))
 | .fdct kvs=>belowL n (kvs.map (·.2))
 | .ins _ fs=>belowL n (fs.map (·.2))
noncomputable def ZdS (M:Store) (d:D) (M':Store):R3 D:=
 if below M.length d && (decide (M'.take M.length = M) || (M'.take M.length).all (ZhX M.length)) then .ok d (M'.take M.length) else .ok d M'
noncomputable def mkF (ps n:Nat) (body:S3):F3:=fun ds M=>if ds.length = ps then match body (ds.map some ++ Yg (n - ps) none) M with
  | .nx _ M'=>ZdS M .non M'
  | .rt d M'=>ZdS M d M'
  | .exc x M'=>.exc x M'
  | _=>.bad
 else .bad
end
theorem Zf1 (i j:Int) (x y:List D):ltT (.int i :: x) (.int j :: y) = if i = j then ltT x y else some (decide (i < j)):=rfl
theorem Zgl (i j:List Nat) (x y:List D):ltT (.str i :: x) (.str j :: y) = if i = j then ltT x y else some (decide (i < j)):=rfl
theorem Zl2 (i j:Int):ltD (.int i) (.int j) = some (decide (i < j)):=rfl
theorem ZlG (x y:List D):ltD (.tup x) (.tup y) = ltT x y:=rfl
theorem ZsM {p:Prop} {_:Decidable p} (h:some (decide p) = some true):p:=of_decide_eq_true (Yq h)
theorem Zrw {p:Prop} {_:Decidable p} (h:some (decide p) = some false):¬ p:=of_decide_eq_false (Yq h)
theorem Zrb {p:Prop} {_:Decidable p} (h:¬ p):some (decide p) = some false:=congrArg some (decide_eq_false h)
theorem Zff {p:Prop} {b:Bool} (h:(none:Option Bool) = some b):p:=by cases h
theorem ZeJ {d e:D} {x y:List D} {r:Bool} (h:ltT (d :: x) (e :: y) = some r):(∃ i j,d = .int i /\ e = .int j) \/ ∃ i j,d = .str i /\ e = .str j:=by
 cases d with
 | int i=>cases e with
  | int j=>exact .inl ⟨_,_,rfl,rfl⟩
  | _=>exact Zff h
 | str i=>cases e with
  | str j=>exact .inr ⟨_,_,rfl,rfl⟩
  | _=>exact Zff h
 | _=>cases e <;> exact Zff h
theorem Zjp:∀ (a b:List D),ltT a b = some true -> ltT b a = some false
 | [],b,h=>by
  cases b with
  | nil=>exact rfl
  | cons _ _=>exact rfl
 | _ :: _,[],h=>ft (Yq h)
 | d :: x,e :: y,h=>by
  rcases ZeJ h with ⟨i,j,ed,ee⟩ | ⟨i,j,ed,ee⟩
  ·rw [ed,ee] at h ⊢
   rw [Zf1] at h ⊢;by_cases q:i = j
   ·rw [if_pos q] at h; rw [if_pos q.symm]; exact Zjp x y h
   ·rw [if_neg q] at h; rw [if_neg (Yat q)]; exact Zrb fun z=>iN [] [_,_] 2 25796087953 T1 z (ZsM h)
  ·rw [ed,ee] at h ⊢
   rw [Zgl] at h ⊢;by_cases q:i = j
   ·rw [if_pos q] at h; rw [if_pos q.symm]; exact Zjp x y h
   ·rw [if_neg q] at h; rw [if_neg (Yat q)]; exact Zrb fun z=>List.lt_irrefl _ (List.lt_trans (ZsM h) z)
theorem ZmL:∀ (a b c:List D),ltT b a = some false -> ltT c b = some false -> ltT c a = some false
 | [],b,c,h1,h2=>by cases c <;> exact rfl
 | _ :: _,[],c,h1,h2=>ft (Yq h1).symm
 | _ :: _,_ :: _,[],h1,h2=>ft (Yq h2).symm
 | d :: x,e :: y,f :: z,h1,h2=>by
  rcases ZeJ h1 with ⟨j,i,rfl,rfl⟩ | ⟨j,i,rfl,rfl⟩
  ·rcases ZeJ h2 with ⟨k,j',rfl,e⟩ | ⟨k,j',rfl,e⟩
   ·cases e
    simp only [Zf1,Zgl] at h1 h2 ⊢;by_cases e1:j = i
    ·subst e1
     simp only [if_true] at h1;by_cases e2:k = j
     ·subst e2; simp only [if_true] at h2 ⊢; exact ZmL x y z h1 h2
     ·rw [if_neg e2] at h2 ⊢; exact h2
    ·rw [if_neg e1] at h1
     by_cases e2:k = j
     ·subst e2; rw [if_neg e1]; exact h1
     ·rw [if_neg e2] at h2
      simp only [Ya7,decide_eq_false_iff_not] at h1 h2;rw [if_neg (by exact fun z=>iN [] [_,_] 2 26047746257 T1 h1 (Yec.2 ⟨(iN [] [_,_,_] 2 1271860891809 T1 z h2),e1⟩))];simp only [Ya7,decide_eq_false_iff_not]; exact fun z=>iN [] [_,_,_] 3 0x612d120d11091 T1 z h2 h1
   ·cases e
  ·rcases ZeJ h2 with ⟨k,j',rfl,e⟩ | ⟨k,j',rfl,e⟩
   ·cases e
   ·cases e
    simp only [Zf1,Zgl] at h1 h2 ⊢;by_cases e1:j = i
    ·subst e1
     simp only [if_true] at h1;by_cases e2:k = j
     ·subst e2; simp only [if_true] at h2 ⊢; exact ZmL x y z h1 h2
     ·rw [if_neg e2] at h2 ⊢; exact h2
    ·rw [if_neg e1] at h1
     by_cases e2:k = j
     ·subst e2; rw [if_neg e1]; exact h1
     ·rw [if_neg e2] at h2
      simp only [Ya7,decide_eq_false_iff_not,Yih] at h1 h2;have h3:i <= k:=List.le_trans h1 h2;have ne:k ≠ i:=fun z=>by subst z; exact e1 (List.le_antisymm h2 h1)
      rw [if_neg ne];simp only [Ya7,decide_eq_false_iff_not,Yih]; exact h3
theorem ZiK:∀ (a b:List D),ltT a b = some false -> ltT b a = some false -> a = b
 | [],[],_,_=>rfl
 | [],_ :: _,h,_=>ft (Yq h).symm
 | _ :: _,[],_,h=>ft (Yq h).symm
 | d :: x,e :: y,h1,h2=>by
  rcases ZeJ h1 with ⟨i,j,rfl,rfl⟩ | ⟨i,j,rfl,rfl⟩
  ·simp only [Zf1,Zgl] at h1 h2
   by_cases e1:i = j
   ·subst e1; simp only [if_true] at h1 h2; rw [ZiK x y h1 h2]
   ·rw [if_neg e1] at h1
    rw [if_neg (Yat e1)] at h2;simp only [Ya7,decide_eq_false_iff_not] at h1 h2;exact (iN [] [_,_] 2 26047746257 T1 h1 (Yec.2 ⟨(Yef.1 h2),e1⟩)).elim
  ·simp only [Zf1,Zgl] at h1 h2
   by_cases e1:i = j
   ·subst e1; simp only [if_true] at h1 h2; rw [ZiK x y h1 h2]
   ·rw [if_neg e1] at h1
    rw [if_neg (Yat e1)] at h2;simp only [Ya7,decide_eq_false_iff_not,Yih] at h1 h2;exact absurd (List.le_antisymm h2 h1) e1
theorem Zmj {a b:D} (h:ltD a b = some true):ltD b a = some false:=by
 cases a with
 | int i=>cases b with
  | int j=>
   exact Zrb fun z=>iN [] [_,_] 2 25796087953 T1 z (ZsM h)
  | _=>exact Zff h
 | tup x=>cases b with
  | tup y=>exact Zjp _ _ h
  | _=>exact Zff h
 | _=>exact Zff h
theorem ZsN {a b c:D} (h1:ltD b a = some false) (h2:ltD c b = some false):ltD c a = some false:=by
 cases b with
 | int j=>cases a with
  | int i=>cases c with
   | int k=>
    exact Zrb fun z=>iN [] [_,_,_] 3 0x612d120d11091 T1 z (Zrw h2) (Zrw h1)
   | _=>exact Zff h2
  | _=>exact Zff h1
 | tup y=>cases a with
  | tup x=>cases c with
   | tup z=>exact ZmL _ _ _ h1 h2
   | _=>exact Zff h2
  | _=>exact Zff h1
 | _=>exact Zff h1
theorem ZpW {a b:D} (h1:ltD a b = some false) (h2:ltD b a = some false):a = b:=by
 cases a with
 | int i=>cases b with
  | int j=>
   rw [show i = j by exact Yb9 (Yef.1 (Zrw h2)) (Yef.1 (Zrw h1))]
  | _=>exact Zff h1
 | tup x=>cases b with
  | tup y=>rw [ZiK _ _ h1 h2]
  | _=>exact Zff h1
 | _=>exact Zff h1
theorem ZjU:∀ {x y:List D},y.Perm x -> x.Pairwise leD -> y.Pairwise leD -> y = x
 | [],y,p,_,_=>p.eq_nil
 | a :: x,y,p,hx,hy=>by
  cases y with
  | nil=>exact (p.symm.eq_nil).symm ▸ rfl
  | cons b y=>
   have hx':=Ybt.mp hx;have hy':=Ybt.mp hy;have e:b = a:=by
    rcases Yah.mp (p.mem_iff.mp Y7) with h | h
    ·exact h
    ·rcases Yah.mp (p.mem_iff.mpr (Y7 (a:=a) (l:=x))) with h' | h'
     ·exact h'.symm
     ·exact ZpW (hx'.1 b h) (hy'.1 a h')
   subst e;rw [ZjU (List.Perm.cons_inv p) hx'.2 hy'.2]
theorem Zmn {x y:List D} (h:Zi7 x y):Zkx x = y:=by
 unfold Zkx;rw [dif_pos ⟨y,h⟩];have hc:=Exists.choose_spec (⟨y,h⟩:∃ y,Zi7 x y);exact ZjU (hc.1.trans h.1.symm) h.2 hc.2
end L3
namespace L3
theorem ZlD {it:It3} {i n:Nat} {elt:E3} {R:D -> D -> Prop} {env0:ZaD}:∀ (ds:List D) (acc:List D) (env:ZaD) (M:Store),(∀ d,env.set i (some d) = env0.set i (some d)) ->
  (∀ d ∈ ds,∀ x,∃ e,elt (env0.set i (some d)) (M.set n (.lst x)) = .ok e (M.set n (.lst x)) /\ R d e) -> (∀ x,locked it (M.set n (.lst x)) = true) -> M[n]? = some (.lst acc) -> acc.length + ds.length <= SZ ->
  ∃ es,es.length = ds.length /\ (∀ (j:Nat) d e,ds[j]? = some d -> es[j]? = some e -> R d e) /\ ZcL it (Zcj i) [] elt n ds env M = .ok (.ref n) (M.set n (.lst (acc ++ es))):=by
 intro ds
 induction ds with
 | nil=>
  intro acc env M _ _ hl hM _;have e:M.set n (.lst acc) = M:=by
   apply Ybb;intro j;by_cases hj:j = n
   ·subst hj
    rw [Y4 (Yc.mp hM).1,hM]
   ·rw [Yab (Yat hj)]
  have hl':=hl acc;rw [e] at hl';exact ⟨[],rfl,fun j d e h=>by simp at h,by simp only [ZcL,hl',if_true,Yp,e]⟩
 | cons d ds ih=>
  intro acc env M he hf hl hM hz;have hn:n < M.length:=(Yc.mp hM).1;have e:M.set n (.lst acc) = M:=by
   apply Ybb;intro j;by_cases hj:j = n
   ·subst hj
    rw [Y4 hn,hM]
   ·rw [Yab (Yat hj)]
  have hl':=hl acc;rw [e] at hl';obtain ⟨v,hf',hR⟩:=hf d Y7 acc;rw [e] at hf';have hz':acc.length < SZ:=by simp at hz ⊢; exact lB 1 0xf42405b01f42405ba1c0c01 T1 hz
  obtain ⟨es,le,re,h⟩:=ih (acc ++ [v]) (env0.set i (some d)) (M.set n (.lst (acc ++ [v]))) (fun d'=>by rw [Yb5]) (fun d' hd' x=>by rw [Yb5]; exact hf d' (Y3 _ hd') x) (fun x=>by rw [Yb5]; exact hl x) (by rw [Y4 hn]) (by simp at hz ⊢; exact lB 1 0xf42405b1a0cc0f42405ba1c0c01 T1 hz);refine ⟨v :: es,by simp [le],fun j d' e' h1 h2=>?_,?_⟩
  ·cases j with
   | zero=>simp at h1 h2; subst h1 h2; exact hR
   | succ j=>exact re j d' e' (by simpa using h1) (by simpa using h2)
  ·simp only [ZcL,hl',if_true,Zcj,he d,Zfe,R3.bind_ok,hf',hM,hz']
   rw [h,Yb5];simp
theorem Zi4 {it:It3} {g:G3} {body:S3} {P:Nat -> ZaD -> Store -> Prop}:∀ (ds:List D) (j:Nat) (env:ZaD) (M:Store),P j env M -> (∀ j env M,P j env M -> locked it M = true) ->
  (∀ (k:Nat) d,ds[k]? = some d -> ∀ env M,P (j + k) env M -> ∃ env1 e' M',g d env = some env1 /\ body env1 M = .nx e' M' /\ P (j + k + 1) e' M') -> ∃ e' M',Ze0 it g body ds env M = .nx e' M' /\ P (j + ds.length) e' M':=by
 intro ds
 induction ds with
 | nil=>intro j env M p hl _; exact ⟨env,M,by simp only [Ze0,hl j env M p,if_true],p⟩
 | cons d ds ih=>
  intro j env M p hl hs;obtain ⟨env1,e',M',h1,h2,p'⟩:=hs 0 d rfl env M p;obtain ⟨e2,M2,h3,p2⟩:=ih (j + 1) e' M' p' hl fun k d' hd' env M p=>by
   have:=hs (k + 1) d' (by simpa using hd') env M (by rw [show j + (k + 1) = j + 1 + k by exact Ym (lB 0 1790139547840 T1) (lB 0 0xa1c0c1a0cc0 T1)]; exact p);rw [show j + (k + 1) + 1 = j + 1 + k + 1 by exact Ym (lB 0 0xa1a0cccaa1c0cc0 T1) (lB 0 0xaa1c0cca1a0ccc0 T1)] at this;exact this
  exact ⟨e2,M2,by simp only [Ze0,hl j env M p,if_true,h1,h2,h3],by rw [Ya5,show j + (ds.length + 1) = j + 1 + ds.length by exact Ym (lB 0 1790139547840 T1) (lB 0 0xa1c0c1a0cc0 T1)]; exact p2⟩
theorem Zg {f g:S3} {env env':ZaD} {M M':Store} (h:f env M = .nx env' M'):Zw f g env M = g env' M':=by rw [Zw,h]
theorem Zah {f g:S3} {env:ZaD} {M M':Store} {d:D} (h:f env M = .rt d M'):Zw f g env M = .rt d M':=by rw [Zw,h]
theorem Zas {c:E3} {f g:S3} {env:ZaD} {M M':Store} (h:c env M = .ok (.bl true) M'):sIf c f g env M = f env M':=by rw [sIf,h]
theorem ZbI {c:E3} {f g:S3} {env:ZaD} {M M':Store} (h:c env M = .ok (.bl false) M'):sIf c f g env M = g env M':=by rw [sIf,h]
theorem Zaq {f:E3} {env:ZaD} {M M':Store} {d:D} (h:f env M = .ok d M'):Zaf f env M = .rt d M':=by rw [Zaf,h]
theorem Zy {f:E3} {i:Nat} {env env':ZaD} {M M':Store} {d:D} (h:f env M = .ok d M') (he:env.set i (some d) = env':=by first | (dsimp only [Ybu,Ybv] <;> exact rfl) | exact rfl):Zaj i f env M = .nx env' M':=by rw [Zaj,h]; simp only [he]
theorem Zo {c:E3} {f:S3} {env:ZaD} {M M':Store} (h:c env M = .ok (.bl false) M'):sIf c f Zab env M = .nx env M':=by rw [sIf,h]; rfl
theorem Zfl {f:E3} {env:ZaD} {M M':Store} {d:D} (h:f env M = .ok d M'):Zbq f env M = .nx env M':=by rw [Zbq,h]
theorem Ziu {i:I3} {g:G3} {u:S3} {env:ZaD} {M M':Store} {it:It3} (h:i env M = .ok it M'):Zlb i g u env M = Ze0 it g u it.items env M':=by rw [Zlb,h]
theorem Zna {i:I3} {own:Nat} {g:G3} {ts:List E3} {f:E3} {env:ZaD} {M M':Store} {it:It3} (h:i env M = .ok it M'):eLC i own g ts f env M = ZcL it g ts f M'.length it.items (env ++ Yg own none) (M' ++ [.lst []]):=by rw [eLC,h]; rfl
theorem ZdC {ps n:Nat} {body:S3} {ds:List D} {env:ZaD} {M M':Store} {d:D} (h:body env M = .rt d M') (hl:ds.length = ps:=by rfl) (he:ds.map some ++ Yg (n - ps) none = env:=by rfl):mkF ps n body ds M = ZdS M d M':=by rw [mkF,if_pos hl,he,h]
theorem Zjc {M G:Store} {d:D} (h:below M.length d = true):ZdS M d (M ++ G) = .ok d M:=by
 simp [ZdS,h]
theorem ZaQ {α:Type} (M:List α) (x:α) (xs:List α):(M ++ x :: xs)[M.length]? = some x:=by simp
theorem ZaX {α:Type} (M xs:List α) (k:Nat):(M ++ xs)[M.length + k]? = xs[k]?:=by
 rw [Yan (Yw _ _)]; congr 1; exact Ym (lC 1 2199589555233 T1 (Yb (Yw _ _))) (lC 1 2267788938241 T1 (sbA _ _))
theorem Zfa {α:Type} (M xs:List α) (k:Nat) (o:α):(M ++ xs).set (M.length + k) o = M ++ xs.set k o:=by
 rw [Ygn _ _ (Yw _ _)]; congr 2; exact Ym (lC 1 2199589555233 T1 (Yb (Yw _ _))) (lC 1 2267788938241 T1 (sbA _ _))
theorem Zbn {α:Type} {M:List α} {n:Nat} {o:α} (h:M[n]? = some o) (xs:List α):(M ++ xs)[n]? = some o:=by
 rw [Y0 (Yc.mp h).1,h]
theorem Zcm {α:Type} (xs:List α) (k:Nat):Zbb xs (k:Int) = xs[k]?:=by
 unfold Zbb ixD;rw [if_pos (Ybd k)];by_cases h:k < xs.length
 ·rw [if_pos (Yb3.2 h)]; simp
 ·rw [if_neg (by exact fun z=>iN [_,_] [] 2 6667149772945 T1 z h)]; simp at h ⊢; exact h
@[simp] theorem ZcD {α:Type} (xs:List α) (k:Nat):Zbb xs (k:Int) = xs[k]?:=Zcm xs k
@[simp] theorem Zhl {α:Type} (xs:List α) (n:Nat):Zbb xs (no_index (Yfj n:Int)) = xs[(Yfj n:Nat)]?:=Zcm xs n
@[simp] theorem ZoT {α:Type} (xs:List α):Zbb xs (-1) = xs.getLast?:=by
 unfold Zbb ixD;rw [if_neg (by decide),Ycf];by_cases h:0 < xs.length
 ·rw [if_pos (by exact iN [_] [] 1 725993655825 T1 h)]
  simp only [Option.bind_some];congr 1; exact Ym (iN [_,_,_] [] 2 0x200a2c10118a9c08a1 T1 (Y5 (iN [_] [] 1 595337940497 T1 h)) (sbA _ _)) (iN [_,_,_] [] 2 0x1200a2c211808a9c81 T1 (Ya8 _) (Yb (lA 1 10489361 T1 h)))
 ·have:xs = []:=by simpa using h
  subst this; rfl
theorem Zny (n k:Nat):ixD n (k:Int) = if k < n then some k else none:=by
 unfold ixD;rw [if_pos (Ybd k)];by_cases h:k < n
 ·rw [if_pos (Yb3.2 h),if_pos h]; simp
 ·rw [if_neg (by exact fun z=>iN [_,_] [] 2 6667149772945 T1 z h),if_neg h]
@[simp] theorem Zpo (n k:Nat):ixD n (k:Int) = if k < n then some k else none:=Zny n k
@[simp] theorem ZvE (m n:Nat):ixD m (no_index (Yfj n:Int)) = if (Yfj n:Nat) < m then some (Yfj n:Nat) else none:=Zny m n
theorem Zi5 {α:Type} (xs:List α):cutD xs none (some (-1)) = xs.dropLast:=by
 unfold cutD sIx;simp only [Ye4];rw [if_pos (by decide),List.dropLast_eq_take];congr 1;omega
inductive Row where
 | put (a:Nat) (n:Int) | add (a b c:Nat) | sub (a b c:Nat) | more (a b c:Nat) | get (a b:Nat) | set (a b:Nat) | jump (k:Nat) | when (a k:Nat) | tell (a:Nat) | halt
 deriving Inhabited
noncomputable def Zq:Row -> D
 | .put a n=>.tup [.str [112,117,116],.int a,.int n]
 | .add a b c=>.tup [.str [97,100,100],.int a,.int b,.int c]
 | .sub a b c=>.tup [.str [115,117,98],.int a,.int b,.int c]
 | .more a b c=>.tup [.str [109,111,114,101],.int a,.int b,.int c]
 | .get a b=>.tup [.str [103,101,116],.int a,.int b]
 | .set a b=>.tup [.str [115,101,116],.int a,.int b]
 | .jump k=>.tup [.str [106,117,109,112],.int k]
 | .when a k=>.tup [.str [119,104,101,110],.int a,.int k]
 | .tell a=>.tup [.str [116,101,108,108],.int a]
 | .halt=>.tup [.str [104,97,108,116]]
noncomputable def Row.ok (many:Nat):Row -> Prop
 | .put a _=>a < 8
 | .add a b c=>a < 8 /\ b < 8 /\ c < 8
 | .sub a b c=>a < 8 /\ b < 8 /\ c < 8
 | .more a b c=>a < 8 /\ b < 8 /\ c < 8
 | .get a b=>a < 8 /\ b < 8
 | .set a b=>a < 8 /\ b < 8
 | .jump k=>k < many
 | .when a k=>a < 8 /\ k < many
 | .tell a=>a < 8
 | .halt=>True
noncomputable abbrev Zbx:=List Row
noncomputable def Zf (r:Zbx):D:=.tup (r.map Zq)
structure ZbX (r:Zbx):Prop where
 rows:∀ x ∈ r,x.ok r.length
 last:∃ q x,r = q ++ [x] /\ (x = .halt \/ ∃ k,x = .jump k)
structure Stt where
 place:Nat
 boxes:List Int
 cells:List (Int × Int)
 deriving Inhabited,DecidableEq
noncomputable def Zh (bs:List Int):D:=.tup (bs.map D.int)
noncomputable def Za7 (c:Int × Int):D:=.tup [.int c.1,.int c.2]
noncomputable def Zbi (cs:List (Int × Int)):D:=.tup (cs.map Za7)
noncomputable def Zax (s:Stt):D:=.tup [.int s.place,Zh s.boxes,Zbi s.cells]
def Stt.ok (r:Zbx) (s:Stt):Prop:=s.place < r.length /\ s.boxes.length = 8
noncomputable def Row.tells (bs:List Int):Row -> Option Int
 | .tell a=>bs[a]?
 | _=>none
noncomputable def Row.isHalt:Row -> Bool
 | .halt=>true
 | _=>false
@[simp] theorem ZtY {a:Nat} {n:Int} {bs:List Int}:(Row.put a n).tells bs = none:=rfl
@[simp] theorem ZtQ {a:Nat} {n:Int}:(Row.put a n).isHalt = false:=rfl
@[simp] theorem ZtX {a:Nat} {b:Nat} {c:Nat} {bs:List Int}:(Row.add a b c).tells bs = none:=rfl
@[simp] theorem ZtD {a:Nat} {b:Nat} {c:Nat}:(Row.add a b c).isHalt = false:=rfl
@[simp] theorem Zt2 {a:Nat} {b:Nat} {c:Nat} {bs:List Int}:(Row.sub a b c).tells bs = none:=rfl
@[simp] theorem ZtM {a:Nat} {b:Nat} {c:Nat}:(Row.sub a b c).isHalt = false:=rfl
@[simp] theorem Zst {a:Nat} {b:Nat} {c:Nat} {bs:List Int}:(Row.more a b c).tells bs = none:=rfl
@[simp] theorem ZrX {a:Nat} {b:Nat} {c:Nat}:(Row.more a b c).isHalt = false:=rfl
@[simp] theorem Zt0 {a:Nat} {b:Nat} {bs:List Int}:(Row.get a b).tells bs = none:=rfl
@[simp] theorem Zsz {a:Nat} {b:Nat}:(Row.get a b).isHalt = false:=rfl
@[simp] theorem ZtV {a:Nat} {b:Nat} {bs:List Int}:(Row.set a b).tells bs = none:=rfl
@[simp] theorem Zts {a:Nat} {b:Nat}:(Row.set a b).isHalt = false:=rfl
@[simp] theorem Ztr {k:Nat} {bs:List Int}:(Row.jump k).tells bs = none:=rfl
@[simp] theorem Zsd {k:Nat}:(Row.jump k).isHalt = false:=rfl
@[simp] theorem Ztn {a:Nat} {k:Nat} {bs:List Int}:(Row.when a k).tells bs = none:=rfl
@[simp] theorem Zr4 {a:Nat} {k:Nat}:(Row.when a k).isHalt = false:=rfl
@[simp] theorem ZtL {a:Nat} {bs:List Int}:(Row.tell a).tells bs = bs[a]?:=rfl
@[simp] theorem Zsf {a:Nat}:(Row.tell a).isHalt = false:=rfl
@[simp] theorem ZsC  {bs:List Int}:(Row.halt).tells bs = none:=rfl
@[simp] theorem Zr5 :(Row.halt).isHalt = true:=rfl
theorem ZcW (n:Nat) (i:Int):ZaM n (.int i) = true:=by cases n <;> rfl
theorem Zg3 (n:Nat) (i:List Nat):ZaM n (.str i) = true:=by cases n <;> rfl
theorem Zgo (n:Nat) (bs:List Int):ZaM (n + 1) (Zh bs) = true:=by simp [Zh,ZeA,Zew,Zev,ZeH,ZeI,ZcW]
mutual
theorem ZoV:∀ (n:Nat) (d:D),ZaM n d = true -> deq d d = true
 | _,.non,_=>rfl
 | _,.bl b,_=>beq_self_eq_true b
 | _,.int b,_=>beq_self_eq_true b
 | _,.str b,_=>beq_self_eq_true b
 | 0,.tup _,h=>ft h
 | n + 1,.tup ds,h=>ZgW n ds (Yaf.mp h)
 | n,.scr _,h=>by cases n <;> exact ft h
 | n,.ref _,h=>by cases n <;> exact ft h
theorem ZgW:∀ (n:Nat) (ds:List D),(∀ d ∈ ds,ZaM n d = true) -> Zej ds ds = true
 | _,[],_=>rfl
 | n,d :: ds,h=>by
  simp only [ZhI,ZfS,Yv];exact ⟨ZoV n d (h d Y7),ZgW n ds fun x hx=>h x (Y3 _ hx)⟩
end
theorem Zop {ds:List D} (h:ds.all (ZaM DEEP) = true):Zej ds ds = true:=ZgW DEEP ds (by simpa using h)
def Rt (o:O3) (d:D):Prop:=∃ M',o = .rt d M'
theorem Rt.set {i:Nat} {f:E3} {g:S3} {env env':ZaD} {M M':Store} {d r:D} (h:f env M = .ok d M') (k:Rt (g env' M') r) (he:env.set i (some d) = env':=by first | (dsimp only [Ybu,Ybv] <;> exact rfl) | exact rfl):Rt (Zw (Zaj i f) g env M) r:=by
 rw [Rt,Zg (Zy h he)]; exact k
theorem Rt.skip {c:E3} {u g:S3} {env:ZaD} {M M':Store} {r:D} (h:c env M = .ok (.bl false) M') (k:Rt (g env M') r):Rt (Zw (sIf c u Zab) g env M) r:=by
 rw [Rt,Zg (Zo h)]; exact k
theorem Rt.loop {i:I3} {t:G3} {u g:S3} {env env':ZaD} {M M' M1:Store} {it:It3} {r:D} (h:i env M = .ok it M1) (hl:Ze0 it t u it.items env M1 = .nx env' M') (k:Rt (g env' M') r):Rt (Zw (Zlb i t u) g env M) r:=by
 rw [Rt,Zg ((Ziu h).trans hl)]; exact k
theorem Rt.ret {f:E3} {env:ZaD} {M M':Store} {d:D} (h:f env M = .ok d M'):Rt (Zaf f env M) d:=⟨M',Zaq h⟩
theorem Rt.law {ps n:Nat} {body:S3} {ds:List D} {env:ZaD} {b:Bool} (h:Rt (body env []) (.bl b)) (hl:ds.length = ps:=by rfl) (he:ds.map some ++ Yg (n - ps) none = env:=by rfl):∃ M',mkF ps n body ds [] = .ok (.bl b) M':=by
 obtain ⟨M',h⟩:=h;exact ⟨_,(ZdC h hl he).trans (by rw [ZdS,if_pos (by simp [below])])⟩
theorem Rt.pure {ps n:Nat} {body:S3} {ds:List D} {env:ZaD} {M G:Store} {d:D} (h:body env M = .rt d (M ++ G)) (hd:below M.length d = true) (hl:ds.length = ps:=by rfl) (he:ds.map some ++ Yg (n - ps) none = env:=by rfl):mkF ps n body ds M = .ok d M:=
 (ZdC h hl he).trans (Zjc hd)
theorem ZiJ {α:Type} {enc:α -> D} {P:Nat -> α -> Prop}:∀ (es:List D),(∀ (j:Nat) e,es[j]? = some e -> ∃ a,e = enc a /\ P j a) -> ∃ as:List α,es = as.map enc /\ ∀ (j:Nat) a,as[j]? = some a -> P j a
 | [],_=>⟨[],rfl,fun j a h=>by simp at h⟩
 | e :: es,h=>by
  obtain ⟨a,rfl,pa⟩:=h 0 e rfl;obtain ⟨as,rfl,ps⟩:=ZiJ (enc:=enc) (P:=fun j=>P (j + 1)) es fun j e he=>h (j + 1) e (by simpa using he);refine ⟨a :: as,rfl,fun j b hb=>?_⟩;cases j with
  | zero=>simp at hb; subst hb; exact pa
  | succ j=>exact ps j b (by simpa using hb)
theorem Zra {n:Nat} {lo:Int} {j:Nat} {d:D} (h:(Zdl lo n)[j]? = some d):d = .int (lo + j) /\ j < n:=by
 unfold Zdl at h;rw [Y1] at h;cases q:(Yt n)[j]? with
 | none=>rw [q] at h; cases h
 | some k=>
  rw [q] at h;obtain ⟨hi,e⟩:=Yc.mp q;rw [List.getElem_range] at e;subst e;simp at h hi;exact ⟨h.symm,hi⟩
theorem Zg8 {n:Nat} {j:Nat} {d:D} (h:(Zdl 0 n)[j]? = some d):d = .int (j:Int) /\ j < n:=by
 obtain ⟨e,l⟩:=Zra h;exact ⟨by rw [e,Ydk],l⟩
theorem Zg5 (lo:Int) (n:Nat):(Zdl lo n).length = n:=by simp [Zdl]
theorem Zh0 {o arg:E3} {env:ZaD} {M M2:Store} {n:Nat} {xs ys:List D} {d:D} (ho:o env M = .ok (.ref n) M) (hM:M[n]? = some (.lst xs)) (ha:arg env M = .ok d M2) (hM2:M2[n]? = some (.lst ys)) (hz:ys.length < 1000000):
  ZeQ tyL Zb3 o (Zb arg Zj) env M = .ok .non (M2.set n (.lst (ys ++ [d]))):=by
 simp [ho,hM,ha,hM2,hz]
theorem Zq6 {M:Store} {n m:Nat} {xs:List D} (h1:M[n]? = some (.lst xs)) (h2:M[m]? = some (.lst xs)) (hp:xs.all (ZaM DEEP) = true):Zam (.ref n) (.ref m) M = .ok (.bl true) M:=by
 simp only [Zam,ZdF,ZdJ,ZdQ,ZdE,ZdH,h1,h2,hp,Ycu,if_true,Zop hp]
theorem Zac {op:D -> D -> Store -> R3 D} {f g:E3} {env:ZaD} {M M1 M2 M3:Store} {a b d:D} (h1:f env M = .ok a M1) (h2:g env M1 = .ok b M2) (h3:op a b M2 = .ok d M3):e2 op f g env M = .ok d M3:=by
 simp only [e2,h1,h2,h3,R3.bind]
theorem ZhL {F:F3} {f:E3} {env:ZaD} {M M1 M2:Store} {a d:D} (h1:f env M = .ok a M1) (h2:F [a] M1 = .ok d M2):Zae F (Zb f Zj) env M = .ok d M2:=by
 simp only [Zae,Zb,Zj,h1,h2,R3.bind]
theorem Zck {F:F3} {f g:E3} {env:ZaD} {M M1 M2 M3:Store} {a b d:D} (h1:f env M = .ok a M1) (h2:g env M1 = .ok b M2) (h3:F [a,b] M2 = .ok d M3):Zae F (Zb f (Zb g Zj)) env M = .ok d M3:=by
 simp only [Zae,Zb,Zj,h1,h2,h3,R3.bind]
theorem Zb8 {F:F3} {f g h:E3} {env:ZaD} {M M1 M2 M3 M4:Store} {a b c d:D} (h1:f env M = .ok a M1) (h2:g env M1 = .ok b M2) (h3:h env M2 = .ok c M3) (h4:F [a,b,c] M3 = .ok d M4):Zae F (Zb f (Zb g (Zb h Zj))) env M = .ok d M4:=by
 simp only [Zae,Zb,Zj,h1,h2,h3,h4,R3.bind]
@[simp] theorem ZvV (a b:Ty3):(a == b) = decide (a = b):=by cases a <;> cases b <;> rfl
theorem ZhH {F:F3} {f g h k:E3} {env:ZaD} {M M1 M2 M3 M4 M5:Store} {a b c d e:D} (h1:f env M = .ok a M1) (h2:g env M1 = .ok b M2) (h3:h env M2 = .ok c M3) (h4:k env M3 = .ok d M4) (h5:F [a,b,c,d] M4 = .ok e M5):Zae F (Zb f (Zb g (Zb h (Zb k Zj)))) env M = .ok e M5:=by
 simp only [Zae,Zb,Zj,h1,h2,h3,h4,h5,R3.bind]
theorem ZdN {b:List D -> Store -> R3 D} {f:E3} {env:ZaD} {M M1 M2:Store} {a d:D} (h1:f env M = .ok a M1) (h2:b [a] M1 = .ok d M2):Zak b (Zb f Zj) env M = .ok d M2:=by
 simp only [Zak,Zb,Zj,h1,h2,R3.bind]
theorem ZfX {op:D -> Store -> R3 D} {f:E3} {env:ZaD} {M M1 M2:Store} {a d:D} (h1:f env M = .ok a M1) (h2:op a M1 = .ok d M2):e1 op f env M = .ok d M2:=by
 simp only [e1,h1,h2,R3.bind]
theorem Za4 {f:E3} {g:EL3} {env:ZaD} {M M1 M2:Store} {d:D} {ds:List D} (h1:f env M = .ok d M1) (h2:g env M1 = .ok ds M2):Zb f g env M = .ok (d :: ds) M2:=by
 simp only [Zb,h1,h2,R3.bind]
theorem ZcO {g:EL3} {env:ZaD} {M M':Store} {ds:List D} (h:g env M = .ok ds M') (hl:decide (ds.length <= 100) = true):ZaB g env M = .ok (.tup ds) M':=by
 have:=of_decide_eq_true hl;simp only [ZaB,h,R3.bind];rw [if_pos (Y2 this (by decide))]
theorem Zfy {n:Nat} {M:Store} {xs:List D} (h:M[n]? = some (.lst xs)):ZaR [.ref n] M = .ok (.int (xs.length:Int)) M:=by simp only [Zgs,Zgp,Zgr,Zea,h]
theorem Zk6 {n:Nat} {M:Store} {xs:List D} (h:M[n]? = some (.lst xs)):ZaZ [.ref n] M = .ok (.tup xs) M:=by simp only [ZhM,ZhG,Zd2,h]
theorem Zli {n:Nat} {M:Store} {xs:List D} {i:Int} {d:D} (h:M[n]? = some (.lst xs)) (hd:Zbb xs i = some d):Ze (.ref n) (.int i) M = .ok d M:=by simp only [ZaT,ZaU,ZaS,ZaL,h,hd]
theorem ZeB {M:Store} {xs:List D} {i:Int} {d:D} (hd:Zbb xs i = some d):Ze (.tup xs) (.int i) M = .ok d M:=by simp only [ZaT,ZaU,ZaS,ZaL,hd]
theorem ZvZ {a b:Int} {M:Store} (h:a <= b):ZiF (.int a) (.int b) M = .ok (.bl true) M:=by simp only [ZnO,decide_eq_true h]
theorem Zwn {a b:Int} {M:Store} (h:¬ a <= b):ZiF (.int a) (.int b) M = .ok (.bl false) M:=by simp only [ZnO,decide_eq_false h]
theorem Zwp {a b:Int} {M:Store} (h:a = b):Zam (.int a) (.int b) M = .ok (.bl true) M:=by simp only [Zam,ZdF,ZdJ,ZdQ,ZdE,ZdH,decide_eq_true h]
theorem ZuT {a b:List Nat} {M:Store} (h:¬ a = b):ZbC (.str a) (.str b) M = .ok (.bl true) M:=by simp only [ZbC,ZdF,ZdJ,ZdQ,ZdE,ZdH,decide_eq_false h]; rfl
theorem Zsg {a b:List Nat} {M:Store} (h:a = b):ZbC (.str a) (.str b) M = .ok (.bl false) M:=by simp only [ZbC,ZdF,ZdJ,ZdQ,ZdE,ZdH,decide_eq_true h]; rfl
theorem ZgP {i j:Int} {M:Store} (h:0 < j):Zaz (.int i) (.int j) M = .ok (.int (i % j)) M:=by simp only [Zlz,if_pos h]
theorem ZdU {f g:E3} {env:ZaD} {M M1:Store} (h1:f env M = .ok (.bl false) M1):eOr f g env M = g env M1:=by simp only [eOr,h1,R3.bind]
theorem ZiT {f g:E3} {env:ZaD} {M M1:Store} (h1:f env M = .ok (.bl true) M1):eOr f g env M = .ok (.bl true) M1:=by simp only [eOr,h1,R3.bind]
theorem ZgY {f g:E3} {env:ZaD} {M M1:Store} (h1:f env M = .ok (.bl true) M1):Zc7 f g env M = g env M1:=by simp only [Zc7,h1,R3.bind]
theorem ZkU {f g:E3} {env:ZaD} {M M1:Store} (h1:f env M = .ok (.bl false) M1):Zc7 f g env M = .ok (.bl false) M1:=by simp only [Zc7,h1,R3.bind]
theorem Zsa {c f g:E3} {env:ZaD} {M M1:Store} (h1:c env M = .ok (.bl true) M1):eIf c f g env M = f env M1:=by simp only [eIf,h1,R3.bind]
theorem Zsb {c f g:E3} {env:ZaD} {M M1:Store} (h1:c env M = .ok (.bl false) M1):eIf c f g env M = g env M1:=by simp only [eIf,h1,R3.bind]
theorem ZtT {α:Type} {enc:α -> D} {h:α -> D} {own:Nat} {i:Nat} {it:I3} {elt:E3} {env:ZaD} {M M1:Store} {lock:Option Nat} {as:List α} (hi:it env M = .ok ⟨as.map enc,lock⟩ M1) (hlock:∀ n,lock = some n -> M1[n]? = some (.lst (as.map enc)))
  (he:∀ a ∈ as,∀ M,elt ((env ++ Yg own none).set i (some (enc a))) M = .ok (h a) M) (hz:as.length <= 100000):eLC it own (Zcj i) [] elt env M = .ok (.ref M1.length) (M1 ++ [.lst (as.map h)]):=by
 rw [Zna hi];obtain ⟨es,le,re,hh⟩:=ZlD (it:=⟨as.map enc,lock⟩) (i:=i) (n:=M1.length) (elt:=elt) (R:=fun d e=>∀ a ∈ as,d = enc a -> e = h a) (env0:=env ++ Yg own none) (as.map enc) [] (env ++ Yg own none) (M1 ++ [.lst []]) (fun _=>rfl)
  (fun d hd x=>by
   obtain ⟨a,ha,rfl⟩:=Ybi.mp hd;refine ⟨h a,he a ha _,fun b hb e=>?_⟩;have h1:=he a ha [];have h2:=he b hb [];rw [e,h2] at h1;injection h1 with h1 _;exact h1.symm)
  (fun x=>by
   cases lock with
   | none=>rfl
   | some n=>
    have hn:=hlock n rfl;have hlt:=(Yc.mp hn).1;simp only [locked,decide_eq_true_eq];rw [Yab (by exact fun z=>lB 2 25787699233 T1 z hlt),Y0 hlt,hn]) (by simp) (by simp; exact lA 1 0xf42405b00186a05b001 T1 hz)
 rw [show (⟨as.map enc,lock⟩:It3).items = as.map enc from rfl,hh];have:es = as.map h:=by
  apply Ybb;intro j;rw [Y1];cases ha:as[j]? with
  | none=>
   have:as.length <= j:=by simpa using ha
   simp [le]; exact this
  | some a=>
   have hj:j < es.length:=by
    have:=(Yc.mp ha).1;simpa [le] using this
   have h2:=re j (enc a) es[j] (by simp [ha]) (by simp [hj]) a (Yax ha) rfl;rw [Yo hj,h2]; rfl
 rw [this];simp
noncomputable def ZiL (t:List (Int × Int)) (n v:Int):List (Int × Int):=if t.any (fun p=>decide (p.1 = n)) = true then t.map (fun p=>if p.1 = n then (p.1,v) else p) else t ++ [(n,v)]
noncomputable def ZaV (t:List (Int × Int)):List (Zbw × D):=t.map fun p=>(.inl p.1,.int p.2)
def keysOk (t:List (Int × Int)):Prop:=(t.map (·.1)).Nodup
noncomputable def ZfQ:List (Int × Int) -> Int -> Int
 | [],_=>0
 | (k,v) :: r,n=>if k = n then v else ZfQ r n
theorem Zo9 (t:List (Int × Int)) (n v:Int):putD (.inl n) (.int v) (ZaV t) = ZaV (ZiL t n v):=by
 have ha:((ZaV t).any fun p=>decide (p.1 = (.inl n:Zbw))) = t.any fun p=>decide (p.1 = n):=by
  simp [ZaV,List.any_map,Function.comp_def]
 unfold putD ZiL;rw [ha];by_cases c:(t.any fun p=>decide (p.1 = n)) = true
 ·rw [if_pos c,if_pos c]
  simp only [ZaV,Ye0];apply Ydh;intro p _;by_cases e:p.1 = n
  ·simp [e]
  ·simp [e]
 ·rw [if_neg c,if_neg c]
  simp [ZaV]
theorem Zmg (t:List (Int × Int)) (n:Int):ZcV (ZaV t) (.inl n) = (if t.any (fun p=>decide (p.1 = n)) = true then some (D.int (ZfQ t n)) else none):=by
 induction t with
 | nil=>rfl
 | cons p t ih=>
  obtain ⟨k,v⟩:=p;show (if (Sum.inl k:Zbw) = Sum.inl n then some (D.int v) else ZcV (ZaV t) (.inl n)) = _;by_cases e:k = n
  ·simp [e,ZfQ]
  ·rw [if_neg (by simp [e]),ih]
   simp only [Yba,ZfQ,if_neg e,decide_eq_false e,Yfh]
theorem Zgv {t:List (Int × Int)} {n:Int} (h:¬ t.any (fun p=>decide (p.1 = n)) = true):ZfQ t n = 0:=by
 induction t with
 | nil=>rfl
 | cons p t ih=>
  obtain ⟨k,v⟩:=p;simp only [Yba,Yca,decide_eq_true_eq,not_or] at h;simp only [ZfQ,if_neg h.1];exact ih (by simpa using h.2)
theorem Zmw (t:List (Int × Int)) (n:Int):(ZcV (ZaV t) (.inl n)).getD (.int 0) = .int (ZfQ t n):=by
 rw [Zmg];by_cases c:(t.any fun p=>decide (p.1 = n)) = true
 ·rw [if_pos c]; rfl
 ·rw [if_neg c,Zgv c]; rfl
theorem Zkw {t:List (Int × Int)} (n v:Int) (h:keysOk t):keysOk (ZiL t n v):=by
 unfold keysOk ZiL at *;by_cases c:(t.any fun p=>decide (p.1 = n)) = true
 ·rw [if_pos c,Ye0]
  have:(t.map ((fun x=>x.1) ∘ fun p=>if p.1 = n then (p.1,v) else p)) = t.map (·.1):=by
   apply Ydh;intro p _;by_cases e:p.1 = n <;> simp [e]
  rw [this]; exact h
 ·rw [if_neg c,Ygo]
  refine List.nodup_append.mpr ⟨h,by simp,fun x hx y hy=>?_⟩;simp at hy;subst hy;rintro rfl;obtain ⟨p,hp,e⟩:=Ybi.mp hx;exact c (Yby.mpr ⟨p,hp,by simp [e]⟩)
theorem ZqL {t:List (Int × Int)} {n v:Int} (q:Int × Int):q ∈ ZiL t n v ↔ (q = (n,v)) \/ (q.1 ≠ n /\ q ∈ t):=by
 obtain ⟨a,b⟩:=q;unfold ZiL;by_cases c:(t.any fun p=>decide (p.1 = n)) = true
 ·rw [if_pos c,Ybi]
  constructor
  ·rintro ⟨p,hp,e⟩
   by_cases ep:p.1 = n
   ·rw [if_pos ep] at e
    left; rw [← e,ep]
   ·rw [if_neg ep] at e
    right; rw [← e]; exact ⟨ep,hp⟩
  ·rintro (e | ⟨h1,h2⟩)
   ·obtain ⟨p,hp,ep⟩:=Yby.mp c
    have ep:p.1 = n:=by simpa using ep
    exact ⟨p,hp,by rw [if_pos ep,e,ep]⟩
   ·exact ⟨(a,b),h2,by rw [if_neg h1]⟩
 ·rw [if_neg c,Ybe,Yds]
  constructor
  ·rintro (h | h)
   ·right
    refine ⟨fun z=>c (Yby.mpr ⟨(a,b),h,by simpa using z⟩),h⟩
   ·left; exact h
  ·rintro (h | ⟨_,h⟩)
   ·right; exact h
   ·left; exact h
theorem Zf2 {t:List (Int × Int)} (h:keysOk t) {k v:Int} (hm:(k,v) ∈ t):ZfQ t k = v:=by
 induction t with
 | nil=>simp at hm
 | cons p t ih=>
  obtain ⟨a,b⟩:=p;unfold keysOk at h;simp only [Y9,Ycm] at h;rcases Yah.mp hm with e | e
  ·cases e; simp [ZfQ]
  ·have:a ≠ k:=fun z=>h.1 (Ybi.mpr ⟨(k,v),e,z.symm⟩)
   simp only [ZfQ,if_neg this];exact ih h.2 e
def Zfx (cs:List (Int × Int)):Prop:=cs.Pairwise fun a b=>a.1 < b.1
theorem Zfx.keys {cs:List (Int × Int)} (h:Zfx cs):keysOk cs:=by
 unfold keysOk Zfx at *;rw [Yda,Yd1];exact h.imp fun h=>(fun z=>iN [] [_,_] 2 26047746225 T1 z h)
theorem Zl7:∀ {x y:List (Int × Int)},Zfx x -> Zfx y -> (∀ q,q ∈ x ↔ q ∈ y) -> x = y
 | [],[],_,_,_=>rfl
 | [],b :: y,_,_,h=>by have:=(h b).mpr Y7; simp at this
 | a :: x,[],_,_,h=>by have:=(h a).mp Y7; simp at this
 | a :: x,b :: y,hx,hy,h=>by
  have hx':=Ybt.mp hx;have hy':=Ybt.mp hy;have e:a = b:=by
   rcases Yah.mp ((h a).mp Y7) with e | e
   ·exact e
   ·rcases Yah.mp ((h b).mpr Y7) with e' | e'
    ·exact e'.symm
    ·have h1:=hy'.1 a e
     have h2:=hx'.1 b e';exact (iN [] [_,_] 2 25796087953 T1 h2 h1).elim
  subst e;congr 1;refine Zl7 hx'.2 hy'.2 fun q=>?_;constructor
  ·intro hq
   rcases Yah.mp ((h q).mp (Y3 _ hq)) with e | e
   ·subst e; have:=hx'.1 q hq; exact (iN [] [_] 1 393361 T1 this).elim
   ·exact e
  ·intro hq
   rcases Yah.mp ((h q).mpr (Y3 _ hq)) with e | e
   ·subst e; have:=hy'.1 q hq; exact (iN [] [_] 1 393361 T1 this).elim
   ·exact e
noncomputable def Znq (p:Int × Int):List (Int × Int) -> List (Int × Int)
 | []=>[p]
 | q :: r=>if p.1 < q.1 then p :: q :: r else q :: Znq p r
theorem ZhC (p:Int × Int):∀ r,(Znq p r).Perm (p :: r)
 | []=>.refl _
 | q :: r=>by
  unfold Znq;split
  ·exact .refl _
  ·exact ((ZhC p r).cons q).trans (.swap p q r)
theorem ZjT {p:Int × Int}:∀ {r:List (Int × Int)},Zfx r -> (∀ q ∈ r,q.1 ≠ p.1) -> Zfx (Znq p r)
 | [],_,_=>by simp [Znq,Zfx]
 | q :: r,h,hn=>by
  have h':=Ybt.mp h;unfold Znq;split
  ·rename_i c
   refine Ybt.mpr ⟨fun x hx=>?_,h⟩;rcases Yah.mp hx with e | e
   ·subst e; exact c
   ·have:=h'.1 x e; exact Int.lt_trans c this
  ·rename_i c
   refine Ybt.mpr ⟨fun x hx=>?_,ZjT h'.2 fun x hx=>hn x (Y3 _ hx)⟩;rcases Yah.mp ((ZhC p r).mem_iff.mp hx) with e | e
   ·subst e; have:=hn q Y7; exact (Yec.2 ⟨(Yef.1 c),this⟩)
   ·exact h'.1 x e
noncomputable def Zbj:List (Int × Int) -> List (Int × Int)
 | []=>[]
 | p :: t=>if p.2 ≠ 0 then Znq p (Zbj t) else Zbj t
theorem ZfA:∀ t:List (Int × Int),(Zbj t).Perm (t.filter fun p=>decide (p.2 ≠ 0))
 | []=>.refl _
 | p :: t=>by
  unfold Zbj;by_cases c:p.2 ≠ 0
  ·rw [if_pos c,Yfk (by simpa using c)]
   exact (ZhC p _).trans ((ZfA t).cons p)
  ·rw [if_neg c,Yfl (by simpa using c)]
   exact ZfA t
theorem ZdX {t:List (Int × Int)} {q:Int × Int}:q ∈ Zbj t ↔ q ∈ t /\ q.2 ≠ 0:=by
 rw [(ZfA t).mem_iff,Ycj]; simp
theorem ZdY:∀ {t:List (Int × Int)},keysOk t -> Zfx (Zbj t)
 | [],_=>by simp [Zbj,Zfx]
 | p :: t,h=>by
  unfold keysOk at h;simp only [Y9,Ycm] at h;unfold Zbj;split
  ·refine ZjT (ZdY h.2) fun q hq=>?_
   intro e;exact h.1 (Ybi.mpr ⟨q,(ZdX.mp hq).1,e⟩)
  ·exact ZdY h.2
noncomputable def Zfb (cs:List (Int × Int)) (n v:Int):List (Int × Int):=cs.filter (fun c=>decide (c.1 < n)) ++ (if v ≠ 0 then [(n,v)] else []) ++ cs.filter (fun c=>decide (n < c.1))
theorem Zmk {cs:List (Int × Int)} {n v:Int} {q:Int × Int}:q ∈ Zfb cs n v ↔ (q = (n,v) /\ v ≠ 0) \/ (q.1 ≠ n /\ q ∈ cs):=by
 unfold Zfb;simp only [Ybe,Ycj,decide_eq_true_eq];have hm:q ∈ (if v ≠ 0 then [(n,v)] else []) ↔ (q = (n,v) /\ v ≠ 0):=by
  by_cases c:v ≠ 0
  ·rw [if_pos c]; simp [c]
  ·rw [if_neg c]; simp [c]
 rw [hm];constructor
 ·rintro ((⟨h1,h2⟩ | h) | ⟨h1,h2⟩)
  ·right; exact ⟨(fun z=>iN [] [_,_] 2 26047746225 T1 z h2),h1⟩
  ·left; exact h
  ·right; exact ⟨(fun z=>iN [] [_,_] 2 25796087969 T1 z h2),h1⟩
 ·rintro (h | ⟨h1,h2⟩)
  ·left; right; exact h
  ·rcases Int.lt_or_gt_of_ne h1 with c | c
   ·left; left; exact ⟨h2,c⟩
   ·right; exact ⟨h2,c⟩
theorem Zhe {cs:List (Int × Int)} {n v:Int} (h:Zfx cs):Zfx (Zfb cs n v):=by
 unfold Zfb Zfx at *;have hm:∀ q ∈ (if v ≠ 0 then [(n,v)] else []),q.1 = n:=fun q hq=>by
  by_cases c:v ≠ 0
  ·rw [if_pos c] at hq; simp at hq; rw [hq]
  ·rw [if_neg c] at hq; simp at hq
 refine Yg4.mpr ⟨Yg4.mpr ⟨h.filter _,?_,fun a ha b hb=>?_⟩,h.filter _,fun a ha b hb=>?_⟩
 ·by_cases c:v ≠ 0
  ·rw [if_pos c]; simp
  ·rw [if_neg c]; simp
 ·have h1:=(Ycj.mp ha).2
  rw [hm b hb]; simpa using h1
 ·have h2:n < b.1:=by simpa using (Ycj.mp hb).2
  rcases Ybe.mp ha with ha | ha
  ·have:a.1 < n:=by simpa using (Ycj.mp ha).2
   exact Int.lt_trans this h2
  ·rw [hm a ha]; exact h2
theorem ZoY {t:List (Int × Int)} (h:keysOk t) (n v:Int):Zbj (ZiL t n v) = Zfb (Zbj t) n v:=by
 refine Zl7 (ZdY (Zkw n v h)) (Zhe (ZdY h)) fun q=>?_;rw [ZdX,Zmk,ZqL,ZdX];constructor
 ·rintro ⟨h1 | ⟨h1,h2⟩,h3⟩
  ·left; refine ⟨h1,?_⟩; rw [h1] at h3; exact h3
  ·right; exact ⟨h1,h2,h3⟩
 ·rintro (⟨h1,h2⟩ | ⟨h1,h2,h3⟩)
  ·exact ⟨.inl h1,by rw [h1]; exact h2⟩
  ·exact ⟨.inr ⟨h1,h2⟩,h3⟩
theorem ZoO {t:List (Int × Int)} (h:keysOk t) (n:Int):ZfQ (Zbj t) n = ZfQ t n:=by
 by_cases c:(t.any fun p=>decide (p.1 = n)) = true
 ·obtain ⟨p,hp,e⟩:=Yby.mp c
  have e:p.1 = n:=by simpa using e
  obtain ⟨a,b⟩:=p;simp only at e;subst e;rw [Zf2 h hp];by_cases z:b = 0
  ·subst z
   rw [Zgv];intro q;obtain ⟨p',hp',e'⟩:=Yby.mp q;have e':p'.1 = a:=by simpa using e'
   obtain ⟨a',b'⟩:=p';simp only at e';subst e';have h1:=(ZdX.mp hp').1;have h2:=(ZdX.mp hp').2;have:=Zf2 h h1;rw [Zf2 h hp] at this;exact h2 this.symm
  ·exact Zf2 (ZdY h).keys (ZdX.mpr ⟨hp,z⟩)
 ·rw [Zgv c,Zgv]
  intro q;obtain ⟨p',hp',e'⟩:=Yby.mp q;exact c (Yby.mpr ⟨p',(ZdX.mp hp').1,e'⟩)
noncomputable def Row.place (bs:List Int) (p:Nat):Row -> Nat
 | .jump k=>k
 | .when a k=>if 0 < bs.getD a 0 then k else p + 1
 | _=>p + 1
noncomputable def Row.boxes (bs:List Int) (cs:List (Int × Int)):Row -> List Int
 | .put a n=>bs.set a n
 | .add a b c=>bs.set a (bs.getD b 0 + bs.getD c 0)
 | .sub a b c=>bs.set a (bs.getD b 0 - bs.getD c 0)
 | .more a b c=>bs.set a (if bs.getD c 0 < bs.getD b 0 then 1 else 0)
 | .get a b=>bs.set a (ZfQ cs (bs.getD b 0))
 | _=>bs
noncomputable def Row.cells (bs:List Int) (cs:List (Int × Int)):Row -> List (Int × Int)
 | .set a b=>Zfb cs (bs.getD a 0) (bs.getD b 0)
 | _=>cs
noncomputable def Zkf (s:Stt) (r:Row):Option Stt:=if r.isHalt then none else some ⟨r.place s.boxes s.place,r.boxes s.boxes s.cells,r.cells s.boxes s.cells⟩
noncomputable def Zfw (roll:Zbx) (s:Stt):Option Stt:=(roll[s.place]?).bind (Zkf s)
noncomputable def Zxk:Option Stt -> D
 | none=>.non
 | some s=>Zax s
theorem ZmS (cs:List (Int × Int)):Zem (cs.map Za7) = some (ZaV cs):=by
 induction cs with
 | nil=>rfl
 | cons p cs ih=>rw [Y9,Za7,Zpt,ih]; rfl
theorem Zqc (kvs:List (Zbw × D)) (k j:Zbw) (v:D):ZcV (putD k v kvs) j = if j = k then some v else ZcV kvs j:=by
 have mp:∀ l:List (Zbw × D),ZcV (l.map fun p=>if p.1 = k then (p.1,v) else p) j = if j = k then (if l.any (fun p=>decide (p.1 = k)) then some v else none) else ZcV l j:=by
  intro l
  induction l with
  | nil=>simp [ZcV]
  | cons p l ih=>
   obtain ⟨a,b⟩:=p;rw [Y9];by_cases e:a = k
   ·subst e
    simp only [if_true,ZcV];by_cases ej:a = j
    ·subst ej; simp
    ·rw [if_neg ej,ih,if_neg (Yat ej),if_neg (Yat ej),if_neg ej]
   ·simp only [if_neg e,ZcV]
    by_cases ej:a = j
    ·subst ej; simp [e]
    ·rw [if_neg ej,ih,if_neg ej]; simp only [Yba,decide_eq_false e,Yfh]
 have ap:∀ l:List (Zbw × D),¬ l.any (fun p=>decide (p.1 = k)) = true -> ZcV (l ++ [(k,v)]) j = if j = k then some v else ZcV l j:=by
  intro l
  induction l with
  | nil=>intro _; simp only [Ycp,ZcV]; by_cases e:k = j <;> simp [e,Yat,eq_comm]
  | cons p l ih=>
   intro h;obtain ⟨a,b⟩:=p;simp only [Yba,Yca,decide_eq_true_eq,not_or] at h;simp only [Yeb,ZcV];by_cases ej:a = j
   ·subst ej; rw [if_pos rfl,if_neg h.1,if_pos rfl]
   ·rw [if_neg ej,if_neg ej]; exact ih (by simpa using h.2)
 unfold putD;by_cases c:(kvs.any fun p=>decide (p.1 = k)) = true
 ·rw [if_pos c,mp,c]; simp
 ·rw [if_neg c]; exact ap kvs c
theorem Zke:∀ (l acc:List (Zbw × D)) (j:Zbw),(l.map (·.1)).Nodup -> ZcV (l.foldl (fun a p=>putD p.1 p.2 a) acc) j = (match ZcV l j with | some v=>some v | none=>ZcV acc j)
 | [],acc,j,_=>rfl
 | p :: l,acc,j,h=>by
  obtain ⟨k,v⟩:=p;simp only [Y9,Ycm] at h;rw [Ygk,Zke l _ j h.2,Zqc];simp only [ZcV];by_cases e:k = j
  ·subst e
   have:ZcV l k = none:=by
    have hn:=h.1;clear h
    induction l with
    | nil=>rfl
    | cons q l ih=>
     simp only [Y9,Yah,not_or] at hn;simp only [ZcV];rw [if_neg (Yat hn.1)]; exact ih hn.2
   rw [this]; simp
  ·rw [if_neg e,if_neg (Yat e)]
theorem Zoq {t:List (Int × Int)} (h:keysOk t):((ZaV t).map (·.1)).Nodup:=by
 unfold keysOk at h;simp only [ZaV,Ye0];rw [Yda,Yd1] at *;exact h.imp fun h e=>h (by simpa using e)
theorem ZoN {t:List (Int × Int)} (h:keysOk t) (n:Int):(ZcV (dictOf (ZaV t)) (.inl n)).getD (.int 0) = .int (ZfQ t n):=by
 unfold dictOf;rw [Zke _ _ _ (Zoq h),← Zmw];cases ZcV (ZaV t) (.inl n) <;> rfl
theorem Zg7 {α:Type} {enc h:α -> D} {p:α -> Bool} {it:It3} {i n:Nat} {c elt:E3} {env0:ZaD}:∀ (as:List α) (acc:List D) (env:ZaD) (M:Store),(∀ d,env.set i (some d) = env0.set i (some d)) ->
  (∀ a ∈ as,∀ x,c (env0.set i (some (enc a))) (M.set n (.lst x)) = .ok (.bl (p a)) (M.set n (.lst x))) -> (∀ a ∈ as,p a = true -> ∀ x,elt (env0.set i (some (enc a))) (M.set n (.lst x)) = .ok (h a) (M.set n (.lst x))) ->
  (∀ x,locked it (M.set n (.lst x)) = true) -> M[n]? = some (.lst acc) -> acc.length + as.length <= SZ ->
  ZcL it (Zcj i) [c] elt n (as.map enc) env M = .ok (.ref n) (M.set n (.lst (acc ++ (as.filter p).map h))):=by
 intro as
 induction as with
 | nil=>
  intro acc env M _ _ _ hl hM _;have e:M.set n (.lst acc) = M:=by
   apply Ybb;intro j;by_cases hj:j = n
   ·subst hj; rw [Y4 (Yc.mp hM).1,hM]
   ·rw [Yab (Yat hj)]
  have hl':=hl acc;rw [e] at hl';simp only [Yib,ZcL,hl',if_true,List.filter_nil,Yp,e]
 | cons a as ih=>
  intro acc env M he hc hf hl hM hz;have hn:n < M.length:=(Yc.mp hM).1;have e:M.set n (.lst acc) = M:=by
   apply Ybb;intro j;by_cases hj:j = n
   ·subst hj; rw [Y4 hn,hM]
   ·rw [Yab (Yat hj)]
  have hl':=hl acc;rw [e] at hl';have hc':=hc a Y7 acc;rw [e] at hc';rw [Y9];cases hp:p a with
  | false=>
   rw [hp] at hc';simp only [ZcL,hl',if_true,Zcj,he (enc a),Zfe,hc',R3.bind,Yae,if_false];rw [ih acc (env0.set i (some (enc a))) M (fun d'=>by rw [Yb5]) (fun b hb x=>hc b (Y3 _ hb) x) (fun b hb=>hf b (Y3 _ hb)) hl hM (by simp at hz ⊢; exact lB 1 0xf42405b10c0f42405ba1c0c01 T1 hz),Yfl (by simp [hp])]
  | true=>
   rw [hp] at hc';have hf':=hf a Y7 hp acc;rw [e] at hf';have hz':acc.length < SZ:=by simp at hz ⊢; exact lB 1 0xf42405b01f42405ba1c0c01 T1 hz
   simp only [ZcL,hl',if_true,Zcj,he (enc a),Zfe,hc',R3.bind,hf',hM,hz'];rw [ih (acc ++ [h a]) (env0.set i (some (enc a))) (M.set n (.lst (acc ++ [h a]))) (fun d'=>by rw [Yb5]) (fun b hb x=>by rw [Yb5]; exact hc b (Y3 _ hb) x) (fun b hb hpb x=>by rw [Yb5]; exact hf b (Y3 _ hb) hpb x) (fun x=>by rw [Yb5]; exact hl x) (by rw [Y4 hn]) (by simp at hz ⊢; exact lB 1 0xf42405b1a0cc0f42405ba1c0c01 T1 hz),Yfk hp,Yb5];simp
theorem ZhJ {α:Type} {enc h:α -> D} {p:α -> Bool} {own:Nat} {i:Nat} {it:I3} {c elt:E3} {env:ZaD} {M M1:Store} {lock:Option Nat} {as:List α} (hi:it env M = .ok ⟨as.map enc,lock⟩ M1) (hlock:∀ n,lock = some n -> M1[n]? = some (.lst (as.map enc)))
  (hc:∀ a ∈ as,∀ M,c ((env ++ Yg own none).set i (some (enc a))) M = .ok (.bl (p a)) M) (he:∀ a ∈ as,p a = true -> ∀ M,elt ((env ++ Yg own none).set i (some (enc a))) M = .ok (h a) M) (hz:as.length <= 100000):
  eLC it own (Zcj i) [c] elt env M = .ok (.ref M1.length) (M1 ++ [.lst ((as.filter p).map h)]):=by
 rw [Zna hi];have:=Zg7 (it:=⟨as.map enc,lock⟩) (i:=i) (n:=M1.length) (c:=c) (elt:=elt) (env0:=env ++ Yg own none) as [] (env ++ Yg own none) (M1 ++ [.lst []]) (fun _=>rfl) (fun a ha x=>hc a ha _) (fun a ha hp x=>he a ha hp _)
  (fun x=>by
   cases lock with
   | none=>rfl
   | some n=>
    have hn:=hlock n rfl;have hlt:=(Yc.mp hn).1;simp only [locked,decide_eq_true_eq];rw [Yab (by exact fun z=>lB 2 25787699233 T1 z hlt),Y0 hlt,hn]) (by simp) (by simp; exact lA 1 0xf42405b00186a05b001 T1 hz)
 refine this.trans ?_;simp
theorem Zm6 {x y:List (Int × Int)} (hp:y.Perm x) (hr:Zfx y):Zi7 (x.map Za7) (y.map Za7):=by
 refine ⟨hp.map _,?_⟩;rw [Yd1];refine hr.imp fun {a b} h=>?_;show (if b.1 = a.1 then _ else _) = _;rw [if_neg (by omega),decide_eq_false (by exact fun z=>iN [] [_,_] 2 25796087953 T1 z h)]
theorem Zk0 {x:List (Int × Int)} (h:x.length < 64):ZkN (x.map Za7):=by
 refine ⟨by simpa using h,.inl (Yaf.mpr fun d hd=>by obtain ⟨p,_,rfl⟩:=Ybi.mp hd; rfl),fun a ha b hb=>?_⟩;obtain ⟨p,_,rfl⟩:=Ybi.mp ha;obtain ⟨q,_,rfl⟩:=Ybi.mp hb;simp only [Zl2,ZlG,Za7,Zf1,Zgl];split
 ·split
  ·rfl
  ·rfl
 ·rfl
theorem Znl {cs:List (Int × Int)} (h:Zfx cs) (n v:Int):(Zfb cs n v).length <= cs.length + 1:=by
 unfold Zfb;have f:(cs.filter (fun c=>decide (c.1 < n))).length + (cs.filter (fun c=>decide (n < c.1))).length <= cs.length:=by
  clear h
  induction cs with
  | nil=>simp
  | cons c cs ih=>
   simp only [List.filter_cons];by_cases h1:c.1 < n
   ·have h2:¬ n < c.1:=(fun z=>iN [] [_,_] 2 25796087953 T1 z h1)
    simp only [h1,h2,decide_true,decide_false,if_true,Yae,if_false,Ya5]; exact lC 1 0xa2c1a0cc0210c01 T1 ih
   ·by_cases h2:n < c.1
    ·simp only [h1,h2,decide_true,decide_false,if_true,Yae,if_false,Ya5]; exact lC 1 0xa2ca1c0c0210c01 T1 ih
    ·simp only [h1,h2,decide_false,Yae,if_false,Ya5]; exact lC 1 0xa2c10c0210c01 T1 ih
 rw [Yaj,Yaj];split <;> simp only [Ya5,Ygl] <;> omega
noncomputable def Zeu (roll:Zbx):Nat -> Stt -> List Stt
 | 0,s=>[s]
 | k + 1,s=>match Zfw roll s with
  | none=>[s]
  | some s'=>s :: Zeu roll k s'
theorem ZoD {roll:Zbx} {s s':Stt} (k:Nat) (h:Zfw roll s = some s'):Zeu roll (k + 1) s = s :: Zeu roll k s':=by
 show (match Zfw roll s with | none=>[s] | some s'=>s :: Zeu roll k s') = _;rw [h]
theorem Zo1 {roll:Zbx} {s:Stt} (k:Nat) (h:Zfw roll s = none):Zeu roll (k + 1) s = [s]:=by
 show (match Zfw roll s with | none=>[s] | some s'=>s :: Zeu roll k s') = _;rw [h]
structure Good (roll:Zbx) (s:Stt):Prop where
 pl:s.place < roll.length
 bx:s.boxes.length = 8
 rs:Zfx s.cells
theorem ZoJ (r:Row) (bs:List Int) (cs:List (Int × Int)):(r.boxes bs cs).length = bs.length:=by cases r <;> simp [Row.boxes]
theorem ZhU {roll:Zbx} (R:ZbX roll) {s s':Stt} (g:Good roll s) (h:Zfw roll s = some s'):Good roll s' /\ s'.cells.length <= s.cells.length + 1:=by
 obtain ⟨hp,hb,hc⟩:=g;have hr:roll[s.place]? = some roll[s.place]:=by simp [hp]
 have ro:=R.rows _ (Yu hp);unfold Zfw at h;rw [hr] at h;have h':Zkf s roll[s.place] = some s':=h;unfold Zkf at h';split at h'
 ·cases h'
 ·rename_i nh
  cases h'
  have nl:roll[s.place] ≠ .halt -> (∀ k,roll[s.place] ≠ .jump k) -> s.place + 1 < roll.length:=fun n1 n2=>by
   obtain ⟨q,x,e,hx⟩:=R.last;have hl:roll.length = q.length + 1:=by rw [e]; simp
   by_cases c:s.place = q.length
   ·have:roll[s.place] = x:=by
     have:=hr;simp only [e,c] at this;simp at this;simp [c,e]
    rw [this] at n1 n2;rcases hx with hx | ⟨k,hx⟩
    ·exact absurd hx n1
    ·exact absurd hx (n2 k)
   ·exact lC 2 0xa2c11211a1c031 T1 hl (Yz (lC 2 316668234547233 T1 hl hp) c)
  have nh':roll[s.place] ≠ .halt:=fun z=>by rw [z] at nh; simp at nh
  refine ⟨⟨?_,by rw [ZoJ]; exact hb,?_⟩,?_⟩
  ·generalize roll[s.place] = r at ro nl nh'
   cases r with
   | jump k=>exact ro
   | when a k=>
    show (if 0 < s.boxes.getD a 0 then k else s.place + 1) < _;split
    ·exact ro.2
    ·exact nl nh' (fun _ z=>by cases z)
   | halt=>exact absurd rfl nh'
   | _=>exact nl nh' (fun _ z=>by cases z)
  ·generalize roll[s.place] = r
   cases r with
   | set a b=>exact Zhe hc
   | _=>exact hc
  ·generalize roll[s.place] = r
   cases r with
   | set a b=>exact Znl hc _ _
   | _=>exact Nat.le_succ _
theorem Zms (roll:Zbx):∀ k s,(Zeu roll k s).length <= k + 1
 | 0,s=>by simp [Zeu]
 | k + 1,s=>by
  unfold Zeu;split
  ·simp
  ·have:=Zms roll k ‹_›; simp; exact this
theorem Zrx (roll:Zbx) (k:Nat) (s:Stt):Zeu roll k s ≠ []:=by
 cases k with
 | zero=>simp [Zeu]
 | succ k=>unfold Zeu; split <;> simp
theorem Zkc {roll:Zbx} (R:ZbX roll):∀ k s,Good roll s -> ∀ x ∈ Zeu roll k s,Good roll x
 | 0,s,g,x,hx=>by simp [Zeu] at hx; subst hx; exact g
 | k + 1,s,g,x,hx=>by
  unfold Zeu at hx;split at hx
  ·simp at hx; subst hx; exact g
  ·rename_i s' h
   rcases Yah.mp hx with e | e
   ·subst e; exact g
   ·exact Zkc R k s' (ZhU R g h).1 x e
noncomputable def ZnH (i:Int):List Nat:=(PySem.Str.ofString (toString i)).cps.toList
noncomputable section
local instance (priority:=100000) clQ1 (p:Prop):Decidable p:=Yn p
noncomputable def ZuZ (ds:List D) (M:Store):R3 D:=match ds with
 | [.int i]=>if i.natAbs.log2 < 1920 then .ok (.str (ZnH i)) M else .bad
 | [.str x]=>.ok (.str x) M
 | _=>.bad
@[simp] theorem Zvm {M:Store}:∀ i,ZuZ ([.int i]) M = (if i.natAbs.log2 < 1920 then .ok (.str (ZnH i)) M else .bad):=fun _=>rfl
@[simp] theorem ZvG {M:Store}:∀ x,ZuZ ([.str x]) M = .ok (.str x) M:=fun _=>rfl
noncomputable def Zuw:List D -> Option (List (List Nat))
 | []=>some []
 | .str x :: ds=>(Zuw ds).map (x :: ·)
 | _=>none
noncomputable def Zh8 (ds:List D) (M:Store):R3 D:=match ds with
 | [.str x]=>match Yhb ⟨x.toArray⟩ with
  | some n=>if x.length <= 640 then .ok (.int n) M else .bad
  | none=>.bad
 | ds=>ZqB ds M
@[simp] theorem Zp0 {M:Store}:∀ x,Zh8 ([.str x]) M = (match Yhb ⟨x.toArray⟩ with
  | some n=>if x.length <= 640 then .ok (.int n) M else .bad
  | none=>.bad):=fun _=>rfl
@[simp] theorem Zpi {M:Store}:∀ i,Zh8 [.int i] M = .ok (.int i) M:=fun _=>rfl
@[simp] theorem ZuP {M:Store}:∀ b,Zh8 [.bl b] M = ZqB [.bl b] M:=fun _=>rfl
end
noncomputable section
noncomputable def Ze2 (f:E3) (g:G3):S3:=fun env M=>match f env M with
 | .ok d M1=>match g d env with
  | some env1=>.nx env1 M1
  | none=>.bad
 | .exc x M1=>.exc x M1
 | .bad=>.bad
structure ItL where
 items:List D
 lk:List (Nat × List D)
noncomputable def Zey (lk:List (Nat × List D)) (M:Store):Bool:=lk.all fun q=>decide (M[q.1]? = some (.lst q.2))
noncomputable def ZfM (lk:List (Nat × List D)) (g:G3) (body:S3):List D -> ZaD -> Store -> O3
 | [],env,M=>if Zey lk M then .nx env M else .bad
 | d :: ds,env,M=>if Zey lk M then match g d env with
  | none=>.bad
  | some env1=>match body env1 M with
   | .nx e M'=>ZfM lk g body ds e M'
   | .ct e M'=>ZfM lk g body ds e M'
   | .bk e M'=>.nx e M'
   | o=>o
  else .bad
noncomputable abbrev IL3:=ZaD -> Store -> R3 ItL
noncomputable def ZjZ (i:IL3) (g:G3) (body:S3):S3:=fun env M=>match i env M with
 | .ok it M1=>ZfM it.lk g body it.items env M1
 | .exc x M1=>.exc x M1
 | .bad=>.bad
noncomputable def Ze9:Nat -> List D -> List D
 | _,[]=>[]
 | k,d :: ds=>.tup [.int k,d] :: Ze9 (k + 1) ds
@[simp] noncomputable def Zl4 (f:E3):IL3:=fun env M=>(f env M).bind fun a M1=>match a with
 | .tup ds=>.ok ⟨Ze9 0 ds,[]⟩ M1
 | .ref n=>match M1[n]? with
  | some (.lst ds)=>.ok ⟨Ze9 0 ds,[(n,ds)]⟩ M1
  | _=>.bad
 | _=>.bad
noncomputable def ZlJ (a b:D) (M:Store):R3 D:=match a,b with
 | .tup [.int i,.int j],.tup [.int k,.int l]=>.ok (.bl (decide (i < k) || (decide (i = k) && decide (j <= l)))) M
 | _,_=>.bad
@[simp] theorem Zt5 {M:Store}:∀ i j k l,ZlJ (.tup [.int i,.int j]) (.tup [.int k,.int l]) M = .ok (.bl (decide (i < k) || (decide (i = k) && decide (j <= l)))) M:=fun _ _ _ _=>rfl
noncomputable def ZjX (f:E3) (is:List Nat):S3:=fun env M=>match f env M with
 | .ok (.ref n) M1=>(match M1[n]? with
  | some (.lst ds)=>(match bindAll is ds env with
   | some env1=>.nx env1 M1
   | none=>.bad)
  | _=>.bad)
 | _=>.bad
noncomputable def ZmO (v:D) (o i:E3) (env:ZaD) (M:Store):R3 D:=(o env M).bind fun a M1=>(i env M1).bind fun k M2=>ZiO v a k M2
noncomputable def Zlg (f o i p j:E3):S3:=fun env M=>match f env M with
 | .ok (.tup [x,y]) M1=>(match ZmO x o i env M1 with
  | .ok _ M2=>(match ZmO y p j env M2 with
   | .ok _ M3=>.nx env M3
   | _=>.bad)
  | _=>.bad)
 | _=>.bad
theorem ZhZ:∀ (k:Nat) (ds:List D) (i:Nat),(Ze9 k ds)[i]? = (ds[i]?).map fun d=>.tup [.int ((k + i:Nat):Int),d]
 | _,[],_=>by simp [Ze9]
 | k,d :: ds,0=>by simp [Ze9]
 | k,d :: ds,i + 1=>by
  simp only [Ze9,Yf,ZhZ (k + 1) ds i];rw [show k + 1 + i = k + (i + 1) by exact Ym (lB 0 0xa1c0c1a0cc0 T1) (lB 0 1790139547840 T1)]
theorem ZhK:∀ (k:Nat) (ds:List D),(Ze9 k ds).length = ds.length
 | _,[]=>rfl
 | k,d :: ds=>by simp [Ze9,ZhK (k + 1) ds]
end
noncomputable section
section
local instance (priority:=100000) clZ1 (p:Prop):Decidable p:=Yn p
end
section
local instance (priority:=100000) clZ2 (p:Prop):Decidable p:=Yn p
end
end
noncomputable section
section
local instance (priority:=100000) clPg (p:Prop):Decidable p:=Yn p
end
end
noncomputable section
end
noncomputable section
end
noncomputable section
noncomputable abbrev ZqC:=List (List Nat × List (List Nat))
end
open PySem PySem.Spec PyProof.Rows L2
noncomputable abbrev St:=L2.St
theorem ZcZ:SZ <= Y8:=by rw [Ybf]; decide
def SqF (K:Ya) (H:Hp) (a:Addr) (xs:List V):Prop:=
 (∃ o,H a = some (.frz o (.lst xs))) \/
  ∃ (o:Obj) (its:Array Value) (n:Nat),K.lookup a = some o /\ o.cls = .type "list" /\ o.dict = none /\ o.data = .seq its n /\ its.size <= Y8 /\ Vals xs its.toList
theorem SqF.sq {K:Ya} {H:Hp} {a:Addr} {xs:List V} (h:SqF K H a xs):SqL K H a xs:=by
 rcases h with ⟨o,h⟩ | h
 ·exact .inl (.inr ⟨o,h⟩)
 ·exact .inr h
mutual
noncomputable def Rep (K:Ya) (H:Hp) (ι:List Addr):D -> V -> Prop
 | .non,v=>v = .non
 | .bl b,v=>v = .bl b
 | .int i,v=>v = .int i
 | .str x,v=>v = .str ⟨x.toArray⟩
 | .tup ds,v=>∃ a vs,v = .ref a /\ SqT K H a vs /\ Zal K H ι ds vs
 | .scr ds,v=>∃ a vs,v = .ref a /\ SqF K H a vs /\ Zal K H ι ds vs
 | .ref n,v=>∃ a,ι[n]? = some a /\ v = .ref a
noncomputable def Zal (K:Ya) (H:Hp) (ι:List Addr):List D -> List V -> Prop
 | [],vs=>vs = []
 | d :: ds,vs=>∃ v ws,vs = v :: ws /\ Rep K H ι d v /\ Zal K H ι ds ws
end
structure Ext (K:Ya) (H:Hp) (ι:List Addr) (H':Hp) (ι':List Addr):Prop where
 tup:∀ a xs,SqT K H a xs -> SqT K H' a xs
 scr:∀ a xs,SqF K H a xs -> SqF K H' a xs
 pre:∀ (n:Nat) (a:Addr),ι[n]? = some a -> ι'[n]? = some a
 frz:∀ a o u,H a = some (.frz o u) -> H' a = some (.frz o u)
section
variable {K:Ya} {H H' H1 H2:Hp} {ι ι' ι1 ι2:List Addr}
theorem Ext.refl:Ext K H ι H ι:=⟨fun _ _ h=>h,fun _ _ h=>h,fun _ _ h=>h,fun _ _ _ h=>h⟩
theorem Ext.trans (a:Ext K H ι H1 ι1) (b:Ext K H1 ι1 H2 ι2):Ext K H ι H2 ι2:=
 ⟨fun x xs h=>b.tup x xs (a.tup x xs h),fun x xs h=>b.scr x xs (a.scr x xs h),fun n x h=>b.pre n x (a.pre n x h),fun x o u h=>b.frz x o u (a.frz x o u h)⟩
mutual
theorem Rep.mono (e:Ext K H ι H' ι'):∀ {d:D} {v:V},Rep K H ι d v -> Rep K H' ι' d v
 | .non,_,h=>by simpa [Rep] using h
 | .bl _,_,h=>by simpa [Rep] using h
 | .int _,_,h=>by simpa [Rep] using h
 | .str _,_,h=>by simpa [Rep] using h
 | .tup ds,_,h=>by
  simp only [Rep] at h ⊢;obtain ⟨a,vs,rfl,s,r⟩:=h;exact ⟨a,vs,rfl,e.tup _ _ s,Zal.mono e (ds:=ds) r⟩
 | .scr ds,_,h=>by
  simp only [Rep] at h ⊢;obtain ⟨a,vs,rfl,s,r⟩:=h;exact ⟨a,vs,rfl,e.scr _ _ s,Zal.mono e (ds:=ds) r⟩
 | .ref n,_,h=>by
  simp only [Rep] at h ⊢;obtain ⟨a,s,rfl⟩:=h;exact ⟨a,e.pre _ _ s,rfl⟩
theorem Zal.mono (e:Ext K H ι H' ι'):∀ {ds:List D} {vs:List V},Zal K H ι ds vs -> Zal K H' ι' ds vs
 | [],_,h=>by simpa [Zal] using h
 | d :: ds,_,h=>by
  simp only [Zal] at h ⊢;obtain ⟨v,ws,rfl,r,q⟩:=h;exact ⟨v,ws,rfl,Rep.mono e (d:=d) r,Zal.mono e (ds:=ds) q⟩
end
mutual
theorem Rep.keep (ht:∀ a xs,SqT K H a xs -> SqT K H' a xs) (hs:∀ a xs,SqF K H a xs -> SqF K H' a xs):∀ {d:D} {v:V},Rep K H ι d v -> Rep K H' ι d v
 | .non,_,h=>by simpa [Rep] using h
 | .bl _,_,h=>by simpa [Rep] using h
 | .int _,_,h=>by simpa [Rep] using h
 | .str _,_,h=>by simpa [Rep] using h
 | .tup ds,_,h=>by
  simp only [Rep] at h ⊢;obtain ⟨a,vs,rfl,s,r⟩:=h;exact ⟨a,vs,rfl,ht _ _ s,Zal.keep ht hs (ds:=ds) r⟩
 | .scr ds,_,h=>by
  simp only [Rep] at h ⊢;obtain ⟨a,vs,rfl,s,r⟩:=h;exact ⟨a,vs,rfl,hs _ _ s,Zal.keep ht hs (ds:=ds) r⟩
 | .ref n,_,h=>by simpa [Rep] using h
theorem Zal.keep (ht:∀ a xs,SqT K H a xs -> SqT K H' a xs) (hs:∀ a xs,SqF K H a xs -> SqF K H' a xs):∀ {ds:List D} {vs:List V},Zal K H ι ds vs -> Zal K H' ι ds vs
 | [],_,h=>by simpa [Zal] using h
 | d :: ds,_,h=>by
  simp only [Zal] at h ⊢;obtain ⟨v,ws,rfl,r,q⟩:=h;exact ⟨v,ws,rfl,Rep.keep ht hs (d:=d) r,Zal.keep ht hs (ds:=ds) q⟩
end
theorem Zal.nil:Zal K H ι [] []:=by simp [Zal]
theorem Zal.cons {d:D} {ds:List D} {v:V} {vs:List V} (h:Rep K H ι d v) (t:Zal K H ι ds vs):Zal K H ι (d :: ds) (v :: vs):=by
 simp only [Zal];exact ⟨v,vs,rfl,h,t⟩
theorem Zal.nil_inv {vs:List V} (h:Zal K H ι [] vs):vs = []:=by simpa [Zal] using h
theorem Zal.cons_inv {d:D} {ds:List D} {vs:List V} (h:Zal K H ι (d :: ds) vs):∃ v ws,vs = v :: ws /\ Rep K H ι d v /\ Zal K H ι ds ws:=by simpa [Zal] using h
theorem Zal.length:∀ {ds:List D} {vs:List V},Zal K H ι ds vs -> vs.length = ds.length
 | [],_,h=>by rw [h.nil_inv]; rfl
 | d :: ds,_,h=>by
  obtain ⟨v,ws,rfl,_,q⟩:=h.cons_inv;simp [q.length]
theorem Zal.append:∀ {ds es:List D} {vs ws:List V},Zal K H ι ds vs -> Zal K H ι es ws -> Zal K H ι (ds ++ es) (vs ++ ws)
 | [],_,_,_,h,q=>by rw [h.nil_inv]; exact q
 | d :: ds,_,_,_,h,q=>by
  obtain ⟨v,us,rfl,r,t⟩:=h.cons_inv;exact Zal.cons r (t.append q)
theorem Zal.drop:∀ {ds:List D} {vs:List V} (n:Nat),Zal K H ι ds vs -> Zal K H ι (ds.drop n) (vs.drop n)
 | _,_,0,h=>h
 | [],_,n + 1,h=>by rw [h.nil_inv]; exact Zal.nil
 | d :: ds,_,n + 1,h=>by
  obtain ⟨v,us,rfl,r,t⟩:=h.cons_inv;exact t.drop n
theorem Zal.take:∀ {ds:List D} {vs:List V} (n:Nat),Zal K H ι ds vs -> Zal K H ι (ds.take n) (vs.take n)
 | _,_,0,h=>Zal.nil
 | [],_,n + 1,h=>by rw [h.nil_inv]; exact Zal.nil
 | d :: ds,_,n + 1,h=>by
  obtain ⟨v,us,rfl,r,t⟩:=h.cons_inv;exact Zal.cons r (t.take n)
theorem Zal.get:∀ {ds:List D} {vs:List V} {i:Nat} {d:D},Zal K H ι ds vs -> ds[i]? = some d -> ∃ v,vs[i]? = some v /\ Rep K H ι d v
 | [],_,_,_,_,e=>by simp at e
 | d :: ds,_,0,_,h,e=>by
  obtain ⟨v,us,rfl,r,t⟩:=h.cons_inv;simp at e; subst e;exact ⟨v,rfl,r⟩
 | d :: ds,_,i + 1,_,h,e=>by
  obtain ⟨v,us,rfl,r,t⟩:=h.cons_inv;obtain ⟨w,q,z⟩:=t.get (i:=i) (by simpa using e);exact ⟨w,by simpa using q,z⟩
theorem Zal.set:∀ {ds:List D} {vs:List V} {d:D} {v:V} (i:Nat),Zal K H ι ds vs -> Rep K H ι d v -> Zal K H ι (ds.set i d) (vs.set i v)
 | [],_,_,_,_,h,_=>by rw [h.nil_inv]; exact Zal.nil
 | d :: ds,_,_,_,0,h,q=>by
  obtain ⟨v,us,rfl,r,t⟩:=h.cons_inv;exact Zal.cons q t
 | d :: ds,_,_,_,i + 1,h,q=>by
  obtain ⟨v,us,rfl,r,t⟩:=h.cons_inv;exact Zal.cons r (t.set i q)
theorem Zal.ints:∀ (ns:List Int),Zal K H ι (ns.map D.int) (ns.map V.int)
 | []=>Zal.nil
 | n :: ns=>Zal.cons (by simp [Rep]) (Zal.ints ns)
theorem Rep.non_inv {v:V} (h:Rep K H ι .non v):v = .non:=by simpa [Rep] using h
theorem Rep.bl_inv {v:V} {b:Bool} (h:Rep K H ι (.bl b) v):v = .bl b:=by simpa [Rep] using h
theorem Rep.int_inv {v:V} {i:Int} (h:Rep K H ι (.int i) v):v = .int i:=by simpa [Rep] using h
theorem Rep.str_inv {v:V} {x:List Nat} (h:Rep K H ι (.str x) v):v = .str ⟨x.toArray⟩:=by simpa [Rep] using h
theorem Rep.tup_inv {v:V} {ds:List D} (h:Rep K H ι (.tup ds) v):∃ a vs,v = .ref a /\ SqT K H a vs /\ Zal K H ι ds vs:=by simpa [Rep] using h
theorem Rep.scr_inv {v:V} {ds:List D} (h:Rep K H ι (.scr ds) v):∃ a vs,v = .ref a /\ SqF K H a vs /\ Zal K H ι ds vs:=by simpa [Rep] using h
theorem Rep.ref_inv {v:V} {n:Nat} (h:Rep K H ι (.ref n) v):∃ a,ι[n]? = some a /\ v = .ref a:=by simpa [Rep] using h
theorem Rep.non:Rep K H ι .non .non:=by simp [Rep]
theorem Rep.bl {b:Bool}:Rep K H ι (.bl b) (.bl b):=by simp [Rep]
theorem Rep.int {i:Int}:Rep K H ι (.int i) (.int i):=by simp [Rep]
theorem Rep.str {x:List Nat}:Rep K H ι (.str x) (.str ⟨x.toArray⟩):=by simp [Rep]
theorem Rep.tup {a:Addr} {vs:List V} {ds:List D} (s:SqT K H a vs) (r:Zal K H ι ds vs):Rep K H ι (.tup ds) (.ref a):=by
 simp only [Rep]; exact ⟨a,vs,rfl,s,r⟩
theorem Rep.ref {a:Addr} {n:Nat} (s:ι[n]? = some a):Rep K H ι (.ref n) (.ref a):=by
 simp only [Rep]; exact ⟨a,s,rfl⟩
end
def ExO (e C:Addr) (h:Heap):Prop:=∃ o vs,h.get? e = some o /\ o.cls = .ref C /\ o.data = .fields vs
noncomputable abbrev exH (e C:Addr):HO:=.ext (ExO e C)
noncomputable def dk:Zbw -> Key
 | .inl i=>.inl i
 | .inr x=>.inr ⟨x.toArray⟩
def KvR (K:Ya) (H:Hp) (ι:List Addr) (kvs:List (Zbw × D)) (ws:List (Key × V)):Prop:=
 ws.map (·.1) = kvs.map (fun p=>dk p.1) /\ Zal K H ι (kvs.map (·.2)) (ws.map (·.2))
def FsR (K:Ya) (H:Hp) (ι:List Addr) (fs:List (List Nat × D)) (gs:List (Str × V)):Prop:=
 gs.map (·.1) = fs.map (fun p=>(⟨p.1.toArray⟩:Str)) /\ Zal K H ι (fs.map (·.2)) (gs.map (·.2))
def ClsAt (K:Ya) (c:List Nat) (C:Addr):Prop:=PySem.W.nsIn K Yl ⟨c.toArray⟩ = some (some (.ref C))
noncomputable def ZgA (K:Ya) (H:Hp) (ι:List Addr):MO -> Addr -> Prop
 | .lst xs,a=>∃ vs,H a = some (.lst vs) /\ Zal K H ι xs vs
 | .dct kvs,a=>∃ ws,H a = some (.dK ws) /\ KvR K H ι kvs ws
 | .fdct kvs,a=>∃ ws,(∃ o,H a = some (.frz o (.dK ws))) /\ KvR K H ι kvs ws
 | .ins c fs,a=>(∃ C dx gs,H a = some (.ins C dx gs) /\ (ClsAt K c C /\ c.head? ≠ some 0) /\ FsR K H ι fs gs) \/ ∃ C,H a = some (exH a C) /\ c.head? = some 0 /\ ClsAt K c.tail C /\ fs = []
structure ZaJ (K:Ya) (H:Hp) (ι:List Addr) (M:Store):Prop where
 len:ι.length = M.length
 nd:ι.Nodup
 obj:∀ (n:Nat) o a,M[n]? = some o -> ι[n]? = some a -> ZgA K H ι o a
def Loose (H:Hp) (p:Addr):Prop:=H p = none \/ (∃ vs,H p = some (.lst vs)) \/ (∃ ws,H p = some (.dK ws)) \/ ∃ C dx gs,H p = some (.ins C dx gs)
section
variable {K:Ya} {H H':Hp} {ι ι':List Addr} {M:Store} {p:Addr} {o:HO}
theorem Loose.ne {a:Addr} {u:HO} (l:Loose H p) (h:H a = some u) (h1:∀ vs,u ≠ .lst vs) (h2:∀ ws,u ≠ .dK ws) (h3:∀ C dx gs,u ≠ .ins C dx gs:=by exact fun _ _ _ z=>nomatch z):a ≠ p:=by
 rintro rfl;rcases l with l | ⟨vs,l⟩ | ⟨ws,l⟩ | ⟨C,dx,gs,l⟩
 ·rw [h] at l; cases l
 ·rw [h] at l; exact h1 vs (Yq l)
 ·rw [h] at l; exact h2 ws (Yq l)
 ·rw [h] at l; exact h3 C dx gs (Yq l)
theorem Loose.tup (l:Loose H p) {a:Addr} {xs:List V} (h:SqT K H a xs):SqT K (upd H p o) a xs:=by
 rcases h with (h | ⟨ob,h⟩) | h
 ·exact .inl (.inl (by rw [ZaC (l.ne h (fun _ z=>nomatch z) (fun _ z=>nomatch z))]; exact h))
 ·exact .inl (.inr ⟨ob,by rw [ZaC (l.ne h (fun _ z=>nomatch z) (fun _ z=>nomatch z))]; exact h⟩)
 ·exact .inr h
theorem Loose.scr (l:Loose H p) {a:Addr} {xs:List V} (h:SqF K H a xs):SqF K (upd H p o) a xs:=by
 rcases h with ⟨ob,h⟩ | h
 ·exact .inl ⟨ob,by rw [ZaC (l.ne h (fun _ z=>nomatch z) (fun _ z=>nomatch z))]; exact h⟩
 ·exact .inr h
theorem Loose.frz (l:Loose H p) {a:Addr} {ob:Obj} {u:HO} (h:H a = some (.frz ob u)):upd H p o a = some (.frz ob u):=by
 rw [ZaC (l.ne h (fun _ z=>nomatch z) (fun _ z=>nomatch z))]; exact h
theorem Loose.ext (l:Loose H p):Ext K H ι (upd H p o) ι:=⟨fun _ _ h=>l.tup h,fun _ _ h=>l.scr h,fun _ _ h=>h,fun _ _ _ h=>l.frz h⟩
theorem Loose.extA (l:Loose H p):Ext K H ι (upd H p o) (ι ++ [p]):=⟨fun _ _ h=>l.tup h,fun _ _ h=>l.scr h,fun n a h=>by
 rw [Y0 (Yc.mp h).1]; exact h,fun _ _ _ h=>l.frz h⟩
theorem ZgA.mono {m:MO} {a:Addr} (e:Ext K H ι H' ι') (h:ZgA K H ι m a) (k:H' a = H a):ZgA K H' ι' m a:=by
 cases m with
 | lst xs=>obtain ⟨vs,q,r⟩:=h; exact ⟨vs,k.trans q,r.mono e⟩
 | dct kvs=>obtain ⟨ws,q,r1,r2⟩:=h; exact ⟨ws,k.trans q,r1,r2.mono e⟩
 | fdct kvs=>obtain ⟨ws,⟨o,q⟩,r1,r2⟩:=h; exact ⟨ws,⟨o,k.trans q⟩,r1,r2.mono e⟩
 | ins c fs=>
  rcases h with ⟨C,dx,gs,q,c,r1,r2⟩ | ⟨C,q,r⟩
  ·exact .inl ⟨C,dx,gs,k.trans q,c,r1,r2.mono e⟩
  ·exact .inr ⟨C,k.trans q,r⟩
theorem ZgA.ne {m:MO} {a:Addr} (h:ZgA K H ι m a):H a ≠ none:=by
 cases m with
 | lst xs=>obtain ⟨vs,q,r⟩:=h; rw [q]; simp
 | dct kvs=>obtain ⟨ws,q,r⟩:=h; rw [q]; simp
 | fdct kvs=>obtain ⟨ws,⟨o,q⟩,r⟩:=h; rw [q]; simp
 | ins c fs=>rcases h with ⟨C,dx,gs,q,r⟩ | ⟨C,q,r⟩ <;> (rw [q]; simp)
theorem ZaJ.at (S:ZaJ K H ι M) {n:Nat} {m:MO} (h:M[n]? = some m):∃ a,ι[n]? = some a /\ ZgA K H ι m a:=by
 have hn:n < ι.length:=by rw [S.len]; exact (Yc.mp h).1
 exact ⟨ι[n],by simp [hn],S.obj n m _ h (by simp [hn])⟩
theorem ZaJ.there (S:ZaJ K H ι M) {n:Nat} {a:Addr} (h:ι[n]? = some a):∃ m,M[n]? = some m /\ ZgA K H ι m a:=by
 have hn:n < M.length:=by rw [← S.len]; exact (Yc.mp h).1
 exact ⟨M[n],by simp [hn],S.obj n _ _ (by simp [hn]) h⟩
theorem ZaJ.fresh (S:ZaJ K H ι M) (hp:H p = none):p ∉ ι:=fun h=>by
 obtain ⟨n,hn⟩:=Yb0 h;obtain ⟨m,_,q⟩:=S.there hn;exact q.ne hp
theorem ZaJ.other (S:ZaJ K H ι M) (l:Loose H p) (hp:p ∉ ι):ZaJ K (upd H p o) ι M:=
 ⟨S.len,S.nd,fun n m a h1 h2=>(S.obj n m a h1 h2).mono l.ext (by
  rw [ZaC]; rintro rfl; exact hp (Yax h2))⟩
theorem ZaJ.new (S:ZaJ K H ι M) (hp:H p = none) {m:MO} (h:ZgA K (upd H p o) (ι ++ [p]) m p):ZaJ K (upd H p o) (ι ++ [p]) (M ++ [m]):=by
 have hf:=S.fresh hp;refine ⟨by simp [S.len],?_,fun n m' a h1 h2=>?_⟩
 ·exact List.nodup_append.mpr ⟨S.nd,by simp,fun x hx y hy=>by
   have e:y = p:=by simpa using hy
   subst e;rintro rfl;exact hf hx⟩
 ·by_cases hn:n < ι.length
  ·rw [Y0 hn] at h2
   rw [Y0 (by rw [← S.len]; exact hn)] at h1;refine (S.obj n m' a h1 h2).mono (Loose.extA (.inl hp)) ?_;rw [ZaC];rintro rfl;exact hf (Yax h2)
  ·rw [Yan (Yaa hn)] at h2
   rw [Yan (by rw [← S.len]; exact Yaa hn)] at h1;have hlt:n - ι.length < 1:=by
    have:=(Yc.mp h2).1;simpa using this
   have e0:n - ι.length = 0:=Ym (lA 1 234922001 T1 hlt) (Yag _);rw [e0] at h2;rw [← S.len,e0] at h1;simp at h1 h2;subst h1 h2;exact h
theorem ZaJ.put (S:ZaJ K H ι M) {n:Nat} (l0:Loose H p) (hn:ι[n]? = some p) {m:MO} (h:ZgA K (upd H p o) ι m p):ZaJ K (upd H p o) ι (M.set n m):=by
 obtain ⟨m0,hm0,q0⟩:=S.there hn;refine ⟨by simp [S.len],S.nd,fun k m' a h1 h2=>?_⟩;by_cases hk:k = n
 ·subst hk
  rw [hn] at h2;cases h2;have hlt:k < M.length:=(Yc.mp hm0).1;rw [Y4 hlt] at h1;cases h1;exact h
 ·rw [Yab (Yat hk)] at h1
  refine (S.obj k m' a h1 h2).mono (Loose.ext l0) ?_;rw [ZaC];rintro rfl;have hlt1:=(Yc.mp h2);have hlt2:=(Yc.mp hn);exact hk ((Yfr S.nd).mp (hlt1.2.trans hlt2.2.symm))
theorem ZaJ.lst (S:ZaJ K H ι M) (hp:H p = none) {xs:List D} {vs:List V} (r:Zal K H ι xs vs):Ext K H ι (upd H p (.lst vs)) (ι ++ [p]) /\ ZaJ K (upd H p (.lst vs)) (ι ++ [p]) (M ++ [.lst xs]) /\ Rep K (upd H p (.lst vs)) (ι ++ [p]) (.ref M.length) (.ref p):=by
 have e:Ext K H ι (upd H p (.lst vs)) (ι ++ [p]):=Loose.extA (.inl hp);refine ⟨e,S.new hp ⟨vs,ZcB,r.mono e⟩,Rep.ref ?_⟩;rw [← S.len]; simp
theorem ZaJ.tupl (S:ZaJ K H ι M) (hp:H p = none) {xs:List D} {vs:List V} (r:Zal K H ι xs vs):Ext K H ι (upd H p (.tup vs)) ι /\ ZaJ K (upd H p (.tup vs)) ι M /\ Rep K (upd H p (.tup vs)) ι (.tup xs) (.ref p):=by
 have e:Ext K H ι (upd H p (.tup vs)) ι:=Loose.ext (.inl hp);exact ⟨e,S.other (.inl hp) (S.fresh hp),Rep.tup (SqT.of ZcB) (r.mono e)⟩
theorem ZaJ.setl (S:ZaJ K H ι M) {n:Nat} (l0:Loose H p) (hn:ι[n]? = some p) {xs:List D} {vs:List V} (r:Zal K H ι xs vs):Ext K H ι (upd H p (.lst vs)) ι /\ ZaJ K (upd H p (.lst vs)) ι (M.set n (.lst xs)):=by
 have e:Ext K H ι (upd H p (.lst vs)) ι:=Loose.ext l0;exact ⟨e,S.put l0 hn ⟨vs,ZcB,r.mono e⟩⟩
end
def Zb1 (K:Ya) (H:Hp) (ι:List Addr) (env:ZaD) (σ:St):Prop:=
 env.length = σ.length /\ ∀ (i:Nat) d,env[i]? = some (some d) -> ∃ v,σ[i]? = some (some v) /\ Rep K H ι d v
theorem Zb1.mono {K:Ya} {H H':Hp} {ι ι':List Addr} {env:ZaD} {σ:St} (r:Zb1 K H ι env σ) (e:Ext K H ι H' ι'):Zb1 K H' ι' env σ:=
 ⟨r.1,fun i d h=>let ⟨v,q,z⟩:=r.2 i d h; ⟨v,q,z.mono e⟩⟩
theorem Zb1.set {K:Ya} {H:Hp} {ι:List Addr} {env:ZaD} {σ:St} {d:D} {v:V} (r:Zb1 K H ι env σ) (i:Nat) (h:Rep K H ι d v):Zb1 K H ι (env.set i (some d)) (σ.set i (some v)):=by
 refine ⟨by simp [r.1],fun j e hj=>?_⟩;by_cases hij:j = i
 ·subst hij
  have hlt:j < env.length:=by
   have:=(Yc.mp hj).1;simpa using this
  rw [Y4 hlt] at hj;cases hj;exact ⟨v,by rw [Y4 (by rw [← r.1]; exact hlt)],h⟩
 ·rw [Yab (Yat hij)] at hj
  obtain ⟨w,q,z⟩:=r.2 j e hj;exact ⟨w,by rw [Yab (Yat hij)]; exact q,z⟩
def Zat (K:Ya) (H:Hp) (ι:List Addr) (Q:VK) (r:R3 D):Prop:=match r with
 | .ok d M'=>∀ v H' ι',Ext K H ι H' ι' -> ZaJ K H' ι' M' -> Rep K H' ι' d v -> Q v H'
 | _=>False
inductive TOf (K:Ya) (f:E3) (σ:St) (H:Hp) (Q:VK):Prop where
 | mk (ι:List Addr) (M:Store) (env:ZaD) (S:ZaJ K H ι M) (E:Zb1 K H ι env σ) (h:Zat K H ι Q (f env M)):TOf K f σ H Q
def tOf (K:Ya) (f:E3):TE:=fun σ H Q=>TOf K f σ H Q
def ZiP (K:Ya) (H:Hp) (ι:List Addr) (Q:Bool -> Hp -> Prop) (r:R3 D):Prop:=match r with
 | .ok (.bl b) M'=>∀ H' ι',Ext K H ι H' ι' -> ZaJ K H' ι' M' -> Q b H'
 | _=>False
inductive TTf (K:Ya) (f:E3) (σ:St) (H:Hp) (Q:Bool -> Hp -> Prop):Prop where
 | mk (ι:List Addr) (M:Store) (env:ZaD) (S:ZaJ K H ι M) (E:Zb1 K H ι env σ) (h:ZiP K H ι Q (f env M)):TTf K f σ H Q
def tTf (K:Ya) (f:E3):TT:=fun σ H Q=>TTf K f σ H Q
def ZoI (K:Ya) (H:Hp) (ι:List Addr) (Q:List V -> Hp -> Prop) (r:R3 (List D)):Prop:=match r with
 | .ok ds M'=>∀ vs H' ι',Ext K H ι H' ι' -> ZaJ K H' ι' M' -> Zal K H' ι' ds vs -> Q vs H'
 | _=>False
inductive TAf (K:Ya) (f:EL3) (σ:St) (H:Hp) (Q:List V -> Hp -> Prop):Prop where
 | mk (ι:List Addr) (M:Store) (env:ZaD) (S:ZaJ K H ι M) (E:Zb1 K H ι env σ) (h:ZoI K H ι Q (f env M)):TAf K f σ H Q
def tAf (K:Ya) (f:EL3):TA:=fun σ H Q=>TAf K f σ H Q
def ZqO (K:Ya) (H:Hp) (ι:List Addr) (Q:Option Int -> Hp -> Prop) (r:R3 (Option Int)):Prop:=match r with
 | .ok o M'=>∀ H' ι',Ext K H ι H' ι' -> ZaJ K H' ι' M' -> Q o H'
 | _=>False
def tOo (K:Ya) (f:EO3):TO:=fun σ H Q=>∃ ι M env,ZaJ K H ι M /\ Zb1 K H ι env σ /\ ZqO K H ι Q (f env M)
def Zgz (K:Ya) (H:Hp) (ι:List Addr) (E:Ends) (r:O3):Prop:=match r with
 | .nx env' M'=>∀ σ' H' ι',Ext K H ι H' ι' -> ZaJ K H' ι' M' -> Zb1 K H' ι' env' σ' -> E.nx σ' H'
 | .bk env' M'=>∀ σ' H' ι',Ext K H ι H' ι' -> ZaJ K H' ι' M' -> Zb1 K H' ι' env' σ' -> E.bk σ' H'
 | .ct env' M'=>∀ σ' H' ι',Ext K H ι H' ι' -> ZaJ K H' ι' M' -> Zb1 K H' ι' env' σ' -> E.ct σ' H'
 | .rt d M'=>∀ v H' ι',Ext K H ι H' ι' -> ZaJ K H' ι' M' -> Rep K H' ι' d v -> E.rt v H'
 | _=>False
inductive TSf (K:Ya) (f:S3) (D:Ends) (σ:St) (H:Hp):Prop where
 | mk (ι:List Addr) (M:Store) (env:ZaD) (S:ZaJ K H ι M) (E:Zb1 K H ι env σ) (h:Zgz K H ι D (f env M)):TSf K f D σ H
def tSf (K:Ya) (f:S3):TS:=fun E σ H=>TSf K f E σ H
def C3 (X:Cx) (e:Expr) (f:E3):Prop:=PE X e (tOf X.K f)
def CT (X:Cx) (e:Expr) (f:E3):Prop:=PT X e (tTf X.K f)
def CA (X:Cx) (es:List Expr) (f:EL3):Prop:=PA X es (tAf X.K f)
def CO (X:Cx) (e:Option Expr) (f:EO3):Prop:=PO X e (tOo X.K f)
def CS (X:Cx) (st:Stmt) (f:S3):Prop:=PS X st (tSf X.K f)
def CSs (X:Cx) (st:List Stmt) (f:S3):Prop:=PSs X st (tSf X.K f)
theorem _root_.L2.PE.imp {X:Cx} {e:Expr} {t t':TE} (h:PE X e t) (i:∀ σ H Q,t' σ H Q -> t σ H Q):PE X e t':=fun pins s σ H Q I q=>h pins s σ H Q I (i σ H Q q)
theorem _root_.L2.PT.imp {X:Cx} {e:Expr} {t t':TT} (h:PT X e t) (i:∀ σ H Q,t' σ H Q -> t σ H Q):PT X e t':=fun pins s σ H Q I q=>h pins s σ H Q I (i σ H Q q)
theorem _root_.L2.PA.imp {X:Cx} {e:List Expr} {t t':TA} (h:PA X e t) (i:∀ σ H Q,t' σ H Q -> t σ H Q):PA X e t':=fun pos pins s σ H Q I q=>h pos pins s σ H Q I (i σ H Q q)
theorem _root_.L2.PO.imp {X:Cx} {e:Option Expr} {t t':TO} (h:PO X e t) (i:∀ σ H Q,t' σ H Q -> t σ H Q):PO X e t':=fun pins s σ H Q I q=>h pins s σ H Q I (i σ H Q q)
theorem _root_.L2.PS.imp {X:Cx} {e:Stmt} {t t':TS} (h:PS X e t) (i:∀ D σ H,t' D σ H -> t D σ H):PS X e t':=fun pins s σ H D I q=>h pins s σ H D I (i D σ H q)
theorem _root_.L2.PSs.imp {X:Cx} {e:List Stmt} {t t':TS} (h:PSs X e t) (i:∀ D σ H,t' D σ H -> t D σ H):PSs X e t':=fun pins s σ H D I q=>h pins s σ H D I (i D σ H q)
theorem _root_.L2.OpR.imp {X:Cx} {f:Value -> Value -> Sem Value} {r r':R2} (h:OpR X f r) (i:∀ x y H Q,r' x y H Q -> r x y H Q):OpR X f r':=fun pins s σ H x y v u Q I rx ry q=>h pins s σ H x y v u Q I rx ry (i x y H Q q)
theorem _root_.L2.UnR.imp {X:Cx} {f:Value -> Sem Value} {r r':V -> Hp -> VK -> Prop} (h:UnR X f r) (i:∀ x H Q,r' x H Q -> r x H Q):UnR X f r':=fun pins s σ H x v Q I rx q=>h pins s σ H x v Q I rx (i x H Q q)
theorem _root_.L2.ZbZ.imp {X:Cx} {f:Value} {r r':List V -> Hp -> VK -> Prop} (h:ZbZ X f r) (i:∀ x H Q,r' x H Q -> r x H Q):ZbZ X f r':=fun pins s σ H xs us Q I rx q=>h pins s σ H xs us Q I rx (i xs H Q q)
theorem _root_.L2.IxR.imp {X:Cx} {r r':R2} (h:IxR X r) (i:∀ x y H Q,r' x y H Q -> r x y H Q):IxR X r':=fun value slice pins s σ H x y v u Q I rx ry q hs=>h value slice pins s σ H x y v u Q I rx ry (i x y H Q q) hs
theorem _root_.L2.SlR.imp {X:Cx} {r r':V -> Option Int -> Option Int -> Hp -> VK -> Prop} (h:SlR X r) (i:∀ x lo hi H Q,r' x lo hi H Q -> r x lo hi H Q):SlR X r':=fun pins s σ H x v vl vu lo hi sl Q I rx hs pl pu q=>h pins s σ H x v vl vu lo hi sl Q I rx hs pl pu (i x lo hi H Q q)
section
variable {K:Ya} {H H1:Hp} {ι ι1:List Addr}
theorem Zat.up {Q:VK} {r:R3 D} (e:Ext K H ι H1 ι1) (h:Zat K H ι Q r):Zat K H1 ι1 Q r:=by
 cases r with
 | ok d M=>exact fun v H' ι' e' S r=>h v H' ι' (e.trans e') S r
 | exc x M=>exact h
 | bad=>exact h
theorem ZiP.up {Q:Bool -> Hp -> Prop} {r:R3 D} (e:Ext K H ι H1 ι1) (h:ZiP K H ι Q r):ZiP K H1 ι1 Q r:=by
 cases r with
 | ok d M=>cases d <;> first | exact h | exact fun H' ι' e' S=>h H' ι' (e.trans e') S
 | exc x M=>exact h
 | bad=>exact h
theorem Zgz.up {Q:Ends} {r:O3} (e:Ext K H ι H1 ι1) (h:Zgz K H ι Q r):Zgz K H1 ι1 Q r:=by
 cases r with
 | nx d M=>exact fun v H' ι' e' S r=>h v H' ι' (e.trans e') S r
 | bk d M=>exact fun v H' ι' e' S r=>h v H' ι' (e.trans e') S r
 | ct d M=>exact fun v H' ι' e' S r=>h v H' ι' (e.trans e') S r
 | rt d M=>exact fun v H' ι' e' S r=>h v H' ι' (e.trans e') S r
 | exc x M=>exact h
 | bad=>exact h
theorem Zat.ok {Q:VK} {d:D} {M:Store} {v:V} (h:Zat K H ι Q (.ok d M)) (S:ZaJ K H ι M) (r:Rep K H ι d v):Q v H:=h v H ι Ext.refl S r
theorem Zat.bind {α:Type} {Q:VK} {r:R3 α} {k:α -> Store -> R3 D} (h:Zat K H ι Q (r.bind k)):∃ a M,r = .ok a M /\ Zat K H ι Q (k a M):=by
 cases r with
 | ok a M=>exact ⟨a,M,rfl,h⟩
 | exc x M=>exact h.elim
 | bad=>exact h.elim
theorem ZoI.bind {α:Type} {Q:List V -> Hp -> Prop} {r:R3 α} {k:α -> Store -> R3 (List D)} (h:ZoI K H ι Q (r.bind k)):∃ a M,r = .ok a M /\ ZoI K H ι Q (k a M):=by
 cases r with
 | ok a M=>exact ⟨a,M,rfl,h⟩
 | exc x M=>exact h.elim
 | bad=>exact h.elim
theorem ZqO.bind {α:Type} {Q:Option Int -> Hp -> Prop} {r:R3 α} {k:α -> Store -> R3 (Option Int)} (h:ZqO K H ι Q (r.bind k)):∃ a M,r = .ok a M /\ ZqO K H ι Q (k a M):=by
 cases r with
 | ok a M=>exact ⟨a,M,rfl,h⟩
 | exc x M=>exact h.elim
 | bad=>exact h.elim
theorem ZiP.bind {α:Type} {Q:Bool -> Hp -> Prop} {r:R3 α} {k:α -> Store -> R3 D} (h:ZiP K H ι Q (r.bind k)):∃ a M,r = .ok a M /\ ZiP K H ι Q (k a M):=by
 cases r with
 | ok a M=>exact ⟨a,M,rfl,h⟩
 | exc x M=>exact h.elim
 | bad=>exact h.elim
end
inductive R2I (K:Ya) (op:D -> D -> Store -> R3 D) (x y:V) (H:Hp) (Q:VK):Prop where
 | mk (ι:List Addr) (M:Store) (a b:D) (S:ZaJ K H ι M) (ra:Rep K H ι a x) (rb:Rep K H ι b y) (h:Zat K H ι Q (op a b M)):R2I K op x y H Q
def r2 (K:Ya) (op:D -> D -> Store -> R3 D):R2:=fun x y H Q=>R2I K op x y H Q
noncomputable def r1 (K:Ya) (op:D -> Store -> R3 D):V -> Hp -> VK -> Prop:=fun x H Q=>∃ ι M a,ZaJ K H ι M /\ Rep K H ι a x /\ Zat K H ι Q (op a M)
inductive RBI (K:Ya) (b:List D -> Store -> R3 D) (xs:List V) (H:Hp) (Q:VK):Prop where
 | mk (ι:List Addr) (M:Store) (ds:List D) (S:ZaJ K H ι M) (r:Zal K H ι ds xs) (h:Zat K H ι Q (b ds M)):RBI K b xs H Q
noncomputable def rB (K:Ya) (b:List D -> Store -> R3 D):List V -> Hp -> VK -> Prop:=fun xs H Q=>RBI K b xs H Q
noncomputable def rM (K:Ya) (m:D -> List D -> Store -> R3 D):V -> List V -> Hp -> VK -> Prop:=fun x xs H Q=>∃ ι M a ds,ZaJ K H ι M /\ Rep K H ι a x /\ Zal K H ι ds xs /\ Zat K H ι Q (m a ds M)
noncomputable def rS (K:Ya):V -> Option Int -> Option Int -> Hp -> VK -> Prop:=fun x lo hi H Q=>∃ ι M a,ZaJ K H ι M /\ Rep K H ι a x /\ Zat K H ι Q (ZoG a lo hi M)
theorem Zlh {K:Ya} {op:D -> D -> Store -> R3 D} {f g:E3} (σ:St) (H:Hp) (Q:VK) (h:tOf K (e2 op f g) σ H Q):tOp (r2 K op) (tOf K f) (tOf K g) σ H Q:=by
 obtain ⟨ι,M,env,S,E,h⟩:=h;obtain ⟨a,M1,e1,h⟩:=Zat.bind h;obtain ⟨b,M2,e2,h⟩:=Zat.bind h;refine ⟨ι,M,env,S,E,?_⟩;rw [e1];intro v H1 ι1 x1 S1 r1;refine ⟨ι1,M1,env,S1,E.mono x1,?_⟩;rw [e2];intro u H2 ι2 x2 S2 r2;exact ⟨ι2,M2,a,b,S2,r1.mono x2,r2,(h.up x1).up x2⟩
theorem Ztv {K:Ya} {op:D -> Store -> R3 D} {f:E3} (σ:St) (H:Hp) (Q:VK) (h:tOf K (e1 op f) σ H Q):tUn (r1 K op) (tOf K f) σ H Q:=by
 obtain ⟨ι,M,env,S,E,h⟩:=h;obtain ⟨a,M1,e1,h⟩:=Zat.bind h;refine ⟨ι,M,env,S,E,?_⟩;rw [e1];intro v H1 ι1 x1 S1 r1;exact ⟨ι1,M1,a,S1,r1,h.up x1⟩
section
variable {X:Cx} {a b c e o:Expr} {es:List Expr} {pos p:Pos} {f g h:E3} {gl:EL3}
theorem Zc (i:Nat) {x:Str} (hN:X.N[i]? = some x:=by rfl) (hv:Vis X.env.scope x:=by first | exact Or.inl rfl | exact Or.inr (Or.inl rfl) | exact Or.inr (Or.inr rfl)) (hd:(x == ("__debug__":Str)) = false:=by decide)
  (hcd:(x == ("__classdict__":Str)) = false:=by decide):C3 X (.Name x pos) (Za i):=(ZsZ hN hv hd hcd).imp fun σ H Q zz1=>by
 obtain ⟨ι,M,env,S,E,h⟩:=zz1;unfold Za at h;cases q:env[i]? with
 | none=>rw [q] at h; exact h.elim
 | some od=>
  cases od with
  | none=>rw [q] at h; exact h.elim
  | some d=>
   rw [q] at h;obtain ⟨v,e1,r⟩:=E.2 i d q;exact ⟨v,e1,Zat.ok h S r⟩
theorem Zk {i j}:C3 X (.Constant (.int i) j pos) (eC (.int i)):=ZtJ.imp fun σ H Q ⟨ι,M,env,S,E,h⟩=>Zat.ok h S Rep.int
theorem Zig {i j}:C3 X (.Constant (.bool i) j pos) (eC (.bl i)):=ZuU.imp fun σ H Q ⟨ι,M,env,S,E,h⟩=>Zat.ok h S Rep.bl
theorem Zdx {j}:C3 X (.Constant .none j pos) (eC .non):=Ztm.imp fun σ H Q ⟨ι,M,env,S,E,h⟩=>Zat.ok h S Rep.non
theorem Zap {x:Str} {cs:List Nat} {j} (hx:x = ⟨cs.toArray⟩:=by decide +kernel):C3 X (.Constant (.str x) j pos) (eC (.str cs)):=Zs9.imp fun σ H Q zz1=>by
 obtain ⟨ι,M,env,S,E,h⟩:=zz1;subst hx;exact Zat.ok h S Rep.str
theorem Zx {op:Operator} {q:D -> D -> Store -> R3 D} (ho:OpR X (Ybs op) (r2 X.K q)) (ha:C3 X a f) (hb:C3 X b g):C3 X (.BinOp a op b pos) (e2 q f g):=(Zt4 ho ha hb).imp Zlh
theorem Znu {op:UnaryOp} {q:D -> Store -> R3 D} (ho:UnR X (unaryOp op) (r1 X.K q)) (ha:C3 X a f):C3 X (.UnaryOp op a pos) (e1 q f):=(Zu3 ho ha).imp Ztv
theorem Zdg {op:CmpOp} {q:D -> D -> Store -> R3 D} (ho:OpR X (Ya0 op) (r2 X.K q)) (ha:C3 X a f) (hb:C3 X b g) (hm:Yfe op b = false:=by rfl):C3 X (.Compare a [op] [b] pos) (e2 q f g):=(ZrH ho ha hb hm).imp Zlh
theorem ZjY {K:Ya} {H:Hp} {ι:List Addr} {Q:Bool -> Hp -> Prop} {r:R3 D} (h:ZiP K H ι Q r):Zat K H ι (fun x H'=>∃ k,x = .bl k /\ Q k H') r:=by
 cases r with
 | ok d M=>
  cases d with
  | bl b=>exact fun v H' ι' e S r=>⟨b,r.bl_inv,h H' ι' e S⟩
  | _=>exact h.elim
 | exc x M=>exact h.elim
 | bad=>exact h.elim
theorem ZdB (h:C3 X e f) (he:∀ whole,isTrue e X.env whole = (do let v ← whole; Yh1 e.pos; Yc0 [v] (truthy v)):=by intro _; rfl):CT X e f:=(Ztw h he).imp fun σ H Q ⟨ι,M,env,S,E,h⟩=>⟨ι,M,env,S,E,ZjY h⟩
theorem Zz {op:CmpOp} {q:D -> D -> Store -> R3 D} (ho:OpR X (Ya0 op) (r2 X.K q)) (ha:C3 X a f) (hb:C3 X b g) (hm:Yfe op b = false:=by rfl):CT X (.Compare a [op] [b] pos) (e2 q f g):=
 (Zrg ho ha hb hm).imp fun σ H Q ⟨ι,M,env,S,E,h⟩=>Zlh σ H _ ⟨ι,M,env,S,E,ZjY h⟩
end
section
variable {X:Cx} {a b c e o:Expr} {es rest:List Expr} {pos p:Pos} {f g h:E3} {gl:EL3}
theorem Zj2 {op} (h:C3 X a f):C3 X (.BoolOp op [a] pos) f:=ZsU h
theorem Zkj (ha:C3 X a f) (hb:C3 X (.BoolOp .And (b :: rest) pos) g):C3 X (.BoolOp .And (a :: b :: rest) pos) (Zc7 f g):=(Zsk ha hb).imp fun σ H Q zz1=>by
 obtain ⟨ι,M,env,S,E,h⟩:=zz1;obtain ⟨d,M1,e1,h⟩:=Zat.bind h;refine ⟨ι,M,env,S,E,?_⟩;rw [e1];intro v H1 ι1 x1 S1 r1;cases d with
 | bl k=>
  refine ⟨k,r1.bl_inv,?_⟩;cases k with
  | true=>rw [if_pos rfl]; exact ⟨ι1,M1,env,S1,E.mono x1,h.up x1⟩
  | false=>rw [if_neg (by decide)]; exact Zat.ok (h.up x1) S1 Rep.bl
 | _=>exact h.elim
theorem Zwb (ha:C3 X a f) (hb:C3 X (.BoolOp .Or (b :: rest) pos) g):C3 X (.BoolOp .Or (a :: b :: rest) pos) (eOr f g):=(ZuY ha hb).imp fun σ H Q zz1=>by
 obtain ⟨ι,M,env,S,E,h⟩:=zz1;obtain ⟨d,M1,e1,h⟩:=Zat.bind h;refine ⟨ι,M,env,S,E,?_⟩;rw [e1];intro v H1 ι1 x1 S1 r1;cases d with
 | bl k=>
  refine ⟨k,r1.bl_inv,?_⟩;cases k with
  | false=>rw [if_neg (by decide)]; exact ⟨ι1,M1,env,S1,E.mono x1,h.up x1⟩
  | true=>rw [if_pos rfl]; exact Zat.ok (h.up x1) S1 Rep.bl
 | _=>exact h.elim
theorem Zvd (ha:C3 X a f):C3 X (.UnaryOp .Not a pos) (e1 Zb0 f):=(Zty ha).imp fun σ H Q zz1=>by
 obtain ⟨ι,M,env,S,E,h⟩:=zz1;obtain ⟨d,M1,e1,h⟩:=Zat.bind h;refine ⟨ι,M,env,S,E,?_⟩;rw [e1];intro v H1 ι1 x1 S1 r1;cases d with
 | bl k=>exact ⟨k,r1.bl_inv,Zat.ok (h.up x1) S1 Rep.bl⟩
 | _=>exact h.elim
def CW (X:Cx) (e:Expr) (f:E3):Prop:=PW X e (tTf X.K f)
theorem CW.ct (h:CW X e f):CT X e f:=PW.pt h
theorem PW.imp {t t':TT} (h:PW X e t) (i:∀ σ H Q,t' σ H Q -> t σ H Q):PW X e t':=fun wh pins s σ H Q I q=>h wh pins s σ H Q I (i σ H Q q)
theorem ZeF (ha:CT X a f):CW X (.BoolOp .And [a] pos) f:=ZrA ha
theorem Ze3 (ha:CT X a f):CW X (.BoolOp .Or [a] pos) f:=Zs5 ha
theorem ZfF (ha:CT X a f) (hb:CW X (.BoolOp .And (b :: rest) pos) g):CW X (.BoolOp .And (a :: b :: rest) pos) (Zc7 f g):=PW.imp (Zs4 ha hb) fun σ H Q zz1=>by
 obtain ⟨ι,M,env,S,E,h⟩:=zz1;obtain ⟨d,M1,e1,h⟩:=ZiP.bind h;refine ⟨ι,M,env,S,E,?_⟩;rw [e1];cases d with
 | bl k=>
  intro H1 ι1 x1 S1;cases k with
  | true=>rw [if_pos rfl]; exact ⟨ι1,M1,env,S1,E.mono x1,h.up x1⟩
  | false=>rw [if_neg (by decide)]; exact h H1 ι1 x1 S1
 | _=>exact h.elim
theorem Ze5 (ha:CT X a f) (hb:CW X (.BoolOp .Or (b :: rest) pos) g):CW X (.BoolOp .Or (a :: b :: rest) pos) (eOr f g):=PW.imp (ZuV ha hb) fun σ H Q zz1=>by
 obtain ⟨ι,M,env,S,E,h⟩:=zz1;obtain ⟨d,M1,e1,h⟩:=ZiP.bind h;refine ⟨ι,M,env,S,E,?_⟩;rw [e1];cases d with
 | bl k=>
  intro H1 ι1 x1 S1;cases k with
  | false=>rw [if_neg (by decide)]; exact ⟨ι1,M1,env,S1,E.mono x1,h.up x1⟩
  | true=>rw [if_pos rfl]; exact h H1 ι1 x1 S1
 | _=>exact h.elim
theorem ZeR (ha:CT X a f):CT X (.UnaryOp .Not a pos) (e1 Zb0 f):=(ZsG ha).imp fun σ H Q zz1=>by
 obtain ⟨ι,M,env,S,E,h⟩:=zz1;obtain ⟨d,M1,e1,h⟩:=ZiP.bind h;refine ⟨ι,M,env,S,E,?_⟩;rw [e1];cases d with
 | bl k=>exact fun H1 ι1 x1 S1=>h H1 ι1 x1 S1
 | _=>exact h.elim
theorem ZpU (hc:CT X c f) (ha:C3 X a g) (hb:C3 X b h):C3 X (.IfExp c a b pos) (eIf f g h):=(ZpK hc ha hb).imp fun σ H Q zz1=>by
 obtain ⟨ι,M,env,S,E,h⟩:=zz1;obtain ⟨d,M1,e1,h⟩:=Zat.bind h;refine ⟨ι,M,env,S,E,?_⟩;rw [e1];cases d with
 | bl k=>
  intro H1 ι1 x1 S1;cases k with
  | true=>rw [if_pos rfl]; exact ⟨ι1,M1,env,S1,E.mono x1,h.up x1⟩
  | false=>rw [if_neg (by decide)]; exact ⟨ι1,M1,env,S1,E.mono x1,h.up x1⟩
 | _=>exact h.elim
theorem Zm:CA X [] Zj:=ZpR.imp fun σ H Q ⟨ι,M,env,S,E,h⟩=>h [] H ι Ext.refl S Zal.nil
theorem Zd (ha:C3 X e f) (hr:CA X es gl) (hs:Yad (e :: es) X.env = (false,eval e X.env) :: Yad es X.env:=by rfl):CA X (e :: es) (Zb f gl):=(ZkY ha hr hs).imp fun σ H Q zz1=>by
 obtain ⟨ι,M,env,S,E,h⟩:=zz1;obtain ⟨d,M1,e1,h⟩:=ZoI.bind h;obtain ⟨ds,M2,e2,h⟩:=ZoI.bind h;refine ⟨ι,M,env,S,E,?_⟩;rw [e1];intro v H1 ι1 x1 S1 r1;refine ⟨ι1,M1,env,S1,E.mono x1,?_⟩;rw [e2];intro vs H2 ι2 x2 S2 r2;exact h (v :: vs) H2 ι2 (x1.trans x2) S2 (Zal.cons (r1.mono x2) r2)
theorem Za0 {x1} (h:CA X es gl):C3 X (.Tuple es x1 pos) (ZaB gl):=(ZsE h).imp fun σ H Q zz1=>by
 obtain ⟨ι,M,env,S,E,h⟩:=zz1;obtain ⟨ds,M1,e1,h⟩:=Zat.bind h;refine ⟨ι,M,env,S,E,?_⟩;rw [e1];intro vs H1 ι1 x1 S1 r1;by_cases hz:ds.length <= SZ
 ·rw [if_pos hz] at h
  refine ⟨by rw [r1.length]; exact Y2 hz ZcZ,fun p hp=>?_⟩;obtain ⟨x2,S2,r2⟩:=S1.tupl hp r1;exact h _ _ _ (x1.trans x2) S2 r2
 ·rw [if_neg hz] at h; exact h.elim
theorem ZcA (h:CA X es gl):C3 X (.List es pos) (ZbT gl):=(ZtG h).imp fun σ H Q zz1=>by
 obtain ⟨ι,M,env,S,E,h⟩:=zz1;obtain ⟨ds,M1,e1,h⟩:=Zat.bind h;refine ⟨ι,M,env,S,E,?_⟩;rw [e1];intro vs H1 ι1 x1 S1 r1;by_cases hz:ds.length <= SZ
 ·rw [if_pos hz] at h
  refine ⟨by rw [r1.length]; exact Y2 hz ZcZ,fun p hp=>?_⟩;obtain ⟨x2,S2,r2⟩:=S1.lst hp r1;exact h _ _ _ (x1.trans x2) S2 r2
 ·rw [if_neg hz] at h; exact h.elim
theorem Zp8 {K:Ya} {q:List D -> Store -> R3 D} (σ:St) (H:Hp) (Q:VK) (h:tOf K (Zak q gl) σ H Q):tCB (rB K q) (tAf K gl) σ H Q:=by
 obtain ⟨ι,M,env,S,E,h⟩:=h;obtain ⟨ds,M1,e1,h⟩:=Zat.bind h;refine ⟨ι,M,env,S,E,?_⟩;rw [e1];intro vs H1 ι1 x1 S1 r1;exact ⟨ι1,M1,ds,S1,r1,h.up x1⟩
theorem Zbl {x:Str} {id:String} {q:List D -> Store -> R3 D} (hc:ZbZ X (.builtin id) (rB X.K q)) (hm:X.mg x = none) (hv:Yaw x = some (.builtin id)) (ha:CA X (e :: es) gl) (hg:Gl X x:=by rfl) (hn:x ≠ "__name__":=by decide) (hdb:(x == ("__debug__":Str)) = false:=by decide)
  (he:Yad (e :: es) X.env = (false,eval e X.env) :: Yad es X.env:=by rfl) (hpl:(Yd9 pos (Yad es X.env)).any (·.1) = false:=by rfl):C3 X (.Call (.Name x p) (e :: es) [] pos) (Zak q gl):=(ZmC hc hg hm hv ha hn hdb he hpl).imp Zp8
theorem Zdb {x:Str} {T:String} {q:List D -> Store -> R3 D} (hc:ZbZ X (.type T) (rB X.K q)) (hm:X.mg x = none) (hv:Yaw x = some (.type T)) (ha:CA X (e :: es) gl) (hg:Gl X x:=by rfl) (hn:x ≠ "__name__":=by decide) (hdb:(x == ("__debug__":Str)) = false:=by decide)
  (he:Yad (e :: es) X.env = (false,eval e X.env) :: Yad es X.env:=by rfl) (hpl:(Yd9 pos (Yad es X.env)).any (·.1) = false:=by rfl):C3 X (.Call (.Name x p) (e :: es) [] pos) (Zak q gl):=(ZoR hc hg hm hv ha hn hdb he hpl).imp Zp8
theorem Zu (hr:IxR X (r2 X.K Ze)) (ha:C3 X a f) (hb:C3 X b g) (hs:ZnS b:=by exact fun _ _=>rfl):C3 X (.Subscript a b pos) (e2 Ze f g):=(ZuD hr ha hb hs).imp Zlh
theorem Za6:CO X none ZaE:=Zrl.imp fun σ H Q ⟨ι,M,env,S,E,h⟩=>h H ι Ext.refl S
theorem Za5 (h:C3 X e f):CO X (some e) (ZaI f):=(Zrz h).imp fun σ H Q zz1=>by
 obtain ⟨ι,M,env,S,E,h⟩:=zz1;obtain ⟨d,M1,e1,h⟩:=ZqO.bind h;refine ⟨ι,M,env,S,E,?_⟩;rw [e1];intro v H1 ι1 x1 S1 r1;cases d with
 | int i=>exact ⟨i,r1.int_inv,h H1 ι1 x1 S1⟩
 | _=>exact h.elim
theorem ZdW {lo hi:Option Expr} {ol oh:EO3} {p2:Pos} (hr:SlR X (rS X.K)) (he:C3 X e f) (hl:CO X lo ol) (hu:CO X hi oh):C3 X (.Subscript e (.Slice lo hi none p2) pos) (eSl f ol oh):=(ZpS hr he hl hu).imp fun σ H Q zz1=>by
 obtain ⟨ι,M,env,S,E,h⟩:=zz1;obtain ⟨d,M1,e1,h⟩:=Zat.bind h;obtain ⟨l,M2,e2,h⟩:=Zat.bind h;obtain ⟨u,M3,e3,h⟩:=Zat.bind h;refine ⟨ι,M,env,S,E,?_⟩;rw [e1];intro v H1 ι1 x1 S1 r1;refine ⟨ι1,M1,env,S1,E.mono x1,?_⟩;rw [e2];intro H2 ι2 x2 S2;refine ⟨ι2,M2,env,S2,(E.mono x1).mono x2,?_⟩;rw [e3];intro H3 ι3 x3 S3;exact ⟨ι3,M3,d,S3,(r1.mono x2).mono x3,((h.up x1).up x2).up x3⟩
theorem Zad:CSs X [] Zab:=Zq3.imp fun D σ H ⟨ι,M,env,S,E,h⟩=>h σ H ι Ext.refl S E
theorem Zn {st:Stmt} {u:S3} (h:CS X st u):CSs X [st] u:=Zq1 h
theorem Zi {st:Stmt} {sts:List Stmt} {u w:S3} (h1:CS X st u) (h2:CSs X sts w):CSs X (st :: sts) (Zw u w):=(Zpb h1 h2).imp fun D σ H zz1=>by
 obtain ⟨ι,M,env,S,E,h⟩:=zz1;refine ⟨ι,M,env,S,E,?_⟩;have h':Zgz X.K H ι D (match u env M with | .nx env' M'=>w env' M' | o=>o):=h;cases q:u env M with
 | nx env' M'=>rw [q] at h'; exact fun σ' H' ι' x S' E'=>⟨ι',M',env',S',E',h'.up x⟩
 | _=>rw [q] at h'; exact h'
theorem Zau {c1:Expr} {x y:List Stmt} {u w:S3} (hc:CT X c1 f) (ha:CSs X x u) (hb:CSs X y w):CS X (.If c1 x y pos) (sIf f u w):=(Zu9 hc ha hb).imp fun D σ H zz1=>by
 obtain ⟨ι,M,env,S,E,h⟩:=zz1;refine ⟨ι,M,env,S,E,?_⟩;unfold sIf at h;cases q:f env M with
 | ok d M1=>
  rw [q] at h;cases d with
  | bl k=>
   intro H1 ι1 x1 S1;cases k with
   | true=>rw [if_pos rfl]; exact ⟨ι1,M1,env,S1,E.mono x1,h.up x1⟩
   | false=>rw [if_neg (by decide)]; exact ⟨ι1,M1,env,S1,E.mono x1,h.up x1⟩
  | _=>exact h.elim
 | exc x M1=>rw [q] at h; exact h.elim
 | bad=>rw [q] at h; exact h.elim
theorem Zaa (h:C3 X e f):CS X (.Return (some e) pos) (Zaf f):=(ZsH h).imp fun D σ H zz1=>by
 obtain ⟨ι,M,env,S,E,h⟩:=zz1;refine ⟨ι,M,env,S,E,?_⟩;unfold Zaf at h;cases q:f env M with
 | ok d M1=>rw [q] at h; exact h
 | exc x M1=>rw [q] at h; exact h.elim
 | bad=>rw [q] at h; exact h.elim
theorem Zix (h:C3 X e f) (hs:Yei e none pos.line X.env = pure false:=by rfl):CS X (.Expr e pos) (Zbq f):=(Zry h hs).imp fun D σ H zz1=>by
 obtain ⟨ι,M,env,S,E,h⟩:=zz1;refine ⟨ι,M,env,S,E,?_⟩;unfold Zbq at h;cases q:f env M with
 | ok d M1=>rw [q] at h; exact fun v H1 ι1 x1 S1 r1=>h σ H1 ι1 x1 S1 (E.mono x1)
 | exc x M1=>rw [q] at h; exact h.elim
 | bad=>rw [q] at h; exact h.elim
theorem Zai (i:Nat) {x:Str} {pos':Pos} (hN:X.N.Nodup) (he:C3 X e f) (hi:X.N[i]? = some x:=by rfl) (hx:Loc X.env.scope x:=by first | exact Or.inl rfl | exact Or.inr rfl) (hs:Yei e (some (.Name x pos')) pos.line X.env = pure false:=by rfl)
  (hf:X.fn x = true \/ X.env.scope.names.lookup x = some .local:=by first | exact .inl rfl | exact .inr rfl):CS X (.Assign [.Name x pos'] e pos) (Zaj i f):=(ZtH hN hi hx he hs hf).imp fun D σ H zz1=>by
 obtain ⟨ι,M,env,S,E,h⟩:=zz1;refine ⟨ι,M,env,S,E,?_⟩;unfold Zaj at h;cases q:f env M with
 | ok d M1=>rw [q] at h; exact fun v H1 ι1 x1 S1 r1=>h _ H1 ι1 x1 S1 ((E.mono x1).set i r1)
 | exc x M1=>rw [q] at h; exact h.elim
 | bad=>rw [q] at h; exact h.elim
end
noncomputable def sp3 (K:Ya) (n:Nat) (F:F3):Sp:=fun vs H Q _=>∃ ι M ds,ZaJ K H ι M /\ Zal K H ι ds vs /\ ds.length = n /\ Zat K H ι Q (F ds M)
section
variable {K:Ya} {H H':Hp} {ι ι':List Addr} {M M':Store}
mutual
theorem Rep.below:∀ {d:D} {v:V},Rep K H ι d v -> L3.below ι.length d = true
 | .non,_,_=>rfl
 | .bl _,_,_=>rfl
 | .int _,_,_=>rfl
 | .str _,_,_=>rfl
 | .tup ds,_,h=>by
  obtain ⟨a,vs,_,_,r⟩:=h.tup_inv;simp only [L3.below];exact Zal.belowL (ds:=ds) r
 | .scr ds,_,h=>by
  obtain ⟨a,vs,_,_,r⟩:=h.scr_inv;simp only [L3.below];exact Zal.belowL (ds:=ds) r
 | .ref n,_,h=>by
  obtain ⟨a,q,_⟩:=h.ref_inv;simp only [L3.below,decide_eq_true_eq];exact (Yc.mp q).1
theorem Zal.belowL:∀ {ds:List D} {vs:List V},Zal K H ι ds vs -> L3.belowL ι.length ds = true
 | [],_,_=>rfl
 | d :: ds,_,h=>by
  obtain ⟨v,ws,_,r,q⟩:=h.cons_inv;simp only [L3.belowL,Yv];exact ⟨Rep.below (d:=d) r,Zal.belowL (ds:=ds) q⟩
end
mutual
theorem Rep.cut {n:Nat}:∀ {d:D} {v:V},L3.below n d = true -> Rep K H ι d v -> Rep K H (ι.take n) d v
 | .non,_,_,h=>by simpa [Rep] using h
 | .bl _,_,_,h=>by simpa [Rep] using h
 | .int _,_,_,h=>by simpa [Rep] using h
 | .str _,_,_,h=>by simpa [Rep] using h
 | .tup ds,_,hb,h=>by
  obtain ⟨a,vs,rfl,s,r⟩:=h.tup_inv;exact Rep.tup s (Zal.cut (ds:=ds) (by simpa only [L3.below] using hb) r)
 | .scr ds,_,hb,h=>by
  obtain ⟨a,vs,rfl,s,r⟩:=h.scr_inv;simp only [Rep];exact ⟨a,vs,rfl,s,Zal.cut (ds:=ds) (by simpa only [L3.below] using hb) r⟩
 | .ref k,_,hb,h=>by
  obtain ⟨a,q,rfl⟩:=h.ref_inv;refine Rep.ref ?_;rw [Ycn (by simpa [L3.below] using hb)];exact q
theorem Zal.cut {n:Nat}:∀ {ds:List D} {vs:List V},L3.belowL n ds = true -> Zal K H ι ds vs -> Zal K H (ι.take n) ds vs
 | [],_,_,h=>by simpa [Zal] using h
 | d :: ds,_,hb,h=>by
  obtain ⟨v,ws,rfl,r,q⟩:=h.cons_inv;simp only [L3.belowL,Yv] at hb;exact Zal.cons (Rep.cut (d:=d) hb.1 r) (Zal.cut (ds:=ds) hb.2 q)
end
theorem ZgA.below {m:MO} {a:Addr} (h:ZgA K H ι m a):ZhX ι.length m = true:=by
 cases m with
 | lst xs=>obtain ⟨vs,_,r⟩:=h; exact r.belowL
 | dct kvs=>obtain ⟨ws,_,_,r⟩:=h; exact r.belowL
 | fdct kvs=>obtain ⟨ws,_,_,r⟩:=h; exact r.belowL
 | ins c fs=>
  rcases h with ⟨_,_,gs,_,_,_,r⟩ | ⟨_,_,_,_,rfl⟩
  ·exact r.belowL
  ·rfl
theorem ZgA.cut {n:Nat} {m:MO} {a:Addr} (hb:ZhX n m = true) (h:ZgA K H ι m a):ZgA K H (ι.take n) m a:=by
 cases m with
 | lst xs=>obtain ⟨vs,q,r⟩:=h; exact ⟨vs,q,r.cut hb⟩
 | dct kvs=>obtain ⟨ws,q,r1,r2⟩:=h; exact ⟨ws,q,r1,r2.cut hb⟩
 | fdct kvs=>obtain ⟨ws,q,r1,r2⟩:=h; exact ⟨ws,q,r1,r2.cut hb⟩
 | ins c fs=>
  rcases h with ⟨C,dx,gs,q,c,r1,r2⟩ | h
  ·exact .inl ⟨C,dx,gs,q,c,r1,r2.cut hb⟩
  ·exact .inr h
theorem ZaJ.cut {n:Nat} (S:ZaJ K H ι M) (h:(M.take n).all (ZhX n) = true):ZaJ K H (ι.take n) (M.take n):=by
 refine ⟨by simp [S.len],S.nd.sublist (List.take_sublist _ _),fun k m a h1 h2=>?_⟩;have hk:k < n:=by
  have:=(Yc.mp h1).1;rw [Yea] at this;exact Yx this (Ybq _ _)
 have hb:ZhX n m = true:=Yaf.mp h m (Yax h1);rw [Ycn hk] at h1 h2;exact (S.obj k m a h1 h2).cut hb
theorem Zn4 {Q:VK} {d:D} {v:V} (S:ZaJ K H ι M) (x:Ext K H ι H' ι') (S':ZaJ K H' ι' M') (r:Rep K H' ι' d v) (h:Zat K H ι Q (ZdS M d M')):Q v H':=by
 unfold ZdS at h;split at h
 ·rename_i c
  simp only [Yv,Yca,decide_eq_true_eq] at c;have hall:(M'.take M.length).all (ZhX M.length) = true:=by
   rcases c.2 with e | e
   ·rw [e,Yaf]
    intro m hm;obtain ⟨n,hn⟩:=Yb0 hm;obtain ⟨a,q,w⟩:=S.at hn;rw [← S.len];exact w.below
   ·exact e
  refine h v H' (ι'.take M.length) ⟨x.tup,x.scr,fun n a q=>?_,x.frz⟩ (S'.cut hall) (r.cut c.1);rw [Ycn (by rw [← S.len]; exact (Yc.mp q).1)];exact x.pre n a q
 ·exact h v H' ι' x S' r
end
theorem Zb1.start {K:Ya} {H:Hp} {ι:List Addr} {ds:List D} {vs:List V} (r:Zal K H ι ds vs) (n:Nat):Zb1 K H ι (ds.map some ++ Yg n none) (vs.map some ++ Yg n none):=by
 refine ⟨by simp [r.length],fun i d h=>?_⟩;by_cases hi:i < ds.length
 ·rw [Y0 (by simpa using hi),Y1] at h
  cases q:ds[i]? with
  | none=>rw [q] at h; simp at h
  | some d'=>
   rw [q] at h;simp at h;subst h;obtain ⟨v,e,z⟩:=r.get q;refine ⟨v,?_,z⟩;rw [Y0 (by simpa [r.length] using hi),Y1,e];rfl
 ·rw [Yan (by simpa using hi),Yct] at h
  split at h <;> simp at h
section
variable {P:Yai} {w:World} {K:Ya} {mg:Str -> Option Value} {base:Heap}
theorem fn3 {x qual:Str} {st:Stmt} {f:Addr} {fd:FuncData} {N ps:List Str} {k:Nat} {body:S3} (F:Fun K x qual st f fd) (S:ZaA N ps (Zt st))
  (hb:∀ (cdv:Value) (A:Yas) (outer:List Env) (s:Ye) (H:Hp) (E:XK),Zel k (A.deeper (Yha qual (Zt st) s.heap.objs.size f cdv)) -> CSs (Zl9 CX0 P w K mg base N qual (Zt st) f cdv A outer s H E).nox (Zar st) body):
  ZiV P w K mg base CX0 (k + 1) f fd ps (sp3 K ps.length (mkF ps.length N.length body)):=by
 refine F.ok S (fun vs H Q E ⟨ι,M,ds,_,r,l,_⟩=>by rw [r.length,l]) fun cdv A outer s H vs Q E hr zz1=>?_;obtain ⟨ι,M,ds,SR,r,l,h⟩:=zz1;refine ⟨_,hb cdv A outer s H E hr,ι,M,ds.map some ++ Yg (N.length - ps.length) none,SR,?_,?_⟩
 ·have e:L2.start N vs = vs.map some ++ Yg (N.length - ps.length) none:=by unfold L2.start; rw [r.length,l]
  rw [e];exact Zb1.start r _
 ·unfold mkF at h
  rw [if_pos l] at h;cases q:body (ds.map some ++ Yg (N.length - ps.length) none) M with
  | nx env' M'=>rw [q] at h; exact fun σ' H' ι' x S' E'=>Zn4 SR x S' Rep.non h
  | rt d M'=>rw [q] at h; exact fun v H' ι' x S' r'=>Zn4 SR x S' r' h
  | bk _ _=>rw [q] at h; exact h.elim
  | ct _ _=>rw [q] at h; exact h.elim
  | exc _ _=>rw [q] at h; exact h.elim
  | bad=>rw [q] at h; exact h.elim
def Fn3 (P:Yai) (w:World) (K:Ya) (mg:Str -> Option Value) (base:Heap) (k:Nat) (x:Str) (ps:List Str) (F:F3):Prop:=
 (∀ ds M,ds.length ≠ ps.length -> F ds M = .bad) /\ ∃ f fd,mg x = some (.ref f) /\ Yd6 K (.ref f) = true /\ Binds K fd ps [] /\ ZiV P w K mg base CX0 k f fd ps (sp3 K ps.length F)
def Zav (K:Ya) (mg:Str -> Option Value) (x:Str) (st:Stmt) (ps:List Str):Prop:=∃ f fd,Fun K x x st f fd /\ mg x = some (.ref f) /\ Binds K fd ps []
theorem Fn3.of {x:Str} {st:Stmt} {N ps:List Str} {k:Nat} {body:S3} (d:Zav K mg x st ps) (S:ZaA N ps (Zt st))
  (hb:∀ (f:Addr) (cdv:Value) (A:Yas) (outer:List Env) (s:Ye) (H:Hp) (E:XK),Zel k (A.deeper (Yha x (Zt st) s.heap.objs.size f cdv)) -> CSs (Zl9 CX0 P w K mg base N x (Zt st) f cdv A outer s H E).nox (Zar st) body):
  Fn3 P w K mg base (k + 1) x ps (mkF ps.length N.length body):=by
 obtain ⟨f,fd,F,m,bi⟩:=d;exact ⟨fun ds M h=>if_neg h,f,fd,m,F.kp,bi,fn3 F S (hb f)⟩
end
section
variable {X:Cx} {e:Expr} {es:List Expr} {pos p:Pos} {gl:EL3} {x:Str} {k:Nat} {ps:List Str} {F:F3}
theorem ZaH (G:Fn3 X.prog X.w X.K X.mg X.base k x ps F) (hr:Zel k X.A) (ha:CA X (e :: es) gl) (hg:Gl X x:=by rfl) (hdb:(x == ("__debug__":Str)) = false:=by decide)
  (he:Yad (e :: es) X.env = (false,eval e X.env) :: Yad es X.env:=by rfl) (hpl:(Yd9 pos (Yad es X.env)).any (·.1) = false:=by rfl):C3 X (.Call (.Name x p) (e :: es) [] pos) (Zae F gl):=by
 obtain ⟨hn,f,fd,m,kp,bi,ok⟩:=G;refine (Zq9 ok hr hg m kp bi .nil ZuR ha hdb he hpl).imp fun σ H Q zz1=>?_;obtain ⟨ι,M,env,S,E,h⟩:=zz1;obtain ⟨ds,M1,e1,h⟩:=Zat.bind h;refine ⟨ι,M,env,S,E,?_⟩;rw [e1];intro vs H1 ι1 x1 S1 r1;have hl:ds.length = ps.length:=by
  refine Decidable.byContradiction fun q=>?_;rw [hn ds M1 q] at h;exact h.elim
 exact ⟨ι1,M1,ds,S1,by rw [Yp]; exact r1,hl,h.up x1⟩
end
def tGf (K:Ya) (g:G3):TG:=fun v σ H Q=>∃ ι M env d env',ZaJ K H ι M /\ Zb1 K H ι env σ /\ Rep K H ι d v /\ g d env = some env' /\ ∀ σ',Zb1 K H ι env' σ' -> Q σ' H
def tGs (K:Ya) (is:List Nat):TGs:=fun vs σ H Q=>∃ ι M env ds env',ZaJ K H ι M /\ Zb1 K H ι env σ /\ Zal K H ι ds vs /\ bindAll is ds env = some env' /\ ∀ σ',Zb1 K H ι env' σ' -> Q σ' H
def CG (X:Cx) (tg:Expr) (g:G3):Prop:=PG X tg (tGf X.K g)
def CGs (X:Cx) (tg:List Expr) (is:List Nat):Prop:=PGs X tg (tGs X.K is)
theorem PG.imp {X:Cx} {e:Expr} {t t':TG} (h:PG X e t) (i:∀ v σ H Q,t' v σ H Q -> t v σ H Q):PG X e t':=fun pins s σ H v u Q I r q=>h pins s σ H v u Q I r (i v σ H Q q)
theorem PGs.imp {X:Cx} {e:List Expr} {t t':TGs} (h:PGs X e t) (i:∀ v σ H Q,t' v σ H Q -> t v σ H Q):PGs X e t':=fun pins s σ H v u Q I r q=>h pins s σ H v u Q I r (i v σ H Q q)
section
variable {X:Cx} {e:Expr} {es:List Expr} {pos:Pos}
theorem Zdi (i:Nat) {x:Str} (hN:X.N.Nodup) (hi:X.N[i]? = some x:=by rfl) (hx:Loc X.env.scope x:=by first | exact Or.inl rfl | exact Or.inr rfl)
  (hf:X.fn x = true \/ X.env.scope.names.lookup x = some .local:=by first | exact .inl rfl | exact .inr rfl):CG X (.Name x pos) (Zcj i):=PG.imp (Zod hN hi hx hf) fun v σ H Q zz1=>by
 obtain ⟨ι,M,env,d,env',S,E,r,q,h⟩:=zz1;cases q;exact h _ (E.set i r)
theorem ZeC:CGs X [] []:=PGs.imp ZnY fun v σ H Q zz1=>by
 obtain ⟨ι,M,env,ds,env',S,E,r,q,h⟩:=zz1;cases ds with
 | nil=>cases q; exact ⟨r.nil_inv,h σ E⟩
 | cons d ds=>cases q
theorem Za1 (i:Nat) {is:List Nat} {x:Str} (hN:X.N.Nodup) (ht:CGs X es is) (hi:X.N[i]? = some x:=by rfl) (hx:Loc X.env.scope x:=by first | exact Or.inl rfl | exact Or.inr rfl)
  (hf:X.fn x = true \/ X.env.scope.names.lookup x = some .local:=by first | exact .inl rfl | exact .inr rfl) (hs:(Yam (.Name x pos :: es) X.env).map (·.2) = Ydb (.Name x pos) X.env :: (Yam es X.env).map (·.2):=by rfl):
  CGs X (.Name x pos :: es) (i :: is):=PGs.imp (Zjn (Zod hN hi hx hf) ht hs) fun v σ H Q zz1=>by
 obtain ⟨ι,M,env,ds,env',S,E,r,q,h⟩:=zz1;cases ds with
 | nil=>cases q
 | cons d ds=>
  obtain ⟨v,ws,rfl,r1,r2⟩:=r.cons_inv;exact ⟨v,ws,rfl,ι,M,env.set i (some d),ds,env',S,E.set i r1,r2,q,h⟩
theorem ZfR {is:List Nat} {k:Nat} (hc:X.calm = true) (h:CGs X es is) (hl:es.length = is.length:=by rfl) (hn:(Yam es X.env).length = is.length:=by rfl) (hst:(Yam es X.env).findIdx? (·.1) = none:=by rfl):CG X (.Tuple es k pos) (Zci is):=
 PG.imp (Zqp (n:=is.length) hc h hn hst) fun v σ H Q zz1=>by
  obtain ⟨ι,M,env,d,env',S,E,r,q,h⟩:=zz1;cases d with
  | tup ds=>
   obtain ⟨a,vs,rfl,s,r⟩:=r.tup_inv;have hlen:∀ (is:List Nat) (ds:List D) (env env':ZaD),bindAll is ds env = some env' -> ds.length = is.length:=by
    intro is
    induction is with
    | nil=>intro ds env env' h; cases ds with | nil=>rfl | cons d ds=>cases h
    | cons i is ih=>intro ds env env' h; cases ds with | nil=>cases h | cons d ds=>simp [ih ds _ _ h]
   exact ⟨a,vs,rfl,s,by rw [r.length]; exact hlen _ _ _ _ q,ι,M,env,ds,env',S,E,r,q,h⟩
  | _=>cases q
end
def Zjb (K:Ya) (H:Hp) (ι:List Addr) (it:It3) (J:It):Prop:=∀ (i:Nat) H2 ι2 M2,Ext K H ι H2 ι2 -> ZaJ K H2 ι2 M2 -> locked it M2 = true ->
 (∀ d,it.items[i]? = some d -> J.go i H2 /\ ∀ x H3,J.yld i H2 x H3 -> H3 = H2 /\ Rep K H2 ι2 d x) /\ (i = it.items.length -> J.stop i H2)
def Zm9 (K:Ya) (H:Hp) (ι:List Addr) (R:It -> Hp -> Prop) (r:R3 It3):Prop:=match r with
 | .ok it M'=>∀ J H' ι',Ext K H ι H' ι' -> ZaJ K H' ι' M' -> Zjb K H' ι' it J -> R J H'
 | _=>False
def tIf (K:Ya) (g:I3):TI:=fun σ H R=>∃ ι M env,ZaJ K H ι M /\ Zb1 K H ι env σ /\ Zm9 K H ι R (g env M)
def CI (X:Cx) (tg e:Expr) (g:I3):Prop:=PI X tg e (tIf X.K g)
theorem PI.imp {X:Cx} {tg e:Expr} {t t':TI} (h:PI X tg e t) (i:∀ σ H Q,t' σ H Q -> t σ H Q):PI X tg e t':=fun pins s σ H Q I q=>h pins s σ H Q I (i σ H Q q)
theorem PI.or {X:Cx} {tg e:Expr} {t t':TI} (h:PI X tg e t) (h':PI X tg e t'):PI X tg e (fun σ H R=>t σ H R \/ t' σ H R):=fun pins s σ H Q I q=>q.elim (h pins s σ H Q I) (h' pins s σ H Q I)
theorem Zm9.bind {K:Ya} {H:Hp} {ι:List Addr} {α:Type} {Q:It -> Hp -> Prop} {r:R3 α} {k:α -> Store -> R3 It3} (h:Zm9 K H ι Q (r.bind k)):∃ a M,r = .ok a M /\ Zm9 K H ι Q (k a M):=by
 cases r with
 | ok a M=>exact ⟨a,M,rfl,h⟩
 | exc x M=>exact h.elim
 | bad=>exact h.elim
section
variable {K:Ya} {H:Hp} {ι:List Addr}
end
section
variable {X:Cx} {tg e a b:Expr} {pos p:Pos} {f g:E3}
theorem ZtF (h:C3 X e f) (hs:PI X tg e (fun σ H R=>tOf X.K f σ H fun x H1=>∃ z:Str,x = .str z /\ z.length <= SZ /\ ∀ J,(∀ ι,Zjb X.K H1 ι ⟨z.cps.toList.map fun c=>.str [c],none⟩ J) -> R J H1)):CI X tg e (Zih f):=
 PI.imp (PI.or (ZsY h) (PI.or (Zru h) hs)) fun σ H R zz1=>by
  obtain ⟨ι,M,env,S,E,h⟩:=zz1;obtain ⟨d,M1,e1,h⟩:=Zm9.bind h;cases d with
  | tup ds=>
   refine .inl ⟨ι,M,env,S,E,?_⟩;rw [e1];intro v H1 ι1 x1 S1 r1;obtain ⟨a,vs,rfl,s,r⟩:=r1.tup_inv;refine ⟨a,rfl,⟨vs,s⟩,h _ H1 ι1 x1 S1 ?_⟩;intro i H2 ι2 M2 x S2 _;refine ⟨fun d hd=>?_,fun hl=>⟨vs,x.tup _ _ s,by rw [r.length,hl]; exact Yj _⟩⟩;obtain ⟨v,hv,rv⟩:=r.get hd;refine ⟨⟨vs,v,x.tup _ _ s,hv⟩,fun y H3 hy=>⟨hy.1,?_⟩⟩;have e:=hy.2 vs (x.tup _ _ s);rw [hv] at e;cases e;exact rv.mono x
  | scr ds=>
   refine .inr (.inl ⟨ι,M,env,S,E,?_⟩);rw [e1];intro v H1 ι1 x1 S1 r1;obtain ⟨a,vs,rfl,s,r⟩:=r1.scr_inv;refine ⟨a,rfl,⟨vs,s.sq⟩,h _ H1 ι1 x1 S1 ?_⟩;intro i H2 ι2 M2 x S2 _;refine ⟨fun d hd=>?_,fun hl=>⟨vs,(x.scr _ _ s).sq,by rw [r.length,hl]; exact Yj _⟩⟩;obtain ⟨v,hv,rv⟩:=r.get hd;refine ⟨⟨vs,v,(x.scr _ _ s).sq,hv⟩,fun y H3 hy=>⟨hy.1,?_⟩⟩;have e:=hy.2 vs (x.scr _ _ s).sq;rw [hv] at e;cases e;exact rv.mono x
  | ref n=>
   refine .inr (.inl ⟨ι,M,env,S,E,?_⟩);rw [e1];intro v H1 ι1 x1 S1 r1;cases hm:M1[n]? with
   | none=>simp only [hm] at h; exact h.elim
   | some o=>
    cases o with
    | dct kvs=>simp only [hm] at h; exact h.elim
    | fdct kvs=>simp only [hm] at h; exact h.elim
    | ins _ _=>simp only [hm] at h; exact h.elim
    | lst ds=>
     simp only [hm] at h;obtain ⟨a,ha,rfl⟩:=r1.ref_inv;obtain ⟨vs,q,r⟩:=S1.obj n _ a hm ha;refine ⟨a,rfl,⟨vs,SqL.of q⟩,h _ H1 ι1 x1 S1 ?_⟩;intro i H2 ι2 M2 x S2 lk;have lk':M2[n]? = some (.lst ds):=of_decide_eq_true lk;obtain ⟨vs2,q2,r2⟩:=S2.obj n _ a lk' (x.pre _ _ ha);refine ⟨fun d hd=>?_,fun hl=>⟨vs2,SqL.of q2,by rw [r2.length,hl]; exact Yj _⟩⟩;obtain ⟨v,hv,rv⟩:=r2.get hd;refine ⟨⟨vs2,v,SqL.of q2,hv⟩,fun y H3 hy=>⟨hy.1,?_⟩⟩;have e:=hy.2 vs2 (SqL.of q2);rw [hv] at e;cases e;exact rv
  | str z=>
   refine .inr (.inr ⟨ι,M,env,S,E,?_⟩);rw [e1];intro v H1 ι1 x1 S1 r1;have hv:=r1.str_inv;subst hv;by_cases hz:z.length <= SZ
   ·simp only [if_pos hz] at h
    refine ⟨_,rfl,by simpa [Ycx] using hz,fun J hJ=>h J H1 ι1 x1 S1 ?_⟩;simpa using hJ ι1
   ·simp only [if_neg hz] at h; exact h.elim
  | non=>exact h.elim
  | bl b=>exact h.elim
  | int i=>exact h.elim
theorem Zqa {K:Ya} {H:Hp} {ι:List Addr} (lo:Int) (n:Nat):Zjb K H ι ⟨Zdl lo n,none⟩ (Itr lo n):=by
 intro i H2 ι2 M2 x S _;refine ⟨fun d hd=>?_,fun hl=>?_⟩
 ·unfold Zdl at hd
  rw [Y1] at hd;cases q:(Yt n)[i]? with
  | none=>rw [q] at hd; cases hd
  | some k=>
   rw [q] at hd;obtain ⟨hi,e⟩:=Yc.mp q;rw [List.getElem_range] at e;subst e;have hd':D.int (lo + (i:Int)) = d:=by simpa using hd
   subst hd';exact ⟨(by show i < n; simpa using hi),fun y H3 hy=>⟨hy.1,by rw [hy.2]; exact Rep.int⟩⟩
 ·show n <= i
  rw [hl];simp [Zdl]
theorem Zdq (hm:X.mg "range" = none) (h:C3 X a f) (hg:Gl X "range":=by rfl) (hs:Yad [a] X.env = [(false,eval a X.env)]:=by rfl) (hs':Yad (a :: []) X.env = (false,eval a X.env) :: Yad [] X.env:=by rfl):CI X tg (.Call (.Name "range" p) [a] [] pos) (ZbJ f):=
 PI.imp (Zo3 hg hm (Zd h Zm hs') hs) fun σ H R zz1=>by
  obtain ⟨ι,M,env,S,E,h⟩:=zz1;obtain ⟨d,M1,e1,h⟩:=Zm9.bind h;refine ⟨ι,M,env,S,E,?_⟩;have e2:Zb f Zj env M = .ok [d] M1:=by unfold Zb; rw [e1]; rfl
  rw [e2];intro vs H1 ι1 x1 S1 r1;obtain ⟨v,ws,rfl,r,q⟩:=r1.cons_inv;have:=q.nil_inv;subst this;cases d with
  | int j=>
   have hv:=r.int_inv;subst hv;by_cases hj:j <= 1000000 /\ -1000000 <= j
   ·simp only [if_pos hj] at h
    exact ⟨j,rfl,by omega,by omega,h _ H1 ι1 x1 S1 (Zqa 0 j.toNat)⟩
   ·simp only [if_neg hj] at h; exact h.elim
  | _=>exact h.elim
theorem ZkG {iter:Expr} {body:List Stmt} {i:I3} {g:G3} {u:S3} (hxe:X.xe = fun _ _=>False) (hc:X.calm = true) (hi:CI X tg iter i) (hg:CG X tg g) (hb:CSs X body u) (hs:∀ x,Ycl iter X.env x = pure x:=by intro _; rfl):
  CS X (.For tg iter body [] pos) (Zlb i g u):=(ZpT (by rw [hxe]; exact Ygp) hc hi hg hb hs).imp fun D σ H zz1=>by
 obtain ⟨ι,M,env,S,E,h⟩:=zz1;unfold Zlb at h;cases q:i env M with
 | exc x M1=>rw [q] at h; exact h.elim
 | bad=>rw [q] at h; exact h.elim
 | ok it M1=>
  rw [q] at h;refine ⟨ι,M,env,S,E,?_⟩;rw [q];intro J H1 ι1 x1 S1 ok;refine ⟨fun i m σ2 H2=>m = it.items.length - i /\ i <= it.items.length /\ ∃ ι2 M2 env2,Ext X.K H1 ι1 H2 ι2 /\ ZaJ X.K H2 ι2 M2 /\ Zb1 X.K H2 ι2 env2 σ2 /\ Zgz X.K H2 ι2 D (Ze0 it g u (it.items.drop i) env2 M2),
   ⟨_,rfl,Yag _,ι1,M1,env,Ext.refl,S1,E.mono x1,Zgz.up x1 h⟩,?_⟩
  rintro i m σ2 H2 ⟨rfl,hi,ι2,M2,env2,x2,S2,E2,h2⟩;by_cases hlt:i < it.items.length
  ·have hd:it.items[i]? = some it.items[i]:=by simp [hlt]
   rw [Ybm hlt] at h2;unfold Ze0 at h2;by_cases lk:locked it M2 = true
   ·rw [if_pos lk] at h2
    obtain ⟨go,yl⟩:=(ok i H2 ι2 M2 x2 S2 lk).1 _ hd;cases eg:g it.items[i] env2 with
    | none=>rw [eg] at h2; exact h2.elim
    | some env3=>
     rw [eg] at h2;refine .inr ⟨go,fun σ' H'=>∃ ι3 M3 env4,Ext X.K H2 ι2 H' ι3 /\ ZaJ X.K H' ι3 M3 /\ Zb1 X.K H' ι3 env4 σ' /\ Zgz X.K H' ι3 D (Ze0 it g u (it.items.drop (i + 1)) env4 M3),
      fun σ' H' ⟨ι3,M3,env4,x3,S3,E3,h3⟩=>⟨it.items.length - (i + 1),lD 2 0x30113c2012a1c0c21 T1 (Yb (lB 1 6991908881 T1 hlt)) (sbA _ _),rfl,hlt,ι3,M3,env4,x2.trans x3,S3,E3,h3⟩,fun x H' hy=>?_⟩
     obtain ⟨rfl,rx⟩:=yl x H' hy;refine ⟨ι2,M2,env2,_,env3,S2,E2,rx,eg,fun σ' E'=>⟨ι2,M2,env3,S2,E',?_⟩⟩;cases qu:u env3 M2 with
     | nx e' M'=>simp only [qu] at h2; exact fun σ' H' ι' x' S' E'=>⟨ι',M',e',x',S',E',h2.up x'⟩
     | ct e' M'=>simp only [qu] at h2; exact fun σ' H' ι' x' S' E'=>⟨ι',M',e',x',S',E',h2.up x'⟩
     | bk e' M'=>simp only [qu] at h2; exact h2
     | rt d M'=>simp only [qu] at h2; exact h2
     | exc x' M'=>simp only [qu] at h2; exact h2.elim
     | bad=>simp only [qu] at h2; exact h2.elim
   ·rw [if_neg lk] at h2; exact h2.elim
  ·have e0:i = it.items.length:=Ym hi (Yaa hlt)
   subst e0;rw [Yft] at h2;unfold Ze0 at h2;by_cases lk:locked it M2 = true
   ·rw [if_pos lk] at h2
    exact .inl ⟨(ok _ H2 ι2 M2 x2 S2 lk).2 rfl,h2 σ2 H2 ι2 Ext.refl S2 E2⟩
   ·rw [if_neg lk] at h2; exact h2.elim
theorem Zqk {c1:Expr} {body:List Stmt} {u:S3} (hxe:X.xe = fun _ _=>False) (hc:CT X c1 f) (hb:CSs X body u):CS X (.While c1 body [] pos) (Zns f u):=(ZqA (by rw [hxe]; exact Ygp) hc hb).imp fun D σ H zz1=>by
 obtain ⟨ι,M,env,S,E,h⟩:=zz1;refine ⟨fun m σ2 H2=>∃ ι2 M2 env2,ZaJ X.K H2 ι2 M2 /\ Zb1 X.K H2 ι2 env2 σ2 /\ Zgz X.K H2 ι2 D (Zfj f u m env2 M2),⟨1000000,ι,M,env,S,E,h⟩,?_⟩;rintro m σ2 H2 ⟨ι2,M2,env2,S2,E2,h2⟩;cases m with
 | zero=>exact h2.elim
 | succ m=>
  refine ⟨ι2,M2,env2,S2,E2,?_⟩;unfold Zfj at h2;cases q:f env2 M2 with
  | exc x M1=>rw [q] at h2; exact h2.elim
  | bad=>rw [q] at h2; exact h2.elim
  | ok d M1=>
   rw [q] at h2;cases d with
   | bl k=>
    cases k with
    | false=>
     intro H3 ι3 x3 S3;rw [if_neg (by decide)];exact h2 σ2 H3 ι3 x3 S3 (E2.mono x3)
    | true=>
     intro H3 ι3 x3 S3;rw [if_pos rfl];refine ⟨fun σ' H'=>∃ ι4 M4 env4,ZaJ X.K H' ι4 M4 /\ Zb1 X.K H' ι4 env4 σ' /\ Zgz X.K H' ι4 D (Zfj f u m env4 M4),fun σ' H' q=>⟨m,Nat.lt_succ_self _,q⟩,ι3,M1,env2,S3,E2.mono x3,?_⟩;have h3:=Zgz.up x3 h2;cases qu:u env2 M1 with
     | nx e' M'=>simp only [qu] at h3; exact fun σ' H' ι' x' S' E'=>⟨ι',M',e',S',E',h3.up x'⟩
     | ct e' M'=>simp only [qu] at h3; exact fun σ' H' ι' x' S' E'=>⟨ι',M',e',S',E',h3.up x'⟩
     | bk e' M'=>simp only [qu] at h3; exact h3
     | rt d M'=>simp only [qu] at h3; exact h3
     | exc x' M'=>simp only [qu] at h3; exact h3.elim
     | bad=>simp only [qu] at h3; exact h3.elim
   | _=>exact h2.elim
end
theorem Rep.non_iff {K:Ya} {H:Hp} {ι:List Addr} {d:D} {v:V} (r:Rep K H ι d v):decide (v = V.non) = decide (d = D.non):=by
 cases d with
 | non=>rw [r.non_inv]; rfl
 | bl b=>rw [r.bl_inv]; rfl
 | int i=>rw [r.int_inv]; rfl
 | str x=>rw [r.str_inv]; rfl
 | tup ds=>obtain ⟨a,vs,e,_⟩:=r.tup_inv; rw [e]; rfl
 | scr ds=>obtain ⟨a,vs,e,_⟩:=r.scr_inv; rw [e]; rfl
 | ref n=>obtain ⟨a,_,e⟩:=r.ref_inv; rw [e]; rfl
theorem ZiH {x y:List Nat}:decide (V.str ⟨x.toArray⟩ = V.str ⟨y.toArray⟩) = (x == y):=by
 by_cases h:x = y
 ·subst h; simp
 ·rw [decide_eq_false (fun e=>h (by injection e with e1; injection e1 with e2; simpa using congrArg Yeu e2))]
  exact (beq_eq_false_iff_ne.mpr h).symm
section
variable {X:Cx}
theorem Zqd:OpR X (Ybs .Add) (fun x y H Q=>∃ a b ys,x = .ref a /\ y = .ref b /\ SqT X.K H a [] /\ SqT X.K H b ys /\ Q (.ref b) H):=by
 intro pins s σ H x y v u Q I rx ry h;obtain ⟨a,b,ys,rfl,rfl,ha,hb,q⟩:=h;cases rx;cases ry;obtain ⟨its,r1,p1,_⟩:=I.tuple ha;obtain ⟨its2,r2,p2,_⟩:=I.tuple hb;cases r1;obtain ⟨⟨cls,dd,data,sl⟩,ho,hc,n,hd⟩:=id p1;obtain ⟨⟨cls2,dd2,data2,sl2⟩,ho2,hc2,n2,hd2⟩:=id p2;simp only at hc hd hc2 hd2;subst hc hd hc2 hd2;exact Yh9 ⟨_,ho,rfl⟩ ⟨_,ho2,rfl⟩ Yfs Yhw Ydx Ydr (Ydn _ _)
   (tuple_addW0 a b _ its2.toArray n n2 dd dd2 sl sl2 (by simp)) ⟨ho,ho2,⟨.ref b,H,I,rfl,q⟩⟩
theorem ZrM (x y:List Nat):(⟨x.toArray⟩:Str) ++ ⟨y.toArray⟩ = ⟨(x ++ y).toArray⟩:=by
 show Str.append _ _ = _;unfold Str.append;simp
noncomputable def onL (o:Option MO) (f:List D -> R3 D):R3 D:=match o with
 | some (.lst x)=>f x
 | _=>.bad
theorem ZqX {K:Ya} {H:Hp} {ι:List Addr} {Q:VK} {o:Option MO} {f:List D -> R3 D} (h:Zat K H ι Q (onL o f)):∃ x,o = some (.lst x) /\ Zat K H ι Q (f x):=by
 cases o with
 | none=>exact h.elim
 | some o=>cases o with
  | lst x=>exact ⟨x,rfl,h⟩
  | _=>exact h.elim
noncomputable def Zuv (a b:Option MO) (f:List D -> List D -> R3 D):R3 D:=match a,b with
 | some (.lst x),some (.lst y)=>f x y
 | _,_=>.bad
theorem Zqw {K:Ya} {H:Hp} {ι:List Addr} {Q:VK} {a b:Option MO} {f:List D -> List D -> R3 D} (h:Zat K H ι Q (Zuv a b f)):∃ x y,a = some (.lst x) /\ b = some (.lst y) /\ Zat K H ι Q (f x y):=by
 cases a with
 | none=>exact h.elim
 | some a=>cases a with
  | lst x=>cases b with
   | none=>exact h.elim
   | some b=>cases b with
    | lst y=>exact ⟨x,y,rfl,rfl,h⟩
    | _=>exact h.elim
  | _=>exact h.elim
theorem ZhF {K:Ya} {H:Hp} {ι:List Addr} {Q:VK} {c:Prop} {_:Decidable c} {r:R3 D} (h:Zat K H ι Q (if c then r else .bad)):c /\ Zat K H ι Q r:=by
 by_cases hc:c
 ·rw [if_pos hc] at h; exact ⟨hc,h⟩
 ·rw [if_neg hc] at h; exact h.elim
theorem ZlY {K:Ya} {H:Hp} {ι:List Addr} {ds:List D} (r:Zal K H ι ds []):ds = []:=Ybz r.length.symm
theorem ZaP:OpR X (Ybs .Add) (r2 X.K Zag):=OpR.imp (OpR.or Ztb (OpR.or ZmY (OpR.or Zs8 (OpR.or Zre Zqd)))) fun x y H Q zz1=>by
 obtain ⟨ι,M,a,b,S,ra,rb,h⟩:=zz1;cases a with
 | int i=>cases b with
  | int j=>exact .inl ⟨i,j,ra.int_inv,rb.int_inv,Zat.ok h S Rep.int⟩
  | _=>exact h.elim
 | str x=>cases b with
  | str y=>
   obtain ⟨hz,h⟩:=ZhF h;exact .inr (.inl ⟨_,_,ra.str_inv,rb.str_inv,Y2 hz ZcZ,by rw [ZrM]; exact Zat.ok h S Rep.str⟩)
  | _=>exact h.elim
 | tup x=>cases b with
  | tup y=>
   obtain ⟨hz,h⟩:=ZhF h;obtain ⟨p,vs,e,s,r⟩:=ra.tup_inv;obtain ⟨q,ws,e',s',r'⟩:=rb.tup_inv;by_cases hv:vs = []
   ·rw [hv] at r s
    rw [ZlY r] at h;exact .inr (.inr (.inr (.inr ⟨p,q,ws,e,e',s,s',Zat.ok h S (Rep.tup s' r')⟩)))
   ·refine .inr (.inr (.inr (.inl ⟨p,q,vs,ws,e,e',s,s',hv,by rw [r.length,r'.length]; exact Y2 hz ZcZ,fun hw=>?_,fun hw p' hp=>?_⟩)))
    ·rw [hw] at r'
     rw [ZlY r',Yp] at h;exact Zat.ok h S (Rep.tup s r)
    ·obtain ⟨x2,S2,r2⟩:=S.tupl hp (r.append r')
     exact h _ _ _ x2 S2 r2
  | _=>exact h.elim
 | ref n=>cases b with
  | ref m=>
   have h:Zat X.K H ι Q (Zuv M[n]? M[m]? fun x y=>@ite _ (x.length + y.length <= SZ) (Yn _) (alloc (.lst (x ++ y)) M) .bad):=h;obtain ⟨x,y,hn,hm,h⟩:=Zqw h;obtain ⟨hz,h⟩:=ZhF h;obtain ⟨p,hp,e⟩:=ra.ref_inv;obtain ⟨q,hq,e'⟩:=rb.ref_inv;obtain ⟨vs,e1,r1⟩:=S.obj n _ p hn hp;obtain ⟨ws,e2,r2⟩:=S.obj m _ q hm hq;refine .inr (.inr (.inl ⟨p,q,vs,ws,e,e',e1,e2,by rw [r1.length,r2.length]; exact Y2 hz ZcZ,fun p' hp'=>?_⟩));obtain ⟨x2,S2,r3⟩:=S.lst hp' (r1.append r2);exact h _ _ _ x2 S2 r3
  | _=>exact h.elim
 | _=>cases b <;> exact h.elim
theorem Zec:OpR X (Ybs .Sub) (r2 X.K ZbG):=OpR.imp Zsu fun x y H Q zz1=>by
 obtain ⟨ι,M,a,b,S,ra,rb,h⟩:=zz1;cases a <;> cases b <;> first | exact h.elim | exact ⟨_,_,ra.int_inv,rb.int_inv,Zat.ok h S Rep.int⟩
theorem ZbA:OpR X (Ybs .Mod) (r2 X.K Zaz):=OpR.imp ZsA fun x y H Q zz1=>by
 obtain ⟨ι,M,a,b,S,ra,rb,h⟩:=zz1;cases a with
 | int i=>cases b with
  | int j=>
   simp only [Zlz] at h;split at h
   ·rename_i hj
    exact ⟨i,j,ra.int_inv,rb.int_inv,hj,Zat.ok h S Rep.int⟩
   ·exact h.elim
  | _=>exact h.elim
 | _=>cases b <;> exact h.elim
theorem ZbB:OpR X (Ybs .FloorDiv) (r2 X.K ZaG):=OpR.imp ZrL fun x y H Q zz1=>by
 obtain ⟨ι,M,a,b,S,ra,rb,h⟩:=zz1;cases a with
 | int i=>cases b with
  | int j=>
   simp only [Zkl] at h;split at h
   ·rename_i hj
    exact ⟨i,j,ra.int_inv,rb.int_inv,hj,Zat.ok h S Rep.int⟩
   ·exact h.elim
  | _=>exact h.elim
 | _=>cases b <;> exact h.elim
theorem ZnQ:OpR X (Ybs .Pow) (r2 X.K Zj0):=OpR.imp Ztx fun x y H Q zz1=>by
 obtain ⟨ι,M,a,b,S,ra,rb,h⟩:=zz1;cases a with
 | int i=>cases b with
  | int j=>
   simp only [ZpP] at h;split at h
   ·rename_i hj
    exact ⟨i,j,ra.int_inv,rb.int_inv,⟨hj.1,iN [] [_] 1 0xf42405b083e83b081 T1 hj.2.1,by have:=hj.2.2; omega⟩,Zat.ok h S Rep.int⟩
   ·exact h.elim
  | _=>exact h.elim
 | _=>cases b <;> exact h.elim
theorem Zjo:UnR X (unaryOp .USub) (r1 X.K ZeP):=UnR.imp ZsV fun x H Q zz1=>by
 obtain ⟨ι,M,a,S,ra,h⟩:=zz1;cases a with
 | int i=>exact ⟨i,ra.int_inv,Zat.ok h S Rep.int⟩
 | _=>exact h.elim
theorem Zmv:OpR X (Ya0 .Lt) (r2 X.K Ziq):=OpR.imp Zu4 fun x y H Q zz1=>by
 obtain ⟨ι,M,a,b,S,ra,rb,h⟩:=zz1;cases a <;> cases b <;> first | exact h.elim | exact ⟨_,_,ra.int_inv,rb.int_inv,Zat.ok h S Rep.bl⟩
theorem Zsl:OpR X (Ya0 .LtE) (r2 X.K ZiF):=OpR.imp Zt6 fun x y H Q zz1=>by
 obtain ⟨ι,M,a,b,S,ra,rb,h⟩:=zz1;cases a <;> cases b <;> first | exact h.elim | exact ⟨_,_,ra.int_inv,rb.int_inv,Zat.ok h S Rep.bl⟩
theorem ZmD:OpR X (Ya0 .Gt) (r2 X.K ZgB):=OpR.imp ZuC fun x y H Q zz1=>by
 obtain ⟨ι,M,a,b,S,ra,rb,h⟩:=zz1;cases a <;> cases b <;> first | exact h.elim | exact ⟨_,_,ra.int_inv,rb.int_inv,Zat.ok h S Rep.bl⟩
theorem Zqx:OpR X (Ya0 .GtE) (r2 X.K ZjG):=OpR.imp ZuL fun x y H Q zz1=>by
 obtain ⟨ι,M,a,b,S,ra,rb,h⟩:=zz1;cases a <;> cases b <;> first | exact h.elim | exact ⟨_,_,ra.int_inv,rb.int_inv,Zat.ok h S Rep.bl⟩
theorem ZqZ:OpR X (Ya0 .Is) (r2 X.K Zkz):=OpR.imp Zsh fun x y H Q zz1=>by
 obtain ⟨ι,M,a,b,S,ra,rb,h⟩:=zz1;cases b with
 | non=>exact ⟨rb.non_inv,by rw [ra.non_iff]; exact Zat.ok h S Rep.bl⟩
 | _=>exact h.elim
theorem ZfL:OpR X (Ya0 .IsNot) (r2 X.K Zcb):=OpR.imp Zri fun x y H Q zz1=>by
 obtain ⟨ι,M,a,b,S,ra,rb,h⟩:=zz1;cases b with
 | non=>exact ⟨rb.non_inv,by rw [ra.non_iff]; exact Zat.ok h S Rep.bl⟩
 | _=>exact h.elim
end
theorem units_in1 (A:Yas):A.in1.units = A.units + 1:=rfl
section
variable {X:Cx} {pins:List (Addr × Obj)} {σ:St} {H:Hp} {s:Ye} {ι:List Addr}
theorem Zll {e:Nat -> Bool}:∀ {x y:List D},x.length = y.length -> (∀ (j:Nat) a b,x[j]? = some a -> y[j]? = some b -> e j = deq a b) -> (Yt x.length).all e = Zej x y:=by
 intro x
 induction x generalizing e with
 | nil=>intro y h _; cases y with | nil=>rfl | cons _ _=>simp at h
 | cons a x ih=>
  intro y h he;cases y with
  | nil=>simp at h
  | cons b y=>
   rw [Ya5,Yf1,Yb2,Ye1,he 0 a b rfl rfl];rw [ZfS];congr 1;exact ih (e:=e ∘ Nat.succ) (by simpa using h) fun j a' b' h1 h2=>he (j + 1) a' b' (by simpa using h1) (by simpa using h2)
theorem ZmA:∀ {x y:List D},Zej x y = true -> x.length = y.length
 | [],[],_=>rfl
 | [],_ :: _,h=>ft h
 | _ :: _,[],h=>ft h
 | a :: x,b :: y,h=>congrArg Nat.succ (ZmA (Ych.mp (h:(deq a b && Zej x y) = true)).2)
theorem Zk4 {d:D} (h:ZaM 0 d = true):ZcN d = true:=by cases d <;> first | exact rfl | exact h
theorem Zgw {n:Nat} {d:D} (h:ZaM (n + 1) d = true):ZcN d = true \/ ∃ ds,d = .tup ds:=by
 cases d with
 | tup ds=>exact .inr ⟨ds,rfl⟩
 | scr _=>exact ft h
 | ref _=>exact ft h
 | _=>exact .inl rfl
theorem Zku {K:Ya} {a b:D} {v:V} (fa:ZcN a = true) (fb:ZcN b = true) (r:Rep K H ι a v) (q:Rep K H ι b v):deq a b = true:=by
 cases a with
 | non=>have e:=r.non_inv; cases b with
  | non=>rfl
  | bl _=>cases e.symm.trans q.bl_inv
  | int _=>cases e.symm.trans q.int_inv
  | str _=>cases e.symm.trans q.str_inv
  | _=>exact ft fb
 | bl x=>have e:=r.bl_inv; cases b with
  | non=>cases e.symm.trans q.non_inv
  | bl _=>exact beq_iff_eq.mpr (V.bl.inj (e.symm.trans q.bl_inv))
  | int _=>cases e.symm.trans q.int_inv
  | str _=>cases e.symm.trans q.str_inv
  | _=>exact ft fb
 | int x=>have e:=r.int_inv; cases b with
  | non=>cases e.symm.trans q.non_inv
  | bl _=>cases e.symm.trans q.bl_inv
  | int _=>exact beq_iff_eq.mpr (V.int.inj (e.symm.trans q.int_inv))
  | str _=>cases e.symm.trans q.str_inv
  | _=>exact ft fb
 | str x=>have e:=r.str_inv; cases b with
  | non=>cases e.symm.trans q.non_inv
  | bl _=>cases e.symm.trans q.bl_inv
  | int _=>cases e.symm.trans q.int_inv
  | str _=>exact ZiH.symm.trans (decide_eq_true (e.symm.trans q.str_inv))
  | _=>exact ft fb
 | _=>exact ft fa
theorem ZlZ {K:Ya} {a:D} {v:V} {p:Addr} (fa:ZcN a = true) (r:Rep K H ι a v) (e:v = .ref p):False:=by
 cases a with
 | non=>cases e.symm.trans r.non_inv
 | bl x=>cases e.symm.trans r.bl_inv
 | int x=>cases e.symm.trans r.int_inv
 | str x=>cases e.symm.trans r.str_inv
 | _=>exact ft fa
theorem Rep.fun1 (I:Inv X pins σ H s):∀ (n:Nat) (a b:D) (v:V),ZaM n a = true -> ZaM n b = true -> Rep X.K H ι a v -> Rep X.K H ι b v -> deq a b = true:=by
 intro n
 induction n with
 | zero=>intro a b v ha hb r q; exact Zku (Zk4 ha) (Zk4 hb) r q
 | succ n ih=>
  intro a b v ha hb r q;rcases Zgw ha with fa | ⟨ds,ea⟩
  ·rcases Zgw hb with fb | ⟨es,eb⟩
   ·exact Zku fa fb r q
   ·rw [eb] at q
    obtain ⟨p,vs,e,_⟩:=q.tup_inv;exact (ZlZ fa r e).elim
  ·rw [ea] at r ha ⊢
   obtain ⟨p,vs,e,s1,r1⟩:=r.tup_inv;rcases Zgw hb with fb | ⟨es,eb⟩
   ·exact (ZlZ fb q e).elim
   ·rw [eb] at q hb ⊢
    obtain ⟨p',ws,e',s2,r2⟩:=q.tup_inv;rw [← V.ref.inj (e.symm.trans e')] at s2;rw [← I.tuple_inj s1 s2] at r2;clear s1 s2 e e' q r eb ea;rw [Zgh];revert ha hb r1 r2
    induction ds generalizing es vs with
    | nil=>
     intro _ r1 _ r2;cases es with
     | nil=>rfl
     | cons _ _=>obtain ⟨_,_,e,_⟩:=r2.cons_inv; cases r1.nil_inv.symm.trans e
    | cons d ds ih2=>
     intro h1 r1 h2 r2;obtain ⟨v,ws,e,q1,q2⟩:=r1.cons_inv;cases es with
     | nil=>cases r2.nil_inv.symm.trans e
     | cons e' es=>
      obtain ⟨v',ws',z,q3,q4⟩:=r2.cons_inv;obtain ⟨z1,z2⟩:=List.cons.inj (z.symm.trans e);rw [z1] at q3;rw [z2] at q4;have g1:=Ych.mp (h1:(ZaM n d && ds.all (ZaM n)) = true);have g2:=Ych.mp (h2:(ZaM n e' && es.all (ZaM n)) = true);rw [ZfS,ih d e' v g1.1 g2.1 q1 q3];exact ih2 ws es g1.2 q2 g2.2 q4
theorem Zkp {K:Ya} {x:V} {u:Value} (r:Rep K H ι .non x) (e:RelV x u):u = .none:=by
 rw [r.non_inv] at e; cases e; rfl
theorem Zmo {K:Ya} {b:Bool} {x:V} {u:Value} (r:Rep K H ι (.bl b) x) (e:RelV x u):u = .bool b:=by
 rw [r.bl_inv] at e; cases e; rfl
theorem Zie {K:Ya} {i:Int} {x:V} {u:Value} (r:Rep K H ι (.int i) x) (e:RelV x u):∃ t,u = .int i t:=by
 rw [r.int_inv] at e; exact e
theorem Zif {K:Ya} {i:List Nat} {x:V} {u:Value} (r:Rep K H ι (.str i) x) (e:RelV x u):∃ t,u = .str ⟨i.toArray⟩ t:=by
 rw [r.str_inv] at e; exact e
inductive ZsX (X:Cx) (H:Hp) (ι:List Addr) (T:Addr -> Array Value -> Prop) (ds:List D) (x:V) (u:Value):Prop
 | mk (p:Addr) (vs:List V) (its:List Value):x = .ref p -> u = .ref p -> T p its.toArray -> Zal X.K H ι ds vs -> Vals vs its -> ZsX X H ι T ds x u
theorem ZjR (I:Inv X pins σ H s) {ds:List D} {x:V} {u:Value} (r:Rep X.K H ι (.tup ds) x) (e:RelV x u):ZsX X H ι s.heap.IsTuple ds x u:=by
 obtain ⟨p,vs,ex,s1,r1⟩:=r.tup_inv;obtain ⟨its,rvs,ht,_⟩:=I.tuple s1;rw [ex] at e;exact ⟨p,vs,its,ex,e,ht,r1,rvs⟩
theorem ZkK {i k:List Nat}:decide (i = k) = ((⟨i.toArray⟩:Str) == ⟨k.toArray⟩):=by
 rw [← Yc6,← ZiH];by_cases h:(⟨i.toArray⟩:Str) = ⟨k.toArray⟩
 ·rw [h,beq_self_eq_true]; exact decide_eq_true rfl
 ·rw [beq_eq_false_iff_ne.mpr h]; exact decide_eq_false fun e=>h (V.str.inj e)
theorem Zrr {i k:List Nat}:deq (.str i) (.str k) = ((⟨i.toArray⟩:Str) == ⟨k.toArray⟩):=
 Ydt (show (i == k) = decide (i = k) from Yc6 i k) ZkK
theorem Zj8 (A:Yas) (a b:D) (x y:V) (u v:Value) (ha:ZcN a = true) (hb:ZcN b = true) (ra:Rep X.K H ι a x) (rb:Rep X.K H ι b y) (ru:RelV x u) (rv:RelV y v):Yd0 A s u v (deq a b):=by
 cases a with
 | non=>rw [Zkp ra ru]; cases b with
  | non=>rw [Zkp rb rv]; exact Ygj _
  | bl k=>rw [Zmo rb rv]; exact Yg0 _
  | int k=>obtain ⟨t,e⟩:=Zie rb rv; rw [e]; exact Yhf _ _
  | str k=>obtain ⟨t,e⟩:=Zif rb rv; rw [e]; exact Yhg _ _
  | _=>exact ft hb
 | bl i=>rw [Zmo ra ru]; cases b with
  | non=>rw [Zkp rb rv]; exact Yg1 _
  | bl k=>rw [Zmo rb rv]; exact Yg2 _ _
  | int k=>obtain ⟨t,e⟩:=Zie rb rv; rw [e]; exact Yhh _ _ _
  | str k=>obtain ⟨t,e⟩:=Zif rb rv; rw [e]; exact Yhi _ _ _
  | _=>exact ft hb
 | int i=>obtain ⟨t0,e0⟩:=Zie ra ru; rw [e0]; cases b with
  | non=>rw [Zkp rb rv]; exact Yhj _ _
  | bl k=>rw [Zmo rb rv]; exact Yhk _ _ _
  | int k=>obtain ⟨t,e⟩:=Zie rb rv; rw [e]; exact SeqAt.EqAt.int_int _ _ _ _
  | str k=>obtain ⟨t,e⟩:=Zif rb rv; rw [e]; exact Yes _ _ _ _
  | _=>exact ft hb
 | str i=>obtain ⟨t0,e0⟩:=Zif ra ru; rw [e0]; cases b with
  | non=>rw [Zkp rb rv]; exact Yhl _ _
  | bl k=>rw [Zmo rb rv]; exact Yhm _ _ _
  | int k=>obtain ⟨t,e⟩:=Zie rb rv; rw [e]; exact Yet _ _ _ _
  | str k=>obtain ⟨t,e⟩:=Zif rb rv; rw [e,Zrr]; exact SeqAt.EqAt.str_str _ _ _ _
  | _=>exact ft hb
 | _=>exact ft ha
noncomputable def dq2 (ds es:List D) (j:Nat):Bool:=match ds[j]?,es[j]? with | some a,some b=>deq a b | _,_=>false
theorem Zn5 {ds es:List D} (hl:ds.length ≠ es.length):Zej ds es = false:=by
 cases q:Zej ds es with
 | false=>rfl
 | true=>exact absurd (ZmA q) hl
theorem Zob {ds es:List D} {n:Nat} (hn:n = ds.length) (hl:ds.length = es.length):(Yt n).all (dq2 ds es) = Zej ds es:=by
 rw [hn];exact Zll hl fun j a b h1 h2=>by unfold dq2; rw [h1,h2]
theorem ZnT {ds es:List D} {n m:Nat} (hn:n = ds.length) (hm:m = es.length):((Yt (min n m)).all (dq2 ds es) && n == m) = Zej ds es:=by
 by_cases hl:ds.length = es.length
 ·have e:n = m:=hn.trans (hl.trans hm.symm)
  rw [← e,Nat.min_self,beq_self_eq_true,Yfm];exact Zob hn hl
 ·rw [Zn5 hl,beq_eq_false_iff_ne.mpr fun e=>hl (hn.symm.trans (e.trans hm)),Bool.and_false]
theorem ZdK {ds:List D} {vs:List V} {its:List Value} (r:Zal X.K H ι ds vs) (v:Vals vs its):its.toArray.size = ds.length:=
 Yi.trans (v.length.symm.trans r.length)
theorem Zng {A:Yas} {n:Nat} {ds es:List D} {vs ws:List V} {its its2:List Value}
  (ih:∀ (a b:D) (x y:V) (u v:Value),ZaM n a = true -> ZaM n b = true -> Rep X.K H ι a x -> Rep X.K H ι b y -> RelV x u -> RelV y v -> Yd0 A s u v (deq a b))
  (p1:ds.all (ZaM n) = true) (p2:es.all (ZaM n) = true) (r1:Zal X.K H ι ds vs) (r2:Zal X.K H ι es ws) (v1:Vals vs its) (v2:Vals ws its2)
  (j:Nat) (h1:j < its.toArray.size) (h2:j < its2.toArray.size):Yd0 A s its.toArray[j] its2.toArray[j] (dq2 ds es j):=by
 have k1:j < ds.length:=by rw [← ZdK r1 v1]; exact h1
 have k2:j < es.length:=by rw [← ZdK r2 v2]; exact h2
 have q1:=Yo k1;have q2:=Yo k2;obtain ⟨x,g1,z1⟩:=r1.get q1;obtain ⟨y,g2,z2⟩:=r2.get q2;obtain ⟨u,e1,l1⟩:=v1.get g1;obtain ⟨v,e2,l2⟩:=v2.get g2;unfold dq2;rw [q1,q2];obtain ⟨_,e1⟩:=Yc.mp e1;obtain ⟨_,e2⟩:=Yc.mp e2;exact ih _ _ x y _ _ (Yaf.mp p1 _ (Yu k1)) (Yaf.mp p2 _ (Yu k2)) z1 z2 (e1 ▸ l1) (e2 ▸ l2)
theorem Zlv (A:Yas) (hu1:A.units < cLine) {a:D} {x:V} {u:Value} {p:Addr} {its:Array Value} {es:List D} (ha:ZcN a = true) (ra:Rep X.K H ι a x) (ru:RelV x u) (it:s.heap.IsTuple p its):Yd0 A s u (.ref p) (deq a (.tup es)) /\ Yd0 A s (.ref p) u (deq (.tup es) a):=by
 cases a with
 | non=>rw [Zkp ra ru]; exact ⟨SeqAt.EqAt.none_tuple it hu1,SeqAt.EqAt.tuple_none it hu1⟩
 | bl k=>rw [Zmo ra ru]; exact ⟨SeqAt.EqAt.bool_tuple _ it hu1,SeqAt.EqAt.tuple_bool _ it hu1⟩
 | int k=>obtain ⟨t,e⟩:=Zie ra ru; rw [e]; exact ⟨SeqAt.EqAt.int_tuple _ _ it hu1,SeqAt.EqAt.tuple_int _ _ it hu1⟩
 | str k=>obtain ⟨t,e⟩:=Zif ra ru; rw [e]; exact ⟨SeqAt.EqAt.str_tuple _ _ it hu1,SeqAt.EqAt.tuple_str _ _ it hu1⟩
 | _=>exact ft ha
theorem ZpM (I:Inv X pins σ H s):∀ (n:Nat) (A:Yas) (_:A.units + n + 1 < cLine) (a b:D) (x y:V) (u v:Value),ZaM n a = true -> ZaM n b = true -> Rep X.K H ι a x -> Rep X.K H ι b y -> RelV x u -> RelV y v -> Yd0 A s u v (deq a b):=by
 intro n
 induction n with
 | zero=>
  intro A hu a b x y u v ha hb ra rb ru rv;exact Zj8 A a b x y u v (Zk4 ha) (Zk4 hb) ra rb ru rv
 | succ n ih=>
  intro A hu a b x y u v ha hb ra rb ru rv;have hu0:A.units + 0 + 1 < cLine:=lC 1 0x2ae0cc12aa1c0cc11 T1 hu;have hu1:A.units < cLine:=lB 1 1104257534993 T1 hu0;rcases Zgw ha with fa | ⟨ds,ea⟩
  ·rcases Zgw hb with fb | ⟨es,eb⟩
   ·exact Zj8 A a b x y u v fa fb ra rb ru rv
   ·rw [eb] at rb ⊢
    obtain ⟨p,vs,its,ex,eu,t,_⟩:=ZjR I rb rv;rw [eu];exact (Zlv A hu1 fa ra ru t).1
  ·rw [ea] at ra ha ⊢
   obtain ⟨p,vs,its,ex,eu,t,r1,v1⟩:=ZjR I ra ru;rw [eu];rcases Zgw hb with fb | ⟨es,eb⟩
   ·exact (Zlv A hu1 fb rb rv t).2
   ·rw [eb] at rb hb ⊢
    obtain ⟨q,ws,its2,ey,ev,t',r2,v2⟩:=ZjR I rb rv;rw [ev];by_cases hp:p = q
    ·rw [ey,← hp,← ex] at rb
     rw [Rep.fun1 I (n + 1) _ _ _ ha hb ra rb,hp];exact Ygj _
    ·refine SeqAt.EqAt.of_refs hp ?_
     rw [Zgh,← ZnT (ZdK r1 v1) (ZdK r2 v2)];exact SeqAt.RcAt.tuples t t' hu1 (Zng (ih A.in1 (by rw [units_in1]; exact lC 1 0x2a1a0ccc12aa1c0cc11 T1 hu)) ha hb r1 r2 v1 v2)
end
section
variable {X:Cx}
section
variable {pins:List (Addr × Obj)} {σ:St} {H:Hp} {s:Ye} {ι:List Addr}
theorem Zr1 {M:Store} (I:Inv X pins σ H s) (S:ZaJ X.K H ι M) {n:Nat} {ds:List D} {x:V} {u:Value} (h:M[n]? = some (.lst ds)) (r:Rep X.K H ι (.ref n) x) (e:RelV x u):ZsX X H ι s.heap.IsList ds x u:=by
 obtain ⟨p,hp1,ex⟩:=r.ref_inv;obtain ⟨vs,e1,r1⟩:=S.obj n _ p h hp1;obtain ⟨its,rvs,pl1,_⟩:=I.list (SqL.of e1);rw [ex] at e;exact ⟨p,vs,its,ex,e,pl1.isList,r1,rvs⟩
inductive EqK (M:Store) (a b:D) (k:Bool):Prop
 | ref {n m:Nat} (ds es:List D):a = .ref n -> b = .ref m -> Zej ds es = k -> M[n]? = some (.lst ds) -> M[m]? = some (.lst es) -> ds.all (ZaM DEEP) = true /\ es.all (ZaM DEEP) = true -> EqK M a b k
 | int (i j:Int):a = .int i -> b = .int j -> decide (i = j) = k -> EqK M a b k
 | str (i j:List Nat):a = .str i -> b = .str j -> decide (i = j) = k -> EqK M a b k
 | bl (i j:Bool):a = .bl i -> b = .bl j -> decide (i = j) = k -> EqK M a b k
 | tup {ds es:List D}:a = .tup ds -> b = .tup es -> Zej ds es = k -> ds.all (ZaM DEEP) = true /\ es.all (ZaM DEEP) = true -> EqK M a b k
theorem Zno {α:Type} {c d:Bool} {a k:α} (h:(if c && d then some a else none) = some k):a = k /\ c = true /\ d = true:=by
 cases c with
 | false=>exact nsm h
 | true=>cases d with
  | false=>exact nsm h
  | true=>exact ⟨Yq h,rfl,rfl⟩
noncomputable def ZvT (a b:Option MO):Option Bool:=match a,b with
 | some (.lst x),some (.lst y)=>if x.all (ZaM DEEP) && y.all (ZaM DEEP) then some (Zej x y) else none
 | _,_=>none
theorem Zrs {M:Store} {n m:Nat} {k:Bool} (h:ZvT M[n]? M[m]? = some k):EqK M (.ref n) (.ref m) k:=by
 cases e1:M[n]? with
 | none=>rw [e1] at h; exact nsm h
 | some o=>cases o with
  | lst x=>cases e2:M[m]? with
   | none=>rw [e1,e2] at h; exact nsm h
   | some o=>cases o with
    | lst y=>rw [e1,e2] at h; exact have w:=Zno h; .ref x y rfl rfl w.1 e1 e2 w.2
    | _=>rw [e1,e2] at h; exact nsm h
  | _=>rw [e1] at h; exact nsm h
theorem eqK {M:Store} {a b:D} {k:Bool} (h:eqD a b M = some k):EqK M a b k:=by
 cases a with
 | ref n=>cases b with
  | ref m=>exact Zrs h
  | _=>exact nsm h
 | int i=>cases b with
  | int j=>exact .int i j rfl rfl (Yq h)
  | _=>exact nsm h
 | str i=>cases b with
  | str j=>exact .str i j rfl rfl (Yq h)
  | _=>exact nsm h
 | bl i=>cases b with
  | bl j=>exact .bl i j rfl rfl (Yq h)
  | _=>exact nsm h
 | tup ds=>cases b with
  | tup es=>exact have w:=Zno h; .tup rfl rfl w.1 w.2
  | _=>exact nsm h
 | _=>cases b <;> exact nsm h
theorem Zoc {M:Store} {a b:D} {x y:V} {u v:Value} {k:Bool} (hu:X.A.units + 80 < cLine) (I:Inv X pins σ H s) (S:ZaJ X.K H ι M)
  (ra:Rep X.K H ι a x) (rb:Rep X.K H ι b y) (ru:RelV x u) (rv:RelV y v) (h:eqD a b M = some k):SeqAt.RcAt X.A s u v k /\ SeqAt.RcNeAt X.A s u v (!k):=by
 have hu1:X.A.units < cLine:=lB 1 17666545486865 T1 hu;have hu2:X.A.in1.units + DEEP + 1 < cLine:=by rw [units_in1]; exact (show X.A.units + 1 + 60 + 1 < cLine from lB 1 0x1a3c2ba0ccc11502b0c11 T1 hu)
 rcases eqK h with ⟨ds,es,ea,eb,ek,e1,e2,p1,p2⟩ | ⟨i,j,ea,eb,ek⟩ | ⟨i,j,ea,eb,ek⟩ | ⟨i,j,ea,eb,ek⟩ | ⟨ea,eb,ek,p1,p2⟩
 ·rw [ea] at ra
  rw [eb] at rb;rw [← ek];obtain ⟨p,vs,its,_,eu,t,r1,v1⟩:=Zr1 I S e1 ra ru;obtain ⟨q,ws,its2,_,ev,t',r2,v2⟩:=Zr1 I S e2 rb rv;rw [eu,ev];by_cases hl:ds.length = es.length
  ·rw [← Zob (ZdK r1 v1) hl]
   have hz:=(ZdK r1 v1).trans (hl.trans (ZdK r2 v2).symm);have w:=Zng (ZpM I DEEP X.A.in1 hu2) p1 p2 r1 r2 v1 v2;exact ⟨SeqAt.RcAt.lists t t' hz hu1 w,SeqAt.RcNeAt.lists t t' hz hu1 w⟩
  ·rw [Zn5 hl]
   have hz:(its.toArray.size != its2.toArray.size) = true:=bne_iff_ne.mpr fun e=>hl ((ZdK r1 v1).symm.trans (e.trans (ZdK r2 v2)));exact ⟨SeqAt.RcAt.lists_lengths t t' hz hu1,SeqAt.RcNeAt.lists_lengths t t' hz hu1⟩
 ·rw [ea] at ra
  rw [eb] at rb;obtain ⟨t,e⟩:=Zie ra ru;obtain ⟨t',e'⟩:=Zie rb rv;rw [e,e',← ek,← Yc6];exact ⟨SeqAt.RcAt.int_int _ _ _ _,SeqAt.RcNeAt.int_int _ _ _ _⟩
 ·rw [ea] at ra
  rw [eb] at rb;obtain ⟨t,e⟩:=Zif ra ru;obtain ⟨t',e'⟩:=Zif rb rv;rw [e,e',← ek,ZkK];exact ⟨SeqAt.RcAt.str_str _ _ _ _,SeqAt.RcNeAt.str_str _ _ _ _⟩
 ·rw [ea] at ra
  rw [eb] at rb;rw [Zmo ra ru,Zmo rb rv,← ek,← Yc6];exact ⟨SeqAt.RcAt.bool_bool _ _,SeqAt.RcNeAt.bool_bool _ _⟩
 ·rw [ea] at ra
  rw [eb] at rb;obtain ⟨p,vs,its,_,eu,t,r1,v1⟩:=ZjR I ra ru;obtain ⟨q,ws,its2,_,ev,t',r2,v2⟩:=ZjR I rb rv;rw [eu,ev,← ek,← ZnT (ZdK r1 v1) (ZdK r2 v2)];have w:=Zng (ZpM I DEEP X.A.in1 hu2) p1 p2 r1 r2 v1 v2;exact ⟨SeqAt.RcAt.tuples t t' hu1 w,SeqAt.RcNeAt.tuples t t' hu1 w⟩
end
theorem Zbh (hu:X.A.units + 80 < cLine):OpR X (Ya0 .Eq) (r2 X.K Zam):=by
 intro pins s σ H x y v u Q I rx ry h;obtain ⟨ι,M,a,b,S,ra,rb,h⟩:=h;unfold Zam at h;cases q:eqD a b M with
 | none=>rw [q] at h; exact h.elim
 | some k=>
  rw [q] at h;exact (Zoc hu I S ra rb rx ry q).1 X.prog X.w X.xe _ ⟨.bl k,H,I,rfl,Zat.ok h S Rep.bl⟩
theorem Znf {K:Ya} {H:Hp} {ι:List Addr} {ds:List D} {vs:List V} {i:Int} {d:D} (r:Zal K H ι ds vs) (h:Zbb ds i = some d):∃ v,atI vs i = some v /\ Rep K H ι d v:=by
 unfold Zbb at h;unfold atI;have e:ixN vs.length i = ixD ds.length i:=by rw [r.length]; rfl
 rw [e];cases q:ixD ds.length i with
 | none=>rw [q] at h; cases h
 | some j=>
  rw [q] at h;exact r.get h
theorem Zv:IxR X (r2 X.K Ze):=IxR.imp ZtB fun x y H Q zz1=>by
 obtain ⟨ι,M,a,b,S,ra,rb,h⟩:=zz1;cases a with
 | tup ds=>cases b with
  | int i=>
   simp only [ZaT,ZaU,ZaS,ZaL] at h;cases q:Zbb ds i with
   | none=>simp only [q] at h; exact h.elim
   | some d=>
    simp only [q] at h;obtain ⟨p,vs,rfl,s1,r1⟩:=ra.tup_inv;obtain ⟨v,e,rv⟩:=Znf r1 q;exact .inr (.inl ⟨p,vs,i,v,rfl,rb.int_inv,s1,e,Zat.ok h S rv⟩)
  | _=>exact h.elim
 | scr ds=>cases b with
  | int i=>
   simp only [ZaT,ZaU,ZaS,ZaL] at h;cases q:Zbb ds i with
   | none=>simp only [q] at h; exact h.elim
   | some d=>
    simp only [q] at h;obtain ⟨p,vs,rfl,s1,r1⟩:=ra.scr_inv;obtain ⟨v,e,rv⟩:=Znf r1 q;exact .inl ⟨p,vs,i,v,rfl,rb.int_inv,s1.sq,e,Zat.ok h S rv⟩
  | _=>exact h.elim
 | str z=>cases b with
  | int i=>
   simp only [ZaT,ZaU,ZaS,ZaL] at h;cases q:Zbb z i with
   | none=>simp only [q] at h; exact h.elim
   | some c=>
    simp only [q] at h;split at h
    ·rename_i hz
     refine .inr (.inr ⟨_,i,c,ra.str_inv,rb.int_inv,?_,?_,Zat.ok h S Rep.str⟩)
     ·have:=ZcZ
      simp only [Ycx,Yi];exact Y2 hz this
     ·simpa [atI,ixN,Zbb,ixD] using q
    ·exact h.elim
  | _=>exact h.elim
 | ref n=>cases b with
  | int i=>
   cases hn:M[n]? with
   | none=>rw [ZaL,hn] at h; exact h.elim
   | some o=>
    cases o with
    | dct _=>rw [ZaL,hn] at h; exact h.elim
    | fdct _=>rw [ZaL,hn] at h; exact h.elim
    | ins _ _=>rw [ZaL,hn] at h; exact h.elim
    | lst ds=>
     simp only [ZaT,ZaU,ZaS,ZaL,hn] at h;cases q:Zbb ds i with
     | none=>simp only [q] at h; exact h.elim
     | some d=>
      simp only [q] at h;obtain ⟨p,hp,rfl⟩:=ra.ref_inv;obtain ⟨vs,e1,r1⟩:=S.obj n _ p hn hp;obtain ⟨v,e,rv⟩:=Znf r1 q;exact .inl ⟨p,vs,i,v,rfl,rb.int_inv,SqL.of e1,e,Zat.ok h S rv⟩
  | _=>exact h.elim
 | _=>cases b <;> exact h.elim
theorem Znv {K:Ya} {H:Hp} {ι:List Addr} {ds:List D} {vs:List V} (r:Zal K H ι ds vs) (lo hi:Option Int):Zal K H ι (cutD ds lo hi) (ZlO vs lo hi):=by
 have e:∀ n d o,HT.sIx n d o = sIx n d o:=fun n d o=>by cases o <;> rfl
 unfold cutD ZlO;rw [e,e,r.length];exact (r.drop _).take _
end
noncomputable def Zdv (cells:List (Str × Addr)):List (Str × NameKind) -> List (Str × Addr) -> List (Str × Addr)
 | [],cs=>cs
 | (n,k) :: r,cs=>Zdv cells r (if k == .free then (n,(cells.lookup n).getD 0) :: cs else cs)
theorem ZgG {scope:Scope} {env:Env} (h:∀ y ∈ scope.names,y.2 = .free -> ∃ c,env.cells.lookup y.1 = some c):closureFor scope env = pure (Zdv env.cells scope.names []):=by
 unfold closureFor;have key:∀ (names:List (Str × NameKind)) (cs:List (Str × Addr)),(∀ y ∈ names,y.2 = .free -> ∃ c,env.cells.lookup y.1 = some c) ->
   (forIn names cs fun x r=>match x with | (name,kind)=>if (kind == NameKind.free) = true then do let c ← cellOf env name; pure (ForInStep.yield ((name,c) :: r)) else pure (ForInStep.yield r):Sem (List (Str × Addr))) = pure (Zdv env.cells names cs):=by
  intro names
  induction names with
  | nil=>intro cs _; rfl
  | cons y r ih=>
   intro cs hy;obtain ⟨n,k⟩:=y;rw [List.forIn_cons];by_cases hk:k = .free
   ·subst hk
    obtain ⟨c,hc⟩:=hy (n,.free) Y7 rfl;have e1:cellOf env n = pure c:=by unfold cellOf; rw [hc]
    simp only [beq_self_eq_true,if_true,e1,pure_bind];rw [ih _ fun z hz=>hy z (Y3 _ hz)];simp [Zdv,hc]
   ·have hb:(k == NameKind.free) = false:=by simpa using hk
    simp only [hb,Yae,if_false,pure_bind];rw [ih _ fun z hz=>hy z (Y3 _ hz)];simp [Zdv,hb]
 have:=key scope.names [] h
 first
  | exact this
  | (simp only [bind_pure]; exact this)
theorem Zok {cells:List (Str × Addr)} {x:Str} {c:Addr}:∀ (names:List (Str × NameKind)) (cs:List (Str × Addr)),(∀ y ∈ names,y.2 = .free -> ∃ c,cells.lookup y.1 = some c) -> (Zdv cells names cs).lookup x = some c -> cs.lookup x = some c \/ cells.lookup x = some c:=by
 intro names
 induction names with
 | nil=>intro cs _ h; exact .inl h
 | cons y r ih=>
  intro cs hy h;obtain ⟨n,k⟩:=y;rw [Zdv] at h;rcases ih _ (fun z hz=>hy z (Y3 _ hz)) h with q | q
  ·by_cases hk:k = .free
   ·subst hk
    obtain ⟨c0,hc⟩:=hy (n,.free) Y7 rfl;simp only [beq_self_eq_true,if_true,hc,Option.getD_some,Yap] at q;cases hx:x == n with
    | true=>
     simp only [hx] at q;cases q;have:x = n:=by simpa using hx
     subst this;exact .inr hc
    | false=>simp only [hx] at q; exact .inl q
   ·have hb:(k == NameKind.free) = false:=by simpa using hk
    simp only [hb,Yae,if_false] at q;exact .inl q
  ·exact .inr q
theorem Zm8 {cells:List (Str × Addr)} {x:Str}:∀ (names:List (Str × NameKind)) (cs:List (Str × Addr)),(cs.lookup x).isSome = true -> ((Zdv cells names cs).lookup x).isSome = true:=by
 intro names
 induction names with
 | nil=>intro cs h; exact h
 | cons y r ih=>
  intro cs h;obtain ⟨n,k⟩:=y;rw [Zdv];refine ih _ ?_;split
  ·rw [Yap]
   split
   ·rfl
   ·exact h
  ·exact h
theorem Zj7 {cells:List (Str × Addr)} {x:Str}:∀ (names:List (Str × NameKind)) (cs:List (Str × Addr)),(x,NameKind.free) ∈ names -> ((Zdv cells names cs).lookup x).isSome = true:=by
 intro names
 induction names with
 | nil=>intro cs h; cases h
 | cons y r ih=>
  intro cs h;obtain ⟨n,k⟩:=y;rw [Zdv];rcases Yah.mp h with e | h
  ·cases e
   refine Zm8 _ _ ?_;simp
  ·exact ih _ h
noncomputable def ZcI (X:Cx) (scope:Scope) (N':List Str) (C:Addr) (cl:List (Str × Addr)) (s:Ye) (H:Hp) (ex:List Addr):Cx:=
 { X with N:=N',s₀:=s,H₀:=H,env:=compEnvC scope cl C X.env,outer:=X.stack,stack:=X.stack,ex:=ex,fn:=fun _=>false,pn:=[],xe:=fun _ _=>False }
noncomputable def Zqt (N N':List Str) (scope:Scope):Bool:=(Yt N.length).all fun i=>match N'[i]? with
 | some x=>(scope.names.lookup x).isNone || (decide (N[i]? = some x) && decide (scope.names.lookup x = some .free))
 | none=>false
def CTs (X:Cx) (ifs:List Expr) (ts:List E3):Prop:=∀ (pins:List (Addr × Obj)) (s:Ye) (σ:St) (H:Hp) (Q:Bool -> Hp -> Prop),Inv X pins σ H s ->
 (∃ ι M env,ZaJ X.K H ι M /\ Zb1 X.K H ι env σ /\ match Zfe ts env M with | .ok b M'=>∀ H' ι',Ext X.K H ι H' ι' -> ZaJ X.K H' ι' M' -> Q b H' | _=>False) ->
 wpAny (model X.prog X.w) X.A (forIn ifs true fun c r=>if r = true then do let ok ← isTrue c X.env (eval c X.env); pure (ForInStep.yield ok) else pure (ForInStep.yield r)) (TP X pins σ Q) X.xe s
theorem ZnN {X:Cx}:CTs X [] []:=fun pins s σ H Q I ⟨ι,M,env,S,E,h⟩=>wpAny_tests_nil ⟨H,I,h H ι Ext.refl S⟩
theorem Zgu {X:Cx} {c:Expr} {f:E3} (hc:CT X c f):CTs X [c] [f]:=fun pins s σ H Q I zz1=>by
 obtain ⟨ι,M,env,S,E,h⟩:=zz1;refine wpAny_tests_one (hc pins s σ H Q I ⟨ι,M,env,S,E,?_⟩);unfold Zfe at h;cases q:f env M with
 | ok d M1=>
  rw [q] at h;cases d with
  | bl b=>cases b with
   | true=>exact h
   | false=>exact h
  | _=>exact h.elim
 | exc x M1=>rw [q] at h; exact h.elim
 | bad=>rw [q] at h; exact h.elim
section
variable {prog:Yai} {w:World} {A:Yas} {R:Result -> Ye -> Prop} {s:Ye}
theorem Zlp {elt target iter:Expr} {ifs:List Expr} {scope:Scope} {pos:Pos} {it acc:Value} {env:Env} (I:Nat -> Ye -> Prop)
  (turn:∀ n s,I n s -> wpAny (model prog w) A (Yhv it) (fun r s₁=>match r with
   | none=>R (.ok .next) s₁
   | some v=>wpAny (model prog w) A (Ydq target it v) (fun _ s₁'=>wpAny (model prog w) A (Ydb target env v) (fun _ s₂=>
     wpAny (model prog w) A (forIn ifs true fun c r=>if r = true then do let ok ← isTrue c env (eval c env); pure (ForInStep.yield ok) else pure (ForInStep.yield r)) (fun ok s₃=>
      if ok = true then wpAny (model prog w) A (eval elt env) (fun x s₄=>
       wpAny (model prog w) A (call (.builtin "list.append") [acc,x]) (fun _ s₅=>∃ m,m < n /\ I m s₅) (fun _ _=>False) s₄) (fun _ _=>False) s₃
      else ∃ m,m < n /\ I m s₃) (fun _ _=>False) s₂) (fun _ _=>False) s₁') (fun _ _=>False) s₁) (fun _ _=>False) s)
  (n:Nat) (h:I n s):Ygf (model prog w) A (.compLoop (.ListComp elt [⟨target,iter,ifs,0⟩] scope pos) 0 it acc env) R s:=by
 refine codeAny_loop rfl I (fun n s hI=>?_) n h;show wpAny _ A ((compTurn (.ListComp elt [⟨target,iter,ifs,0⟩] scope pos) 0 it acc env).onRaise (fun x=>do noteFrame x env; theTreesLotGoes x)) _ _ s;refine wpAny_noted ?_;rw [compTurn_list];refine Yd (Yfd (Yd (Ybr (turn n s hI) (fun r s₁ h₁=>?_) fun _ _ h'=>Ybk h')));cases r with
 | none=>exact Ys h₁
 | some v=>
  refine Yd (Ybr h₁ (fun _ s₁' h₁'=>?_) fun _ _ h'=>Ybk h');refine Yd (Ybr h₁' (fun _ s₂ h₂=>Yd (Ybr h₂ (fun ok s₃ h₃=>?_) fun _ _ h'=>Ybk h')) fun _ _ h'=>Ybk h');cases ok with
  | false=>exact Ys ⟨rfl,h₃⟩
  | true=>
   exact Yd (Yd (Ybr h₃ (fun x s₄ h₄=>Yd (Ybr h₄ (fun _ s₅ h₅=>Ys (Ys ⟨rfl,h₅⟩)) fun _ _ h'=>Ybk h')) fun _ _ h'=>Ybk h'))
end
theorem ZeX {env:Env} {x:Str} {k:NameKind}:∀ {names:List (Str × NameKind)},(names.map fun (n,k)=>if (k == NameKind.free && env.scope.kind == .function && env.kindOf n == some .cell) then (n,NameKind.cell) else (n,k)).lookup x = some k ->
  ∃ k0,names.lookup x = some k0 /\ (k0 = k \/ (k0 = .free /\ k = .cell)):=by
 intro names
 induction names with
 | nil=>intro h; simp at h
 | cons y r ih=>
  intro h;obtain ⟨n,k1⟩:=y;rw [Y9] at h;cases hx:x == n with
  | true=>
   refine ⟨k1,by simp [Yap,hx],?_⟩;by_cases hc:(k1 == NameKind.free && env.scope.kind == .function && env.kindOf n == some .cell) = true
   ·simp only [if_pos hc,Yap,hx] at h
    cases h
    simp only [Yv,beq_iff_eq] at hc;exact .inr ⟨hc.1.1,rfl⟩
   ·simp only [if_neg hc,Yap,hx] at h
    cases h
    exact .inl rfl
  | false=>
   have h':(r.map fun (n,k)=>if (k == NameKind.free && env.scope.kind == .function && env.kindOf n == some .cell) then (n,NameKind.cell) else (n,k)).lookup x = some k:=by
    by_cases hc:(k1 == NameKind.free && env.scope.kind == .function && env.kindOf n == some .cell) = true
    ·simp only [if_pos hc,Yap,hx] at h; exact h
    ·simp only [if_neg hc,Yap,hx] at h; exact h
   obtain ⟨k0,e,q⟩:=ih h';exact ⟨k0,by simp [Yap,hx,e],q⟩
theorem Zlj {env:Env} {x:Str}:∀ {names:List (Str × NameKind)},names.lookup x = some .free ->
  (names.map fun (n,k)=>if (k == NameKind.free && env.scope.kind == .function && env.kindOf n == some .cell) then (n,NameKind.cell) else (n,k)).lookup x = some .free \/
  (names.map fun (n,k)=>if (k == NameKind.free && env.scope.kind == .function && env.kindOf n == some .cell) then (n,NameKind.cell) else (n,k)).lookup x = some .cell:=by
 intro names
 induction names with
 | nil=>intro h; simp at h
 | cons y r ih=>
  intro h;obtain ⟨n,k1⟩:=y;rw [Y9];cases hx:x == n with
  | true=>
   simp only [Yap,hx] at h;cases h;by_cases hc:(NameKind.free == NameKind.free && env.scope.kind == .function && env.kindOf n == some .cell) = true
   ·simp only [if_pos hc,Yap,hx]; exact .inr trivial
   ·simp only [if_neg hc,Yap,hx]; exact .inl trivial
  | false=>
   simp only [Yap,hx] at h;by_cases hc:(k1 == NameKind.free && env.scope.kind == .function && env.kindOf n == some .cell) = true
   ·simp only [if_pos hc,Yap,hx]; exact ih h
   ·simp only [if_neg hc,Yap,hx]; exact ih h
section
variable {X:Cx} {pins:List (Addr × Obj)} {σ:St} {H:Hp} {s:Ye} {scope:Scope} {N':List Str} {own:Nat} {fp:List Addr}
theorem Zph (I:Inv X pins σ H s) (hk:scope.kind = .function) (hcell:∀ y ∈ scope.names,y.2 ≠ .cell) (hfree:∀ y ∈ scope.names,y.2 = .free -> X.env.kindOf y.1 = some .cell \/ X.env.kindOf y.1 = some .free)
  (hN:N'.length = X.N.length + own) (hv:Zqt X.N N' scope = true) (hfp:∀ b ∈ fp,Zgi X pins H b) (hlt:∀ b ∈ fp,b < s.heap.objs.size) {h1:Heap} {tk:Nat}
  (hns:h1.Ns s.heap.objs.size fun _=>none) (keep:∀ b o,s.heap.get? b = some o -> h1.get? b = some o):
  Inv (ZcI X scope N' s.heap.objs.size (Zdv X.env.cells scope.names []) s H fp) [] (σ ++ Yg own none) H { s with heap:=h1,toks:=tk }:=by
 have hc0:∀ y ∈ scope.names,y.2 = .free -> ∃ c,X.env.cells.lookup y.1 = some c:=fun y hy e=>I.ok.has y.1 (hfree y hy e);have sub:∀ x c,(Zdv X.env.cells scope.names []).lookup x = some c -> X.env.cells.lookup x = some c:=fun x c h=>by
  rcases Zok scope.names [] hc0 h with q | q
  ·simp at q
  ·exact q
 have cellK:∀ {c:Addr} {v:Option Value},s.heap.IsCell c v -> h1.IsCell c v:=fun ⟨o,ho,hd⟩=>⟨o,keep _ o ho,hd⟩;refine ⟨⟨I.ok.mod,hk,I.ok.glob,I.ok.blt,Yj _,fun x y c h1 h2=>I.ok.inj x y c (sub x c h1) (sub y c h2),fun x hx=>?_,fun x c h=>?_,I.ok.hd,I.ok.frames,.inl rfl,fun b hb=>⟨Yy (hlt b hb),fun x c h=>(hfp b hb).2.2.2.2.1 x c (sub x c h)⟩,
   I.bs,Y2 I.ok.bsz I.sz,fun b o e hb=>?_,fun b hb hz=>?_,I.stack,I.stkFree⟩,rfl,I.bare,Un.kept keep,⟨_,hns,fun i x v h1 h2 h3=>?_⟩,fun x c h=>?_,I.hok.fresh (Yj _),fun x c h=>I.freeC x c (sub x c h),
  fun p hp=>absurd (show p ∈ ([]:List (Addr × Obj)) from hp) (by simp),I.hok.kept keep,?_⟩
 ·have hx':(Yh5 scope X.env).names.lookup x = some .cell \/ (Yh5 scope X.env).names.lookup x = some .free:=hx
  have:scope.names.lookup x = some .free:=by
   rcases hx' with hx' | hx'
   ·obtain ⟨k0,e,q⟩:=ZeX (names:=scope.names) hx'
    rcases q with q | ⟨q,_⟩
    ·subst q; exact absurd rfl (hcell _ (Ya3 e))
    ·rw [e,q]
   ·obtain ⟨k0,e,q⟩:=ZeX (names:=scope.names) hx'
    rcases q with q | ⟨_,q⟩
    ·rw [e,q]
    ·cases q
  exact Ydm.mp (Zj7 scope.names [] (Ya3 this))
 ·cases h
 ·obtain ⟨_,_,_,q,_⟩:=hfp b hb
  rcases q with q | q
  ·exact I.ok.noex b o e q
  ·exact absurd (Yx (Yr e) (Y2 I.ok.bsz q)) (Ycs _)
 ·have hz':b ∈ frs X.stack:=hz
  obtain ⟨_,q1,q2,_⟩:=hfp b hb;rcases Yah.mp (I.stkSub b hz') with e | e
  ·exact q1 e
  ·exact q2 e
 ·have hi:i < σ.length:=by
   by_cases hi:i < σ.length
   ·exact hi
   ·rw [Yan (Yaa hi),Yct] at h2
    split at h2 <;> cases h2
  rw [Y0 hi] at h2;have hiN:i < X.N.length:=by rw [← I.len]; exact hi
  have hN':N'[i]? = some x:=h1;have vq:=Yaf.mp hv i (List.mem_range.mpr hiN);rw [hN'] at vq;have h3':(Yh5 scope X.env).names.lookup x = some .local \/ (Yh5 scope X.env).names.lookup x = some .cell \/ (Yh5 scope X.env).names.lookup x = some .free:=h3;have some_of:∃ k0,scope.names.lookup x = some k0:=by
   rcases h3' with q | q | q <;> (obtain ⟨k0,e,_⟩:=ZeX (names:=scope.names) q; exact ⟨k0,e⟩)
  obtain ⟨k0,ek⟩:=some_of;simp only [ek,Option.isNone_some,Yfh,Yv,decide_eq_true_eq] at vq;obtain ⟨vq1,vq2⟩:=vq;cases vq2;have hkind:=hfree (x,.free) (Ya3 ek) rfl;obtain ⟨m,hn,hl⟩:=I.loc;have hVis:Vis X.env.scope x:=by
   rcases hkind with q | q
   ·exact .inr (.inl q)
   ·exact .inr (.inr q)
  obtain ⟨u,ru,lk⟩:=hl i x v vq1 h2 hVis;refine ⟨u,ru,?_⟩;rcases lk with ⟨kl,_⟩ | ⟨_,c,ec,ic⟩
  ·rcases hkind with q | q <;> (rw [q] at kl; cases kl)
  ·have hkk:(compEnvC scope (Zdv X.env.cells scope.names []) s.heap.objs.size X.env).kindOf x = some .cell \/ (compEnvC scope (Zdv X.env.cells scope.names []) s.heap.objs.size X.env).kindOf x = some .free:=by
    rcases Zlj (env:=X.env) ek with q | q
    ·exact .inr q
    ·exact .inl q
   obtain ⟨c',ec'⟩:=Ydm.mp (Zj7 (cells:=X.env.cells) scope.names [] (Ya3 ek));have e2:=sub x c' ec';rw [ec] at e2;cases e2;exact .inr ⟨hkk,c,ec',cellK ic⟩
 ·obtain ⟨v,ic⟩:=I.cell x c (sub x c h)
  exact ⟨v,cellK ic⟩
 ·show (σ ++ Yg own none).length = N'.length
  rw [Yaj,Ygh,I.len,hN]
theorem Zb1.grow {K:Ya} {H:Hp} {ι:List Addr} {env:ZaD} {σ:St} (E:Zb1 K H ι env σ) (n:Nat):Zb1 K H ι (env ++ Yg n none) (σ ++ Yg n none):=by
 refine ⟨by simp [E.1],fun i d h=>?_⟩;by_cases hi:i < env.length
 ·rw [Y0 hi] at h
  obtain ⟨v,e,r⟩:=E.2 i d h;exact ⟨v,by rw [Y0 (by rw [← E.1]; exact hi)]; exact e,r⟩
 ·rw [Yan (Yaa hi),Yct] at h
  split at h <;> cases h
end
section
structure Cb where
 Y:Cx
 fp:List Addr
 tn:Nat -> Heap -> Prop
 itd:It3
 H2:Hp
 ι2:List Addr
 Q:VK
 g:G3
 ts:List E3
 f:E3
 nM:Nat
 acc:Addr
inductive CbJ (P:Cb) (n:Nat) (s':Ye):Prop
 | mk (k:Nat) (σ5:St) (H5:Hp) (ι5:List Addr) (M5:Store) (env5:ZaD) (I5:Inv P.Y [] σ5 H5 s') (st5:P.tn k s'.heap) (fr5:∀ b ∈ P.fp,H5 b = none) (hn:P.itd.items.length - k = n) (hk:k <= P.itd.items.length)
   (x5:Ext P.Y.K P.H2 P.ι2 H5 ι5) (S5:ZaJ P.Y.K H5 ι5 M5) (E5:Zb1 P.Y.K H5 ι5 env5 σ5) (hι:ι5[P.nM]? = some P.acc) (h5:Zat P.Y.K H5 ι5 P.Q (ZcL P.itd P.g P.ts P.f P.nM (P.itd.items.drop k) env5 M5))
def CbL (P:Cb) (n:Nat) (s':Ye):Prop:=∃ m,m < n /\ CbJ P m s'
section
noncomputable local instance (priority:=100000) clP18a (p:Prop):Decidable p:=clP17 p
noncomputable def cbE (P:Cb) (k:Nat) (env:ZaD) (e:D) (M2:Store):R3 D:=match M2[P.nM]? with
 | some (.lst x)=>if x.length < SZ then ZcL P.itd P.g P.ts P.f P.nM (P.itd.items.drop (k + 1)) env (M2.set P.nM (.lst (x ++ [e]))) else .bad
 | _=>.bad
noncomputable def cbB (P:Cb) (k:Nat) (env:ZaD) (b:Bool) (M1:Store):R3 D:=if b then (P.f env M1).bind (cbE P k env) else ZcL P.itd P.g P.ts P.f P.nM (P.itd.items.drop (k + 1)) env M1
end
def cbF (P:Cb) (n:Nat) (xv:Value) (s:Ye):Prop:=wpAny (model P.Y.prog P.Y.w) P.Y.A (call (.builtin "list.append") [.ref P.acc,xv]) (fun _ s'=>CbL P n s') P.Y.xe s
def cbO (P:Cb) (elt:Expr) (n:Nat) (ok:Bool) (s:Ye):Prop:=if ok = true then wpAny (model P.Y.prog P.Y.w) P.Y.A (eval elt P.Y.env) (cbF P n) P.Y.xe s else CbL P n s
def cbS (P:Cb) (elt:Expr) (ifs:List Expr) (n:Nat) (s:Ye):Prop:=wpAny (model P.Y.prog P.Y.w) P.Y.A (forIn ifs true fun c r=>if r = true then do let ok ← isTrue c P.Y.env (eval c P.Y.env); pure (ForInStep.yield ok) else pure (ForInStep.yield r)) (cbO P elt n) P.Y.xe s
def cbA (P:Cb) (tg elt:Expr) (ifs:List Expr) (n:Nat) (u:Value) (s:Ye):Prop:=wpAny (model P.Y.prog P.Y.w) P.Y.A (Ydb tg P.Y.env u) (fun _=>cbS P elt ifs n) P.Y.xe s
def cbN (P:Cb) (tg elt:Expr) (ifs:List Expr) (it:Addr) (n:Nat) (F:Ye -> Prop) (r:Option Value) (s:Ye):Prop:=match r with
 | none=>F s
 | some v=>wpAny (model P.Y.prog P.Y.w) P.Y.A (Ydq tg (.ref it) v) (fun _=>cbA P tg elt ifs n v) P.Y.xe s
variable {P:Cb} {tg elt:Expr} {ifs:List Expr} {J:It} {it:Addr} {k:Nat} {h7:Heap} {σ:St} {H H':Hp} {s:Ye} {ι:List Addr} {M M1:Store} {env:ZaD}
theorem Zn3 (T:Turn P.Y.prog P.Y.w P.Y.K tg J P.fp it P.tn) (st7:P.tn (k + 1) h7) (hlt:k < P.itd.items.length) (I':Inv P.Y ([] ++ Zge P.fp h7) σ H s) (x:Ext P.Y.K P.H2 P.ι2 H ι) (S:ZaJ P.Y.K H ι M) (E:Zb1 P.Y.K H ι env σ) (hι:ι[P.nM]? = some P.acc)
  (h:Zat P.Y.K H ι P.Q (ZcL P.itd P.g P.ts P.f P.nM (P.itd.items.drop (k + 1)) env M)):CbL P (P.itd.items.length - k) s:=
 ⟨P.itd.items.length - (k + 1),lD 2 0x30113c2012a1c0c21 T1 (Yb (lB 1 6991908881 T1 hlt)) (sbA _ _),⟨k + 1,σ,H,ι,M,env,I'.unpinned,T.keep _ _ _ st7 fun b hb o e=>(I'.pin (b,o) (Yar _ (Yar _ (ZfI hb e)))).1,fun b hb=>(T.obj _ _ st7 b hb).elim fun o e=>(I'.pin (b,o) (Yar _ (Yar _ (ZfI hb e.1)))).2.1,rfl,hlt,x,S,E,hι,h⟩⟩
theorem Zuy:cbB P k env true M = (P.f env M).bind (cbE P k env):=if_pos rfl
theorem Zva:cbB P k env false M = ZcL P.itd P.g P.ts P.f P.nM (P.itd.items.drop (k + 1)) env M:=if_neg (by decide)
theorem Zat.iff {K:Ya} {H:Hp} {ι:List Addr} {Q:VK} {c:Prop} {dc:Decidable c} {r:R3 D} (h:Zat K H ι Q (if c then r else .bad)):c /\ Zat K H ι Q r:=by
 by_cases hc:c
 ·rw [if_pos hc] at h; exact ⟨hc,h⟩
 ·rw [if_neg hc] at h; exact h.elim
theorem Zs2 {xs:List D} {d:D} {v:V} {xv:Value} (T:Turn P.Y.prog P.Y.w P.Y.K tg J P.fp it P.tn) (st7:P.tn (k + 1) h7) (hlt:k < P.itd.items.length) (I':Inv P.Y ([] ++ Zge P.fp h7) σ H s) (r:RelV v xv) (x:Ext P.Y.K P.H2 P.ι2 H ι) (S:ZaJ P.Y.K H ι M) (E:Zb1 P.Y.K H ι env σ) (rd:Rep P.Y.K H ι d v) (hι:ι[P.nM]? = some P.acc)
  (hm:M[P.nM]? = some (.lst xs)) (hz:xs.length < SZ) (h:Zat P.Y.K H ι P.Q (ZcL P.itd P.g P.ts P.f P.nM (P.itd.items.drop (k + 1)) env (M.set P.nM (.lst (xs ++ [d]))))):
  cbF P (P.itd.items.length - k) xv s:=by
 obtain ⟨vs,ev,rvs⟩:=S.obj _ _ _ hm hι;obtain ⟨x11,S11⟩:=S.setl (.inr (.inl ⟨_,ev⟩)) hι (rvs.append (Zal.cons rd Zal.nil));refine thn (Q':=fun _ s'=>CbL P (P.itd.items.length - k) s') (Zka _ s σ H (.ref P.acc) [v] (.ref P.acc) [xv] (fun _ H'=>H' = upd H P.acc (.lst (vs ++ [v]))) I' rfl (.cons r .nil) ⟨_,vs,v,rfl,rfl,ev,by rw [rvs.length]; exact Yx hz ZcZ,rfl⟩) fun _ s11 zz1=>?_;obtain ⟨_,H11,I11,_,eH⟩:=zz1;rw [eH] at I11;exact Zn3 T st7 hlt I11 (x.trans x11) S11 (E.mono x11) (x11.pre _ _ hι) (h.up x11)
theorem Ztt (T:Turn P.Y.prog P.Y.w P.Y.K tg J P.fp it P.tn) (helt:C3 P.Y elt P.f) (st7:P.tn (k + 1) h7) (hlt:k < P.itd.items.length) (I':Inv P.Y ([] ++ Zge P.fp h7) σ H s) (x:Ext P.Y.K P.H2 P.ι2 H ι) (S:ZaJ P.Y.K H ι M) (E:Zb1 P.Y.K H ι env σ) (hι:ι[P.nM]? = some P.acc)
  (h:Zat P.Y.K H ι P.Q ((P.f env M).bind (cbE P k env))):
  wpAny (model P.Y.prog P.Y.w) P.Y.A (eval elt P.Y.env) (cbF P (P.itd.items.length - k)) P.Y.xe s:=by
 obtain ⟨d,M10,e10,h10⟩:=Zat.bind h;refine thn (Q':=cbF P (P.itd.items.length - k)) (helt _ s σ H (fun v H'=>∃ ι10,Ext P.Y.K H ι H' ι10 /\ ZaJ P.Y.K H' ι10 M10 /\ Rep P.Y.K H' ι10 d v) I' ⟨ι,M,env,S,E,by rw [e10]; exact fun v H' ι' x' S' r'=>⟨ι',x',S',r'⟩⟩) fun xv s10 zz1=>?_;obtain ⟨v,H10,I10,r10,ι10,x10,S10,rd⟩:=zz1;unfold cbE at h10;cases hm:M10[P.nM]? with
 | none=>rw [hm] at h10; exact h10.elim
 | some o=>
  rw [hm] at h10;cases o with
  | dct _=>exact h10.elim
  | fdct _=>exact h10.elim
  | ins _ _=>exact h10.elim
  | lst xs=>
   exact Zs2 T st7 hlt I10 r10 (x.trans x10) S10 (E.mono x10) rd (x10.pre _ _ hι) hm (Zat.iff h10).1 ((Zat.iff h10).2.up x10)
theorem ZsT (T:Turn P.Y.prog P.Y.w P.Y.K tg J P.fp it P.tn) (hts:CTs P.Y ifs P.ts) (helt:C3 P.Y elt P.f) (st7:P.tn (k + 1) h7) (hlt:k < P.itd.items.length) (I':Inv P.Y ([] ++ Zge P.fp h7) σ H s) (x:Ext P.Y.K P.H2 P.ι2 H ι) (S:ZaJ P.Y.K H ι M) (E:Zb1 P.Y.K H ι env σ) (hι:ι[P.nM]? = some P.acc)
  (h:Zat P.Y.K H ι P.Q ((Zfe P.ts env M).bind (cbB P k env))):
  cbS P elt ifs (P.itd.items.length - k) s:=by
 obtain ⟨b,M9,e9,h9⟩:=Zat.bind h;refine thn (Q':=cbO P elt (P.itd.items.length - k)) (hts _ s σ H (fun b' H'=>b' = b /\ ∃ ι9,Ext P.Y.K H ι H' ι9 /\ ZaJ P.Y.K H' ι9 M9) I' ⟨ι,M,env,S,E,by rw [e9]; exact fun H' ι' x' S'=>⟨rfl,ι',x',S'⟩⟩) fun b' s9 zz1=>?_;obtain ⟨H9,I9,eb,ι9,x9,S9⟩:=zz1;rw [← eb] at h9;cases b' with
 | false=>exact Zn3 T st7 hlt I9 (x.trans x9) S9 (E.mono x9) (x9.pre _ _ hι) (Zat.up x9 (Zva ▸ h9))
 | true=>exact Ztt T helt st7 hlt I9 (x.trans x9) S9 (E.mono x9) (x9.pre _ _ hι) (Zat.up x9 (Zuy ▸ h9))
theorem ZuQ (T:Turn P.Y.prog P.Y.w P.Y.K tg J P.fp it P.tn) (hc:P.Y.calm = true) (hfp:∀ {H':Hp},(∀ b ∈ P.fp,H' b = none) -> ∀ b ∈ P.fp,Zgi P.Y [] H' b) (hg:CG P.Y tg P.g) (hts:CTs P.Y ifs P.ts) (helt:C3 P.Y elt P.f) (hlt:k < P.itd.items.length)
  (I5:Inv P.Y [] σ H s) (st5:P.tn k s.heap) (fr5:∀ b ∈ P.fp,H b = none) (x:Ext P.Y.K P.H2 P.ι2 H ι) (S:ZaJ P.Y.K H ι M) (E:Zb1 P.Y.K H ι env σ) (hι:ι[P.nM]? = some P.acc) (ok:Zjb P.Y.K P.H2 P.ι2 P.itd J)
  (h:Zat P.Y.K H ι P.Q (ZcL P.itd P.g P.ts P.f P.nM (P.itd.items[k] :: P.itd.items.drop (k + 1)) env M)) (F:Ye -> Prop):
  wpAny (model P.Y.prog P.Y.w) P.Y.A (Yhv (.ref it)) (cbN P tg elt ifs it (P.itd.items.length - k) F) P.Y.xe s:=by
 obtain ⟨lk,h⟩:=Zat.iff h;obtain ⟨go,yl⟩:=(ok k H ι M x S lk).1 _ (Yo hlt);cases eg:P.g P.itd.items[k] env with
 | none=>rw [eg] at h; exact h.elim
 | some env6=>
  rw [eg] at h;refine thn (T.item P.Y rfl rfl rfl hc k [] s σ H P.Y.xe I5 (hfp fr5) st5 go) fun r s6 zz1=>?_;obtain ⟨u,hr,h6⟩:=zz1;rw [hr];refine thn (Q':=fun _=>cbA P tg elt ifs (P.itd.items.length - k) u) h6 fun _ s7 zz1=>?_;obtain ⟨y,H7,I7,r7,y7,st7,fr7⟩:=zz1;obtain ⟨e7,rx⟩:=yl y H7 y7;rw [e7] at I7 fr7;refine thn (Q':=fun _=>cbS P elt ifs (P.itd.items.length - k)) (hg _ s7 σ H y u (fun σ' H'=>H' = H /\ Zb1 P.Y.K H ι env6 σ') (I7.pinned (hfp fr7) (T.obj _ _ st7)) r7 ⟨ι,M,env,_,env6,S,E,rx,eg,fun σ' E'=>⟨rfl,E'⟩⟩) fun _ s8 zz1=>?_;obtain ⟨σ8,H8,I8,e8,E8⟩:=zz1;rw [e8] at I8;exact ZsT T hts helt st7 hlt I8 x S E8 hι h
theorem ZrP {n:Nat} (T:Turn P.Y.prog P.Y.w P.Y.K tg J P.fp it P.tn) (hc:P.Y.calm = true) (hfp:∀ {H':Hp},(∀ b ∈ P.fp,H' b = none) -> ∀ b ∈ P.fp,Zgi P.Y [] H' b)
  (I5:Inv P.Y [] σ H s) (st5:P.tn P.itd.items.length s.heap) (fr5:∀ b ∈ P.fp,H b = none) (x:Ext P.Y.K P.H2 P.ι2 H ι) (S:ZaJ P.Y.K H ι M) (hι:ι[P.nM]? = some P.acc) (ok:Zjb P.Y.K P.H2 P.ι2 P.itd J)
  (h:Zat P.Y.K H ι P.Q (ZcL P.itd P.g P.ts P.f P.nM [] env M)) {F:Ye -> Prop} (hF:∀ s6,Inv P.Y [] σ H s6 -> P.Q (.ref P.acc) H -> F s6):
  wpAny (model P.Y.prog P.Y.w) P.Y.A (Yhv (.ref it)) (cbN P tg elt ifs it n F) P.Y.xe s:=by
 obtain ⟨lk,h⟩:=Zat.iff h;refine thn (T.done P.Y rfl rfl rfl hc _ [] s σ H P.Y.xe I5 (hfp fr5) st5 ((ok _ H ι M x S lk).2 rfl)) fun r s6 zz1=>?_;rw [zz1.1];exact hF s6 zz1.2 (h _ H ι Ext.refl S (Rep.ref hι))
end
section
variable {X:Cx} {elt tg iter:Expr} {ifs:List Expr} {scope:Scope} {pos:Pos} {i:I3} {own:Nat} {g:G3} {ts:List E3} {f:E3} {N':List Str}
structure ZhE (X:Cx) (scope:Scope) (N':List Str) (own:Nat):Prop where
 kind:scope.kind = .function
 cell:∀ y ∈ scope.names,y.2 ≠ .cell
 free:∀ y ∈ scope.names,y.2 = .free -> X.env.kindOf y.1 = some .cell \/ X.env.kindOf y.1 = some .free
 names:∀ y ∈ scope.names,y.2 = .local -> scope.names.lookup y.1 = some .local
 len:N'.length = X.N.length + own
 vis:Zqt X.N N' scope = true
theorem ZrC {P:Cb} {J:It} {it:Addr} {s:Ye} {F:Ye -> Prop} (T:Turn P.Y.prog P.Y.w P.Y.K tg J P.fp it P.tn) (hc:P.Y.calm = true) (hfp:∀ {H':Hp},(∀ b ∈ P.fp,H' b = none) -> ∀ b ∈ P.fp,Zgi P.Y [] H' b)
  (hb:CG P.Y tg P.g /\ CTs P.Y ifs P.ts /\ C3 P.Y elt P.f) (ok:Zjb P.Y.K P.H2 P.ι2 P.itd J) {n:Nat} (z:CbJ P n s)
  (fin:∀ σ H s',Inv P.Y [] σ H s' -> P.Q (.ref P.acc) H -> F s'):wpAny (model P.Y.prog P.Y.w) P.Y.A (Yhv (.ref it)) (cbN P tg elt ifs it n F) P.Y.xe s:=by
 obtain ⟨k,σ5,H5,ι5,M5,env5,I5,st5,fr5,hn,hk,x5,S5,E5,hι,h5⟩:=z;by_cases hlt:k < P.itd.items.length
 ·rw [Ybm hlt] at h5
  exact hn ▸ ZuQ T hc hfp hb.1 hb.2.1 hb.2.2 hlt I5 st5 fr5 x5 S5 E5 hι ok h5 _
 ·rw [Ym hk (Yaa hlt)] at st5 h5
  rw [Yft] at h5;exact ZrP T hc hfp I5 st5 fr5 x5 S5 hι ok h5 fun s6 I6 q=>fin σ5 H5 s6 I6 q
theorem Zmx {pins:List (Addr × Obj)} {σ:St} {s3:Ye} {H2 H3:Hp} {ι2 ι3:List Addr} {M3:Store} {nM:Nat} {D:Addr} {env:ZaD} {it:Addr} {fp:List Addr} {tn:Nat -> Heap -> Prop} {J:It} {itd:It3} {Q:VK} {E:Value -> Ye -> Prop} (O:ZhE X scope N' own) (hc:X.calm = true)
  (hb:∀ C cl s H ex,CG (ZcI X scope N' C cl s H ex) tg g /\ CTs (ZcI X scope N' C cl s H ex) ifs ts /\ C3 (ZcI X scope N' C cl s H ex) elt f)
  (T:Turn X.prog X.w X.K tg J fp it tn) (st3:tn 0 s3.heap) (hlt3:∀ b ∈ fp,b < s3.heap.objs.size) (I3:Inv X pins σ H3 s3) (hfp3:∀ b ∈ fp,Zgi X pins H3 b) (x3:Ext X.K H2 ι2 H3 ι3) (S3:ZaJ X.K H3 ι3 M3) (E2:Zb1 X.K H3 ι3 env σ) (ok:Zjb X.K H2 ι2 itd J)
  (h:Zat X.K H3 ι3 Q (ZcL itd g ts f nM itd.items (env ++ Yg own none) M3)) (hι:ι3[nM]? = some D)
  (RR:Value -> Addr -> Result -> Ye -> Prop)
  (fin:∀ (acc C:Addr) (s':Ye) (m:Str -> Option Value) (H':Hp),s'.heap.Ns C m -> Zgi X pins H' C -> Inv X pins σ H' s' -> Q (.ref acc) H' -> RR (.ref acc) C (.ok .next) s'):
  wpAny (model X.prog X.w) X.A (newFunctionEnv scope X.env.globals (Zdv X.env.cells scope.names []) [] X.env.qual none .none (some X.env)) (fun cenv s₄=>
   Ygf (model X.prog X.w) X.A (.compStart (.ListComp elt [⟨tg,iter,ifs,0⟩] scope pos) 0 (.ref it) (.ref D) { cenv with scope:=Yh5 scope X.env }) (RR (.ref D) cenv.locals) s₄) E s3:=by
 refine wpAny_newFunctionEnv O.cell (by intro y hy; cases hy) (fun h4 hns hsb=>?_) O.kind;have keep34:∀ b o,s3.heap.get? b = some o -> h4.get? b = some o:=fun b o e=>hsb.extBut b o (Yy (Yr e)) (Yk _ e);have I4:=Zph (own:=own) (N':=N') (tk:=s3.toks + ([]:List (Str × Value)).length) I3 O.kind O.cell O.free O.len O.vis hfp3 hlt3 hns keep34;have st4:tn 0 h4:=T.keep _ _ _ st3 fun b hb o e=>keep34 b o e;have L:=Zlp (prog:=X.prog) (w:=X.w) (A:=X.A) (R:=RR (.ref D) s3.heap.objs.size) (scope:=scope) (pos:=pos) (iter:=iter) (elt:=elt) (target:=tg) (ifs:=ifs) (env:=compEnvC scope (Zdv X.env.cells scope.names []) s3.heap.objs.size X.env) (CbJ ⟨ZcI X scope N' s3.heap.objs.size (Zdv X.env.cells scope.names []) s3 H3 fp,fp,tn,itd,H2,ι2,Q,g,ts,f,nM,D⟩) (fun n s5 z=>ZrC (P:=⟨ZcI X scope N' s3.heap.objs.size (Zdv X.env.cells scope.names []) s3 H3 fp,fp,tn,itd,H2,ι2,Q,g,ts,f,nM,D⟩) T hc
  (fun hn b hb=>⟨hn b hb,Yy (hlt3 b hb),fun hz=>I4.ok.exfs b hb hz,.inl hb,fun x c hx=>(I4.ok.exf b hb).2 x c hx,fun p hp=>absurd (show p ∈ ([]:List (Addr × Obj)) from hp) (by simp)⟩)
  (hb _ _ _ _ _) ok z
  fun σ' H' s6 I6 q=>I6.loc.elim fun m6 hn6=>fin _ _ s6 m6 H' hn6.1 (I3.fpOk (Yj _) I6.free) (I3.call' (ch:=fp) I6.os I6.base I6.hok I6.bare fun b hb=>⟨(hfp3 b hb).2.2.2.1,(hfp3 b hb).2.1,(hfp3 b hb).2.2.2.2.1,(hfp3 b hb).2.2.2.2.2⟩) q) _
  ⟨0,_,_,_,_,_,I4,st4,fun b hb=>(hfp3 b hb).1,rfl,Yag _,x3,S3,E2.grow own,hι,h⟩
 exact codeAny_compStart_list L (T.self _ 0 _ _ _ st4 L)
theorem ZiZ {pins:List (Addr × Obj)} {σ:St} {s2:Ye} {H2:Hp} {ι2:List Addr} {M2:Store} {env:ZaD} {it:Addr} {fp:List Addr} {tn:Nat -> Heap -> Prop} {J:It} {itd:It3} {Q:VK} {E:Value -> Ye -> Prop} (O:ZhE X scope N' own) (hc:X.calm = true)
  (hb:∀ C cl s H ex,CG (ZcI X scope N' C cl s H ex) tg g /\ CTs (ZcI X scope N' C cl s H ex) ifs ts /\ C3 (ZcI X scope N' C cl s H ex) elt f)
  (I2:Inv X pins σ H2 s2) (T:Turn X.prog X.w X.K tg J fp it tn) (st0:tn 0 s2.heap) (hfp:∀ b ∈ fp,Zgi X pins H2 b) (S2:ZaJ X.K H2 ι2 M2) (E2:Zb1 X.K H2 ι2 env σ) (ok:Zjb X.K H2 ι2 itd J)
  (h:Zat X.K H2 ι2 Q (ZcL itd g ts f M2.length itd.items (env ++ Yg own none) (M2 ++ [.lst []])))
  (RR:Value -> Addr -> Result -> Ye -> Prop)
  (fin:∀ (acc C:Addr) (s':Ye) (m:Str -> Option Value) (H':Hp),s'.heap.Ns C m -> Zgi X pins H' C -> Inv X pins σ H' s' -> Q (.ref acc) H' -> RR (.ref acc) C (.ok .next) s'):
  wpAny (model X.prog X.w) X.A (newList []) (fun acc s₃=>wpAny (model X.prog X.w) X.A (newFunctionEnv scope X.env.globals (Zdv X.env.cells scope.names []) [] X.env.qual none .none (some X.env)) (fun cenv s₄=>
   Ygf (model X.prog X.w) X.A (.compStart (.ListComp elt [⟨tg,iter,ifs,0⟩] scope pos) 0 (.ref it) acc { cenv with scope:=Yh5 scope X.env }) (RR acc cenv.locals) s₄) E s₃) E s2:=by
 refine Yb7 ?_;have hD:H2 s2.heap.objs.size = none:=I2.hok.fresh (Yj _);obtain ⟨x3,S3,r3⟩:=S2.lst hD (Zal.nil (K:=X.K) (H:=H2) (ι:=ι2));have I3:Inv X pins σ (upd H2 s2.heap.objs.size (.lst [])) { s2 with heap:=s2.heap.push { cls:=.type "list",data:=.seq ([]:List Value).toArray } }:=
  I2.laid (t':=s2.toks) (fun b u e=>Yk _ e) (Yj _) ⟨Yag _,[],0,.nil,Y6 _ rfl⟩
 have keep23:∀ b o,s2.heap.get? b = some o -> (s2.heap.push { cls:=.type "list",data:=.seq ([]:List Value).toArray }).get? b = some o:=fun b o e=>Yk _ e;generalize hs3:({ s2 with heap:=s2.heap.push { cls:=.type "list",data:=.seq ([]:List Value).toArray } }:Ye) = s3 at I3 ⊢;have keep23:∀ b o,s2.heap.get? b = some o -> s3.heap.get? b = some o:=by rw [← hs3]; exact keep23
 have lt2:∀ b ∈ fp,b < s2.heap.objs.size:=fun b hb=>(T.obj _ _ st0 b hb).elim fun o e=>Yr e.1;have hlt3:∀ b ∈ fp,b < s3.heap.objs.size:=fun b hb=>(T.obj _ _ st0 b hb).elim fun o e=>Yr (keep23 b o e.1);exact Zmx O hc hb (T:=T) (st3:=T.keep _ _ _ st0 fun b hb o e=>keep23 b o e) (hlt3:=hlt3) (I3:=I3) (hfp3:=fun b hb=>⟨(ZaC (Yy (lt2 b hb))).trans (hfp b hb).1,(hfp b hb).2⟩) (x3:=x3) (S3:=S3) (E2:=E2.mono x3) (ok:=ok) (h:=h.up x3) (hι:=by rw [← S2.len]; simp) RR fin
theorem Zv0 (O:ZhE X scope N' own) (hxe:X.xe = fun _ _=>False) (hc:X.calm = true) (hi:CI X tg iter i)
  (hb:∀ C cl s H ex,CG (ZcI X scope N' C cl s H ex) tg g /\ CTs (ZcI X scope N' C cl s H ex) ifs ts /\ C3 (ZcI X scope N' C cl s H ex) elt f)
  (hs:∀ x,Ycl iter X.env x = pure x:=by intro _; rfl):C3 X (.ListComp elt [⟨tg,iter,ifs,0⟩] scope pos) (eLC i own g ts f):=by
 intro pins s σ H Q I h;obtain ⟨ι,M,env,S,E,h⟩:=h;obtain ⟨itd,M1,e1,h⟩:=Zat.bind h;have hc0:∀ y ∈ scope.names,y.2 = .free -> ∃ c,X.env.cells.lookup y.1 = some c:=fun y hy e=>I.ok.has y.1 (O.free y hy e);rw [eval_ListComp];refine Yfa (use:=none) rfl hs (ZgG hc0) O.kind O.names ?_;refine thn (hi pins s σ H (fun J H'=>∃ ι',Ext X.K H ι H' ι' /\ ZaJ X.K H' ι' M1 /\ Zjb X.K H' ι' itd J) I ⟨ι,M,env,S,E,by rw [e1]; exact fun J H' ι' x S' o=>⟨ι',x,S',o⟩⟩) fun v s1 h1=>thn h1 fun itv s2 h2=>?_;obtain ⟨it,fp,tn,J,H2,rfl,I2,T,st2,f2,ι2,x2,S2,ok⟩:=h2;refine ZiZ (own:=own) (g:=g) (ts:=ts) (f:=f) O hc hb I2 T st2 f2 S2 (E.mono x2) ok (h.up x2) (fun acc C=>compPost (model X.prog X.w) X.A X.xe none (EP X pins σ Q) acc C) ?_;intro acc C s' m H' hn hf I' hq;obtain ⟨f0,f1,f2',f3,f4,f5⟩:=hf;exact ⟨m,hn,fun h' sb=>⟨.ref acc,H',I'.turned (t':=s'.toks) (fun b o hb e=>(sb.2 b hb).trans e) f0 f1 f3 f4 f5,rfl,hq⟩⟩
theorem ZeN (j:Nat) {x:Str} {pos' spos:Pos} (O:ZhE X scope N' own) (hxe:X.xe = fun _ _=>False) (hc:X.calm = true) (hN:X.N.Nodup) (hi:CI X tg iter i)
  (hb:∀ C cl s H ex,CG (ZcI X scope N' C cl s H ex) tg g /\ CTs (ZcI X scope N' C cl s H ex) ifs ts /\ C3 (ZcI X scope N' C cl s H ex) elt f)
  (hj:X.N[j]? = some x:=by rfl) (hx:Loc X.env.scope x:=by first | exact Or.inl rfl | exact Or.inr rfl)
  (hf:X.fn x = true \/ X.env.scope.names.lookup x = some .local:=by first | exact .inl rfl | exact .inr rfl)
  (hsw:Yei (.ListComp elt [⟨tg,iter,ifs,0⟩] scope pos) (some (.Name x pos')) spos.line X.env = pure true:=by rfl)
  (hs:∀ x,Ycl iter X.env x = pure x:=by intro _; rfl):CS X (.Assign [.Name x pos'] (.ListComp elt [⟨tg,iter,ifs,0⟩] scope pos) spos) (Zaj j (eLC i own g ts f)):=by
 intro pins s σ H D I h;obtain ⟨ι,M,env,S,E,h⟩:=h;have h0:Zat X.K H ι (fun v H'=>D.nx (σ.set j (some v)) H') (eLC i own g ts f env M):=by
  unfold Zaj at h;cases q:eLC i own g ts f env M with
  | ok d M1=>rw [q] at h; exact fun v H1 ι1 x1 S1 r1=>h _ H1 ι1 x1 S1 ((E.mono x1).set j r1)
  | exc _ _=>rw [q] at h; exact h.elim
  | bad=>rw [q] at h; exact h.elim
 obtain ⟨itd,M1,e1,h1⟩:=Zat.bind h0;have hc0:∀ y ∈ scope.names,y.2 = .free -> ∃ c,X.env.cells.lookup y.1 = some c:=fun y hy e=>I.ok.has y.1 (O.free y hy e);rw [exec_Assign_Name_used _ _ _ _ hsw];refine Yd (Yfd (Yd ?_));show wpAny _ X.A (do let _ ← comprehension (.ListComp elt [⟨tg,iter,ifs,0⟩] scope pos) scope X.env _ (newList []) false (eval iter X.env) (some (Ydb (.Name x pos') X.env))) _ _ s;refine Yd (Ybr (Yfa (use:=some (Ydb (.Name x pos') X.env)) (Q:=fun _ s'=>SP X pins D .next s') rfl hs (ZgG hc0) O.kind O.names ?_) (fun _ s' hq=>Ys (Ys hq)) fun _ _ e=>e);refine thn (hi pins s σ H (fun J H'=>∃ ι',Ext X.K H ι H' ι' /\ ZaJ X.K H' ι' M1 /\ Zjb X.K H' ι' itd J) I ⟨ι,M,env,S,E,by rw [e1]; exact fun J H' ι' x S' o=>⟨ι',x,S',o⟩⟩) fun v s1 h1'=>thn h1' fun itv s2 h2=>?_;obtain ⟨it,fp,tn,J,H2,rfl,I2,T,st2,f2,ι2,x2,S2,ok⟩:=h2;refine ZiZ (own:=own) (g:=g) (ts:=ts) (f:=f) O hc hb I2 T st2 f2 S2 (E.mono x2) ok (h1.up x2) (fun acc C=>compPost (model X.prog X.w) X.A X.xe (some (Ydb (.Name x pos') X.env)) (fun _ s'=>SP X pins D .next s') acc C) ?_;intro acc C s' m H' hn hfC I' hq;obtain ⟨f0,f1,f2',f3,f4,f5⟩:=hfC;show wpAny _ X.A (Ydb (.Name x pos') X.env (.ref acc)) _ _ s';refine wpAny_assign_Name (Zkh I' hN hj hx (show RelV (.ref acc) (.ref acc) from rfl) (fun s'' I'' ⟨a,sb,ha⟩=>?_) hf);have hCa:C ≠ a:=by
  rcases ha with rfl | ha
  ·exact f1
  ·exact Yat (f4 x a ha)
 exact ⟨m,hn.sameBut sb hCa,fun h' sb'=>⟨_,H',I''.turned (t':=s''.toks) (fun b o hb e=>(sb'.2 b hb).trans e) f0 f1 f3 f4 f5,hq⟩⟩
end
theorem Zcy {k:Nat} {A:Yas} (r:Zel k A):A.units + 80 < cLine:=by have:=r.un; exact lC 1 0x2502b0c12c82b110d0cc11 T1 this
noncomputable def Its (x:Str):It:=⟨fun i _=>i < x.cps.size,fun i H y H'=>H' = H /\ ∃ c,x.cps[i]? = some c /\ y = .str ⟨#[c]⟩,fun i _=>i = x.cps.size⟩
theorem Zpk {P:Yai} {w:World} {K:Ya} {tg:Expr} {it:Addr} {x:Str} {t:Tok} {ty:String} (W:∀ A':Yas,A'.handled = none -> Walks P w A' it [it] [it] x.cps.size (SignAt x) (fun i h=>h.IsStrIter it ty x t i))
  (hs:∀ (A:Yas) (i:Nat) (s:Ye) (Q:Value -> Ye -> Prop) (E:Value -> Ye -> Prop),s.heap.IsStrIter it ty x t i -> Q (.ref it) s -> wpAny (model P w) A (pyIter (.ref it)) Q E s)
  (hty:["enumerate","zip","dict_itemiterator","dict_reverseitemiterator","odict_iterator","itertools.zip_longest","itertools.pairwise"].contains ty = false):Turn P w K tg (Its x) [it] it (fun i h=>h.IsStrIter it ty x t i) where
 mem:=by simp
 obj:=fun i h st b hb=>by
  have e:b = it:=by simpa using hb
  subst e;obtain ⟨o,e,c,d⟩:=st;exact ⟨o,e,fun v z=>by rw [d] at z; cases z⟩
 keep:=fun i h h' st k=>let ⟨o,e,r⟩:=st; ⟨o,k it (by simp) o e,r⟩
 item:=by
  intro X hP hw hK hc i pins s σ H E I hf st hg;subst hP hw hK;obtain ⟨f0,f1,f2,f3,f4,f5⟩:=hf it (by simp);refine (W X.A (I.ok.hd hc)).item i s _ _ hg st fun v h' tk hv st' kk=>?_;obtain ⟨c,u,hx,rfl⟩:=hv;have I1:Inv X pins σ H { s with heap:=h',toks:=tk }:=I.turned (fun b o hb e=>kk b o (by simpa using hb) e) f0 f1 f3 f4 f5;obtain ⟨o,e,cc,d⟩:=id st';exact ⟨_,rfl,ZlC (s:={ s with heap:=h',toks:=tk }) e cc d hty ⟨.str ⟨#[c]⟩,H,I1,⟨u,rfl⟩,⟨rfl,c,hx,rfl⟩,st',fun b hb=>(hf b hb).1⟩⟩
 done:=by
  intro X hP hw hK hc i pins s σ H E I hf st hg;subst hP hw hK;obtain ⟨f0,f1,f2,f3,f4,f5⟩:=hf it (by simp);have e:i = x.cps.size:=hg;subst e;exact (W X.A (I.ok.hd hc)).done s _ _ st fun h' tk kk=>⟨rfl,I.turned (fun b o hb e=>kk b o (by simpa using hb) e) f0 f1 f3 f4 f5⟩
 self:=hs
section
variable {X:Cx} {tg e o:Expr} {es:List Expr} {pos p apos cpos:Pos} {f:E3} {gl:EL3}
theorem Ztz (h:C3 X e f):PI X tg e (fun σ H R=>tOf X.K f σ H fun x H1=>∃ z:Str,x = .str z /\ z.length <= SZ /\ ∀ J,(∀ ι,Zjb X.K H1 ι ⟨z.cps.toList.map fun c=>.str [c],none⟩ J) -> R J H1):=by
 intro pins s σ H R I hw;refine thn (h pins s σ H _ I hw) fun v s1 zz1=>?_;obtain ⟨x,H1,I1,r1,z,ex,hz,q⟩:=zz1;subst ex;obtain ⟨t,rfl⟩:=r1;have key:∀ (ty:String) (o:Obj),(∀ A':Yas,A'.handled = none -> Walks X.prog X.w A' s1.heap.objs.size [s1.heap.objs.size] [s1.heap.objs.size] z.cps.size (SignAt z) (fun i h=>h.IsStrIter s1.heap.objs.size ty z t i)) ->
   (∀ (A:Yas) (i:Nat) (s:Ye) (Q:Value -> Ye -> Prop) (E:Value -> Ye -> Prop),s.heap.IsStrIter s1.heap.objs.size ty z t i -> Q (.ref s1.heap.objs.size) s -> wpAny (model X.prog X.w) A (pyIter (.ref s1.heap.objs.size)) Q E s) ->
   ["enumerate","zip","dict_itemiterator","dict_reverseitemiterator","odict_iterator","itertools.zip_longest","itertools.pairwise"].contains ty = false -> (s1.heap.push o).IsStrIter s1.heap.objs.size ty z t 0 ->
   PIE X pins σ tg R (.ref s1.heap.objs.size) { s1 with heap:=s1.heap.push o }:=by
  intro ty o W hs hty st;refine ⟨s1.heap.objs.size,[s1.heap.objs.size],_,_,H1,rfl,I1.kept (t':=s1.toks) fun b o e=>Yk _ e,Zpk W hs hty,st,fun b hb=>?_,q _ fun ι=>?_⟩
  ·have e:b = s1.heap.objs.size:=by simpa using hb
   subst e;exact I1.fpOk (Yj _) (I1.hok.fresh (Yj _))
  ·intro i H2 ι2 M2 x S _
   refine ⟨fun d hd=>?_,fun hl=>?_⟩
   ·rw [Y1] at hd
    cases hq:z.cps.toList[i]? with
    | none=>rw [hq] at hd; cases hd
    | some c=>
     rw [hq] at hd;have hd':D.str [c] = d:=by simpa using hd
     subst hd';have hi:i < z.cps.size:=by
      have:=(Yc.mp hq).1;simpa using this
     refine ⟨hi,fun y H3 hy=>⟨hy.1,?_⟩⟩;obtain ⟨_,c',hc',rfl⟩:=hy;have:c' = c:=by
      rw [← Ygq,hq] at hc';exact (Yq hc').symm
     subst this;exact Rep.str
   ·show i = z.cps.size
    rw [hl];simp
 cases ha:z.cps.all (· < 128)
 ·exact wpAny_pyIter_wide ha (key "str_iterator" _ (fun A' hA=>Walks.strWide hA _ z t) (fun _ _ _ _ _ st h=>wpAny_pyIter_striter_wide st h) (by decide) ⟨_,Y6 _ rfl,rfl,rfl⟩)
 ·exact wpAny_pyIter_ascii ha (key "str_ascii_iterator" _ (fun A' hA=>Walks.strAscii hA _ z t) (fun _ _ _ _ _ st h=>wpAny_pyIter_striter_ascii st h) (by decide) ⟨_,Y6 _ rfl,rfl,rfl⟩)
theorem Ztg (h:C3 X e f):CI X tg e (Zih f):=ZtF h (Ztz h)
theorem ZsB {K:Ya} {T:String} {ty:D -> Store -> Bool} {m:D -> List D -> Store -> R3 D} (hty:∀ H ι M a x,ZaJ K H ι M -> Rep K H ι a x -> ty a M = true -> tyV K T x H) (σ:St) (H:Hp) (Q:VK) (h:tOf K (ZeQ ty m f gl) σ H Q):tBM K T (rM K m) (tOf K f) (tAf K gl) σ H Q:=by
 obtain ⟨ι,M,env,S,E,h⟩:=h;obtain ⟨a,M1,e1,h⟩:=Zat.bind h;refine ⟨ι,M,env,S,E,?_⟩;rw [e1];intro v H1 ι1 x1 S1 r1;by_cases ht:ty a M1 = true
 ·rw [if_pos ht] at h
  obtain ⟨ds,M2,e2,h⟩:=Zat.bind h;refine ⟨hty _ _ _ _ _ S1 r1 ht,ι1,M1,env,S1,E.mono x1,?_⟩;rw [e2];intro vs H2 ι2 x2 S2 r2;exact ⟨ι2,M2,a,ds,S2,r1.mono x2,r2,(h.up x1).up x2⟩
 ·rw [if_neg ht] at h; exact h.elim
theorem Zsj {K:Ya} (H:Hp) (ι:List Addr) (M:Store) (a:D) (x:V) (S:ZaJ K H ι M) (r:Rep K H ι a x) (h:tyL a M = true):tyV K "list" x H:=by
 cases a with
 | ref n=>
  rw [Zsp] at h;cases hn:M[n]? with
  | none=>rw [hn] at h; exact ft h
  | some o=>
   cases o with
   | dct _=>rw [hn] at h; exact ft h
   | fdct _=>rw [hn] at h; exact ft h
   | ins _ _=>rw [hn] at h; exact ft h
   | lst xs=>
    obtain ⟨p,hp,rfl⟩:=r.ref_inv;obtain ⟨vs,e,_⟩:=S.obj n _ p hn hp;exact .inl ⟨rfl,vs,SqL.of e⟩
 | _=>exact ft h
theorem _root_.L2.MtR.imp {id:String} {r r':V -> List V -> Hp -> VK -> Prop} (h:MtR X id r) (i:∀ x xs H Q,r' x xs H Q -> r x xs H Q):MtR X id r':=fun pins s σ H x xs v us Q I rx rs q=>h pins s σ H x xs v us Q I rx rs (i x xs H Q q)
theorem Zqg:MtR X "list.append" (rM X.K Zb3):=MtR.imp (r:=ZnR) Zka fun x xs H Q zz1=>by
 obtain ⟨ι,M,a,ds,S,ra,rd,h⟩:=zz1;cases a with
 | ref n=>
  cases ds with
  | nil=>exact h.elim
  | cons d ds=>
   cases ds with
   | cons _ _=>exact h.elim
   | nil=>
    simp only [Znr] at h;cases hn:M[n]? with
    | none=>simp only [hn] at h; exact h.elim
    | some o=>
     cases o with
     | dct _=>simp only [hn] at h; exact h.elim
     | fdct _=>simp only [hn] at h; exact h.elim
     | ins _ _=>simp only [hn] at h; exact h.elim
     | lst z=>
      simp only [hn] at h;split at h
      ·rename_i hz
       obtain ⟨p,hp,rfl⟩:=ra.ref_inv;obtain ⟨v,ws,rfl,r1,r2⟩:=rd.cons_inv;have:=r2.nil_inv;subst this;obtain ⟨vs,e,rv⟩:=S.obj n _ p hn hp;obtain ⟨x2,S2⟩:=S.setl (.inr (.inl ⟨_,e⟩)) hp (rv.append (Zal.cons r1 Zal.nil));exact ⟨p,vs,v,rfl,rfl,e,by rw [rv.length]; exact Yx hz ZcZ,h _ _ _ x2 S2 Rep.non⟩
      ·exact h.elim
 | _=>exact h.elim
theorem ZeE (ho:C3 X o f) (ha:CA X (e :: es) gl)
  (hbase:Yfg o "append" X.env (eval o X.env) = eval o X.env:=by rfl)
  (hfew:((Yd9 cpos (Yad (e :: es) X.env)).all (fun x=>!x.1) && (backToKw cpos (Yhn [] X.env)).all (fun x=>x.1.isSome)
   && decide ((e :: es).length + ([]:List Keyword).length + (if ([]:List Keyword).isEmpty then 0 else 1) < 30)) = true:=by rfl)
  (hline:(apos.endLine == cpos.line) = true:=by rfl) (hs:Yad (e :: es) X.env = (false,eval e X.env) :: Yad es X.env:=by rfl) (hplain:(Yd9 cpos (Yad es X.env)).any (·.1) = false:=by rfl):
  C3 X (.Call (.Attribute o "append" apos) (e :: es) [] cpos) (ZeQ tyL Zb3 f gl):=
 (Zu5 PySem.F.plainAttrs_list PySem.F.slot_list_append PySem.F.type_list_append Zqg ho ha hbase hfew hline hs hplain).imp (ZsB Zsj)
theorem ZuE:OpR X (Ya0 .In) (r2 X.K fun a b M=>match a,b with | .str [c],.str y=>.ok (.bl (decide (c ∈ y))) M | _,_=>.bad):=OpR.imp Zol fun x y H Q zz1=>by
 obtain ⟨ι,M,a,b,S,ra,rb,h⟩:=zz1;cases a with
 | str z=>
  cases z with
  | nil=>cases b <;> exact h.elim
  | cons c z=>
   cases z with
   | cons _ _=>cases b <;> exact h.elim
   | nil=>
    cases b with
    | str y=>
     refine ⟨_,_,ra.str_inv,rb.str_inv,?_⟩;have e:=StrLaws.found_one (⟨y.toArray⟩:Str) c;rw [show (⟨[c].toArray⟩:Str) = ⟨#[c]⟩ from rfl,e];exact Zat.ok h S Rep.bl
    | _=>exact h.elim
 | _=>cases b <;> exact h.elim
end
section
variable {X:Cx}
theorem Zgx (hu:X.A.units + 80 < cLine):OpR X (Ya0 .NotEq) (r2 X.K ZbC):=by
 intro pins s σ H x y v u Q I rx ry h;obtain ⟨ι,M,a,b,S,ra,rb,h⟩:=h;unfold ZbC at h;cases q:eqD a b M with
 | none=>rw [q] at h; exact h.elim
 | some k=>
  rw [q] at h;exact (Zoc hu I S ra rb rx ry q).2 X.prog X.w X.xe _ ⟨.bl (!k),H,I,rfl,Zat.ok h S Rep.bl⟩
theorem Zl5 {K:Ya} {H:Hp} {ι:List Addr} {d:D} {v:V} (r:Rep K H ι d v) (h:ZcN d = true):ZgJ v = true:=by
 cases d with
 | non=>rw [r.non_inv]; rfl
 | bl b=>rw [r.bl_inv]; rfl
 | int i=>rw [r.int_inv]; rfl
 | str x=>rw [r.str_inv]; rfl
 | _=>exact ft h
theorem Zrm (x y:List Nat):((⟨x.toArray⟩:Str) == ⟨y.toArray⟩) = (x == y):=by
 rw [Yej];simp
theorem ZrS {K:Ya} {H:Hp} {ι:List Addr} {d e:D} {v w:V} (r:Rep K H ι d v) (q:Rep K H ι e w) (h:ZcN d = true) (h':ZcN e = true):eqV v w = deq d e:=by
 cases d with
 | non=>rw [r.non_inv]; cases e with
  | non=>rw [q.non_inv]; rfl
  | bl _=>rw [q.bl_inv]; rfl
  | int _=>rw [q.int_inv]; rfl
  | str _=>rw [q.str_inv]; rfl
  | _=>exact ft h'
 | bl _=>rw [r.bl_inv]; cases e with
  | non=>rw [q.non_inv]; rfl
  | bl _=>rw [q.bl_inv]; rfl
  | int _=>rw [q.int_inv]; rfl
  | str _=>rw [q.str_inv]; rfl
  | _=>exact ft h'
 | int _=>rw [r.int_inv]; cases e with
  | non=>rw [q.non_inv]; rfl
  | bl _=>rw [q.bl_inv]; rfl
  | int _=>rw [q.int_inv]; rfl
  | str _=>rw [q.str_inv]; rfl
  | _=>exact ft h'
 | str _=>rw [r.str_inv]; cases e with
  | non=>rw [q.non_inv]; rfl
  | bl _=>rw [q.bl_inv]; rfl
  | int _=>rw [q.int_inv]; rfl
  | str _=>rw [q.str_inv]; exact Zrm _ _
  | _=>exact ft h'
 | _=>exact ft h
theorem ZnZ {K:Ya} {H:Hp} {ι:List Addr} {d:D} {v:V} (r:Rep K H ι d v) (h:ZcN d = true):∀ {ds:List D} {vs:List V},Zal K H ι ds vs -> ds.all ZcN = true -> vs.all ZgJ = true /\ inV v vs = ds.any fun y=>deq y d
 | [],_,q,_=>by rw [q.nil_inv]; exact ⟨rfl,rfl⟩
 | e :: ds,_,q,hd=>by
  obtain ⟨w,ws,rfl,r1,r2⟩:=q.cons_inv;rw [Yb2,Yv] at hd;obtain ⟨h1,h2⟩:=ZnZ r h r2 hd.2;refine ⟨by rw [Yb2,Zl5 r1 hd.1,h1]; rfl,?_⟩;unfold inV at h2 ⊢;rw [Yba,Yba,h2,ZrS r1 r hd.1 h]
inductive InK (a b:D) (k:Bool):Prop
 | tup (ys:List D):b = .tup ys -> (ys.any fun y=>deq y a) = k -> ZcN a = true -> ys.all ZcN = true -> InK a b k
 | str (c:Nat) (y:List Nat):a = .str [c] -> b = .str y -> decide (c ∈ y) = k -> InK a b k
theorem inK {a b:D} {k:Bool} (h:inD a b = some k):InK a b k:=by
 cases b with
 | tup ys=>exact have w:=Zno h; .tup ys rfl w.1 w.2.1 w.2.2
 | str y=>
  cases a with
  | str z=>cases z with
   | nil=>exact nsm h
   | cons c z=>cases z with
    | nil=>exact .str c y rfl rfl (Yq h)
    | cons _ _=>exact nsm h
  | _=>exact nsm h
 | _=>exact nsm h
theorem ZsQ {K:Ya} {H:Hp} {ι:List Addr} {Q:VK} {a:D} {ys:List D} {x y:V} (n:Bool) (ra:Rep K H ι a x) (rb:Rep K H ι (.tup ys) y) (fa:ZcN a = true) (fs:ys.all ZcN = true) (q:Q (.bl (if n then !(ys.any fun y=>deq y a) else ys.any fun y=>deq y a)) H):rIn K n x y H Q:=by
 obtain ⟨p,vs,e,s,r⟩:=rb.tup_inv;obtain ⟨h1,h2⟩:=ZnZ ra fa r fs;exact ⟨p,vs,e,.inr s,Zl5 ra fa,h1,by rw [h2]; exact q⟩
theorem Zrv (hu:X.A.units + 80 < cLine):OpR X (Ya0 .In) (r2 X.K ZhQ):=OpR.imp (OpR.or ZuE ZoU) fun x y H Q zz1=>by
 obtain ⟨ι,M,a,b,S,ra,rb,h⟩:=zz1;unfold ZhQ at h;cases q:inD a b with
 | none=>rw [q] at h; exact h.elim
 | some k=>
  rw [q] at h;rcases inK q with ⟨ys,eb,ek,fa,fs⟩ | ⟨c,z,ea,eb,ek⟩
  ·rw [eb] at rb
   rw [← ek] at h;exact .inr (ZsQ false ra rb fa fs (Zat.ok h S Rep.bl))
  ·rw [ea] at ra
   rw [eb] at rb;rw [← ek] at h;exact .inl ⟨ι,M,_,_,S,ra,rb,h⟩
theorem Zqv (x:List Nat) (n:Nat) (a:List Nat):(Yg n x.toArray).foldl (· ++ ·) a.toArray = (a ++ (Yg n x).flatten).toArray:=by
 induction n generalizing a with
 | zero=>simp
 | succ n ih=>
  rw [Ya4,Ygk,Ya4,Yb8];have:=ih (a ++ x);simp only [List.append_toArray] at this ⊢;rw [this];simp
theorem ZtP (x:List Nat) (k:Int):Txt.mul (⟨x.toArray⟩:Str) k = ⟨(Yg k.toNat x).flatten.toArray⟩:=by
 unfold Txt.mul;split
 ·rename_i h
  have:k.toNat = 0:=Ym (Ycr (Int.toNat_of_nonpos (iN [] [_] 1 235446417 T1 h))) (Yag _);rw [this]; rfl
 ·split
  ·rename_i h1 h2
   simp only [Yca,beq_iff_eq,Ycx,Yi] at h2;rcases h2 with h2 | h2
   ·subst h2; simp
   ·have:x = []:=Ybz h2
    subst this;simp
  ·have:=Zqv x k.toNat []
   rw [Ycp] at this;exact congrArg Str.mk this
theorem Zal.repl {K:Ya} {H:Hp} {ι:List Addr} {ds:List D} {vs:List V} (r:Zal K H ι ds vs):∀ k:Nat,Zal K H ι (Yg k ds).flatten (Yg k vs).flatten
 | 0=>Zal.nil
 | k + 1=>by rw [Ya4,Ya4,Yb8,Yb8]; exact r.append (Zal.repl r k)
theorem ZfN:OpR X (Ybs .Mult) (r2 X.K ZcQ):=by
 have hs:OpR X (Ybs .Mult) (fun x y H Q=>∃ (z:List Nat) (k:Int),x = .str ⟨z.toArray⟩ /\ y = .int k /\ z.length * k.toNat <= 1000000 /\ k < 1000000 /\ -1000000 < k /\ Q (.str ⟨(Yg k.toNat z).flatten.toArray⟩) H):=by
  intro pins s σ H x y v u Q I rx ry h;obtain ⟨z,k,rfl,rfl,h1,h2,h3,q⟩:=h;obtain ⟨t,rfl⟩:=rx;obtain ⟨t',rfl⟩:=ry;refine SB.mul ⟨?_,fun h4 h5=>?_,fun h4 h5=>?_⟩ fun t'' tk=>?_
  ·simp; omega
  ·simp only [Ycx,Yi]
   simp at h4 h5;have hk:2 <= k:=by
    simp only [Ycx,Yi] at h5;omega
   have e:(k.toNat:Int) = k:=Yb9 (Ycc (Y5 (iN [] [_] 1 3892452225 T1 hk))) ((Ya8 _));have hm:(z.length:Int) * k <= 1000000:=by
    have h1':((z.length * k.toNat:Nat):Int) <= 1000000:=Yd7.mpr h1;rw [Yf9,e] at h1';exact h1'
   have hd:(z.length:Int) <= 9223372036854775807 / k:=Int.le_ediv_of_mul_le (iN [] [_] 1 3909229441 T1 hk) (by omega);show ¬ ((z.length:Int) > (2 ^ 63 - 1) / k);have e3:((2:Int) ^ 63 - 1) = 9223372036854775807:=by decide
   rw [e3];exact fun z=>iN [_] [_] 2 6599352549521 T1 z hd
  ·unfold Builtin.Str.tooLong
   simp only [Ycx,Yi,decide_eq_false_iff_not];have hsz:(1000000:Nat) <= Y8:=ZcZ;exact fun z=>lB 3 0x6f42405b1010f42405b011011 T1 z hsz h1
  ·rw [ZtP]
   exact ⟨.str _,H,I.tok _,⟨_,rfl⟩,q⟩
 refine OpR.imp (OpR.or Zso (OpR.or hs ZsI)) fun x y H Q zz1=>?_;obtain ⟨ι,M,a,b,S,ra,rb,h⟩:=zz1;cases a with
 | int i=>cases b with
  | int j=>
   obtain ⟨hm,h⟩:=ZhF h;refine .inl ⟨i,j,ra.int_inv,rb.int_inv,?_,Zat.ok h S Rep.int⟩;simp only [ZbS,Yca,Yv,decide_eq_true_eq] at hm;exact hm
  | _=>exact h.elim
 | str z=>cases b with
  | int k=>
   obtain ⟨hz,h⟩:=ZhF h;exact .inr (.inl ⟨z,k,ra.str_inv,rb.int_inv,hz.1,hz.2.1,hz.2.2,Zat.ok h S Rep.str⟩)
  | _=>exact h.elim
 | ref n=>cases b with
  | int k=>
   have h:Zat X.K H ι Q (onL M[n]? fun x=>@ite _ (x.length * k.toNat <= SZ /\ k < 1000000 /\ -1000000 < k) (Yn _) (alloc (.lst (Yg k.toNat x).flatten) M) .bad):=h;obtain ⟨z,hn,h⟩:=ZqX h;obtain ⟨hz,h⟩:=ZhF h;obtain ⟨p,hp,e'⟩:=ra.ref_inv;obtain ⟨vs,e,r⟩:=S.obj n _ p hn hp;refine .inr (.inr ⟨p,k,vs,e',rb.int_inv,e,?_,?_,by rw [r.length]; exact Y2 hz.1 ZcZ,fun q hq=>?_⟩)
   ·exact Int.le_trans (by decide) (Yer hz.2.2)
   ·exact Int.lt_of_lt_of_le hz.2.1 (by decide)
   obtain ⟨x2,S2,r2⟩:=S.lst hq (Zal.repl r k.toNat);exact h _ _ _ x2 S2 r2
  | _=>exact h.elim
 | _=>cases b <;> exact h.elim
theorem Zn1 (n d:Nat) (hd:d <= n) (o:Option Int):(match o with | none=>(d:Int) | some i=>max 0 (min (if i < 0 then i + (n:Int) else i) (n:Int))) = ((sIx n d o:Nat):Int):=by
 cases o with
 | none=>rfl
 | some v=>
  show max 0 (min (if v < 0 then v + (n:Int) else v) (n:Int)) = (((if v < 0 then (v + (n:Int)).toNat else min v.toNat n):Nat):Int);by_cases h:v < 0
  ·rw [if_pos h,if_pos h]; exact clC v n h
  ·rw [if_neg h,if_neg h]; exact clD v n h
theorem Zh6 (lo hi:Option Int) (n:Nat):Ycb lo hi 1 n = (Yt (sIx n n hi - sIx n 0 lo)).map (fun k=>sIx n 0 lo + k):=by
 have e1:=Zn1 n 0 (Yag _) lo;have e2:=Zn1 n n (Yj _) hi;have key:Ycb lo hi 1 n = sliceRange ((sIx n 0 lo:Nat):Int) ((sIx n n hi:Nat):Int) 1:=by
  rw [← e1,← e2];simp only [Ycb,show ((1:Int) > 0) = True from by simp,if_true];cases lo <;> cases hi <;> rfl
 rw [key];generalize sIx n 0 lo = a;generalize sIx n n hi = b;simp only [sliceRange,show ((1:Int) > 0) = True from by simp,if_true];by_cases hlt:(a:Int) < b
 ·have e3:(((b:Int) - a + 1 - 1) / 1).toNat = b - a:=by first | exact Ym (iN [_,_,_,_] [_] 3 0x230038a112c001aa1808fcf001d81 T1 (Int.mul_ediv_self_le (by decide)) (sbA _ _) (Y5 (iN [_,_] [_] 2 0xe8a001dcaa0818fcf91180891 T1 hlt (Yfb (by decide))))) (iN [_,_,_,_] [_] 3 0x230013c2128081a001dcaa1808fcf91 T1 (Yfb (by decide)) (Ya8 _) (Yb (iN [_,_] [] 1 4296542353 T1 hlt))) | (simp; done) | (simp; omega)
  simp only [hlt,if_true,e3];refine Ydh fun k _=>?_;exact Ym (iN [_,_,_] [] 1 0x21c002801d18c08a1 T1 (Y5 (iN [_,_] [] 0 103109659880 T1))) (iN [_,_,_] [] 1 0x210c0281801d08c81 T1 (Ya8 _))
 ·have:b - a = 0:=Ym (Ycr (Ygr (iN [_,_] [] 1 270010577 T1 hlt))) (Yag _)
  simp [hlt,this]
theorem ZkR (n d:Nat) (hd:d <= n) (o:Option Int):sIx n d o <= n:=by
 cases o with
 | none=>exact hd
 | some v=>simp only [sIx]; split <;> omega
theorem Zm0 (z:List Nat) (lo hi:Option Int) (l u:Option (Int × Tok)) (hl:l.map (·.1) = lo) (hu:u.map (·.1) = hi):
  (if ((1:Int) == 1 && (Yd2 ⟨z.toArray⟩ l u none).length == (⟨z.toArray⟩:Str).length) = true then (⟨z.toArray⟩:Str) else ⟨((Yd2 ⟨z.toArray⟩ l u none).filterMap ((⟨z.toArray⟩:Str).cps[·]?)).toArray⟩) = ⟨(cutD z lo hi).toArray⟩:=by
 have e0:Yd2 ⟨z.toArray⟩ l u none = (Yt (sIx z.length z.length hi - sIx z.length 0 lo)).map (fun k=>sIx z.length 0 lo + k):=by
  unfold Yd2;rw [hl,hu];simp only [Ycx,Yi];exact Zh6 lo hi z.length
 have hb:=ZkR z.length z.length (Yj _) hi;rw [e0];have pick:((Yt (sIx z.length z.length hi - sIx z.length 0 lo)).map (fun k=>sIx z.length 0 lo + k)).filterMap ((⟨z.toArray⟩:Str).cps[·]?) = cutD z lo hi:=by
  unfold cutD;by_cases hab:sIx z.length 0 lo <= sIx z.length z.length hi
  ·have h:=StrLaws.picks z (sIx z.length z.length hi - sIx z.length 0 lo) (sIx z.length 0 lo) (lD 2 82120338080600065 T1 hb (Yb hab))
   simpa using h
  ·have:sIx z.length z.length hi - sIx z.length 0 lo = 0:=Ym (Ycr (Ygr (lB 1 1052737 T1 hab))) (Yag _)
   rw [this];simp
 rw [pick];split
 ·rename_i hc
  simp only [Yac,Yd3,Ycx,Yi,Yv,beq_iff_eq] at hc;have hc2:=hc.2;have h0:sIx z.length 0 lo = 0 \/ z.length = 0:=by omega
  have:cutD z lo hi = z:=by
   unfold cutD;rcases h0 with h0 | h0
   ·rw [h0,Ye4,Yay (by exact lD 3 0x3102001e3c2011031 T1 hc2 (sbA _ _) (Ya9 _ _))]
   ·have:z = []:=Ybz h0
    subst this;simp
  rw [this]
 ·rfl
theorem Zsm:SlR X (fun x lo hi H Q=>∃ z:List Nat,x = .str ⟨z.toArray⟩ /\ z.length <= SZ /\ Q (.str ⟨(cutD z lo hi).toArray⟩) H):=by
 intro pins s σ H x v vl vu lo hi sl Q I rx hs pl pu h;obtain ⟨z,rfl,hz,q⟩:=h;obtain ⟨t,rfl⟩:=rx;have part:∀ {v:Value} {o:Option Int},IsPart v o -> ∃ p:Option (Int × Tok),v = partValue p /\ p.map (·.1) = o:=by
  intro v o h;cases h with
  | none=>exact ⟨none,rfl,rfl⟩
  | int i t=>exact ⟨some (i,t),rfl,rfl⟩
 obtain ⟨l,rfl,hl⟩:=part pl;obtain ⟨u,rfl,hu⟩:=part pu;refine ⟨"str",_,PySem.F.slot_str_getitem.lookup,typeIs_str _ _ _,?_⟩;refine wpAny_getItem_str_slice (l:=l) (u:=u) (st:=none) hs rfl ?_;unfold sliceMade;refine post_val_or_made (fun _=>?_) fun t' k=>?_
 ·show ((Yd2 ⟨z.toArray⟩ l u none).filterMap ((⟨z.toArray⟩:Str).cps[·]?)).toArray.size <= Y8
  rw [Yi];refine Y2 (List.length_filterMap_le _ _) ?_;show (Ycb (l.map (·.1)) (u.map (·.1)) 1 (⟨z.toArray⟩:Str).length).length <= Y8;rw [Zh6];simp only [Yac,Yd3,Ycx,Yi];have:=ZkR z.length z.length (Yj _) (u.map (·.1));have:=ZcZ;omega
 ·have e:=Zm0 z lo hi l u hl hu
  have e':(if (((none:Option (Int × Tok)).map (·.1)).getD 1 == 1 && (Yd2 ⟨z.toArray⟩ l u none).length == (⟨z.toArray⟩:Str).length) = true then (⟨z.toArray⟩:Str) else ⟨((Yd2 ⟨z.toArray⟩ l u none).filterMap ((⟨z.toArray⟩:Str).cps[·]?)).toArray⟩) = ⟨(cutD z lo hi).toArray⟩:=e;rw [e'];exact ⟨.str _,H,I.tok _,⟨_,rfl⟩,q⟩
theorem ZgS {prog:Yai} {w:World} {A:Yas} {E:Value -> Ye -> Prop} {s:Ye} {t sl:Addr} {items:Array Value} {vl vu:Value} {lo hi:Option Int} {Q:Value -> Ye -> Prop} (ht:IsTup s.heap t items) (hs:s.heap.IsSliceOf sl vl vu .none) (pl:IsPart vl lo) (pu:IsPart vu hi)
  (hw:HT.sIx items.size 0 lo = 0 /\ HT.sIx items.size items.size hi = items.size) (h:Q (.ref t) s):wpAny (model prog w) A (Yff (.ref t) (.ref sl)) Q E s:=by
 obtain ⟨os,hos,hcs,hds⟩:=id hs;have hTs:s.TypeIs (.ref sl) "slice":=⟨os,hos,hcs⟩;unfold Yff
 try with_reducible refine Yaz ?_
 first | refine Yd (Ys ?_) | skip
 refine Yd (wpAny_sequenceKey ht.typeIs (by decide) ?_);refine Yd (Yb1 (name:=Yc3 "__getitem__") ht.typeIs Ybl
  (Ycw Ybl ht.typeIs Yhd ?_ (args_tuple_getitem _ _)))
 show wpAny _ _ (Yep (.ref t) >>= _) _ _ s;refine Yd (tupleItemsOf_ ht ?_);refine Yd (Yex hTs ?_);rw [if_pos (by decide)];refine Yd (HT.sliceApplied_gen hs pl pu ?_);have hyes:(((HT.sIx items.size 0 lo:Nat):Int) == 0 && (1:Int) == 1 && (HT.sIx items.size items.size hi - HT.sIx items.size 0 lo) == items.size) = true:=by
  rw [hw.1,hw.2]; simp
 show wpAny _ _ (if (((HT.sIx items.size 0 lo:Nat):Int) == 0 && (1:Int) == 1 && (HT.sIx items.size items.size hi - HT.sIx items.size 0 lo) == items.size) = true then _ else _) _ _ s;rw [if_pos hyes];unfold Builtin.Tuple.tupleIsExact;refine Yd (Yd (Yex ht.typeIs (Ys ?_)));rw [if_pos (by decide)];exact Yd (Ygx (Ys ⟨_,rfl,Ys h⟩))
theorem ZrI:SlR X (fun x lo hi H Q=>∃ a xs,x = .ref a /\ SqT X.K H a xs /\ (HT.sIx xs.length 0 lo = 0 /\ HT.sIx xs.length xs.length hi = xs.length) /\ Q (.ref a) H):=by
 intro pins s σ H x v vl vu lo hi sl Q I rx hs pl pu h;obtain ⟨a,xs,rfl,hx,hw,q⟩:=h;cases rx;obtain ⟨its,r,ht,hz⟩:=I.tuple hx;have hlen:its.toArray.size = xs.length:=by rw [Yi]; exact r.length.symm
 refine ⟨"tuple",_,PyProof.Rows.slot_tuple_getitem.lookup,ht.typeIs,?_⟩;exact ZgS ht hs pl pu (by rw [hlen]; exact hw) ⟨.ref a,H,I,rfl,q⟩
theorem ZdZ:SlR X (rS X.K):=SlR.imp (SlR.or (SlR.or ZsW ZrI) (SlR.or ZqY Zsm)) fun x lo hi H Q zz1=>by
 obtain ⟨ι,M,a,S,ra,h⟩:=zz1;have ex:∀ n d o,HT.sIx n d o = sIx n d o:=fun n d o=>by cases o <;> rfl
 cases a with
 | tup ds=>
  simp only [Zce,Zcg,Zch,Zcf] at h;obtain ⟨p,vs,rfl,s,r⟩:=ra.tup_inv;by_cases hw:sIx ds.length 0 lo = 0 /\ sIx ds.length ds.length hi = ds.length
  ·refine .inl (.inr ⟨p,vs,rfl,s,by rw [ex,ex,r.length]; exact hw,?_⟩)
   have e:cutD ds lo hi = ds:=by unfold cutD; rw [hw.1,hw.2]; simp
   rw [e] at h;exact Zat.ok h S (Rep.tup s r)
  ·refine .inl (.inl ⟨p,vs,rfl,s,by rw [ex,ex,r.length]; exact hw,fun q hq=>?_⟩)
   obtain ⟨x2,S2,r2⟩:=S.tupl hq (Znv r lo hi);exact h _ _ _ x2 S2 r2
 | scr ds=>
  simp only [Zce,Zcg,Zch,Zcf] at h;obtain ⟨p,vs,rfl,s,r⟩:=ra.scr_inv;refine .inr (.inl ⟨p,vs,rfl,s.sq,fun q hq=>?_⟩);obtain ⟨x2,S2,r2⟩:=S.lst hq (Znv r lo hi);exact h _ _ _ x2 S2 r2
 | str z=>
  simp only [Zce,Zcg,Zch,Zcf] at h;split at h
  ·rename_i hz
   exact .inr (.inr ⟨z,ra.str_inv,hz,Zat.ok h S Rep.str⟩)
  ·exact h.elim
 | ref n=>
  simp only [Zce,Zcg,Zch,Zcf] at h;cases hn:M[n]? with
  | none=>simp only [hn] at h; exact h.elim
  | some o=>
   cases o with
   | dct _=>simp only [hn] at h; exact h.elim
   | fdct _=>simp only [hn] at h; exact h.elim
   | ins _ _=>simp only [hn] at h; exact h.elim
   | lst ds=>
    simp only [hn] at h;obtain ⟨p,hp,rfl⟩:=ra.ref_inv;obtain ⟨vs,e,r⟩:=S.obj n _ p hn hp;refine .inr (.inl ⟨p,vs,rfl,SqL.of e,fun q hq=>?_⟩);obtain ⟨x2,S2,r2⟩:=S.lst hq (Znv r lo hi);exact h _ _ _ x2 S2 r2
 | _=>exact h.elim
theorem ZfC {K:Ya} {H:Hp} {ι:List Addr} {d:D} {xs:List V} (r:Zal K H ι [d] xs):∃ x,xs = [x] /\ Rep K H ι d x:=by
 obtain ⟨v,ws,rfl,r1,r2⟩:=r.cons_inv;have:=r2.nil_inv;subst this;exact ⟨v,rfl,r1⟩
theorem Zbu:ZbZ X (.builtin "len") (rB X.K ZaR):=ZbZ.imp Zqn fun xs H Q zz1=>by
 obtain ⟨ι,M,ds,S,rd,h⟩:=zz1;cases ds with
 | nil=>exact h.elim
 | cons d ds=>
  cases ds with
  | cons _ _=>cases d <;> exact h.elim
  | nil=>
   obtain ⟨x,rfl,r⟩:=ZfC rd;cases d with
   | tup z=>
    obtain ⟨p,vs,rfl,s,r'⟩:=r.tup_inv;exact ⟨_,vs.length,rfl,.inr ⟨vs,s,rfl⟩,by rw [r'.length]; exact Zat.ok h S Rep.int⟩
   | scr z=>
    obtain ⟨p,vs,rfl,s,r'⟩:=r.scr_inv;exact ⟨_,vs.length,rfl,.inl ⟨vs,s.sq,rfl⟩,by rw [r'.length]; exact Zat.ok h S Rep.int⟩
   | str z=>
    simp only [Zgs,Zgp,Zgr,Zea] at h;split at h
    ·rename_i hz
     have:=r.str_inv;subst this;refine ⟨_,z.length,rfl,⟨?_,?_⟩,Zat.ok h S Rep.int⟩
     ·show z.toArray.size <= Y8
      rw [Yi];exact Y2 hz ZcZ
     ·show z.length = z.toArray.size
      rw [Yi]
    ·exact h.elim
   | ref n=>
    cases hn:M[n]? with
    | none=>rw [Zea,hn] at h; exact h.elim
    | some o=>
     cases o with
     | dct _=>rw [Zea,hn] at h; exact h.elim
     | fdct _=>rw [Zea,hn] at h; exact h.elim
     | ins _ _=>rw [Zea,hn] at h; exact h.elim
     | lst z=>
      simp only [Zgs,Zgp,Zgr,Zea,hn] at h;obtain ⟨p,hp,rfl⟩:=r.ref_inv;obtain ⟨vs,e,r'⟩:=S.obj n _ p hn hp;exact ⟨_,vs.length,rfl,.inl ⟨vs,SqL.of e,rfl⟩,by rw [r'.length]; exact Zat.ok h S Rep.int⟩
   | _=>exact h.elim
theorem ZcP:ZbZ X (.type "tuple") (rB X.K ZaZ):=ZbZ.imp ZjH fun xs H Q zz1=>by
 obtain ⟨ι,M,ds,S,rd,h⟩:=zz1;cases ds with
 | nil=>exact h.elim
 | cons d ds=>
  cases ds with
  | cons _ _=>cases d <;> exact h.elim
  | nil=>
   obtain ⟨x,rfl,r⟩:=ZfC rd;cases d with
   | tup z=>
    obtain ⟨p,vs,rfl,s,r'⟩:=r.tup_inv;exact ⟨p,vs,rfl,.inr ⟨s,Zat.ok h S (Rep.tup s r')⟩⟩
   | scr z=>
    obtain ⟨p,vs,rfl,s,r'⟩:=r.scr_inv;refine ⟨p,vs,rfl,.inl ⟨s.sq,fun q hq=>?_⟩⟩;obtain ⟨x2,S2,r2⟩:=S.tupl hq r';exact h _ _ _ x2 S2 r2
   | ref n=>
    cases hn:M[n]? with
    | none=>rw [Zd2,hn] at h; exact h.elim
    | some o=>
     cases o with
     | dct _=>rw [Zd2,hn] at h; exact h.elim
     | fdct _=>rw [Zd2,hn] at h; exact h.elim
     | ins _ _=>rw [Zd2,hn] at h; exact h.elim
     | lst z=>
      simp only [ZhM,ZhG,Zd2,hn] at h;obtain ⟨p,hp,rfl⟩:=r.ref_inv;obtain ⟨vs,e,r'⟩:=S.obj n _ p hn hp;refine ⟨p,vs,rfl,.inl ⟨SqL.of e,fun q hq=>?_⟩⟩;obtain ⟨x2,S2,r2⟩:=S.tupl hq r';exact h _ _ _ x2 S2 r2
   | _=>exact h.elim
theorem Zja:ZbZ X (.type "list") (rB X.K Zgd):=ZbZ.imp Zlk fun xs H Q zz1=>by
 obtain ⟨ι,M,ds,S,rd,h⟩:=zz1;cases ds with
 | nil=>exact h.elim
 | cons d ds=>
  cases ds with
  | cons _ _=>cases d <;> exact h.elim
  | nil=>
   obtain ⟨x,rfl,r⟩:=ZfC rd;cases d with
   | tup z=>
    obtain ⟨p,vs,rfl,s,r'⟩:=r.tup_inv;refine ⟨p,vs,rfl,.inr s,fun q hq=>?_⟩;obtain ⟨x2,S2,r2⟩:=S.lst hq r';exact h _ _ _ x2 S2 r2
   | scr z=>
    obtain ⟨p,vs,rfl,s,r'⟩:=r.scr_inv;refine ⟨p,vs,rfl,.inl s.sq,fun q hq=>?_⟩;obtain ⟨x2,S2,r2⟩:=S.lst hq r';exact h _ _ _ x2 S2 r2
   | ref n=>
    cases hn:M[n]? with
    | none=>rw [ZfZ,hn] at h; exact h.elim
    | some o=>
     cases o with
     | dct _=>rw [ZfZ,hn] at h; exact h.elim
     | fdct _=>rw [ZfZ,hn] at h; exact h.elim
     | ins _ _=>rw [ZfZ,hn] at h; exact h.elim
     | lst z=>
      simp only [Zps,Zpn,ZfZ,hn] at h;obtain ⟨p,hp,rfl⟩:=r.ref_inv;obtain ⟨vs,e,r'⟩:=S.obj n _ p hn hp;refine ⟨p,vs,rfl,.inl (SqL.of e),fun q hq=>?_⟩;obtain ⟨x2,S2,r2⟩:=S.lst hq r';exact h _ _ _ x2 S2 r2
   | _=>exact h.elim
end
theorem ZaW:Yaw "len" = some (.builtin "len"):=by decide +kernel
theorem ZhS:Yaw "sorted" = some (.builtin "sorted"):=by decide +kernel
theorem ZjC:Yaw "isinstance" = some (.builtin "isinstance"):=by decide +kernel
theorem Zqe:Yaw "int" = some (.type "int"):=by decide +kernel
theorem Zha:Yaw "list" = some (.type "list"):=by decide +kernel
theorem Zb5:Yaw "tuple" = some (.type "tuple"):=by decide +kernel
theorem ZrR:Yaw "dict" = some (.type "dict"):=by decide +kernel
section
variable {X:Cx} {a:Expr} {pos p p2:Pos} {f:E3}
noncomputable def tyN:Ty3 -> String
 | .int=>"int" | .bool=>"bool" | .str=>"str" | .list=>"list" | .tuple=>"tuple"
theorem Zg1 (K:Ya) (t:String) (T:Ty3) (ht:t ∈ ["NoneType","bool","int","str","list","tuple","dict"]):
  PySem.W.kitOne K (.type t) (.type (tyN T)) = some (t == tyN T || (t == "bool" && tyN T == "int")):=by
 simp only [Yah,Ydd,or_false] at ht;rcases ht with rfl | rfl | rfl | rfl | rfl | rfl | rfl <;> cases T <;> kernel_rfl
theorem Zu7 (T:Ty3):Yaw (tyN T) = some (.type (tyN T)):=by cases T <;> decide +kernel
noncomputable def Zub (T:Ty3) (o:Option MO):Option Bool:=match o with
 | some (.lst _)=>some (T == .list)
 | some (.dct _)=>some false
 | some (.fdct _)=>none
 | some (.ins _ _)=>none
 | none=>none
theorem Zq0 {pins:List (Addr × Obj)} {σ:St} {H:Hp} {s:Ye} {ι:List Addr} {M:Store} {A:Yas} {E:Value -> Ye -> Prop} {Q:Value -> Ye -> Prop} {T:Ty3} {d:D} {x:V} {u:Value} {b:Bool} (I:Inv X pins σ H s) (S:ZaJ X.K H ι M) (r:Rep X.K H ι d x) (ru:RelV x u)
  (e:Zjz T d M = some b) (h:∀ tk,Q (.bool b) { s with toks:=tk }):wpAny (model X.prog X.w) A (call (.builtin "isinstance") [u,.type (tyN T)]) Q E s:=by
 cases d with
 | non=>
  rw [r.non_inv] at ru;exact ZeL I ru .non ((Zg1 X.K "NoneType" T (by decide)).trans (Ydt (by cases T <;> rfl) e)) h
 | bl c=>
  rw [r.bl_inv] at ru;exact ZeL I ru (.bl c) ((Zg1 X.K "bool" T (by decide)).trans (Ydt (by cases T <;> rfl) e)) h
 | int i=>
  rw [r.int_inv] at ru;exact ZeL I ru (.int i) ((Zg1 X.K "int" T (by decide)).trans (Ydt (by cases T <;> rfl) e)) h
 | str z=>
  rw [r.str_inv] at ru;exact ZeL I ru (.str _) ((Zg1 X.K "str" T (by decide)).trans (Ydt (by cases T <;> rfl) e)) h
 | tup ds=>
  obtain ⟨p,vs,its,_,eu,⟨o,h1,h2,_⟩,_⟩:=ZjR I r ru;rw [eu];exact Ya2 PySem.W.kitx_tuple I.kIn ⟨o,h1,h2⟩ ((Zg1 X.K "tuple" T (by decide)).trans (Ydt (by cases T <;> rfl) e)) (fun z=>nomatch z) h
 | scr ds=>exact nsm e
 | ref n=>
  have e:Zub T M[n]? = some b:=e;obtain ⟨a,ha,ex⟩:=r.ref_inv;rw [ex] at ru;cases hn:M[n]? with
  | none=>rw [hn] at e; exact nsm e
  | some o=>
   rw [hn] at e;cases o with
   | lst z=>
    obtain ⟨vs,ev,_⟩:=S.obj n _ a hn ha;exact ZeL I ru (.lst ev) ((Zg1 X.K "list" T (by decide)).trans (Ydt (by cases T <;> rfl) e)) h
   | dct z=>
    obtain ⟨vs,ev,_⟩:=S.obj n _ a hn ha;exact ZeL I ru (.dK ev) ((Zg1 X.K "dict" T (by decide)).trans (Ydt (by cases T <;> rfl) e)) h
   | fdct z=>exact nsm e
   | ins _ _=>exact nsm e
theorem ZkZ (T:Ty3) {x:Str} (hm:X.mg "isinstance" = none) (hm2:X.mg x = none) (h:C3 X a f) (hx:x = (Yc3 (tyN T)):=by rfl) (hg:Gl X "isinstance":=by rfl) (hg2:Gl X x:=by rfl)
  (hn:x ≠ "__name__":=by decide) (hd:(x == ("__debug__":Str)) = false:=by decide)
  (hs:Yad (a :: [.Name x p2]) X.env = (false,eval a X.env) :: Yad [.Name x p2] X.env:=by rfl) (hs2:Yad (.Name x p2 :: []) X.env = (false,eval (.Name x p2) X.env) :: Yad [] X.env:=by rfl)
  (hpl:(Yd9 pos (Yad [.Name x p2] X.env)).any (·.1) = false:=by rfl):C3 X (.Call (.Name "isinstance" p) [a,.Name x p2] [] pos) (e1 (Zg0 T) f):=by
 subst hx;have hc:ZbZ X (.builtin "isinstance") (fun xs H Q=>∃ ι M d x,xs = [x,.ty (tyN T)] /\ ZaJ X.K H ι M /\ Rep X.K H ι d x /\ Zat X.K H ι Q (Zg0 T d M)):=by
  intro pins s σ H xs us Q I r q;obtain ⟨ι,M,d,x,rfl,S,rd,q⟩:=q;obtain ⟨u,w',rfl,ru,rw'⟩:=vals2 r;cases rw';unfold Zg0 at q;cases e:Zjz T d M with
  | none=>rw [e] at q; exact q.elim
  | some b=>
   rw [e] at q;exact Zq0 I S rd ru e fun tk=>⟨.bl b,H,I.tok _,rfl,Zat.ok q S Rep.bl⟩
 refine (ZmC hc hg hm ZjC (ZkY h (ZkY (Zro hg2 hm2 (Zu7 T) (v:=.ty (tyN T)) rfl hn hd) ZpR hs2) hs) (by decide) (by decide) hs hpl).imp fun σ H Q zz1=>?_;obtain ⟨ι,M,env,S,E,h⟩:=zz1;obtain ⟨d,M1,e1,h⟩:=Zat.bind h;refine ⟨ι,M,env,S,E,?_⟩;rw [e1];intro v H1 ι1 x1 S1 r1;exact ⟨ι1,M1,d,v,rfl,S1,r1,h.up x1⟩
end
noncomputable def Zr8 (outer:List (Str × NameKind)) (N:List Str) (scope:Scope) (N':List Str) (own:Nat):Bool:=
 (scope.names.all fun y=>decide (y.2 ≠ .cell) && (decide (y.2 ≠ .free) || decide (outer.lookup y.1 = some .cell) || decide (outer.lookup y.1 = some .free)) && (decide (y.2 ≠ .local) || decide (scope.names.lookup y.1 = some .local))) &&
  decide (N'.length = N.length + own) && Zqt N N' scope
theorem Zdr {X:Cx} {scope:Scope} {N':List Str} {own:Nat} (hk:scope.kind = .function) (h:Zr8 X.env.scope.names X.N scope N' own = true):ZhE X scope N' own:=by
 simp only [Zr8,Yv,decide_eq_true_eq,Yaf,Yca] at h;obtain ⟨⟨h1,h2⟩,h3⟩:=h;refine ⟨hk,fun y hy=>(h1 y hy).1.1,fun y hy e=>?_,fun y hy e=>?_,h2,h3⟩
 ·rcases (h1 y hy).1.2 with (q | q) | q
  ·exact absurd e q
  ·exact .inl q
  ·exact .inr q
 ·rcases (h1 y hy).2 with q | q
  ·exact absurd e q
  ·exact q
theorem Zay {K:Ya} {h:Heap} {mg:Str -> Option Value} (KX:K.In h) (G:h.Ns Yl mg) {x:Str} {st:Stmt} {f:Addr} {oc:Value} {od an:Option Addr} {osl:Array (Option Value)} {dV kV doc pm cdv ct:Value}
  (a:PySem.W.nsIn K Yl x = some (some (.ref f))) (l:K.lookup f = some ⟨oc,od,.func (Yc2 x x (Zaw st) (Zar st) (Zt st) dV kV doc pm an cdv ct),osl⟩)
  (c:Ye3 K cdv x = true) (k:Yd6 K (.ref f) = true) {ps:List Str} (b:Binds K (Yc2 x x (Zaw st) (Zar st) (Zt st) dV kV doc pm an cdv ct) ps []):Zav K mg x st ps:=⟨f,_,Zqq l c k,PySem.W.mg_of KX G a,b⟩
theorem ZuH {l:PySem.W.OpenLaw} {k:Nat} {q:Yai} {loose:List Str} {XP:(Str -> Option Value) -> Heap -> Prop} {YP:World -> Heap -> Prop} {d:DefRec} {K:Params -> Ya} {F:F3} (hn:l.most = some 63) (hdf:d.params.defaults = []) (hr:Zel k Yho)
  (hY:∀ (w:World) (h:Heap),YP w h -> (K w.params).In h)
  (G:∀ (w:World) (mg:Str -> Option Value) (fa:Addr) (h:Heap),(K w.params).In h -> h.Ns Yl mg -> mg d.name = some (.ref fa) ->
   ∃ fd:FuncData,(∀ (s:Ye) (u:Value),Yif s fd ⟨[u],[]⟩ [("script",u)]) /\ ∀ base:Heap,(K w.params).In base -> base.Ns Yl mg -> ZiV l.prog w (K w.params) mg base CX0 k fa fd ["script"] (sp3 (K w.params) 1 F))
  (hF:∀ ns:List Int,ns.length <= 63 -> ∃ M',F [.scr (ns.map D.int)] [] = .ok (.bl true) M'):
  PySem.W.WalkO q loose XP YP l.row.toRowW d [] (fun f vs=>PySem.call f vs):=
 L2.Zn8 (n:=63) (k:=k) (x:="script") (CX:=fun _=>CX0) (sp:=fun w=>sp3 (K w.params) 1 F) hn (by decide) hdf hr hY G (fun w H a ns hl hO hS=>by
  obtain ⟨M',e⟩:=hF ns hl;refine ⟨[],[],[.scr (ns.map D.int)],⟨rfl,List.nodup_nil,fun n o a h=>by simp at h⟩,Zal.cons ?_ Zal.nil,rfl,?_⟩
  ·simp only [Rep]
   refine ⟨a,ns.map V.int,rfl,?_,Zal.ints ns⟩;rcases hS with (h | ⟨o,h⟩) | h
   ·rcases hO a with z | ⟨ob,xs,z⟩
    ·rw [h] at z; cases z
    ·rw [h] at z; cases z
   ·exact .inl ⟨o,h⟩
   ·exact .inr h
  ·rw [e]
   exact fun v H' ι' _ _ r=>r.bl_inv) fun _ _ _ _ _ z=>z
theorem Zm3 {a b:Zbw} (h:dk a = dk b):a = b:=by
 cases a with
 | inl i=>cases b with
  | inl j=>simp only [dk,Sum.inl.injEq] at h; rw [h]
  | inr y=>simp [dk] at h
 | inr x=>cases b with
  | inl j=>simp [dk] at h
  | inr y=>
   simp only [dk,Sum.inr.injEq,Str.mk.injEq] at h;have:=congrArg Yeu h;simp at this;rw [this]
theorem Ziw {K:Ya} {H:Hp} {ι:List Addr} {b:D} {y:V} {k:Zbw} (h:Zeo b = some k) (r:Rep K H ι b y):y = kV (dk k):=by
 cases b with
 | int i=>cases h; exact r.int_inv
 | str x=>cases h; exact r.str_inv
 | _=>exact nsm h
section
variable {K:Ya} {H H':Hp} {ι ι':List Addr} {M:Store} {p:Addr}
theorem KvR.nil:KvR K H ι [] []:=⟨rfl,Zal.nil⟩
theorem KvR.cons {k:Zbw} {d:D} {v:V} {kvs:List (Zbw × D)} {ws:List (Key × V)} (h:Rep K H ι d v) (r:KvR K H ι kvs ws):KvR K H ι ((k,d) :: kvs) ((dk k,v) :: ws):=
 ⟨by simp [r.1],Zal.cons h r.2⟩
theorem KvR.cons_inv {q:Zbw × D} {kvs:List (Zbw × D)} {ws:List (Key × V)} (r:KvR K H ι (q :: kvs) ws):∃ v ws',ws = (dk q.1,v) :: ws' /\ Rep K H ι q.2 v /\ KvR K H ι kvs ws':=by
 obtain ⟨h1,h2⟩:=r;cases ws with
 | nil=>simp at h1
 | cons w ws=>
  simp only [Y9,Yel] at h1;obtain ⟨v,us,e,r1,r2⟩:=Zal.cons_inv h2;simp only [Y9,Yel] at e;exact ⟨w.2,ws,by rw [← h1.1],e.1 ▸ r1,h1.2,e.2 ▸ r2⟩
theorem KvR.nil_inv {ws:List (Key × V)} (r:KvR K H ι [] ws):ws = []:=by simpa using r.1
theorem KvR.mono {kvs:List (Zbw × D)} {ws:List (Key × V)} (r:KvR K H ι kvs ws) (e:Ext K H ι H' ι'):KvR K H' ι' kvs ws:=⟨r.1,r.2.mono e⟩
theorem KvR.length {kvs:List (Zbw × D)} {ws:List (Key × V)} (r:KvR K H ι kvs ws):ws.length = kvs.length:=by
 have:=congrArg List.length r.1;simpa using this
theorem KvR.val {kvs:List (Zbw × D)} (k:Zbw):∀ {ws:List (Key × V)},KvR K H ι kvs ws -> match ZcV kvs k with | some d=>∃ v,Zf8 ws (dk k) = some v /\ Rep K H ι d v | none=>Zf8 ws (dk k) = none:=by
 induction kvs with
 | nil=>intro ws r; rw [r.nil_inv]; exact ZpL
 | cons q kvs ih=>
  intro ws r;obtain ⟨v,ws',rfl,r1,r2⟩:=r.cons_inv;obtain ⟨k',d⟩:=q;unfold ZcV;by_cases e:k' = k
  ·rw [if_pos e]
   exact ⟨v,Zhr (by rw [e]),r1⟩
  ·rw [if_neg e,Zhi fun z=>e (Zm3 z)]
   exact ih r2
theorem KvR.append {k1 k2:List (Zbw × D)} {w1 w2:List (Key × V)} (a:KvR K H ι k1 w1) (b:KvR K H ι k2 w2):KvR K H ι (k1 ++ k2) (w1 ++ w2):=
 ⟨by simp [a.1,b.1],by rw [Ygo,Ygo]; exact a.2.append b.2⟩
theorem KvR.any {kvs:List (Zbw × D)} (k:Zbw):∀ {ws:List (Key × V)},KvR K H ι kvs ws -> (ws.any fun kv=>decide (kv.1 = dk k)) = (kvs.any fun q=>decide (q.1 = k)):=by
 induction kvs with
 | nil=>intro ws r; rw [r.nil_inv]; rfl
 | cons q kvs ih=>
  intro ws r;obtain ⟨v,ws',rfl,r1,r2⟩:=r.cons_inv;rw [Yba,Yba,ih r2];congr 1;by_cases e:q.1 = k
  ·simp [e]
  ·simp [e]; exact fun z=>e (Zm3 z)
theorem KvR.put {kvs:List (Zbw × D)} {k:Zbw} {d:D} {v:V} {ws:List (Key × V)} (r:KvR K H ι kvs ws) (rd:Rep K H ι d v):KvR K H ι (putD k d kvs) (putK ws (dk k) v):=by
 unfold putD putK;rw [r.any k];by_cases c:(kvs.any fun q=>decide (q.1 = k)) = true
 ·rw [if_pos c,if_pos c]
  clear c
  induction kvs generalizing ws with
  | nil=>rw [r.nil_inv]; exact KvR.nil
  | cons q kvs ih=>
   obtain ⟨u,ws',rfl,r1,r2⟩:=r.cons_inv;rw [Y9,Y9];by_cases e:q.1 = k
   ·rw [if_pos e,if_pos (by rw [e])]; exact KvR.cons rd (ih r2)
   ·rw [if_neg e,if_neg fun z=>e (Zm3 z)]; exact KvR.cons r1 (ih r2)
 ·rw [if_neg c,if_neg c]
  exact r.append (KvR.cons rd KvR.nil)
theorem KvR.merge {l:List (Zbw × D)}:∀ {kvs:List (Zbw × D)} {ws us:List (Key × V)},KvR K H ι l us -> KvR K H ι kvs ws -> KvR K H ι (l.foldl (fun acc p=>putD p.1 p.2 acc) kvs) (Zjq ws us):=by
 induction l with
 | nil=>intro kvs ws us r r0; rw [r.nil_inv]; exact r0
 | cons q l ih=>
  intro kvs ws us r r0;obtain ⟨v,us',rfl,r1,r2⟩:=r.cons_inv;exact ih (ws:=putK ws (dk q.1) v) (us:=us') r2 (r0.put r1)
theorem ZaJ.dct (S:ZaJ K H ι M) (hp:H p = none) {kvs:List (Zbw × D)} {ws:List (Key × V)} (r:KvR K H ι kvs ws):Ext K H ι (upd H p (.dK ws)) (ι ++ [p]) /\ ZaJ K (upd H p (.dK ws)) (ι ++ [p]) (M ++ [.dct kvs]) /\ Rep K (upd H p (.dK ws)) (ι ++ [p]) (.ref M.length) (.ref p):=by
 have e:Ext K H ι (upd H p (.dK ws)) (ι ++ [p]):=Loose.extA (.inl hp);exact ⟨e,S.new hp ⟨ws,ZcB,r.mono e⟩,Rep.ref (by rw [← S.len]; simp)⟩
theorem ZaJ.setd (S:ZaJ K H ι M) {n:Nat} (l0:Loose H p) (hn:ι[n]? = some p) {kvs:List (Zbw × D)} {ws:List (Key × V)} (r:KvR K H ι kvs ws):Ext K H ι (upd H p (.dK ws)) ι /\ ZaJ K (upd H p (.dK ws)) ι (M.set n (.dct kvs)):=by
 have e:Ext K H ι (upd H p (.dK ws)) ι:=Loose.ext l0;exact ⟨e,S.put l0 hn ⟨ws,ZcB,r.mono e⟩⟩
end
section
variable {X:Cx} {a b c e o:Expr} {es:List Expr} {pos p pos' apos cpos:Pos} {f g h:E3} {gl:EL3}
def ZtK (K:Ya) (H:Hp) (ι:List Addr) (Q:List (V × V) -> Hp -> Prop) (r:R3 (List (Zbw × D))):Prop:=match r with
 | .ok l M'=>∀ ws H' ι',Ext K H ι H' ι' -> ZaJ K H' ι' M' -> KvR K H' ι' l ws -> Q (ws.map fun kv=>(kV kv.1,kv.2)) H'
 | _=>False
theorem ZtK.bind {K:Ya} {H:Hp} {ι:List Addr} {α:Type} {Q:List (V × V) -> Hp -> Prop} {r:R3 α} {k:α -> Store -> R3 (List (Zbw × D))} (h:ZtK K H ι Q (r.bind k)):∃ a M,r = .ok a M /\ ZtK K H ι Q (k a M):=by
 cases r with
 | ok a M=>exact ⟨a,M,rfl,h⟩
 | exc x M=>exact h.elim
 | bad=>exact h.elim
theorem Zp9:C3 X (.Dict [] [] pos) ZnM:=Zpx.imp fun σ H Q ⟨ι,M,env,S,E,h⟩ p hp=>by
 obtain ⟨x1,S1,r1⟩:=S.dct hp KvR.nil;exact h _ _ _ x1 S1 r1
theorem hu1 (hu:X.A.units + 80 < cLine):X.A.units + 1 < cLine:=lB 1 7331617893452817 T1 hu
theorem Zlf {K:Ya} {H:Hp} {ι:List Addr} {M:Store} (S:ZaJ K H ι M) {n:Nat} {kvs:List (Zbw × D)} {a:Addr} (h:Zcr M[n]? = some kvs) (ha:ι[n]? = some a):∃ ws,Rd H a (.dK ws) /\ KvR K H ι kvs ws:=by
 cases hn:M[n]? with
 | none=>simp [hn] at h
 | some ob=>
  cases ob with
  | lst _=>simp [hn] at h
  | dct k=>
   have e:k = kvs:=by simpa [hn] using h
   subst e;obtain ⟨ws,hw,kr⟩:=S.obj n _ a hn ha;exact ⟨ws,.inl hw,kr⟩
  | fdct k=>
   have e:k = kvs:=by simpa [hn] using h
   subst e;obtain ⟨ws,⟨o,hw⟩,kr⟩:=S.obj n _ a hn ha;exact ⟨ws,.inr ⟨o,hw⟩,kr⟩
  | ins _ _=>simp [hn] at h
theorem Zpj (hu:X.A.units + 80 < cLine) (ha:C3 X a f) (hb:C3 X b g) (hs:Ztc b:=by exact fun _ _=>rfl):C3 X (.Subscript a b pos) (e2 Zep f g):=(ZqV (hu1 hu) ha hb hs).imp fun σ H Q zz1=>by
 obtain ⟨ι,M,env,S,E,h⟩:=zz1;obtain ⟨d,M1,e1,h⟩:=Zat.bind h;obtain ⟨k,M2,e2,h⟩:=Zat.bind h;refine ⟨ι,M,env,S,E,?_⟩;rw [e1];intro x H1 ι1 x1 S1 r1;refine ⟨ι1,M1,env,S1,E.mono x1,?_⟩;rw [e2];intro y H2 ι2 x2 S2 r2;cases d with
 | ref n=>
  simp only [ZjP] at h;cases hn:Zcr M2[n]? with
  | none=>simp only [hn] at h; exact h.elim
  | some kvs=>
   cases hk:Zeo k with
   | none=>simp only [hn,hk] at h; exact h.elim
   | some kk=>
    simp only [hn,hk] at h;cases hv:ZcV kvs kk with
    | none=>simp only [hv] at h; exact h.elim
    | some w=>
     simp only [hv] at h;obtain ⟨ad,ha,rfl⟩:=(r1.mono x2).ref_inv;obtain ⟨ws,hw,kr⟩:=Zlf S2 hn ha;have hv':=kr.val kk;rw [hv] at hv';obtain ⟨v,ev,rv⟩:=hv';refine ⟨ad,v,rfl,?_,h v H2 ι2 (x1.trans x2) S2 rv⟩;rw [Ziw hk r2,← ev];exact .inl ⟨ws,dk kk,hw,rfl,rfl⟩
 | _=>exact h.elim
theorem ZnI {K:Ya} {op:D -> D -> D -> Store -> R3 D} {H:Hp} {ι:List Addr} {Q:VK} {env:ZaD} {M:Store} (h':Zat K H ι Q (e3 op f g h env M)):
  ∃ a M1 b M2 c M3,f env M = .ok a M1 /\ g env M1 = .ok b M2 /\ h env M2 = .ok c M3 /\ Zat K H ι Q (op a b c M3):=by
 obtain ⟨a,M1,e1,h'⟩:=Zat.bind h';obtain ⟨b,M2,e2,h'⟩:=Zat.bind h';obtain ⟨c,M3,e3,h'⟩:=Zat.bind h';exact ⟨a,M1,b,M2,c,M3,e1,e2,e3,h'⟩
theorem ZlS {K:Ya} {H:Hp} {ι:List Addr} {D':Ends} {env:ZaD} {M:Store} {σ:St} (E:Zb1 K H ι env σ) (h':Zgz K H ι D' (Zbq f env M)):Zat K H ι (fun _ H'=>D'.nx σ H') (f env M):=by
 unfold Zbq at h';cases q:f env M with
 | ok d M1=>rw [q] at h'; exact fun v H1 ι1 x1 S1 r1=>h' σ H1 ι1 x1 S1 (E.mono x1)
 | exc x M1=>rw [q] at h'; exact h'.elim
 | bad=>rw [q] at h'; exact h'.elim
theorem ZrT {i:Expr} (hu:X.A.units + 80 < cLine) (ho:C3 X o f) (hi:C3 X i g) (hv:C3 X e h) (hs:Yei e (some (.Subscript o i pos')) pos.line X.env = pure false:=by rfl):CS X (.Assign [.Subscript o i pos'] e pos) (Znx f g h):=(Zq2 (hu1 hu) ho hi hv hs).imp fun D' σ H zz1=>by
 obtain ⟨ι,M,env,S,E,hh⟩:=zz1;obtain ⟨d,M1,b,M2,k,M3,e1,e2,e3,hh⟩:=ZnI (ZlS E hh);refine ⟨ι,M,env,S,E,?_⟩;rw [e1];intro v H1 ι1 x1 S1 r1;refine ⟨ι1,M1,env,S1,E.mono x1,?_⟩;rw [e2];intro x H2 ι2 x2 S2 r2;refine ⟨ι2,M2,env,S2,(E.mono x1).mono x2,?_⟩;rw [e3];intro y H3 ι3 x3 S3 r3;cases b with
 | ref n=>
  simp only [Zki] at hh;cases hn:M3[n]? with
  | none=>simp only [hn] at hh; exact hh.elim
  | some ob=>
   cases ob with
   | lst _=>simp only [hn] at hh; exact hh.elim
   | fdct _=>simp only [hn] at hh; exact hh.elim
   | ins _ _=>simp only [hn] at hh; exact hh.elim
   | dct kvs=>
    cases hk:Zeo k with
    | none=>simp only [hn,hk] at hh; exact hh.elim
    | some kk=>
     simp only [hn,hk] at hh;split at hh
     ·rename_i hz
      obtain ⟨ad,ha,rfl⟩:=(r2.mono x3).ref_inv;obtain ⟨ws,hw,kr⟩:=S3.obj n _ ad hn ha;obtain ⟨x4,S4⟩:=S3.setd (.inr (.inr (.inl ⟨_,hw⟩))) ha (kr.put (k:=kk) ((r1.mono x2).mono x3));refine ⟨ad,_,rfl,?_,hh .non _ _ (((x1.trans x2).trans x3).trans x4) S4 Rep.non⟩;rw [Ziw hk r3];exact Znw.k hw (by rw [kr.length]; exact Yx hz ZcZ)
     ·exact hh.elim
 | _=>exact hh.elim
theorem ZfG {i:Expr} {spos:Pos} (ho:C3 X o f) (hi:C3 X i g) (hv:C3 X e h)
  (ha:∀ v,Ydb (.Subscript o i spos) X.env v = (do
   let ov ← Yc0 [v] (eval o X.env)
   let iv ← Yc0 [v,ov] (eval i X.env)
   Yh1 spos
   Yc0 [v,ov,iv] (Yh2 ov iv v)
   Yil [v,ov,iv] []):=by intro _; rfl)
  (hs:Yed [.Subscript o i spos] e pos.line X.env = pure false:=by rfl) (hw:Yee [.Subscript o i spos] e X.env = pure none:=by rfl)
  (h1:(Yam [.Subscript o i spos] X.env).map (·.2) = [Ydb (.Subscript o i spos) X.env]:=by rfl):CS X (.Assign [.Subscript o i spos] e pos) (ZfU f g h):=(ZkS hv (Zo7 ho hi set_list ha) hs hw h1).imp fun D' σ H zz1=>by
 obtain ⟨ι,M,env,S,E,hh⟩:=zz1;obtain ⟨d,M1,b,M2,k,M3,e1,e2,e3,hh⟩:=ZnI (ZlS E hh);refine ⟨ι,M,env,S,E,?_⟩;rw [e1];intro v H1 ι1 x1 S1 r1;refine ⟨ι1,M1,env,S1,E.mono x1,?_⟩;rw [e2];intro x H2 ι2 x2 S2 r2;refine ⟨ι2,M2,env,S2,(E.mono x1).mono x2,?_⟩;rw [e3];intro y H3 ι3 x3 S3 r3;cases b with
 | ref n=>
  cases k with
  | int j=>
   simp only [Zfk] at hh;cases hn:M3[n]? with
   | none=>simp only [hn] at hh; exact hh.elim
   | some ob=>
    cases ob with
    | dct _=>simp only [hn] at hh; exact hh.elim
    | fdct _=>simp only [hn] at hh; exact hh.elim
    | ins _ _=>simp only [hn] at hh; exact hh.elim
    | lst xs=>
     simp only [hn] at hh;cases hj:ixD xs.length j with
     | none=>simp only [hj] at hh; exact hh.elim
     | some q=>
      simp only [hj] at hh;obtain ⟨ad,ha,rfl⟩:=(r2.mono x3).ref_inv;obtain ⟨ws,hw,kr⟩:=S3.obj n _ ad hn ha;obtain ⟨x4,S4⟩:=S3.setl (.inr (.inl ⟨_,hw⟩)) ha (kr.set q ((r1.mono x2).mono x3));exact ⟨ad,ws,j,q,rfl,r3.int_inv,hw,by rw [kr.length]; exact hj,hh .non _ _ (((x1.trans x2).trans x3).trans x4) S4 Rep.non⟩
  | _=>exact hh.elim
 | _=>exact hh.elim
end
open PySem PySem.W PyProof.Rows
section
noncomputable def kev {α:Type} (lt:Nat -> Nat -> Bool):KasT α -> α
 | .ret a=>a
 | .ask i j k=>kev lt (k (lt i j))
theorem Zfr {α β:Type} (lt:Nat -> Nat -> Bool) (f:α -> KasT β):∀ t:KasT α,kev lt (t.bind f) = kev lt (f (kev lt t))
 | .ret _=>rfl
 | .ask i j k=>Zfr lt f (k (lt i j))
variable {lt:Nat -> Nat -> Bool}
structure ZgE (lt:Nat -> Nat -> Bool):Prop where
 asym:∀ {a b},lt a b = true -> lt b a = false
 tr:∀ {a b c},lt b a = false -> lt c b = false -> lt c a = false
theorem ZgE.rf (o:ZgE lt) (a:Nat):lt a a = false:=by
 cases h:lt a a
 ·rfl
 ·exact h ▸ o.asym h
noncomputable abbrev at' (p:Array Nat) (i:Nat):Nat:=p.getD i 0
theorem ZlN {p q:Array Nat} {i j:Nat} (h:p[i]? = q[j]?):at' p i = at' q j:=by
 simp only [at',Ybg,h]
def Up (lt:Nat -> Nat -> Bool) (p:Array Nat) (n:Nat):Prop:=∀ i j,i <= j -> j < n -> lt (at' p j) (at' p i) = false
def Zjy (lt:Nat -> Nat -> Bool) (p:Array Nat) (n:Nat):Prop:=∀ i j,i <= j -> j < n -> lt (at' p i) (at' p j) = false
theorem Zrh (o:ZgE lt) {p:Array Nat} {n:Nat} (h1:1 <= n) (u:Up lt p n) (h:lt (at' p n) (at' p (n - 1)) = false):Up lt p (n + 1):=by
 intro i j hij hj;by_cases e:j = n
 ·subst e
  by_cases e':i = j
  ·subst e'; exact o.rf _
  ·exact o.tr (u i (j - 1) (lC 2 563648976195601 T1 (Yz hij e') (sbA _ _)) (lB 1 4313451553 T1 (Yb h1))) h
 ·exact u i j hij ((Yz (lB 1 4305567761 T1 hj) e))
theorem Zgn (o:ZgE lt) {p:Array Nat} {n:Nat} (h1:1 <= n) (u:Zjy lt p n) (h:lt (at' p (n - 1)) (at' p n) = false):Zjy lt p (n + 1):=by
 intro i j hij hj;by_cases e:j = n
 ·subst e
  by_cases e':i = j
  ·subst e'; exact o.rf _
  ·exact o.tr h (u i (j - 1) (lC 2 563648976195601 T1 (Yz hij e') (sbA _ _)) (lB 1 4313451553 T1 (Yb h1)))
 ·exact u i j hij ((Yz (lB 1 4305567761 T1 hj) e))
theorem Znt (o:ZgE lt) {p:Array Nat}:∀ (f n:Nat),1 <= n -> Up lt p n -> n <= kev lt (kas_asc p f n) /\ kev lt (kas_asc p f n) <= n + f /\ Up lt p (kev lt (kas_asc p f n)) /\
  (kev lt (kas_asc p f n) = n + f \/ lt (at' p (kev lt (kas_asc p f n))) (at' p (kev lt (kas_asc p f n) - 1)) = true)
 | 0,n,h1,u=>⟨Yj _,Yj _,u,.inl rfl⟩
 | f + 1,n,h1,u=>by
  have e:kev lt (kas_asc p (f + 1) n) = kev lt (if lt (at' p n) (at' p (n - 1)) = true then KasT.ret n else kas_asc p f (n + 1)):=rfl;rw [e];cases c:lt (at' p n) (at' p (n - 1)) with
  | true=>exact ⟨Yj _,by simp only [if_true,kev]; exact Yw _ _,u,.inr c⟩
  | false=>
   simp only [Yae,if_false];obtain ⟨a,b,d,e⟩:=Znt o f (n + 1) (Ygs _ _) (Zrh o h1 u c);exact ⟨lB 1 4296674305 T1 a,lC 1 0xa2c1c002a1cc001 T1 b,d,e.elim (fun z=>.inl (Ym (lC 1 0xa2c1c002a1cc021 T1 z) (lC 1 0xa2c1c02a1cc031 T1 z))) .inr⟩
theorem Zf9 {p:Array Nat} {i j:Nat} (hj:j <= p.size) (k:Nat):at' (kas_rev p i j) k = if i <= k /\ k < j then at' p (i + j - 1 - k) else at' p k:=by
 have e:=getElem?_mirror_all (xs:=p) (i:=i) hj k;unfold kas_rev;split
 ·rename_i h; rw [if_pos h] at e; exact ZlN e
 ·rename_i h; rw [if_neg h] at e; exact ZlN e
theorem ZdR (p:Array Nat) (i j:Nat):(kas_rev p i j).Perm p:=mirror_perm _ _ _ _
theorem ZeV (p:Array Nat) (i j:Nat):(kas_rev p i j).size = p.size:=mirror_size _ _ _ _
def Alike (lt:Nat -> Nat -> Bool) (p:Array Nat) (n q:Nat):Prop:=∀ i j,n - (q + 1) <= i -> i < n -> n - (q + 1) <= j -> j < n -> lt (at' p i) (at' p j) = false
theorem Zkn (o:ZgE lt) {p:Array Nat} {n q:Nat} (hn:n <= p.size) (hq:q + 1 <= n) (d:Zjy lt p n) (a:Alike lt p n q):Zjy lt (kas_rev p (n - (q + 1)) n) n:=by
 intro i j hij hj;rw [Zf9 hn,Zf9 hn];by_cases h1:n - (q + 1) <= i
 ·rw [if_pos ⟨h1,Ydu hij hj⟩,if_pos ⟨Y2 h1 hij,hj⟩]
  exact a _ _ (lF 4 0x53025c401a4c13c0102011011 T1 hj hij (sbA _ _) (sbA _ _)) (lE 3 0x341214c2130ca2c211001 T1 h1 (Yb (lC 1 5043654673 T1 hj)) (Yb (lE 3 0x420a4c13c0102011011 T1 hj hij (sbA _ _)))) (lE 3 0x42004c301a3c12c011011 T1 hj (sbA _ _) (sbA _ _)) (lF 4 0x451325c2140ca3c2121011001 T1 h1 hij (Yb (lC 1 5043654673 T1 hj)) (Yb (lD 2 0x300a3c12c011011 T1 hj (sbA _ _))))
 ·rw [if_neg (fun z=>lB 2 26042503169 T1 z.1 h1)]
  by_cases h2:n - (q + 1) <= j
  ·rw [if_pos ⟨h2,hj⟩]; exact d _ _ (lF 4 0x51025c401a4c30c0132111041 T1 h1 hj (sbA _ _) (sbA _ _)) (lE 3 0x341214c2130ca2c211001 T1 h2 (Yb (lC 1 8801751105 T1 h1)) (Yb (lD 2 0x300a3c12c011011 T1 hj (sbA _ _))))
  ·rw [if_neg (fun z=>lB 2 26042503169 T1 z.1 h2)]; exact d _ _ hij hj
theorem Ziv (o:ZgE lt):∀ (f:Nat) (p:Array Nat) (n q:Nat),q + 1 <= n -> n + f <= p.size -> Zjy lt p n -> Alike lt p n q ->
  let r:=kev lt (kas_desc f p n q); r.1.Perm p /\ r.1.size = p.size /\ n <= r.2.1 /\ r.2.1 <= n + f /\ r.2.2 + 1 <= r.2.1 /\ Zjy lt r.1 r.2.1 /\ Alike lt r.1 r.2.1 r.2.2
 | 0,p,n,q,hq,hs,d,a=>⟨Ydv _,rfl,Yj _,Yj _,hq,d,a⟩
 | f + 1,p,n,q,hq,hs,d,a=>by
  have one:∀ (p':Array Nat),Alike lt p' (n + 1) 0:=fun p' i j h1 h2 h3 h4=>by
   have:i = j:=Ym (lD 3 0x120aec0ca3c01a3c2111001 T1 h3 h2 (sbA _ _)) (lD 3 0x300aec2ca1c013201a1c011 T1 h4 h1 (sbA _ _));subst this; exact o.rf _
  unfold kas_desc;simp only [kev];cases c:lt (p.getD n 0) (p.getD (n - 1) 0) with
  | true=>
   simp only [if_true];by_cases hq0:q > 0
   ·rw [if_pos hq0]
    have hl:lt (at' (kas_rev p (n - (q + 1)) n) (n - 1)) (at' (kas_rev p (n - (q + 1)) n) n) = false:=by
     rw [Zf9 (by exact lC 1 2199729736705 T1 hs),Zf9 (by exact lC 1 2199729736705 T1 hs),if_pos ⟨lD 2 0x300a3c2012a1c0c21 T1 (Yb hq) (sbA _ _),lB 1 4313451553 T1 (Yb (lB 1 6981028865 T1 hq))⟩,if_neg (fun z=>lA 1 393233 T1 z.2)];exact o.tr (o.asym c) (a _ _ (lE 3 0x40034c2011a3c21a2c10c01 T1 (sbA _ _) (Yb (lB 1 6981028865 T1 hq)) (sbA _ _)) (lF 4 0x251345c21a4c20120ca3c212a1c0c21 T1 (Yb hq) (Yb (lC 1 1291176250369 T1 hq)) (sbA _ _) (Yb (lD 2 0x2301a3c21a2c10c01 T1 (sbA _ _) (Yb (lB 1 6981028865 T1 hq))))) (lD 2 0x300a3c2012a1c0c21 T1 (Yb hq) (sbA _ _)) (lB 1 4313451553 T1 (Yb (lB 1 6981028865 T1 hq))))
    obtain ⟨h1,h2,h3,h4,h5,h6,h7⟩:=Ziv o f (kas_rev p (n - (q + 1)) n) (n + 1) 0 (lA 0 168603328 T1) (by rw [ZeV]; exact lC 1 0x21a0cc02a1c0c01 T1 hs) (Zgn o (lB 1 6981028865 T1 hq) (Zkn o (lC 1 2199729736705 T1 hs) hq d a) hl) (one _);exact ⟨h1.trans (ZdR _ _ _),h2.trans (ZeV _ _ _),lB 1 4296674305 T1 h3,lC 1 0xa2c1c002a1cc001 T1 h4,h5,h6,h7⟩
   ·rw [if_neg hq0]
    obtain ⟨h1,h2,h3,h4,h5,h6,h7⟩:=Ziv o f p (n + 1) 0 (lA 0 168603328 T1) (lC 1 0x21a0cc02a1c0c01 T1 hs) (Zgn o (lB 1 6981028865 T1 hq) d (o.asym c)) (one _);exact ⟨h1,h2,lB 1 4296674305 T1 h3,lC 1 0xa2c1c002a1cc001 T1 h4,h5,h6,h7⟩
  | false=>
   simp only [Yae,if_false,kev];cases c2:lt (p.getD (n - 1) 0) (p.getD n 0) with
   | true=>exact ⟨Ydv _,rfl,Yj _,by simp only [if_true,kev]; exact Yw _ _,hq,d,a⟩
   | false=>
    simp only [Yae,if_false];have al:Alike lt p (n + 1) (q + 1):=fun i j h1 h2 h3 h4=>by
     have z:∀ k,n + 1 - (q + 1 + 1) <= k -> k < n + 1 -> lt (at' p k) (at' p n) = false /\ lt (at' p n) (at' p k) = false:=fun k k1 k2=>by
      by_cases e:k = n
      ·subst e; exact ⟨o.rf _,o.rf _⟩
      ·exact ⟨o.tr c2 (a k (n - 1) (lE 3 0x120aa3cc0ca4c014a3c2c211001 T1 k1 (Yb hq) (sbA _ _)) ((Yz (lB 1 4305567761 T1 k2) e)) (lD 2 0x300a3c2012a1c0c21 T1 (Yb hq) (sbA _ _)) (lB 1 4313451553 T1 (Yb (lB 1 6981028865 T1 hq)))),o.tr (a (n - 1) k (lD 2 0x300a3c2012a1c0c21 T1 (Yb hq) (sbA _ _)) (lB 1 4313451553 T1 (Yb (lB 1 6981028865 T1 hq))) (lE 3 0x120aa3cc0ca4c014a3c2c211001 T1 k1 (Yb hq) (sbA _ _)) ((Yz (lB 1 4305567761 T1 k2) e))) c⟩
     exact o.tr (z j h3 h4).2 (z i h1 h2).1
    obtain ⟨h1,h2,h3,h4,h5,h6,h7⟩:=Ziv o f p (n + 1) (q + 1) (lB 1 0xa1caa0cc01a0c01 T1 hq) (lC 1 0x21a0cc02a1c0c01 T1 hs) (Zgn o (lB 1 6981028865 T1 hq) d c2) al;exact ⟨h1,h2,lB 1 4296674305 T1 h3,lC 1 0xa2c1c002a1cc001 T1 h4,h5,h6,h7⟩
theorem ZmT {p:Array Nat} {n:Nat} (hn:n <= p.size) (d:Zjy lt p n):Up lt (kas_rev p 0 n) n:=by
 intro i j hij hj;rw [Zf9 hn,Zf9 hn,if_pos ⟨Yag _,hj⟩,if_pos ⟨Yag _,Ydu hij hj⟩];exact d _ _ (lE 3 0x340214c2103c2011001 T1 hij (sbA _ _) (Yb (lC 2 0x200a2c1ec011011 T1 hj (sbA _ _)))) (lC 2 81348472104160289 T1 (Yb (lB 1 8264880145 T1 hj)) (Ya9 _ _))
theorem ZlK (o:ZgE lt) {p:Array Nat} {n nrem:Nat} (h1:1 <= n) (hn:n <= nrem) (hs:nrem <= p.size) (d:Zjy lt p n):
  let r:=kev lt (kas_tail3 n nrem p); r.2.Perm p /\ r.2.size = p.size /\ 1 <= r.1 /\ r.1 <= nrem /\ Up lt r.2 r.1:=by
 unfold kas_tail3;rw [Zfr];obtain ⟨a,b,c,_⟩:=Znt o (p:=kas_rev p 0 n) (nrem - n) n h1 (ZmT (Y2 hn hs) d);exact ⟨ZdR _ _ _,ZeV _ _ _,Y2 h1 a,Y2 b (lC 1 2206541614113 T1 (Yb hn)),c⟩
theorem Zid (o:ZgE lt) {p:Array Nat} {n nrem:Nat} (h1:1 <= n) (hn:n + 1 <= nrem) (hs:nrem <= p.size) (d:Zjy lt p (n + 1)):
  let r:=kev lt (kas_descPart n nrem p); r.2.Perm p /\ r.2.size = p.size /\ 1 <= r.1 /\ r.1 <= nrem /\ Up lt r.2 r.1:=by
 unfold kas_descPart;rw [Zfr];have one:Alike lt p (n + 1) 0:=fun i j h1 h2 h3 h4=>by
  have:i = j:=Ym (lD 3 0x120aec0ca3c01a3c2111001 T1 h3 h2 (sbA _ _)) (lD 3 0x300aec2ca1c013201a1c011 T1 h4 h1 (sbA _ _));subst this; exact o.rf _
 obtain ⟨a1,a2,a3,a4,a5,a6,a7⟩:=Ziv o (nrem - (n + 1)) p (n + 1) 0 (lA 0 168603328 T1) (lD 2 0x12a3cc00a3c2c211001 T1 hs (Yb hn)) d one;generalize kev lt (kas_desc (nrem - (n + 1)) p (n + 1) 0) = r at *;dsimp only;by_cases hq:r.2.2 > 0
 ·rw [if_pos hq]
  obtain ⟨b1,b2,b3,b4,b5⟩:=ZlK o (p:=kas_rev r.1 (r.2.1 - (r.2.2 + 1)) r.2.1) (n:=r.2.1) (nrem:=nrem) (lB 1 6981028865 T1 a5) (lD 2 0x3003a1c2c212a1cc001 T1 a4 (Yb hn)) (by rw [ZeV]; exact lC 2 137741013041 T1 a2 hs) (Zkn o (lF 4 0x3005a1c2c21450143312a1cc001 T1 a4 a2 hs (Yb hn)) a5 a6 a7);exact ⟨(b1.trans (ZdR _ _ _)).trans a1,(b2.trans (ZeV _ _ _)).trans a2,b3,b4,b5⟩
 ·rw [if_neg hq]
  obtain ⟨b1,b2,b3,b4,b5⟩:=ZlK o (p:=r.1) (n:=r.2.1) (nrem:=nrem) (lB 1 6981028865 T1 a5) (lD 2 0x3003a1c2c212a1cc001 T1 a4 (Yb hn)) (lC 2 137741013041 T1 a2 hs) a6;exact ⟨b1.trans a1,b2.trans a2,b3,b4,b5⟩
theorem Zpf (o:ZgE lt) {p:Array Nat} {nrem:Nat} (h1:1 <= nrem) (hs:nrem <= p.size):let r:=kev lt (kas_count nrem p); r.2.Perm p /\ r.2.size = p.size /\ 1 <= r.1 /\ r.1 <= nrem /\ Up lt r.2 r.1:=by
 unfold kas_count;rw [Zfr];have u1:Up lt p 1:=fun i j hij hj=>by
  have:i = j:=Ym hij (lB 1 16818193 T1 hj);subst this; exact o.rf _
 obtain ⟨a,b,c,d⟩:=Znt o (p:=p) (nrem - 1) 1 (Yj _) u1;generalize kev lt (kas_asc p (nrem - 1) 1) = n at *;dsimp only;by_cases e:(n == nrem) = true
 ·rw [if_pos e]; exact ⟨Ydv _,rfl,a,by show n <= nrem; exact lC 2 0x2002a1c211ac001 T1 b (Yb h1),c⟩
 ·rw [if_neg e]
  have hne:n ≠ nrem:=by simpa using e
  have hlt:lt (at' p n) (at' p (n - 1)) = true:=d.resolve_left (fun z=>lB 2 25787699217 T1 (Yz (lC 2 0x2002a1c211ac021 T1 z (Yb h1)) hne) (Yz (lC 2 9185053868998705 T1 z (sbA _ _)) (Yat hne)));by_cases hn:n > 1
  ·rw [if_pos hn]
   simp only [kev];cases c0:lt (p.getD 0 0) (p.getD (n - 1) 0) with
   | true=>exact ⟨Ydv _,rfl,a,by show n <= nrem; exact Ycz (Yz (lC 2 0x2002a1c211ac001 T1 b (Yb h1)) hne),c⟩
   | false=>
    simp only [Yae,if_false];have dn:Zjy lt (kas_rev p 0 n) (n + 1):=by
     have al:∀ i j,i < n -> j < n -> lt (at' p i) (at' p j) = false:=fun i j hi hj=>
      o.tr (o.tr (c j (n - 1) (lC 2 563648976195601 T1 hj (sbA _ _)) (lB 1 4313451553 T1 (Yb (lB 1 27267089 T1 hj)))) c0) (c 0 i (Yag _) (hi))
     intro i j hij hj;rw [Zf9 (by exact lC 2 1236985253889 T1 hs (Yz (lC 2 0x2002a1c211ac001 T1 b (Yb h1)) hne)),Zf9 (by exact lC 2 1236985253889 T1 hs (Yz (lC 2 0x2002a1c211ac001 T1 b (Yb h1)) hne))];by_cases ej:j < n
     ·rw [if_pos ⟨Yag _,Ydu hij ej⟩,if_pos ⟨Yag _,ej⟩]; exact al _ _ (lC 2 81348472104160289 T1 (Yb (lB 1 8264880145 T1 ej)) (Ya9 _ _)) (lC 2 81348472104160289 T1 (Yb (lB 1 8264880145 T1 ej)) (Ya9 _ _))
     ·have:j = n:=Ym (lB 1 4305567761 T1 hj) (Yaa ej)
      subst this;by_cases ei:i < j
      ·rw [if_pos ⟨Yag _,ei⟩,if_neg (fun z=>lA 1 393233 T1 z.2)]
       exact o.tr (o.asym hlt) (al _ _ (lC 2 81348472104160289 T1 (Yb (lB 1 8264880145 T1 ei)) (Ya9 _ _)) (lB 1 4313451553 T1 (Yb (lB 1 27267089 T1 ei))))
      ·have:i = j:=Ym hij (Yaa ei)
       subst this; rw [if_neg (fun z=>lA 1 393233 T1 z.2)]; exact o.rf _
    obtain ⟨b1,b2,b3,b4,b5⟩:=Zid o (p:=kas_rev p 0 n) (n:=n) (nrem:=nrem) a (lB 1 6991908881 T1 (Yz (lC 2 0x2002a1c211ac001 T1 b (Yb h1)) hne)) (by rw [ZeV]; exact hs) dn;exact ⟨b1.trans (ZdR _ _ _),b2.trans (ZeV _ _ _),b3,b4,b5⟩
  ·rw [if_neg hn]
   have:n = 1:=Ym (Yaa hn) a;subst this;exact Zid o (Yj _) (lA 1 2864712209 T1 (Yz h1 hne)) hs (Zgn o (Yj _) (fun i j hij hj=>by
    have:i = j:=Ym hij (lB 1 16818193 T1 hj);subst this; exact o.rf _) (o.asym hlt))
theorem Zi3 (o:ZgE lt) {p:Array Nat} {k:Nat} (u:Up lt p k):∀ (f l r:Nat),l <= r -> r <= k -> r <= l + f -> (∀ i,i < l -> lt (at' p k) (at' p i) = false) -> (∀ i,r <= i -> i < k -> lt (at' p k) (at' p i) = true) ->
  let m:=kev lt (kas_place p k f l r); m <= k /\ (∀ i,i < m -> lt (at' p k) (at' p i) = false) /\ (∀ i,m <= i -> i < k -> lt (at' p k) (at' p i) = true)
 | 0,l,r,h1,h2,h3,hl,hr=>⟨by show l <= k; exact Y2 h1 h2,hl,fun i hi hk=>hr i (by have:l <= i:=hi; exact lC 2 317624676323329 T1 this h3) hk⟩
 | f + 1,l,r,h1,h2,h3,hl,hr=>by
  unfold kas_place;by_cases c:l >= r
  ·rw [if_pos c]; exact ⟨by show l <= k; exact Y2 h1 h2,hl,fun i hi hk=>hr i (by have:l <= i:=hi; exact Y2 c this) hk⟩
  ·rw [if_neg c]
   simp only [kev];cases q:lt (p.getD k 0) (p.getD ((l + r) / 2) 0) with
   | true=>
    simp only [if_true];refine Zi3 o u f l ((l + r) / 2) (Yaa fun z=>lC 3 0x6a0c02d21c1112411012 T1 z c (Yhp _ (by decide))) (Yaa fun z=>lD 4 0x623c102d01020232411012 T1 z c h2 (Ye5 _ _)) (Yaa fun z=>lD 3 0x630c202d01a1c0c301210c12 T1 z h3 (Ye5 _ _)) hl fun i hi hk=>?_;cases z:lt (at' p k) (at' p i) with
    | true=>rfl
    | false=>
     have:=o.tr (u ((l + r) / 2) i hi hk) z;rw [q] at this; cases this
   | false=>
    simp only [Yae,if_false];exact Zi3 o u f ((l + r) / 2 + 1) r (Yaa fun z=>lC 3 0x602c102d012041a1c012 T1 z c (Ye5 _ _)) h2 (Yaa fun z=>lD 3 0x6a0c02d23c11a1c3c20121a0cc12 T1 z h3 (Yhp _ (by decide))) (fun i hi=>o.tr (u i ((l + r) / 2) (lB 1 4305567761 T1 hi) (Nat.lt_of_not_le fun z=>lD 4 0x623c102d01020232411002 T1 z c h2 (Ye5 _ _))) q) hr
theorem Zkk {p:Array Nat} {k d:Nat} (hk:k < p.size) (hd:d <= k) (i:Nat):at' (bubble p k d) i = if i = k - d then at' p k else if k - d < i /\ i <= k then at' p (i - 1) else at' p i:=by
 have e:=getElem?_bubble (xs:=p) hk d hd i;by_cases h1:i = k - d
 ·rw [if_pos h1] at e ⊢; exact ZlN e
 ·rw [if_neg h1] at e ⊢
  by_cases h2:k - d < i /\ i <= k
  ·rw [if_pos h2] at e ⊢; exact ZlN e
  ·rw [if_neg h2] at e ⊢; exact ZlN e
theorem ZpZ (o:ZgE lt):∀ (f:Nat) (p:Array Nat) (k:Nat),k + f = p.size -> Up lt p k -> (kev lt (kas_bin f p k)).Perm p /\ Up lt (kev lt (kas_bin f p k)) p.size
 | 0,p,k,h,u=>⟨Ydv _,by rw [← h]; exact u⟩
 | f + 1,p,k,h,u=>by
  unfold kas_bin;rw [Zfr];obtain ⟨a,b,c⟩:=Zi3 o u k 0 k (Yag _) (Yj _) (Ygs _ _) (fun i hi=>(lA 1 450577 T1 hi).elim) (fun i h1 h2=>(lB 2 25786650641 T1 h2 h1).elim);generalize kev lt (kas_place p k k 0 k) = m at *;have sz:=bubble_size p k (k - m);have up:Up lt (bubble p k (k - m)) (k + 1):=by
   intro i j hij hj;have e:k - (k - m) = m:=Ym (lD 2 0x230013c2121c001 T1 (sbA _ _) (Yb ((Ya9 _ _)))) (lD 2 0x31003c201210c21 T1 (Yb a) (sbA _ _));rw [Zkk (by exact lC 1 2204024704033 T1 h) ((Ya9 _ _)),Zkk (by exact lC 1 2204024704033 T1 h) ((Ya9 _ _)),e];by_cases e1:i = m
   ·rw [if_pos e1]
    by_cases e2:j = m
    ·rw [if_pos e2]; exact o.rf _
    ·rw [if_neg e2,if_pos ⟨(Yz (lC 2 2268279672881 T1 e1 hij) (Yat e2)),lB 1 4305567761 T1 hj⟩]; exact o.asym (c _ (lC 2 563648976195601 T1 (Yz (lC 2 2268279672881 T1 e1 hij) (Yat e2)) (sbA _ _)) (lC 2 81357452928466961 T1 hj (Yb (lB 1 27267089 T1 (Yz (lC 2 2268279672881 T1 e1 hij) (Yat e2))))))
   ·rw [if_neg e1]
    by_cases e2:j = m
    ·rw [if_pos e2,if_neg (fun z=>lC 3 0x6210102211011 T1 z.1 e2 hij)]; exact b _ ((Yz (lC 2 1236984205345 T1 e2 hij) e1))
    ·rw [if_neg e2]
     by_cases e3:m < i
     ·rw [if_pos (show m < i /\ i <= k from ⟨e3,lC 2 316667966111761 T1 hj hij⟩),if_pos (show m < j /\ j <= k from ⟨Yx e3 hij,lB 1 4305567761 T1 hj⟩)]; exact u _ _ (lD 3 0x320a3c1010a2c211001 T1 hij (Yb (lB 1 27267089 T1 e3)) (sbA _ _)) (lC 2 81357452928466961 T1 hj (Yb (lC 2 2886771740689 T1 e3 hij)))
     ·rw [if_neg (show ¬ (m < i /\ i <= k) from fun z=>e3 z.1)]
      by_cases e4:m < j
      ·rw [if_pos (show m < j /\ j <= k from ⟨e4,lB 1 4305567761 T1 hj⟩)]; exact u _ _ (lD 3 0x320a3c10120511011 T1 e4 e3 (sbA _ _)) (lC 2 81357452928466961 T1 hj (Yb (lB 1 27267089 T1 e4)))
      ·rw [if_neg (show ¬ (m < j /\ j <= k) from fun z=>e4 z.1)]; exact u _ _ (hij) (Yx (Yz (Yaa e4) e2) a)
  obtain ⟨h1,h2⟩:=ZpZ o f (bubble p k (k - m)) (k + 1) (by rw [sz]; exact Ym (lC 1 0x21a0cc02a1c0c21 T1 h) (lC 1 0x1a0cc202a1c0c31 T1 h)) up;exact ⟨h1.trans (bubble_perm _ _ _),by rw [sz] at h2; exact h2⟩
theorem ZrN (o:ZgE lt) {n:Nat} (h1:1 <= n):(kev lt (kas_sort n)).Perm (Ye2 (Yt n)) /\ Up lt (kev lt (kas_sort n)) n:=by
 unfold kas_sort;rw [Zfr];obtain ⟨a1,a2,a3,a4,a5⟩:=Zpf o (p:=Ye2 (Yt n)) h1 (by simp);generalize kev lt (kas_count n (Ye2 (Yt n))) = r at *;have sz:r.2.size = n:=by rw [a2]; simp
 by_cases c:r.1 < n
 ·rw [if_pos c]
  have hm:max r.1 1 = r.1:=by omega
  rw [hm];obtain ⟨b1,b2⟩:=ZpZ o (n - r.1) r.2 r.1 (Ym (lD 2 0x23c0132c211031 T1 sz (Yb (Ycz c))) (lD 2 0x23c0032c1011021 T1 sz (sbA _ _))) a5;exact ⟨b1.trans a1,by rw [sz] at b2; exact b2⟩
 ·rw [if_neg c]
  have:r.1 = n:=Ym a4 (Yaa c);exact ⟨a1,by rw [← this]; exact a5⟩
end
end L3
namespace L3
open PySem PySem.W PyProof.Rows
section
noncomputable def ZfJ {α:Type} (n:Nat) (R:α -> Prop):KasT α -> Prop
 | .ret a=>R a
 | .ask i j k=>i < n /\ j < n /\ ∀ b,ZfJ n R (k b)
theorem ZfJ.bind {α β:Type} {n:Nat} {R:α -> Prop} {R':β -> Prop} {f:α -> KasT β} (hf:∀ a,R a -> ZfJ n R' (f a)):∀ {t:KasT α},ZfJ n R t -> ZfJ n R' (t.bind f)
 | .ret a,h=>hf a h
 | .ask _ _ _,⟨h1,h2,h3⟩=>⟨h1,h2,fun b=>(h3 b).bind hf⟩
theorem Zl0 {α:Type} {n:Nat} {lt:Nat -> Nat -> Bool} {cmp:Nat -> Nat -> (Bool -> Ye -> Prop) -> Ye -> Prop} {G:Ye -> Prop} {R:α -> Prop} (hc:∀ i j (C:Bool -> Ye -> Prop) s,i < n -> j < n -> G s -> (∀ s',G s' -> C (lt i j) s') -> cmp i j C s) {Q:α -> Ye -> Prop}:
  ∀ (t:KasT α),ZfJ n R t -> ∀ (s:Ye),G s -> (∀ s',G s' -> Q (kev lt t) s') -> t.kasWp cmp Q s
 | .ret _,_,s,g,h=>h s g
 | .ask i j k,⟨h1,h2,h3⟩,s,g,h=>hc i j _ s h1 h2 g fun s' g'=>Zl0 hc (k (lt i j)) (h3 _) s' g' h
variable {n:Nat}
def Low (n:Nat) (p:Array Nat):Prop:=∀ i,at' p i < n
theorem Low.perm {p q:Array Nat} (h0:0 < n) (l:Low n p) (e:q.Perm p):Low n q:=by
 intro i;unfold at';rw [Ybg];cases h:q[i]? with
 | none=>simpa using h0
 | some x=>
  have hx:x ∈ p:=e.mem_iff.mp (Ygt h);obtain ⟨j,hj,e2⟩:=Array.mem_iff_getElem.mp hx;have:=l j;unfold at' at this;rw [Ybg,Array.getElem?_eq_getElem hj,e2] at this;simpa using this
theorem ZkH {p:Array Nat} (l:Low n p):∀ (f m:Nat),ZfJ n (fun _=>True) (kas_asc p f m)
 | 0,_=>trivial
 | f + 1,m=>⟨l _,l _,fun b=>by
  cases b with
  | true=>exact trivial
  | false=>exact ZkH l f (m + 1)⟩
theorem Zhg (h0:0 < n):∀ (f:Nat) (p:Array Nat) (m q:Nat),Low n p -> ZfJ n (fun r=>Low n r.1) (kas_desc f p m q)
 | 0,p,_,_,l=>l
 | f + 1,p,m,q,l=>by
  unfold kas_desc;refine ⟨l _,l _,fun b=>?_⟩;cases b with
  | true=>
   simp only [if_true];split
   ·exact Zhg h0 f _ _ _ (l.perm h0 (ZdR _ _ _))
   ·exact Zhg h0 f _ _ _ l
  | false=>
   simp only [Yae,if_false];refine ⟨l _,l _,fun c=>?_⟩;cases c with
   | true=>exact l
   | false=>exact Zhg h0 f _ _ _ l
theorem Zj3 (h0:0 < n) {p:Array Nat} {m nrem:Nat} (l:Low n p):ZfJ n (fun r=>Low n r.2) (kas_tail3 m nrem p):=
 ZfJ.bind (R:=fun _=>True) (R':=fun r=>Low n r.2) (f:=fun m'=>KasT.ret (m',kas_rev p 0 m)) (fun _ _=>l.perm h0 (ZdR p 0 m)) (ZkH (l.perm h0 (ZdR _ _ _)) _ _)
theorem Zhm (h0:0 < n) {p:Array Nat} {m nrem:Nat} (l:Low n p):ZfJ n (fun r=>Low n r.2) (kas_descPart m nrem p):=by
 refine ZfJ.bind (fun r hr=>?_) (Zhg h0 _ _ _ _ l);split
 ·exact Zj3 h0 (Low.perm h0 hr (ZdR _ _ _))
 ·exact Zj3 h0 hr
theorem Zom (h0:0 < n) {p:Array Nat} {nrem:Nat} (l:Low n p):ZfJ n (fun r=>Low n r.2) (kas_count nrem p):=by
 refine ZfJ.bind (fun m _=>?_) (ZkH l _ _);split
 ·exact l
 ·split
  ·refine ⟨l _,l _,fun b=>?_⟩
   cases b with
   | true=>exact l
   | false=>exact Zhm h0 (l.perm h0 (ZdR _ _ _))
  ·exact Zhm h0 l
theorem ZhY {p:Array Nat} {k:Nat} (l:Low n p):∀ (f a b:Nat),ZfJ n (fun _=>True) (kas_place p k f a b)
 | 0,_,_=>trivial
 | f + 1,a,b=>by
  unfold kas_place;split
  ·exact trivial
  ·refine ⟨l _,l _,fun c=>?_⟩
   cases c with
   | true=>exact ZhY l f _ _
   | false=>exact ZhY l f _ _
theorem ZnG (h0:0 < n):∀ (f:Nat) (p:Array Nat) (k:Nat),Low n p -> ZfJ n (fun _=>True) (kas_bin f p k)
 | 0,_,_,_=>trivial
 | f + 1,p,k,l=>ZfJ.bind (fun _ _=>ZnG h0 f _ _ (l.perm h0 (bubble_perm _ _ _))) (ZhY l _ _ _)
theorem Zpr (h0:0 < n):ZfJ n (fun _=>True) (kas_sort n):=by
 have l:Low n (Ye2 (Yt n)):=fun i=>by
  unfold at';rw [Ybg];cases h:(Ye2 (Yt n))[i]? with
  | none=>simpa using h0
  | some x=>
   have:=Ygt h;simpa using this
 refine ZfJ.bind (fun r hr=>?_) (Zom h0 l);split
 ·exact ZnG h0 _ _ _ hr
 ·exact trivial
end
section
variable {prog:Yai} {w:World} {A:Yas} {E:Value -> Ye -> Prop} {s:Ye}
noncomputable def Zis (h:Heap) (a:Addr) (vs:List Value):Heap:=((h.update a (Yc9 fun _=>#[])).push (Yfu "tuple" vs.toArray 0)).push (Yfu "list" #[] 0)
def ZgF (s s':Ye):Prop:=∃ t,s' = { s with toks:=t }
theorem Zqf {h:Heap} {a b:Addr} {vs:List Value} (hb:b ≠ a) (hlt:b < h.objs.size):(Zis h a vs).get? b = h.get? b:=by
 unfold Zis;rw [Ycq _ _ _ (by rw [Yh6,Yde]; exact Yy (Ybc hlt)),Ycq _ _ _ (by rw [Yde]; exact Yy hlt),Yhq _ _ _ _ hb]
theorem Zo8 {a:Addr} {vs:List Value} {n:Nat} {lt:Nat -> Nat -> Bool} {κ:Yid} {P:PySem.Fin -> Ye -> Prop} (o:ZgE lt) (ho:s.heap.get? a = some (Yfu "list" vs.toArray n)) (h64:vs.length < 64)
  (hk:2 <= vs.length -> ∀ (Q:Yid -> Ye -> Prop) s',ZgF { s with heap:=Zis s.heap a vs } s' -> (∀ s'',ZgF { s with heap:=Zis s.heap a vs } s'' -> Q κ s'') -> wpAny (model prog w) A (keyKind' vs.toArray) Q E s')
  (hc:2 <= vs.length -> ∀ i j (C:Bool -> Ye -> Prop) s',i < vs.length -> j < vs.length -> ZgF { s with heap:=Zis s.heap a vs } s' -> (∀ s'',ZgF { s with heap:=Zis s.heap a vs } s'' -> C (lt i j) s'') -> kas_ask prog w A κ vs i j C s')
  (h:∀ (out:List Value) (p:List Nat) t,p.Perm (Yt vs.length) -> (∀ (i j x y:Nat),i <= j -> p[i]? = some x -> p[j]? = some y -> lt y x = false) -> out = p.map (fun i=>vs.getD i Value.none) -> P (.done (.ret .none)) { s with heap:=sortedHeap s.heap a vs out.toArray,toks:=t }):
  wpAny (model prog w) A (Builtin.«list.sort» ⟨[.ref a],[]⟩) P E s:=by
 have ha:a < s.heap.objs.size:=Yr ho;obtain ⟨e1,g1⟩:∃ e1,(s.heap.update a (Yc9 fun _=>(#[]:Array Value))).get? a = some (Yfu "list" #[] e1):=⟨_,get?_update_seq ho _⟩;have g6:(Zis s.heap a vs).get? a = some (Yfu "list" #[] e1):=by
  unfold Zis; rw [Ycq _ _ _ (by rw [Yh6,Yde]; exact Yy (Ybc ha)),Ycq _ _ _ (by rw [Yde]; exact Yy ha)]; exact g1
 rw [list_sort_plain]; refine Yd (listItems_at ho rfl (Yd (Yhy ho rfl ?_ (by rw [Yi,Ybf]; exact lA 1 0x10000007b00402b011 T1 h64) (Yag _))));refine Yd (Yii g1 rfl (Yd (wpAny_newTuple ?_ (by show vs.length <= _; rw [Ybf]; exact lA 1 0x10000007b00402b011 T1 h64)))); refine Yd (wpAny_newList ?_ (Yag _));refine Yaz ?_;show wpAny (model prog w) A _ P E { s with heap:=Zis s.heap a vs };dsimp only;by_cases h2:vs.length < 2
 ·have q2:vs.toArray.size < 2:=by rw [Yi]; exact h2
  rw [if_pos q2,if_pos q2]; refine Yd (Ys ?_);rw [StateT.run_pure]; refine Yd (Ys ?_);dsimp only; refine Yd (Yii g6 rfl (Yd (Yhy g6 rfl ?_ (Yag _) ?_)))
  ·have es:(arrOf (SortSt.mk' general' (vs.toArray.zip vs.toArray) #[] 7 none)).map (·.2) = vs.toArray:=by
    show (vs.toArray.zip vs.toArray).map (·.2) = _;apply Array.toList_inj.mp; simp [List.map_snd_zip]
   rw [es]; simp only [bne_self_eq_false,Yae,if_false];refine Ys (h vs (Yt vs.length) s.toks (List.Perm.refl _) (fun i j x y hij hx hy=>?_) ?_)
   ·have:=(Yc.mp hx).1
    have:=(Yc.mp hy).1;simp only [Yd3] at *;have:i = j:=Ym hij (lC 2 563094658027537 T1 this h2);subst this; rw [hx] at hy; cases hy; exact o.rf _
   ·apply Ybb
    intro i;rw [Y1];by_cases hi:i < vs.length
    ·simp [hi]
    ·simp [hi]
  ·refine Y2 (Ycr (Array.size_map ..)) ?_
   show (vs.toArray.zip vs.toArray).size <= _;rw [Array.size_zip,Yi,Ybf]; exact lB 2 0xa10000007bc10010121b011 T1 h2 (Ybq _ _)
 ·have q2:¬ vs.toArray.size < 2:=by rw [Yi]; exact h2
  have h2':2 <= vs.length:=Yaa h2;rw [if_neg q2,if_neg q2];refine Yd (hk h2' _ _ ⟨s.toks,rfl⟩ fun s' hs'=>?_);refine Yd (Ybr (kat_run (Q:=fun st' s''=>ZgF { s with heap:=Zis s.heap a vs } s'' /\ failedOf st' = none /\ arrOf st' = (kev lt (kas_sort vs.length)).map (kas_item (vs.toArray.zip vs.toArray))) (G:=fun p s''=>ZgF { s with heap:=Zis s.heap a vs } s'' /\ p = kev lt (kas_sort vs.length)) rfl h2' h64
   (fun p st' s'' _ a2 a3 ⟨a4,a5⟩=>⟨a4,a3,by rw [a2,a5]⟩) (Zl0 (n:=vs.length) (hc h2') _ (Zpr (lA 1 3775011585 T1 h2')) s' hs' fun s'' g=>⟨g,rfl⟩)) ?_ fun _ _ e=>e)
  rintro ⟨⟨⟩,st'⟩ s'' ⟨⟨t,rfl⟩,hf,har⟩;dsimp only;obtain ⟨pp,pu⟩:=ZrN o (n:=vs.length) (lA 1 2684492545 T1 h2');generalize kev lt (kas_sort vs.length) = p at pp pu har;have hout:=kat_snds (vs:=vs) (ks:=vs) rfl har;rw [hout];have hlen:p.toList.length = vs.length:=by have:=pp.size_eq; simpa using this
  refine Yd (Yii g6 rfl (Yd (Yhy g6 rfl ?_ (Yag _) (by rw [Yi,Yac,hlen,Ybf]; exact lA 1 0xa10000007bc00402b011 T1 h64))));rw [hf]; simp only [bne_self_eq_false,Yae,if_false];refine Ys (h _ p.toList t ?_ (fun i j x y hij hx hy=>?_) rfl)
  ·have:=Array.perm_iff_toList_perm.mp pp; simpa using this
  ·have hj:=(Yc.mp hy).1
   have u:=pu i j hij (by rw [hlen] at hj; exact hj);have cv:∀ (k z:Nat),p.toList[k]? = some z -> at' p k = z:=fun k z hz=>by
    rw [at',Ybg,← Ygq,hz]; rfl
   rw [cv i x hx,cv j y hy] at u; exact u
theorem Zmb {l:Addr} {vs:List Value} {lt:Nat -> Nat -> Bool} {κ:Yid} {Q:Value -> Ye -> Prop} (o:ZgE lt) (hl:s.heap.IsList l vs.toArray) (h64:vs.length < 64)
  (hk:2 <= vs.length -> ∀ (h':Heap) (Q:Yid -> Ye -> Prop) s',(∀ b u,s.heap.get? b = some u -> h'.get? b = some u) -> ZgF { s with heap:=h' } s' -> (∀ s'',ZgF { s with heap:=h' } s'' -> Q κ s'') -> wpAny (model prog w) A.in1.in1 (keyKind' vs.toArray) Q (fun _ _=>False) s')
  (hc:2 <= vs.length -> ∀ (h':Heap) i j (C:Bool -> Ye -> Prop) s',(∀ b u,s.heap.get? b = some u -> h'.get? b = some u) -> i < vs.length -> j < vs.length -> ZgF { s with heap:=h' } s' -> (∀ s'',ZgF { s with heap:=h' } s'' -> C (lt i j) s'') -> kas_ask prog w A.in1.in1 κ vs i j C s')
  (h:∀ (out:List Value) (p:List Nat) t h' a,p.Perm (Yt vs.length) -> (∀ (i j x y:Nat),i <= j -> p[i]? = some x -> p[j]? = some y -> lt y x = false) -> out = p.map (fun i=>vs.getD i Value.none) ->
   (∀ b u,s.heap.get? b = some u -> h'.get? b = some u) -> s.heap.objs.size <= a -> (∃ e,h'.get? a = some (Yfu "list" out.toArray e)) -> Q (.ref a) { s with heap:=h',toks:=t }):
  wpAny (model prog w) A (call (.builtin "sorted") [.ref l]) Q E s:=by
 refine Calls.call_function_entry kind_sorted plain_sorted entry_sorted (args_sorted1 _) ?_; unfold Builtin.«sorted»;refine Yd (m:=checkCount "sorted" 1 1 _) (Ys (Yd (collect_list hl ?_ (by rw [Ybf]; exact lA 1 0x10000007b00402b011 T1 h64)))); refine Yd (wpAny_newList ?_ (by rw [Ybf]; exact lA 1 0x10000007b00402b011 T1 h64));have hsz:((s.heap.push (Yfu "list" #[] 0)).update s.heap.objs.size (Yc9 (· ++ vs.toArray))).objs.size = s.heap.objs.size + 1:=(Yde ..).trans (Yh6 ..);obtain ⟨h3,e3⟩:∃ h3,((s.heap.push (Yfu "list" #[] 0)).update s.heap.objs.size (Yc9 (· ++ vs.toArray))).push (Yfu "list" vs.toArray 0) = h3:=⟨_,rfl⟩;have g3:h3.get? (s.heap.objs.size + 1) = some (Yfu "list" vs.toArray 0):=by rw [← e3,← hsz]; exact Y6 _ rfl
 have k3:∀ b u,s.heap.get? b = some u -> h3.get? b = some u:=fun b u q=>by
  have hlt:b < s.heap.objs.size:=Yr q;rw [← e3,Ycq _ _ _ (by rw [hsz]; exact Yy (Ybc hlt)),Yhq _ _ _ _ (Yy hlt),Ycq _ _ _ (Yy hlt)]; exact q
 have z3:h3.objs.size = s.heap.objs.size + 2:=by rw [← e3,Yh6,hsz]
 show wpAny _ _ _ _ _ { s with heap:=((s.heap.push (Yfu "list" #[] 0)).update s.heap.objs.size (Yc9 (· ++ vs.toArray))).push (Yfu "list" vs.toArray 0) };rw [hsz,e3];have km:∀ b u,s.heap.get? b = some u -> (Zis h3 (s.heap.objs.size + 1) vs).get? b = some u:=fun b u q=>by
  have hlt:b < s.heap.objs.size:=Yr q;rw [Zqf (Yy (Ybc hlt)) (by rw [z3]; exact Ybc (Ybc hlt))]; exact k3 b u q
 refine Yd (Yaz (Ycw slot_list_sort ⟨_,g3,rfl⟩ entry_list_sort ?body (args_list_sort _)))
 case body=>
  refine Zo8 (s:={ s with heap:=h3 }) (κ:=κ) o g3 h64 (fun h2 Q' s' hs' hq=>Ybr (hk h2 _ Q' s' km hs' hq) (fun _ _ q=>q) fun _ _ z=>z.elim) (fun h2 i j C s' hi hj hs' hq=>hc h2 _ i j C s' km hi hj hs' hq) fun out p t hp hu ho=>⟨_,rfl,Ys ⟨_,rfl,?_⟩⟩;refine h out p t (sortedHeap h3 (s.heap.objs.size + 1) vs out.toArray) (s.heap.objs.size + 1) hp hu ho (fun b u q=>?_) (Yw _ _) ?_
  ·have hlt:b < s.heap.objs.size:=Yr q
   rw [sortedHeap_old (Yy (Ybc hlt)) (by rw [z3]; exact Ybc (Ybc hlt))]; exact k3 b u q
  ·exact sortedHeap_at g3
end
end L3
namespace L3
open PySem PySem.W PySem.Spec PyProof.Rows L2
section
variable {prog:Yai} {w:World} {A:Yas} {K:Ya} {H:Hp} {ι:List Addr}
theorem ZpH {s:Ye} {C:Bool -> Ye -> Prop} {r:Bool} (hC:C r s):∀ (x y:List D) (xs ys:List V) (us ws:List Value) (k:Nat) (fin:Bool),Zal K H ι x xs -> Zal K H ι y ys -> Vals xs us -> Vals ys ws -> fin = decide (x.length < y.length) ->
  (k = 0 -> (∀ d,x.head? = some d -> Zjk d = true)) -> ltT x y = some r -> KatLex prog w A true fin C (us.zip ws) k s
 | [],[],xs,ys,us,ws,k,fin,rx,ry,vx,vy,hf,_,h=>by
  have e1:=rx.nil_inv; have e2:=ry.nil_inv; subst e1 e2; cases vx; cases vy;refine kat_nil ?_;rw [← Yq h] at hC; rw [hf]; exact hC
 | [],d :: y,xs,ys,us,ws,k,fin,rx,ry,vx,vy,hf,_,h=>by
  have e1:=rx.nil_inv; subst e1; cases vx;refine kat_nil ?_;rw [← Yq h] at hC; rw [hf]; exact hC
 | d :: x,[],xs,ys,us,ws,k,fin,rx,ry,vx,vy,hf,_,h=>by
  have e1:=ry.nil_inv; subst e1; cases vy;rw [List.zip_nil_right];refine kat_nil ?_;rw [← Yq h] at hC; rw [hf]; exact hC
 | d :: x,e :: y,xs,ys,us,ws,k,fin,rx,ry,vx,vy,hf,h0,h=>by
  obtain ⟨v,xs',rfl,r1,r2⟩:=rx.cons_inv;obtain ⟨v',ys',rfl,r1',r2'⟩:=ry.cons_inv;cases vx with
  | @cons _ u _ us' ru rus=>
  cases vy with
  | @cons _ u' _ ws' ru' rus'=>
  rw [List.zip_cons_cons];have hfin:fin = decide (x.length < y.length):=by rw [hf]; simp
  rcases ZeJ h with ⟨i,j,rfl,rfl⟩ | ⟨i,j,rfl,rfl⟩
  ·have ev:=r1.int_inv; have ev':=r1'.int_inv
   subst ev ev';obtain ⟨t,rfl⟩:=ru;obtain ⟨t',rfl⟩:=ru';refine kat_cons (wpAny_eqBool_int ?_);rw [Zf1] at h;by_cases e:i = j
   ·subst e
    rw [if_pos rfl] at h;rw [beq_self_eq_true];exact kat_yes (ZpH hC x y xs' ys' us' ws' (k + 1) fin r2 r2' rus rus' hfin (fun z=>(lA 1 116001825 T1 z).elim) h)
   ·rw [if_neg e] at h
    have hb:(i == j) = false:=by simpa using e
    rw [hb];refine kat_no ?_;have hr:decide (i < j) = r:=Yq h;cases hk:(true && k == 0) with
    | true=>exact oneLt_int (by rw [hr]; exact hC)
    | false=>exact kat_one _ _ (lt_int (by show C _ s; rw [hr]; exact hC))
  ·have ev:=r1.str_inv; have ev':=r1'.str_inv
   subst ev ev';obtain ⟨t,rfl⟩:=ru;obtain ⟨t',rfl⟩:=ru';refine kat_cons (wpAny_eqBool_str ?_);rw [Zgl] at h;by_cases e:i = j
   ·subst e
    rw [if_pos rfl] at h;rw [decide_eq_true rfl];exact kat_yes (ZpH hC x y xs' ys' us' ws' (k + 1) fin r2 r2' rus rus' hfin (fun z=>(lA 1 116001825 T1 z).elim) h)
   ·rw [if_neg e] at h
    have hb:decide ((⟨i.toArray⟩:Str) = ⟨j.toArray⟩) = false:=by
     rw [decide_eq_false_iff_not]; intro z; injection z with z; exact e (by simpa using congrArg Yeu z)
    rw [hb];refine kat_no ?_;have hr:decide (i < j) = r:=Yq h;have hk0:k ≠ 0:=fun z=>ft (h0 z _ rfl);have hk:(true && k == 0) = false:=by simp [hk0]
    rw [hk];exact kat_one _ _ (lt_str (by show C _ s; rw [show decide ((⟨i.toArray⟩:Str).cps.toList < (⟨j.toArray⟩:Str).cps.toList) = r from hr]; exact hC))
end
section
variable {X:Cx}
theorem Zfp {x:List D} {vs:List V} {its:List Value} {K:Ya} {H:Hp} {ι:List Addr} (r:Zal K H ι x vs) (v:Vals vs its) {i:Nat} {d:D} (h:x[i]? = some d):∃ u,RelV u (its.getD i Value.none) /\ Rep K H ι d u /\ vs[i]? = some u:=by
 obtain ⟨u,e1,r1⟩:=r.get h;obtain ⟨z,e2,r2⟩:=v.get e1;refine ⟨u,?_,r1,e1⟩;rw [Yau,e2]; exact r2
theorem Zh7 {pins:List (Addr × Obj)} {σ:St} {H:Hp} {s:Ye} {ι:List Addr} (I:Inv X pins σ H s) {h':Heap} (k:∀ b u,s.heap.get? b = some u -> h'.get? b = some u):∀ (x:List D) (vs:List V) (its:List Value),Zal X.K H ι x vs -> Vals vs its -> x.all ZnF = true ->
  ∃ fs:List Value,KatTups h' its fs /\ fs.length = x.length /\ ∀ f ∈ fs,∃ i t,f = .int i t
 | [],vs,its,r,v,_=>by have e:=r.nil_inv; subst e; cases v; exact ⟨[],.nil,rfl,fun f h=>by simp at h⟩
 | d :: x,vs,its,r,v,h=>by
  obtain ⟨u,vs',rfl,r1,r2⟩:=r.cons_inv;cases v with
  | @cons _ z _ its' rz rzs=>
  simp only [Yb2,Yv] at h;obtain ⟨fs,t,l,hf⟩:=Zh7 I k x vs' its' r2 rzs h.2;have hd:=h.1;cases d with
  | tup ds=>
   cases ds with
   | nil=>exact ft hd
   | cons e ds=>
    cases e with
    | int i=>
     obtain ⟨a,ws,rfl,sq,rr⟩:=r1.tup_inv;cases (show z = Value.ref a from rz);obtain ⟨its2,rv,⟨o,ho,hc,n,hdat⟩,_⟩:=I.tuple sq;obtain ⟨u0,ws',rfl,q1,q2⟩:=rr.cons_inv;have e0:=q1.int_inv;subst e0;cases rv with
     | @cons _ y0 _ ys ry0 _=>
     obtain ⟨tk,rfl⟩:=ry0;refine ⟨.int i tk :: fs,KatTups.cons (k a o ho) hc hdat (by simp) t,by simp [l],fun f hm=>?_⟩;rcases Yah.mp hm with rfl | hm
     ·exact ⟨i,tk,rfl⟩
     ·exact hf f hm
    | _=>exact ft hd
  | _=>exact ft hd
theorem Zal.pick {K:Ya} {H:Hp} {ι:List Addr} {x:List D} {vs:List V} (r:Zal K H ι x vs) (d0:D) (v0:V):∀ (p:List Nat),(∀ i ∈ p,i < x.length) -> Zal K H ι (p.map fun i=>x.getD i d0) (p.map fun i=>vs.getD i v0)
 | [],_=>Zal.nil
 | i :: p,h=>by
  have hi:=h i Y7;obtain ⟨v,e,q⟩:=r.get (i:=i) (d:=x[i]) (by simp [hi]);refine Zal.cons ?_ (Zal.pick r d0 v0 p fun j hj=>h j (Y3 _ hj));dsimp only;rw [Yau,Yau,e,Yo hi]; exact q
theorem Vals.pick {vs:List V} {us:List Value} (r:Vals vs us) (v0:V):∀ (p:List Nat),(∀ i ∈ p,i < vs.length) -> Vals (p.map fun i=>vs.getD i v0) (p.map fun i=>us.getD i Value.none)
 | [],_=>.nil
 | i :: p,h=>by
  have hi:=h i Y7;obtain ⟨v,e,q⟩:=r.get (i:=i) (x:=vs[i]) (by simp [hi]);refine .cons ?_ (Vals.pick r v0 p fun j hj=>h j (Y3 _ hj));dsimp only;rw [Yau,Yau,e,Yo hi]; exact q
theorem Zoo {x:List D} (d0:D) {p:List Nat} (h:p.Perm (Yt x.length)):(p.map fun i=>x.getD i d0).Perm x:=by
 have h1:=h.map (fun i=>x.getD i d0);have h2:(Yt x.length).map (fun i=>x.getD i d0) = x:=by
  apply Ybb;intro i;rw [Y1];by_cases hi:i < x.length
  ·simp [hi]
  ·simp [hi]
 rwa [h2] at h1
theorem ZkA {x:List D} (cmp:∀ a ∈ x,∀ b ∈ x,(ltD a b).isSome = true) {a b:D} (ha:a ∈ x) (hb:b ∈ x) (h:decide (ltD a b = some true) = false):ltD a b = some false:=by
 have c:=cmp a ha b hb;cases q:ltD a b with
 | none=>rw [q] at c; cases c
 | some z=>cases z with
  | true=>exact absurd q (of_decide_eq_false h)
  | false=>rfl
theorem Zsn (x:List D):∃ d0:D,∀ i:Nat,x ≠ [] -> x.getD i d0 ∈ x:=by
 cases x with
 | nil=>exact ⟨.non,fun _ h=>absurd rfl h⟩
 | cons e y=>
  refine ⟨e,fun i _=>?_⟩;rw [Yau];cases q:(e :: y)[i]? with
  | some d=>exact Yax q
  | none=>exact Y7
theorem Zsv {x:List D} (cmp:∀ a ∈ x,∀ b ∈ x,(ltD a b).isSome = true) {d0:D} (mem:∀ i:Nat,x ≠ [] -> x.getD i d0 ∈ x):ZgE fun i j=>decide (ltD (x.getD i d0) (x.getD j d0) = some true):=by
 refine ⟨fun {i j} h=>decide_eq_false fun h'=>?_,fun {i j k} h1 h2=>decide_eq_false fun h3=>?_⟩
 ·rw [Zmj (of_decide_eq_true h)] at h'; cases h'
 ·by_cases hx:x = []
  ·subst hx
   rw [List.getD_nil,List.getD_nil] at h3;have z:=Zmj h3; rw [h3] at z; cases z
  ·rw [ZsN (ZkA cmp (mem j hx) (mem i hx) h1) (ZkA cmp (mem k hx) (mem j hx) h2)] at h3; cases h3
theorem Zte {x:List D} (cmp:∀ a ∈ x,∀ b ∈ x,(ltD a b).isSome = true) {d0:D} (mem:∀ i:Nat,x ≠ [] -> x.getD i d0 ∈ x) {p:List Nat} (hp:p.Perm (Yt x.length))
  (hu:∀ (i j x' y':Nat),i <= j -> p[i]? = some x' -> p[j]? = some y' -> decide (ltD (x.getD y' d0) (x.getD x' d0) = some true) = false):Zi7 x (p.map fun i=>x.getD i d0):=by
 refine ⟨Zoo d0 hp,?_⟩;rw [Yd1,List.pairwise_iff_getElem];intro i j hi hj hij;have hx:x ≠ []:=fun e=>by
  subst e;have z:=hp.length_eq;rw [Yd3] at z;rw [z] at hi;exact absurd hi (Nat.not_lt_zero _)
 have z:=ZkA cmp (mem p[j] hx) (mem p[i] hx) (hu i j p[i] p[j] (Ycz hij) (Yo hi) (Yo hj));unfold leD;rw [z]
theorem Zjh:ZbZ X (.builtin "sorted") (rB X.K Zcc):=by
 intro pins s σ H xs us Q I rs ⟨ι,M,ds,S,rd,h⟩;cases ds with
 | nil=>exact h.elim
 | cons d ds=>
  cases ds with
  | cons _ _=>cases d <;> exact h.elim
  | nil=>
   obtain ⟨x0,rfl,r⟩:=ZfC rd;obtain ⟨u,rfl,ru⟩:=vals1 rs;cases d with
   | ref n=>
    cases hn:M[n]? with
    | none=>rw [ZcS,hn] at h; exact h.elim
    | some ob=>
     cases ob with
     | dct _=>rw [ZcS,hn] at h; exact h.elim
     | fdct _=>rw [ZcS,hn] at h; exact h.elim
     | ins _ _=>rw [ZcS,hn] at h; exact h.elim
     | lst x=>
      simp only [ZcS,hn] at h;split at h
      ·rename_i ok
       obtain ⟨a,ha,rfl⟩:=r.ref_inv;cases ru;obtain ⟨vs,ev,rv⟩:=S.obj n _ a hn ha;obtain ⟨its,rr,pl,zl⟩:=I.list (SqL.of ev);have lx:its.length = x.length:=by rw [← rr.length,rv.length]
       obtain ⟨d0,mem⟩:=Zsn x;have ltok:=Zsv ok.cmp mem;have fin:∀ (out:List Value) (p:List Nat) t h' a',p.Perm (Yt its.length) -> (∀ (i j x' y':Nat),i <= j -> p[i]? = some x' -> p[j]? = some y' -> decide (ltD (x.getD y' d0) (x.getD x' d0) = some true) = false) -> out = p.map (fun i=>its.getD i Value.none) ->
         (∀ b u,s.heap.get? b = some u -> h'.get? b = some u) -> s.heap.objs.size <= a' -> (∃ e,h'.get? a' = some (Yfu "list" out.toArray e)) -> EP X pins σ Q (.ref a') { s with heap:=h',toks:=t }:=by
        intro out p t h' a' hp hu ho hk ha' ⟨e,he⟩;have hlt:∀ i ∈ p,i < x.length:=fun i hi=>by have:=hp.mem_iff.mp hi; rw [lx] at this; simpa using this
        have plen:p.length = x.length:=by have:=hp.length_eq; simpa [lx] using this
        have sq:=Zte ok.cmp mem (by rw [← lx]; exact hp) hu;rw [Zmn sq] at h;have hn0:=I.hok.fresh ha';obtain ⟨x2,S2,r2⟩:=S.lst hn0 (rv.pick d0 .non p hlt);refine ⟨.ref a',_,I.laid (o:=.lst (p.map fun i=>vs.getD i .non)) hk ha' ⟨?_,out,e,?_,he⟩,rfl,h _ _ _ x2 S2 r2⟩
        ·rw [Yac,plen,Ybf]; have:=ok.len; exact lA 1 0x10000007b00402b011 T1 this
        ·rw [ho]; exact Vals.pick rr .non p fun i hi=>by rw [rv.length]; exact hlt i hi
       rcases ok.kind with kd | kd
       ·refine Zmb (κ:=tuples' (Value.type "int" != Value.type "tuple")) ltok pl.isList (by rw [lx]; exact ok.len) (fun h2 h' Q' s' hk hs' hq=>?_) (fun h2 h' i j C s' hk hi hj hs' hC=>?_) fun out p t h' a' hp hu ho hk ha' he=>fin out p t h' a' hp hu ho hk ha' he
        ·obtain ⟨fs,kt,lf,hf⟩:=Zh7 I hk x vs its rv rr kd
         obtain ⟨t,rfl⟩:=hs';refine kat_kind (T:=.type "int") kt (by rw [lf,← lx]; exact lA 1 3775011585 T1 h2) (fun v hv=>?_) (by decide) (hq _ ⟨t,rfl⟩);obtain ⟨i,tk,rfl⟩:=hf v hv;exact Looks.now
        ·obtain ⟨t,rfl⟩:=hs'
         have hxi:x[i]? = some x[i]:=by rw [Yo]
         have hxj:x[j]? = some x[j]:=by rw [Yo]
         obtain ⟨vi,ri,qi,_⟩:=Zfp rv rr hxi;obtain ⟨vj,rj,qj,_⟩:=Zfp rv rr hxj;have ki:=Yaf.mp kd _ (Yu (show i < x.length by exact lC 2 2203874037777 T1 hi lx));have kj:=Yaf.mp kd _ (Yu (show j < x.length by exact lC 2 2203874037777 T1 hj lx));have cm:=ok.cmp _ (Yu (show i < x.length by exact lC 2 2203874037777 T1 hi lx)) _ (Yu (show j < x.length by exact lC 2 2203874037777 T1 hj lx));have gi:x.getD i d0 = x[i]:=by simp [show i < x.length by exact lC 2 2203874037777 T1 hi lx]
         have gj:x.getD j d0 = x[j]:=by simp [show j < x.length by exact lC 2 2203874037777 T1 hj lx]
         simp only [gi,gj] at hC;generalize x[i] = di at *;generalize x[j] = dj at *;cases di with
         | tup di=>
          cases dj with
          | tup dj=>
           obtain ⟨a1,w1,rfl,s1,e1⟩:=qi.tup_inv;obtain ⟨a2,w2,rfl,s2,e2⟩:=qj.tup_inv;obtain ⟨i1,v1,⟨o1,g1,_,n1,d1⟩,_⟩:=I.tuple s1;obtain ⟨i2,v2,⟨o2,g2,_,n2,d2⟩,_⟩:=I.tuple s2;unfold kas_ask;rw [show its.getD i Value.none = .ref a1 from ri,show its.getD j Value.none = .ref a2 from rj];cases q:ltT di dj with
           | none=>simp only [Zl2,ZlG,q] at cm; cases cm
           | some b=>
            refine kat_lt (hk _ _ g1) d1 (hk _ _ g2) d2 (ZpH (r:=b) ?_ di dj w1 w2 i1 i2 0 _ e1 e2 v1 v2 ?_ (fun _ d hd=>?_) q)
            ·have:=hC _ ⟨t,rfl⟩
             simp only [Zl2,ZlG,q] at this;cases b <;> simpa using this
            ·rw [Yi,Yi,← v1.length,← v2.length,e1.length,e2.length]
            ·cases di with
             | nil=>cases hd
             | cons d' r'=>cases hd; cases d <;> first | exact rfl | exact ft ki
          | _=>exact ft kj
         | _=>exact ft ki
       ·refine Zmb (κ:=oneType') ltok pl.isList (by rw [lx]; exact ok.len) (fun h2 h' Q' s' hk hs' hq=>?_) (fun h2 h' i j C s' hk hi hj hs' hC=>?_) fun out p t h' a' hp hu ho hk ha' he=>fin out p t h' a' hp hu ho hk ha' he
        ·obtain ⟨t,rfl⟩:=hs'
         refine kas_kind (T:=.type "int") h2 (fun v hv=>?_) (by decide) (by decide) (hq _ ⟨t,rfl⟩);obtain ⟨i,hi,rfl⟩:=List.getElem_of_mem hv;have hxi:x[i]? = some x[i]:=by rw [Yo]
         obtain ⟨vi,ri,qi,_⟩:=Zfp rv rr hxi;have ki:=Yaf.mp kd _ (Yu (show i < x.length by exact lC 2 2203874037777 T1 hi lx));have gi:its.getD i Value.none = its[i]:=by simp [hi]
         rw [gi] at ri;generalize x[i] = di at *;cases di with
         | int k=>
          have:=qi.int_inv;subst this;obtain ⟨tk,e⟩:=ri;rw [e];exact Looks.now
         | _=>simp [Zjk] at ki
        ·obtain ⟨t,rfl⟩:=hs'
         have hxi:x[i]? = some x[i]:=by rw [Yo]
         have hxj:x[j]? = some x[j]:=by rw [Yo]
         obtain ⟨vi,ri,qi,_⟩:=Zfp rv rr hxi;obtain ⟨vj,rj,qj,_⟩:=Zfp rv rr hxj;have ki:=Yaf.mp kd _ (Yu (show i < x.length by exact lC 2 2203874037777 T1 hi lx));have kj:=Yaf.mp kd _ (Yu (show j < x.length by exact lC 2 2203874037777 T1 hj lx));have gi:x.getD i d0 = x[i]:=by simp [show i < x.length by exact lC 2 2203874037777 T1 hi lx]
         have gj:x.getD j d0 = x[j]:=by simp [show j < x.length by exact lC 2 2203874037777 T1 hj lx]
         simp only [gi,gj] at hC;generalize x[i] = di at *;generalize x[j] = dj at *;cases di with
         | int p=>
          cases dj with
          | int q=>
           have:=qi.int_inv; subst this;have:=qj.int_inv; subst this;obtain ⟨t1,e1⟩:=ri;obtain ⟨t2,e2⟩:=rj;unfold kas_ask;rw [e1,e2,keyLt'_oneType];refine oneLt_int ?_;have:=hC _ ⟨t,rfl⟩;simpa [Zl2,ZlG] using this
          | _=>simp [Zjk] at kj
         | _=>simp [Zjk] at ki
      ·exact h.elim
   | _=>exact h.elim
end
end L3
namespace L3
open PySem PySem.Spec PyProof.Rows L2
section
variable {X:Cx} {a b c e o:Expr} {es:List Expr} {pos p apos cpos:Pos} {f g h:E3} {gl:EL3}
theorem ZuI:ZbZ X (.type "int") (rB X.K ZqB):=ZbZ.imp Zoz fun xs H Q zz1=>by
 obtain ⟨ι,M,ds,S,rd,h⟩:=zz1;cases ds with
 | nil=>exact h.elim
 | cons d ds=>
  cases ds with
  | cons _ _=>cases d <;> exact h.elim
  | nil=>
   obtain ⟨x,rfl,r⟩:=ZfC rd;cases d with
   | int i=>exact .inl ⟨i,by rw [r.int_inv],Zat.ok h S Rep.int⟩
   | bl k=>exact .inr ⟨k,by rw [r.bl_inv],Zat.ok h S Rep.int⟩
   | _=>exact h.elim
theorem Ztd {K:Ya} {H:Hp} {ι:List Addr} {M:Store} (S:ZaJ K H ι M) {n:Nat} {a:Addr} (h:(Zcr M[n]?).isSome = true) (ha:ι[n]? = some a):IsD H a:=by
 cases hn:Zcr M[n]? with
 | none=>rw [hn] at h; cases h
 | some kvs=>
  obtain ⟨ws,hw,_⟩:=Zlf S hn ha;exact .inl ⟨ws,hw⟩
theorem Zqu {K:Ya} {H:Hp} {ι:List Addr} {kvs:List (Zbw × D)} {ws:List (Key × V)} {d:D} {z:V} (kr:KvR K H ι kvs ws) (k:Zbw) (rd:Rep K H ι d z):Rep K H ι ((ZcV kvs k).getD d) ((Zf8 ws (dk k)).getD z):=by
 have hv:=kr.val k;cases q:ZcV kvs k with
 | none=>rw [q] at hv; rw [hv]; exact rd
 | some w=>
  rw [q] at hv;obtain ⟨v,ev,rv⟩:=hv;rw [ev]; exact rv
theorem Zqh {e':Expr} (hu:X.A.units + 80 < cLine) (ho:C3 X o f) (he:C3 X e g) (he':C3 X e' h) (m:M2 X o "get" apos e e' cpos:=by exact ⟨rfl,rfl,rfl,rfl⟩):C3 X (.Call (.Attribute o "get" apos) [e,e'] [] cpos) (ZeQ Zox ZmQ f (Zb g (Zb h Zj))):=(Zpy (hu1 hu) ho he he' m).imp fun σ H Q zz1=>by
 obtain ⟨ι,M,env,S,E,hh⟩:=zz1;obtain ⟨d,M1,e1,hh⟩:=Zat.bind hh;refine ⟨ι,M,env,S,E,?_⟩;rw [e1];intro x H1 ι1 x1 S1 r1;cases d with
 | ref n=>
  by_cases hD:(Zcr M1[n]?).isSome = true
  ·simp only [Ziz,hD,if_true] at hh
   obtain ⟨ad,ha,rfl⟩:=r1.ref_inv;obtain ⟨ds,M2,e2,hh⟩:=Zat.bind hh;refine ⟨ad,rfl,Ztd S1 hD ha,ι1,M1,env,S1,E.mono x1,?_⟩;cases q:g env M1 with
   | bad=>simp [q] at e2
   | exc x' M'=>simp [q] at e2
   | ok b M2'=>
    cases q':h env M2' with
    | bad=>simp [q,q'] at e2
    | exc x' M'=>simp [q,q'] at e2
    | ok b' M3'=>
     simp only [Zb,q,q',R3.bind,Zj] at e2;cases e2;intro y H2 ι2 x2 S2 r2;refine ⟨ι2,M2',env,S2,(E.mono x1).mono x2,?_⟩;rw [q'];intro z H3 ι3 x3 S3 r3;simp only [Zk9,Zk3] at hh;cases hn:Zcr M2[n]? with
     | none=>simp only [hn] at hh; exact hh.elim
     | some kvs=>
      cases hk:Zeo b with
      | none=>simp only [hn,hk] at hh; exact hh.elim
      | some kk=>
       simp only [hn,hk] at hh;obtain ⟨ws,hw,kr⟩:=Zlf S3 hn (x3.pre _ _ (x2.pre _ _ ha));refine ⟨Zf8 ws (dk kk),.inl ⟨ws,dk kk,hw,Ziw hk r2,rfl⟩,hh _ H3 ι3 ((x1.trans x2).trans x3) S3 (Zqu kr kk r3)⟩
  ·simp only [Ziz,hD] at hh; exact hh.elim
 | _=>exact hh.elim
end
section
variable {X:Cx} {pins:List (Addr × Obj)} {σ:St} {H:Hp} {s:Ye} {d:Addr} {ws:List (Key × V)} {ob:Obj}
theorem ZoB (hk:HOk X.prog X.w H s.heap) (h:H d = some (.dK ws)) (ho:s.heap.get? d = some ob):HOk X.prog X.w (upd H d (.frz ob (.dK ws))) s.heap:=fun b u e=>by
 have stay:∀ {b u},H b = some u -> ZbH X.prog X.w (upd H d (.frz ob (.dK ws))) s.heap b u:=fun {b u} e=>(hk b u e).stay (fun _ _ _ q=>q) (fun c q=>by rw [ZaC (ZjO q h (by intro z; cases z))]; exact q) fun c xs q=>by rw [ZaC (ZjO q h (by intro z; cases z))]; exact q
 by_cases eb:b = d
 ·subst eb
  rw [ZcB] at e;cases e;exact ⟨ho,stay h⟩
 ·rw [ZaC eb] at e
  exact stay e
theorem _root_.L2.Inv.still (I:Inv X pins σ H s) (h:H d = some (.dK ws)) (ho:s.heap.get? d = some ob):Inv X pins σ (upd H d (.frz ob (.dK ws))) s:=by
 have nd:∀ b,H b = none -> b ≠ d:=fun b n z=>by rw [z,h] at n; cases n
 exact I.step (h':=s.heap) (g':=s.gens) (t':=s.toks) (d':=s.drawn) (ch:=[]) (fun _ z=>nomatch z) (fun b o _ _ _ e _=>e) (fun b o _ _ _ e _=>⟨o.slots,e⟩) (fun b o _ _ n=>by rw [ZaC (nd b n)]; exact n) (fun b o _ e=>⟨o,e⟩)
  (fun b xs q=>by rw [ZaC (ZjO q h (by intro z; cases z))]; exact q) (fun b o u q=>by rw [ZaC (ZjO q h (by intro z; cases z))]; exact q) (fun b ps q=>⟨#[],by rw [ZaC (ZjO q h (by intro z; cases z)),q]; simp⟩) (fun _ hm=>hm) (ZoB I.hok h ho) I.bare
theorem _root_.L2.Inv.thaw (I:Inv X pins σ H s) (h:H d = some (.frz ob (.dK ws))) (h0:∀ o u,X.H₀ d ≠ some (.frz o u)):Inv X pins σ (upd H d (.dK ws)) s:=by
 have nd:∀ b,H b = none -> b ≠ d:=fun b n z=>by rw [z,h] at n; cases n
 have nt:∀ {b u},H b = some u -> (∀ o v,u ≠ .frz o v) -> b ≠ d:=fun q nz z=>by rw [z,h] at q; cases q; exact nz _ _ rfl
 have stay:∀ {b u},H b = some u -> ZbH X.prog X.w (upd H d (.dK ws)) s.heap b u:=fun {b u} e=>(I.hok b u e).stay (fun _ _ _ q=>q) (fun c q=>by rw [ZaC (nt q fun _ _ z=>nomatch z)]; exact q) fun c xs q=>by rw [ZaC (nt q fun _ _ z=>nomatch z)]; exact q
 refine ⟨I.ok,I.os,I.bare,⟨I.base.keep,I.base.slot,fun b o e n hx=>?_,I.base.there,fun b xs e=>?_,fun b o u e=>?_,fun b ps e=>?_⟩,I.loc,I.cell,?_,fun x c e=>?_,fun p hp=>?_,fun b u e=>?_,I.len⟩
 ·have:=I.base.free b o e n hx
  rw [ZaC (nd b this)]; exact this
 ·have:=I.base.tups b xs e
  rw [ZaC (nt this fun _ _ z=>nomatch z)]; exact this
 ·have hb:b ≠ d:=fun z=>by subst z; exact h0 o u e
  rw [ZaC hb]; exact I.base.frzs b o u e
 ·obtain ⟨more,q⟩:=I.base.tbls b ps e
  exact ⟨more,by rw [ZaC (nt q fun _ _ z=>nomatch z)]; exact q⟩
 ·rw [ZaC (nd _ I.free)]; exact I.free
 ·rw [ZaC (nd _ (I.freeC x c e))]; exact I.freeC x c e
 ·obtain ⟨e,n,r⟩:=I.pin p hp
  exact ⟨e,by rw [ZaC (nd _ n)]; exact n,r⟩
 ·by_cases eb:b = d
  ·subst eb
   rw [ZcB] at e;cases e;obtain ⟨_,q⟩:=(show ZbH X.prog X.w H s.heap b (.frz ob (.dK ws)) from I.hok b _ h);exact q.stay (fun _ _ _ q=>q) (fun c q=>by rw [ZaC (nt q fun _ _ z=>nomatch z)]; exact q) fun c xs q=>by rw [ZaC (nt q fun _ _ z=>nomatch z)]; exact q
  ·rw [ZaC eb] at e
   exact stay e
end
noncomputable def Itd (d:Addr) (ob:Obj) (ws:List (Key × V)):It:=
 ⟨fun i H=>H d = some (.frz ob (.dK ws)) /\ i < ws.length,fun i H x H'=>H' = H /\ ∃ q,ws[i]? = some q /\ x = kV q.1,fun i H=>H d = some (.frz ob (.dK ws)) /\ i = ws.length⟩
theorem Zug {P:Yai} {w:World} {k:Key} {v:Value} (h:(Zbd P w).is k v = true):RelV (kV k) v:=by
 rw [ZmI] at h;rcases ZbK h with ⟨i,t,rfl,rfl⟩ | ⟨x,t,rfl,rfl⟩
 ·exact ⟨t,rfl⟩
 ·exact ⟨t,rfl⟩
theorem Zoh {P:Yai} {w:World} {K:Ya} {tg:Expr} {it d:Addr} {ob:Obj} {ws:List (Key × V)} {vs:List (Key × Value)} {ep:Nat} (hne:d ≠ it) (hD:∀ h:Heap,h.get? d = some ob -> h.DictAt (Zbd P w) d vs ep) (kv:KV ws vs):
  Turn P w K tg (Itd d ob ws) [it] it (fun i h=>h.IsKeyIter it d i vs.length ep) where
 mem:=by simp
 obj:=fun i h st b hb=>by
  have e:b = it:=by simpa using hb
  subst e;obtain ⟨o,e,c,d⟩:=st;exact ⟨o,e,fun v z=>by rw [d] at z; cases z⟩
 keep:=fun i h h' st k=>st.at fun o e=>k it (by simp) o e
 item:=by
  intro X hP hw hK hc i pins s σ H E I hf st hg;subst hP hw hK;obtain ⟨f0,f1,f2,f3,f4,f5⟩:=hf it (by simp);have hob:=(show ZbH X.prog X.w H s.heap d (.frz ob (.dK ws)) from I.hok d _ hg.1).1;refine (Walks.dictKeys (I.ok.hd hc) it d hne vs ep).item i s _ _ (by rw [← kv.length]; exact hg.2) ⟨st,hD _ hob⟩ fun v h' tk hv st' kk=>?_;obtain ⟨k,x,hx,hk⟩:=hv;have I1:Inv X pins σ H { s with heap:=h',toks:=tk }:=I.turned (fun b o hb e=>kk b o (by simpa using hb) e) f0 f1 f3 f4 f5;obtain ⟨o,e,cc,dd⟩:=id st'.1;have hil:i < ws.length:=hg.2;have hq:ws[i]? = some ws[i]:=by simp [hil]
  have ek:ws[i].1 = k:=by
   have:=congrArg (fun l=>l[i]?) kv.keys;simp only [Y1,hq,hx,Yem,Ya7] at this;exact this
  exact ⟨_,rfl,ZlC (s:={ s with heap:=h',toks:=tk }) e cc dd (by decide) ⟨kV k,H,I1,Zug hk,⟨rfl,ws[i],hq,by rw [ek]⟩,st'.1,fun b hb=>(hf b hb).1⟩⟩
 done:=by
  intro X hP hw hK hc i pins s σ H E I hf st hg;subst hP hw hK;obtain ⟨f0,f1,f2,f3,f4,f5⟩:=hf it (by simp);have hob:=(show ZbH X.prog X.w H s.heap d (.frz ob (.dK ws)) from I.hok d _ hg.1).1;have ei:i = vs.length:=by rw [hg.2,kv.length]
  subst ei;exact (Walks.dictKeys (I.ok.hd hc) it d hne vs ep).done s _ _ ⟨st,hD _ hob⟩ fun h' tk kk=>⟨rfl,I.turned (fun b o hb e=>kk b o (by simpa using hb) e) f0 f1 f3 f4 f5⟩
 self:=fun _ _ _ _ _ st h=>wpAny_pyIter_keyiter st h
noncomputable def ZkB (f:E3):I3:=fun env M=>(f env M).bind fun a M1=>match a with
 | .ref n=>match M1[n]? with
  | some (.dct kvs)=>.ok ⟨kvs.map fun q=>keyV q.1,none⟩ (M1.set n (.fdct kvs))
  | _=>.bad
 | _=>.bad
theorem ZqG {K:Ya} {H:Hp} {ι:List Addr} (k:Zbw):Rep K H ι (keyV k) (kV (dk k)):=by
 cases k with
 | inl i=>exact Rep.int
 | inr x=>exact Rep.str
section
variable {X:Cx} {tg e elt:Expr} {ifs:List Expr} {pos:Pos} {f fe:E3} {ts:List E3} {g:G3} {scope:Scope} {N':List Str} {own:Nat}
theorem ZqN (h:C3 X e f):CI X tg e (ZkB f):=by
 intro pins s σ H R I ⟨ι,M,env,S,E,hw⟩;obtain ⟨d,M1,e1,hw⟩:=Zm9.bind hw;refine thn (h pins s σ H (fun v H'=>∃ ι',Ext X.K H ι H' ι' /\ ZaJ X.K H' ι' M1 /\ Rep X.K H' ι' d v) I ⟨ι,M,env,S,E,by rw [e1]; exact fun v H' ι' x S' r=>⟨ι',x,S',r⟩⟩) fun v s1 zz1=>?_;obtain ⟨x,H1,I1,r1,ι1,x1,S1,rd⟩:=zz1;cases d with
 | ref n=>
  cases hn:M1[n]? with
  | none=>simp only [hn] at hw; exact hw.elim
  | some ob=>
   cases ob with
   | lst _=>simp only [hn] at hw; exact hw.elim
   | fdct _=>simp only [hn] at hw; exact hw.elim
   | ins _ _=>simp only [hn] at hw; exact hw.elim
   | dct kvs=>
    simp only [hn] at hw;obtain ⟨a,ha,rfl⟩:=rd.ref_inv;cases r1;obtain ⟨ws,hws,kr⟩:=S1.obj n _ a hn ha;obtain ⟨zl,hsys,vs,kv,o,es,ep,ho,hrest⟩:=Zsc I1.hok hws;have hlt:a < s1.heap.objs.size:=Yr ho;refine wpAny_pyIter_dict (kvs:=vs) (ep:=ep) hsys ⟨o,es,ho,hrest⟩ ?_;have I2:Inv X pins σ H1 { s1 with heap:=s1.heap.push { cls:=.type "dict_keyiterator",data:=.fields #[.ref a,.int 0 0,.int vs.length 0,.int ep 0] } }:=I1.kept (t':=s1.toks) fun b u q=>Yk _ q;have I3:=I2.still hws (Yk _ ho);have l0:Loose H1 a:=.inr (.inr (.inl ⟨ws,hws⟩));have x2:Ext X.K H1 ι1 (upd H1 a (.frz o (.dK ws))) ι1:=l0.ext;have S2:ZaJ X.K (upd H1 a (.frz o (.dK ws))) ι1 (M1.set n (.fdct kvs)):=S1.put l0 ha ⟨ws,⟨o,ZcB⟩,kr.mono x2⟩;refine ⟨s1.heap.objs.size,[s1.heap.objs.size],_,Itd a o ws,_,rfl,I3,Zoh (vs:=vs) (ep:=ep) (Yy hlt) (fun h' hh=>⟨o,es,hh,hrest⟩) kv,⟨_,Y6 _ rfl,rfl,rfl⟩,fun b hb=>?_,hw _ _ ι1 (x1.trans x2) S2 ?_⟩
    ·have eb:b = s1.heap.objs.size:=by simpa using hb
     subst eb;exact I1.fpOk (Yj _) (by rw [ZaC (Ygd hlt)]; exact I1.hok.fresh (Yj _))
    ·intro i H2 ι2 M2 x S3 _
     have hz:=x.frz a o _ ZcB;refine ⟨fun dd hd=>?_,fun hl=>⟨hz,by rw [hl,Yac,kr.length]⟩⟩;rw [Y1] at hd;cases hq:kvs[i]? with
     | none=>rw [hq] at hd; cases hd
     | some q=>
      rw [hq] at hd;have hd':keyV q.1 = dd:=by simpa using hd
      subst hd';have hi:i < ws.length:=by rw [kr.length]; exact (Yc.mp hq).1
      refine ⟨⟨hz,hi⟩,fun y H3 hy=>⟨hy.1,?_⟩⟩;obtain ⟨_,w',hw',rfl⟩:=hy;have ek:w'.1 = dk q.1:=by
       have:=congrArg (fun l=>l[i]?) kr.1;simp only [Y1,hw',hq,Yem,Ya7] at this;exact this
      rw [ek];exact ZqG q.1
 | _=>exact hw.elim
end
section
variable {prog:Yai} {w:World} {A:Yas} {E:Value -> Ye -> Prop} {s:Ye}
theorem Zo0:typeLookup (.type "tuple") (Yc3 "keys") = pure none:=by rw [typeLookup_type,builtinLookup_eq_fast]; kernel_rfl
set_option maxRecDepth 8000 in
theorem ZlT {a:Addr} {o:Obj} {xs:Array Value} {k:Nat} {Q:Option Value -> Ye -> Prop} (hx:s.heap.get? a = some o) (hc:o.cls = .type "tuple") (hdat:o.data = .seq xs k) (hd:o.dict = none) (hA:A.handled = none)
  (h:∀ h' tk,(∀ b u,s.heap.get? b = some u -> h'.get? b = some u) -> Q none { s with heap:=h',toks:=tk }):wpAny (model prog w) A (getAttr? (.ref a) (Yc3 "keys")) Q E s:=by
 obtain ⟨c,dct,dat,sl⟩:=o;simp only at hc hdat hd;subst hc hdat hd;obtain ⟨hp,g,d,tk,os⟩:=s;have hT:∀ tk',(⟨hp,g,d,tk',os⟩:Ye).TypeIs (.ref a) "tuple":=fun _=>⟨_,hx,rfl⟩;have f1:=sub_AttributeError; have f3:=F.slot_tuple_getattribute.lookup; have f4:=F.slot_tuple_getattribute.bind (.ref a); have f5:=am_tuple_getattr_none;unfold getAttr? getAttrBy? getAttrBy
 repeat (any_goals (first | assumption | exact hT _ | ((with_reducible show wpAny _ _ (call (Value.builtin "tuple.__getattribute__") _ _) _ _ _); refine Yh3 F.slot_tuple_getattribute (hT _) am_entry_tuple_getattribute (F.args_tuple_getattribute_2 _ _) (meets_getattribute_miss_tuple a xs k sl _ _ Zo0 (by decide) (by rw [Ybf]; decide)) ⟨hx,hA,fun h' tk' e hx'=>?_⟩) | wp_step))
 obtain ⟨t',u',he⟩:=hx'.there;show wpAny _ _ (getattributeRaised _ _ _ _ _ _ _) _ _ _;unfold getattributeRaised
 repeat (any_goals (first | assumption | wp_step))
 all_goals exact h _ _ hx'.of.keeps
theorem Zgj:entryFor table "dict.update.loop" = some Builtin.«dict.update.loop»:=entryFor_of_tree (by kernel_rfl)
theorem ZdP:plainId "dict.update.loop" = true:=by decide +kernel
def Znp (prog:Yai) (w:World) (h:Heap) (v:Value) (q:Key × Value):Prop:=∃ a o key n,v = .ref a /\ h.get? a = some o /\ o.cls = .type "tuple" /\ o.data = .seq #[key,q.2] n /\ (Zbd prog w).is q.1 key = true
theorem Zqo {d I ax:Addr} {items:Array Value} {ps:List (Key × Value)} {res:Value} (hh:A.in1.handled = none) (hne:ax ≠ I) (hdI:d ≠ I) (hda:d ≠ ax) (hl:ps.length = items.size) (hz:ps.length <= 100000):
  ∀ (k i:Nat) (s:Ye) (kvs:List (Key × Value)) {R:Result -> Ye -> Prop},items.size - i = k -> i <= items.size -> s.heap.IsTupleIter I ax i -> s.heap.IsTuple ax items -> s.heap.DictOf (Zbd prog w) d kvs -> kvs.length <= i ->
   (∀ (j:Nat) v q,items[j]? = some v -> ps[j]? = some q -> Znp prog w s.heap v q /\ v ≠ .ref d /\ v ≠ .ref I) ->
   (∀ h' tk,h'.DictOf (Zbd prog w) d (merged kvs (ps.drop i)) -> (∀ b o,b ≠ d -> b ≠ I -> s.heap.get? b = some o -> h'.get? b = some o) -> R (.ok (.ret res)) { s with heap:=h',toks:=tk }) ->
   Ygf (model prog w) A (.builtin "dict.update.loop" ⟨[.ref d,.ref I,Yik i,res],[]⟩) R s:=by
 have W:=Walks.tuple (prog:=prog) (w:=w) hh I ax hne items;intro k
 induction k with
 | zero=>
  intro i s kvs R hk hi st tup dd hkl hp hR;have hin:i = items.size:=Ym hi (lC 2 580682816544801 T1 hk (sbA _ _));subst hin;refine codeAny_builtin Zgj ?_;rw [Yg5 ZdP _];show wpAny _ A.in1 (Yhv (.ref I) >>= _) _ _ s;refine Yd (W.done s _ _ ⟨st,tup⟩ fun h' tk kk=>?_);show wpAny _ A.in1 (Builtin.Dict.addKeywords d [] >>= _) _ _ _;refine Yd (Ys (Ys (hR h' tk ?_ fun b o hb hI e=>kk b o (by simpa using hI) e)));rw [List.drop_of_length_le (Ycr hl)];obtain ⟨o,es,ep,ho,r⟩:=dd;exact ⟨o,es,ep,kk d o (by simpa using hdI) ho,r⟩
 | succ k ih=>
  intro i s kvs R hk hi st tup dd hkl hp hR;have hlt:i < items.size:=lD 2 0x321320c21a1c031 T1 hk (Yb hi);have hv:items[i]? = some items[i]:=by simp [hlt]
  have hq:ps[i]? = some (ps[i]'(by omega)):=by simp [show i < ps.length by omega]
  refine codeAny_builtin Zgj ?_;rw [Yg5 ZdP _];show wpAny _ A.in1 (Yhv (.ref I) >>= _) _ _ s;refine Yd (W.item i s _ _ hlt ⟨st,tup⟩ fun v h1 tk1 hP st1 kk1=>?_);rw [hv] at hP;cases hP;obtain ⟨⟨a,o,key,n,ev,ho,hc,hd,hkey⟩,nd,nI⟩:=hp i _ _ hv hq;have haI:a ≠ I:=fun z=>nI (by rw [ev,z]);have had:a ≠ d:=fun z=>nd (by rw [ev,z]);have ho1:h1.get? a = some o:=kk1 a o (by simpa using haI) ho;have dd1:h1.DictOf (Zbd prog w) d kvs:=by
   obtain ⟨o',es,ep,ho',r⟩:=dd;exact ⟨o',es,ep,kk1 d o' (by simpa using hdI) ho',r⟩
  rw [ev];generalize ps[i]'(lC 2 2203623428113 T1 hlt hl) = q at hq hkey hd;dsimp only;refine Yd (Yaz (Yd (wpAny_tryCatch ?_)));unfold Builtin.Dict.pairItems;refine Yd (Yex (T:="tuple") ⟨o,ho1,hc⟩ ?_);rw [if_pos (by decide)];refine Yd ?_;unfold seqItems?;refine Yd (wpAny_load ho1 ?_);rw [hd];refine Ys (Ys ?_);show wpAny _ A.in1 (Yc0 [key,q.2] (dictSet d key q.2)) _ _ _;refine Yaz (wpAny_dictSet_pairs hkey dd1 (fun h2 dd2 sb=>?_) (by rw [Ybf]; exact lD 4 0x10000007b201331186a05b30102011011 T1 hlt hkl hz hl));refine Ys ⟨plainId_quiet ZdP _,?_⟩;show Ygf (model prog w) A (.builtin "dict.update.loop" ⟨[.ref d,.ref I,Yik ((i:Int) + 1),res],[]⟩) R _;have e1:((i:Int) + 1) = ((i + 1:Nat):Int):=rfl;rw [e1];have k2:∀ b u,b ≠ d -> b ≠ I -> s.heap.get? b = some u -> h2.get? b = some u:=fun b u hb hI e=>(sb.2 b hb).trans (kk1 b u (by simpa using hI) e);refine ih (i + 1) _ (stored kvs q.1 q.2) (Ym (lE 3 0x12030c4014a3c2c21a1c021 T1 hk (Yb (lB 1 6991908881 T1 hlt)) (sbA _ _)) (lE 3 0x310240c21a4c3c201a1c031 T1 hk (sbA _ _) (Yb (Ycz hlt)))) hlt ?_ ?_ dd2 ?_ ?_ ?_
  ·obtain ⟨o',e',r⟩:=st1.1
   exact ⟨o',(sb.2 I (Yat hdI)).trans e',r⟩
  ·obtain ⟨o',e',r⟩:=st1.2
   exact ⟨o',(sb.2 ax (Yat hda)).trans e',r⟩
  ·have:=(show (stored kvs q.1 q.2).length <= kvs.length + 1 from by unfold stored; split <;> simp)
   exact lC 2 0xa2c002101a1c001 T1 this hkl
  ·intro j v q' hj hq'
   obtain ⟨⟨a',o',key',n',ev',ho',r⟩,nd',nI'⟩:=hp j v q' hj hq';exact ⟨⟨a',o',key',n',ev',k2 a' o' (fun z=>nd' (by rw [ev',z])) (fun z=>nI' (by rw [ev',z])) ho',r⟩,nd',nI'⟩
  ·intro h' tk dd' kk'
   refine hR h' tk ?_ fun b u hb hI e=>kk' b u hb hI (k2 b u hb hI e);have hq2:ps.drop i = q :: ps.drop (i + 1):=by rw [Ybm (by exact lC 2 2203623428113 T1 hlt hl)]; congr 1; rw [Yo (by exact lC 2 2203623428113 T1 hlt hl)] at hq; exact Yq hq
   rw [hq2];exact dd'
theorem ZmN {ax:Addr} {items:Array Value} {ps:List (Key × Value)} {Q:Value -> Ye -> Prop} (hA:A.handled = none) (ht:ZeT s.heap ax items) (hl:ps.length = items.size) (hz:ps.length <= 100000)
  (hp:∀ (j:Nat) v q,items[j]? = some v -> ps[j]? = some q -> Znp prog w s.heap v q)
  (h:∀ h' tk,h'.DictOf (Zbd prog w) s.heap.objs.size (merged [] ps) -> (∀ b o,s.heap.get? b = some o -> h'.get? b = some o) -> Q (.ref s.heap.objs.size) { s with heap:=h',toks:=tk }):
  wpAny (model prog w) A (call (.type "dict") [.ref ax]) Q E s:=by
 obtain ⟨o,ho,⟨hc,hdn⟩,n,hdat⟩:=id ht;have hlt:ax < s.heap.objs.size:=Yr ho;refine callType_codes (Q₁:=fun obj s₁=>obj = .ref s.heap.objs.size /\ s₁ = { s with heap:=s.heap.push { cls:=.type "dict",data:=.dict #[] } }) F.kt_called_dict (F.kt_typeCall_dict_1 _) F.entry_dict_init (kt_code_dict_new _ ⟨rfl,rfl⟩) ?_;rintro obj s₁ ⟨rfl,rfl⟩;have hnew:(s.heap.push { cls:=.type "dict",data:=.dict #[] }).DictOf (Zbd prog w) s.heap.objs.size []:=Heap.DictOf.new s.heap;have hk1:∀ b u,s.heap.get? b = some u -> (s.heap.push { cls:=.type "dict",data:=.dict #[] }).get? b = some u:=fun b u q=>Yk _ q;refine ⟨hnew.typeIs,F.args_dict_init_2 _ _,?_⟩;unfold Builtin.«dict.__init__»;refine Yd ?_; unfold Builtin.Dict.selfAndRest;refine Yd (wpAny_notOrdered_dict hnew.typeIs ?_); show wpAny _ _ (pure (s.heap.objs.size,[Value.ref ax])) _ _ _;refine Ys ?_; show wpAny _ _ (Yfn "dict.__init__" s.heap.objs.size (.ref ax) [] .none) _ _ _;unfold Yfn;refine Yd (Yex (T:="tuple") ⟨o,hk1 _ _ ho,hc⟩ ?_);rw [if_pos (by decide)];refine Yd (ZlT (hk1 _ _ ho) hc hdat hdn hA fun h2 tk2 k2=>?_);simp only [Option.isNone_none,if_true];refine Yd (Ygx ?_);have d2:h2.DictOf (Zbd prog w) s.heap.objs.size []:=by
  obtain ⟨o',es,ep,ho',r⟩:=hnew;exact ⟨o',es,ep,k2 _ _ ho',r⟩
 have t2:h2.IsTuple ax items:=⟨o,k2 _ _ (hk1 _ _ ho),hc,n,hdat⟩;have l2:s.heap.objs.size < h2.objs.size:=by obtain ⟨o',_,_,ho',_⟩:=d2; exact Yr ho'
 refine Yd (Ycy t2 ?_);have k3:∀ b u,h2.get? b = some u -> (h2.push { cls:=.type "tuple_iterator",data:=.fields #[.ref ax,.int 0 0] }).get? b = some u:=fun b u q=>Yk _ q;have t3:(h2.push { cls:=.type "tuple_iterator",data:=.fields #[.ref ax,.int 0 0] }).IsTuple ax items:=by obtain ⟨o',e',r⟩:=t2; exact ⟨o',k3 _ _ e',r⟩
 have d3:(h2.push { cls:=.type "tuple_iterator",data:=.fields #[.ref ax,.int 0 0] }).DictOf (Zbd prog w) s.heap.objs.size []:=by obtain ⟨o',es,ep,ho',r⟩:=d2; exact ⟨o',es,ep,k3 _ _ ho',r⟩
 refine Ys ⟨plainId_quiet ZdP _,Zqo (prog:=prog) (w:=w) (A:=A.in1) (ax:=ax) (items:=items) (ps:=ps) hA (Yy (Ygm hlt l2)) (Yy l2) (Ygd hlt) hl hz items.size 0 _ [] (Ym ((Ya9 _ _)) (lB 1 4309762049 T1 (sbA _ _))) (Yag _) ⟨_,Y6 _ rfl,rfl,rfl⟩ t3 d3 (Yag _) (fun j v q hj hq=>?_) fun h' tk dd' kk'=>?_⟩
 ·obtain ⟨a,o',key,n',ev,ho',r⟩:=hp j v q hj hq
  have hla:a < s.heap.objs.size:=Yr ho';refine ⟨⟨a,o',key,n',ev,k3 _ _ (k2 _ _ (hk1 _ _ ho')),r⟩,fun z=>?_,fun z=>?_⟩
  ·rw [ev] at z; injection z with z; exact absurd hla (by rw [z]; exact Ycs _)
  ·rw [ev] at z; injection z with z; exact absurd (Ygm hla l2) (by rw [z]; exact Ycs _)
 ·refine ⟨rfl,h h' tk dd' fun b u q=>kk' b u (Yy (Yr q)) (Yy (Ygm (Yr q) l2)) (k3 _ _ (k2 _ _ (hk1 _ _ q)))⟩
end
section
variable {X:Cx}
theorem Zne {d:D} {x:List D} {l:List (Zbw × D)} (h:Zem (d :: x) = some l):∃ a b k l',d = .tup [a,b] /\ Zeo a = some k /\ Zem x = some l' /\ l = (k,b) :: l':=by
 cases d with
 | tup ds=>cases ds with
  | nil=>exact nsm h
  | cons a ds=>cases ds with
   | nil=>exact nsm h
   | cons b ds=>cases ds with
    | cons _ _=>exact nsm h
    | nil=>
     have h:(match Zeo a with | some k=>(Zem x).map fun l=>(k,b) :: l | none=>none) = some l:=h;cases hk:Zeo a with
     | none=>rw [hk] at h; exact nsm h
     | some k=>
      rw [hk] at h;cases hx:Zem x with
      | none=>rw [hx] at h; exact nsm h
      | some l'=>rw [hx] at h; exact ⟨a,b,k,l',rfl,hk,rfl,(Yq h).symm⟩
 | _=>exact nsm h
def Zlm (X:Cx) (H:Hp) (s:Ye) (ι:List Addr) (l:List (Zbw × D)) (us:List Value):Prop:=
  ∃ (ws:List (Key × V)) (ps:List (Key × Value)),KvR X.K H ι l ws /\ KV ws ps /\ ps.length = us.length /\ ∀ (j:Nat) v q,us[j]? = some v -> ps[j]? = some q -> Znp X.prog X.w s.heap v q
theorem Zni {pins:List (Addr × Obj)} {σ:St} {H:Hp} {s:Ye} {ι:List Addr} (I:Inv X pins σ H s) {a b:D} {k:Zbw} {l:List (Zbw × D)} {u:V} {z:Value} {us:List Value} (hk:Zeo a = some k) (r:Rep X.K H ι (.tup [a,b]) u) (rz:RelV u z) (h:Zlm X H s ι l us):Zlm X H s ι ((k,b) :: l) (z :: us):=by
 obtain ⟨ws,ps,kr,kv,lp,hp⟩:=h;obtain ⟨ad,xs,eu,sq,rr⟩:=r.tup_inv;rw [eu] at rz;obtain ⟨ya,ys,rfl,ra,rr⟩:=rr.cons_inv;obtain ⟨yb,ys,rfl,rb,rr⟩:=rr.cons_inv;rw [rr.nil_inv] at sq;obtain ⟨its,rv,⟨o,ho,hc,n,hd⟩,_⟩:=I.tuple sq;cases rv with
 | @cons _ u1 _ _ q1 rv=>
 cases rv with
 | @cons _ u2 _ _ q2 rv=>
 cases rv
 refine ⟨(dk k,yb) :: ws,(dk k,u2) :: ps,KvR.cons rb kr,.cons ⟨rfl,q2⟩ kv,congrArg Nat.succ lp,fun j v q hj hq=>?_⟩;cases j with
 | zero=>
  rw [← Yq hj,← Yq hq];exact ⟨ad,o,u1,n,rz,ho,hc,hd,ZmE (by rw [← Ziw hk ra]; exact q1)⟩
 | succ j=>exact hp j v q hj hq
theorem pairs_at {pins:List (Addr × Obj)} {σ:St} {H:Hp} {s:Ye} {ι:List Addr} (I:Inv X pins σ H s) {x:List D} {l:List (Zbw × D)} {vs:List V} {us:List Value} (h:Zem x = some l) (r:Zal X.K H ι x vs) (v:Vals vs us):Zlm X H s ι l us:=by
 induction x generalizing l vs us with
 | nil=>
  rw [r.nil_inv] at v;cases v;rw [← Yq h];exact ⟨[],[],KvR.nil,.nil,rfl,fun j v q h=>nsm h⟩
 | cons d x ih=>
  obtain ⟨a,b,k,l',ed,hk,hx,el⟩:=Zne h;obtain ⟨u,vs',ev,r1,r2⟩:=r.cons_inv;rw [ev] at v;rw [ed] at r1;rw [el];cases v with
  | cons rz rzs=>exact Zni I hk r1 rz (ih hx r2 rzs)
theorem Zsy (hc:X.calm = true):ZbZ X (.type "dict") (rB X.K Zko):=by
 intro pins s σ H xs us Q I rs ⟨ι,M,ds,S,rd,h⟩;cases ds with
 | nil=>exact h.elim
 | cons d ds=>
  cases ds with
  | cons _ _=>cases d <;> exact h.elim
  | nil=>
   obtain ⟨x,rfl,r⟩:=ZfC rd;obtain ⟨u,rfl,ru⟩:=vals1 rs;cases d with
   | ref n=>
    cases hn:Zcr M[n]? with
    | none=>rw [ZhA,hn] at h; exact h.elim
    | some kvs=>
     simp only [ZhA,ZiS,hn] at h;obtain ⟨a,ha,rfl⟩:=r.ref_inv;cases ru;obtain ⟨ws,hw,kr⟩:=Zlf S hn ha;refine ZqF I hw fun p s' hp I'=>⟨.ref p,_,I',rfl,?_⟩;obtain ⟨x2,S2,r2⟩:=S.dct hp kr;exact h _ _ _ x2 S2 r2
   | tup z=>
    simp only [ZhA,ZiS] at h;cases hp:Zem z with
    | none=>rw [hp] at h; exact h.elim
    | some l=>
     rw [hp] at h;dsimp only at h;split at h
     ·rename_i hz
      obtain ⟨a,vs,rfl,sq,rr⟩:=r.tup_inv;cases ru;obtain ⟨its,rv,ht,_⟩:=I.tupleN sq;obtain ⟨ws,ps,kr,kv,lp,hpp⟩:=pairs_at I hp rr rv;have hl:ps.length = l.length:=by rw [← kv.length,kr.length]
      refine ZmN (ps:=ps) (I.ok.hd hc) ht (by simpa using lp) (by rw [hl]; exact hz) (fun j v q hj hq=>hpp j v q (by simpa using hj) hq) fun h' tk dd kk=>⟨.ref s.heap.objs.size,upd H s.heap.objs.size (.dK (Zjq [] ws)),?_,rfl,?_⟩
      ·have hm:=kv.merge (kvs:=[]) (vs:=[]) .nil
       refine I.laid kk (Yj _) (ZmP ?_ (beq_eq_false_iff_ne.mpr (Yat (Yy I.big))) hm dd);have h1:=ZgK ws [];rw [Ygl] at h1;rw [Ybf];have:=kr.length;exact lC 3 0x10000007b20186a05b1010ec2011021 T1 this h1 hz
      ·obtain ⟨x2,S2,r2⟩:=S.dct (I.hok.fresh (Yj _)) (KvR.merge (kvs:=[]) (ws:=[]) kr KvR.nil)
       exact h _ _ _ x2 S2 r2
     ·exact h.elim
   | _=>exact h.elim
end
section
variable {X:Cx} {a b c e o:Expr} {es:List Expr} {pos p apos cpos:Pos} {f g h:E3} {gl:EL3}
theorem ZjF:ZbZ X (.type "int") (fun xs H Q=>∃ x n,xs = [.str x] /\ intText? x = some n /\ x.length <= 640 /\ Q (.int n) H):=by
 intro pins s σ H xs us Q I r h;obtain ⟨x,n,rfl,hn,hz,q⟩:=h;obtain ⟨u,rfl,t,rfl⟩:=vals1 r;exact PySem.W.KIN.call_text hn hz ⟨.int n,H,I.tok _,⟨_,rfl⟩,q⟩
theorem Zp5:ZbZ X (.type "int") (rB X.K Zh8):=ZbZ.imp (ZbZ.or ZuI ZjF) fun xs H Q zz1=>by
 obtain ⟨ι,M,ds,S,rd,h⟩:=zz1
 match ds,rd,h with
 | [.str x],rd,h=>
  obtain ⟨v,rfl,r⟩:=ZfC rd;simp only [Zp0,Zpi] at h;cases hn:Yhb ⟨x.toArray⟩ with
  | none=>rw [hn] at h; exact h.elim
  | some n=>
   rw [hn] at h;dsimp only at h;split at h
   ·rename_i hz
    exact .inr ⟨_,n,by rw [r.str_inv],hn,by simpa [Ycx] using hz,Zat.ok h S Rep.int⟩
   ·exact h.elim
 | [],rd,h=>exact h.elim
 | [.int i],rd,h=>exact .inl ⟨ι,M,_,S,rd,h⟩
 | [.bl i],rd,h=>exact .inl ⟨ι,M,_,S,rd,h⟩
 | [.non],rd,h=>exact h.elim
 | [.tup _],rd,h=>exact h.elim
 | [.scr _],rd,h=>exact h.elim
 | [.ref _],rd,h=>exact h.elim
 | .str _ :: _ :: _,rd,h=>exact h.elim
 | .int _ :: _ :: _,rd,h=>exact h.elim
 | .bl _ :: _ :: _,rd,h=>exact h.elim
 | .non :: _ :: _,rd,h=>exact h.elim
 | .tup _ :: _ :: _,rd,h=>exact h.elim
 | .scr _ :: _ :: _,rd,h=>exact h.elim
 | .ref _ :: _ :: _,rd,h=>exact h.elim
end
section
variable {X:Cx} {tg e:Expr} {pos:Pos} {f:E3} {g:G3}
theorem ZhN (he:C3 X e f) (hg:CG X tg g) (hs:Yed [tg] e pos.line X.env = pure false:=by rfl) (hw:Yee [tg] e X.env = pure none:=by rfl)
  (h1:(Yam [tg] X.env).map (·.2) = [Ydb tg X.env]:=by rfl):CS X (.Assign [tg] e pos) (Ze2 f g):=(ZkS he hg hs hw h1).imp fun D σ H zz1=>by
 obtain ⟨ι,M,env,S,E,h⟩:=zz1;refine ⟨ι,M,env,S,E,?_⟩;unfold Ze2 at h;cases q:f env M with
 | ok d M1=>
  rw [q] at h;cases qg:g d env with
  | none=>simp only [qg] at h; exact h.elim
  | some env1=>
   simp only [qg] at h;exact fun v H1 ι1 x1 S1 r1=>⟨ι1,M1,env,d,env1,S1,E.mono x1,r1,qg,fun σ' E'=>h σ' H1 ι1 x1 S1 E'⟩
 | exc x M1=>rw [q] at h; exact h.elim
 | bad=>rw [q] at h; exact h.elim
end
section
variable {X:Cx} {tg e elt:Expr} {ifs:List Expr} {pos:Pos} {f fe:E3} {ts:List E3} {g:G3} {scope:Scope} {N':List Str} {own:Nat}
theorem Zs7 {pins:List (Addr × Obj)} {σ σ':St} {H H':Hp} {s s':Ye} {ι ι':List Addr} {M2:Store} {n:Nat} {a:Addr} {ws0:List (Key × V)} {kvs':List (Zbw × D)} (I:Inv X pins σ H s) (ha:ι[n]? = some a) (hw0:H a = some (.dK ws0)) (I':Inv X pins σ' H' s')
  (xx:Ext X.K H ι H' ι') (S':ZaJ X.K H' ι' M2) (hm:M2[n]? = some (.fdct kvs')):
  ∃ H2,Inv X pins σ' H2 s' /\ Ext X.K H ι H2 ι' /\ ZaJ X.K H2 ι' (M2.set n (.dct kvs')) /\ ∀ d v,Rep X.K H' ι' d v -> Rep X.K H2 ι' d v:=by
 have ha':=xx.pre _ _ ha;obtain ⟨ws,⟨o,hw⟩,kr⟩:=S'.obj n _ a hm ha';have I2:=I'.thaw hw fun o u z=>by
  have:=I.base.frzs a o u z;rw [hw0] at this; cases this
 have nz:∀ {b u},H' b = some u -> (∀ o v,u ≠ .frz o v) -> upd H' a (.dK ws) b = some u:=fun {b u} q nf=>by
  rw [ZaC]; · exact q
  ·rintro rfl; rw [hw] at q; cases q; exact nf _ _ rfl
 have tp:∀ b xs,SqT X.K H' b xs -> SqT X.K (upd H' a (.dK ws)) b xs:=fun b xs q=>by
  rcases q with (q | ⟨o',q⟩) | q
  ·exact .inl (.inl (nz q fun _ _ z=>nomatch z))
  ·refine .inl (.inr ⟨o',?_⟩)
   rw [ZaC]; · exact q
   ·rintro rfl; rw [hw] at q; cases q
  ·exact .inr q
 have sc:∀ b xs,SqF X.K H' b xs -> SqF X.K (upd H' a (.dK ws)) b xs:=fun b xs q=>by
  rcases q with ⟨o',q⟩ | q
  ·refine .inl ⟨o',?_⟩
   rw [ZaC]; · exact q
   ·rintro rfl; rw [hw] at q; cases q
  ·exact .inr q
 have mono:∀ {d':D} {u:V},Rep X.K H' ι' d' u -> Rep X.K (upd H' a (.dK ws)) ι' d' u:=fun {d' u} r=>Rep.keep tp sc r;have monoL:∀ {ds:List D} {us:List V},Zal X.K H' ι' ds us -> Zal X.K (upd H' a (.dK ws)) ι' ds us:=fun {ds us} r=>Zal.keep tp sc r;have S2:ZaJ X.K (upd H' a (.dK ws)) ι' (M2.set n (.dct kvs')):=by
  refine ⟨by simp [S'.len],S'.nd,fun k m b h1 h2=>?_⟩;by_cases hk:k = n
  ·subst hk
   rw [ha'] at h2; cases h2;rw [Y4 (Yc.mp hm).1] at h1;cases h1;exact ⟨ws,ZcB,kr.1,monoL kr.2⟩
  ·rw [Yab (Yat hk)] at h1
   have hb':b ≠ a:=by
    rintro rfl;have q1:=Yc.mp h2;have q2:=Yc.mp ha';exact hk ((Yfr S'.nd).mp (q1.2.trans q2.2.symm))
   have:=S'.obj k m b h1 h2;cases m with
   | lst xs=>obtain ⟨vs,q,r⟩:=this; exact ⟨vs,by rw [ZaC hb']; exact q,monoL r⟩
   | dct xs=>obtain ⟨vs,q,r⟩:=this; exact ⟨vs,by rw [ZaC hb']; exact q,r.1,monoL r.2⟩
   | fdct xs=>obtain ⟨vs,⟨o',q⟩,r⟩:=this; exact ⟨vs,⟨o',by rw [ZaC hb']; exact q⟩,r.1,monoL r.2⟩
   | ins c xs=>exact this.elim (fun z=>let ⟨C,dx,vs,q,c,r⟩:=z; .inl ⟨C,dx,vs,by rw [ZaC hb']; exact q,c,r.1,monoL r.2⟩) fun z=>let ⟨C,q,r⟩:=z; .inr ⟨C,by rw [ZaC hb']; exact q,r⟩
 refine ⟨_,I2,⟨fun b xs q=>tp b xs (xx.tup b xs q),fun b xs q=>sc b xs (xx.scr b xs q),xx.pre,fun b o' u q=>?_⟩,S2,fun d v r=>mono r⟩;have hb':b ≠ a:=by rintro rfl; rw [hw0] at q; cases q
 rw [ZaC hb'];exact xx.frz b o' u q
theorem ZoH {x y:Str} {pos' pos2 spos:Pos} (j i:Nat) (O:ZhE X scope N' own) (hxe:X.xe = fun _ _=>False) (hc:X.calm = true) (hN:X.N.Nodup) (hi:C3 X (.Name x pos2) (Za i))
  (hb:∀ C cl s H ex,CG (ZcI X scope N' C cl s H ex) tg g /\ CTs (ZcI X scope N' C cl s H ex) ifs ts /\ C3 (ZcI X scope N' C cl s H ex) elt fe)
  (hj:X.N[j]? = some y:=by rfl) (hx:Loc X.env.scope y:=by first | exact Or.inl rfl | exact Or.inr rfl)
  (hf:X.fn y = true \/ X.env.scope.names.lookup y = some .local:=by first | exact .inl rfl | exact .inr rfl)
  (hsw:Yei (.ListComp elt [⟨tg,.Name x pos2,ifs,0⟩] scope pos) (some (.Name y pos')) spos.line X.env = pure true:=by rfl)
  (hs:∀ z,Ycl (.Name x pos2) X.env z = pure z:=by intro _; rfl):CS X (.Assign [.Name y pos'] (.ListComp elt [⟨tg,.Name x pos2,ifs,0⟩] scope pos) spos) (Zaj j (ZmR (Za i) own g ts fe)):=by
 intro pins s σ H D I ⟨ι,M,env,S,E,h⟩;unfold Zaj at h;cases q:ZmR (Za i) own g ts fe env M with
 | exc _ _=>rw [q] at h; exact h.elim
 | bad=>rw [q] at h; exact h.elim
 | ok v M3=>
  rw [q] at h;unfold ZmR at q;cases e1:Za i env M with
  | exc _ _=>rw [e1] at q; cases q
  | bad=>rw [e1] at q; cases q
  | ok d M1=>
   have eM:M1 = M:=by
    simp only [Za] at e1;split at e1
    ·cases e1; rfl
    ·cases e1
   subst eM;rw [e1] at q;cases d with
   | ref n=>
    simp only [R3.bind] at q;cases hn:M1[n]? with
    | none=>simp only [hn] at q; cases q
    | some ob=>
     cases ob with
     | lst _=>simp only [hn] at q; cases q
     | fdct _=>simp only [hn] at q; cases q
     | ins _ _=>simp only [hn] at q; cases q
     | dct kvs=>
      simp only [hn] at q;cases e2:ZcL ⟨kvs.map fun q=>keyV q.1,none⟩ g ts fe M1.length (kvs.map fun q=>keyV q.1) (env ++ Yg own none) (M1.set n (.fdct kvs) ++ [.lst []]) with
      | exc _ _=>rw [e2] at q; cases q
      | bad=>rw [e2] at q; cases q
      | ok v' M2=>
       rw [e2] at q;simp only at q;cases hm:M2[n]? with
       | none=>simp only [hm] at q; cases q
       | some ob2=>
        cases ob2 with
        | lst _=>simp only [hm] at q; cases q
        | dct _=>simp only [hm] at q; cases q
        | ins _ _=>simp only [hm] at q; cases q
        | fdct kvs'=>
         simp only [hm] at q;cases q;obtain ⟨a,ha,ws0,hw0,_⟩:∃ a,ι[n]? = some a /\ ZgA X.K H ι (.dct kvs) a:=S.at hn;have eL:eLC (ZkB (Za i)) own g ts fe env M1 = .ok v M2:=by
          unfold eLC ZkB;rw [e1];simp only [R3.bind,hn];rw [Yek];exact e2
         refine thn (ZeN j (i:=ZkB (Za i)) O hxe hc hN (ZqN hi) hb hj hx hf hsw hs pins s σ H { nx:=fun σ' H'=>∃ ι',Ext X.K H ι H' ι' /\ ZaJ X.K H' ι' M2 /\ Zb1 X.K H' ι' (env.set j (some v)) σ',rt:=fun _ _=>False } I
          ⟨ι,M1,env,S,E,by unfold Zaj; rw [eL]; exact fun σ' H' ι' x S' E'=>⟨ι',x,S',E'⟩⟩) fun fl s' hq=>?_
         cases fl with
         | next=>
          obtain ⟨σ',H',I',ι',xx,S',E'⟩:=hq;obtain ⟨H2,I2,x2,S2,mono⟩:=Zs7 I ha hw0 I' xx S' hm;exact ⟨σ',H2,I2,h σ' H2 ι' x2 S2 ⟨E'.1,fun i d hd=>let ⟨v,e,r⟩:=E'.2 i d hd; ⟨v,e,mono _ _ r⟩⟩⟩
         | brk=>obtain ⟨_,_,_,z⟩:=hq; exact z.elim
         | cont=>obtain ⟨_,_,_,z⟩:=hq; exact z.elim
         | ret _=>obtain ⟨_,_,_,_,_,z⟩:=hq; exact z.elim
   | _=>simp only [R3.bind] at q; cases q
end
def Zua (K:Ya) (H:Hp) (ι:List Addr) (it:ItL) (J:It):Prop:=∀ (i:Nat) H2 ι2 M2,Ext K H ι H2 ι2 -> ZaJ K H2 ι2 M2 -> Zey it.lk M2 = true ->
 (∀ d,it.items[i]? = some d -> J.go i H2 /\ ∀ x H3,J.yld i H2 x H3 -> Ext K H2 ι2 H3 ι2 /\ ZaJ K H3 ι2 M2 /\ Rep K H3 ι2 d x) /\ (i = it.items.length -> J.stop i H2)
def Zmc (K:Ya) (H:Hp) (ι:List Addr) (R:It -> Hp -> Prop) (r:R3 ItL):Prop:=match r with
 | .ok it M'=>∀ J H' ι',Ext K H ι H' ι' -> ZaJ K H' ι' M' -> Zua K H' ι' it J -> R J H'
 | _=>False
def tIL (K:Ya) (g:IL3):TI:=fun σ H R=>∃ ι M env,ZaJ K H ι M /\ Zb1 K H ι env σ /\ Zmc K H ι R (g env M)
def CIL (X:Cx) (tg e:Expr) (g:IL3):Prop:=PI X tg e (tIL X.K g)
theorem Zmc.bind {K:Ya} {H:Hp} {ι:List Addr} {α:Type} {Q:It -> Hp -> Prop} {r:R3 α} {k:α -> Store -> R3 ItL} (h:Zmc K H ι Q (r.bind k)):∃ a M,r = .ok a M /\ Zmc K H ι Q (k a M):=by
 cases r with
 | ok a M=>exact ⟨a,M,rfl,h⟩
 | exc x M=>exact h.elim
 | bad=>exact h.elim
section
variable {X:Cx} {tg:Expr} {pos:Pos}
theorem ZnX {iter:Expr} {body:List Stmt} {i:IL3} {g:G3} {u:S3} (hxe:X.xe = fun _ _=>False) (hc:X.calm = true) (hi:CIL X tg iter i) (hg:CG X tg g) (hb:CSs X body u) (hs:∀ x,Ycl iter X.env x = pure x:=by intro _; rfl):
  CS X (.For tg iter body [] pos) (ZjZ i g u):=(ZpT (by rw [hxe]; exact Ygp) hc hi hg hb hs).imp fun D σ H zz1=>by
 obtain ⟨ι,M,env,S,E,h⟩:=zz1;unfold ZjZ at h;cases q:i env M with
 | exc x M1=>rw [q] at h; exact h.elim
 | bad=>rw [q] at h; exact h.elim
 | ok it M1=>
  rw [q] at h;refine ⟨ι,M,env,S,E,?_⟩;rw [q];intro J H1 ι1 x1 S1 ok;refine ⟨fun i m σ2 H2=>m = it.items.length - i /\ i <= it.items.length /\ ∃ ι2 M2 env2,Ext X.K H1 ι1 H2 ι2 /\ ZaJ X.K H2 ι2 M2 /\ Zb1 X.K H2 ι2 env2 σ2 /\ Zgz X.K H2 ι2 D (ZfM it.lk g u (it.items.drop i) env2 M2),
   ⟨_,rfl,Yag _,ι1,M1,env,Ext.refl,S1,E.mono x1,Zgz.up x1 h⟩,?_⟩
  rintro i m σ2 H2 ⟨rfl,hi,ι2,M2,env2,x2,S2,E2,h2⟩;by_cases hlt:i < it.items.length
  ·have hd:it.items[i]? = some it.items[i]:=by simp [hlt]
   rw [Ybm hlt] at h2;unfold ZfM at h2;by_cases lk:Zey it.lk M2 = true
   ·rw [if_pos lk] at h2
    obtain ⟨go,yl⟩:=(ok i H2 ι2 M2 x2 S2 lk).1 _ hd;cases eg:g it.items[i] env2 with
    | none=>rw [eg] at h2; exact h2.elim
    | some env3=>
     rw [eg] at h2;refine .inr ⟨go,fun σ' H'=>∃ ι3 M3 env4,Ext X.K H2 ι2 H' ι3 /\ ZaJ X.K H' ι3 M3 /\ Zb1 X.K H' ι3 env4 σ' /\ Zgz X.K H' ι3 D (ZfM it.lk g u (it.items.drop (i + 1)) env4 M3),
      fun σ' H' ⟨ι3,M3,env4,x3,S3,E3,h3⟩=>⟨it.items.length - (i + 1),lD 2 0x30113c2012a1c0c21 T1 (Yb (lB 1 6991908881 T1 hlt)) (sbA _ _),rfl,hlt,ι3,M3,env4,x2.trans x3,S3,E3,h3⟩,fun x H' hy=>?_⟩
     obtain ⟨x7,S7,rx⟩:=yl x H' hy;refine ⟨ι2,M2,env2,_,env3,S7,E2.mono x7,rx,eg,fun σ' E'=>⟨ι2,M2,env3,S7,E',?_⟩⟩;have h2':=Zgz.up x7 h2;cases qu:u env3 M2 with
     | nx e' M'=>simp only [qu] at h2'; exact fun σ' H' ι' x' S' E'=>⟨ι',M',e',x7.trans x',S',E',h2'.up x'⟩
     | ct e' M'=>simp only [qu] at h2'; exact fun σ' H' ι' x' S' E'=>⟨ι',M',e',x7.trans x',S',E',h2'.up x'⟩
     | bk e' M'=>simp only [qu] at h2'; exact h2'
     | rt d M'=>simp only [qu] at h2'; exact h2'
     | exc x' M'=>simp only [qu] at h2'; exact h2'.elim
     | bad=>simp only [qu] at h2'; exact h2'.elim
   ·rw [if_neg lk] at h2; exact h2.elim
  ·have e0:i = it.items.length:=Ym hi (Yaa hlt)
   subst e0;rw [Yft] at h2;unfold ZfM at h2;by_cases lk:Zey it.lk M2 = true
   ·rw [if_pos lk] at h2
    exact .inl ⟨(ok _ H2 ι2 M2 x2 S2 lk).2 rfl,h2 σ2 H2 ι2 Ext.refl S2 E2⟩
   ·rw [if_neg lk] at h2; exact h2.elim
end
theorem _root_.L2.Inv.turnedL {X:Cx} {pins:List (Addr × Obj)} {σ:St} {H:Hp} {s:Ye} {h':Heap} {t':Nat} {fp:List Addr} (I:Inv X pins σ H s) (k:∀ b o,b ∉ fp -> s.heap.get? b = some o -> h'.get? b = some o) (hf:∀ b ∈ fp,Zgi X pins H b):
  Inv X pins σ H { s with heap:=h',toks:=t' }:=by
 have nit:∀ b u,H b = some u -> b ∉ fp:=fun b u e z=>by rw [(hf b z).1] at e; cases e
 refine I.step (g':=s.gens) (d':=s.drawn) (ch:=fp) (fun b hb=>⟨(hf b hb).2.2.2.1,(hf b hb).2.1,(hf b hb).2.2.2.2.1,(hf b hb).2.2.2.2.2⟩) (fun b o _ _ hc e _=>k b o hc e) (fun b o _ _ hc e _=>⟨o.slots,k b o hc e⟩) (fun _ _ _ _ n=>n)
  (fun b o hc e=>⟨o,k b o hc e⟩) (fun _ _ e=>e) (fun _ _ _ e=>e) (fun b ps e=>⟨#[],by rw [e]; simp⟩) (fun m hm=>?_) (fun b u e=>?_) I.bare
 ·obtain ⟨o,es,ep,ho,r⟩:=hm
  exact ⟨o,es,ep,k _ o (fun z=>(hf _ z).2.1 rfl) ho,r⟩
 ·refine (I.hok b u e).stay (fun c v hc q=>k c v ?_ q) (fun _ q=>q) fun _ _ q=>q
  rcases hc with z | z
  ·rw [z]; exact nit b u e
  ·exact nit c _ z
noncomputable def Ite (S:Hp -> List V -> Prop):It:=⟨fun i H=>∃ xs x,S H xs /\ xs[i]? = some x,fun i H x H'=>∃ T y,x = .ref T /\ H T = none /\ H' = upd H T (.tup [.int i,y]) /\ ∀ xs,S H xs -> xs[i]? = some y,fun i H=>∃ xs,S H xs /\ xs.length <= i⟩
theorem ZjQ {X:Cx} {pins:List (Addr × Obj)} {σ:St} {H:Hp} {s:Ye} {h' h'':Heap} {e it:Addr} {i:Nat} {x:V} {u:Value} {tk tk':Nat} (I:Inv X pins σ H s) (hf:∀ b ∈ [e,it],Zgi X pins H b) (he:e < s.heap.objs.size) (hi:it < s.heap.objs.size) (ru:RelV x u)
  (hT:h'.get? s.heap.objs.size = some { cls:=.type "tuple",data:=.seq #[.int i tk,u] }) (hk:∀ b o,b ≠ e -> b ≠ it -> s.heap.get? b = some o -> h'.get? b = some o) (hs:Yd8 e h' h''):
  Inv X pins σ (upd H s.heap.objs.size (.tup [.int i,x])) { s with heap:=h'',toks:=tk' } /\ ∀ b ∈ [e,it],upd H s.heap.objs.size (.tup [.int i,x]) b = none:=by
 have hn:∀ b ∈ [e,it],upd H s.heap.objs.size (.tup [.int i,x]) b = none:=fun b hb=>by
  have:b ≠ s.heap.objs.size:=by
   simp only [Yah,Ydd,or_false] at hb;rcases hb with rfl | rfl
   ·exact Yy he
   ·exact Yy hi
  rw [ZaC this]; exact (hf b hb).1
 refine ⟨?_,hn⟩;have I1:Inv X pins σ (upd H s.heap.objs.size (.tup [.int i,x])) { s with heap:=s.heap.push { cls:=.type "tuple",data:=.seq ([.int i tk,u]:List Value).toArray },toks:=s.toks }:=
  I.laid (t':=s.toks) (fun b o e=>Yk _ e) (Yj _) (show ZbH X.prog X.w _ _ _ (.tup [.int i,x]) from ⟨by rw [Ybf]; show 2 <= _; decide,[.int i tk,u],.cons ⟨tk,rfl⟩ (.cons ru .nil),ZeT.new _ _⟩)
 have I3:=I1.turnedL (t':=tk') (h':=h'') (fp:=[e,it]) (fun b o hb q=>by
  have hbe:b ≠ e:=fun z=>hb (by simp [z]);have hbi:b ≠ it:=fun z=>hb (by simp [z]);rcases Heap.get?_push_cases q with ⟨rfl,rfl⟩ | q
  ·exact (hs.2 _ (Ygd he)).trans hT
  ·exact (hs.2 _ hbe).trans (hk b o hbe hbi q)) fun b hb=>⟨hn b hb,(hf b hb).2⟩
 exact I3
theorem Zm4 {P:Yai} {w:World} {K:Ya} {es:List Expr} {k:Nat} {pos:Pos} (a e it:Addr) (hne:e ≠ it):
  Turn P w K (.Tuple es k pos) (Ite fun H xs=>SqL K H a xs) [e,it] e (fun i h=>(∃ old,IsEnum h e it i old) /\ h.IsListIter it a i) where
 mem:=by simp
 obj:=fun i h st b hb=>by
  obtain ⟨⟨old,he⟩,o,ho,c,d⟩:=st;simp only [Yah,Ydd,or_false] at hb;rcases hb with rfl | rfl
  ·exact ⟨_,he,fun v z=>by cases z⟩
  ·exact ⟨o,ho,fun v z=>by rw [d] at z; cases z⟩
 keep:=fun i h h' st k=>by
  obtain ⟨⟨old,he⟩,hit⟩:=st;exact ⟨⟨old,k e (by simp) _ he⟩,hit.at fun o q=>k it (by simp) o q⟩
 item:=by
  intro X hP hw hK hc i pins s σ H E I hf st hg;subst hP hw hK;obtain ⟨xs,x,hq,hx⟩:=hg;obtain ⟨its,rv,p,hz⟩:=I.list hq;obtain ⟨u,hu,ru⟩:=rv.get hx;obtain ⟨⟨old,he⟩,hit⟩:=st;have hel:=Yr he;have hil:it < s.heap.objs.size:=by obtain ⟨o,ho,_⟩:=id hit; exact Yr ho
  refine wpAny_pyNext_enum_item he hit p.isList (x:=u) (by simpa using hu) hne fun h' ho hit' hT hsz hk=>?_;refine ⟨_,rfl,Yeq (s:={ s with heap:=h',toks:=s.toks + 1 }) ho fun h'' he'' hs''=>?_⟩;obtain ⟨I2,n2⟩:=ZjQ (x:=x) (tk':=s.toks + 1) I hf hel hil ru hT hk hs'';exact ⟨.ref s.heap.objs.size,_,I2,rfl,⟨_,x,rfl,I.hok.fresh (Yj _),rfl,fun ys hy=>by rw [I.list_inj hy hq]; exact hx⟩,⟨⟨_,by simpa using he''⟩,hit'.extBut hs''.extBut (Yat hne)⟩,n2⟩
 done:=by
  intro X hP hw hK hc i pins s σ H E I hf st hg;subst hP hw hK;obtain ⟨xs,hq,hx⟩:=hg;obtain ⟨its,rv,p,hz⟩:=I.list hq;obtain ⟨⟨old,he⟩,hit⟩:=st;have hl:=rv.length;exact wpAny_pyNext_enum_end (I.ok.hd hc) he hit p.isList (by simp; exact lC 2 2268279672881 T1 hl hx) fun h' eb=>⟨rfl,I.turnedL (t':=s.toks) (fun b o hb q=>eb b o (fun z=>hb (by simp [z])) q) hf⟩
 self:=fun _ _ _ _ _ st h=>by
  obtain ⟨⟨old,he⟩,_⟩:=st;exact Yd4 he h
theorem boot_enumerate:Yaw "enumerate" = some (.type "enumerate"):=by decide +kernel
open AutoSeq1 (wpAny_loadPart')
set_option maxRecDepth 100000
section
variable {prog:Yai} {w:World} {A:Yas} {E:Value -> Ye -> Prop} {s:Ye}
theorem Zhd {it t:Addr} {i:Nat} {items:Array Value} {x:Value} {Q:Value -> Ye -> Prop} (hit:s.heap.IsTupleIter it t i) (ht:s.heap.IsTuple t items) (hx:items[i]? = some x)
  (hQ:∀ h',h'.IsTupleIter it t (i + 1) -> Yd8 it s.heap h' -> Q x { s with heap:=h' }):wpAny (model prog w) A (Ycg (.ref it)) Q E s:=by
 obtain ⟨o,ho,hc,hd⟩:=id hit;obtain ⟨ol,hol,_,nl,hdl⟩:=ht;unfold Ycg;refine Yd (Yb1 (name:=Yc3 "__next__") hit.typeIs Ydi
  (Ycw Ydi hit.typeIs Yg6 ?_ (Yhr _)))
 show wpAny _ _ (field (.ref it) 0 >>= _) _ _ s;refine Yd (Ydg ho hd (x:=.ref t) rfl ?_);show wpAny _ _ (if (Value.ref t == Value.none) = true then _ else _) _ _ s;rw [if_neg (show ¬ ((Value.ref t == Value.none) = true) from Yaq)];show wpAny _ _ (field (.ref it) 1 >>= _) _ _ s;refine Yd (Ydg ho hd (x:=.int i 0) rfl ?_);show wpAny _ _ (seqItems? (.ref t) >>= _) _ _ s;refine Yd (wpAny_seqItems hol hdl ?_);simp only [Yav,hx];refine Yd (wpAny_setField ho hd (by simp) (Ys ⟨x,rfl,Ys (hQ _ ?_ (Yhs ..))⟩));exact ⟨_,Ygi _ ho (Obj.isFreed_of_fields (Obj.data_mapFields hd _)),(Obj.cls_mapFields ..).trans hc,by
  rw [Obj.data_mapFields hd]; simp [Yik]⟩
theorem Zft {it t:Addr} {i:Nat} {items:Array Value} {Q:Value -> Ye -> Prop} (hh:A.handled = none) (hit:s.heap.IsTupleIter it t i) (ht:s.heap.IsTuple t items) (hx:items[i]? = none)
  (hE:∀ h' e,Yij it s.heap h' -> (∃ o,h'.get? e = some o /\ o.cls = .type "StopIteration") -> E (.ref e) { s with heap:=h' }):wpAny (model prog w) A (Ycg (.ref it)) Q E s:=by
 obtain ⟨o,ho,hc,hd⟩:=id hit;obtain ⟨ol,hol,_,nl,hdl⟩:=ht;unfold Ycg;refine Yd (Yb1 (name:=Yc3 "__next__") hit.typeIs Ydi
  (Ycw Ydi hit.typeIs Yg6 ?_ (Yhr _)))
 show wpAny _ _ (field (.ref it) 0 >>= _) _ _ s;refine Yd (Ydg ho hd (x:=.ref t) rfl ?_);show wpAny _ _ (if (Value.ref t == Value.none) = true then _ else _) _ _ s;rw [if_neg (show ¬ ((Value.ref t == Value.none) = true) from Yaq)];show wpAny _ _ (field (.ref it) 1 >>= _) _ _ s;refine Yd (Ydg ho hd (x:=.int i 0) rfl ?_);show wpAny _ _ (seqItems? (.ref t) >>= _) _ _ s;refine Yd (wpAny_seqItems hol hdl ?_);simp only [Yav,hx];refine Yd (Ygx (Yd (wpAny_setField ho hd (by simp) ?_)));show wpAny _ _ (newExc (.type "StopIteration") [] >>= _) _ _ _;refine Yd ?_;simp only [newExc,newTuple];refine Yd (Yb7 ?_ (by size_fits));refine Yd (m:=firstArgMember _ _) (wpAny_of_eq (a:=Value.none) (by first | rfl | (simp only [firstArgMember]; rfl)) ?_);refine Yb7 ?_ (by size_fits);simp only [raiseNew];refine Yd (wpAny_handled ?_)
 first | rw [show A.in1.handled = none from hh] | rw [hh]
 refine Yd (Ys (wpAny_throw ?_));exact hE _ _ (((Yhs ..).extBut.push _).push _) ⟨_,Y6 _ rfl,rfl⟩
end
theorem ZlA {prog:Yai} {w:World} {A:Yas} (hh:A.handled = none) (it l:Addr) (hne:l ≠ it) (items:Array Value):
  Draws prog w A it [it,l] items.size (fun i v=>items[i]? = some v) (fun i h=>h.IsTupleIter it l i /\ h.IsTuple l items) where
 live:=fun _ _ st=>let ⟨o,ho,_⟩:=st.1; ⟨o,ho⟩
 frame:=fun _ _ _ st hk=>⟨st.1.at fun o e=>hk it (by simp) o e,st.2.at fun o e=>hk l (by simp) o e⟩
 item:=fun i s Q E hi st hQ=>by
  refine Zhd st.1 st.2 (x:=items[i]) (by simp [hi]) fun h' hit' hs'=>?_;exact hQ _ h' s.toks (by simp [hi]) ⟨hit',st.2.extBut hs'.extBut hne⟩ hs'
 done:=fun s Q E st hE=>Zft hh st.1 st.2 (by simp) hE
theorem Zf3 (l:Addr) (items:Array Value) (n:Nat) (dct:Option Addr) (sl:Array (Option Value)):
  Meets (Builtin.«enumerate.__new__» ⟨[.type "enumerate",.ref l],[]⟩) (fun _ R s=>s.heap.get? l = some { cls:=.type "tuple",dict:=dct,data:=.seq items n,slots:=sl } /\
   R (.ok (.ret (.ref (s.heap.push { cls:=.type "tuple_iterator",data:=.fields #[.ref l,.int 0 0] }).objs.size)))
    { s with heap:=(s.heap.push { cls:=.type "tuple_iterator",data:=.fields #[.ref l,.int 0 0] }).push { cls:=.type "enumerate",data:=.fields #[.none,.bool false,.ref s.heap.objs.size,Yik 0,.none,.none] } }):=
 .of_wp fun prog w A R s h=>by
  obtain ⟨hp,g,d,tk,os⟩:=s; obtain ⟨hl,h⟩:=h;have hsub:=sub_enumerate;have hL:Heap.IsTuple (Shared.heap ⟨hp,g,d,tk,os⟩) l items:=⟨_,hl,rfl,n,rfl⟩
  wp_walk using Ybo hl
  refine wpAny_stack_any fun st=>Ys ?_;split
  ·rename_i c _ _ _ _ _
   cases (c == Value.type "enumerate")
   ·wp_walk using Ybo hl,Ycy hL
    exact ⟨_,rfl,h⟩
   ·wp_walk using Ybo hl,Ycy hL
    exact ⟨_,rfl,h⟩
  ·wp_walk using Ybo hl,Ycy hL
   exact ⟨_,rfl,h⟩
theorem Zf0 {prog:Yai} {w:World} {A:Yas} {E:Value -> Ye -> Prop} {s:Ye} {l:Addr} {items:Array Value} {Q:Value -> Ye -> Prop} (hL:s.heap.IsTuple l items)
  (h:∀ h',IsEnum h' (s.heap.objs.size + 1) s.heap.objs.size 0 .none -> h'.IsTupleIter s.heap.objs.size l 0 -> h'.objs.size = s.heap.objs.size + 2 ->
   (∀ b o,s.heap.get? b = some o -> h'.get? b = some o) -> Q (.ref (s.heap.objs.size + 1)) { s with heap:=h' }):
  wpAny (model prog w) A (call (.type "enumerate") [.ref l]) Q E s:=by
 obtain ⟨⟨c,dct,dt,sl⟩,hl,hc,n,hd⟩:=hL;replace hc:c = .type "tuple":=hc;replace hd:dt = .seq items n:=hd;subst hc hd;refine callType_new F.called_enumerate (by decide) (F.typeCall_enumerate_1 _) (F.newCall_enumerate_1 _) (fun obj=>F.args_object_init_2 obj _) F.entry_enumerate_new
  (Zf3 l items n dct sl) ⟨hl,?_⟩
 have hz:(s.heap.push { cls:=.type "tuple_iterator",data:=.fields #[.ref l,.int 0 0] }).objs.size = s.heap.objs.size + 1:=Heap.size_push ..;show _ /\ _;rw [hz];have he:IsEnum ((s.heap.push { cls:=.type "tuple_iterator",data:=.fields #[.ref l,.int 0 0] }).push
   { cls:=.type "enumerate",data:=.fields #[.none,.bool false,.ref s.heap.objs.size,Yik 0,.none,.none] }) (s.heap.objs.size + 1) s.heap.objs.size 0 .none:=by
  have:=Y6 (s.heap.push { cls:=.type "tuple_iterator",data:=.fields #[.ref l,.int 0 0] })
   (o:={ cls:=.type "enumerate",data:=.fields #[.none,.bool false,.ref s.heap.objs.size,Yik 0,.none,.none] }) rfl
  rw [hz] at this; exact this
 refine ⟨⟨_,he,rfl⟩,h _ he ⟨_,Yk _ (Y6 _ rfl),rfl,rfl⟩ (by rw [Heap.size_push,hz]) fun b o x=>Yk _ (Yk _ x)⟩
theorem Zm5 {P:Yai} {w:World} {K:Ya} {es:List Expr} {k:Nat} {pos:Pos} (a e it:Addr) (hne:e ≠ it):
  Turn P w K (.Tuple es k pos) (Ite fun H xs=>SqT K H a xs) [e,it] e (fun i h=>(∃ old,IsEnum h e it i old) /\ h.IsTupleIter it a i) where
 mem:=by simp
 obj:=fun i h st b hb=>by
  obtain ⟨⟨old,he⟩,o,ho,c,d⟩:=st;simp only [Yah,Ydd,or_false] at hb;rcases hb with rfl | rfl
  ·exact ⟨_,he,fun v z=>by cases z⟩
  ·exact ⟨o,ho,fun v z=>by rw [d] at z; cases z⟩
 keep:=fun i h h' st k=>by
  obtain ⟨⟨old,he⟩,hit⟩:=st;exact ⟨⟨old,k e (by simp) _ he⟩,hit.at fun o q=>k it (by simp) o q⟩
 item:=by
  intro X hP hw hK hc i pins s σ H E I hf st hg;subst hP hw hK;obtain ⟨xs,x,hq,hx⟩:=hg;obtain ⟨its,rv,p,hz⟩:=I.tuple hq;obtain ⟨u,hu,ru⟩:=rv.get hx;obtain ⟨⟨old,he⟩,hit⟩:=st;have hel:=Yr he;have hil:it < s.heap.objs.size:=by obtain ⟨o,ho,_⟩:=id hit; exact Yr ho
  have pt:s.heap.IsTuple a its.toArray:=p;have hae:e ≠ a:=by
   rintro rfl;obtain ⟨o,ho,hc,_⟩:=pt;rw [he] at ho; cases ho;exact absurd hc (by simp)
  have hai:a ≠ it:=by
   rintro rfl;obtain ⟨o,ho,hc,_⟩:=pt;obtain ⟨o',ho',hc',_⟩:=hit;rw [ho'] at ho; cases ho;rw [hc'] at hc;exact absurd hc (by simp)
  have D:=ZlA (prog:=X.prog) (w:=X.w) (A:=X.A.in1) (I.ok.hd hc) it a hai its.toArray;refine wpAny_pyNext_enum_itemD D he ⟨hit,pt⟩ (by simpa using (Yc.mp hu).1) hne (by simp [hne,hae]) fun y h' tk hy ho hst hT hsz hk=>?_;have ey:y = u:=by
   have:its.toArray[i]? = some u:=by simpa using hu
   rw [this] at hy; cases hy; rfl
  subst ey;refine ⟨_,rfl,Yeq (s:={ s with heap:=h',toks:=tk + 1 }) ho fun h'' he'' hs''=>?_⟩;obtain ⟨I2,n2⟩:=ZjQ (x:=x) (tk':=tk + 1) I hf hel hil ru hT hk hs'';exact ⟨.ref s.heap.objs.size,_,I2,rfl,⟨_,x,rfl,I.hok.fresh (Yj _),rfl,fun ys hy=>by rw [I.tuple_inj hy hq]; exact hx⟩,⟨⟨_,by simpa using he''⟩,hst.1.extBut hs''.extBut (Yat hne)⟩,n2⟩
 done:=by
  intro X hP hw hK hc i pins s σ H E I hf st hg;subst hP hw hK;obtain ⟨xs,hq,hx⟩:=hg;obtain ⟨its,rv,p,hz⟩:=I.tuple hq;obtain ⟨⟨old,he⟩,hit⟩:=st;have hl:=rv.length;have pt:s.heap.IsTuple a its.toArray:=p;have hT:s.TypeIs (.ref e) "enumerate":=⟨_,he,rfl⟩;unfold Yhv;refine Yd (wpAny_attempt (Yb1 (name:=Yc3 "__next__") hT Ygu
   (Ycw Ygu hT F.entry_enumerate_next ?_ (F.args_enumerate_next_1 _))))
  show wpAny _ _ (field (.ref e) 2 >>= _) _ _ _;refine Yd (Ydg he rfl (x:=.ref it) rfl ?_);refine Yd (Zft (I.ok.hd hc) hit pt (by simp; exact lC 2 2268279672881 T1 hl hx) fun h' x he' hx'=>?_);obtain ⟨o,ho,hc⟩:=hx';refine Yd (wpAny_isInstance (T:="StopIteration") (b:=true) ⟨o,ho,hc⟩ isSubtype_stop ?_);exact Ys ⟨rfl,I.turnedL (t':=s.toks) (fun b o hb q=>he' b o (fun z=>hb (by simp [z])) q) hf⟩
 self:=fun _ _ _ _ _ st h=>by
  obtain ⟨⟨old,he⟩,_⟩:=st;exact Yd4 he h
section
variable {X:Cx} {es:List Expr} {k:Nat} {a:Expr} {p pos tpos:Pos} {f:E3}
def Zsw (K:Ya) (ta:TA):TI:=fun σ H R=>ta σ H fun vs H1=>∃ b,vs = [.ref b] /\ ((∃ xs,SqL K H1 b xs /\ R (Ite fun H xs=>SqL K H b xs) H1) \/ ∃ xs,SqT K H1 b xs /\ R (Ite fun H xs=>SqT K H b xs) H1)
theorem Zrj {ta:TA} (hg:Gl X "enumerate") (hm:X.mg "enumerate" = none) (ha:PA X [a] ta) (hs:Yad [a] X.env = [(false,eval a X.env)]:=by rfl):PI X (.Tuple es k tpos) (.Call (.Name "enumerate" p) [a] [] pos) (Zsw X.K ta):=by
 intro pins s σ H R I h;refine Call_ (Zji I hg hm boot_enumerate (Yc1 (thn (ha pos pins s σ H _ I h) fun us s1 ⟨vs,H1,I1,r1,q1⟩=>?_) hs rfl));obtain ⟨b,e,q⟩:=q1;subst e;cases r1 with
 | cons r rr=>
  cases rr
  cases r
  have fp:∀ {h':Heap} {s2:Ye},∀ c ∈ [s1.heap.objs.size + 1,s1.heap.objs.size],Zgi X pins H1 c:=fun {h' s2} c hc=>by
   have hc':s1.heap.objs.size <= c:=by
    simp only [Yah,Ydd,or_false] at hc;rcases hc with rfl | rfl <;> omega
   exact I1.fpOk hc' (I1.hok.fresh hc')
  rcases q with ⟨xs,hq,q⟩ | ⟨xs,hq,q⟩
  ·obtain ⟨its,rv,pl,hz⟩:=I1.list hq
   refine call_enumerate_list pl.isList fun h' hE hI hsz hk=>?_;have I2:Inv X pins σ H1 { s1 with heap:=h' }:=I1.kept (t':=s1.toks) hk;exact Yd4 (s:={ s1 with heap:=h' }) hE ⟨_,[s1.heap.objs.size + 1,s1.heap.objs.size],_,_,H1,rfl,I2,Zm4 b _ _ (Nat.succ_ne_self _),⟨⟨_,hE⟩,hI⟩,fp (h':=h') (s2:=s1),q⟩
  ·obtain ⟨its,rv,pl,hz⟩:=I1.tuple hq
   refine Zf0 (show s1.heap.IsTuple b its.toArray from pl) fun h' hE hI hsz hk=>?_;have I2:Inv X pins σ H1 { s1 with heap:=h' }:=I1.kept (t':=s1.toks) hk;exact Yd4 (s:={ s1 with heap:=h' }) hE ⟨_,[s1.heap.objs.size + 1,s1.heap.objs.size],_,_,H1,rfl,I2,Zm5 b _ _ (Nat.succ_ne_self _),⟨⟨_,hE⟩,hI⟩,fp (h':=h') (s2:=s1),q⟩
theorem ZnU (hm:X.mg "enumerate" = none) (h:C3 X a f) (hg:Gl X "enumerate":=by rfl) (hs:Yad [a] X.env = [(false,eval a X.env)]:=by rfl) (hs':Yad (a :: []) X.env = (false,eval a X.env) :: Yad [] X.env:=by rfl):CIL X (.Tuple es k tpos) (.Call (.Name "enumerate" p) [a] [] pos) (Zl4 f):=
 PI.imp (Zrj hg hm (Zd h Zm hs') hs) fun σ H R zz1=>by
  obtain ⟨ι,M,env,S,E,h⟩:=zz1;obtain ⟨d,M1,e1,h⟩:=Zmc.bind h;refine ⟨ι,M,env,S,E,?_⟩;have e2:Zb f Zj env M = .ok [d] M1:=by unfold Zb; rw [e1]; rfl
  rw [e2];intro vs H1 ι1 x1 S1 r1;obtain ⟨v,ws,rfl,r,q⟩:=r1.cons_inv;have:=q.nil_inv;subst this;cases d with
  | tup ds=>
   obtain ⟨b,vs,rfl,s,r⟩:=r.tup_inv;refine ⟨b,rfl,.inr ⟨vs,s,h _ H1 ι1 x1 S1 ?_⟩⟩;intro i H2 ι2 M2 x S2 _;refine ⟨fun d hd=>?_,fun hl=>⟨vs,x.tup _ _ s,by rw [r.length,hl,ZhK]; exact Yj _⟩⟩;rw [ZhZ] at hd;cases hq:ds[i]? with
   | none=>rw [hq] at hd; cases hd
   | some d0=>
    rw [hq] at hd;simp only [Yem,Ydj,Ya7] at hd;subst hd;obtain ⟨v,hv,rv⟩:=r.get hq;refine ⟨⟨vs,v,x.tup _ _ s,hv⟩,fun y H3 hy=>?_⟩;obtain ⟨T,y',rfl,hT,rfl,hall⟩:=hy;have e:=hall vs (x.tup _ _ s);rw [hv] at e;cases e;exact S2.tupl hT (Zal.cons Rep.int (Zal.cons (rv.mono x) Zal.nil))
  | ref n=>
   cases hm:M1[n]? with
   | none=>simp only [hm] at h; exact h.elim
   | some o=>
    cases o with
    | dct kvs=>simp only [hm] at h; exact h.elim
    | fdct kvs=>simp only [hm] at h; exact h.elim
    | ins _ _=>simp only [hm] at h; exact h.elim
    | lst ds=>
     simp only [hm] at h;obtain ⟨b,ha,rfl⟩:=r.ref_inv;obtain ⟨vs,q,r⟩:=S1.obj n _ b hm ha;refine ⟨b,rfl,.inl ⟨vs,SqL.of q,h _ H1 ι1 x1 S1 ?_⟩⟩;intro i H2 ι2 M2 x S2 lk;have lk':M2[n]? = some (.lst ds):=by simpa [Zey] using lk
     obtain ⟨vs2,q2,r2⟩:=S2.obj n _ b lk' (x.pre _ _ ha);refine ⟨fun d hd=>?_,fun hl=>⟨vs2,SqL.of q2,by rw [r2.length,hl,ZhK]; exact Yj _⟩⟩;rw [ZhZ] at hd;cases hq:ds[i]? with
     | none=>rw [hq] at hd; cases hd
     | some d0=>
      rw [hq] at hd;simp only [Yem,Ydj,Ya7] at hd;subst hd;obtain ⟨v,hv,rv⟩:=r2.get hq;refine ⟨⟨vs2,v,SqL.of q2,hv⟩,fun y H3 hy=>?_⟩;obtain ⟨T,y',rfl,hT,rfl,hall⟩:=hy;have e:=hall vs2 (SqL.of q2);rw [hv] at e;cases e;exact S2.tupl hT (Zal.cons Rep.int (Zal.cons rv Zal.nil))
  | _=>exact h.elim
end
end L3
namespace L3
open PySem PySem.Spec PyProof.Rows L2
open AutoSeq1 (wpAny_loadPart')
open PySem.SeqAt MeetsSeq
set_option maxRecDepth 100000
theorem Zov (l b:Addr) (i j k m:Int) (t1 t2 t3 t4:Tok) (n n2:Nat) (dd dd2:Option Addr) (sl sl2:Array (Option Value)):
  Meets (Builtin.«tuple.__le__» ⟨[.ref l,.ref b],[]⟩)
   (fun A R s=>s.heap.get? l = some { cls:=.type "tuple",dict:=dd,data:=.seq #[.int i t1,.int j t2] n,slots:=sl } /\ s.heap.get? b = some { cls:=.type "tuple",dict:=dd2,data:=.seq #[.int k t3,.int m t4] n2,slots:=sl2 } /\
    R (.ok (.ret (.bool (decide (i < k) || (decide (i = k) && decide (j <= m)))))) s):=
 .of_wp fun prog w A R s h=>by
  obtain ⟨hp,g,d,tk,os⟩:=s; obtain ⟨hl,hb,h⟩:=h;have f2:=AutoSeq1.sub_tuple_tuple
  wp_walk using Ybo hl,Ybo hb,wpAny_forIn_list _ (fun rest b s'=>b.1 = none /\ s' = ⟨hp,g,d,tk,os⟩ /\ ((rest = [(.int i t1,.int k t3),(.int j t2,.int m t4)]) \/ (i = k /\ rest = [(.int j t2,.int m t4)]) \/ (i = k /\ j = m /\ rest = []))) _
  case turn=>
   rintro ⟨y,x⟩ rest b s' ⟨hb',rfl,hz⟩;rcases hz with hz | ⟨rfl,hz⟩ | ⟨_,_,hz⟩
   ·cases hz
    refine Yd (EqAt.int_int i t1 k t3 prog w _ _ ?_);by_cases e:i = k
    ·subst e
     rw [beq_self_eq_true]
     wp_walk
     exact ⟨rfl,rfl,.inr (.inl ⟨rfl,rfl⟩)⟩
    ·rw [beq_eq_false_iff_ne.mpr e]
     rw [if_pos (by rfl)];show wpAny _ _ (do rule "tuple.compare.by-the-first-pair-that-differs"; let r ← richCompare .LtE _ _; let r ← ret r; pure (ForInStep.done (some r,()))) _ _ _;refine Yd (Ygx (Yd (show wpAny _ _ (Ya0 .LtE _ _) _ _ _ from Yht ?_)))
     wp_walk
     refine ⟨_,rfl,?_⟩;have:decide (i <= k) = (decide (i < k) || decide (i = k) && decide (j <= m)):=by
      by_cases q:i < k
      ·simp [q,Yer q]
      ·have:¬ i <= k:=by omega
       simp [q,e,this]
     rw [this]; exact h
   ·cases hz
    refine Yd (EqAt.int_int j t2 m t4 prog w _ _ ?_);by_cases e:j = m
    ·subst e
     rw [beq_self_eq_true]
     wp_walk
     exact ⟨rfl,rfl,.inr (.inr ⟨rfl,rfl,rfl⟩)⟩
    ·rw [beq_eq_false_iff_ne.mpr e]
     rw [if_pos (by rfl)];show wpAny _ _ (do rule "tuple.compare.by-the-first-pair-that-differs"; let r ← richCompare .LtE _ _; let r ← ret r; pure (ForInStep.done (some r,()))) _ _ _;refine Yd (Ygx (Yd (show wpAny _ _ (Ya0 .LtE _ _) _ _ _ from Yht ?_)))
     wp_walk
     exact ⟨_,rfl,by simpa using h⟩
   ·cases hz
  case fin=>
   rintro ⟨b1,b2⟩ s' ⟨hb',rfl,hz⟩;simp only at hb';subst hb';rcases hz with hz | ⟨rfl,hz⟩ | ⟨rfl,rfl,hz⟩
   ·cases hz
   ·cases hz
   ·wp_walk
    exact ⟨_,rfl,by simpa [Builtin.Tuple.tupleCompareSizes] using h⟩
  case h=>
   exact ⟨rfl,rfl,.inl rfl⟩
theorem ZnW {K:Ya} {H:Hp} {ι:List Addr} {i j:Int} {vs:List V} {its:List Value} (r:Zal K H ι [.int i,.int j] vs) (rv:Vals vs its):∃ t1 t2,its = [.int i t1,.int j t2]:=by
 obtain ⟨v1,vs1,rfl,q1,r⟩:=r.cons_inv;obtain ⟨v2,vs2,rfl,q2,r⟩:=r.cons_inv;have:=r.nil_inv;subst this;have e1:=q1.int_inv;have e2:=q2.int_inv;subst e1 e2;cases rv with
 | cons a rv=>
  cases rv with
  | cons b rv=>
   cases rv
   obtain ⟨t1,rfl⟩:=a;obtain ⟨t2,rfl⟩:=b;exact ⟨t1,t2,rfl⟩
theorem Zt7 {X:Cx} (hu:X.A.units + 80 < cLine):OpR X (Ya0 .LtE) (r2 X.K ZlJ):=by
 intro pins s σ H x y v u Q I rx ry ⟨ι,M,a,b,S,ra,rb,h⟩;unfold ZlJ at h;split at h
 ·rename_i i j k l
  obtain ⟨p,vs,rfl,s1,r1⟩:=ra.tup_inv;cases rx;obtain ⟨p',ws,rfl,s2,r2⟩:=rb.tup_inv;cases ry;obtain ⟨its,rvs,ht,_⟩:=I.tuple s1;obtain ⟨its2,rws,ht2,_⟩:=I.tuple s2;obtain ⟨t1,t2,rfl⟩:=ZnW r1 rvs;obtain ⟨t3,t4,rfl⟩:=ZnW r2 rws;obtain ⟨⟨cls,dd,data,sl⟩,ho,hc,n,hd⟩:=ht;obtain ⟨⟨cls2,dd2,data2,sl2⟩,ho2,hc2,n2,hd2⟩:=ht2;simp only at hc hd hc2 hd2;subst hc hd hc2 hd2;exact richCompare_meets_room (op:=.LtE) ⟨_,ho,rfl⟩ ⟨_,ho2,rfl⟩ F.slot_tuple_le F.entry_tuple_le (F.args_tuple_le_2 _ _) (Zov p p' i j k l t1 t2 t3 t4 n n2 dd dd2 sl sl2)
   ⟨ho,ho2,show Value.bool _ ≠ Value.notImplemented /\ EP X pins σ Q (.bool _) s from ⟨(fun x=>nomatch x),⟨.bl _,H,I,rfl,h _ H ι Ext.refl S Rep.bl⟩⟩⟩ (lB 1 17666545486865 T1 hu)
 ·exact h.elim
end L3
namespace L3
open PySem PySem.Spec PyProof.Rows L2
section
variable {X:Cx} {o i p j e:Expr} {pos:Pos} {f g h fo fi fp fj:E3}
def Zvb (K:Ya) (f g:E3):TG:=fun v σ H Q=>∃ ι M env d r M',ZaJ K H ι M /\ Zb1 K H ι env σ /\ Rep K H ι d v /\ ZmO d f g env M = .ok r M' /\ ∀ H' ι',Ext K H ι H' ι' -> ZaJ K H' ι' M' -> Q σ H'
theorem Zqz {spos:Pos} (ho:C3 X o f) (hi:C3 X i g)
  (ha:∀ v,Ydb (.Subscript o i spos) X.env v = (do
   let ov ← Yc0 [v] (eval o X.env)
   let iv ← Yc0 [v,ov] (eval i X.env)
   Yh1 spos
   Yc0 [v,ov,iv] (Yh2 ov iv v)
   Yil [v,ov,iv] []):=by intro _; rfl):PG X (.Subscript o i spos) (Zvb X.K f g):=PG.imp (Zo7 ho hi set_list ha) fun v σ H Q zz1=>by
 obtain ⟨ι,M,env,d,r,M',S,E,rd,hp,hh⟩:=zz1;unfold ZmO at hp;cases e2:f env M with
 | exc _ _=>rw [e2] at hp; cases hp
 | bad=>rw [e2] at hp; cases hp
 | ok b M2=>
  rw [e2] at hp;simp only [R3.bind] at hp;cases e3:g env M2 with
  | exc _ _=>rw [e3] at hp; cases hp
  | bad=>rw [e3] at hp; cases hp
  | ok k M3=>
   rw [e3] at hp;simp only at hp;refine ⟨ι,M,env,S,E,?_⟩;rw [e2];intro x H2 ι2 x2 S2 r2;refine ⟨ι2,M2,env,S2,E.mono x2,?_⟩;rw [e3];intro y H3 ι3 x3 S3 r3;cases b with
   | ref n=>
    cases k with
    | int j=>
     simp only [Zfk] at hp;cases hn:M3[n]? with
     | none=>simp only [hn] at hp; cases hp
     | some ob=>
      cases ob with
      | dct _=>simp only [hn] at hp; cases hp
      | fdct _=>simp only [hn] at hp; cases hp
      | ins _ _=>simp only [hn] at hp; cases hp
      | lst xs=>
       simp only [hn] at hp;cases hj:ixD xs.length j with
       | none=>simp only [hj] at hp; cases hp
       | some q=>
        simp only [hj] at hp;cases hp;obtain ⟨ad,ha,rfl⟩:=(r2.mono x3).ref_inv;obtain ⟨ws,hw,kr⟩:=S3.obj n _ ad hn ha;obtain ⟨x4,S4⟩:=S3.setl (.inr (.inl ⟨_,hw⟩)) ha (kr.set q ((rd.mono x2).mono x3));exact ⟨ad,ws,j,q,rfl,r3.int_inv,hw,by rw [kr.length]; exact hj,hh _ _ ((x2.trans x3).trans x4) S4⟩
    | _=>cases hp
   | _=>cases hp
theorem Zqr {k:Nat} {tpos spos spos2:Pos} (hc:X.calm = true) (he:C3 X e f) (ho:C3 X o fo) (hi:C3 X i fi) (hp:C3 X p fp) (hj:C3 X j fj)
  (hs:Yed [.Tuple [.Subscript o i spos,.Subscript p j spos2] k tpos] e pos.line X.env = pure false:=by rfl) (hw:Yee [.Tuple [.Subscript o i spos,.Subscript p j spos2] k tpos] e X.env = pure none:=by rfl)
  (h1:(Yam [.Tuple [.Subscript o i spos,.Subscript p j spos2] k tpos] X.env).map (·.2) = [Ydb (.Tuple [.Subscript o i spos,.Subscript p j spos2] k tpos) X.env]:=by rfl)
  (ha:∀ v,Ydb (.Subscript o i spos) X.env v = (do
   let ov ← Yc0 [v] (eval o X.env)
   let iv ← Yc0 [v,ov] (eval i X.env)
   Yh1 spos
   Yc0 [v,ov,iv] (Yh2 ov iv v)
   Yil [v,ov,iv] []):=by intro _; rfl)
  (hb:∀ v,Ydb (.Subscript p j spos2) X.env v = (do
   let ov ← Yc0 [v] (eval p X.env)
   let iv ← Yc0 [v,ov] (eval j X.env)
   Yh1 spos2
   Yc0 [v,ov,iv] (Yh2 ov iv v)
   Yil [v,ov,iv] []):=by intro _; rfl)
  (hn:(Yam [.Subscript o i spos,.Subscript p j spos2] X.env).length = 2:=by rfl) (hst:(Yam [.Subscript o i spos,.Subscript p j spos2] X.env).findIdx? (·.1) = none:=by rfl)
  (hs1:(Yam (.Subscript o i spos :: [.Subscript p j spos2]) X.env).map (·.2) = Ydb (.Subscript o i spos) X.env :: (Yam [.Subscript p j spos2] X.env).map (·.2):=by rfl)
  (hs2:(Yam (.Subscript p j spos2 :: []) X.env).map (·.2) = Ydb (.Subscript p j spos2) X.env :: (Yam [] X.env).map (·.2):=by rfl):
  CS X (.Assign [.Tuple [.Subscript o i spos,.Subscript p j spos2] k tpos] e pos) (Zlg f fo fi fp fj):=
 (ZkS he (Zqp (n:=2) hc (Zjn (Zqz ho hi ha) (Zjn (Zqz hp hj hb) ZnY hs2) hs1) hn hst) hs hw h1).imp fun D σ H zz1=>by
 obtain ⟨ι,M,env,S,E,hh⟩:=zz1;refine ⟨ι,M,env,S,E,?_⟩;unfold Zlg at hh;cases q:f env M with
 | exc x M1=>rw [q] at hh; exact hh.elim
 | bad=>rw [q] at hh; exact hh.elim
 | ok d M1=>
  rw [q] at hh;split at hh
  ·rename_i x y M1' heq
   cases heq
   cases q1:ZmO x fo fi env M1 with
   | exc _ _=>rw [q1] at hh; exact hh.elim
   | bad=>rw [q1] at hh; exact hh.elim
   | ok r1 M2=>
    rw [q1] at hh;simp only at hh;cases q2:ZmO y fp fj env M2 with
    | exc _ _=>rw [q2] at hh; exact hh.elim
    | bad=>rw [q2] at hh; exact hh.elim
    | ok r2 M3=>
     rw [q2] at hh;simp only at hh;intro v H1 ι1 x1 S1 rv;obtain ⟨a,vs,rfl,sq,rl⟩:=rv.tup_inv;obtain ⟨v1,ws,rfl,rx,rl⟩:=rl.cons_inv;obtain ⟨v2,ws,rfl,ry,rl⟩:=rl.cons_inv;have:=rl.nil_inv;subst this;refine ⟨a,[v1,v2],rfl,sq,rfl,v1,[v2],rfl,ι1,M1,env,x,r1,M2,S1,E.mono x1,rx,q1,fun H2 ι2 x2 S2=>?_⟩;exact ⟨v2,[],rfl,ι2,M2,env,y,r2,M3,S2,(E.mono x1).mono x2,ry.mono x2,q2,fun H3 ι3 x3 S3=>⟨rfl,hh σ H3 ι3 ((x1.trans x2).trans x3) S3 (((E.mono x1).mono x2).mono x3)⟩⟩
  ·exact hh.elim
end
section
variable {prog:Yai} {w:World} {A:Yas} {E:Value -> Ye -> Prop} {s:Ye}
theorem Zks {it t:Addr} {items:Array Value} (hne:t ≠ it):∀ (n i:Nat) (s:Ye) (Q:List Value -> Ye -> Prop),s.heap.IsListIter it t i -> s.heap.IsList t items -> i + n <= items.size ->
  (∀ h',h'.IsListIter it t (i + n) -> Yd8 it s.heap h' -> Q ((items.toList.drop i).take n) { s with heap:=h' }) -> wpAny (model prog w) A (draw (.ref it) n) Q E s
 | 0,i,s,Q,hit,_,_,hQ=>by
  show wpAny _ _ (pure []) Q E s;exact Ys (by simpa using hQ s.heap hit (Heap.SameBut.refl ..))
 | n + 1,i,s,Q,hit,ht,hle,hQ=>by
  have hlt:i < items.size:=lC 1 2204024704001 T1 hle;show wpAny _ _ (Yhv (.ref it) >>= _) Q E s;refine Yd (Yfw hit ht (x:=items[i]) (by simp [hlt]) fun h₁ hit₁ hs₁=>?_);refine Yd (Yaz (Zks hne n (i + 1) _ _ hit₁ (ht.extBut hs₁.extBut hne) (lC 1 0x21a0cc02a1c0c01 T1 hle) fun h₂ hit₂ hs₂=>Ys ?_));have hd:items.toList.drop i = items[i] :: items.toList.drop (i + 1):=by simp [Ybm,hlt]
  have:=hQ h₂ (by rw [show i + (n + 1) = i + 1 + n by exact Ym (lB 0 1790139547840 T1) (lB 0 0xa1c0c1a0cc0 T1)]; exact hit₂) (hs₁.trans hs₂);rw [hd,List.take_succ_cons] at this;exact this
theorem ZhT {t:Addr} {items:Array Value} {Q:List Value -> Ye -> Prop} (hh:A.handled = none) (ht:s.heap.IsList t items)
  (hQ:∀ h',Yij s.heap.objs.size s.heap h' -> Q items.toList { s with heap:=h' }):wpAny (model prog w) A (unpackItems (.ref t) items.size none) Q E s:=by
 have hlt:t ≠ s.heap.objs.size:=by obtain ⟨o,ho,_⟩:=ht; exact Yy (Yr ho)
 have hT:s.TypeIs (.ref t) "list":=by obtain ⟨o,ho,hc,_⟩:=ht; exact ⟨o,ho,hc⟩
 unfold unpackItems;refine Yd ?_
 ·unfold notIterableAtAll
  refine Yd (wpAny_specialOf hT F.slot_list_iter.lookup ?_);refine Ys ?_;simp only [Yae,if_false];refine Yd (Yaz (wpAny_pyIter_list ht ?_));have htp:(s.heap.push { cls:=.type "list_iterator",data:=.fields #[.ref t,.int 0 0] }).IsList t items:=ht.at fun o e=>Yk _ e;refine Yd (Yaz (Zks hlt items.size 0 _ _ ⟨_,Y6 _ rfl,rfl,rfl⟩ htp (lA 0 3776 T1) fun h₁ hit₁ hs₁=>?_));have hall:List.take items.size (List.drop 0 items.toList) = items.toList:=by
   rw [Ye4]; exact Yay (by simp)
  rw [hall];rw [if_neg (by simp)];have ht₁:h₁.IsList t items:=htp.extBut hs₁.extBut hlt;refine Yd (Yaz (Yge hh hit₁ ht₁ (by simp) fun h₂ he₂=>?_));simp only [Option.isSome_none,Yae,if_false];refine Ys (hQ h₂ fun b o hb e=>he₂ b o hb (hs₁.extBut b o hb (Yk _ e)))
theorem Zhb {env:Env} {elts:List Expr} {x1} {pos:Pos} {t:Addr} {items:Array Value} {Q:Unit -> Ye -> Prop} (hh:A.handled = none) (ht:s.heap.IsList t items)
  (hn:(Yam elts env).length = items.size) (hstar:(Yam elts env).findIdx? (·.1) = none)
  (h:∀ h',Yij s.heap.objs.size s.heap h' -> wpAny (model prog w) A (assignInOrder ((Yam elts env).map (·.2)) items.toList) Q E { s with heap:=h' }):
  wpAny (model prog w) A (Ydb (.Tuple elts x1 pos) env (.ref t)) Q E s:=by
 rw [assign_Tuple];refine Yd (Yfd ?_);unfold unpack;rw [hn,hstar];exact Yd (Yaz (ZhT hh ht h))
end
section
variable {X:Cx} {e:Expr} {es:List Expr} {pos:Pos} {f:E3}
def ZvY (K:Ya) (n:Nat) (t:TGs):TG:=fun v σ H Q=>∃ a xs,v = .ref a /\ SqL K H a xs /\ xs.length = n /\ t xs σ H Q
theorem Zsi {k:Nat} {t:TGs} {n:Nat} (hc:X.calm = true) (h:PGs X es t)
  (hn:(Yam es X.env).length = n:=by rfl) (hst:(Yam es X.env).findIdx? (·.1) = none:=by rfl):PG X (.Tuple es k pos) (ZvY X.K n t):=by
 intro pins s σ H v u Q I r hw;obtain ⟨a,xs,e1,hq,hl,hw⟩:=hw;subst e1;cases r;obtain ⟨its,rv,ht,hz⟩:=I.list hq;refine Zhb (I.ok.hd hc) ht.isList (by simp [hn,← hl,rv.length]) hst fun h' hx=>?_;have I1:Inv X pins σ H { s with heap:=h' }:=I.kept (t':=s.toks) fun b o e=>hx b o (Yy (Yr e)) e;exact h pins _ σ H xs _ Q I1 (by simpa using rv) hw
theorem ZlQ:∀ (is:List Nat) (ds:List D) (env env':ZaD),bindAll is ds env = some env' -> ds.length = is.length:=by
 intro is
 induction is with
 | nil=>intro ds env env' h; cases ds with | nil=>rfl | cons d ds=>cases h
 | cons i is ih=>intro ds env env' h; cases ds with | nil=>cases h | cons d ds=>simp [ih ds _ _ h]
theorem Zrp {is:List Nat} {k:Nat} {tpos:Pos} (hc:X.calm = true) (he:C3 X e f) (h:CGs X es is)
  (hs:Yed [.Tuple es k tpos] e pos.line X.env = pure false:=by rfl) (hw:Yee [.Tuple es k tpos] e X.env = pure none:=by rfl)
  (h1:(Yam [.Tuple es k tpos] X.env).map (·.2) = [Ydb (.Tuple es k tpos) X.env]:=by rfl)
  (hn:(Yam es X.env).length = is.length:=by rfl) (hst:(Yam es X.env).findIdx? (·.1) = none:=by rfl):CS X (.Assign [.Tuple es k tpos] e pos) (ZjX f is):=
 (ZkS he (Zsi (n:=is.length) hc h hn hst) hs hw h1).imp fun D σ H zz1=>by
 obtain ⟨ι,M,env,S,E,hh⟩:=zz1;refine ⟨ι,M,env,S,E,?_⟩;unfold ZjX at hh;cases q:f env M with
 | exc x M1=>rw [q] at hh; exact hh.elim
 | bad=>rw [q] at hh; exact hh.elim
 | ok d M1=>
  rw [q] at hh;cases d with
  | ref n=>
   simp only at hh;cases hm:M1[n]? with
   | none=>simp only [hm] at hh; exact hh.elim
   | some o=>
    cases o with
    | dct _=>simp only [hm] at hh; exact hh.elim
    | fdct _=>simp only [hm] at hh; exact hh.elim
    | ins _ _=>simp only [hm] at hh; exact hh.elim
    | lst ds=>
     simp only [hm] at hh;cases qb:bindAll is ds env with
     | none=>simp only [qb] at hh; exact hh.elim
     | some env1=>
      simp only [qb] at hh;intro v H1 ι1 x1 S1 r1;obtain ⟨a,ha,rfl⟩:=r1.ref_inv;obtain ⟨vs,hv,rv⟩:=S1.obj n _ a hm ha;exact ⟨a,vs,rfl,SqL.of hv,by rw [rv.length]; exact ZlQ _ _ _ _ qb,ι1,M1,env,ds,env1,S1,E.mono x1,rv,qb,fun σ' E'=>hh σ' H1 ι1 x1 S1 E'⟩
  | _=>exact hh.elim
end
open PySem PySem.W PyProof.Rows
section
variable {M:Model} {A:Yas} {E:Value -> Ye -> Prop} {G:Ye -> Prop}
def TT (M:Model) (A:Yas) (E:Value -> Ye -> Prop) (G:Ye -> Prop) {α:Type} (m:StateT SortSt Sem α) (Q:α -> SortSt -> Prop) (st:SortSt):Prop:=∀ s,G s -> kasC M A E m (fun a st' s'=>Q a st' /\ G s') st s
end
section
variable {prog:Yai} {w:World} {A:Yas} {E:Value -> Ye -> Prop} {G:Ye -> Prop} {κ:Yid} {it:Array Keyed} {lt:Nat -> Nat -> Bool} {N:Nat}
section
variable {left:Bool} {key:Nat} {l:List Nat} {base n:Nat} {st:SortSt} {B:Nat -> Bool}
end
end
end L3
namespace L3
open PySem PySem.Spec PyProof.Rows L2
noncomputable def Ztf (K:Ya) (d:List Str) (v:Value):Bool:=match v with
 | .ref a=>(match K.lookup a with
  | some o=>o.cls == .type "tuple" && o.dict.isNone && (match o.data with | .seq vs _=>decide (vs.size <= 1000) && KTD.strsLook vs.toList d | _=>false)
  | none=>false)
 | _=>false
noncomputable def Zve (t:ZqC):List (Str × List Str):=t.map fun p=>(⟨p.1.toArray⟩,p.2.map fun y=>⟨y.toArray⟩)
def Zu1 (K:Ya) (d:List Str) (v:Value):Prop:=∃ a,v = .ref a /\ ∀ H,SqT K H a (d.map V.str)
theorem Zof:∀ {vs:List Value} {d:List Str},StrsAre vs d -> Vals (d.map V.str) vs:=by
 intro vs d h
 induction h with
 | nil=>exact .nil
 | cons _ _ _ ih=>exact .cons ⟨_,rfl⟩ ih
theorem Zrq {K:Ya} {d:List Str} {v:Value} (h:Ztf K d v = true):Zu1 K d v:=by
 unfold Ztf at h;split at h
 ·rename_i a
  refine ⟨a,rfl,fun H=>?_⟩;split at h
  ·rename_i o ho
   simp only [Yv] at h;obtain ⟨⟨h1,h2⟩,h3⟩:=h;split at h3
   ·rename_i vs n hd
    simp only [Yv,decide_eq_true_eq] at h3;exact .inr ⟨o,vs,n,ho,⟨beq_iff_eq.mp h1,by simpa using h2⟩,hd,Y2 h3.1 (by rw [Ybf]; decide),Zof (KTD.strs_of_look h3.2)⟩
   ·cases h3
  ·cases h
 ·cases h
abbrev Zut (K:Ya) (a:Addr) (t:ZqC):Prop:=KTD.tabLook (Ztf K) (fun b=>K.lookup b) a (Zve t) = true
theorem Zut.at {K:Ya} {a:Addr} {t:ZqC} {h:Heap} (T:Zut K a t) (X:K.In h):Yhz (Zu1 K) h a (Zve t):=KTD.tab_of_look (fun _ _ q=>Zrq q) X T
section
variable {prog:Yai} {w:World} {A:Yas} {E:Value -> Ye -> Prop} {s:Ye} {a:Addr} {K:Ya} {t:ZqC} {x:List Nat} {tk:Tok}
theorem ZqK {R:List Str -> Value -> Prop} {T:List (Str × List Str)} (h:Yhz R s.heap a T):s.TypeIs (.ref a) "dict":=let ⟨_,o,_,_,ho,hc,_⟩:=h; ⟨o,ho,hc.1⟩
theorem Zpw {R:List Str -> Value -> Prop} {T:List (Str × List Str)} {k:Str} {Q:Option Value -> Ye -> Prop} (h:Yhz R s.heap a T)
  (hs:∀ d v,Yd5 k T = some d -> R d v -> Q (some v) { s with toks:=s.toks + 1 }) (hn:Yd5 k T = none -> Q none { s with toks:=s.toks + 1 }):wpAny (model prog w) A (dictGet a (.str k tk)) Q E s:=by
 obtain ⟨_,o,es,ep,ho,hc,hd,hr⟩:=h;unfold dictGet
 try with_reducible refine Yaz ?_
 refine Yd (wpAny_pyHash_str (Yd (KTD.kt_dictFind_strs (s:={ s with toks:=s.toks + 1 }) ho hd (by obtain ⟨es⟩:=es; simpa using hr.exact) ?_)));have key:Q (findBy (fun q v=>v.isStr q) es k) { s with toks:=s.toks + 1 }:=by
  rw [show findBy (fun q v=>v.isStr q) es k = (es.toList.find? fun z=>z.key.isStr k).map (·.val) by obtain ⟨es⟩:=es; simp [findBy]];cases e:Yd5 k T with
  | none=>rw [hr.find_none e]; exact hn e
  | some d=>
   obtain ⟨v,hv,r⟩:=hr.find_some e;rw [hv]; exact hs d v e r
 rw [findBy_of_findIdx?] at key;cases e:es.findIdx? fun z=>z.key.isStr k with
 | none=>rw [e] at key; exact Ys key
 | some j=>rw [e] at key; exact Yd (wpAny_dictEntries (s:={ s with toks:=s.toks + 1 }) ho hd (Ys key))
theorem Zoi {R:List Str -> Value -> Prop} {T:List (Str × List Str)} {k:Str}:
  MeetsIn prog w (Builtin.«dict.get» ⟨[.ref a,.str k tk],[]⟩) fun _ Z s=>Yhz R s.heap a T /\ (∀ d v,Yd5 k T = some d -> R d v -> Z (.ok (.ret v)) { s with toks:=s.toks + 1 }) /\ (Yd5 k T = none -> Z (.ok (.ret .none)) { s with toks:=s.toks + 1 }):=
 .of_wp fun A Z s zz=>by
  obtain ⟨h,h1,h2⟩:=zz;show wpAny _ _ (dictGet a (.str k tk) >>= fun o=>_) _ _ s;refine Yd (Zpw h (fun d v e r=>Ys ⟨v,rfl,h1 d v e r⟩) fun e=>?_);show wpAny _ _ (Builtin.Dict.missed a (.str k tk) >>= fun o=>_) _ _ _;exact Yd (wpAny_missed_other h.1 (Ys ⟨Value.none,rfl,h2 e⟩))
theorem ZfE {R:List Str -> Value -> Prop} {T:List (Str × List Str)} {k:Str} {Q:Value -> Ye -> Prop} (h:Yhz R s.heap a T)
  (h1:∀ d v,Yd5 k T = some d -> R d v -> Q v { s with toks:=s.toks + 1 }) (h2:Yd5 k T = none -> Q .none { s with toks:=s.toks + 1 }):wpAny (model prog w) A (call (.builtin "dict.get") [.ref a,.str k tk]) Q E s:=
 Yic Yc5 (ZqK h) Ydy (PySem.F.args_dict_get_2 _ _) (Zoi (R:=R) (T:=T)) ⟨h,h1,h2⟩
end
section
variable {X:Cx} {e:Expr} {x:Str} {a:Addr} {t:ZqC} {npos apos cpos pos:Pos} {g:E3}
end
end L3
set_option maxHeartbeats 400000
namespace Law
open PySem L3
noncomputable section
def Zhy:S3:=Zw (sIf (e2 Zam (e2 Ze (Za 0) (eC (.int 0))) (eC (.str [106,117,109,112]))) (Zaf (e2 Ze (Za 0) (eC (.int 1)))) (Zab)) (Zw (sIf (Zc7 (e2 Zam (e2 Ze (Za 0) (eC (.int 0))) (eC (.str [119,104,101,110]))) (e2 ZgB (e2 Ze (Za 2) (e2 Ze (Za 0) (eC (.int 1)))) (eC (.int 0)))) (Zaf (e2 Ze (Za 0) (eC (.int 2)))) (Zab)) (Zaf (e2 Zag (Za 1) (eC (.int 1)))))
def Zc0:F3:=mkF 3 3 Zhy
def Zf6:S3:=Zw (sIf (e2 Zam (Za 0) (eC (.str [97,100,100]))) (Zaf (e2 Zag (Za 1) (Za 2))) (Zab)) (Zw (sIf (e2 Zam (Za 0) (eC (.str [115,117,98]))) (Zaf (e2 ZbG (Za 1) (Za 2))) (Zab)) (Zaf (eIf (e2 ZgB (Za 1) (Za 2)) (eC (.int 1)) (eC (.int 0)))))
def ZcT:F3:=mkF 3 3 Zf6
def Zjm:S3:=Zaf (e2 Zag (e2 Zag (eSl (Za 0) (ZaE) (ZaI (Za 1))) (ZaB (Zb (Za 2) (Zj)))) (eSl (Za 0) (ZaI (e2 Zag (Za 1) (eC (.int 1)))) (ZaE)))
def Zca:F3:=mkF 3 3 Zjm
def Zhw:S3:=Zaf (ZeQ Zox ZmQ (Zak Zko (Zb (Za 0) (Zj))) (Zb (Za 1) (Zb (eC (.int 0)) (Zj))))
def ZdG:F3:=mkF 2 2 Zhw
def ZfH:S3:=Zw (Zaj 3 (e2 Ze (Za 0) (eC (.int 0)))) (Zw (sIf (e2 Zam (Za 3) (eC (.str [112,117,116]))) (Zaf (Zae Zca (Zb (Za 1) (Zb (e2 Ze (Za 0) (eC (.int 1))) (Zb (e2 Ze (Za 0) (eC (.int 2))) (Zj)))))) (Zab)) (Zw (sIf (e2 Zam (Za 3) (eC (.str [103,101,116]))) (Zaf (Zae Zca (Zb (Za 1) (Zb (e2 Ze (Za 0) (eC (.int 1))) (Zb (Zae ZdG (Zb (Za 2) (Zb (e2 Ze (Za 1) (e2 Ze (Za 0) (eC (.int 2)))) (Zj)))) (Zj)))))) (Zab)) (Zw (sIf (e2 ZhQ (Za 3) (ZaB (Zb (eC (.str [97,100,100])) (Zb (eC (.str [115,117,98])) (Zb (eC (.str [109,111,114,101])) (Zj)))))) (Zaf (Zae Zca (Zb (Za 1) (Zb (e2 Ze (Za 0) (eC (.int 1))) (Zb (Zae ZcT (Zb (Za 3) (Zb (e2 Ze (Za 1) (e2 Ze (Za 0) (eC (.int 2)))) (Zb (e2 Ze (Za 1) (e2 Ze (Za 0) (eC (.int 3)))) (Zj))))) (Zj)))))) (Zab)) (Zaf (Za 1)))))
def ZeD:F3:=mkF 3 4 ZfH
def Zgf:S3:=Zaf (Zc7 (e2 ZjG (Za 0) (eC (.int 0))) (e2 Ziq (Za 0) (Za 1)))
def Zb6:F3:=mkF 2 2 Zgf
def ZmB:S3:=Zaf (e2 ZhQ (e2 Ze (Za 0) (eC (.int 0))) (ZaB (Zb (eC (.str [103,101,116])) (Zb (eC (.str [115,101,116])) (Zj)))))
def ZcU:F3:=mkF 1 1 ZmB
def Zd9:S3:=Zaf (eIf (e2 Zam (e2 Ze (Za 0) (eC (.int 0))) (eC (.str [103,101,116]))) (e2 Ze (Za 1) (e2 Ze (Za 0) (eC (.int 2)))) (e2 Ze (Za 1) (e2 Ze (Za 0) (eC (.int 1)))))
def Zbp:F3:=mkF 2 2 Zd9
def ZlB:S3:=Zaf (eIf (Zae Zb6 (Zb (Za 1) (Zb (Zak ZaR (Zb (Za 0) (Zj))) (Zj)))) (e2 Ze (Za 0) (Za 1)) (eC .non))
def Zdc:F3:=mkF 2 2 ZlB
def Zgc:S3:=Zw (sIf (e2 Zam (e2 Ze (Za 0) (eC (.int 0))) (eC (.str [103,101,116]))) (Zaf (Zae Zca (Zb (Za 1) (Zb (e2 Ze (Za 0) (eC (.int 1))) (Zb (e2 Ze (Za 2) (e2 Ze (Za 0) (eC (.int 1)))) (Zj)))))) (Zab)) (Zaf (Zae ZeD (Zb (Za 0) (Zb (Za 1) (Zb (ZaB (Zj)) (Zj))))))
def ZbV:F3:=mkF 3 3 Zgc
def Zh4:S3:=Zw (Zaj 3 (e2 Ze (Za 1) (eC (.int 0)))) (Zw (Zaj 4 (e2 Ze (Za 1) (eC (.int 1)))) (Zw (Zaj 5 (Zae Zdc (Zb (Za 0) (Zb (Za 3) (Zj))))) (Zw (sIf (eOr (e2 Zkz (Za 5) (eC .non)) (e2 Zam (e2 Ze (Za 5) (eC (.int 0))) (eC (.str [104,97,108,116])))) (Zaf (eC (.bl false))) (Zab)) (Zaf (e2 Zam (Za 2) (ZaB (Zb (Zae Zc0 (Zb (Za 5) (Zb (Za 3) (Zb (Za 4) (Zj))))) (Zb (Zae ZbV (Zb (Za 5) (Zb (Za 4) (Zb (e2 Ze (Za 2) (eC (.int 1))) (Zj))))) (Zj)))))))))
def Zdz:F3:=mkF 3 6 Zh4
def ZiG:S3:=Zw (sIf (Zc7 (e2 Zcb (Za 0) (eC .non)) (e2 ZlJ (eSl (Za 1) (ZaE) (ZaI (eC (.int 2)))) (eSl (Za 0) (ZaE) (ZaI (eC (.int 2)))))) (Zaf (eC (.bl false))) (Zab)) (Zw (sIf (e2 ZbC (e2 Ze (Za 1) (eC (.int 2))) (eC (.str [103,101,116]))) (Zaf (eC (.bl true))) (Zab)) (Zw (Zaj 2 (Zc7 (e2 Zcb (Za 0) (eC .non)) (e2 Zam (e2 Ze (Za 0) (eC (.int 0))) (e2 Ze (Za 1) (eC (.int 0)))))) (Zaf (e2 Zam (e2 Ze (Za 1) (eC (.int 3))) (eIf (Za 2) (e2 Ze (Za 0) (eC (.int 3))) (eC (.int 0)))))))
def Zdj:F3:=mkF 2 3 ZiG
def ZgO:S3:=Zw (Zaj 3 (e2 Ze (Za 2) (eC (.int 1)))) (Zw (sIf (e1 Zb0 (Zae Zb6 (Zb (Za 3) (Zb (e2 ZbG (Zak ZaR (Zb (Za 1) (Zj))) (eC (.int 1))) (Zj))))) (Zaf (eC (.bl false))) (Zab)) (Zw (Zaj 4 (e2 Ze (e2 Ze (Za 1) (Za 3)) (eC (.int 1)))) (Zw (Zaj 5 (Zae Zdc (Zb (Za 0) (Zb (e2 Ze (e2 Ze (Za 1) (Za 3)) (eC (.int 0))) (Zj))))) (Zw (sIf (eOr (e2 Zkz (Za 5) (eC .non)) (eOr (e1 Zb0 (Zae ZcU (Zb (Za 5) (Zj)))) (e2 ZbC (e2 Ze (Za 2) (eC (.int 2))) (e2 Ze (Za 5) (eC (.int 0)))))) (Zaf (eC (.bl false))) (Zab)) (Zw (sIf (e2 ZbC (e2 Ze (Za 2) (eC (.int 0))) (Zae Zbp (Zb (Za 5) (Zb (Za 4) (Zj))))) (Zaf (eC (.bl false))) (Zab)) (Zw (sIf (e2 Zam (e2 Ze (Za 5) (eC (.int 0))) (eC (.str [103,101,116]))) (Zaf (e2 Zam (e2 Ze (Za 2) (eC (.int 3))) (e2 Ze (e2 Ze (e2 Ze (Za 1) (e2 Zag (Za 3) (eC (.int 1)))) (eC (.int 1))) (e2 Ze (Za 5) (eC (.int 1)))))) (Zab)) (Zaf (e2 Zam (e2 Ze (Za 2) (eC (.int 3))) (e2 Ze (Za 4) (e2 Ze (Za 5) (eC (.int 2))))))))))))
def Zb9:F3:=mkF 3 6 ZgO
def ZeO:S3:=Zw (Zlb (ZbJ (e2 ZbG (Zak ZaR (Zb (Za 1) (Zj))) (eC (.int 1)))) (Zcj 2) (sIf (e1 Zb0 (Zae Zdz (Zb (Za 0) (Zb (e2 Ze (Za 1) (Za 2)) (Zb (e2 Ze (Za 1) (e2 Zag (Za 2) (eC (.int 1)))) (Zj)))))) (Zaf (Za 2)) (Zab))) (Zaf (eC .non))
def Zcu:F3:=mkF 2 3 ZeO
def ZdD:S3:=Zw (Zaj 2 (Za 0)) (Zw (ZjZ (Zl4 (Za 1)) (Zci [3,4]) (Zw (sIf (e1 Zb0 (Zae Zdj (Zb (Za 2) (Zb (Za 4) (Zj))))) (Zaf (Za 3)) (Zab)) (Zaj 2 (Za 4)))) (Zaf (eC .non)))
def Zb4:F3:=mkF 2 5 ZdD
def ZdV:S3:=Zw (ZjZ (Zl4 (Za 2)) (Zci [3,4]) (sIf (e1 Zb0 (Zae Zb9 (Zb (Za 0) (Zb (Za 1) (Zb (Za 4) (Zj)))))) (Zaf (Za 3)) (Zab))) (Zaf (eC .non))
def Zbv:F3:=mkF 3 5 ZdV
def Zfm:S3:=Zw (sIf (eOr (e2 Zam (Zak ZaR (Zb (Za 2) (Zj))) (eC (.int 0))) (e2 ZbC (e2 Ze (Za 2) (eC (.int 0))) (ZaB (Zb (eC (.int 0)) (Zb (Za 1) (Zj)))))) (Zaf (ZaB (Zb (eC (.str [98,101,103,105,110])) (Zb (eC (.int 0)) (Zj))))) (Zab)) (Zw (Zaj 3 (Zae Zcu (Zb (Za 0) (Zb (Za 2) (Zj))))) (Zw (sIf (e2 Zcb (Za 3) (eC .non)) (Zaf (ZaB (Zb (eC (.str [115,116,101,112])) (Zb (Za 3) (Zj))))) (Zab)) (Zw (Zaj 4 (e2 ZbG (Zak ZaR (Zb (Za 2) (Zj))) (eC (.int 1)))) (Zw (sIf (e2 ZbC (Zae Zdc (Zb (Za 0) (Zb (e2 Ze (e2 Ze (Za 2) (Za 4)) (eC (.int 0))) (Zj)))) (ZaB (Zb (eC (.str [104,97,108,116])) (Zj)))) (Zaf (ZaB (Zb (eC (.str [101,110,100])) (Zb (Za 4) (Zj))))) (Zab)) (Zaf (eC .non))))))
def Zc4:F3:=mkF 3 5 Zfm
def Zei:S3:=Zw (Zaj 3 (Zae Zb4 (Zb (eC .non) (Zb (Za 2) (Zj))))) (Zw (sIf (e2 Zcb (Za 3) (eC .non)) (Zaf (ZaB (Zb (eC (.str [117,115,101])) (Zb (Za 3) (Zj))))) (Zab)) (Zw (Zaj 4 (Zae Zbv (Zb (Za 0) (Zb (Za 1) (Zb (Za 2) (Zj)))))) (Zw (sIf (e2 Zcb (Za 4) (eC .non)) (Zaf (ZaB (Zb (eC (.str [109,97,116,99,104])) (Zb (Za 4) (Zj))))) (Zab)) (Zw (Zaj 5 (eLC (Zih (eSl (Za 1) (ZaE) (ZaI (e1 ZeP (eC (.int 1)))))) 1 (Zcj 6) [Zae ZcU (Zb (e2 Ze (Za 0) (e2 Ze (Za 6) (eC (.int 0)))) (Zj))] (Za 6))) (Zw (sIf (e2 ZbC (Zak ZaR (Zb (Za 2) (Zj))) (Zak ZaR (Zb (Za 5) (Zj)))) (Zaf (ZaB (Zb (eC (.str [99,111,117,110,116])) (Zb (Zak ZaR (Zb (Za 2) (Zj))) (Zj))))) (Zab)) (Zaf (eC .non)))))))
def Zcz:F3:=mkF 3 6 Zei
def Zn0:S3:=Zw (Zaj 4 (Zae Zc4 (Zb (Za 0) (Zb (Za 1) (Zb (Za 2) (Zj)))))) (Zaf (eIf (e2 Zcb (Za 4) (eC .non)) (Za 4) (Zae Zcz (Zb (Za 0) (Zb (Za 2) (Zb (Za 3) (Zj)))))))
def Ziy:F3:=mkF 4 5 Zn0
def Ze4:S3:=Zw (sIf (eOr (e2 ZiF (Za 0) (e1 ZeP (e2 Zj0 (eC (.int 10)) (eC (.int 6))))) (e2 ZjG (Za 0) (e2 Zj0 (eC (.int 10)) (eC (.int 6))))) (Zaf (Za 0)) (Zab)) (Zw (Zaj 2 (e2 Zag (e2 Zag (e2 Zag (e2 ZcQ (eC (.int 31)) (Za 0)) (e2 ZcQ (Za 1) (Za 1))) (e2 ZcQ (eC (.int 17)) (Za 1))) (eC (.int 2000033)))) (Zw (Zaj 2 (e2 Zaz (e2 ZcQ (e2 Zag (Za 0) (eC (.int 1000003))) (Za 2)) (eC (.int 2147483629)))) (Zaf (e2 Zag (e2 ZcQ (Za 2) (Za 2)) (e2 ZaG (Za 2) (eC (.int 7)))))))
def ZaN:F3:=mkF 2 3 Ze4
def Zde:S3:=Zw (sIf (e2 Ziq (e2 Zaz (Za 0) (eC (.int 3))) (eC (.int 2))) (Zaf (e2 ZbG (e2 Zaz (e2 ZaG (Za 0) (eC (.int 3))) (eC (.int 7))) (eC (.int 3)))) (Zab)) (Zw (sIf (e2 Zam (e2 Zaz (e2 ZaG (Za 0) (eC (.int 3))) (eC (.int 2))) (eC (.int 0))) (Zaf (e2 Zaz (e2 ZaG (Za 0) (eC (.int 6))) (e2 Zj0 (eC (.int 10)) (eC (.int 30))))) (Zab)) (Zaf (e1 ZeP (e2 Zaz (e2 ZaG (Za 0) (eC (.int 6))) (e2 Zj0 (eC (.int 10)) (eC (.int 30)))))))
def ZaY:F3:=mkF 1 1 Zde
def ZfK:S3:=Zw (Zaj 3 (Zae ZaN (Zb (Za 0) (Zb (Za 1) (Zj))))) (Zw (Zaj 4 (ZbT (Zb (eC (.str [112,117,116])) (Zb (eC (.str [112,117,116])) (Zb (eC (.str [97,100,100])) (Zb (eC (.str [115,117,98])) (Zb (eC (.str [109,111,114,101])) (Zb (eC (.str [103,101,116])) (Zb (eC (.str [103,101,116])) (Zb (eC (.str [103,101,116])) (Zb (eC (.str [115,101,116])) (Zb (eC (.str [115,101,116])) (Zb (eC (.str [115,101,116])) (Zb (eC (.str [115,101,116])) (Zj))))))))))))))) (Zw (Zaj 5 (e2 Ze (e2 Zag (Za 4) (ZbT (Zb (eC (.str [106,117,109,112])) (Zb (eC (.str [119,104,101,110])) (Zb (eC (.str [119,104,101,110])) (Zb (eC (.str [116,101,108,108])) (Zj))))))) (e2 Zaz (Za 3) (eC (.int 16))))) (Zw (Zaj 3 (e2 ZaG (Za 3) (eC (.int 16)))) (Zw (sIf (e2 Zam (e2 Zaz (Za 3) (eC (.int 41))) (eC (.int 7))) (Zaf (ZaB (Zb (eC (.str [104,97,108,116])) (Zj)))) (Zab)) (Zw (Zaj 6 (e2 Zaz (Za 3) (eC (.int 8)))) (Zw (Zaj 7 (e2 Zaz (e2 ZaG (Za 3) (eC (.int 8))) (eC (.int 8)))) (Zw (Zaj 8 (e2 Zaz (e2 ZaG (Za 3) (eC (.int 64))) (eC (.int 8)))) (Zw (Zaj 9 (e2 Zag (e2 Zag (Za 1) (eC (.int 1))) (e2 Zaz (e2 ZaG (Za 3) (eC (.int 32))) (e2 ZbG (Za 2) (Za 1))))) (Zw (sIf (e2 Zam (e2 Zaz (e2 ZaG (Za 3) (eC (.int 8))) (eC (.int 4))) (eC (.int 0))) (Zaj 9 (e2 Zaz (e2 ZaG (Za 3) (eC (.int 32))) (e2 Zag (Za 2) (eC (.int 1))))) (Zab)) (Zw (sIf (e2 Zam (Za 5) (eC (.str [112,117,116]))) (Zaf (ZaB (Zb (Za 5) (Zb (Za 6) (Zb (Zae ZaY (Zb (e2 ZaG (Za 3) (eC (.int 8))) (Zj))) (Zj)))))) (Zab)) (Zw (sIf (e2 ZhQ (Za 5) (ZaB (Zb (eC (.str [97,100,100])) (Zb (eC (.str [115,117,98])) (Zb (eC (.str [109,111,114,101])) (Zj)))))) (Zaf (ZaB (Zb (Za 5) (Zb (Za 6) (Zb (Za 7) (Zb (Za 8) (Zj))))))) (Zab)) (Zw (sIf (e2 Zam (Za 5) (eC (.str [106,117,109,112]))) (Zaf (ZaB (Zb (Za 5) (Zb (Za 9) (Zj))))) (Zab)) (Zw (sIf (e2 Zam (Za 5) (eC (.str [119,104,101,110]))) (Zaf (ZaB (Zb (Za 5) (Zb (Za 6) (Zb (Za 9) (Zj)))))) (Zab)) (Zaf (e2 Ze (ZbT (Zb (ZaB (Zb (Za 5) (Zb (Za 6) (Zb (Za 7) (Zj))))) (Zb (ZaB (Zb (Za 5) (Zb (Za 6) (Zj)))) (Zj)))) (Zak Zh8 (Zb (e2 Zam (Za 5) (eC (.str [116,101,108,108]))) (Zj))))))))))))))))))
def Zct:F3:=mkF 3 10 ZfK
def Zef:S3:=Zw (Zaj 1 (eSl (Za 0) (ZaE) (ZaI (eC (.int 60))))) (Zw (Zaj 2 (eLC (ZbJ (Zak ZaR (Zb (Za 1) (Zj)))) 1 (Zcj 5) [] (Zae Zct (Zb (e2 Ze (Za 1) (Za 5)) (Zb (Za 5) (Zb (Zak ZaR (Zb (Za 1) (Zj))) (Zj))))))) (Zw (Zaj 3 (ZaB (Zb (eC (.str [104,97,108,116])) (Zj)))) (Zw (sIf (Zc7 (e2 ZgB (Zak ZaR (Zb (Za 1) (Zj))) (eC (.int 0))) (e2 Zam (e2 Zaz (e2 Ze (Za 1) (eC (.int 0))) (eC (.int 4))) (eC (.int 1)))) (Zw (Zaj 4 (Zae ZaN (Zb (e2 Ze (Za 1) (eC (.int 0))) (Zb (eC (.int 61)) (Zj))))) (Zw (ZfU (Za 2) (e2 Zaz (Za 4) (Zak ZaR (Zb (Za 2) (Zj)))) (Za 3)) (Zaj 3 (ZaB (Zb (eC (.str [106,117,109,112])) (Zb (e2 Zaz (e2 ZaG (Za 4) (eC (.int 64))) (e2 Zag (Zak ZaR (Zb (Za 2) (Zj))) (eC (.int 1)))) (Zj))))))) (Zab)) (Zaf (Zak ZaZ (Zb (e2 Zag (Za 2) (ZbT (Zb (Za 3) (Zj)))) (Zj)))))))
def Zee:F3:=mkF 1 5 Zef
def Zhc:S3:=Zw (Zaj 1 (ZbT (Zj))) (Zw (Zlb (ZbJ (eC (.int 8))) (Zcj 2) (Zw (Zaj 3 (eC (.int 0))) (Zw (sIf (e2 ZgB (Zak ZaR (Zb (Za 0) (Zj))) (eC (.int 0))) (Zaj 3 (e2 Ze (Za 0) (e2 Zaz (e2 Zag (e2 ZcQ (eC (.int 5)) (Za 2)) (eC (.int 3))) (Zak ZaR (Zb (Za 0) (Zj)))))) (Zab)) (Zbq (ZeQ tyL Zb3 (Za 1) (Zb (Zae ZaY (Zb (Zae ZaN (Zb (Za 3) (Zb (e2 Zag (eC (.int 100)) (Za 2)) (Zj)))) (Zj))) (Zj))))))) (Zaf (Zak ZaZ (Zb (Za 1) (Zj)))))
def Zez:F3:=mkF 1 4 Zhc
def ZfV:S3:=Zw (Zaj 4 (e2 Ze (Za 0) (eC (.int 0)))) (Zw (sIf (e2 Zam (Za 4) (eC (.str [112,117,116]))) (ZfU (Za 2) (e2 Ze (Za 0) (eC (.int 1))) (e2 Ze (Za 0) (eC (.int 2)))) (sIf (e2 Zam (Za 4) (eC (.str [97,100,100]))) (ZfU (Za 2) (e2 Ze (Za 0) (eC (.int 1))) (e2 Zag (e2 Ze (Za 2) (e2 Ze (Za 0) (eC (.int 2)))) (e2 Ze (Za 2) (e2 Ze (Za 0) (eC (.int 3)))))) (sIf (e2 Zam (Za 4) (eC (.str [115,117,98]))) (ZfU (Za 2) (e2 Ze (Za 0) (eC (.int 1))) (e2 ZbG (e2 Ze (Za 2) (e2 Ze (Za 0) (eC (.int 2)))) (e2 Ze (Za 2) (e2 Ze (Za 0) (eC (.int 3)))))) (sIf (e2 Zam (Za 4) (eC (.str [109,111,114,101]))) (ZfU (Za 2) (e2 Ze (Za 0) (eC (.int 1))) (Zak Zh8 (Zb (e2 ZgB (e2 Ze (Za 2) (e2 Ze (Za 0) (eC (.int 2)))) (e2 Ze (Za 2) (e2 Ze (Za 0) (eC (.int 3))))) (Zj)))) (sIf (e2 Zam (Za 4) (eC (.str [103,101,116]))) (ZfU (Za 2) (e2 Ze (Za 0) (eC (.int 1))) (ZeQ Zox ZmQ (Za 3) (Zb (e2 Ze (Za 2) (e2 Ze (Za 0) (eC (.int 2)))) (Zb (eC (.int 0)) (Zj))))) (sIf (e2 Zam (Za 4) (eC (.str [115,101,116]))) (Znx (Za 3) (e2 Ze (Za 2) (e2 Ze (Za 0) (eC (.int 1)))) (e2 Ze (Za 2) (e2 Ze (Za 0) (eC (.int 2))))) (sIf (eOr (e2 Zam (Za 4) (eC (.str [106,117,109,112]))) (Zc7 (e2 Zam (Za 4) (eC (.str [119,104,101,110]))) (e2 ZgB (e2 Ze (Za 2) (e2 Ze (Za 0) (eC (.int 1)))) (eC (.int 0))))) (Zaf (e2 Ze (Za 0) (e1 ZeP (eC (.int 1))))) (Zab)))))))) (Zaf (e2 Zag (Za 1) (eC (.int 1)))))
def Zbs:F3:=mkF 4 5 ZfV
def ZgL:S3:=Zw (Zaj 3 (eC (.int 0))) (Zw (Zaj 4 (Zak Zgd (Zb (Za 1) (Zj)))) (Zw (Zaj 5 (ZnM)) (Zw (Zaj 6 (ZbT (Zb (ZaB (Zb (eC (.int 0)) (Zb (Zak ZaZ (Zb (Za 1) (Zj))) (Zb (ZaB (Zj)) (Zj))))) (Zj)))) (Zw (Zns (Zc7 (e2 ZbC (e2 Ze (e2 Ze (Za 0) (Za 3)) (eC (.int 0))) (eC (.str [104,97,108,116]))) (e2 ZiF (Zak ZaR (Zb (Za 6) (Zj))) (Za 2))) (Zw (Zaj 3 (Zae Zbs (Zb (e2 Ze (Za 0) (Za 3)) (Zb (Za 3) (Zb (Za 4) (Zb (Za 5) (Zj))))))) (Zw (Zaj 7 (ZmR (Za 5) 1 (Zcj 8) [e2 ZbC (e2 Zep (Za 5) (Za 8)) (eC (.int 0))] (ZaB (Zb (Za 8) (Zb (e2 Zep (Za 5) (Za 8)) (Zj)))))) (Zbq (ZeQ tyL Zb3 (Za 6) (Zb (ZaB (Zb (Za 3) (Zb (Zak ZaZ (Zb (Za 4) (Zj))) (Zb (Zak ZaZ (Zb (Zak Zcc (Zb (Za 7) (Zj))) (Zj))) (Zj))))) (Zj))))))) (Zaf (Za 6))))))
def Zdf:F3:=mkF 3 8 ZgL
def Zh9:S3:=Zw (Zaj 2 (ZbT (Zj))) (Zw (Zlb (ZbJ (e2 ZbG (Zak ZaR (Zb (Za 1) (Zj))) (eC (.int 1)))) (Zcj 3) (Zw (Ze2 (eSl (e2 Ze (Za 1) (Za 3)) (ZaE) (ZaI (eC (.int 2)))) (Zci [4,5])) (Zw (Zaj 6 (e2 Ze (Za 0) (Za 4))) (Zw (sIf (e2 Zam (e2 Ze (Za 6) (eC (.int 0))) (eC (.str [103,101,116]))) (Zbq (ZeQ tyL Zb3 (Za 2) (Zb (ZaB (Zb (e2 Ze (Za 5) (e2 Ze (Za 6) (eC (.int 2)))) (Zb (Za 3) (Zb (eC (.str [103,101,116])) (Zb (e2 Ze (e2 Ze (e2 Ze (Za 1) (e2 Zag (Za 3) (eC (.int 1)))) (eC (.int 1))) (e2 Ze (Za 6) (eC (.int 1)))) (Zj)))))) (Zj)))) (Zab)) (sIf (e2 Zam (e2 Ze (Za 6) (eC (.int 0))) (eC (.str [115,101,116]))) (Zbq (ZeQ tyL Zb3 (Za 2) (Zb (ZaB (Zb (e2 Ze (Za 5) (e2 Ze (Za 6) (eC (.int 1)))) (Zb (Za 3) (Zb (eC (.str [115,101,116])) (Zb (e2 Ze (Za 5) (e2 Ze (Za 6) (eC (.int 2)))) (Zj)))))) (Zj)))) (Zab)))))) (Zaf (Zak ZaZ (Zb (Zak Zcc (Zb (Za 2) (Zj))) (Zj)))))
def Zfc:F3:=mkF 2 7 Zh9
def Zfh:S3:=Zw (sIf (e2 Zam (Zak ZaR (Zb (Za 0) (Zj))) (eC (.int 0))) (Zaf (e2 Zag (e2 ZcQ (e2 ZcQ (eC (.int 7)) (Za 1)) (Za 1)) (e2 ZcQ (eC (.int 13)) (Za 1)))) (Zab)) (Zaf (e2 Zag (e2 Ze (Za 0) (e2 Zaz (Za 1) (Zak ZaR (Zb (Za 0) (Zj))))) (e2 ZaG (Za 1) (Zak ZaR (Zb (Za 0) (Zj))))))
def Zbt:F3:=mkF 2 2 Zfh
def ZcR:S3:=Zw (Zaj 4 (e2 Zaz (Za 3) (Zak ZaR (Zb (Za 1) (Zj))))) (Zw (Ze2 (e2 Ze (Za 1) (Za 4)) (Zci [5,6])) (Zw (Zaj 7 (e2 Zaz (e2 ZaG (Za 3) (eC (.int 64))) (eC (.int 8)))) (Zw (sIf (e2 Zam (Za 2) (eC (.int 0))) (Zw (Zaj 8 (e2 ZbG (e2 Zag (e2 Ze (Za 6) (Za 7)) (eC (.int 1))) (e2 ZcQ (eC (.int 2)) (e2 Zaz (e2 ZaG (Za 3) (eC (.int 512))) (eC (.int 2)))))) (Zaf (e2 Zag (e2 Zag (eSl (Za 1) (ZaE) (ZaI (Za 4))) (ZbT (Zb (ZaB (Zb (Za 5) (Zb (e2 Zag (e2 Zag (eSl (Za 6) (ZaE) (ZaI (Za 7))) (ZaB (Zb (Za 8) (Zj)))) (eSl (Za 6) (ZaI (e2 Zag (Za 7) (eC (.int 1)))) (ZaE))) (Zj)))) (Zj)))) (eSl (Za 1) (ZaI (e2 Zag (Za 4) (eC (.int 1)))) (ZaE))))) (Zab)) (Zw (sIf (e2 Zam (Za 2) (eC (.int 1))) (Zaf (e2 Zag (e2 Zag (eSl (Za 1) (ZaE) (ZaI (Za 4))) (ZbT (Zb (ZaB (Zb (e2 ZbG (e2 Zaz (e2 ZaG (Za 3) (eC (.int 64))) (e2 Zag (Zak ZaR (Zb (Za 0) (Zj))) (eC (.int 2)))) (eC (.int 1))) (Zb (Za 6) (Zj)))) (Zj)))) (eSl (Za 1) (ZaI (e2 Zag (Za 4) (eC (.int 1)))) (ZaE)))) (Zab)) (Zw (sIf (e2 Zam (Za 2) (eC (.int 2))) (Zaf (eSl (Za 1) (ZaE) (ZaI (e1 ZeP (eC (.int 1)))))) (Zab)) (Zw (sIf (e2 Zam (Za 2) (eC (.int 3))) (Zaf (e2 Zag (e2 Zag (eSl (Za 1) (ZaE) (ZaI (Za 4))) (ZbT (Zb (e2 Ze (Za 1) (Za 4)) (Zj)))) (eSl (Za 1) (ZaI (Za 4)) (ZaE)))) (Zab)) (Zw (sIf (e2 Zam (Za 2) (eC (.int 4))) (Zaf (e2 Zag (eSl (Za 1) (ZaE) (ZaI (Za 4))) (eSl (Za 1) (ZaI (e2 Zag (Za 4) (eC (.int 1)))) (ZaE)))) (Zab)) (Zaf (e2 Zag (Za 1) (ZbT (Zb (ZaB (Zb (Za 5) (Zb (Za 6) (Zj)))) (Zj))))))))))))
def Za3:F3:=mkF 4 9 ZcR
def Zcd:S3:=Zw (sIf (e2 Zam (Zak ZaR (Zb (Za 0) (Zj))) (eC (.int 0))) (Zaf (ZbT (Zb (ZaB (Zb (e2 ZbG (e2 Zaz (Za 2) (eC (.int 5))) (eC (.int 2))) (Zb (e2 Zaz (e2 ZaG (Za 2) (eC (.int 5))) (eC (.int 3))) (Zb (e2 Ze (ZbT (Zb (eC (.str [103,101,116])) (Zb (eC (.str [115,101,116])) (Zj)))) (e2 Zaz (Za 2) (eC (.int 2)))) (Zb (eC (.int 0)) (Zj)))))) (Zj)))) (Zab)) (Zw (Zaj 3 (e2 Zaz (Za 2) (Zak ZaR (Zb (Za 0) (Zj))))) (Zw (Ze2 (e2 Ze (Za 0) (Za 3)) (Zci [4,5,6,7])) (Zw (sIf (e2 Zam (Za 1) (eC (.int 6))) (Zaf (e2 Zag (eSl (Za 0) (ZaE) (ZaI (Za 3))) (eSl (Za 0) (ZaI (e2 Zag (Za 3) (eC (.int 1)))) (ZaE)))) (Zab)) (Zw (sIf (e2 Zam (Za 1) (eC (.int 7))) (Zaf (e2 Zag (e2 Zag (eSl (Za 0) (ZaE) (ZaI (Za 3))) (ZbT (Zb (e2 Ze (Za 0) (Za 3)) (Zj)))) (eSl (Za 0) (ZaI (Za 3)) (ZaE)))) (Zab)) (Zw (sIf (e2 Zam (Za 1) (eC (.int 8))) (Zw (Zaj 8 (e2 Zaz (e2 ZaG (Za 2) (eC (.int 64))) (Zak ZaR (Zb (Za 0) (Zj))))) (Zw (Zaj 9 (Zak Zgd (Zb (Za 0) (Zj)))) (Zw (Zlg (ZaB (Zb (e2 Ze (Za 0) (Za 8)) (Zb (e2 Ze (Za 0) (Za 3)) (Zj)))) (Za 9) (Za 3) (Za 9) (Za 8)) (Zaf (Za 9))))) (Zab)) (Zw (Zaj 10 (ZaB (Zb (Za 4) (Zb (Za 5) (Zb (Za 6) (Zb (e2 ZbG (e2 Zag (Za 7) (eC (.int 1))) (e2 ZcQ (eC (.int 2)) (e2 Zaz (e2 ZaG (Za 2) (eC (.int 64))) (eC (.int 2))))) (Zj))))))) (Zw (sIf (e2 Zam (Za 1) (eC (.int 9))) (Zaj 10 (ZaB (Zb (e2 ZbG (e2 Zag (Za 4) (eC (.int 1))) (e2 ZcQ (eC (.int 2)) (e2 Zaz (e2 ZaG (Za 2) (eC (.int 64))) (eC (.int 2))))) (Zb (Za 5) (Zb (Za 6) (Zb (Za 7) (Zj))))))) (Zab)) (Zw (sIf (e2 Zam (Za 1) (eC (.int 10))) (Zaj 10 (ZaB (Zb (Za 4) (Zb (e2 ZbG (e2 Zaz (e2 ZaG (Za 2) (eC (.int 64))) (eC (.int 70))) (eC (.int 2))) (Zb (Za 6) (Zb (Za 7) (Zj))))))) (Zab)) (Zw (sIf (e2 Zam (Za 1) (eC (.int 11))) (Zaj 10 (ZaB (Zb (Za 4) (Zb (Za 5) (Zb (e2 Ze (ZbT (Zb (eC (.str [103,101,116])) (Zb (eC (.str [115,101,116])) (Zb (eC (.str [116,101,108,108])) (Zj))))) (e2 Zaz (e2 ZaG (Za 2) (eC (.int 64))) (eC (.int 3)))) (Zb (Za 7) (Zj))))))) (Zab)) (Zw (Zaj 9 (e2 Zag (e2 Zag (eSl (Za 0) (ZaE) (ZaI (Za 3))) (ZbT (Zb (Za 10) (Zj)))) (eSl (Za 0) (ZaI (e2 Zag (Za 3) (eC (.int 1)))) (ZaE)))) (Zaf (e2 Ze (ZbT (Zb (Za 9) (Zb (Zak Zcc (Zb (Za 9) (Zj))) (Zj)))) (e2 Zaz (e2 ZaG (Za 2) (eC (.int 4096))) (eC (.int 2)))))))))))))))
def Zba:F3:=mkF 3 11 Zcd
def ZcJ:S3:=Zw (Zaj 4 (e2 Zaz (Za 3) (eC (.int 13)))) (Zw (Zaj 5 (e2 ZaG (Za 3) (eC (.int 13)))) (Zw (sIf (Zc7 (e2 Ziq (Za 4) (eC (.int 6))) (e2 ZgB (Zak ZaR (Zb (Za 1) (Zj))) (eC (.int 0)))) (Zaf (ZbT (Zb (Zae Za3 (Zb (Za 0) (Zb (Za 1) (Zb (Za 4) (Zb (Za 5) (Zj)))))) (Zb (Za 2) (Zj))))) (Zab)) (Zw (sIf (e2 Ziq (Za 4) (eC (.int 6))) (Zaf (ZbT (Zb (Za 1) (Zb (Za 2) (Zj))))) (Zab)) (Zaf (ZbT (Zb (Za 1) (Zb (Zae Zba (Zb (Za 2) (Zb (Za 4) (Zb (Za 5) (Zj))))) (Zj))))))))
def ZaO:F3:=mkF 4 6 ZcJ
def ZdM:S3:=Zw (Ze2 (Za 1) (Zci [3,4])) (Zw (sIf (eOr (e2 Ziq (Za 3) (eC (.int 0))) (eOr (e2 ZjG (Za 3) (Zak ZaR (Zb (Za 0) (Zj)))) (e2 Zam (e2 Ze (e2 Ze (Za 0) (Za 3)) (eC (.int 0))) (eC (.str [104,97,108,116]))))) (Zaf (eC (.bl false))) (Zab)) (Zw (Zaj 5 (Zak Zgd (Zb (Za 4) (Zj)))) (Zw (Zaj 6 (Zae Zbs (Zb (e2 Ze (Za 0) (Za 3)) (Zb (Za 3) (Zb (Za 5) (Zb (ZnM) (Zj))))))) (Zw (sIf (e2 Zam (e2 Ze (e2 Ze (Za 0) (Za 3)) (eC (.int 0))) (eC (.str [103,101,116]))) (ZfU (Za 5) (e2 Ze (e2 Ze (Za 0) (Za 3)) (eC (.int 1))) (e2 Ze (e2 Ze (Za 2) (eC (.int 1))) (e2 Ze (e2 Ze (Za 0) (Za 3)) (eC (.int 1))))) (Zab)) (Zaf (e2 Zam (Za 2) (ZaB (Zb (Za 6) (Zb (Zak ZaZ (Zb (Za 5) (Zj))) (Zj))))))))))
def ZbF:F3:=mkF 3 7 ZdM
def Zd1:S3:=Zw (sIf (eOr (e2 Zam (Zak ZaR (Zb (Za 2) (Zj))) (eC (.int 0))) (e2 ZbC (e2 Ze (Za 2) (eC (.int 0))) (ZaB (Zb (eC (.int 0)) (Zb (Za 1) (Zj)))))) (Zaf (ZaB (Zb (eC (.str [98,101,103,105,110])) (Zb (eC (.int 0)) (Zj))))) (Zab)) (Zw (Zaj 3 (eLC (ZbJ (e2 ZbG (Zak ZaR (Zb (Za 2) (Zj))) (eC (.int 1)))) 1 (Zcj 5) [e1 Zb0 (Zae ZbF (Zb (Za 0) (Zb (e2 Ze (Za 2) (Za 5)) (Zb (e2 Ze (Za 2) (e2 Zag (Za 5) (eC (.int 1)))) (Zj)))))] (Za 5))) (Zw (sIf (e2 ZbC (Za 3) (ZbT (Zj))) (Zaf (ZaB (Zb (eC (.str [115,116,101,112])) (Zb (e2 Ze (Za 3) (eC (.int 0))) (Zj))))) (Zab)) (Zw (Zaj 4 (e2 Ze (e2 Ze (Za 2) (e1 ZeP (eC (.int 1)))) (eC (.int 0)))) (Zw (sIf (eOr (e2 Ziq (Za 4) (eC (.int 0))) (eOr (e2 ZjG (Za 4) (Zak ZaR (Zb (Za 0) (Zj)))) (e2 ZbC (e2 Ze (e2 Ze (Za 0) (Za 4)) (eC (.int 0))) (eC (.str [104,97,108,116]))))) (Zaf (ZaB (Zb (eC (.str [101,110,100])) (Zb (e2 ZbG (Zak ZaR (Zb (Za 2) (Zj))) (eC (.int 1))) (Zj))))) (Zab)) (Zaf (eC .non))))))
def ZbO:F3:=mkF 3 5 Zd1
def Zfs:S3:=Zw (Ze2 (e2 Ze (Za 0) (Za 1)) (Zci [2,3,4,5])) (Zw (Zaj 6 (eC (.int 0))) (Zw (sIf (e2 ZgB (Za 1) (eC (.int 0))) (Zw (Zaj 7 (e2 Ze (Za 0) (e2 ZbG (Za 1) (eC (.int 1))))) (Zw (sIf (eOr (e2 Ziq (Za 2) (e2 Ze (Za 7) (eC (.int 0)))) (Zc7 (e2 Zam (Za 2) (e2 Ze (Za 7) (eC (.int 0)))) (e2 ZiF (Za 3) (e2 Ze (Za 7) (eC (.int 1)))))) (Zaf (eC (.bl false))) (Zab)) (sIf (e2 Zam (Za 2) (e2 Ze (Za 7) (eC (.int 0)))) (Zaj 6 (e2 Ze (Za 7) (eC (.int 3)))) (Zab)))) (Zab)) (Zaf (eOr (e2 ZbC (Za 4) (eC (.str [103,101,116]))) (e2 Zam (Za 5) (Za 6))))))
def ZbP:F3:=mkF 2 8 Zfs
def ZeU:S3:=Zw (Ze2 (Za 2) (Zci [3,4,5,6])) (Zw (sIf (eOr (e2 Ziq (Za 4) (eC (.int 0))) (e2 ZjG (e2 Zag (Za 4) (eC (.int 1))) (Zak ZaR (Zb (Za 1) (Zj))))) (Zaf (eC (.bl false))) (Zab)) (Zw (Zaj 7 (e2 Ze (e2 Ze (Za 1) (Za 4)) (eC (.int 1)))) (Zw (Zaj 8 (e2 Ze (Za 0) (e2 Ze (e2 Ze (Za 1) (Za 4)) (eC (.int 0))))) (Zw (sIf (Zc7 (e2 Zam (e2 Ze (Za 8) (eC (.int 0))) (eC (.str [103,101,116]))) (e2 Zam (Za 5) (eC (.str [103,101,116])))) (Zaf (Zc7 (e2 Zam (e2 Ze (Za 7) (e2 Ze (Za 8) (eC (.int 2)))) (Za 3)) (e2 Zam (e2 Ze (e2 Ze (e2 Ze (Za 1) (e2 Zag (Za 4) (eC (.int 1)))) (eC (.int 1))) (e2 Ze (Za 8) (eC (.int 1)))) (Za 6)))) (Zab)) (Zw (sIf (Zc7 (e2 Zam (e2 Ze (Za 8) (eC (.int 0))) (eC (.str [115,101,116]))) (e2 Zam (Za 5) (eC (.str [115,101,116])))) (Zaf (Zc7 (e2 Zam (e2 Ze (Za 7) (e2 Ze (Za 8) (eC (.int 1)))) (Za 3)) (e2 Zam (e2 Ze (Za 7) (e2 Ze (Za 8) (eC (.int 2)))) (Za 6)))) (Zab)) (Zaf (eC (.bl false))))))))
def ZbR:F3:=mkF 3 9 ZeU
def ZgZ:S3:=Zw (Zaj 4 (Zae ZbO (Zb (Za 0) (Zb (Za 1) (Zb (Za 2) (Zj)))))) (Zw (sIf (e2 Zcb (Za 4) (eC .non)) (Zaf (Za 4)) (Zab)) (Zw (Zaj 5 (eLC (ZbJ (Zak ZaR (Zb (Za 3) (Zj)))) 1 (Zcj 6) [e1 Zb0 (Zae ZbP (Zb (Za 3) (Zb (Za 6) (Zj))))] (Za 6))) (Zw (sIf (e2 ZbC (Za 5) (ZbT (Zj))) (Zaf (ZaB (Zb (eC (.str [117,115,101])) (Zb (e2 Ze (Za 5) (eC (.int 0))) (Zj))))) (Zab)) (Zw (Zaj 5 (eLC (ZbJ (Zak ZaR (Zb (Za 3) (Zj)))) 1 (Zcj 6) [e1 Zb0 (Zae ZbR (Zb (Za 0) (Zb (Za 2) (Zb (e2 Ze (Za 3) (Za 6)) (Zj)))))] (Za 6))) (Zw (sIf (e2 ZbC (Za 5) (ZbT (Zj))) (Zaf (ZaB (Zb (eC (.str [109,97,116,99,104])) (Zb (e2 Ze (Za 5) (eC (.int 0))) (Zj))))) (Zab)) (Zw (sIf (e2 ZbC (Zak ZaR (Zb (eLC (Zih (eSl (Za 2) (ZaE) (ZaI (e1 ZeP (eC (.int 1)))))) 1 (Zcj 6) [e2 ZhQ (e2 Ze (e2 Ze (Za 0) (e2 Ze (Za 6) (eC (.int 0)))) (eC (.int 0))) (ZaB (Zb (eC (.str [103,101,116])) (Zb (eC (.str [115,101,116])) (Zj))))] (Za 6)) (Zj))) (Zak ZaR (Zb (Za 3) (Zj)))) (Zaf (ZaB (Zb (eC (.str [99,111,117,110,116])) (Zb (Zak ZaR (Zb (Za 3) (Zj))) (Zj))))) (Zab)) (Zaf (eC .non))))))))
def Ze1:F3:=mkF 4 6 ZgZ
def Zfg:S3:=Zw (sIf (e2 Zkz (Za 1) (eC .non)) (Zaf (e2 Zkz (Za 0) (eC .non))) (Zab)) (Zw (sIf (eOr (e1 Zb0 (e1 (Zg0 .tuple) (Za 0))) (eOr (e2 ZbC (Zak ZaR (Zb (Za 0) (Zj))) (eC (.int 2))) (e1 Zb0 (e1 (Zg0 .str) (e2 Ze (Za 0) (eC (.int 0))))))) (Zaf (eC (.bl false))) (Zab)) (Zaf (Zc7 (e1 (Zg0 .int) (e2 Ze (Za 0) (eC (.int 1)))) (Zc7 (e1 Zb0 (e1 (Zg0 .bool) (e2 Ze (Za 0) (eC (.int 1))))) (e2 Zam (Za 0) (Za 1))))))
def Zdu:F3:=mkF 2 2 Zfg
def ZpE:S3:=Zw (Zaj 1 (Zae Zee (Zb (Za 0) (Zj)))) (Zw (Zaj 2 (Zae Zez (Zb (Za 0) (Zj)))) (Zw (Zaj 3 (Zae Zdf (Zb (Za 1) (Zb (Za 2) (Zb (eC (.int 60)) (Zj)))))) (Zw (Zaj 4 (eLC (Zih (Za 3)) 1 (Zcj 10) [] (ZaB (Zb (e2 Ze (Za 10) (eC (.int 0))) (Zb (e2 Ze (Za 10) (eC (.int 1))) (Zj)))))) (Zw (Zaj 5 (Zak Zgd (Zb (Zae Zfc (Zb (Za 1) (Zb (Za 3) (Zj)))) (Zj)))) (Zw (Zlb (ZbJ (e2 Zaz (Zae ZaN (Zb (Zae Zbt (Zb (Za 0) (Zb (eC (.int 1)) (Zj)))) (Zb (eC (.int 800)) (Zj)))) (eC (.int 5)))) (Zcj 6) (Zw (Zaj 7 (Zae ZaN (Zb (Zae Zbt (Zb (Za 0) (Zb (e2 Zag (eC (.int 2)) (Za 6)) (Zj)))) (Zb (e2 Zag (eC (.int 810)) (Za 6)) (Zj))))) (Zw (ZjX (Zae ZaO (Zb (Za 1) (Zb (Za 4) (Zb (Za 5) (Zb (Za 7) (Zj)))))) [4,5]) (sIf (e2 Zam (e2 Zaz (e2 ZaG (Za 7) (eC (.int 13))) (eC (.int 60))) (eC (.int 7))) (Zaj 2 (e2 Zag (eSl (Za 2) (ZaI (eC (.int 1))) (ZaE)) (eSl (Za 2) (ZaE) (ZaI (eC (.int 1)))))) (Zab))))) (Zw (Zaj 8 (ZbT (Zb (Zak ZaZ (Zb (Za 4) (Zj))) (Zb (Zak ZaZ (Zb (Za 5) (Zj))) (Zb (Zak ZaZ (Zb (Zak Zgd (Zb (Za 1) (Zj))) (Zj))) (Zj)))))) (Zw (Zaj 9 (Zae Ziy (Zb (Za 1) (Zb (Za 2) (Zb (e2 Ze (Za 8) (eC (.int 0))) (Zb (e2 Ze (Za 8) (eC (.int 1))) (Zj))))))) (Zw (sIf (e1 Zb0 (Zae Zdu (Zb (Za 9) (Zb (Zae Ze1 (Zb (Za 1) (Zb (Za 2) (Zb (Zak ZaZ (Zb (Za 4) (Zj))) (Zb (Zak ZaZ (Zb (Za 5) (Zj))) (Zj)))))) (Zj))))) (Zaf (eC (.bl false))) (Zab)) (Zaf (e2 Zam (Za 8) (ZbT (Zb (Zak ZaZ (Zb (Za 4) (Zj))) (Zb (Zak ZaZ (Zb (Za 5) (Zj))) (Zb (Za 1) (Zj)))))))))))))))
def ZnP:F3:=mkF 1 10 ZpE
end
end Law
namespace Law
open PySem PySem.Spec PyProof.Rows L2 L3
noncomputable def top (i:Nat):Stmt:=PySem.Challenge.pw_stepledger_k34_fault_is_the_first.main.body.getD i (.Pass ⟨0,0,0,0⟩)
noncomputable abbrev Zc9:Stmt:=top 1
noncomputable abbrev Zc8:Stmt:=top 2
noncomputable abbrev Zfo:Stmt:=top 3
noncomputable abbrev Zd8:Stmt:=top 4
noncomputable abbrev Zc5:Stmt:=top 5
noncomputable abbrev Zdt:Stmt:=top 7
noncomputable abbrev Zfq:Stmt:=top 9
noncomputable abbrev ZcC:Stmt:=top 10
noncomputable abbrev Zdp:Stmt:=top 12
noncomputable abbrev Zfn:Stmt:=top 13
noncomputable abbrev Zcn:Stmt:=top 14
noncomputable abbrev Zd7:Stmt:=top 15
noncomputable abbrev ZcF:Stmt:=top 16
noncomputable abbrev Zby:Stmt:=top 17
noncomputable abbrev ZbD:Stmt:=top 18
noncomputable abbrev Zbe:Stmt:=top 19
noncomputable abbrev Zgt:Stmt:=top 20
noncomputable abbrev ZbQ:Stmt:=top 21
noncomputable abbrev Zb2:Stmt:=top 22
noncomputable abbrev Zd0:Stmt:=top 24
noncomputable abbrev ZcH:Stmt:=top 25
noncomputable abbrev Zd4:Stmt:=top 26
noncomputable abbrev Zdw:Stmt:=top 27
noncomputable abbrev Zc1:Stmt:=top 28
noncomputable abbrev Zdm:Stmt:=top 29
noncomputable abbrev ZcG:Stmt:=top 30
noncomputable abbrev Zds:Stmt:=top 31
noncomputable abbrev Zdy:Stmt:=top 32
noncomputable abbrev Zbk:Stmt:=top 33
noncomputable abbrev Zbr:Stmt:=top 34
noncomputable abbrev Zbf:Stmt:=top 35
noncomputable abbrev ZbE:Stmt:=top 36
noncomputable abbrev ZbM:Stmt:=top 37
noncomputable abbrev ZbN:Stmt:=top 38
noncomputable abbrev Zbz:Stmt:=top 39
noncomputable abbrev Zd5:Stmt:=top 40
noncomputable abbrev Zdo:Stmt:=top 41
noncomputable abbrev Zg2:Stmt:=top 42
structure Txt (K:W.Frag) (mg:Str -> Option Value):Prop where
  kin:True
  m_bool:mg "bool" = none
  m_dict:mg "dict" = none
  m_enumerate:mg "enumerate" = none
  m_int:mg "int" = none
  m_isinstance:mg "isinstance" = none
  m_len:mg "len" = none
  m_list:mg "list" = none
  m_range:mg "range" = none
  m_sorted:mg "sorted" = none
  m_str:mg "str" = none
  m_tuple:mg "tuple" = none
section
variable {P:Yai} {w:World} {K:W.Frag} {mg:Str -> Option Value} {base:Heap}
theorem ZjA:ZaA ["row","place","boxes"] ["row","place","boxes"] (Zt Zc9):=⟨rfl,rfl,rfl,by decide +kernel,rfl,by decide +kernel,by decide +kernel⟩
theorem ZjI (A:Zav K mg "next_place" Zc9 ["row","place","boxes"]) (T:Txt K mg):Fn3 P w K mg base 1 "next_place" ["row","place","boxes"] Zc0:=
  Fn3.of (N:=["row","place","boxes"]) (k:=0) A ZjA fun f cdv A outer s H E hr=>by
    have hu:=Zcy hr;unfold Zhy;refine Zi ?_ ?_
    ·refine Zau ?_ ?_ ?_
     ·exact Zz ((Zbh hu)) (Zu Zv (Zc 0) Zk) Zap
     ·exact Zn (Zaa (Zu Zv (Zc 0) Zk))
     ·exact Zad
    ·refine Zi ?_ ?_
     ·refine Zau ?_ ?_ ?_
      ·refine CW.ct ?_
       refine ZfF ?_ ?_
       ·exact Zz ((Zbh hu)) (Zu Zv (Zc 0) Zk) Zap
       ·exact ZeF (Zz ZmD (Zu Zv (Zc 2) (Zu Zv (Zc 0) Zk)) Zk)
      ·exact Zn (Zaa (Zu Zv (Zc 0) Zk))
      ·exact Zad
     ·exact Zn (Zaa (Zx ZaP (Zc 1) Zk))
theorem ZoQ:ZaA ["name","one","other"] ["name","one","other"] (Zt Zfo):=⟨rfl,rfl,rfl,by decide +kernel,rfl,by decide +kernel,by decide +kernel⟩
theorem ZoS (A:Zav K mg "worked" Zfo ["name","one","other"]) (T:Txt K mg):Fn3 P w K mg base 1 "worked" ["name","one","other"] ZcT:=
  Fn3.of (N:=["name","one","other"]) (k:=0) A ZoQ fun f cdv A outer s H E hr=>by
    have hu:=Zcy hr;unfold Zf6;refine Zi ?_ ?_
    ·exact Zau (Zz ((Zbh hu)) (Zc 0) Zap) (Zn (Zaa (Zx ZaP (Zc 1) (Zc 2)))) Zad
    ·refine Zi ?_ ?_
     ·exact Zau (Zz ((Zbh hu)) (Zc 0) Zap) (Zn (Zaa (Zx Zec (Zc 1) (Zc 2)))) Zad
     ·exact Zn (Zaa (ZpU (Zz ZmD (Zc 1) (Zc 2)) Zk Zk))
theorem Zl8:ZaA ["boxes","box","value"] ["boxes","box","value"] (Zt Zd8):=⟨rfl,rfl,rfl,by decide +kernel,rfl,by decide +kernel,by decide +kernel⟩
theorem Zly (A:Zav K mg "with_box" Zd8 ["boxes","box","value"]) (T:Txt K mg):Fn3 P w K mg base 1 "with_box" ["boxes","box","value"] Zca:=
  Fn3.of (N:=["boxes","box","value"]) (k:=0) A Zl8 fun f cdv A outer s H E hr=>by
    have hu:=Zcy hr;unfold Zjm;refine Zn ?_;refine Zaa ?_;refine Zx ?_ ?_ ?_
    ·exact ZaP
    ·exact Zx ZaP (ZdW ZdZ (Zc 0) Za6 (Za5 (Zc 1))) (Za0 (Zd (Zc 2) Zm))
    ·exact ZdW ZdZ (Zc 0) (Za5 (Zx ZaP (Zc 1) Zk)) Za6
theorem ZjB:ZaA ["cells","number"] ["cells","number"] (Zt Zc5):=⟨rfl,rfl,rfl,by decide +kernel,rfl,by decide +kernel,by decide +kernel⟩
theorem Zju (A:Zav K mg "cell_value" Zc5 ["cells","number"]) (T:Txt K mg):Fn3 P w K mg base 1 "cell_value" ["cells","number"] ZdG:=
  Fn3.of (N:=["cells","number"]) (k:=0) A ZjB fun f cdv A outer s H E hr=>by
    have hu:=Zcy hr;unfold Zhw;refine Zn ?_;exact Zaa (Zqh hu (Zdb (T:="dict") ((Zsy rfl)) T.m_dict ZrR (Zd (Zc 0) Zm)) (Zc 1) Zk)
theorem ZgM:ZaA ["row","boxes","cells","name"] ["row","boxes","cells"] (Zt Zc8):=⟨rfl,rfl,rfl,by decide +kernel,rfl,by decide +kernel,by decide +kernel⟩
theorem ZjM (A:Zav K mg "next_boxes" Zc8 ["row","boxes","cells"]) (T:Txt K mg) (F_worked:Fn3 P w K mg base 1 "worked" ["name","one","other"] ZcT) (F_with_box:Fn3 P w K mg base 1 "with_box" ["boxes","box","value"] Zca) (F_cell_value:Fn3 P w K mg base 1 "cell_value" ["cells","number"] ZdG):Fn3 P w K mg base 2 "next_boxes" ["row","boxes","cells"] ZeD:=
  Fn3.of (N:=["row","boxes","cells","name"]) (k:=1) A ZgM fun f cdv A outer s H E hr=>by
    have hu:=Zcy hr;unfold ZfH;refine Zi ?_ ?_
    ·exact Zai 3 ZgM.nd (Zu Zv (Zc 0) Zk)
    ·refine Zi ?_ ?_
     ·refine Zau ?_ ?_ ?_
      ·exact Zz ((Zbh hu)) (Zc 3) Zap
      ·refine Zn ?_
       refine Zaa ?_;refine ZaH (k:=1) (ps:=["boxes","box","value"]) ?_ ?_ ?_
       ·exact F_with_box
       ·exact hr.mono (by decide)
       ·refine Zd ?_ ?_
        ·exact Zc 1
        ·exact Zd (Zu Zv (Zc 0) Zk) (Zd (Zu Zv (Zc 0) Zk) Zm)
      ·exact Zad
     ·refine Zi ?_ ?_
      ·refine Zau ?_ ?_ ?_
       ·exact Zz ((Zbh hu)) (Zc 3) Zap
       ·refine Zn ?_
        refine Zaa ?_;refine ZaH (k:=1) (ps:=["boxes","box","value"]) ?_ ?_ ?_
        ·exact F_with_box
        ·exact hr.mono (by decide)
        ·refine Zd ?_ ?_
         ·exact Zc 1
         ·refine Zd ?_ ?_
          ·exact Zu Zv (Zc 0) Zk
          ·refine Zd ?_ ?_
           ·refine ZaH (k:=1) (ps:=["cells","number"]) ?_ ?_ ?_
            ·exact F_cell_value
            ·exact hr.mono (by decide)
            ·exact Zd (Zc 2) (Zd (Zu Zv (Zc 1) (Zu Zv (Zc 0) Zk)) Zm)
           ·exact Zm
       ·exact Zad
      ·refine Zi ?_ ?_
       ·refine Zau ?_ ?_ ?_
        ·exact Zz ((Zrv hu)) (Zc 3) (Za0 (Zd Zap (Zd Zap (Zd Zap Zm))))
        ·refine Zn ?_
         refine Zaa ?_;refine ZaH (k:=1) (ps:=["boxes","box","value"]) ?_ ?_ ?_
         ·exact F_with_box
         ·exact hr.mono (by decide)
         ·refine Zd ?_ ?_
          ·exact Zc 1
          ·refine Zd ?_ ?_
           ·exact Zu Zv (Zc 0) Zk
           ·refine Zd ?_ ?_
            ·refine ZaH (k:=1) (ps:=["name","one","other"]) ?_ ?_ ?_
             ·exact F_worked
             ·exact hr.mono (by decide)
             ·refine Zd ?_ ?_
              ·exact Zc 3
              ·refine Zd ?_ ?_
               ·exact Zu Zv (Zc 1) (Zu Zv (Zc 0) Zk)
               ·exact Zd (Zu Zv (Zc 1) (Zu Zv (Zc 0) Zk)) Zm
            ·exact Zm
        ·exact Zad
       ·exact Zn (Zaa (Zc 1))
theorem ZkM:ZaA ["number","many"] ["number","many"] (Zt Zdt):=⟨rfl,rfl,rfl,by decide +kernel,rfl,by decide +kernel,by decide +kernel⟩
theorem Zld (A:Zav K mg "is_within" Zdt ["number","many"]) (T:Txt K mg):Fn3 P w K mg base 1 "is_within" ["number","many"] Zb6:=
  Fn3.of (N:=["number","many"]) (k:=0) A ZkM fun f cdv A outer s H E hr=>by
    have hu:=Zcy hr;unfold Zgf;exact Zn (Zaa (Zkj (Zdg Zqx (Zc 0) Zk) (Zj2 (Zdg Zmv (Zc 0) (Zc 1)))))
theorem ZoZ:ZaA ["row"] ["row"] (Zt Zfq):=⟨rfl,rfl,rfl,by decide +kernel,rfl,by decide +kernel,by decide +kernel⟩
theorem Zos (A:Zav K mg "is_use" Zfq ["row"]) (T:Txt K mg):Fn3 P w K mg base 1 "is_use" ["row"] ZcU:=
  Fn3.of (N:=["row"]) (k:=0) A ZoZ fun f cdv A outer s H E hr=>by
    have hu:=Zcy hr;unfold ZmB;refine Zn ?_;refine Zaa ?_;exact Zdg ((Zrv hu)) (Zu Zv (Zc 0) Zk) (Za0 (Zd Zap (Zd Zap Zm)))
theorem Zjj:ZaA ["row","boxes"] ["row","boxes"] (Zt ZcC):=⟨rfl,rfl,rfl,by decide +kernel,rfl,by decide +kernel,by decide +kernel⟩
theorem Zi2 (A:Zav K mg "cell_number" ZcC ["row","boxes"]) (T:Txt K mg):Fn3 P w K mg base 1 "cell_number" ["row","boxes"] Zbp:=
  Fn3.of (N:=["row","boxes"]) (k:=0) A Zjj fun f cdv A outer s H E hr=>by
    have hu:=Zcy hr;unfold Zd9;refine Zn ?_;refine Zaa ?_;refine ZpU ?_ ?_ ?_
    ·exact Zz ((Zbh hu)) (Zu Zv (Zc 0) Zk) Zap
    ·exact Zu Zv (Zc 1) (Zu Zv (Zc 0) Zk)
    ·exact Zu Zv (Zc 1) (Zu Zv (Zc 0) Zk)
theorem ZoW:ZaA ["roll","place"] ["roll","place"] (Zt Zfn):=⟨rfl,rfl,rfl,by decide +kernel,rfl,by decide +kernel,by decide +kernel⟩
theorem ZoF (A:Zav K mg "row_at" Zfn ["roll","place"]) (T:Txt K mg) (F_is_within:Fn3 P w K mg base 1 "is_within" ["number","many"] Zb6):Fn3 P w K mg base 2 "row_at" ["roll","place"] Zdc:=
  Fn3.of (N:=["roll","place"]) (k:=1) A ZoW fun f cdv A outer s H E hr=>by
    have hu:=Zcy hr;unfold ZlB;refine Zn ?_;refine Zaa ?_;refine ZpU ?_ ?_ ?_
    ·refine ZdB ?_
     refine ZaH (k:=1) (ps:=["number","many"]) ?_ ?_ ?_
     ·exact F_is_within
     ·exact hr.mono (by decide)
     ·exact Zd (Zc 1) (Zd (Zbl (id:="len") Zbu T.m_len ZaW (Zd (Zc 0) Zm)) Zm)
    ·exact Zu Zv (Zc 0) (Zc 1)
    ·exact Zdx
theorem Zir:ZaA ["roll_row","boxes","told_boxes"] ["roll_row","boxes","told_boxes"] (Zt Zcn):=⟨rfl,rfl,rfl,by decide +kernel,rfl,by decide +kernel,by decide +kernel⟩
theorem Zil (A:Zav K mg "boxes_behind" Zcn ["roll_row","boxes","told_boxes"]) (T:Txt K mg) (F_next_boxes:Fn3 P w K mg base 2 "next_boxes" ["row","boxes","cells"] ZeD) (F_with_box:Fn3 P w K mg base 1 "with_box" ["boxes","box","value"] Zca):Fn3 P w K mg base 3 "boxes_behind" ["roll_row","boxes","told_boxes"] ZbV:=
  Fn3.of (N:=["roll_row","boxes","told_boxes"]) (k:=2) A Zir fun f cdv A outer s H E hr=>by
    have hu:=Zcy hr;unfold Zgc;refine Zi ?_ ?_
    ·refine Zau ?_ ?_ ?_
     ·exact Zz ((Zbh hu)) (Zu Zv (Zc 0) Zk) Zap
     ·refine Zn ?_
      refine Zaa ?_;refine ZaH (k:=1) (ps:=["boxes","box","value"]) ?_ ?_ ?_
      ·exact F_with_box
      ·exact hr.mono (by decide)
      ·refine Zd ?_ ?_
       ·exact Zc 1
       ·refine Zd ?_ ?_
        ·exact Zu Zv (Zc 0) Zk
        ·exact Zd (Zu Zv (Zc 2) (Zu Zv (Zc 0) Zk)) Zm
     ·exact Zad
    ·refine Zn ?_
     exact Zaa (ZaH (k:=2) (ps:=["row","boxes","cells"]) F_next_boxes (hr.mono (by decide)) (Zd (Zc 0) (Zd (Zc 1) (Zd (Za0 Zm) Zm))))
theorem Zex:ZaA ["roll","row","behind","place","boxes","roll_row"] ["roll","row","behind"] (Zt Zdp):=⟨rfl,rfl,rfl,by decide +kernel,rfl,by decide +kernel,by decide +kernel⟩
theorem Zlc (A:Zav K mg "step_fits" Zdp ["roll","row","behind"]) (T:Txt K mg) (F_next_place:Fn3 P w K mg base 1 "next_place" ["row","place","boxes"] Zc0) (F_row_at:Fn3 P w K mg base 2 "row_at" ["roll","place"] Zdc) (F_boxes_behind:Fn3 P w K mg base 3 "boxes_behind" ["roll_row","boxes","told_boxes"] ZbV):Fn3 P w K mg base 4 "step_fits" ["roll","row","behind"] Zdz:=
  Fn3.of (N:=["roll","row","behind","place","boxes","roll_row"]) (k:=3) A Zex fun f cdv A outer s H E hr=>by
    have hu:=Zcy hr;unfold Zh4;refine Zi ?_ ?_
    ·exact Zai 3 Zex.nd (Zu Zv (Zc 1) Zk)
    ·refine Zi ?_ ?_
     ·exact Zai 4 Zex.nd (Zu Zv (Zc 1) Zk)
     ·refine Zi ?_ ?_
      ·exact Zai 5 Zex.nd (ZaH (k:=2) (ps:=["roll","place"]) F_row_at (hr.mono (by decide)) (Zd (Zc 0) (Zd (Zc 3) Zm)))
      ·refine Zi ?_ ?_
       ·refine Zau ?_ ?_ ?_
        ·refine CW.ct ?_
         refine Ze5 ?_ ?_
         ·exact Zz ZqZ (Zc 5) Zdx
         ·exact Ze3 (Zz ((Zbh hu)) (Zu Zv (Zc 5) Zk) Zap)
        ·exact Zn (Zaa Zig)
        ·exact Zad
       ·refine Zn ?_
        refine Zaa ?_;refine Zdg ?_ ?_ ?_
        ·exact (Zbh hu)
        ·exact Zc 2
        ·refine Za0 ?_
         refine Zd ?_ ?_
         ·exact ZaH (k:=1) (ps:=["row","place","boxes"]) F_next_place (hr.mono (by decide)) (Zd (Zc 5) (Zd (Zc 3) (Zd (Zc 4) Zm)))
         ·refine Zd ?_ ?_
          ·refine ZaH (k:=3) (ps:=["roll_row","boxes","told_boxes"]) ?_ ?_ ?_
           ·exact F_boxes_behind
           ·exact hr.mono (by decide)
           ·exact Zd (Zc 5) (Zd (Zc 4) (Zd (Zu Zv (Zc 2) Zk) Zm))
          ·exact Zm
theorem Zib:ZaA ["ahead","row","same"] ["ahead","row"] (Zt Zd7):=⟨rfl,rfl,rfl,by decide +kernel,rfl,by decide +kernel,by decide +kernel⟩
theorem Zml (A:Zav K mg "use_fits" Zd7 ["ahead","row"]) (T:Txt K mg):Fn3 P w K mg base 1 "use_fits" ["ahead","row"] Zdj:=
  Fn3.of (N:=["ahead","row","same"]) (k:=0) A Zib fun f cdv A outer s H E hr=>by
    have hu:=Zcy hr;unfold ZiG;refine Zi ?_ ?_
    ·refine Zau ?_ ?_ ?_
     ·refine CW.ct ?_
      refine ZfF ?_ ?_
      ·exact Zz ZfL (Zc 0) Zdx
      ·refine ZeF ?_
       refine Zz ?_ ?_ ?_
       ·exact (Zt7 hu)
       ·exact ZdW ZdZ (Zc 1) Za6 (Za5 Zk)
       ·exact ZdW ZdZ (Zc 0) Za6 (Za5 Zk)
     ·exact Zn (Zaa Zig)
     ·exact Zad
    ·refine Zi ?_ ?_
     ·exact Zau (Zz ((Zgx hu)) (Zu Zv (Zc 1) Zk) Zap) (Zn (Zaa Zig)) Zad
     ·refine Zi ?_ ?_
      ·refine Zai 2 ?_ ?_
       ·exact Zib.nd
       ·refine Zkj ?_ ?_
        ·exact Zdg ZfL (Zc 0) Zdx
        ·exact Zj2 (Zdg ((Zbh hu)) (Zu Zv (Zc 0) Zk) (Zu Zv (Zc 1) Zk))
      ·refine Zn ?_
       refine Zaa ?_;refine Zdg ?_ ?_ ?_
       ·exact (Zbh hu)
       ·exact Zu Zv (Zc 1) Zk
       ·exact ZpU (ZdB (Zc 2)) (Zu Zv (Zc 0) Zk) Zk
theorem ZdL:ZaA ["roll","steps","row","time","boxes","roll_row"] ["roll","steps","row"] (Zt ZcF):=⟨rfl,rfl,rfl,by decide +kernel,rfl,by decide +kernel,by decide +kernel⟩
theorem Zjf (A:Zav K mg "use_matches" ZcF ["roll","steps","row"]) (T:Txt K mg) (F_is_within:Fn3 P w K mg base 1 "is_within" ["number","many"] Zb6) (F_is_use:Fn3 P w K mg base 1 "is_use" ["row"] ZcU) (F_cell_number:Fn3 P w K mg base 1 "cell_number" ["row","boxes"] Zbp) (F_row_at:Fn3 P w K mg base 2 "row_at" ["roll","place"] Zdc):Fn3 P w K mg base 3 "use_matches" ["roll","steps","row"] Zb9:=
  Fn3.of (N:=["roll","steps","row","time","boxes","roll_row"]) (k:=2) A ZdL fun f cdv A outer s H E hr=>by
    have hu:=Zcy hr;unfold ZgO;refine Zi ?_ ?_
    ·exact Zai 3 ZdL.nd (Zu Zv (Zc 2) Zk)
    ·refine Zi ?_ ?_
     ·refine Zau ?_ ?_ ?_
      ·refine ZeR ?_
       refine ZdB ?_;refine ZaH (k:=1) (ps:=["number","many"]) ?_ ?_ ?_
       ·exact F_is_within
       ·exact hr.mono (by decide)
       ·refine Zd ?_ ?_
        ·exact Zc 3
        ·exact Zd (Zx Zec (Zbl (id:="len") Zbu T.m_len ZaW (Zd (Zc 1) Zm)) Zk) Zm
      ·exact Zn (Zaa Zig)
      ·exact Zad
     ·refine Zi ?_ ?_
      ·exact Zai 4 ZdL.nd (Zu Zv (Zu Zv (Zc 1) (Zc 3)) Zk)
      ·refine Zi ?_ ?_
       ·refine Zai 5 ?_ ?_
        ·exact ZdL.nd
        ·refine ZaH (k:=2) (ps:=["roll","place"]) ?_ ?_ ?_
         ·exact F_row_at
         ·exact hr.mono (by decide)
         ·exact Zd (Zc 0) (Zd (Zu Zv (Zu Zv (Zc 1) (Zc 3)) Zk) Zm)
       ·refine Zi ?_ ?_
        ·refine Zau ?_ ?_ ?_
         ·refine CW.ct ?_
          refine Ze5 ?_ ?_
          ·exact Zz ZqZ (Zc 5) Zdx
          ·refine Ze5 ?_ ?_
           ·exact ZeR (ZdB (ZaH (k:=1) (ps:=["row"]) F_is_use (hr.mono (by decide)) (Zd (Zc 5) Zm)))
           ·exact Ze3 (Zz ((Zgx hu)) (Zu Zv (Zc 2) Zk) (Zu Zv (Zc 5) Zk))
         ·exact Zn (Zaa Zig)
         ·exact Zad
        ·refine Zi ?_ ?_
         ·refine Zau ?_ ?_ ?_
          ·refine Zz ?_ ?_ ?_
           ·exact (Zgx hu)
           ·exact Zu Zv (Zc 2) Zk
           ·exact ZaH (k:=1) (ps:=["row","boxes"]) F_cell_number (hr.mono (by decide)) (Zd (Zc 5) (Zd (Zc 4) Zm))
          ·exact Zn (Zaa Zig)
          ·exact Zad
         ·refine Zi ?_ ?_
          ·refine Zau ?_ ?_ ?_
           ·exact Zz ((Zbh hu)) (Zu Zv (Zc 5) Zk) Zap
           ·refine Zn ?_
            refine Zaa ?_;refine Zdg ?_ ?_ ?_
            ·exact (Zbh hu)
            ·exact Zu Zv (Zc 2) Zk
            ·refine Zu ?_ ?_ ?_
             ·exact Zv
             ·exact Zu Zv (Zu Zv (Zc 1) (Zx ZaP (Zc 3) Zk)) Zk
             ·exact Zu Zv (Zc 5) Zk
           ·exact Zad
          ·refine Zn ?_
           refine Zaa ?_;refine Zdg ?_ ?_ ?_
           ·exact (Zbh hu)
           ·exact Zu Zv (Zc 2) Zk
           ·exact Zu Zv (Zc 4) (Zu Zv (Zc 5) Zk)
theorem Zet:ZaA ["roll","steps","time"] ["roll","steps"] (Zt Zby):=⟨rfl,rfl,rfl,by decide +kernel,rfl,by decide +kernel,by decide +kernel⟩
theorem Zgy (A:Zav K mg "first_unfit_step" Zby ["roll","steps"]) (T:Txt K mg) (F_step_fits:Fn3 P w K mg base 4 "step_fits" ["roll","row","behind"] Zdz):Fn3 P w K mg base 5 "first_unfit_step" ["roll","steps"] Zcu:=
  Fn3.of (N:=["roll","steps","time"]) (k:=4) A Zet fun f cdv A outer s H E hr=>by
    have hu:=Zcy hr;unfold ZeO;refine Zi ?_ ?_
    ·refine ZkG ?_ ?_ ?_ ?_ ?_
     ·exact rfl
     ·exact rfl
     ·exact Zdq T.m_range (Zx Zec (Zbl (id:="len") Zbu T.m_len ZaW (Zd (Zc 1) Zm)) Zk)
     ·exact Zdi 2 Zet.nd
     ·refine Zn ?_
      refine Zau ?_ ?_ ?_
      ·refine ZeR ?_
       refine ZdB ?_;refine ZaH (k:=4) (ps:=["roll","row","behind"]) ?_ ?_ ?_
       ·exact F_step_fits
       ·exact hr.mono (by decide)
       ·refine Zd ?_ ?_
        ·exact Zc 0
        ·refine Zd ?_ ?_
         ·exact Zu Zv (Zc 1) (Zc 2)
         ·exact Zd (Zu Zv (Zc 1) (Zx ZaP (Zc 2) Zk)) Zm
      ·exact Zn (Zaa (Zc 2))
      ·exact Zad
    ·exact Zn (Zaa Zdx)
theorem ZbU:ZaA ["ahead","uses","before","number","row"] ["ahead","uses"] (Zt ZbD):=⟨rfl,rfl,rfl,by decide +kernel,rfl,by decide +kernel,by decide +kernel⟩
theorem ZgX (A:Zav K mg "first_unfit_use" ZbD ["ahead","uses"]) (T:Txt K mg) (F_use_fits:Fn3 P w K mg base 1 "use_fits" ["ahead","row"] Zdj):Fn3 P w K mg base 2 "first_unfit_use" ["ahead","uses"] Zb4:=
  Fn3.of (N:=["ahead","uses","before","number","row"]) (k:=1) A ZbU fun f cdv A outer s H E hr=>by
    have hu:=Zcy hr;unfold ZdD;refine Zi ?_ ?_
    ·exact Zai 2 ZbU.nd (Zc 0)
    ·refine Zi ?_ ?_
     ·refine ZnX ?_ ?_ ?_ ?_ ?_
      ·exact rfl
      ·exact rfl
      ·exact ZnU T.m_enumerate (Zc 1)
      ·exact ZfR rfl (Za1 3 ZbU.nd (Za1 4 ZbU.nd ZeC))
      ·refine Zi ?_ ?_
       ·refine Zau ?_ ?_ ?_
        ·exact ZeR (ZdB (ZaH (k:=1) (ps:=["ahead","row"]) F_use_fits (hr.mono (by decide)) (Zd (Zc 2) (Zd (Zc 4) Zm))))
        ·exact Zn (Zaa (Zc 3))
        ·exact Zad
       ·exact Zn (Zai 2 ZbU.nd (Zc 4))
     ·exact Zn (Zaa Zdx)
theorem Zcv:ZaA ["roll","steps","uses","number","row"] ["roll","steps","uses"] (Zt Zbe):=⟨rfl,rfl,rfl,by decide +kernel,rfl,by decide +kernel,by decide +kernel⟩
theorem ZfB (A:Zav K mg "first_unmatched_use" Zbe ["roll","steps","uses"]) (T:Txt K mg) (F_use_matches:Fn3 P w K mg base 3 "use_matches" ["roll","steps","row"] Zb9):Fn3 P w K mg base 4 "first_unmatched_use" ["roll","steps","uses"] Zbv:=
  Fn3.of (N:=["roll","steps","uses","number","row"]) (k:=3) A Zcv fun f cdv A outer s H E hr=>by
    have hu:=Zcy hr;unfold ZdV;refine Zi ?_ ?_
    ·refine ZnX ?_ ?_ ?_ ?_ ?_
     ·exact rfl
     ·exact rfl
     ·exact ZnU T.m_enumerate (Zc 2)
     ·exact ZfR rfl (Za1 3 Zcv.nd (Za1 4 Zcv.nd ZeC))
     ·refine Zn ?_
      refine Zau ?_ ?_ ?_
      ·exact ZeR (ZdB (ZaH (k:=3) (ps:=["roll","steps","row"]) F_use_matches (hr.mono (by decide)) (Zd (Zc 0) (Zd (Zc 1) (Zd (Zc 4) Zm)))))
      ·exact Zn (Zaa (Zc 3))
      ·exact Zad
    ·exact Zn (Zaa Zdx)
theorem ZdI:ZaA ["roll","boxes","steps","unfit","last"] ["roll","boxes","steps"] (Zt ZbQ):=⟨rfl,rfl,rfl,by decide +kernel,rfl,by decide +kernel,by decide +kernel⟩
theorem Zhp (A:Zav K mg "fault_of_steps" ZbQ ["roll","boxes","steps"]) (T:Txt K mg) (F_row_at:Fn3 P w K mg base 2 "row_at" ["roll","place"] Zdc) (F_first_unfit_step:Fn3 P w K mg base 5 "first_unfit_step" ["roll","steps"] Zcu):Fn3 P w K mg base 6 "fault_of_steps" ["roll","boxes","steps"] Zc4:=
  Fn3.of (N:=["roll","boxes","steps","unfit","last"]) (k:=5) A ZdI fun f cdv A outer s H E hr=>by
    have hu:=Zcy hr;unfold Zfm;refine Zi ?_ ?_
    ·refine Zau ?_ ?_ ?_
     ·refine CW.ct ?_
      refine Ze5 ?_ ?_
      ·exact Zz ((Zbh hu)) (Zbl (id:="len") Zbu T.m_len ZaW (Zd (Zc 2) Zm)) Zk
      ·refine Ze3 ?_
       exact Zz ((Zgx hu)) (Zu Zv (Zc 2) Zk) (Za0 (Zd Zk (Zd (Zc 1) Zm)))
     ·exact Zn (Zaa (Za0 (Zd Zap (Zd Zk Zm))))
     ·exact Zad
    ·refine Zi ?_ ?_
     ·exact Zai 3 ZdI.nd (ZaH (k:=5) (ps:=["roll","steps"]) F_first_unfit_step (hr.mono (by decide)) (Zd (Zc 0) (Zd (Zc 2) Zm)))
     ·refine Zi ?_ ?_
      ·refine Zau ?_ ?_ ?_
       ·exact Zz ZfL (Zc 3) Zdx
       ·exact Zn (Zaa (Za0 (Zd Zap (Zd (Zc 3) Zm))))
       ·exact Zad
      ·refine Zi ?_ ?_
       ·exact Zai 4 ZdI.nd (Zx Zec (Zbl (id:="len") Zbu T.m_len ZaW (Zd (Zc 2) Zm)) Zk)
       ·refine Zi ?_ ?_
        ·refine Zau ?_ ?_ ?_
         ·refine Zz ?_ ?_ ?_
          ·exact (Zgx hu)
          ·refine ZaH (k:=2) (ps:=["roll","place"]) ?_ ?_ ?_
           ·exact F_row_at
           ·exact hr.mono (by decide)
           ·exact Zd (Zc 0) (Zd (Zu Zv (Zu Zv (Zc 2) (Zc 4)) Zk) Zm)
          ·exact Za0 (Zd Zap Zm)
         ·exact Zn (Zaa (Za0 (Zd Zap (Zd (Zc 4) Zm))))
         ·exact Zad
        ·exact Zn (Zaa Zdx)
theorem Zda:ZaA ["roll","steps","uses","unfit","unmatched","due"] ["roll","steps","uses"] (Zt Zb2):=⟨rfl,rfl,rfl,by decide +kernel,rfl,by decide +kernel,by decide +kernel⟩
theorem ZhD (A:Zav K mg "fault_of_uses" Zb2 ["roll","steps","uses"]) (T:Txt K mg) (F_is_use:Fn3 P w K mg base 1 "is_use" ["row"] ZcU) (F_first_unfit_use:Fn3 P w K mg base 2 "first_unfit_use" ["ahead","uses"] Zb4) (F_first_unmatched_use:Fn3 P w K mg base 4 "first_unmatched_use" ["roll","steps","uses"] Zbv):Fn3 P w K mg base 5 "fault_of_uses" ["roll","steps","uses"] Zcz:=
  Fn3.of (N:=["roll","steps","uses","unfit","unmatched","due"]) (k:=4) A Zda fun f cdv A outer s H E hr=>by
    have hu:=Zcy hr;unfold Zei;refine Zi ?_ ?_
    ·exact Zai 3 Zda.nd (ZaH (k:=2) (ps:=["ahead","uses"]) F_first_unfit_use (hr.mono (by decide)) (Zd Zdx (Zd (Zc 2) Zm)))
    ·refine Zi ?_ ?_
     ·refine Zau ?_ ?_ ?_
      ·exact Zz ZfL (Zc 3) Zdx
      ·exact Zn (Zaa (Za0 (Zd Zap (Zd (Zc 3) Zm))))
      ·exact Zad
     ·refine Zi ?_ ?_
      ·exact Zai 4 Zda.nd (ZaH (k:=4) (ps:=["roll","steps","uses"]) F_first_unmatched_use (hr.mono (by decide)) (Zd (Zc 0) (Zd (Zc 1) (Zd (Zc 2) Zm))))
      ·refine Zi ?_ ?_
       ·refine Zau ?_ ?_ ?_
        ·exact Zz ZfL (Zc 4) Zdx
        ·exact Zn (Zaa (Za0 (Zd Zap (Zd (Zc 4) Zm))))
        ·exact Zad
       ·refine Zi ?_ ?_
        ·refine ZeN (N':=["roll","steps","uses","unfit","unmatched","due","row"]) 5 ?_ ?_ ?_ ?_ ?_ (fun C cl s H ex=>⟨?_,?_,?_⟩)
         ·exact Zdr rfl (by kernel_rfl)
         ·exact rfl
         ·exact rfl
         ·exact Zda.nd
         ·exact Ztg (ZdW ZdZ (Zc 1) Za6 (Za5 (Znu Zjo Zk)))
         ·exact Zdi 6 ((show Yda (["roll","steps","uses","unfit","unmatched","due","row"]:List Str) by decide +kernel))
         ·refine Zgu ?_
          refine ZdB ?_;exact ZaH (k:=1) (ps:=["row"]) F_is_use (hr.mono (by decide)) (Zd (Zu Zv (Zc 0) (Zu Zv (Zc 6) Zk)) Zm)
         ·exact Zc 6
        ·refine Zi ?_ ?_
         ·refine Zau ?_ ?_ ?_
          ·refine Zz ?_ ?_ ?_
           ·exact (Zgx hu)
           ·exact Zbl (id:="len") Zbu T.m_len ZaW (Zd (Zc 2) Zm)
           ·exact Zbl (id:="len") Zbu T.m_len ZaW (Zd (Zc 5) Zm)
          ·refine Zn ?_
           refine Zaa ?_;exact Za0 (Zd Zap (Zd (Zbl (id:="len") Zbu T.m_len ZaW (Zd (Zc 2) Zm)) Zm))
          ·exact Zad
         ·exact Zn (Zaa Zdx)
theorem Zl1:ZaA ["roll","boxes","steps","uses","found"] ["roll","boxes","steps","uses"] (Zt Zgt):=⟨rfl,rfl,rfl,by decide +kernel,rfl,by decide +kernel,by decide +kernel⟩
theorem ZqI (A:Zav K mg "fault" Zgt ["roll","boxes","steps","uses"]) (T:Txt K mg) (F_fault_of_steps:Fn3 P w K mg base 6 "fault_of_steps" ["roll","boxes","steps"] Zc4) (F_fault_of_uses:Fn3 P w K mg base 5 "fault_of_uses" ["roll","steps","uses"] Zcz):Fn3 P w K mg base 7 "fault" ["roll","boxes","steps","uses"] Ziy:=
  Fn3.of (N:=["roll","boxes","steps","uses","found"]) (k:=6) A Zl1 fun f cdv A outer s H E hr=>by
    have hu:=Zcy hr;unfold Zn0;refine Zi ?_ ?_
    ·exact Zai 4 Zl1.nd (ZaH (k:=6) (ps:=["roll","boxes","steps"]) F_fault_of_steps (hr.mono (by decide)) (Zd (Zc 0) (Zd (Zc 1) (Zd (Zc 2) Zm))))
    ·refine Zn ?_
     refine Zaa ?_;refine ZpU ?_ ?_ ?_
     ·exact Zz ZfL (Zc 4) Zdx
     ·exact Zc 4
     ·exact ZaH (k:=5) (ps:=["roll","steps","uses"]) F_fault_of_uses (hr.mono (by decide)) (Zd (Zc 0) (Zd (Zc 2) (Zd (Zc 3) Zm)))
theorem Zf5:ZaA ["cell","k","number"] ["cell","k"] (Zt Zd0):=⟨rfl,rfl,rfl,by decide +kernel,rfl,by decide +kernel,by decide +kernel⟩
theorem Zma (A:Zav K mg "_law_mix" Zd0 ["cell","k"]) (T:Txt K mg):Fn3 P w K mg base 1 "_law_mix" ["cell","k"] ZaN:=
  Fn3.of (N:=["cell","k","number"]) (k:=0) A Zf5 fun f cdv A outer s H E hr=>by
    have hu:=Zcy hr;unfold Ze4;refine Zi ?_ ?_
    ·refine Zau ?_ ?_ ?_
     ·refine CW.ct ?_
      refine Ze5 ?_ ?_
      ·exact Zz Zsl (Zc 0) (Znu Zjo (Zx ZnQ Zk Zk))
      ·exact Ze3 (Zz Zqx (Zc 0) (Zx ZnQ Zk Zk))
     ·exact Zn (Zaa (Zc 0))
     ·exact Zad
    ·refine Zi ?_ ?_
     ·refine Zai 2 ?_ ?_
      ·exact Zf5.nd
      ·refine Zx ?_ ?_ ?_
       ·exact ZaP
       ·refine Zx ?_ ?_ ?_
        ·exact ZaP
        ·exact Zx ZaP (Zx ZfN Zk (Zc 0)) (Zx ZfN (Zc 1) (Zc 1))
        ·exact Zx ZfN Zk (Zc 1)
       ·exact Zk
     ·refine Zi ?_ ?_
      ·exact Zai 2 Zf5.nd (Zx ZbA (Zx ZfN (Zx ZaP (Zc 0) Zk) (Zc 2)) Zk)
      ·exact Zn (Zaa (Zx ZaP (Zx ZfN (Zc 2) (Zc 2)) (Zx ZbB (Zc 2) Zk)))
theorem Zi0:ZaA ["number"] ["number"] (Zt ZcH):=⟨rfl,rfl,rfl,by decide +kernel,rfl,by decide +kernel,by decide +kernel⟩
theorem Zjs (A:Zav K mg "_law_number" ZcH ["number"]) (T:Txt K mg):Fn3 P w K mg base 1 "_law_number" ["number"] ZaY:=
  Fn3.of (N:=["number"]) (k:=0) A Zi0 fun f cdv A outer s H E hr=>by
    have hu:=Zcy hr;unfold Zde;refine Zi ?_ ?_
    ·refine Zau ?_ ?_ ?_
     ·exact Zz Zmv (Zx ZbA (Zc 0) Zk) Zk
     ·exact Zn (Zaa (Zx Zec (Zx ZbA (Zx ZbB (Zc 0) Zk) Zk) Zk))
     ·exact Zad
    ·refine Zi ?_ ?_
     ·refine Zau ?_ ?_ ?_
      ·exact Zz ((Zbh hu)) (Zx ZbA (Zx ZbB (Zc 0) Zk) Zk) Zk
      ·exact Zn (Zaa (Zx ZbA (Zx ZbB (Zc 0) Zk) (Zx ZnQ Zk Zk)))
      ·exact Zad
     ·refine Zn ?_
      refine Zaa ?_;exact Znu Zjo (Zx ZbA (Zx ZbB (Zc 0) Zk) (Zx ZnQ Zk Zk))
theorem ZbL:ZaA ["cell","k","size","number","words","word","a","b","c","to"] ["cell","k","size"] (Zt Zd4):=⟨rfl,rfl,rfl,by decide +kernel,rfl,by decide +kernel,by decide +kernel⟩
theorem Zmi (A:Zav K mg "_law_row" Zd4 ["cell","k","size"]) (T:Txt K mg) (F__law_mix:Fn3 P w K mg base 1 "_law_mix" ["cell","k"] ZaN) (F__law_number:Fn3 P w K mg base 1 "_law_number" ["number"] ZaY):Fn3 P w K mg base 2 "_law_row" ["cell","k","size"] Zct:=
  Fn3.of (N:=["cell","k","size","number","words","word","a","b","c","to"]) (k:=1) A ZbL fun f cdv A outer s H E hr=>by
    have hu:=Zcy hr;unfold ZfK;refine Zi ?_ ?_
    ·exact Zai 3 ZbL.nd (ZaH (k:=1) (ps:=["cell","k"]) F__law_mix (hr.mono (by decide)) (Zd (Zc 0) (Zd (Zc 1) Zm)))
    ·refine Zi ?_ ?_
     ·refine Zai 4 ?_ ?_
      ·exact ZbL.nd
      ·refine ZcA ?_
       refine Zd ?_ ?_
       ·exact Zap
       ·refine Zd ?_ ?_
        ·exact Zap
        ·refine Zd ?_ ?_
         ·exact Zap
         ·refine Zd ?_ ?_
          ·exact Zap
          ·refine Zd ?_ ?_
           ·exact Zap
           ·refine Zd ?_ ?_
            ·exact Zap
            ·refine Zd ?_ ?_
             ·exact Zap
             ·exact Zd Zap (Zd Zap (Zd Zap (Zd Zap (Zd Zap Zm))))
     ·refine Zi ?_ ?_
      ·refine Zai 5 ?_ ?_
       ·exact ZbL.nd
       ·refine Zu ?_ ?_ ?_
        ·exact Zv
        ·refine Zx ?_ ?_ ?_
         ·exact ZaP
         ·exact Zc 4
         ·exact ZcA (Zd Zap (Zd Zap (Zd Zap (Zd Zap Zm))))
        ·exact Zx ZbA (Zc 3) Zk
      ·refine Zi ?_ ?_
       ·exact Zai 3 ZbL.nd (Zx ZbB (Zc 3) Zk)
       ·refine Zi ?_ ?_
        ·refine Zau ?_ ?_ ?_
         ·exact Zz ((Zbh hu)) (Zx ZbA (Zc 3) Zk) Zk
         ·exact Zn (Zaa (Za0 (Zd Zap Zm)))
         ·exact Zad
        ·refine Zi ?_ ?_
         ·exact Zai 6 ZbL.nd (Zx ZbA (Zc 3) Zk)
         ·refine Zi ?_ ?_
          ·exact Zai 7 ZbL.nd (Zx ZbA (Zx ZbB (Zc 3) Zk) Zk)
          ·refine Zi ?_ ?_
           ·exact Zai 8 ZbL.nd (Zx ZbA (Zx ZbB (Zc 3) Zk) Zk)
           ·refine Zi ?_ ?_
            ·refine Zai 9 ?_ ?_
             ·exact ZbL.nd
             ·refine Zx ?_ ?_ ?_
              ·exact ZaP
              ·exact Zx ZaP (Zc 1) Zk
              ·exact Zx ZbA (Zx ZbB (Zc 3) Zk) (Zx Zec (Zc 2) (Zc 1))
            ·refine Zi ?_ ?_
             ·refine Zau ?_ ?_ ?_
              ·exact Zz ((Zbh hu)) (Zx ZbA (Zx ZbB (Zc 3) Zk) Zk) Zk
              ·refine Zn ?_
               exact Zai 9 ZbL.nd (Zx ZbA (Zx ZbB (Zc 3) Zk) (Zx ZaP (Zc 2) Zk))
              ·exact Zad
             ·refine Zi ?_ ?_
              ·refine Zau ?_ ?_ ?_
               ·exact Zz ((Zbh hu)) (Zc 5) Zap
               ·refine Zn ?_
                refine Zaa ?_;refine Za0 ?_;refine Zd ?_ ?_
                ·exact Zc 5
                ·refine Zd ?_ ?_
                 ·exact Zc 6
                 ·exact Zd (ZaH (k:=1) (ps:=["number"]) F__law_number (hr.mono (by decide)) (Zd (Zx ZbB (Zc 3) Zk) Zm)) Zm
               ·exact Zad
              ·refine Zi ?_ ?_
               ·refine Zau ?_ ?_ ?_
                ·exact Zz ((Zrv hu)) (Zc 5) (Za0 (Zd Zap (Zd Zap (Zd Zap Zm))))
                ·exact Zn (Zaa (Za0 (Zd (Zc 5) (Zd (Zc 6) (Zd (Zc 7) (Zd (Zc 8) Zm))))))
                ·exact Zad
               ·refine Zi ?_ ?_
                ·refine Zau ?_ ?_ ?_
                 ·exact Zz ((Zbh hu)) (Zc 5) Zap
                 ·exact Zn (Zaa (Za0 (Zd (Zc 5) (Zd (Zc 9) Zm))))
                 ·exact Zad
                ·refine Zi ?_ ?_
                 ·refine Zau ?_ ?_ ?_
                  ·exact Zz ((Zbh hu)) (Zc 5) Zap
                  ·exact Zn (Zaa (Za0 (Zd (Zc 5) (Zd (Zc 6) (Zd (Zc 9) Zm)))))
                  ·exact Zad
                 ·refine Zn ?_
                  refine Zaa ?_;refine Zu ?_ ?_ ?_
                  ·exact Zv
                  ·refine ZcA ?_
                   refine Zd ?_ ?_
                   ·exact Za0 (Zd (Zc 5) (Zd (Zc 6) (Zd (Zc 7) Zm)))
                   ·exact Zd (Za0 (Zd (Zc 5) (Zd (Zc 6) Zm))) Zm
                  ·exact Zdb (T:="int") Zp5 T.m_int Zqe (Zd (Zdg ((Zbh hu)) (Zc 5) Zap) Zm)
theorem ZcY:ZaA ["script","cells","rows","last","number"] ["script"] (Zt Zdw):=⟨rfl,rfl,rfl,by decide +kernel,rfl,by decide +kernel,by decide +kernel⟩
theorem Zla (A:Zav K mg "_law_roll" Zdw ["script"]) (T:Txt K mg) (F__law_mix:Fn3 P w K mg base 1 "_law_mix" ["cell","k"] ZaN) (F__law_row:Fn3 P w K mg base 2 "_law_row" ["cell","k","size"] Zct):Fn3 P w K mg base 3 "_law_roll" ["script"] Zee:=
  Fn3.of (N:=["script","cells","rows","last","number"]) (k:=2) A ZcY fun f cdv A outer s H E hr=>by
    have hu:=Zcy hr;unfold Zef;refine Zi ?_ ?_
    ·exact Zai 1 ZcY.nd (ZdW ZdZ (Zc 0) Za6 (Za5 Zk))
    ·refine Zi ?_ ?_
     ·refine ZeN (N':=["script","cells","rows","last","number","k"]) 2 ?_ ?_ ?_ ?_ ?_ (fun C cl s H ex=>⟨?_,?_,?_⟩)
      ·exact Zdr rfl (by kernel_rfl)
      ·exact rfl
      ·exact rfl
      ·exact ZcY.nd
      ·exact Zdq T.m_range (Zbl (id:="len") Zbu T.m_len ZaW (Zd (Zc 1) Zm))
      ·exact Zdi 5 ((show Yda (["script","cells","rows","last","number","k"]:List Str) by decide +kernel))
      ·exact ZnN
      ·refine ZaH (k:=2) (ps:=["cell","k","size"]) ?_ ?_ ?_
       ·exact F__law_row
       ·exact hr.mono (by decide)
       ·refine Zd ?_ ?_
        ·exact Zu Zv (Zc 1) (Zc 5)
        ·exact Zd (Zc 5) (Zd (Zbl (id:="len") Zbu T.m_len ZaW (Zd (Zc 1) Zm)) Zm)
     ·refine Zi ?_ ?_
      ·exact Zai 3 ZcY.nd (Za0 (Zd Zap Zm))
      ·refine Zi ?_ ?_
       ·refine Zau ?_ ?_ ?_
        ·refine CW.ct ?_
         refine ZfF ?_ ?_
         ·exact Zz ZmD (Zbl (id:="len") Zbu T.m_len ZaW (Zd (Zc 1) Zm)) Zk
         ·exact ZeF (Zz ((Zbh hu)) (Zx ZbA (Zu Zv (Zc 1) Zk) Zk) Zk)
        ·refine Zi ?_ ?_
         ·refine Zai 4 ?_ ?_
          ·exact ZcY.nd
          ·exact ZaH (k:=1) (ps:=["cell","k"]) F__law_mix (hr.mono (by decide)) (Zd (Zu Zv (Zc 1) Zk) (Zd Zk Zm))
         ·refine Zi ?_ ?_
          ·refine ZfG ?_ ?_ ?_
           ·exact Zc 2
           ·exact Zx ZbA (Zc 4) (Zbl (id:="len") Zbu T.m_len ZaW (Zd (Zc 2) Zm))
           ·exact Zc 3
          ·refine Zn ?_
           refine Zai 3 ?_ ?_
           ·exact ZcY.nd
           ·refine Za0 ?_
            refine Zd ?_ ?_
            ·exact Zap
            ·refine Zd ?_ ?_
             ·refine Zx ?_ ?_ ?_
              ·exact ZbA
              ·exact Zx ZbB (Zc 4) Zk
              ·exact Zx ZaP (Zbl (id:="len") Zbu T.m_len ZaW (Zd (Zc 2) Zm)) Zk
             ·exact Zm
        ·exact Zad
       ·refine Zn ?_
        refine Zaa ?_;refine Zdb (T:="tuple") ?_ ?_ ?_ ?_
        ·exact ZcP
        ·exact T.m_tuple
        ·exact Zb5
        ·exact Zd (Zx ZaP (Zc 2) (ZcA (Zd (Zc 3) Zm))) Zm
theorem Zdd:ZaA ["script","found","k","cell"] ["script"] (Zt Zc1):=⟨rfl,rfl,rfl,by decide +kernel,rfl,by decide +kernel,by decide +kernel⟩
theorem ZjD (A:Zav K mg "_law_boxes" Zc1 ["script"]) (T:Txt K mg) (F__law_mix:Fn3 P w K mg base 1 "_law_mix" ["cell","k"] ZaN) (F__law_number:Fn3 P w K mg base 1 "_law_number" ["number"] ZaY):Fn3 P w K mg base 2 "_law_boxes" ["script"] Zez:=
  Fn3.of (N:=["script","found","k","cell"]) (k:=1) A Zdd fun f cdv A outer s H E hr=>by
    have hu:=Zcy hr;unfold Zhc;refine Zi ?_ ?_
    ·exact Zai 1 Zdd.nd (ZcA Zm)
    ·refine Zi ?_ ?_
     ·refine ZkG ?_ ?_ ?_ ?_ ?_
      ·exact rfl
      ·exact rfl
      ·exact Zdq T.m_range Zk
      ·exact Zdi 2 Zdd.nd
      ·refine Zi ?_ ?_
       ·exact Zai 3 Zdd.nd Zk
       ·refine Zi ?_ ?_
        ·refine Zau ?_ ?_ ?_
         ·exact Zz ZmD (Zbl (id:="len") Zbu T.m_len ZaW (Zd (Zc 0) Zm)) Zk
         ·refine Zn ?_
          refine Zai 3 ?_ ?_
          ·exact Zdd.nd
          ·refine Zu ?_ ?_ ?_
           ·exact Zv
           ·exact Zc 0
           ·refine Zx ?_ ?_ ?_
            ·exact ZbA
            ·exact Zx ZaP (Zx ZfN Zk (Zc 2)) Zk
            ·exact Zbl (id:="len") Zbu T.m_len ZaW (Zd (Zc 0) Zm)
         ·exact Zad
        ·refine Zn ?_
         refine Zix ?_;refine ZeE ?_ ?_
         ·exact Zc 1
         ·refine Zd ?_ ?_
          ·refine ZaH (k:=1) (ps:=["number"]) ?_ ?_ ?_
           ·exact F__law_number
           ·exact hr.mono (by decide)
           ·refine Zd ?_ ?_
            ·exact ZaH (k:=1) (ps:=["cell","k"]) F__law_mix (hr.mono (by decide)) (Zd (Zc 3) (Zd (Zx ZaP Zk (Zc 2)) Zm))
            ·exact Zm
          ·exact Zm
     ·exact Zn (Zaa (Zdb (T:="tuple") ZcP T.m_tuple Zb5 (Zd (Zc 1) Zm)))
theorem Zhv:ZaA ["row","place","boxes","cells","word"] ["row","place","boxes","cells"] (Zt Zdm):=⟨rfl,rfl,rfl,by decide +kernel,rfl,by decide +kernel,by decide +kernel⟩
theorem Zln (A:Zav K mg "_law_goes" Zdm ["row","place","boxes","cells"]) (T:Txt K mg):Fn3 P w K mg base 1 "_law_goes" ["row","place","boxes","cells"] Zbs:=
  Fn3.of (N:=["row","place","boxes","cells","word"]) (k:=0) A Zhv fun f cdv A outer s H E hr=>by
    have hu:=Zcy hr;unfold ZfV;refine Zi ?_ ?_
    ·exact Zai 4 Zhv.nd (Zu Zv (Zc 0) Zk)
    ·refine Zi ?_ ?_
     ·refine Zau ?_ ?_ ?_
      ·exact Zz ((Zbh hu)) (Zc 4) Zap
      ·exact Zn (ZfG (Zc 2) (Zu Zv (Zc 0) Zk) (Zu Zv (Zc 0) Zk))
      ·refine Zn ?_
       refine Zau ?_ ?_ ?_
       ·exact Zz ((Zbh hu)) (Zc 4) Zap
       ·refine Zn ?_
        refine ZfG ?_ ?_ ?_
        ·exact Zc 2
        ·exact Zu Zv (Zc 0) Zk
        ·refine Zx ?_ ?_ ?_
         ·exact ZaP
         ·exact Zu Zv (Zc 2) (Zu Zv (Zc 0) Zk)
         ·exact Zu Zv (Zc 2) (Zu Zv (Zc 0) Zk)
       ·refine Zn ?_
        refine Zau ?_ ?_ ?_
        ·exact Zz ((Zbh hu)) (Zc 4) Zap
        ·refine Zn ?_
         refine ZfG ?_ ?_ ?_
         ·exact Zc 2
         ·exact Zu Zv (Zc 0) Zk
         ·refine Zx ?_ ?_ ?_
          ·exact Zec
          ·exact Zu Zv (Zc 2) (Zu Zv (Zc 0) Zk)
          ·exact Zu Zv (Zc 2) (Zu Zv (Zc 0) Zk)
        ·refine Zn ?_
         refine Zau ?_ ?_ ?_
         ·exact Zz ((Zbh hu)) (Zc 4) Zap
         ·refine Zn ?_
          refine ZfG ?_ ?_ ?_
          ·exact Zc 2
          ·exact Zu Zv (Zc 0) Zk
          ·refine Zdb (T:="int") ?_ ?_ ?_ ?_
           ·exact Zp5
           ·exact T.m_int
           ·exact Zqe
           ·refine Zd ?_ ?_
            ·refine Zdg ?_ ?_ ?_
             ·exact ZmD
             ·exact Zu Zv (Zc 2) (Zu Zv (Zc 0) Zk)
             ·exact Zu Zv (Zc 2) (Zu Zv (Zc 0) Zk)
            ·exact Zm
         ·refine Zn ?_
          refine Zau ?_ ?_ ?_
          ·exact Zz ((Zbh hu)) (Zc 4) Zap
          ·refine Zn ?_
           refine ZfG ?_ ?_ ?_
           ·exact Zc 2
           ·exact Zu Zv (Zc 0) Zk
           ·exact Zqh hu (Zc 3) (Zu Zv (Zc 2) (Zu Zv (Zc 0) Zk)) Zk
          ·refine Zn ?_
           refine Zau ?_ ?_ ?_
           ·exact Zz ((Zbh hu)) (Zc 4) Zap
           ·refine Zn ?_
            refine ZrT ?_ ?_ ?_ ?_
            ·exact hu
            ·exact Zc 3
            ·exact Zu Zv (Zc 2) (Zu Zv (Zc 0) Zk)
            ·exact Zu Zv (Zc 2) (Zu Zv (Zc 0) Zk)
           ·refine Zn ?_
            refine Zau ?_ ?_ ?_
            ·refine CW.ct ?_
             refine Ze5 ?_ ?_
             ·exact Zz ((Zbh hu)) (Zc 4) Zap
             ·refine Ze3 ?_
              refine CW.ct ?_;refine ZfF ?_ ?_
              ·exact Zz ((Zbh hu)) (Zc 4) Zap
              ·exact ZeF (Zz ZmD (Zu Zv (Zc 2) (Zu Zv (Zc 0) Zk)) Zk)
            ·exact Zn (Zaa (Zu Zv (Zc 0) (Znu Zjo Zk)))
            ·exact Zad
     ·exact Zn (Zaa (Zx ZaP (Zc 1) Zk))
theorem ZbW:ZaA ["roll","first","most","place","boxes","cells","states","kept"] ["roll","first","most"] (Zt ZcG):=⟨rfl,rfl,rfl,by decide +kernel,rfl,by decide +kernel,by decide +kernel⟩
theorem Zi8 (A:Zav K mg "_law_states" ZcG ["roll","first","most"]) (T:Txt K mg) (F__law_goes:Fn3 P w K mg base 1 "_law_goes" ["row","place","boxes","cells"] Zbs):Fn3 P w K mg base 2 "_law_states" ["roll","first","most"] Zdf:=
  Fn3.of (N:=["roll","first","most","place","boxes","cells","states","kept"]) (k:=1) A ZbW fun f cdv A outer s H E hr=>by
    have hu:=Zcy hr;unfold ZgL;refine Zi ?_ ?_
    ·exact Zai 3 ZbW.nd Zk
    ·refine Zi ?_ ?_
     ·exact Zai 4 ZbW.nd (Zdb (T:="list") Zja T.m_list Zha (Zd (Zc 1) Zm))
     ·refine Zi ?_ ?_
      ·exact Zai 5 ZbW.nd Zp9
      ·refine Zi ?_ ?_
       ·refine Zai 6 ?_ ?_
        ·exact ZbW.nd
        ·refine ZcA ?_
         refine Zd ?_ ?_
         ·refine Za0 ?_
          refine Zd ?_ ?_
          ·exact Zk
          ·exact Zd (Zdb (T:="tuple") ZcP T.m_tuple Zb5 (Zd (Zc 1) Zm)) (Zd (Za0 Zm) Zm)
         ·exact Zm
       ·refine Zi ?_ ?_
        ·refine Zqk ?_ ?_ ?_
         ·exact rfl
         ·refine CW.ct ?_
          refine ZfF ?_ ?_
          ·exact Zz ((Zgx hu)) (Zu Zv (Zu Zv (Zc 0) (Zc 3)) Zk) Zap
          ·exact ZeF (Zz Zsl (Zbl (id:="len") Zbu T.m_len ZaW (Zd (Zc 6) Zm)) (Zc 2))
         ·refine Zi ?_ ?_
          ·refine Zai 3 ?_ ?_
           ·exact ZbW.nd
           ·refine ZaH (k:=1) (ps:=["row","place","boxes","cells"]) ?_ ?_ ?_
            ·exact F__law_goes
            ·exact hr.mono (by decide)
            ·exact Zd (Zu Zv (Zc 0) (Zc 3)) (Zd (Zc 3) (Zd (Zc 4) (Zd (Zc 5) Zm)))
          ·refine Zi ?_ ?_
           ·refine ZoH (N':=["roll","first","most","place","boxes","cells","states","kept","number"]) 7 5 ?_ ?_ ?_ ?_ ?_ (fun C cl s H ex=>⟨?_,?_,?_⟩)
            ·exact Zdr rfl (by kernel_rfl)
            ·exact rfl
            ·exact rfl
            ·exact ZbW.nd
            ·exact Zc 5
            ·exact Zdi 8 ((show Yda (["roll","first","most","place","boxes","cells","states","kept","number"]:List Str) by decide +kernel))
            ·exact Zgu (Zz ((Zgx hu)) (Zpj hu (Zc 5) (Zc 8)) Zk)
            ·exact Za0 (Zd (Zc 8) (Zd (Zpj hu (Zc 5) (Zc 8)) Zm))
           ·refine Zn ?_
            refine Zix ?_;refine ZeE ?_ ?_
            ·exact Zc 6
            ·refine Zd ?_ ?_
             ·refine Za0 ?_
              refine Zd ?_ ?_
              ·exact Zc 3
              ·refine Zd ?_ ?_
               ·exact Zdb (T:="tuple") ZcP T.m_tuple Zb5 (Zd (Zc 4) Zm)
               ·refine Zd ?_ ?_
                ·refine Zdb (T:="tuple") ?_ ?_ ?_ ?_
                 ·exact ZcP
                 ·exact T.m_tuple
                 ·exact Zb5
                 ·exact Zd (Zbl (id:="sorted") Zjh T.m_sorted ZhS (Zd (Zc 7) Zm)) Zm
                ·exact Zm
             ·exact Zm
        ·exact Zn (Zaa (Zc 6))
theorem Zc6:ZaA ["roll","states","rows","time","place","boxes","row"] ["roll","states"] (Zt Zds):=⟨rfl,rfl,rfl,by decide +kernel,rfl,by decide +kernel,by decide +kernel⟩
theorem ZkO (A:Zav K mg "_law_uses" Zds ["roll","states"]) (T:Txt K mg):Fn3 P w K mg base 1 "_law_uses" ["roll","states"] Zfc:=
  Fn3.of (N:=["roll","states","rows","time","place","boxes","row"]) (k:=0) A Zc6 fun f cdv A outer s H E hr=>by
    have hu:=Zcy hr;unfold Zh9;refine Zi ?_ ?_
    ·exact Zai 2 Zc6.nd (ZcA Zm)
    ·refine Zi ?_ ?_
     ·refine ZkG ?_ ?_ ?_ ?_ ?_
      ·exact rfl
      ·exact rfl
      ·exact Zdq T.m_range (Zx Zec (Zbl (id:="len") Zbu T.m_len ZaW (Zd (Zc 1) Zm)) Zk)
      ·exact Zdi 3 Zc6.nd
      ·refine Zi ?_ ?_
       ·refine ZhN ?_ ?_
        ·exact ZdW ZdZ (Zu Zv (Zc 1) (Zc 3)) Za6 (Za5 Zk)
        ·exact ZfR rfl (Za1 4 Zc6.nd (Za1 5 Zc6.nd ZeC))
       ·refine Zi ?_ ?_
        ·exact Zai 6 Zc6.nd (Zu Zv (Zc 0) (Zc 4))
        ·refine Zi ?_ ?_
         ·refine Zau ?_ ?_ ?_
          ·exact Zz ((Zbh hu)) (Zu Zv (Zc 6) Zk) Zap
          ·refine Zn ?_
           refine Zix ?_;refine ZeE ?_ ?_
           ·exact Zc 2
           ·refine Zd ?_ ?_
            ·refine Za0 ?_
             refine Zd ?_ ?_
             ·exact Zu Zv (Zc 5) (Zu Zv (Zc 6) Zk)
             ·refine Zd ?_ ?_
              ·exact Zc 3
              ·refine Zd ?_ ?_
               ·exact Zap
               ·refine Zd ?_ ?_
                ·refine Zu ?_ ?_ ?_
                 ·exact Zv
                 ·exact Zu Zv (Zu Zv (Zc 1) (Zx ZaP (Zc 3) Zk)) Zk
                 ·exact Zu Zv (Zc 6) Zk
                ·exact Zm
            ·exact Zm
          ·exact Zad
         ·refine Zn ?_
          refine Zau ?_ ?_ ?_
          ·exact Zz ((Zbh hu)) (Zu Zv (Zc 6) Zk) Zap
          ·refine Zn ?_
           refine Zix ?_;refine ZeE ?_ ?_
           ·exact Zc 2
           ·refine Zd ?_ ?_
            ·refine Za0 ?_
             refine Zd ?_ ?_
             ·exact Zu Zv (Zc 5) (Zu Zv (Zc 6) Zk)
             ·refine Zd ?_ ?_
              ·exact Zc 3
              ·exact Zd Zap (Zd (Zu Zv (Zc 5) (Zu Zv (Zc 6) Zk)) Zm)
            ·exact Zm
          ·exact Zad
     ·refine Zn ?_
      refine Zaa ?_;refine Zdb (T:="tuple") ?_ ?_ ?_ ?_
      ·exact ZcP
      ·exact T.m_tuple
      ·exact Zb5
      ·exact Zd (Zbl (id:="sorted") Zjh T.m_sorted ZhS (Zd (Zc 2) Zm)) Zm
theorem ZkJ:ZaA ["script","k"] ["script","k"] (Zt Zdy):=⟨rfl,rfl,rfl,by decide +kernel,rfl,by decide +kernel,by decide +kernel⟩
theorem ZkQ (A:Zav K mg "_law_cell" Zdy ["script","k"]) (T:Txt K mg):Fn3 P w K mg base 1 "_law_cell" ["script","k"] Zbt:=
  Fn3.of (N:=["script","k"]) (k:=0) A ZkJ fun f cdv A outer s H E hr=>by
    have hu:=Zcy hr;unfold Zfh;refine Zi ?_ ?_
    ·refine Zau ?_ ?_ ?_
     ·exact Zz ((Zbh hu)) (Zbl (id:="len") Zbu T.m_len ZaW (Zd (Zc 0) Zm)) Zk
     ·refine Zn ?_
      refine Zaa ?_;refine Zx ?_ ?_ ?_
      ·exact ZaP
      ·exact Zx ZfN (Zx ZfN Zk (Zc 1)) (Zc 1)
      ·exact Zx ZfN Zk (Zc 1)
     ·exact Zad
    ·refine Zn ?_
     refine Zaa ?_;refine Zx ?_ ?_ ?_
     ·exact ZaP
     ·refine Zu ?_ ?_ ?_
      ·exact Zv
      ·exact Zc 0
      ·exact Zx ZbA (Zc 1) (Zbl (id:="len") Zbu T.m_len ZaW (Zd (Zc 0) Zm))
     ·exact Zx ZbB (Zc 1) (Zbl (id:="len") Zbu T.m_len ZaW (Zd (Zc 0) Zm))
theorem Zbg:ZaA ["roll","steps","kind","more","at","place","boxes","spot","number"] ["roll","steps","kind","more"] (Zt Zbk):=⟨rfl,rfl,rfl,by decide +kernel,rfl,by decide +kernel,by decide +kernel⟩
theorem ZfP (A:Zav K mg "_law_steps_changed" Zbk ["roll","steps","kind","more"]) (T:Txt K mg):Fn3 P w K mg base 1 "_law_steps_changed" ["roll","steps","kind","more"] Za3:=
  Fn3.of (N:=["roll","steps","kind","more","at","place","boxes","spot","number"]) (k:=0) A Zbg fun f cdv A outer s H E hr=>by
    have hu:=Zcy hr;unfold ZcR;refine Zi ?_ ?_
    ·exact Zai 4 Zbg.nd (Zx ZbA (Zc 3) (Zbl (id:="len") Zbu T.m_len ZaW (Zd (Zc 1) Zm)))
    ·refine Zi ?_ ?_
     ·exact ZhN (Zu Zv (Zc 1) (Zc 4)) (ZfR rfl (Za1 5 Zbg.nd (Za1 6 Zbg.nd ZeC)))
     ·refine Zi ?_ ?_
      ·exact Zai 7 Zbg.nd (Zx ZbA (Zx ZbB (Zc 3) Zk) Zk)
      ·refine Zi ?_ ?_
       ·refine Zau ?_ ?_ ?_
        ·exact Zz ((Zbh hu)) (Zc 2) Zk
        ·refine Zi ?_ ?_
         ·refine Zai 8 ?_ ?_
          ·exact Zbg.nd
          ·refine Zx ?_ ?_ ?_
           ·exact Zec
           ·exact Zx ZaP (Zu Zv (Zc 6) (Zc 7)) Zk
           ·exact Zx ZfN Zk (Zx ZbA (Zx ZbB (Zc 3) Zk) Zk)
         ·refine Zn ?_
          refine Zaa ?_;refine Zx ?_ ?_ ?_
          ·exact ZaP
          ·refine Zx ?_ ?_ ?_
           ·exact ZaP
           ·exact ZdW ZdZ (Zc 1) Za6 (Za5 (Zc 4))
           ·refine ZcA ?_
            refine Zd ?_ ?_
            ·refine Za0 ?_
             refine Zd ?_ ?_
             ·exact Zc 5
             ·refine Zd ?_ ?_
              ·refine Zx ?_ ?_ ?_
               ·exact ZaP
               ·exact Zx ZaP (ZdW ZdZ (Zc 6) Za6 (Za5 (Zc 7))) (Za0 (Zd (Zc 8) Zm))
               ·exact ZdW ZdZ (Zc 6) (Za5 (Zx ZaP (Zc 7) Zk)) Za6
              ·exact Zm
            ·exact Zm
          ·exact ZdW ZdZ (Zc 1) (Za5 (Zx ZaP (Zc 4) Zk)) Za6
        ·exact Zad
       ·refine Zi ?_ ?_
        ·refine Zau ?_ ?_ ?_
         ·exact Zz ((Zbh hu)) (Zc 2) Zk
         ·refine Zn ?_
          refine Zaa ?_;refine Zx ?_ ?_ ?_
          ·exact ZaP
          ·refine Zx ?_ ?_ ?_
           ·exact ZaP
           ·exact ZdW ZdZ (Zc 1) Za6 (Za5 (Zc 4))
           ·refine ZcA ?_
            refine Zd ?_ ?_
            ·refine Za0 ?_
             refine Zd ?_ ?_
             ·refine Zx ?_ ?_ ?_
              ·exact Zec
              ·refine Zx ?_ ?_ ?_
               ·exact ZbA
               ·exact Zx ZbB (Zc 3) Zk
               ·exact Zx ZaP (Zbl (id:="len") Zbu T.m_len ZaW (Zd (Zc 0) Zm)) Zk
              ·exact Zk
             ·exact Zd (Zc 6) Zm
            ·exact Zm
          ·exact ZdW ZdZ (Zc 1) (Za5 (Zx ZaP (Zc 4) Zk)) Za6
         ·exact Zad
        ·refine Zi ?_ ?_
         ·refine Zau ?_ ?_ ?_
          ·exact Zz ((Zbh hu)) (Zc 2) Zk
          ·exact Zn (Zaa (ZdW ZdZ (Zc 1) Za6 (Za5 (Znu Zjo Zk))))
          ·exact Zad
         ·refine Zi ?_ ?_
          ·refine Zau ?_ ?_ ?_
           ·exact Zz ((Zbh hu)) (Zc 2) Zk
           ·refine Zn ?_
            refine Zaa ?_;refine Zx ?_ ?_ ?_
            ·exact ZaP
            ·refine Zx ?_ ?_ ?_
             ·exact ZaP
             ·exact ZdW ZdZ (Zc 1) Za6 (Za5 (Zc 4))
             ·exact ZcA (Zd (Zu Zv (Zc 1) (Zc 4)) Zm)
            ·exact ZdW ZdZ (Zc 1) (Za5 (Zc 4)) Za6
           ·exact Zad
          ·refine Zi ?_ ?_
           ·refine Zau ?_ ?_ ?_
            ·exact Zz ((Zbh hu)) (Zc 2) Zk
            ·refine Zn ?_
             refine Zaa ?_;refine Zx ?_ ?_ ?_
             ·exact ZaP
             ·exact ZdW ZdZ (Zc 1) Za6 (Za5 (Zc 4))
             ·exact ZdW ZdZ (Zc 1) (Za5 (Zx ZaP (Zc 4) Zk)) Za6
            ·exact Zad
           ·refine Zn ?_
            refine Zaa ?_;exact Zx ZaP (Zc 1) (ZcA (Zd (Za0 (Zd (Zc 5) (Zd (Zc 6) Zm))) Zm))
theorem Zao:ZaA ["uses","kind","more","at","number","time","word","value","there","some","row"] ["uses","kind","more"] (Zt Zbr):=⟨rfl,rfl,rfl,by decide +kernel,rfl,by decide +kernel,by decide +kernel⟩
theorem Zf4 (A:Zav K mg "_law_uses_changed" Zbr ["uses","kind","more"]) (T:Txt K mg):Fn3 P w K mg base 1 "_law_uses_changed" ["uses","kind","more"] Zba:=
  Fn3.of (N:=["uses","kind","more","at","number","time","word","value","there","some","row"]) (k:=0) A Zao fun f cdv A outer s H E hr=>by
    have hu:=Zcy hr;unfold Zcd;refine Zi ?_ ?_
    ·refine Zau ?_ ?_ ?_
     ·exact Zz ((Zbh hu)) (Zbl (id:="len") Zbu T.m_len ZaW (Zd (Zc 0) Zm)) Zk
     ·refine Zn ?_
      refine Zaa ?_;refine ZcA ?_;refine Zd ?_ ?_
      ·refine Za0 ?_
       refine Zd ?_ ?_
       ·exact Zx Zec (Zx ZbA (Zc 2) Zk) Zk
       ·refine Zd ?_ ?_
        ·exact Zx ZbA (Zx ZbB (Zc 2) Zk) Zk
        ·refine Zd ?_ ?_
         ·exact Zu Zv (ZcA (Zd Zap (Zd Zap Zm))) (Zx ZbA (Zc 2) Zk)
         ·exact Zd Zk Zm
      ·exact Zm
     ·exact Zad
    ·refine Zi ?_ ?_
     ·exact Zai 3 Zao.nd (Zx ZbA (Zc 2) (Zbl (id:="len") Zbu T.m_len ZaW (Zd (Zc 0) Zm)))
     ·refine Zi ?_ ?_
      ·refine ZhN ?_ ?_
       ·exact Zu Zv (Zc 0) (Zc 3)
       ·exact ZfR rfl (Za1 4 Zao.nd (Za1 5 Zao.nd (Za1 6 Zao.nd (Za1 7 Zao.nd ZeC))))
      ·refine Zi ?_ ?_
       ·refine Zau ?_ ?_ ?_
        ·exact Zz ((Zbh hu)) (Zc 1) Zk
        ·refine Zn ?_
         refine Zaa ?_;refine Zx ?_ ?_ ?_
         ·exact ZaP
         ·exact ZdW ZdZ (Zc 0) Za6 (Za5 (Zc 3))
         ·exact ZdW ZdZ (Zc 0) (Za5 (Zx ZaP (Zc 3) Zk)) Za6
        ·exact Zad
       ·refine Zi ?_ ?_
        ·refine Zau ?_ ?_ ?_
         ·exact Zz ((Zbh hu)) (Zc 1) Zk
         ·refine Zn ?_
          refine Zaa ?_;refine Zx ?_ ?_ ?_
          ·exact ZaP
          ·refine Zx ?_ ?_ ?_
           ·exact ZaP
           ·exact ZdW ZdZ (Zc 0) Za6 (Za5 (Zc 3))
           ·exact ZcA (Zd (Zu Zv (Zc 0) (Zc 3)) Zm)
          ·exact ZdW ZdZ (Zc 0) (Za5 (Zc 3)) Za6
         ·exact Zad
        ·refine Zi ?_ ?_
         ·refine Zau ?_ ?_ ?_
          ·exact Zz ((Zbh hu)) (Zc 1) Zk
          ·refine Zi ?_ ?_
           ·refine Zai 8 ?_ ?_
            ·exact Zao.nd
            ·refine Zx ?_ ?_ ?_
             ·exact ZbA
             ·exact Zx ZbB (Zc 2) Zk
             ·exact Zbl (id:="len") Zbu T.m_len ZaW (Zd (Zc 0) Zm)
           ·refine Zi ?_ ?_
            ·exact Zai 9 Zao.nd (Zdb (T:="list") Zja T.m_list Zha (Zd (Zc 0) Zm))
            ·refine Zi ?_ ?_
             ·refine Zqr ?_ ?_ ?_ ?_ ?_ ?_
              ·exact rfl
              ·exact Za0 (Zd (Zu Zv (Zc 0) (Zc 8)) (Zd (Zu Zv (Zc 0) (Zc 3)) Zm))
              ·exact Zc 9
              ·exact Zc 3
              ·exact Zc 9
              ·exact Zc 8
             ·exact Zn (Zaa (Zc 9))
          ·exact Zad
         ·refine Zi ?_ ?_
          ·refine Zai 10 ?_ ?_
           ·exact Zao.nd
           ·refine Za0 ?_
            refine Zd ?_ ?_
            ·exact Zc 4
            ·refine Zd ?_ ?_
             ·exact Zc 5
             ·refine Zd ?_ ?_
              ·exact Zc 6
              ·refine Zd ?_ ?_
               ·refine Zx ?_ ?_ ?_
                ·exact Zec
                ·exact Zx ZaP (Zc 7) Zk
                ·exact Zx ZfN Zk (Zx ZbA (Zx ZbB (Zc 2) Zk) Zk)
               ·exact Zm
          ·refine Zi ?_ ?_
           ·refine Zau ?_ ?_ ?_
            ·exact Zz ((Zbh hu)) (Zc 1) Zk
            ·refine Zn ?_
             refine Zai 10 ?_ ?_
             ·exact Zao.nd
             ·refine Za0 ?_
              refine Zd ?_ ?_
              ·refine Zx ?_ ?_ ?_
               ·exact Zec
               ·exact Zx ZaP (Zc 4) Zk
               ·exact Zx ZfN Zk (Zx ZbA (Zx ZbB (Zc 2) Zk) Zk)
              ·exact Zd (Zc 5) (Zd (Zc 6) (Zd (Zc 7) Zm))
            ·exact Zad
           ·refine Zi ?_ ?_
            ·refine Zau ?_ ?_ ?_
             ·exact Zz ((Zbh hu)) (Zc 1) Zk
             ·refine Zn ?_
              refine Zai 10 ?_ ?_
              ·exact Zao.nd
              ·refine Za0 ?_
               refine Zd ?_ ?_
               ·exact Zc 4
               ·refine Zd ?_ ?_
                ·exact Zx Zec (Zx ZbA (Zx ZbB (Zc 2) Zk) Zk) Zk
                ·exact Zd (Zc 6) (Zd (Zc 7) Zm)
             ·exact Zad
            ·refine Zi ?_ ?_
             ·refine Zau ?_ ?_ ?_
              ·exact Zz ((Zbh hu)) (Zc 1) Zk
              ·refine Zn ?_
               refine Zai 10 ?_ ?_
               ·exact Zao.nd
               ·refine Za0 ?_
                refine Zd ?_ ?_
                ·exact Zc 4
                ·refine Zd ?_ ?_
                 ·exact Zc 5
                 ·refine Zd ?_ ?_
                  ·refine Zu ?_ ?_ ?_
                   ·exact Zv
                   ·exact ZcA (Zd Zap (Zd Zap (Zd Zap Zm)))
                   ·exact Zx ZbA (Zx ZbB (Zc 2) Zk) Zk
                  ·exact Zd (Zc 7) Zm
              ·exact Zad
             ·refine Zi ?_ ?_
              ·refine Zai 9 ?_ ?_
               ·exact Zao.nd
               ·refine Zx ?_ ?_ ?_
                ·exact ZaP
                ·exact Zx ZaP (ZdW ZdZ (Zc 0) Za6 (Za5 (Zc 3))) (ZcA (Zd (Zc 10) Zm))
                ·exact ZdW ZdZ (Zc 0) (Za5 (Zx ZaP (Zc 3) Zk)) Za6
              ·refine Zn ?_
               refine Zaa ?_;refine Zu ?_ ?_ ?_
               ·exact Zv
               ·exact ZcA (Zd (Zc 9) (Zd (Zbl (id:="sorted") Zjh T.m_sorted ZhS (Zd (Zc 9) Zm)) Zm))
               ·exact Zx ZbA (Zx ZbB (Zc 2) Zk) Zk
theorem Zcw:ZaA ["roll","steps","uses","cell","kind","more"] ["roll","steps","uses","cell"] (Zt Zbf):=⟨rfl,rfl,rfl,by decide +kernel,rfl,by decide +kernel,by decide +kernel⟩
theorem ZfD (A:Zav K mg "_law_tables_changed" Zbf ["roll","steps","uses","cell"]) (T:Txt K mg) (F__law_steps_changed:Fn3 P w K mg base 1 "_law_steps_changed" ["roll","steps","kind","more"] Za3) (F__law_uses_changed:Fn3 P w K mg base 1 "_law_uses_changed" ["uses","kind","more"] Zba):Fn3 P w K mg base 2 "_law_tables_changed" ["roll","steps","uses","cell"] ZaO:=
  Fn3.of (N:=["roll","steps","uses","cell","kind","more"]) (k:=1) A Zcw fun f cdv A outer s H E hr=>by
    have hu:=Zcy hr;unfold ZcJ;refine Zi ?_ ?_
    ·exact Zai 4 Zcw.nd (Zx ZbA (Zc 3) Zk)
    ·refine Zi ?_ ?_
     ·exact Zai 5 Zcw.nd (Zx ZbB (Zc 3) Zk)
     ·refine Zi ?_ ?_
      ·refine Zau ?_ ?_ ?_
       ·refine CW.ct ?_
        refine ZfF ?_ ?_
        ·exact Zz Zmv (Zc 4) Zk
        ·exact ZeF (Zz ZmD (Zbl (id:="len") Zbu T.m_len ZaW (Zd (Zc 1) Zm)) Zk)
       ·refine Zn ?_
        refine Zaa ?_;refine ZcA ?_;refine Zd ?_ ?_
        ·exact ZaH (k:=1) (ps:=["roll","steps","kind","more"]) F__law_steps_changed (hr.mono (by decide)) (Zd (Zc 0) (Zd (Zc 1) (Zd (Zc 4) (Zd (Zc 5) Zm))))
        ·exact Zd (Zc 2) Zm
       ·exact Zad
      ·refine Zi ?_ ?_
       ·refine Zau ?_ ?_ ?_
        ·exact Zz Zmv (Zc 4) Zk
        ·exact Zn (Zaa (ZcA (Zd (Zc 1) (Zd (Zc 2) Zm))))
        ·exact Zad
       ·refine Zn ?_
        refine Zaa ?_;refine ZcA ?_;refine Zd ?_ ?_
        ·exact Zc 1
        ·exact Zd (ZaH (k:=1) (ps:=["uses","kind","more"]) F__law_uses_changed (hr.mono (by decide)) (Zd (Zc 2) (Zd (Zc 4) (Zd (Zc 5) Zm)))) Zm
theorem ZbY:ZaA ["roll","row","behind","place","boxes","right","to"] ["roll","row","behind"] (Zt ZbE):=⟨rfl,rfl,rfl,by decide +kernel,rfl,by decide +kernel,by decide +kernel⟩
theorem ZgR (A:Zav K mg "_law_step_right" ZbE ["roll","row","behind"]) (T:Txt K mg) (F__law_goes:Fn3 P w K mg base 1 "_law_goes" ["row","place","boxes","cells"] Zbs):Fn3 P w K mg base 2 "_law_step_right" ["roll","row","behind"] ZbF:=
  Fn3.of (N:=["roll","row","behind","place","boxes","right","to"]) (k:=1) A ZbY fun f cdv A outer s H E hr=>by
    have hu:=Zcy hr;unfold ZdM;refine Zi ?_ ?_
    ·exact ZhN (Zc 1) (ZfR rfl (Za1 3 ZbY.nd (Za1 4 ZbY.nd ZeC)))
    ·refine Zi ?_ ?_
     ·refine Zau ?_ ?_ ?_
      ·refine CW.ct ?_
       refine Ze5 ?_ ?_
       ·exact Zz Zmv (Zc 3) Zk
       ·refine Ze5 ?_ ?_
        ·exact Zz Zqx (Zc 3) (Zbl (id:="len") Zbu T.m_len ZaW (Zd (Zc 0) Zm))
        ·exact Ze3 (Zz ((Zbh hu)) (Zu Zv (Zu Zv (Zc 0) (Zc 3)) Zk) Zap)
      ·exact Zn (Zaa Zig)
      ·exact Zad
     ·refine Zi ?_ ?_
      ·exact Zai 5 ZbY.nd (Zdb (T:="list") Zja T.m_list Zha (Zd (Zc 4) Zm))
      ·refine Zi ?_ ?_
       ·refine Zai 6 ?_ ?_
        ·exact ZbY.nd
        ·refine ZaH (k:=1) (ps:=["row","place","boxes","cells"]) ?_ ?_ ?_
         ·exact F__law_goes
         ·exact hr.mono (by decide)
         ·exact Zd (Zu Zv (Zc 0) (Zc 3)) (Zd (Zc 3) (Zd (Zc 5) (Zd Zp9 Zm)))
       ·refine Zi ?_ ?_
        ·refine Zau ?_ ?_ ?_
         ·exact Zz ((Zbh hu)) (Zu Zv (Zu Zv (Zc 0) (Zc 3)) Zk) Zap
         ·refine Zn ?_
          refine ZfG ?_ ?_ ?_
          ·exact Zc 5
          ·exact Zu Zv (Zu Zv (Zc 0) (Zc 3)) Zk
          ·refine Zu ?_ ?_ ?_
           ·exact Zv
           ·exact Zu Zv (Zc 2) Zk
           ·exact Zu Zv (Zu Zv (Zc 0) (Zc 3)) Zk
         ·exact Zad
        ·refine Zn ?_
         refine Zaa ?_;refine Zdg ?_ ?_ ?_
         ·exact (Zbh hu)
         ·exact Zc 2
         ·exact Za0 (Zd (Zc 6) (Zd (Zdb (T:="tuple") ZcP T.m_tuple Zb5 (Zd (Zc 5) Zm)) Zm))
theorem ZdO:ZaA ["roll","boxes","steps","wrong","last"] ["roll","boxes","steps"] (Zt ZbM):=⟨rfl,rfl,rfl,by decide +kernel,rfl,by decide +kernel,by decide +kernel⟩
theorem Zhj (A:Zav K mg "_law_steps_due" ZbM ["roll","boxes","steps"]) (T:Txt K mg) (F__law_step_right:Fn3 P w K mg base 2 "_law_step_right" ["roll","row","behind"] ZbF):Fn3 P w K mg base 3 "_law_steps_due" ["roll","boxes","steps"] ZbO:=
  Fn3.of (N:=["roll","boxes","steps","wrong","last"]) (k:=2) A ZdO fun f cdv A outer s H E hr=>by
    have hu:=Zcy hr;unfold Zd1;refine Zi ?_ ?_
    ·refine Zau ?_ ?_ ?_
     ·refine CW.ct ?_
      refine Ze5 ?_ ?_
      ·exact Zz ((Zbh hu)) (Zbl (id:="len") Zbu T.m_len ZaW (Zd (Zc 2) Zm)) Zk
      ·refine Ze3 ?_
       exact Zz ((Zgx hu)) (Zu Zv (Zc 2) Zk) (Za0 (Zd Zk (Zd (Zc 1) Zm)))
     ·exact Zn (Zaa (Za0 (Zd Zap (Zd Zk Zm))))
     ·exact Zad
    ·refine Zi ?_ ?_
     ·refine ZeN (N':=["roll","boxes","steps","wrong","last","k"]) 3 ?_ ?_ ?_ ?_ ?_ (fun C cl s H ex=>⟨?_,?_,?_⟩)
      ·exact Zdr rfl (by kernel_rfl)
      ·exact rfl
      ·exact rfl
      ·exact ZdO.nd
      ·exact Zdq T.m_range (Zx Zec (Zbl (id:="len") Zbu T.m_len ZaW (Zd (Zc 2) Zm)) Zk)
      ·exact Zdi 5 ((show Yda (["roll","boxes","steps","wrong","last","k"]:List Str) by decide +kernel))
      ·refine Zgu ?_
       refine ZeR ?_;refine ZdB ?_;refine ZaH (k:=2) (ps:=["roll","row","behind"]) ?_ ?_ ?_
       ·exact F__law_step_right
       ·exact hr.mono (by decide)
       ·refine Zd ?_ ?_
        ·exact Zc 0
        ·refine Zd ?_ ?_
         ·exact Zu Zv (Zc 2) (Zc 5)
         ·exact Zd (Zu Zv (Zc 2) (Zx ZaP (Zc 5) Zk)) Zm
      ·exact Zc 5
     ·refine Zi ?_ ?_
      ·refine Zau ?_ ?_ ?_
       ·exact Zz ((Zgx hu)) (Zc 3) (ZcA Zm)
       ·exact Zn (Zaa (Za0 (Zd Zap (Zd (Zu Zv (Zc 3) Zk) Zm))))
       ·exact Zad
      ·refine Zi ?_ ?_
       ·exact Zai 4 ZdO.nd (Zu Zv (Zu Zv (Zc 2) (Znu Zjo Zk)) Zk)
       ·refine Zi ?_ ?_
        ·refine Zau ?_ ?_ ?_
         ·refine CW.ct ?_
          refine Ze5 ?_ ?_
          ·exact Zz Zmv (Zc 4) Zk
          ·refine Ze5 ?_ ?_
           ·exact Zz Zqx (Zc 4) (Zbl (id:="len") Zbu T.m_len ZaW (Zd (Zc 0) Zm))
           ·exact Ze3 (Zz ((Zgx hu)) (Zu Zv (Zu Zv (Zc 0) (Zc 4)) Zk) Zap)
         ·refine Zn ?_
          refine Zaa ?_;refine Za0 ?_;refine Zd ?_ ?_
          ·exact Zap
          ·exact Zd (Zx Zec (Zbl (id:="len") Zbu T.m_len ZaW (Zd (Zc 2) Zm)) Zk) Zm
         ·exact Zad
        ·exact Zn (Zaa Zdx)
theorem Zbc:ZaA ["uses","k","number","time","word","value","held","ahead"] ["uses","k"] (Zt ZbN):=⟨rfl,rfl,rfl,by decide +kernel,rfl,by decide +kernel,by decide +kernel⟩
theorem Zhh (A:Zav K mg "_law_use_right" ZbN ["uses","k"]) (T:Txt K mg):Fn3 P w K mg base 1 "_law_use_right" ["uses","k"] ZbP:=
  Fn3.of (N:=["uses","k","number","time","word","value","held","ahead"]) (k:=0) A Zbc fun f cdv A outer s H E hr=>by
    have hu:=Zcy hr;unfold Zfs;refine Zi ?_ ?_
    ·refine ZhN ?_ ?_
     ·exact Zu Zv (Zc 0) (Zc 1)
     ·exact ZfR rfl (Za1 2 Zbc.nd (Za1 3 Zbc.nd (Za1 4 Zbc.nd (Za1 5 Zbc.nd ZeC))))
    ·refine Zi ?_ ?_
     ·exact Zai 6 Zbc.nd Zk
     ·refine Zi ?_ ?_
      ·refine Zau ?_ ?_ ?_
       ·exact Zz ZmD (Zc 1) Zk
       ·refine Zi ?_ ?_
        ·exact Zai 7 Zbc.nd (Zu Zv (Zc 0) (Zx Zec (Zc 1) Zk))
        ·refine Zi ?_ ?_
         ·refine Zau ?_ ?_ ?_
          ·refine CW.ct ?_
           refine Ze5 ?_ ?_
           ·exact Zz Zmv (Zc 2) (Zu Zv (Zc 7) Zk)
           ·refine Ze3 ?_
            refine CW.ct ?_;refine ZfF ?_ ?_
            ·exact Zz ((Zbh hu)) (Zc 2) (Zu Zv (Zc 7) Zk)
            ·exact ZeF (Zz Zsl (Zc 3) (Zu Zv (Zc 7) Zk))
          ·exact Zn (Zaa Zig)
          ·exact Zad
         ·refine Zn ?_
          refine Zau ?_ ?_ ?_
          ·exact Zz ((Zbh hu)) (Zc 2) (Zu Zv (Zc 7) Zk)
          ·exact Zn (Zai 6 Zbc.nd (Zu Zv (Zc 7) Zk))
          ·exact Zad
       ·exact Zad
      ·exact Zn (Zaa (Zwb (Zdg ((Zgx hu)) (Zc 4) Zap) (Zj2 (Zdg ((Zbh hu)) (Zc 5) (Zc 6)))))
theorem Za9:ZaA ["roll","steps","row","number","time","word","value","boxes","deed"] ["roll","steps","row"] (Zt Zbz):=⟨rfl,rfl,rfl,by decide +kernel,rfl,by decide +kernel,by decide +kernel⟩
theorem ZgD (A:Zav K mg "_law_match_right" Zbz ["roll","steps","row"]) (T:Txt K mg):Fn3 P w K mg base 1 "_law_match_right" ["roll","steps","row"] ZbR:=
  Fn3.of (N:=["roll","steps","row","number","time","word","value","boxes","deed"]) (k:=0) A Za9 fun f cdv A outer s H E hr=>by
    have hu:=Zcy hr;unfold ZeU;refine Zi ?_ ?_
    ·refine ZhN ?_ ?_
     ·exact Zc 2
     ·exact ZfR rfl (Za1 3 Za9.nd (Za1 4 Za9.nd (Za1 5 Za9.nd (Za1 6 Za9.nd ZeC))))
    ·refine Zi ?_ ?_
     ·refine Zau ?_ ?_ ?_
      ·refine CW.ct ?_
       refine Ze5 ?_ ?_
       ·exact Zz Zmv (Zc 4) Zk
       ·refine Ze3 ?_
        refine Zz ?_ ?_ ?_
        ·exact Zqx
        ·exact Zx ZaP (Zc 4) Zk
        ·exact Zbl (id:="len") Zbu T.m_len ZaW (Zd (Zc 1) Zm)
      ·exact Zn (Zaa Zig)
      ·exact Zad
     ·refine Zi ?_ ?_
      ·exact Zai 7 Za9.nd (Zu Zv (Zu Zv (Zc 1) (Zc 4)) Zk)
      ·refine Zi ?_ ?_
       ·exact Zai 8 Za9.nd (Zu Zv (Zc 0) (Zu Zv (Zu Zv (Zc 1) (Zc 4)) Zk))
       ·refine Zi ?_ ?_
        ·refine Zau ?_ ?_ ?_
         ·refine CW.ct ?_
          refine ZfF ?_ ?_
          ·exact Zz ((Zbh hu)) (Zu Zv (Zc 8) Zk) Zap
          ·exact ZeF (Zz ((Zbh hu)) (Zc 5) Zap)
         ·refine Zn ?_
          refine Zaa ?_;refine Zkj ?_ ?_
          ·exact Zdg ((Zbh hu)) (Zu Zv (Zc 7) (Zu Zv (Zc 8) Zk)) (Zc 3)
          ·refine Zj2 ?_
           refine Zdg ?_ ?_ ?_
           ·exact (Zbh hu)
           ·refine Zu ?_ ?_ ?_
            ·exact Zv
            ·exact Zu Zv (Zu Zv (Zc 1) (Zx ZaP (Zc 4) Zk)) Zk
            ·exact Zu Zv (Zc 8) Zk
           ·exact Zc 6
         ·exact Zad
        ·refine Zi ?_ ?_
         ·refine Zau ?_ ?_ ?_
          ·refine CW.ct ?_
           refine ZfF ?_ ?_
           ·exact Zz ((Zbh hu)) (Zu Zv (Zc 8) Zk) Zap
           ·exact ZeF (Zz ((Zbh hu)) (Zc 5) Zap)
          ·refine Zn ?_
           refine Zaa ?_;refine Zkj ?_ ?_
           ·exact Zdg ((Zbh hu)) (Zu Zv (Zc 7) (Zu Zv (Zc 8) Zk)) (Zc 3)
           ·exact Zj2 (Zdg ((Zbh hu)) (Zu Zv (Zc 7) (Zu Zv (Zc 8) Zk)) (Zc 6))
          ·exact Zad
         ·exact Zn (Zaa Zig)
theorem Ze8:ZaA ["roll","boxes","steps","uses","due","wrong"] ["roll","boxes","steps","uses"] (Zt Zd5):=⟨rfl,rfl,rfl,by decide +kernel,rfl,by decide +kernel,by decide +kernel⟩
theorem ZlF (A:Zav K mg "_law_due" Zd5 ["roll","boxes","steps","uses"]) (T:Txt K mg) (F__law_steps_due:Fn3 P w K mg base 3 "_law_steps_due" ["roll","boxes","steps"] ZbO) (F__law_use_right:Fn3 P w K mg base 1 "_law_use_right" ["uses","k"] ZbP) (F__law_match_right:Fn3 P w K mg base 1 "_law_match_right" ["roll","steps","row"] ZbR):Fn3 P w K mg base 4 "_law_due" ["roll","boxes","steps","uses"] Ze1:=
  Fn3.of (N:=["roll","boxes","steps","uses","due","wrong"]) (k:=3) A Ze8 fun f cdv A outer s H E hr=>by
    have hu:=Zcy hr;unfold ZgZ;refine Zi ?_ ?_
    ·exact Zai 4 Ze8.nd (ZaH (k:=3) (ps:=["roll","boxes","steps"]) F__law_steps_due (hr.mono (by decide)) (Zd (Zc 0) (Zd (Zc 1) (Zd (Zc 2) Zm))))
    ·refine Zi ?_ ?_
     ·exact Zau (Zz ZfL (Zc 4) Zdx) (Zn (Zaa (Zc 4))) Zad
     ·refine Zi ?_ ?_
      ·refine ZeN (N':=["roll","boxes","steps","uses","due","wrong","k"]) 5 ?_ ?_ ?_ ?_ ?_ (fun C cl s H ex=>⟨?_,?_,?_⟩)
       ·exact Zdr rfl (by kernel_rfl)
       ·exact rfl
       ·exact rfl
       ·exact Ze8.nd
       ·exact Zdq T.m_range (Zbl (id:="len") Zbu T.m_len ZaW (Zd (Zc 3) Zm))
       ·exact Zdi 6 ((show Yda (["roll","boxes","steps","uses","due","wrong","k"]:List Str) by decide +kernel))
       ·exact Zgu (ZeR (ZdB (ZaH (k:=1) (ps:=["uses","k"]) F__law_use_right (hr.mono (by decide)) (Zd (Zc 3) (Zd (Zc 6) Zm)))))
       ·exact Zc 6
      ·refine Zi ?_ ?_
       ·refine Zau ?_ ?_ ?_
        ·exact Zz ((Zgx hu)) (Zc 5) (ZcA Zm)
        ·exact Zn (Zaa (Za0 (Zd Zap (Zd (Zu Zv (Zc 5) Zk) Zm))))
        ·exact Zad
       ·refine Zi ?_ ?_
        ·refine ZeN (N':=["roll","boxes","steps","uses","due","wrong","k"]) 5 ?_ ?_ ?_ ?_ ?_ (fun C cl s H ex=>⟨?_,?_,?_⟩)
         ·exact Zdr rfl (by kernel_rfl)
         ·exact rfl
         ·exact rfl
         ·exact Ze8.nd
         ·exact Zdq T.m_range (Zbl (id:="len") Zbu T.m_len ZaW (Zd (Zc 3) Zm))
         ·exact Zdi 6 ((show Yda (["roll","boxes","steps","uses","due","wrong","k"]:List Str) by decide +kernel))
         ·refine Zgu ?_
          refine ZeR ?_;refine ZdB ?_;refine ZaH (k:=1) (ps:=["roll","steps","row"]) ?_ ?_ ?_
          ·exact F__law_match_right
          ·exact hr.mono (by decide)
          ·exact Zd (Zc 0) (Zd (Zc 2) (Zd (Zu Zv (Zc 3) (Zc 6)) Zm))
         ·exact Zc 6
        ·refine Zi ?_ ?_
         ·refine Zau ?_ ?_ ?_
          ·exact Zz ((Zgx hu)) (Zc 5) (ZcA Zm)
          ·exact Zn (Zaa (Za0 (Zd Zap (Zd (Zu Zv (Zc 5) Zk) Zm))))
          ·exact Zad
         ·refine Zi ?_ ?_
          ·refine Zau ?_ ?_ ?_
           ·refine Zz ?_ ?_ ?_
            ·exact (Zgx hu)
            ·refine Zbl (id:="len") ?_ ?_ ?_ ?_
             ·exact Zbu
             ·exact T.m_len
             ·exact ZaW
             ·refine Zd ?_ ?_
              ·refine Zv0 (N':=["roll","boxes","steps","uses","due","wrong","row"]) ?_ ?_ ?_ ?_ (fun C cl s H ex=>⟨?_,?_,?_⟩)
               ·exact Zdr rfl (by kernel_rfl)
               ·exact rfl
               ·exact rfl
               ·exact Ztg (ZdW ZdZ (Zc 2) Za6 (Za5 (Znu Zjo Zk)))
               ·exact Zdi 6 ((show Yda (["roll","boxes","steps","uses","due","wrong","row"]:List Str) by decide +kernel))
               ·refine Zgu ?_
                refine Zz ?_ ?_ ?_
                ·exact (Zrv hu)
                ·exact Zu Zv (Zu Zv (Zc 0) (Zu Zv (Zc 6) Zk)) Zk
                ·exact Za0 (Zd Zap (Zd Zap Zm))
               ·exact Zc 6
              ·exact Zm
            ·exact Zbl (id:="len") Zbu T.m_len ZaW (Zd (Zc 3) Zm)
           ·refine Zn ?_
            refine Zaa ?_;exact Za0 (Zd Zap (Zd (Zbl (id:="len") Zbu T.m_len ZaW (Zd (Zc 3) Zm)) Zm))
           ·exact Zad
          ·exact Zn (Zaa Zdx)
theorem Zlq:ZaA ["found","due"] ["found","due"] (Zt Zdo):=⟨rfl,rfl,rfl,by decide +kernel,rfl,by decide +kernel,by decide +kernel⟩
theorem ZkE (A:Zav K mg "_law_same" Zdo ["found","due"]) (T:Txt K mg):Fn3 P w K mg base 1 "_law_same" ["found","due"] Zdu:=
  Fn3.of (N:=["found","due"]) (k:=0) A Zlq fun f cdv A outer s H E hr=>by
    have hu:=Zcy hr;unfold Zfg;refine Zi ?_ ?_
    ·exact Zau (Zz ZqZ (Zc 1) Zdx) (Zn (Zaa (Zdg ZqZ (Zc 0) Zdx))) Zad
    ·refine Zi ?_ ?_
     ·refine Zau ?_ ?_ ?_
      ·refine CW.ct ?_
       refine Ze5 ?_ ?_
       ·exact ZeR (ZdB (ZkZ .tuple T.m_isinstance T.m_tuple (Zc 0)))
       ·refine Ze5 ?_ ?_
        ·exact Zz ((Zgx hu)) (Zbl (id:="len") Zbu T.m_len ZaW (Zd (Zc 0) Zm)) Zk
        ·exact Ze3 (ZeR (ZdB (ZkZ .str T.m_isinstance T.m_str (Zu Zv (Zc 0) Zk))))
      ·exact Zn (Zaa Zig)
      ·exact Zad
     ·refine Zn ?_
      refine Zaa ?_;refine Zkj ?_ ?_
      ·exact ZkZ .int T.m_isinstance T.m_int (Zu Zv (Zc 0) Zk)
      ·refine Zkj ?_ ?_
       ·exact Zvd (ZkZ .bool T.m_isinstance T.m_bool (Zu Zv (Zc 0) Zk))
       ·exact Zj2 (Zdg ((Zbh hu)) (Zc 0) (Zc 1))
theorem Zd6:ZaA ["script","roll","boxes","states","steps","uses","k","cell","handed","found"] ["script"] (Zt Zg2):=⟨rfl,rfl,rfl,by decide +kernel,rfl,by decide +kernel,by decide +kernel⟩
theorem ZsL {f:Addr} {fd:FuncData} (F:Fun K "law" "law" Zg2 f fd) (T:Txt K mg) (F_fault:Fn3 P w K mg base 7 "fault" ["roll","boxes","steps","uses"] Ziy) (F__law_mix:Fn3 P w K mg base 1 "_law_mix" ["cell","k"] ZaN) (F__law_roll:Fn3 P w K mg base 3 "_law_roll" ["script"] Zee) (F__law_boxes:Fn3 P w K mg base 2 "_law_boxes" ["script"] Zez) (F__law_states:Fn3 P w K mg base 2 "_law_states" ["roll","first","most"] Zdf) (F__law_uses:Fn3 P w K mg base 1 "_law_uses" ["roll","states"] Zfc) (F__law_cell:Fn3 P w K mg base 1 "_law_cell" ["script","k"] Zbt) (F__law_tables_changed:Fn3 P w K mg base 2 "_law_tables_changed" ["roll","steps","uses","cell"] ZaO) (F__law_due:Fn3 P w K mg base 4 "_law_due" ["roll","boxes","steps","uses"] Ze1) (F__law_same:Fn3 P w K mg base 1 "_law_same" ["found","due"] Zdu):ZiV P w K mg base CX0 8 f fd ["script"] (sp3 K 1 ZnP):=
  fn3 (N:=["script","roll","boxes","states","steps","uses","k","cell","handed","found"]) (k:=7) F Zd6 fun cdv A outer s H E hr=>by
    have hu:=Zcy hr;unfold ZpE;refine Zi ?_ ?_
    ·exact Zai 1 Zd6.nd (ZaH (k:=3) (ps:=["script"]) F__law_roll (hr.mono (by decide)) (Zd (Zc 0) Zm))
    ·refine Zi ?_ ?_
     ·exact Zai 2 Zd6.nd (ZaH (k:=2) (ps:=["script"]) F__law_boxes (hr.mono (by decide)) (Zd (Zc 0) Zm))
     ·refine Zi ?_ ?_
      ·exact Zai 3 Zd6.nd (ZaH (k:=2) (ps:=["roll","first","most"]) F__law_states (hr.mono (by decide)) (Zd (Zc 1) (Zd (Zc 2) (Zd Zk Zm))))
      ·refine Zi ?_ ?_
       ·refine ZeN (N':=["script","roll","boxes","states","steps","uses","k","cell","handed","found","state"]) 4 ?_ ?_ ?_ ?_ ?_ (fun C cl s H ex=>⟨?_,?_,?_⟩)
        ·exact Zdr rfl (by kernel_rfl)
        ·exact rfl
        ·exact rfl
        ·exact Zd6.nd
        ·exact Ztg (Zc 3)
        ·exact Zdi 10 ((show Yda (["script","roll","boxes","states","steps","uses","k","cell","handed","found","state"]:List Str) by decide +kernel))
        ·exact ZnN
        ·exact Za0 (Zd (Zu Zv (Zc 10) Zk) (Zd (Zu Zv (Zc 10) Zk) Zm))
       ·refine Zi ?_ ?_
        ·refine Zai 5 ?_ ?_
         ·exact Zd6.nd
         ·refine Zdb (T:="list") ?_ ?_ ?_ ?_
          ·exact Zja
          ·exact T.m_list
          ·exact Zha
          ·exact Zd (ZaH (k:=1) (ps:=["roll","states"]) F__law_uses (hr.mono (by decide)) (Zd (Zc 1) (Zd (Zc 3) Zm))) Zm
        ·refine Zi ?_ ?_
         ·refine ZkG ?_ ?_ ?_ ?_ ?_
          ·exact rfl
          ·exact rfl
          ·refine Zdq ?_ ?_
           ·exact T.m_range
           ·refine Zx ?_ ?_ ?_
            ·exact ZbA
            ·refine ZaH (k:=1) (ps:=["cell","k"]) ?_ ?_ ?_
             ·exact F__law_mix
             ·exact hr.mono (by decide)
             ·exact Zd (ZaH (k:=1) (ps:=["script","k"]) F__law_cell (hr.mono (by decide)) (Zd (Zc 0) (Zd Zk Zm))) (Zd Zk Zm)
            ·exact Zk
          ·exact Zdi 6 Zd6.nd
          ·refine Zi ?_ ?_
           ·refine Zai 7 ?_ ?_
            ·exact Zd6.nd
            ·refine ZaH (k:=1) (ps:=["cell","k"]) ?_ ?_ ?_
             ·exact F__law_mix
             ·exact hr.mono (by decide)
             ·refine Zd ?_ ?_
              ·exact ZaH (k:=1) (ps:=["script","k"]) F__law_cell (hr.mono (by decide)) (Zd (Zc 0) (Zd (Zx ZaP Zk (Zc 6)) Zm))
              ·exact Zd (Zx ZaP Zk (Zc 6)) Zm
           ·refine Zi ?_ ?_
            ·refine Zrp ?_ ?_ ?_
             ·exact rfl
             ·exact ZaH (k:=2) (ps:=["roll","steps","uses","cell"]) F__law_tables_changed (hr.mono (by decide)) (Zd (Zc 1) (Zd (Zc 4) (Zd (Zc 5) (Zd (Zc 7) Zm))))
             ·exact Za1 4 Zd6.nd (Za1 5 Zd6.nd ZeC)
            ·refine Zn ?_
             refine Zau ?_ ?_ ?_
             ·exact Zz ((Zbh hu)) (Zx ZbA (Zx ZbB (Zc 7) Zk) Zk) Zk
             ·refine Zn ?_
              refine Zai 2 ?_ ?_
              ·exact Zd6.nd
              ·refine Zx ?_ ?_ ?_
               ·exact ZaP
               ·exact ZdW ZdZ (Zc 2) (Za5 Zk) Za6
               ·exact ZdW ZdZ (Zc 2) Za6 (Za5 Zk)
             ·exact Zad
         ·refine Zi ?_ ?_
          ·refine Zai 8 ?_ ?_
           ·exact Zd6.nd
           ·refine ZcA ?_
            refine Zd ?_ ?_
            ·exact Zdb (T:="tuple") ZcP T.m_tuple Zb5 (Zd (Zc 4) Zm)
            ·refine Zd ?_ ?_
             ·exact Zdb (T:="tuple") ZcP T.m_tuple Zb5 (Zd (Zc 5) Zm)
             ·refine Zd ?_ ?_
              ·refine Zdb (T:="tuple") ?_ ?_ ?_ ?_
               ·exact ZcP
               ·exact T.m_tuple
               ·exact Zb5
               ·exact Zd (Zdb (T:="list") Zja T.m_list Zha (Zd (Zc 1) Zm)) Zm
              ·exact Zm
          ·refine Zi ?_ ?_
           ·refine Zai 9 ?_ ?_
            ·exact Zd6.nd
            ·refine ZaH (k:=7) (ps:=["roll","boxes","steps","uses"]) ?_ ?_ ?_
             ·exact F_fault
             ·exact hr.mono (by decide)
             ·refine Zd ?_ ?_
              ·exact Zc 1
              ·refine Zd ?_ ?_
               ·exact Zc 2
               ·exact Zd (Zu Zv (Zc 8) Zk) (Zd (Zu Zv (Zc 8) Zk) Zm)
           ·refine Zi ?_ ?_
            ·refine Zau ?_ ?_ ?_
             ·refine ZeR ?_
              refine ZdB ?_;refine ZaH (k:=1) (ps:=["found","due"]) ?_ ?_ ?_
              ·exact F__law_same
              ·exact hr.mono (by decide)
              ·refine Zd ?_ ?_
               ·exact Zc 9
               ·refine Zd ?_ ?_
                ·refine ZaH (k:=4) (ps:=["roll","boxes","steps","uses"]) ?_ ?_ ?_
                 ·exact F__law_due
                 ·exact hr.mono (by decide)
                 ·refine Zd ?_ ?_
                  ·exact Zc 1
                  ·refine Zd ?_ ?_
                   ·exact Zc 2
                   ·refine Zd ?_ ?_
                    ·exact Zdb (T:="tuple") ZcP T.m_tuple Zb5 (Zd (Zc 4) Zm)
                    ·exact Zd (Zdb (T:="tuple") ZcP T.m_tuple Zb5 (Zd (Zc 5) Zm)) Zm
                ·exact Zm
             ·exact Zn (Zaa Zig)
             ·exact Zad
            ·refine Zn ?_
             refine Zaa ?_;refine Zdg ?_ ?_ ?_
             ·exact (Zbh hu)
             ·exact Zc 8
             ·refine ZcA ?_
              refine Zd ?_ ?_
              ·exact Zdb (T:="tuple") ZcP T.m_tuple Zb5 (Zd (Zc 4) Zm)
              ·exact Zd (Zdb (T:="tuple") ZcP T.m_tuple Zb5 (Zd (Zc 5) Zm)) (Zd (Zc 1) Zm)
end
end Law
set_option maxHeartbeats 200000
namespace Law
open L3
theorem ZiR (n d:Nat):sIx n d none = d:=rfl
theorem ZkT (n d k:Nat):sIx n d (some (k:Int)) = min k n:=by
 have h:¬ ((k:Int) < 0):=(fun z=>iN [_] [] 1 7211153 T1 z);simp only [sIx,if_neg h,Yav]
theorem Zf7 {α:Type} (w:List α) (k:Nat):cutD w (some (k:Int)) none = w.drop k:=by
 unfold cutD;rw [ZkT,ZiR];by_cases h:k <= w.length
 ·rw [Yf6 h,Yay (by simp)]
 ·rw [Yfq (by exact lB 1 1052737 T1 h),Yf2 (Yj _),Yf2 (by exact lB 1 1052737 T1 h)]; simp
theorem ZhO {α:Type} (w:List α) (k:Nat):cutD w none (some (k:Int)) = w.take k:=by
 unfold cutD;rw [ZkT,ZiR];by_cases h:k <= w.length
 ·rw [Yf6 h]; simp
 ·rw [Yfq (by exact lB 1 1052737 T1 h),Nat.sub_zero,Ye4,Yay (Yj _),Yay (by exact lB 1 1052737 T1 h)]
theorem Ze6 (n:Nat) (bs:List Int):below n (Zh bs) = true:=by
 unfold Zh below
 induction bs with
 | nil=>rfl
 | cons b bs ih=>simp only [Y9,belowL,below,ih,Ycu]
theorem ZuX {bs:List Int} (h:bs.length = 8) {a:Nat} (ha:a < 8):bs[a]? = some (bs.getD a 0):=by
 rw [Yau,Yo (by exact lB 2 72481667054415889 T1 ha h)]; rfl
theorem Za8 {bs:List Int} (h:bs.length = 8) {a:Nat} (ha:a < 8):∃ x,bs.getD a 0 = x /\ Zbb (bs.map D.int) (a:Int) = some (.int x):=⟨bs.getD a 0,rfl,by rw [Zcm,Y1,ZuX h ha]; rfl⟩
theorem ZgN {i j:Int} (h:-(2 ^ 64) < i /\ i < 2 ^ 64):ZbS i j = true:=by
 unfold ZbS; rw [Yca]; left; simp only [Yv,decide_eq_true_eq]; exact h
theorem mul_r {i j:Int} (h:-(2 ^ 64) < j /\ j < 2 ^ 64):ZbS i j = true:=by
 unfold ZbS; rw [Yca]; right; simp only [Yv,decide_eq_true_eq]; exact h
theorem Zc2 (x:Int) (m:Nat) (h:0 < m):∃ a:Nat,x % (m:Int) = a /\ a < m:=by
 have h1:=Ybh x (b:=(m:Int)) (by exact fun z=>iN [_] [] 2 416093702305 T1 z h);have h2:=Ybw x (b:=(m:Int)) (by exact iN [_] [] 1 149491217 T1 h);exact ⟨(x % (m:Int)).toNat,(Y5 h1).symm,by exact iN [_,_] [_] 2 18698308976785 T1 h2 (Y5 h1)⟩
theorem Zp2 {M:Store} {n:Nat} {o:MO} (h:M[n]? = some o):M.set n o = M:=by
 apply Ybb;intro j;by_cases hj:j = n
 ·subst hj; rw [Y4 (Yc.mp h).1,h]
 ·rw [Yab (Yat hj)]
theorem Znm {i:Nat} {env:ZaD} {t:List (Int × Int)} {n own:Nat} {M:Store} {c elt:E3} (hi:env[i]? = some (some (.ref n))) (hM:M[n]? = some (.dct (ZaV t))) (hz:t.length <= 100000)
  (hc:∀ p ∈ t,∀ M,Zcr M[n]? = some (ZaV t) -> c ((env ++ Yg own none).set env.length (some (.int p.1))) M = .ok (.bl (decide (p.2 ≠ 0))) M)
  (he:∀ p ∈ t,∀ M,Zcr M[n]? = some (ZaV t) -> elt ((env ++ Yg own none).set env.length (some (.int p.1))) M = .ok (Za7 p) M):
  ZmR (Za i) own (Zcj env.length) [c] elt env M = .ok (.ref M.length) (M ++ [.lst ((t.filter fun p=>decide (p.2 ≠ 0)).map Za7)]):=by
 have hlt:=(Yc.mp hM).1;have e0:Za i env M = .ok (.ref n) M:=by simp only [Za,hi]
 have ek:((ZaV t).map fun q=>keyV q.1) = t.map fun p=>D.int p.1:=by
  simp [ZaV,keyV,Function.comp_def]
 have rd:∀ x,Zcr ((M.set n (.fdct (ZaV t)) ++ [MO.lst []]).set M.length (MO.lst x))[n]? = some (ZaV t):=fun x=>by
  rw [Yab (by exact fun z=>lB 2 25787699233 T1 z hlt),Y0 (by simpa using hlt),Y4 hlt]; rfl
 have lp:=Zg7 (α:=Int × Int) (enc:=fun p=>D.int p.1) (h:=Za7) (p:=fun p=>decide (p.2 ≠ 0)) (it:=⟨(ZaV t).map fun q=>keyV q.1,none⟩) (i:=env.length) (n:=M.length) (c:=c) (elt:=elt) (env0:=env ++ Yg own none) t [] (env ++ Yg own none) (M.set n (.fdct (ZaV t)) ++ [.lst []]) (fun _=>rfl)
  (fun p hp x=>hc p hp _ (rd x)) (fun p hp _ x=>he p hp _ (rd x)) (fun _=>rfl) (by rw [Yan (by simp)]; simp) (by simp; exact lA 1 0xf42405b00186a05b001 T1 hz)
 unfold ZmR;rw [e0];simp only [R3.bind,hM];rw [show (List.map (fun q=>keyV q.fst) (ZaV t)) = t.map (fun p=>D.int p.1) from ek] at lp ⊢;rw [lp];have e1:(M.set n (.fdct (ZaV t)) ++ [MO.lst []]).set M.length (MO.lst ([] ++ (t.filter fun p=>decide (p.2 ≠ 0)).map Za7)) = M.set n (.fdct (ZaV t)) ++ [MO.lst ((t.filter fun p=>decide (p.2 ≠ 0)).map Za7)]:=by
  rw [Ygn _ _ (by simp)]; simp
 rw [e1];have e2:(M.set n (.fdct (ZaV t)) ++ [MO.lst ((t.filter fun p=>decide (p.2 ≠ 0)).map Za7)])[n]? = some (.fdct (ZaV t)):=by
  rw [Y0 (by simpa using hlt),Y4 hlt]
 simp only [e2];rw [List.set_append_left _ _ (by simpa using hlt),Yb5,Zp2 hM]
theorem ZnE {n:Nat} {t:List (Int × Int)} (hk:keysOk t) {p:Int × Int} (hp:p ∈ t) {M:Store} (h:Zcr M[n]? = some (ZaV t)):Zep (.ref n) (.int p.1) M = .ok (.int p.2) M:=by
 have hv:ZcV (ZaV t) (.inl p.1) = some (.int p.2):=by
  rw [Zmg,if_pos (Yby.mpr ⟨p,hp,by simp⟩),Zf2 hk (k:=p.1) (v:=p.2) hp]
 simp only [ZjP,h,ZiB,ZiD,hv]
theorem ZlL {t:List (Int × Int)} (h:t.length < 64):(t.filter fun p=>decide (p.2 ≠ 0)).length < 64:=Ydu (List.length_filter_le _ _) h
theorem Znc {e:E3} {env:ZaD} {M M1:Store} {t:List (Int × Int)} {n:Nat} (hk:keysOk t) (hl:t.length < 64) (h:e env M = .ok (.ref n) M1) (hn:M1[n]? = some (.lst ((t.filter fun p=>decide (p.2 ≠ 0)).map Za7))):
  Zak Zcc (Zb e Zj) env M = .ok (.ref M1.length) (M1 ++ [.lst ((Zbj t).map Za7)]):=by
 refine ZdN h ?_;simp only [ZcS,hn];rw [if_pos (Zk0 (ZlL hl)),Zmn (Zm6 (ZfA t) (ZdY hk))];rfl
theorem Zi1 (c k:Int) (h0:0 <= k) (h1:k <= 5000):∃ v:Int,∀ M,ZaN [.int c,.int k] M = .ok (.int v) M:=by
 by_cases h:c <= -1000000
 ·exact ⟨c,fun M=>by simp [ZaN,Ze4,Zw,Zaj,Zaf,sIf,Zab,Zbq,mkF,ZdS,below,belowL,ZbS,h]⟩
 ·by_cases h':(1000000:Int) <= c
  ·exact ⟨c,fun M=>by simp [ZaN,Ze4,Zw,Zaj,Zaf,sIf,Zab,Zbq,mkF,ZdS,below,belowL,ZbS,h,h']⟩
  ·have m1:ZbS 31 c = true:=ZgN (by omega)
   have m2:ZbS k k = true:=ZgN (by omega);have m3:ZbS 17 k = true:=ZgN (by omega);have m4:∀ x,ZbS (c + 1000003) x = true:=fun x=>ZgN (by omega);have q:=Ybh ((c + 1000003) * (31 * c + k * k + 17 * k + 2000033)) (b:=2147483629) (by exact fun z=>iN [] [] 1 0x6e7fffffed8ba1 T1 z);have q':=Ybw ((c + 1000003) * (31 * c + k * k + 17 * k + 2000033)) (b:=2147483629) (by exact iN [] [] 0 0x7fffffed8be9 T1);generalize hn:(c + 1000003) * (31 * c + k * k + 17 * k + 2000033) % 2147483629 = n at q q';have m5:ZbS n n = true:=ZgN (by omega);exact ⟨n * n + n / 7,fun M=>by simp [ZaN,Ze4,Zw,Zaj,Zaf,sIf,Zab,Zbq,mkF,ZdS,below,belowL,h,h',m1,m2,m3,m4,hn,m5]⟩
theorem Zkq (c:Int):∃ v:Int,∀ M,ZaY [.int c] M = .ok (.int v) M:=by
 by_cases h:c % 3 < 2
 ·exact ⟨_,fun M=>by simp [ZaY,Zde,Zw,Zaj,Zaf,sIf,Zab,Zbq,mkF,ZdS,below,belowL,ZbS,h]; rfl⟩
 ·by_cases h':c / 3 % 2 = 0
  ·exact ⟨_,fun M=>by simp [ZaY,Zde,Zw,Zaj,Zaf,sIf,Zab,Zbq,mkF,ZdS,below,belowL,ZbS,h,h']; rfl⟩
  ·exact ⟨_,fun M=>by simp [ZaY,Zde,Zw,Zaj,Zaf,sIf,Zab,Zbq,mkF,ZdS,below,belowL,ZbS,h,h']; rfl⟩
theorem ZmJ {α:Type} {enc:α -> D} {P:D -> α -> Prop} {it:It3} {i n:Nat} {elt:E3} {env0 env:ZaD} {ds acc:List D} {M:Store} (he:∀ d,env.set i (some d) = env0.set i (some d))
  (hf:∀ d ∈ ds,∃ a,P d a /\ ∀ x,elt (env0.set i (some d)) (M.set n (.lst x)) = .ok (enc a) (M.set n (.lst x))) (hl:∀ x,locked it (M.set n (.lst x)) = true) (hM:M[n]? = some (.lst acc)) (hz:acc.length + ds.length <= SZ):
  ∃ as:List α,as.length = ds.length /\ (∀ (j:Nat) d a,ds[j]? = some d -> as[j]? = some a -> P d a) /\ ZcL it (Zcj i) [] elt n ds env M = .ok (.ref n) (M.set n (.lst (acc ++ as.map enc))):=by
 obtain ⟨es,le,re,h⟩:=ZlD (it:=it) (i:=i) (n:=n) (elt:=elt) (R:=fun d e=>∃ a,e = enc a /\ P d a) (env0:=env0) ds acc env M he (fun d hd x=>by
  obtain ⟨a,pa,ha⟩:=hf d hd;exact ⟨enc a,ha _,a,rfl,pa⟩) hl hM hz
 obtain ⟨as,rfl,ps⟩:=ZiJ (enc:=enc) (P:=fun j a=>∀ d,ds[j]? = some d -> P d a) es fun j e hj=>by
  have hlt:j < ds.length:=by rw [← le]; exact (Yc.mp hj).1
  obtain ⟨a,ea,pa⟩:=re j ds[j] e (by simp [hlt]) hj;refine ⟨a,ea,fun d hd=>?_⟩;rw [Yo hlt] at hd;cases hd;exact pa
 exact ⟨as,by simpa using le,fun j d a hd ha=>ps j a ha d hd,h⟩
theorem ZmM (n:Nat) (r:Zbx):below n (Zf r) = true:=by
 unfold Zf below
 induction r with
 | nil=>rfl
 | cons x r ih=>
  simp only [Y9,belowL,ih,Yfm];cases x <;> rfl
theorem Zeb {M M':Store} {d:D} (h:M'.length = M.length):ZdS M d M' = .ok d M':=by
 unfold ZdS;rw [Yay (Ycr h)];split <;> rfl
noncomputable def Zqb:S3:=(Zw (sIf (e2 Zam (Za 5) (eC (.str [112,117,116]))) (Zaf (ZaB (Zb (Za 5) (Zb (Za 6) (Zb (Zae ZaY (Zb (e2 ZaG (Za 3) (eC (.int 8))) (Zj))) (Zj)))))) (Zab)) (Zw (sIf (e2 ZhQ (Za 5) (ZaB (Zb (eC (.str [97,100,100])) (Zb (eC (.str [115,117,98])) (Zb (eC (.str [109,111,114,101])) (Zj)))))) (Zaf (ZaB (Zb (Za 5) (Zb (Za 6) (Zb (Za 7) (Zb (Za 8) (Zj))))))) (Zab)) (Zw (sIf (e2 Zam (Za 5) (eC (.str [106,117,109,112]))) (Zaf (ZaB (Zb (Za 5) (Zb (Za 9) (Zj))))) (Zab)) (Zw (sIf (e2 Zam (Za 5) (eC (.str [119,104,101,110]))) (Zaf (ZaB (Zb (Za 5) (Zb (Za 6) (Zb (Za 9) (Zj)))))) (Zab)) (Zaf (e2 Ze (ZbT (Zb (ZaB (Zb (Za 5) (Zb (Za 6) (Zb (Za 7) (Zj))))) (Zb (ZaB (Zb (Za 5) (Zb (Za 6) (Zj)))) (Zj)))) (Zak Zh8 (Zb (e2 Zam (Za 5) (eC (.str [116,101,108,108]))) (Zj)))))))))
theorem Zwx {M:Store} {x:MO}:(M ++ [x])[M.length]? = some x:=ZaQ _ _ _
noncomputable abbrev Zmm (cell A m p:Int) (x4:Option D) (kd:List Nat) (a b d q:Nat):ZaD:=[some (.int cell),some (.int A),some (.int m),some (.int p),x4,some (.str kd),some (.int a),some (.int b),some (.int d),some (.int q)]
section
variable {cell A m p:Int} {x4:Option D} {kd w:List Nat} {a b d q:Nat} {M:Store}
theorem skA (h:(kd == w) = false):e2 Zam (Za 5) (eC (.str w)) (Zmm cell A m p x4 kd a b d q) M = .ok (.bl false) M:=by
 show (match (some (decide (kd = w)):Option Bool) with | some r=>(.ok (.bl r) M:R3 D) | none=>.bad) = _;rw [decide_eq_false (by simpa using h)]
theorem tkA:e2 Zam (Za 5) (eC (.str kd)) (Zmm cell A m p x4 kd a b d q) M = .ok (.bl true) M:=by
 show (match (some (decide (kd = kd)):Option Bool) with | some r=>(.ok (.bl r) M:R3 D) | none=>.bad) = _;rw [decide_eq_true rfl]
theorem inA:e2 ZhQ (Za 5) (ZaB (Zb (eC (.str [97,100,100])) (Zb (eC (.str [115,117,98])) (Zb (eC (.str [109,111,114,101])) (Zj))))) (Zmm cell A m p x4 kd a b d q) M = .ok (.bl ([97,100,100] == kd || ([115,117,98] == kd || [109,111,114,101] == kd))) M:=by
 simp [Zmm,ZcN,Zht,Zg6,Zg9,Zhk,Zgh]
theorem Zpz {t:Bool} {r:D} (h:(decide (kd = [116,101,108,108])) = t) (hr:Zbb [.tup [.str kd,.int a,.int b],.tup [.str kd,.int a]] (if t then 1 else 0) = some r) (h1:(kd == [112,117,116]) = false) (h2:([97,100,100] == kd || ([115,117,98] == kd || [109,111,114,101] == kd)) = false) (h3:(kd == [106,117,109,112]) = false) (h4:(kd == [119,104,101,110]) = false):
  Zqb (Zmm cell A m p x4 kd a b d q) M = .rt r (M ++ [.lst [.tup [.str kd,.int a,.int b],.tup [.str kd,.int a]]]):=by
 refine (Zg (Zo (skA h1))).trans ((Zg (Zo (inA.trans (by rw [h2])))).trans ((Zg (Zo (skA h3))).trans ((Zg (Zo (skA h4))).trans (Zaq (Zac (a:=.ref M.length) (b:=.int (if t then 1 else 0)) (M1:=M ++ [.lst [.tup [.str kd,.int a,.int b],.tup [.str kd,.int a]]]) (by simp [Zmm]) (by subst h; rfl) ?_)))));simp only [ZaT,ZaU,ZaS,ZaL,Zwx,hr]
end
theorem ZpN (cell A m p v:Int) (a b d q many:Nat) (kd:List Nat) (hv:∀ M,ZaY [.int (p / 8)] M = .ok (.int v) M) (la:a < 8) (lb:b < 8) (ld:d < 8) (lq:q < many) (hk:kd = [112,117,116] \/ kd = [97,100,100] \/ kd = [115,117,98] \/ kd = [109,111,114,101] \/ kd = [103,101,116] \/ kd = [115,101,116] \/ kd = [106,117,109,112] \/ kd = [119,104,101,110] \/ kd = [116,101,108,108]):
  ∃ r:Row,r.ok many /\ ∀ (x4:Option D) (M:Store),∃ G,Zqb (Zmm cell A m p x4 kd a b d q) M = .rt (Zq r) (M ++ G):=by
 rcases hk with h | h | h | h | h | h | h | h | h <;> subst h
 ·refine ⟨.put a v,la,fun x4 M=>⟨[],?_⟩⟩
  rw [Yp];exact Zah ((Zas tkA).trans (Zaq (by simp [Zmm,hv,Zq])))
 ·exact ⟨.add a b d,⟨la,lb,ld⟩,fun x4 M=>⟨[],by rw [Yp]; exact (Zg (Zo (skA rfl))).trans (Zah ((Zas inA).trans (Zaq (ZcO rfl rfl))))⟩⟩
 ·exact ⟨.sub a b d,⟨la,lb,ld⟩,fun x4 M=>⟨[],by rw [Yp]; exact (Zg (Zo (skA rfl))).trans (Zah ((Zas inA).trans (Zaq (ZcO rfl rfl))))⟩⟩
 ·exact ⟨.more a b d,⟨la,lb,ld⟩,fun x4 M=>⟨[],by rw [Yp]; exact (Zg (Zo (skA rfl))).trans (Zah ((Zas inA).trans (Zaq (ZcO rfl rfl))))⟩⟩
 ·exact ⟨.get a b,⟨la,lb⟩,fun x4 M=>⟨_,Zpz (t:=false) (by decide) rfl rfl rfl rfl rfl⟩⟩
 ·exact ⟨.set a b,⟨la,lb⟩,fun x4 M=>⟨_,Zpz (t:=false) (by decide) rfl rfl rfl rfl rfl⟩⟩
 ·exact ⟨.jump q,lq,fun x4 M=>⟨[],by rw [Yp]; exact (Zg (Zo (skA rfl))).trans ((Zg (Zo inA)).trans (Zah ((Zas tkA).trans (Zaq (ZcO rfl rfl)))))⟩⟩
 ·exact ⟨.when a q,⟨la,lq⟩,fun x4 M=>⟨[],by rw [Yp]; exact (Zg (Zo (skA rfl))).trans ((Zg (Zo inA)).trans ((Zg (Zo (skA rfl))).trans (Zah ((Zas tkA).trans (Zaq (ZcO rfl rfl))))))⟩⟩
 ·exact ⟨.tell a,la,fun x4 M=>⟨_,Zpz (t:=true) (by decide) rfl rfl rfl rfl rfl⟩⟩
theorem Zq7 (cell c A m:Int) (many:Nat) (hmix:∀ M,ZaN [.int cell,.int A] M = .ok (.int c) M) (h0:0 <= A) (h1:A < m) (hm:m = many):∃ r:Row,r.ok (many + 1) /\ ∀ M,Zct [.int cell,.int A,.int m] M = .ok (Zq r) M:=by
 obtain ⟨a,ha,la⟩:∃ a:Nat,c / 16 % 8 = a /\ a < 8:=⟨(c / 16 % 8).toNat,Yb9 ((Ya8 _)) (Ycc (Y5 ((Ybh _ (by decide))))),by exact iN [_] [_] 2 0x81b01008a181b091 T1 (Ybw _ (by decide)) (Y5 ((Ybh _ (by decide))))⟩;obtain ⟨b,hb,lb⟩:∃ a:Nat,c / 16 / 8 % 8 = a /\ a < 8:=⟨(c / 16 / 8 % 8).toNat,Yb9 ((Ya8 _)) (Ycc (Y5 ((Ybh _ (by decide))))),by exact iN [_] [_] 2 0x81b01008a181b091 T1 (Ybw _ (by decide)) (Y5 ((Ybh _ (by decide))))⟩;obtain ⟨d,hd,ld⟩:∃ a:Nat,c / 16 / 64 % 8 = a /\ a < 8:=⟨(c / 16 / 64 % 8).toNat,Yb9 ((Ya8 _)) (Ycc (Y5 ((Ybh _ (by decide))))),by exact iN [_] [_] 2 0x81b01008a181b091 T1 (Ybw _ (by decide)) (Y5 ((Ybh _ (by decide))))⟩;obtain ⟨v,hv⟩:=Zkq (c / 16 / 8);have p1:0 < m - A:=by exact iN [] [_,_] 1 535367825 T1 h1
 have p2:0 < m + 1:=by exact iN [_] [_] 1 690660343985 T1 hm
 have b1:=Ybh (c / 16 / 32) (b:=m - A) (by exact fun z=>iN [] [_,_] 2 0x610fe91e10fa1 T1 z p1);have b2:=Ybw (c / 16 / 32) p1;have b3:=Ybh (c / 16 / 32) (b:=m + 1) (by exact fun z=>iN [] [_] 2 0x6a0ce91ea0ca1 T1 z p2);have b4:=Ybw (c / 16 / 32) p2;obtain ⟨q,hq,lq⟩:∃ q:Nat,(if c / 16 / 8 % 4 = 0 then c / 16 / 32 % (m + 1) else A + 1 + c / 16 / 32 % (m - A)) = (q:Int) /\ q < many + 1:=by
  split
  ·exact ⟨(c / 16 / 32 % (m + 1)).toNat,Yb9 ((Ya8 _)) (Ycc (Y5 b3)),by exact iN [_,_] [_,_] 3 0xa0c11018a1081a1a1c091 T1 b4 hm (Y5 b3)⟩
  ·exact ⟨(A + 1 + c / 16 / 32 % (m - A)).toNat,by exact Yb9 ((Ya8 _)) (Ycc (Y5 (iN [] [_,_] 2 0xa1cce81e810e81 T1 b1 h0))),by exact iN [_,_] [_,_,_] 3 0xa0c110a2cc18a1081a121f091 T1 b2 hm (Y5 (iN [] [_,_] 2 0xa1cce81e810e81 T1 b1 h0))⟩
 clear b1 b2 b3 b4 hm;obtain ⟨kd,hkd,hk⟩:∃ kd:List Nat,Zbb ([D.str [112,117,116],D.str [112,117,116],D.str [97,100,100],D.str [115,117,98],D.str [109,111,114,101],D.str [103,101,116],D.str [103,101,116],D.str [103,101,116],D.str [115,101,116],D.str [115,101,116],D.str [115,101,116],D.str [115,101,116],D.str [106,117,109,112],D.str [119,104,101,110],D.str [119,104,101,110],D.str [116,101,108,108]]) (c % 16) = some (D.str kd) /\ (kd = [112,117,116] \/ kd = [97,100,100] \/ kd = [115,117,98] \/ kd = [109,111,114,101] \/ kd = [103,101,116] \/ kd = [115,101,116] \/ kd = [106,117,109,112] \/ kd = [119,104,101,110] \/ kd = [116,101,108,108]):=by
  obtain ⟨k16,hk16,lk16⟩:=Zc2 c 16 (lN [] 0 1059809 rfl);rw [show c % 16 = (k16:Int) from hk16]
  match k16,lk16 with
  | 0,_=>exact ⟨_,rfl,by decide⟩
  | 1,_=>exact ⟨_,rfl,by decide⟩
  | 2,_=>exact ⟨_,rfl,by decide⟩
  | 3,_=>exact ⟨_,rfl,by decide⟩
  | 4,_=>exact ⟨_,rfl,by decide⟩
  | 5,_=>exact ⟨_,rfl,by decide⟩
  | 6,_=>exact ⟨_,rfl,by decide⟩
  | 7,_=>exact ⟨_,rfl,by decide⟩
  | 8,_=>exact ⟨_,rfl,by decide⟩
  | 9,_=>exact ⟨_,rfl,by decide⟩
  | 10,_=>exact ⟨_,rfl,by decide⟩
  | 11,_=>exact ⟨_,rfl,by decide⟩
  | 12,_=>exact ⟨_,rfl,by decide⟩
  | 13,_=>exact ⟨_,rfl,by decide⟩
  | 14,_=>exact ⟨_,rfl,by decide⟩
  | 15,_=>exact ⟨_,rfl,by decide⟩
  | k + 16,h=>exact absurd h (Nat.not_lt.mpr (Ygs 16 k))
 have head:∀ M,ZfK [some (.int cell),some (.int A),some (.int m),none,none,none,none,none,none,none] M = (Zw (sIf (e2 Zam (e2 Zaz (Za 3) (eC (.int 41))) (eC (.int 7))) (Zaf (ZaB (Zb (eC (.str [104,97,108,116])) (Zj)))) (Zab)) (Zw (Zaj 6 (e2 Zaz (Za 3) (eC (.int 8)))) (Zw (Zaj 7 (e2 Zaz (e2 ZaG (Za 3) (eC (.int 8))) (eC (.int 8)))) (Zw (Zaj 8 (e2 Zaz (e2 ZaG (Za 3) (eC (.int 64))) (eC (.int 8)))) (Zw (Zaj 9 (e2 Zag (e2 Zag (Za 1) (eC (.int 1))) (e2 Zaz (e2 ZaG (Za 3) (eC (.int 32))) (e2 ZbG (Za 2) (Za 1))))) (Zw (sIf (e2 Zam (e2 Zaz (e2 ZaG (Za 3) (eC (.int 8))) (eC (.int 4))) (eC (.int 0))) (Zaj 9 (e2 Zaz (e2 ZaG (Za 3) (eC (.int 32))) (e2 Zag (Za 2) (eC (.int 1))))) (Zab)) Zqb)))))) [some (.int cell),some (.int A),some (.int m),some (.int (c / 16)),some (.ref M.length),some (.str kd),none,none,none,none] (M ++ [.lst [D.str [112,117,116],D.str [112,117,116],D.str [97,100,100],D.str [115,117,98],D.str [109,111,114,101],D.str [103,101,116],D.str [103,101,116],D.str [103,101,116],D.str [115,101,116],D.str [115,101,116],D.str [115,101,116],D.str [115,101,116]],.lst [D.str [106,117,109,112],D.str [119,104,101,110],D.str [119,104,101,110],D.str [116,101,108,108]],.lst ([D.str [112,117,116],D.str [112,117,116],D.str [97,100,100],D.str [115,117,98],D.str [109,111,114,101],D.str [103,101,116],D.str [103,101,116],D.str [103,101,116],D.str [115,101,116],D.str [115,101,116],D.str [115,101,116],D.str [115,101,116],D.str [106,117,109,112],D.str [119,104,101,110],D.str [119,104,101,110],D.str [116,101,108,108]])]):=fun M=>by
  unfold ZfK;rw [Zg (Zy (M':=M) (d:=.int c) (by simp [hmix]))];rw [Zg (Zy (M':=M ++ [.lst [D.str [112,117,116],D.str [112,117,116],D.str [97,100,100],D.str [115,117,98],D.str [109,111,114,101],D.str [103,101,116],D.str [103,101,116],D.str [103,101,116],D.str [115,101,116],D.str [115,101,116],D.str [115,101,116],D.str [115,101,116]]]) (d:=.ref M.length) (by simp))];rw [Zg (Zy (M':=M ++ [.lst [D.str [112,117,116],D.str [112,117,116],D.str [97,100,100],D.str [115,117,98],D.str [109,111,114,101],D.str [103,101,116],D.str [103,101,116],D.str [103,101,116],D.str [115,101,116],D.str [115,101,116],D.str [115,101,116],D.str [115,101,116]],.lst [D.str [106,117,109,112],D.str [119,104,101,110],D.str [119,104,101,110],D.str [116,101,108,108]],.lst ([D.str [112,117,116],D.str [112,117,116],D.str [97,100,100],D.str [115,117,98],D.str [109,111,114,101],D.str [103,101,116],D.str [103,101,116],D.str [103,101,116],D.str [115,101,116],D.str [115,101,116],D.str [115,101,116],D.str [115,101,116],D.str [106,117,109,112],D.str [119,104,101,110],D.str [119,104,101,110],D.str [116,101,108,108]])]) (d:=.str kd) (by simp [hkd]))];rw [Zg (Zy (M':=M ++ [.lst [D.str [112,117,116],D.str [112,117,116],D.str [97,100,100],D.str [115,117,98],D.str [109,111,114,101],D.str [103,101,116],D.str [103,101,116],D.str [103,101,116],D.str [115,101,116],D.str [115,101,116],D.str [115,101,116],D.str [115,101,116]],.lst [D.str [106,117,109,112],D.str [119,104,101,110],D.str [119,104,101,110],D.str [116,101,108,108]],.lst ([D.str [112,117,116],D.str [112,117,116],D.str [97,100,100],D.str [115,117,98],D.str [109,111,114,101],D.str [103,101,116],D.str [103,101,116],D.str [103,101,116],D.str [115,101,116],D.str [115,101,116],D.str [115,101,116],D.str [115,101,116],D.str [106,117,109,112],D.str [119,104,101,110],D.str [119,104,101,110],D.str [116,101,108,108]])]) (d:=.int (c / 16)) (by simp))];rfl
 by_cases hh:c / 16 % 41 = 7
 ·refine ⟨.halt,trivial,fun M=>?_⟩
  exact (ZdC (M':=M ++ [.lst [D.str [112,117,116],D.str [112,117,116],D.str [97,100,100],D.str [115,117,98],D.str [109,111,114,101],D.str [103,101,116],D.str [103,101,116],D.str [103,101,116],D.str [115,101,116],D.str [115,101,116],D.str [115,101,116],D.str [115,101,116]],.lst [D.str [106,117,109,112],D.str [119,104,101,110],D.str [119,104,101,110],D.str [116,101,108,108]],.lst ([D.str [112,117,116],D.str [112,117,116],D.str [97,100,100],D.str [115,117,98],D.str [109,111,114,101],D.str [103,101,116],D.str [103,101,116],D.str [103,101,116],D.str [115,101,116],D.str [115,101,116],D.str [115,101,116],D.str [115,101,116],D.str [106,117,109,112],D.str [119,104,101,110],D.str [119,104,101,110],D.str [116,101,108,108]])]) (d:=Zq .halt) ((head M).trans (by simp [Zw,sIf,Zaf,hh,Zq]))).trans (Zjc rfl)
 ·obtain ⟨r,ok,hr⟩:=ZpN cell A m (c / 16) v a b d q (many + 1) kd hv la lb ld lq hk
  refine ⟨r,ok,fun M=>?_⟩;obtain ⟨M3,hM3⟩:∃ M3:Store,M3 = [.lst [D.str [112,117,116],D.str [112,117,116],D.str [97,100,100],D.str [115,117,98],D.str [109,111,114,101],D.str [103,101,116],D.str [103,101,116],D.str [103,101,116],D.str [115,101,116],D.str [115,101,116],D.str [115,101,116],D.str [115,101,116]],.lst [D.str [106,117,109,112],D.str [119,104,101,110],D.str [119,104,101,110],D.str [116,101,108,108]],.lst ([D.str [112,117,116],D.str [112,117,116],D.str [97,100,100],D.str [115,117,98],D.str [109,111,114,101],D.str [103,101,116],D.str [103,101,116],D.str [103,101,116],D.str [115,101,116],D.str [115,101,116],D.str [115,101,116],D.str [115,101,116],D.str [106,117,109,112],D.str [119,104,101,110],D.str [119,104,101,110],D.str [116,101,108,108]])]:=⟨_,rfl⟩;have hd':=head M;rw [← hM3] at hd';obtain ⟨G,hG⟩:=hr (some (.ref M.length)) (M ++ M3);refine (ZdC (M':=M ++ (M3 ++ G)) (d:=Zq r) (hd'.trans ?_)).trans (Zjc (by cases r <;> rfl));rw [Zg (Zo (M':=M ++ M3) (by simp [hh]))];rw [Zg (Zy (M':=M ++ M3) (d:=.int a) (by simp [ha]))];rw [Zg (Zy (M':=M ++ M3) (d:=.int b) (by simp [hb]))];rw [Zg (Zy (M':=M ++ M3) (d:=.int d) (by simp [hd]))];rw [Zg (Zy (M':=M ++ M3) (d:=.int (A + 1 + c / 16 / 32 % (m - A))) (by simp [h1]))];rw [← Yao,← hG];refine Zg ?_;by_cases z:c / 16 / 8 % 4 = 0
  ·rw [if_pos z] at hq
   rw [Zas (M':=M ++ M3) (by simp [z])];exact Zy (d:=.int q) (by simp [p2,hq])
  ·rw [if_neg z] at hq
   rw [Zo (M':=M ++ M3) (by simp [z]),hq]
theorem Zs6 (cell:Int) (j many:Nat) (hat:j < many) (hm:many <= 64):∃ r:Row,r.ok (many + 1) /\ ∀ M,Zct [.int cell,.int j,.int many] M = .ok (Zq r) M:=by
 obtain ⟨c,hc⟩:=Zi1 cell j (Ybd _) (by exact iN [_,_] [] 2 0x13884b1880111402b001 T1 hm hat);exact Zq7 cell c j many many hc (Ybd _) (Yb3.2 hat) rfl
theorem Zq4 {n j:Nat} {v:D} {M:Store} {xs:List D} {i:Int} (h:M[n]? = some (.lst xs)) (hj:ixD xs.length i = some j):ZiO v (.ref n) (.int i) M = .ok .non (M.set n (.lst (xs.set j v))):=by simp only [Zfk,h,hj]
theorem Zui {op:D -> D -> D -> Store -> R3 D} {f g h:E3} {env:ZaD} {M M1 M2 M3 M4:Store} {a b c d:D} (h1:f env M = .ok a M1) (h2:g env M1 = .ok b M2) (h3:h env M2 = .ok c M3) (h4:op a b c M3 = .ok d M4):e3 op f g h env M = .ok d M4:=by simp only [e3,h1,h2,h3,h4,R3.bind]
theorem ZvK {a b:Int} {M:Store} (h:b < a):ZgB (.int a) (.int b) M = .ok (.bl true) M:=by simp only [Zn9,decide_eq_true h]
theorem Zmf {d0 d1 d4:Option D} {last:Row} {rows:List Row} {n:Nat} {M:Store} (g:M[n]? = some (.lst (rows.map Zq))) (hz:rows.length <= 60):(Zaf (Zak ZaZ (Zb (e2 Zag (Za 2) (ZbT (Zb (Za 3) (Zj)))) (Zj)))) [d0,d1,some (.ref n),some (Zq last),d4] M = .rt (Zf (rows ++ [last])) (M ++ [.lst [Zq last],.lst ((rows ++ [last]).map Zq)]):=by
 have g':=Zbn g [.lst [Zq last]];have z:rows.length + 1 <= 1000000:=lA 1 0xf42405ba0c03c2b001 T1 hz;refine Zaq (ZdN (Zac (a:=.ref n) (b:=.ref M.length) (M1:=M) (M2:=M ++ [.lst [Zq last]]) rfl (by simp) (M3:=M ++ [.lst [Zq last],.lst ((rows ++ [last]).map Zq)]) (d:=.ref (M ++ [MO.lst [Zq last]]).length) ?_) (Zk6 ?_))
 ·simp only [Zco,Zcq,Zcl,Zcp,g',ZaQ]
  simp [z]
 ·rw [Yaj]; exact ZaX _ _ 1
theorem Zrc (ns:List Int) (M:Store):∃ roll:Zbx,roll.length <= 61 /\ ZbX roll /\ Zee [.scr (ns.map D.int)] M = .ok (Zf roll) M:=by
 have ecs:cutD (ns.map D.int) none (some 60) = (ns.take 60).map D.int:=by
  have:=ZhO (ns.map D.int) 60;rw [← Yfo] at this;exact this
 generalize hcs:ns.take 60 = cs at ecs;have lcs:cs.length <= 60:=by rw [← hcs]; simp; exact (Ybq _ _)
 obtain ⟨rows,lr,hr,h4⟩:=ZmJ (α:=Row) (enc:=Zq) (P:=fun _ r=>r.ok (cs.length + 1)) (it:=⟨Zdl 0 cs.length,none⟩) (i:=5) (n:=M.length + 1) (elt:=(Zae Zct (Zb (e2 Ze (Za 1) (Za 5)) (Zb (Za 5) (Zb (Zak ZaR (Zb (Za 1) (Zj))) (Zj))))))
  (env0:=[some (.scr (ns.map D.int)),some (.ref M.length),none,none,none,none]) (env:=[some (.scr (ns.map D.int)),some (.ref M.length),none,none,none,none]) (ds:=Zdl 0 cs.length) (acc:=[]) (M:=M ++ [.lst (cs.map D.int),.lst []]) (fun _=>rfl)
  (fun d hd=>by
   obtain ⟨j,hj⟩:=Yb0 hd;obtain ⟨rfl,lj⟩:=Zg8 hj;obtain ⟨r,ok,h⟩:=Zs6 cs[j] j cs.length lj (lA 1 0x402b003c2b001 T1 lcs);exact ⟨r,ok,fun x=>by
    have hM2:((M ++ [MO.lst (cs.map D.int),MO.lst []]).set (M.length + 1) (.lst x))[M.length]? = some (.lst (cs.map D.int)):=by
     rw [Zfa]; simp
    generalize (M ++ [MO.lst (cs.map D.int),MO.lst []]).set (M.length + 1) (.lst x) = M2 at hM2;have e1:(e2 Ze (Za 1) (Za 5)) [some (.scr (ns.map D.int)),some (.ref M.length),none,none,none,some (.int (j:Int))] M2 = .ok (.int cs[j]) M2:=by simp [lj,hM2]
    have e2:(Zak ZaR (Zb (Za 1) (Zj))) [some (.scr (ns.map D.int)),some (.ref M.length),none,none,none,some (.int (j:Int))] M2 = .ok (.int (cs.length:Int)) M2:=by simp [hM2]
    show Zae Zct _ [some (.scr (ns.map D.int)),some (.ref M.length),none,none,none,some (.int (j:Int))] M2 = _;exact Zb8 e1 rfl e2 (h M2)⟩)
  (fun x=>rfl) (by rw [ZaX]; rfl) (by simp [Zg5]; exact lA 1 0xf42405b003c2b001 T1 lcs)
 have lrows:rows.length = cs.length:=by rw [Zg5] at lr; exact lr
 have hrows:∀ x ∈ rows,x.ok (cs.length + 1):=fun x hx=>by
  obtain ⟨j,hj⟩:=Yb0 hx;have:j < (Zdl 0 cs.length).length:=by rw [← lr]; exact (Yc.mp hj).1
  exact hr j (Zdl 0 cs.length)[j] x (by simp [this]) hj
 have s1:(eSl (Za 0) (ZaE) (ZaI (eC (.int 60)))) [some (.scr (ns.map D.int)),none,none,none,none] M = .ok (.ref M.length) (M ++ [.lst (cs.map D.int)]):=by simp [ecs]
 have s2:(eLC (ZbJ (Zak ZaR (Zb (Za 1) (Zj)))) 1 (Zcj 5) [] (Zae Zct (Zb (e2 Ze (Za 1) (Za 5)) (Zb (Za 5) (Zb (Zak ZaR (Zb (Za 1) (Zj))) (Zj)))))) [some (.scr (ns.map D.int)),some (.ref M.length),none,none,none] (M ++ [.lst (cs.map D.int)]) = .ok (.ref (M.length + 1)) (M ++ [.lst (cs.map D.int),.lst (rows.map Zq)]):=by
  rw [Zna (it:=⟨Zdl 0 cs.length,none⟩) (M':=M ++ [.lst (cs.map D.int)]) (by
   have:((cs.length:Int)) <= 1000000 /\ -1000000 <= (cs.length:Int):=by exact ⟨iN [_] [] 1 0xf42405b0883c2b001 T1 lcs,iN [_] [] 0 615291837336 T1⟩
   simp [this])]
  have e:(M ++ [MO.lst (cs.map D.int)]).length = M.length + 1:=by simp
  rw [e,Yao];refine Ydt h4 ?_;rw [Zfa]; rfl
 have fin:∀ (rows':List Row) (last:Row),rows'.length = cs.length -> (∀ x ∈ rows',x.ok (cs.length + 1)) -> last.ok (cs.length + 1) -> (last = .halt \/ ∃ k,last = .jump k) -> (∃ G,Zef [some (.scr (ns.map D.int)),none,none,none,none] M = .rt (Zf (rows' ++ [last])) (M ++ G)) ->
   ∃ roll:Zbx,roll.length <= 61 /\ ZbX roll /\ Zee [.scr (ns.map D.int)] M = .ok (Zf roll) M:=fun rows' last l' ro lo ll ⟨G,h⟩=>by
  refine ⟨rows' ++ [last],by simp [l']; exact lcs,⟨fun x hx=>?_,rows',last,rfl,ll⟩,Rt.pure h (ZmM _ _)⟩;rw [Yaj,Yc4,l'];rcases Ybe.mp hx with hx | hx
  ·exact ro x hx
  ·rw [Yds.mp hx]; exact lo
 have pre:∀ {k:S3},Zef = Zw (Zaj 1 (eSl (Za 0) (ZaE) (ZaI (eC (.int 60))))) (Zw (Zaj 2 (eLC (ZbJ (Zak ZaR (Zb (Za 1) (Zj)))) 1 (Zcj 5) [] (Zae Zct (Zb (e2 Ze (Za 1) (Za 5)) (Zb (Za 5) (Zb (Zak ZaR (Zb (Za 1) (Zj))) (Zj))))))) k) ->
   Zef [some (.scr (ns.map D.int)),none,none,none,none] M = k [some (.scr (ns.map D.int)),some (.ref M.length),some (.ref (M.length + 1)),none,none] (M ++ [.lst (cs.map D.int),.lst (rows.map Zq)]):=fun {k} e=>by
  rw [e,Zg (Zy s1),Zg (Zy s2)]
 have pre':=pre rfl;rw [pre'] at fin;clear pre pre' s1 s2 h4;have g0:(M ++ [MO.lst (cs.map D.int),.lst (rows.map Zq)])[M.length]? = some (.lst (cs.map D.int)):=ZaQ _ _ _;have g1:(M ++ [MO.lst (cs.map D.int),.lst (rows.map Zq)])[M.length + 1]? = some (.lst (rows.map Zq)):=ZaX _ _ 1;by_cases hq:∃ p0:0 < cs.length,cs[0] % 4 = 1
 ·obtain ⟨p0,q1⟩:=hq
  obtain ⟨n,hn⟩:=Zi1 cs[0] 61 (by exact iN [] [] 0 4008936 T1) (by exact iN [] [] 0 1342256173752 T1);obtain ⟨a,ha,la⟩:=Zc2 n cs.length p0;obtain ⟨k,hk,lk⟩:=Zc2 (n / 64) (cs.length + 1) (lA 0 658657 T1);have hk':n / 64 % ((cs.length:Int) + 1) = k:=by rw [← hk]; rfl
  refine fin (rows.set a .halt) (.jump k) (by simp [lrows]) (fun x hx=>?_) lk (.inr ⟨k,rfl⟩) ⟨[.lst (cs.map D.int),.lst ((rows.set a .halt).map Zq),.lst [Zq (.jump k)],.lst ((rows.set a .halt ++ [Row.jump k]).map Zq)],?_⟩
  ·rcases List.mem_or_eq_of_mem_set hx with h | h
   ·exact hrows x h
   ·rw [h]; trivial
  ·have p0':(0:Int) < cs.length:=by exact iN [_,_] [] 1 417927185 T1 la
   have p1':(0:Int) < (cs.length:Int) + 1:=by exact iN [_] [] 0 10521833 T1
   have hg:Zbb (cs.map D.int) 0 = some (.int cs[0]):=by simp [p0]
   have i0:∀ d3 d4:Option D,(e2 Ze (Za 1) (eC (.int 0))) [some (.scr (ns.map D.int)),some (.ref M.length),some (.ref (M.length + 1)),d3,d4] (M ++ [.lst (cs.map D.int),.lst (rows.map Zq)]) = .ok (.int cs[0]) (M ++ [.lst (cs.map D.int),.lst (rows.map Zq)]):=fun d3 d4=>Zac rfl rfl (Zli g0 hg);have el:(rows.map Zq).length = cs.length:=by rw [Yac,lrows]
   have ej:ixD (rows.map Zq).length (n % ((rows.map Zq).length:Int)) = some a:=by rw [el,ha]; simp [la]
   have m1:(M ++ [MO.lst (cs.map D.int),.lst (rows.map Zq)]).set (M.length + 1) (.lst ((rows.map Zq).set a (Zq .halt))) = M ++ [.lst (cs.map D.int),.lst ((rows.set a .halt).map Zq)]:=by rw [Zfa,Ygv]; rfl
   have g2:(M ++ [MO.lst (cs.map D.int),.lst ((rows.set a .halt).map Zq)])[M.length + 1]? = some (.lst ((rows.set a .halt).map Zq)):=ZaX _ _ 1;have el2:((rows.set a .halt).map Zq).length = cs.length:=by rw [Yac,Yek,lrows]
   refine (Zg (Zy (d:=Zq .halt) (ZcO rfl rfl))).trans ?_;have pu:=Zfl (Zui (op:=ZiO) (f:=Za 3) (g:=Za 2) (h:=e2 Zaz (Za 4) (Zak ZaR (Zb (Za 2) (Zj)))) (env:=[some (.scr (ns.map D.int)),some (.ref M.length),some (.ref (M.length + 1)),some (Zq .halt),some (.int n)]) rfl rfl (Zac rfl (ZdN rfl (Zfy g1)) (ZgP (by rw [el]; exact p0'))) (Zq4 g1 ej));rw [m1] at pu;have jm:(ZaB (Zb (eC (.str [106,117,109,112])) (Zb (e2 Zaz (e2 ZaG (Za 4) (eC (.int 64))) (e2 Zag (Zak ZaR (Zb (Za 2) (Zj))) (eC (.int 1)))) (Zj)))) [some (.scr (ns.map D.int)),some (.ref M.length),some (.ref (M.length + 1)),some (Zq .halt),some (.int n)] (M ++ [.lst (cs.map D.int),.lst ((rows.set a .halt).map Zq)]) = .ok (Zq (.jump k)) (M ++ [.lst (cs.map D.int),.lst ((rows.set a .halt).map Zq)]):=by
    refine ZcO (Za4 rfl (Za4 (Zac (a:=.int (n / 64)) (b:=.int ((cs.length:Int) + 1)) (Zac rfl rfl (by simp)) (Zac (ZdN rfl (Zfy g2)) rfl (by rw [el2]; rfl)) ?_) rfl)) rfl;rw [← hk']; exact ZgP p1'
   refine (Zg ((Zas ((ZgY (Zac (ZdN rfl (Zfy g0)) rfl (ZvK (by rw [Yac]; exact p0')))).trans (Zac (Zac (i0 _ _) rfl (ZgP (by decide))) rfl (Zwp q1)))).trans ((Zg (Zy (Zck (i0 _ _) rfl (hn _)))).trans ((Zg pu).trans (Zy jm))))).trans ?_;refine (Zmf g2 (by rw [Yek,lrows]; exact lcs)).trans ?_;simp
 ·have c1:(Zc7 (e2 ZgB (Zak ZaR (Zb (Za 1) (Zj))) (eC (.int 0))) (e2 Zam (e2 Zaz (e2 Ze (Za 1) (eC (.int 0))) (eC (.int 4))) (eC (.int 1)))) [some (.scr (ns.map D.int)),some (.ref M.length),some (.ref (M.length + 1)),some (Zq .halt),none] (M ++ [.lst (cs.map D.int),.lst (rows.map Zq)]) = .ok (.bl false) (M ++ [.lst (cs.map D.int),.lst (rows.map Zq)]):=by
   by_cases p0:0 < cs.length
   ·have p0':(0:Int) < cs.length:=by exact iN [_] [] 1 149491217 T1 p0
    have q1:¬ cs[0] % 4 = 1:=fun h=>hq ⟨p0,h⟩;simp [g0,p0',p0,q1]
   ·have p0':¬ (0:Int) < cs.length:=by exact fun z=>iN [_] [] 2 416159927953 T1 z p0
    simp [g0,p0',p0]
  refine fin rows .halt lrows hrows trivial (.inl rfl) ⟨[.lst (cs.map D.int),.lst (rows.map Zq),.lst [Zq .halt],.lst ((rows ++ [Row.halt]).map Zq)],?_⟩;refine (Zg (Zy (d:=Zq .halt) (M':=M ++ [.lst (cs.map D.int),.lst (rows.map Zq)]) (by simp [Zq]))).trans ((Zg (Zo c1)).trans ?_);refine (Zmf g1 (by rw [lrows]; exact lcs)).trans ?_;simp
noncomputable def Zc3 (r:Row) (bs:List Int) (t:List (Int × Int)):List (Int × Int):=match r with
 | .set a b=>ZiL t (bs.getD a 0) (bs.getD b 0)
 | _=>t
theorem set_same {M:Store} {n:Nat} {o:MO} (h:M[n]? = some o):M.set n o = M:=by
 apply Ybb;intro j;by_cases hj:j = n
 ·subst hj; rw [Y4 (Yc.mp h).1,h]
 ·rw [Yab (Yat hj)]
theorem ZlI (r:Row) (p nb nt:Nat) (bs:List Int) (t:List (Int × Int)) (M:Store) (many:Nat) (g0:M[nb]? = some (.lst (bs.map D.int))) (g1:M[nt]? = some (.dct (ZaV t))) (hne:nb ≠ nt) (hb:bs.length = 8) (hr:r.ok many) (hl:t.length < 100000):
  Zbs [Zq r,.int p,.ref nb,.ref nt] M = .ok (.int (r.place bs p)) ((M.set nb (.lst ((r.boxes bs t).map D.int))).set nt (.dct (ZaV (Zc3 r bs t)))):=by
 have z:(ZaV t).length < 1000000:=by rw [ZaV,Yac]; exact lA 1 0xf42405b01186a05b011 T1 hl
 have sb:M.set nb (.lst (bs.map D.int)) = M:=set_same g0;have st:M.set nt (.dct (ZaV t)) = M:=set_same g1;have sx:∀ x,(M.set nb x).set nt (.dct (ZaV t)) = M.set nb x:=fun x=>set_same (by rw [Yab hne]; exact g1);have fin:∀ {d:D} {bs':List Int},ZfV [some (Zq r),some (.int (p:Int)),some (.ref nb),some (.ref nt),none] M = .rt d (M.set nb (.lst (bs'.map D.int))) ->
   Zbs [Zq r,.int p,.ref nb,.ref nt] M = .ok d ((M.set nb (.lst (bs'.map D.int))).set nt (.dct (ZaV t))):=fun {d bs'} h=>by rw [sx]; exact (ZdC h).trans (Zeb (by simp))
 have gt:∀ {a:Nat} {x:Int},Zbb (bs.map D.int) (a:Int) = some (.int x) -> Ze (.ref nb) (.int (a:Int)) M = .ok (.int x) M:=fun {a x} g=>by simp only [ZaT,ZaU,ZaS,ZaL,g0,g]
 have pl:∀ {w:List Nat} {i f:E3} {a:Nat} {v:Int},f [some (Zq r),some (.int (p:Int)),some (.ref nb),some (.ref nt),some (.str w)] M = .ok (.int v) M -> i [some (Zq r),some (.int (p:Int)),some (.ref nb),some (.ref nt),some (.str w)] M = .ok (.int (a:Int)) M -> a < 8 ->
   ZfU (Za 2) i f [some (Zq r),some (.int (p:Int)),some (.ref nb),some (.ref nt),some (.str w)] M = .nx [some (Zq r),some (.int (p:Int)),some (.ref nb),some (.ref nt),some (.str w)] (M.set nb (.lst ((bs.set a v).map D.int))):=fun {w i f a v} h1 h2 ha=>by
  have hl8:a < (bs.map D.int).length:=by rw [Yac,hb]; exact ha
  simp only [ZfU,Zbq,e3,h1,h2,R3.bind,Za,Yh,Yf,Zfk,g0,Zpo,if_pos hl8,Ygv]
 have pre:∀ {w:List Nat} {o:O3} {k:S3},Ze (Zq r) (.int 0) M = .ok (.str w) M -> k [some (Zq r),some (.int (p:Int)),some (.ref nb),some (.ref nt),some (.str w)] M = o -> Zw (Zaj 4 (e2 Ze (Za 0) (eC (.int 0)))) k [some (Zq r),some (.int (p:Int)),some (.ref nb),some (.ref nt),none] M = o:=fun {w o k} h1 h=>(Zg (Zy (Zac rfl rfl h1))).trans h;cases r with
 | put a n=>exact fin (bs':=bs.set a n) (pre rfl ((Zg ((Zas (M':=M) rfl).trans (pl (a:=a) rfl rfl hr))).trans rfl))
 | add a b c=>
  obtain ⟨x,hx,gx⟩:=Za8 hb hr.2.1; obtain ⟨y,hy,gy⟩:=Za8 hb hr.2.2;simp only [Row.boxes,hx,hy];exact fin (pre rfl ((Zg ((ZbI (M':=M) rfl).trans ((Zas (M':=M) rfl).trans (pl (a:=a) (v:=x + y) (Zac (Zac rfl (b:=.int (b:Int)) rfl (gt gx)) (Zac rfl (b:=.int (c:Int)) rfl (gt gy)) rfl) rfl hr.1)))).trans rfl))
 | sub a b c=>
  obtain ⟨x,hx,gx⟩:=Za8 hb hr.2.1; obtain ⟨y,hy,gy⟩:=Za8 hb hr.2.2;simp only [Row.boxes,hx,hy];exact fin (pre rfl ((Zg ((ZbI (M':=M) rfl).trans ((ZbI (M':=M) rfl).trans ((Zas (M':=M) rfl).trans (pl (a:=a) (v:=x - y) (Zac (Zac rfl (b:=.int (b:Int)) rfl (gt gx)) (Zac rfl (b:=.int (c:Int)) rfl (gt gy)) rfl) rfl hr.1))))).trans rfl))
 | more a b c=>
  obtain ⟨x,hx,gx⟩:=Za8 hb hr.2.1; obtain ⟨y,hy,gy⟩:=Za8 hb hr.2.2;simp only [Row.boxes,hx,hy];have iv:Zh8 [.bl (decide (y < x))] M = .ok (.int (if y < x then 1 else 0)) M:=by
   by_cases q:y < x
   ·rw [decide_eq_true q,if_pos q]; rfl
   ·rw [decide_eq_false q,if_neg q]; rfl
  exact fin (pre rfl ((Zg ((ZbI (M':=M) rfl).trans ((ZbI (M':=M) rfl).trans ((ZbI (M':=M) rfl).trans ((Zas (M':=M) rfl).trans (pl (a:=a) (ZdN (Zac (Zac rfl (b:=.int (b:Int)) rfl (gt gx)) (Zac rfl (b:=.int (c:Int)) rfl (gt gy)) rfl) iv) rfl hr.1)))))).trans rfl))
 | get a b=>
  obtain ⟨x,hx,gx⟩:=Za8 hb hr.2;simp only [Row.boxes,hx];have gv:(ZeQ Zox ZmQ (Za 3) (Zb (e2 Ze (Za 2) (e2 Ze (Za 0) (eC (.int 2)))) (Zb (eC (.int 0)) (Zj)))) [some (Zq (.get a b)),some (.int (p:Int)),some (.ref nb),some (.ref nt),some (.str [103,101,116])] M = .ok (.int (ZfQ t x)) M:=by
   have e1:(e2 Ze (Za 2) (e2 Ze (Za 0) (eC (.int 2)))) [some (Zq (.get a b)),some (.int (p:Int)),some (.ref nb),some (.ref nt),some (.str [103,101,116])] M = .ok (.int x) M:=Zac rfl (b:=.int (b:Int)) rfl (gt gx);generalize (e2 Ze (Za 2) (e2 Ze (Za 0) (eC (.int 2)))) = E at e1;simp only [ZeQ,Za,Yh,Yf,R3.bind,Ziz,g1,Zlu,Zlx,Yey,if_true,Zb,Zj,eC,e1,Zk9,Zk3,ZiB,ZiD,Zmw]
  exact fin (pre rfl ((Zg ((ZbI (M':=M) rfl).trans ((ZbI (M':=M) rfl).trans ((ZbI (M':=M) rfl).trans ((ZbI (M':=M) rfl).trans ((Zas (M':=M) rfl).trans (pl (a:=a) gv rfl hr.1))))))).trans rfl))
 | set a b=>
  obtain ⟨x,hx,gx⟩:=Za8 hb hr.1; obtain ⟨y,hy,gy⟩:=Za8 hb hr.2;simp only [Row.boxes,Zc3,hx,hy];rw [sb];have pd:Znx (Za 3) (e2 Ze (Za 2) (e2 Ze (Za 0) (eC (.int 1)))) (e2 Ze (Za 2) (e2 Ze (Za 0) (eC (.int 2)))) [some (Zq (.set a b)),some (.int (p:Int)),some (.ref nb),some (.ref nt),some (.str [115,101,116])] M = .nx [some (Zq (.set a b)),some (.int (p:Int)),some (.ref nb),some (.ref nt),some (.str [115,101,116])] (M.set nt (.dct (ZaV (ZiL t x y)))):=by
   have e1:(e2 Ze (Za 2) (e2 Ze (Za 0) (eC (.int 1)))) [some (Zq (.set a b)),some (.int (p:Int)),some (.ref nb),some (.ref nt),some (.str [115,101,116])] M = .ok (.int x) M:=Zac rfl (b:=.int (a:Int)) rfl (gt gx);have e2':(e2 Ze (Za 2) (e2 Ze (Za 0) (eC (.int 2)))) [some (Zq (.set a b)),some (.int (p:Int)),some (.ref nb),some (.ref nt),some (.str [115,101,116])] M = .ok (.int y) M:=Zac rfl (b:=.int (b:Int)) rfl (gt gy);generalize (e2 Ze (Za 2) (e2 Ze (Za 0) (eC (.int 1)))) = E1 at e1;generalize (e2 Ze (Za 2) (e2 Ze (Za 0) (eC (.int 2)))) = E2 at e2';simp only [Znx,Zbq,e3,e1,e2',R3.bind,Za,Yh,Yf,Zki,g1,ZiB,ZiD,if_pos z,Zo9]
  exact (ZdC (pre rfl ((Zg ((ZbI (M':=M) rfl).trans ((ZbI (M':=M) rfl).trans ((ZbI (M':=M) rfl).trans ((ZbI (M':=M) rfl).trans ((ZbI (M':=M) rfl).trans ((Zas (M':=M) rfl).trans pd))))))).trans rfl))).trans (Zeb (by simp))
 | jump k=>
  refine (ZdC (M':=M) (d:=.int (k:Int)) (pre rfl (Zah ((ZbI (M':=M) rfl).trans ((ZbI (M':=M) rfl).trans ((ZbI (M':=M) rfl).trans ((ZbI (M':=M) rfl).trans ((ZbI (M':=M) rfl).trans ((ZbI (M':=M) rfl).trans ((Zas (M':=M) rfl).trans rfl)))))))))).trans ((Zeb rfl).trans ?_);simp only [Row.boxes,Zc3,sb,st]; rfl
 | when a k=>
  obtain ⟨x,hx,gx⟩:=Za8 hb hr.1;have cc:(eOr (e2 Zam (Za 4) (eC (.str [106,117,109,112]))) (Zc7 (e2 Zam (Za 4) (eC (.str [119,104,101,110]))) (e2 ZgB (e2 Ze (Za 2) (e2 Ze (Za 0) (eC (.int 1)))) (eC (.int 0))))) [some (Zq (.when a k)),some (.int (p:Int)),some (.ref nb),some (.ref nt),some (.str [119,104,101,110])] M = .ok (.bl (decide (0 < x))) M:=(ZdU (M1:=M) rfl).trans ((ZgY (M1:=M) rfl).trans (Zac (Zac rfl (b:=.int (a:Int)) rfl (gt gx)) rfl rfl));simp only [Row.boxes,Row.place,Zc3,sb,st,hx];by_cases q:0 < x
  ·rw [decide_eq_true q] at cc
   rw [if_pos q];exact (ZdC (M':=M) (d:=.int (k:Int)) (pre rfl (Zah ((ZbI (M':=M) rfl).trans ((ZbI (M':=M) rfl).trans ((ZbI (M':=M) rfl).trans ((ZbI (M':=M) rfl).trans ((ZbI (M':=M) rfl).trans ((ZbI (M':=M) rfl).trans ((Zas cc).trans rfl)))))))))).trans (Zeb rfl)
  ·rw [decide_eq_false q] at cc
   rw [if_neg q];exact (ZdC (M':=M) (d:=.int ((p:Int) + 1)) (pre rfl ((Zg ((ZbI (M':=M) rfl).trans ((ZbI (M':=M) rfl).trans ((ZbI (M':=M) rfl).trans ((ZbI (M':=M) rfl).trans ((ZbI (M':=M) rfl).trans ((ZbI (M':=M) rfl).trans (Zo cc)))))))).trans rfl))).trans (Zeb rfl)
 | tell a=>
  refine (ZdC (M':=M) (d:=.int ((p:Int) + 1)) rfl).trans ((Zeb rfl).trans ?_);simp only [Row.boxes,Zc3,sb,st]; rfl
 | halt=>
  refine (ZdC (M':=M) (d:=.int ((p:Int) + 1)) rfl).trans ((Zeb rfl).trans ?_);simp only [Row.boxes,Zc3,sb,st]; rfl
theorem ZpB (ns:List Int) (M:Store):∃ bs:List Int,bs.length = 8 /\ Zez [.scr (ns.map D.int)] M = .ok (Zh bs) M:=by
 obtain ⟨e',M',hl,bs,x,y,lb,rfl,rfl⟩:=Zi4 (it:=⟨Zdl 0 8,none⟩) (g:=Zcj 2)
  (body:=(Zw (Zaj 3 (eC (.int 0))) (Zw (sIf (e2 ZgB (Zak ZaR (Zb (Za 0) (Zj))) (eC (.int 0))) (Zaj 3 (e2 Ze (Za 0) (e2 Zaz (e2 Zag (e2 ZcQ (eC (.int 5)) (Za 2)) (eC (.int 3))) (Zak ZaR (Zb (Za 0) (Zj)))))) (Zab)) (Zbq (ZeQ tyL Zb3 (Za 1) (Zb (Zae ZaY (Zb (Zae ZaN (Zb (Za 3) (Zb (e2 Zag (eC (.int 100)) (Za 2)) (Zj)))) (Zj))) (Zj)))))))
  (P:=fun j env M'=>∃ (bs:List Int) (x y:Option D),bs.length = j /\ env = [some (.scr (ns.map D.int)),some (.ref M.length),x,y] /\ M' = M ++ [.lst (bs.map D.int)])
  (Zdl 0 8) 0 [some (.scr (ns.map D.int)),some (.ref M.length),none,none] (M ++ [.lst []]) ⟨[],none,none,rfl,rfl,rfl⟩ (fun _ _ _ _=>rfl)
  (fun k d hd env M' ⟨bs,x,y,lb,he,hm⟩=>by
   obtain ⟨rfl,lk⟩:=Zg8 hd;subst he hm;have key:∀ c:Int,∃ e' M',Zbq (ZeQ tyL Zb3 (Za 1) (Zb (Zae ZaY (Zb (Zae ZaN (Zb (Za 3) (Zb (e2 Zag (eC (.int 100)) (Za 2)) (Zj)))) (Zj))) (Zj))) [some (.scr (ns.map D.int)),some (.ref M.length),some (.int (k:Int)),some (.int c)] (M ++ [.lst (bs.map D.int)]) = .nx e' M' /\
     ∃ (bs:List Int) (x y:Option D),bs.length = 0 + k + 1 /\ e' = [some (.scr (ns.map D.int)),some (.ref M.length),x,y] /\ M' = M ++ [.lst (bs.map D.int)]:=fun c=>by
    obtain ⟨v,hv⟩:=Zi1 c (100 + k) (by exact iN [_] [] 0 2252520680 T1) (by exact iN [_] [] 1 0x13884b08642bc881b011 T1 lk);obtain ⟨w,hw⟩:=Zkq v;refine ⟨_,M ++ [.lst ((bs ++ [w]).map D.int)],Zfl (d:=.non) ?_,bs ++ [w],_,_,by simp [lb],rfl,rfl⟩;have:(bs.length:Nat) < 1000000:=lB 2 0xf42405b110ec12181b011 T1 lk lb;simp [hv,hw,this]
   have m5:ZbS 5 (k:Int) = true:=ZgN (by omega);by_cases p0:0 < ns.length
   ·obtain ⟨a,ha,la⟩:=Zc2 (5 * (k:Int) + 3) ns.length p0
    obtain ⟨e',M',h,hP⟩:=key ns[a];refine ⟨_,e',M',rfl,?_,hP⟩;rw [← h];simp [Zw,Zaj,sIf,p0,m5,ha,la]
   ·obtain ⟨e',M',h,hP⟩:=key 0
    refine ⟨_,e',M',rfl,?_,hP⟩;rw [← h];simp [Zw,Zaj,sIf,p0,Zab])
 rw [Zg5] at lb;refine ⟨bs,lb,Rt.pure (env:=[some (.scr (ns.map D.int)),none,none,none]) (G:=[.lst (bs.map D.int)]) ?_ (Ze6 _ _)⟩;refine (Zg (Zy (d:=.ref M.length) (M':=M ++ [.lst []]) (by simp))).trans ((Zg ((Ziu (it:=⟨Zdl 0 8,none⟩) (M':=M ++ [.lst []]) (by simp)).trans hl)).trans (Zaq ?_));simp [Zh]
theorem Zq5 (r:Row) (p:Nat) (bs:List Int) (t:List (Int × Int)) (A G:Store) (many:Nat) (hb:bs.length = 8) (hr:r.ok many) (hl:t.length < 100000):
  Zbs [Zq r,.int p,.ref A.length,.ref (A.length + 1)] (A ++ .lst (bs.map D.int) :: .dct (ZaV t) :: G) = .ok (.int (r.place bs p)) (A ++ .lst ((r.boxes bs t).map D.int) :: .dct (ZaV (Zc3 r bs t)) :: G):=by
 rw [ZlI r p A.length (A.length + 1) bs t _ many (ZaQ _ _ _) (ZaX _ _ 1) (fun z=>lA 1 111198257 T1 z) hb hr hl];rw [show (A ++ MO.lst (bs.map D.int) :: .dct (ZaV t) :: G).set A.length (.lst ((r.boxes bs t).map D.int)) = A ++ .lst ((r.boxes bs t).map D.int) :: .dct (ZaV t) :: G from Zfa A _ 0 _,Zfa A _ 1 _];rfl
theorem ZlR {r:Row} {bs:List Int} {t:List (Int × Int)} (hk:keysOk t):r.boxes bs (Zbj t) = r.boxes bs t:=by cases r <;> first | exact rfl | simp [Row.boxes,ZoO hk]
theorem Zmp {r:Row} {bs:List Int} {t:List (Int × Int)} (hk:keysOk t):r.cells bs (Zbj t) = Zbj (Zc3 r bs t):=by
 cases r <;> first | exact rfl | simp only [Row.cells,Zc3]
 rw [ZoY hk]
theorem ZqR {r:Row} {bs:List Int} {t:List (Int × Int)} (hk:keysOk t):keysOk (Zc3 r bs t):=by
 cases r <;> simp only [Zc3] <;> first | exact hk | exact Zkw _ _ hk
theorem ZpJ (t:List (Int × Int)) (n v:Int):(ZiL t n v).length <= t.length + 1:=by
 unfold ZiL; split <;> simp
theorem ZqU (r:Row) (bs:List Int) (t:List (Int × Int)):(Zc3 r bs t).length <= t.length + 1:=by
 cases r <;> simp only [Zc3] <;> first | omega | exact ZpJ _ _ _
noncomputable def Zed:Row -> List Nat
 | .put ..=>[112,117,116] | .add ..=>[97,100,100] | .sub ..=>[115,117,98] | .more ..=>[109,111,114,101] | .get ..=>[103,101,116] | .set ..=>[115,101,116] | .jump ..=>[106,117,109,112] | .when ..=>[119,104,101,110] | .tell ..=>[116,101,108,108] | .halt=>[104,97,108,116]
theorem ZeY (r:Row) (M:Store):Ze (Zq r) (.int 0) M = .ok (.str (Zed r)) M:=by cases r <;> first | exact rfl | simp [Zq,Zed]
theorem ZhR (r:Row):r.isHalt = decide ((Zed r) = [104,97,108,116]):=by cases r <;> rfl
theorem ZqD {c:E3} {body:S3} {n:Nat} {env e:ZaD} {M M1 M':Store} (h:c env M = .ok (.bl true) M1) (h':body env M1 = .nx e M'):Zfj c body (n + 1) env M = Zfj c body n e M':=by
 show (match c env M with | .ok (.bl true) M1=>_ | .ok (.bl false) M1=>_ | .exc x M1=>_ | _=>_) = _;rw [h]; simp only [h']
theorem ZiE {c:E3} {body:S3} {n:Nat} {env:ZaD} {M M1:Store} (h:c env M = .ok (.bl false) M1):Zfj c body (n + 1) env M = .nx env M1:=by
 show (match c env M with | .ok (.bl true) M1=>_ | .ok (.bl false) M1=>_ | .exc x M1=>_ | _=>_) = _;rw [h]
theorem Zmr (r:Row):∃ nm,(r.isHalt = decide (nm = [104,97,108,116])) /\ ∀ M,Ze (Zq r) (.int 0) M = .ok (.str nm) M:=⟨_,ZhR r,ZeY r⟩
theorem Zmq {roll:Zbx} {p:Nat} {r:Row} {M:Store} (h:roll[p]? = some r):Ze (Zf roll) (.int (p:Int)) M = .ok (Zq r) M:=ZeB (by rw [Zcm,Y1,h]; rfl)
theorem Zmy (roll:Zbx) (R:ZbX roll) (d1:D) (most:Nat) (A:Store) (hm:most <= 2001) (J:Nat -> Stt -> List (Int × Int) -> Prop) (hJ:∀ k s t,J k s t -> t.length < 64)
  (hS:∀ k s t r,J k s t -> roll[s.place]? = some r -> r.isHalt = false -> k < most -> J (k + 1) ⟨r.place s.boxes s.place,r.boxes s.boxes t,Zbj (Zc3 r s.boxes t)⟩ (Zc3 r s.boxes t)):
  ∀ (k:Nat) (pre:List Stt) (s:Stt) (t:List (Int × Int)) (fuel:Nat) (G:Store) (y:Option D),pre.length + k = most -> k < fuel -> Good roll s -> keysOk t -> s.cells = Zbj t -> J pre.length s t ->
  ∃ (p':Nat) (bs':List Int) (t':List (Int × Int)) (G':Store) (y':Option D),Zfj (Zc7 (e2 ZbC (e2 Ze (e2 Ze (Za 0) (Za 3)) (eC (.int 0))) (eC (.str [104,97,108,116]))) (e2 ZiF (Zak ZaR (Zb (Za 6) (Zj))) (Za 2))) (Zw (Zaj 3 (Zae Zbs (Zb (e2 Ze (Za 0) (Za 3)) (Zb (Za 3) (Zb (Za 4) (Zb (Za 5) (Zj))))))) (Zw (Zaj 7 (ZmR (Za 5) 1 (Zcj 8) [e2 ZbC (e2 Zep (Za 5) (Za 8)) (eC (.int 0))] (ZaB (Zb (Za 8) (Zb (e2 Zep (Za 5) (Za 8)) (Zj)))))) (Zbq (ZeQ tyL Zb3 (Za 6) (Zb (ZaB (Zb (Za 3) (Zb (Zak ZaZ (Zb (Za 4) (Zj))) (Zb (Zak ZaZ (Zb (Zak Zcc (Zb (Za 7) (Zj))) (Zj))) (Zj))))) (Zj)))))) fuel
   [some (Zf roll),some d1,some (.int (most:Int)),some (.int (s.place:Int)),some (.ref A.length),some (.ref (A.length + 1)),some (.ref (A.length + 2)),y] (A ++ .lst (s.boxes.map D.int) :: .dct (ZaV t) :: .lst ((pre ++ [s]).map Zax) :: G) =
   .nx [some (Zf roll),some d1,some (.int (most:Int)),some (.int (p':Int)),some (.ref A.length),some (.ref (A.length + 1)),some (.ref (A.length + 2)),y'] (A ++ .lst (bs'.map D.int) :: .dct (ZaV t') :: .lst ((pre ++ Zeu roll k s).map Zax) :: G'):=by
 intro k
 induction k with
 | zero=>
  intro pre s t fuel G y hk hf g kt es hj;cases fuel with
  | zero=>exact (lN [] 1 454161 rfl hf).elim
  | succ fuel=>
   refine ⟨s.place,s.boxes,t,G,y,?_⟩;have gp:=g.pl;have hr:roll[s.place]? = some roll[s.place]:=by simp [g.pl]
   obtain ⟨nm,hn,hi⟩:=Zmr roll[s.place];generalize hM:A ++ MO.lst (s.boxes.map D.int) :: .dct (ZaV t) :: .lst ((pre ++ [s]).map Zax) :: G = M;have g2:M[A.length + 2]? = some (.lst ((pre ++ [s]).map Zax)):=by rw [← hM]; exact ZaX _ _ 2
   have c0:(e2 Ze (e2 Ze (Za 0) (Za 3)) (eC (.int 0))) [some (Zf roll),some d1,some (.int (most:Int)),some (.int (s.place:Int)),some (.ref A.length),some (.ref (A.length + 1)),some (.ref (A.length + 2)),y] M = .ok (.str nm) M:=by
    exact Zac (Zac rfl rfl (Zmq hr)) rfl (hi M)
   by_cases hq:nm = [104,97,108,116]
   ·rw [ZiE (ZkU (M1:=M) (Zac c0 rfl (Zsg hq)))]; exact congrArg _ hM.symm
   ·have c2:(e2 ZiF (Zak ZaR (Zb (Za 6) (Zj))) (Za 2)) [some (Zf roll),some d1,some (.int (most:Int)),some (.int (s.place:Int)),some (.ref A.length),some (.ref (A.length + 1)),some (.ref (A.length + 2)),y] M = .ok (.bl false) M:=by
     exact Zac (ZdN rfl (Zfy g2)) rfl (Zwn (by rw [Yac,Yaj,Yc4]; exact fun z=>iN [_,_] [] 2 0x61e0c3118a0c881 T1 z hk))
    rw [ZiE ((ZgY (M1:=M) (Zac c0 rfl (ZuT hq))).trans c2)]; exact congrArg _ hM.symm
 | succ k ih=>
  intro pre s t fuel G y hk hf g kt es hj;cases fuel with
  | zero=>exact (lA 1 116001809 T1 hf).elim
  | succ fuel=>
   have gp:=g.pl;have hr:roll[s.place]? = some roll[s.place]:=by simp [g.pl]
   have ro:=R.rows _ (Yu g.pl);obtain ⟨nm,hn,hi⟩:=Zmr roll[s.place];generalize hrr:roll[s.place] = r at hr ro hn hi;have tl:=hJ _ _ _ hj;generalize hM:A ++ MO.lst (s.boxes.map D.int) :: .dct (ZaV t) :: .lst ((pre ++ [s]).map Zax) :: G = M;have g2:M[A.length + 2]? = some (.lst ((pre ++ [s]).map Zax)):=by rw [← hM]; exact ZaX _ _ 2
   have ci:∀ M,(e2 Ze (Za 0) (Za 3)) [some (Zf roll),some d1,some (.int (most:Int)),some (.int (s.place:Int)),some (.ref A.length),some (.ref (A.length + 1)),some (.ref (A.length + 2)),y] M = .ok (Zq r) M:=fun M=>Zac rfl rfl (Zmq hr);have c0:(e2 Ze (e2 Ze (Za 0) (Za 3)) (eC (.int 0))) [some (Zf roll),some d1,some (.int (most:Int)),some (.int (s.place:Int)),some (.ref A.length),some (.ref (A.length + 1)),some (.ref (A.length + 2)),y] M = .ok (.str nm) M:=Zac (ci M) rfl (hi M);by_cases hq:nm = [104,97,108,116]
   ·refine ⟨s.place,s.boxes,t,G,y,?_⟩
    rw [ZiE (ZkU (M1:=M) (Zac c0 rfl (Zsg hq)))];have:Zfw roll s = none:=by simp [Zfw,hr,Zkf,hn,hq]
    rw [Zo1 k this,hM]
   ·have c2:(e2 ZiF (Zak ZaR (Zb (Za 6) (Zj))) (Za 2)) [some (Zf roll),some d1,some (.int (most:Int)),some (.int (s.place:Int)),some (.ref A.length),some (.ref (A.length + 1)),some (.ref (A.length + 2)),y] M = .ok (.bl true) M:=by
     exact Zac (ZdN rfl (Zfy g2)) rfl (ZvZ (by rw [Yac,Yaj,Yc4]; exact iN [_,_,_] [] 1 0x28a0c882a1c0c21 T1 hk))
    have cc:(Zc7 (e2 ZbC (e2 Ze (e2 Ze (Za 0) (Za 3)) (eC (.int 0))) (eC (.str [104,97,108,116]))) (e2 ZiF (Zak ZaR (Zb (Za 6) (Zj))) (Za 2))) [some (Zf roll),some d1,some (.int (most:Int)),some (.int (s.place:Int)),some (.ref A.length),some (.ref (A.length + 1)),some (.ref (A.length + 2)),y] M = .ok (.bl true) M:=(ZgY (M1:=M) (Zac c0 rfl (ZuT hq))).trans c2;have nh:r.isHalt = false:=by rw [hn]; simp [hq]
    have st:Zfw roll s = some ⟨r.place s.boxes s.place,r.boxes s.boxes t,Zbj (Zc3 r s.boxes t)⟩:=by
     simp only [Zfw,hr,Option.bind_some,Zkf,nh,es,ZlR kt,Zmp kt]; rfl
    have j':=hS _ _ _ r hj hr nh (lC 1 2204024704033 T1 hk);have kt':=ZqR (r:=r) (bs:=s.boxes) kt;have tl':=hJ _ _ _ j';have go:=Zq5 r s.place s.boxes t A (.lst ((pre ++ [s]).map Zax) :: G) roll.length g.bx ro (lA 1 0x186a05b01402b011 T1 tl);rw [hM] at go;have gd:=(ZhU R g st).1;generalize r.place s.boxes s.place = p2 at *;generalize r.boxes s.boxes t = bs2 at *;generalize Zc3 r s.boxes t = t2 at *;generalize hM2:A ++ MO.lst (bs2.map D.int) :: .dct (ZaV t2) :: .lst ((pre ++ [s]).map Zax) :: G = M2 at go;have k0:M2[A.length]? = some (.lst (bs2.map D.int)):=by rw [← hM2]; exact ZaQ _ _ _
    have k1:M2[A.length + 1]? = some (.dct (ZaV t2)):=by rw [← hM2]; exact ZaX _ _ 1
    have k2:M2[A.length + 2]? = some (.lst ((pre ++ [s]).map Zax)):=by rw [← hM2]; exact ZaX _ _ 2
    have b1:(Zae Zbs (Zb (e2 Ze (Za 0) (Za 3)) (Zb (Za 3) (Zb (Za 4) (Zb (Za 5) (Zj)))))) [some (Zf roll),some d1,some (.int (most:Int)),some (.int (s.place:Int)),some (.ref A.length),some (.ref (A.length + 1)),some (.ref (A.length + 2)),y] M = .ok (.int (p2:Int)) M2:=
     ZhH (ci M) rfl rfl rfl go
    have b2:=Znm (i:=5) (env:=[some (Zf roll),some d1,some (.int (most:Int)),some (.int (p2:Int)),some (.ref A.length),some (.ref (A.length + 1)),some (.ref (A.length + 2)),y]) (t:=t2) (n:=A.length + 1) (own:=1) (M:=M2) (c:=e2 ZbC (e2 Zep (Za 5) (Za 8)) (eC (.int 0))) (elt:=ZaB (Zb (Za 8) (Zb (e2 Zep (Za 5) (Za 8)) (Zj)))) rfl k1 (lA 1 0x186a05b00402b011 T1 tl')
     (fun p hp M hM=>by
      have:=ZnE kt' hp hM;have e:(e2 Zep (Za 5) (Za 8)) ([some (Zf roll),some d1,some (.int (most:Int)),some (.int (p2:Int)),some (.ref A.length),some (.ref (A.length + 1)),some (.ref (A.length + 2)),y,some (.int p.1)]) M = .ok (.int p.2) M:=Zac rfl rfl this;exact (Zac e rfl (by simp)))
     (fun p hp M hM=>by
      have:=ZnE kt' hp hM;have e:(e2 Zep (Za 5) (Za 8)) ([some (Zf roll),some d1,some (.int (most:Int)),some (.int (p2:Int)),some (.ref A.length),some (.ref (A.length + 1)),some (.ref (A.length + 2)),y,some (.int p.1)]) M = .ok (.int p.2) M:=Zac rfl rfl this;generalize (e2 Zep (Za 5) (Za 8)) = E at e;show ZaB (Zb (Za 8) (Zb E Zj)) [some (Zf roll),some d1,some (.int (most:Int)),some (.int (p2:Int)),some (.ref A.length),some (.ref (A.length + 1)),some (.ref (A.length + 2)),y,some (.int p.1)] M = _;exact ZcO (Za4 rfl (Za4 e rfl)) rfl)
    have g9:(M2 ++ [MO.lst ((t2.filter fun p=>decide (p.2 ≠ 0)).map Za7)])[M2.length]? = some (.lst ((t2.filter fun p=>decide (p.2 ≠ 0)).map Za7)):=ZaQ _ _ _;have so:=Znc (e:=Za 7) (env:=[some (Zf roll),some d1,some (.int (most:Int)),some (.int (p2:Int)),some (.ref A.length),some (.ref (A.length + 1)),some (.ref (A.length + 2)),some (.ref M2.length)]) (M:=M2 ++ [MO.lst ((t2.filter fun p=>decide (p.2 ≠ 0)).map Za7)]) (n:=M2.length) kt' tl' rfl g9;generalize hM3:M2 ++ [MO.lst ((t2.filter fun p=>decide (p.2 ≠ 0)).map Za7)] = M3 at b2 g9 so;have k0':M3[A.length]? = some (.lst (bs2.map D.int)):=by rw [← hM3]; exact Zbn k0 _
    have k2':M3[A.length + 2]? = some (.lst ((pre ++ [s]).map Zax)):=by rw [← hM3]; exact Zbn k2 _
    have ar:(ZaB (Zb (Za 3) (Zb (Zak ZaZ (Zb (Za 4) (Zj))) (Zb (Zak ZaZ (Zb (Zak Zcc (Zb (Za 7) (Zj))) (Zj))) (Zj))))) [some (Zf roll),some d1,some (.int (most:Int)),some (.int (p2:Int)),some (.ref A.length),some (.ref (A.length + 1)),some (.ref (A.length + 2)),some (.ref M2.length)] M3 = .ok (Zax ⟨p2,bs2,Zbj t2⟩) (M3 ++ [.lst ((Zbj t2).map Za7)]):=by
     have t1:Zak ZaZ (Zb (Za 4) (Zj)) [some (Zf roll),some d1,some (.int (most:Int)),some (.int (p2:Int)),some (.ref A.length),some (.ref (A.length + 1)),some (.ref (A.length + 2)),some (.ref M2.length)] M3 = .ok (Zh bs2) M3:=ZdN rfl (Zk6 k0');have t2':Zak ZaZ (Zb (Zak Zcc (Zb (Za 7) (Zj))) (Zj)) [some (Zf roll),some d1,some (.int (most:Int)),some (.int (p2:Int)),some (.ref A.length),some (.ref (A.length + 1)),some (.ref (A.length + 2)),some (.ref M2.length)] M3 = .ok (Zbi (Zbj t2)) (M3 ++ [.lst ((Zbj t2).map Za7)]):=by
      exact ZdN so (Zk6 (ZaQ _ _ _))
     generalize Zak ZaZ (Zb (Za 4) (Zj)) = E1 at t1;generalize Zak ZaZ (Zb (Zak Zcc (Zb (Za 7) (Zj))) (Zj)) = E2 at t2';exact ZcO (Za4 rfl (Za4 t1 (Za4 t2' rfl))) rfl
    have bd:=Zfl (Zh0 (o:=Za 6) (arg:=(ZaB (Zb (Za 3) (Zb (Zak ZaZ (Zb (Za 4) (Zj))) (Zb (Zak ZaZ (Zb (Zak Zcc (Zb (Za 7) (Zj))) (Zj))) (Zj)))))) (env:=[some (Zf roll),some d1,some (.int (most:Int)),some (.int (p2:Int)),some (.ref A.length),some (.ref (A.length + 1)),some (.ref (A.length + 2)),some (.ref M2.length)]) (M:=M3) (M2:=M3 ++ [.lst ((Zbj t2).map Za7)]) (n:=A.length + 2) (xs:=(pre ++ [s]).map Zax) (ys:=(pre ++ [s]).map Zax) (d:=Zax ⟨p2,bs2,Zbj t2⟩) rfl k2' ar (Zbn k2' _) (by simp; exact lC 2 0xf42405ba0c17d13b2012a1c0c21 T1 hk hm));obtain ⟨p',bs',t',G',y',h'⟩:=ih (pre ++ [s]) ⟨p2,bs2,Zbj t2⟩ t2 fuel (G ++ [MO.lst ((t2.filter fun p=>decide (p.2 ≠ 0)).map Za7),.lst ((Zbj t2).map Za7)]) (some (.ref M2.length)) (by simp; exact Ym (lC 1 0x21a0cc02a1c0c21 T1 hk) (lC 1 0x1a0cc202a1c0c31 T1 hk)) (lB 1 1106520968209 T1 hf) gd kt' rfl (by simpa using j');have e1:(M3 ++ [MO.lst ((Zbj t2).map Za7)]).set (A.length + 2) (.lst ((pre ++ [s]).map Zax ++ [Zax ⟨p2,bs2,Zbj t2⟩])) = A ++ .lst (bs2.map D.int) :: .dct (ZaV t2) :: .lst ((pre ++ [s] ++ [(⟨p2,bs2,Zbj t2⟩:Stt)]).map Zax) :: (G ++ [MO.lst ((t2.filter fun p=>decide (p.2 ≠ 0)).map Za7),.lst ((Zbj t2).map Za7)]):=by
     rw [← hM3,← hM2,Yao,Yao,Zfa];simp
    refine ⟨p',bs',t',G',y',(ZqD cc ((Zg (Zy (i:=3) b1)).trans ((Zg (Zy (i:=7) b2)).trans bd))).trans ?_⟩;rw [e1];refine h'.trans ?_;rw [ZoD k st];simp
theorem Znb (roll:Zbx) (R:ZbX roll) (bs:List Int) (most:Nat) (M:Store) (hm:most <= 2001) (hb:bs.length = 8) (J:Nat -> Stt -> List (Int × Int) -> Prop) (hJ:∀ k s t,J k s t -> t.length < 64)
  (hS:∀ k s t r,J k s t -> roll[s.place]? = some r -> r.isHalt = false -> k < most -> J (k + 1) ⟨r.place s.boxes s.place,r.boxes s.boxes t,Zbj (Zc3 r s.boxes t)⟩ (Zc3 r s.boxes t)) (h0:J 0 ⟨0,bs,[]⟩ []):
  ∃ n G,M.length <= n /\ Zdf [Zf roll,Zh bs,.int (most:Int)] M = .ok (.ref n) (M ++ G) /\ (M ++ G)[n]? = some (.lst ((Zeu roll most ⟨0,bs,[]⟩).map Zax)):=by
 have pos:0 < roll.length:=by obtain ⟨q,x,e,_⟩:=R.last; rw [e]; simp
 obtain ⟨p',bs',t',G',y',lp⟩:=Zmy roll R (Zh bs) most M hm J hJ hS most [] ⟨0,bs,[]⟩ [] 1000000 [] none (by simp) (lA 1 0xf42405b017d13b001 T1 hm) ⟨pos,hb,by simp [Zfx]⟩ (by simp [keysOk]) rfl h0;refine ⟨M.length + 2,.lst (bs'.map D.int) :: .dct (ZaV t') :: .lst (([] ++ Zeu roll most ⟨0,bs,[]⟩).map Zax) :: G',Yw _ _,?_,by rw [ZaX]; rfl⟩;refine (ZdC (env:=[some (Zf roll),some (Zh bs),some (.int (most:Int)),none,none,none,none,none]) (d:=.ref (M.length + 2)) (M':=M ++ .lst (bs'.map D.int) :: .dct (ZaV t') :: .lst (([] ++ Zeu roll most ⟨0,bs,[]⟩).map Zax) :: G') ?_).trans (by simp [ZdS,below]);refine (Zg (Zy (d:=.int 0) (M':=M) rfl)).trans ((Zg (Zy (d:=.ref M.length) (M':=M ++ [.lst (bs.map D.int)]) (by exact rfl))).trans ((Zg (Zy (d:=.ref (M.length + 1)) (M':=M ++ [.lst (bs.map D.int),.dct (ZaV [])]) (by simp [ZaV]))).trans ((Zg (Zy (d:=.ref (M.length + 2)) (M':=M ++ [.lst (bs.map D.int),.dct (ZaV []),.lst (([] ++ [(⟨0,bs,[]⟩:Stt)]).map Zax)]) (by simp [Zax,Zh,Zbi]))).trans ((Zg (f:=Zns _ _) lp).trans (Zaq rfl)))))
theorem ZoX (roll:Zbx) (R:ZbX roll) (bs:List Int) (most:Nat) (M:Store) (hm:most <= 63) (hb:bs.length = 8):
  ∃ n G,M.length <= n /\ Zdf [Zf roll,Zh bs,.int (most:Int)] M = .ok (.ref n) (M ++ G) /\ (M ++ G)[n]? = some (.lst ((Zeu roll most ⟨0,bs,[]⟩).map Zax)):=
 Znb roll R bs most M (lA 1 0x7d13b003f2b001 T1 hm) hb (fun k _ t=>t.length <= k /\ k <= most) (fun k s t h=>lC 3 0x402b013f2b20121011001 T1 h.1 h.2 hm) (fun k s t r h _ _ hk=>⟨by have:=ZqU r s.boxes t; exact lC 2 0xa2c002101a1c001 T1 this h.1,lB 1 6991908881 T1 hk⟩) ⟨Yj _,Yag _⟩
structure Use where
 num:Int
 time:Int
 word:List Nat
 val:Int
noncomputable abbrev GET:List Nat:=[103,101,116]
noncomputable abbrev SET:List Nat:=[115,101,116]
noncomputable def Zr (u:Use):D:=.tup [.int u.num,.int u.time,.str u.word,.int u.val]
noncomputable def ZfO:Option Use -> D
 | none=>.non
 | some u=>Zr u
theorem ZoM (n:Nat) (u:Use):below n (Zr u) = true:=rfl
theorem Zic (bs:List Int) (a:Nat) (v:Int) (M:Store) (ha:a < bs.length) (hl:bs.length <= 1000):Zca [Zh bs,.int a,.int v] M = .ok (Zh (bs.set a v)) M:=by
 have h1:(e2 Zag (e2 Zag (eSl (Za 0) (ZaE) (ZaI (Za 1))) (ZaB (Zb (Za 2) (Zj)))) (eSl (Za 0) (ZaI (e2 Zag (Za 1) (eC (.int 1)))) (ZaE))) [some (Zh bs),some (.int a),some (.int v)] M = .ok (Zh (bs.set a v)) M:=by
  have c1:cutD (bs.map D.int) none (some (a:Int)) = (bs.take a).map D.int:=by rw [ZhO,Yfo]
  have c2:cutD (bs.map D.int) (some ((a:Int) + 1)) none = (bs.drop (a + 1)).map D.int:=by
   rw [show ((a:Int) + 1) = ((a + 1:Nat):Int) by exact rfl,Zf7,Yh0]
  have s1:eSl (Za 0) (ZaE) (ZaI (Za 1)) [some (Zh bs),some (.int a),some (.int v)] M = .ok (.tup ((bs.take a).map D.int)) M:=by
   simp only [eSl,Za,ZaE,ZaI,Zh,Yh,Yf,R3.bind,Zce,Zcg,Zch,Zcf,c1]
  have s2:eSl (Za 0) (ZaI (e2 Zag (Za 1) (eC (.int 1)))) (ZaE) [some (Zh bs),some (.int a),some (.int v)] M = .ok (.tup ((bs.drop (a + 1)).map D.int)) M:=by
   simp only [eSl,e2,eC,Zco,Zcq,Zcl,Zcp,Za,ZaE,ZaI,Zh,Yh,Yf,R3.bind,Zce,Zcg,Zch,Zcf,c2]
  have s3:ZaB (Zb (Za 2) (Zj)) [some (Zh bs),some (.int a),some (.int v)] M = .ok (.tup [.int v]) M:=by simp
  have a1:Zag (.tup ((bs.take a).map D.int)) (.tup [.int v]) M = .ok (.tup ((bs.take a).map D.int ++ [.int v])) M:=by
   simp only [Zco,Zcq,Zcl,Zcp]; rw [if_pos (by simp; exact lB 2 0xf423f5b1001013e83b001 T1 hl (Ybx _ _))]
  refine (Zac (Zac s1 s3 a1) s2 ?_);simp only [Zco,Zcq,Zcl,Zcp];rw [if_pos (by simp; exact lD 3 0xf42405b3a1cc00a2c3c2121013e83b001 T1 hl (Ybq _ _) (Yb (lB 1 6991908881 T1 ha))),Zh,Ydw,if_pos ha];simp
 exact Rt.pure (G:=[]) (env:=[some (Zh bs),some (.int a),some (.int v)]) (by rw [Yp]; exact Zaq h1) (Ze6 _ _)
theorem ZjL (cs:List (Int × Int)) (n:Int) (M:Store) (h:keysOk cs) (hl:cs.length <= 5000):ZdG [Zbi cs,.int n] M = .ok (.int (ZfQ cs n)) M:=by
 have h1:(ZeQ Zox ZmQ (Zak Zko (Zb (Za 0) (Zj))) (Zb (Za 1) (Zb (eC (.int 0)) (Zj)))) [some (Zbi cs),some (.int n)] M = .ok (.int (ZfQ cs n)) (M ++ [.dct (dictOf (ZaV cs))]):=by
  have hz:(ZaV cs).length <= 100000:=by simp [ZaV]; exact lA 1 0x186a05b0013884b001 T1 hl
  have b1:Zak Zko (Zb (Za 0) (Zj)) [some (Zbi cs),some (.int n)] M = .ok (.ref M.length) (M ++ [.dct (dictOf (ZaV cs))]):=by
   refine ZdN (a:=Zbi cs) (M1:=M) rfl ?_;simp only [Zbi,ZhA,ZiS,ZmS];rw [if_pos hz]; rfl
  simp only [ZeQ,b1,R3.bind,Ziz,Zb,Za,eC,Zj,Yh,Yf];simp only [ZaQ,Zlu,Zlx,Yey,if_true,Zk9,Zk3,ZiB,ZiD];rw [ZoN h]
 exact Rt.pure (env:=[some (Zbi cs),some (.int n)]) (Zaq h1) rfl
theorem ZjK (r:Row) (bs:List Int) (p many:Nat) (M:Store) (hb:bs.length = 8) (hr:r.ok many):Zc0 [Zq r,.int p,Zh bs] M = .ok (.int (r.place bs p)) M:=by
 refine Rt.pure (G:=[]) (env:=[some (Zq r),some (.int p),some (Zh bs)]) ?_ rfl;rw [Yp];cases r with
 | when a k=>
  obtain ⟨x,hx,gx⟩:=Za8 hb hr.1;have g:Ze (Zh bs) (.int (a:Int)) M = .ok (.int x) M:=by simp only [Zh,ZaT,ZaU,ZaS,ZaL,gx]
  have cc:(Zc7 (e2 Zam (e2 Ze (Za 0) (eC (.int 0))) (eC (.str [119,104,101,110]))) (e2 ZgB (e2 Ze (Za 2) (e2 Ze (Za 0) (eC (.int 1)))) (eC (.int 0)))) [some (Zq (.when a k)),some (.int p),some (Zh bs)] M = .ok (.bl (decide (0 < x))) M:=(ZgY (M1:=M) rfl).trans (Zac (Zac (b:=.int (a:Int)) rfl rfl g) rfl rfl);have s0:(e2 Zam (e2 Ze (Za 0) (eC (.int 0))) (eC (.str [106,117,109,112]))) [some (Zq (.when a k)),some (.int p),some (Zh bs)] M = .ok (.bl false) M:=rfl;simp only [Row.place,hx];by_cases c:0 < x
  ·rw [decide_eq_true c] at cc
   rw [if_pos c];exact (Zg (Zo s0)).trans (Zah ((Zas cc).trans rfl))
  ·rw [decide_eq_false c] at cc
   rw [if_neg c];exact (Zg (Zo s0)).trans ((Zg (Zo cc)).trans rfl)
 | _=>rfl
theorem ZmV (x y:Int) (M:Store):ZcT [.str [97,100,100],.int x,.int y] M = .ok (.int (x + y)) M:=by simp [ZcT,Zf6,Zw,Zaj,Zaf,sIf,Zab,Zbq,mkF,ZdS,below,belowL,ZbS]
theorem ZmX (x y:Int) (M:Store):ZcT [.str [115,117,98],.int x,.int y] M = .ok (.int (x - y)) M:=by simp [ZcT,Zf6,Zw,Zaj,Zaf,sIf,Zab,Zbq,mkF,ZdS,below,belowL,ZbS]
theorem Zmd (x y:Int) (M:Store):ZcT [.str [109,111,114,101],.int x,.int y] M = .ok (.int (if y < x then 1 else 0)) M:=by
 by_cases c:y < x <;> simp [ZcT,Zf6,Zw,Zaj,Zaf,sIf,Zab,Zbq,mkF,ZdS,below,belowL,ZbS,c]
theorem Zjx (r:Row) (bs:List Int) (cs:List (Int × Int)) (many:Nat) (M:Store) (hb:bs.length = 8) (hr:r.ok many) (hk:keysOk cs) (hl:cs.length <= 5000):ZeD [Zq r,Zh bs,Zbi cs] M = .ok (Zh (r.boxes bs cs)) M:=by
 have wb:∀ (a:Nat) (v:Int),a < 8 -> Zca [Zh bs,.int a,.int v] M = .ok (Zh (bs.set a v)) M:=fun a v ha=>Zic bs a v M (by rw [hb]; exact ha) (by rw [hb]; decide);have cv:∀ (n:Int),ZdG [Zbi cs,.int n] M = .ok (.int (ZfQ cs n)) M:=fun n=>ZjL cs n M hk hl;have gt:∀ {a:Nat} {x:Int},Zbb (bs.map D.int) (a:Int) = some (.int x) -> Ze (Zh bs) (.int (a:Int)) M = .ok (.int x) M:=fun {a x} g=>by simp only [Zh,ZaT,ZaU,ZaS,ZaL,g]
 have tp:∀ env,(ZaB (Zb (eC (.str [97,100,100])) (Zb (eC (.str [115,117,98])) (Zb (eC (.str [109,111,114,101])) (Zj))))) env M = .ok (.tup [.str [97,100,100],.str [115,117,98],.str [109,111,114,101]]) M:=fun env=>by simp
 refine Rt.pure (G:=[]) (env:=[some (Zq r),some (Zh bs),some (Zbi cs),none]) ?_ (Ze6 _ _);rw [Yp];have pre:∀ {w:List Nat} {o:O3} {k:S3},Ze (Zq r) (.int 0) M = .ok (.str w) M -> k [some (Zq r),some (Zh bs),some (Zbi cs),some (.str w)] M = o -> Zw (Zaj 3 (e2 Ze (Za 0) (eC (.int 0)))) k [some (Zq r),some (Zh bs),some (Zbi cs),none] M = o:=fun {w o k} h1 h=>(Zg (Zy (Zac rfl rfl h1))).trans h;have sk:∀ {w v:List Nat} {f k:S3} {o:O3},decide (w = v) = false -> k [some (Zq r),some (Zh bs),some (Zbi cs),some (.str w)] M = o -> Zw (sIf (e2 Zam (Za 3) (eC (.str v))) f Zab) k [some (Zq r),some (Zh bs),some (Zbi cs),some (.str w)] M = o:=fun {w v f k o} h1 h=>(Zg (Zo (M':=M) (Zac rfl rfl (by simp only [Zam,ZdF,ZdJ,ZdQ,ZdE,ZdH,h1])))).trans h;have wk:∀ {w:List Nat} {a b c:Nat} {x y z:Int},Zq r = .tup [.str w,.int a,.int b,.int c] -> ZcT [.str w,.int x,.int y] M = .ok (.int z) M -> a < 8 -> Zbb (bs.map D.int) (b:Int) = some (.int x) -> Zbb (bs.map D.int) (c:Int) = some (.int y) -> ZhQ (.str w) (.tup [.str [97,100,100],.str [115,117,98],.str [109,111,114,101]]) M = .ok (.bl true) M ->
   (Zw (sIf (e2 ZhQ (Za 3) (ZaB (Zb (eC (.str [97,100,100])) (Zb (eC (.str [115,117,98])) (Zb (eC (.str [109,111,114,101])) (Zj)))))) (Zaf (Zae Zca (Zb (Za 1) (Zb (e2 Ze (Za 0) (eC (.int 1))) (Zb (Zae ZcT (Zb (Za 3) (Zb (e2 Ze (Za 1) (e2 Ze (Za 0) (eC (.int 2)))) (Zb (e2 Ze (Za 1) (e2 Ze (Za 0) (eC (.int 3)))) (Zj))))) (Zj)))))) (Zab)) (Zaf (Za 1))) [some (Zq r),some (Zh bs),some (Zbi cs),some (.str w)] M = .rt (Zh (bs.set a z)) M:=fun {w a b c x y z} he hw ha gx gy hin=>by
  rw [he];exact Zah ((Zas (Zac rfl (tp _) hin)).trans (Zaq (Zb8 rfl (b:=.int (a:Int)) (M2:=M) rfl (Zb8 rfl (Zac rfl (b:=.int (b:Int)) (M2:=M) rfl (gt gx)) (Zac rfl (b:=.int (c:Int)) (M2:=M) rfl (gt gy)) hw) (wb a z ha))))
 have no:∀ {w:List Nat},Ze (Zq r) (.int 0) M = .ok (.str w) M -> decide (w = [112,117,116]) = false -> decide (w = [103,101,116]) = false -> ZhQ (.str w) (.tup [.str [97,100,100],.str [115,117,98],.str [109,111,114,101]]) M = .ok (.bl false) M -> ZfH [some (Zq r),some (Zh bs),some (Zbi cs),none] M = .rt (Zh bs) M:=fun {w} h1 h2 h3 h4=>
  pre h1 (sk h2 (sk h3 ((Zg (Zo (Zac rfl (tp _) h4))).trans rfl)))
 cases r with
 | put a n=>exact pre rfl (Zah ((Zas (M':=M) rfl).trans (Zaq (Zb8 rfl rfl rfl (wb a n hr)))))
 | get a b=>
  obtain ⟨x,hx,gx⟩:=Za8 hb hr.2;simp only [Row.boxes,hx];exact pre rfl (sk rfl (Zah ((Zas (M':=M) rfl).trans (Zaq (Zb8 rfl (b:=.int (a:Int)) (M2:=M) rfl (Zck rfl (Zac rfl (b:=.int (b:Int)) (M2:=M) rfl (gt gx)) (cv x)) (wb a _ hr.1))))))
 | add a b c=>
  obtain ⟨x,hx,gx⟩:=Za8 hb hr.2.1;obtain ⟨y,hy,gy⟩:=Za8 hb hr.2.2;simp only [Row.boxes,hx,hy];exact pre rfl (sk rfl (sk rfl (wk rfl (ZmV x y M) hr.1 gx gy rfl)))
 | sub a b c=>
  obtain ⟨x,hx,gx⟩:=Za8 hb hr.2.1;obtain ⟨y,hy,gy⟩:=Za8 hb hr.2.2;simp only [Row.boxes,hx,hy];exact pre rfl (sk rfl (sk rfl (wk rfl (ZmX x y M) hr.1 gx gy rfl)))
 | more a b c=>
  obtain ⟨x,hx,gx⟩:=Za8 hb hr.2.1;obtain ⟨y,hy,gy⟩:=Za8 hb hr.2.2;simp only [Row.boxes,hx,hy];exact pre rfl (sk rfl (sk rfl (wk rfl (Zmd x y M) hr.1 gx gy rfl)))
 | _=>exact no rfl rfl rfl rfl
noncomputable def Zbo (p:Int) (bs:List Int):D:=.tup [.int p,Zh bs]
theorem Zho (a b:Int) (M:Store):Zb6 [.int a,.int b] M = .ok (.bl (decide (0 <= a) && decide (a < b))) M:=by
 by_cases h:0 <= a <;> simp [Zb6,Zgf,Zw,Zaj,Zaf,sIf,Zab,Zbq,mkF,ZdS,below,belowL,ZbS,h]
theorem ZjS (roll:Zbx) (p:Int) (M:Store):Zdc [Zf roll,.int p] M = .ok (if 0 <= p /\ p < roll.length then (match roll[p.toNat]? with | some r=>Zq r | none=>.non) else .non) M:=by
 have w:=Zho p roll.length M;have e1:Zae Zb6 (Zb (Za 1) (Zb (Zak ZaR (Zb (Za 0) (Zj))) (Zj))) [some (Zf roll),some (.int p)] M = .ok (.bl (decide (0 <= p) && decide (p < roll.length))) M:=Zck rfl (by simp [Zf]) w;by_cases h:0 <= p /\ p < roll.length
 ·rw [if_pos h]
  obtain ⟨k,rfl⟩:=Ya6 h.1;have hk:k < roll.length:=Yb3.1 h.2;have e2:(e2 Ze (Za 0) (Za 1)) [some (Zf roll),some (.int (k:Int))] M = .ok (Zq roll[k]) M:=by simp [Zf,hk]
  have hb:below M.length (Zq roll[k]) = true:=by cases roll[k] <;> rfl
  refine (Rt.pure (G:=[]) (env:=[some (Zf roll),some (.int (k:Int))]) (d:=Zq roll[k]) ?_ hb).trans (by simp [hk]);rw [Yp];refine Zaq ((Zsa (M1:=M) ?_).trans e2);rw [e1]; simp [hk]
 ·rw [if_neg h]
  refine Rt.pure (G:=[]) (env:=[some (Zf roll),some (.int p)]) ?_ rfl;rw [Yp];refine Zaq ((Zsb (M1:=M) ?_).trans rfl);rw [e1];have:(decide (0 <= p) && decide (p < roll.length)) = false:=by
   rw [← Ygw]; exact decide_eq_false h
  rw [this]
theorem Zkm:∀ a b:List Int,Zej (a.map D.int) (b.map D.int) = decide (a = b)
 | [],[]=>by exact rfl
 | [],_ :: _=>by exact rfl
 | _ :: _,[]=>by exact rfl
 | x :: a,y :: b=>by
  simp only [Y9,ZhI,ZfS,Zht,Zg6,Zg9,Zhk,Zgh,Zkm a b,Yel,Ygw];rfl
theorem ZlX (a b:List Int):deq (Zh a) (Zh b) = decide (a = b):=by
 simp only [Zh,Zht,Zg6,Zg9,Zhk,Zgh]; exact Zkm a b
noncomputable def Zcx (r:Row) (bs bs':List Int):List Int:=match r with
 | .get a _=>bs.set a (bs'.getD a 0)
 | r=>r.boxes bs []
noncomputable def ZjE (roll:Zbx) (p:Int) (bs:List Int) (p':Int) (bs':List Int):Bool:=if 0 <= p /\ p < roll.length then (match roll[p.toNat]? with
 | some r=>if r.isHalt then false else decide (p' = (r.place bs p.toNat:Nat)) && decide (bs' = Zcx r bs bs')
 | none=>false) else false
theorem Zim (r:Row) (bs bs':List Int) (many:Nat) (M:Store) (hr:r.ok many) (hb:bs.length = 8) (hb':bs'.length = 8):ZbV [Zq r,Zh bs,Zh bs'] M = .ok (Zh (Zcx r bs bs')) M:=by
 have other:(∀ a b,r ≠ .get a b) -> ZbV [Zq r,Zh bs,Zh bs'] M = .ok (Zh (r.boxes bs [])) M:=fun hg=>by
  have nb:=Zjx r bs [] many M hb hr (by simp [keysOk]) (by simp);refine Rt.pure (G:=[]) (env:=[some (Zq r),some (Zh bs),some (Zh bs')]) ?_ (Ze6 _ _);rw [Yp];refine (Zg (Zo (M':=M) ?_)).trans (Zaq (Zb8 (c:=Zbi []) rfl rfl (by simp [Zbi]) nb));cases r <;> first | exact rfl | simp [Zq] <;> exact absurd rfl (hg _ _)
 cases r with
 | get a b=>
  obtain ⟨x,hx,gx⟩:=Za8 hb' hr.1;have wb:=Zic bs a x M (by rw [hb]; exact hr.1) (lA 1 0x3e83b0081b021 T1 hb);refine Rt.pure (G:=[]) (env:=[some (Zq (.get a b)),some (Zh bs),some (Zh bs')]) ?_ (Ze6 _ _);rw [Yp];simp only [Zcx,hx];refine Zah ((Zas (M':=M) (by exact rfl)).trans (Zaq (Zb8 (a:=Zh bs) (b:=.int (a:Int)) (c:=.int x) (M1:=M) (M2:=M) (M3:=M) rfl (by exact rfl) ?_ wb)));simp [Zq,Zh,-ZcD,gx]
 | _=>exact other (fun a b h=>by cases h)
theorem Zk5 (roll:Zbx) (R:ZbX roll) (p:Int) (bs:List Int) (p':Int) (bs':List Int) (M:Store) (hb:bs.length = 8) (hb':bs'.length = 8):
  Zdz [Zf roll,Zbo p bs,Zbo p' bs'] M = .ok (.bl (ZjE roll p bs p' bs')) M:=by
 have ra:=ZjS roll p M;refine Rt.pure (G:=[]) (env:=[some (Zf roll),some (Zbo p bs),some (Zbo p' bs'),none,none,none]) ?_ rfl;rw [Yp];refine (Zg (Zy (d:=.int p) (M':=M) (by exact rfl))).trans ((Zg (Zy (d:=Zh bs) (M':=M) (by exact rfl))).trans ((Zg (Zy (Zck rfl rfl ra))).trans ?_));unfold ZjE;by_cases h:0 <= p /\ p < roll.length
 ·rw [if_pos h,if_pos h]
  obtain ⟨k,rfl⟩:=Ya6 h.1;have hk:k < roll.length:=Yb3.1 h.2;have hr:roll[k]? = some roll[k]:=by simp [hk]
  have ro:=R.rows _ (Yu hk);simp only [Yci,Yav,hr];generalize roll[k] = r at hr ro;by_cases hh:r.isHalt = true
  ·rw [if_pos hh]
   have:r = .halt:=by cases r <;> simp at hh ⊢
   subst this;exact Zah ((Zas (M':=M) (by exact rfl)).trans rfl)
  ·rw [if_neg hh]
   have np:=ZjK r bs k roll.length M hb ro;have bb:=Zim r bs bs' roll.length M ro hb hb';have hp1:ZaM DEEP (.int p') = true:=ZcW _ _;have hp2:ZaM DEEP (Zh bs') = true:=Zgo _ _;have hp3:ZaM DEEP (Zh (Zcx r bs bs')) = true:=Zgo _ _;have hp4:ZaM DEEP (.int ((r.place bs k:Nat):Int)) = true:=ZcW _ _;refine (Zg (Zo (M':=M) ?_)).trans (Zaq ?_)
   ·cases r <;> first | exact rfl | simp [Zq] at hh ⊢
   ·refine Zac (a:=Zbo p' bs') (b:=Zbo (r.place bs k:Nat) (Zcx r bs bs')) (M1:=M) (M2:=M) rfl ?_ ?_
    ·have x1:Zae Zc0 (Zb (Za 5) (Zb (Za 3) (Zb (Za 4) (Zj)))) [some (Zf roll),some (Zbo (k:Int) bs),some (Zbo p' bs'),some (.int (k:Int)),some (Zh bs),some (Zq r)] M = .ok (.int ((r.place bs k:Nat):Int)) M:=Zb8 rfl rfl rfl np
     have x2:Zae ZbV (Zb (Za 5) (Zb (Za 4) (Zb (e2 Ze (Za 2) (eC (.int 1))) (Zj)))) [some (Zf roll),some (Zbo (k:Int) bs),some (Zbo p' bs'),some (.int (k:Int)),some (Zh bs),some (Zq r)] M = .ok (Zh (Zcx r bs bs')) M:=Zb8 rfl rfl (by exact rfl) bb;generalize Zae Zc0 (Zb (Za 5) (Zb (Za 3) (Zb (Za 4) (Zj)))) = E1 at x1;generalize Zae ZbV (Zb (Za 5) (Zb (Za 4) (Zb (e2 Ze (Za 2) (eC (.int 1))) (Zj)))) = E2 at x2;simp only [ZaB,Zb,Zj,R3.bind,x1,x2];simp [Zbo]
    ·have hd:Zej [.int p',Zh bs'] [.int ((r.place bs k:Nat):Int),Zh (Zcx r bs bs')] = (decide (p' = ((r.place bs k:Nat):Int)) && decide (bs' = Zcx r bs bs')):=by
      simp only [ZhI,ZfS,Zht,Zg6,Zg9,Zhk,Zgh,ZlX,Yfm];rfl
     simp only [Zam,ZdF,ZdJ,ZdQ,ZdE,ZdH,Zbo,Yb2,Ydp,hp1,hp2,hp3,hp4,Ycu,if_true,hd]
 ·rw [if_neg h,if_neg h]
  exact Zah ((Zas (M':=M) (by exact rfl)).trans rfl)
noncomputable def Zes (a:Option Use) (r:Use):Bool:=match a with
 | none=>decide (r.word ≠ GET) || decide (r.val = 0)
 | some a=>if r.num < a.num \/ (r.num = a.num /\ r.time <= a.time) then false else if r.word ≠ GET then true else if a.num = r.num then decide (r.val = a.val) else decide (r.val = 0)
theorem ZlV (a:Option Use) (r:Use) (M:Store) (c:Bool) (v:Int) (h1:(Zc7 (e2 Zcb (Za 0) (eC .non)) (e2 Zam (e2 Ze (Za 0) (eC (.int 0))) (e2 Ze (Za 1) (eC (.int 0))))) [some (ZfO a),some (Zr r),none] M = .ok (.bl c) M) (h2:(eIf (Za 2) (e2 Ze (Za 0) (eC (.int 3))) (eC (.int 0))) [some (ZfO a),some (Zr r),some (.bl c)] M = .ok (.int v) M):
  (Zw (sIf (e2 ZbC (e2 Ze (Za 1) (eC (.int 2))) (eC (.str [103,101,116]))) (Zaf (eC (.bl true))) (Zab)) (Zw (Zaj 2 (Zc7 (e2 Zcb (Za 0) (eC .non)) (e2 Zam (e2 Ze (Za 0) (eC (.int 0))) (e2 Ze (Za 1) (eC (.int 0)))))) (Zaf (e2 Zam (e2 Ze (Za 1) (eC (.int 3))) (eIf (Za 2) (e2 Ze (Za 0) (eC (.int 3))) (eC (.int 0))))))) [some (ZfO a),some (Zr r),none] M = .rt (.bl (decide (r.word ≠ GET) || decide (r.val = v))) M:=by
 have c2:(e2 ZbC (e2 Ze (Za 1) (eC (.int 2))) (eC (.str [103,101,116]))) [some (ZfO a),some (Zr r),none] M = .ok (.bl (!decide (r.word = GET))) M:=Zac (a:=.str r.word) rfl rfl rfl;by_cases h:r.word = GET
 ·rw [decide_eq_true h] at c2
  refine (Zg (Zo c2)).trans ((Zg (Zy h1)).trans (Zaq (Zac (a:=.int r.val) rfl h2 ?_)));rw [decide_eq_false (fun z=>z h)]; rfl
 ·rw [decide_eq_false h] at c2
  refine Zah ((Zas c2).trans ?_);rw [decide_eq_true h]; rfl
theorem Zmh (a:Option Use) (r:Use) (M:Store):Zdj [ZfO a,Zr r] M = .ok (.bl (Zes a r)) M:=by
 refine Rt.pure (G:=[]) (env:=[some (ZfO a),some (Zr r),none]) ?_ rfl;rw [Yp];cases a with
 | none=>exact (Zg (Zo (M':=M) rfl)).trans (ZlV none r M false 0 rfl rfl)
 | some a=>
  have c1:(Zc7 (e2 Zcb (Za 0) (eC .non)) (e2 ZlJ (eSl (Za 1) (ZaE) (ZaI (eC (.int 2)))) (eSl (Za 0) (ZaE) (ZaI (eC (.int 2)))))) [some (ZfO (some a)),some (Zr r),none] M = .ok (.bl (decide (r.num < a.num) || (decide (r.num = a.num) && decide (r.time <= a.time)))) M:=rfl;have c3:(Zc7 (e2 Zcb (Za 0) (eC .non)) (e2 Zam (e2 Ze (Za 0) (eC (.int 0))) (e2 Ze (Za 1) (eC (.int 0))))) [some (ZfO (some a)),some (Zr r),none] M = .ok (.bl (decide (a.num = r.num))) M:=rfl;simp only [Zes];by_cases h:r.num < a.num \/ (r.num = a.num /\ r.time <= a.time)
  ·rw [show (decide (r.num < a.num) || (decide (r.num = a.num) && decide (r.time <= a.time))) = true by simpa using h] at c1
   rw [if_pos h];exact Zah (Zas c1)
  ·rw [show (decide (r.num < a.num) || (decide (r.num = a.num) && decide (r.time <= a.time))) = false by simpa using h] at c1
   rw [if_neg h];refine (Zg (Zo c1)).trans ((ZlV (some a) r M (decide (a.num = r.num)) (if a.num = r.num then a.val else 0) c3 ?_).trans ?_)
   ·by_cases z:a.num = r.num
    ·rw [decide_eq_true z,if_pos z]; rfl
    ·rw [decide_eq_false z,if_neg z]; rfl
   ·by_cases w:r.word ≠ GET
    ·rw [if_pos w,decide_eq_true w]; rfl
    ·rw [if_neg w,decide_eq_false w]
     split <;> rfl
noncomputable def ZgU (roll:Zbx) (p:Int):Option Row:=if 0 <= p /\ p < roll.length then roll[p.toNat]? else none
noncomputable def Zj9:Option Row -> D
 | none=>.non
 | some r=>Zq r
theorem Zjt (roll:Zbx) (p:Int) (M:Store):Zdc [Zf roll,.int p] M = .ok (Zj9 (ZgU roll p)) M:=by
 rw [ZjS];unfold ZgU;by_cases h:0 <= p /\ p < roll.length
 ·rw [if_pos h,if_pos h]
  cases roll[p.toNat]? <;> rfl
 ·rw [if_neg h,if_neg h]; rfl
theorem Zrk {roll:Zbx} (R:ZbX roll) {p:Int} {r:Row} (h:ZgU roll p = some r):r.ok roll.length:=by
 unfold ZgU at h;split at h
 ·exact R.rows _ (Yax h)
 ·cases h
noncomputable abbrev Stp:=Int × List Int
noncomputable def Zan (s:Stp):D:=Zbo s.1 s.2
noncomputable def ZaF (ts:List Stp):D:=.tup (ts.map Zan)
noncomputable def ZfT (o:Option Row) (bs bs':List Int) (u:Use):Bool:=match o with
 | some (.get a b)=>decide (u.word = GET) && decide (u.num = bs.getD b 0) && decide (u.val = bs'.getD a 0)
 | some (.set a b)=>decide (u.word = SET) && decide (u.num = bs.getD a 0) && decide (u.val = bs.getD b 0)
 | _=>false
noncomputable def Zdk (roll:Zbx) (ts:List Stp) (u:Use):Bool:=if 0 <= u.time /\ u.time + 1 < ts.length then (match ts[u.time.toNat]?,ts[u.time.toNat + 1]? with
 | some s,some s'=>ZfT (ZgU roll s.1) s.2 s'.2 u
 | _,_=>false) else false
noncomputable def Zhz:Row -> Bool
 | .get ..=>true
 | .set ..=>true
 | _=>false
theorem ZoE (r:Row):(∃ a b,r = .get a b) \/ (∃ a b,r = .set a b) \/ (Zhz r = false /\ ∀ bs bs' u,ZfT (some r) bs bs' u = false):=by
 cases r with
 | get a b=>exact .inl ⟨a,b,rfl⟩
 | set a b=>exact .inr (.inl ⟨a,b,rfl⟩)
 | _=>exact .inr (.inr ⟨rfl,fun _ _ _=>rfl⟩)
theorem Zgm (r:Row) (M:Store):ZcU [Zq r] M = .ok (.bl (Zhz r)) M:=by
 have e:Zhz r = ([103,101,116] == Zed r || [115,101,116] == Zed r):=by cases r <;> rfl
 refine (ZdC (env:=[some (Zq r)]) (M':=M) (d:=.bl (Zhz r)) (Zaq (Zac (Zac rfl rfl (ZeY r M)) (ZcO rfl rfl) ?_))).trans (Zeb rfl);rw [e];simp [ZcN,Zht,Zg6,Zg9,Zhk,Zgh]
theorem Zio (a b:Nat) (bs:List Int) (M:Store) (hb:bs.length = 8) (lb:b < 8):Zbp [Zq (.get a b),Zh bs] M = .ok (.int (bs.getD b 0)) M:=by
 obtain ⟨x,hx,gx⟩:=Za8 hb lb;rw [hx];simp [Zbp,Zd9,Zw,Zaj,Zaf,sIf,Zab,Zbq,mkF,ZdS,below,belowL,ZbS,Zq,Zh,-ZcD,gx]
theorem Zii (a b:Nat) (bs:List Int) (M:Store) (hb:bs.length = 8) (la:a < 8):Zbp [Zq (.set a b),Zh bs] M = .ok (.int (bs.getD a 0)) M:=by
 obtain ⟨x,hx,gx⟩:=Za8 hb la;rw [hx];simp [Zbp,Zd9,Zw,Zaj,Zaf,sIf,Zab,Zbq,mkF,ZdS,below,belowL,ZbS,Zq,Zh,-ZcD,gx]
noncomputable abbrev Zij (roll:Zbx) (ts:List Stp) (n:Int) (k:Nat) (w:List Nat) (v:Int) (bs:List Int) (o:Option Row):ZaD:=[some (Zf roll),some (ZaF ts),some (Zr ⟨n,(k:Int),w,v⟩),some (.int (k:Int)),some (Zh bs),some (Zj9 o)]
theorem ZiU (roll:Zbx) (R:ZbX roll) (ts:List Stp) (h8:∀ s ∈ ts,s.2.length = 8) (u:Use) (M:Store):
  Zb9 [Zf roll,ZaF ts,Zr u] M = .ok (.bl (Zdk roll ts u)) M:=by
 obtain ⟨n,t,w,v⟩:=u;have iw:=Zho t ((ts.length:Int) - 1) M;refine Rt.pure (G:=[]) (env:=[some (Zf roll),some (ZaF ts),some (Zr ⟨n,t,w,v⟩),none,none,none]) ?_ rfl;rw [Yp];have c0:Zae Zb6 (Zb (Za 3) (Zb (e2 ZbG (Zak ZaR (Zb (Za 1) (Zj))) (eC (.int 1))) (Zj))) [some (Zf roll),some (ZaF ts),some (Zr ⟨n,t,w,v⟩),some (.int t),none,none] M = .ok (.bl (decide (0 <= t) && decide (t < (ts.length:Int) - 1))) M:=Zck rfl (by simp [ZaF]) iw;refine (Zg (Zy (d:=.int t) (M':=M) (by exact rfl))).trans ?_;unfold Zdk;by_cases h:0 <= t /\ t + 1 < ts.length
 ·rw [if_pos h]
  obtain ⟨k,rfl⟩:=Ya6 h.1;have hk:k + 1 < ts.length:=by exact iN [_,_] [] 1 458226179017873 T1 h.2
  have gs:ts[k]? = some ts[k]:=by simp [show k < ts.length by exact lB 1 4313451537 T1 hk]
  have gs':ts[k + 1]? = some ts[k + 1]:=by simp [hk]
  have l8:=h8 _ (Yu (show k < ts.length by exact lB 1 4313451537 T1 hk));have l8':=h8 _ (Yu hk);simp only [Yci,Yav,gs,gs'];generalize ts[k] = s at gs l8;generalize ts[k + 1] = s' at gs' l8';obtain ⟨p,bs⟩:=s;obtain ⟨p',bs'⟩:=s';have n0:(decide (0 <= (k:Int)) && decide ((k:Int) < (ts.length:Int) - 1)) = true:=by
   simp; exact iN [_,_] [] 1 0xa18f0891a0c11 T1 hk
  have gi:(ZaF ts) = .tup (ts.map Zan):=rfl;refine (Zg (Zo (M':=M) (ZfX c0 (by simp [n0]; exact iN [_,_] [] 1 0xa18f0891a0c11 T1 hk)))).trans ?_;refine (Zg (Zy (d:=Zh bs) (M':=M) (by simp [ZaF,gs,Zan,Zbo]))).trans ?_;have ra:=Zjt roll p M;refine (Zg (Zy (d:=Zj9 (ZgU roll p)) (M':=M) (Zck (b:=.int p) (M1:=M) (M2:=M) rfl (by simp [ZaF,gs,Zan,Zbo]) ra))).trans ?_;show Zw _ _ (Zij roll ts n k w v bs (ZgU roll p)) M = _;simp only [ZfT];have no:∀ r,ZgU roll p = some r -> Zhz r = false -> Zw (sIf (eOr (e2 Zkz (Za 5) (eC .non)) (eOr (e1 Zb0 (Zae ZcU (Zb (Za 5) (Zj)))) (e2 ZbC (e2 Ze (Za 2) (eC (.int 2))) (e2 Ze (Za 5) (eC (.int 0)))))) (Zaf (eC (.bl false))) (Zab)) (Zw (sIf (e2 ZbC (e2 Ze (Za 2) (eC (.int 0))) (Zae Zbp (Zb (Za 5) (Zb (Za 4) (Zj))))) (Zaf (eC (.bl false))) (Zab)) (Zw (sIf (e2 Zam (e2 Ze (Za 5) (eC (.int 0))) (eC (.str [103,101,116]))) (Zaf (e2 Zam (e2 Ze (Za 2) (eC (.int 3))) (e2 Ze (e2 Ze (e2 Ze (Za 1) (e2 Zag (Za 3) (eC (.int 1)))) (eC (.int 1))) (e2 Ze (Za 5) (eC (.int 1)))))) (Zab)) (Zaf (e2 Zam (e2 Ze (Za 2) (eC (.int 3))) (e2 Ze (Za 4) (e2 Ze (Za 5) (eC (.int 2))))))))
    (Zij roll ts n k w v bs (some r)) M = .rt (.bl false) M:=fun r hr hu=>by
   have iu:=Zgm r M;rw [hu] at iu;refine Zah ((Zas (M':=M) ?_).trans rfl);rw [ZdU (M1:=M) (by cases r <;> first | exact rfl | simp [Zij,Zj9,Zq]),ZiT (M1:=M) (ZfX (ZhL rfl iu) rfl)]
  cases hr:ZgU roll p with
  | none=>exact Zah ((Zas (M':=M) (by exact rfl)).trans rfl)
  | some r=>
   have ro:=Zrk R hr;rcases ZoE r with ⟨a,b,rfl⟩ | ⟨a,b,rfl⟩ | ⟨n1,n2⟩
   ·
    have iu:=Zgm (.get a b) M;have cn:=Zio a b bs M l8 ro.2;obtain ⟨y,hy,gy⟩:=Za8 l8' ro.1;have x1:(e2 ZbC (e2 Ze (Za 2) (eC (.int 2))) (e2 Ze (Za 5) (eC (.int 0)))) (Zij roll ts n k w v bs (some (.get a b))) M = .ok (.bl (!decide (w = GET))) M:=by exact rfl
    have e0:(eOr (e2 Zkz (Za 5) (eC .non)) (eOr (e1 Zb0 (Zae ZcU (Zb (Za 5) (Zj)))) (e2 ZbC (e2 Ze (Za 2) (eC (.int 2))) (e2 Ze (Za 5) (eC (.int 0)))))) (Zij roll ts n k w v bs (some (.get a b))) M = .ok (.bl (!decide (w = GET))) M:=by
     rw [ZdU (M1:=M) (by exact rfl),ZdU (M1:=M) (ZfX (ZhL rfl iu) rfl),x1]
    by_cases hw:w = GET
    ·rw [decide_eq_true hw] at e0
     refine (Zg (Zo e0)).trans ?_;have e2':(e2 ZbC (e2 Ze (Za 2) (eC (.int 0))) (Zae Zbp (Zb (Za 5) (Zb (Za 4) (Zj))))) (Zij roll ts n k w v bs (some (.get a b))) M = .ok (.bl (!decide (n = bs.getD b 0))) M:=Zac (a:=.int n) (M1:=M) (by exact rfl) (Zck rfl rfl cn) (by exact rfl);by_cases hn:n = bs.getD b 0
     ·rw [decide_eq_true hn] at e2'
      refine (Zg (Zo e2')).trans (Zah ((Zas (M':=M) (by exact rfl)).trans (Zaq ?_)));have e3':(e2 Ze (e2 Ze (e2 Ze (Za 1) (e2 Zag (Za 3) (eC (.int 1)))) (eC (.int 1))) (e2 Ze (Za 5) (eC (.int 1)))) (Zij roll ts n k w v bs (some (.get a b))) M = .ok (.int y) M:=by
       have gk:Zbb (ts.map Zan) ((k:Int) + 1) = some (Zan (p',bs')):=by
        rw [show ((k:Int) + 1) = ((k + 1:Nat):Int) by exact rfl,Zcm,Y1,gs']; rfl
       simp only [Zij,e2,Za,eC,ZaF,Zj9,Zq,Yf,Yh,R3.bind,Zco,Zcq,Zcl,Zcp,ZaT,ZaU,ZaS,ZaL,gk,Zan,Zbo,Zh,Zhl,gy]
      refine Zac (a:=.int v) (M1:=M) (by exact rfl) e3' ?_;simp only [Zam,ZdF,ZdJ,ZdQ,ZdE,ZdH,hy,decide_eq_true hw,decide_eq_true hn,Ycv]
     ·rw [decide_eq_false hn] at e2'
      refine (Zah ((Zas e2').trans ?_));simp only [decide_eq_true hw,decide_eq_false hn,Ycv,Yb4]; rfl
    ·rw [decide_eq_false hw] at e0
     refine (Zah ((Zas e0).trans ?_));simp [Zaf,hw]
   ·
    have iu:=Zgm (.set a b) M;have cn:=Zii a b bs M l8 ro.1;obtain ⟨y,hy,gy⟩:=Za8 l8 ro.2;have x1:(e2 ZbC (e2 Ze (Za 2) (eC (.int 2))) (e2 Ze (Za 5) (eC (.int 0)))) (Zij roll ts n k w v bs (some (.set a b))) M = .ok (.bl (!decide (w = SET))) M:=by exact rfl
    have e0:(eOr (e2 Zkz (Za 5) (eC .non)) (eOr (e1 Zb0 (Zae ZcU (Zb (Za 5) (Zj)))) (e2 ZbC (e2 Ze (Za 2) (eC (.int 2))) (e2 Ze (Za 5) (eC (.int 0)))))) (Zij roll ts n k w v bs (some (.set a b))) M = .ok (.bl (!decide (w = SET))) M:=by
     rw [ZdU (M1:=M) (by exact rfl),ZdU (M1:=M) (ZfX (ZhL rfl iu) rfl),x1]
    by_cases hw:w = SET
    ·rw [decide_eq_true hw] at e0
     refine (Zg (Zo e0)).trans ?_;have e2':(e2 ZbC (e2 Ze (Za 2) (eC (.int 0))) (Zae Zbp (Zb (Za 5) (Zb (Za 4) (Zj))))) (Zij roll ts n k w v bs (some (.set a b))) M = .ok (.bl (!decide (n = bs.getD a 0))) M:=Zac (a:=.int n) (M1:=M) (by exact rfl) (Zck rfl rfl cn) (by exact rfl);by_cases hn:n = bs.getD a 0
     ·rw [decide_eq_true hn] at e2'
      refine (Zg (Zo e2')).trans ((Zg (Zo (M':=M) (by exact rfl))).trans (Zaq ?_));refine Zac (a:=.int v) (b:=.int y) (M1:=M) (M2:=M) (by exact rfl) (by simp [Zij,Zj9,Zq,Zh,-ZcD,gy]) ?_;simp only [Zam,ZdF,ZdJ,ZdQ,ZdE,ZdH,hy,decide_eq_true hw,decide_eq_true hn,Ycv]
     ·rw [decide_eq_false hn] at e2'
      refine (Zah ((Zas e2').trans ?_));simp only [decide_eq_true hw,decide_eq_false hn,Ycv,Yb4]; rfl
    ·rw [decide_eq_false hw] at e0
     refine (Zah ((Zas e0).trans ?_));simp [Zaf,hw]
   ·have:=no r hr n1
    have e:=n2 bs bs' ⟨n,(k:Int),w,v⟩;simp only [ZfT] at e;exact this.trans (congrArg (fun b=>O3.rt (D.bl b) M) e.symm)
 ·rw [if_neg h]
  have n0:(decide (0 <= t) && decide (t < (ts.length:Int) - 1)) = false:=by
   rw [← Ygw]; exact decide_eq_false (by omega)
  rw [n0] at c0;exact Zah ((Zas (ZfX c0 rfl)).trans rfl)
theorem ZoL (lo:Int) (n:Nat):Zdl lo (n + 1) = .int lo :: Zdl (lo + 1) n:=by
 unfold Zdl;rw [Yf1];simp only [Y9,Ye0,Ydl,Int.natCast_zero,Yel,true_and];apply Ydh;intro k _;simp only [Function.comp_apply,D.int.injEq];omega
noncomputable def ZdA:Option Nat -> D
 | none=>.non
 | some k=>.int (k:Int)
theorem Zje (n:Nat) (o:Option Nat):below n (ZdA o) = true:=by cases o <;> rfl
theorem Zj4 {it:It3} (hit:it.lock = none) {i:Nat} {body:S3} {q:Nat -> Bool} {I:ZaD -> Prop} {M:Store}:∀ (m j:Nat) (env:ZaD),I env ->
  (∀ k env,j <= k -> k < j + m -> I env -> (q k = true -> body (env.set i (some (.int (k:Int)))) M = .rt (.int (k:Int)) M) /\ (q k = false -> ∃ e',I e' /\ body (env.set i (some (.int (k:Int)))) M = .nx e' M)) ->
  ∃ e',I e' /\ Ze0 it (Zcj i) body (Zdl (j:Int) m) env M = (match (Yfp j m).find? q with | some k=>.rt (.int (k:Int)) M | none=>.nx e' M)
 | 0,j,env,hI,_=>⟨env,hI,by simp [Zdl,Ze0,locked,hit]⟩
 | m + 1,j,env,hI,h=>by
  obtain ⟨h1,h2⟩:=h j env (Yj _) (lB 0 169610241 T1) hI;rw [ZoL];simp only [Ze0,locked,hit,if_true,Zcj,Yfv,Ybp];cases hq:q j with
  | true=>exact ⟨env,hI,by rw [h1 hq]⟩
  | false=>
   obtain ⟨e',hI',hb⟩:=h2 hq;obtain ⟨e2,hI2,ih⟩:=Zj4 hit m (j + 1) e' hI' fun k env a b c=>h k env (lB 1 4296674305 T1 a) (lC 1 0xa2c1c012a1cc011 T1 b) c;refine ⟨e2,hI2,?_⟩;rw [hb];rw [show ((j:Int) + 1) = ((j + 1:Nat):Int) by exact rfl];exact ih
noncomputable def Zek {α:Type} (p:α -> Bool):List α -> Nat -> Option Nat
 | [],_=>none
 | r :: rs,k=>if p r then Zek p rs (k + 1) else some k
theorem ZpG {α:Type} (p:α -> Bool) (q:Nat -> Bool):∀ (xs:List α) (k:Nat),(∀ (j:Nat) x,xs[j]? = some x -> q (k + j) = !p x) -> (Yfp k xs.length).find? q = Zek p xs k
 | [],k,_=>rfl
 | x :: xs,k,h=>by
  have h0:=h 0 x (by exact rfl);simp only [Nat.add_zero] at h0;simp only [Ya5,Yfv,Ybp,Zek,h0];cases hp:p x with
  | false=>simp
  | true=>
   simp only [Bool.not_true,if_true];exact ZpG p q xs (k + 1) fun j y hy=>by
    have:=h (j + 1) y (by simpa using hy);rw [show k + (j + 1) = k + 1 + j by exact Ym (lB 0 1790139547840 T1) (lB 0 0xa1c0c1a0cc0 T1)] at this;exact this
theorem Zjd (n:Nat):Yt n = Yfp 0 n:=by rw [List.range_eq_range']
theorem Zn6 {n:Nat} {i:I3} {iv:Nat} {c:E3} {env:ZaD} {M:Store} {q:Nat -> Bool} (hi:i env M = .ok ⟨Zdl 0 n,none⟩ M) (hv:iv = env.length) (hz:n <= 100000)
  (hc:∀ k,k < n -> ∀ M,c (env ++ [some (.int (k:Int))]) M = .ok (.bl (q k)) M):
  eLC i 1 (Zcj iv) [c] (Za iv) env M = .ok (.ref M.length) (M ++ [.lst (((Yt n).filter q).map fun k=>D.int ((k:Nat):Int))]):=by
 have es:∀ d:D,(env ++ Yg 1 none).set iv (some d) = env ++ [some d]:=fun d=>by rw [hv]; simp
 refine ZhJ (α:=Nat) (enc:=fun k=>D.int (0 + (k:Int))) (h:=fun k=>D.int (k:Int)) (p:=q) (own:=1) (i:=iv) (it:=i) (c:=c) (elt:=Za iv) (lock:=none) (as:=Yt n) (by rw [hi]; rfl) (fun _ h=>by cases h) ?_ ?_ (by simpa using hz)
 ·intro k hk M
  rw [es,Ydk];exact hc k (by simpa using hk) M
 ·intro k hk _ M
  rw [es,Ydk,hv];simp
theorem ZfW {q:Nat -> Bool} {n:Nat}:(((Yt n).filter q).map fun k=>D.int ((k:Nat):Int)) = [] /\ (Yt n).find? q = none \/ ∃ (k:Nat) (xs:List D),(((Yt n).filter q).map fun k=>D.int ((k:Nat):Int)) = .int (k:Int) :: xs /\ (Yt n).find? q = some k:=by
 have h:=List.head?_filter (p:=q) (l:=Yt n);cases hf:(Yt n).filter q with
 | nil=>rw [hf] at h; exact .inl ⟨rfl,h.symm⟩
 | cons k xs=>rw [hf] at h; exact .inr ⟨k,_,rfl,h.symm⟩
theorem ZqJ {q:Nat -> Bool} {n a b:Nat} {M:Store} (h1:M[a]? = some (.lst (((Yt n).filter q).map fun k=>D.int ((k:Nat):Int)))) (h2:M[b]? = some (.lst [])):ZbC (.ref a) (.ref b) M = .ok (.bl ((Yt n).find? q).isSome) M:=by
 have pu:(((Yt n).filter q).map fun k=>D.int ((k:Nat):Int)).all (ZaM DEEP) = true:=by
  simp only [Ye1,Yaf];intro k _;exact ZcW _ _
 simp only [ZbC,ZdF,ZdJ,ZdQ,ZdE,ZdH,h1,h2,pu,Ydp,Ycu,if_true];rcases ZfW (q:=q) (n:=n) with ⟨e,f⟩ | ⟨k,xs,e,f⟩
 ·rw [e,f]; rfl
 ·rw [e,f]; rfl
noncomputable def Zd3:Option Use -> List Use -> Nat -> Option Nat
 | _,[],_=>none
 | a,r :: rs,k=>if Zes a r then Zd3 (some r) rs (k + 1) else some k
theorem ZiQ (d0 d1:D) (M:Store):∀ (rs:List Use) (k:Nat) (a:Option Use) (x3 x4:Option D),
  ZfM [] (Zci [3,4]) (Zw (sIf (e1 Zb0 (Zae Zdj (Zb (Za 2) (Zb (Za 4) (Zj))))) (Zaf (Za 3)) (Zab)) (Zaj 2 (Za 4))) (Ze9 k (rs.map Zr)) [some d0,some d1,some (ZfO a),x3,x4] M =
   match Zd3 a rs k with
   | none=>(match rs.getLast? with | none=>.nx [some d0,some d1,some (ZfO a),x3,x4] M | some r=>.nx [some d0,some d1,some (Zr r),some (.int ((k + rs.length - 1:Nat):Int)),some (Zr r)] M)
   | some j=>.rt (.int (j:Int)) M
 | [],k,a,x3,x4=>by exact rfl
 | r :: rs,k,a,x3,x4=>by
  have uf:=Zmh a r M;have ih:=ZiQ d0 d1 M rs (k + 1) (some r) (some (.int (k:Int))) (some (Zr r));simp only [Y9,Ze9,ZfM,Zey,Ydp,if_true,Zci,ZeW,ZeZ,Ybu,Ybv,Zd3];cases h:Zes a r with
  | false=>
   rw [h] at uf;simp [Zw,sIf,Zaf,uf]
  | true=>
   rw [h] at uf;simp only [if_true];have b:(Zw (sIf (e1 Zb0 (Zae Zdj (Zb (Za 2) (Zb (Za 4) (Zj))))) (Zaf (Za 3)) (Zab)) (Zaj 2 (Za 4))) [some d0,some d1,some (ZfO a),some (.int (k:Int)),some (Zr r)] M = .nx [some d0,some d1,some (Zr r),some (.int (k:Int)),some (Zr r)] M:=by
    simp [Zw,sIf,Zab,Zaj,uf]
   rw [b];refine Ydt ih ?_;cases hf:Zd3 (some r) rs (k + 1) with
   | some j=>rfl
   | none=>
    cases rs with
    | nil=>simp [ZfO]
    | cons r2 rs=>
     cases hgl:(r2 :: rs).getLast? with
     | none=>simp at hgl
     | some z=>
      have:(r :: r2 :: rs).getLast? = some z:=by rw [List.getLast?_cons_cons]; exact hgl
      rw [this];simp only [Ya5];rw [show k + 1 + (rs.length + 1) - 1 = k + (rs.length + 1 + 1) - 1 by exact Ym (lD 2 0x300a3caa2cc1c01a2ca1cca0c21 T1 (Yb (lB 0 43429973152 T1)) (sbA _ _)) (lD 2 0x230aa1cc0ca3c21a2ca1ca0cc01 T1 (sbA _ _) (Yb (lB 0 45664177312 T1)))]
noncomputable def ZdT (roll:Zbx) (ts:List Stp) (k:Nat):Bool:=match ts[k]?,ts[k + 1]? with
 | some s,some s'=>ZjE roll s.1 s.2 s'.1 s'.2
 | _,_=>false
noncomputable def Zen (roll:Zbx) (ts:List Stp):Option Nat:=(Yt (ts.length - 1)).find? fun k=>!ZdT roll ts k
noncomputable def ZaK (us:List Use):D:=.tup (us.map Zr)
theorem ZfE {ts:List Stp} {k:Nat} (h:k < ts.length):Zbb (ts.map Zan) ((k:Nat):Int) = some (Zan ts[k]):=by rw [Zcm,Y1,Yo h]; rfl
theorem ZgC (roll:Zbx) (R:ZbX roll) (ts:List Stp) (h8:∀ s ∈ ts,s.2.length = 8) (M:Store) (hz:ts.length <= 5000):Zcu [Zf roll,ZaF ts] M = .ok (ZdA (Zen roll ts)) M:=by
 obtain ⟨e',⟨y,rfl⟩,lp⟩:=Zj4 (it:=⟨Zdl 0 (ts.length - 1),none⟩) rfl (i:=2) (body:=(sIf (e1 Zb0 (Zae Zdz (Zb (Za 0) (Zb (e2 Ze (Za 1) (Za 2)) (Zb (e2 Ze (Za 1) (e2 Zag (Za 2) (eC (.int 1)))) (Zj)))))) (Zaf (Za 2)) (Zab))) (q:=fun k=>!ZdT roll ts k) (I:=fun env=>∃ y,env = [some (Zf roll),some (ZaF ts),y]) (M:=M) (ts.length - 1) 0 [some (Zf roll),some (ZaF ts),none] ⟨none,rfl⟩
  (fun k env _ hk ⟨y,he⟩=>by
   subst he;have hk1:k + 1 < ts.length:=lC 2 0x2a0c12a1c211ec011 T1 hk (Yb (lC 2 739013566578705 T1 hk (Ya9 _ _)));have hk0:k < ts.length:=lB 1 4313451537 T1 hk1;have sf:=Zk5 roll R ts[k].1 ts[k].2 ts[k + 1].1 ts[k + 1].2 M (h8 _ (Yu hk0)) (h8 _ (Yu hk1));have hf:ZdT roll ts k = ZjE roll ts[k].1 ts[k].2 ts[k + 1].1 ts[k + 1].2:=by simp [ZdT,hk0,hk1]
   have g1:(e2 Ze (Za 1) (Za 2)) [some (Zf roll),some (ZaF ts),some (.int (k:Int))] M = .ok (Zan ts[k]) M:=by simp only [e2,Za,ZaF,Yf,Yh,R3.bind,ZaT,ZaU,ZaS,ZaL,ZfE hk0]
   have g2:(e2 Ze (Za 1) (e2 Zag (Za 2) (eC (.int 1)))) [some (Zf roll),some (ZaF ts),some (.int (k:Int))] M = .ok (Zan ts[k + 1]) M:=by
    simp only [e2,Za,eC,ZaF,Yf,Yh,R3.bind,Zco,Zcq,Zcl,Zcp,ZaT,ZaU,ZaS,ZaL,show ((k:Int) + 1) = ((k + 1:Nat):Int) by exact rfl,ZfE hk1]
   have cc:(e1 Zb0 (Zae Zdz (Zb (Za 0) (Zb (e2 Ze (Za 1) (Za 2)) (Zb (e2 Ze (Za 1) (e2 Zag (Za 2) (eC (.int 1)))) (Zj)))))) [some (Zf roll),some (ZaF ts),some (.int (k:Int))] M = .ok (.bl (!ZdT roll ts k)) M:=by
    rw [hf]; exact ZfX (Zb8 rfl g1 g2 sf) rfl
   refine ⟨fun hq=>?_,fun hq=>?_⟩
   ·exact (Zas (cc.trans (by rw [hq]))).trans rfl
   ·exact ⟨_,⟨_,rfl⟩,Zo (cc.trans (by rw [hq]))⟩)
 have ir:(ZbJ (e2 ZbG (Zak ZaR (Zb (Za 1) (Zj))) (eC (.int 1)))) [some (Zf roll),some (ZaF ts),none] M = .ok ⟨Zdl 0 (ts.length - 1),none⟩ M:=by
  have b:((ts.length:Int) - 1) <= 1000000 /\ -1000000 <= ((ts.length:Int) - 1):=⟨iN [_] [] 1 0xf42405ba08f813884b001 T1 hz,iN [_] [] 0 0xa08ff42405b98 T1⟩;have e:((ts.length:Int) - 1).toNat = ts.length - 1:=by omega
  simp [ZaF,b,e]
 refine Rt.pure (G:=[]) (env:=[some (Zf roll),some (ZaF ts),none]) ?_ (Zje _ _);rw [Yp];have lp':=(Ziu (g:=Zcj 2) ir).trans lp;unfold Zen;rw [Zjd];cases hf:(Yfp 0 (ts.length - 1)).find? fun k=>!ZdT roll ts k with
 | some j=>rw [hf] at lp'; exact Zah lp'
 | none=>rw [hf] at lp'; exact (Zg lp').trans rfl
theorem ZgT (us:List Use) (M:Store):Zb4 [.non,ZaK us] M = .ok (ZdA (Zd3 none us 0)) M:=by
 have lp:=ZiQ .non (ZaK us) M us 0 none none none;have e0:ZdD [some .non,some (ZaK us),none,none,none] M = .rt (ZdA (Zd3 none us 0)) M:=by
  refine (Zg (Zy (d:=.non) (M':=M) rfl)).trans ?_;have e1:(ZjZ (Zl4 (Za 1)) (Zci [3,4]) (Zw (sIf (e1 Zb0 (Zae Zdj (Zb (Za 2) (Zb (Za 4) (Zj))))) (Zaf (Za 3)) (Zab)) (Zaj 2 (Za 4)))) [some .non,some (ZaK us),some .non,none,none] M = _:=Ydt (by exact rfl) lp;cases hf:Zd3 none us 0 with
  | some j=>rw [hf] at e1; exact Zah e1
  | none=>
   rw [hf] at e1;simp only at e1;cases hl:us.getLast? with
   | none=>rw [hl] at e1; exact (Zg e1).trans rfl
   | some z=>rw [hl] at e1; exact (Zg e1).trans rfl
 exact Rt.pure (G:=[]) (env:=[some .non,some (ZaK us),none,none,none]) (by rw [Yp]; exact e0) (Zje _ _)
theorem Zgk (roll:Zbx) (R:ZbX roll) (ts:List Stp) (h8:∀ s ∈ ts,s.2.length = 8) (d2:D) (M:Store):∀ (us:List Use) (k:Nat) (x3 x4:Option D),
  ∃ e',ZfM [] (Zci [3,4]) (sIf (e1 Zb0 (Zae Zb9 (Zb (Za 0) (Zb (Za 1) (Zb (Za 4) (Zj)))))) (Zaf (Za 3)) (Zab)) (Ze9 k (us.map Zr)) [some (Zf roll),some (ZaF ts),some d2,x3,x4] M =
   match Zek (Zdk roll ts) us k with
   | none=>.nx e' M
   | some j=>.rt (.int (j:Int)) M
 | [],k,x3,x4=>⟨_,by first | exact rfl | simp [Ze9,ZfM,Zey,Zek]; rfl⟩
 | u :: us,k,x3,x4=>by
  have um:=ZiU roll R ts h8 u M;have cc:(e1 Zb0 (Zae Zb9 (Zb (Za 0) (Zb (Za 1) (Zb (Za 4) (Zj)))))) [some (Zf roll),some (ZaF ts),some d2,some (.int (k:Int)),some (Zr u)] M = .ok (.bl (!Zdk roll ts u)) M:=ZfX (Zb8 rfl rfl rfl um) rfl;obtain ⟨e',ih⟩:=Zgk roll R ts h8 d2 M us (k + 1) (some (.int (k:Int))) (some (Zr u));simp only [Y9,Ze9,ZfM,Zey,Ydp,if_true,Zci,ZeW,ZeZ,Ybu,Ybv,Zek];cases h:Zdk roll ts u with
  | false=>exact ⟨[],by rw [Zas (cc.trans (by rw [h]; rfl))]; simp [Zaf]⟩
  | true=>exact ⟨e',by rw [Zo (cc.trans (by rw [h]; rfl))]; simpa using ih⟩
theorem Zfz (roll:Zbx) (R:ZbX roll) (ts:List Stp) (h8:∀ s ∈ ts,s.2.length = 8) (us:List Use) (M:Store):Zbv [Zf roll,ZaF ts,ZaK us] M = .ok (ZdA (Zek (Zdk roll ts) us 0)) M:=by
 obtain ⟨e',lp⟩:=Zgk roll R ts h8 (ZaK us) M us 0 none none;refine Rt.pure (G:=[]) (env:=[some (Zf roll),some (ZaF ts),some (ZaK us),none,none]) ?_ (Zje _ _);rw [Yp];have lp':(ZjZ (Zl4 (Za 2)) (Zci [3,4]) (sIf (e1 Zb0 (Zae Zb9 (Zb (Za 0) (Zb (Za 1) (Zb (Za 4) (Zj)))))) (Zaf (Za 3)) (Zab))) [some (Zf roll),some (ZaF ts),some (ZaK us),none,none] M = _:=Ydt (by exact rfl) lp;cases hf:Zek (Zdk roll ts) us 0 with
 | some j=>rw [hf] at lp'; exact Zah lp'
 | none=>rw [hf] at lp'; exact (Zg lp').trans rfl
noncomputable abbrev BEGIN:List Nat:=[98,101,103,105,110]
noncomputable abbrev STEP:List Nat:=[115,116,101,112]
noncomputable abbrev END:List Nat:=[101,110,100]
noncomputable abbrev USE:List Nat:=[117,115,101]
noncomputable abbrev MATCH:List Nat:=[109,97,116,99,104]
noncomputable abbrev COUNT:List Nat:=[99,111,117,110,116]
noncomputable def Zb7:Option (List Nat × Nat) -> D
 | none=>.non
 | some (w,k)=>.tup [.str w,.int (k:Int)]
theorem Zg4 (n:Nat) (o:Option (List Nat × Nat)):below n (Zb7 o) = true:=by
 cases o with
 | none=>rfl
 | some p=>rfl
noncomputable def Zjr (roll:Zbx) (p:Int):Bool:=match ZgU roll p with
 | some r=>r.isHalt
 | none=>false
noncomputable def Zcs (roll:Zbx) (bs:List Int) (ts:List Stp):Option (List Nat × Nat):=match ts with
 | []=>some (BEGIN,0)
 | s :: _=>if s ≠ (0,bs) then some (BEGIN,0) else match Zen roll ts with
  | some t=>some (STEP,t)
  | none=>if Zjr roll (ts.getLastD (0,[])).1 then none else some (END,ts.length - 1)
noncomputable def Zeh (roll:Zbx) (ts:List Stp):List Stp:=ts.dropLast.filter fun s=>match ZgU roll s.1 with | some r=>Zhz r | none=>false
noncomputable def ZiN (roll:Zbx) (ts:List Stp) (us:List Use):Option (List Nat × Nat):=match Zd3 none us 0 with
 | some k=>some (USE,k)
 | none=>match Zek (Zdk roll ts) us 0 with
  | some k=>some (MATCH,k)
  | none=>if us.length ≠ (Zeh roll ts).length then some (COUNT,us.length) else none
noncomputable def ZfY (roll:Zbx) (bs:List Int) (ts:List Stp) (us:List Use):Option (List Nat × Nat):=match Zcs roll bs ts with
 | some f=>some f
 | none=>ZiN roll ts us
theorem find_none {q:Nat -> Bool} {n:Nat} (h:(Yt n).find? q = none) {k:Nat} (hk:k < n):q k = false:=by
 have:=List.find?_eq_none.mp h k (by simpa using hk);simpa using this
theorem ZoA {roll:Zbx} {p p':Int} {bs bs':List Int} (h:ZjE roll p bs p' bs' = true):∃ k r,p = ((k:Nat):Int) /\ roll[k]? = some r /\ r.isHalt = false /\ p' = (r.place bs k:Nat):=by
 unfold ZjE at h;split at h
 ·rename_i hp
  obtain ⟨k,rfl⟩:=Ya6 hp.1;have hk:k < roll.length:=Yb3.1 hp.2;have hr:roll[k]? = some roll[k]:=by simp [hk]
  simp only [Yci,Yav,hr] at h;split at h
  ·cases h
  ·rename_i hh
   rw [Yv,decide_eq_true_eq] at h;exact ⟨k,roll[k],rfl,hr,by simpa using hh,h.1⟩
 ·cases h
theorem place_lt {roll:Zbx} (R:ZbX roll) {k:Nat} {r:Row} {bs:List Int} (hb:bs.length = 8) (hr:roll[k]? = some r) (hh:r.isHalt = false):r.place bs k < roll.length:=by
 have hk:k < roll.length:=(Yc.mp hr).1;have g:Good roll ⟨k,bs,[]⟩:=⟨hk,hb,by simp [Zfx]⟩;have st:Zfw roll ⟨k,bs,[]⟩ = some ⟨r.place bs k,r.boxes bs [],r.cells bs []⟩:=by simp [Zfw,hr,Zkf,hh]
 exact (ZhU R g st).1.pl
theorem Zgq {roll:Zbx} (R:ZbX roll) {ts:List Stp} (h8:∀ s ∈ ts,s.2.length = 8) {bs:List Int} {s:Stp} (h0:ts[0]? = some s) (hs:s = (0,bs)) (hf:Zen roll ts = none):∀ (k:Nat) (x:Stp),ts[k]? = some x -> ∃ j r,x.1 = ((j:Nat):Int) /\ roll[j]? = some r
 | 0,x,hx=>by
  rw [h0] at hx; cases hx;have pos:0 < roll.length:=by obtain ⟨q,x,e,_⟩:=R.last; rw [e]; simp
  rw [hs];exact ⟨0,roll[0],rfl,by simp [pos]⟩
 | k + 1,x,hx=>by
  have hk1:k + 1 < ts.length:=(Yc.mp hx).1;have hk0:k < ts.length:=lB 1 4313451537 T1 hk1;have q:=find_none hf (k:=k) (lC 2 0x201a2c1011a0c11 T1 hk1 (sbA _ _));simp only [Bool.not_eq_false'] at q;have e0:ts[k]? = some ts[k]:=by simp [hk0]
  unfold ZdT at q;rw [e0,hx] at q;obtain ⟨j,r,hj,hr,hh,hp⟩:=ZoA q;have:=place_lt R (h8 _ (Yu hk0)) hr hh;exact ⟨r.place ts[k].2 j,roll[r.place ts[k].2 j],hp,by simp [this]⟩
theorem Zfv {roll:Zbx} {j:Nat} {r:Row} (hr:roll[j]? = some r):ZgU roll (j:Int) = some r:=by
 have hj:j < roll.length:=(Yc.mp hr).1;simp only [ZgU,Yav,hr];rw [if_pos (⟨Ybd _,Yb3.2 hj⟩)]
theorem ZqQ (s:Stp):ZaM 59 (Zan s) = true:=by
 simp [Zan,Zbo,Zh,ZeA,Zew,Zev,ZeH,ZeI,ZcW]
theorem ZnA (s t:Stp):Zej [.int s.1,Zh s.2] [.int t.1,Zh t.2] = decide (s = t):=by
 simp only [ZhI,ZfS,Zht,Zg6,Zg9,Zhk,Zgh,ZlX,Yfm];rw [Yej];simp only [Yv,decide_eq_true_eq,beq_iff_eq];constructor
 ·rintro ⟨h1,h2⟩; exact Prod.ext h1 h2
 ·intro h; rw [h]; exact ⟨rfl,rfl⟩
theorem Zp6 (s t:Stp) (M:Store):ZbC (Zan s) (Zan t) M = .ok (.bl (!decide (s = t))) M:=by
 have p1:∀ i:Int,ZaM DEEP (.int i) = true:=fun i=>ZcW _ _;have p2:∀ b:List Int,ZaM DEEP (Zh b) = true:=fun b=>Zgo _ _;simp only [ZbC,ZdF,ZdJ,ZdQ,ZdE,ZdH,Zan,Zbo,Yb2,Ydp,p1,p2,Ycu,if_true,ZnA]
theorem Zmz (r:Row) (M:Store):ZbC (Zq r) (.tup [.str [104,97,108,116]]) M = .ok (.bl (!r.isHalt)) M:=by
 cases r <;> first | exact rfl | simp [Zq,ZeA,Zew,Zev,ZeH,ZeI,ZcW,Zg3,ZhI,ZfS,Zht,Zg6,Zg9,Zhk,Zgh]
theorem Zhn (roll:Zbx) (R:ZbX roll) (bs:List Int) (ts:List Stp) (h8:∀ s ∈ ts,s.2.length = 8) (M:Store) (hz:ts.length <= 5000):
  Zc4 [Zf roll,Zh bs,ZaF ts] M = .ok (Zb7 (Zcs roll bs ts)) M:=by
 refine Rt.pure (G:=[]) (env:=[some (Zf roll),some (Zh bs),some (ZaF ts),none,none]) ?_ (Zg4 _ _);rw [Yp];have fu:=ZgC roll R ts h8 M hz;have e0:(ZaB (Zb (eC (.int 0)) (Zb (Za 1) (Zj)))) [some (Zf roll),some (Zh bs),some (ZaF ts),none,none] M = .ok (Zan (0,bs)) M:=by simp [Zan,Zbo]
 cases ts with
 | nil=>exact Zah ((Zas (M':=M) (by exact rfl)).trans (by simp [Zaf,Zcs,Zb7]))
 | cons s rest=>
  have c1:(e2 ZbC (e2 Ze (Za 2) (eC (.int 0))) (ZaB (Zb (eC (.int 0)) (Zb (Za 1) (Zj))))) [some (Zf roll),some (Zh bs),some (ZaF (s :: rest)),none,none] M = .ok (.bl (!decide (s = (0,bs)))) M:=Zac (a:=Zan s) (M1:=M) (by simp [ZaF]) e0 (Zp6 s (0,bs) M);have c0:(eOr (e2 Zam (Zak ZaR (Zb (Za 2) (Zj))) (eC (.int 0))) (e2 ZbC (e2 Ze (Za 2) (eC (.int 0))) (ZaB (Zb (eC (.int 0)) (Zb (Za 1) (Zj)))))) [some (Zf roll),some (Zh bs),some (ZaF (s :: rest)),none,none] M = .ok (.bl (!decide (s = (0,bs)))) M:=by
   rw [ZdU (M1:=M) (by
    have:¬ ((rest.length:Int) + 1 = 0):=(fun z=>iN [_] [] 1 1856015521 T1 z);simp [ZaF,this])]
   exact c1
  by_cases hs:s = (0,bs)
  ·rw [decide_eq_true hs] at c0
   refine (Zg (Zo c0)).trans ((Zg (Zy (Zck rfl rfl fu))).trans ?_);have fs:Zcs roll bs (s :: rest) = (match Zen roll (s :: rest) with | some t=>some (STEP,t) | none=>if Zjr roll ((s :: rest).getLastD (0,[])).1 then none else some (END,(s :: rest).length - 1)):=by
    simp only [Zcs]; rw [if_neg (by simpa using hs)]
   rw [fs];cases hf:Zen roll (s :: rest) with
   | some t=>exact Zah ((Zas (M':=M) (by exact rfl)).trans (by simp [Zaf,ZdA,Zb7]))
   | none=>
    refine (Zg (Zo (M':=M) (by exact rfl))).trans ?_;have hl:(s :: rest).length - 1 < (s :: rest).length:=by simp
    obtain ⟨j,r,hj,hr⟩:=Zgq R h8 (s:=s) (by exact rfl) hs hf ((s :: rest).length - 1) ((s :: rest)[(s :: rest).length - 1]) (by simp);have gl:(s :: rest).getLastD (0,[]) = (s :: rest)[(s :: rest).length - 1]:=by
     rw [Ye6,Ycf]; simp
    rw [gl];have tg:=ZfE (ts:=s :: rest) hl;generalize hx:(s :: rest)[(s :: rest).length - 1] = x at hj tg;have e4:(e2 ZbG (Zak ZaR (Zb (Za 2) (Zj))) (eC (.int 1))) [some (Zf roll),some (Zh bs),some (ZaF (s :: rest)),some (ZdA none),none] M = .ok (.int (((s :: rest).length - 1:Nat):Int)) M:=by
     simp [ZaF]
    refine (Zg (Zy e4)).trans ?_;have ra:=Zjt roll x.1 M;rw [hj,Zfv hr] at ra;have e5:(e2 Ze (e2 Ze (Za 2) (Za 4)) (eC (.int 0))) [some (Zf roll),some (Zh bs),some (ZaF (s :: rest)),some (ZdA none),some (.int (((s :: rest).length - 1:Nat):Int))] M = .ok (.int (j:Int)) M:=by
     refine Zac (a:=Zan x) (M1:=M) (b:=.int 0) (M2:=M) ?_ rfl (by simp [Zan,Zbo,hj]);simp only [e2,Za,ZaF,Yf,Yh,R3.bind,ZaT,ZaU,ZaS,ZaL,tg]
    have e6:(e2 ZbC (Zae Zdc (Zb (Za 0) (Zb (e2 Ze (e2 Ze (Za 2) (Za 4)) (eC (.int 0))) (Zj)))) (ZaB (Zb (eC (.str [104,97,108,116])) (Zj)))) [some (Zf roll),some (Zh bs),some (ZaF (s :: rest)),some (ZdA none),some (.int (((s :: rest).length - 1:Nat):Int))] M = .ok (.bl (!r.isHalt)) M:=Zac (Zck rfl e5 ra) (by simp) (Zmz r M);have hA:Zjr roll x.1 = r.isHalt:=by simp only [Zjr,hj,Zfv hr]
    rw [hA];cases hh:r.isHalt with
    | true=>rw [hh] at e6; exact (Zg (Zo e6)).trans rfl
    | false=>rw [hh] at e6; exact Zah ((Zas e6).trans (by simp [Zaf,Zb7]))
  ·rw [decide_eq_false hs] at c0
   refine Zah ((Zas c0).trans ?_);have fs:Zcs roll bs (s :: rest) = some (BEGIN,0):=by simp only [Zcs]; rw [if_pos hs]
   rw [fs];simp [Zaf,Zb7]
theorem Zhu {roll:Zbx} {bs:List Int} {ts:List Stp} (h:Zcs roll bs ts = none):(∃ s,ts[0]? = some s /\ s = (0,bs)) /\ Zen roll ts = none:=by
 cases ts with
 | nil=>simp [Zcs] at h
 | cons s rest=>
  simp only [Zcs] at h;by_cases hs:s = (0,bs)
  ·rw [if_neg (by simpa using hs)] at h
   refine ⟨⟨s,by simp,hs⟩,?_⟩;cases hf:Zen roll (s :: rest) with
   | some t=>rw [hf] at h; cases h
   | none=>rfl
  ·rw [if_pos hs] at h; cases h
theorem ZhV (roll:Zbx) (R:ZbX roll) (bs:List Int) (ts:List Stp) (h8:∀ s ∈ ts,s.2.length = 8) (us:List Use) (M:Store) (hz:ts.length <= 5000) (hf:Zcs roll bs ts = none):
  Zcz [Zf roll,ZaF ts,ZaK us] M = .ok (Zb7 (ZiN roll ts us)) M:=by
 obtain ⟨⟨s0,h0,hs0⟩,hS⟩:=Zhu hf;have pl:=Zgq R h8 h0 hs0 hS;have f1:=ZgT us M;have f2:=Zfz roll R ts h8 us M;have fin:∀ {d:D} (G:Store),below M.length d = true -> Zei [some (Zf roll),some (ZaF ts),some (ZaK us),none,none,none] M = .rt d (M ++ G) -> Zcz [Zf roll,ZaF ts,ZaK us] M = .ok d M:=fun {d} G hb h=>Rt.pure h hb;unfold ZiN;cases h1:Zd3 none us 0 with
 | some k=>
  rw [h1] at f1;refine fin [] rfl ?_;rw [Yp];exact (Zg (Zy (Zck rfl rfl f1))).trans (Zah ((Zas (M':=M) (by exact rfl)).trans (by simp [Zaf,ZdA,Zb7])))
 | none=>
  rw [h1] at f1;cases h2:Zek (Zdk roll ts) us 0 with
  | some k=>
   rw [h2] at f2;refine fin [] rfl ?_;rw [Yp];exact (Zg (Zy (Zck rfl rfl f1))).trans ((Zg (Zo (M':=M) (by exact rfl))).trans ((Zg (Zy (Zb8 rfl rfl rfl f2))).trans (Zah ((Zas (M':=M) (by exact rfl)).trans (by simp [Zaf,ZdA,Zb7])))))
  | none=>
   rw [h2] at f2;have lc:(eLC (Zih (eSl (Za 1) (ZaE) (ZaI (e1 ZeP (eC (.int 1)))))) 1 (Zcj 6) [Zae ZcU (Zb (e2 Ze (Za 0) (e2 Ze (Za 6) (eC (.int 0)))) (Zj))] (Za 6)) [some (Zf roll),some (ZaF ts),some (ZaK us),some (ZdA none),some (ZdA none),none] M = .ok (.ref M.length) (M ++ [.lst ((Zeh roll ts).map Zan)]):=by
    refine ZhJ (α:=Stp) (enc:=Zan) (h:=Zan) (p:=fun s=>match ZgU roll s.1 with | some r=>Zhz r | none=>false) (own:=1) (i:=6) (lock:=none) (as:=ts.dropLast) (M1:=M) ?_ (fun _ h=>by cases h) (fun x hx M'=>?_) (fun x hx _ M'=>by exact rfl) (by simp; exact lA 1 0x186a15b0013884b001 T1 hz)
    ·have:=Zi5 (ts.map Zan)
     simp only [Zih,eSl,Za,ZaE,ZaI,e1,eC,ZaF,Yf,Yh,R3.bind,Zhf,Zce,Zcg,Zch,Zcf,this];rw [Yfc]
    ·obtain ⟨k,hk⟩:=Yb0 hx
     have hk':ts[k]? = some x:=by
      rw [Yf3] at hk;split at hk
      ·exact hk
      ·cases hk
     obtain ⟨j,r,hj,hr⟩:=pl k x hk';have iu:=Zgm r M';have gi:(e2 Ze (Za 0) (e2 Ze (Za 6) (eC (.int 0)))) [some (Zf roll),some (ZaF ts),some (ZaK us),some (ZdA none),some (ZdA none),none,some (Zan x)] M' = .ok (Zq r) M':=by
      simp [Zan,Zbo,hj,Zf,hr]
     simp only [hj,Zfv hr];exact ZhL gi iu
   have e7:(e2 ZbC (Zak ZaR (Zb (Za 2) (Zj))) (Zak ZaR (Zb (Za 5) (Zj)))) [some (Zf roll),some (ZaF ts),some (ZaK us),some (ZdA none),some (ZdA none),some (.ref M.length)] (M ++ [.lst ((Zeh roll ts).map Zan)]) = .ok (.bl (!decide (us.length = (Zeh roll ts).length))) (M ++ [.lst ((Zeh roll ts).map Zan)]):=by
    have:(((us.length:Int)) = ((Zeh roll ts).length:Int)) = (us.length = (Zeh roll ts).length):=by simp [Int.ofNat_inj]
    simp [ZaK,this]
   have pre:∀ {k':S3} {o:O3},k' [some (Zf roll),some (ZaF ts),some (ZaK us),some (ZdA none),some (ZdA none),some (.ref M.length)] (M ++ [.lst ((Zeh roll ts).map Zan)]) = o -> Zw (Zaj 3 (Zae Zb4 (Zb (eC .non) (Zb (Za 2) (Zj))))) (Zw (sIf (e2 Zcb (Za 3) (eC .non)) (Zaf (ZaB (Zb (eC (.str [117,115,101])) (Zb (Za 3) (Zj))))) (Zab)) (Zw (Zaj 4 (Zae Zbv (Zb (Za 0) (Zb (Za 1) (Zb (Za 2) (Zj)))))) (Zw (sIf (e2 Zcb (Za 4) (eC .non)) (Zaf (ZaB (Zb (eC (.str [109,97,116,99,104])) (Zb (Za 4) (Zj))))) (Zab)) (Zw (Zaj 5 (eLC (Zih (eSl (Za 1) (ZaE) (ZaI (e1 ZeP (eC (.int 1)))))) 1 (Zcj 6) [Zae ZcU (Zb (e2 Ze (Za 0) (e2 Ze (Za 6) (eC (.int 0)))) (Zj))] (Za 6))) k')))) [some (Zf roll),some (ZaF ts),some (ZaK us),none,none,none] M = o:=fun {k' o} h=>
    (Zg (Zy (Zck rfl rfl f1))).trans ((Zg (Zo (M':=M) (by exact rfl))).trans ((Zg (Zy (Zb8 rfl rfl rfl f2))).trans ((Zg (Zo (M':=M) (by exact rfl))).trans ((Zg (Zy lc)).trans h))))
   by_cases hc:us.length = (Zeh roll ts).length
   ·rw [if_neg (by simpa using hc)]
    rw [decide_eq_true hc] at e7;exact fin [.lst ((Zeh roll ts).map Zan)] rfl (pre ((Zg (Zo e7)).trans rfl))
   ·rw [if_pos hc]
    rw [decide_eq_false hc] at e7;exact fin [.lst ((Zeh roll ts).map Zan)] rfl (pre (Zah ((Zas e7).trans (by simp [Zaf,ZaK,Zb7]))))
theorem Zpl (roll:Zbx) (R:ZbX roll) (bs:List Int) (ts:List Stp) (h8:∀ s ∈ ts,s.2.length = 8) (us:List Use) (M:Store) (hz:ts.length <= 5000):
  Ziy [Zf roll,Zh bs,ZaF ts,ZaK us] M = .ok (Zb7 (ZfY roll bs ts us)) M:=by
 have f1:=Zhn roll R bs ts h8 M hz;refine Rt.pure (G:=[]) (env:=[some (Zf roll),some (Zh bs),some (ZaF ts),some (ZaK us),none]) ?_ (Zg4 _ _);rw [Yp];refine (Zg (Zy (Zb8 rfl rfl rfl f1))).trans (Zaq ?_);unfold ZfY;cases hf:Zcs roll bs ts with
 | some f=>exact (Zsa (M1:=M) (by cases f; simp [Zb7])).trans rfl
 | none=>
  have f2:=ZhV roll R bs ts h8 us M hz hf;exact (Zsb (M1:=M) (by exact rfl)).trans (Zb8 rfl rfl rfl f2)
theorem Ztk (s t:Stp) (M:Store):Zam (Zan s) (Zan t) M = .ok (.bl (decide (s = t))) M:=by
 have p1:∀ i:Int,ZaM DEEP (.int i) = true:=fun i=>ZcW _ _;have p2:∀ b:List Int,ZaM DEEP (Zh b) = true:=fun b=>Zgo _ _;simp only [Zam,ZdF,ZdJ,ZdQ,ZdE,ZdH,Zan,Zbo,Yb2,Ydp,p1,p2,Ycu,if_true,ZnA]
theorem ZjJ (roll:Zbx) (R:ZbX roll) (s s':Stp) (M:Store) (hb:s.2.length = 8) (hb':s'.2.length = 8):
  ZbF [Zf roll,Zan s,Zan s'] M = .ok (.bl (ZjE roll s.1 s.2 s'.1 s'.2)) M:=by
 obtain ⟨p,bs⟩:=s;obtain ⟨p',bs'⟩:=s';replace hb:bs.length = 8:=hb;replace hb':bs'.length = 8:=hb';have fin:∀ {b:Bool} (G:Store),ZdM [some (Zf roll),some (Zan (p,bs)),some (Zan (p',bs')),none,none,none,none] M = .rt (.bl b) (M ++ G) -> ZbF [Zf roll,Zan (p,bs),Zan (p',bs')] M = .ok (.bl b) M:=fun {b} G h=>Rt.pure h rfl;have s0:Ze2 (Za 1) (Zci [3,4]) [some (Zf roll),some (Zan (p,bs)),some (Zan (p',bs')),none,none,none,none] M = .nx [some (Zf roll),some (Zan (p,bs)),some (Zan (p',bs')),some (.int p),some (Zh bs),none,none] M:=rfl;show _ = R3.ok (D.bl (ZjE roll p bs p' bs')) M;unfold ZjE;by_cases h:0 <= p /\ p < roll.length
 ·rw [if_pos h]
  obtain ⟨k,rfl⟩:=Ya6 h.1;have hk:k < roll.length:=Yb3.1 h.2;have hr:roll[k]? = some roll[k]:=by simp [hk]
  have ro:=R.rows _ (Yu hk);simp only [Yci,Yav,hr] at s0 fin ⊢;have n0:¬ ((k:Int) < 0):=(fun z=>iN [_] [] 1 7211153 T1 z);have n1:¬ ((roll.length:Int) <= (k:Int)):=(fun z=>iN [_,_] [] 2 6601651521665 T1 z hk);generalize roll[k] = r at hr ro;have gi:∀ (y5 y6:Option D) (M:Store),(e2 Ze (Za 0) (Za 3)) [some (Zf roll),some (Zan ((k:Int),bs)),some (Zan (p',bs')),some (.int (k:Int)),some (Zh bs),y5,y6] M = .ok (Zq r) M:=fun y5 y6 M=>by simp [Zf,hr]
  have cond:(eOr (e2 Ziq (Za 3) (eC (.int 0))) (eOr (e2 ZjG (Za 3) (Zak ZaR (Zb (Za 0) (Zj)))) (e2 Zam (e2 Ze (e2 Ze (Za 0) (Za 3)) (eC (.int 0))) (eC (.str [104,97,108,116]))))) [some (Zf roll),some (Zan ((k:Int),bs)),some (Zan (p',bs')),some (.int (k:Int)),some (Zh bs),none,none] M = .ok (.bl r.isHalt) M:=by
   rw [ZdU (M1:=M) (by exact rfl),ZdU (M1:=M) (by simp only [e2,Za,Zak,Zb,Zj,Zf,Yf,Yh,R3.bind,Zgs,Zgp,Zgr,Zea,Yac,Zk8,n1,decide_false]),ZhR];exact Zac (Zac (gi _ _ M) rfl (ZeY r M)) rfl (by exact rfl)
  by_cases hh:r.isHalt = true
  ·rw [if_pos hh]
   rw [hh] at cond;refine fin [] ?_;rw [Yp];exact (Zg s0).trans (Zah ((Zas cond).trans rfl))
  ·rw [if_neg hh]
   have hh':r.isHalt = false:=by simpa using hh
   rw [hh'] at cond;have go:=ZlI r k M.length (M.length + 1) bs [] (M ++ [.lst (bs.map D.int),.dct (ZaV [])]) roll.length (ZaQ _ _ _) (ZaX _ _ 1) (fun z=>lA 1 111198257 T1 z) hb ro (by simp);rw [show (M ++ [MO.lst (bs.map D.int),.dct (ZaV [])]).set M.length (.lst ((r.boxes bs []).map D.int)) = M ++ [.lst ((r.boxes bs []).map D.int),.dct (ZaV [])] from Zfa M _ 0 _,Zfa M _ 1 _] at go;have go':Zbs [Zq r,.int (k:Int),.ref M.length,.ref (M.length + 1)] (M ++ [.lst (bs.map D.int),.dct (ZaV [])]) = .ok (.int ((r.place bs k:Nat):Int)) (M ++ [.lst ((r.boxes bs []).map D.int),.dct (ZaV (Zc3 r bs []))]):=go;have b5:(Zak Zgd (Zb (Za 4) (Zj))) [some (Zf roll),some (Zan ((k:Int),bs)),some (Zan (p',bs')),some (.int (k:Int)),some (Zh bs),none,none] M = .ok (.ref M.length) (M ++ [.lst (bs.map D.int)]):=by exact rfl
   have b6:(Zae Zbs (Zb (e2 Ze (Za 0) (Za 3)) (Zb (Za 3) (Zb (Za 5) (Zb (ZnM) (Zj)))))) [some (Zf roll),some (Zan ((k:Int),bs)),some (Zan (p',bs')),some (.int (k:Int)),some (Zh bs),some (.ref M.length),none] (M ++ [.lst (bs.map D.int)]) = .ok (.int ((r.place bs k:Nat):Int)) (M ++ [.lst ((r.boxes bs []).map D.int),.dct (ZaV (Zc3 r bs []))]):=by
    refine ZhH (M4:=M ++ [.lst (bs.map D.int),.dct (ZaV [])]) (d:=.ref (M.length + 1)) (gi _ _ _) rfl rfl ?_ go';simp [ZaV]
   have b7:(sIf (e2 Zam (e2 Ze (e2 Ze (Za 0) (Za 3)) (eC (.int 0))) (eC (.str [103,101,116]))) (ZfU (Za 5) (e2 Ze (e2 Ze (Za 0) (Za 3)) (eC (.int 1))) (e2 Ze (e2 Ze (Za 2) (eC (.int 1))) (e2 Ze (e2 Ze (Za 0) (Za 3)) (eC (.int 1))))) (Zab)) [some (Zf roll),some (Zan ((k:Int),bs)),some (Zan (p',bs')),some (.int (k:Int)),some (Zh bs),some (.ref M.length),some (.int ((r.place bs k:Nat):Int))] (M ++ [.lst ((r.boxes bs []).map D.int),.dct (ZaV (Zc3 r bs []))]) = .nx [some (Zf roll),some (Zan ((k:Int),bs)),some (Zan (p',bs')),some (.int (k:Int)),some (Zh bs),some (.ref M.length),some (.int ((r.place bs k:Nat):Int))] (M ++ [.lst ((Zcx r bs bs').map D.int),.dct (ZaV (Zc3 r bs []))]):=by
    have g2:=gi (some (.ref M.length)) (some (.int ((r.place bs k:Nat):Int)));have cg:(e2 Zam (e2 Ze (e2 Ze (Za 0) (Za 3)) (eC (.int 0))) (eC (.str [103,101,116]))) [some (Zf roll),some (Zan ((k:Int),bs)),some (Zan (p',bs')),some (.int (k:Int)),some (Zh bs),some (.ref M.length),some (.int ((r.place bs k:Nat):Int))] (M ++ [.lst ((r.boxes bs []).map D.int),.dct (ZaV (Zc3 r bs []))]) = .ok (.bl (decide (Zed r = [103,101,116]))) (M ++ [.lst ((r.boxes bs []).map D.int),.dct (ZaV (Zc3 r bs []))]):=Zac (Zac (g2 _) rfl (ZeY r _)) rfl (by exact rfl);have other:(∀ a b,r ≠ .get a b) -> Zed r ≠ [103,101,116] /\ Zcx r bs bs' = r.boxes bs []:=fun hg=>by
     cases r <;> first | exact absurd rfl (hg _ _) | exact ⟨by simp [Zed],rfl⟩
    cases r with
    | get a b=>
     obtain ⟨x,hx,gx⟩:=Za8 hb' ro.1;have la:a < bs.length:=by rw [hb]; exact ro.1
     have v1:(e2 Ze (e2 Ze (Za 0) (Za 3)) (eC (.int 1))) [some (Zf roll),some (Zan ((k:Int),bs)),some (Zan (p',bs')),some (.int (k:Int)),some (Zh bs),some (.ref M.length),some (.int (((Row.get a b).place bs k:Nat):Int))] (M ++ [.lst (((Row.get a b).boxes bs []).map D.int),.dct (ZaV (Zc3 (.get a b) bs []))]) = .ok (.int (a:Int)) (M ++ [.lst (((Row.get a b).boxes bs []).map D.int),.dct (ZaV (Zc3 (.get a b) bs []))]):=Zac (g2 _) rfl (by exact rfl);have v2:(e2 Ze (e2 Ze (Za 2) (eC (.int 1))) (e2 Ze (e2 Ze (Za 0) (Za 3)) (eC (.int 1)))) [some (Zf roll),some (Zan ((k:Int),bs)),some (Zan (p',bs')),some (.int (k:Int)),some (Zh bs),some (.ref M.length),some (.int (((Row.get a b).place bs k:Nat):Int))] (M ++ [.lst (((Row.get a b).boxes bs []).map D.int),.dct (ZaV (Zc3 (.get a b) bs []))]) = .ok (.int x) (M ++ [.lst (((Row.get a b).boxes bs []).map D.int),.dct (ZaV (Zc3 (.get a b) bs []))]):=Zac (a:=Zh bs') (M1:=M ++ [.lst (((Row.get a b).boxes bs []).map D.int),.dct (ZaV (Zc3 (.get a b) bs []))]) (by exact rfl) v1 (by simp [Zh,-ZcD,gx]);refine (Zas (M':=M ++ [.lst (((Row.get a b).boxes bs []).map D.int),.dct (ZaV (Zc3 (.get a b) bs []))]) (cg.trans (by exact rfl))).trans (Zfl (d:=.non) ?_);simp only [e3,v2,v1,R3.bind,Za,Yf,Yh,Zfk];simp [Zcx,← hx,Row.boxes,la,Ygv]
    | _=>exact (fun o=>(Zo (cg.trans (by rw [decide_eq_false o.1]))).trans (by rw [o.2])) (other (fun a b h=>by cases h))
   refine fin [.lst ((Zcx r bs bs').map D.int),.dct (ZaV (Zc3 r bs []))] ?_;refine (Zg s0).trans ((Zg (Zo cond)).trans ((Zg (Zy b5)).trans ((Zg (Zy b6)).trans ((Zg b7).trans (Zaq ?_)))));refine Zac (a:=Zan (p',bs')) (b:=Zan (((r.place bs k:Nat):Int),Zcx r bs bs')) (M1:=M ++ [.lst ((Zcx r bs bs').map D.int),.dct (ZaV (Zc3 r bs []))]) (M2:=M ++ [.lst ((Zcx r bs bs').map D.int),.dct (ZaV (Zc3 r bs []))]) rfl (by simp [Zan,Zbo,Zh]) ?_;rw [Ztk];congr 2;rw [Yej];simp [Prod.ext_iff]
 ·rw [if_neg h]
  refine fin [] ?_;rw [Yp];refine (Zg s0).trans (Zah ((Zas (M':=M) ?_).trans rfl));by_cases h0:p < 0
  ·rw [ZiT (M1:=M) (by simp [h0])]
  ·have h1:(roll.length:Int) <= p:=by omega
   rw [ZdU (M1:=M) (by simp [h0]),ZiT (M1:=M) (by simp [Zf,h1])]
theorem Zle (roll:Zbx) (R:ZbX roll) (bs:List Int) (ts:List Stp) (h8:∀ s ∈ ts,s.2.length = 8) (M:Store) (hz:ts.length <= 5000):
  ZbO [Zf roll,Zh bs,ZaF ts] M = .ok (Zb7 (Zcs roll bs ts)) M:=by
 have fin:∀ {d:D} (G:Store),below M.length d = true -> Zd1 [some (Zf roll),some (Zh bs),some (ZaF ts),none,none] M = .rt d (M ++ G) -> ZbO [Zf roll,Zh bs,ZaF ts] M = .ok d M:=fun {d} G hb h=>Rt.pure h hb;have e0:(ZaB (Zb (eC (.int 0)) (Zb (Za 1) (Zj)))) [some (Zf roll),some (Zh bs),some (ZaF ts),none,none] M = .ok (Zan (0,bs)) M:=by simp [Zan,Zbo]
 cases ts with
 | nil=>
  refine fin [] rfl ?_;rw [Yp];exact Zah ((Zas (M':=M) (by exact rfl)).trans (by simp [Zaf,Zcs,Zb7]))
 | cons s rest=>
  have c1:(e2 ZbC (e2 Ze (Za 2) (eC (.int 0))) (ZaB (Zb (eC (.int 0)) (Zb (Za 1) (Zj))))) [some (Zf roll),some (Zh bs),some (ZaF (s :: rest)),none,none] M = .ok (.bl (!decide (s = (0,bs)))) M:=Zac (a:=Zan s) (M1:=M) (by simp [ZaF]) e0 (Zp6 s (0,bs) M);have c0:(eOr (e2 Zam (Zak ZaR (Zb (Za 2) (Zj))) (eC (.int 0))) (e2 ZbC (e2 Ze (Za 2) (eC (.int 0))) (ZaB (Zb (eC (.int 0)) (Zb (Za 1) (Zj)))))) [some (Zf roll),some (Zh bs),some (ZaF (s :: rest)),none,none] M = .ok (.bl (!decide (s = (0,bs)))) M:=by
   rw [ZdU (M1:=M) (by
    have:¬ ((rest.length:Int) + 1 = 0):=by exact fun z=>iN [_] [] 1 1856015521 T1 z
    simp [ZaF,this])]
   exact c1
  by_cases hs:s = (0,bs)
  ·rw [decide_eq_true hs] at c0
   have fs:Zcs roll bs (s :: rest) = (match Zen roll (s :: rest) with | some t=>some (STEP,t) | none=>if Zjr roll ((s :: rest).getLastD (0,[])).1 then none else some (END,(s :: rest).length - 1)):=by
    simp only [Zcs]; rw [if_neg (by simpa using hs)] <;> rfl
   rw [fs];have lc:=Zn6 (n:=(s :: rest).length - 1) (i:=ZbJ (e2 ZbG (Zak ZaR (Zb (Za 2) (Zj))) (eC (.int 1)))) (iv:=5) (c:=e1 Zb0 (Zae ZbF (Zb (Za 0) (Zb (e2 Ze (Za 2) (Za 5)) (Zb (e2 Ze (Za 2) (e2 Zag (Za 5) (eC (.int 1)))) (Zj)))))) (env:=[some (Zf roll),some (Zh bs),some (ZaF (s :: rest)),none,none]) (M:=M) (q:=fun k=>!ZdT roll (s :: rest) k)
    (by
     have b:((rest.length:Int)) <= 1000000 /\ -1000000 <= ((rest.length:Int)):=by
      have:rest.length + 1 <= 5000:=by simpa using hz
      exact ⟨iN [_] [] 1 0xf42405b08813884ba0c01 T1 this,iN [_] [] 0 615291837336 T1⟩
     simp [ZaF,b]) rfl (lB 2 0x186a05b10010113884b001 T1 hz (Ya9 _ _))
    (fun k hk M=>by
     have hk1:k + 1 < (s :: rest).length:=lC 2 0x2a0c12a1c211011 T1 hk (Yb (lC 2 2886771740689 T1 hk (Ya9 _ _)));have hk0:k < (s :: rest).length:=lB 1 4313451537 T1 hk1;have sf:=ZjJ roll R (s :: rest)[k] (s :: rest)[k + 1] M (h8 _ (Yu hk0)) (h8 _ (Yu hk1));have hf:ZdT roll (s :: rest) k = ZjE roll (s :: rest)[k].1 (s :: rest)[k].2 (s :: rest)[k + 1].1 (s :: rest)[k + 1].2:=by
      unfold ZdT;rw [Yo hk0,Yo hk1]
     rw [hf];refine ZfX (Zb8 (M1:=M) (M2:=M) (M3:=M) rfl ?_ ?_ sf) rfl
     ·simp only [e2,Za,ZaF,Yeb,Ycp,Yf,Yh,R3.bind,ZaT,ZaU,ZaS,ZaL,ZfE hk0]
     ·simp only [e2,Za,eC,ZaF,Yeb,Ycp,Yf,Yh,R3.bind,Zco,Zcq,Zcl,Zcp,ZaT,ZaU,ZaS,ZaL,show ((k:Int) + 1) = ((k + 1:Nat):Int) by exact rfl,ZfE hk1])
   have g1:(M ++ [MO.lst (((Yt ((s :: rest).length - 1)).filter fun k=>!ZdT roll (s :: rest) k).map fun k=>D.int ((k:Nat):Int)),.lst []])[M.length]? = some (.lst (((Yt ((s :: rest).length - 1)).filter fun k=>!ZdT roll (s :: rest) k).map fun k=>D.int ((k:Nat):Int))):=ZaQ _ _ _;have g2:(M ++ [MO.lst (((Yt ((s :: rest).length - 1)).filter fun k=>!ZdT roll (s :: rest) k).map fun k=>D.int ((k:Nat):Int)),.lst []])[M.length + 1]? = some (.lst []):=ZaX _ _ 1;have nn:=ZqJ g1 g2;have c2:(e2 ZbC (Za 3) (ZbT (Zj))) [some (Zf roll),some (Zh bs),some (ZaF (s :: rest)),some (.ref M.length),none] (M ++ [.lst (((Yt ((s :: rest).length - 1)).filter fun k=>!ZdT roll (s :: rest) k).map fun k=>D.int ((k:Nat):Int))]) = .ok (.bl (Zen roll (s :: rest)).isSome) (M ++ [.lst (((Yt ((s :: rest).length - 1)).filter fun k=>!ZdT roll (s :: rest) k).map fun k=>D.int ((k:Nat):Int)),.lst []]):=by
    refine Zac (a:=.ref M.length) (b:=.ref (M.length + 1)) rfl ?_ nn;simp
   have fh:=ZfW (q:=fun k=>!ZdT roll (s :: rest) k) (n:=(s :: rest).length - 1);have hFs:(Yt ((s :: rest).length - 1)).find? (fun k=>!ZdT roll (s :: rest) k) = Zen roll (s :: rest):=rfl;rw [hFs] at fh;generalize hL:(((Yt ((s :: rest).length - 1)).filter fun k=>!ZdT roll (s :: rest) k).map fun k=>D.int ((k:Nat):Int)) = L at *;refine fin [.lst L,.lst []] (Zg4 _ _) ?_;refine (Zg (Zo c0)).trans ((Zg (Zy lc)).trans ?_);cases hf:Zen roll (s :: rest) with
   | some t=>
    rw [hf] at c2 fh;obtain ⟨z,_⟩ | ⟨k,xs,e,f⟩:=fh
    ·rename_i w; cases w
    ·cases f
     refine Zah ((Zas c2).trans (Zaq ?_));rw [e] at g1;simp [g1,e,Zb7]
   | none=>
    rw [hf] at c2;refine (Zg (Zo c2)).trans ?_;have hl:(s :: rest).length - 1 < (s :: rest).length:=by simp
    obtain ⟨j,r,hj,hr⟩:=Zgq R h8 (s:=s) (by exact rfl) hs hf ((s :: rest).length - 1) ((s :: rest)[(s :: rest).length - 1]) (by simp);have gl:(s :: rest).getLastD (0,[]) = (s :: rest)[(s :: rest).length - 1]:=by
     rw [Ye6,Ycf]; simp
    have tl:(ZaF (s :: rest)) = .tup ((s :: rest).map Zan):=rfl;have gl':Zbb ((s :: rest).map Zan) (-1) = some (Zan (s :: rest)[(s :: rest).length - 1]):=by
     rw [ZoT,List.getLast?_map,Ycf];simp
    rw [gl];generalize hx:(s :: rest)[(s :: rest).length - 1] = x at hj gl';have e4:(e2 Ze (e2 Ze (Za 2) (e1 ZeP (eC (.int 1)))) (eC (.int 0))) [some (Zf roll),some (Zh bs),some (ZaF (s :: rest)),some (.ref M.length),none] (M ++ [.lst L,.lst []]) = .ok (.int (j:Int)) (M ++ [.lst L,.lst []]):=by
     refine Zac (a:=Zan x) (M1:=M ++ [.lst L,.lst []]) (b:=.int 0) (M2:=M ++ [.lst L,.lst []]) ?_ rfl (by simp [Zan,Zbo,hj]);simp only [e2,e1,eC,Za,ZaF,Yf,Yh,R3.bind,Zhf,ZaT,ZaU,ZaS,ZaL,gl']
    refine (Zg (Zy e4)).trans ?_;have jl:j < roll.length:=(Yc.mp hr).1;have n0:¬ ((j:Int) < 0):=(fun z=>iN [_] [] 1 7211153 T1 z);have n1:¬ ((roll.length:Int) <= (j:Int)):=(fun z=>iN [_,_] [] 2 6601651521665 T1 z jl);have e6:(eOr (e2 Ziq (Za 4) (eC (.int 0))) (eOr (e2 ZjG (Za 4) (Zak ZaR (Zb (Za 0) (Zj)))) (e2 ZbC (e2 Ze (e2 Ze (Za 0) (Za 4)) (eC (.int 0))) (eC (.str [104,97,108,116]))))) [some (Zf roll),some (Zh bs),some (ZaF (s :: rest)),some (.ref M.length),some (.int (j:Int))] (M ++ [.lst L,.lst []]) = .ok (.bl (!r.isHalt)) (M ++ [.lst L,.lst []]):=by
     rw [ZdU (M1:=M ++ [.lst L,.lst []]) (by exact rfl),ZdU (M1:=M ++ [.lst L,.lst []]) (by simp only [e2,Za,Zak,Zb,Zj,Zf,Yf,Yh,R3.bind,Zgs,Zgp,Zgr,Zea,Yac,Zk8,n1,decide_false]),ZhR];exact Zac (Zac (a:=Zq r) (M1:=M ++ [.lst L,.lst []]) (by simp [Zf,hr]) rfl (ZeY r _)) rfl (by exact rfl)
    have hA:Zjr roll x.1 = r.isHalt:=by simp only [Zjr,hj,Zfv hr]
    rw [hA];cases hh:r.isHalt with
    | true=>rw [hh] at e6; exact (Zg (Zo e6)).trans rfl
    | false=>rw [hh] at e6; exact Zah ((Zas e6).trans (by simp [Zaf,Zb7,ZaF]))
  ·rw [decide_eq_false hs] at c0
   refine fin [] (Zg4 _ _) ?_;rw [Yp];refine Zah ((Zas c0).trans ?_);have fs:Zcs roll bs (s :: rest) = some (BEGIN,0):=by simp only [Zcs]; rw [if_pos hs]
   rw [fs];simp [Zaf,Zb7]
noncomputable def Zkd (us:List Use) (k:Nat):Bool:=match us[k]? with
 | some u=>Zes (if k = 0 then none else us[k - 1]?) u
 | none=>false
theorem Zpp (q:Nat -> Bool):∀ (rs:List Use) (k:Nat) (a:Option Use),(∀ (j:Nat) r,rs[j]? = some r -> q (k + j) = !Zes (if j = 0 then a else rs[j - 1]?) r) -> (Yfp k rs.length).find? q = Zd3 a rs k
 | [],k,a,_=>rfl
 | r :: rs,k,a,h=>by
  have h0:=h 0 r (by exact rfl);simp only [Nat.add_zero,if_true] at h0;simp only [Ya5,Yfv,Ybp,Zd3,h0];cases hp:Zes a r with
  | false=>simp
  | true=>
   simp only [Bool.not_true,if_true];exact Zpp q rs (k + 1) (some r) fun j y hy=>by
    have:=h (j + 1) y (by simpa using hy);rw [show k + (j + 1) = k + 1 + j by exact Ym (lB 0 1790139547840 T1) (lB 0 0xa1c0c1a0cc0 T1)] at this;rw [this];congr 2;cases j with
    | zero=>simp
    | succ j=>simp
theorem Zhs {us:List Use} {k:Nat} (h:k < us.length):Zbb (us.map Zr) ((k:Nat):Int) = some (Zr us[k]):=by rw [Zcm,Y1,Yo h]; rfl
theorem ZkD (us:List Use) (k:Nat) (hk:k < us.length) (M:Store):ZbP [ZaK us,.int (k:Int)] M = .ok (.bl (Zkd us k)) M:=by
 have g0:=Zhs hk;have hu:Zkd us k = Zes (if k = 0 then none else us[k - 1]?) us[k]:=by simp [Zkd,hk]
 rw [hu];generalize us[k] = u at g0;obtain ⟨n,t,w,v⟩:=u;have s0:Ze2 (e2 Ze (Za 0) (Za 1)) (Zci [2,3,4,5]) [some (ZaK us),some (.int (k:Int)),none,none,none,none,none,none] M = .nx [some (ZaK us),some (.int (k:Int)),some (.int n),some (.int t),some (.str w),some (.int v),none,none] M:=by
  simp only [Ze2,e2,Za,ZaK,Yf,Yh,R3.bind,ZaT,ZaU,ZaS,ZaL,g0,Zr,Zci,ZeW,ZeZ,Ybu,Ybv]
 refine Rt.pure (G:=[]) (env:=[some (ZaK us),some (.int (k:Int)),none,none,none,none,none,none]) ?_ rfl;rw [Yp];refine (Zg s0).trans ((Zg (Zy (d:=.int 0) (M':=M) rfl)).trans ?_);cases k with
 | zero=>
  refine (Zg (Zo (M':=M) (by exact rfl))).trans (Zaq ?_);rw [if_pos rfl];by_cases hw:w = GET
  ·rw [ZdU (M1:=M) (by simp [hw])]; simp [Zes,hw]
  ·rw [ZiT (M1:=M) (by simp [hw])]; simp [Zes,hw]
 | succ m=>
  have hm:m < us.length:=lB 1 4313451537 T1 hk;have g1:=Zhs hm;rw [if_neg (by exact fun z=>lA 1 116001825 T1 z)];have e1':us[m + 1 - 1]? = some us[m]:=by simp [hm]
  rw [e1'];generalize us[m] = a at g1;obtain ⟨n',t',w',v'⟩:=a;have ek:(((m + 1:Nat):Int) - 1) = (m:Int):=Yb9 (iN [_] [] 0 2325793016 T1) (iN [_] [] 0 45647196296 T1);have s7:(e2 Ze (Za 0) (e2 ZbG (Za 1) (eC (.int 1)))) [some (ZaK us),some (.int ((m + 1:Nat):Int)),some (.int n),some (.int t),some (.str w),some (.int v),some (.int 0),none] M = .ok (Zr ⟨n',t',w',v'⟩) M:=by
   simp only [e2,Za,eC,ZaK,Yf,Yh,R3.bind,Zpe,ZaT,ZaU,ZaS,ZaL,ek,g1]
  have p0:(0:Int) < ((m + 1:Nat):Int):=iN [_] [] 0 10537193 T1;have cgt:(e2 ZgB (Za 1) (eC (.int 0))) [some (ZaK us),some (.int ((m + 1:Nat):Int)),some (.int n),some (.int t),some (.str w),some (.int v),some (.int 0),none] M = .ok (.bl true) M:=by
   simp only [e2,Za,eC,Yf,Yh,R3.bind,Zn9,p0,decide_true]
  by_cases h0:n < n'
  ·refine Zah ((Zas cgt).trans ((Zg (Zy s7)).trans (Zah ((Zas (M':=M) (by simp [Zr,h0])).trans ?_))))
   simp [Zaf,Zes,h0]
  ·by_cases h1:n = n'
   ·subst h1
    by_cases h2:t <= t'
    ·refine Zah ((Zas cgt).trans ((Zg (Zy s7)).trans (Zah ((Zas (M':=M) (by simp [Zr,h2])).trans ?_))))
     simp [Zaf,Zes,h2]
    ·refine (Zg ((Zas cgt).trans ((Zg (Zy s7)).trans ((Zg (Zo (M':=M) (by simp [Zr,h2]))).trans ((Zas (M':=M) (by simp [Zr])).trans (Zy (d:=.int v') (M':=M) (by exact rfl))))))).trans (Zaq ?_)
     by_cases hw:w = GET
     ·rw [ZdU (M1:=M) (by simp [hw])]; simp [Zes,hw,h2]
     ·rw [ZiT (M1:=M) (by simp [hw])]; simp [Zes,hw,h2]
   ·have h1':¬ n' = n:=fun e=>h1 e.symm
    refine (Zg ((Zas cgt).trans ((Zg (Zy s7)).trans ((Zg (Zo (M':=M) (by simp [Zr,h0,h1]))).trans (Zo (M':=M) (by simp [Zr,h1])))))).trans (Zaq ?_);by_cases hw:w = GET
    ·rw [ZdU (M1:=M) (by simp [hw])]; simp [Zes,hw,h0,h1,h1']
    ·rw [ZiT (M1:=M) (by simp [hw])]; simp [Zes,hw,h0,h1,h1']
theorem Zwj {a b:Int} {M:Store} (h:¬ b <= a):ZjG (.int a) (.int b) M = .ok (.bl false) M:=by simp only [Zk8,h,decide_false]
theorem ZiI (roll:Zbx) (R:ZbX roll) (ts:List Stp) (h8:∀ s ∈ ts,s.2.length = 8) (pl:∀ (k:Nat) (x:Stp),ts[k]? = some x -> ∃ j r,x.1 = ((j:Nat):Int) /\ roll[j]? = some r) (u:Use) (M:Store):
  ZbR [Zf roll,ZaF ts,Zr u] M = .ok (.bl (Zdk roll ts u)) M:=by
 obtain ⟨n,t,w,v⟩:=u;refine Rt.pure (G:=[]) (env:=[some (Zf roll),some (ZaF ts),some (Zr ⟨n,t,w,v⟩),none,none,none,none,none,none]) ?_ rfl;rw [Yp];refine (Zg (show Ze2 (Za 2) (Zci [3,4,5,6]) _ _ = .nx [some (Zf roll),some (ZaF ts),some (Zr ⟨n,t,w,v⟩),some (.int n),some (.int t),some (.str w),some (.int v),none,none] M from rfl)).trans ?_;unfold Zdk;by_cases h:0 <= t /\ t + 1 < ts.length
 ·rw [if_pos h]
  obtain ⟨k,rfl⟩:=Ya6 h.1;have hk:k + 1 < ts.length:=by exact iN [_,_] [] 1 458226179017873 T1 h.2
  have hk0:k < ts.length:=lB 1 4313451537 T1 hk;have gs:ts[k]? = some ts[k]:=by simp [hk0]
  have gs':ts[k + 1]? = some ts[k + 1]:=by simp [hk]
  have l8:=h8 _ (Yu hk0);have l8':=h8 _ (Yu hk);obtain ⟨j,r,hj,hr⟩:=pl k ts[k] gs;simp only [Yci,Yav,gs,gs'];generalize ts[k] = s at gs l8 hj;generalize ts[k + 1] = s' at gs' l8';obtain ⟨p,bs⟩:=s;obtain ⟨p',bs'⟩:=s';replace hj:p = (j:Int):=hj;subst hj;replace l8:bs.length = 8:=l8;replace l8':bs'.length = 8:=l8';have ro:=R.rows _ (Yax hr);have gk:Zbb (ts.map Zan) ((k:Nat):Int) = some (Zan ((j:Int),bs)):=by rw [Zcm,Y1,gs]; rfl
  have gk':Zbb (ts.map Zan) ((k:Int) + 1) = some (Zan (p',bs')):=by
   rw [show ((k:Int) + 1) = ((k + 1:Nat):Int) by exact rfl,Zcm,Y1,gs']; rfl
  have n0:¬ ((k:Int) < 0):=(fun z=>iN [_] [] 1 7211153 T1 z);have n1:¬ ((ts.length:Int) <= (k:Int) + 1):=(fun z=>iN [_,_] [] 2 0x60a1c11a18c0881 T1 z hk);refine (Zg (Zo (M':=M) (by
   rw [ZdU (M1:=M) (by exact rfl)];exact Zac (Zac rfl rfl rfl) (ZdN rfl rfl) (Zwj (by rw [Yac]; exact n1))))).trans ?_
  refine (Zg (Zy (d:=Zh bs) (M':=M) (Zac (Zac rfl rfl (ZeB gk)) rfl rfl))).trans ?_;refine (Zg (Zy (d:=Zq r) (M':=M) (Zac rfl (Zac (Zac rfl rfl (ZeB gk)) rfl rfl) (ZeB (by rw [Zcm,Y1,hr]; rfl))))).trans ?_;rw [Zfv hr];have other:(∀ a b,r ≠ .get a b) -> (∀ a b,r ≠ .set a b) -> (Zw (sIf (Zc7 (e2 Zam (e2 Ze (Za 8) (eC (.int 0))) (eC (.str [103,101,116]))) (e2 Zam (Za 5) (eC (.str [103,101,116])))) (Zaf (Zc7 (e2 Zam (e2 Ze (Za 7) (e2 Ze (Za 8) (eC (.int 2)))) (Za 3)) (e2 Zam (e2 Ze (e2 Ze (e2 Ze (Za 1) (e2 Zag (Za 4) (eC (.int 1)))) (eC (.int 1))) (e2 Ze (Za 8) (eC (.int 1)))) (Za 6)))) (Zab)) (Zw (sIf (Zc7 (e2 Zam (e2 Ze (Za 8) (eC (.int 0))) (eC (.str [115,101,116]))) (e2 Zam (Za 5) (eC (.str [115,101,116])))) (Zaf (Zc7 (e2 Zam (e2 Ze (Za 7) (e2 Ze (Za 8) (eC (.int 1)))) (Za 3)) (e2 Zam (e2 Ze (Za 7) (e2 Ze (Za 8) (eC (.int 2)))) (Za 6)))) (Zab)) (Zaf (eC (.bl false)))))
    [some (Zf roll),some (ZaF ts),some (Zr ⟨n,(k:Int),w,v⟩),some (.int n),some (.int (k:Int)),some (.str w),some (.int v),some (Zh bs),some (Zq r)] M = .rt (.bl (ZfT (some r) bs bs' ⟨n,(k:Int),w,v⟩)) M:=fun hg hs=>by
   have:ZfT (some r) bs bs' ⟨n,(k:Int),w,v⟩ = false:=by cases r <;> first | rfl | exact absurd rfl (hg _ _) | exact absurd rfl (hs _ _)
   rw [this];refine (Zg (Zo (M':=M) ?_)).trans ((Zg (Zo (M':=M) ?_)).trans rfl)
   ·cases r <;> first | exact absurd rfl (hg _ _) | exact rfl
   ·cases r <;> first | exact absurd rfl (hs _ _) | exact rfl
  cases r with
  | get a b=>
   obtain ⟨y1,hy1,gy1⟩:=Za8 l8 ro.2;obtain ⟨y2,hy2,gy2⟩:=Za8 l8' ro.1;simp only [ZfT,hy1,hy2];by_cases hw:w = GET
   ·refine Zah ((Zas (M':=M) (by simp [Zq,hw])).trans (Zaq ?_))
    have z1:(e2 Zam (e2 Ze (Za 7) (e2 Ze (Za 8) (eC (.int 2)))) (Za 3)) [some (Zf roll),some (ZaF ts),some (Zr ⟨n,(k:Int),w,v⟩),some (.int n),some (.int (k:Int)),some (.str w),some (.int v),some (Zh bs),some (Zq (.get a b))] M = .ok (.bl (decide (y1 = n))) M:=Zac (Zac rfl (Zac rfl rfl rfl) (ZeB gy1)) rfl rfl;have z2:(e2 Zam (e2 Ze (e2 Ze (e2 Ze (Za 1) (e2 Zag (Za 4) (eC (.int 1)))) (eC (.int 1))) (e2 Ze (Za 8) (eC (.int 1)))) (Za 6)) [some (Zf roll),some (ZaF ts),some (Zr ⟨n,(k:Int),w,v⟩),some (.int n),some (.int (k:Int)),some (.str w),some (.int v),some (Zh bs),some (Zq (.get a b))] M = .ok (.bl (decide (y2 = v))) M:=Zac (Zac (Zac (Zac rfl (Zac rfl rfl rfl) (ZeB gk')) rfl rfl) (Zac rfl rfl rfl) (ZeB gy2)) rfl rfl;rw [decide_eq_true hw,Ycv];by_cases c1:n = y1
    ·rw [ZgY (M1:=M) (by rw [z1]; simp [c1]),z2,decide_eq_true c1,Ycv]
     simp only [eq_comm]
    ·rw [ZkU (M1:=M) (by rw [z1]; simp [Yat c1]),decide_eq_false c1,Yb4]
   ·rw [decide_eq_false hw,Yb4,Yb4]
    refine (Zg (Zo (M':=M) (by simp [Zq,hw]))).trans ((Zg (Zo (M':=M) (by exact rfl))).trans rfl)
  | set a b=>
   obtain ⟨y1,hy1,gy1⟩:=Za8 l8 ro.1;obtain ⟨y2,hy2,gy2⟩:=Za8 l8 ro.2;simp only [ZfT,hy1,hy2];by_cases hw:w = SET
   ·refine (Zg (Zo (M':=M) (by exact rfl))).trans (Zah ((Zas (M':=M) (by simp [Zq,hw])).trans (Zaq ?_)))
    have z1:(e2 Zam (e2 Ze (Za 7) (e2 Ze (Za 8) (eC (.int 1)))) (Za 3)) [some (Zf roll),some (ZaF ts),some (Zr ⟨n,(k:Int),w,v⟩),some (.int n),some (.int (k:Int)),some (.str w),some (.int v),some (Zh bs),some (Zq (.set a b))] M = .ok (.bl (decide (y1 = n))) M:=Zac (Zac rfl (Zac rfl rfl rfl) (ZeB gy1)) rfl rfl;have z2:(e2 Zam (e2 Ze (Za 7) (e2 Ze (Za 8) (eC (.int 2)))) (Za 6)) [some (Zf roll),some (ZaF ts),some (Zr ⟨n,(k:Int),w,v⟩),some (.int n),some (.int (k:Int)),some (.str w),some (.int v),some (Zh bs),some (Zq (.set a b))] M = .ok (.bl (decide (y2 = v))) M:=Zac (Zac rfl (Zac rfl rfl rfl) (ZeB gy2)) rfl rfl;rw [decide_eq_true hw,Ycv];by_cases c1:n = y1
    ·rw [ZgY (M1:=M) (by rw [z1]; simp [c1]),z2,decide_eq_true c1,Ycv]
     simp only [eq_comm]
    ·rw [ZkU (M1:=M) (by rw [z1]; simp [Yat c1]),decide_eq_false c1,Yb4]
   ·rw [decide_eq_false hw,Yb4,Yb4]
    refine (Zg (Zo (M':=M) (by exact rfl))).trans ((Zg (Zo (M':=M) (by simp [Zq,hw]))).trans rfl)
  | _=>exact other (fun a b h=>by cases h) (fun a b h=>by cases h)
 ·rw [if_neg h]
  refine Zah ((Zas (M':=M) ?_).trans rfl);by_cases h0:t < 0
  ·rw [ZiT (M1:=M) (by simp [h0])]
  ·have h1:(ts.length:Int) <= t + 1:=by omega
   rw [ZdU (M1:=M) (by simp [h0])];simp [ZaF,h1]
noncomputable def Zhx (roll:Zbx) (ts:List Stp) (us:List Use) (k:Nat):Bool:=match us[k]? with
 | some u=>Zdk roll ts u
 | none=>false
theorem ZmW (us:List Use):(Yt us.length).find? (fun k=>!Zkd us k) = Zd3 none us 0:=by
 rw [Zjd];refine Zpp _ us 0 none fun j r hj=>?_;simp only [Ydj,Zkd,hj]
theorem ZkL (roll:Zbx) (ts:List Stp) (us:List Use):(Yt us.length).find? (fun k=>!Zhx roll ts us k) = Zek (Zdk roll ts) us 0:=by
 rw [Zjd];refine ZpG _ _ us 0 fun j r hj=>?_;simp only [Ydj,Zhx,hj]
theorem Zn7 {env:ZaD} {c:E3} {M:Store} {us:List Use} {q:Nat -> Bool} {o:Option Nat} (hlen:env.length = 6) (h3:env[3]? = some (some (ZaK us))) (hz:us.length <= 5000)
  (hc:∀ k,k < us.length -> ∀ M,c (env ++ [some (.int (k:Int))]) M = .ok (.bl (q k)) M) (hq:(Yt us.length).find? q = o):
  ∃ L:List D,eLC (ZbJ (Zak ZaR (Zb (Za 3) (Zj)))) 1 (Zcj 6) [c] (Za 6) env M = .ok (.ref M.length) (M ++ [.lst L]) /\
   (∀ env',env'[5]? = some (some (.ref M.length)) -> (e2 ZbC (Za 5) (ZbT (Zj))) env' (M ++ [.lst L]) = .ok (.bl o.isSome) (M ++ [.lst L,.lst []])) /\
   (∀ k,o = some k -> ∀ env',env'[5]? = some (some (.ref M.length)) -> (e2 Ze (Za 5) (eC (.int 0))) env' (M ++ [.lst L,.lst []]) = .ok (.int (k:Int)) (M ++ [.lst L,.lst []])):=by
 have lc:=Zn6 (n:=us.length) (i:=ZbJ (Zak ZaR (Zb (Za 3) (Zj)))) (iv:=6) (c:=c) (env:=env) (M:=M) (q:=q)
  (by
   have b:((us.length:Int)) <= 1000000 /\ -1000000 <= ((us.length:Int)):=⟨iN [_] [] 1 0xf42405b08813884b001 T1 hz,iN [_] [] 0 615291837336 T1⟩;simp [h3,ZaK,b]) hlen.symm (lA 1 0x186a05b0013884b001 T1 hz) hc
 have g1:(M ++ [MO.lst (((Yt us.length).filter q).map fun k=>D.int ((k:Nat):Int)),.lst []])[M.length]? = some (.lst (((Yt us.length).filter q).map fun k=>D.int ((k:Nat):Int))):=ZaQ _ _ _;have g2:(M ++ [MO.lst (((Yt us.length).filter q).map fun k=>D.int ((k:Nat):Int)),.lst []])[M.length + 1]? = some (.lst []):=ZaX _ _ 1;have nn:=ZqJ g1 g2;have fh:=ZfW (q:=q) (n:=us.length);rw [hq] at nn fh;refine ⟨_,lc,fun env' h5=>?_,fun k hk env' h5=>?_⟩
 ·refine Zac (a:=.ref M.length) (b:=.ref (M.length + 1)) (M1:=M ++ [.lst (((Yt us.length).filter q).map fun k=>D.int ((k:Nat):Int))]) (by simp [h5]) ?_ nn
  simp
 ·rcases fh with ⟨_,f⟩ | ⟨k',xs,e,f⟩
  ·rw [hk] at f; cases f
  ·rw [hk] at f
   cases f
   refine Zac (a:=.ref M.length) (b:=.int 0) (M1:=M ++ [.lst (((Yt us.length).filter q).map fun k=>D.int ((k:Nat):Int)),.lst []]) (M2:=M ++ [.lst (((Yt us.length).filter q).map fun k=>D.int ((k:Nat):Int)),.lst []]) (by simp [h5]) rfl ?_;rw [e] at g1 ⊢;simp only [ZaT,ZaU,ZaS,ZaL,g1,Zhl];simp
theorem ZsD (roll:Zbx) (R:ZbX roll) (bs:List Int) (ts:List Stp) (h8:∀ s ∈ ts,s.2.length = 8) (us:List Use) (M:Store) (hz:ts.length <= 5000) (hu:us.length <= 5000):
  Ze1 [Zf roll,Zh bs,ZaF ts,ZaK us] M = .ok (Zb7 (ZfY roll bs ts us)) M:=by
 have fin:∀ {d:D} (G:Store),below M.length d = true -> ZgZ [some (Zf roll),some (Zh bs),some (ZaF ts),some (ZaK us),none,none] M = .rt d (M ++ G) -> Ze1 [Zf roll,Zh bs,ZaF ts,ZaK us] M = .ok d M:=fun {d} G hb h=>Rt.pure h hb;have f1:=Zle roll R bs ts h8 M hz;unfold ZfY;cases hf:Zcs roll bs ts with
 | some f=>
  rw [hf] at f1;refine fin [] (Zg4 _ _) ?_;rw [Yp];exact (Zg (Zy (Zb8 rfl rfl rfl f1))).trans (Zah ((Zas (M':=M) (by cases f; simp [Zb7])).trans rfl))
 | none=>
  rw [hf] at f1;obtain ⟨⟨s0,h0,hs0⟩,hS⟩:=Zhu hf;have pl:=Zgq R h8 h0 hs0 hS;obtain ⟨L1,lc1,nn1,ix1⟩:=Zn7 (env:=[some (Zf roll),some (Zh bs),some (ZaF ts),some (ZaK us),some (Zb7 none),none]) (c:=e1 Zb0 (Zae ZbP (Zb (Za 3) (Zb (Za 6) (Zj))))) (M:=M) (us:=us) (q:=fun k=>!Zkd us k) rfl rfl hu
   (fun k hk M=>ZfX (Zck rfl rfl (ZkD us k hk M)) rfl) (ZmW us)
  show _ = R3.ok (Zb7 (ZiN roll ts us)) M;unfold ZiN;have pre1:∀ {k':S3} {o:O3},k' [some (Zf roll),some (Zh bs),some (ZaF ts),some (ZaK us),some (Zb7 none),some (.ref M.length)] (M ++ [.lst L1]) = o -> Zw (Zaj 4 (Zae ZbO (Zb (Za 0) (Zb (Za 1) (Zb (Za 2) (Zj)))))) (Zw (sIf (e2 Zcb (Za 4) (eC .non)) (Zaf (Za 4)) (Zab)) (Zw (Zaj 5 (eLC (ZbJ (Zak ZaR (Zb (Za 3) (Zj)))) 1 (Zcj 6) [e1 Zb0 (Zae ZbP (Zb (Za 3) (Zb (Za 6) (Zj))))] (Za 6))) k')) [some (Zf roll),some (Zh bs),some (ZaF ts),some (ZaK us),none,none] M = o:=fun {k' o} h=>
   (Zg (Zy (Zb8 rfl rfl rfl f1))).trans ((Zg (Zo (M':=M) (by exact rfl))).trans ((Zg (Zy lc1)).trans h))
  have n1:=nn1 [some (Zf roll),some (Zh bs),some (ZaF ts),some (ZaK us),some (Zb7 none),some (.ref M.length)] rfl;cases h1:Zd3 none us 0 with
  | some k=>
   rw [h1] at n1;have i1:=ix1 k h1 [some (Zf roll),some (Zh bs),some (ZaF ts),some (ZaK us),some (Zb7 none),some (.ref M.length)] rfl;refine fin [.lst L1,.lst []] rfl (pre1 (Zah ((Zas n1).trans (Zaq ?_))));generalize (e2 Ze (Za 5) (eC (.int 0))) = E at i1;simp only [ZaB,Zb,Zj,eC,R3.bind,i1];simp [Zb7]
  | none=>
   rw [h1] at n1;obtain ⟨L2,lc2,nn2,ix2⟩:=Zn7 (env:=[some (Zf roll),some (Zh bs),some (ZaF ts),some (ZaK us),some (Zb7 none),some (.ref M.length)]) (c:=e1 Zb0 (Zae ZbR (Zb (Za 0) (Zb (Za 2) (Zb (e2 Ze (Za 3) (Za 6)) (Zj)))))) (M:=M ++ [.lst L1,.lst []]) (us:=us) (q:=fun k=>!Zhx roll ts us k) rfl rfl hu
    (fun k hk M=>by
     have hm:Zhx roll ts us k = Zdk roll ts us[k]:=by simp [Zhx,hk]
     rw [hm];refine ZfX (Zb8 (M1:=M) (M2:=M) (M3:=M) rfl rfl ?_ (ZiI roll R ts h8 pl us[k] M)) rfl;simp only [e2,Za,ZaK,Yeb,Ycp,Yf,Yh,R3.bind,ZaT,ZaU,ZaS,ZaL,Zhs hk]) (ZkL roll ts us)
   have n2:=nn2 [some (Zf roll),some (Zh bs),some (ZaF ts),some (ZaK us),some (Zb7 none),some (.ref (M ++ [MO.lst L1,.lst []]).length)] rfl;have a2:∀ x:Store,M ++ [MO.lst L1,.lst []] ++ x = M ++ (MO.lst L1 :: .lst [] :: x):=fun x=>by simp
   rw [a2] at lc2;rw [a2,a2] at n2;cases h2:Zek (Zdk roll ts) us 0 with
   | some k=>
    rw [h2] at n2;have i2:=ix2 k h2 [some (Zf roll),some (Zh bs),some (ZaF ts),some (ZaK us),some (Zb7 none),some (.ref (M ++ [MO.lst L1,.lst []]).length)] rfl;rw [a2] at i2;refine fin (.lst L1 :: .lst [] :: [.lst L2,.lst []]) rfl (pre1 ((Zg (Zo n1)).trans ((Zg (Zy lc2)).trans (Zah ((Zas n2).trans (Zaq ?_))))));generalize (e2 Ze (Za 5) (eC (.int 0))) = E at i2;simp only [ZaB,Zb,Zj,eC,R3.bind,i2];simp [Zb7]
   | none=>
    rw [h2] at n2;have lc:(eLC (Zih (eSl (Za 2) (ZaE) (ZaI (e1 ZeP (eC (.int 1)))))) 1 (Zcj 6) [e2 ZhQ (e2 Ze (e2 Ze (Za 0) (e2 Ze (Za 6) (eC (.int 0)))) (eC (.int 0))) (ZaB (Zb (eC (.str [103,101,116])) (Zb (eC (.str [115,101,116])) (Zj))))] (Za 6)) [some (Zf roll),some (Zh bs),some (ZaF ts),some (ZaK us),some (Zb7 none),some (.ref (M ++ [MO.lst L1,.lst []]).length)] (M ++ (MO.lst L1 :: .lst [] :: [.lst L2,.lst []])) = .ok (.ref (M ++ (MO.lst L1 :: .lst [] :: [.lst L2,.lst []])).length) (M ++ (MO.lst L1 :: .lst [] :: [.lst L2,.lst []]) ++ [.lst ((Zeh roll ts).map Zan)]):=by
     refine ZhJ (α:=Stp) (enc:=Zan) (h:=Zan) (p:=fun s=>match ZgU roll s.1 with | some r=>Zhz r | none=>false) (own:=1) (i:=6) (lock:=none) (as:=ts.dropLast) ?_ (fun _ h=>by cases h) (fun x hx M'=>?_) (fun x hx _ M'=>by exact rfl) (by simp; exact lA 1 0x186a15b0013884b001 T1 hz)
     ·have:=Zi5 (ts.map Zan)
      simp only [Zih,eSl,Za,ZaE,ZaI,e1,eC,ZaF,Yf,Yh,R3.bind,Zhf,Zce,Zcg,Zch,Zcf,this];rw [Yfc]
     ·obtain ⟨k,hk⟩:=Yb0 hx
      have hk':ts[k]? = some x:=by
       rw [Yf3] at hk;split at hk
       ·exact hk
       ·cases hk
      obtain ⟨j,r,hj,hr⟩:=pl k x hk';have gi:(e2 Ze (Za 0) (e2 Ze (Za 6) (eC (.int 0)))) [some (Zf roll),some (Zh bs),some (ZaF ts),some (ZaK us),some (Zb7 none),some (.ref (M ++ [MO.lst L1,.lst []]).length),some (Zan x)] M' = .ok (Zq r) M':=by
       simp [Zan,Zbo,hj,Zf,hr]
      simp only [hj,Zfv hr];refine Zac (a:=.str (Zed r)) (b:=.tup [.str [103,101,116],.str [115,101,116]]) (M1:=M') (M2:=M') (Zac gi rfl (ZeY r M')) (by simp) ?_;cases r <;> first | exact rfl | simp [Zed,Zhz,ZcN,Zht,Zg6,Zg9,Zhk,Zgh]
    have e7:(e2 ZbC (Zak ZaR (Zb (eLC (Zih (eSl (Za 2) (ZaE) (ZaI (e1 ZeP (eC (.int 1)))))) 1 (Zcj 6) [e2 ZhQ (e2 Ze (e2 Ze (Za 0) (e2 Ze (Za 6) (eC (.int 0)))) (eC (.int 0))) (ZaB (Zb (eC (.str [103,101,116])) (Zb (eC (.str [115,101,116])) (Zj))))] (Za 6)) (Zj))) (Zak ZaR (Zb (Za 3) (Zj)))) [some (Zf roll),some (Zh bs),some (ZaF ts),some (ZaK us),some (Zb7 none),some (.ref (M ++ [MO.lst L1,.lst []]).length)] (M ++ (MO.lst L1 :: .lst [] :: [.lst L2,.lst []])) = .ok (.bl (!decide (us.length = (Zeh roll ts).length))) (M ++ (MO.lst L1 :: .lst [] :: [.lst L2,.lst []]) ++ [.lst ((Zeh roll ts).map Zan)]):=by
     refine Zac (a:=.int ((Zeh roll ts).length:Int)) (b:=.int (us.length:Int)) (M1:=M ++ (MO.lst L1 :: .lst [] :: [.lst L2,.lst []]) ++ [.lst ((Zeh roll ts).map Zan)]) (M2:=M ++ (MO.lst L1 :: .lst [] :: [.lst L2,.lst []]) ++ [.lst ((Zeh roll ts).map Zan)]) (ZdN lc ?_) (by simp [ZaK]) ?_
     ·simp only [Zgs,Zgp,Zgr,Zea,ZaQ,Yac]
     ·have:(((Zeh roll ts).length:Int) = (us.length:Int)) = (us.length = (Zeh roll ts).length):=by
       rw [eq_iff_iff]; omega
      simp only [ZbC,ZdF,ZdJ,ZdQ,ZdE,ZdH,this]
    have a3:M ++ (MO.lst L1 :: .lst [] :: [.lst L2,.lst []]) ++ [.lst ((Zeh roll ts).map Zan)] = M ++ (MO.lst L1 :: .lst [] :: .lst L2 :: .lst [] :: [.lst ((Zeh roll ts).map Zan)]):=by simp
    rw [a3] at e7;by_cases hc:us.length = (Zeh roll ts).length
    ·show _ = R3.ok (Zb7 (if us.length ≠ (Zeh roll ts).length then some (COUNT,us.length) else none)) M
     rw [if_neg (by simpa using hc)];rw [decide_eq_true hc] at e7;exact fin _ rfl (pre1 ((Zg (Zo n1)).trans ((Zg (Zy lc2)).trans ((Zg (Zo n2)).trans ((Zg (Zo e7)).trans rfl)))))
    ·show _ = R3.ok (Zb7 (if us.length ≠ (Zeh roll ts).length then some (COUNT,us.length) else none)) M
     rw [if_pos hc];rw [decide_eq_false hc] at e7;exact fin (MO.lst L1 :: .lst [] :: .lst L2 :: .lst [] :: [.lst ((Zeh roll ts).map Zan)]) rfl (pre1 ((Zg (Zo n1)).trans ((Zg (Zy lc2)).trans ((Zg (Zo n2)).trans (Zah ((Zas e7).trans (by simp [Zaf,ZaK,Zb7])))))))
theorem Zrf (o:Option (List Nat × Nat)) (M:Store):Zdu [Zb7 o,Zb7 o] M = .ok (.bl true) M:=by
 cases o with
 | none=>simp [Zdu,Zfg,Zw,Zaj,Zaf,sIf,Zab,Zbq,mkF,ZdS,below,belowL,ZbS,Zb7]
 | some p=>obtain ⟨w,k⟩:=p; simp [Zdu,Zfg,Zw,Zaj,Zaf,sIf,Zab,Zbq,mkF,ZdS,below,belowL,ZbS,Zb7,ZeA,Zew,Zev,ZeH,ZeI,ZhI,ZfS,Zht,Zg6,Zg9,Zhk,Zgh,ZcW,Zg3]
theorem Zia {us:List Use} (h:us.length < 64):ZkN (us.map Zr):=by
 refine ⟨by simpa using h,.inl (Yaf.mpr fun d hd=>by obtain ⟨p,_,rfl⟩:=Ybi.mp hd; rfl),fun a ha b hb=>?_⟩;obtain ⟨p,_,rfl⟩:=Ybi.mp ha;obtain ⟨q,_,rfl⟩:=Ybi.mp hb;simp only [Zl2,ZlG,Zr,Zf1,Zgl];split
 ·split
  ·split
   ·split
    ·rfl
    ·rfl
   ·rfl
  ·rfl
 ·rfl
theorem Zj5 (us:List Use):∃ us':List Use,us'.length = us.length /\ Zkx (us.map Zr) = us'.map Zr:=by
 unfold Zkx;split
 ·rename_i h
  have hp:=h.choose_spec.1;obtain ⟨us',e,_⟩:=ZiJ (enc:=Zr) (P:=fun _ _=>True) h.choose fun j d hd=>by
   have hm:d ∈ us.map Zr:=hp.mem_iff.mp (Yax hd);obtain ⟨u,_,rfl⟩:=Ybi.mp hm;exact ⟨u,rfl,trivial⟩
  refine ⟨us',?_,e⟩;have:=hp.length_eq;rw [e] at this;simpa using this
 ·exact ⟨us,rfl,rfl⟩
theorem ZeM {env:ZaD} {M:Store} {i j n a b:Nat} {xs:List D} {d:D} {E:E3} {lo:EO3} (h1:env[i]? = some (some (.ref n))) (hM:M[n]? = some (.lst xs)) (ha:env[j]? = some (some (.int (a:Int)))) (hE:∀ G,E env (M ++ G) = .ok d (M ++ G)) (hlo:∀ M',lo env M' = .ok (some (b:Int)) M') (hz:xs.length <= 10000):
  e2 Zag (e2 Zag (eSl (Za i) ZaE (ZaI (Za j))) (ZbT (Zb E Zj))) (eSl (Za i) lo ZaE) env M = .ok (.ref (M.length + 4)) (M ++ [.lst (xs.take a),.lst [d],.lst (xs.take a ++ [d]),.lst (xs.drop b),.lst (xs.take a ++ [d] ++ xs.drop b)]):=by
 have s1:eSl (Za i) ZaE (ZaI (Za j)) env M = .ok (.ref M.length) (M ++ [.lst (xs.take a)]):=by
  simp only [eSl,Za,ZaE,ZaI,h1,ha,R3.bind,Zce,Zcg,Zch,Zcf,hM,ZhO,alloc]
 have s2:ZbT (Zb E Zj) env (M ++ [.lst (xs.take a)]) = .ok (.ref (M.length + 1)) (M ++ [.lst (xs.take a),.lst [d]]):=by
  simp only [ZbT,Zb,Zj,R3.bind,hE];simp
 have a1:Zag (.ref M.length) (.ref (M.length + 1)) (M ++ [.lst (xs.take a),.lst [d]]) = .ok (.ref (M.length + 2)) (M ++ [.lst (xs.take a),.lst [d],.lst (xs.take a ++ [d])]):=by
  have g1:(M ++ [MO.lst (xs.take a),.lst [d]])[M.length]? = some (.lst (xs.take a)):=ZaQ _ _ _;have g2:(M ++ [MO.lst (xs.take a),.lst [d]])[M.length + 1]? = some (.lst [d]):=ZaX _ _ 1;simp only [Zco,Zcq,Zcl,Zcp,g1,g2];rw [if_pos (by simp; exact lB 2 0xf423f5b10010127104b001 T1 hz (Ybx _ _))];simp
 have s3:eSl (Za i) lo ZaE env (M ++ [.lst (xs.take a),.lst [d],.lst (xs.take a ++ [d])]) = .ok (.ref (M.length + 3)) (M ++ [.lst (xs.take a),.lst [d],.lst (xs.take a ++ [d]),.lst (xs.drop b)]):=by
  simp only [eSl,Za,ZaE,h1,hlo,R3.bind,Zce,Zcg,Zch,Zcf,Zbn hM,Zf7,alloc];simp
 refine Zac (Zac s1 s2 a1) s3 ?_;have g1:(M ++ [MO.lst (xs.take a),.lst [d],.lst (xs.take a ++ [d]),.lst (xs.drop b)])[M.length + 2]? = some (.lst (xs.take a ++ [d])):=ZaX _ _ 2;have g2:(M ++ [MO.lst (xs.take a),.lst [d],.lst (xs.take a ++ [d]),.lst (xs.drop b)])[M.length + 3]? = some (.lst (xs.drop b)):=ZaX _ _ 3;simp only [Zco,Zcq,Zcl,Zcp,g1,g2];rw [if_pos (by simp; exact lC 3 0xf42405b2a1cc00201010127104b002 T1 hz (Ybx _ _) (Ya9 _ _))];simp
theorem Zj6 {env:ZaD} {M:Store} {i j n a b:Nat} {xs:List D} {lo:EO3} (h1:env[i]? = some (some (.ref n))) (hM:M[n]? = some (.lst xs)) (ha:env[j]? = some (some (.int (a:Int)))) (hlo:∀ M',lo env M' = .ok (some (b:Int)) M') (hz:xs.length <= 10000):
  e2 Zag (eSl (Za i) ZaE (ZaI (Za j))) (eSl (Za i) lo ZaE) env M = .ok (.ref (M.length + 2)) (M ++ [.lst (xs.take a),.lst (xs.drop b),.lst (xs.take a ++ xs.drop b)]):=by
 have s1:eSl (Za i) ZaE (ZaI (Za j)) env M = .ok (.ref M.length) (M ++ [.lst (xs.take a)]):=by
  simp only [eSl,Za,ZaE,ZaI,h1,ha,R3.bind,Zce,Zcg,Zch,Zcf,hM,ZhO,alloc]
 have s3:eSl (Za i) lo ZaE env (M ++ [.lst (xs.take a)]) = .ok (.ref (M.length + 1)) (M ++ [.lst (xs.take a),.lst (xs.drop b)]):=by
  simp only [eSl,Za,ZaE,h1,hlo,R3.bind,Zce,Zcg,Zch,Zcf,Zbn hM,Zf7,alloc];simp
 refine Zac s1 s3 ?_;have g1:(M ++ [MO.lst (xs.take a),.lst (xs.drop b)])[M.length]? = some (.lst (xs.take a)):=ZaQ _ _ _;have g2:(M ++ [MO.lst (xs.take a),.lst (xs.drop b)])[M.length + 1]? = some (.lst (xs.drop b)):=ZaX _ _ 1;simp only [Zco,Zcq,Zcl,Zcp,g1,g2];rw [if_pos (by simp; exact lC 3 0xf42405b21c00201010127104b002 T1 hz (Ybx _ _) (Ya9 _ _))];simp
theorem ZkC {ps n:Nat} {body:S3} {ds:List D} {env:ZaD} {M G:Store} {m:Nat} (h:body env M = .rt (.ref m) (M ++ G)) (hm:M.length <= m) (hl:ds.length = ps:=by rfl) (he:ds.map some ++ Yg (n - ps) none = env:=by rfl):mkF ps n body ds M = .ok (.ref m) (M ++ G):=by
 rw [ZdC h hl he];have:below M.length (.ref m) = false:=by simp [below]; exact hm
 simp [ZdS,this]
theorem Zh3 (roll:Zbx) (ts:List Stp) (h8:∀ s ∈ ts,s.2.length = 8) (h0:0 < ts.length) (hz:ts.length <= 1000) (n:Nat) (kind:Nat) (hk:kind < 6) (c:Int) (M:Store) (hM:M[n]? = some (.lst (ts.map Zan))):
  ∃ (ts':List Stp) (m:Nat) (G:Store),(∀ s ∈ ts',s.2.length = 8) /\ ts'.length <= ts.length + 1 /\ Za3 [Zf roll,.ref n,.int (kind:Int),.int c] M = .ok (.ref m) (M ++ G) /\ (M ++ G)[m]? = some (.lst (ts'.map Zan)):=by
 obtain ⟨a,ha,la⟩:=Zc2 c ts.length h0;obtain ⟨q,hq,lq⟩:=Zc2 (c / 64) 8 (lN [] 0 531425 rfl);have hq':c / 64 % 8 = (q:Int):=hq;have ga:Zbb (ts.map Zan) ((a:Nat):Int) = some (Zan ts[a]):=ZfE la;have l8:=h8 _ (Yu la);have hmem:=Yu la;generalize hs:ts[a] = s at ga l8 hmem;obtain ⟨p,bs⟩:=s;replace l8:bs.length = 8:=l8;have s4:(e2 Zaz (Za 3) (Zak ZaR (Zb (Za 1) (Zj)))) [some (Zf roll),some (.ref n),some (.int (kind:Int)),some (.int c),none,none,none,none,none] M = .ok (.int (a:Int)) M:=by
  simp [hM,h0,ha]
 have s5:Ze2 (e2 Ze (Za 1) (Za 4)) (Zci [5,6]) [some (Zf roll),some (.ref n),some (.int (kind:Int)),some (.int c),some (.int (a:Int)),none,none,none,none] M = .nx [some (Zf roll),some (.ref n),some (.int (kind:Int)),some (.int c),some (.int (a:Int)),some (.int p),some (Zh bs),none,none] M:=by
  simp [Ze2,hM,-ZcD,ga,Zan,Zbo]
 have s7:(e2 Zaz (e2 ZaG (Za 3) (eC (.int 64))) (eC (.int 8))) [some (Zf roll),some (.ref n),some (.int (kind:Int)),some (.int c),some (.int (a:Int)),some (.int p),some (Zh bs),none,none] M = .ok (.int (q:Int)) M:=by
  simp [hq']
 have spl:∀ (x:Stp) (b:Nat),x.2.length = 8 -> a <= b -> b <= a + 1 -> ∀ (m:Nat) (G:Store),(M ++ G)[m]? = some (.lst ((ts.map Zan).take a ++ [Zan x] ++ (ts.map Zan).drop b)) -> ∃ ts':List Stp,(∀ s ∈ ts',s.2.length = 8) /\ ts'.length <= ts.length + 1 /\ (M ++ G)[m]? = some (.lst (ts'.map Zan)):=fun x b hx hb1 hb2 m G h=>by
  refine ⟨ts.take a ++ [x] ++ ts.drop b,fun s hs=>?_,by simp; exact lE 3 0xa4ca3c2c0413c2102011001 T1 hb1 (Ybq _ _) (Yb (lC 2 563091983155201 T1 hb2 la)),by rw [h]; simp⟩;rcases Ybe.mp hs with hs | hs
  ·rcases Ybe.mp hs with hs | hs
   ·exact h8 s (Yg7 hs)
   ·rw [Yds.mp hs]; exact hx
  ·exact h8 s (Yg8 hs)
 have l1:∀ (env:ZaD),env[4]? = some (some (.int (a:Int))) -> ∀ M',ZaI (e2 Zag (Za 4) (eC (.int 1))) env M' = .ok (some ((a + 1:Nat):Int)) M':=fun env h M'=>by simp [h]
 have fin:∀ {m:Nat} {G:Store},ZcR [some (Zf roll),some (.ref n),some (.int (kind:Int)),some (.int c),none,none,none,none,none] M = .rt (.ref m) (M ++ G) -> M.length <= m -> (∃ ts':List Stp,(∀ s ∈ ts',s.2.length = 8) /\ ts'.length <= ts.length + 1 /\ (M ++ G)[m]? = some (.lst (ts'.map Zan))) ->
   ∃ (ts':List Stp) (m:Nat) (G:Store),(∀ s ∈ ts',s.2.length = 8) /\ ts'.length <= ts.length + 1 /\ Za3 [Zf roll,.ref n,.int (kind:Int),.int c] M = .ok (.ref m) (M ++ G) /\ (M ++ G)[m]? = some (.lst (ts'.map Zan)):=fun {m G} h hm ⟨ts',t8,lt,hg⟩=>⟨ts',m,G,t8,lt,ZkC h hm,hg⟩
 have pre:∀ {k':S3} {o:O3},k' [some (Zf roll),some (.ref n),some (.int (kind:Int)),some (.int c),some (.int (a:Int)),some (.int p),some (Zh bs),some (.int (q:Int)),none] M = o -> Zw (Zaj 4 (e2 Zaz (Za 3) (Zak ZaR (Zb (Za 1) (Zj))))) (Zw (Ze2 (e2 Ze (Za 1) (Za 4)) (Zci [5,6])) (Zw (Zaj 7 (e2 Zaz (e2 ZaG (Za 3) (eC (.int 64))) (eC (.int 8)))) k')) [some (Zf roll),some (.ref n),some (.int (kind:Int)),some (.int c),none,none,none,none,none] M = o:=fun {k' o} h=>
  (Zg (Zy s4)).trans ((Zg s5).trans ((Zg (Zy s7)).trans h))
 have kc:∀ (env:ZaD) (v:Nat),env[2]? = some (some (.int (kind:Int))) -> (e2 Zam (Za 2) (eC (.int (v:Int)))) env M = .ok (.bl (decide (kind = v))) M:=fun env v h=>by
  have:((kind:Int) = (v:Int)) = (kind = v):=by rw [eq_iff_iff]; omega
  simp only [e2,Za,eC,h,R3.bind,Zam,ZdF,ZdJ,ZdQ,ZdE,ZdH,this]
 have hlen:(ts.map Zan).length <= 10000:=by simp; exact lA 1 0x27104b003e83b001 T1 hz
 have kk:kind = 0 \/ kind = 1 \/ kind = 2 \/ kind = 3 \/ kind = 4 \/ kind = 5:=by omega
 rcases kk with rfl | rfl | rfl | rfl | rfl | rfl
 ·obtain ⟨x,hx,gx⟩:=Za8 l8 lq
  have c1:cutD (bs.map D.int) none (some (q:Int)) = (bs.take q).map D.int:=by rw [ZhO,Yfo]
  have c2:cutD (bs.map D.int) (some ((q:Int) + 1)) none = (bs.drop (q + 1)).map D.int:=by
   rw [show ((q:Int) + 1) = ((q + 1:Nat):Int) by exact rfl,Zf7,Yh0]
  have z1:min q 8 + (1:Nat) <= 1000000:=lA 1 0xf42405ba0c081b001 T1 (Ybx _ _);have z2:min q 8 + 1 + (7 - q) <= 1000000:=lC 2 0xf42405b2a0cc071b12c211001 T1 (Ybq _ _) (Yb (lA 1 7812554010641 T1 lq));have c3:∀ z:Int,List.take q (List.map D.int bs) ++ D.int z :: List.drop (q + 1) (List.map D.int bs) = List.map D.int (bs.set q z):=fun z=>by
   rw [Ydw,if_pos (by exact lB 2 4927672106987569 T1 l8 lq)]; simp
  have m2:ZbS 2 (c / 512 % 2) = true:=ZgN (by omega);have s8:(e2 ZbG (e2 Zag (e2 Ze (Za 6) (Za 7)) (eC (.int 1))) (e2 ZcQ (eC (.int 2)) (e2 Zaz (e2 ZaG (Za 3) (eC (.int 512))) (eC (.int 2))))) [some (Zf roll),some (.ref n),some (.int ((0:Nat):Int)),some (.int c),some (.int (a:Int)),some (.int p),some (Zh bs),some (.int (q:Int)),none] M = .ok (.int (x + 1 - 2 * (c / 512 % 2))) M:=by
   simp [Zh,-ZcD,gx,m2]
  have sp:=ZeM (env:=[some (Zf roll),some (.ref n),some (.int ((0:Nat):Int)),some (.int c),some (.int (a:Int)),some (.int p),some (Zh bs),some (.int (q:Int)),some (.int (x + 1 - 2 * (c / 512 % 2)))]) (i:=1) (j:=4) (a:=a) (b:=a + 1) (d:=Zan (p,bs.set q (x + 1 - 2 * (c / 512 % 2)))) (E:=ZaB (Zb (Za 5) (Zb (e2 Zag (e2 Zag (eSl (Za 6) (ZaE) (ZaI (Za 7))) (ZaB (Zb (Za 8) (Zj)))) (eSl (Za 6) (ZaI (e2 Zag (Za 7) (eC (.int 1)))) (ZaE))) (Zj)))) rfl hM rfl (fun G=>by
   simp [Zan,Zbo,Zh,c1,c2,l8,z1,z2,c3]) (l1 _ rfl) hlen
  exact fin (pre (Zah ((Zas (kc _ 0 rfl)).trans ((Zg (Zy s8)).trans (Zaq sp))))) (Yw _ _) (spl (p,bs.set q _) (a + 1) (by simpa using l8) (Yw _ _) (Yj _) _ _ (ZaX _ _ 4))
 ·have q0:(0:Int) < (roll.length:Int) + 2:=iN [_] [] 0 565218537 T1
  have sp:=ZeM (env:=[some (Zf roll),some (.ref n),some (.int ((1:Nat):Int)),some (.int c),some (.int (a:Int)),some (.int p),some (Zh bs),some (.int (q:Int)),none]) (i:=1) (j:=4) (a:=a) (b:=a + 1) (d:=Zan (c / 64 % ((roll.length:Int) + 2) - 1,bs)) (E:=ZaB (Zb (e2 ZbG (e2 Zaz (e2 ZaG (Za 3) (eC (.int 64))) (e2 Zag (Zak ZaR (Zb (Za 0) (Zj))) (eC (.int 2)))) (eC (.int 1))) (Zb (Za 6) (Zj)))) rfl hM rfl (fun G=>by
   simp [Zan,Zbo,Zf,q0]) (l1 _ rfl) hlen
  exact fin (pre ((Zg (Zo (kc _ 0 rfl))).trans (Zah ((Zas (kc _ 1 rfl)).trans (Zaq sp))))) (Yw _ _) (spl (_,bs) (a + 1) l8 (Yw _ _) (Yj _) _ _ (ZaX _ _ 4))
 ·have sl:(eSl (Za 1) (ZaE) (ZaI (e1 ZeP (eC (.int 1))))) [some (Zf roll),some (.ref n),some (.int ((2:Nat):Int)),some (.int c),some (.int (a:Int)),some (.int p),some (Zh bs),some (.int (q:Int)),none] M = .ok (.ref M.length) (M ++ [.lst (ts.dropLast.map Zan)]):=by
   have:=Zi5 (ts.map Zan);simp only [eSl,Za,ZaE,ZaI,e1,eC,Yf,Yh,R3.bind,Zhf,Zce,Zcg,Zch,Zcf,hM,this,alloc];rw [Yfc]
  exact fin (pre ((Zg (Zo (kc _ 0 rfl))).trans ((Zg (Zo (kc _ 1 rfl))).trans (Zah ((Zas (kc _ 2 rfl)).trans (Zaq sl)))))) (Yj _) ⟨ts.dropLast,fun s hs=>h8 s ((List.dropLast_sublist _).subset hs),by simp; exact lA 0 178310144 T1,ZaQ _ _ _⟩
 ·have sp:=ZeM (env:=[some (Zf roll),some (.ref n),some (.int ((3:Nat):Int)),some (.int c),some (.int (a:Int)),some (.int p),some (Zh bs),some (.int (q:Int)),none]) (i:=1) (j:=4) (a:=a) (b:=a) (d:=Zan (p,bs)) (E:=e2 Ze (Za 1) (Za 4)) (lo:=ZaI (Za 4)) rfl hM rfl (fun G=>by
   simp [Zbn hM,-ZcD,ga]) (fun M'=>by exact rfl) hlen
  exact fin (pre ((Zg (Zo (kc _ 0 rfl))).trans ((Zg (Zo (kc _ 1 rfl))).trans ((Zg (Zo (kc _ 2 rfl))).trans (Zah ((Zas (kc _ 3 rfl)).trans (Zaq sp))))))) (Yw _ _) (spl (p,bs) a l8 (Yj _) (Yw _ _) _ _ (ZaX _ _ 4))
 ·have sp:=Zj6 (env:=[some (Zf roll),some (.ref n),some (.int ((4:Nat):Int)),some (.int c),some (.int (a:Int)),some (.int p),some (Zh bs),some (.int (q:Int)),none]) (i:=1) (j:=4) (a:=a) (b:=a + 1) rfl hM rfl (l1 _ rfl) hlen
  refine fin (pre ((Zg (Zo (kc _ 0 rfl))).trans ((Zg (Zo (kc _ 1 rfl))).trans ((Zg (Zo (kc _ 2 rfl))).trans ((Zg (Zo (kc _ 3 rfl))).trans (Zah ((Zas (kc _ 4 rfl)).trans (Zaq sp)))))))) (Yw _ _) ⟨ts.take a ++ ts.drop (a + 1),fun s hs=>?_,by simp; exact lD 2 0xa3c20c03a1c2c211001 T1 (Ybq _ _) (Yb (lB 1 6991908881 T1 la)),?_⟩
  ·rcases Ybe.mp hs with hs | hs
   ·exact h8 s (Yg7 hs)
   ·exact h8 s (Yg8 hs)
  ·rw [ZaX]; simp
 ·have z:ts.length + 1 <= 1000000:=lA 1 0xf42405ba0c03e83b001 T1 hz
  have sp:(e2 Zag (Za 1) (ZbT (Zb (ZaB (Zb (Za 5) (Zb (Za 6) (Zj)))) (Zj)))) [some (Zf roll),some (.ref n),some (.int ((5:Nat):Int)),some (.int c),some (.int (a:Int)),some (.int p),some (Zh bs),some (.int (q:Int)),none] M = .ok (.ref (M.length + 1)) (M ++ [.lst [Zan (p,bs)],.lst ((ts ++ [(p,bs)]).map Zan)]):=by
   have g1:=Zbn hM [.lst [Zan (p,bs)]];refine Zac (a:=.ref n) (b:=.ref M.length) (M1:=M) (M2:=M ++ [.lst [Zan (p,bs)]]) rfl (by simp [Zan,Zbo]) ?_;simp only [Zco,Zcq,Zcl,Zcp,g1,ZaQ];rw [if_pos (by simp; exact lA 1 0xf423f5b00f42405ba0c01 T1 z)];simp
  refine fin (pre ((Zg (Zo (kc _ 0 rfl))).trans ((Zg (Zo (kc _ 1 rfl))).trans ((Zg (Zo (kc _ 2 rfl))).trans ((Zg (Zo (kc _ 3 rfl))).trans ((Zg (Zo (kc _ 4 rfl))).trans (Zaq sp))))))) (Yw _ _) ⟨ts ++ [(p,bs)],fun s hs=>?_,by simp,ZaX _ _ 1⟩;rcases Ybe.mp hs with hs | hs
  ·exact h8 s hs
  ·rw [Yds.mp hs]; exact l8
theorem ZiC {i j:Int} {M:Store} (h:0 < j /\ j < 1073741824):ZaG (.int i) (.int j) M = .ok (.int (i / j)) M:=by simp only [Zkl,if_pos h]
theorem ZsJ {i j:Int} {M:Store} (h:ZbS i j = true):ZcQ (.int i) (.int j) M = .ok (.int (i * j)) M:=by simp only [Zpu,ZpD,ZqE,if_pos h]
theorem Ztj {g:EL3} {env:ZaD} {M M':Store} {ds:List D} (h:g env M = .ok ds M') (hl:decide (ds.length <= 100) = true):ZbT g env M = .ok (.ref M'.length) (M' ++ [.lst ds]):=by
 have z:ds.length <= SZ:=Y2 (of_decide_eq_true hl) (by decide);simp only [ZbT,h,R3.bind,if_pos z,alloc]
theorem Zr7 {kind x:Nat} {env:ZaD} {M:Store} (h:env[1]? = some (some (.int (kind:Int)))):(e2 Zam (Za 1) (eC (.int (x:Int)))) env M = .ok (.bl (decide (kind = x))) M:=by
 have:((kind:Int) = (x:Int)) = (kind = x):=propext Int.ofNat_inj;simp only [e2,Za,eC,h,R3.bind,Zam,ZdF,ZdJ,ZdQ,ZdE,ZdH,this]
theorem Zo4 {kind x:Nat} {env:ZaD} {M:Store} (e:kind = x) (h:env[1]? = some (some (.int (kind:Int)))):(e2 Zam (Za 1) (eC (.int (x:Int)))) env M = .ok (.bl true) M:=(Zr7 h).trans (by rw [decide_eq_true e])
theorem ZgQ {kind x:Nat} {env:ZaD} {M:Store} (e:¬ kind = x) (h:env[1]? = some (some (.int (kind:Int)))):(e2 Zam (Za 1) (eC (.int (x:Int)))) env M = .ok (.bl false) M:=(Zr7 h).trans (by rw [decide_eq_false e])
theorem Zsr {f:E3} {g:G3} {env env':ZaD} {M M1:Store} {d:D} (h:f env M = .ok d M1) (hg:g d env = some env'):Ze2 f g env M = .nx env' M1:=by
 rw [Ze2,h]; simp only [hg]
theorem ZqH {us:List Use} {c:Int} {a:Nat} {M:Store} (hpos:0 < us.length) (ha:c % (us.length:Int) = a):Zaz (.int c) (.int ((us.map Zr).length:Int)) M = .ok (.int a) M:=by
 rw [Yac,ZgP (Yb3.2 hpos),ha]
theorem Zky (f g h:S3) (env:ZaD) (M:Store):Zw (Zw f g) h env M = Zw f (Zw g h) env M:=by
 unfold Zw;cases f env M <;> rfl
theorem ZuB {p q r s k:S3} {env env':ZaD} {M M':Store} (h:Zw p (Zw q (Zw r s)) env M = .nx env' M'):Zw p (Zw q (Zw r (Zw s k))) env M = k env' M':=by
 have e:∀ g:S3,Zw (Zw q (Zw r s)) k = Zw q (Zw r (Zw s k)):=fun _=>by
  funext e1 M1;rw [Zky];have z:Zw (Zw r s) k = Zw r (Zw s k):=by funext e2 M2; exact Zky _ _ _ _ _
  rw [z]
 rw [← e p,← Zky];exact Zg h
theorem ZrD (n a:Nat) (kind:Nat) (c nu t v:Int) (w:List Nat) (M:Store):∃ (x:Use) (G:Store),(Zw (Zaj 10 (ZaB (Zb (Za 4) (Zb (Za 5) (Zb (Za 6) (Zb (e2 ZbG (e2 Zag (Za 7) (eC (.int 1))) (e2 ZcQ (eC (.int 2)) (e2 Zaz (e2 ZaG (Za 2) (eC (.int 64))) (eC (.int 2))))) (Zj))))))) (Zw (sIf (e2 Zam (Za 1) (eC (.int 9))) (Zaj 10 (ZaB (Zb (e2 ZbG (e2 Zag (Za 4) (eC (.int 1))) (e2 ZcQ (eC (.int 2)) (e2 Zaz (e2 ZaG (Za 2) (eC (.int 64))) (eC (.int 2))))) (Zb (Za 5) (Zb (Za 6) (Zb (Za 7) (Zj))))))) (Zab)) (Zw (sIf (e2 Zam (Za 1) (eC (.int 10))) (Zaj 10 (ZaB (Zb (Za 4) (Zb (e2 ZbG (e2 Zaz (e2 ZaG (Za 2) (eC (.int 64))) (eC (.int 70))) (eC (.int 2))) (Zb (Za 6) (Zb (Za 7) (Zj))))))) (Zab)) (sIf (e2 Zam (Za 1) (eC (.int 11))) (Zaj 10 (ZaB (Zb (Za 4) (Zb (Za 5) (Zb (e2 Ze (ZbT (Zb (eC (.str [103,101,116])) (Zb (eC (.str [115,101,116])) (Zb (eC (.str [116,101,108,108])) (Zj))))) (e2 Zaz (e2 ZaG (Za 2) (eC (.int 64))) (eC (.int 3)))) (Zb (Za 7) (Zj))))))) (Zab))))) [some (.ref n),some (.int (kind:Int)),some (.int c),some (.int (a:Int)),some (.int nu),some (.int t),some (.str w),some (.int v),none,none,none] M = .nx [some (.ref n),some (.int (kind:Int)),some (.int c),some (.int (a:Int)),some (.int nu),some (.int t),some (.str w),some (.int v),none,none,some (Zr x)] (M ++ G):=by
 have q2:∀ (env:ZaD),env[2]? = some (some (.int c)) -> ∀ x:Int,∀ e:E3,(∀ M,e env M = .ok (.int x) M) -> ∀ M,(e2 ZbG (e2 Zag e (eC (.int 1))) (e2 ZcQ (eC (.int 2)) (e2 Zaz (e2 ZaG (Za 2) (eC (.int 64))) (eC (.int 2))))) env M = .ok (.int (x + 1 - 2 * (c / 64 % 2))) M:=fun env h x e he M=>
  Zac (Zac (he M) rfl rfl) (Zac rfl (Zac (Zac (by simp only [Za,h]) rfl (ZiC (by decide))) rfl (ZgP (by decide))) (ZsJ (ZgN (by omega)))) rfl
 have s0:∀ M,(ZaB (Zb (Za 4) (Zb (Za 5) (Zb (Za 6) (Zb (e2 ZbG (e2 Zag (Za 7) (eC (.int 1))) (e2 ZcQ (eC (.int 2)) (e2 Zaz (e2 ZaG (Za 2) (eC (.int 64))) (eC (.int 2))))) (Zj)))))) [some (.ref n),some (.int (kind:Int)),some (.int c),some (.int (a:Int)),some (.int nu),some (.int t),some (.str w),some (.int v),none,none,none] M = .ok (Zr ⟨nu,t,w,v + 1 - 2 * (c / 64 % 2)⟩) M:=fun M=>
  ZcO (Za4 rfl (Za4 rfl (Za4 rfl (Za4 (q2 _ rfl v (Za 7) (fun _=>rfl) M) rfl)))) rfl
 by_cases k9:kind = 9
 ·refine ⟨⟨nu + 1 - 2 * (c / 64 % 2),t,w,v⟩,[],?_⟩
  rw [Yp];exact (Zg (Zy (s0 M))).trans ((Zg ((Zas (Zo4 k9 rfl)).trans (Zy (d:=Zr ⟨nu + 1 - 2 * (c / 64 % 2),t,w,v⟩) (ZcO (Za4 (q2 _ rfl nu (Za 4) (fun _=>rfl) M) (Za4 rfl (Za4 rfl (Za4 rfl rfl)))) rfl)))).trans ((Zg (Zo (ZgQ (x:=10) (by rw [k9]; decide) rfl))).trans (Zo (ZgQ (x:=11) (by rw [k9]; decide) rfl))))
 by_cases k10:kind = 10
 ·refine ⟨⟨nu,c / 64 % 70 - 2,w,v⟩,[],?_⟩
  rw [Yp];exact (Zg (Zy (s0 M))).trans ((Zg (Zo (ZgQ k9 rfl))).trans ((Zg ((Zas (Zo4 k10 rfl)).trans (Zy (d:=Zr ⟨nu,c / 64 % 70 - 2,w,v⟩) (ZcO (Za4 rfl (Za4 (Zac (Zac (Zac rfl rfl (ZiC (by decide))) rfl (ZgP (by decide))) rfl rfl) (Za4 rfl (Za4 rfl rfl)))) rfl)))).trans (Zo (ZgQ (x:=11) (by rw [k10]; decide) rfl))))
 by_cases k11:kind = 11
 ·obtain ⟨w3,hw3⟩:∃ w,Zbb [D.str [103,101,116],D.str [115,101,116],D.str [116,101,108,108]] (c / 64 % 3) = some (.str w):=by
   obtain ⟨i,e,l⟩:=Zc2 (c / 64) 3 (by decide);rw [show c / 64 % 3 = (i:Int) from e,Zcm];rcases (by decide:∀ i:Nat,i < 3 -> i = 0 \/ i = 1 \/ i = 2) i l with h | h | h <;> subst h <;> exact ⟨_,rfl⟩
  refine ⟨⟨nu,t,w3,v⟩,[.lst [.str [103,101,116],.str [115,101,116],.str [116,101,108,108]]],?_⟩;exact (Zg (Zy (s0 M))).trans ((Zg (Zo (ZgQ k9 rfl))).trans ((Zg (Zo (ZgQ k10 rfl))).trans ((Zas (Zo4 k11 rfl)).trans (Zy (d:=Zr ⟨nu,t,w3,v⟩) (ZcO (Za4 rfl (Za4 rfl (Za4 (Zac (Ztj rfl rfl) (Zac (Zac rfl rfl (ZiC (by decide))) rfl (ZgP (by decide))) (Zli (ZaQ _ _ _) hw3)) (Za4 rfl rfl)))) rfl)))))
 ·refine ⟨⟨nu,t,w,v + 1 - 2 * (c / 64 % 2)⟩,[],?_⟩
  rw [Yp];exact (Zg (Zy (s0 M))).trans ((Zg (Zo (ZgQ k9 rfl))).trans ((Zg (Zo (ZgQ k10 rfl))).trans (Zo (ZgQ k11 rfl))))
theorem Zik (us:List Use) (hz:us.length < 64) (n:Nat) (kind:Nat) (hk:6 <= kind) (hk':kind < 13) (c:Int) (M:Store) (hM:M[n]? = some (.lst (us.map Zr))):
  ∃ (us':List Use) (m:Nat) (G:Store),us'.length <= us.length + 1 /\ Zba [.ref n,.int (kind:Int),.int c] M = .ok (.ref m) (M ++ G) /\ (M ++ G)[m]? = some (.lst (us'.map Zr)):=by
 have fin:∀ {m:Nat} {G:Store},Zcd [some (.ref n),some (.int (kind:Int)),some (.int c),none,none,none,none,none,none,none,none] M = .rt (.ref m) (M ++ G) -> M.length <= m -> (∃ us':List Use,us'.length <= us.length + 1 /\ (M ++ G)[m]? = some (.lst (us'.map Zr))) ->
   ∃ (us':List Use) (m:Nat) (G:Store),us'.length <= us.length + 1 /\ Zba [.ref n,.int (kind:Int),.int c] M = .ok (.ref m) (M ++ G) /\ (M ++ G)[m]? = some (.lst (us'.map Zr)):=fun {m G} h hm ⟨us',lt,hg⟩=>⟨us',m,G,lt,ZkC h hm,hg⟩
 obtain ⟨w2,hw2⟩:∃ w,Zbb [D.str [103,101,116],D.str [115,101,116]] (c % 2) = some (.str w):=by
  have h:c % 2 = 0 \/ c % 2 = 1:=by omega
  rcases h with h | h <;> rw [h] <;> exact ⟨_,rfl⟩
 by_cases h0:us.length = 0
 ·have e:us = []:=List.length_eq_zero_iff.mp h0
  subst e;refine fin (m:=M.length + 1) (G:=[.lst [.str [103,101,116],.str [115,101,116]],.lst [Zr ⟨c % 5 - 2,c / 5 % 3,w2,0⟩]]) (Zah ((Zas (M':=M) (by simp [hM])).trans (Zaq ?_))) (Yw _ _) ⟨[⟨c % 5 - 2,c / 5 % 3,w2,0⟩],by simp,ZaX _ _ 1⟩;simp [hw2,Zr]
 ·have hpos:0 < us.length:=(Yz (Yag _) (Yat h0))
  obtain ⟨a,ha,la⟩:=Zc2 c us.length hpos;have ga:Zbb (us.map Zr) ((a:Nat):Int) = some (Zr us[a]):=Zhs la;generalize hs:us[a] = u at ga;obtain ⟨nu,t,w,v⟩:=u;have s3:(e2 Zaz (Za 2) (Zak ZaR (Zb (Za 0) (Zj)))) [some (.ref n),some (.int (kind:Int)),some (.int c),none,none,none,none,none,none,none,none] M = .ok (.int (a:Int)) M:=Zac rfl (ZdN rfl (Zfy hM)) (ZqH hpos ha);have s4:Ze2 (e2 Ze (Za 0) (Za 3)) (Zci [4,5,6,7]) [some (.ref n),some (.int (kind:Int)),some (.int c),some (.int (a:Int)),none,none,none,none,none,none,none] M = .nx [some (.ref n),some (.int (kind:Int)),some (.int c),some (.int (a:Int)),some (.int nu),some (.int t),some (.str w),some (.int v),none,none,none] M:=Zsr (Zac rfl rfl (Zli hM ga)) rfl;have l1:∀ (env:ZaD),env[3]? = some (some (.int (a:Int))) -> ∀ M',ZaI (e2 Zag (Za 3) (eC (.int 1))) env M' = .ok (some ((a + 1:Nat):Int)) M':=fun env h M'=>by simp [h]
  have hlen:(us.map Zr).length <= 10000:=by simp; exact lA 1 0x27104b00402b011 T1 hz
  have pre:∀ {k':S3} {o:O3},k' [some (.ref n),some (.int (kind:Int)),some (.int c),some (.int (a:Int)),some (.int nu),some (.int t),some (.str w),some (.int v),none,none,none] M = o -> Zw (sIf (e2 Zam (Zak ZaR (Zb (Za 0) (Zj))) (eC (.int 0))) (Zaf (ZbT (Zb (ZaB (Zb (e2 ZbG (e2 Zaz (Za 2) (eC (.int 5))) (eC (.int 2))) (Zb (e2 Zaz (e2 ZaG (Za 2) (eC (.int 5))) (eC (.int 3))) (Zb (e2 Ze (ZbT (Zb (eC (.str [103,101,116])) (Zb (eC (.str [115,101,116])) (Zj)))) (e2 Zaz (Za 2) (eC (.int 2)))) (Zb (eC (.int 0)) (Zj)))))) (Zj)))) (Zab)) (Zw (Zaj 3 (e2 Zaz (Za 2) (Zak ZaR (Zb (Za 0) (Zj))))) (Zw (Ze2 (e2 Ze (Za 0) (Za 3)) (Zci [4,5,6,7])) k')) [some (.ref n),some (.int (kind:Int)),some (.int c),none,none,none,none,none,none,none,none] M = o:=fun {k' o} h=>
   (Zg (Zo (M':=M) (by simp [hM,h0]))).trans ((Zg (Zy s3)).trans ((Zg s4).trans h))
  by_cases k6:kind = 6
  ·have sp:=Zj6 (env:=[some (.ref n),some (.int (kind:Int)),some (.int c),some (.int (a:Int)),some (.int nu),some (.int t),some (.str w),some (.int v),none,none,none]) (i:=0) (j:=3) (a:=a) (b:=a + 1) rfl hM rfl (l1 _ rfl) hlen
   exact fin (pre (Zah ((Zas (Zo4 k6 rfl)).trans (Zaq sp)))) (Yw _ _) ⟨us.take a ++ us.drop (a + 1),by simp; exact lD 2 0xa3c20c03a1c2c211001 T1 (Ybq _ _) (Yb (lB 1 6991908881 T1 la)),by rw [ZaX]; simp⟩
  by_cases k7:kind = 7
  ·have sp:=ZeM (env:=[some (.ref n),some (.int (kind:Int)),some (.int c),some (.int (a:Int)),some (.int nu),some (.int t),some (.str w),some (.int v),none,none,none]) (i:=0) (j:=3) (a:=a) (b:=a) (d:=Zr ⟨nu,t,w,v⟩) (E:=e2 Ze (Za 0) (Za 3)) (lo:=ZaI (Za 3)) rfl hM rfl (fun G=>by
    simp [Zbn hM,-ZcD,ga]) (fun M'=>by exact rfl) hlen
   exact fin (pre ((Zg (Zo (ZgQ k6 rfl))).trans (Zah ((Zas (Zo4 k7 rfl)).trans (Zaq sp))))) (Yw _ _) ⟨us.take a ++ [⟨nu,t,w,v⟩] ++ us.drop a,by simp; exact lD 2 0xa3ca2c0c0312c211001 T1 (Ybq _ _) (Yb (Ycz la)),by rw [ZaX]; simp⟩
  by_cases k8:kind = 8
  ·obtain ⟨b,hb,lb⟩:=Zc2 (c / 64) us.length hpos
   have gb:Zbb (us.map Zr) ((b:Nat):Int) = some (Zr us[b]):=Zhs lb;have g9:(M ++ [MO.lst (us.map Zr)])[M.length]? = some (.lst (us.map Zr)):=ZaQ _ _ _;have g9':=Zbn hM [.lst (us.map Zr)];refine fin (m:=M.length) (G:=[.lst (((us.set a us[b]).set b ⟨nu,t,w,v⟩).map Zr)]) (pre ((Zg (Zo (ZgQ k6 rfl))).trans ((Zg (Zo (ZgQ k7 rfl))).trans (Zah ((Zas (Zo4 k8 rfl)).trans ?_))))) (Yj _) ⟨(us.set a us[b]).set b ⟨nu,t,w,v⟩,by simp,ZaQ _ _ _⟩;refine (Zg (Zy (d:=.int (b:Int)) (M':=M) (Zac (Zac rfl rfl (ZiC (by decide))) (ZdN rfl (Zfy hM)) (ZqH hpos hb)))).trans ((Zg (Zy (d:=.ref M.length) (M':=M ++ [.lst (us.map Zr)]) (by simp [hM]))).trans ((Zg (env':=[some (.ref n),some (.int (kind:Int)),some (.int c),some (.int (a:Int)),some (.int nu),some (.int t),some (.str w),some (.int v),some (.int (b:Int)),some (.ref M.length),none]) (M':=M ++ [.lst (((us.set a us[b]).set b ⟨nu,t,w,v⟩).map Zr)]) ?_).trans rfl));simp [Zlg,ZmO,g9',-ZcD,ga,gb,la,lb,Ygv]
  have rw':=ZrD n a kind c nu t v w M;obtain ⟨x,G,hx⟩:=rw';have hMG:=Zbn hM G;have sp:=ZeM (env:=[some (.ref n),some (.int (kind:Int)),some (.int c),some (.int (a:Int)),some (.int nu),some (.int t),some (.str w),some (.int v),none,none,some (Zr x)]) (M:=M ++ G) (i:=0) (j:=3) (a:=a) (b:=a + 1) (d:=Zr x) (E:=Za 10) rfl hMG rfl (fun G'=>by exact rfl) (l1 _ rfl) hlen;have ex:(us.map Zr).take a ++ [Zr x] ++ (us.map Zr).drop (a + 1) = (us.take a ++ [x] ++ us.drop (a + 1)).map Zr:=by simp
  rw [ex] at sp;have lx:(us.take a ++ [x] ++ us.drop (a + 1)).length = us.length:=by simp; omega
  obtain ⟨us2,l2,hs2⟩:=Zj5 (us.take a ++ [x] ++ us.drop (a + 1));have so:=Zia (us:=us.take a ++ [x] ++ us.drop (a + 1)) (lB 2 0x402b01402b1111021 T1 lx hz);generalize us.take a ++ [x] ++ us.drop (a + 1) = xs at *;have g4:∀ y1 y2 y3 y4:MO,(M ++ G ++ [y1,y2,y3,y4,.lst (xs.map Zr)])[(M ++ G).length + 4]? = some (.lst (xs.map Zr)):=fun y1 y2 y3 y4=>ZaX _ _ 4;generalize hM5:M ++ G ++ [MO.lst ((us.map Zr).take a),.lst [Zr x],.lst ((us.map Zr).take a ++ [Zr x]),.lst ((us.map Zr).drop (a + 1)),.lst (xs.map Zr)] = M5 at sp;have k9:M5[(M ++ G).length + 4]? = some (.lst (xs.map Zr)):=by rw [← hM5]; exact g4 _ _ _ _
  have l5:(M ++ G).length + 4 < M5.length:=(Yc.mp k9).1;have e5:∃ G5,M5 = M ++ G5:=⟨_,by rw [← hM5,Yao]⟩;obtain ⟨G5,e5⟩:=e5;obtain ⟨b,hb,lb⟩:=Zc2 (c / 4096) 2 (lN [] 0 138209 rfl);have hb':c / 4096 % 2 = (b:Int):=hb;have rt:(Zaf (e2 Ze (ZbT (Zb (Za 9) (Zb (Zak Zcc (Zb (Za 9) (Zj))) (Zj)))) (e2 Zaz (e2 ZaG (Za 2) (eC (.int 4096))) (eC (.int 2))))) [some (.ref n),some (.int (kind:Int)),some (.int c),some (.int (a:Int)),some (.int nu),some (.int t),some (.str w),some (.int v),none,some (.ref ((M ++ G).length + 4)),some (Zr x)] M5 = .rt (if b = 0 then .ref ((M ++ G).length + 4) else .ref M5.length) (M5 ++ [.lst (us2.map Zr),.lst [.ref ((M ++ G).length + 4),.ref M5.length]]):=by
   refine Zaq ?_;have bs:Zak Zcc (Zb (Za 9) (Zj)) [some (.ref n),some (.int (kind:Int)),some (.int c),some (.int (a:Int)),some (.int nu),some (.int t),some (.str w),some (.int v),none,some (.ref ((M ++ G).length + 4)),some (Zr x)] M5 = .ok (.ref M5.length) (M5 ++ [.lst (us2.map Zr)]):=by
    refine ZdN (a:=.ref ((M ++ G).length + 4)) (M1:=M5) rfl ?_;simp only [ZcS,k9,if_pos so,hs2,alloc]
   have ls:(ZbT (Zb (Za 9) (Zb (Zak Zcc (Zb (Za 9) (Zj))) (Zj)))) [some (.ref n),some (.int (kind:Int)),some (.int c),some (.int (a:Int)),some (.int nu),some (.int t),some (.str w),some (.int v),none,some (.ref ((M ++ G).length + 4)),some (Zr x)] M5 = .ok (.ref (M5.length + 1)) (M5 ++ [.lst (us2.map Zr),.lst [.ref ((M ++ G).length + 4),.ref M5.length]]):=by
    generalize Zak Zcc (Zb (Za 9) (Zj)) = E at bs;simp only [ZbT,Zb,Zj,R3.bind,bs,Za,Yf,Yh];simp
   have gl:(M5 ++ [MO.lst (us2.map Zr),.lst [.ref ((M ++ G).length + 4),.ref M5.length]])[M5.length + 1]? = some (.lst [.ref ((M ++ G).length + 4),.ref M5.length]):=ZaX _ _ 1;refine Zac (b:=.int (b:Int)) (M2:=M5 ++ [.lst (us2.map Zr),.lst [.ref ((M ++ G).length + 4),.ref M5.length]]) ls (by simp [hb']) ?_;have hbb:b = 0 \/ b = 1:=by omega
   rcases hbb with rfl | rfl
   ·simp only [ZaT,ZaU,ZaS,ZaL,gl]; rfl
   ·simp only [ZaT,ZaU,ZaS,ZaL,gl]; rfl
  have all:Zcd [some (.ref n),some (.int (kind:Int)),some (.int c),none,none,none,none,none,none,none,none] M = .rt (if b = 0 then .ref ((M ++ G).length + 4) else .ref M5.length) (M ++ (G5 ++ [.lst (us2.map Zr),.lst [.ref ((M ++ G).length + 4),.ref M5.length]])):=by
   rw [← Yao,← e5];exact pre ((Zg (Zo (ZgQ k6 rfl))).trans ((Zg (Zo (ZgQ k7 rfl))).trans ((Zg (Zo (ZgQ k8 rfl))).trans ((ZuB hx).trans ((Zg (Zy sp)).trans rt)))))
  have hbb:b = 0 \/ b = 1:=by omega
  rcases hbb with rfl | rfl
  ·rw [if_pos rfl] at all
   exact fin all (by simp; exact lB 0 17633954816 T1) ⟨xs,lB 1 43419439137 T1 lx,by rw [← Yao,← e5]; exact Zbn k9 _⟩
  ·rw [if_neg (by exact fun z=>lN [] 1 453153 rfl z)] at all
   exact fin all (by rw [e5]; simp) ⟨us2,lC 2 0xa2c0021211021 T1 l2 lx,by rw [← Yao,← e5]; exact ZaQ _ _ _⟩
theorem Znd (n:Nat) (us:List Use):below n (ZaK us) = true:=by
 unfold ZaK below
 induction us with
 | nil=>rfl
 | cons u us ih=>simp only [Y9,belowL,ih,ZoM,Ycu]
theorem ZlE (roll:Zbx) (R:ZbX roll) (ss:List Stt) (n:Nat) (M:Store) (hM:M[n]? = some (.lst (ss.map Zax))) (hg:∀ s ∈ ss,Good roll s) (h0:0 < ss.length) (hz:ss.length <= 61):
  ∃ us:List Use,us.length <= ss.length - 1 /\ Zfc [Zf roll,.ref n] M = .ok (ZaK us) M:=by
 obtain ⟨e',M',lp,us,x3,x4,x5,x6,lu,rfl,rfl⟩:=Zi4 (it:=⟨Zdl 0 (ss.length - 1),none⟩) (g:=Zcj 3)
  (body:=(Zw (Ze2 (eSl (e2 Ze (Za 1) (Za 3)) (ZaE) (ZaI (eC (.int 2)))) (Zci [4,5])) (Zw (Zaj 6 (e2 Ze (Za 0) (Za 4))) (Zw (sIf (e2 Zam (e2 Ze (Za 6) (eC (.int 0))) (eC (.str [103,101,116]))) (Zbq (ZeQ tyL Zb3 (Za 2) (Zb (ZaB (Zb (e2 Ze (Za 5) (e2 Ze (Za 6) (eC (.int 2)))) (Zb (Za 3) (Zb (eC (.str [103,101,116])) (Zb (e2 Ze (e2 Ze (e2 Ze (Za 1) (e2 Zag (Za 3) (eC (.int 1)))) (eC (.int 1))) (e2 Ze (Za 6) (eC (.int 1)))) (Zj)))))) (Zj)))) (Zab)) (sIf (e2 Zam (e2 Ze (Za 6) (eC (.int 0))) (eC (.str [115,101,116]))) (Zbq (ZeQ tyL Zb3 (Za 2) (Zb (ZaB (Zb (e2 Ze (Za 5) (e2 Ze (Za 6) (eC (.int 1)))) (Zb (Za 3) (Zb (eC (.str [115,101,116])) (Zb (e2 Ze (Za 5) (e2 Ze (Za 6) (eC (.int 2)))) (Zj)))))) (Zj)))) (Zab))))))
  (P:=fun j env M'=>∃ (us:List Use) (x3 x4 x5 x6:Option D),us.length <= j /\ env = [some (Zf roll),some (.ref n),some (.ref M.length),x3,x4,x5,x6] /\ M' = M ++ [.lst (us.map Zr)])
  (Zdl 0 (ss.length - 1)) 0 [some (Zf roll),some (.ref n),some (.ref M.length),none,none,none,none] (M ++ [.lst []]) ⟨[],none,none,none,none,by simp,rfl,rfl⟩ (fun _ _ _ _=>rfl)
  (fun k d hd env M' ⟨us,x3,x4,x5,x6,lu,he,hm⟩=>by
   obtain ⟨rfl,lk⟩:=Zg8 hd;subst he hm;have hk0:k < ss.length:=Yx lk (Ya9 _ _);have hk1:k + 1 < ss.length:=lC 2 0x2a0c12a1c211011 T1 lk (Yb (lB 1 27267089 T1 hk0));have g0:=hg _ (Yu hk0);have g1:=hg _ (Yu hk1);have q0:Zbb (ss.map Zax) ((k:Nat):Int) = some (Zax ss[k]):=by rw [Zcm,Y1,Yo hk0]; rfl
   have q1:Zbb (ss.map Zax) ((k:Int) + 1) = some (Zax ss[k + 1]):=by
    rw [show ((k:Int) + 1) = ((k + 1:Nat):Int) by exact rfl,Zcm,Y1,Yo hk1]; rfl
   generalize ss[k] = s at g0 q0;generalize ss[k + 1] = s' at g1 q1;have hM':=Zbn hM [.lst (us.map Zr)];have gn:(M ++ [MO.lst (us.map Zr)])[M.length]? = some (.lst (us.map Zr)):=ZaQ _ _ _;have c2:cutD [D.int (s.place:Int),Zh s.boxes,Zbi s.cells] none (some 2) = [.int (s.place:Int),Zh s.boxes]:=by exact rfl
   have s4:Ze2 (eSl (e2 Ze (Za 1) (Za 3)) (ZaE) (ZaI (eC (.int 2)))) (Zci [4,5]) [some (Zf roll),some (.ref n),some (.ref M.length),some (.int (k:Int)),x4,x5,x6] (M ++ [.lst (us.map Zr)]) = .nx [some (Zf roll),some (.ref n),some (.ref M.length),some (.int (k:Int)),some (.int (s.place:Int)),some (Zh s.boxes),x6] (M ++ [.lst (us.map Zr)]):=by
    simp only [Ze2,eSl,e2,Za,eC,ZaE,ZaI,Yf,Yh,R3.bind,ZaT,ZaU,ZaS,ZaL,hM',q0,Zax,Zce,Zcg,Zch,Zcf,c2,Zci,ZeW,ZeZ,Ybu,Ybv]
   have gp:=g0.pl;have hr:roll[s.place]? = some roll[s.place]:=by simp [gp]
   have ro:=R.rows _ (Yu gp);generalize roll[s.place] = r at hr ro;have s6:(e2 Ze (Za 0) (Za 4)) [some (Zf roll),some (.ref n),some (.ref M.length),some (.int (k:Int)),some (.int (s.place:Int)),some (Zh s.boxes),x6] (M ++ [.lst (us.map Zr)]) = .ok (Zq r) (M ++ [.lst (us.map Zr)]):=by simp [Zf,hr]
   have lz:us.length < 1000000:=lC 3 0xf42405b213d2b1010ec2011a0c11 T1 hk1 lu hz;have cn':∀ (w:List Nat) (m:Nat) (M:Store),(e2 Zam (e2 Ze (Za 6) (eC (.int 0))) (eC (.str w))) [some (Zf roll),some (.ref n),some (.ref m),some (.int (k:Int)),some (.int (s.place:Int)),some (Zh s.boxes),some (Zq r)] M = .ok (.bl (decide (Zed r = w))) M:=fun w m M=>Zac (Zac rfl rfl (ZeY r M)) rfl (by exact rfl);have cnT:∀ (w:List Nat) (m:Nat) (M:Store),Zed r = w -> (e2 Zam (e2 Ze (Za 6) (eC (.int 0))) (eC (.str w))) [some (Zf roll),some (.ref n),some (.ref m),some (.int (k:Int)),some (.int (s.place:Int)),some (Zh s.boxes),some (Zq r)] M = .ok (.bl true) M:=fun w m M h=>by rw [cn' w m M,decide_eq_true h]
   have cnF:∀ (w:List Nat) (m:Nat) (M:Store),¬ Zed r = w -> (e2 Zam (e2 Ze (Za 6) (eC (.int 0))) (eC (.str w))) [some (Zf roll),some (.ref n),some (.ref m),some (.int (k:Int)),some (.int (s.place:Int)),some (Zh s.boxes),some (Zq r)] M = .ok (.bl false) M:=fun w m M h=>by rw [cn' w m M,decide_eq_false h]
   have fin:∀ (us2:List Use),us2.length <= us.length + 1 -> (Zw (sIf (e2 Zam (e2 Ze (Za 6) (eC (.int 0))) (eC (.str [103,101,116]))) (Zbq (ZeQ tyL Zb3 (Za 2) (Zb (ZaB (Zb (e2 Ze (Za 5) (e2 Ze (Za 6) (eC (.int 2)))) (Zb (Za 3) (Zb (eC (.str [103,101,116])) (Zb (e2 Ze (e2 Ze (e2 Ze (Za 1) (e2 Zag (Za 3) (eC (.int 1)))) (eC (.int 1))) (e2 Ze (Za 6) (eC (.int 1)))) (Zj)))))) (Zj)))) (Zab)) (sIf (e2 Zam (e2 Ze (Za 6) (eC (.int 0))) (eC (.str [115,101,116]))) (Zbq (ZeQ tyL Zb3 (Za 2) (Zb (ZaB (Zb (e2 Ze (Za 5) (e2 Ze (Za 6) (eC (.int 1)))) (Zb (Za 3) (Zb (eC (.str [115,101,116])) (Zb (e2 Ze (Za 5) (e2 Ze (Za 6) (eC (.int 2)))) (Zj)))))) (Zj)))) (Zab))) [some (Zf roll),some (.ref n),some (.ref M.length),some (.int (k:Int)),some (.int (s.place:Int)),some (Zh s.boxes),some (Zq r)] (M ++ [.lst (us.map Zr)]) = .nx [some (Zf roll),some (.ref n),some (.ref M.length),some (.int (k:Int)),some (.int (s.place:Int)),some (Zh s.boxes),some (Zq r)] (M ++ [.lst (us2.map Zr)]) ->
     ∃ env1 e' M',Zcj 3 (.int (k:Int)) [some (Zf roll),some (.ref n),some (.ref M.length),x3,x4,x5,x6] = some env1 /\ (Zw (Ze2 (eSl (e2 Ze (Za 1) (Za 3)) (ZaE) (ZaI (eC (.int 2)))) (Zci [4,5])) (Zw (Zaj 6 (e2 Ze (Za 0) (Za 4))) (Zw (sIf (e2 Zam (e2 Ze (Za 6) (eC (.int 0))) (eC (.str [103,101,116]))) (Zbq (ZeQ tyL Zb3 (Za 2) (Zb (ZaB (Zb (e2 Ze (Za 5) (e2 Ze (Za 6) (eC (.int 2)))) (Zb (Za 3) (Zb (eC (.str [103,101,116])) (Zb (e2 Ze (e2 Ze (e2 Ze (Za 1) (e2 Zag (Za 3) (eC (.int 1)))) (eC (.int 1))) (e2 Ze (Za 6) (eC (.int 1)))) (Zj)))))) (Zj)))) (Zab)) (sIf (e2 Zam (e2 Ze (Za 6) (eC (.int 0))) (eC (.str [115,101,116]))) (Zbq (ZeQ tyL Zb3 (Za 2) (Zb (ZaB (Zb (e2 Ze (Za 5) (e2 Ze (Za 6) (eC (.int 1)))) (Zb (Za 3) (Zb (eC (.str [115,101,116])) (Zb (e2 Ze (Za 5) (e2 Ze (Za 6) (eC (.int 2)))) (Zj)))))) (Zj)))) (Zab))))) env1 (M ++ [.lst (us.map Zr)]) = .nx e' M' /\ ∃ (us:List Use) (x3 x4 x5 x6:Option D),us.length <= 0 + k + 1 /\ e' = [some (Zf roll),some (.ref n),some (.ref M.length),x3,x4,x5,x6] /\ M' = M ++ [.lst (us.map Zr)]:=fun us2 l2 h=>
    ⟨_,_,_,rfl,(Zg s4).trans ((Zg (Zy s6)).trans h),us2,_,_,_,_,lC 2 0xa2ecc002ec101a1c001 T1 l2 lu,rfl,rfl⟩
   cases r with
   | get a b=>
    obtain ⟨y1,hy1,gy1⟩:=Za8 g0.bx ro.2;obtain ⟨y2,hy2,gy2⟩:=Za8 g1.bx ro.1;have ar:(ZaB (Zb (e2 Ze (Za 5) (e2 Ze (Za 6) (eC (.int 2)))) (Zb (Za 3) (Zb (eC (.str [103,101,116])) (Zb (e2 Ze (e2 Ze (e2 Ze (Za 1) (e2 Zag (Za 3) (eC (.int 1)))) (eC (.int 1))) (e2 Ze (Za 6) (eC (.int 1)))) (Zj)))))) [some (Zf roll),some (.ref n),some (.ref M.length),some (.int (k:Int)),some (.int (s.place:Int)),some (Zh s.boxes),some (Zq (.get a b))] (M ++ [.lst (us.map Zr)]) = .ok (Zr ⟨y1,(k:Int),[103,101,116],y2⟩) (M ++ [.lst (us.map Zr)]):=by
     simp only [ZaB,Zb,Zj,e2,Za,eC,Zq,Zh,Yf,Yh,R3.bind,Zco,Zcq,Zcl,Zcp,ZaT,ZaU,ZaS,ZaL,Zhl,gy1,hM',q1,Zax,gy2];simp [Zr]
    have ap:=Zfl (Zh0 (o:=Za 2) (env:=[some (Zf roll),some (.ref n),some (.ref M.length),some (.int (k:Int)),some (.int (s.place:Int)),some (Zh s.boxes),some (Zq (.get a b))]) (M:=M ++ [.lst (us.map Zr)]) (n:=M.length) (xs:=us.map Zr) (ys:=us.map Zr) rfl gn ar gn (by simpa using lz));refine fin (us ++ [⟨y1,(k:Int),[103,101,116],y2⟩]) (by simp) ((Zg ((Zas (cnT _ _ _ rfl)).trans ap)).trans ((Zo (cnF _ _ _ (by simp [Zed]))).trans ?_));simp
   | set a b=>
    obtain ⟨y1,hy1,gy1⟩:=Za8 g0.bx ro.1;obtain ⟨y2,hy2,gy2⟩:=Za8 g0.bx ro.2;have ar:(ZaB (Zb (e2 Ze (Za 5) (e2 Ze (Za 6) (eC (.int 1)))) (Zb (Za 3) (Zb (eC (.str [115,101,116])) (Zb (e2 Ze (Za 5) (e2 Ze (Za 6) (eC (.int 2)))) (Zj)))))) [some (Zf roll),some (.ref n),some (.ref M.length),some (.int (k:Int)),some (.int (s.place:Int)),some (Zh s.boxes),some (Zq (.set a b))] (M ++ [.lst (us.map Zr)]) = .ok (Zr ⟨y1,(k:Int),[115,101,116],y2⟩) (M ++ [.lst (us.map Zr)]):=by
     simp only [ZaB,Zb,Zj,e2,Za,eC,Zq,Zh,Yf,Yh,R3.bind,ZaT,ZaU,ZaS,ZaL,Zhl,gy1,gy2];simp [Zr]
    have ap:=Zfl (Zh0 (o:=Za 2) (env:=[some (Zf roll),some (.ref n),some (.ref M.length),some (.int (k:Int)),some (.int (s.place:Int)),some (Zh s.boxes),some (Zq (.set a b))]) (M:=M ++ [.lst (us.map Zr)]) (n:=M.length) (xs:=us.map Zr) (ys:=us.map Zr) rfl gn ar gn (by simpa using lz));refine fin (us ++ [⟨y1,(k:Int),[115,101,116],y2⟩]) (by simp) ((Zg (Zo (cnF _ _ _ (by simp [Zed])))).trans ((Zas (cnT _ _ _ rfl)).trans (ap.trans ?_)));simp
   | _=>exact fin us (Yw _ _) ((Zg (Zo (cnF _ _ _ (by simp [Zed])))).trans (Zo (cnF _ _ _ (by simp [Zed])))))
 rw [Zg5] at lu;obtain ⟨us2,l2,hs2⟩:=Zj5 us;have so:=Zia (us:=us) (lC 3 0x402b0121013d2b2011ec001 T1 lu hz (Ya9 _ _));refine ⟨us2,lC 2 563150759989281 T1 l2 lu,Rt.pure (G:=[.lst (us.map Zr),.lst (us2.map Zr)]) (env:=[some (Zf roll),some (.ref n),none,none,none,none,none]) ?_ (Znd _ _)⟩;have ir:(ZbJ (e2 ZbG (Zak ZaR (Zb (Za 1) (Zj))) (eC (.int 1)))) [some (Zf roll),some (.ref n),some (.ref M.length),none,none,none,none] (M ++ [.lst []]) = .ok ⟨Zdl 0 (ss.length - 1),none⟩ (M ++ [.lst []]):=by
  have b:((ss.length:Int) - 1) <= 1000000 /\ -1000000 <= ((ss.length:Int) - 1):=⟨iN [_] [] 1 0xf42405ba08f83d2b001 T1 hz,iN [_] [] 0 0xa08ff42405b98 T1⟩;have e:((ss.length:Int) - 1).toNat = ss.length - 1:=Ym (iN [_,_,_] [] 2 0x200a2c101a18f08a1 T1 (Y5 (iN [_] [] 1 689609117201 T1 h0)) (sbA _ _)) (iN [_,_,_] [] 2 0x1200a2c2118a08f81 T1 (Ya8 _) (Yb (lA 1 10489361 T1 h0)));simp [Zbn hM,b,e]
 refine (Zg (Zy (d:=.ref M.length) (M':=M ++ [.lst []]) (by simp))).trans ((Zg ((Ziu (g:=Zcj 3) ir).trans lp)).trans (Zaq ?_));have bsr:Zak Zcc (Zb (Za 2) (Zj)) [some (Zf roll),some (.ref n),some (.ref M.length),x3,x4,x5,x6] (M ++ [.lst (us.map Zr)]) = .ok (.ref (M ++ [MO.lst (us.map Zr)]).length) (M ++ [.lst (us.map Zr),.lst (us2.map Zr)]):=by
  refine ZdN (a:=.ref M.length) (M1:=M ++ [.lst (us.map Zr)]) rfl ?_;simp only [ZcS,ZaQ,if_pos so,hs2,alloc];simp
 refine ZdN bsr ?_;have:(M ++ [MO.lst (us.map Zr),.lst (us2.map Zr)])[(M ++ [MO.lst (us.map Zr)]).length]? = some (.lst (us2.map Zr)):=by
  rw [Yaj]; exact ZaX _ _ 1
 simp only [ZhM,ZhG,Zd2,this,ZaK]
theorem Zhq (roll:Zbx) (ts:List Stp) (h8:∀ s ∈ ts,s.2.length = 8) (hz:ts.length <= 1000) (us:List Use) (hu:us.length < 64) (n1 n2:Nat) (c:Int) (M:Store) (h1:M[n1]? = some (.lst (ts.map Zan))) (h2:M[n2]? = some (.lst (us.map Zr))):
  ∃ (ts':List Stp) (us':List Use) (m1 m2 m:Nat) (G:Store),(∀ s ∈ ts',s.2.length = 8) /\ ts'.length <= ts.length + 1 /\ us'.length <= us.length + 1 /\ ZaO [Zf roll,.ref n1,.ref n2,.int c] M = .ok (.ref m) (M ++ G) /\ (M ++ G)[m]? = some (.lst [.ref m1,.ref m2]) /\ (M ++ G)[m1]? = some (.lst (ts'.map Zan)) /\ (M ++ G)[m2]? = some (.lst (us'.map Zr)):=by
 obtain ⟨k,hk,lk⟩:=Zc2 c 13 (lN [] 0 859105 rfl);have hk':c % 13 = (k:Int):=hk;have fin:∀ {m:Nat} {G:Store} (ts':List Stp) (us':List Use) (m1 m2:Nat),(∀ s ∈ ts',s.2.length = 8) -> ts'.length <= ts.length + 1 -> us'.length <= us.length + 1 -> ZcJ [some (Zf roll),some (.ref n1),some (.ref n2),some (.int c),none,none] M = .rt (.ref m) (M ++ G) -> M.length <= m -> (M ++ G)[m]? = some (.lst [.ref m1,.ref m2]) -> (M ++ G)[m1]? = some (.lst (ts'.map Zan)) -> (M ++ G)[m2]? = some (.lst (us'.map Zr)) ->
   ∃ (ts':List Stp) (us':List Use) (m1 m2 m:Nat) (G:Store),(∀ s ∈ ts',s.2.length = 8) /\ ts'.length <= ts.length + 1 /\ us'.length <= us.length + 1 /\ ZaO [Zf roll,.ref n1,.ref n2,.int c] M = .ok (.ref m) (M ++ G) /\ (M ++ G)[m]? = some (.lst [.ref m1,.ref m2]) /\ (M ++ G)[m1]? = some (.lst (ts'.map Zan)) /\ (M ++ G)[m2]? = some (.lst (us'.map Zr)):=
  fun {m G} ts' us' m1 m2 t8 lt lu h hm g0 g1 g2=>⟨ts',us',m1,m2,m,G,t8,lt,lu,ZkC h hm,g0,g1,g2⟩
 have pre:∀ {k':S3} {o:O3},k' [some (Zf roll),some (.ref n1),some (.ref n2),some (.int c),some (.int (k:Int)),some (.int (c / 13))] M = o -> Zw (Zaj 4 (e2 Zaz (Za 3) (eC (.int 13)))) (Zw (Zaj 5 (e2 ZaG (Za 3) (eC (.int 13)))) k') [some (Zf roll),some (.ref n1),some (.ref n2),some (.int c),none,none] M = o:=fun {k' o} h=>
  (Zg (Zy (d:=.int (k:Int)) (M':=M) (by simp [hk']))).trans ((Zg (Zy (d:=.int (c / 13)) (M':=M) (by simp))).trans h)
 by_cases k6:k < 6
 ·have k6':(k:Int) < 6:=iN [_] [] 1 0x61b08961b011 T1 k6
  by_cases h0:0 < ts.length
  ·obtain ⟨ts',m,G,t8,lt,hc,hg⟩:=Zh3 roll ts h8 h0 hz n1 k k6 (c / 13) M h1
   refine fin (m:=(M ++ G).length) (G:=G ++ [.lst [.ref m,.ref n2]]) ts' us m n2 t8 lt (Yw _ _) (pre (Zah ((Zas (M':=M) (by simp [k6',h1,h0])).trans (Zaq ?_)))) (by simp) (by rw [← Yao]; exact ZaQ _ _ _) (by rw [← Yao]; exact Zbn hg _) (Zbn h2 _);have cl:(Zae Za3 (Zb (Za 0) (Zb (Za 1) (Zb (Za 4) (Zb (Za 5) (Zj)))))) [some (Zf roll),some (.ref n1),some (.ref n2),some (.int c),some (.int (k:Int)),some (.int (c / 13))] M = .ok (.ref m) (M ++ G):=ZhH rfl rfl rfl rfl hc;generalize (Zae Za3 (Zb (Za 0) (Zb (Za 1) (Zb (Za 4) (Zb (Za 5) (Zj)))))) = E at cl;simp only [ZbT,Zb,Zj,R3.bind,cl,Za,Yf,Yh];simp
  ·refine fin (m:=M.length) (G:=[.lst [.ref n1,.ref n2]]) ts us n1 n2 h8 (Yw _ _) (Yw _ _) (pre ((Zg (Zo (M':=M) (by simp [k6',h1,h0]))).trans (Zah ((Zas (M':=M) (by simp [k6'])).trans (Zaq (by simp)))))) (Yj _) (ZaQ _ _ _) (Zbn h1 _) (Zbn h2 _)
 ·have k6':¬ (k:Int) < 6:=(fun z=>iN [_] [] 2 0x661b05161b0891 T1 z k6)
  obtain ⟨us',m,G,lu,hc,hg⟩:=Zik us hu n2 k (Yaa k6) lk (c / 13) M h2;refine fin (m:=(M ++ G).length) (G:=G ++ [.lst [.ref n1,.ref m]]) ts us' n1 m h8 (Yw _ _) lu (pre ((Zg (Zo (M':=M) (by simp [k6']))).trans ((Zg (Zo (M':=M) (by simp [k6']))).trans (Zaq ?_)))) (by simp) (by rw [← Yao]; exact ZaQ _ _ _) (Zbn h1 _) (by rw [← Yao]; exact Zbn hg _);have cl:(Zae Zba (Zb (Za 2) (Zb (Za 4) (Zb (Za 5) (Zj))))) [some (Zf roll),some (.ref n1),some (.ref n2),some (.int c),some (.int (k:Int)),some (.int (c / 13))] M = .ok (.ref m) (M ++ G):=Zb8 rfl rfl rfl hc;generalize (Zae Zba (Zb (Za 2) (Zb (Za 4) (Zb (Za 5) (Zj))))) = E at cl;simp only [ZbT,Zb,Zj,R3.bind,cl,Za,Yf,Yh];simp
noncomputable def ZiA (s:Stt):D:=.tup [.int s.place,Zh s.boxes]
theorem Zp7 {env:ZaD} {i:Nat} {n:Nat} {M:Store} {ss:List Stt} (hi:env[i]? = some (some (.ref n))) (hM:M[n]? = some (.lst (ss.map Zax))) (hz:ss.length <= 100000):
  eLC (Zih (Za i)) 1 (Zcj env.length) [] (ZaB (Zb (e2 Ze (Za env.length) (eC (.int 0))) (Zb (e2 Ze (Za env.length) (eC (.int 1))) (Zj)))) env M = .ok (.ref M.length) (M ++ [.lst (ss.map ZiA)]):=by
 refine ZtT (enc:=Zax) (h:=ZiA) (own:=1) (i:=env.length) (lock:=some n) (as:=ss) (M:=M) (M1:=M) (by simp [hi,hM]) (fun m h=>by cases h; exact hM) (fun s hs M=>?_) hz;have e:((env ++ Yg 1 none).set env.length (some (Zax s)))[env.length]? = some (some (Zax s)):=by simp
 generalize (env ++ Yg 1 none).set env.length (some (Zax s)) = env' at e;simp [e,Zax,ZiA]
theorem cell_eq (ns:List Int) (k:Nat) (hk:k < 1000) (hns:ns.length <= 63) (M:Store):∃ v:Int,Zbt [.scr (ns.map D.int),.int (k:Int)] M = .ok (.int v) M:=by
 have m1:ZbS 7 (k:Int) = true:=ZgN (by omega);have m2:ZbS (7 * (k:Int)) (k:Int) = true:=mul_r (by omega);have m3:ZbS 13 (k:Int) = true:=ZgN (by omega);by_cases h:ns.length = 0
 ·exact ⟨_,by simp [Zbt,Zfh,Zw,Zaj,Zaf,sIf,Zab,Zbq,mkF,ZdS,below,belowL,h,m1,m2,m3]; rfl⟩
 ·obtain ⟨a,ha,la⟩:=Zc2 (k:Int) ns.length ((Yz (Yag _) (Yat h)))
  have p0:0 < ns.length:=lB 1 31526929 T1 la;have p1:(0:Int) < ns.length /\ (ns.length:Int) < 1073741824:=⟨iN [_] [] 1 149491217 T1 p0,iN [_] [] 1 0x400000008b0893f2b001 T1 hns⟩;exact ⟨ns[a] + (k:Int) / ns.length,by simp [Zbt,Zfh,Zw,Zaj,Zaf,sIf,Zab,Zbq,mkF,ZdS,below,belowL,h,p0,p1,ha,la]⟩
noncomputable def Zoa (s:Stt):Stp:=((s.place:Int),s.boxes)
theorem Zpa (ts:List Stp):ZaM 60 (ZaF ts) = true:=by
 simp only [ZaF,ZeA,Zew,Zev,ZeH,ZeI,Ye1,Yaf];intro s _;exact ZqQ s
theorem Zog (us:List Use):ZaM 60 (ZaK us) = true:=by
 simp only [ZaK,ZeA,Zew,Zev,ZeH,ZeI,Ye1,Yaf];intro u _;simp [Zr,ZeA,Zew,Zev,ZeH,ZeI,ZcW,Zg3]
theorem ZoC (roll:Zbx):ZaM 60 (Zf roll) = true:=by
 simp only [Zf,ZeA,Zew,Zev,ZeH,ZeI,Ye1,Yaf];intro r _;cases r <;> simp [Zq,ZeA,Zew,Zev,ZeH,ZeI,ZcW,Zg3]
theorem law_holds:∀ ns:List Int,ns.length <= 63 -> ∃ M',ZnP [.scr (ns.map D.int)] [] = .ok (.bl true) M':=by
 intro ns hns;obtain ⟨roll,lroll,R,h1⟩:=Zrc ns [];obtain ⟨bs,lb,h2⟩:=ZpB ns [];obtain ⟨n,G,hn,h3,g0⟩:=ZoX roll R bs 60 [] (lN [] 0 16956768944 rfl) lb;have pos:0 < roll.length:=by obtain ⟨q,x,e,_⟩:=R.last; rw [e]; simp
 have hl:(Zeu roll 60 ⟨0,bs,[]⟩).length <= 61:=Zms roll 60 _;have hgood:∀ s ∈ Zeu roll 60 ⟨0,bs,[]⟩,Good roll s:=fun s hs=>Zkc R 60 ⟨0,bs,[]⟩ ⟨pos,lb,by simp [Zfx]⟩ s hs;have hl0:0 < (Zeu roll 60 ⟨0,bs,[]⟩).length:=List.length_pos_iff.mpr (Zrx roll 60 ⟨0,bs,[]⟩);simp only [Ycp] at h3 g0;generalize Zeu roll 60 ⟨0,bs,[]⟩ = ss at *;have lc:=Zp7 (env:=[some (.scr (ns.map D.int)),some (Zf roll),some (Zh bs),some (.ref n),none,none,none,none,none,none]) (i:=3) rfl g0 (lA 1 0x186a05b003d2b001 T1 hl);have e0:ss.map ZiA = (ss.map Zoa).map Zan:=by rw [Ye0]; rfl
 rw [e0] at lc;have l0:(ss.map Zoa).length = ss.length:=by simp
 have k8:∀ s ∈ ss.map Zoa,s.2.length = 8:=fun s hs=>by
  obtain ⟨x,hx,rfl⟩:=Ybi.mp hs;exact (hgood x hx).bx
 generalize ss.map Zoa = ts0 at lc l0 k8;obtain ⟨us0,lu0,hu0⟩:=ZlE roll R ss n (G ++ [.lst (ts0.map Zan)]) (Zbn g0 _) hgood hl0 hl;refine Rt.law (env:=[some (.scr (ns.map D.int)),none,none,none,none,none,none,none,none,none]) ?_;unfold ZpE;refine Rt.set (d:=Zf roll) (M':=[]) (ZhL rfl h1) ?_;refine Rt.set (d:=Zh bs) (M':=[]) (ZhL rfl h2) ?_;refine Rt.set (d:=.ref n) (M':=G) (Zb8 (M1:=[]) (M2:=[]) (M3:=[]) (a:=Zf roll) (b:=Zh bs) (c:=.int 60) rfl rfl rfl h3) ?_;refine Rt.set lc ?_;have gt0:(G ++ [MO.lst (ts0.map Zan),.lst (us0.map Zr)])[G.length]? = some (.lst (ts0.map Zan)):=ZaQ _ _ _;have gu0:(G ++ [MO.lst (ts0.map Zan),.lst (us0.map Zr)])[G.length + 1]? = some (.lst (us0.map Zr)):=ZaX _ _ 1;refine Rt.set (d:=.ref (G.length + 1)) (M':=G ++ [.lst (ts0.map Zan),.lst (us0.map Zr)]) (ZdN (Zck rfl rfl hu0) (by simp [ZaK])) ?_;generalize G ++ [MO.lst (ts0.map Zan),.lst (us0.map Zr)] = M0 at gt0 gu0;obtain ⟨c1,hc1⟩:=cell_eq ns 1 (lN [] 0 65551265 rfl) hns M0;obtain ⟨v1,hv1⟩:=Zi1 c1 800 (iN [] [] 0 52444136 T1) (iN [] [] 0 21476098048952 T1);obtain ⟨m,hm,lm⟩:=Zc2 v1 5 (lN [] 0 334817 rfl);have hm':v1 % 5 = (m:Int):=hm;have ir:(ZbJ (e2 Zaz (Zae ZaN (Zb (Zae Zbt (Zb (Za 0) (Zb (eC (.int 1)) (Zj)))) (Zb (eC (.int 800)) (Zj)))) (eC (.int 5)))) [some (.scr (ns.map D.int)),some (Zf roll),some (Zh bs),some (.ref n),some (.ref G.length),some (.ref (G.length + 1)),none,none,none,none] M0 = .ok ⟨Zdl 0 m,none⟩ M0:=by
  have e1':(e2 Zaz (Zae ZaN (Zb (Zae Zbt (Zb (Za 0) (Zb (eC (.int 1)) (Zj)))) (Zb (eC (.int 800)) (Zj)))) (eC (.int 5))) [some (.scr (ns.map D.int)),some (Zf roll),some (Zh bs),some (.ref n),some (.ref G.length),some (.ref (G.length + 1)),none,none,none,none] M0 = .ok (.int (m:Int)) M0:=Zac (Zck (Zck rfl rfl hc1) rfl (hv1 M0)) rfl (by simp [hm']);have b:((m:Int)) <= 1000000 /\ -1000000 <= ((m:Int)):=⟨iN [_] [] 1 0xf42405b08851b011 T1 lm,iN [_] [] 0 615291837336 T1⟩;simp only [ZbJ,e1',R3.bind,b,and_self,if_true,Yav]
 obtain ⟨e',M',lp,ts,us,bs',m1,m2,x6,x7,t8,lt,lu,lbs,rfl,gt,gu⟩:=Zi4 (it:=⟨Zdl 0 m,none⟩) (g:=Zcj 6)
  (body:=(Zw (Zaj 7 (Zae ZaN (Zb (Zae Zbt (Zb (Za 0) (Zb (e2 Zag (eC (.int 2)) (Za 6)) (Zj)))) (Zb (e2 Zag (eC (.int 810)) (Za 6)) (Zj))))) (Zw (ZjX (Zae ZaO (Zb (Za 1) (Zb (Za 4) (Zb (Za 5) (Zb (Za 7) (Zj)))))) [4,5]) (sIf (e2 Zam (e2 Zaz (e2 ZaG (Za 7) (eC (.int 13))) (eC (.int 60))) (eC (.int 7))) (Zaj 2 (e2 Zag (eSl (Za 2) (ZaI (eC (.int 1))) (ZaE)) (eSl (Za 2) (ZaE) (ZaI (eC (.int 1)))))) (Zab)))))
  (P:=fun j env M'=>∃ (ts:List Stp) (us:List Use) (bs:List Int) (m1 m2:Nat) (x6 x7:Option D),(∀ s ∈ ts,s.2.length = 8) /\ ts.length <= 61 + j /\ us.length <= 60 + j /\ bs.length = 8 /\ env = [some (.scr (ns.map D.int)),some (Zf roll),some (Zh bs),some (.ref n),some (.ref m1),some (.ref m2),x6,x7,none,none] /\ M'[m1]? = some (.lst (ts.map Zan)) /\ M'[m2]? = some (.lst (us.map Zr)))
  (Zdl 0 m) 0 [some (.scr (ns.map D.int)),some (Zf roll),some (Zh bs),some (.ref n),some (.ref G.length),some (.ref (G.length + 1)),none,none,none,none] M0 ⟨ts0,us0,bs,_,_,none,none,k8,lB 2 0xe3d2bc003d2b1011021 T1 l0 hl,lC 3 0xe3c2bc002a1c213d2b2011001 T1 lu0 hl (Yb (lA 1 10489361 T1 hl0)),lb,rfl,gt0,gu0⟩ (fun _ _ _ _=>rfl)
  (fun k d hd env M' ⟨ts,us,bs,m1,m2,x6,x7,t8,lt,lu,lbs,he,g1,g2⟩=>by
   obtain ⟨rfl,lk⟩:=Zg8 hd;subst he;obtain ⟨c,hc⟩:=cell_eq ns (2 + k) (by exact lB 2 0x3e83b021bc151b1111011 T1 lk lm) hns M';obtain ⟨v,hv⟩:=Zi1 c (810 + k) (iN [_] [] 0 35209329896 T1) (iN [_,_] [] 2 0x13884b0832a3bc851b1111011 T1 lk lm);have hc':Zbt [.scr (ns.map D.int),.int (2 + (k:Int))] M' = .ok (.int c) M':=hc;obtain ⟨ts',us',m1',m2',m,G',t8',lt',lu',htc,gm,g1',g2'⟩:=Zhq roll ts t8 (lC 3 0x3e83b2051b1110ec3d2bc2011011 T1 lk lt lm) us (lC 3 0x402b2151b1110ec3c2bc2011011 T1 lk lu lm) m1 m2 v M' g1 g2;have s7:(Zae ZaN (Zb (Zae Zbt (Zb (Za 0) (Zb (e2 Zag (eC (.int 2)) (Za 6)) (Zj)))) (Zb (e2 Zag (eC (.int 810)) (Za 6)) (Zj)))) [some (.scr (ns.map D.int)),some (Zf roll),some (Zh bs),some (.ref n),some (.ref m1),some (.ref m2),some (.int (k:Int)),x7,none,none] M' = .ok (.int v) M':=Zck (Zck rfl (by simp) hc') (by simp) (hv M');have s8:ZjX (Zae ZaO (Zb (Za 1) (Zb (Za 4) (Zb (Za 5) (Zb (Za 7) (Zj)))))) [4,5] [some (.scr (ns.map D.int)),some (Zf roll),some (Zh bs),some (.ref n),some (.ref m1),some (.ref m2),some (.int (k:Int)),some (.int v),none,none] M' = .nx [some (.scr (ns.map D.int)),some (Zf roll),some (Zh bs),some (.ref n),some (.ref m1'),some (.ref m2'),some (.int (k:Int)),some (.int v),none,none] (M' ++ G'):=by
    have cl:(Zae ZaO (Zb (Za 1) (Zb (Za 4) (Zb (Za 5) (Zb (Za 7) (Zj)))))) [some (.scr (ns.map D.int)),some (Zf roll),some (Zh bs),some (.ref n),some (.ref m1),some (.ref m2),some (.int (k:Int)),some (.int v),none,none] M' = .ok (.ref m) (M' ++ G'):=ZhH rfl rfl rfl rfl htc;simp only [ZjX,cl,gm,ZeW,ZeZ,Ybu,Ybv]
   have s9:∃ bs2:List Int,bs2.length = 8 /\ (sIf (e2 Zam (e2 Zaz (e2 ZaG (Za 7) (eC (.int 13))) (eC (.int 60))) (eC (.int 7))) (Zaj 2 (e2 Zag (eSl (Za 2) (ZaI (eC (.int 1))) (ZaE)) (eSl (Za 2) (ZaE) (ZaI (eC (.int 1)))))) (Zab)) [some (.scr (ns.map D.int)),some (Zf roll),some (Zh bs),some (.ref n),some (.ref m1'),some (.ref m2'),some (.int (k:Int)),some (.int v),none,none] (M' ++ G') = .nx [some (.scr (ns.map D.int)),some (Zf roll),some (Zh bs2),some (.ref n),some (.ref m1'),some (.ref m2'),some (.int (k:Int)),some (.int v),none,none] (M' ++ G'):=by
    by_cases q:v / 13 % 60 = 7
    ·refine ⟨bs.drop 1 ++ bs.take 1,by simp [lbs],(Zas (M':=M' ++ G') (by simp [q])).trans (Zy (d:=Zh (bs.drop 1 ++ bs.take 1)) ?_)⟩
     have d1:cutD (bs.map D.int) (some 1) none = (bs.drop 1).map D.int:=by
      have:=Zf7 (bs.map D.int) 1;rw [← Yh0] at this;exact this
     have d2:cutD (bs.map D.int) none (some 1) = (bs.take 1).map D.int:=by
      have:=ZhO (bs.map D.int) 1;rw [← Yfo] at this;exact this
     refine Zac (a:=.tup ((bs.drop 1).map D.int)) (b:=.tup ((bs.take 1).map D.int)) (M1:=M' ++ G') (M2:=M' ++ G') ?_ ?_ ?_
     ·simp only [eSl,Za,ZaE,ZaI,eC,Zh,Yf,Yh,R3.bind,Zce,Zcg,Zch,Zcf,d1]
     ·simp only [eSl,Za,ZaE,ZaI,eC,Zh,Yf,Yh,R3.bind,Zce,Zcg,Zch,Zcf,d2]
     ·simp only [Zco,Zcq,Zcl,Zcp]
      rw [if_pos (by simp [lbs])];simp [Zh]
    ·exact ⟨bs,lbs,Zo (by simp [q])⟩
   obtain ⟨bs2,lbs2,s9⟩:=s9;exact ⟨_,_,_,rfl,(Zg (Zy s7)).trans ((Zg s8).trans s9),ts',us',bs2,m1',m2',_,_,t8',lC 2 0xa2ecc3d2bc002ec3d2bc101a1c001 T1 lt' lt,lC 2 0xa2ecc3c2bc002ec3c2bc101a1c001 T1 lu' lu,lbs2,rfl,g1',g2'⟩)
 rw [Zg5] at lt lu;refine Rt.loop ir lp ?_;have fa:=fun M=>Zpl roll R bs' ts t8 us M (lB 2 0x13884b0051b1111ec3d2bc001 T1 lt lm);have du:=fun M=>ZsD roll R bs' ts t8 us M (lB 2 0x13884b0051b1111ec3d2bc001 T1 lt lm) (lB 2 0x13884b0051b1111ec3c2bc001 T1 lu lm);have s8:(ZbT (Zb (Zak ZaZ (Zb (Za 4) (Zj))) (Zb (Zak ZaZ (Zb (Za 5) (Zj))) (Zb (Zak ZaZ (Zb (Zak Zgd (Zb (Za 1) (Zj))) (Zj))) (Zj))))) [some (.scr (ns.map D.int)),some (Zf roll),some (Zh bs'),some (.ref n),some (.ref m1),some (.ref m2),x6,x7,none,none] M' = .ok (.ref (M'.length + 1)) (M' ++ [.lst (roll.map Zq),.lst [ZaF ts,ZaK us,Zf roll]]):=by
  simp [gt,gu,Zf,ZaF,ZaK]
 refine Rt.set s8 ?_;have gt':=Zbn gt [.lst (roll.map Zq),.lst [ZaF ts,ZaK us,Zf roll]];have gu':=Zbn gu [.lst (roll.map Zq),.lst [ZaF ts,ZaK us,Zf roll]];have gh:(M' ++ [MO.lst (roll.map Zq),.lst [ZaF ts,ZaK us,Zf roll]])[M'.length + 1]? = some (.lst [ZaF ts,ZaK us,Zf roll]):=ZaX _ _ 1;generalize M' ++ [MO.lst (roll.map Zq),.lst [ZaF ts,ZaK us,Zf roll]] = M1 at gt' gu' gh;refine Rt.set (d:=Zb7 (ZfY roll bs' ts us)) (M':=M1) (ZhH (M1:=M1) (M2:=M1) (M3:=M1) (M4:=M1) rfl rfl (by simp [gh]) (by simp [gh]) (fa M1)) ?_;have b4:∀ (x9:Option D) (M:Store),M[m1]? = some (.lst (ts.map Zan)) -> Zak ZaZ (Zb (Za 4) (Zj)) [some (.scr (ns.map D.int)),some (Zf roll),some (Zh bs'),some (.ref n),some (.ref m1),some (.ref m2),x6,x7,some (.ref (M'.length + 1)),x9] M = .ok (ZaF ts) M:=fun x9 M h=>by simp [h,ZaF]
 have b5:∀ (x9:Option D) (M:Store),M[m2]? = some (.lst (us.map Zr)) -> Zak ZaZ (Zb (Za 5) (Zj)) [some (.scr (ns.map D.int)),some (Zf roll),some (Zh bs'),some (.ref n),some (.ref m1),some (.ref m2),x6,x7,some (.ref (M'.length + 1)),x9] M = .ok (ZaK us) M:=fun x9 M h=>by simp [h,ZaK]
 refine Rt.skip (M':=M1) (ZfX (Zck rfl (ZhH rfl rfl (b4 _ M1 gt') (b5 _ M1 gu') (du M1)) (Zrf _ M1)) rfl) ?_;have ls:(ZbT (Zb (Zak ZaZ (Zb (Za 4) (Zj))) (Zb (Zak ZaZ (Zb (Za 5) (Zj))) (Zb (Za 1) (Zj))))) [some (.scr (ns.map D.int)),some (Zf roll),some (Zh bs'),some (.ref n),some (.ref m1),some (.ref m2),x6,x7,some (.ref (M'.length + 1)),some (Zb7 (ZfY roll bs' ts us))] M1 = .ok (.ref M1.length) (M1 ++ [.lst [ZaF ts,ZaK us,Zf roll]]):=by
  have p4:=b4 (some (Zb7 (ZfY roll bs' ts us))) M1 gt';have p5:=b5 (some (Zb7 (ZfY roll bs' ts us))) M1 gu';simp only [ZbT,Zb,Zj,R3.bind,p4,p5];simp
 refine Rt.ret (M':=M1 ++ [.lst [ZaF ts,ZaK us,Zf roll]]) (Zac (a:=.ref (M'.length + 1)) (b:=.ref M1.length) rfl ls (Zq6 (Zbn gh _) (ZaQ _ _ _) ?_));have pt:ZaM DEEP (ZaF ts) = true:=Zpa ts;have pu:ZaM DEEP (ZaK us) = true:=Zog us;have pr:ZaM DEEP (Zf roll) = true:=ZoC roll;simp only [Yb2,Ydp,pt,pu,pr,Ycu]
end Law
set_option maxHeartbeats 400000
namespace Law
open PySem PySem.Spec PyProof.Rows L2 L3
theorem uZ {P:List Value -> Prop} (h:P []):∀ us:List Value,us.length = 0 -> P us:=fun us e=>(Ybz e) ▸ h
theorem uS {P:List Value -> Prop} {n:Nat} (h:∀ a us,us.length = n -> P (a :: us)) (us:List Value) (e:us.length = n + 1):P us:=by
 cases us with
 | nil=>exact absurd e (Nat.succ_ne_zero n).symm
 | cons a us=>exact h a us (Nat.succ.inj e)
theorem ub1 {P:List Value -> Prop} {xa:Str} (h:∀ a,P [a]):∀ us:List Value,us.length = [xa].length -> P us:=uS fun a=>uZ (h a)
theorem ub2 {P:List Value -> Prop} {xa xb:Str} (h:∀ a b,P [a,b]):∀ us:List Value,us.length = [xa,xb].length -> P us:=uS fun a=>uS fun b=>uZ (h a b)
theorem ub3 {P:List Value -> Prop} {xa xb xc:Str} (h:∀ a b c,P [a,b,c]):∀ us:List Value,us.length = [xa,xb,xc].length -> P us:=uS fun a=>uS fun b=>uS fun c=>uZ (h a b c)
theorem ub4 {P:List Value -> Prop} {xa xb xc xd:Str} (h:∀ a b c d,P [a,b,c,d]):∀ us:List Value,us.length = [xa,xb,xc,xd].length -> P us:=uS fun a=>uS fun b=>uS fun c=>uS fun d=>uZ (h a b c d)
theorem Zs0 {l:PySem.W.OpenLaw} {w:World} {K:W.Frag} {h:Heap} {mg:Str -> Option Value} {fa f0 f1 f2 f3 f4 f5 f6 f7 f8 f9 f10 f11 f12 f13 f14 f15 f16 f17 f18 f19 f20 f21 f22 f23 f24 f25 f26 f27 f28 f29 f30 f31 f32 f33 f34 f35 f36 f37:Addr} (X:K.In h) (G:h.Ns Yl mg) (hfa:mg "law" = some (.ref fa))
  {od0 an0 od1 an1 od2 an2 od3 an3 od4 an4 od5 an5 od6 an6 od7 an7 od8 an8 od9 an9 od10 an10 od11 an11 od12 an12 od13 an13 od14 an14 od15 an15 od16 an16 od17 an17 od18 an18 od19 an19 od20 an20 od21 an21 od22 an22 od23 an23 od24 an24 od25 an25 od26 an26 od27 an27 od28 an28 od29 an29 od30 an30 od31 an31 od32 an32 od33 an33 od34 an34 od35 an35 od36 an36 od37 an37:Option Addr} {sl0 sl1 sl2 sl3 sl4 sl5 sl6 sl7 sl8 sl9 sl10 sl11 sl12 sl13 sl14 sl15 sl16 sl17 sl18 sl19 sl20 sl21 sl22 sl23 sl24 sl25 sl26 sl27 sl28 sl29 sl30 sl31 sl32 sl33 sl34 sl35 sl36 sl37:Array (Option Value)} {oc0 kV0 dc0 pm0 cd0 ct0 oc1 kV1 dc1 pm1 cd1 ct1 oc2 kV2 dc2 pm2 cd2 ct2 oc3 kV3 dc3 pm3 cd3 ct3 oc4 kV4 dc4 pm4 cd4 ct4 oc5 kV5 dc5 pm5 cd5 ct5 oc6 kV6 dc6 pm6 cd6 ct6 oc7 kV7 dc7 pm7 cd7 ct7 oc8 kV8 dc8 pm8 cd8 ct8 oc9 kV9 dc9 pm9 cd9 ct9 oc10 kV10 dc10 pm10 cd10 ct10 oc11 kV11 dc11 pm11 cd11 ct11 oc12 kV12 dc12 pm12 cd12 ct12 oc13 kV13 dc13 pm13 cd13 ct13 oc14 kV14 dc14 pm14 cd14 ct14 oc15 kV15 dc15 pm15 cd15 ct15 oc16 kV16 dc16 pm16 cd16 ct16 oc17 kV17 dc17 pm17 cd17 ct17 oc18 kV18 dc18 pm18 cd18 ct18 oc19 kV19 dc19 pm19 cd19 ct19 oc20 kV20 dc20 pm20 cd20 ct20 oc21 kV21 dc21 pm21 cd21 ct21 oc22 kV22 dc22 pm22 cd22 ct22 oc23 kV23 dc23 pm23 cd23 ct23 oc24 kV24 dc24 pm24 cd24 ct24 oc25 kV25 dc25 pm25 cd25 ct25 oc26 kV26 dc26 pm26 cd26 ct26 oc27 kV27 dc27 pm27 cd27 ct27 oc28 kV28 dc28 pm28 cd28 ct28 oc29 kV29 dc29 pm29 cd29 ct29 oc30 kV30 dc30 pm30 cd30 ct30 oc31 kV31 dc31 pm31 cd31 ct31 oc32 kV32 dc32 pm32 cd32 ct32 oc33 kV33 dc33 pm33 cd33 ct33 oc34 kV34 dc34 pm34 cd34 ct34 oc35 kV35 dc35 pm35 cd35 ct35 oc36 kV36 dc36 pm36 cd36 ct36 oc37 kV37 dc37 pm37 cd37 ct37:Value}
  (a0:Ya1 K Yl "next_place" = some (some (.ref f0))) (l0:K.lookup f0 = some ⟨oc0,od0,.func (Ybj "next_place" "next_place" (Zaw Zc9) (Zar Zc9) (Zt Zc9) .none kV0 dc0 pm0 an0 cd0 ct0),sl0⟩) (c0:Yak K cd0 "next_place" = true) (k0:Yal K (.ref f0) = true)
  (a1:Ya1 K Yl "worked" = some (some (.ref f1))) (l1:K.lookup f1 = some ⟨oc1,od1,.func (Ybj "worked" "worked" (Zaw Zfo) (Zar Zfo) (Zt Zfo) .none kV1 dc1 pm1 an1 cd1 ct1),sl1⟩) (c1:Yak K cd1 "worked" = true) (k1:Yal K (.ref f1) = true)
  (a2:Ya1 K Yl "with_box" = some (some (.ref f2))) (l2:K.lookup f2 = some ⟨oc2,od2,.func (Ybj "with_box" "with_box" (Zaw Zd8) (Zar Zd8) (Zt Zd8) .none kV2 dc2 pm2 an2 cd2 ct2),sl2⟩) (c2:Yak K cd2 "with_box" = true) (k2:Yal K (.ref f2) = true)
  (a3:Ya1 K Yl "cell_value" = some (some (.ref f3))) (l3:K.lookup f3 = some ⟨oc3,od3,.func (Ybj "cell_value" "cell_value" (Zaw Zc5) (Zar Zc5) (Zt Zc5) .none kV3 dc3 pm3 an3 cd3 ct3),sl3⟩) (c3:Yak K cd3 "cell_value" = true) (k3:Yal K (.ref f3) = true)
  (a4:Ya1 K Yl "next_boxes" = some (some (.ref f4))) (l4:K.lookup f4 = some ⟨oc4,od4,.func (Ybj "next_boxes" "next_boxes" (Zaw Zc8) (Zar Zc8) (Zt Zc8) .none kV4 dc4 pm4 an4 cd4 ct4),sl4⟩) (c4:Yak K cd4 "next_boxes" = true) (k4:Yal K (.ref f4) = true)
  (a5:Ya1 K Yl "is_within" = some (some (.ref f5))) (l5:K.lookup f5 = some ⟨oc5,od5,.func (Ybj "is_within" "is_within" (Zaw Zdt) (Zar Zdt) (Zt Zdt) .none kV5 dc5 pm5 an5 cd5 ct5),sl5⟩) (c5:Yak K cd5 "is_within" = true) (k5:Yal K (.ref f5) = true)
  (a6:Ya1 K Yl "is_use" = some (some (.ref f6))) (l6:K.lookup f6 = some ⟨oc6,od6,.func (Ybj "is_use" "is_use" (Zaw Zfq) (Zar Zfq) (Zt Zfq) .none kV6 dc6 pm6 an6 cd6 ct6),sl6⟩) (c6:Yak K cd6 "is_use" = true) (k6:Yal K (.ref f6) = true)
  (a7:Ya1 K Yl "cell_number" = some (some (.ref f7))) (l7:K.lookup f7 = some ⟨oc7,od7,.func (Ybj "cell_number" "cell_number" (Zaw ZcC) (Zar ZcC) (Zt ZcC) .none kV7 dc7 pm7 an7 cd7 ct7),sl7⟩) (c7:Yak K cd7 "cell_number" = true) (k7:Yal K (.ref f7) = true)
  (a8:Ya1 K Yl "row_at" = some (some (.ref f8))) (l8:K.lookup f8 = some ⟨oc8,od8,.func (Ybj "row_at" "row_at" (Zaw Zfn) (Zar Zfn) (Zt Zfn) .none kV8 dc8 pm8 an8 cd8 ct8),sl8⟩) (c8:Yak K cd8 "row_at" = true) (k8:Yal K (.ref f8) = true)
  (a9:Ya1 K Yl "boxes_behind" = some (some (.ref f9))) (l9:K.lookup f9 = some ⟨oc9,od9,.func (Ybj "boxes_behind" "boxes_behind" (Zaw Zcn) (Zar Zcn) (Zt Zcn) .none kV9 dc9 pm9 an9 cd9 ct9),sl9⟩) (c9:Yak K cd9 "boxes_behind" = true) (k9:Yal K (.ref f9) = true)
  (a10:Ya1 K Yl "step_fits" = some (some (.ref f10))) (l10:K.lookup f10 = some ⟨oc10,od10,.func (Ybj "step_fits" "step_fits" (Zaw Zdp) (Zar Zdp) (Zt Zdp) .none kV10 dc10 pm10 an10 cd10 ct10),sl10⟩) (c10:Yak K cd10 "step_fits" = true) (k10:Yal K (.ref f10) = true)
  (a11:Ya1 K Yl "use_fits" = some (some (.ref f11))) (l11:K.lookup f11 = some ⟨oc11,od11,.func (Ybj "use_fits" "use_fits" (Zaw Zd7) (Zar Zd7) (Zt Zd7) .none kV11 dc11 pm11 an11 cd11 ct11),sl11⟩) (c11:Yak K cd11 "use_fits" = true) (k11:Yal K (.ref f11) = true)
  (a12:Ya1 K Yl "use_matches" = some (some (.ref f12))) (l12:K.lookup f12 = some ⟨oc12,od12,.func (Ybj "use_matches" "use_matches" (Zaw ZcF) (Zar ZcF) (Zt ZcF) .none kV12 dc12 pm12 an12 cd12 ct12),sl12⟩) (c12:Yak K cd12 "use_matches" = true) (k12:Yal K (.ref f12) = true)
  (a13:Ya1 K Yl "first_unfit_step" = some (some (.ref f13))) (l13:K.lookup f13 = some ⟨oc13,od13,.func (Ybj "first_unfit_step" "first_unfit_step" (Zaw Zby) (Zar Zby) (Zt Zby) .none kV13 dc13 pm13 an13 cd13 ct13),sl13⟩) (c13:Yak K cd13 "first_unfit_step" = true) (k13:Yal K (.ref f13) = true)
  (a14:Ya1 K Yl "first_unfit_use" = some (some (.ref f14))) (l14:K.lookup f14 = some ⟨oc14,od14,.func (Ybj "first_unfit_use" "first_unfit_use" (Zaw ZbD) (Zar ZbD) (Zt ZbD) .none kV14 dc14 pm14 an14 cd14 ct14),sl14⟩) (c14:Yak K cd14 "first_unfit_use" = true) (k14:Yal K (.ref f14) = true)
  (a15:Ya1 K Yl "first_unmatched_use" = some (some (.ref f15))) (l15:K.lookup f15 = some ⟨oc15,od15,.func (Ybj "first_unmatched_use" "first_unmatched_use" (Zaw Zbe) (Zar Zbe) (Zt Zbe) .none kV15 dc15 pm15 an15 cd15 ct15),sl15⟩) (c15:Yak K cd15 "first_unmatched_use" = true) (k15:Yal K (.ref f15) = true)
  (a16:Ya1 K Yl "fault_of_steps" = some (some (.ref f16))) (l16:K.lookup f16 = some ⟨oc16,od16,.func (Ybj "fault_of_steps" "fault_of_steps" (Zaw ZbQ) (Zar ZbQ) (Zt ZbQ) .none kV16 dc16 pm16 an16 cd16 ct16),sl16⟩) (c16:Yak K cd16 "fault_of_steps" = true) (k16:Yal K (.ref f16) = true)
  (a17:Ya1 K Yl "fault_of_uses" = some (some (.ref f17))) (l17:K.lookup f17 = some ⟨oc17,od17,.func (Ybj "fault_of_uses" "fault_of_uses" (Zaw Zb2) (Zar Zb2) (Zt Zb2) .none kV17 dc17 pm17 an17 cd17 ct17),sl17⟩) (c17:Yak K cd17 "fault_of_uses" = true) (k17:Yal K (.ref f17) = true)
  (a18:Ya1 K Yl "fault" = some (some (.ref f18))) (l18:K.lookup f18 = some ⟨oc18,od18,.func (Ybj "fault" "fault" (Zaw Zgt) (Zar Zgt) (Zt Zgt) .none kV18 dc18 pm18 an18 cd18 ct18),sl18⟩) (c18:Yak K cd18 "fault" = true) (k18:Yal K (.ref f18) = true)
  (a19:Ya1 K Yl "_law_mix" = some (some (.ref f19))) (l19:K.lookup f19 = some ⟨oc19,od19,.func (Ybj "_law_mix" "_law_mix" (Zaw Zd0) (Zar Zd0) (Zt Zd0) .none kV19 dc19 pm19 an19 cd19 ct19),sl19⟩) (c19:Yak K cd19 "_law_mix" = true) (k19:Yal K (.ref f19) = true)
  (a20:Ya1 K Yl "_law_number" = some (some (.ref f20))) (l20:K.lookup f20 = some ⟨oc20,od20,.func (Ybj "_law_number" "_law_number" (Zaw ZcH) (Zar ZcH) (Zt ZcH) .none kV20 dc20 pm20 an20 cd20 ct20),sl20⟩) (c20:Yak K cd20 "_law_number" = true) (k20:Yal K (.ref f20) = true)
  (a21:Ya1 K Yl "_law_row" = some (some (.ref f21))) (l21:K.lookup f21 = some ⟨oc21,od21,.func (Ybj "_law_row" "_law_row" (Zaw Zd4) (Zar Zd4) (Zt Zd4) .none kV21 dc21 pm21 an21 cd21 ct21),sl21⟩) (c21:Yak K cd21 "_law_row" = true) (k21:Yal K (.ref f21) = true)
  (a22:Ya1 K Yl "_law_roll" = some (some (.ref f22))) (l22:K.lookup f22 = some ⟨oc22,od22,.func (Ybj "_law_roll" "_law_roll" (Zaw Zdw) (Zar Zdw) (Zt Zdw) .none kV22 dc22 pm22 an22 cd22 ct22),sl22⟩) (c22:Yak K cd22 "_law_roll" = true) (k22:Yal K (.ref f22) = true)
  (a23:Ya1 K Yl "_law_boxes" = some (some (.ref f23))) (l23:K.lookup f23 = some ⟨oc23,od23,.func (Ybj "_law_boxes" "_law_boxes" (Zaw Zc1) (Zar Zc1) (Zt Zc1) .none kV23 dc23 pm23 an23 cd23 ct23),sl23⟩) (c23:Yak K cd23 "_law_boxes" = true) (k23:Yal K (.ref f23) = true)
  (a24:Ya1 K Yl "_law_goes" = some (some (.ref f24))) (l24:K.lookup f24 = some ⟨oc24,od24,.func (Ybj "_law_goes" "_law_goes" (Zaw Zdm) (Zar Zdm) (Zt Zdm) .none kV24 dc24 pm24 an24 cd24 ct24),sl24⟩) (c24:Yak K cd24 "_law_goes" = true) (k24:Yal K (.ref f24) = true)
  (a25:Ya1 K Yl "_law_states" = some (some (.ref f25))) (l25:K.lookup f25 = some ⟨oc25,od25,.func (Ybj "_law_states" "_law_states" (Zaw ZcG) (Zar ZcG) (Zt ZcG) .none kV25 dc25 pm25 an25 cd25 ct25),sl25⟩) (c25:Yak K cd25 "_law_states" = true) (k25:Yal K (.ref f25) = true)
  (a26:Ya1 K Yl "_law_uses" = some (some (.ref f26))) (l26:K.lookup f26 = some ⟨oc26,od26,.func (Ybj "_law_uses" "_law_uses" (Zaw Zds) (Zar Zds) (Zt Zds) .none kV26 dc26 pm26 an26 cd26 ct26),sl26⟩) (c26:Yak K cd26 "_law_uses" = true) (k26:Yal K (.ref f26) = true)
  (a27:Ya1 K Yl "_law_cell" = some (some (.ref f27))) (l27:K.lookup f27 = some ⟨oc27,od27,.func (Ybj "_law_cell" "_law_cell" (Zaw Zdy) (Zar Zdy) (Zt Zdy) .none kV27 dc27 pm27 an27 cd27 ct27),sl27⟩) (c27:Yak K cd27 "_law_cell" = true) (k27:Yal K (.ref f27) = true)
  (a28:Ya1 K Yl "_law_steps_changed" = some (some (.ref f28))) (l28:K.lookup f28 = some ⟨oc28,od28,.func (Ybj "_law_steps_changed" "_law_steps_changed" (Zaw Zbk) (Zar Zbk) (Zt Zbk) .none kV28 dc28 pm28 an28 cd28 ct28),sl28⟩) (c28:Yak K cd28 "_law_steps_changed" = true) (k28:Yal K (.ref f28) = true)
  (a29:Ya1 K Yl "_law_uses_changed" = some (some (.ref f29))) (l29:K.lookup f29 = some ⟨oc29,od29,.func (Ybj "_law_uses_changed" "_law_uses_changed" (Zaw Zbr) (Zar Zbr) (Zt Zbr) .none kV29 dc29 pm29 an29 cd29 ct29),sl29⟩) (c29:Yak K cd29 "_law_uses_changed" = true) (k29:Yal K (.ref f29) = true)
  (a30:Ya1 K Yl "_law_tables_changed" = some (some (.ref f30))) (l30:K.lookup f30 = some ⟨oc30,od30,.func (Ybj "_law_tables_changed" "_law_tables_changed" (Zaw Zbf) (Zar Zbf) (Zt Zbf) .none kV30 dc30 pm30 an30 cd30 ct30),sl30⟩) (c30:Yak K cd30 "_law_tables_changed" = true) (k30:Yal K (.ref f30) = true)
  (a31:Ya1 K Yl "_law_step_right" = some (some (.ref f31))) (l31:K.lookup f31 = some ⟨oc31,od31,.func (Ybj "_law_step_right" "_law_step_right" (Zaw ZbE) (Zar ZbE) (Zt ZbE) .none kV31 dc31 pm31 an31 cd31 ct31),sl31⟩) (c31:Yak K cd31 "_law_step_right" = true) (k31:Yal K (.ref f31) = true)
  (a32:Ya1 K Yl "_law_steps_due" = some (some (.ref f32))) (l32:K.lookup f32 = some ⟨oc32,od32,.func (Ybj "_law_steps_due" "_law_steps_due" (Zaw ZbM) (Zar ZbM) (Zt ZbM) .none kV32 dc32 pm32 an32 cd32 ct32),sl32⟩) (c32:Yak K cd32 "_law_steps_due" = true) (k32:Yal K (.ref f32) = true)
  (a33:Ya1 K Yl "_law_use_right" = some (some (.ref f33))) (l33:K.lookup f33 = some ⟨oc33,od33,.func (Ybj "_law_use_right" "_law_use_right" (Zaw ZbN) (Zar ZbN) (Zt ZbN) .none kV33 dc33 pm33 an33 cd33 ct33),sl33⟩) (c33:Yak K cd33 "_law_use_right" = true) (k33:Yal K (.ref f33) = true)
  (a34:Ya1 K Yl "_law_match_right" = some (some (.ref f34))) (l34:K.lookup f34 = some ⟨oc34,od34,.func (Ybj "_law_match_right" "_law_match_right" (Zaw Zbz) (Zar Zbz) (Zt Zbz) .none kV34 dc34 pm34 an34 cd34 ct34),sl34⟩) (c34:Yak K cd34 "_law_match_right" = true) (k34:Yal K (.ref f34) = true)
  (a35:Ya1 K Yl "_law_due" = some (some (.ref f35))) (l35:K.lookup f35 = some ⟨oc35,od35,.func (Ybj "_law_due" "_law_due" (Zaw Zd5) (Zar Zd5) (Zt Zd5) .none kV35 dc35 pm35 an35 cd35 ct35),sl35⟩) (c35:Yak K cd35 "_law_due" = true) (k35:Yal K (.ref f35) = true)
  (a36:Ya1 K Yl "_law_same" = some (some (.ref f36))) (l36:K.lookup f36 = some ⟨oc36,od36,.func (Ybj "_law_same" "_law_same" (Zaw Zdo) (Zar Zdo) (Zt Zdo) .none kV36 dc36 pm36 an36 cd36 ct36),sl36⟩) (c36:Yak K cd36 "_law_same" = true) (k36:Yal K (.ref f36) = true)
  (a37:Ya1 K Yl "law" = some (some (.ref f37))) (l37:K.lookup f37 = some ⟨oc37,od37,.func (Ybj "law" "law" (Zaw Zg2) (Zar Zg2) (Zt Zg2) .none kV37 dc37 pm37 an37 cd37 ct37),sl37⟩) (c37:Yak K cd37 "law" = true) (k37:Yal K (.ref f37) = true)
  (z_bool:Ya1 K Yl "bool" = some none)
  (z_dict:Ya1 K Yl "dict" = some none)
  (z_enumerate:Ya1 K Yl "enumerate" = some none)
  (z_int:Ya1 K Yl "int" = some none)
  (z_isinstance:Ya1 K Yl "isinstance" = some none)
  (z_len:Ya1 K Yl "len" = some none)
  (z_list:Ya1 K Yl "list" = some none)
  (z_range:Ya1 K Yl "range" = some none)
  (z_sorted:Ya1 K Yl "sorted" = some none)
  (z_str:Ya1 K Yl "str" = some none)
  (z_tuple:Ya1 K Yl "tuple" = some none):
  ∃ fd:FuncData,(∀ (s:Ye) (v:Value),Yif s fd ⟨[v],[]⟩ [("script",v)]) /\ ∀ base:Heap,K.In base -> base.Ns Yl mg -> ZiV l.prog w K mg base CX0 8 fa fd ["script"] (sp3 K 1 ZnP):=by
 have e:=hfa.symm.trans (W.mg_of X G a37);cases e;have T:Txt K mg:=⟨trivial,Yb6 X G z_bool,Yb6 X G z_dict,Yb6 X G z_enumerate,Yb6 X G z_int,Yb6 X G z_isinstance,Yb6 X G z_len,Yb6 X G z_list,Yb6 X G z_range,Yb6 X G z_sorted,Yb6 X G z_str,Yb6 X G z_tuple⟩;have D_next_place:Zav K mg "next_place" Zc9 ["row","place","boxes"]:=Zay X G a0 l0 c0 k0 (Binds.all (ub3 fun _ _ _=>rfl));have D_worked:Zav K mg "worked" Zfo ["name","one","other"]:=Zay X G a1 l1 c1 k1 (Binds.all (ub3 fun _ _ _=>rfl));have D_with_box:Zav K mg "with_box" Zd8 ["boxes","box","value"]:=Zay X G a2 l2 c2 k2 (Binds.all (ub3 fun _ _ _=>rfl));have D_cell_value:Zav K mg "cell_value" Zc5 ["cells","number"]:=Zay X G a3 l3 c3 k3 (Binds.all (ub2 fun _ _=>rfl));have D_next_boxes:Zav K mg "next_boxes" Zc8 ["row","boxes","cells"]:=Zay X G a4 l4 c4 k4 (Binds.all (ub3 fun _ _ _=>rfl));have D_is_within:Zav K mg "is_within" Zdt ["number","many"]:=Zay X G a5 l5 c5 k5 (Binds.all (ub2 fun _ _=>rfl));have D_is_use:Zav K mg "is_use" Zfq ["row"]:=Zay X G a6 l6 c6 k6 (Binds.all (ub1 fun _=>rfl));have D_cell_number:Zav K mg "cell_number" ZcC ["row","boxes"]:=Zay X G a7 l7 c7 k7 (Binds.all (ub2 fun _ _=>rfl));have D_row_at:Zav K mg "row_at" Zfn ["roll","place"]:=Zay X G a8 l8 c8 k8 (Binds.all (ub2 fun _ _=>rfl));have D_boxes_behind:Zav K mg "boxes_behind" Zcn ["roll_row","boxes","told_boxes"]:=Zay X G a9 l9 c9 k9 (Binds.all (ub3 fun _ _ _=>rfl));have D_step_fits:Zav K mg "step_fits" Zdp ["roll","row","behind"]:=Zay X G a10 l10 c10 k10 (Binds.all (ub3 fun _ _ _=>rfl));have D_use_fits:Zav K mg "use_fits" Zd7 ["ahead","row"]:=Zay X G a11 l11 c11 k11 (Binds.all (ub2 fun _ _=>rfl));have D_use_matches:Zav K mg "use_matches" ZcF ["roll","steps","row"]:=Zay X G a12 l12 c12 k12 (Binds.all (ub3 fun _ _ _=>rfl));have D_first_unfit_step:Zav K mg "first_unfit_step" Zby ["roll","steps"]:=Zay X G a13 l13 c13 k13 (Binds.all (ub2 fun _ _=>rfl));have D_first_unfit_use:Zav K mg "first_unfit_use" ZbD ["ahead","uses"]:=Zay X G a14 l14 c14 k14 (Binds.all (ub2 fun _ _=>rfl));have D_first_unmatched_use:Zav K mg "first_unmatched_use" Zbe ["roll","steps","uses"]:=Zay X G a15 l15 c15 k15 (Binds.all (ub3 fun _ _ _=>rfl));have D_fault_of_steps:Zav K mg "fault_of_steps" ZbQ ["roll","boxes","steps"]:=Zay X G a16 l16 c16 k16 (Binds.all (ub3 fun _ _ _=>rfl));have D_fault_of_uses:Zav K mg "fault_of_uses" Zb2 ["roll","steps","uses"]:=Zay X G a17 l17 c17 k17 (Binds.all (ub3 fun _ _ _=>rfl));have D_fault:Zav K mg "fault" Zgt ["roll","boxes","steps","uses"]:=Zay X G a18 l18 c18 k18 (Binds.all (ub4 fun _ _ _ _=>rfl));have D__law_mix:Zav K mg "_law_mix" Zd0 ["cell","k"]:=Zay X G a19 l19 c19 k19 (Binds.all (ub2 fun _ _=>rfl));have D__law_number:Zav K mg "_law_number" ZcH ["number"]:=Zay X G a20 l20 c20 k20 (Binds.all (ub1 fun _=>rfl));have D__law_row:Zav K mg "_law_row" Zd4 ["cell","k","size"]:=Zay X G a21 l21 c21 k21 (Binds.all (ub3 fun _ _ _=>rfl))
 have D__law_roll:Zav K mg "_law_roll" Zdw ["script"]:=Zay X G a22 l22 c22 k22 (Binds.all (ub1 fun _=>rfl));have D__law_boxes:Zav K mg "_law_boxes" Zc1 ["script"]:=Zay X G a23 l23 c23 k23 (Binds.all (ub1 fun _=>rfl));have D__law_goes:Zav K mg "_law_goes" Zdm ["row","place","boxes","cells"]:=Zay X G a24 l24 c24 k24 (Binds.all (ub4 fun _ _ _ _=>rfl));have D__law_states:Zav K mg "_law_states" ZcG ["roll","first","most"]:=Zay X G a25 l25 c25 k25 (Binds.all (ub3 fun _ _ _=>rfl));have D__law_uses:Zav K mg "_law_uses" Zds ["roll","states"]:=Zay X G a26 l26 c26 k26 (Binds.all (ub2 fun _ _=>rfl));have D__law_cell:Zav K mg "_law_cell" Zdy ["script","k"]:=Zay X G a27 l27 c27 k27 (Binds.all (ub2 fun _ _=>rfl));have D__law_steps_changed:Zav K mg "_law_steps_changed" Zbk ["roll","steps","kind","more"]:=Zay X G a28 l28 c28 k28 (Binds.all (ub4 fun _ _ _ _=>rfl));have D__law_uses_changed:Zav K mg "_law_uses_changed" Zbr ["uses","kind","more"]:=Zay X G a29 l29 c29 k29 (Binds.all (ub3 fun _ _ _=>rfl));have D__law_tables_changed:Zav K mg "_law_tables_changed" Zbf ["roll","steps","uses","cell"]:=Zay X G a30 l30 c30 k30 (Binds.all (ub4 fun _ _ _ _=>rfl));have D__law_step_right:Zav K mg "_law_step_right" ZbE ["roll","row","behind"]:=Zay X G a31 l31 c31 k31 (Binds.all (ub3 fun _ _ _=>rfl));have D__law_steps_due:Zav K mg "_law_steps_due" ZbM ["roll","boxes","steps"]:=Zay X G a32 l32 c32 k32 (Binds.all (ub3 fun _ _ _=>rfl));have D__law_use_right:Zav K mg "_law_use_right" ZbN ["uses","k"]:=Zay X G a33 l33 c33 k33 (Binds.all (ub2 fun _ _=>rfl));have D__law_match_right:Zav K mg "_law_match_right" Zbz ["roll","steps","row"]:=Zay X G a34 l34 c34 k34 (Binds.all (ub3 fun _ _ _=>rfl));have D__law_due:Zav K mg "_law_due" Zd5 ["roll","boxes","steps","uses"]:=Zay X G a35 l35 c35 k35 (Binds.all (ub4 fun _ _ _ _=>rfl));have D__law_same:Zav K mg "_law_same" Zdo ["found","due"]:=Zay X G a36 l36 c36 k36 (Binds.all (ub2 fun _ _=>rfl));refine ⟨Ybj "law" "law" (Zaw Zg2) (Zar Zg2) (Zt Zg2) .none kV37 dc37 pm37 an37 cd37 ct37,fun s v=>.of_eq rfl,fun base _ _=>?_⟩;have F_next_place:=ZjI (P:=l.prog) (w:=w) (base:=base) D_next_place T;have F_worked:=ZoS (P:=l.prog) (w:=w) (base:=base) D_worked T;have F_with_box:=Zly (P:=l.prog) (w:=w) (base:=base) D_with_box T;have F_cell_value:=Zju (P:=l.prog) (w:=w) (base:=base) D_cell_value T;have F_next_boxes:=ZjM (P:=l.prog) (w:=w) (base:=base) D_next_boxes T F_worked F_with_box F_cell_value;have F_is_within:=Zld (P:=l.prog) (w:=w) (base:=base) D_is_within T;have F_is_use:=Zos (P:=l.prog) (w:=w) (base:=base) D_is_use T;have F_cell_number:=Zi2 (P:=l.prog) (w:=w) (base:=base) D_cell_number T;have F_row_at:=ZoF (P:=l.prog) (w:=w) (base:=base) D_row_at T F_is_within;have F_boxes_behind:=Zil (P:=l.prog) (w:=w) (base:=base) D_boxes_behind T F_next_boxes F_with_box;have F_step_fits:=Zlc (P:=l.prog) (w:=w) (base:=base) D_step_fits T F_next_place F_row_at F_boxes_behind;have F_use_fits:=Zml (P:=l.prog) (w:=w) (base:=base) D_use_fits T
 have F_use_matches:=Zjf (P:=l.prog) (w:=w) (base:=base) D_use_matches T F_is_within F_is_use F_cell_number F_row_at;have F_first_unfit_step:=Zgy (P:=l.prog) (w:=w) (base:=base) D_first_unfit_step T F_step_fits;have F_first_unfit_use:=ZgX (P:=l.prog) (w:=w) (base:=base) D_first_unfit_use T F_use_fits;have F_first_unmatched_use:=ZfB (P:=l.prog) (w:=w) (base:=base) D_first_unmatched_use T F_use_matches;have F_fault_of_steps:=Zhp (P:=l.prog) (w:=w) (base:=base) D_fault_of_steps T F_row_at F_first_unfit_step;have F_fault_of_uses:=ZhD (P:=l.prog) (w:=w) (base:=base) D_fault_of_uses T F_is_use F_first_unfit_use F_first_unmatched_use;have F_fault:=ZqI (P:=l.prog) (w:=w) (base:=base) D_fault T F_fault_of_steps F_fault_of_uses;have F__law_mix:=Zma (P:=l.prog) (w:=w) (base:=base) D__law_mix T;have F__law_number:=Zjs (P:=l.prog) (w:=w) (base:=base) D__law_number T;have F__law_row:=Zmi (P:=l.prog) (w:=w) (base:=base) D__law_row T F__law_mix F__law_number;have F__law_roll:=Zla (P:=l.prog) (w:=w) (base:=base) D__law_roll T F__law_mix F__law_row;have F__law_boxes:=ZjD (P:=l.prog) (w:=w) (base:=base) D__law_boxes T F__law_mix F__law_number;have F__law_goes:=Zln (P:=l.prog) (w:=w) (base:=base) D__law_goes T;have F__law_states:=Zi8 (P:=l.prog) (w:=w) (base:=base) D__law_states T F__law_goes;have F__law_uses:=ZkO (P:=l.prog) (w:=w) (base:=base) D__law_uses T;have F__law_cell:=ZkQ (P:=l.prog) (w:=w) (base:=base) D__law_cell T;have F__law_steps_changed:=ZfP (P:=l.prog) (w:=w) (base:=base) D__law_steps_changed T;have F__law_uses_changed:=Zf4 (P:=l.prog) (w:=w) (base:=base) D__law_uses_changed T;have F__law_tables_changed:=ZfD (P:=l.prog) (w:=w) (base:=base) D__law_tables_changed T F__law_steps_changed F__law_uses_changed;have F__law_step_right:=ZgR (P:=l.prog) (w:=w) (base:=base) D__law_step_right T F__law_goes;have F__law_steps_due:=Zhj (P:=l.prog) (w:=w) (base:=base) D__law_steps_due T F__law_step_right;have F__law_use_right:=Zhh (P:=l.prog) (w:=w) (base:=base) D__law_use_right T;have F__law_match_right:=ZgD (P:=l.prog) (w:=w) (base:=base) D__law_match_right T;have F__law_due:=ZlF (P:=l.prog) (w:=w) (base:=base) D__law_due T F__law_steps_due F__law_use_right F__law_match_right;have F__law_same:=ZkE (P:=l.prog) (w:=w) (base:=base) D__law_same T;exact ZsL (Zqq (st:=Zg2) l37 c37 k37) T F_fault F__law_mix F__law_roll F__law_boxes F__law_states F__law_uses F__law_cell F__law_tables_changed F__law_due F__law_same
end Law
open PySem PySem.W PyProof.Rows
set_option maxRecDepth 100000 in
set_option maxHeartbeats 0 in
theorem PySem.Challenge.cw_stepledger_k34_fault_is_the_first_holds : PySem.Challenge.rw_stepledger_k34_fault_is_the_first.Holds := by
 w_on; o_law; k_head; (case hw=>w_witness2)
 k_fill
 refine L3.ZuH (l:=PySem.Challenge.rw_stepledger_k34_fault_is_the_first) (k:=8) (F:=Law.ZnP) rfl rfl ⟨rfl,by decide,by decide⟩ (fun w h Y=>W.kIn_of Y) ?G Law.law_holds
 case G=>
  intro w mg fa h KX G hmg;refine' Law.Zs0 KX G hmg ?a0 ?l0 ?c0 ?k0 ?a1 ?l1 ?c1 ?k1 ?a2 ?l2 ?c2 ?k2 ?a3 ?l3 ?c3 ?k3 ?a4 ?l4 ?c4 ?k4 ?a5 ?l5 ?c5 ?k5 ?a6 ?l6 ?c6 ?k6 ?a7 ?l7 ?c7 ?k7 ?a8 ?l8 ?c8 ?k8 ?a9 ?l9 ?c9 ?k9 ?a10 ?l10 ?c10 ?k10 ?a11 ?l11 ?c11 ?k11 ?a12 ?l12 ?c12 ?k12 ?a13 ?l13 ?c13 ?k13 ?a14 ?l14 ?c14 ?k14 ?a15 ?l15 ?c15 ?k15 ?a16 ?l16 ?c16 ?k16 ?a17 ?l17 ?c17 ?k17 ?a18 ?l18 ?c18 ?k18 ?a19 ?l19 ?c19 ?k19 ?a20 ?l20 ?c20 ?k20 ?a21 ?l21 ?c21 ?k21 ?a22 ?l22 ?c22 ?k22 ?a23 ?l23 ?c23 ?k23 ?a24 ?l24 ?c24 ?k24 ?a25 ?l25 ?c25 ?k25 ?a26 ?l26 ?c26 ?k26 ?a27 ?l27 ?c27 ?k27 ?a28 ?l28 ?c28 ?k28 ?a29 ?l29 ?c29 ?k29 ?a30 ?l30 ?c30 ?k30 ?a31 ?l31 ?c31 ?k31 ?a32 ?l32 ?c32 ?k32 ?a33 ?l33 ?c33 ?k33 ?a34 ?l34 ?c34 ?k34 ?a35 ?l35 ?c35 ?k35 ?a36 ?l36 ?c36 ?k36 ?a37 ?l37 ?c37 ?k37 ?z_bool ?z_dict ?z_enumerate ?z_int ?z_isinstance ?z_len ?z_list ?z_range ?z_sorted ?z_str ?z_tuple
  (case a0=>k_is)
  (case l0=>k_is)
  (case c0=>k_is)
  (case k0=>k_is)
  (case a1=>k_is)
  (case l1=>k_is)
  (case c1=>k_is)
  (case k1=>k_is)
  (case a2=>k_is)
  (case l2=>k_is)
  (case c2=>k_is)
  (case k2=>k_is)
  (case a3=>k_is)
  (case l3=>k_is)
  (case c3=>k_is)
  (case k3=>k_is)
  (case a4=>k_is)
  (case l4=>k_is)
  (case c4=>k_is)
  (case k4=>k_is)
  (case a5=>k_is)
  (case l5=>k_is)
  (case c5=>k_is)
  (case k5=>k_is)
  (case a6=>k_is)
  (case l6=>k_is)
  (case c6=>k_is)
  (case k6=>k_is)
  (case a7=>k_is)
  (case l7=>k_is)
  (case c7=>k_is)
  (case k7=>k_is)
  (case a8=>k_is)
  (case l8=>k_is)
  (case c8=>k_is)
  (case k8=>k_is)
  (case a9=>k_is)
  (case l9=>k_is)
  (case c9=>k_is)
  (case k9=>k_is)
  (case a10=>k_is)
  (case l10=>k_is)
  (case c10=>k_is)
  (case k10=>k_is)
  (case a11=>k_is)
  (case l11=>k_is)
  (case c11=>k_is)
  (case k11=>k_is)
  (case a12=>k_is)
  (case l12=>k_is)
  (case c12=>k_is)
  (case k12=>k_is)
  (case a13=>k_is)
  (case l13=>k_is)
  (case c13=>k_is)
  (case k13=>k_is)
  (case a14=>k_is)
  (case l14=>k_is)
  (case c14=>k_is)
  (case k14=>k_is)
  (case a15=>k_is)
  (case l15=>k_is)
  (case c15=>k_is)
  (case k15=>k_is)
  (case a16=>k_is)
  (case l16=>k_is)
  (case c16=>k_is)
  (case k16=>k_is)
  (case a17=>k_is)
  (case l17=>k_is)
  (case c17=>k_is)
  (case k17=>k_is)
  (case a18=>k_is)
  (case l18=>k_is)
  (case c18=>k_is)
  (case k18=>k_is)
  (case a19=>k_is)
  (case l19=>k_is)
  (case c19=>k_is)
  (case k19=>k_is)
  (case a20=>k_is)
  (case l20=>k_is)
  (case c20=>k_is)
  (case k20=>k_is)
  (case a21=>k_is)
  (case l21=>k_is)
  (case c21=>k_is)
  (case k21=>k_is)
  (case a22=>k_is)
  (case l22=>k_is)
  (case c22=>k_is)
  (case k22=>k_is)
  (case a23=>k_is)
  (case l23=>k_is)
  (case c23=>k_is)
  (case k23=>k_is)
  (case a24=>k_is)
  (case l24=>k_is)
  (case c24=>k_is)
  (case k24=>k_is)
  (case a25=>k_is)
  (case l25=>k_is)
  (case c25=>k_is)
  (case k25=>k_is)
  (case a26=>k_is)
  (case l26=>k_is)
  (case c26=>k_is)
  (case k26=>k_is)
  (case a27=>k_is)
  (case l27=>k_is)
  (case c27=>k_is)
  (case k27=>k_is)
  (case a28=>k_is)
  (case l28=>k_is)
  (case c28=>k_is)
  (case k28=>k_is)
  (case a29=>k_is)
  (case l29=>k_is)
  (case c29=>k_is)
  (case k29=>k_is)
  (case a30=>k_is)
  (case l30=>k_is)
  (case c30=>k_is)
  (case k30=>k_is)
  (case a31=>k_is)
  (case l31=>k_is)
  (case c31=>k_is)
  (case k31=>k_is)
  (case a32=>k_is)
  (case l32=>k_is)
  (case c32=>k_is)
  (case k32=>k_is)
  (case a33=>k_is)
  (case l33=>k_is)
  (case c33=>k_is)
  (case k33=>k_is)
  (case a34=>k_is)
  (case l34=>k_is)
  (case c34=>k_is)
  (case k34=>k_is)
  (case a35=>k_is)
  (case l35=>k_is)
  (case c35=>k_is)
  (case k35=>k_is)
  (case a36=>k_is)
  (case l36=>k_is)
  (case c36=>k_is)
  (case k36=>k_is)
  (case a37=>k_is)
  (case l37=>k_is)
  (case c37=>k_is)
  (case k37=>k_is)
  (case z_bool=>k_is)
  (case z_dict=>k_is)
  (case z_enumerate=>k_is)
  (case z_int=>k_is)
  (case z_isinstance=>k_is)
  (case z_len=>k_is)
  (case z_list=>k_is)
  (case z_range=>k_is)
  (case z_sorted=>k_is)
  (case z_str=>k_is)
  (case z_tuple=>k_is)
