import PyProof.Rows.All
import Wide.All
import OpenK.AllK
import Wide.FinOn
import Lean
import PyProof.EqAt
import PyProof.EqKinds
import PyProof.TupleCall
import PySem.Challenge.RW_stepledger_k14_whole_run_walked
open PySem.W renaming Frag -> Ya, codeIn -> Ya1, keepIn -> Ya2, kia_one -> Ya6, nsIn -> Yba, mg_none_of -> Ybn, emptyDict -> Yby, fnOf -> Yci, instObj -> Ycu, fnOf -> Ydg, keepIn -> Yeo, kitx_tuple -> Yfk, codeIn -> Yfu, methodObj -> Yfy, kitx_list -> Yf1, kitx_dict -> Yf2, cellsFrom_some -> Ygy, lookIn -> Yh7, mg_of -> Yjp
open List renaming getElem?_eq_some_iff -> Yb, size_toArray -> Ye, length_map -> Yk, replicate -> Yl, getElem?_map -> Yp, mem_cons_self -> Yq, map_cons -> Yt, mem_cons_of_mem -> Yv, length_append -> Yw, getElem?_cons_succ -> Yy, append_assoc -> Yz, getElem?_cons_zero -> Y1, mem_cons -> Y3, getElem_mem -> Y4, all_eq_true -> Y5, getElem?_eq_getElem -> Y6, getElem?_append_left -> Y7, getElem?_set_ne -> Y9, range -> Yaa, getElem?_set_self -> Yab, map_append -> Yae, length_cons -> Yai, append_nil -> Yaj, mem_append_right -> Yal, mem_map -> Yan, getElem?_append_right -> Yaq, lookup_cons -> Yat, length_singleton -> Yaw, mem_of_getElem? -> Yax, length_take -> Yay, getD_eq_getElem?_getD -> Yaz, replicate_succ -> Ya9, all_cons -> Ybc, any_cons -> Ybd, take_of_length_le -> Ybg, mem_append -> Ybh, not_mem_nil -> Ybi, ext_getElem? -> Ybl, nil_append -> Ybq, flatten_cons -> Yb1, drop_eq_getElem_cons -> Yb2, set_set -> Yb6, pairwise_cons -> Yca, any_eq_true -> Ycb, getElem?_of_mem -> Ycc, map_map -> Ycn, mem_singleton -> Yco, singleton_append -> Ycq, mem_filter -> Ycv, nodup_cons -> Ycy, getElem?_take_of_lt -> Ycz, length_nil -> Yc2, map_nil -> Yc5, getElem?_replicate -> Yc6, map_congr_left -> Yc7, eq_nil_of_length_eq_zero -> Yc9, Nodup -> Ydb, find?_cons -> Ydh, length_range -> Ydo, take_add_one -> Ydq, cons_append -> Ydw, take_length -> Ydy, filterMap_cons -> Ydz, length_filterMap_le -> Yd6, pairwise_map -> Yem, length_filter_le -> Yeu, dropLast_concat -> Yez, dropLast_concat_getLast -> Ye0, foldl_cons -> Ye6, map_eq_nil_iff -> Ye9, set_cons_succ -> Yfp, toArray -> Yfq, mem_range -> Yft, drop_zero -> Yfv, filter_cons_of_pos -> Ygh, filter_cons_of_neg -> Ygi, prefix_iff_eq_take -> Ygk, map_take -> Ygo, getElem_inj -> Ygq, filter_cons -> Ygs, drop_length -> Ygu, range_succ_eq_map -> Yg1, drop_eq_nil_of_le -> Yg2, of_mem_zip -> Yhb, length_replicate -> Yhc, set_append_right -> Yhg, dropLast_eq_take -> Yhh, forIn_cons -> Yhk, mem_append_left -> Yhv, pairwise_append -> Yhz, length_pos_iff -> Yiu, foldl -> Yi3, length -> Yjh, not_lt -> Yjj
open PySem renaming wpAny_bind -> Yc, Shared -> Yg, wpAny_pure -> Ym, mainGlobals -> Yn, starEach -> Yx, sizeLine -> Yac, Program -> Yaf, bootBuiltins -> Yap, Around -> Yar, wpAny_holding -> Yau, wpAny_callSpecial?_slot -> Ya0, compareOp -> Ya5, mem_of_lookup -> Ya7, sizeLine_eq -> Ybe, assignEach -> Ybf, wpAny_field -> Ybj, wpAny_mono -> Ybt, wpAny_call_entry -> Ybw, keywordEach -> Ybz, binaryOp -> Yb8, wpAny_pyIter_list -> Yce, wpAny_newObj_type -> Ycf, backTo -> Ycl, wpAny_setField_rec -> Ycp, wpAny_seqItems -> Yct, wpAny_passesOwn -> Ycw, foldedSetIterable -> Ycx, wpAny_loadPart' -> Yc0, sysModules -> Ydi, wpAny_truthy_bool -> Ydj, backToKw -> Ydk, attributeBase -> Ydm, IsPair -> Ydr, wpAny_standAt -> Yd8, letOwnedTupleGo -> Yd9, wpAny_Call_Name_kw -> Yeb, sliceBounds -> Yel, slicePicked -> Yen, wpAny_updateSeq_pair -> Yey, call_meets -> Ye2, wpAny_execs_nil -> Ye4, getItem -> Ye5, assign -> Yfi, wpAny_pyIter_tuple -> Yfj, codeAny_mono -> Yfl, wpAny_typeOf -> Yfm, tupleKind_room_in1 -> Yfo, swapsWith -> Yfz, pyNext -> Yf0, wpAny_sequenceKey -> Yf5, typeIs_str -> Yf6, wpAny_comprehension_free -> Yf7, behindInMarks -> Ygc, wpAny_onRaise -> Ygm, noFill_tuple_add -> Ygr, wpAny_pyNext_list_item -> Ygx, tupleKind -> Yg6, holding -> Yg8, wpAny_pyNext_list_end -> Yg9, codeAny -> Yha, codeAny_builtin -> Yho, wpAny_nextOf_list_end -> Yhr, wpAny_rule -> Yhu, codeAny_call_builtin -> Yh3, rawInt -> Yh6, intText? -> Yh9, subscripted -> Yid, callerA -> Yim, swapsWithSole -> Yiw, swappedStores -> Yix, seq_tuple_add -> Yiy, wpAny_attempt -> Yi1, valueAt -> Yi4, relabel -> Yi5, concat_meets -> Yja, seqIndex_neg -> Yjb, call_meetsIn -> Yjc, BindsTo -> Yjg, seqIndex_of -> Yji, strValues -> Yjl, wpAny_letGo -> Yjn, standAt -> Yjo
open Nat renaming sub_add_cancel -> Yd, le_antisymm -> Yh, le_refl -> Yi, le_trans -> Yj, lt_of_lt_of_le -> Y0, ne_of_lt -> Y2, le_of_not_lt -> Y8, lt_of_le_of_ne -> Yad, zero_le -> Yag, le_add_right -> Yam, zero_add -> Ya3, min_le_right -> Ybb, lt_succ_of_lt -> Ybm, lt_of_le_of_lt -> Ybs, le_of_eq -> Yb4, eq_of_beq_eq_true -> Yb5, sub_le -> Yb9, le_of_ble_eq_true -> Ycj, lt_irrefl -> Yck, beq -> Ycr, mul_div_le -> Ydc, le_of_lt -> Yde, add_le_add_right -> Yds, lt_of_not_le -> Ydv, min_eq_left -> Yd7, min_le_left -> Yed, le_add_left -> Yee, ne_of_gt -> Yes, lt_trans -> Yet, succ_le_succ -> Yev, ble -> Ye3, toDigits_of_lt_base -> Ygn, min_eq_right -> Ygp, min_self -> Yhj, sub_eq_zero_of_le -> Yhm, toDigits -> Yhs, strongRecOn -> Yht, add_lt_add_right -> Yh5, mul_le_mul_left -> Yib, lt_mul_div_succ -> Yio, add_comm -> Yi7
open PySem.Heap renaming get?_push_of_some -> Yf, lt_size -> Yo, get?_push_size -> Yr, get?_push_ne -> Yc4, size_push -> Yda, size_update -> Ydx, SameBut -> Yd2, get?_update_other -> Yg0, get?_update_self -> Yhd, get?_push_cases -> Yh1, get?_update_ne -> Yip, ExtBut -> Yit
open Classical renaming propDecidable -> Ys
open Bool renaming and_eq_true -> Yu, false_eq_true -> Yah, false_ne_true -> Yav, and_self -> Yb3, beq_eq_decide_eq -> Yb7, or_eq_true -> Yc3, false_or -> Ygd, and_true -> Ygj, and_eq_true_iff -> Yh4, and_false -> Yia
open PySem.Builtin.SmallTypes renaming nextOf -> Yak, ownedTupleIsFree -> Ybk, ownedTupleHandOut -> Ydu
open Option.some renaming inj -> Yao, injEq -> Yas
open Ne renaming symm -> Ya4
open Int renaming toNat_of_nonneg -> Ya8, natCast_nonneg -> Ybo, le_antisymm -> Ycg, zero_add -> Ydd, self_le_toNat -> Ydn, toNat_natCast -> Yek, ofNat_le -> Yep, add_zero -> Yeq, lt_iff_le_and_ne -> Yex, not_lt -> Ye1, le_of_eq -> Yfe, ofNat_lt -> Yff, emod_lt_of_pos -> Yfs, not_le -> Yfx, lt_mul_ediv_self_add -> Yf8, eq_ofNat_of_zero_le -> Ygb, natCast_add -> Yg3, mul_zero -> Yg4, natCast_mul -> Yg5, le_of_lt -> Yi8, sub_zero -> Yi9, mul_add -> Yjf
open PySem.Builtin.Str renaming occurrences -> Ybp, strSliceIndices -> Ych, partsBetween -> Yf9, tooLong -> Yin, strKind -> Yiq
open Array renaming getD_eq_getD_getElem? -> Ybr, length_toList -> Yd0, toList -> Yer, getElem?_toList -> Yhl, mem_of_getElem? -> Yhn
open PySem.Str renaming length -> Ybu, ofString -> Ybv
open False renaming elim -> Ybx
open PyProof.Rows renaming slot_tuple_getitem -> Yb0, callWith_type1 -> Ydf, slot_tupleiter_next -> Yd1, signs_ofString -> Yfa, kindOf -> Yf4, seqObj -> Ygv, subscriptTail_builtinR -> Ygz, AllBare -> Yg7, entry_tupleiter_next -> Yh2, envOfC -> Yh8, entry_tuple_getitem -> Yic, args_tupleiter_next -> Yir, subscriptTail -> Yiz, listUpdate_at -> Yi0, size_push' -> Yi6, SortKind -> Yje, seqEpoch_at -> Yjk
open PySem.NumText renaming digitsVal -> Ycd
open PySem.F renaming slot_dict_get -> Ycm, args_tuple_add_2 -> Yd4, entry_tuple_add -> Yec, slot_tuple_add -> Yeg, entry_dict_get -> Yei, plainAttrs_str -> Yej, slot_zip_next -> Ye8, args_str_split_2 -> Yfr, slot_dict_getitem -> Yfw, entry_str_split -> Yga, args_dict_get_3 -> Yge, plainAttrs_dict -> Ygf, slot_str_split -> Ygw, type_dict_get -> Yhf, slot_enumerate_next -> Yhq
open PySem.Builtin.Slice renaming slicePlaces -> Ycs, sliceAdjust -> Ydt, sliceApplied -> Yfc
open PySem.Builtin.Tuple renaming tupleExact -> Yc1, tupleItemsOf -> Yfd
open PyProof.Rows.KTD renaming datumAt -> Yc8, TabOf -> Yhp
open PySem.Obj renaming mapSeq -> Ydl
open List.cons renaming inj -> Ydp
open Option renaming isSome_iff_exists -> Yd3, map_some -> Ye7, isSome_some -> Yfn, bind_some -> Ygt
open PySem.Builtin.List renaming listTooLong -> Yd5
open PySem.Calls renaming spliced_cons -> Yea, callWith_builtin -> Yeh, evalArgs_plain -> Yew, Name_function_global -> Yfb, spliced_nil -> Yf3
open Array.Perm renaming refl -> Yef
open PySem.SeqAt.EqAt renaming int_str -> Yfg, str_int -> Yfh, same -> Yhe, none_bool -> Yhw, bool_none -> Yhx, bool_bool -> Yhy, none_int -> Yie, none_str -> Yif, bool_int -> Yig, bool_str -> Yih, int_none -> Yii, int_bool -> Yij, str_none -> Yik, str_bool -> Yil
open OfNat renaming ofNat -> Ygg
open PySem.Builtin.Dict renaming updateFrom -> Ygl
open PySem.PassesOwn renaming never -> Yhi
open PySem.Around renaming under_plainId -> Yh0
open PySem.Heap.SameBut renaming update -> Yis
open PySem.Paired renaming length -> Yiv
open PySem.SeqAt renaming EqAt -> Yi2
open Nat.succ renaming inj -> Yjd
open PySem.Shared renaming heap -> Yjm
namespace L3
set_option compiler.extract_closed false
set_option genSizeOf false in
set_option genInjectivity false in
inductive AE where
 | v (i:Nat)
 | k (n:Nat)
 | a (x y:AE)
 | m (n:Nat) (x:AE)
noncomputable def ZqM:List Nat -> Nat -> Nat
 | [],_=>0
 | x :: _,0=>x
 | _ :: l,n + 1=>ZqM l n
noncomputable def AE.ev (c:List Nat):AE -> Nat
 | .v i=>ZqM c i
 | .k n=>n
 | .a x y=>x.ev c + y.ev c
 | .m n x=>n * x.ev c
noncomputable def aL:List Nat -> List Nat -> List Nat
 | [],r=>r
 | x :: l,[]=>x :: l
 | x :: l,y :: r=>(x + y) :: aL l r
noncomputable def sL (n:Nat):List Nat -> List Nat
 | []=>[]
 | x :: l=>(n * x) :: sL n l
noncomputable def uL:Nat -> List Nat
 | 0=>[1]
 | n + 1=>0 :: uL n
noncomputable def AE.li:AE -> List Nat
 | .v i=>0 :: uL i
 | .k n=>[n]
 | .a x y=>aL x.li y.li
 | .m n x=>sL n x.li
noncomputable def dt:List Nat -> List Nat -> Nat
 | x :: c,y :: l=>x * y + dt c l
 | [],_=>0
 | _,[]=>0
noncomputable def leL:List Nat -> List Nat -> Bool
 | [],_=>true
 | x :: l,[]=>Ye3 x 0 && leL l []
 | x :: l,y :: r=>Ye3 x y && leL l r
theorem Zdu:∀ c,dt c [] = 0
 | []=>rfl
 | _ :: _=>rfl
theorem Zfx:∀ c l r,dt c (aL l r) = dt c l + dt c r
 | c,[],r=>by rw [Zdu,Ya3]; rfl
 | c,x :: l,[]=>by rw [Zdu]; rfl
 | [],x :: l,y :: r=>rfl
 | z :: c,x :: l,y :: r=>by
  show z * (x + y) + dt c (aL l r) = _;rw [Zfx c l r,Nat.mul_add]; exact Nat.add_add_add_comm _ _ _ _
theorem Zlj (n:Nat):∀ c l,dt c (sL n l) = n * dt c l
 | c,[]=>by rw [Zdu]; exact Zdu c
 | [],x :: l=>rfl
 | z :: c,x :: l=>by
  show z * (n * x) + dt c (sL n l) = n * (z * x + dt c l);rw [Zlj n c l,Nat.mul_add,Nat.mul_left_comm]
theorem Zq4:∀ c i,dt c (uL i) = ZqM c i
 | [],0=>rfl
 | [],_ + 1=>rfl
 | x :: c,0=>by show x * 1 + dt c [] = x; rw [Zdu,Nat.mul_one]; rfl
 | x :: c,n + 1=>by show x * 0 + dt c (uL n) = ZqM c n; rw [Zq4 c n,Nat.mul_zero,Ya3]
theorem ZgI:∀ c l r,leL l r = true -> dt c l <= dt c r
 | c,[],r,_=>by rw [Zdu]; exact Yag _
 | [],x :: l,r,_=>Yag _
 | z :: c,x :: l,[],h=>by
  have h:=(Yu _ _).mp h;have e:x = 0:=Nat.le_zero.1 (Ycj h.1);have i:=ZgI c l [] h.2;rw [Zdu] at i;show z * x + dt c l <= 0;rw [e,Nat.le_zero.1 i]; exact Yi 0
 | z :: c,x :: l,y :: r,h=>
  have h:=(Yu _ _).mp h
  Nat.add_le_add (Yib z (Ycj h.1)) (ZgI c l r h.2)
theorem AE.li_ev (c:List Nat):∀ e:AE,dt (1 :: c) e.li = e.ev c
 | .v i=>(Ya3 _).trans (Zq4 c i)
 | .k n=>by show 1 * n + dt c [] = n; rw [Zdu,Nat.one_mul]; rfl
 | .a x y=>(Zfx _ _ _).trans (congr (congrArg _ (x.li_ev c)) (y.li_ev c))
 | .m n x=>(Zlj n _ _).trans (congrArg _ (x.li_ev c))
noncomputable def rdE:Nat -> Nat -> AE × Nat
 | 0,s=>(.k 0,s)
 | f + 1,s=>bif Ye3 (s % 16) 9 then (.v (s % 16),s / 16) else bif Ycr (s % 16) 10 then (.k 1,s / 16)
  else bif Ycr (s % 16) 11 then (.k (s / 256 % 16 ^ (s / 16 % 16)),s / 256 / 16 ^ (s / 16 % 16))
  else bif Ycr (s % 16) 12 then (.a (rdE f (s / 16)).1 (rdE f (rdE f (s / 16)).2).1,(rdE f (rdE f (s / 16)).2).2)
  else bif Ycr (s % 16) 13 then (.m (s / 16 % 256) (rdE f (s / 4096)).1,(rdE f (s / 4096)).2)
  else (.k 0,s / 16)
noncomputable def Zpq:Nat -> Nat -> Nat -> Prop
 | 0,x,y=>x <= y
 | 1,x,y=>x < y
 | 2,x,y=>x = y
 | 3,x,y=>x = y
 | 4,x,y=>¬ x <= y
 | 5,x,y=>¬ x < y
 | _,_,_=>False
noncomputable def loN:Nat -> AE -> AE -> List Nat
 | 0,x,_=>x.li
 | 1,x,_=>aL [1] x.li
 | 2,x,_=>x.li
 | 4,_,y=>aL [1] y.li
 | _,_,y=>y.li
noncomputable def hiN:Nat -> AE -> AE -> List Nat
 | 0,_,y=>y.li
 | 1,_,y=>y.li
 | 2,_,y=>y.li
 | _,x,_=>x.li
noncomputable def Zjl (c:List Nat):Nat -> Nat -> Prop
 | 0,s=>Zpq (s % 16) ((rdE 9 (s / 16)).1.ev c) ((rdE 9 (rdE 9 (s / 16)).2).1.ev c)
 | n + 1,s=>Zpq (s / 16 % 16) ((rdE 9 (s / 256)).1.ev c) ((rdE 9 (rdE 9 (s / 256)).2).1.ev c) -> Zjl c n (rdE 9 (rdE 9 (s / 256)).2).2
noncomputable def gN:Nat -> AE -> AE -> List Nat -> List Nat -> Bool
 | 0,x,y,L,R=>leL (aL R x.li) (aL L y.li)
 | 1,x,y,L,R=>leL (aL [1] (aL R x.li)) (aL L y.li)
 | _,_,_,L,R=>leL (aL [1] R) L
noncomputable def chN:Nat -> Nat -> List Nat -> List Nat -> Bool
 | 0,s,L,R=>gN (s % 16) (rdE 9 (s / 16)).1 (rdE 9 (rdE 9 (s / 16)).2).1 L R
 | n + 1,s,L,R=>chN n (rdE 9 (rdE 9 (s / 256)).2).2 (aL L (sL (s % 16) (loN (s / 16 % 16) (rdE 9 (s / 256)).1 (rdE 9 (rdE 9 (s / 256)).2).1))) (aL R (sL (s % 16) (hiN (s / 16 % 16) (rdE 9 (s / 256)).1 (rdE 9 (rdE 9 (s / 256)).2).1)))
theorem ZhN (c l:List Nat):dt (1 :: c) (aL [1] l) = dt (1 :: c) l + 1:=by
 rw [Zfx]; show 1 * 1 + dt c [] + _ = _; rw [Zdu]; exact Yi7 _ _
theorem Zo5 (c:List Nat) (x y:AE):∀ r,Zpq r (x.ev c) (y.ev c) -> dt (1 :: c) (loN r x y) <= dt (1 :: c) (hiN r x y)
 | 0,h=>by show dt _ x.li <= dt _ y.li; rw [x.li_ev,y.li_ev]; exact h
 | 1,h=>by show dt _ (aL [1] x.li) <= dt _ y.li; rw [ZhN,x.li_ev,y.li_ev]; exact h
 | 2,h=>by show dt _ x.li <= dt _ y.li; rw [x.li_ev,y.li_ev]; exact Yb4 h
 | 3,h=>by show dt _ y.li <= dt _ x.li; rw [x.li_ev,y.li_ev]; exact Yb4 h.symm
 | 4,h=>by show dt _ (aL [1] y.li) <= dt _ x.li; rw [ZhN,x.li_ev,y.li_ev]; exact Ydv h
 | 5,h=>by show dt _ y.li <= dt _ x.li; rw [x.li_ev,y.li_ev]; exact Y8 h
 | _ + 6,h=>h.elim
theorem ZtB (c:List Nat) (x y:AE) (L R:List Nat) (h:dt (1 :: c) L <= dt (1 :: c) R):∀ r,gN r x y L R = true -> Zpq r (x.ev c) (y.ev c)
 | 0,k=>by
  have e:=ZgI (1 :: c) _ _ k;rw [Zfx,Zfx,x.li_ev,y.li_ev] at e;exact Nat.le_of_add_le_add_left (Yj e (Yds h _))
 | 1,k=>by
  have e:=ZgI (1 :: c) _ _ k;rw [ZhN,Zfx,Zfx,x.li_ev,y.li_ev] at e;exact Nat.lt_of_add_lt_add_left (Yj e (Yds h _))
 | r + 2,k=>by
  have e:=ZgI (1 :: c) _ _ k;rw [ZhN] at e;exact absurd (Yj e h) (Nat.not_succ_le_self _)
theorem arN (c:List Nat):∀ (n s:Nat) (L R:List Nat),dt (1 :: c) L <= dt (1 :: c) R -> chN n s L R = true -> Zjl c n s
 | 0,s,L,R,h,k=>ZtB c _ _ L R h _ k
 | n + 1,s,L,R,h,k=>fun g=>arN c n _ _ _ (by
   rw [Zfx,Zfx,Zlj,Zlj]; exact Nat.add_le_add h (Yib _ (Zo5 c _ _ _ g))) k
end L3
theorem lN (c:List Nat) (n s:Nat) (h:L3.chN n s [] [] = true):L3.Zjl c n s:=L3.arN c n s [] [] (Yi _) h
theorem sbA (a b:Nat):a <= a - b + b:=Nat.le_add_of_sub_le (Yi _)
theorem T1:true = true:=rfl
theorem lA {a:Nat} (n s:Nat) (y:L3.chN n s [] [] = true):L3.Zjl [a] n s:=lN _ n s y
theorem lB {a b:Nat} (n s:Nat) (y:L3.chN n s [] [] = true):L3.Zjl [a,b] n s:=lN _ n s y
theorem lC {a b c:Nat} (n s:Nat) (y:L3.chN n s [] [] = true):L3.Zjl [a,b,c] n s:=lN _ n s y
theorem lD {a b c d:Nat} (n s:Nat) (y:L3.chN n s [] [] = true):L3.Zjl [a,b,c,d] n s:=lN _ n s y
theorem lE {a b c d e:Nat} (n s:Nat) (y:L3.chN n s [] [] = true):L3.Zjl [a,b,c,d,e] n s:=lN _ n s y
theorem lF {a b c d e f:Nat} (n s:Nat) (y:L3.chN n s [] [] = true):L3.Zjl [a,b,c,d,e,f] n s:=lN _ n s y
theorem clA (w:Int):max w 0 = (w.toNat:Int):=(Int.ofNat_toNat w).symm
theorem clB (v:Int) (n:Nat) (h:¬ v < 0):min v (n:Int) = ((min v.toNat n:Nat):Int):=by
 obtain ⟨k,rfl⟩:=Ygb (Ye1.1 h);rcases Nat.le_total k n with z | z
 ·rw [Int.min_eq_left (Yep.2 z)]; exact congrArg Int.ofNat (Yd7 z).symm
 ·rw [Int.min_eq_right (Yep.2 z)]; exact congrArg Int.ofNat (Ygp z).symm
theorem clC (v:Int) (n:Nat) (h:v < 0):max 0 (min (v + (n:Int)) (n:Int)) = ((v + (n:Int)).toNat:Int):=by
 rw [Int.min_eq_left (Yi8 (Int.lt_of_lt_of_le (Int.add_lt_add_right h _) (Yfe (Ydd _)))),Int.max_comm]; exact clA _
theorem clD (v:Int) (n:Nat) (h:¬ v < 0):max 0 (min v (n:Int)) = ((min v.toNat n:Nat):Int):=by
 rw [clB v n h]; exact Int.max_eq_right (Ybo _)
namespace L3
set_option genSizeOf false in
set_option genInjectivity false in
inductive AI where
 | v (i:Nat)
 | k (n:Nat)
 | c (e:AE)
 | a (x y:AI)
 | s (x y:AI)
 | g (x:AI)
 | m (n:Nat) (x:AI)
noncomputable def Zoa:List Int -> Nat -> Int
 | [],_=>0
 | x :: _,0=>x
 | _ :: l,n + 1=>Zoa l n
noncomputable def AI.ev (c:List Nat) (d:List Int):AI -> Int
 | .v i=>Zoa d i
 | .k n=>Int.ofNat n
 | .c e=>((e.ev c:Nat):Int)
 | .a x y=>x.ev c d + y.ev c d
 | .s x y=>x.ev c d - y.ev c d
 | .g x=>-x.ev c d
 | .m n x=>Int.ofNat n * x.ev c d
noncomputable def pL (u w:List Nat × List Nat):List Nat × List Nat:=(aL u.1 w.1,aL u.2 w.2)
noncomputable def AI.li:AI -> Bool -> List Nat × List Nat
 | .v i,b=>bif b then ([],uL i) else ([],[])
 | .k n,b=>bif b then ([n],[]) else ([],[])
 | .c e,b=>bif b then (e.li,[]) else ([],[])
 | .a x y,b=>pL (x.li b) (y.li b)
 | .s x y,b=>pL (x.li b) (y.li (!b))
 | .g x,b=>x.li (!b)
 | .m n x,b=>(sL n (x.li b).1,sL n (x.li b).2)
noncomputable def dtI:List Int -> List Nat -> Int
 | x :: c,y :: l=>x * (y:Int) + dtI c l
 | [],_=>0
 | _,[]=>0
noncomputable def dI (c:List Nat) (d:List Int) (u:List Nat × List Nat):Int:=((dt (1 :: c) u.1:Nat):Int) + dtI d u.2
theorem ZqZ (p q r s:Int):p + q + (r + s) = p + r + (q + s):=by omega
theorem Zct:∀ c,dtI c [] = 0
 | []=>rfl
 | _ :: _=>rfl
theorem Zoe:∀ c l r,dtI c (aL l r) = dtI c l + dtI c r
 | c,[],r=>by rw [Zct,Ydd]; rfl
 | c,x :: l,[]=>by rw [Zct,Yeq]; rfl
 | [],x :: l,y :: r=>rfl
 | z :: c,x :: l,y :: r=>by
  show z * ((x + y:Nat):Int) + dtI c (aL l r) = (z * x + dtI c l) + (z * y + dtI c r);rw [Zoe c l r,Yg3,Yjf]; exact ZqZ _ _ _ _
theorem Zpt (n:Nat):∀ c l,dtI c (sL n l) = Int.ofNat n * dtI c l
 | c,[]=>by rw [Zct,Yg4]; exact Zct c
 | [],x :: l=>(Yg4 _).symm
 | z :: c,x :: l=>by
  show z * ((n * x:Nat):Int) + dtI c (sL n l) = Int.ofNat n * (z * x + dtI c l);rw [Zpt n c l,Yjf,Yg5,Int.mul_left_comm]; rfl
theorem ZpA:∀ c i,dtI c (uL i) = Zoa c i
 | [],0=>rfl
 | [],_ + 1=>rfl
 | x :: c,0=>by show x * 1 + dtI c [] = x; rw [Zct,Int.mul_one,Yeq]
 | x :: c,n + 1=>by show x * 0 + dtI c (uL n) = Zoa c n; rw [ZpA c n,Yg4,Ydd]
section
variable (c:List Nat) (d:List Int)
theorem ZdB (u w:List Nat × List Nat):dI c d (pL u w) = dI c d u + dI c d w:=by
 show ((dt (1 :: c) (aL u.1 w.1):Nat):Int) + dtI d (aL u.2 w.2) = _;rw [Zfx,Zoe,Yg3]; exact ZqZ _ _ _ _
theorem Zmv (n:Nat) (u:List Nat × List Nat):dI c d (sL n u.1,sL n u.2) = Int.ofNat n * dI c d u:=by
 show ((dt (1 :: c) (sL n u.1):Nat):Int) + dtI d (sL n u.2) = _;rw [Zlj,Zpt,Yg5]; exact (Yjf _ _ _).symm
theorem Zr2:dI c d ([],[]) = 0:=by
 show ((dt (1 :: c) []:Nat):Int) + dtI d [] = 0;rw [Zdu,Zct]; rfl
theorem Zsr (p q r s:Int):p - q + (r - s) = p + r - (q + s):=by omega
theorem Zpa (p q r s:Int):p - q - (r - s) = p + s - (q + r):=by omega
theorem AI.li_ev:∀ e:AI,e.ev c d = dI c d (e.li true) - dI c d (e.li false)
 | .v i=>by show Zoa d i = dI c d ([],uL i) - dI c d ([],[]); rw [Zr2,Yi9]; show _ = ((dt (1 :: c) []:Nat):Int) + dtI d (uL i); rw [Zdu,ZpA]; exact (Ydd _).symm
 | .k n=>by show Int.ofNat n = dI c d ([n],[]) - dI c d ([],[]); rw [Zr2,Yi9]; show _ = ((dt (1 :: c) [n]:Nat):Int) + dtI d []; rw [Zct,Yeq]; show _ = ((1 * n + dt c []:Nat):Int); rw [Zdu,Nat.one_mul]; rfl
 | .c e=>by show ((e.ev c:Nat):Int) = dI c d (e.li,[]) - dI c d ([],[]); rw [Zr2,Yi9]; show _ = ((dt (1 :: c) e.li:Nat):Int) + dtI d []; rw [Zct,Yeq,e.li_ev]
 | .a x y=>by show x.ev c d + y.ev c d = dI c d (pL (x.li true) (y.li true)) - dI c d (pL (x.li false) (y.li false)); rw [ZdB,ZdB,x.li_ev,y.li_ev]; exact Zsr _ _ _ _
 | .s x y=>by show x.ev c d - y.ev c d = dI c d (pL (x.li true) (y.li false)) - dI c d (pL (x.li false) (y.li true)); rw [ZdB,ZdB,x.li_ev,y.li_ev]; exact Zpa _ _ _ _
 | .g x=>by show -x.ev c d = dI c d (x.li false) - dI c d (x.li true); rw [x.li_ev]; exact Int.neg_sub _ _
 | .m n x=>by show Int.ofNat n * x.ev c d = dI c d (sL n (x.li true).1,sL n (x.li true).2) - dI c d (sL n (x.li false).1,sL n (x.li false).2); rw [Zmv,Zmv,x.li_ev]; exact Int.mul_sub _ _ _
noncomputable def cI (x y:AI):List Nat × List Nat:=pL (x.li true) (y.li false)
noncomputable def ZlX (u:List Nat × List Nat):List Nat × List Nat:=(aL [1] u.1,u.2)
theorem ZjP (u:List Nat × List Nat):dI c d (ZlX u) = dI c d u + 1:=by
 show ((dt (1 :: c) (aL [1] u.1):Nat):Int) + dtI d u.2 = ((dt (1 :: c) u.1:Nat):Int) + dtI d u.2 + 1;rw [ZhN,Yg3,Int.add_right_comm]; rfl
theorem ZjU (x y:AI):dI c d (cI x y) - dI c d (cI y x) = x.ev c d - y.ev c d:=by
 unfold cI;rw [ZdB,ZdB,x.li_ev,y.li_ev,Zpa,Int.add_comm (dI c d (y.li true))]
theorem Zmq {x y:AI} (h:x.ev c d <= y.ev c d):dI c d (cI x y) <= dI c d (cI y x):=by
 have:=ZjU c d x y; omega
theorem ZtJ {x y:AI} (h:dI c d (cI x y) <= dI c d (cI y x)):x.ev c d <= y.ev c d:=by
 have:=ZjU c d x y; omega
noncomputable def Zt1:Nat -> Int -> Int -> Prop
 | 0,x,y=>x <= y
 | 1,x,y=>x < y
 | 2,x,y=>x = y
 | 3,x,y=>x = y
 | 4,x,y=>¬ x <= y
 | 5,x,y=>¬ x < y
 | _,_,_=>False
noncomputable def loI:Nat -> AI -> AI -> List Nat × List Nat
 | 0,x,y=>cI x y
 | 1,x,y=>ZlX (cI x y)
 | 2,x,y=>cI x y
 | 4,x,y=>ZlX (cI y x)
 | _,x,y=>cI y x
noncomputable def hiI:Nat -> AI -> AI -> List Nat × List Nat
 | 0,x,y=>cI y x
 | 1,x,y=>cI y x
 | 2,x,y=>cI y x
 | _,x,y=>cI x y
theorem ZqT {x y:AI} (h:x.ev c d < y.ev c d):dI c d (ZlX (cI x y)) <= dI c d (cI y x):=by
 have:=ZjU c d x y; rw [ZjP]; omega
theorem Zrm (x y:AI):∀ r,Zt1 r (x.ev c d) (y.ev c d) -> dI c d (loI r x y) <= dI c d (hiI r x y)
 | 0,h=>Zmq c d h
 | 1,h=>ZqT c d h
 | 2,h=>Zmq c d (Yfe h)
 | 3,h=>Zmq c d (Yfe h.symm)
 | 4,h=>ZqT c d (Yfx.1 h)
 | 5,h=>Zmq c d (Ye1.1 h)
 | _ + 6,h=>h.elim
end
noncomputable def rdI:Nat -> Nat -> AI × Nat
 | 0,s=>(.k 0,s)
 | f + 1,s=>bif Ye3 (s % 16) 7 then (.v (s % 16),s / 16) else bif Ycr (s % 16) 8 then (.c (rdE 9 (s / 16)).1,(rdE 9 (s / 16)).2)
  else bif Ycr (s % 16) 9 then (.g (rdI f (s / 16)).1,(rdI f (s / 16)).2) else bif Ycr (s % 16) 10 then (.k 1,s / 16)
  else bif Ycr (s % 16) 11 then (.k (s / 256 % 16 ^ (s / 16 % 16)),s / 256 / 16 ^ (s / 16 % 16))
  else bif Ycr (s % 16) 12 then (.a (rdI f (s / 16)).1 (rdI f (rdI f (s / 16)).2).1,(rdI f (rdI f (s / 16)).2).2)
  else bif Ycr (s % 16) 13 then (.m (s / 16 % 256) (rdI f (s / 4096)).1,(rdI f (s / 4096)).2)
  else bif Ycr (s % 16) 14 then (.k 0,s / 16) else (.s (rdI f (s / 16)).1 (rdI f (rdI f (s / 16)).2).1,(rdI f (rdI f (s / 16)).2).2)
def hP (c:List Nat) (d:List Int) (r s:Nat):Prop:=bif Ye3 8 r then Zt1 (r - 8) ((rdI 9 s).1.ev c d) ((rdI 9 (rdI 9 s).2).1.ev c d) else Zpq r ((rdE 9 s).1.ev c) ((rdE 9 (rdE 9 s).2).1.ev c)
noncomputable def hR (r s:Nat):Nat:=bif Ye3 8 r then (rdI 9 (rdI 9 s).2).2 else (rdE 9 (rdE 9 s).2).2
noncomputable def hL (r s:Nat):List Nat × List Nat:=bif Ye3 8 r then loI (r - 8) (rdI 9 s).1 (rdI 9 (rdI 9 s).2).1 else (loN r (rdE 9 s).1 (rdE 9 (rdE 9 s).2).1,[])
noncomputable def hH (r s:Nat):List Nat × List Nat:=bif Ye3 8 r then hiI (r - 8) (rdI 9 s).1 (rdI 9 (rdI 9 s).2).1 else (hiN r (rdE 9 s).1 (rdE 9 (rdE 9 s).2).1,[])
theorem Ztq (c:List Nat) (d:List Int) (r s:Nat) (h:hP c d r s):dI c d (hL r s) <= dI c d (hH r s):=by
 unfold hP at h;unfold hL hH;cases e:Ye3 8 r <;> rw [e] at h
 ·exact Int.add_le_add_right (Yep.2 (Zo5 c _ _ _ h)) _
 ·exact Zrm c d _ _ _ h
noncomputable def zL:List Nat -> Bool
 | []=>true
 | x :: l=>Ycr x 0 && zL l
noncomputable def eqL:List Nat -> List Nat -> Bool
 | [],r=>zL r
 | x :: l,[]=>Ycr x 0 && zL l
 | x :: l,y :: r=>Ycr x y && eqL l r
theorem Zpk:∀ c l,zL l = true -> dtI c l = 0
 | c,[],_=>Zct c
 | [],x :: l,_=>rfl
 | z :: c,x :: l,h=>by
  have h:=(Yu _ _).mp h;show z * (x:Int) + dtI c l = 0;rw [Yb5 h.1,Zpk c l h.2,Yeq]; exact Yg4 z
theorem ZoZ:∀ c l r,eqL l r = true -> dtI c l = dtI c r
 | c,[],r,h=>(Zct c).trans (Zpk c r h).symm
 | c,x :: l,[],h=>(Zpk c (x :: l) h).trans (Zct c).symm
 | [],x :: l,y :: r,_=>rfl
 | z :: c,x :: l,y :: r,h=>by
  have h:=(Yu _ _).mp h;show z * (x:Int) + dtI c l = z * (y:Int) + dtI c r;rw [Yb5 h.1,ZoZ c l r h.2]
noncomputable def leP (u w:List Nat × List Nat):Bool:=leL u.1 w.1 && eqL u.2 w.2
theorem Zh5 (c:List Nat) (d:List Int) {u w:List Nat × List Nat} (h:leP u w = true):dI c d u <= dI c d w:=by
 have h:=(Yu _ _).mp h;exact Int.add_le_add (Yep.2 (ZgI _ _ _ h.1)) (Yfe (ZoZ d _ _ h.2))
noncomputable def ZrN (c:List Nat) (d:List Int):Nat -> Nat -> Prop
 | 0,s=>hP c d (s % 16) (s / 16)
 | n + 1,s=>hP c d (s / 16 % 16) (s / 256) -> ZrN c d n (hR (s / 16 % 16) (s / 256))
noncomputable def gI (r s:Nat) (L R:List Nat × List Nat):Bool:=bif Ycr r 0 then leP (pL R ((rdE 9 s).1.li,[])) (pL L ((rdE 9 (rdE 9 s).2).1.li,[]))
 else bif Ycr r 1 then leP (ZlX (pL R ((rdE 9 s).1.li,[]))) (pL L ((rdE 9 (rdE 9 s).2).1.li,[]))
 else bif Ycr r 8 then leP (pL R (cI (rdI 9 s).1 (rdI 9 (rdI 9 s).2).1)) (pL L (cI (rdI 9 (rdI 9 s).2).1 (rdI 9 s).1))
 else bif Ycr r 9 then leP (ZlX (pL R (cI (rdI 9 s).1 (rdI 9 (rdI 9 s).2).1))) (pL L (cI (rdI 9 (rdI 9 s).2).1 (rdI 9 s).1))
 else leP (ZlX R) L
noncomputable def chI:Nat -> Nat -> List Nat × List Nat -> List Nat × List Nat -> Bool
 | 0,s,L,R=>gI (s % 16) (s / 16) L R
 | n + 1,s,L,R=>chI n (hR (s / 16 % 16) (s / 256)) (pL L (sL (s % 16) (hL (s / 16 % 16) (s / 256)).1,sL (s % 16) (hL (s / 16 % 16) (s / 256)).2)) (pL R (sL (s % 16) (hH (s / 16 % 16) (s / 256)).1,sL (s % 16) (hH (s / 16 % 16) (s / 256)).2))
theorem Zmj (c:List Nat) (d:List Int) (e:AE):dI c d (e.li,[]) = ((e.ev c:Nat):Int):=by
 show ((dt (1 :: c) e.li:Nat):Int) + dtI d [] = _;rw [Zct,Yeq,e.li_ev]
theorem ZnT {a b l r:Int} (h:l <= r) (e:r + a <= l + b):a <= b:=by omega
theorem Zpg {a b l r:Int} (h:l <= r) (e:r + a + 1 <= l + b):a < b:=by omega
theorem Zr5 {l r:Int} (h:l <= r) (e:r + 1 <= l):False:=by omega
theorem ZtY (c:List Nat) (d:List Int) (r s:Nat) (L R:List Nat × List Nat) (h:dI c d L <= dI c d R) (k:gI r s L R = true):hP c d r s:=by
 unfold gI at k;cases e0:Ycr r 0 with
 | true=>
  rw [Yb5 e0] at k ⊢;have e:=Zh5 c d k;rw [ZdB,ZdB,Zmj,Zmj] at e;exact Yep.1 (ZnT h e)
 | false=>
  cases e1:Ycr r 1 with
  | true=>
   rw [Yb5 e1] at k ⊢;have e:=Zh5 c d k;rw [ZjP,ZdB,ZdB,Zmj,Zmj] at e;exact Yff.1 (Zpg h e)
  | false=>
   cases e8:Ycr r 8 with
   | true=>
    rw [Yb5 e8] at k ⊢;have e:=Zh5 c d k;rw [ZdB,ZdB] at e;exact ZtJ c d (ZnT h e)
   | false=>
    cases e9:Ycr r 9 with
    | true=>
     rw [Yb5 e9] at k ⊢;have e:=Zh5 c d k;rw [ZjP,ZdB,ZdB] at e;have z:=Zpg h e;have y:=ZjU c d (rdI 9 s).1 (rdI 9 (rdI 9 s).2).1;show (rdI 9 s).1.ev c d < (rdI 9 (rdI 9 s).2).1.ev c d;exact Int.lt_of_sub_neg (y ▸ Int.sub_neg_of_lt z)
    | false=>
     rw [e0,e1,e8,e9] at k;have e:=Zh5 c d k;rw [ZjP] at e;exact (Zr5 h e).elim
theorem arI (c:List Nat) (d:List Int):∀ (n s:Nat) (L R:List Nat × List Nat),dI c d L <= dI c d R -> chI n s L R = true -> ZrN c d n s
 | 0,s,L,R,h,k=>ZtY c d _ _ L R h k
 | n + 1,s,L,R,h,k=>fun g=>arI c d n _ _ _ (by
   rw [ZdB,ZdB,Zmv,Zmv]; exact Int.add_le_add h (Int.mul_le_mul_of_nonneg_left (Ztq c d _ _ g) (Ybo _))) k
end L3
theorem iN (c:List Nat) (d:List Int) (n s:Nat) (h:L3.chI n s ([],[]) ([],[]) = true):L3.ZrN c d n s:=L3.arI c d n s ([],[]) ([],[]) (Int.le_refl _) h
set_option Elab.async false
set_option linter.all false
set_option maxRecDepth 100000
namespace L2
open PySem PySem.Spec PyProof.Rows
noncomputable abbrev Key:=Sum Int Str
noncomputable def ZhX:Key -> Value -> Bool
 | .inl k,v=>Value.isInt k v
 | .inr x,v=>Value.isStrOf x v
noncomputable def Zva (w:World):Key -> Int
 | .inl k=>hashInt k
 | .inr x=>hashStr w x
theorem Zbf:∀ {k:Key} {v:Value},ZhX k v = true -> (∃ i t,k = Sum.inl i /\ v = Value.int i t) \/ (∃ x t,k = Sum.inr x /\ v = Value.str x t)
 | .inl i,v,h=>by
  obtain ⟨t,e⟩:=Value.isInt_shape (k:=i) (v:=v) h;exact .inl ⟨i,t,rfl,e⟩
 | .inr x,v,h=>by
  obtain ⟨t,e⟩:=Value.isStrOf_shape (x:=x) (v:=v) h;exact .inr ⟨x,t,rfl,e⟩
theorem ZnL (i:Int) (t:Tok):ZhX (.inl i) (.int i t) = true:=by simp [ZhX,Value.isInt]
theorem ZnD (x:Str) (t:Tok):ZhX (.inr x) (.str x t) = true:=by simp [ZhX,Value.isStrOf]
theorem ZsW (a b:Int):decide ((Sum.inl a:Key) = Sum.inl b) = (a == b):=by
 by_cases e:a = b
 ·subst e; simp
 ·have h:¬ (Sum.inl a:Key) = Sum.inl b:=fun q=>e (Sum.inl.inj q)
  rw [decide_eq_false h];exact (beq_eq_false_iff_ne.mpr e).symm
theorem ZrZ (a b:Str):decide ((Sum.inr a:Key) = Sum.inr b) = decide (a = b):=by
 by_cases e:a = b
 ·subst e; simp
 ·have h:¬ (Sum.inr a:Key) = Sum.inr b:=fun q=>e (Sum.inr.inj q)
  rw [decide_eq_false h,decide_eq_false e]
theorem ZrX (a:Int) (b:Str):decide ((Sum.inl a:Key) = Sum.inr b) = false:=decide_eq_false (fun q=>nomatch q)
theorem ZrP (a:Str) (b:Int):decide ((Sum.inr a:Key) = Sum.inl b) = false:=decide_eq_false (fun q=>nomatch q)
noncomputable def ZaK (prog:Yaf) (w:World):PySem.KeyKind prog w Key where
 is:=ZhX
 hash:=Zva w
 inj:=fun v a b ha hb=>by
  rcases Zbf ha with ⟨i,t,rfl,rfl⟩ | ⟨x,t,rfl,rfl⟩
  ·rcases Zbf hb with ⟨j,u,rfl,e⟩ | ⟨y,u,rfl,e⟩
   ·injection e with e1 _; rw [e1]
   ·exact nomatch e
  ·rcases Zbf hb with ⟨j,u,rfl,e⟩ | ⟨y,u,rfl,e⟩
   ·exact nomatch e
   ·injection e with e1 _; rw [e1]
 byValue:=fun k v h=>by
  rcases Zbf h with ⟨i,t,rfl,rfl⟩ | ⟨x,t,rfl,rfl⟩ <;> rfl
 pyHash:=fun hv h=>by
  rcases Zbf hv with ⟨i,t,rfl,rfl⟩ | ⟨x,t,rfl,rfl⟩
  ·exact wpAny_pyHash_int h
  ·exact wpAny_pyHash_str h
 eqBool:=fun hu hv h=>by
  rcases Zbf hu with ⟨i,t,rfl,rfl⟩ | ⟨x,t,rfl,rfl⟩
  ·rcases Zbf hv with ⟨j,u,rfl,rfl⟩ | ⟨y,u,rfl,rfl⟩
   ·rw [ZsW] at h; exact wpAny_eqBool_int h
   ·rw [ZrX] at h; exact Yfg i t y u _ _ _ _ h
  ·rcases Zbf hv with ⟨j,u,rfl,rfl⟩ | ⟨y,u,rfl,rfl⟩
   ·rw [ZrP] at h; exact Yfh x t j u _ _ _ _ h
   ·rw [ZrZ] at h; exact wpAny_eqBool_str h
 «strs»:=fun k x t v h=>by
  rcases Zbf h with ⟨i,u,rfl,e⟩ | ⟨y,u,rfl,e⟩
  ·exact nomatch e
  ·injection e with e1 _
   subst e1;cases v <;> rfl
theorem ZlP (prog:Yaf) (w:World) (k:Key) (v:Value):(ZaK prog w).is k v = ZhX k v:=rfl
theorem ZkQ (prog:Yaf) (w:World) (i:Int) (t:Tok):(ZaK prog w).is (.inl i) (.int i t) = true:=ZnL i t
theorem ZkD (prog:Yaf) (w:World) (x:Str) (t:Tok):(ZaK prog w).is (.inr x) (.str x t) = true:=ZnD x t
end L2
namespace L2
open PySem PySem.Spec PyProof.Rows
inductive V where
 | non | bl (b:Bool) | int (i:Int) | str (x:Str) | byt (b:Array UInt8) | flt (b:UInt64) | ref (a:Addr) | ty (n:String)
 deriving DecidableEq
noncomputable def RelV:V -> Value -> Prop
 | .non,u=>u = Value.none
 | .bl b,u=>u = Value.bool b
 | .int i,u=>∃ t,u = Value.int i t
 | .str x,u=>∃ t,u = Value.str x t
 | .byt b,u=>∃ t,u = Value.bytes b t
 | .flt b,u=>∃ t,u = Value.float b t
 | .ref a,u=>u = Value.ref a
 | .ty n,u=>u = Value.type n
noncomputable abbrev Vals:List V -> List Value -> Prop:=Paired RelV
theorem Vals.length {xs:List V} {us:List Value} (r:Vals xs us):xs.length = us.length:=Yiv r
theorem Vals.get:∀ {xs:List V} {us:List Value} {i:Nat} {x:V},Vals xs us -> xs[i]? = some x -> ∃ u,us[i]? = some u /\ RelV x u
 | _,_,_,_,.nil,e=>by simp at e
 | _,_,0,_,.cons r _,e=>by simp at e; subst e; exact ⟨_,rfl,r⟩
 | _,_,i + 1,x,.cons _ t,e=>by
  obtain ⟨u,h1,h2⟩:=Vals.get (i:=i) (x:=x) t (by simpa using e);exact ⟨u,by simpa using h1,h2⟩
theorem Vals.set {x:V} {u:Value} (r:RelV x u):∀ {xs:List V} {us:List Value} (i:Nat),Vals xs us -> Vals (xs.set i x) (us.set i u)
 | _,_,_,.nil=>.nil
 | _,_,0,.cons _ t=>.cons r t
 | _,_,i + 1,.cons q t=>.cons q (Vals.set r i t)
theorem Vals.append:∀ {xs ys:List V} {us ws:List Value},Vals xs us -> Vals ys ws -> Vals (xs ++ ys) (us ++ ws)
 | _,_,_,_,.nil,s=>s
 | _,_,_,_,.cons r t,s=>.cons r (Vals.append t s)
theorem Vals.take:∀ {xs:List V} {us:List Value} (n:Nat),Vals xs us -> Vals (xs.take n) (us.take n)
 | _,_,0,_=>.nil
 | _,_,_ + 1,.nil=>.nil
 | _,_,n + 1,.cons r t=>.cons r (Vals.take n t)
theorem Vals.drop:∀ {xs:List V} {us:List Value} (n:Nat),Vals xs us -> Vals (xs.drop n) (us.drop n)
 | _,_,0,r=>r
 | _,_,_ + 1,.nil=>.nil
 | _,_,n + 1,.cons _ t=>Vals.drop n t
noncomputable def ZgB:Option V -> Option Value -> Prop
 | some v,some u=>RelV v u
 | none,none=>True
 | _,_=>False
noncomputable def KV {κ:Type}:List (κ × V) -> List (κ × Value) -> Prop:=Paired fun (p:κ × V) (q:κ × Value)=>p.1 = q.1 /\ RelV p.2 q.2
noncomputable def kV:Key -> V
 | .inl i=>.int i
 | .inr x=>.str x
inductive HO where
 /-- a list -/
 | lst (xs:List V)
 /-- a tuple (never changes) -/
 | tup (xs:List V)
 /-- a dict whose keys are ints and texts; one whose keys are tuples of ints and texts (the empty one is both) -/
 | dK (kvs:List (Key × V)) | dT (kvs:List (List Key × V))
 /-- a set of ints: its members,its size -/
 | set (S:Int -> Bool) (n:Nat)
 /-- an instance of the class at C,its dict at dx,its attributes -/
 | ins (C dx:Addr) (fs:List (Str × V))
 /-- the dict of the instance at x -/
 | own (x:Addr)
 /-- the dict of an exception -/
 | xd (fs:List (Str × V))
 /-- a bound method,f of x -/
 | met (f x:Addr)
 /-- a range object lo,lo + 1,.. below hi -/
 | rng (lo hi:Int)
 /-- a thing that is known to the object (the script; a dict while a loop walks it): read,never written while it is so -/
 | frz (o:Obj) (u:HO)
 /-- a code object's table -/
 | tbl (ps:Array Value)
 /-- any other thing,by what is true of its one object (a def of one's own: SetO a S n:=HO.ext fun h=>..) -/
 | ext (φ:Heap -> Prop)
noncomputable abbrev Hp:=Addr -> Option HO
noncomputable def upd (H:Hp) (a:Addr) (o:HO):Hp:=fun b=>if b = a then some o else H b
theorem Zbl {H:Hp} {a:Addr} {o:HO}:upd H a o a = some o:=by unfold upd; rw [if_pos rfl]
theorem Zaj {H:Hp} {a b:Addr} {o:HO} (h:b ≠ a):upd H a o b = H b:=by unfold upd; rw [if_neg h]
theorem Zi9 {H:Hp} {a b:Addr} {o u:HO} (h:H a = some o) (h':H b = some u) (d:o ≠ u):a ≠ b:=by
 intro e; subst e; rw [h] at h'; exact d (Yao h')
theorem ZdW {H:Hp} {a b:Addr} {o:HO} (h:H a = some o) (h':H b = none):a ≠ b:=by
 intro e; subst e; rw [h] at h'; cases h'
section
variable (P:Yaf) (w:World)
def Zdt (h:Heap) (a:Addr) (items:Array Value):Prop:=∃ o,h.get? a = some o /\ (o.cls = .type "tuple" /\ o.dict = none) /\ ∃ n,o.data = .seq items n
theorem Zdt.tup {h:Heap} {a:Addr} {items:Array Value} (x:Zdt h a items):IsTup h a items:=let ⟨o,e,c,d⟩:=x; ⟨o,e,c.1,d⟩
theorem Zdt.new (h:Heap) (items:Array Value):Zdt (h.push { cls:=.type "tuple",data:=.seq items }) h.objs.size items:=⟨_,Yr _ rfl,⟨rfl,rfl⟩,0,rfl⟩
noncomputable def ZaX (H:Hp) (h:Heap) (a:Addr):HO -> Prop
 | .lst xs=>xs.length <= Yac /\ ∃ (its:List Value) (n:Nat),Vals xs its /\ h.get? a = some { cls:=.type "list",data:=.seq its.toArray n }
 | .tup xs=>xs.length <= Yac /\ ∃ its:List Value,Vals xs its /\ Zdt h a its.toArray
 | .dK kvs=>kvs.length <= Yac /\ (a == Ydi) = false /\ ∃ vs,KV kvs vs /\ h.DictOf (ZaK P w) a vs
 | .dT kvs=>kvs.length <= Yac /\ (a == Ydi) = false /\ ∃ xs:List (List Key × Addr × Value),
   Paired (fun (p:List Key × V) (q:List Key × Addr × Value)=>p.1 = q.1 /\ H q.2.1 = some (.tup (p.1.map kV)) /\ RelV p.2 q.2.2) kvs xs /\
   ∃ o es ep,h.get? a = some o /\ o.ExactDict /\ o.data = .dict es ep /\ es.toList = xs.map (entryOfKey (Yg6 (ZaK P w))) /\ (xs.map (·.1)).Nodup
 | .set S n=>h.SetOf (intKind P w) a S n
 | .ins C dx fs=>H dx = some (.own a) /\ fs.length <= 1000 /\ dx ≠ a /\ h.get? a = some (Ycu C dx) /\
   ∃ mA,h.Ns1 dx mA /\ (∀ f,ZgB (fs.lookup f) (mA f)) /\ PySem.Within mA (fs.map (·.1))
 | .own _=>∃ o,h.get? a = some o
 | .xd fs=>∃ mA,h.Ns1 a mA /\ ∀ f,ZgB (fs.lookup f) (mA f)
 | .rng lo hi=>∃ t u v,h.get? a = some { cls:=.type "range",data:=.fields #[.int lo t,.int hi u,.int 1 v] }
 | .frz o u=>h.get? a = some o /\ ZaX H h a u
 | .tbl ps=>h.get? a = some { cls:=.none,data:=.fields ps }
 | .met f x=>h.get? a = some (Yfy (.ref f) (.ref x))
 | .ext φ=>φ h /\ (∃ o,h.get? a = some o) /\ ∀ h1 h2:Heap,φ h1 -> (∀ o,h1.get? a = some o -> h2.get? a = some o) -> φ h2
def HOk (H:Hp) (h:Heap):Prop:=∀ a o,H a = some o -> ZaX P w H h a o
end
section
variable {P:Yaf} {w:World} {H H':Hp} {h h':Heap} {a:Addr} {o:HO}
theorem ZaX.lt (x:ZaX P w H h a o):a < h.objs.size:=by
 cases o with
 | lst xs=>obtain ⟨_,_,_,_,e⟩:=x; exact Yo e
 | tup xs=>obtain ⟨_,_,_,p⟩:=x; exact p.tup.lt
 | dK kvs=>obtain ⟨_,_,_,_,o,_,_,e,_⟩:=x; exact Yo e
 | dT kvs=>obtain ⟨_,_,_,_,o,_,_,e,_⟩:=x; exact Yo e
 | set S n=>obtain ⟨o,_,_,_,e,_⟩:=x; exact Yo e
 | ins C dx fs=>obtain ⟨_,_,_,e,_⟩:=x; exact Yo e
 | own y=>obtain ⟨_,e⟩:=x; exact Yo e
 | xd fs=>obtain ⟨_,⟨_,_,_,e,_⟩,_⟩:=x; exact Yo e
 | rng lo hi=>obtain ⟨_,_,_,e⟩:=x; exact Yo e
 | frz ob u=>obtain ⟨e,_⟩:=x; exact Yo e
 | tbl ps=>exact Yo (show h.get? a = some _ from x)
 | met f y=>exact Yo (show h.get? a = some _ from x)
 | ext φ=>obtain ⟨_,⟨_,e⟩,_⟩:=x; exact Yo e
theorem Paired.mapP {α β:Type} {F G:α -> β -> Prop}:∀ {l₁:List α} {l₂:List β},Paired F l₁ l₂ -> (∀ a b,F a b -> G a b) -> Paired G l₁ l₂
 | _,_,.nil,_=>.nil
 | _,_,.cons r t,f=>.cons (f _ _ r) (Paired.mapP t f)
theorem ZaX.stay (x:ZaX P w H h a o) (k:∀ b u,(b = a \/ H b = some (.own a)) -> h.get? b = some u -> h'.get? b = some u)
  (ho:∀ b,H b = some (.own a) -> H' b = some (.own a)) (ht:∀ b xs,H b = some (.tup xs) -> H' b = some (.tup xs)):ZaX P w H' h' a o:=by
 induction o with
 | lst xs=>obtain ⟨z,its,n,r,e⟩:=x; exact ⟨z,its,n,r,k _ _ (.inl rfl) e⟩
 | tup xs=>obtain ⟨z,its,r,ob,e,c⟩:=x; exact ⟨z,its,r,ob,k _ _ (.inl rfl) e,c⟩
 | dK kvs=>obtain ⟨z,y,vs,r,ob,es,ep,e,c⟩:=x; exact ⟨z,y,vs,r,ob,es,ep,k _ _ (.inl rfl) e,c⟩
 | dT kvs=>
  obtain ⟨z,y,xs,r,ob,es,ep,e,c⟩:=x;exact ⟨z,y,xs,Paired.mapP r fun p q z=>⟨z.1,ht _ _ z.2.1,z.2.2⟩,ob,es,ep,k _ _ (.inl rfl) e,c⟩
 | set S n=>obtain ⟨ob,es,ep,t,e,c⟩:=x; exact ⟨ob,es,ep,t,k _ _ (.inl rfl) e,c⟩
 | ins C dx fs=>
  obtain ⟨d,z,ne,e,mA,⟨od,es,ep,e2,c⟩,r⟩:=x;exact ⟨ho _ d,z,ne,k _ _ (.inl rfl) e,mA,⟨od,es,ep,k _ _ (.inr d) e2,c⟩,r⟩
 | own y=>obtain ⟨ob,e⟩:=x; exact ⟨ob,k _ _ (.inl rfl) e⟩
 | xd fs=>obtain ⟨mA,⟨od,es,ep,e,c⟩,r⟩:=x; exact ⟨mA,⟨od,es,ep,k _ _ (.inl rfl) e,c⟩,r⟩
 | rng lo hi=>obtain ⟨t,u,v,e⟩:=x; exact ⟨t,u,v,k _ _ (.inl rfl) e⟩
 | frz ob u ih=>obtain ⟨e,q⟩:=x; exact ⟨k _ _ (.inl rfl) e,ih q⟩
 | tbl ps=>
  have e:h.get? a = some { cls:=.none,data:=.fields ps }:=x;show h'.get? a = some { cls:=.none,data:=.fields ps };exact k a _ (.inl rfl) e
 | met f y=>
  have e:h.get? a = some (Yfy (.ref f) (.ref y)):=x;show h'.get? a = some (Yfy (.ref f) (.ref y));exact k a _ (.inl rfl) e
 | ext φ=>obtain ⟨p,⟨o,e⟩,st⟩:=x; exact ⟨st _ _ p fun o q=>k _ _ (.inl rfl) q,⟨o,k _ _ (.inl rfl) e⟩,st⟩
theorem HOk.lt (x:HOk P w H h) (e:H a = some o):a < h.objs.size:=(x a o e).lt
theorem HOk.fresh (x:HOk P w H h) (e:h.objs.size <= a):H a = none:=by
 cases q:H a with
 | none=>rfl
 | some u=>exact absurd (Y0 (x.lt q) e) (Yck _)
theorem HOk.kept (x:HOk P w H h) (k:∀ b u,h.get? b = some u -> h'.get? b = some u):HOk P w H h':=fun a o e=>
 (x a o e).stay (fun b u _ q=>k b u q) (fun _ q=>q) fun _ _ q=>q
theorem HOk.laid (x:HOk P w H h) (k:∀ b u,h.get? b = some u -> h'.get? b = some u) (hp:h.objs.size <= a) (new:ZaX P w (upd H a o) h' a o):HOk P w (upd H a o) h':=fun b u e=>by
 have hn:=x.fresh hp;by_cases hb:b = a
 ·subst hb; rw [Zbl] at e; cases e; exact new
 ·rw [Zaj hb] at e
  exact (x b u e).stay (fun c v _ q=>k c v q) (fun c q=>by rw [Zaj (ZdW q hn)]; exact q) fun c xs q=>by rw [Zaj (ZdW q hn)]; exact q
end
def Rd (H:Hp) (a:Addr) (u:HO):Prop:=H a = some u \/ ∃ o,H a = some (.frz o u)
theorem Rd.ok {P:Yaf} {w:World} {H:Hp} {h:Heap} {a:Addr} {u:HO} (r:Rd H a u) (x:HOk P w H h):ZaX P w H h a u:=by
 rcases r with r | ⟨o,r⟩
 ·exact x a u r
 ·obtain ⟨_,q⟩:=x a _ r
  exact q
noncomputable def Mut:Option HO -> Prop
 | some (.lst _)=>True
 | some (.dK _)=>True
 | some (.dT _)=>True
 | some (.set _ _)=>True
 | some (.ins _ _ _)=>True
 | some (.ext _)=>True
 | _=>False
section
variable {P:Yaf} {w:World} {H:Hp} {h h':Heap} {x e:Addr} {o':HO}
theorem HOk.write (ok:HOk P w H h) (mu:Mut (H x)) (he:e = x \/ H e = some (.own x)) (k:∀ b u,b ≠ e -> h.get? b = some u -> h'.get? b = some u) (heo:∃ u,h'.get? e = some u)
  (new:ZaX P w (upd H x o') h' x o'):HOk P w (upd H x o') h':=fun b u q=>by
 have nown:∀ c y,H c = some (.own y) -> c ≠ x:=fun c y r z=>by subst z; rw [r] at mu; exact mu
 have ntup:∀ c xs,H c = some (.tup xs) -> c ≠ x:=fun c xs r z=>by subst z; rw [r] at mu; exact mu
 by_cases hb:b = x
 ·subst hb; rw [Zbl] at q; cases q; exact new
 ·rw [Zaj hb] at q
  by_cases hbe:b = e
  ·have q':H b = some (.own x):=by
    rcases he with z | z
    ·exact absurd (hbe.trans z) hb
    ·rw [hbe]; exact z
   rw [q] at q'; cases q';obtain ⟨v,hv⟩:=heo;exact ⟨v,by rw [hbe]; exact hv⟩
  ·refine (ok b u q).stay (fun c v hc r=>k c v ?_ r) (fun c r=>by rw [Zaj (nown c b r)]; exact r) fun c xs r=>by rw [Zaj (ntup c xs r)]; exact r
   rcases hc with rfl | hc
   ·exact hbe
   ·rintro rfl
    rcases he with z | z
    ·exact nown c b hc z
    ·rw [hc] at z; cases z; exact hb rfl
end
structure Un (fs ex:List Addr) (H H':Hp) (h h':Heap):Prop where
 keep:∀ b o,h.get? b = some o -> H b = none -> b ∉ fs -> b ∉ ex -> h'.get? b = some o
 slot:∀ b o,h.get? b = some o -> H b = none -> b ∈ fs -> b ∉ ex -> ∃ sl,h'.get? b = some { o with slots:=sl }
 free:∀ b o,h.get? b = some o -> H b = none -> b ∉ ex -> H' b = none
 there:∀ b o,h.get? b = some o -> b ∉ ex -> ∃ o',h'.get? b = some o'
 tups:∀ b xs,H b = some (.tup xs) -> H' b = some (.tup xs)
 frzs:∀ b o u,H b = some (.frz o u) -> H' b = some (.frz o u)
 tbls:∀ b ps,H b = some (.tbl ps) -> ∃ more,H' b = some (.tbl (ps ++ more))
section
variable {fs fs' ex ex':List Addr} {H H1 H2:Hp} {h h1 h2 h':Heap} {a x e:Addr} {o:HO}
theorem Un.any (u:Un fs ex H H1 h h1) {b:Addr} {ob:Obj} (q:h.get? b = some ob) (n:H b = none) (hx:b ∉ ex):∃ sl,h1.get? b = some { ob with slots:=sl }:=by
 by_cases hb:b ∈ fs
 ·exact u.slot b ob q n hb hx
 ·exact ⟨ob.slots,u.keep b ob q n hb hx⟩
theorem Un.trans (a:Un fs ex H H1 h h1) (b:Un fs ex H1 H2 h1 h2):Un fs ex H H2 h h2 where
 keep:=fun c ob q n hc hx=>b.keep c ob (a.keep c ob q n hc hx) (a.free c ob q n hx) hc hx
 slot:=fun c ob q n hc hx=>by
  obtain ⟨sl,e1⟩:=a.slot c ob q n hc hx;obtain ⟨sl',e2⟩:=b.slot c _ e1 (a.free c ob q n hx) hc hx;exact ⟨sl',e2⟩
 free:=fun c ob q n hx=>by
  obtain ⟨o',e1⟩:=a.there c ob q hx;exact b.free c o' e1 (a.free c ob q n hx) hx
 there:=fun c ob q hx=>by
  obtain ⟨o',e1⟩:=a.there c ob q hx;exact b.there c o' e1 hx
 tups:=fun c xs q=>b.tups c xs (a.tups c xs q)
 frzs:=fun c ob xs q=>b.frzs c ob xs (a.frzs c ob xs q)
 tbls:=fun c ps q=>by
  obtain ⟨m1,e1⟩:=a.tbls c ps q;obtain ⟨m2,e2⟩:=b.tbls c _ e1;exact ⟨m1 ++ m2,by rw [e2,Array.append_assoc]⟩
theorem Un.kept (k:∀ b u,h.get? b = some u -> h'.get? b = some u):Un fs ex H H h h':=
 ⟨fun b ob q _ _ _=>k b ob q,fun b ob q _ _ _=>⟨ob.slots,k b ob q⟩,fun _ _ _ n _=>n,fun b ob q _=>⟨ob,k b ob q⟩,fun _ _ q=>q,fun _ _ _ q=>q,fun _ ps q=>⟨#[],by rw [q]; simp⟩⟩
theorem Un.refl:Un fs ex H H h h:=Un.kept fun _ _ q=>q
theorem Un.laid (k:∀ b u,h.get? b = some u -> h'.get? b = some u) (hp:h.objs.size <= a) (hn:H a = none):Un fs ex H (upd H a o) h h' where
 keep:=fun b u q _ _ _=>k b u q
 slot:=fun b u q _ _ _=>⟨u.slots,k b u q⟩
 free:=fun b u q n _=>by rw [Zaj (Y2 (Y0 (Yo q) hp))]; exact n
 there:=fun b u q _=>⟨u,k b u q⟩
 tups:=fun b xs q=>by rw [Zaj (ZdW q hn)]; exact q
 frzs:=fun b u xs q=>by rw [Zaj (ZdW q hn)]; exact q
 tbls:=fun b ps q=>⟨#[],by rw [Zaj (ZdW q hn),q]; simp⟩
theorem Un.write (mu:Mut (H x)) (he:e = x \/ H e = some (.own x)) (k:∀ b u,b ≠ e -> h.get? b = some u -> h'.get? b = some u) (heo:∃ u,h'.get? e = some u):Un fs ex H (upd H x o) h h':=by
 have hx:∀ b,H b = none -> b ≠ x:=fun b n z=>by subst z; rw [n] at mu; exact mu
 have hb:∀ b,H b = none -> b ≠ e:=fun b n z=>by
  subst z;rcases he with r | r
  ·exact hx b n r
  ·rw [n] at r; cases r
 have hm:∀ b u,H b = some u -> ¬ Mut (some u) -> b ≠ x:=fun b u q nm z=>by subst z; rw [q] at mu; exact nm mu
 refine ⟨fun b u q n _ _=>k b u (hb b n) q,fun b u q n _ _=>⟨u.slots,k b u (hb b n) q⟩,fun b u q n _=>by rw [Zaj (hx b n)]; exact n,fun b u q _=>?_,
  fun b xs q=>by rw [Zaj (hm b _ q fun z=>z)]; exact q,fun b u xs q=>by rw [Zaj (hm b _ q fun z=>z)]; exact q,fun b ps q=>⟨#[],by rw [Zaj (hm b _ q fun z=>z),q]; simp⟩⟩
 by_cases hbe:b = e
 ·subst hbe; exact heo
 ·exact ⟨u,k b u hbe q⟩
theorem Un.mono (u:Un fs ex H H1 h h1) (hs:∀ b ∈ fs,b ∈ fs') (hx:∀ b ∈ ex,b ∈ ex'):Un fs' ex' H H1 h h1:=
 ⟨fun b ob q n hb he=>u.keep b ob q n (fun z=>hb (hs b z)) fun z=>he (hx b z),fun _ _ q n _ he=>u.any q n fun z=>he (hx _ z),fun b ob q n he=>u.free b ob q n fun z=>he (hx b z),fun b ob q he=>u.there b ob q fun z=>he (hx b z),u.tups,u.frzs,u.tbls⟩
end
noncomputable def trk (h:Heap) (H:Hp):List Addr:=(Yaa h.objs.size).filter fun a=>(H a).isSome
noncomputable def ZjB (h:Heap) (H:Hp):Heap:=PySem.W.hideAll h (trk h H)
theorem ZnG (h:Heap) (H:Hp):(ZjB h H).objs.size = h.objs.size:=PySem.W.hideAll_size _ _
theorem Zoz {h:Heap} {H:Hp} {b:Addr} {o:Obj} (e:h.get? b = some o) (n:H b = none):(ZjB h H).get? b = some o:=
 PySem.W.hideAll_get _ e fun hm=>by
  have q:(H b).isSome = true:=(Ycv.mp hm).2;rw [n] at q; simp at q
theorem ZpS {h:Heap} {H:Hp} {b:Addr} {o:Obj} (e:(ZjB h H).get? b = some o):h.get? b = some o /\ H b = none:=by
 have e':h.get? b = some o:=PySem.W.of_hideAll (trk h H) e;refine ⟨e',?_⟩;cases q:H b with
 | none=>rfl
 | some x=>
  have hm:b ∈ trk h H:=Ycv.mpr ⟨Yft.mpr (Yo e'),by simp [q]⟩;have z:(ZjB h H).get? b = none:=PySem.W.hideAll_none (trk h H) hm;rw [z] at e; cases e
noncomputable def Zp2 (g h:Heap) (L:Addr):List (Addr × Obj):=(Yaa h.objs.size).filterMap fun a=>if a = L \/ (g.get? a).isSome = true then none else (h.get? a).map fun o=>(a,o)
noncomputable def rest (g h:Heap) (L d:Addr):List (Addr × Obj):=(Zp2 g h L).filter fun p=>decide (p.1 ≠ d)
end L2
namespace L2
open PySem PySem.Spec PyProof.Rows
structure Mod (K:Ya) (mg:Str -> Option Value) (base:Heap):Prop where
 kin:K.In base
 glob:base.Ns Yn mg
 blt:∃ mb,base.Ns builtinsNs mb /\ ∀ x:Str,x ≠ "__name__" -> mb x = Yap x
 nolimit:base.NoLimit
/-- the context: a def's body (or a comprehension's block) running. base: fixed through the whole law; s₀,H₀: the entry; outer: the frames whose slots others may change (a def's callers); stack: all frames that run;
  ex: iterators that were made ahead of the entry and are walked here (a comprehension's); fn: the names whose cells were made at the entry (a def: all; a comprehension's block: its own); calm: not within an except suite; pn: pins that every state bears; xe: what is wanted of an exception that leaves the code -/
structure Cx where
 prog:Yaf
 w:World
 K:Ya
 mg:Str -> Option Value
 base:Heap
 A:Yar
 N:List Str
 s₀:Yg
 H₀:Hp
 env:Env
 outer:List Env
 stack:List Env
 ex:List Addr
 fn:Str -> Bool
 calm:Bool
 pn:List (Addr × Obj)
 xe:Value -> Yg -> Prop
noncomputable def frs (l:List Env):List Addr:=l.filterMap (·.frame)
noncomputable abbrev Cx.fs (X:Cx):List Addr:=frs X.outer
def Vis (sc:Scope) (x:Str):Prop:=sc.names.lookup x = some .local \/ sc.names.lookup x = some .cell \/ sc.names.lookup x = some .free
def Loc (sc:Scope) (x:Str):Prop:=sc.names.lookup x = some .local \/ sc.names.lookup x = some .cell
def Look (env:Env) (h:Heap) (m:Str -> Option Value) (x:Str) (u:Value):Prop:=
 (env.kindOf x = some .local /\ m x = some u) \/ ((env.kindOf x = some .cell \/ env.kindOf x = some .free) /\ ∃ c,env.cells.lookup x = some c /\ h.IsCell c (some u))
structure Cx.Ok (X:Cx):Prop where
 mod:Mod X.K X.mg X.base
 kind:X.env.scope.kind = .function
 glob:X.env.globals = Yn
 blt:X.env.builtins = builtinsNs
 above:X.s₀.heap.objs.size <= X.env.locals
 inj:∀ x y c,X.env.cells.lookup x = some c -> X.env.cells.lookup y = some c -> x = y
 has:∀ x,(X.env.kindOf x = some .cell \/ X.env.kindOf x = some .free) -> ∃ c,X.env.cells.lookup x = some c
 cab:∀ x c,X.fn x = true -> X.env.cells.lookup x = some c -> X.s₀.heap.objs.size <= c
 hd:X.calm = true -> X.A.handled = none
 frames:X.A.frames = some X.stack
 stk:X.stack = X.outer \/ (X.stack = X.env :: X.outer /\ X.env.frame = some X.env.locals)
 exf:∀ b ∈ X.ex,b ≠ X.env.locals /\ ∀ x c,X.env.cells.lookup x = some c -> c ≠ b
 bs:∀ b o,X.base.get? b = some o -> X.s₀.heap.get? b = some o /\ X.H₀ b = none
 bsz:X.base.objs.size <= X.s₀.heap.objs.size
 noex:∀ b o,X.base.get? b = some o -> b ∉ X.ex
 exfs:∀ b ∈ X.ex,b ∉ X.fs
 funs:X.s₀.heap.FunFrames X.base X.outer
 frf:∀ b ∈ X.fs,X.H₀ b = none
structure Inv (X:Cx) (pins:List (Addr × Obj)) (σ:List (Option V)) (H:Hp) (s:Yg):Prop where
 ok:X.Ok
 os:s.os = X.s₀.os
 bare:Yg7 s.gens
 base:Un X.fs X.ex X.H₀ H X.s₀.heap s.heap
 loc:∃ m,s.heap.Ns X.env.locals m /\ ∀ (i:Nat) (x:Str) (v:V),X.N[i]? = some x -> σ[i]? = some (some v) -> Vis X.env.scope x -> ∃ u,RelV v u /\ Look X.env s.heap m x u
 cell:∀ x c,X.env.cells.lookup x = some c -> ∃ v,s.heap.IsCell c v
 free:H X.env.locals = none
 freeC:∀ x c,X.env.cells.lookup x = some c -> H c = none
 pin:∀ p ∈ X.pn ++ pins,s.heap.get? p.1 = some p.2 /\ H p.1 = none /\ p.1 ≠ X.env.locals /\ p.1 ∉ X.fs /\ ∀ v,p.2.data ≠ .cell v
 hok:HOk X.prog X.w H s.heap
 len:σ.length = X.N.length
section
variable {X:Cx} {pins:List (Addr × Obj)} {σ:List (Option V)} {H H':Hp} {s:Yg} {h':Heap}
theorem Cx.Ok.nofr (ok:X.Ok) {b:Addr} {o:Obj} (e:X.base.get? b = some o):b ∉ X.fs:=fun hb=>by
 have:=(ok.funs.mem hb).1;rw [e] at this; cases this
theorem Inv.bs (I:Inv X pins σ H s):∀ b o,X.base.get? b = some o -> s.heap.get? b = some o /\ H b = none:=fun b o e=>
 ⟨I.base.keep b o (I.ok.bs b o e).1 (I.ok.bs b o e).2 (I.ok.nofr e) (I.ok.noex b o e),I.base.free b o (I.ok.bs b o e).1 (I.ok.bs b o e).2 (I.ok.noex b o e)⟩
theorem Inv.bk (I:Inv X pins σ H s):∀ b o,X.base.get? b = some o -> s.heap.get? b = some o:=fun b o e=>(I.bs b o e).1
theorem Inv.mod (I:Inv X pins σ H s):Mod X.K X.mg X.base:=I.ok.mod
theorem Inv.kIn (I:Inv X pins σ H s):X.K.In s.heap:=I.ok.mod.kin.keeps I.bk
theorem Inv.nolimit (I:Inv X pins σ H s):s.heap.NoLimit:=I.ok.mod.nolimit.keeps I.bk
theorem Inv.lt (I:Inv X pins σ H s):X.env.locals < s.heap.objs.size:=let ⟨_,hn,_⟩:=I.loc; hn.lt
theorem Inv.sz (I:Inv X pins σ H s):X.s₀.heap.objs.size <= s.heap.objs.size:=Yj I.ok.above (Yde I.lt)
theorem Inv.nofs (I:Inv X pins σ H s) {a:Addr} (h:s.heap.objs.size <= a):a ∉ X.fs:=fun hb=>by
 obtain ⟨_,o,ho,_⟩:=I.ok.funs.mem hb;exact absurd (Y0 (Yo ho) (Yj I.sz h)) (Yck _)
theorem Inv.cne (I:Inv X pins σ H s):∀ x c,X.env.cells.lookup x = some c -> c ≠ X.env.locals:=fun x c e z=>by
 obtain ⟨v,o,ho,hd⟩:=I.cell x c e;obtain ⟨m,⟨o',es,ep,ho',hd',_⟩,_⟩:=I.loc;rw [z,ho'] at ho; cases ho; rw [hd'] at hd; cases hd
theorem Inv.funs (I:Inv X pins σ H s):s.heap.FunFrames X.base X.outer:=by
 have all:∀ (l:List Env),(∀ b ∈ frs l,b ∈ X.fs) -> X.s₀.heap.FunFrames X.base l -> s.heap.FunFrames X.base l:=by
  intro l
  induction l with
  | nil=>intro _ _; trivial
  | cons env r ih=>
   intro hs hl;obtain ⟨hk,⟨L,o,hf,hn,ho,hd⟩,hr⟩:=hl;have hL:L ∈ X.fs:=hs L (by unfold frs; rw [Ydz,hf]; exact Yq);obtain ⟨sl,e⟩:=I.base.slot L o ho (I.ok.frf L hL) hL fun z=>I.ok.exfs L z hL;exact ⟨hk,⟨L,_,hf,hn,e,hd⟩,ih (fun b hb=>hs b (by unfold frs; rw [Ydz,hf]; exact Yv _ hb)) hr⟩
 exact all X.outer (fun _ hb=>hb) I.ok.funs
theorem Inv.stack (I:Inv X pins σ H s):s.heap.FunFrames X.base X.stack:=by
 rcases I.ok.stk with e | ⟨e,hf⟩
 ·rw [e]; exact I.funs
 ·rw [e]
  obtain ⟨m,hn,_⟩:=I.loc;refine .cons (by rw [I.ok.kind]; decide) hf hn ?_ I.funs;exact Heap.get?_none_of_le (Yj I.ok.bsz I.ok.above)
theorem Inv.stkSub (I:Inv X pins σ H s):∀ b ∈ frs X.stack,b ∈ X.env.locals :: X.fs:=fun b hb=>by
 rcases I.ok.stk with e | ⟨e,hf⟩
 ·rw [e] at hb; exact Yv _ hb
 ·rw [e] at hb
  unfold frs at hb;rw [Ydz,hf] at hb;exact hb
theorem Inv.stkFree (I:Inv X pins σ H s):∀ b ∈ frs X.stack,H b = none:=fun b hb=>by
 rcases Y3.mp (I.stkSub b hb) with e | hb
 ·rw [e]; exact I.free
 ·obtain ⟨_,o,ho,_⟩:=I.ok.funs.mem hb
  exact I.base.free b o ho (I.ok.frf b hb) fun z=>I.ok.exfs b z hb
theorem Inv.step {g':Array GenState} {t':Nat} {d':Drawn} {ch:List Addr} (I:Inv X pins σ H s)
  (hch:∀ b ∈ ch,(b ∈ X.ex \/ X.s₀.heap.objs.size <= b) /\ b ≠ X.env.locals /\ (∀ x c,X.env.cells.lookup x = some c -> c ≠ b) /\ ∀ p ∈ X.pn ++ pins,p.1 ≠ b)
  (keep:∀ b o,b ≠ X.env.locals -> b ∉ X.fs -> b ∉ ch -> s.heap.get? b = some o -> H b = none -> h'.get? b = some o)
  (slot:∀ b o,b ≠ X.env.locals -> b ∈ X.fs -> b ∉ ch -> s.heap.get? b = some o -> H b = none -> ∃ sl,h'.get? b = some { o with slots:=sl }) (free:∀ b o,b ∉ ch -> s.heap.get? b = some o -> H b = none -> H' b = none)
  (there:∀ b o,b ∉ ch -> s.heap.get? b = some o -> ∃ o',h'.get? b = some o')
  (tups:∀ b xs,H b = some (.tup xs) -> H' b = some (.tup xs)) (frzs:∀ b o u,H b = some (.frz o u) -> H' b = some (.frz o u)) (tbls:∀ b ps,H b = some (.tbl ps) -> ∃ more,H' b = some (.tbl (ps ++ more)))
  (ns:∀ m,s.heap.Ns X.env.locals m -> h'.Ns X.env.locals m) (hok:HOk X.prog X.w H' h') (hg:Yg7 g'):
  Inv X pins σ H' { s with heap:=h',gens:=g',drawn:=d',toks:=t' }:=by
 have neL:∀ b o,X.s₀.heap.get? b = some o -> b ≠ X.env.locals:=fun b o e=>Y2 (Y0 (Yo e) I.ok.above);have neC:∀ b o,X.s₀.heap.get? b = some o -> b ∉ X.ex -> b ∉ ch:=fun b o e hx hb=>by
  rcases (hch b hb).1 with z | z
  ·exact hx z
  ·exact absurd (Y0 (Yo e) z) (Yck _)
 have cellK:∀ x c,X.env.cells.lookup x = some c -> ∀ v,s.heap.IsCell c v -> h'.IsCell c v:=fun x c e v zz1=>by
  obtain ⟨o,ho,hd⟩:=zz1;have nch:c ∉ ch:=fun z=>(hch c z).2.2.1 x c e rfl;by_cases hc:c ∈ X.fs
  ·obtain ⟨sl,q⟩:=slot c o (I.cne x c e) hc nch ho (I.freeC x c e)
   exact ⟨_,q,hd⟩
  ·exact ⟨o,keep c o (I.cne x c e) hc nch ho (I.freeC x c e),hd⟩
 refine ⟨I.ok,I.os,hg,⟨fun b o e n hb hx=>?_,fun b o e n hb hx=>?_,fun b o e n hx=>?_,fun b o e hx=>?_,fun b xs e=>tups b xs (I.base.tups b xs e),fun b o xs e=>frzs b o xs (I.base.frzs b o xs e),fun b ps e=>?_⟩,?_,fun x c e=>?_,?_,fun x c e=>?_,fun p hp=>?_,hok,I.len⟩
 ·exact keep b o (neL b o e) hb (neC b o e hx) (I.base.keep b o e n hb hx) (I.base.free b o e n hx)
 ·obtain ⟨sl,e1⟩:=I.base.slot b o e n hb hx
  obtain ⟨sl',e2⟩:=slot b _ (neL b o e) hb (neC b o e hx) e1 (I.base.free b o e n hx);exact ⟨sl',e2⟩
 ·obtain ⟨o',e1⟩:=I.base.there b o e hx
  exact free b o' (neC b o e hx) e1 (I.base.free b o e n hx)
 ·obtain ⟨o',e1⟩:=I.base.there b o e hx
  exact there b o' (neC b o e hx) e1
 ·obtain ⟨m1,e1⟩:=I.base.tbls b ps e
  obtain ⟨m2,e2⟩:=tbls b _ e1;exact ⟨m1 ++ m2,by rw [e2,Array.append_assoc]⟩
 ·obtain ⟨m,hn,hl⟩:=I.loc
  refine ⟨m,ns m hn,fun i x v e1 e2 e3=>?_⟩;obtain ⟨u,r,l⟩:=hl i x v e1 e2 e3;refine ⟨u,r,?_⟩;rcases l with l | ⟨k,c,e,z⟩
  ·exact .inl l
  ·exact .inr ⟨k,c,e,cellK x c e _ z⟩
 ·obtain ⟨v,z⟩:=I.cell x c e
  exact ⟨v,cellK x c e v z⟩
 ·obtain ⟨m,⟨o,_,_,ho,_⟩,_⟩:=I.loc
  exact free _ o (fun z=>(hch _ z).2.1 rfl) ho I.free
 ·obtain ⟨v,o,ho,hd⟩:=I.cell x c e
  exact free c o (fun z=>(hch c z).2.2.1 x c e rfl) ho (I.freeC x c e)
 ·obtain ⟨e,n,ne,nf,d⟩:=I.pin p hp
  have nch:p.1 ∉ ch:=fun z=>(hch p.1 z).2.2.2 p hp rfl;exact ⟨keep p.1 p.2 ne nf nch e n,free p.1 p.2 nch e n,ne,nf,d⟩
theorem Inv.un {t':Nat} (I:Inv X pins σ H s) (u:Un X.fs [] H H' s.heap h') (hok:HOk X.prog X.w H' h'):Inv X pins σ H' { s with heap:=h',toks:=t' }:=by
 obtain ⟨m,⟨o,es,ep,ho,r⟩,_⟩:=id I.loc;obtain ⟨sl,hL⟩:=u.any ho I.free (by simp);exact I.step (g':=s.gens) (d':=s.drawn) (ch:=[]) (fun _ z=>nomatch z) (fun b o _ hb _ e n=>u.keep b o e n hb (by simp)) (fun b o _ hb _ e n=>u.slot b o e n hb (by simp)) (fun b o _ e n=>u.free b o e n (by simp)) (fun b o _ e=>u.there b o e (by simp)) u.tups u.frzs u.tbls (fun m' hm=>by
  obtain ⟨o',es',ep',ho',r'⟩:=hm;rw [ho] at ho'; cases ho';exact ⟨_,es',ep',hL,r'⟩) hok I.bare
theorem Inv.call {g':Array GenState} {t':Nat} {d':Drawn} {ch:List Addr} (I:Inv X pins σ H s) (u:Un (frs X.stack) ch H H' s.heap h') (hok:HOk X.prog X.w H' h') (hg:Yg7 g')
  (hch:∀ b ∈ ch,(b ∈ X.ex \/ X.s₀.heap.objs.size <= b) /\ b ≠ X.env.locals /\ (∀ x c,X.env.cells.lookup x = some c -> c ≠ b) /\ ∀ p ∈ X.pn ++ pins,p.1 ≠ b):
  Inv X pins σ H' { s with heap:=h',gens:=g',drawn:=d',toks:=t' }:=by
 obtain ⟨m,⟨o,es,ep,ho,r⟩,_⟩:=id I.loc;obtain ⟨sl,hL⟩:=u.any ho I.free fun z=>(hch _ z).2.1 rfl;exact I.step (ch:=ch) hch (fun b o hL hb hc e n=>u.keep b o e n (fun z=>(Y3.mp (I.stkSub b z)).elim hL hb) hc) (fun b o _ _ hc e n=>u.any e n hc) (fun b o hc e n=>u.free b o e n hc) (fun b o hc e=>u.there b o e hc) u.tups u.frzs u.tbls (fun m' hm=>by
  obtain ⟨o',es',ep',ho',r'⟩:=hm;rw [ho] at ho'; cases ho';exact ⟨_,es',ep',hL,r'⟩) hok hg
theorem Inv.turned {t':Nat} {it:Addr} (I:Inv X pins σ H s) (k:∀ b o,b ≠ it -> s.heap.get? b = some o -> h'.get? b = some o) (hn:H it = none) (hL:it ≠ X.env.locals)
  (h1:it ∈ X.ex \/ X.s₀.heap.objs.size <= it) (h2:∀ x c,X.env.cells.lookup x = some c -> c ≠ it) (h3:∀ p ∈ X.pn ++ pins,p.1 ≠ it):Inv X pins σ H { s with heap:=h',toks:=t' }:=by
 have nit:∀ b u,H b = some u -> b ≠ it:=fun b u e z=>by rw [z,hn] at e; cases e
 refine I.step (g':=s.gens) (d':=s.drawn) (ch:=[it]) (fun b hb=>?_) (fun b o _ _ hc e _=>k b o (fun z=>hc (by simp [z])) e) (fun b o _ _ hc e _=>⟨o.slots,k b o (fun z=>hc (by simp [z])) e⟩) (fun _ _ _ _ n=>n)
  (fun b o hc e=>⟨o,k b o (fun z=>hc (by simp [z])) e⟩) (fun _ _ e=>e) (fun _ _ _ e=>e) (fun b ps e=>⟨#[],by rw [e]; simp⟩) (fun m hm=>?_) (fun b u e=>?_) I.bare
 ·have e:b = it:=by simpa using hb
  subst e;exact ⟨h1,hL,h2,h3⟩
 ·obtain ⟨o,es,ep,ho,r⟩:=hm
  exact ⟨o,es,ep,k _ o (Ya4 hL) ho,r⟩
 ·refine (I.hok b u e).stay (fun c v hc q=>k c v ?_ q) (fun _ q=>q) fun _ _ q=>q
  rcases hc with z | z
  ·rw [z]; exact nit b u e
  ·exact nit c _ z
theorem Inv.tok (I:Inv X pins σ H s) (t:Nat):Inv X pins σ H { s with toks:=t }:=I.un (h':=s.heap) (t':=t) Un.refl I.hok
theorem Inv.kept {t':Nat} (I:Inv X pins σ H s) (k:∀ b u,s.heap.get? b = some u -> h'.get? b = some u):Inv X pins σ H { s with heap:=h',toks:=t' }:=I.un (Un.kept k) (I.hok.kept k)
theorem Inv.laid {a:Addr} {o:HO} {t':Nat} (I:Inv X pins σ H s) (k:∀ b u,s.heap.get? b = some u -> h'.get? b = some u) (hp:s.heap.objs.size <= a) (new:ZaX X.prog X.w (upd H a o) h' a o):
  Inv X pins σ (upd H a o) { s with heap:=h',toks:=t' }:=I.un (Un.laid k hp (I.hok.fresh hp)) (I.hok.laid k hp new)
theorem Inv.write {x e:Addr} {o:HO} {t':Nat} (I:Inv X pins σ H s) (mu:Mut (H x)) (he:e = x \/ H e = some (.own x)) (k:∀ b u,b ≠ e -> s.heap.get? b = some u -> h'.get? b = some u) (heo:∃ u,h'.get? e = some u)
  (new:ZaX X.prog X.w (upd H x o) h' x o):Inv X pins σ (upd H x o) { s with heap:=h',toks:=t' }:=I.un (Un.write mu he k heo) (I.hok.write mu he k heo new)
theorem Inv.pins_of {pins':List (Addr × Obj)} (I:Inv X pins σ H s) (h:∀ p ∈ pins',s.heap.get? p.1 = some p.2 /\ H p.1 = none /\ p.1 ≠ X.env.locals /\ p.1 ∉ X.fs /\ ∀ v,p.2.data ≠ .cell v):Inv X pins' σ H s:=
 ⟨I.ok,I.os,I.bare,I.base,I.loc,I.cell,I.free,I.freeC,fun p hp=>(Ybh.mp hp).elim (fun z=>I.pin p (Yhv _ z)) (h p),I.hok,I.len⟩
theorem ZkT {N:List Str} (hN:N.Nodup) {i j:Nat} {x:Str} (a:N[i]? = some x) (b:N[j]? = some x):i = j:=by
 obtain ⟨h1,e1⟩:=Yb.mp a;obtain ⟨h2,e2⟩:=Yb.mp b;exact (Ygq hN).mp (e1.trans e2.symm)
theorem ZiX {M:Model} {A:Yar} {E:Value -> Yg -> Prop} {i:Nat} {x:Str} {v:V} {u:Value} {Q:Unit -> Yg -> Prop} (I:Inv X pins σ H s) (hN:X.N.Nodup) (hi:X.N[i]? = some x) (hx:Loc X.env.scope x) (r:RelV v u)
  (h:∀ s',Inv X pins (σ.set i (some v)) H s' -> (∃ a,Yd2 a s.heap s'.heap /\ (a = X.env.locals \/ X.env.cells.lookup x = some a)) -> Q () s') (hf:X.fn x = true \/ X.env.scope.names.lookup x = some .local:=by first | exact .inl rfl | exact .inr rfl | assumption):wpAny M A (storeName X.env x u) Q E s:=by
 obtain ⟨m,hn,hl⟩:=id I.loc;have hcls:(X.env.scope.kind == .class || (X.env.scope.kind == .module && X.env.locals != X.env.globals)) = false:=by rw [I.ok.kind]; rfl
 have hiσ:i < σ.length:=by rw [I.len]; exact (Yb.mp hi).1
 have cne:=I.cne;have tracked:∀ {a:Addr} {h':Heap},(∃ o,s.heap.get? a = some o /\ H a = none) -> Yd2 a s.heap h' -> HOk X.prog X.w H h':=fun {a h'} ha hs b ob e=>by
  obtain ⟨_,_,hfree⟩:=ha;refine (I.hok b ob e).stay (fun c w' hc q=>(hs.2 c ?_).trans q) (fun _ q=>q) fun _ _ q=>q;rintro rfl;rcases hc with rfl | hc
  ·rw [hfree] at e; cases e
  ·rw [hfree] at hc; cases hc
 rcases hx with hk | hk
 ·refine wpAny_storeName_local hk hn (fun h' hn' hs=>?_) hcls
  obtain ⟨oL,_,_,hoL,_⟩:=id hn;refine h _ ⟨I.ok,I.os,I.bare,⟨fun b o e n hb hx=>?_,fun b o e n hb hx=>?_,I.base.free,fun b o e hx=>?_,I.base.tups,I.base.frzs,I.base.tbls⟩,⟨_,hn',fun j y v' e1 e2 e3=>?_⟩,fun y c e=>?_,I.free,I.freeC,fun p hp=>?_,tracked ⟨oL,hoL,I.free⟩ hs,by simpa using I.len⟩ ⟨_,hs,.inl rfl⟩
  ·exact (hs.2 b (Y2 (Y0 (Yo e) I.ok.above))).trans (I.base.keep b o e n hb hx)
  ·obtain ⟨sl,e1⟩:=I.base.slot b o e n hb hx
   exact ⟨sl,(hs.2 b (Y2 (Y0 (Yo e) I.ok.above))).trans e1⟩
  ·obtain ⟨o',e1⟩:=I.base.there b o e hx
   exact ⟨o',(hs.2 b (Y2 (Y0 (Yo e) I.ok.above))).trans e1⟩
  ·by_cases hj:j = i
   ·subst hj
    rw [hi] at e1; cases e1;rw [Yab hiσ] at e2;cases e2;exact ⟨u,r,.inl ⟨hk,by simp⟩⟩
   ·rw [Y9 (Ya4 hj)] at e2
    obtain ⟨u',r',q⟩:=hl j y v' e1 e2 e3;refine ⟨u',r',?_⟩;rcases q with ⟨k,e⟩ | ⟨k,c,e,z⟩
    ·refine .inl ⟨k,?_⟩
     have:y ≠ x:=fun e=>hj (ZkT hN e1 (e ▸ hi));simp [this,e]
    ·exact .inr ⟨k,c,e,z.sameBut hs (cne y c e)⟩
  ·obtain ⟨w',z⟩:=I.cell y c e
   exact ⟨w',z.sameBut hs (cne y c e)⟩
  ·obtain ⟨e,n,ne,nf,d⟩:=I.pin p hp
   exact ⟨(hs.2 p.1 ne).trans e,n,ne,nf,d⟩
 ·have hfn:X.fn x = true:=by
   rcases hf with z | z
   ·exact z
   ·rw [z] at hk; cases hk
  obtain ⟨c,hc⟩:=I.ok.has x (.inl hk);obtain ⟨w',z⟩:=I.cell x c hc;refine wpAny_storeName_cell I.ok.kind hk hc z (fun h' hc' hs=>?_);obtain ⟨oc,hoc,hocd⟩:=id z;refine h { s with heap:=h' } ⟨I.ok,I.os,I.bare,⟨fun b o e n hb hx=>?_,fun b o e n hb hx=>?_,I.base.free,fun b o e hx=>?_,I.base.tups,I.base.frzs,I.base.tbls⟩,⟨m,hn.sameBut hs (Ya4 (cne x c hc)),fun j y v' e1 e2 e3=>?_⟩,fun y c' e=>?_,I.free,I.freeC,fun p hp=>?_,tracked ⟨oc,hoc,I.freeC x c hc⟩ hs,by simpa using I.len⟩ ⟨c,hs,.inr hc⟩
  ·exact (hs.2 b (Y2 (Y0 (Yo e) (I.ok.cab x c hfn hc)))).trans (I.base.keep b o e n hb hx)
  ·obtain ⟨sl,e1⟩:=I.base.slot b o e n hb hx
   exact ⟨sl,(hs.2 b (Y2 (Y0 (Yo e) (I.ok.cab x c hfn hc)))).trans e1⟩
  ·obtain ⟨o',e1⟩:=I.base.there b o e hx
   exact ⟨o',(hs.2 b (Y2 (Y0 (Yo e) (I.ok.cab x c hfn hc)))).trans e1⟩
  ·by_cases hj:j = i
   ·subst hj
    rw [hi] at e1; cases e1;rw [Yab hiσ] at e2;cases e2;exact ⟨u,r,.inr ⟨.inl hk,c,hc,hc'⟩⟩
   ·rw [Y9 (Ya4 hj)] at e2
    obtain ⟨u',r',q⟩:=hl j y v' e1 e2 e3;refine ⟨u',r',?_⟩;rcases q with q | ⟨k,c',e,z'⟩
    ·exact .inl q
    ·refine .inr ⟨k,c',e,z'.sameBut hs ?_⟩
     rintro rfl;exact hj (ZkT hN e1 (I.ok.inj _ _ _ e hc ▸ hi))
  ·by_cases hcc:c' = c
   ·subst hcc; exact ⟨_,hc'⟩
   ·obtain ⟨w2,z2⟩:=I.cell y c' e
    exact ⟨w2,z2.sameBut hs hcc⟩
  ·obtain ⟨e,n,ne,nf,d⟩:=I.pin p hp
   refine ⟨(hs.2 p.1 ?_).trans e,n,ne,nf,d⟩;intro q;rw [q,hoc] at e;have q':oc = p.2:=Yao e;exact d w' (by rw [← q']; exact hocd)
theorem Zkz {M:Model} {A:Yar} {E:Value -> Yg -> Prop} {i:Nat} {x:Str} {v:V} {u:Value} {Q:Unit -> Yg -> Prop} (I:Inv X pins σ H s) (hN:X.N.Nodup) (hi:X.N[i]? = some x) (hx:Loc X.env.scope x) (r:RelV v u)
  (h:∀ s',Inv X pins (σ.set i (some v)) H s' -> Q () s') (hf:X.fn x = true \/ X.env.scope.names.lookup x = some .local:=by first | exact .inl rfl | exact .inr rfl | assumption):wpAny M A (storeName X.env x u) Q E s:=
 ZiX I hN hi hx r (fun s' I' _=>h s' I') hf
theorem Inv.call' {s':Yg} {ch:List Addr} (I:Inv X pins σ H s) (ho:s'.os = s.os) (u:Un (frs X.stack) ch H H' s.heap s'.heap) (hok:HOk X.prog X.w H' s'.heap) (hg:Yg7 s'.gens)
  (hch:∀ b ∈ ch,(b ∈ X.ex \/ X.s₀.heap.objs.size <= b) /\ b ≠ X.env.locals /\ (∀ x c,X.env.cells.lookup x = some c -> c ≠ b) /\ ∀ p ∈ X.pn ++ pins,p.1 ≠ b):Inv X pins σ H' s':=by
 obtain ⟨h',g',d',t',o'⟩:=s';have e:o' = s.os:=ho;subst e;exact I.call (g':=g') (t':=t') (d':=d') u hok hg hch
end
noncomputable abbrev XK:=Value -> Option Addr -> Hp -> Prop
noncomputable abbrev St:=List (Option V)
noncomputable abbrev VK:=V -> Hp -> Prop
noncomputable abbrev TE:=St -> Hp -> VK -> Prop
noncomputable abbrev TT:=St -> Hp -> (Bool -> Hp -> Prop) -> Prop
noncomputable abbrev TA:=St -> Hp -> (List V -> Hp -> Prop) -> Prop
structure Ends where
 nx:St -> Hp -> Prop
 rt:VK
 bk:St -> Hp -> Prop:=fun _ _=>False
 ct:St -> Hp -> Prop:=fun _ _=>False
noncomputable abbrev TS:=Ends -> St -> Hp -> Prop
inductive EP (X:Cx) (pins:List (Addr × Obj)) (σ:St) (Q:VK) (u:Value) (s':Yg):Prop where
 | mk (v:V) (H':Hp) (I:Inv X pins σ H' s') (r:RelV v u) (q:Q v H'):EP X pins σ Q u s'
inductive TP (X:Cx) (pins:List (Addr × Obj)) (σ:St) (Q:Bool -> Hp -> Prop) (b:Bool) (s':Yg):Prop where
 | mk (H':Hp) (I:Inv X pins σ H' s') (q:Q b H'):TP X pins σ Q b s'
inductive AP (X:Cx) (pins:List (Addr × Obj)) (σ:St) (Q:List V -> Hp -> Prop) (us:List Value) (s':Yg):Prop where
 | mk (vs:List V) (H':Hp) (I:Inv X pins σ H' s') (r:Vals vs us) (q:Q vs H'):AP X pins σ Q us s'
def SP (X:Cx) (pins:List (Addr × Obj)) (D:Ends) (f:Flow) (s':Yg):Prop:=
 match f with
 | .next=>∃ σ' H',Inv X pins σ' H' s' /\ D.nx σ' H'
 | .brk=>∃ σ' H',Inv X pins σ' H' s' /\ D.bk σ' H'
 | .cont=>∃ σ' H',Inv X pins σ' H' s' /\ D.ct σ' H'
 | .ret u=>∃ v σ' H',Inv X pins σ' H' s' /\ RelV v u /\ D.rt v H'
def PE (X:Cx) (e:Expr) (t:TE):Prop:=
 ∀ (pins:List (Addr × Obj)) (s:Yg) (σ:St) (H:Hp) (Q:VK),Inv X pins σ H s -> t σ H Q -> wpAny (model X.prog X.w) X.A (eval e X.env) (EP X pins σ Q) X.xe s
def PT (X:Cx) (e:Expr) (t:TT):Prop:=
 ∀ (pins:List (Addr × Obj)) (s:Yg) (σ:St) (H:Hp) (Q:Bool -> Hp -> Prop),Inv X pins σ H s -> t σ H Q -> wpAny (model X.prog X.w) X.A (isTrue e X.env (eval e X.env)) (TP X pins σ Q) X.xe s
def PW (X:Cx) (e:Expr) (t:TT):Prop:=
 ∀ (whole:Sem Value) (pins:List (Addr × Obj)) (s:Yg) (σ:St) (H:Hp) (Q:Bool -> Hp -> Prop),Inv X pins σ H s -> t σ H Q -> wpAny (model X.prog X.w) X.A (isTrue e X.env whole) (TP X pins σ Q) X.xe s
theorem PW.pt {X:Cx} {e:Expr} {t:TT} (h:PW X e t):PT X e t:=h _
def PA (X:Cx) (es:List Expr) (t:TA):Prop:=
 ∀ (pos:Pos) (pins:List (Addr × Obj)) (s:Yg) (σ:St) (H:Hp) (Q:List V -> Hp -> Prop),Inv X pins σ H s -> t σ H Q -> wpAny (model X.prog X.w) X.A (spliced (Ycl pos (Yx es X.env))) (AP X pins σ Q) X.xe s
def PS (X:Cx) (st:Stmt) (t:TS):Prop:=
 ∀ (pins:List (Addr × Obj)) (s:Yg) (σ:St) (H:Hp) (D:Ends),Inv X pins σ H s -> t D σ H -> wpAny (model X.prog X.w) X.A (exec st X.env) (SP X pins D) X.xe s
def PSs (X:Cx) (st:List Stmt) (t:TS):Prop:=
 ∀ (pins:List (Addr × Obj)) (s:Yg) (σ:St) (H:Hp) (D:Ends),Inv X pins σ H s -> t D σ H -> wpAny (model X.prog X.w) X.A (execs st X.env) (SP X pins D) X.xe s
theorem thn {α:Type} {t:Sem α} {Q Q':α -> Yg -> Prop} {M:Model} {A:Yar} {E:Value -> Yg -> Prop} {s:Yg} (h:wpAny M A t Q E s) (hQ:∀ a s,Q a s -> Q' a s):wpAny M A t Q' E s:=Ybt h hQ fun _ _ x=>x
end L2
namespace L2
open PySem PySem.Spec PyProof.Rows
section
variable {X:Cx}
def ZuJ (i:Nat):TE:=fun σ H Q=>∃ v,σ[i]? = some (some v) /\ Q v H
def tC (v:V):TE:=fun _ H Q=>Q v H
theorem Zsv {i:Nat} {x:Str} {pos:Pos} (hN:X.N[i]? = some x) (hv:Vis X.env.scope x) (hd:(x == ("__debug__":Str)) = false:=by decide) (hcd:(x == ("__classdict__":Str)) = false:=by decide):PE X (.Name x pos) (ZuJ i):=by
 intro pins s σ H Q I h;obtain ⟨v,e,h⟩:=h;obtain ⟨m,hn,hl⟩:=I.loc;obtain ⟨u,r,l⟩:=hl i x v hN e hv;have fin:EP X pins σ Q u s:=⟨v,H,I,r,h⟩;rcases l with ⟨hk,hm⟩ | ⟨hk,c,hc,hcell⟩
 ·exact wpAny_Name (wpAny_loadName_local I.ok.kind hk hn hm fin) hd
 ·rcases hk with hk | hk
  ·exact wpAny_Name (wpAny_loadName_cell I.ok.kind hk hc hcell fin) hd
  ·exact wpAny_Name (wpAny_loadName_free I.ok.kind hk hc hcell fin hcd) hd
theorem ZoP {i j pos}:PE X (.Constant (.int i) j pos) (tC (.int i)):=fun _ _ _ H _ I h=>wpAny_Constant_int ⟨.int i,H,I.tok _,⟨_,rfl⟩,h⟩
theorem ZtQ {b j pos}:PE X (.Constant (.bool b) j pos) (tC (.bl b)):=fun _ _ _ H _ I h=>Constant_bool ⟨.bl b,H,I,rfl,h⟩
theorem Zrx {j pos}:PE X (.Constant .none j pos) (tC .non):=fun _ _ _ H _ I h=>Constant_none ⟨.non,H,I,rfl,h⟩
theorem ZsL {x j pos}:PE X (.Constant (.str x) j pos) (tC (.str x)):=fun _ _ _ H _ I h=>Calls.Constant_str ⟨.str x,H,I.tok _,⟨_,rfl⟩,h⟩
def Gl (X:Cx) (x:Str):Prop:=X.env.kindOf x = some .globalImplicit
theorem Zmo {E:Value -> Yg -> Prop} {pins:List (Addr × Obj)} {s:Yg} {σ:St} {H:Hp} {x:Str} {u:Value} {pos:Pos} {Q:Value -> Yg -> Prop} (I:Inv X pins σ H s) (hg:Gl X x) (hm:X.mg x = some u) (h:Q u s)
  (hd:(x == ("__debug__":Str)) = false:=by decide):wpAny (model X.prog X.w) X.A (eval (.Name x pos) X.env) Q E s:=
 Yfb I.ok.kind hg (Calls.loadGlobal_global (by rw [I.ok.glob]; exact I.mod.glob.keeps I.bk) hm h) hd
theorem ZgL {E:Value -> Yg -> Prop} {pins:List (Addr × Obj)} {s:Yg} {σ:St} {H:Hp} {x:Str} {u:Value} {pos:Pos} {Q:Value -> Yg -> Prop} (I:Inv X pins σ H s) (hg:Gl X x) (hm:X.mg x = none) (hv:Yap x = some u) (h:Q u s)
  (hn:x ≠ "__name__":=by decide) (hd:(x == ("__debug__":Str)) = false:=by decide):wpAny (model X.prog X.w) X.A (eval (.Name x pos) X.env) Q E s:=by
 obtain ⟨mb,h1,h2⟩:=I.mod.blt;exact Yfb I.ok.kind hg (Calls.loadGlobal_builtin (by rw [I.ok.glob]; exact I.mod.glob.keeps I.bk) hm (by rw [I.ok.blt]; exact h1.keeps I.bk) ((h2 x hn).trans hv) h) hd
theorem ZjV {x:Str} {v:V} {u:Value} {pos:Pos} (hg:Gl X x) (hm:X.mg x = some u) (r:RelV v u) (hd:(x == ("__debug__":Str)) = false:=by decide):PE X (.Name x pos) (tC v):=
 fun _ _ _ H _ I h=>Zmo I hg hm ⟨v,H,I,r,h⟩ hd
theorem Zjt {x:Str} {v:V} {u:Value} {pos:Pos} (hg:Gl X x) (hm:X.mg x = none) (hv:Yap x = some u) (r:RelV v u) (hn:x ≠ "__name__":=by decide) (hd:(x == ("__debug__":Str)) = false:=by decide):PE X (.Name x pos) (tC v):=
 fun _ _ _ H _ I h=>ZgL I hg hm hv ⟨v,H,I,r,h⟩ hn hd
variable {a b:Expr} {ta tb:TE} {pos:Pos}
def tB (t:TE):TT:=fun σ H Q=>t σ H fun x H1=>∃ c,x = .bl c /\ Q c H1
theorem ZrA {e:Expr} {t:TE} (h:PE X e t) (he:∀ whole,isTrue e X.env whole = (do let v ← whole; Yjo e.pos; Yg8 [v] (truthy v)):=by intro _; rfl):PT X e (tB t):=by
 intro pins s σ H Q I hw;refine isTrue_plain (thn (h pins s σ H _ I hw) fun v s1 zz1=>?_) (he _);obtain ⟨x,H1,I1,r1,q1⟩:=zz1;obtain ⟨d,rfl,q⟩:=q1;cases r1;exact Ydj ⟨H1,I1,q⟩
variable {tA tB':TT} {rest:List Expr}
def Zve (t u:TT):TT:=fun σ H Q=>t σ H fun c H1=>if c = true then u σ H1 Q else Q false H1
def tOr (t u:TT):TT:=fun σ H Q=>t σ H fun c H1=>if c = true then Q true H1 else u σ H1 Q
def ZuZ (t:TT):TT:=fun σ H Q=>t σ H fun c H1=>Q (!c) H1
theorem ZpZ (ha:PT X a tA):PW X (.BoolOp .And [a] pos) tA:=by
 intro wh pins s σ H Q I h;refine isTrue_and (thn (ha pins s σ H Q I h) fun c s1 e=>?_);cases c with
 | true=>exact isTrue_and_nil e
 | false=>exact e
theorem ZrT (ha:PT X a tA):PW X (.BoolOp .Or [a] pos) tA:=by
 intro wh pins s σ H Q I h;refine isTrue_or (thn (ha pins s σ H Q I h) fun c s1 e=>?_);cases c with
 | false=>exact isTrue_or_nil e
 | true=>exact e
theorem Zsq (ha:PT X a tA) (hb:PW X (.BoolOp .And (b :: rest) pos) tB'):PW X (.BoolOp .And (a :: b :: rest) pos) (Zve tA tB'):=by
 intro wh pins s σ H Q I h;refine isTrue_and (thn (ha pins s σ H _ I h) fun c s1 zz1=>?_);obtain ⟨H1,I1,q1⟩:=zz1;cases c with
 | true=>exact hb wh pins s1 σ H1 Q I1 q1
 | false=>exact ⟨H1,I1,q1⟩
theorem ZtW (ha:PT X a tA) (hb:PW X (.BoolOp .Or (b :: rest) pos) tB'):PW X (.BoolOp .Or (a :: b :: rest) pos) (tOr tA tB'):=by
 intro wh pins s σ H Q I h;refine isTrue_or (thn (ha pins s σ H _ I h) fun c s1 zz1=>?_);obtain ⟨H1,I1,q1⟩:=zz1;cases c with
 | true=>exact ⟨H1,I1,q1⟩
 | false=>exact hb wh pins s1 σ H1 Q I1 q1
theorem ZsI (ha:PT X a tA):PT X (.UnaryOp .Not a pos) (ZuZ tA):=by
 intro pins s σ H Q I h;exact isTrue_not (thn (ha pins s σ H (fun c H1=>Q (!c) H1) I h) fun c s' ⟨H',I',q⟩=>⟨H',I',q⟩)
def ZtS (ta tb:TE):TE:=fun σ H Q=>ta σ H fun x H1=>∃ c,x = .bl c /\ if c = true then tb σ H1 Q else Q (.bl false) H1
def Zvj (ta tb:TE):TE:=fun σ H Q=>ta σ H fun x H1=>∃ c,x = .bl c /\ if c = true then Q (.bl true) H1 else tb σ H1 Q
theorem ZsC {op} {t:TE} (h:PE X a t):PE X (.BoolOp op [a] pos) t:=fun pins s σ H Q I hw=>BoolOp_one (h pins s σ H Q I hw)
theorem ZrR (ha:PE X a ta) (hb:PE X (.BoolOp .And (b :: rest) pos) tb):PE X (.BoolOp .And (a :: b :: rest) pos) (ZtS ta tb):=by
 intro pins s σ H Q I h;refine BoolOp_and (thn (ha pins s σ H _ I h) fun v s1 zz1=>?_);obtain ⟨x,H1,I1,r1,q1⟩:=zz1;obtain ⟨c,rfl,q1⟩:=q1;cases r1;refine Ydj ?_;cases c with
 | true=>exact hb pins s1 σ H1 Q I1 q1
 | false=>exact ⟨.bl false,H1,I1,rfl,q1⟩
theorem ZtP (ha:PE X a ta) (hb:PE X (.BoolOp .Or (b :: rest) pos) tb):PE X (.BoolOp .Or (a :: b :: rest) pos) (Zvj ta tb):=by
 intro pins s σ H Q I h;refine BoolOp_or (thn (ha pins s σ H _ I h) fun v s1 zz1=>?_);obtain ⟨x,H1,I1,r1,q1⟩:=zz1;obtain ⟨c,rfl,q1⟩:=q1;cases r1;refine Ydj ?_;cases c with
 | false=>exact hb pins s1 σ H1 Q I1 q1
 | true=>exact ⟨.bl true,H1,I1,rfl,q1⟩
def tIf (t:TT) (ta tb:TE):TE:=fun σ H Q=>t σ H fun c H1=>if c = true then ta σ H1 Q else tb σ H1 Q
theorem ZoH {c:Expr} (hc:PT X c tA) (ha:PE X a ta) (hb:PE X b tb):PE X (.IfExp c a b pos) (tIf tA ta tb):=by
 intro pins s σ H Q I h;refine wpAny_IfExp (thn (hc pins s σ H _ I h) fun d s1 zz1=>?_);obtain ⟨H1,I1,q1⟩:=zz1;cases d with
 | true=>exact ha pins s1 σ H1 Q I1 q1
 | false=>exact hb pins s1 σ H1 Q I1 q1
end
end L2
namespace L2
open PySem PySem.Spec PyProof.Rows
def SqL (K:Ya) (H:Hp) (a:Addr) (xs:List V):Prop:=
 Rd H a (.lst xs) \/
  ∃ (o:Obj) (its:Array Value) (n:Nat),K.lookup a = some o /\ o.cls = .type "list" /\ o.dict = none /\ o.data = .seq its n /\ its.size <= Yac /\ Vals xs its.toList
def SqT (K:Ya) (H:Hp) (a:Addr) (xs:List V):Prop:=
 Rd H a (.tup xs) \/
  ∃ (o:Obj) (its:Array Value) (n:Nat),K.lookup a = some o /\ (o.cls = .type "tuple" /\ o.dict = none) /\ o.data = .seq its n /\ its.size <= Yac /\ Vals xs its.toList
noncomputable def ZuW:Value -> Option V
 | .none=>some .non
 | .bool b=>some (.bl b)
 | .int i _=>some (.int i)
 | .str x _=>some (.str x)
 | .bytes b _=>some (.byt b)
 | .float b _=>some (.flt b)
 | .ref a=>some (.ref a)
 | .type n=>some (.ty n)
 | _=>none
theorem RelV.abs {x:V} {u:Value} (r:RelV x u):ZuW u = some x:=by
 cases x with
 | non=>cases r; rfl
 | bl _=>cases r; rfl
 | int _=>obtain ⟨t,rfl⟩:=r; rfl
 | str _=>obtain ⟨t,rfl⟩:=r; rfl
 | byt _=>obtain ⟨t,rfl⟩:=r; rfl
 | flt _=>obtain ⟨t,rfl⟩:=r; rfl
 | ref _=>cases r; rfl
 | ty _=>cases r; rfl
theorem RelV.inj {x y:V} {u:Value} (r:RelV x u) (q:RelV y u):x = y:=Yao (r.abs.symm.trans q.abs)
theorem Vals.inj:∀ {xs ys:List V} {us:List Value},Vals xs us -> Vals ys us -> xs = ys
 | _,_,_,.nil,.nil=>rfl
 | _,_,_,.cons r t,.cons r' t'=>by rw [r.inj r',Vals.inj t t']
section
variable {X:Cx} {pins:List (Addr × Obj)} {σ:St} {H:Hp} {s:Yg} {a:Addr} {xs ys:List V}
theorem SqL.of {K:Ya} (h:H a = some (.lst xs)):SqL K H a xs:=.inl (.inl h)
theorem SqT.of {K:Ya} (h:H a = some (.tup xs)):SqT K H a xs:=.inl (.inl h)
theorem Inv.list (I:Inv X pins σ H s) (h:SqL X.K H a xs):∃ its:List Value,Vals xs its /\ PlainL s.heap a its.toArray /\ xs.length <= Yac:=by
 rcases h with h | ⟨o,its,n,hk,hc,hd,hs,hz,r⟩
 ·obtain ⟨z,its,n,r,e⟩:=h.ok I.hok
  exact ⟨its,r,⟨_,n,e,rfl,rfl,rfl⟩,z⟩
 ·refine ⟨its.toList,r,⟨o,n,I.kIn a o hk,hc,hd,by simpa using hs⟩,?_⟩
  have e:=r.length;simp only [Yd0] at e;exact lC 2 2199576973345 T1 e hz
theorem Inv.tuple (I:Inv X pins σ H s) (h:SqT X.K H a xs):∃ its:List Value,Vals xs its /\ IsTup s.heap a its.toArray /\ xs.length <= Yac:=by
 rcases h with h | ⟨o,its,n,hk,hc,hs,hz,r⟩
 ·obtain ⟨z,its,r,p⟩:=h.ok I.hok
  exact ⟨its,r,p.tup,z⟩
 ·refine ⟨its.toList,r,⟨o,I.kIn a o hk,hc.1,n,by simpa using hs⟩,?_⟩
  have e:=r.length;simp only [Yd0] at e;exact lC 2 2199576973345 T1 e hz
theorem Inv.list_inj (I:Inv X pins σ H s) (h:SqL X.K H a xs) (h':SqL X.K H a ys):xs = ys:=by
 obtain ⟨its,r,⟨o,n,e,_,_,d⟩,_⟩:=I.list h;obtain ⟨its',r',⟨o',n',e',_,_,d'⟩,_⟩:=I.list h';rw [e] at e'; cases e';rw [d] at d';injection d' with d1 _;have:its = its':=by simpa using congrArg Yer d1
 subst this;exact r.inj r'
theorem Inv.tupleN (I:Inv X pins σ H s) (h:SqT X.K H a xs):∃ its:List Value,Vals xs its /\ Zdt s.heap a its.toArray /\ xs.length <= Yac:=by
 rcases h with h | ⟨o,its,n,hk,hc,hs,hz,r⟩
 ·obtain ⟨z,its,r,p⟩:=h.ok I.hok; exact ⟨its,r,p,z⟩
 ·refine ⟨its.toList,r,⟨o,I.kIn a o hk,hc,n,by simpa using hs⟩,?_⟩; have e:=r.length; simp only [Yd0] at e; exact lC 2 2199576973345 T1 e hz
theorem Inv.tuple_inj (I:Inv X pins σ H s) (h:SqT X.K H a xs) (h':SqT X.K H a ys):xs = ys:=by
 obtain ⟨its,r,⟨o,e,_,n,d⟩,_⟩:=I.tuple h;obtain ⟨its',r',⟨o',e',_,n',d'⟩,_⟩:=I.tuple h';rw [e] at e'; cases e';rw [d] at d';injection d' with d1 _;have:its = its':=by simpa using congrArg Yer d1
 subst this;exact r.inj r'
end
noncomputable abbrev Cx.wish (X:Cx) (E:Value -> Yg -> Prop):Cx:={ X with xe:=E }
noncomputable abbrev Cx.nox (X:Cx):Cx:=X.wish fun _ _=>False
theorem Cx.Ok.wish {X:Cx} (ok:X.Ok) (E:Value -> Yg -> Prop):(X.wish E).Ok:=
 ⟨ok.mod,ok.kind,ok.glob,ok.blt,ok.above,ok.inj,ok.has,ok.cab,ok.hd,ok.frames,ok.stk,ok.exf,ok.bs,ok.bsz,ok.noex,ok.exfs,ok.funs,ok.frf⟩
theorem Cx.Ok.unwish {X:Cx} {E:Value -> Yg -> Prop} (ok:(X.wish E).Ok):X.Ok:=
 ⟨ok.mod,ok.kind,ok.glob,ok.blt,ok.above,ok.inj,ok.has,ok.cab,ok.hd,ok.frames,ok.stk,ok.exf,ok.bs,ok.bsz,ok.noex,ok.exfs,ok.funs,ok.frf⟩
section
variable {X:Cx} {pins:List (Addr × Obj)} {σ:St} {H:Hp} {s:Yg} {E:Value -> Yg -> Prop}
theorem Inv.wish (I:Inv X pins σ H s) (E:Value -> Yg -> Prop):Inv (X.wish E) pins σ H s:=⟨I.ok.wish E,I.os,I.bare,I.base,I.loc,I.cell,I.free,I.freeC,I.pin,I.hok,I.len⟩
theorem Inv.unwish (I:Inv (X.wish E) pins σ H s):Inv X pins σ H s:=⟨I.ok.unwish,I.os,I.bare,I.base,I.loc,I.cell,I.free,I.freeC,I.pin,I.hok,I.len⟩
theorem SP.unwish {D:Ends} {f:Flow} {s':Yg} (h:SP (X.wish E) pins D f s'):SP X pins D f s':=by
 cases f with
 | next=>obtain ⟨σ',H',I,q⟩:=h; exact ⟨σ',H',I.unwish,q⟩
 | brk=>obtain ⟨σ',H',I,q⟩:=h; exact ⟨σ',H',I.unwish,q⟩
 | cont=>obtain ⟨σ',H',I,q⟩:=h; exact ⟨σ',H',I.unwish,q⟩
 | ret u=>obtain ⟨v,σ',H',I,r,q⟩:=h; exact ⟨v,σ',H',I.unwish,r,q⟩
theorem PSs.nox {st:List Stmt} {t:TS} (h:PSs X.nox st t):PSs X st t:=fun pins s σ H D I hw=>
 Ybt (h pins s σ H D (I.wish _) hw) (fun _ _ q=>q.unwish) fun _ _ z=>Ybx z
end
section
variable {X:Cx} {st:Stmt} {rest:List Stmt} {t u:TS} {e:Expr} {te:TE} {pos:Pos}
def ZtV:TS:=fun D σ H=>D.nx σ H
def Zvb (t u:TS):TS:=fun D σ H=>t { D with nx:=u D } σ H
theorem Zqa:PSs X [] ZtV:=fun _ _ σ H _ I h=>Ye4 ⟨σ,H,I,h⟩
theorem Zok (h1:PS X st t) (h2:PSs X rest u):PSs X (st :: rest) (Zvb t u):=by
 intro pins s σ H D I h;refine wpAny_execs_cons (thn (h1 pins s σ H { D with nx:=u D } I h) fun f s1 q=>?_);cases f with
 | next=>
  obtain ⟨σ',H',I',q⟩:=q;exact h2 pins s1 σ' H' D I' q
 | ret v=>exact q
 | brk=>exact q
 | cont=>exact q
theorem ZpP (h1:PS X st t):PSs X [st] t:=by
 intro pins s σ H D I h;refine wpAny_execs_cons (thn (h1 pins s σ H D I h) fun f s1 q=>?_);cases f with
 | next=>exact Ye4 q
 | ret v=>exact q
 | brk=>exact q
 | cont=>exact q
theorem Inv.quiet {pins:List (Addr × Obj)} {σ:St} {H:Hp} {s:Yg} (I:Inv X pins σ H s):interactive X.env = false:=by simp [interactive,I.ok.kind]
def Zul (te:TE):TS:=fun D σ H=>te σ H fun _ H1=>D.nx σ H1
theorem Zqs (he:PE X e te) (hs:Yfz e none pos.line X.env = pure false:=by rfl):PS X (.Expr e pos) (Zul te):=by
 intro pins s σ H D I h;exact wpAny_Expr_any (thn (he pins s σ H _ I h) fun v s1 ⟨x,H1,I1,r1,q1⟩=>⟨σ,H1,I1,q1⟩) I.quiet hs
def Zu6 (te:TE):TS:=fun D σ H=>te σ H D.rt
theorem ZrE (he:PE X e te):PS X (.Return (some e) pos) (Zu6 te):=by
 intro pins s σ H D I h;exact wpAny_Return_some (thn (he pins s σ H _ I h) fun v s1 ⟨x,H1,I1,r1,q1⟩=>⟨x,σ,H1,I1,r1,q1⟩)
def ZuO (c:TT) (t u:TS):TS:=fun D σ H=>c σ H fun b H1=>if b = true then t D σ H1 else u D σ H1
theorem Zuk {c:Expr} {a b:List Stmt} {tc:TT} (hc:PT X c tc) (ha:PSs X a t) (hb:PSs X b u):PS X (.If c a b pos) (ZuO tc t u):=by
 intro pins s σ H D I h;refine wpAny_If (thn (hc pins s σ H _ I h) fun d s1 zz1=>?_);obtain ⟨H1,I1,q1⟩:=zz1;cases d with
 | true=>exact ha pins s1 σ H1 D I1 q1
 | false=>exact hb pins s1 σ H1 D I1 q1
end
noncomputable abbrev TG:=V -> St -> Hp -> (St -> Hp -> Prop) -> Prop
noncomputable abbrev TGs:=List V -> St -> Hp -> (St -> Hp -> Prop) -> Prop
def PG (X:Cx) (target:Expr) (t:TG):Prop:=
 ∀ (pins:List (Addr × Obj)) (s:Yg) (σ:St) (H:Hp) (v:V) (u:Value) (Q:St -> Hp -> Prop),Inv X pins σ H s -> RelV v u -> t v σ H Q ->
  wpAny (model X.prog X.w) X.A (Yfi target X.env u) (fun _ s'=>∃ σ' H',Inv X pins σ' H' s' /\ Q σ' H') X.xe s
def PGs (X:Cx) (ts:List Expr) (t:TGs):Prop:=
 ∀ (pins:List (Addr × Obj)) (s:Yg) (σ:St) (H:Hp) (vs:List V) (us:List Value) (Q:St -> Hp -> Prop),Inv X pins σ H s -> Vals vs us -> t vs σ H Q ->
  wpAny (model X.prog X.w) X.A (assignInOrder ((Ybf ts X.env).map (·.2)) us) (fun _ s'=>∃ σ' H',Inv X pins σ' H' s' /\ Q σ' H') X.xe s
noncomputable abbrev ZsM:=V -> V -> V -> Hp -> (Hp -> Prop) -> Prop
def ZtR (X:Cx) (t:ZsM):Prop:=
 ∀ (pins:List (Addr × Obj)) (s:Yg) (σ:St) (H:Hp) (o i v:V) (ov iv u:Value) (Q:Hp -> Prop),Inv X pins σ H s -> RelV o ov -> RelV i iv -> RelV v u -> t o i v H Q ->
  wpAny (model X.prog X.w) X.A (setItem ov iv u) (fun _ s'=>∃ H',Inv X pins σ H' s' /\ Q H') X.xe s
section
variable {X:Cx} {pos:Pos}
def Zre (i:Nat):TG:=fun v σ H Q=>Q (σ.set i (some v)) H
theorem ZmO {i:Nat} {x:Str} (hN:X.N.Nodup) (hi:X.N[i]? = some x) (hx:Loc X.env.scope x) (hf:X.fn x = true \/ X.env.scope.names.lookup x = some .local:=by first | exact .inl rfl | exact .inr rfl | assumption):PG X (.Name x pos) (Zre i):=by
 intro pins s σ H v u Q I r h;exact wpAny_assign_Name (Zkz I hN hi hx r (fun s' I'=>⟨_,H,I',h⟩) hf)
def ZuU:TGs:=fun vs σ H Q=>vs = [] /\ Q σ H
def Zut (t:TG) (u:TGs):TGs:=fun vs σ H Q=>∃ v r,vs = v :: r /\ t v σ H fun σ' H'=>u r σ' H' Q
theorem Zqd:PGs X [] ZuU:=by
 intro pins s σ H vs us Q I r h;obtain ⟨e,h⟩:=h;subst e;cases r;exact assignInOrder_nil ⟨σ,H,I,h⟩
theorem Zn3 {e:Expr} {es:List Expr} {t:TG} {u:TGs} (h1:PG X e t) (h2:PGs X es u)
  (hs:(Ybf (e :: es) X.env).map (·.2) = Yfi e X.env :: (Ybf es X.env).map (·.2):=by rfl):PGs X (e :: es) (Zut t u):=by
 intro pins s σ H vs us Q I r h;obtain ⟨v,vr,e1,h⟩:=h;subst e1;cases r with
 | cons r rr=>
  rw [hs];refine assignInOrder_cons (thn (h1 pins s σ H _ _ _ I r h) fun _ s1 zz1=>?_);obtain ⟨σ1,H1,I1,q1⟩:=zz1;exact h2 pins s1 σ1 H1 _ _ Q I1 rr q1
def Zvc (K:Ya) (n:Nat) (t:TGs):TG:=fun v σ H Q=>∃ a xs,v = .ref a /\ SqT K H a xs /\ xs.length = n /\ t xs σ H Q
theorem Zr9 {es:List Expr} {k:Nat} {t:TGs} {n:Nat} (hc:X.calm = true) (h:PGs X es t)
  (hn:(Ybf es X.env).length = n:=by rfl) (hst:(Ybf es X.env).findIdx? (·.1) = none:=by rfl):PG X (.Tuple es k pos) (Zvc X.K n t):=by
 intro pins s σ H v u Q I r hw;obtain ⟨a,xs,e1,hq,hl,hw⟩:=hw;subst e1;cases r;obtain ⟨its,rv,ht,hz⟩:=I.tuple hq;refine assign_Tuple_tuple (I.ok.hd hc) ht (by simp [hn,← hl,rv.length]) hst fun h' hx=>?_;have I1:Inv X pins σ H { s with heap:=h' }:=I.kept (t':=s.toks) fun b o e=>hx b o (Y2 (Yo e)) e;exact h pins _ σ H xs _ Q I1 (by simpa using rv) hw
def ZuV (to ti:TE) (t:ZsM):TG:=fun v σ H Q=>to σ H fun o H1=>ti σ H1 fun i H2=>t o i v H2 fun H3=>Q σ H3
theorem Ztd {o i:Expr} {to ti:TE} {t:ZsM} (ho:PE X o to) (hi:PE X i ti) (hs:ZtR X t)
  (ha:∀ v,Yfi (.Subscript o i pos) X.env v = (do
   let ov ← Yg8 [v] (eval o X.env)
   let iv ← Yg8 [v,ov] (eval i X.env)
   Yjo pos
   Yg8 [v,ov,iv] (setItem ov iv v)
   release [v,ov,iv] []):=by intro _; rfl):PG X (.Subscript o i pos) (ZuV to ti t):=by
 intro pins s σ H v u Q I r h;rw [ha];refine Yc (Yau (thn (ho pins s σ H _ I h) fun ov s1 zz1=>?_));obtain ⟨x,H1,I1,r1,q1⟩:=zz1;refine Yc (Yau (thn (hi pins s1 σ H1 _ I1 q1) fun iv s2 zz1=>?_));obtain ⟨y,H2,I2,r2,q2⟩:=zz1;refine Yc (Yd8 (Yc (Yau (thn (hs pins s2 σ H2 x y v ov iv u _ I2 r1 r2 r q2) fun _ s3 zz1=>?_))));obtain ⟨H3,I3,q3⟩:=zz1;exact wpAny_release ⟨σ,H3,I3,q3⟩
def Zuw (te:TE) (g:TG):TS:=fun D σ H=>te σ H fun x H1=>g x σ H1 D.nx
theorem ZpB {tg e:Expr} {te:TE} {g:TG} (he:PE X e te) (hg:PG X tg g) (hs:Yiw [tg] e pos.line X.env = pure false:=by rfl) (hw:Yix [tg] e X.env = pure none:=by rfl)
  (h1:(Ybf [tg] X.env).map (·.2) = [Yfi tg X.env]:=by rfl):PS X (.Assign [tg] e pos) (Zuw te g):=by
 intro pins s σ H D I h;refine wpAny_Assign_stores (thn (he pins s σ H _ I h) fun v s1 zz1=>?_) hs hw;obtain ⟨x,H1,I1,r1,q1⟩:=zz1;rw [h1];exact thn (hg pins s1 σ H1 x v _ I1 r1 q1) fun _ s2 q=>q
theorem ZsS {i:Nat} {x:Str} {e:Expr} {te:TE} {pos':Pos} (hN:X.N.Nodup) (hi:X.N[i]? = some x) (hx:Loc X.env.scope x) (he:PE X e te) (hs:Yfz e (some (.Name x pos')) pos.line X.env = pure false:=by rfl) (hf:X.fn x = true \/ X.env.scope.names.lookup x = some .local:=by first | exact .inl rfl | exact .inr rfl | assumption):
  PS X (.Assign [.Name x pos'] e pos) (Zuw te (Zre i)):=by
 intro pins s σ H D I h;refine wpAny_Assign_Name (thn (he pins s σ H _ I h) fun v s1 zz1=>?_) hs;obtain ⟨y,H1,I1,r1,q1⟩:=zz1;exact Zkz I1 hN hi hx r1 (fun s2 I2=>⟨_,H1,I2,q1⟩) hf
end
section
variable {X:Cx} {pos:Pos}
def ZsR (c:TT) (tb:TS):TS:=fun D σ H=>∃ W:Nat -> St -> Hp -> Prop,(∃ m,W m σ H) /\ ∀ m σ H,W m σ H ->
 c σ H fun b H1=>if b = true then ∃ N:St -> Hp -> Prop,(∀ σ' H',N σ' H' -> ∃ m',m' < m /\ W m' σ' H') /\ tb { D with nx:=N,ct:=N,bk:=D.nx } σ H1 else D.nx σ H1
theorem Zpe {c:Expr} {body:List Stmt} {tc:TT} {tb:TS} (hp:PassesOwn (model X.prog X.w) X.A X.env X.xe) (hc:PT X c tc) (hb:PSs X body tb):PS X (.While c body [] pos) (ZsR tc tb):=by
 intro pins s σ H D I h;obtain ⟨W,⟨m0,w0⟩,turn⟩:=h;refine wpAny_While (codeAny_whileLoop (fun n s'=>∃ σ' H',Inv X pins σ' H' s' /\ W n σ' H') ?_ m0 ⟨σ,H,I,w0⟩);rintro n s1 ⟨σ1,H1,I1,w1⟩;refine Ycw hp (thn (hc pins s1 σ1 H1 _ I1 (turn n σ1 H1 w1)) fun b s2 zz1=>?_);obtain ⟨H2,I2,q2⟩:=zz1;cases b with
 | true=>
  obtain ⟨N,hN,q2⟩:=q2;rw [if_pos rfl];refine Ycw hp (thn (hb pins s2 σ1 H2 _ I2 q2) fun f s3 q3=>?_);cases f with
  | next=>
   obtain ⟨σ3,H3,I3,n3⟩:=q3;obtain ⟨m',hm,w3⟩:=hN σ3 H3 n3;exact ⟨m',hm,σ3,H3,I3,w3⟩
  | cont=>
   obtain ⟨σ3,H3,I3,n3⟩:=q3;obtain ⟨m',hm,w3⟩:=hN σ3 H3 n3;exact ⟨m',hm,σ3,H3,I3,w3⟩
  | brk=>exact q3
  | ret v=>exact q3
 | false=>
  rw [if_neg Yav];exact Ye4 ⟨σ1,H2,I2,q2⟩
end
structure It where
 go:Nat -> Hp -> Prop
 yld:Nat -> Hp -> V -> Hp -> Prop
 stop:Nat -> Hp -> Prop
def ZeK (X:Cx) (pins:List (Addr × Obj)) (H:Hp) (b:Addr):Prop:=
 H b = none /\ b ≠ X.env.locals /\ b ∉ X.fs /\ (b ∈ X.ex \/ X.s₀.heap.objs.size <= b) /\ (∀ x c,X.env.cells.lookup x = some c -> c ≠ b) /\ ∀ p ∈ X.pn ++ pins,p.1 ≠ b
theorem Inv.fpOk {X:Cx} {pins:List (Addr × Obj)} {σ:St} {H H':Hp} {s:Yg} {b:Addr} (I:Inv X pins σ H s) (hb:s.heap.objs.size <= b) (hn:H' b = none):ZeK X pins H' b:=by
 refine ⟨hn,Yes (Y0 I.lt hb),I.nofs hb,.inr (Yj I.sz hb),fun x c e z=>?_,fun p hp z=>?_⟩
 ·obtain ⟨v,q⟩:=I.cell x c e
  exact absurd (Y0 q.lt (by rw [z]; exact hb)) (Yck _)
 ·exact absurd (Y0 (Yo (I.pin p hp).1) (by rw [z]; exact hb)) (Yck _)
structure Turn (P:Yaf) (w:World) (K:Ya) (tg:Expr) (J:It) (fp:List Addr) (it:Addr) (tn:Nat -> Heap -> Prop):Prop where
 mem:it ∈ fp
 obj:∀ i h,tn i h -> ∀ b ∈ fp,∃ o,h.get? b = some o /\ ∀ v,o.data ≠ .cell v
 keep:∀ i h h',tn i h -> (∀ b ∈ fp,∀ o,h.get? b = some o -> h'.get? b = some o) -> tn i h'
 item:∀ (X:Cx),X.prog = P -> X.w = w -> X.K = K -> X.calm = true -> ∀ (i:Nat) (pins:List (Addr × Obj)) (s:Yg) (σ:St) (H:Hp) (E:Value -> Yg -> Prop),Inv X pins σ H s -> (∀ b ∈ fp,ZeK X pins H b) -> tn i s.heap -> J.go i H ->
  wpAny (model P w) X.A (Yf0 (.ref it)) (fun r s1=>∃ u,r = some u /\
   wpAny (model P w) X.A (Yd9 tg (.ref it) u) (fun _ s2=>∃ x H',Inv X pins σ H' s2 /\ RelV x u /\ J.yld i H x H' /\ tn (i + 1) s2.heap /\ ∀ b ∈ fp,H' b = none) E s1) E s
 done:∀ (X:Cx),X.prog = P -> X.w = w -> X.K = K -> X.calm = true -> ∀ (i:Nat) (pins:List (Addr × Obj)) (s:Yg) (σ:St) (H:Hp) (E:Value -> Yg -> Prop),Inv X pins σ H s -> (∀ b ∈ fp,ZeK X pins H b) -> tn i s.heap -> J.stop i H ->
  wpAny (model P w) X.A (Yf0 (.ref it)) (fun r s1=>r = none /\ Inv X pins σ H s1) E s
 self:∀ (A:Yar) (i:Nat) (s:Yg) (Q:Value -> Yg -> Prop) (E:Value -> Yg -> Prop),tn i s.heap -> Q (.ref it) s -> wpAny (model P w) A (pyIter (.ref it)) Q E s
noncomputable abbrev TI:=St -> Hp -> (It -> Hp -> Prop) -> Prop
def PIE (X:Cx) (pins:List (Addr × Obj)) (σ:St) (tg:Expr) (R:It -> Hp -> Prop) (itv:Value) (s2:Yg):Prop:=
 ∃ (it:Addr) (fp:List Addr) (tn:Nat -> Heap -> Prop) (J:It) (H':Hp),itv = .ref it /\ Inv X pins σ H' s2 /\ Turn X.prog X.w X.K tg J fp it tn /\ tn 0 s2.heap /\ (∀ b ∈ fp,ZeK X pins H' b) /\ R J H'
def PI (X:Cx) (tg iter:Expr) (wi:TI):Prop:=
 ∀ (pins:List (Addr × Obj)) (s:Yg) (σ:St) (H:Hp) (R:It -> Hp -> Prop),Inv X pins σ H s -> wi σ H R ->
  wpAny (model X.prog X.w) X.A (eval iter X.env) (fun v s1=>wpAny (model X.prog X.w) X.A (pyIter v) (PIE X pins σ tg R) X.xe s1) X.xe s
theorem Zli {M:Model} {A:Yar} {E:Value -> Yg -> Prop} {s:Yg} {tg:Expr} {it:Addr} {u:Value} {o:Obj} {n:String} {vs:Array Value} {Q:Unit -> Yg -> Prop} (ho:s.heap.get? it = some o) (hc:o.cls = .type n) (hd:o.data = .fields vs)
  (hn:["enumerate","zip","dict_itemiterator","dict_reverseitemiterator","odict_iterator","itertools.zip_longest","itertools.pairwise"].contains n = false) (hQ:Q () s):wpAny M A (Yd9 tg (.ref it) u) Q E s:=by
 unfold Yd9;cases tg <;> first
  | exact Ym hQ
  | (cases u <;> first
    | exact Ym hQ
    | (refine Yc (wpAny_load ho ?_)
       rw [hc,hd];show wpAny M A (if (["enumerate","zip","dict_itemiterator","dict_reverseitemiterator","odict_iterator","itertools.zip_longest","itertools.pairwise"].contains n && vs[0]? == some (Yh6 _)) = true then _ else _) Q E s;rw [if_neg (by intro h; rw [hn,Bool.false_and] at h; cases h)];exact Ym hQ))
noncomputable def Itl (K:Ya) (a:Addr):It:=
 ⟨fun i H=>∃ xs x,SqL K H a xs /\ xs[i]? = some x,fun i H x H'=>H' = H /\ ∀ xs,SqL K H a xs -> xs[i]? = some x,fun i H=>∃ xs,SqL K H a xs /\ xs.length <= i⟩
noncomputable def Itt (K:Ya) (a:Addr):It:=
 ⟨fun i H=>∃ xs x,SqT K H a xs /\ xs[i]? = some x,fun i H x H'=>H' = H /\ ∀ xs,SqT K H a xs -> xs[i]? = some x,fun i H=>∃ xs,SqT K H a xs /\ xs.length <= i⟩
noncomputable def Itr (lo:Int) (n:Nat):It:=⟨fun i _=>i < n,fun i H x H'=>H' = H /\ x = .int (lo + i),fun i _=>n <= i⟩
theorem Znc {P:Yaf} {w:World} {K:Ya} {tg:Expr} (a it:Addr):Turn P w K tg (Itl K a) [it] it (fun i h=>h.IsListIter it a i) where
 mem:=by simp
 obj:=fun i h st b hb=>by
  have e:b = it:=by simpa using hb
  subst e;obtain ⟨o,e,c,d⟩:=st;exact ⟨o,e,fun v z=>by rw [d] at z; cases z⟩
 keep:=fun i h h' st k=>st.at fun o e=>k it (by simp) o e
 item:=by
  intro X hP hw hK hc i pins s σ H E I hf st hg;subst hP hw hK;obtain ⟨xs,x,hq,hx⟩:=hg;obtain ⟨its,rv,p,hz⟩:=I.list hq;obtain ⟨u,hu,ru⟩:=rv.get hx;obtain ⟨f0,f1,f2,f3,f4,f5⟩:=hf it (by simp);refine Ygx st p.isList (x:=u) (by simpa using hu) fun h' st' sb=>?_;have I1:Inv X pins σ H { s with heap:=h' }:=I.turned (t':=s.toks) (fun b o hb e=>(sb.2 b hb).trans e) f0 f1 f3 f4 f5;obtain ⟨o,e,c,d⟩:=id st';exact ⟨u,rfl,Zli (s:={ s with heap:=h' }) e c d (by decide) ⟨x,H,I1,ru,⟨rfl,fun ys hy=>by rw [I.list_inj hy hq]; exact hx⟩,st',fun b hb=>(hf b hb).1⟩⟩
 done:=by
  intro X hP hw hK hc i pins s σ H E I hf st hg;subst hP hw hK;obtain ⟨xs,hq,hx⟩:=hg;obtain ⟨its,rv,p,hz⟩:=I.list hq;obtain ⟨f0,f1,f2,f3,f4,f5⟩:=hf it (by simp);have hl:=rv.length;exact Yg9 (I.ok.hd hc) st p.isList (by simp; exact lC 2 2268279672881 T1 hl hx) fun h' eb=>⟨rfl,I.turned (t':=s.toks) (fun b o hb e=>eb b o hb e) f0 f1 f3 f4 f5⟩
 self:=fun _ _ _ _ _ st h=>wpAny_pyIter_listiter st h
theorem Zlq {P:Yaf} {w:World} {K:Ya} {tg:Expr} (a it:Addr):Turn P w K tg (Itt K a) [it] it (fun i h=>h.IsTupleIter it a i) where
 mem:=by simp
 obj:=fun i h st b hb=>by
  have e:b = it:=by simpa using hb
  subst e;obtain ⟨o,e,c,d⟩:=st;exact ⟨o,e,fun v z=>by rw [d] at z; cases z⟩
 keep:=fun i h h' st k=>st.at fun o e=>k it (by simp) o e
 item:=by
  intro X hP hw hK hc i pins s σ H E I hf st hg;subst hP hw hK;obtain ⟨xs,x,hq,hx⟩:=hg;obtain ⟨its,rv,p,hz⟩:=I.tuple hq;obtain ⟨u,hu,ru⟩:=rv.get hx;obtain ⟨f0,f1,f2,f3,f4,f5⟩:=hf it (by simp);refine wpAny_pyNext_tuple_item st (show s.heap.IsTuple a its.toArray from p) (x:=u) (by simpa using hu) fun h' st' sb=>?_;have I1:Inv X pins σ H { s with heap:=h' }:=I.turned (t':=s.toks) (fun b o hb e=>(sb.2 b hb).trans e) f0 f1 f3 f4 f5;obtain ⟨o,e,c,d⟩:=id st';exact ⟨u,rfl,Zli (s:={ s with heap:=h' }) e c d (by decide) ⟨x,H,I1,ru,⟨rfl,fun ys hy=>by rw [I.tuple_inj hy hq]; exact hx⟩,st',fun b hb=>(hf b hb).1⟩⟩
 done:=by
  intro X hP hw hK hc i pins s σ H E I hf st hg;subst hP hw hK;obtain ⟨xs,hq,hx⟩:=hg;obtain ⟨its,rv,p,hz⟩:=I.tuple hq;obtain ⟨f0,f1,f2,f3,f4,f5⟩:=hf it (by simp);have hl:=rv.length;exact wpAny_pyNext_tuple_end (I.ok.hd hc) st (show s.heap.IsTuple a its.toArray from p) (by simp; exact lC 2 2268279672881 T1 hl hx) fun h' eb=>⟨rfl,I.turned (t':=s.toks) (fun b o hb e=>eb b o hb e) f0 f1 f3 f4 f5⟩
 self:=fun _ _ _ _ _ st h=>wpAny_pyIter_tupleiter st h
theorem ZlM {P:Yaf} {w:World} {K:Ya} {tg:Expr} (it:Addr) (lo:Int) (n:Nat):Turn P w K tg (Itr lo n) [it] it (fun i h=>IsRangeIter h it (lo + (i:Nat) * 1) ((n:Int) - (i:Nat)) 1) where
 mem:=by simp
 obj:=fun i h st b hb=>by
  have e:b = it:=by simpa using hb
  subst e;exact ⟨_,st,fun v z=>by
   have z':Data.fields _ = Data.cell v:=z;cases z'⟩
 keep:=fun i h h' st k=>k it (by simp) _ st
 item:=by
  intro X hP hw hK hc i pins s σ H E I hf st hg;subst hP hw hK;obtain ⟨f0,f1,f2,f3,f4,f5⟩:=hf it (by simp);have W:=Walks.range (prog:=X.prog) (w:=X.w) (I.ok.hd hc) it lo 1 n;refine W.item i s _ _ hg st fun v h' tk hv st' kk=>?_;obtain ⟨t,rfl⟩:=hv;have I1:Inv X pins σ H { s with heap:=h',toks:=tk }:=I.turned (fun b o hb e=>kk b o (by simpa using hb) e) f0 f1 f3 f4 f5;refine ⟨_,rfl,Zli (s:={ s with heap:=h',toks:=tk }) (n:="range_iterator") st' rfl rfl (by decide) ⟨.int (lo + i),H,I1,⟨t,?_⟩,⟨rfl,rfl⟩,st',fun b hb=>(hf b hb).1⟩⟩;rw [Int.mul_one]
 done:=by
  intro X hP hw hK hc i pins s σ H E I hf st hg;subst hP hw hK;obtain ⟨f0,f1,f2,f3,f4,f5⟩:=hf it (by simp);exact wpAny_pyNext_range_end (I.ok.hd hc) st (by have:n <= i:=hg; exact iN [_,_] [] 1 0xe1808f81001 T1 this) fun h' eb=>⟨rfl,I.turned (t':=s.toks) (fun b o hb e=>eb b o hb e) f0 f1 f3 f4 f5⟩
 self:=fun _ _ _ _ _ st h=>wpAny_pyIter_rangeiter st h
end L2
namespace L2
open PySem PySem.Spec PyProof.Rows
section
variable {X:Cx} {tg:Expr}
def ZtN (K:Ya) (tl:TE):TI:=fun σ H R=>tl σ H fun x H1=>∃ a,x = .ref a /\ (∃ xs,SqL K H1 a xs) /\ R (Itl K a) H1
def ZuK (K:Ya) (tl:TE):TI:=fun σ H R=>tl σ H fun x H1=>∃ a,x = .ref a /\ (∃ xs,SqT K H1 a xs) /\ R (Itt K a) H1
theorem Zqb {l:Expr} {tl:TE} (hl:PE X l tl):PI X tg l (ZtN X.K tl):=by
 intro pins s σ H R I h;refine thn (hl pins s σ H _ I h) fun v s1 zz1=>?_;obtain ⟨x,H1,I1,r1,q1⟩:=zz1;obtain ⟨a,e,⟨xs,hq⟩,q⟩:=q1;subst e;cases r1;obtain ⟨its,rv,p,hz⟩:=I1.list hq;refine Yce p.isList ?_;refine ⟨s1.heap.objs.size,[s1.heap.objs.size],_,_,H1,rfl,I1.kept (t':=s1.toks) fun b o e=>Yf _ e,Znc a _,⟨_,Yr _ rfl,rfl,rfl⟩,fun b hb=>?_,q⟩;have e:b = s1.heap.objs.size:=by simpa using hb
 subst e;exact I1.fpOk (Yi _) (I1.hok.fresh (Yi _))
theorem Zs3 {l:Expr} {tl:TE} (hl:PE X l tl):PI X tg l (ZuK X.K tl):=by
 intro pins s σ H R I h;refine thn (hl pins s σ H _ I h) fun v s1 zz1=>?_;obtain ⟨x,H1,I1,r1,q1⟩:=zz1;obtain ⟨a,e,⟨xs,hq⟩,q⟩:=q1;subst e;cases r1;obtain ⟨its,rv,p,hz⟩:=I1.tuple hq;refine Yfj (show s1.heap.IsTuple a its.toArray from p) ?_;refine ⟨s1.heap.objs.size,[s1.heap.objs.size],_,_,H1,rfl,I1.kept (t':=s1.toks) fun b o e=>Yf _ e,Zlq a _,⟨_,Yr _ rfl,rfl,rfl⟩,fun b hb=>?_,q⟩;have e:b = s1.heap.objs.size:=by simpa using hb
 subst e;exact I1.fpOk (Yi _) (I1.hok.fresh (Yi _))
theorem Zpp {pins:List (Addr × Obj)} {σ:St} {H:Hp} {s:Yg} {R:It -> Hp -> Prop} {E:Value -> Yg -> Prop} {lo hi:Int} {t u v:Tok} {tk:Nat} (I:Inv X pins σ H s) (h1:-(2 ^ 62) <= lo) (h2:lo < 2 ^ 62) (h3:-(2 ^ 62) <= hi) (h4:hi < 2 ^ 62)
  (q:R (Itr lo (hi - lo).toNat) H):wpAny (model X.prog X.w) X.A (pyIter (.ref s.heap.objs.size)) (PIE X pins σ tg R) E { s with heap:=s.heap.push { cls:=.type "range",data:=.fields #[.int lo t,.int hi u,.int 1 v] },toks:=tk }:=by
 refine wpAny_pyIter_range (IsRange.new ..) (small_one h1 h2 h3 h4) ?_;have I1:Inv X pins σ H { s with heap:=s.heap.push { cls:=.type "range",data:=.fields #[.int lo t,.int hi u,.int 1 v] },toks:=tk }:=I.kept fun b o e=>Yf _ e;refine ⟨(s.heap.push { cls:=.type "range",data:=.fields #[.int lo t,.int hi u,.int 1 v] }).objs.size,[(s.heap.push { cls:=.type "range",data:=.fields #[.int lo t,.int hi u,.int 1 v] }).objs.size],_,_,H,rfl,
  I1.kept (t':=tk) fun b o e=>Yf _ e,ZlM _ lo (hi - lo).toNat,?_,fun b hb=>?_,q⟩
 ·have e1:lo + ((0:Nat):Int) * 1 = lo:=by simp
  have e2:(((hi - lo).toNat:Nat):Int) - ((0:Nat):Int) = Builtin.Range.rangeSize lo hi 1:=by rw [rangeSize_one]; split <;> omega
  show IsRangeIter _ _ (lo + ((0:Nat):Int) * 1) ((((hi - lo).toNat:Nat):Int) - ((0:Nat):Int)) 1;rw [e1,e2];exact Yr _ rfl
 ·have e:b = (s.heap.push { cls:=.type "range",data:=.fields #[.int lo t,.int hi u,.int 1 v] }).objs.size:=by simpa using hb
  subst e;exact I1.fpOk (Yi _) (I1.hok.fresh (Yi _))
def Zt8 (ta:TA):TI:=fun σ H R=>ta σ H fun vs H1=>∃ j:Int,vs = [.int j] /\ -(2 ^ 62) <= j /\ j < 2 ^ 62 /\ R (Itr 0 j.toNat) H1
theorem ZmT {a:Expr} {ta:TA} {p pos:Pos} (hg:Gl X "range") (hm:X.mg "range" = none) (ha:PA X [a] ta) (hs:Yx [a] X.env = [(false,eval a X.env)]:=by rfl):PI X tg (.Call (.Name "range" p) [a] [] pos) (Zt8 ta):=by
 intro pins s σ H R I h;refine Call_ (ZgL I hg hm boot_range (Ydf (thn (ha pos pins s σ H _ I h) fun us s1 zz1=>?_) hs rfl));obtain ⟨vs,H1,I1,r1,q1⟩:=zz1;obtain ⟨j,e,q1,q2,q⟩:=q1;subst e;cases r1 with
 | cons r rr=>
  cases rr
  obtain ⟨t,rfl⟩:=r;exact call_range_1 (Zpp I1 (by omega) (by omega) q1 q2 (by simpa using q))
def Zu8 (wi:TI) (g:TG) (tb:TS):TS:=fun D σ H=>wi σ H fun J H1=>∃ W:Nat -> Nat -> St -> Hp -> Prop,(∃ m,W 0 m σ H1) /\ ∀ i m σ H,W i m σ H ->
 (J.stop i H /\ D.nx σ H) \/ (J.go i H /\ ∃ N:St -> Hp -> Prop,(∀ σ' H',N σ' H' -> ∃ m',m' < m /\ W (i + 1) m' σ' H') /\ ∀ x H',J.yld i H x H' -> g x σ H' fun σ2 H2=>tb { D with nx:=N,ct:=N,bk:=D.nx } σ2 H2)
noncomputable def ZeV (fp:List Addr) (h:Heap):List (Addr × Obj):=fp.filterMap fun b=>(h.get? b).map fun o=>(b,o)
theorem ZeI {fp:List Addr} {h:Heap} {b:Addr} {o:Obj} (hb:b ∈ fp) (e:h.get? b = some o):(b,o) ∈ ZeV fp h:=List.mem_filterMap.mpr ⟨b,hb,by rw [e]; rfl⟩
theorem Znr {fp:List Addr} {h:Heap} {p:Addr × Obj} (hp:p ∈ ZeV fp h):p.1 ∈ fp /\ h.get? p.1 = some p.2:=by
 obtain ⟨b,hb,e⟩:=List.mem_filterMap.mp hp;cases q:h.get? b with
 | none=>rw [q] at e; cases e
 | some o=>
  rw [q] at e;have e':(b,o) = p:=Yao e;subst e';exact ⟨hb,q⟩
theorem Inv.pinned {pins:List (Addr × Obj)} {σ:St} {H:Hp} {s:Yg} {fp:List Addr} (I:Inv X pins σ H s) (hf:∀ b ∈ fp,ZeK X pins H b) (ho:∀ b ∈ fp,∃ o,s.heap.get? b = some o /\ ∀ v,o.data ≠ .cell v):Inv X (pins ++ ZeV fp s.heap) σ H s:=
 I.pins_of fun p hp=>(Ybh.mp hp).elim (fun z=>I.pin p (Yal _ z)) fun z=>by
  obtain ⟨hb,e⟩:=Znr z;obtain ⟨f0,f1,f2,_⟩:=hf p.1 hb;obtain ⟨o,e',d⟩:=ho p.1 hb;rw [e] at e'; cases e';exact ⟨e,f0,f1,f2,d⟩
theorem Inv.unpinned {pins pl:List (Addr × Obj)} {σ:St} {H:Hp} {s:Yg} (I:Inv X (pins ++ pl) σ H s):Inv X pins σ H s:=I.pins_of fun p hp=>I.pin p (Yal _ (Yhv _ hp))
theorem Zof {iter:Expr} {body:List Stmt} {wi:TI} {g:TG} {tb:TS} {pos:Pos} (hp:PassesOwn (model X.prog X.w) X.A X.env X.xe) (hc:X.calm = true) (hi:PI X tg iter wi) (hg:PG X tg g) (hb:PSs X body tb)
  (hs:∀ x,Ycx iter X.env x = pure x:=by intro _; rfl):PS X (.For tg iter body [] pos) (Zu8 wi g tb):=by
 intro pins s σ H D I h;refine wpAny_For (thn (hi pins s σ H _ I h) fun v s1 h1=>thn h1 fun itv s2 h2=>?_) hs;obtain ⟨it,fp,tn,J,H2,e,I2,T,st2,f2,W,⟨m0,w0⟩,turn⟩:=h2;subst e;have stat:∀ {H':Hp},(∀ b ∈ fp,H' b = none) -> ∀ b ∈ fp,ZeK X pins H' b:=fun hn b hb=>⟨hn b hb,(f2 b hb).2⟩;refine codeAny_forLoop_any (fun n s'=>∃ i σ' H',Inv X pins σ' H' s' /\ tn i s'.heap /\ (∀ b ∈ fp,H' b = none) /\ W i n σ' H') ?_ m0 ⟨0,σ,H2,I2,st2,fun b hb=>(f2 b hb).1,w0⟩;rintro n s3 ⟨i,σ3,H3,I3,st3,fr3,w3⟩;rcases turn i n σ3 H3 w3 with ⟨stop,qn⟩ | ⟨go,N,hN,step⟩
 ·refine Ycw hp (thn (T.done X rfl rfl rfl hc i pins s3 σ3 H3 X.xe I3 (stat fr3) st3 stop) fun r s4 ⟨hr,I4⟩=>?_)
  subst hr;exact Ye4 ⟨σ3,H3,I4,qn⟩
 ·refine Ycw hp (thn (T.item X rfl rfl rfl hc i pins s3 σ3 H3 X.xe I3 (stat fr3) st3 go) fun r s4 ⟨u,hr,h4⟩=>?_)
  subst hr;refine Ycw hp (thn h4 fun _ s5 zz1=>?_);obtain ⟨x,H5,I5,r5,y5,st5,fr5⟩:=zz1;have I5':=I5.pinned (stat fr5) (T.obj _ _ st5);refine Ycw hp (thn (hg _ s5 σ3 H5 x u _ I5' r5 (step x H5 y5)) fun _ s6 zz1=>?_);obtain ⟨σ6,H6,I6,q6⟩:=zz1;refine Ycw hp (thn (hb _ s6 σ6 H6 _ I6 q6) fun f s7 q7=>?_);have again:∀ {σ7:St} {H7:Hp},Inv X (pins ++ ZeV fp s5.heap) σ7 H7 s7 -> N σ7 H7 -> ∃ m,m < n /\ ∃ i σ' H',Inv X pins σ' H' s7 /\ tn i s7.heap /\ (∀ b ∈ fp,H' b = none) /\ W i m σ' H':=fun {σ7 H7} I7 n7=>by
   obtain ⟨m',hm,w7⟩:=hN σ7 H7 n7;refine ⟨m',hm,i + 1,σ7,H7,I7.unpinned,T.keep _ _ _ st5 fun b hb o e=>(I7.pin (b,o) (Yal _ (Yal _ (ZeI hb e)))).1,fun b hb=>?_,w7⟩;obtain ⟨o,e,d⟩:=T.obj _ _ st5 b hb;exact (I7.pin (b,o) (Yal _ (Yal _ (ZeI hb e)))).2.1
  cases f with
  | next=>obtain ⟨σ7,H7,I7,n7⟩:=q7; exact again I7 n7
  | cont=>obtain ⟨σ7,H7,I7,n7⟩:=q7; exact again I7 n7
  | brk=>obtain ⟨σ7,H7,I7,q7⟩:=q7; exact ⟨σ7,H7,I7.unpinned,q7⟩
  | ret v=>obtain ⟨x7,σ7,H7,I7,r7,q7⟩:=q7; exact ⟨x7,σ7,H7,I7.unpinned,r7,q7⟩
end
end L2
namespace L2
open PySem PySem.Spec PyProof.Rows
noncomputable abbrev R2:=V -> V -> Hp -> VK -> Prop
def OpR (X:Cx) (f:Value -> Value -> Sem Value) (r:R2):Prop:=
 ∀ (pins:List (Addr × Obj)) (s:Yg) (σ:St) (H:Hp) (x y:V) (v u:Value) (Q:VK),Inv X pins σ H s -> RelV x v -> RelV y u -> r x y H Q ->
  wpAny (model X.prog X.w) X.A (f v u) (EP X pins σ Q) X.xe s
def UnR (X:Cx) (f:Value -> Sem Value) (r:V -> Hp -> VK -> Prop):Prop:=
 ∀ (pins:List (Addr × Obj)) (s:Yg) (σ:St) (H:Hp) (x:V) (v:Value) (Q:VK),Inv X pins σ H s -> RelV x v -> r x H Q ->
  wpAny (model X.prog X.w) X.A (f v) (EP X pins σ Q) X.xe s
def Za0 (X:Cx) (f:Value) (r:List V -> Hp -> VK -> Prop):Prop:=
 ∀ (pins:List (Addr × Obj)) (s:Yg) (σ:St) (H:Hp) (xs:List V) (us:List Value) (Q:VK),Inv X pins σ H s -> Vals xs us -> r xs H Q ->
  wpAny (model X.prog X.w) X.A (call f us) (EP X pins σ Q) X.xe s
def tOp (r:R2) (ta tb:TE):TE:=fun σ H Q=>ta σ H fun x H1=>tb σ H1 fun y H2=>r x y H2 Q
def tUn (r:V -> Hp -> VK -> Prop) (ta:TE):TE:=fun σ H Q=>ta σ H fun x H1=>r x H1 Q
def rI (C:Int -> Int -> Prop) (g:Int -> Int -> V):R2:=fun x y H Q=>∃ i j,x = .int i /\ y = .int j /\ C i j /\ Q (g i j) H
def rI0 (g:Int -> Int -> V):R2:=fun x y H Q=>∃ i j,x = .int i /\ y = .int j /\ Q (g i j) H
noncomputable def rU (g:Int -> V):V -> Hp -> VK -> Prop:=fun x H Q=>∃ i,x = .int i /\ Q (g i) H
section
variable {X:Cx} {a b c:Expr} {ta tb tc:TE} {pos:Pos}
theorem Zrr (ha:PE X a ta) (hb:PE X b tb) {pins:List (Addr × Obj)} {s:Yg} {σ:St} {H:Hp} {R:V -> V -> Hp -> Prop} (I:Inv X pins σ H s)
  (h:ta σ H fun x H1=>tb σ H1 fun y H2=>R x y H2) {Q:Value -> Yg -> Prop} {f:Value -> Value -> Sem Value}
  (hf:∀ v u s2 x y H2,Inv X pins σ H2 s2 -> RelV x v -> RelV y u -> R x y H2 -> wpAny (model X.prog X.w) X.A (f v u) Q X.xe s2):
  wpAny (model X.prog X.w) X.A (eval a X.env) (fun v s₁=>wpAny (model X.prog X.w) X.A (eval b X.env) (fun u s₂=>wpAny (model X.prog X.w) X.A (f v u) Q X.xe s₂) X.xe s₁) X.xe s:=by
 refine thn (ha pins s σ H _ I h) fun v s1 zz1=>?_;obtain ⟨x,H1,I1,r1,q1⟩:=zz1;refine thn (hb pins s1 σ H1 _ I1 q1) fun u s2 zz1=>?_;obtain ⟨y,H2,I2,r2,q2⟩:=zz1;exact hf v u s2 x y H2 I2 r1 r2 q2
theorem Ztt {op:Operator} {r:R2} (ho:OpR X (Yb8 op) r) (ha:PE X a ta) (hb:PE X b tb):PE X (.BinOp a op b pos) (tOp r ta tb):=by
 intro pins s σ H Q I h;exact wpAny_BinOp (Zrr ha hb I h fun v u s2 x y H2 I2 rx ry q=>ho pins s2 σ H2 x y v u Q I2 rx ry q)
theorem Zt6 {op:UnaryOp} {r:V -> Hp -> VK -> Prop} (ho:UnR X (unaryOp op) r) (ha:PE X a ta):PE X (.UnaryOp op a pos) (tUn r ta):=by
 intro pins s σ H Q I h;exact UnaryOp_ (thn (ha pins s σ H _ I h) fun v s1 ⟨x,H1,I1,r1,q1⟩=>ho pins s1 σ H1 x v Q I1 r1 q1)
theorem opI {f:Value -> Value -> Sem Value} {C:Int -> Int -> Prop} {g:Int -> Int -> Int}
  (rule:∀ (i j:Int) (t u:Tok) (s:Yg) (Q:Value -> Yg -> Prop) (E:Value -> Yg -> Prop),C i j -> Q (.int (g i j) s.toks) { s with toks:=s.toks + 1 } -> wpAny (model X.prog X.w) X.A (f (.int i t) (.int j u)) Q E s):
  OpR X f (rI C fun i j=>.int (g i j)):=by
 intro pins s σ H x y v u Q I rx ry h;obtain ⟨i,j,rfl,rfl,hc,q⟩:=h;obtain ⟨t,rfl⟩:=rx;obtain ⟨t',rfl⟩:=ry;exact rule i j t t' s _ _ hc ⟨.int (g i j),H,I.tok _,⟨_,rfl⟩,q⟩
theorem ZtG {f:Value -> Value -> Sem Value} {g:Int -> Int -> Int}
  (rule:∀ (i j:Int) (t u:Tok) (s:Yg) (Q:Value -> Yg -> Prop) (E:Value -> Yg -> Prop),Q (.int (g i j) s.toks) { s with toks:=s.toks + 1 } -> wpAny (model X.prog X.w) X.A (f (.int i t) (.int j u)) Q E s):
  OpR X f (rI0 fun i j=>.int (g i j)):=by
 intro pins s σ H x y v u Q I rx ry h;obtain ⟨i,j,rfl,rfl,q⟩:=h;obtain ⟨t,rfl⟩:=rx;obtain ⟨t',rfl⟩:=ry;exact rule i j t t' s _ _ ⟨.int (g i j),H,I.tok _,⟨_,rfl⟩,q⟩
theorem ZpW {f:Value -> Value -> Sem Value} {g:Int -> Int -> Bool}
  (rule:∀ (i j:Int) (t u:Tok) (s:Yg) (Q:Value -> Yg -> Prop) (E:Value -> Yg -> Prop),Q (.bool (g i j)) s -> wpAny (model X.prog X.w) X.A (f (.int i t) (.int j u)) Q E s):
  OpR X f (rI0 fun i j=>.bl (g i j)):=by
 intro pins s σ H x y v u Q I rx ry h;obtain ⟨i,j,rfl,rfl,q⟩:=h;obtain ⟨t,rfl⟩:=rx;obtain ⟨t',rfl⟩:=ry;exact rule i j t t' s _ _ ⟨.bl (g i j),H,I,rfl,q⟩
def Zu0 (i j:Int):Prop:=0 < j /\ j < 1073741824
def ZuT (i j:Int):Prop:=0 <= j /\ j <= 1000000 /\ i.natAbs < 2 ^ 64
def Zsf (i j:Int):Prop:=(-(2 ^ 64) < i /\ i < 2 ^ 64) \/ (-(2 ^ 64) < j /\ j < 2 ^ 64)
theorem Zsf.ok {i j:Int} (h:Zsf i j):IntMulOk i j:=by
 rcases h with ⟨h1,h2⟩ | ⟨h1,h2⟩
 ·exact .of_left (intBits_le_64 h1 h2)
 ·exact .of_right (intBits_le_64 h1 h2)
theorem Ztc:OpR X (Yb8 .Add) (rI0 fun i j=>.int (i + j)):=ZtG fun _ _ _ _ _ _ _ q=>add_int q
theorem ZrK:OpR X (Yb8 .Sub) (rI0 fun i j=>.int (i - j)):=ZtG fun _ _ _ _ _ _ _ q=>sub_int q
theorem ZrO:OpR X (Yb8 .Mult) (rI Zsf fun i j=>.int (i * j)):=opI fun _ _ _ _ _ _ _ hc q=>mul_int q hc.ok
theorem ZpR:OpR X (Yb8 .FloorDiv) (rI Zu0 fun i j=>.int (i / j)):=opI fun i j _ _ _ _ _ hc q=>by
 have h1:(0:Int) < j:=hc.1;have h2:j < 1073741824:=hc.2;exact floordiv_int (by exact fun z=>iN [] [_] 2 26014245025 T1 z h1) (by rw [Int.fdiv_eq_ediv_of_nonneg i (by exact Yi8 h1)]; exact q) (.inl (PyProof.noPylong_small (by omega)))
theorem ZrS:OpR X (Yb8 .Mod) (rI (fun _ j=>0 < j) fun i j=>.int (i % j)):=opI fun i j _ _ _ _ _ hc q=>by
 have h1:(0:Int) < j:=hc;exact mod_int' (by exact fun z=>iN [] [_] 2 26014245025 T1 z h1) (by rw [Int.fmod_eq_emod_of_nonneg i (by exact Yi8 h1)]; exact q)
theorem Zs9:OpR X (Yb8 .Pow) (rI ZuT fun i j=>.int (i ^ j.toNat)):=opI fun _ _ _ _ _ _ _ hc q=>pow_int_small hc.1 hc.2.1 hc.2.2 q
theorem unI {f:Value -> Sem Value} {g:Int -> Int}
  (rule:∀ (i:Int) (t:Tok) (s:Yg) (Q:Value -> Yg -> Prop) (E:Value -> Yg -> Prop),Q (.int (g i) s.toks) { s with toks:=s.toks + 1 } -> wpAny (model X.prog X.w) X.A (f (.int i t)) Q E s):
  UnR X f (rU fun i=>.int (g i)):=by
 intro pins s σ H x v Q I rx h;obtain ⟨i,rfl,q⟩:=h;obtain ⟨t,rfl⟩:=rx;exact rule i t s _ _ ⟨.int (g i),H,I.tok _,⟨_,rfl⟩,q⟩
theorem ZsJ:UnR X (unaryOp .USub) (rU fun i=>.int (-i)):=unI fun _ _ _ _ _ q=>neg_int q
end
section
variable {X:Cx} {a b c:Expr} {ta tb tc:TE} {pos:Pos}
theorem ZlD {pins:List (Addr × Obj)} {σ:St} {H:Hp} {s:Yg} {Q:VK} {k k':Bool} (I:Inv X pins σ H s) (q:Q (.bl k) H) (e:k = k'):EP X pins σ Q (.bool k') s:=by
 subst e;exact ⟨.bl k,H,I,rfl,q⟩
theorem Zuu:OpR X (Ya5 .Lt) (rI0 fun i j=>.bl (decide (i < j))):=ZpW fun _ _ _ _ _ _ _ q=>lt_int q
theorem Zt3:OpR X (Ya5 .LtE) (rI0 fun i j=>.bl (decide (i <= j))):=ZpW fun _ _ _ _ _ _ _ q=>le_int q
theorem ZtE:OpR X (Ya5 .Gt) (rI0 fun i j=>.bl (decide (j < i))):=ZpW fun _ _ _ _ _ _ _ q=>gt_int q
theorem Zus:OpR X (Ya5 .GtE) (rI0 fun i j=>.bl (decide (j <= i))):=ZpW fun _ _ _ _ _ _ _ q=>ge_int q
theorem Zm2:OpR X (Ya5 .In) (fun x y H Q=>∃ i j,x = .str i /\ y = .str j /\ Q (.bl (!(Ybp j i 0 j.length 1).isEmpty)) H):=by
 intro pins s σ H x y v u Q I rx ry h;obtain ⟨i,j,rfl,rfl,q⟩:=h;obtain ⟨t,rfl⟩:=rx;obtain ⟨t',rfl⟩:=ry;exact in_str (ZlD I q rfl)
theorem Zr3:OpR X (Ya5 .Is) (fun x y H Q=>y = .non /\ Q (.bl (decide (x = .non))) H):=by
 intro pins s σ H x y v u Q I rx ry h;obtain ⟨rfl,q⟩:=h;cases ry;refine is_none_gen (ZlD I q ?_);cases x <;> first
  | (cases rx; rfl)
  | (obtain ⟨t,rfl⟩:=rx; rfl)
theorem Zjw:OpR X (Ya5 .NotIn) (fun x y H Q=>∃ i j,x = .str i /\ y = .str j /\ Q (.bl (!(!(Ybp j i 0 j.length 1).isEmpty))) H):=by
 intro pins s σ H x y v u Q I rx ry h;obtain ⟨i,j,rfl,rfl,q⟩:=h;obtain ⟨t,rfl⟩:=rx;obtain ⟨t',rfl⟩:=ry;exact notIn_str (ZlD I q rfl)
theorem OpR.or {f:Value -> Value -> Sem Value} {r r':R2} (h:OpR X f r) (h':OpR X f r'):OpR X f (fun x y H Q=>r x y H Q \/ r' x y H Q):=by
 intro pins s σ H x y v u Q I rx ry q;rcases q with q | q
 ·exact h pins s σ H x y v u Q I rx ry q
 ·exact h' pins s σ H x y v u Q I rx ry q
theorem Zqw {op:CmpOp} {r:R2} (ho:OpR X (Ya5 op) r) (ha:PE X a ta) (hb:PE X b tb) (hm:Ygc op b = false):PE X (.Compare a [op] [b] pos) (tOp r ta tb):=by
 intro pins s σ H Q I h;exact wpAny_Compare1 (Zrr ha hb I h fun v u s2 x y H2 I2 rx ry q=>ho pins s2 σ H2 x y v u Q I2 rx ry q) hm
def Zuo (t:TE):TT:=fun σ H Q=>t σ H fun x H'=>∃ k,x = .bl k /\ Q k H'
theorem Zqe {op:CmpOp} {r:R2} (ho:OpR X (Ya5 op) r) (ha:PE X a ta) (hb:PE X b tb) (hm:Ygc op b = false):PT X (.Compare a [op] [b] pos) (Zuo (tOp r ta tb)):=by
 intro pins s σ H Q I h;refine wpAny_isTrue_Compare1 (thn (ha pins s σ H _ I h) fun v s1 ⟨x,H1,I1,r1,q1⟩=>thn (hb pins s1 σ H1 _ I1 q1) fun u s2 ⟨y,H2,I2,r2,q2⟩=>
  thn (ho pins s2 σ H2 x y v u _ I2 r1 r2 q2) fun c s3 ⟨z,H3,I3,r3,k,e,q3⟩=>?_) hm
 subst e;cases r3;exact Ydj ⟨H3,I3,q3⟩
theorem ZhU:(Yac:Nat) < 2 ^ 63:=by rw [Ybe]; decide
theorem ZlG:OpR X (Yb8 .Add) (fun x y H Q=>∃ i j,x = .str i /\ y = .str j /\ i.length + j.length <= Yac /\ Q (.str (i ++ j)) H):=by
 intro pins s σ H x y v u Q I rx ry h;obtain ⟨i,j,rfl,rfl,hz,q⟩:=h;obtain ⟨t,rfl⟩:=rx;obtain ⟨t',rfl⟩:=ry;exact add_str (fun t' tk=>⟨.str (i ++ j),H,I.tok _,⟨_,rfl⟩,q⟩) hz
theorem vals1 {x:V} {us:List Value} (r:Vals [x] us):∃ u,us = [u] /\ RelV x u:=by
 cases r with
 | cons r1 r2=>cases r2; exact ⟨_,rfl,r1⟩
theorem vals2 {x y:V} {us:List Value} (r:Vals [x,y] us):∃ u w',us = [u,w'] /\ RelV x u /\ RelV y w':=by
 cases r with
 | cons r1 r2=>
  cases r2 with
  | cons r3 r4=>cases r4; exact ⟨_,_,rfl,r1,r3⟩
theorem ZmP:Za0 X (.type "int") (fun xs H Q=>(∃ i,xs = [.int i] /\ Q (.int i) H) \/ ∃ k,xs = [.bl k] /\ Q (.int (if k then 1 else 0)) H):=by
 intro pins s σ H xs us Q I r h;rcases h with ⟨i,rfl,q⟩ | ⟨k,rfl,q⟩
 ·obtain ⟨u,rfl,t,rfl⟩:=vals1 r
  exact call_int_int ⟨.int i,H,I,⟨_,rfl⟩,q⟩
 ·obtain ⟨u,rfl,r1⟩:=vals1 r
  cases r1
  exact call_int_bool ⟨.int (if k then 1 else 0),H,I.tok _,⟨_,rfl⟩,q⟩
theorem Zjh:Za0 X (.type "str") (fun xs H Q=>∃ i,xs = [.int i] /\ i.natAbs.log2 < 1920 /\ Q (.str (toString i)) H):=by
 intro pins s σ H xs us Q I r h;obtain ⟨i,rfl,hz,q⟩:=h;obtain ⟨u,rfl,t,rfl⟩:=vals1 r;exact PySem.P.str_of_int hz ⟨.str _,H,I.tok _,⟨_,rfl⟩,q⟩
def ZuN (K:Ya) (x:V) (H:Hp) (n:Nat):Prop:=
 match x with
 | .str y=>y.length <= Yac /\ n = y.length
 | .byt y=>y.size <= Yac /\ n = y.size
 | .ref p=>(∃ xs,SqL K H p xs /\ n = xs.length) \/ ∃ xs,SqT K H p xs /\ n = xs.length
 | _=>False
theorem Zph:Za0 X (.builtin "len") (fun xs H Q=>∃ x n,xs = [x] /\ ZuN X.K x H n /\ Q (.int n) H):=by
 intro pins s σ H xs us Q I r h;obtain ⟨x,n,rfl,e,q⟩:=h;obtain ⟨u,rfl,rx⟩:=vals1 r;have hl:=ZhU;have hs:Yac = 16777216:=Ybe;cases x with
 | str y=>
  obtain ⟨t,rfl⟩:=rx;obtain ⟨hy,e'⟩:y.length <= Yac /\ n = y.length:=e;subst e';exact len_str (by omega) ⟨.int _,H,I.tok _,⟨_,rfl⟩,q⟩
 | byt y=>
  obtain ⟨t,rfl⟩:=rx;obtain ⟨hy,e'⟩:y.size <= Yac /\ n = y.size:=e;subst e';exact PySem.W.len_bytes (by omega) ⟨.int _,H,I.tok _,⟨_,rfl⟩,q⟩
 | ref p=>
  cases rx
  have e':(∃ xs,SqL X.K H p xs /\ n = xs.length) \/ ∃ xs,SqT X.K H p xs /\ n = xs.length:=e;rcases e' with ⟨xs,hx,e'⟩ | ⟨xs,hx,e'⟩
  ·subst e'
   obtain ⟨its,r',pl,hz⟩:=I.list hx;have hlen:=r'.length;exact Calls.call_len_list pl.isList (by simp only [Ye]; omega) ⟨.int xs.length,H,I.tok _,⟨_,by simp only [Ye]; rw [hlen]⟩,q⟩
  ·subst e'
   obtain ⟨its,r',pl,hz⟩:=I.tuple hx;have hlen:=r'.length;exact len_tuple pl (by simp only [Ye]; omega) ⟨.int xs.length,H,I.tok _,⟨_,by simp only [Ye]; rw [hlen]⟩,q⟩
 | _=>exact (show False from e).elim
end
end L2
namespace L2
open PySem PySem.Spec PyProof.Rows
structure Zrl (h:Heap) (x dx C:Addr) (mA:Str -> Option Value):Prop where
 obj:h.get? x = some (Ycu C dx)
 ns:h.Ns1 dx mA
 ne:dx ≠ x
theorem Znp {h:Heap} {dx:Addr} {mA:Str -> Option Value} (n:h.Ns1 dx mA):∃ od,h.get? dx = some od /\ ∀ name,Yh7 name od = some (mA name):=by
 obtain ⟨o,es,ep,ho,hd,hk,_,hm⟩:=n;refine ⟨o,ho,fun name=>?_⟩;have e:=hm name;unfold nsFind findBy at e;rw [← Array.find?_toList] at e;unfold Yh7;rw [hd];dsimp only;split
 ·rename_i y q
  rw [q] at e;exact congrArg some e
 ·rename_i q
  rw [q] at e;have a:es.toList.any (·.refKey) = false:=by
   rw [List.any_eq_false];intro y hy;obtain ⟨z,t,hkey⟩:=hk y (Array.mem_toList_iff.mp hy);simp [DictEntry.refKey,hkey]
  have a':¬ es.toList.any (·.refKey) = true:=by rw [a]; exact Yav
  rw [if_neg a'];exact congrArg some e
theorem Zrl.look {h:Heap} {x dx C:Addr} {mA:Str -> Option Value} (I:Zrl h x dx C mA):∃ od,PySem.W.InstAt h x (Ycu C dx) C (some od) /\ ∀ name,Yh7 name od = some (mA name):=
 let ⟨od,ho,hl⟩:=Znp I.ns
 ⟨od,⟨I.obj,rfl,rfl,ho⟩,hl⟩
section
variable {prog:Yaf} {w:World} {A:Yar} {E:Value -> Yg -> Prop} {s:Yg} {K:Ya} {x dx C f:Addr} {mA:Str -> Option Value} {name:Str} {v:Value}
end
theorem ZgB.some_of {v:V} {o:Option Value} (r:ZgB (some v) o):∃ u,o = some u /\ RelV v u:=by
 cases o with
 | none=>exact (show False from r).elim
 | some u=>exact ⟨u,rfl,r⟩
section
variable {P:Yaf} {w:World} {H H':Hp} {h h':Heap} {a C dx:Addr} {fs fs':List (Str × V)}
theorem ZqN (hok:HOk P w H h) (e:H a = some (.ins C dx fs)):∃ mA,Zrl h a dx C mA /\ (∀ f,ZgB (fs.lookup f) (mA f)) /\ PySem.Within mA (fs.map (·.1)) /\ fs.length <= 1000 /\ H dx = some (.own a):=by
 obtain ⟨d,z,ne,ob,mA,n,r,q⟩:=(show ZaX P w H h a (.ins C dx fs) from hok a _ e);exact ⟨mA,⟨ob,n,ne⟩,r,q,z,d⟩
end
structure Cls (K:Ya) (C:Addr):Prop where
 pg:PySem.W.plainGet K C Str.empty = true
 hd:PySem.W.hasDictIn K C = true
 po:PySem.W.plainOver K C = true
 sa:PySem.W.findIn K (.ref C) "__setattr__" = some (some (.builtin "object.__setattr__"))
theorem Cls.get {K:Ya} {C:Addr} (c:Cls K C) (f:Str):PySem.W.plainGet K C f = true:=c.pg
section
variable {X:Cx} {pins:List (Addr × Obj)} {σ:St} {H:Hp} {s:Yg} {a C dx:Addr} {fs:List (Str × V)} {f:Str} {v:V} {A:Yar} {E:Value -> Yg -> Prop}
theorem Inv.made (I:Inv X pins σ H s):Inv X pins σ (upd (upd H s.heap.objs.size (.own (s.heap.objs.size + 1))) (s.heap.objs.size + 1) (.ins C s.heap.objs.size []))
  { s with heap:=(s.heap.push Yby).push (Ycu C s.heap.objs.size) }:=by
 have e1:(s.heap.push Yby).get? s.heap.objs.size = some Yby:=Yr s.heap rfl;have e2:((s.heap.push Yby).push (Ycu C s.heap.objs.size)).get? (s.heap.objs.size + 1) = some (Ycu C s.heap.objs.size):=by
  have:=Yr (s.heap.push Yby) (o:=Ycu C s.heap.objs.size) rfl
  rwa [Yda] at this
 have e3:(s.heap.push Yby).Ns s.heap.objs.size (fun _=>none):=⟨Yby,#[],_,e1,rfl,(fun e he=>absurd he (by simp)),fun _=>rfl⟩;have I1:=I.laid (a:=s.heap.objs.size) (o:=.own (s.heap.objs.size + 1)) (h':=s.heap.push Yby) (t':=s.toks) (fun b u q=>Yf _ q) (Yi _) ⟨_,e1⟩;refine I1.laid (a:=s.heap.objs.size + 1) (o:=.ins C s.heap.objs.size []) (t':=s.toks) (fun b u q=>Yf _ q) (Yb4 (Yda _ _)) ?_;have ne:s.heap.objs.size ≠ s.heap.objs.size + 1:=Y2 (Nat.lt_succ_self _);refine ⟨by rw [Zaj ne,Zbl],Yag _,ne,e2,fun _=>none,(Heap.Ns1.of_empty e3).at fun o q=>Yf _ q,fun _=>True.intro,fun y hy=>absurd rfl hy⟩
end
section
variable {X:Cx} {o e value:Expr} {f:Str} {pos pos' tpos:Pos} {ta tv:TE}
end
section
variable {X:Cx} {pins:List (Addr × Obj)} {σ:St} {H:Hp} {s:Yg} {A:Yar} {E:Value -> Yg -> Prop} {Q:Value -> Yg -> Prop} {c:Value} {b:Bool}
inductive Zhf (K:Ya) (H:Hp):V -> Value -> Prop where
 | non:Zhf K H .non (.type "NoneType")
 | bl (x:Bool):Zhf K H (.bl x) (.type "bool")
 | int (i:Int):Zhf K H (.int i) (.type "int")
 | str (x:Str):Zhf K H (.str x) (.type "str")
 | flt (x:UInt64):Zhf K H (.flt x) (.type "float")
 | lst {a:Addr} {xs:List V} (e:H a = some (.lst xs)):Zhf K H (.ref a) (.type "list")
 | frz {a:Addr} {o:Obj} {xs:List V} (e:H a = some (.frz o (.lst xs))):Zhf K H (.ref a) (.type "list")
 | tup {a:Addr} {xs:List V} (e:H a = some (.tup xs)):Zhf K H (.ref a) (.type "tuple")
 | dK {a:Addr} {kvs:List (Key × V)} (e:H a = some (.dK kvs)):Zhf K H (.ref a) (.type "dict")
 | dT {a:Addr} {kvs:List (List Key × V)} (e:H a = some (.dT kvs)):Zhf K H (.ref a) (.type "dict")
 | ins {a C dx:Addr} {fs:List (Str × V)} (e:H a = some (.ins C dx fs)) (cl:Cls K C) (ha:PySem.W.findIn K (.ref C) "__class__" = some (some (.builtin "object.__class__")))
   (hn:PySem.W.specialIn K (.builtin "object.__class__") "__get__" = some (some (.builtin "getset_descriptor.__get__"))) (htk:PySem.W.takesIn K (.builtin "object.__class__") = some true)
   (hm:PySem.W.mroIn K C (.type "object") = some true):Zhf K H (.ref a) (.ref C)
theorem ZdN {x:V} {u t:Value} (I:Inv X pins σ H s) (rx:RelV x u) (ty:Zhf X.K H x t) (e:PySem.W.kitOne X.K t c = some b) (h:∀ tk,Q (.bool b) { s with toks:=tk }):
  wpAny (model X.prog X.w) A (call (.builtin "isinstance") [u,c]) Q E s:=by
 cases ty with
 | non=>cases (show u = Value.none from rx); exact Ya6 PySem.W.kitx_none I.kIn True.intro e (fun z=>nomatch z) h
 | bl y=>cases (show u = Value.bool y from rx); exact Ya6 PySem.W.kitx_bool I.kIn True.intro e (fun z=>nomatch z) h
 | int i=>obtain ⟨t,q⟩:=(show ∃ t,u = Value.int i t from rx); cases q; exact Ya6 PySem.W.kitx_int I.kIn True.intro e (fun z=>nomatch z) h
 | str y=>obtain ⟨t,q⟩:=(show ∃ t,u = Value.str y t from rx); cases q; exact Ya6 PySem.W.kitx_str I.kIn True.intro e (fun z=>nomatch z) h
 | flt y=>obtain ⟨t,q⟩:=(show ∃ t,u = Value.float y t from rx); cases q; exact Ya6 PySem.W.kitx_float I.kIn True.intro e (fun z=>nomatch z) h
 | @lst a xs ea=>
  cases (show u = Value.ref a from rx)
  obtain ⟨_,_,n,_,h1⟩:=(show ZaX X.prog X.w H s.heap a (.lst xs) from I.hok a _ ea);exact Ya6 Yf1 I.kIn ⟨_,h1,rfl⟩ e (fun z=>nomatch z) h
 | @frz a ob xs ea=>
  cases (show u = Value.ref a from rx)
  obtain ⟨_,_,_,n,_,h1⟩:=(show ZaX X.prog X.w H s.heap a (.frz ob (.lst xs)) from I.hok a _ ea);exact Ya6 Yf1 I.kIn ⟨_,h1,rfl⟩ e (fun z=>nomatch z) h
 | @tup a xs ea=>
  cases (show u = Value.ref a from rx)
  obtain ⟨_,_,_,p⟩:=(show ZaX X.prog X.w H s.heap a (.tup xs) from I.hok a _ ea);obtain ⟨o,h1,h2,_⟩:=p;exact Ya6 Yfk I.kIn ⟨o,h1,h2.1⟩ e (fun z=>nomatch z) h
 | @dK a kvs ea=>
  cases (show u = Value.ref a from rx)
  obtain ⟨_,_,vs,_,p⟩:=(show ZaX X.prog X.w H s.heap a (.dK kvs) from I.hok a _ ea);obtain ⟨o,es,ep,h1,h2,_⟩:=p;exact Ya6 Yf2 I.kIn ⟨o,h1,h2.1⟩ e (fun z=>nomatch z) h
 | @dT a kvs ea=>
  cases (show u = Value.ref a from rx)
  obtain ⟨_,_,xs,_,o,es,ep,h1,h2,_⟩:=(show ZaX X.prog X.w H s.heap a (.dT kvs) from I.hok a _ ea);exact Ya6 Yf2 I.kIn ⟨o,h1,h2.1⟩ e (fun z=>nomatch z) h
 | @ins a C dx fs ea cl ha hn htk hm=>
  cases (show u = Value.ref a from rx)
  obtain ⟨mA,O,_⟩:=ZqN I.hok ea;obtain ⟨od,J,_⟩:=O.look;exact Ya6 (PySem.W.kitx_own (cl.get _) cl.hd ha hn htk hm) I.kIn J e (fun z=>nomatch z) h
end
end L2
namespace L2
open PySem PySem.Spec PyProof.Rows
structure Zdw (k:Nat) (A:Yar):Prop where
 hd:A.handled = none
 dp:A.depth + 3 * k + 5 < recursionLimit
 un:A.units + 16 * k + 200 < cLine
theorem Zdw.mono {j k:Nat} {A:Yar} (r:Zdw k A) (h:j <= k):Zdw j A:=⟨r.hd,by have:=r.dp; exact lD 2 0x251b303d0cc11303251b103d0cc11 T1 this h,by have:=r.un; omega⟩
theorem Zdw.deeper {k:Nat} {A:Yar} (r:Zdw (k + 1) A) (env:Env):Zdw k (A.deeper env):=
 ⟨r.hd,by have:=r.dp; show A.depth + 1 + 3 * k + 5 < _; exact lC 1 0x251b103da0ccc1251ba1c03d0cc11 T1 this,by have:=r.un; show A.units + 3 + 16 * k + 200 < _; exact lC 1 0x2c82b110d31b0ccc12c82ba1c10d0cc11 T1 this⟩
theorem Zdw.in1 {k:Nat} {A:Yar} (r:Zdw (k + 1) A):Zdw k A.in1:=
 ⟨r.hd,by have:=r.dp; show A.depth + 3 * k + 5 < _; exact lC 1 0x251b103d0cc1251ba1c03d0cc11 T1 this,by have:=r.un; show A.units + 1 + 16 * k + 200 < _; exact lC 1 0x2c82b110da0ccc12c82ba1c10d0cc11 T1 this⟩
theorem Zdw.depth {k:Nat} {A:Yar} (r:Zdw k A):A.depth < recursionLimit:=by have:=r.dp; exact lC 1 0x201251b103d0cc11 T1 this
theorem Zdw.units {k:Nat} {A:Yar} (r:Zdw k A):A.units + 64 < cLine:=by have:=r.un; exact lC 1 0x2402b0c12c82b110d0cc11 T1 this
def Zuc:TA:=fun _ H Q=>Q [] H
def Zq6 (ta:TE) (tr:TA):TA:=fun σ H Q=>ta σ H fun x H1=>tr σ H1 fun xs H2=>Q (x :: xs) H2
section
variable {X:Cx} {e:Expr} {es:List Expr} {te:TE} {t:TA} {pos:Pos}
theorem ZjQ:PA X [] Zuc:=fun _ _ _ _ H Q I h=>Yf3 ⟨[],H,I,.nil,h⟩
theorem ZeD (ha:PE X e te) (hr:PA X es t) (hs:Yx (e :: es) X.env = (false,eval e X.env) :: Yx es X.env:=by rfl):PA X (e :: es) (Zq6 te t):=by
 intro pos pins s σ H Q I h;rw [hs];show wpAny _ _ (spliced ((false,eval e X.env) :: Ycl pos (Yx es X.env))) _ _ s;refine Yea (thn (ha pins s σ H _ I h) fun u s1 zz1=>?_);obtain ⟨x,H1,I1,r1,q1⟩:=zz1;exact thn (hr pos pins s1 σ H1 _ I1 q1) fun us s2 ⟨xs,H2,I2,r2,q2⟩=>⟨x :: xs,H2,I2,.cons r1 r2,q2⟩
def ZuY (t:TA):TE:=fun σ H Q=>t σ H fun xs H1=>xs.length <= Yac /\ ∀ p,H1 p = none -> Q (.ref p) (upd H1 p (.tup xs))
def Zu2 (t:TA):TE:=fun σ H Q=>t σ H fun xs H1=>xs.length <= Yac /\ ∀ p,H1 p = none -> Q (.ref p) (upd H1 p (.lst xs))
theorem Zpr {x1} (h:PA X es t):PE X (.Tuple es x1 pos) (ZuY t):=by
 intro pins s σ H Q I hq;refine wpAny_Tuple_spliced (thn (h pos pins s σ H _ I hq) fun us s1 ⟨xs,H1,I1,r,z,q⟩=>⟨by rw [← r.length]; exact z,?_⟩);have hf:H1 s1.heap.objs.size = none:=I1.hok.fresh (Yi _);refine ⟨.ref s1.heap.objs.size,upd H1 s1.heap.objs.size (.tup xs),I1.laid (t':=s1.toks) (fun b u e=>Yf _ e) (Yi _) ?_,rfl,q _ hf⟩;exact ⟨z,us,r,⟨_,Yr _ rfl,⟨rfl,rfl⟩,_,rfl⟩⟩
theorem ZsY (h:PA X es t):PE X (.List es pos) (Zu2 t):=by
 intro pins s σ H Q I hq;refine wpAny_List_spliced (thn (h pos pins s σ H _ I hq) fun us s1 ⟨xs,H1,I1,r,z,q⟩=>⟨by rw [← r.length]; exact z,?_⟩);have hf:H1 s1.heap.objs.size = none:=I1.hok.fresh (Yi _);refine ⟨.ref s1.heap.objs.size,upd H1 s1.heap.objs.size (.lst xs),I1.laid (t':=s1.toks) (fun b u e=>Yf _ e) (Yi _) ?_,rfl,q _ hf⟩;exact ⟨z,us,0,r,Yr _ rfl⟩
end
noncomputable abbrev Sp:=List V -> Hp -> VK -> XK -> Prop
noncomputable abbrev CXT:=List Env -> Hp -> Yg -> XK -> Value -> Yg -> Prop
structure Zmf (P:Yaf) (w:World) (K:Ya) (mg:Str -> Option Value) (base:Heap) (A:Yar) (outer:List Env) (s:Yg) (H:Hp):Prop where
 frames:A.frames = some outer
 mod:Mod K mg base
 bs:∀ b o,base.get? b = some o -> s.heap.get? b = some o /\ H b = none
 bsz:base.objs.size <= s.heap.objs.size
 funs:s.heap.FunFrames base outer
 frf:∀ b ∈ frs outer,H b = none
 hok:HOk P w H s.heap
 bare:Yg7 s.gens
def CE (outer:List Env) (P:Yaf) (w:World) (H:Hp) (s:Yg) (Q:VK) (u:Value) (s':Yg):Prop:=
 ∃ v H',s'.os = s.os /\ Yg7 s'.gens /\ Un (frs outer) [] H H' s.heap s'.heap /\ HOk P w H' s'.heap /\ RelV v u /\ Q v H'
def CR (CX:CXT) (outer:List Env) (P:Yaf) (w:World) (H:Hp) (s:Yg) (Q:VK) (E:XK) (r:Result) (s':Yg):Prop:=
 match r with
 | .ok (.ret u)=>CE outer P w H s Q u s'
 | .ok _=>False
 | .error e=>CX outer H s E e s'
structure Zf1 (P:Yaf) (w:World) (K:Ya) (mg:Str -> Option Value) (base:Heap) (CX:CXT) (k:Nat) (f:Addr) (fd:FuncData) (ps:List Str) (sp:Sp):Prop where
 len:∀ vs H Q E,sp vs H Q E -> vs.length = ps.length
 run:∀ (A:Yar) (outer:List Env) (s:Yg) (H:Hp) (args:Args) (us:List Value) (vs:List V) (Q:VK) (E:XK),Zdw k A -> Zmf P w K mg base A outer s H -> Yjg s fd args (ps.zip us) -> Vals vs us -> sp vs H Q E ->
  Yha (model P w) A (.call (.ref f) args) (CR CX outer P w H s Q E) s
theorem Zf1.mono {P:Yaf} {w:World} {K:Ya} {mg:Str -> Option Value} {base:Heap} {CX:CXT} {j k:Nat} {f:Addr} {fd:FuncData} {ps:List Str} {sp:Sp} (F:Zf1 P w K mg base CX j f fd ps sp) (h:j <= k):
  Zf1 P w K mg base CX k f fd ps sp:=⟨F.len,fun A outer s H args us vs Q E hr=>F.run A outer s H args us vs Q E (hr.mono h)⟩
theorem Zmf.in1 {P:Yaf} {w:World} {K:Ya} {mg:Str -> Option Value} {base:Heap} {A:Yar} {outer:List Env} {s:Yg} {H:Hp} (e:Zmf P w K mg base A outer s H):
  Zmf P w K mg base A.in1 outer s H:=⟨e.frames,e.mod,e.bs,e.bsz,e.funs,e.frf,e.hok,e.bare⟩
section
variable {X:Cx} {pins:List (Addr × Obj)} {σ:St} {H:Hp} {s s':Yg}
theorem Inv.env0 (I:Inv X pins σ H s):Zmf X.prog X.w X.K X.mg X.base X.A X.stack s H:=
 ⟨I.ok.frames,I.ok.mod,I.bs,Yj I.ok.bsz I.sz,I.stack,I.stkFree,I.hok,I.bare⟩
theorem Inv.after {Q:VK} {u:Value} (I:Inv X pins σ H s) (h:CE X.stack X.prog X.w H s Q u s'):EP X pins σ Q u s':=by
 obtain ⟨v,H',os,bare,un,hok,r,q⟩:=h;obtain ⟨hh,g,d,t,os'⟩:=s';obtain rfl:os' = s.os:=os;exact ⟨v,H',I.call (h':=hh) (g':=g) (d':=d) (t':=t) (ch:=[]) un hok bare (fun b z=>absurd z (by simp)),r,q⟩
end
def ZtL (sp:Sp) (dvs:List V) (E:XK) (t:TA):TE:=fun σ H Q=>t σ H fun vs H1=>sp (vs ++ dvs) H1 Q E
def Binds (K:Ya) (fd:FuncData) (ps:List Str) (ds:List Value):Prop:=
 ∀ (s:Yg) (us:List Value),K.In s.heap -> (us ++ ds).length = ps.length -> Yjg s fd ⟨us,[]⟩ (ps.zip (us ++ ds))
theorem Binds.all {K:Ya} {fd:FuncData} {ps:List Str} (h:∀ us:List Value,us.length = ps.length -> bindArgs fd ⟨us,[]⟩ = pure (ps.zip us)):Binds K fd ps []:=fun s us _ hl=>by
 rw [Yaj] at hl ⊢;exact .of_eq (h us hl)
def Zmd (CX:CXT) (X:Cx) (E:XK):Prop:=∀ (pins:List (Addr × Obj)) (σ:St) (H:Hp) (s:Yg) (e:Value) (s':Yg),Inv X pins σ H s -> CX X.stack H s E e s' -> X.xe e s'
section
variable {X:Cx} {CX:CXT} {k:Nat} {f C:Addr} {fd:FuncData} {ps:List Str} {sp:Sp} {dvs:List V} {ds:List Value} {E:XK} {x m:Str} {p pos apos:Pos} {e o:Expr} {es:List Expr} {ta:TE} {t:TA}
theorem Zsx {pins:List (Addr × Obj)} {σ:St} {H:Hp} {s:Yg} {Q:VK} {us:List Value} {vs:List V} (F:Zf1 X.prog X.w X.K X.mg X.base CX k f fd ps sp) (hr:Zdw k X.A) (hb:Binds X.K fd ps ds) (hd:Vals dvs ds) (hx:Zmd CX X E)
  (I:Inv X pins σ H s) (r:Vals vs us) (h:sp (vs ++ dvs) H Q E):wpAny (model X.prog X.w) X.A (call (.ref f) us) (EP X pins σ Q) X.xe s:=by
 have r2:Vals (vs ++ dvs) (us ++ ds):=r.append hd;have hl:(us ++ ds).length = ps.length:=by rw [← r2.length]; exact F.len _ _ _ _ h
 refine wpAny_call (Yfl (F.run X.A X.stack s H ⟨us,[]⟩ (us ++ ds) (vs ++ dvs) Q E hr I.env0 (hb s us I.kIn hl) r2 h) fun r s' hq=>?_);cases r with
 | error e=>exact hx pins σ H s e s' I hq
 | ok fl=>
  cases fl with
  | ret u=>exact I.after hq
  | next=>exact Ybx hq
  | brk=>exact Ybx hq
  | cont=>exact Ybx hq
theorem ZqD (F:Zf1 X.prog X.w X.K X.mg X.base CX k f fd ps sp) (hr:Zdw k X.A) (hg:Gl X x) (hm:X.mg x = some (.ref f)) (hk:Yeo X.K (.ref f) = true) (hb:Binds X.K fd ps ds) (hd:Vals dvs ds) (hx:Zmd CX X E)
  (ha:PA X (e :: es) t) (hdb:(x == ("__debug__":Str)) = false:=by decide) (he:Yx (e :: es) X.env = (false,eval e X.env) :: Yx es X.env:=by rfl) (hpl:(Ycl pos (Yx es X.env)).any (·.1) = false:=by rfl):
  PE X (.Call (.Name x p) (e :: es) [] pos) (ZtL sp dvs E t):=by
 intro pins s σ H Q I h;refine Yeb (Zmo I hg hm ?_ hdb);refine PySem.W.callWith_K (h₀:=X.base) I.ok.mod.kin hk (thn (ha pos pins s σ H _ I h) fun us s1 ⟨vs,H1,I1,r,q⟩=>⟨I1.kIn,?_⟩) he hpl;exact Zsx F hr hb hd hx I1 r q
end
def PK (X:Cx) (kws:List Keyword) (t:TA):Prop:=
 ∀ (pos:Pos) (pins:List (Addr × Obj)) (s:Yg) (σ:St) (H:Hp) (Q:List V -> Hp -> Prop),Inv X pins σ H s -> t σ H Q -> wpAny (model X.prog X.w) X.A (evalAll ((Ydk pos (Ybz kws X.env)).map (·.2))) (AP X pins σ Q) X.xe s
section
variable {X:Cx} {CX:CXT} {k:Nat} {f C:Addr} {fd:FuncData} {ps ks:List Str} {sp:Sp} {E:XK} {x m:Str} {p pos apos kpos:Pos} {e o:Expr} {es:List Expr} {kws:List Keyword} {te ta:TE} {t tk:TA} {nm:Option Str}
theorem Zsa:PK X [] Zuc:=fun _ _ _ _ H Q I h=>wpAny_evalAll_nil ⟨[],H,I,.nil,h⟩
theorem ZqE (ha:PE X e te) (hr:PK X kws t):PK X (⟨nm,e,kpos⟩ :: kws) (Zq6 te t):=by
 intro pos pins s σ H Q I h;show wpAny _ _ (evalAll ((do let v ← eval e X.env; Yjo pos; pure v) :: (Ydk pos (Ybz kws X.env)).map (·.2))) _ _ s;refine wpAny_evalAll_cons (Yc (thn (ha pins s σ H _ I h) fun u s1 ⟨x,H1,I1,r1,q1⟩=>Yc (Yd8 (Ym ?_))));exact thn (hr pos pins s1 σ H1 _ I1 q1) fun us s2 ⟨xs,H2,I2,r2,q2⟩=>⟨x :: xs,H2,I2,.cons r1 r2,q2⟩
variable {g:List Value -> List Value -> List Value} {gV:List V -> List V -> List V}
end
structure Zaz (N P:List Str) (sc:Scope):Prop where
 kind:sc.kind = .function
 co:sc.isCoroutine = false
 gen:sc.isGenerator = false
 nd:N.Nodup
 pre:N.take P.length = P
 par:∀ x ∈ P,sc.names.lookup x = some .local \/ sc.names.lookup x = some .cell
 nofree:∀ y ∈ sc.names,y.2 ≠ .free
theorem ZiG {Yf4:Str -> Option NameKind} {x:Str}:∀ {binds:List (Str × Value)} {m:Str -> Option Value},(∀ v,(x,v) ∉ binds) -> bindL Yf4 binds m x = m x
 | [],_,_=>rfl
 | (n,v) :: r,m,h=>by
  unfold bindL;rw [ZiG fun w hw=>h w (Yv _ hw)];split
  ·have:x ≠ n:=by rintro rfl; exact h v Yq
   simp [this]
  ·rfl
theorem ZiP {Yf4:Str -> Option NameKind} {x:Str}:∀ {binds:List (Str × Value)} {m:Str -> Option Value},(∀ v,(x,v) ∉ binds) -> bindC Yf4 binds m x = m x
 | [],_,_=>rfl
 | (n,v) :: r,m,h=>by
  unfold bindC;rw [ZiP fun w hw=>h w (Yv _ hw)];split
  ·rfl
  ·have:x ≠ n:=by rintro rfl; exact h v Yq
   simp [this]
theorem ZiL {Yf4:Str -> Option NameKind} {x:Str} {v:Value}:∀ {P:List Str} {vs:List Value} {i:Nat} {m:Str -> Option Value},P.Nodup -> P[i]? = some x -> vs[i]? = some v -> Yf4 x = some .local ->
  bindL Yf4 (P.zip vs) m x = some v
 | [],_,_,_,_,h,_,_=>by simp at h
 | _ :: _,[],_,_,_,_,h,_=>by simp at h
 | p :: P,w :: vs,0,m,nd,h1,h2,hk=>by
  simp at h1 h2; subst h1; subst h2;show bindL Yf4 ((p,w) :: P.zip vs) m p = _;unfold bindL;rw [ZiG fun v hv=>(Ycy.mp nd).1 (Yhb hv).1,if_pos hk];simp
 | p :: P,w :: vs,i + 1,m,nd,h1,h2,hk=>by
  show bindL Yf4 ((p,w) :: P.zip vs) m x = _;unfold bindL;exact ZiL (i:=i) (Ycy.mp nd).2 (by simpa using h1) (by simpa using h2) hk
theorem Zi2 {Yf4:Str -> Option NameKind} {x:Str} {v:Value}:∀ {P:List Str} {vs:List Value} {i:Nat} {m:Str -> Option Value},P.Nodup -> P[i]? = some x -> vs[i]? = some v -> Yf4 x ≠ some .local ->
  bindC Yf4 (P.zip vs) m x = some v
 | [],_,_,_,_,h,_,_=>by simp at h
 | _ :: _,[],_,_,_,_,h,_=>by simp at h
 | p :: P,w :: vs,0,m,nd,h1,h2,hk=>by
  simp at h1 h2; subst h1; subst h2;show bindC Yf4 ((p,w) :: P.zip vs) m p = _;unfold bindC;rw [ZiP fun v hv=>(Ycy.mp nd).1 (Yhb hv).1,if_neg hk];simp
 | p :: P,w :: vs,i + 1,m,nd,h1,h2,hk=>by
  show bindC Yf4 ((p,w) :: P.zip vs) m x = _;unfold bindC;exact Zi2 (i:=i) (Ycy.mp nd).2 (by simpa using h1) (by simpa using h2) hk
noncomputable def start (N:List Str) (vs:List V):St:=vs.map some ++ Yl (N.length - vs.length) none
noncomputable def Zk3 (CX:CXT) (P:Yaf) (w:World) (K:Ya) (mg:Str -> Option Value) (base:Heap) (N:List Str) (qual:Str) (scope:Scope) (f:Addr) (cd:Value) (A:Yar) (outer:List Env) (s:Yg) (H:Hp) (E:XK):Cx where
 prog:=P
 w:=w
 K:=K
 mg:=mg
 base:=base
 A:=A.deeper (Yh8 qual scope s.heap.objs.size f cd)
 N:=N
 s₀:=s
 H₀:=H
 env:=Yh8 qual scope s.heap.objs.size f cd
 outer:=outer
 stack:=Yh8 qual scope s.heap.objs.size f cd :: outer
 ex:=[]
 calm:=true
 fn:=fun _=>true
 pn:=[]
 xe:=fun e s'=>wpAny (model P w) (A.deeper (Yh8 qual scope s.heap.objs.size f cd)) (leaving (Yh8 qual scope s.heap.objs.size f cd) e) (fun _ s''=>CX outer H s E e s'') (fun e' s''=>CX outer H s E e' s'') s'
theorem ZkK {sc:Scope} {n:Nat} {x:Str} (h:sc.names.lookup x = some .cell):∃ c,(cellsFrom n sc.names []).lookup x = some c:=by
 have q:=Ygy sc.names n [] (.inl h);exact Yd3.mp q
theorem Zm8 {CX:CXT} {P:Yaf} {w:World} {K:Ya} {mg:Str -> Option Value} {base:Heap} {N ps:List Str} {qual:Str} {scope:Scope} {f:Addr} {cd:Value} {A:Yar} {outer:List Env} {s s1:Yg} {H:Hp} {E:XK} {us:List Value} {vs:List V}
  (S:Zaz N ps scope) (hd:A.handled = none) (e0:Zmf P w K mg base A outer s H) (hl:vs.length = ps.length) (r:Vals vs us)
  (x:InCallC s s.heap.objs.size (bindL (Yh8 qual scope s.heap.objs.size f cd).kindOf (ps.zip us) fun _=>none) (cellsFrom (s.heap.objs.size + 1) scope.names []) (bindC (Yh8 qual scope s.heap.objs.size f cd).kindOf (ps.zip us) fun _=>none) s1):
  Inv (Zk3 CX P w K mg base N qual scope f cd A outer s H E) [] (start N vs) H s1:=by
 have hpl:ps.length <= N.length:=by have:=congrArg Yjh S.pre; rw [Yay] at this; omega
 obtain ⟨h1,tk,rfl,hk⟩:=x.done;have noA:∀ b:Addr,b ∉ (Zk3 CX P w K mg base N qual scope f cd A outer s H E).ex:=fun b z=>absurd (show b ∈ ([]:List Addr) from z) (by simp);refine ⟨⟨e0.mod,S.kind,rfl,rfl,Yi _,fun y z c h1 h2=>?_,fun y hy=>?_,fun y c _ h=>?_,fun _=>hd,Around.frames_deeper e0.frames,.inr ⟨rfl,rfl⟩,fun b z=>absurd z (noA b),e0.bs,e0.bsz,fun b _ _=>noA b,fun b z=>absurd z (noA b),e0.funs,e0.frf⟩,
  rfl,e0.bare,Un.kept hk,⟨_,x.toInCall.ns,fun i y v h1 h2 h3=>?_⟩,fun y c h=>⟨_,x.cell y c h⟩,e0.hok.fresh (Yi _),fun y c h=>?_,fun p hp=>absurd (show p ∈ ([]:List (Addr × Obj)) from hp) (by simp),e0.hok.kept hk,?_⟩
 ·exact name_of_addr x.apart (Ya7 h1) (Ya7 h2)
 ·have hy:scope.names.lookup y = some .cell \/ scope.names.lookup y = some .free:=hy
  rcases hy with hy | hy
  ·exact ZkK hy
  ·exact absurd rfl (S.nofree _ (Ya7 hy))
 ·exact Yde (x.above y c (Ya7 h))
 ·have hi:i < vs.length:=by
   unfold start at h2;by_cases hi:i < vs.length
   ·exact hi
   ·rw [Yaq (by simpa using hi)] at h2
    rw [Yc6] at h2;split at h2 <;> cases h2
  have ha:vs[i]? = some v:=by
   unfold start at h2;rw [Y7 (by simpa using hi),Yp] at h2;cases e:vs[i]? with
   | none=>rw [e] at h2; cases h2
   | some a=>rw [e] at h2; cases h2; rfl
  obtain ⟨u,hu,rv⟩:=r.get ha;have hp:ps[i]? = some y:=by
   rw [← S.pre,Ycz (by exact lC 2 2203874037777 T1 hi hl)]; exact h1
  have ndP:ps.Nodup:=by rw [← S.pre]; exact S.nd.sublist (List.take_sublist _ _)
  refine ⟨u,rv,?_⟩;rcases S.par y (Yax hp) with k | k
  ·exact .inl ⟨k,ZiL ndP hp hu k⟩
  ·obtain ⟨c,e⟩:=ZkK (n:=s.heap.objs.size + 1) k
   refine .inr ⟨.inl k,c,e,?_⟩;have q:=x.cell y c e;rw [Zi2 ndP hp hu (by show scope.names.lookup y ≠ _; rw [k]; decide)] at q;exact q
 ·exact e0.hok.fresh (Yde (x.above y c (Ya7 h)))
 ·unfold start
  show _ = N.length;rw [Yw,Yk,Yhc];exact Yh (lC 1 2206541614113 T1 (Yd (lC 2 1236986302465 T1 hpl hl))) (lC 1 1288492400641 T1 (sbA _ _))
theorem Zue {CX:CXT} {P:Yaf} {w:World} {K:Ya} {mg:Str -> Option Value} {base:Heap} {k:Nat} {f:Addr} {name qual:Str} {params:Arguments} {body:List Stmt} {scope:Scope} {dV kV doc pm cdv ct oc:Value} {an od:Option Addr}
  {osl:Array (Option Value)} {N ps:List Str} {sp:Sp} (lk:K.lookup f = some ⟨oc,od,.func (Ydg name qual params body scope dV kV doc pm an cdv ct),osl⟩) (hcd:Yfu K cdv qual = true) (S:Zaz N ps scope)
  (len:∀ vs H Q E,sp vs H Q E -> vs.length = ps.length)
  (hbody:∀ (A:Yar) (outer:List Env) (s:Yg) (H:Hp) (vs:List V) (Q:VK) (E:XK),Zdw k (A.deeper (Yh8 qual scope s.heap.objs.size f cdv)) -> sp vs H Q E ->
   ∃ t,PSs (Zk3 CX P w K mg base N qual scope f cdv A outer s H E) body t /\ t { nx:=fun _ H'=>Q .non H',rt:=Q } (start N vs) H):
  Zf1 P w K mg base CX (k + 1) f (Ydg name qual params body scope dV kV doc pm an cdv ct) ps sp:=by
 refine ⟨len,fun A outer s H args us vs Q E hr e0 hb r hsp=>?_⟩;have hl:=len _ _ _ _ hsp;have KX:K.In s.heap:=e0.mod.kin.keeps fun b o e=>(e0.bs b o e).1;have lim:s.heap.NoLimit:=e0.mod.nolimit.keeps fun b o e=>(e0.bs b o e).1;have hkind:∀ y ∈ ps.zip us,scope.names.lookup y.1 = some .local \/ (scope.names.lookup y.1 = some .cell /\ ((cellsFrom (s.heap.objs.size + 1) scope.names []).lookup y.1).isSome = true):=fun ⟨n,v⟩ hy=>by
  rcases S.par n (Yhb hy).1 with q | q
  ·exact .inl q
  ·exact .inr ⟨q,Ygy _ _ _ (.inl q)⟩
 refine codeAny_call_function hr.depth (KX _ _ lk) rfl S.co S.gen rfl (PySem.W.codeRec_of KX hcd) (hb _ _ _ _ ?_);refine wpAny_newFunctionEnv_cells S.kind hkind fun env he s1 x=>?_;subst he;refine ⟨lim.keeps x.toInCall.keep,codeAny_func ?_⟩;obtain ⟨t,ht,hq⟩:=hbody A outer s H vs Q E (hr.deeper _) hsp;have I:Inv (Zk3 CX P w K mg base N qual scope f cdv A outer s H E) [] (start N vs) H s1:=Zm8 S hr.hd e0 hl r x;refine Ybt (ht [] s1 (start N vs) H _ I hq) (fun fl s' hs=>?_) fun e s' hs=>hs;have fin:∀ {σ':St} {H':Hp} {v:V} {u:Value},Inv (Zk3 CX P w K mg base N qual scope f cdv A outer s H E) [] σ' H' s' -> RelV v u -> Q v H' -> CE outer P w H s Q u s':=
  fun {σ' H' v u} J rv q=>⟨v,H',J.os,J.bare,J.base,J.hok,rv,q⟩
 cases fl with
 | ret u=>
  obtain ⟨v,σ',H',J,rv,q⟩:=hs;exact fin J rv q
 | next=>
  obtain ⟨σ',H',J,q⟩:=hs;exact fin (v:=V.non) (u:=Value.none) J rfl q
 | brk=>
  obtain ⟨_,_,_,q⟩:=hs;exact Ybx q
 | cont=>
  obtain ⟨_,_,_,q⟩:=hs;exact Ybx q
end L2
namespace L2
open PySem PySem.Spec PyProof.Rows
section
variable {X:Cx} {x:Str} {p pos:Pos} {e:Expr} {es:List Expr} {t:TA} {id T:String} {r:List V -> Hp -> VK -> Prop}
def tCB (r:List V -> Hp -> VK -> Prop) (t:TA):TE:=fun σ H Q=>t σ H fun vs H1=>r vs H1 Q
theorem Zh3 (hc:Za0 X (.builtin id) r) (hg:Gl X x) (hm:X.mg x = none) (hv:Yap x = some (.builtin id)) (ha:PA X (e :: es) t) (hn:x ≠ "__name__":=by decide) (hdb:(x == ("__debug__":Str)) = false:=by decide)
  (he:Yx (e :: es) X.env = (false,eval e X.env) :: Yx es X.env:=by rfl) (hpl:(Ycl pos (Yx es X.env)).any (·.1) = false:=by rfl):PE X (.Call (.Name x p) (e :: es) [] pos) (tCB r t):=by
 intro pins s σ H Q I h;refine Yeb (ZgL I hg hm hv ?_ hn hdb);exact PyProof.Rows.callWith_builtin1 (thn (ha pos pins s σ H _ I h) fun us s1 ⟨vs,H1,I1,r1,q1⟩=>hc pins s1 σ H1 vs us Q I1 r1 q1) he hpl
theorem ZmW (hc:Za0 X (.type T) r) (hg:Gl X x) (hm:X.mg x = none) (hv:Yap x = some (.type T)) (ha:PA X (e :: es) t) (hn:x ≠ "__name__":=by decide) (hdb:(x == ("__debug__":Str)) = false:=by decide)
  (he:Yx (e :: es) X.env = (false,eval e X.env) :: Yx es X.env:=by rfl) (hpl:(Ycl pos (Yx es X.env)).any (·.1) = false:=by rfl):PE X (.Call (.Name x p) (e :: es) [] pos) (tCB r t):=by
 intro pins s σ H Q I h;refine Yeb (ZgL I hg hm hv ?_ hn hdb);exact Ydf (thn (ha pos pins s σ H _ I h) fun us s1 ⟨vs,H1,I1,r1,q1⟩=>hc pins s1 σ H1 vs us Q I1 r1 q1) he hpl
end
end L2
namespace HT
open PySem PyProof.Rows
section
open PySem.SeqAt
open PySem.AutoSeq1 (wpAny_loadPart')
open PySem.MeetsSeq PySem.MeetsSeq2 PySem.MeetsSeq3
end
section
variable {prog:Yaf} {w:World} {A:Yar} {E:Value -> Yg -> Prop} {s:Yg}
theorem cat_tup {t b:Addr} {vs ws:List Value} {Q:Value -> Yg -> Prop} (ht:IsTup s.heap t vs.toArray) (hb:IsTup s.heap b ws.toArray) (hv:vs ≠ [])
  (h1:ws = [] -> Q (.ref t) s) (h2:ws ≠ [] -> Q (.ref s.heap.objs.size) { s with heap:=s.heap.push { cls:=.type "tuple",data:=.seq (vs ++ ws).toArray } })
  (hsz:vs.length + ws.length <= Yac):wpAny (model prog w) A (Yb8 .Add (.ref t) (.ref b)) Q E s:=by
 obtain ⟨⟨cls,dd,data,sl⟩,ho,hc,n,hd⟩:=id ht;obtain ⟨⟨cls2,dd2,data2,sl2⟩,ho2,hc2,n2,hd2⟩:=id hb;simp only at hc hd hc2 hd2;subst hc hd hc2 hd2;have e:vs.toArray ++ ws.toArray = (vs ++ ws).toArray:=by simp
 by_cases hw:ws = []
 ·exact Yja ⟨_,ho,rfl⟩ ⟨_,ho2,rfl⟩ Ygr Yiy Yeg Yec (Yd4 _ _)
   (tuple_addW1 t b vs.toArray ws.toArray n n2 dd dd2 sl sl2 (by simpa using hv) (by simp [hw])) ⟨ho,ho2,h1 hw⟩
 ·refine Yja ⟨_,ho,rfl⟩ ⟨_,ho2,rfl⟩ Ygr Yiy Yeg Yec (Yd4 _ _)
   (tuple_addW2 t b vs.toArray ws.toArray n n2 dd dd2 sl sl2 (by simpa using hv) (by simpa using hw) (by rw [Ye,Ye]; exact hsz)) ⟨ho,ho2,?_⟩
  rw [e];exact h2 hw
noncomputable def sIx (n d:Nat):Option Int -> Nat
 | none=>d
 | some v=>if v < 0 then (v + (n:Int)).toNat else min v.toNat n
theorem Zhw (n d:Nat):sIx n d none = d:=rfl
theorem Zjz (n d k:Nat):sIx n d (some (k:Int)) = min k n:=by
 show (if (k:Int) < 0 then ((k:Int) + (n:Int)).toNat else min (k:Int).toNat n) = min k n;rw [if_neg (Ye1.2 (Ybo _)),Yek]
theorem ZjZ (n d:Nat) (hd:d <= n) (o:Option Int):sIx n d o <= n:=by
 cases o with
 | none=>exact hd
 | some v=>
  show (if v < 0 then (v + (n:Int)).toNat else min v.toNat n) <= n;by_cases hv:v < 0
  ·rw [if_pos hv]; omega
  ·rw [if_neg hv]; exact Ybb _ _
theorem Zml (v:Int) (n d:Nat):(if v < 0 then max (v + (n:Int)) 0 else min v (n:Int)) = ((sIx n d (some v):Nat):Int):=by
 show (if v < 0 then max (v + (n:Int)) 0 else min v (n:Int)) = (((if v < 0 then (v + (n:Int)).toNat else min v.toNat n):Nat):Int);by_cases hv:v < 0
 ·simp only [if_pos hv]; exact clA _
 ·simp only [if_neg hv]; exact clB _ _ hv
theorem ZlS (lo hi:Option Int) (n:Nat):Ydt lo hi 1 (n:Int) = (((sIx n 0 lo:Nat):Int),((sIx n n hi:Nat):Int)):=by
 have h1:¬ ((1:Int) < 0):=by decide
 unfold Ydt;simp only [h1,if_false];refine Prod.ext ?_ ?_
 ·cases lo with
  | none=>rfl
  | some v=>exact Zml v n 0
 ·cases hi with
  | none=>rfl
  | some v=>exact Zml v n n
theorem ZlZ (i j:Nat):Ycs (i:Int) (j:Int) 1 = j - i:=by
 unfold Ycs;have h1:(1:Int) > 0:=by decide
 simp only [h1,if_true,Int.ediv_one];split <;> omega
theorem ZhE {v:Value} {o:Option Int} {Q:Option Int -> Yg -> Prop} (p:IsPart v o) (h:Q o s):wpAny (model prog w) A (Builtin.Slice.slicePartIndex v) Q E s:=by
 cases p with
 | none=>exact slicePart_none h
 | int i t=>exact slicePart_int h
theorem sliceApplied_gen {sl:Addr} {vl vu:Value} {lo hi:Option Int} {n:Nat} {Q:Int × Int × Nat -> Yg -> Prop} (hs:s.heap.IsSliceOf sl vl vu .none) (pl:IsPart vl lo) (pu:IsPart vu hi)
  (h:Q (((sIx n 0 lo:Nat):Int),1,sIx n n hi - sIx n 0 lo) s):wpAny (model prog w) A (Yfc (.ref sl) (pure (n:Int))) Q E s:=by
 obtain ⟨os,hos,hcs,hds⟩:=id hs;unfold Yfc Builtin.Slice.sliceFields;refine Yc (Yc (Ybj hos hds (x:=vl) rfl (Yc (Ybj hos hds (x:=vu) rfl (Yc (Ybj hos hds (x:=.none) rfl (Ym ?_)))))));refine Yc (slicePart_none ?_);show wpAny _ _ (if ((1:Int) == 0) = true then _ else _) _ _ s;rw [if_neg (by decide)];refine Yc (ZhE pl (Yc (ZhE pu (Yc (Ym ?_)))));show wpAny _ _ (match Ydt lo hi 1 (n:Int) with | (lo,hi)=>pure (lo,(1:Int),Ycs lo hi 1)) _ _ s;rw [ZlS lo hi n];show wpAny _ _ (pure (((sIx n 0 lo:Nat):Int),(1:Int),Ycs ((sIx n 0 lo:Nat):Int) ((sIx n n hi:Nat):Int) 1)) _ _ s;rw [ZlZ];exact Ym h
theorem Zop (xs:Array Value) (i k:Nat):((Yaa k).filterMap fun (m:Nat)=>xs[((i:Int) + (m:Int) * 1).toNat]?).toArray = ((xs.toList.drop i).take k).toArray:=by
 have e:(fun (m:Nat)=>xs[((i:Int) + (m:Int) * 1).toNat]?) = fun m=>xs[i + m]?:=by
  funext m;have:((i:Int) + (m:Int) * 1).toNat = i + m:=by omega
  rw [this]
 rw [e];have:=pick_run xs i k;rw [List.filterMap_map] at this;have e2:((fun x=>xs[x]?) ∘ fun x=>i + x) = fun m=>xs[i + m]?:=rfl;rw [e2] at this;rw [this]
theorem getItem_tuple_cut {t sl:Addr} {items:Array Value} {vl vu:Value} {lo hi:Option Int} {Q:Value -> Yg -> Prop} (ht:IsTup s.heap t items) (hs:s.heap.IsSliceOf sl vl vu .none) (pl:IsPart vl lo) (pu:IsPart vu hi)
  (hw:¬ (sIx items.size 0 lo = 0 /\ sIx items.size items.size hi = items.size))
  (h:Q (.ref s.heap.objs.size) { s with heap:=s.heap.push { cls:=.type "tuple",data:=.seq ((items.toList.drop (sIx items.size 0 lo)).take (sIx items.size items.size hi - sIx items.size 0 lo)).toArray } })
  (hsz:items.size <= Yac):wpAny (model prog w) A (Ye5 (.ref t) (.ref sl)) Q E s:=by
 have htake:sizeOk (.seq ((items.toList.drop (sIx items.size 0 lo)).take (sIx items.size items.size hi - sIx items.size 0 lo)).toArray):=by
  show ((items.toList.drop (sIx items.size 0 lo)).take (sIx items.size items.size hi - sIx items.size 0 lo)).toArray.size <= Yac;rw [Ye,Yay,List.length_drop,Yd0];exact lD 3 85606880155602945 T1 hsz (Yb9 _ _) (Ybb _ _)
 have hj:sIx items.size items.size hi <= items.size:=ZjZ _ _ (Yi _) hi;obtain ⟨os,hos,hcs,hds⟩:=id hs;have hTs:s.TypeIs (.ref sl) "slice":=⟨os,hos,hcs⟩;unfold Ye5
 try with_reducible refine Yau ?_
 first | refine Yc (Ym ?_) | skip
 refine Yc (Yf5 ht.typeIs (by decide) ?_);refine Yc (Ya0 (name:=Ybv "__getitem__") ht.typeIs Yb0
  (Ybw Yb0 ht.typeIs Yic ?_ (args_tuple_getitem _ _)))
 show wpAny _ _ (Yfd (.ref t) >>= _) _ _ s;refine Yc (tupleItemsOf_ ht ?_);refine Yc (Yfm hTs ?_);rw [if_pos (by decide)];refine Yc (sliceApplied_gen hs pl pu ?_);have hno:¬ ((((sIx items.size 0 lo:Nat):Int) == 0 && (1:Int) == 1 && (sIx items.size items.size hi - sIx items.size 0 lo) == items.size) = true):=by
  intro q;rw [Yu,Yu] at q;have q1:((sIx items.size 0 lo:Nat):Int) = 0:=eq_of_beq q.1.1;have q2:sIx items.size items.size hi - sIx items.size 0 lo = items.size:=eq_of_beq q.2;exact hw ⟨by exact Yh (iN [_] [] 1 3759016097 T1 q1) (Yag _),by exact Yh hj (lC 2 2268279672881 T1 q2 (Yb9 _ _))⟩
 show wpAny _ _ (if (((sIx items.size 0 lo:Nat):Int) == 0 && (1:Int) == 1 && (sIx items.size items.size hi - sIx items.size 0 lo) == items.size) = true then _ else _) _ _ s;rw [if_neg hno,Zop]
 first
  | exact Yc (m:=Yc1 _) (Ycf (Ym ⟨_,rfl,Ym h⟩) htake)
  | exact Yc (m:=Yc1 _) (Ycf (Yc (Ym (Ym ⟨_,rfl,Ym h⟩))) htake)
  | exact Yc (Yc (m:=Yc1 _) (Ycf (Ym (Ym ⟨_,rfl,Ym h⟩)) htake))
  | exact Yc (Yc (m:=Yc1 _) (Ycf (Ym ⟨_,rfl,Ym h⟩) htake))
end
end HT
namespace L2
open PySem PySem.Spec PyProof.Rows
noncomputable abbrev TO:=St -> Hp -> (Option Int -> Hp -> Prop) -> Prop
def PO (X:Cx) (e:Option Expr) (t:TO):Prop:=
 ∀ (pins:List (Addr × Obj)) (s:Yg) (σ:St) (H:Hp) (Q:Option Int -> Hp -> Prop),Inv X pins σ H s -> t σ H Q ->
  wpAny (model X.prog X.w) X.A (evalPart e X.env) (fun u s'=>∃ o H',Inv X pins σ H' s' /\ IsPart u o /\ Q o H') X.xe s
def Zqt:TO:=fun _ H Q=>Q none H
def ZtT (t:TE):TO:=fun σ H Q=>t σ H fun x H1=>∃ i,x = .int i /\ Q (some i) H1
section
variable {X:Cx} {e:Expr} {te:TE} {lo hi:Option Expr} {tl th:TO} {pos p2:Pos}
theorem Zqf:PO X none Zqt:=by
 intro pins s σ H Q I h;rw [evalPart_none];exact Ym ⟨none,H,I,.none,h⟩
theorem Zp3 (h:PE X e te):PO X (some e) (ZtT te):=by
 intro pins s σ H Q I hw;rw [evalPart_some];refine thn (h pins s σ H _ I hw) fun u s1 zz1=>?_;obtain ⟨x,H1,I1,r1,q1⟩:=zz1;obtain ⟨i,rfl,q⟩:=q1;obtain ⟨t,rfl⟩:=r1;exact ⟨some i,H1,I1,.int i t,q⟩
def SlR (X:Cx) (r:V -> Option Int -> Option Int -> Hp -> VK -> Prop):Prop:=
 ∀ (pins:List (Addr × Obj)) (s:Yg) (σ:St) (H:Hp) (x:V) (v vl vu:Value) (lo hi:Option Int) (sl:Addr) (Q:VK),Inv X pins σ H s -> RelV x v -> s.heap.IsSliceOf sl vl vu .none -> IsPart vl lo -> IsPart vu hi -> r x lo hi H Q ->
  ∃ T id,typeLookup (.type T) "__getitem__" = pure (some (.builtin id)) /\ s.TypeIs v T /\ wpAny (model X.prog X.w) X.A (Ye5 v (.ref sl)) (EP X pins σ Q) X.xe s
theorem SlR.or {r r':V -> Option Int -> Option Int -> Hp -> VK -> Prop} (h:SlR X r) (h':SlR X r'):SlR X (fun x lo hi H Q=>r x lo hi H Q \/ r' x lo hi H Q):=by
 intro pins s σ H x v vl vu lo hi sl Q I rx hs pl pu q;rcases q with q | q
 ·exact h pins s σ H x v vl vu lo hi sl Q I rx hs pl pu q
 ·exact h' pins s σ H x v vl vu lo hi sl Q I rx hs pl pu q
def tSl (r:V -> Option Int -> Option Int -> Hp -> VK -> Prop) (te:TE) (tl th:TO):TE:=fun σ H Q=>te σ H fun x H1=>tl σ H1 fun l H2=>th σ H2 fun u H3=>r x l u H3 Q
theorem Zpj {r:V -> Option Int -> Option Int -> Hp -> VK -> Prop} (hr:SlR X r) (he:PE X e te) (hl:PO X lo tl) (hu:PO X hi th):PE X (.Subscript e (.Slice lo hi none p2) pos) (tSl r te tl th):=by
 intro pins s σ H Q I h;refine Subscript_ (thn (he pins s σ H _ I h) fun v s1 zz1=>?_);obtain ⟨x,H1,I1,r1,q1⟩:=zz1;refine wpAny_Slice (thn (hl pins s1 σ H1 _ I1 q1) fun vl s2 ⟨l,H2,I2,pl,q2⟩=>thn (hu pins s2 σ H2 _ I2 q2) fun vu s3 zz1=>?_);obtain ⟨u,H3,I3,pu,q3⟩:=zz1;rw [evalPart_none];refine Ym ?_;have I4:Inv X pins σ H3 { s3 with heap:=s3.heap.push { cls:=.type "slice",data:=.fields #[vl,vu,.none] } }:=I3.kept (t':=s3.toks) fun b ob q=>Yf _ q;obtain ⟨T,id,hT,ht,hg⟩:=hr pins { s3 with heap:=s3.heap.push { cls:=.type "slice",data:=.fields #[vl,vu,.none] } } σ H3 x v vl vu l u s3.heap.objs.size Q I4 r1 (Heap.IsSliceOf.new ..) pl pu q3;show wpAny (model X.prog X.w) X.A (Yiz e (.Slice lo hi none p2) v (.ref s3.heap.objs.size)) (EP X pins σ Q) X.xe { s3 with heap:=s3.heap.push { cls:=.type "slice",data:=.fields #[vl,vu,.none] } };exact tail_any (ops:=[.ref s3.heap.objs.size,v]) ht hT hg (by with_unfolding_all rfl)
noncomputable def Zk1 (xs:List V) (lo hi:Option Int):List V:=(xs.drop (HT.sIx xs.length 0 lo)).take (HT.sIx xs.length xs.length hi - HT.sIx xs.length 0 lo)
theorem ZgZ (xs:List V) (lo hi:Option Int):(Zk1 xs lo hi).length <= xs.length:=by
 unfold Zk1;rw [Yay,List.length_drop];exact Yj (Ybb _ _) (Yb9 _ _)
noncomputable def Zu3 (K:Ya):V -> Option Int -> Option Int -> Hp -> VK -> Prop:=fun x lo hi H Q=>∃ a xs,x = .ref a /\ SqT K H a xs /\
 ¬ (HT.sIx xs.length 0 lo = 0 /\ HT.sIx xs.length xs.length hi = xs.length) /\ ∀ p,H p = none -> Q (.ref p) (upd H p (.tup (Zk1 xs lo hi)))
theorem Zl1:SlR X (Zu3 X.K):=by
 intro pins s σ H x v vl vu lo hi sl Q I rx hs pl pu h;obtain ⟨a,xs,rfl,hx,hw,q⟩:=h;cases rx;obtain ⟨its,r,ht,hz⟩:=I.tuple hx;have hlen:its.toArray.size = xs.length:=by rw [Ye]; exact r.length.symm
 refine ⟨"tuple",_,PyProof.Rows.slot_tuple_getitem.lookup,ht.typeIs,?_⟩;refine HT.getItem_tuple_cut ht hs pl pu (by rw [hlen]; exact hw) ?_ (by rw [hlen]; exact hz);rw [hlen];refine ⟨.ref s.heap.objs.size,_,I.laid (t':=s.toks) (o:=.tup (Zk1 xs lo hi)) (fun b ob q=>Yf _ q) (Yi _) ?_,rfl,q _ (I.hok.fresh (Yi _))⟩;exact ⟨Yj (ZgZ xs lo hi) hz,_,(r.drop (HT.sIx xs.length 0 lo)).take (HT.sIx xs.length xs.length hi - HT.sIx xs.length 0 lo),Zdt.new _ _⟩
def Zum (K:Ya):R2:=fun x y H Q=>∃ a b xs ys,x = .ref a /\ y = .ref b /\ SqT K H a xs /\ SqT K H b ys /\ xs ≠ [] /\ xs.length + ys.length <= Yac /\
 (ys = [] -> Q (.ref a) H) /\ (ys ≠ [] -> ∀ p,H p = none -> Q (.ref p) (upd H p (.tup (xs ++ ys))))
theorem Vals.nil_iff {xs:List V} {us:List Value} (r:Vals xs us):us = [] ↔ xs = []:=by
 cases r with
 | nil=>simp
 | cons _ _=>simp
theorem ZqF:OpR X (Yb8 .Add) (Zum X.K):=by
 intro pins s σ H x y v u Q I rx ry h;obtain ⟨a,b,xs,ys,rfl,rfl,ha,hb,hx,hz,q1,q2⟩:=h;cases rx;cases ry;obtain ⟨its,r1,p1,_⟩:=I.tuple ha;obtain ⟨its2,r2,p2,_⟩:=I.tuple hb;refine HT.cat_tup p1 p2 (fun z=>hx (r1.nil_iff.mp z)) (fun z=>⟨.ref a,H,I,rfl,q1 (r2.nil_iff.mp z)⟩) (fun z=>?_) (by rw [← r1.length,← r2.length]; exact hz);refine ⟨.ref s.heap.objs.size,_,I.laid (t':=s.toks) (o:=.tup (xs ++ ys)) (fun b ob q=>Yf _ q) (Yi _) ?_,rfl,q2 (fun w=>z (r2.nil_iff.mpr w)) _ (I.hok.fresh (Yi _))⟩;exact ⟨by rw [Yw]; exact hz,_,r1.append r2,Zdt.new _ _⟩
end
end L2
namespace L2
open PySem PySem.Spec PyProof.Rows
noncomputable def ixN (n:Nat) (i:Int):Option Nat:=if 0 <= i then (if i < n then some i.toNat else none) else if -(n:Int) <= i then some (i + n).toNat else none
noncomputable def atI {α:Type} (xs:List α) (i:Int):Option α:=(ixN xs.length i).bind fun j=>xs[j]?
theorem Zmr {n:Nat} {i:Int} {j:Nat} (h:ixN n i = some j):seqIndex? i n = some j /\ j < n /\ -(n:Int) <= i /\ i < n:=by
 unfold ixN at h;by_cases h0:0 <= i
 ·rw [if_pos h0] at h
  by_cases h1:i < n
  ·rw [if_pos h1] at h
   have e:i.toNat = j:=Yao h;exact ⟨by rw [Yji h0 h1,e],by exact iN [_,_,_] [_] 3 0x211008a1280911031 T1 e h1 (Ya8 h0),by exact iN [_] [_] 1 144182913 T1 h0,h1⟩
  ·rw [if_neg h1] at h; cases h
 ·rw [if_neg h0] at h
  by_cases h1:-(n:Int) <= i
  ·rw [if_pos h1] at h
   have e:(i + n).toNat = j:=Yao h;exact ⟨by rw [Yjb (by exact Yfx.1 h0) h1,e],by exact iN [_,_,_] [_] 3 0x211280c08a10ec11031 T1 e h0 (Ya8 (iN [_] [_] 1 8851524979073 T1 h1)),h1,by exact iN [_] [_] 1 134811329 T1 h0⟩
  ·rw [if_neg h1] at h; cases h
theorem Zj5 {α:Type} {xs:List α} {i:Int} {v:α} (h:atI xs i = some v):∃ j,seqIndex? i xs.length = some j /\ xs[j]? = some v /\ j < xs.length /\ -(xs.length:Int) <= i /\ i < xs.length:=by
 unfold atI at h;cases e:ixN xs.length i with
 | none=>rw [e] at h; cases h
 | some j=>
  rw [e] at h;obtain ⟨h1,h2,h3,h4⟩:=Zmr e;exact ⟨j,h1,h,h2,h3,h4⟩
def ZmH (b:Expr):Prop:=∀ o i,Yid b false o i = operate [o,i] (Ye5 o i)
def IxR (X:Cx) (r:R2):Prop:=
 ∀ (value slice:Expr) (pins:List (Addr × Obj)) (s:Yg) (σ:St) (H:Hp) (x y:V) (v u:Value) (Q:VK),Inv X pins σ H s -> RelV x v -> RelV y u -> r x y H Q ->
  Yid slice false v u = operate [v,u] (Ye5 v u) -> wpAny (model X.prog X.w) X.A (Yiz value slice v u) (EP X pins σ Q) X.xe s
def MtR (X:Cx) (id:String) (r:V -> List V -> Hp -> VK -> Prop):Prop:=
 ∀ (pins:List (Addr × Obj)) (s:Yg) (σ:St) (H:Hp) (x:V) (xs:List V) (v:Value) (us:List Value) (Q:VK),Inv X pins σ H s -> RelV x v -> Vals xs us -> r x xs H Q ->
  wpAny (model X.prog X.w) X.A (call (.builtin id) (v :: us)) (EP X pins σ Q) X.xe s
section
variable {X:Cx} {a b:Expr} {ta tb:TE} {pos:Pos}
theorem IxR.or {r r':R2} (h:IxR X r) (h':IxR X r'):IxR X (fun x y H Q=>r x y H Q \/ r' x y H Q):=by
 intro value slice pins s σ H x y v u Q I rx ry q hs;rcases q with q | q
 ·exact h value slice pins s σ H x y v u Q I rx ry q hs
 ·exact h' value slice pins s σ H x y v u Q I rx ry q hs
theorem Ztu {r:R2} (hr:IxR X r) (ha:PE X a ta) (hb:PE X b tb) (hs:ZmH b):PE X (.Subscript a b pos) (tOp r ta tb):=by
 intro pins s σ H Q I h;exact Subscript_ (Zrr ha hb I h fun v u s2 x y H2 I2 rx ry q=>hr a b pins s2 σ H2 x y v u Q I2 rx ry q (hs _ _))
def ZtU (K:Ya):R2:=fun x y H Q=>∃ p xs i v,x = .ref p /\ y = .int i /\ SqL K H p xs /\ atI xs i = some v /\ Q v H
def ZtM (K:Ya):R2:=fun x y H Q=>∃ p xs i v,x = .ref p /\ y = .int i /\ SqT K H p xs /\ atI xs i = some v /\ Q v H
def Ztp:R2:=fun x y H Q=>∃ z i c,x = .str z /\ y = .int i /\ z.length <= Yac /\ atI z.cps.toList i = some c /\ Q (.str ⟨#[c]⟩) H
theorem Zqz:IxR X (ZtU X.K):=by
 intro value slice pins s σ H x y v u Q I rx ry h hs;obtain ⟨p,xs,i,z,rfl,rfl,hq,he,q⟩:=h;cases rx;obtain ⟨t,rfl⟩:=ry;obtain ⟨its,r,pl,hz⟩:=I.list hq;obtain ⟨j,h1,h2,h3,h4,h5⟩:=Zj5 he;obtain ⟨w,ew,rw'⟩:=r.get h2;have hl:=r.length;have hn:=ZhU;have fin:EP X pins σ Q w s:=⟨z,H,I,rw',q⟩;by_cases h0:0 <= i
 ·have hj:i.toNat = j:=by
   rw [Yji h0 h5] at h1;exact Yao h1
  exact item_listR pl.isList h0 (by omega) (by rw [hj]; simpa using ew) fin hs
 ·have hj:(i + (its.toArray.size:Int)).toNat = j:=by
   rw [Yjb (by exact Yfx.1 h0) h4] at h1;rw [Ye,← hl];exact Yao h1
  exact Ygz (x:=w) pl.isList.typeIs slot_list_getitem.lookup
   (wpAny_getItem_list_neg (Q:=fun r s'=>r = w /\ EP X pins σ Q r s') pl.isList (by exact Yfx.1 h0) (by rw [Ye] <;> exact iN [_,_] [_] 2 6922527515414561 T1 hl h4) (by omega) (by rw [hj]; simpa using ew) ⟨rfl,fin⟩) hs
theorem Zsn:IxR X (ZtM X.K):=by
 intro value slice pins s σ H x y v u Q I rx ry h hs;obtain ⟨p,xs,i,z,rfl,rfl,hq,he,q⟩:=h;cases rx;obtain ⟨t,rfl⟩:=ry;obtain ⟨its,r,pl,hz⟩:=I.tuple hq;obtain ⟨j,h1,h2,h3,h4,h5⟩:=Zj5 he;obtain ⟨w,ew,rw'⟩:=r.get h2;have hl:=r.length;have hn:=ZhU;have fin:EP X pins σ Q w s:=⟨z,H,I,rw',q⟩;exact Ygz (x:=w) pl.typeIs slot_tuple_getitem.lookup
  (getItem_tuple (j:=j) (Q:=fun r s'=>r = w /\ EP X pins σ Q r s') pl (by omega) (by omega) (by rw [Ye,← hl]; exact h1) (by simpa using ew) ⟨rfl,fin⟩) hs
theorem Zs6:IxR X Ztp:=by
 intro value slice pins s σ H x y v u Q I rx ry h hs;obtain ⟨z,i,c,rfl,rfl,hz,he,q⟩:=h;obtain ⟨t,rfl⟩:=rx;obtain ⟨t',rfl⟩:=ry;obtain ⟨j,h1,h2,h3,h4,h5⟩:=Zj5 he;have hl:z.cps.toList.length = z.length:=by simp [Ybu]
 rw [hl] at h1 h4 h5;have hn:=ZhU;exact tail_any (Yf6 s z t) slot_str_getitem.lookup (getItem_str (c:=c) (by
  have e1:decide (i < -(2 ^ 63:Int)) = false:=decide_eq_false (by omega);have e2:decide (i >= 2 ^ 63) = false:=decide_eq_false (by omega);rw [e1,e2,Bool.or_false]) (by rw [h1]; simpa using h2) ⟨.str ⟨#[c]⟩,H,I.tok _,⟨_,rfl⟩,q⟩) hs
def rIx (K:Ya):R2:=fun x y H Q=>ZtU K x y H Q \/ ZtM K x y H Q \/ Ztp x y H Q
theorem Zs1:IxR X (rIx X.K):=Zqz.or (Zsn.or Zs6)
theorem ZlC (its:List Value) (n j:Nat) (u:Value):Ydl (·.setIfInBounds j u) { cls:=.type "list",data:=.seq its.toArray n } = { cls:=.type "list",data:=.seq (its.set j u).toArray n }:=by
 simp [Ydl]
theorem Inv.lst {pins:List (Addr × Obj)} {σ:St} {H:Hp} {s:Yg} {p:Addr} {xs:List V} (I:Inv X pins σ H s) (h:H p = some (.lst xs)):
  ∃ (its:List Value) (n:Nat),Vals xs its /\ s.heap.get? p = some { cls:=.type "list",data:=.seq its.toArray n } /\ xs.length <= Yac:=by
 obtain ⟨z,its,n,r,e⟩:=I.hok p _ h;exact ⟨its,n,r,e,z⟩
theorem Inv.lstUpd {pins:List (Addr × Obj)} {σ:St} {H:Hp} {s:Yg} {p:Addr} {xs ys:List V} {its its':List Value} {n n':Nat} {f:Obj -> Obj} (I:Inv X pins σ H s) (h:H p = some (.lst xs))
  (ho:s.heap.get? p = some { cls:=.type "list",data:=.seq its.toArray n }) (hf:f { cls:=.type "list",data:=.seq its.toArray n } = { cls:=.type "list",data:=.seq its'.toArray n' }) (r:Vals ys its') (hz:ys.length <= Yac) (t:Nat):
  Inv X pins σ (upd H p (.lst ys)) { s with heap:=s.heap.update p f,toks:=t }:=by
 have e:(s.heap.update p f).get? p = some { cls:=.type "list",data:=.seq its'.toArray n' }:=by
  rw [Yhd f ho (by rw [hf] <;> rfl),hf]
 refine I.write (x:=p) (e:=p) (by rw [h]; trivial) (.inl rfl) (fun b u hb q=>(Yg0 _ _ (Ya4 hb)).trans q) ⟨_,e⟩ ?_;exact ⟨hz,its',n',r,e⟩
noncomputable def Ztv:V -> V -> V -> Hp -> (Hp -> Prop) -> Prop:=fun o i v H Q=>∃ p xs k j,o = .ref p /\ i = .int k /\ H p = some (.lst xs) /\ ixN xs.length k = some j /\ Q (upd H p (.lst (xs.set j v)))
theorem set_list:ZtR X Ztv:=by
 intro pins s σ H o i v ov iv u Q I ro ri rv h;obtain ⟨p,xs,k,j,rfl,rfl,hp,hj,q⟩:=h;cases ro;obtain ⟨t,rfl⟩:=ri;obtain ⟨its,n,r,ho,hz⟩:=I.lst hp;obtain ⟨h1,h2,h3,h4⟩:=Zmr hj;have hl:=r.length;have hn:=ZhU;have I':Inv X pins σ (upd H p (.lst (xs.set j v))) { s with heap:=s.heap.update p (Ydl (·.setIfInBounds j u)) }:=
  I.lstUpd hp ho (ZlC its n j u) (r.set rv j) (by rw [List.length_set]; exact hz) s.toks
 by_cases h0:0 <= k
 ·have hk:k.toNat = j:=by
   rw [Yji h0 h4] at h1;exact Yao h1
  exact PySem.W.ki_setAt ho h0 (by omega) (by rw [Ye,← hl]; exact h4) (by rw [hk]; exact ⟨_,I',q⟩)
 ·have hk:(k + (its.toArray.size:Int)).toNat = j:=by
   rw [Yjb (by exact Yfx.1 h0) h3] at h1;rw [Ye,← hl];exact Yao h1
  exact PySem.W.ki_setBack ho (by exact Yfx.1 h0) (by rw [Ye,← hl]; exact h3) (by omega) (by rw [hk]; exact ⟨_,I',q⟩)
theorem Zjq (lo hi:Option Int) (n:Nat):(Yel lo hi none n).1 = ((HT.sIx n 0 lo:Nat):Int) /\ (Yel lo hi none n).2.1 = ((HT.sIx n n hi:Nat):Int) /\ (Yel lo hi none n).2.2 = 1:=by
 refine ⟨?_,?_,rfl⟩
 ·cases lo with
  | none=>simp [Yel,HT.sIx]
  | some i=>
   simp only [Yel,HT.sIx,Option.getD_none,show (1:Int) > 0 by decide,if_true];by_cases h:i < 0
   ·simp only [h,if_true] <;> exact clC _ _ h
   ·simp only [h,if_false] <;> exact clD _ _ h
 ·cases hi with
  | none=>simp [Yel,HT.sIx]
  | some i=>
   simp only [Yel,HT.sIx,Option.getD_none,show (1:Int) > 0 by decide,if_true];by_cases h:i < 0
   ·simp only [h,if_true] <;> exact clC _ _ h
   ·simp only [h,if_false] <;> exact clD _ _ h
theorem Zif (its:List Value) (lo hi:Option Int):slicePick its.toArray lo hi none = ((its.drop (HT.sIx its.length 0 lo)).take (HT.sIx its.length its.length hi - HT.sIx its.length 0 lo)).toArray:=by
 obtain ⟨h1,h2,h3⟩:=Zjq lo hi its.toArray.size;unfold slicePick;rw [h1,h2,h3];simp only [sliceRange_one,pick_run,Ye] <;> rfl
noncomputable def Zu5 (K:Ya):V -> Option Int -> Option Int -> Hp -> VK -> Prop:=fun x lo hi H Q=>∃ a xs,x = .ref a /\ SqL K H a xs /\ ∀ p,H p = none -> Q (.ref p) (upd H p (.lst (Zk1 xs lo hi)))
theorem Zp0:SlR X (Zu5 X.K):=by
 intro pins s σ H x v vl vu lo hi sl Q I rx hs pl pu h;obtain ⟨a,xs,rfl,hx,q⟩:=h;cases rx;obtain ⟨its,r,ht,hz⟩:=I.list hx;have hlen:=r.length;refine ⟨"list",_,slot_list_getitem.lookup,ht.isList.typeIs,?_⟩;refine wpAny_getItem_list_slice ht.isList hs pl pu .none (by simp) ?_ (by rw [Ye] <;> exact lC 2 2268279672881 T1 hlen hz);rw [Zif,← hlen];refine ⟨.ref s.heap.objs.size,_,I.laid (t':=s.toks) (o:=.lst (Zk1 xs lo hi)) (fun b ob q=>Yf _ q) (Yi _) ?_,rfl,q _ (I.hok.fresh (Yi _))⟩;exact ⟨Yj (ZgZ xs lo hi) hz,_,0,(r.drop (HT.sIx xs.length 0 lo)).take (HT.sIx xs.length xs.length hi - HT.sIx xs.length 0 lo),Yr _ rfl⟩
noncomputable def Zfy:V -> Bool
 | .non=>true
 | .bl _=>true
 | .int _=>true
 | .str _=>true
 | _=>false
noncomputable def eqV:V -> V -> Bool
 | .non,.non=>true
 | .bl a,.bl b=>a == b
 | .bl a,.int b=>(if a then 1 else 0) == b
 | .int a,.bl b=>a == (if b then 1 else 0)
 | .int a,.int b=>a == b
 | .str a,.str b=>a == b
 | _,_=>false
theorem ZrB {A:Yar} {s:Yg} {y x:V} {u v:Value} (ry:RelV y u) (rx:RelV x v) (fy:Zfy y = true) (fx:Zfy x = true):Yi2 A s u v (eqV y x):=by
 cases y with
 | non=>
  cases ry
  cases x with
  | non=>cases rx; exact Yhe _
  | bl b=>cases rx; exact Yhw b
  | int b=>obtain ⟨t,rfl⟩:=rx; exact Yie b t
  | str b=>obtain ⟨t,rfl⟩:=rx; exact Yif b t
  | _=>exact absurd (show false = true from fx) Yav
 | bl a=>
  cases ry
  cases x with
  | non=>cases rx; exact Yhx a
  | bl b=>cases rx; exact Yhy a b
  | int b=>obtain ⟨t,rfl⟩:=rx; exact Yig a b t
  | str b=>obtain ⟨t,rfl⟩:=rx; exact Yih a b t
  | _=>exact absurd (show false = true from fx) Yav
 | int a=>
  obtain ⟨t',rfl⟩:=ry;cases x with
  | non=>cases rx; exact Yii a t'
  | bl b=>cases rx; exact Yij a t' b
  | int b=>obtain ⟨t,rfl⟩:=rx; exact SeqAt.EqAt.int_int a t' b t
  | str b=>obtain ⟨t,rfl⟩:=rx; exact Yfg a t' b t
  | _=>exact absurd (show false = true from fx) Yav
 | str a=>
  obtain ⟨t',rfl⟩:=ry;cases x with
  | non=>cases rx; exact Yik a t'
  | bl b=>cases rx; exact Yil a t' b
  | int b=>obtain ⟨t,rfl⟩:=rx; exact Yfh a t' b t
  | str b=>obtain ⟨t,rfl⟩:=rx; exact SeqAt.EqAt.str_str a t' b t
  | _=>exact absurd (show false = true from fx) Yav
 | _=>exact absurd (show false = true from fy) Yav
noncomputable def eqU (x:V) (u:Value):Bool:=match u with
 | .none=>eqV .non x
 | .bool b=>eqV (.bl b) x
 | .int i _=>eqV (.int i) x
 | .str z _=>eqV (.str z) x
 | _=>false
theorem Zoi {x y:V} {u:Value} (r:RelV y u) (f:Zfy y = true):eqU x u = eqV y x:=by
 cases y with
 | non=>cases r; rfl
 | bl b=>cases r; rfl
 | int i=>obtain ⟨t,rfl⟩:=r; rfl
 | str z=>obtain ⟨t,rfl⟩:=r; rfl
 | _=>exact absurd (show false = true from f) Yav
theorem Zf7 {x:V}:∀ {xs:List V} {us:List Value},Vals xs us -> xs.all Zfy = true -> us.any (eqU x) = xs.any fun y=>eqV y x
 | _,_,.nil,_=>rfl
 | y :: xs,u :: us,.cons r t,f=>by
  rw [Ybc,Yu] at f;rw [Ybd,Ybd,Zoi r f.1,Zf7 t f.2]
theorem Zfc {A:Yar} {s:Yg} {x:V} {v:Value} (rx:RelV x v) (fx:Zfy x = true):∀ {xs:List V} {us:List Value},Vals xs us -> xs.all Zfy = true -> ∀ u ∈ us,Yi2 A s u v (eqU x u)
 | _,_,.nil,_=>fun u hu=>by cases hu
 | y :: xs,u :: us,.cons r t,f=>fun u' hu=>by
  rw [Ybc,Yu] at f;rcases Y3.mp hu with rfl | hu
  ·rw [Zoi r f.1]; exact ZrB r rx f.1 fx
  ·exact Zfc rx fx t f.2 u' hu
noncomputable def inV (x:V) (xs:List V):Bool:=xs.any fun y=>eqV y x
def rIn (K:Ya) (neg:Bool):R2:=fun x y H Q=>∃ p xs,y = .ref p /\ (SqL K H p xs \/ SqT K H p xs) /\ Zfy x = true /\ xs.all Zfy = true /\ Q (.bl (if neg then !inV x xs else inV x xs)) H
theorem Zns:OpR X (Ya5 .In) (rIn X.K false):=by
 intro pins s σ H x y v u Q I rx ry h;obtain ⟨p,xs,rfl,hq,fx,fs,q⟩:=h;cases ry;rcases hq with hq | hq
 ·obtain ⟨its,r,pl,hz⟩:=I.list hq
  refine SeqAt.in_listAt (eqU x) pl.isList (fun w hw=>Zfc rx fx r fs w (by simpa using hw)) ⟨.bl _,H,I,rfl,?_⟩;rw [show its.toArray.any (eqU x) = its.any (eqU x) by simp,Zf7 r fs];exact q
 ·obtain ⟨its,r,pl,hz⟩:=I.tuple hq
  refine SeqAt.in_tupleAt (eqU x) pl (fun w hw=>Zfc rx fx r fs w (by simpa using hw)) ⟨.bl _,H,I,rfl,?_⟩;rw [show its.toArray.any (eqU x) = its.any (eqU x) by simp,Zf7 r fs];exact q
theorem Zjx:OpR X (Ya5 .NotIn) (rIn X.K true):=by
 intro pins s σ H x y v u Q I rx ry h;obtain ⟨p,xs,rfl,hq,fx,fs,q⟩:=h;cases ry;rcases hq with hq | hq
 ·obtain ⟨its,r,pl,hz⟩:=I.list hq
  refine SeqAt.notIn_listAt (eqU x) pl.isList (fun w hw=>Zfc rx fx r fs w (by simpa using hw)) ⟨.bl _,H,I,rfl,?_⟩;rw [show its.toArray.any (eqU x) = its.any (eqU x) by simp,Zf7 r fs];exact q
 ·obtain ⟨its,r,pl,hz⟩:=I.tuple hq
  refine SeqAt.notIn_tupleAt (eqU x) pl (fun w hw=>Zfc rx fx r fs w (by simpa using hw)) ⟨.bl _,H,I,rfl,?_⟩;rw [show its.toArray.any (eqU x) = its.any (eqU x) by simp,Zf7 r fs];exact q
theorem Za0.or {f:Value} {r r':List V -> Hp -> VK -> Prop} (h:Za0 X f r) (h':Za0 X f r'):Za0 X f (fun xs H Q=>r xs H Q \/ r' xs H Q):=by
 intro pins s σ H xs us Q I rs q;rcases q with q | q
 ·exact h pins s σ H xs us Q I rs q
 ·exact h' pins s σ H xs us Q I rs q
theorem ZjO:Za0 X (.type "list") (fun xs H Q=>∃ p ys,xs = [.ref p] /\ (SqL X.K H p ys \/ SqT X.K H p ys) /\ ∀ l,H l = none -> Q (.ref l) (upd H l (.lst ys))):=by
 intro pins s σ H xs us Q I r h;obtain ⟨p,ys,rfl,hq,q⟩:=h;obtain ⟨u,rfl,rx⟩:=vals1 r;cases rx;have fin:∀ (its:List Value),Vals ys its -> ys.length <= Yac -> ∀ (h':Heap) (c':Nat),(∀ b o',s.heap.get? b = some o' -> h'.get? b = some o') ->
   h'.get? s.heap.objs.size = some { cls:=.type "list",dict:=none,data:=.seq its.toArray c',slots:=#[] } -> EP X pins σ Q (.ref s.heap.objs.size) { s with heap:=h' }:=fun its r' hz h' c' kp e=>
  ⟨.ref s.heap.objs.size,_,I.laid (t':=s.toks) kp (Yi _) (show ZaX X.prog X.w _ h' _ (.lst ys) from ⟨hz,its,c',r',e⟩),rfl,q _ (I.hok.fresh (Yi _))⟩
 rcases hq with hq | hq
 ·obtain ⟨its,r',pl,hz⟩:=I.list hq
  have hlen:=r'.length;obtain ⟨o,ho,hc,n,hd⟩:=pl.isList;exact call_list_seq p (.inl rfl) ho hc hd (fun h' c' kp e=>fin its r' hz h' c' kp e) (by simp only [Ye] <;> exact lC 2 2268279672881 T1 hlen hz)
 ·obtain ⟨its,r',pl,hz⟩:=I.tuple hq
  have hlen:=r'.length;obtain ⟨o,ho,hc,n,hd⟩:=pl;exact call_list_seq p (.inr rfl) ho hc hd (fun h' c' kp e=>fin its r' hz h' c' kp e) (by simp only [Ye] <;> exact lC 2 2268279672881 T1 hlen hz)
theorem Zix:Za0 X (.type "tuple") (fun xs H Q=>∃ p ys,xs = [.ref p] /\ ((SqL X.K H p ys /\ ∀ l,H l = none -> Q (.ref l) (upd H l (.tup ys))) \/ (SqT X.K H p ys /\ Q (.ref p) H))):=by
 intro pins s σ H xs us Q I r h;obtain ⟨p,ys,rfl,h⟩:=h;obtain ⟨u,rfl,rx⟩:=vals1 r;cases rx;rcases h with ⟨hq,q⟩ | ⟨hq,q⟩
 ·obtain ⟨its,r',pl,hz⟩:=I.list hq
  have hlen:=r'.length;refine call_tuple_list pl.isList (fun h' kp=>?_) (by simp only [Ye] <;> exact lC 2 2268279672881 T1 hlen hz);have I1:Inv X pins σ H { s with heap:=h' }:=I.kept (t':=s.toks) kp;have I2:Inv X pins σ (upd H h'.objs.size (.tup ys)) { s with heap:=h'.push { cls:=.type "tuple",data:=.seq its.toArray } }:=
   I1.laid (t':=s.toks) (fun b o e=>Yf _ e) (Yi _) (show ZaX X.prog X.w _ _ _ (.tup ys) from ⟨hz,its,r',Zdt.new _ _⟩)
  exact ⟨.ref h'.objs.size,_,I2,rfl,q _ (I1.hok.fresh (Yi _))⟩
 ·obtain ⟨its,r',pl,hz⟩:=I.tuple hq
  exact call_tuple_same pl ⟨.ref p,H,I,rfl,q⟩
def tyV (K:Ya) (T:String) (x:V) (H:Hp):Prop:=match x with
 | .str _=>T = "str"
 | .int _=>T = "int"
 | .ref p=>(T = "list" /\ ∃ xs,SqL K H p xs) \/ (T = "tuple" /\ ∃ o,K.lookup p = some o /\ o.cls = .type "tuple" /\ o.dict = none) \/
   (T = "dict" /\ ((∃ kvs,H p = some (.dK kvs)) \/ ∃ kvs,H p = some (.dT kvs))) \/ (T = "set" /\ ∃ S n,H p = some (.set S n))
 | _=>False
theorem ZsK {pins:List (Addr × Obj)} {σ:St} {H:Hp} {s:Yg} {T:String} {x:V} {v:Value} (I:Inv X pins σ H s) (r:RelV x v) (ty:tyV X.K T x H):
  s.TypeIs v T /\ ∀ a,v = .ref a -> ∃ ob,s.heap.get? a = some ob /\ ob.dict = none:=by
 cases x with
 | str z=>
  obtain ⟨t,rfl⟩:=r;cases (show T = "str" from ty);exact ⟨Yf6 s z t,fun _ e=>nomatch e⟩
 | int i=>
  obtain ⟨t,rfl⟩:=r;cases (show T = "int" from ty);exact ⟨typeIs_int s i t,fun _ e=>nomatch e⟩
 | ref p=>
  cases r
  rcases ty with ⟨rfl,xs,hq⟩ | ⟨rfl,o,hk,hc,hd⟩ | ⟨rfl,hk⟩ | ⟨rfl,S,n,hk⟩
  ·obtain ⟨its,_,pl,_⟩:=I.list hq
   refine ⟨pl.isList.typeIs,fun a e=>?_⟩;cases e;obtain ⟨o,n,e,c,hd,_⟩:=pl;exact ⟨o,e,hd⟩
  ·refine ⟨⟨o,I.kIn p o hk,hc⟩,fun a e=>?_⟩
   cases e
   exact ⟨o,I.kIn _ o hk,hd⟩
  ·have z:∃ o,s.heap.get? p = some o /\ o.ExactDict:=by
    rcases hk with ⟨kvs,hk⟩ | ⟨kvs,hk⟩
    ·obtain ⟨_,_,_,_,o,_,_,e,ex,_⟩:=I.hok p _ hk
     exact ⟨o,e,ex⟩
    ·obtain ⟨_,_,_,_,o,_,_,e,ex,_⟩:=I.hok p _ hk
     exact ⟨o,e,ex⟩
   obtain ⟨o,e,ex⟩:=z;refine ⟨⟨o,e,ex.1⟩,fun a e2=>?_⟩;cases e2;exact ⟨o,e,ex.2.1⟩
  ·obtain ⟨o,_,_,_,e,ex,_⟩:=I.hok p _ hk
   refine ⟨⟨o,e,ex.1⟩,fun a e2=>?_⟩;cases e2;exact ⟨o,e,ex.2.1⟩
 | _=>exact Ybx ty
def tBM (K:Ya) (T:String) (r:V -> List V -> Hp -> VK -> Prop) (to:TE) (t:TA):TE:=fun σ H Q=>to σ H fun x H1=>tyV K T x H1 /\ t σ H1 fun xs H2=>r x xs H2 Q
variable {o e:Expr} {es:List Expr} {to:TE} {t:TA} {name:Str} {apos cpos:Pos} {T id:String} {r:V -> List V -> Hp -> VK -> Prop}
theorem ZmN (pa:PlainAttrs T) (slot:Slot T name id) (hty:typeOf (.builtin id) = pure (.type "method_descriptor")) (hm:MtR X id r) (ho:PE X o to) (ha:PA X (e :: es) t)
  (hbase:Ydm o name X.env (eval o X.env) = eval o X.env:=by rfl)
  (hfew:((Ycl cpos (Yx (e :: es) X.env)).all (fun x=>!x.1) && (Ydk cpos (Ybz [] X.env)).all (fun x=>x.1.isSome)
   && decide ((e :: es).length + ([]:List Keyword).length + (if ([]:List Keyword).isEmpty then 0 else 1) < 30)) = true:=by rfl)
  (hline:(apos.endLine == cpos.line) = true:=by rfl) (hs:Yx (e :: es) X.env = (false,eval e X.env) :: Yx es X.env:=by rfl) (hplain:(Ycl cpos (Yx es X.env)).any (·.1) = false:=by rfl):
  PE X (.Call (.Attribute o name apos) (e :: es) [] cpos) (tBM X.K T r to t):=by
 intro pins s σ H Q I h;refine wpAny_Call_method_late hbase hfew hline rfl (thn (ho pins s σ H _ I h) fun v s1 zz1=>?_);obtain ⟨x,H1,I1,r1,ty,q1⟩:=zz1;obtain ⟨h1,h2⟩:=ZsK I1 r1 ty;refine ⟨T,id,pa,slot,hty,h1,h2,?_⟩;have hA:=ha cpos pins s1 σ H1 _ I1 q1;rw [hs] at hA ⊢;refine Yeh (by show (false || (Ycl cpos (Yx es X.env)).any (·.1)) = false; rw [hplain] <;> rfl) (Yew ?_);exact thn hA fun us s2 ⟨vs,H2,I2,r2,q2⟩=>hm pins s2 σ H2 x vs v us Q I2 r1 r2 q2
/- xs.append(e),list.index on a module's tuple .. are MtR facts of 06m -/
end
end L2
namespace L2
open PySem PySem.Spec PyProof.Rows
def MtM (X:Cx) (id:String) (r:V -> List V -> Hp -> VK -> Prop):Prop:=
 ∀ (pins:List (Addr × Obj)) (s:Yg) (σ:St) (H:Hp) (x:V) (xs:List V) (v:Value) (us:List Value) (Q:VK),Inv X pins σ H s -> RelV x v -> Vals xs us -> r x xs H Q ->
  wpAny (model X.prog X.w) X.A (call (.builtin id) (v :: us)) (EP X pins σ Q) X.xe s
theorem Vals.one:∀ {x:V} {us:List Value},Vals [x] us -> ∃ u,us = [u] /\ RelV x u
 | _,_,.cons r .nil=>⟨_,rfl,r⟩
theorem Vals.zero:∀ {us:List Value},Vals [] us -> us = []
 | _,.nil=>rfl
theorem Vals.dropLast {xs:List V} {us:List Value} (h:Vals xs us):Vals xs.dropLast us.dropLast:=by
 induction h with
 | nil=>exact .nil
 | cons r t ih=>
  cases t with
  | nil=>exact .nil
  | cons q t'=>exact .cons r ih
theorem Vals.rep {xs:List V} {us:List Value} (h:Vals xs us):∀ k:Nat,Vals (Yl k xs).flatten (Yl k us).flatten
 | 0=>.nil
 | k + 1=>by
  rw [Ya9,Ya9,Yb1,Yb1];exact Vals.append h (Vals.rep h k)
theorem foldl_rep (its:List Value):∀ (k:Nat) (acc:List Value),
  Yi3 (fun x1 x2=>x1 ++ x2) acc.toArray (Yl k its.toArray) = (acc ++ (Yl k its).flatten).toArray
 | 0,acc=>by simp
 | k + 1,acc=>by
  have e:acc.toArray ++ its.toArray = (acc ++ its).toArray:=by simp
  have e2:(acc ++ its) ++ (Yl k its).flatten = acc ++ (Yl (k + 1) its).flatten:=by
   rw [Ya9,Yb1,Yz]
  rw [← e2,← foldl_rep its k (acc ++ its),← e,Ya9,Ye6]
section
variable {X:Cx} {pins:List (Addr × Obj)} {σ:St} {H:Hp} {s:Yg} {l b:Addr} {xs ys zs:List V}
theorem Inv.lset {its its':List Value} {n:Nat} {f:Array Value -> Array Value} {t':Nat} (I:Inv X pins σ H s) (hH:H l = some (.lst xs))
  (e:s.heap.get? l = some { cls:=.type "list",data:=.seq its.toArray n }) (hf:f its.toArray = its'.toArray) (hv:Vals ys its') (hz:ys.length <= Yac):
  Inv X pins σ (upd H l (.lst ys)) { s with heap:=s.heap.update l (Ydl f),toks:=t' }:=by
 have q:=PySem.IsL.update e f;rw [hf] at q;refine I.write (x:=l) (e:=l) (by rw [hH]; exact trivial) (.inl rfl) (fun b' u hb hu=>(Yg0 s.heap (Ydl f) (Ya4 hb)).trans hu) ⟨_,q⟩ ?_;exact ⟨hz,its',_,hv,q⟩
theorem Inv.lnew {its:List Value} {t':Nat} (I:Inv X pins σ H s) (hv:Vals ys its) (hz:ys.length <= Yac):
  Inv X pins σ (upd H s.heap.objs.size (.lst ys)) { s with heap:=s.heap.push { cls:=.type "list",data:=.seq its.toArray },toks:=t' }:=
 I.laid (fun _ _ q=>Yf _ q) (Yi _) ⟨hz,its,0,hv,Yr _ rfl⟩
theorem Inv.fresh (I:Inv X pins σ H s):H s.heap.objs.size = none:=I.hok.fresh (Yi _)
theorem Inv.lstM (I:Inv X pins σ H s) (hH:H l = some (.lst xs)):xs.length <= Yac /\ ∃ (its:List Value) (n:Nat),Vals xs its /\ xs.length = its.length /\ s.heap.get? l = some { cls:=.type "list",data:=.seq its.toArray n }:=by
 obtain ⟨z,its,n,r,e⟩:=I.hok l _ hH;exact ⟨z,its,n,r,r.length,e⟩
theorem Zpb {n:Nat} (h:n <= Yac):Yd5 n = false:=by
 unfold Yd5;exact decide_eq_false (by omega)
end
section
variable {X:Cx}
noncomputable def ZmL:V -> List V -> Hp -> VK -> Prop:=fun x vs H Q=>∃ l xs y,x = .ref l /\ vs = [y] /\ H l = some (.lst xs) /\ xs.length < Yac /\ Q .non (upd H l (.lst (xs ++ [y])))
theorem ZiM:MtM X "list.append" ZmL:=by
 intro pins s σ H x vs v us Q I rx rv h;obtain ⟨l,xs,y,rfl,rfl,hH,hz,q⟩:=h;cases rx;obtain ⟨u,rfl,ru⟩:=rv.one;obtain ⟨z,its,n,r,hl,e⟩:=I.lstM hH;refine Ye2 F.slot_list_append ⟨_,e,rfl⟩ F.entry_list_append (F.args_list_append_2 _ _) (PySem.list_append l its.toArray n u (by rw [Ye]; exact lC 2 2268279672881 T1 hl z)) ⟨e,?_⟩;refine ⟨.non,_,I.lset (its':=its ++ [u]) hH e (by simp) (r.append (.cons ru .nil)) ?_,rfl,q⟩;rw [Yw,Yaw];exact lB 1 6991908881 T1 hz
def Zvg:R2:=fun x y H Q=>∃ l b xs zs,x = .ref l /\ y = .ref b /\ H l = some (.lst xs) /\ H b = some (.lst zs) /\ xs.length + zs.length <= Yac /\ ∀ p,H p = none -> Q (.ref p) (upd H p (.lst (xs ++ zs)))
theorem Zsy:OpR X (Yb8 .Add) Zvg:=by
 intro pins s σ H x y v u Q I rx ry h;obtain ⟨l,b,xs,zs,rfl,rfl,hH,hB,hz,q⟩:=h;cases rx;cases ry;obtain ⟨z,its,n,r,hl,e⟩:=I.lstM hH;obtain ⟨z2,its2,n2,r2,hl2,e2⟩:=I.lstM hB;refine PySem.P.add_list e e2 ?_ (by rw [Ye,Ye]; exact lE 3 0x413c0402c0132311031 T1 hl2 hl hz);have ea:its.toArray ++ its2.toArray = (its ++ its2).toArray:=by simp
 rw [ea];exact ⟨.ref _,_,I.lnew (t':=s.toks) (r.append r2) (by rw [Yw]; exact hz),rfl,q _ I.fresh⟩
def ZuM:R2:=fun x y H Q=>∃ l k xs,x = .ref l /\ y = .int k /\ H l = some (.lst xs) /\ -(2 ^ 63) <= k /\ k < 2 ^ 63 /\ xs.length * k.toNat <= Yac /\
 ∀ p,H p = none -> Q (.ref p) (upd H p (.lst (Yl k.toNat xs).flatten))
theorem len_rep {α:Type} (xs:List α) (k:Nat):(Yl k xs).flatten.length = k * xs.length:=by
 induction k with
 | zero=>simp
 | succ k ih=>rw [Ya9,Yb1,Yw,ih,Nat.succ_mul,Yi7]
theorem ZrG:OpR X (Yb8 .Mult) ZuM:=by
 intro pins s σ H x y v u Q I rx ry h;obtain ⟨l,k,xs,rfl,rfl,hH,h1,h2,hz,q⟩:=h;cases rx;obtain ⟨t,rfl⟩:=ry;obtain ⟨z,its,n,r,hl,e⟩:=I.lstM hH;have hlen:its.toArray.size * k.toNat <= Yac:=by rw [Ye,← hl]; exact hz
 have hcap:¬ its.toArray.size * k.toNat > (2 ^ 63 - 1) / 8:=by
  have:(Yac:Nat) <= (2 ^ 63 - 1) / 8:=by decide
  omega
 have hfit:¬ (!Builtin.List.listFitsIndex k) = true:=by
  rw [fitsIndex_both h1 h2];exact Yav
 have hlong:¬ Yd5 (its.toArray.size * k.toNat) = true:=by
  rw [Zpb hlen];exact Yav
 have hnew:Yi3 (fun x1 x2=>x1 ++ x2) #[] (Yl (if its.toArray.isEmpty = true then 0 else k.toNat) its.toArray) = (Yl k.toNat its).flatten.toArray:=by
  have f0:∀ m:Nat,Yi3 (fun x1 x2=>x1 ++ x2) #[] (Yl m its.toArray) = (Yl m its).flatten.toArray:=fun m=>by
   have:=foldl_rep its m [];rw [Ybq] at this;exact this
  rw [f0];cases its with
  | nil=>simp
  | cons a r'=>rw [if_neg (by simp)]
 refine wpAny_binaryOp_repeat_ref (T:="list") (U:="int") (by decide) ⟨_,e,rfl⟩ (fun s'=>typeIs_int s' k t) noFill_list_mul F.fills_int_mul F.slot_int_rmul repeat_list F.slot_int_index.lookup
  (Ye2 F.slot_int_rmul (typeIs_int s k t) F.entry_int_rmul (F.args_int_rmul_2 _ _) (int___rmul___int_list k t l its.toArray n)
   ⟨e,rfl,⟨_,e,rfl⟩,Ye2 F.slot_list_mul ⟨_,e,rfl⟩ F.entry_list_mul (F.args_list_mul_2 _ _) (AutoListH.list___mul___list_int_3 l its.toArray n k t hfit hcap hlong) ⟨e,?_⟩⟩)
 rw [hnew];exact ⟨.ref _,_,I.lnew (t':=s.toks) (r.rep k.toNat) (by rw [len_rep,Nat.mul_comm]; exact hz),rfl,q _ I.fresh⟩
end
section
variable {prog:Yaf} {w:World} {A:Yar} {E:Value -> Yg -> Prop} {s:Yg}
end
section
variable {X:Cx}
end
end L2
namespace Att
open PySem PySem.W PySem.Calls PyProof.Rows
theorem Zhd {P:Params} {h:Heap}:∀ (ns:List Int) (vs:List Value),WellAll P h vs (ns.map WData.int) -> IntsAre vs ns:=by
 intro ns
 induction ns with
 | nil=>
  intro vs w;rw [Yc5] at w;cases w;exact .nil
 | cons n ns ih=>
  intro vs w;rw [Yt] at w;cases w with
  | cons a b=>
   cases a
   exact .cons _ _ (ih _ b)
theorem ZnM {l:OpenLaw} {n:Nat} (hn:l.most = some n) {P:Params} {h:Heap} {args:List WData} {vals:List Value}
  (hpre:l.row.toRowW.claim.pre args = true) (hwl:WellAll P h vals args):
  ∃ a vs ns,vals = [Value.ref a] /\ args = [WData.list (ns.map WData.int)] /\ h.get? a = some { cls:=.type "list",data:=.seq vs.toArray } /\ IntsAre vs ns /\ ns.length <= n:=by
 have hsh:WShape.hasAll [] args [.list .int] = true:=(pre_splitW hpre).1;have hc:l.pre.holds [] { args:=args } = true:=(pre_splitW hpre).2;obtain ⟨d,r,rfl,h1,h2⟩:=hasAllW_cons hsh;obtain rfl:=hasAllW_nil h2;obtain ⟨xs,rfl,h3⟩:=hasW_list h1;obtain ⟨ns,rfl⟩:=items_int h3;have hlen:ns.length <= n:=by
  unfold OpenLaw.pre at hc;have h4:(WTm.not (.lt (.lit (.int (n:Int))) (.len (.arg 0)))).holds [] { args:=[.list (ns.map .int)] } = true:=by
   have h4:=(holds_andW hc).1;rw [hn] at h4;exact h4
  have h5:=condW_of h4 (w_not (w_lt w_lit (w_len_list (w_arg rfl))));rw [Yk] at h5;refine Y8 fun q=>?_;have q':(n:Int) < ((ns.length:Nat):Int):=by exact Yff.2 q
  first
   | (rw [decide_eq_true q'] at h5; exact absurd h5 (by decide))
   | (simp at h5; omega)
 cases hwl with
 | cons w1 w2=>
  cases w2
  cases w1 with
  | list ho hall=>exact ⟨_,_,ns,rfl,rfl,ho,Zhd ns _ hall,hlen⟩
theorem Zm0 (l:OpenLaw) (args:List WData):l.row.toRowW.claim.post args (.bool true) args = true:=
 postW_of (r:=l.row.toRowW) (X:=(true == true))
  (show WShape.has [] (.bool true) .bool = true by first | rfl | decide | simp [WShape.has,WShape.arms,WShape.armsAll])
  (show (WTm.eq .res (.lit (.bool true))).value [] { args:=args,res:=some (.bool true),after:=args } = some (.bool (true == true)) from w_eq_bool (w_res rfl) w_lit) rfl
theorem attach_call {l:OpenLaw} {n:Nat} {q:Yaf} {loose:List Str} {XP:(Str -> Option Value) -> Heap -> Prop} {YP:World -> Heap -> Prop} {d:DefRec}
  (hn:l.most = some n) (hdf:d.params.defaults = [])
  (call:∀ (w:World) (s₀ s₁:Yg) (mg mb:Str -> Option Value) (fa:Addr) (o:Obj) (pm cd doc:Value) (a:Addr) (vs:List Value) (ns:List Int),
   Ground q loose [] XP w s₀ mg mb s₁.heap -> YP w s₁.heap ->
   s₁.heap.get? fa = some o -> o.data = .func (docDef d.name d.params d.body d.scope pm cd doc) -> s₁.heap.CodeRec cd d.name -> mg d.name = some (.ref fa) ->
   s₁.heap.get? a = some { cls:=.type "list",data:=.seq vs.toArray } -> IntsAre vs ns -> ns.length <= n -> s₁.gens = #[] ->
   Yha (model l.prog w) Yim (.call (.ref fa) ⟨[.ref a],[]⟩) (fun r s'=>r = .ok (.ret (.bool true)) /\ OldK s₁.heap s'.heap /\ s'.os = s₁.os /\ Yg7 s'.gens) s₁):
  WalkO q loose XP YP l.row.toRowW d [] (fun f vs=>PySem.call f vs):=by
 intro w s₀ s₁ mg mb G Y fa o pm cd doc dV kV ho hd hcd hD hmg hg args vals as hpre hlay hrd hwl hlo;obtain rfl:dV = .none:=Dflts.none hD hdf;obtain rfl:kV = .none:=Dflts.noKw hD;obtain ⟨a,vs,ns,rfl,rfl,hobj,hints,hlen⟩:=ZnM hn hpre hwl;refine enter_call (Yfl (call w s₀ s₁ mg mb fa o pm cd doc a vs ns G Y ho (fd_plain hd) hcd hmg hobj hints hlen hg) fun r s' hq=>?_);obtain ⟨rfl,h2,h3,h4⟩:=hq;exact ⟨.inl ⟨.bool true,.bool true,[],rfl,fun _=>rfl,.bool true,Zm0 l _,fun _=>⟨List.Pairwise.nil,fun _ hm=>(nomatch hm)⟩⟩,h2,h3,h4⟩
section
variable {prog:Yaf} {w:World} {A:Yar} {E:Value -> Yg -> Prop} {s:Yg} {K:Frag}
end
end Att
namespace L2
open PySem PySem.Spec PyProof.Rows
theorem Zi0:∀ {vs:List Value} {ns:List Int},IntsAre vs ns -> Vals (ns.map V.int) vs
 | _,_,.nil=>.nil
 | _,_,.cons n t h=>.cons ⟨t,rfl⟩ (Zi0 h)
def Only (H:Hp):Prop:=∀ b,H b = none \/ ∃ o xs,H b = some (.frz o (.lst xs))
theorem Zod {P:Yaf} {w:World} {K:Ya} {mg mb:Str -> Option Value} {CX:CXT} {k:Nat} {fa a:Addr} {fd:FuncData} {x:Str} {sp:Sp} {s₁:Yg} {vs:List Value} {ns:List Int}
  (KX:K.In s₁.heap) (hns:s₁.heap.Ns Yn mg) (hb:s₁.heap.Ns builtinsNs mb) (hbb:∀ x:Str,x ≠ "__name__" -> mb x = Yap x) (hlim:s₁.heap.NoLimit) (hg:s₁.gens = #[])
  (ha:s₁.heap.get? a = some { cls:=.type "list",data:=.seq vs.toArray }) (hi:IntsAre vs ns) (hl:ns.length <= Yac) (hr:Zdw k Yim)
  (F:∀ base:Heap,K.In base -> base.Ns Yn mg -> Zf1 P w K mg base CX k fa fd [x] sp) (hbind:∀ (s:Yg) (u:Value),Yjg s fd ⟨[u],[]⟩ [(x,u)])
  (hsp:∀ H:Hp,Only H -> SqL K H a (ns.map V.int) -> sp [.ref a] H (fun v _=>v = .bl true) fun _ _ _=>False)
  (hCX:∀ H e s',CX [] H s₁ (fun _ _ _=>False) e s' -> False):
  Yha (model P w) Yim (.call (.ref fa) ⟨[.ref a],[]⟩) (fun r s'=>r = .ok (.ret (.bool true)) /\ OldK s₁.heap s'.heap /\ s'.os = s₁.os /\ Yg7 s'.gens) s₁:=by
 have rv:=Zi0 hi;have lenV:=hi.length;have core:∀ H:Hp,Only H -> SqL K H a (ns.map V.int) -> HOk P w H s₁.heap -> (∀ b,H b ≠ none -> b = a) -> (H a ≠ none -> K.lookup a = none) ->
   Yha (model P w) Yim (.call (.ref fa) ⟨[.ref a],[]⟩) (fun r s'=>r = .ok (.ret (.bool true)) /\ OldK s₁.heap s'.heap /\ s'.os = s₁.os /\ Yg7 s'.gens) s₁:=by
  intro H hO hS hok hA hK;have base_of:∀ {b:Addr} {o:Obj},s₁.heap.get? b = some o -> H b = none -> (ZjB s₁.heap H).get? b = some o:=fun e n=>Zoz e n;have noA:∀ {b:Addr} {o:Obj} {es:Array DictEntry} {ep:Nat},s₁.heap.get? b = some o -> o.data = .dict es ep -> H b = none:=fun {b o es ep} e d=>by
   cases q:H b with
   | none=>rfl
   | some u=>
    have e':b = a:=hA b (by rw [q]; simp);subst e';rw [ha] at e; cases e;have d':Data.seq vs.toArray _ = Data.dict es ep:=d;cases d'
  have nsK:∀ {b:Addr} {m:Str -> Option Value},s₁.heap.Ns b m -> (ZjB s₁.heap H).Ns b m:=fun {b m} ⟨o,es,ep,e,d,r⟩=>⟨o,es,ep,base_of e (noA e d),d,r⟩;have hKb:K.In (ZjB s₁.heap H):=fun b o e=>base_of (KX b o e) (by
   cases q:H b with
   | none=>rfl
   | some u=>
    have e':b = a:=hA b (by rw [q]; simp);subst e';rw [hK (by rw [q]; simp)] at e; cases e)
  have hM:Mod K mg (ZjB s₁.heap H):=⟨hKb,nsK hns,⟨mb,nsK hb,hbb⟩,let ⟨mc,h1,h2⟩:=hlim; ⟨mc,nsK h1,h2⟩⟩;have e0:Zmf P w K mg (ZjB s₁.heap H) Yim [] s₁ H:=⟨rfl,hM,fun b o e=>ZpS e,Yb4 (ZnG _ _),trivial,fun b hb=>absurd (show b ∈ ([]:List Addr) from hb) (by simp),hok,.of_eq hg⟩;refine Yfl ((F _ hKb (nsK hns)).run Yim [] s₁ H ⟨[.ref a],[]⟩ [.ref a] [.ref a] _ _ hr e0 (hbind s₁ (.ref a)) (.cons rfl .nil) (hsp H hO hS)) fun r s' h=>?_;cases r with
  | error e=>exact (hCX H e s' h).elim
  | ok fl=>
   cases fl with
   | next=>exact Ybx h
   | brk=>exact Ybx h
   | cont=>exact Ybx h
   | ret u=>
    obtain ⟨v,H',os,bare,un,hok',r',q⟩:=h;have q':v = .bl true:=q;subst q';obtain rfl:u = Value.bool true:=r';refine ⟨rfl,OldK.of_keep fun b o e=>?_,os,bare⟩;cases q:H b with
    | none=>exact un.keep b o e q (by intro z; exact absurd (show b ∈ ([]:List Addr) from z) (by simp)) (by simp)
    | some u=>
     rcases hO b with z | ⟨ob,xs,z⟩
     ·rw [q] at z; cases z
     ·have z2:=un.frzs b ob _ z
      obtain ⟨e1,_⟩:=hok b _ z;obtain ⟨e2,_⟩:=hok' b _ z2;rw [e] at e1; cases e1;exact e2
 cases hk:K.lookup a with
 | some o=>
  have e:=KX a o hk;rw [ha] at e;cases e;refine core (fun _=>none) (fun _=>.inl rfl) (.inr ⟨_,vs.toArray,_,hk,rfl,rfl,rfl,by rw [Ye,lenV]; exact hl,by simpa using rv⟩) (fun b u z=>by have z':(none:Option HO) = some u:=z; cases z') (fun b z=>absurd rfl z) fun z=>absurd rfl z
 | none=>
  refine core (fun b=>if b = a then some (.frz { cls:=.type "list",data:=.seq vs.toArray } (.lst (ns.map V.int))) else none) (fun b=>?_) (.inl (.inr ⟨{ cls:=.type "list",data:=.seq vs.toArray },if_pos rfl⟩)) (fun b u z=>?_) (fun b z=>?_) fun _=>hk
  ·by_cases hb:b = a
   ·exact .inr ⟨_,_,if_pos hb⟩
   ·exact .inl (if_neg hb)
  ·by_cases hb:b = a
   ·have z':=(if_pos hb).symm.trans z
    cases z'
    subst hb;exact ⟨ha,by rw [Yk]; exact hl,vs,_,rv,ha⟩
   ·have z':=(if_neg hb).symm.trans z
    cases z'
  ·by_cases hb:b = a
   ·exact hb
   ·exact absurd (if_neg hb) z
end L2
namespace L2
open PySem PySem.Spec PyProof.Rows
theorem Zmp {l:PySem.W.OpenLaw} {n k:Nat} {q:Yaf} {loose:List Str} {XP:(Str -> Option Value) -> Heap -> Prop} {YP:World -> Heap -> Prop} {d:DefRec} {K:Params -> Ya} {CX:World -> CXT} {sp:World -> Sp} {x:Str}
  (hn:l.most = some n) (hn2:n <= Yac) (hdf:d.params.defaults = []) (hr:Zdw k Yim)
  (hY:∀ (w:World) (h:Heap),YP w h -> (K w.params).In h)
  (F:∀ (w:World) (mg:Str -> Option Value) (fa:Addr) (h:Heap),(K w.params).In h -> h.Ns Yn mg -> mg d.name = some (.ref fa) ->
   ∃ fd:FuncData,(∀ (s:Yg) (u:Value),Yjg s fd ⟨[u],[]⟩ [(x,u)]) /\
    ∀ base:Heap,(K w.params).In base -> base.Ns Yn mg -> Zf1 l.prog w (K w.params) mg base (CX w) k fa fd [x] (sp w))
  (hsp:∀ (w:World) (H:Hp) (a:Addr) (ns:List Int),ns.length <= n -> Only H -> SqL (K w.params) H a (ns.map V.int) -> sp w [.ref a] H (fun v _=>v = .bl true) fun _ _ _=>False)
  (hCX:∀ (w:World) (H:Hp) (s:Yg) (e:Value) (s':Yg),CX w [] H s (fun _ _ _=>False) e s' -> False):
  PySem.W.WalkO q loose XP YP l.row.toRowW d [] (fun f vs=>PySem.call f vs):=by
 refine Att.attach_call hn hdf fun w s₀ s₁ mg mb fa o pm cd doc a vs ns G Y ho hd hcd hmg hobj hints hlen hg=>?_;have KX:=hY w _ Y;obtain ⟨fd,hb,hF⟩:=F w mg fa _ KX G.T.g hmg;exact Zod KX G.T.g G.T.b G.T.builtins G.T.nolimit hg hobj hints (Yj hlen hn2) hr hF hb (fun H hO hS=>hsp w H a ns hlen hO hS) fun H e s'=>hCX w H s₁ e s'
end L2
/- THE LAST THEOREM (shape; LID,My.* are yours):
  My.Adr: a structure of the addresses that your layer names (classes,functions); My.Txt K t: a structure (Prop) of the equations over K;
  My.txt_mk:{K} {implicit addresses ..} (e1:nsIn K Yn "law" = some (some (.ref f))) (e2:K.lookup f = some ⟨oc,od,.func (fnOf "law" "law" params body scope dV kV doc pm an cdv ct),sl⟩) (e3:codeIn K cdv "law" = true) ..:∃ t,My.Txt K t
set_option maxRecDepth 100000 in
set_option maxHeartbeats 0 in
theorem PySem.Challenge.cw_LID_holds : PySem.Challenge.rw_LID.Holds := by
 w_on; o_law; k_head; (case hw=>w_witness2)
 k_fill
 refine L2.Zmp (l:=PySem.Challenge.rw_LID) (n:=63) (k:=40) (x:="script") (CX:=fun w=>..) (sp:=fun _=>My.sp_law) rfl (by decide) rfl ⟨rfl,by decide,by decide⟩ (fun w h Y=>PySem.W.kIn_of Y) ?F ?S ?C
 case F=>
  intro w mg fa h KX G hmg;have T:∃ t,My.Txt (L2.KOf KX) t:=by
   dsimp only [L2.KOf]                          -- K must stand as «<heap const> w.params» for k_is;refine' My.txt_mk ?e1 ?e2 ?e3 ..
   (case e1=>PySem.W.k_is)                    -- in the order: a name -> its address -> its object -> its parts
   (case e2=>PySem.W.k_is)
   ..
  obtain ⟨t,T⟩:=T;have e0:=hmg.symm.trans (PySem.W.mg_of KX G T.law);cases e0                                       -- fa is the law's own address;exact ⟨_,fun s u=>.of_eq rfl,fun base kb nb=>My.law_fn T kb nb⟩     -- if «.of_eq rfl» comes too early: refine' ⟨_,?b,fun base kb nb=>My.law_fn T kb nb⟩; exact fun s u=>.of_eq rfl
 case S=>exact fun w H a ns hl hO hS=>..
 case C=>exact ..
(the tactic k_is has no namespace: write k_is) -/
namespace L2
open PySem PySem.Spec PyProof.Rows
noncomputable def Zav (s:Stmt):Arguments:=match s with
 | .FunctionDef _ a _ _ _ _ _ _ _ _=>a
 | _=>{ posonlyargs:=[],args:=[],vararg:=none,kwonlyargs:=[],kw_defaults:=[],kwarg:=none,defaults:=[] }
noncomputable def Zar (s:Stmt):List Stmt:=match s with
 | .FunctionDef _ _ b _ _ _ _ _ _ _=>b
 | _=>[]
noncomputable def Zn (s:Stmt):Scope:=match s with
 | .FunctionDef _ _ _ _ _ _ sc _ _ _=>sc
 | _=>{ kind:=.function,names:=[],isGenerator:=false,isCoroutine:=false }
noncomputable abbrev CX0:CXT:=fun _ _ _ _ _ _=>False
noncomputable abbrev E0:XK:=fun _ _ _=>False
theorem Zuq {X:Cx}:Zmd CX0 X E0:=fun _ _ _ _ _ _ _ h=>h.elim
structure Fun (K:Ya) (x qual:Str) (st:Stmt) (f:Addr) (fd:FuncData):Prop where
 ex:∃ (oc:Value) (od:Option Addr) (dV kV doc pm:Value) (an:Option Addr) (cdv ct:Value) (osl:Array (Option Value)),
  fd = Ydg x qual (Zav st) (Zar st) (Zn st) dV kV doc pm an cdv ct /\ K.lookup f = some ⟨oc,od,.func fd,osl⟩ /\ Yfu K cdv qual = true
 kp:Yeo K (.ref f) = true
section
variable {P:Yaf} {w:World} {K:Ya} {mg:Str -> Option Value} {base:Heap}
theorem Fun.ok {x qual:Str} {st:Stmt} {f:Addr} {fd:FuncData} {N ps:List Str} {k:Nat} {sp:Sp} (F:Fun K x qual st f fd) (S:Zaz N ps (Zn st)) (len:∀ vs H Q E,sp vs H Q E -> vs.length = ps.length)
  (hbody:∀ (cdv:Value) (A:Yar) (outer:List Env) (s:Yg) (H:Hp) (vs:List V) (Q:VK) (E:XK),Zdw k (A.deeper (Yh8 qual (Zn st) s.heap.objs.size f cdv)) -> sp vs H Q E ->
   ∃ t,PSs (Zk3 CX0 P w K mg base N qual (Zn st) f cdv A outer s H E).nox (Zar st) t /\ t { nx:=fun _ H'=>Q .non H',rt:=Q } (start N vs) H):Zf1 P w K mg base CX0 (k + 1) f fd ps sp:=by
 obtain ⟨oc,od,dV,kV,doc,pm,an,cdv,ct,osl,rfl,lk,hcd⟩:=F.ex;refine Zue lk hcd S len fun A outer s H vs Q E hr hsp=>?_;obtain ⟨t,h,q⟩:=hbody cdv A outer s H vs Q E hr hsp;exact ⟨t,h.nox,q⟩
theorem Fun.binds {x qual:Str} {st:Stmt} {f:Addr} {fd:FuncData} {ps:List Str} (F:Fun K x qual st f fd)
  (h:∀ (dV kV doc pm:Value) (an:Option Addr) (cdv ct:Value) (us:List Value),us.length = ps.length -> bindArgs (Ydg x qual (Zav st) (Zar st) (Zn st) dV kV doc pm an cdv ct) ⟨us,[]⟩ = pure (ps.zip us)):Binds K fd ps []:=by
 obtain ⟨oc,od,dV,kV,doc,pm,an,cdv,ct,osl,rfl,lk,hcd⟩:=F.ex;exact .all (h dV kV doc pm an cdv ct)
theorem Zn5 {x qual:Str} {st:Stmt} {f:Addr} {oc:Value} {od an:Option Addr} {osl:Array (Option Value)} {dV kV doc pm cdv ct:Value} (l:K.lookup f = some ⟨oc,od,.func (Ydg x qual (Zav st) (Zar st) (Zn st) dV kV doc pm an cdv ct),osl⟩)
  (c:Yfu K cdv qual = true) (k:Yeo K (.ref f) = true):Fun K x qual st f (Ydg x qual (Zav st) (Zar st) (Zn st) dV kV doc pm an cdv ct):=⟨⟨oc,od,dV,kV,doc,pm,an,cdv,ct,osl,rfl,l,c⟩,k⟩
end
section
variable {X:Cx}
end
def Ziz (H H':Hp):Prop:=∀ b o,H b = some o -> H' b = some o
theorem Ziz.refl (H:Hp):Ziz H H:=fun _ _ h=>h
theorem Ziz.trans {H H1 H2:Hp} (a:Ziz H H1) (b:Ziz H1 H2):Ziz H H2:=fun c o h=>b c o (a c o h)
theorem Ziz.free {H H':Hp} (e:Ziz H H') {l:Addr} (h:H' l = Option.none):H l = Option.none:=by
 cases q:H l with
 | none=>rfl
 | some o=>
  rw [e l o q] at h;cases h
theorem Ziz.seq {K:Ya} {H H':Hp} {a:Addr} {xs:List V} (e:Ziz H H') (h:SqL K H a xs):SqL K H' a xs:=by
 rcases h with (h | ⟨o,h⟩) | h
 ·exact .inl (.inl (e _ _ h))
 ·exact .inl (.inr ⟨o,e _ _ h⟩)
 ·exact .inr h
end L2
namespace L2
open PySem PySem.Spec PyProof.Rows
section
variable {κ:Type} [DecidableEq κ]
noncomputable def Ze7 (kvs:List (κ × V)) (k:κ):Option V:=(kvs.find? fun kv=>decide (kv.1 = k)).map (·.2)
noncomputable def putK (kvs:List (κ × V)) (k:κ) (v:V):List (κ × V):=
 if (kvs.any fun kv=>decide (kv.1 = k)) = true then kvs.map (fun kv=>if kv.1 = k then (kv.1,v) else kv) else kvs ++ [(k,v)]
noncomputable def Zq8 (kvs:List (κ × V)) (k:κ):List (κ × V):=kvs.filter fun kv=>decide (kv.1 ≠ k)
theorem Zpf {k:κ}:Ze7 ([]:List (κ × V)) k = none:=rfl
theorem Zf3 {p:κ × V} {r:List (κ × V)} {k:κ} (e:p.1 = k):Ze7 (p :: r) k = some p.2:=by simp [Ze7,Ydh,e]
theorem Zge {p:κ × V} {r:List (κ × V)} {k:κ} (e:¬ p.1 = k):Ze7 (p :: r) k = Ze7 r k:=by simp [Ze7,Ydh,e]
theorem Zkt (k:κ):∀ kvs:List (κ × V),(kvs.any fun kv=>decide (kv.1 = k)) = (Ze7 kvs k).isSome
 | []=>rfl
 | p :: r=>by
  rw [Ybd];by_cases e:p.1 = k
  ·simp only [Zf3 e,decide_eq_true e,Bool.true_or,Yfn]
  ·rw [Zge e,decide_eq_false e,Ygd]; exact Zkt k r
theorem Ze2 (kvs:List (κ × V)) (k:κ) (v:V):(putK kvs k v).length <= kvs.length + 1:=by
 unfold putK;split
 ·rw [Yk]; exact Yam _ _
 ·rw [Yw,Yai,Yc2]; exact lA 0 43162452160 T1
theorem ZgB.isSome_eq {o:Option V} {u:Option Value} (r:ZgB o u):o.isSome = u.isSome:=by
 cases o with
 | none=>cases u with
  | none=>rfl
  | some _=>exact (show False from r).elim
 | some _=>cases u with
  | none=>exact (show False from r).elim
  | some _=>rfl
theorem ZgB.getD {o:Option V} {u:Option Value} {d:V} {d':Value} (r:ZgB o u) (rd:RelV d d'):RelV (o.getD d) (u.getD d'):=by
 cases o with
 | none=>cases u with
  | none=>exact rd
  | some _=>exact (show False from r).elim
 | some _=>cases u with
  | none=>exact (show False from r).elim
  | some _=>exact r
theorem KV.val {kvs:List (κ × V)} {vs:List (κ × Value)} (r:KV kvs vs) (k:κ):ZgB (Ze7 kvs k) (Yi4 vs k):=by
 unfold KV at r
 induction r with
 | nil=>exact True.intro
 | @cons p q ps qs h t ih=>
  obtain ⟨h1,h2⟩:=h;by_cases e:p.1 = k
  ·have e':q.1 = k:=h1.symm.trans e
   have b:Yi4 (q :: qs) k = some q.2:=by simp [Yi4,Ydh,e']
   rw [Zf3 e,b]; exact h2
  ·have e':¬ q.1 = k:=fun z=>e (h1.trans z)
   have b:Yi4 (q :: qs) k = Yi4 qs k:=by simp [Yi4,Ydh,e']
   rw [Zge e,b]; exact ih
theorem KV.any {kvs:List (κ × V)} {vs:List (κ × Value)} (r:KV kvs vs) (k:κ):(kvs.any fun kv=>decide (kv.1 = k)) = vs.any fun kv=>decide (kv.1 = k):=by
 unfold KV at r
 induction r with
 | nil=>rfl
 | cons h t ih=>rw [Ybd,Ybd,ih,h.1]
theorem KV.repl {kvs:List (κ × V)} {vs:List (κ × Value)} (r:KV kvs vs) (k:κ) {y:V} {u:Value} (ry:RelV y u):
  KV (kvs.map fun kv=>if kv.1 = k then (kv.1,y) else kv) (vs.map fun kv=>if kv.1 = k then (kv.1,u) else kv):=by
 unfold KV at r ⊢
 induction r with
 | nil=>exact .nil
 | @cons p q ps qs h t ih=>
  rw [Yt,Yt];refine .cons ?_ ih;obtain ⟨h1,h2⟩:=h;by_cases e:p.1 = k
  ·rw [if_pos e,if_pos (h1.symm.trans e)]; exact ⟨h1,ry⟩
  ·rw [if_neg e,if_neg (fun z=>e (h1.trans z))]; exact ⟨h1,h2⟩
theorem KV.put {kvs:List (κ × V)} {vs:List (κ × Value)} (r:KV kvs vs) (k:κ) {y:V} {u:Value} (ry:RelV y u):KV (putK kvs k y) (stored vs k u):=by
 unfold putK stored;rw [r.any k];by_cases e:(vs.any fun kv=>decide (kv.1 = k)) = true
 ·rw [if_pos e,if_pos e]; exact r.repl k ry
 ·rw [if_neg e,if_neg e]; exact Paired.snoc r ⟨rfl,ry⟩
theorem KV.drop {kvs:List (κ × V)} {vs:List (κ × Value)} (r:KV kvs vs) (k:κ):KV (Zq8 kvs k) (without vs k):=by
 unfold KV at r ⊢;unfold Zq8 without
 induction r with
 | nil=>exact .nil
 | @cons p q ps qs h t ih=>
  obtain ⟨h1,h2⟩:=h;rw [Ygs,Ygs];by_cases e:p.1 = k
  ·have a:¬ decide (p.1 ≠ k) = true:=by simp [e]
   have b:¬ decide (q.1 ≠ k) = true:=by simp [h1.symm.trans e]
   rw [if_neg a,if_neg b]; exact ih
  ·have e':¬ q.1 = k:=fun z=>e (h1.trans z)
   have a:decide (p.1 ≠ k) = true:=by simp [e]
   have b:decide (q.1 ≠ k) = true:=by simp [e']
   rw [if_pos a,if_pos b]; exact .cons ⟨h1,h2⟩ ih
theorem KV.keys {kvs:List (κ × V)} {vs:List (κ × Value)} (r:KV kvs vs):kvs.map (·.1) = vs.map (·.1):=by
 unfold KV at r
 induction r with
 | nil=>rfl
 | cons h t ih=>rw [Yt,Yt,ih,h.1]
theorem KV.length {kvs:List (κ × V)} {vs:List (κ × Value)} (r:KV kvs vs):kvs.length = vs.length:=Yiv r
end
theorem ZiE {P:Yaf} {w:World} {k:Key} {u:Value} (r:RelV (kV k) u):(ZaK P w).is k u = true:=by
 cases k with
 | inl i=>obtain ⟨t,e⟩:=(show ∃ t,u = Value.int i t from r); subst e; exact ZkQ P w i t
 | inr x=>obtain ⟨t,e⟩:=(show ∃ t,u = Value.str x t from r); subst e; exact ZkD P w x t
theorem ZiR {P:Yaf} {w:World}:∀ {ks:List Key} {us:List Value},Vals (ks.map kV) us -> ItemsAre (ZaK P w) ks us
 | [],_,r=>by rw [Yc5] at r; cases r; exact .nil
 | k :: ks,_,r=>by
  rw [Yt] at r;cases r with
  | cons h t=>exact .cons (ZiE h) (ZiR t)
noncomputable abbrev KT (H:Hp):List (List Key × V) -> List (List Key × Addr × Value) -> Prop:=Paired fun p q=>p.1 = q.1 /\ H q.2.1 = some (.tup (p.1.map kV)) /\ RelV p.2 q.2.2
theorem KT.val {H:Hp} {kvs:List (List Key × V)} {xs:List (List Key × Addr × Value)} (r:KT H kvs xs) (k:List Key):ZgB (Ze7 kvs k) ((atKey xs k).map (·.2)):=by
 induction r with
 | nil=>exact True.intro
 | @cons p q ps qs h t ih=>
  obtain ⟨h1,_,h2⟩:=h;by_cases e:p.1 = k
  ·have e':q.1 = k:=h1.symm.trans e
   have b:atKey (q :: qs) k = some q.2:=by simp [atKey,Ydh,e']
   rw [Zf3 e,b]; exact h2
  ·have e':¬ q.1 = k:=fun z=>e (h1.trans z)
   have b:atKey (q :: qs) k = atKey qs k:=by simp [atKey,Ydh,e']
   rw [Zge e,b]; exact ih
theorem KT.repl {H:Hp} {kvs:List (List Key × V)} {xs:List (List Key × Addr × Value)} (r:KT H kvs xs) (k:List Key) {y:V} {u:Value} (ry:RelV y u):
  KT H (kvs.map fun kv=>if kv.1 = k then (kv.1,y) else kv) (xs.map (putAt k u)):=by
 induction r with
 | nil=>exact .nil
 | @cons p q ps qs h t ih=>
  rw [Yt,Yt];refine .cons ?_ ih;obtain ⟨h1,h2,h3⟩:=h;unfold putAt;by_cases e:p.1 = k
  ·rw [if_pos e,if_pos (h1.symm.trans e)]; exact ⟨h1,h2,ry⟩
  ·rw [if_neg e,if_neg (fun z=>e (h1.trans z))]; exact ⟨h1,h2,h3⟩
theorem KT.put {H:Hp} {kvs:List (List Key × V)} {xs:List (List Key × Addr × Value)} (r:KT H kvs xs) (k:List Key) {b:Addr} {y:V} {u:Value} (hb:H b = some (.tup (k.map kV))) (ry:RelV y u):
  KT H (putK kvs k y) (storedH xs k b u):=by
 have e:(kvs.any fun kv=>decide (kv.1 = k)) = (atKey xs k).isSome:=by
  rw [Zkt,(r.val k).isSome_eq,Option.isSome_map]
 unfold putK storedH;rw [e];by_cases q:(atKey xs k).isSome = true
 ·rw [if_pos q,if_pos q]; exact r.repl k ry
 ·rw [if_neg q,if_neg q]; exact Paired.snoc r ⟨rfl,hb,ry⟩
theorem KT.keeps {H H':Hp} {kvs:List (List Key × V)} {xs:List (List Key × Addr × Value)} (r:KT H kvs xs) (ht:∀ b ys,H b = some (.tup ys) -> H' b = some (.tup ys)):KT H' kvs xs:=
 Paired.mapP r fun _ _ z=>⟨z.1,ht _ _ z.2.1,z.2.2⟩
section
variable {P:Yaf} {w:World} {H:Hp} {h:Heap} {a:Addr}
theorem ZqP {u:HO} (ok:HOk P w H h) (e:Rd H a u):ZaX P w H h a u:=e.ok ok
theorem ZiK {kvs:List (Key × V)} (ok:HOk P w H h) (e:Rd H a (.dK kvs)):kvs.length <= Yac /\ (a == Ydi) = false /\ ∃ vs,KV kvs vs /\ h.DictOf (ZaK P w) a vs:=
 show ZaX P w H h a (.dK kvs) from ZqP ok e
theorem Zpi {kvs:List (Key × V)} (ok:HOk P w H h) (e:H a = some (.dK kvs)):kvs.length <= Yac /\ (a == Ydi) = false /\ ∃ vs,KV kvs vs /\ h.DictOf (ZaK P w) a vs:=ZiK ok (.inl e)
theorem Zjd {ks:List Key} (ok:HOk P w H h) (e:H a = some (.tup (ks.map kV))):(Yg6 (ZaK P w)).is h ks a:=by
 obtain ⟨_,its,r,o,h1,h2,n,h3⟩:=(show ZaX P w H h a (.tup (ks.map kV)) from ok a _ e);exact ⟨o,its.toArray,n,h1,h2.1,h3,by simpa using ZiR r⟩
theorem Zkw {kvs:List (List Key × V)} (ok:HOk P w H h) (e:Rd H a (.dT kvs)):kvs.length <= Yac /\ (a == Ydi) = false /\
  ∃ xs,KT H kvs xs /\ h.DictOfH (Yg6 (ZaK P w)) a xs:=by
 obtain ⟨z,y,xs,r,o,es,ep,h1,h2,h3,h4,h5⟩:=(show ZaX P w H h a (.dT kvs) from ZqP ok e);refine ⟨z,y,xs,r,o,es,ep,h1,h2,h3,h4,fun x hx=>?_,h5⟩;have all:∀ {l:List (List Key × V)} {m:List (List Key × Addr × Value)},KT H l m -> ∀ x ∈ m,(Yg6 (ZaK P w)).is h x.1 x.2.1:=by
  intro l m q
  induction q with
  | nil=>intro x hx; exact nomatch hx
  | @cons p q ps qs hq t ih=>
   intro x hx;rcases Y3.mp hx with e | hx
   ·subst e
    exact Zjd ok (by rw [← hq.1]; exact hq.2.1)
   ·exact ih x hx
 exact all r x hx
theorem Zt9 {kvs:List (List Key × V)} (ok:HOk P w H h) (e:H a = some (.dT kvs)):kvs.length <= Yac /\ (a == Ydi) = false /\
  ∃ xs,KT H kvs xs /\ h.DictOfH (Yg6 (ZaK P w)) a xs:=Zkw ok (.inl e)
end
def ZjG (H:Hp) (a:Addr) (y:V) (r:Option V):Prop:=
 (∃ kvs k,Rd H a (.dK kvs) /\ y = kV k /\ r = Ze7 kvs k) \/ ∃ kvs k b,Rd H a (.dT kvs) /\ y = .ref b /\ H b = some (.tup (k.map kV)) /\ r = Ze7 kvs k
def ZlU (H:Hp) (a:Addr) (y v:V) (H':Hp):Prop:=
 (∃ kvs k,H a = some (.dK kvs) /\ y = kV k /\ kvs.length < Yac /\ H' = upd H a (.dK (putK kvs k v))) \/
 ∃ kvs k b,H a = some (.dT kvs) /\ y = .ref b /\ H b = some (.tup (k.map kV)) /\ kvs.length < Yac /\ H' = upd H a (.dT (putK kvs k v))
theorem ZjG.k {H:Hp} {a:Addr} {kvs:List (Key × V)} {k:Key} (e:H a = some (.dK kvs)):ZjG H a (kV k) (Ze7 kvs k):=.inl ⟨kvs,k,.inl e,rfl,rfl⟩
theorem ZjG.t {H:Hp} {a b:Addr} {kvs:List (List Key × V)} {k:List Key} (e:H a = some (.dT kvs)) (eb:H b = some (.tup (k.map kV))):ZjG H a (.ref b) (Ze7 kvs k):=.inr ⟨kvs,k,b,.inl e,rfl,eb,rfl⟩
theorem ZlU.k {H:Hp} {a:Addr} {kvs:List (Key × V)} {k:Key} {v:V} (e:H a = some (.dK kvs)) (hl:kvs.length < Yac):ZlU H a (kV k) v (upd H a (.dK (putK kvs k v))):=.inl ⟨kvs,k,e,rfl,hl,rfl⟩
theorem ZlU.t {H:Hp} {a b:Addr} {kvs:List (List Key × V)} {k:List Key} {v:V} (e:H a = some (.dT kvs)) (eb:H b = some (.tup (k.map kV))) (hl:kvs.length < Yac):
  ZlU H a (.ref b) v (upd H a (.dT (putK kvs k v))):=.inr ⟨kvs,k,b,e,rfl,eb,hl,rfl⟩
section
variable {X:Cx} {pins:List (Addr × Obj)} {σ:St} {H:Hp} {s:Yg} {a:Addr} {y v:V} {u r:Value} {o:Option V} {A:Yar} {E:Value -> Yg -> Prop}
theorem Inv.big (I:Inv X pins σ H s):Ydi < s.heap.objs.size:=by
 have h:Yn < s.heap.objs.size:=(I.mod.glob.keeps I.bk).lt;exact Yet (by decide) h
theorem ZmS {Q:Value -> Yg -> Prop} (hu:A.units + 1 < cLine) (I:Inv X pins σ H s) (g:ZjG H a y (some v)) (ry:RelV y u) (h:∀ w' s',Inv X pins σ H s' -> RelV v w' -> Q w' s'):
  wpAny (model X.prog X.w) A (Ye5 (.ref a) u) Q E s:=by
 rcases g with ⟨kvs,k,e,ey,l⟩ | ⟨kvs,k,b,e,ey,eb,l⟩
 ·subst ey
  obtain ⟨z,hd,vs,rel,dd⟩:=ZiK I.hok e;obtain ⟨w',hw,rw'⟩:=ZgB.some_of (v:=v) (o:=Yi4 vs k) (by rw [l]; exact rel.val k);exact wpAny_getItem_of (ZiE ry) dd.mapOf hw (h w' _ (I.tok _) rw')
 ·subst ey
  cases (show u = Value.ref b from ry)
  obtain ⟨z,hd,xs,rel,dd⟩:=Zkw I.hok e;obtain ⟨w',hw,rw'⟩:=ZgB.some_of (v:=v) (o:=(atKey xs k).map (·.2)) (by rw [l]; exact rel.val k);obtain ⟨p,hp,hp2⟩:=Option.map_eq_some_iff.mp hw;refine wpAny_getItem_heap (Yfo hu) (Zjd I.hok eb) dd hp ?_;rw [hp2];exact h w' _ (I.tok _) rw'
theorem ZjR {h':Heap} {t':Nat} {ob:HO} (I:Inv X pins σ H s) (mu:Mut (H a)) (hs:Yd2 a s.heap h') (he:∃ q,h'.get? a = some q) (new:ZaX X.prog X.w (upd H a ob) h' a ob):
  Inv X pins σ (upd H a ob) { s with heap:=h',toks:=t' }:=
 I.write (x:=a) (e:=a) mu (.inl rfl) (fun b q hb z=>(hs.2 b hb).trans z) he new
theorem Zjj {P:Yaf} {w:World} {H':Hp} {h':Heap} {kvs:List (Key × V)} {vs:List (Key × Value)} (z:kvs.length <= Yac) (hd:(a == Ydi) = false) (rel:KV kvs vs) (dd:h'.DictOf (ZaK P w) a vs):
  ZaX P w H' h' a (.dK kvs):=⟨z,hd,vs,rel,dd⟩
theorem ZnN {H':Hp} {Q:Unit -> Yg -> Prop} (hu:A.units + 1 < cLine) (I:Inv X pins σ H s) (g:ZlU H a y v H') (ry:RelV y u) (rv:RelV v r) (h:∀ s',Inv X pins σ H' s' -> Q () s'):
  wpAny (model X.prog X.w) A (setItem (.ref a) u r) Q E s:=by
 rcases g with ⟨kvs,k,e,ey,l,eH⟩ | ⟨kvs,k,b,e,ey,eb,l,eH⟩
 ·subst ey eH
  obtain ⟨z,hd,vs,rel,dd⟩:=Zpi I.hok e;have hz:vs.length <= Yac:=by rw [← rel.length]; exact z
  have hl:(putK kvs k v).length <= Yac:=by have:=Ze2 kvs k v; exact lC 2 563091983155201 T1 this l
  refine wpAny_setItem_pairs (hsz:=hz) (ZiE ry) dd fun h' dd' hs=>h _ ?_;have he:∃ q,h'.get? a = some q:=let ⟨q,_,_,hq,_⟩:=dd'; ⟨q,hq⟩;exact ZjR I (by rw [e]; exact True.intro) hs he (Zjj hl hd (rel.put k rv) dd')
 ·subst ey eH
  cases (show u = Value.ref b from ry)
  obtain ⟨z,hd,xs,rel,dd⟩:=Zt9 I.hok e;have hz:xs.length <= Yac:=by rw [← Yiv rel]; exact z
  have hl:(putK kvs k v).length <= Yac:=by have:=Ze2 kvs k v; exact lC 2 563091983155201 T1 this l
  refine wpAny_setItem_heap (hsz:=hz) (Yfo hu) (Zjd I.hok eb) dd fun h' dd' hs=>h _ ?_;obtain ⟨q,es,ep,hq,h2,h3,h4,_,h5⟩:=dd';refine ZjR I (by rw [e]; exact True.intro) hs ⟨q,hq⟩ ⟨hl,hd,_,(rel.put k eb rv).keeps fun c ys ec=>?_,q,es,ep,hq,h2,h3,h4,h5⟩;rw [Zaj (Zi9 ec e (fun z=>nomatch z))];exact ec
end
section
variable {X:Cx} {pins:List (Addr × Obj)} {σ:St} {H:Hp} {s:Yg} {a:Addr} {kvs:List (Key × V)} {k:Key} {u:Value} {A:Yar} {E:Value -> Yg -> Prop}
end
def Znz (i:Expr):Prop:=∀ ov iv,Yid i false ov iv = operate [ov,iv] (Ye5 ov iv)
theorem ZmI {prog:Yaf} {w:World} {A:Yar} {E:Value -> Yg -> Prop} {s:Yg} {env:Env} {value slice:Expr} {pos:Pos} {T id:String} {Q:Value -> Yg -> Prop}
  (hl:typeLookup (.type T) "__getitem__" = pure (some (.builtin id))) (hs:Znz slice)
  (h:wpAny (model prog w) A (eval value env) (fun o s₁=>wpAny (model prog w) A (eval slice env) (fun i s₂=>s₂.TypeIs o T /\ wpAny (model prog w) A (Ye5 o i) Q E s₂) E s₁) E s):
  wpAny (model prog w) A (eval (.Subscript value slice pos) env) Q E s:=by
 refine Subscript_ (Ybt h (fun o s₁ h₁=>Ybt h₁ (fun i s₂ h₂=>?_) fun _ _ x=>x) fun _ _ x=>x);obtain ⟨hT,h₂⟩:=h₂;unfold Yiz;refine Yc ?_;rw [getitemInPython_of_ne hT.not_modules];refine Yc (wpAny_specialOf hT hl ?_);have fin:wpAny (model prog w) A (Yid slice false o i) (fun r s₃=>wpAny (model prog w) A (letTemporaryGo value o r >>= fun _=>pure r) Q E s₃) E s₂:=by
  rw [hs o i];exact wpAny_operating (Ybt h₂ (fun r s₃ h₃=>Yc (wpAny_letTemporaryGo (Ym h₃))) fun _ _ x=>x)
 first
  | exact Ym (Yc fin)
  | exact Yc (Ym (Yc fin))
  | exact Yc fin
theorem ZkL {X:Cx} {pins:List (Addr × Obj)} {σ:St} {H:Hp} {s:Yg} {a:Addr} {y:V} {o:Option V} (I:Inv X pins σ H s) (g:ZjG H a y o):s.TypeIs (.ref a) "dict":=by
 rcases g with ⟨kvs,k,e,_,_⟩ | ⟨kvs,k,b,e,_,_,_⟩
 ·obtain ⟨_,_,vs,_,dd⟩:=ZiK I.hok e
  exact dd.typeIs
 ·obtain ⟨_,_,xs,_,dd⟩:=Zkw I.hok e
  exact dd.typeIs
def ZtX (td ty:TE):TE:=fun σ H Q=>td σ H fun x H1=>ty σ H1 fun y H2=>∃ a v,x = .ref a /\ ZjG H2 a y (some v) /\ Q v H2
def Zuv (td ty tv:TE):TS:=fun D σ H=>tv σ H fun v H1=>td σ H1 fun x H2=>ty σ H2 fun y H3=>∃ a H4,x = .ref a /\ ZlU H3 a y v H4 /\ D.nx σ H4
section
variable {X:Cx} {o i e value:Expr} {pos pos' tpos:Pos} {td ty tv:TE}
theorem ZqJ (hu:X.A.units + 1 < cLine) (ho:PE X o td) (hi:PE X i ty) (hs:Znz i):PE X (.Subscript o i pos) (ZtX td ty):=by
 intro pins s σ H Q I h;refine ZmI PySem.F.slot_dict_getitem.lookup hs (thn (ho pins s σ H _ I h) fun u s1 ⟨x,H1,I1,rx,q1⟩=>thn (hi pins s1 σ H1 _ I1 q1) fun iv s2 zz1=>?_);obtain ⟨y,H2,I2,ry,a,v,ex,g,q2⟩:=zz1;subst ex;obtain rfl:u = Value.ref a:=rx;exact ⟨ZkL I2 g,ZmS hu I2 g ry fun w' s3 I3 rw'=>⟨v,H2,I3,rw',q2⟩⟩
theorem ZpF (hu:X.A.units + 1 < cLine) (ho:PE X o td) (hi:PE X i ty) (hv:PE X value tv) (hs:Yfz value (some (.Subscript o i pos')) pos.line X.env = pure false):
  PS X (.Assign [.Subscript o i pos'] value pos) (Zuv td ty tv):=by
 intro pins s σ H D I h;refine wpAny_Assign_Subscript (thn (hv pins s σ H _ I h) fun r s1 ⟨v,H1,I1,rv,q1⟩=>thn (ho pins s1 σ H1 _ I1 q1) fun u s2 ⟨x,H2,I2,rx,q2⟩=>thn (hi pins s2 σ H2 _ I2 q2) fun iv s3 zz1=>?_) hs;obtain ⟨y,H3,I3,ry,a,H4,ex,g,q3⟩:=zz1;subst ex;obtain rfl:u = Value.ref a:=rx;exact ZnN hu I3 g ry rv fun s4 I4=>⟨σ,H4,I4,q3⟩
end
theorem Zkx {P:Yaf} {w:World} {H:Hp} (h:Heap) (hb:Ydi < h.objs.size):ZaX P w H (h.push { cls:=.type "dict",data:=.dict #[] }) h.objs.size (.dK []):=
 ⟨Yag _,beq_eq_false_iff_ne.mpr (Ya4 (Y2 hb)),[],.nil,Heap.DictOf.new h⟩
def Zsc:TE:=fun _ H Q=>∀ p,H p = none -> Q (.ref p) (upd H p (.dK []))
section
variable {X:Cx} {pos:Pos}
theorem ZoL:PE X (.Dict [] [] pos) Zsc:=fun pins s σ H Q I h=>
 wpAny_Dict_empty ⟨.ref s.heap.objs.size,_,I.laid (a:=s.heap.objs.size) (o:=.dK []) (t':=s.toks) (fun _ _ q=>Yf _ q) (Yi _) (Zkx s.heap I.big),rfl,h _ (I.hok.fresh (Yi _))⟩
end
noncomputable def ZjC:List (TE × TE) -> St -> Hp -> (List (V × V) -> Hp -> Prop) -> Prop
 | [],_,H,Q=>Q [] H
 | (tk,tv) :: r,σ,H,Q=>tk σ H fun x H1=>tv σ H1 fun y H2=>ZjC r σ H2 fun ps H3=>Q ((x,y) :: ps) H3
noncomputable abbrev VV:List (V × V) -> List (Value × Value) -> Prop:=Paired fun p q=>RelV p.1 q.1 /\ RelV p.2 q.2
def PPs (X:Cx) (pos:Pos) (keys:List (Option Expr)) (values:List Expr) (trs:List (TE × TE)):Prop:=
 ∀ (pins:List (Addr × Obj)) (s:Yg) (σ:St) (H:Hp) (Q:List (V × V) -> Hp -> Prop),Inv X pins σ H s -> ZjC trs σ H Q ->
  wpAny (model X.prog X.w) X.A (evalPairs (pairTrees keys values X.env pos)) (fun vs s'=>∃ ps H',Inv X pins σ H' s' /\ VV ps vs /\ Q ps H') X.xe s
theorem ZqH {X:Cx} {pos:Pos}:PPs X pos [] [] []:=fun pins s σ H Q I h=>pairTrees_nil_walk ⟨[],H,I,.nil,h⟩
theorem Zor {X:Cx} {pos:Pos} {k v:Expr} {ks:List (Option Expr)} {vs:List Expr} {tk tv:TE} {trs:List (TE × TE)} (hk:PE X k tk) (hv:PE X v tv) (hr:PPs X pos ks vs trs):
  PPs X pos (some k :: ks) (v :: vs) ((tk,tv) :: trs):=fun pins s σ H Q I h=>
 pairTrees_cons_walk (thn (hk pins s σ H _ I h) fun u s1 ⟨x,H1,I1,rx,q1⟩=>thn (hv pins s1 σ H1 _ I1 q1) fun w2 s2 ⟨y,H2,I2,ry,q2⟩=>
  thn (hr pins s2 σ H2 _ I2 q2) fun ws s3 ⟨ps,H3,I3,rel,q3⟩=>⟨(x,y) :: ps,H3,I3,.cons ⟨rx,ry⟩ rel,q3⟩)
noncomputable def ZfW (kvs more:List (Key × V)):List (Key × V):=more.foldl (fun acc kv=>putK acc kv.1 kv.2) kvs
theorem KV.merge:∀ {more:List (Key × V)} {rs:List (Key × Value)} {kvs:List (Key × V)} {vs:List (Key × Value)},KV more rs -> KV kvs vs -> KV (ZfW kvs more) (merged vs rs):=by
 intro more rs kvs vs r;unfold KV at r
 induction r generalizing kvs vs with
 | nil=>intro q; exact q
 | @cons p q ps qs h t ih=>
  intro r0;have e:KV (putK kvs p.1 p.2) (stored vs q.1 q.2):=by
   have:=r0.put p.1 h.2;rw [← h.1]; exact this
  exact ih e
theorem Zef:∀ (more kvs:List (Key × V)),(ZfW kvs more).length <= kvs.length + more.length
 | [],kvs=>by show kvs.length <= kvs.length + 0; exact Yam _ _
 | p :: r,kvs=>by
  have h1:=Zef r (putK kvs p.1 p.2);have h2:=Ze2 kvs p.1 p.2;show (ZfW (putK kvs p.1 p.2) r).length <= _;rw [Yai]; exact lD 2 0xa3c1c2030c201a1c001 T1 h2 h1
theorem ZhO {P:Yaf} {w:World}:∀ {kvs:List (Key × V)} {ws:List (Value × Value)},VV (kvs.map fun kv=>(kV kv.1,kv.2)) ws -> ∃ rs,Carries (ZaK P w) ws rs /\ KV kvs rs
 | [],_,r=>by rw [Yc5] at r; cases r; exact ⟨[],True.intro,.nil⟩
 | p :: kvs,_,r=>by
  rw [Yt] at r;cases r with
  | @cons a b as bs h t=>
   obtain ⟨rs,c,q⟩:=ZhO (P:=P) (w:=w) t;obtain ⟨b1,b2⟩:=b;exact ⟨(p.1,b2) :: rs,⟨ZiE h.1,rfl,c⟩,.cons ⟨rfl,h.2⟩ q⟩
def Zup (trs:List (TE × TE)):TE:=fun σ H Q=>∀ p,H p = none -> ZjC trs σ (upd H p (.dK [])) fun ps H2=>H2 p = some (.dK []) /\ ∃ kvs:List (Key × V),ps = kvs.map (fun kv=>(kV kv.1,kv.2)) /\ kvs.length <= 15 /\ Q (.ref p) (upd H2 p (.dK (ZfW [] kvs)))
theorem Zqv {X:Cx} {pos:Pos} {keys:List (Option Expr)} {values:List Expr} {trs:List (TE × TE)} (h:PPs X pos keys values trs) (hall:keys.all (·.isSome) = true) (hl:keys.length = values.length) (h0:keys ≠ [])
  (h15:keys.length <= 15):PE X (.Dict keys values pos) (Zup trs):=by
 intro pins s σ H Q I q;have hn:=I.hok.fresh (Yi s.heap.objs.size);have I1:=I.laid (a:=s.heap.objs.size) (o:=.dK []) (h':=s.heap.push { cls:=.type "dict",data:=.dict #[] }) (t':=s.toks) (fun _ _ q=>Yf _ q) (Yi _) (Zkx s.heap I.big);refine wpAny_Dict_walk (knd:=ZaK X.prog X.w) hall hl h0 h15 (thn (h pins _ σ _ _ I1 (q _ hn)) fun ws s2 zz1=>?_);obtain ⟨ps,H2,I2,rel,e,kvs,ep,lk,q2⟩:=zz1;subst ep;obtain ⟨rs,c,rk⟩:=ZhO (P:=X.prog) (w:=X.w) rel;obtain ⟨z,hd,vs0,r0,dd⟩:=Zpi I2.hok e;cases r0;refine ⟨rs,c,dd,fun h' dd' hs=>⟨.ref s.heap.objs.size,_,?_,rfl,q2⟩⟩;have hz:(ZfW [] kvs).length <= Yac:=by
  have h1:=Zef kvs [];rw [Yc2] at h1;rw [Ybe]; exact lB 2 0x10000007b00f1b1011ec001 T1 h1 lk
 have he:∃ q,h'.get? s.heap.objs.size = some q:=let ⟨q,_,_,hq,_⟩:=dd'; ⟨q,hq⟩;exact ZjR I2 (by rw [e]; exact True.intro) hs he (Zjj hz hd (rk.merge .nil) dd')
structure M1 (X:Cx) (o:Expr) (m:Str) (apos:Pos) (e:Expr) (cpos:Pos):Prop where
 base:Ydm o m X.env (eval o X.env) = eval o X.env
 few:((Ycl cpos (Yx [e] X.env)).all (fun x=>!x.1) && (Ydk cpos (Ybz [] X.env)).all (fun x=>x.1.isSome)
  && decide (([e]:List Expr).length + ([]:List Keyword).length + (if ([]:List Keyword).isEmpty then 0 else 1) < 30)) = true
 line:(apos.endLine == cpos.line) = true
 trees:Ycl cpos (Yx [e] X.env) = [(false,eval e X.env)]
structure M2 (X:Cx) (o:Expr) (m:Str) (apos:Pos) (e f:Expr) (cpos:Pos):Prop where
 base:Ydm o m X.env (eval o X.env) = eval o X.env
 few:((Ycl cpos (Yx [e,f] X.env)).all (fun x=>!x.1) && (Ydk cpos (Ybz [] X.env)).all (fun x=>x.1.isSome)
  && decide (([e,f]:List Expr).length + ([]:List Keyword).length + (if ([]:List Keyword).isEmpty then 0 else 1) < 30)) = true
 line:(apos.endLine == cpos.line) = true
 trees:Ycl cpos (Yx [e,f] X.env) = [(false,eval e X.env),(false,eval f X.env)]
def IsD (H:Hp) (a:Addr):Prop:=(∃ kvs,Rd H a (.dK kvs)) \/ ∃ kvs,Rd H a (.dT kvs)
theorem Zta {X:Cx} {pins:List (Addr × Obj)} {σ:St} {H:Hp} {s:Yg} {a:Addr} (I:Inv X pins σ H s) (d:IsD H a):
  s.TypeIs (.ref a) "dict" /\ (∀ b,Value.ref a = .ref b -> ∃ ob,s.heap.get? b = some ob /\ ob.dict = none) /\ (a == Ydi) = false:=by
 rcases d with ⟨kvs,e⟩ | ⟨kvs,e⟩
 ·obtain ⟨_,hd,vs,_,dd⟩:=ZiK I.hok e
  refine ⟨dd.typeIs,fun b q=>?_,hd⟩;cases q;obtain ⟨ob,_,_,h1,h2,_⟩:=dd;exact ⟨ob,h1,h2.2.1⟩
 ·obtain ⟨_,hd,xs,_,dd⟩:=Zkw I.hok e
  refine ⟨dd.typeIs,fun b q=>?_,hd⟩;cases q;obtain ⟨ob,_,_,h1,h2,_⟩:=dd;exact ⟨ob,h1,h2.2.1⟩
section
variable {X:Cx} {pins:List (Addr × Obj)} {σ:St} {H:Hp} {s:Yg} {a:Addr} {y d:V} {u r:Value} {o:Option V} {A:Yar} {E:Value -> Yg -> Prop}
theorem Ztb {Q:Value -> Yg -> Prop} (hu:A.units + 1 < cLine) (I:Inv X pins σ H s) (g:ZjG H a y o) (ry:RelV y u) (rd:RelV d r) (h:∀ w' s',Inv X pins σ H s' -> RelV (o.getD d) w' -> Q w' s'):
  wpAny (model X.prog X.w) A (call (.builtin "dict.get") [.ref a,u,r]) Q E s:=by
 rcases g with ⟨kvs,k,e,ey,l⟩ | ⟨kvs,k,b,e,ey,eb,l⟩
 ·subst ey
  obtain ⟨z,hd,vs,rel,dd⟩:=ZiK I.hok e;refine Yjc Ycm dd.typeIs Yei (Yge _ _ _) (meets_dict_get_default (ZaK X.prog X.w) a (ZiE ry) hd r) ⟨_,dd.mapOf,h _ _ (I.tok _) ?_⟩;rw [l];exact (rel.val k).getD rd
 ·subst ey
  cases (show u = Value.ref b from ry)
  obtain ⟨z,hd,xs,rel,dd⟩:=Zkw I.hok e;refine Yjc Ycm dd.typeIs Yei (Yge _ _ _) (meetsH_dict_get_default (Yg6 (ZaK X.prog X.w)) a b hd r) ⟨Yfo hu,k,xs,Zjd I.hok eb,dd,h _ _ (I.tok _) ?_⟩;rw [l];exact (rel.val k).getD rd
end
def Zs5 (td ty tx:TE):TE:=fun σ H Q=>td σ H fun x H1=>∃ a,x = .ref a /\ IsD H1 a /\ ty σ H1 fun y H2=>tx σ H2 fun z H3=>∃ o,ZjG H3 a y o /\ Q (o.getD z) H3
section
variable {X:Cx} {o e f:Expr} {apos cpos:Pos} {td ty tx:TE}
theorem ZoJ (hu:X.A.units + 1 < cLine) (ho:PE X o td) (he:PE X e ty) (hf:PE X f tx) (m:M2 X o "get" apos e f cpos):PE X (.Call (.Attribute o "get" apos) [e,f] [] cpos) (Zs5 td ty tx):=by
 intro pins s σ H Q I h;refine wpAny_Call_method m.base m.few m.line Ygf Ycm Yhf (thn (ho pins s σ H _ I h) fun u s1 zz1=>?_);obtain ⟨x,H1,I1,rx,a,ex,d,q1⟩:=zz1;subst ex;obtain rfl:u = Value.ref a:=rx;obtain ⟨t1,t2,_⟩:=Zta I1 d;refine ⟨t1,t2,?_⟩;rw [m.trees];refine Yeh rfl (Yew (Yea (thn (he pins s1 σ H1 _ I1 q1) fun iv s2 ⟨y,H2,I2,ry,q2⟩=>
  Yea (thn (hf pins s2 σ H2 _ I2 q2) fun fv s3 ⟨z,H3,I3,rz,ov,g,q3⟩=>Yf3 ?_))))
 exact Ztb hu I3 g ry rz fun w' s4 I4 rw'=>⟨_,H3,I4,rw',q3⟩
end
section
variable {X:Cx} {pins:List (Addr × Obj)} {σ:St} {H:Hp} {s:Yg} {a:Addr} {kvs:List (Key × V)} {A:Yar} {E:Value -> Yg -> Prop}
theorem Zpu {Q:Value -> Yg -> Prop} (I:Inv X pins σ H s) (e:Rd H a (.dK kvs)) (h:∀ p s',H p = none -> Inv X pins σ (upd H p (.dK kvs)) s' -> Q (.ref p) s'):wpAny (model X.prog X.w) A (call (.type "dict") [.ref a]) Q E s:=by
 obtain ⟨z,hd,vs,rel,dd⟩:=ZiK I.hok e;refine kt_call_dict hd dd (by rw [← rel.length]; exact z) fun h' dd' hs=>?_;refine h _ _ (I.hok.fresh (Yi _)) (I.laid (a:=s.heap.objs.size) (o:=.dK kvs) (t':=s.toks) (fun b q hq=>?_) (Yi _) (Zjj z (beq_eq_false_iff_ne.mpr (Ya4 (Y2 I.big))) rel dd'));exact (hs.2 b (Y2 (Yo hq))).trans (Yf _ hq)
end
section
variable {X:Cx} {pins:List (Addr × Obj)} {σ:St} {H:Hp} {s:Yg} {a:Addr} {y:V} {u:Value} {A:Yar} {E:Value -> Yg -> Prop}
end
end L2
namespace L3
open PySem
noncomputable section
inductive D where
 | non | bl (b:Bool) | int (i:Int) | str (x:List Nat) | tup (ds:List D) | scr (ds:List D) | ref (n:Nat)
 deriving Inhabited
noncomputable abbrev Za4:=Sum Int (List Nat)
inductive MO where
 | lst (xs:List D) | dct (kvs:List (Za4 × D)) | fdct (kvs:List (Za4 × D)) | ins (c:List Nat) (fs:List (List Nat × D))
 deriving Inhabited
noncomputable abbrev Store:=List MO
structure X3 where
 cls:List Nat
 arg:D
inductive R3 (α:Type) where
 | ok (a:α) (M:Store) | exc (x:X3) (M:Store) | bad
@[simp] noncomputable def R3.bind {α β:Type} (r:R3 α) (k:α -> Store -> R3 β):R3 β:=match r with
 | .ok a M=>k a M
 | .exc x M=>.exc x M
 | .bad=>.bad
theorem R3.bind_ok {α β:Type} (a:α) (M:Store) (k:α -> Store -> R3 β):(R3.ok a M).bind k = k a M:=rfl
noncomputable def ZaM:Nat -> D -> Bool
 | _,.non=>true | _,.bl _=>true | _,.int _=>true | _,.str _=>true
 | n + 1,.tup ds=>ds.all (ZaM n)
 | _,_=>false
noncomputable abbrev DEEP:Nat:=60
mutual
noncomputable def deq:D -> D -> Bool
 | .non,.non=>true
 | .bl a,.bl b=>a == b
 | .int a,.int b=>a == b
 | .str a,.str b=>a == b
 | .tup a,.tup b=>Zc4 a b
 | .bl a,.int b=>(if a then 1 else 0) == b
 | .int a,.bl b=>a == (if b then 1 else 0)
 | _,_=>false
noncomputable def Zc4:List D -> List D -> Bool
 | [],[]=>true
 | a :: x,b :: y=>deq a b && Zc4 x y
 | _,_=>false
end
mutual
noncomputable def below (n:Nat):D -> Bool
 | .tup ds=>belowL n ds
 | .scr ds=>belowL n ds
 | .ref k=>k < n
 | .non=>true | .bl _=>true | .int _=>true | .str _=>true
noncomputable def belowL (n:Nat):List D -> Bool
 | []=>true
 | d :: ds=>below n d && belowL n ds
end
mutual
noncomputable def same:D -> D -> Bool
 | .non,.non=>true
 | .bl a,.bl b=>a == b
 | .int a,.int b=>a == b
 | .str a,.str b=>a == b
 | .tup a,.tup b=>Zh6 a b
 | .scr a,.scr b=>Zh6 a b
 | .ref a,.ref b=>a == b
 | _,_=>false
noncomputable def Zh6:List D -> List D -> Bool
 | [],[]=>true
 | a :: x,b :: y=>same a b && Zh6 x y
 | _,_=>false
end
mutual
theorem same_iff:∀ {a b:D},same a b = true ↔ a = b
 | .non,b=>by cases b <;> simp [same]
 | .bl a,b=>by cases b <;> simp [same]
 | .int a,b=>by cases b <;> simp [same]
 | .str a,b=>by cases b <;> simp [same]
 | .tup a,b=>by cases b <;> simp [same,ZgF (x:=a)]
 | .scr a,b=>by cases b <;> simp [same,ZgF (x:=a)]
 | .ref a,b=>by cases b <;> simp [same]
theorem ZgF:∀ {x y:List D},Zh6 x y = true ↔ x = y
 | [],y=>by cases y <;> simp [Zh6]
 | a :: x,y=>by
  cases y with
  | nil=>simp [Zh6]
  | cons b y=>simp [Zh6,same_iff (a:=a),ZgF (x:=x)]
end
noncomputable instance:DecidableEq D:=fun a b=>decidable_of_iff (same a b = true) same_iff
noncomputable instance:DecidableEq MO:=fun a b=>match a,b with
 | .lst x,.lst y=>if h:x = y then isTrue (by rw [h]) else isFalse (by intro e; cases e; exact h rfl)
 | .dct x,.dct y=>if h:x = y then isTrue (by rw [h]) else isFalse (by intro e; cases e; exact h rfl)
 | .fdct x,.fdct y=>if h:x = y then isTrue (by rw [h]) else isFalse (by intro e; cases e; exact h rfl)
 | .ins c x,.ins d y=>if h:c = d /\ x = y then isTrue (by rw [h.1,h.2]) else isFalse (by intro e; cases e; exact h ⟨rfl,rfl⟩)
 | .ins _ _,.lst _=>isFalse (by intro e; cases e)
 | .ins _ _,.dct _=>isFalse (by intro e; cases e)
 | .ins _ _,.fdct _=>isFalse (by intro e; cases e)
 | .lst _,.ins _ _=>isFalse (by intro e; cases e)
 | .dct _,.ins _ _=>isFalse (by intro e; cases e)
 | .fdct _,.ins _ _=>isFalse (by intro e; cases e)
 | .lst _,.dct _=>isFalse (by intro e; cases e)
 | .lst _,.fdct _=>isFalse (by intro e; cases e)
 | .dct _,.lst _=>isFalse (by intro e; cases e)
 | .dct _,.fdct _=>isFalse (by intro e; cases e)
 | .fdct _,.lst _=>isFalse (by intro e; cases e)
 | .fdct _,.dct _=>isFalse (by intro e; cases e)
@[simp] noncomputable abbrev SZ:Nat:=1000000
noncomputable abbrev Zaq:=List (Option D)
noncomputable abbrev E3:=Zaq -> Store -> R3 D
noncomputable abbrev EL3:=Zaq -> Store -> R3 (List D)
noncomputable abbrev F3:=List D -> Store -> R3 D
inductive O3 where
 | nx (env:Zaq) (M:Store) | rt (d:D) (M:Store) | bk (env:Zaq) (M:Store) | ct (env:Zaq) (M:Store) | exc (x:X3) (M:Store) | bad
noncomputable abbrev S3:=Zaq -> Store -> O3
@[simp] noncomputable def Zb (i:Nat):E3:=fun env M=>match env[i]? with
 | some (some d)=>.ok d M
 | _=>.bad
@[simp] noncomputable def eC (d:D):E3:=fun _ M=>.ok d M
@[simp] noncomputable def e1 (op:D -> Store -> R3 D) (f:E3):E3:=fun env M=>(f env M).bind op
@[simp] noncomputable def e2 (op:D -> D -> Store -> R3 D) (f g:E3):E3:=fun env M=>(f env M).bind fun a M1=>(g env M1).bind fun b M2=>op a b M2
@[simp] noncomputable def Zg:EL3:=fun _ M=>.ok [] M
@[simp] noncomputable def Za (f:E3) (g:EL3):EL3:=fun env M=>(f env M).bind fun a M1=>(g env M1).bind fun b M2=>.ok (a :: b) M2
@[simp] noncomputable def alloc (o:MO) (M:Store):R3 D:=.ok (.ref M.length) (M ++ [o])
section
local instance (priority:=100000) clP1 (p:Prop):Decidable p:=Ys p
@[simp] noncomputable def Zbv (g:EL3):E3:=fun env M=>(g env M).bind fun ds M1=>if ds.length <= SZ then .ok (.tup ds) M1 else .bad
end
section
local instance (priority:=100000) clP2 (p:Prop):Decidable p:=Ys p
@[simp] noncomputable def Zbu (g:EL3):E3:=fun env M=>(g env M).bind fun ds M1=>if ds.length <= SZ then alloc (.lst ds) M1 else .bad
end
@[simp] noncomputable def Zcq (f g:E3):E3:=fun env M=>(f env M).bind fun a M1=>match a with
 | .bl true=>g env M1
 | .bl false=>.ok (.bl false) M1
 | _=>.bad
@[simp] noncomputable def eOr (f g:E3):E3:=fun env M=>(f env M).bind fun a M1=>match a with
 | .bl false=>g env M1
 | .bl true=>.ok (.bl true) M1
 | _=>.bad
@[simp] noncomputable def Zbp (a:D) (M:Store):R3 D:=match a with
 | .bl b=>.ok (.bl (!b)) M
 | _=>.bad
@[simp] noncomputable def eIf (c f g:E3):E3:=fun env M=>(c env M).bind fun a M1=>match a with
 | .bl true=>f env M1
 | .bl false=>g env M1
 | _=>.bad
@[simp] noncomputable def Zt (F:F3) (g:EL3):E3:=fun env M=>(g env M).bind fun ds M1=>F ds M1
section
local instance (priority:=100000) clP3 (p:Prop):Decidable p:=Ys p
@[simp] noncomputable def Zao (a b:D) (M:Store):R3 D:=match a,b with
 | .int i,.int j=>.ok (.int (i + j)) M
 | .str x,.str y=>if x.length + y.length <= SZ then .ok (.str (x ++ y)) M else .bad
 | .tup x,.tup y=>if x.length + y.length <= SZ then .ok (.tup (x ++ y)) M else .bad
 | .ref n,.ref m=>match M[n]?,M[m]? with
  | some (.lst x),some (.lst y)=>if x.length + y.length <= SZ then alloc (.lst (x ++ y)) M else .bad
  | _,_=>.bad
 | _,_=>.bad
end
@[simp] noncomputable def Zdo (a b:D) (M:Store):R3 D:=match a,b with
 | .int i,.int j=>.ok (.int (i - j)) M
 | _,_=>.bad
section
local instance (priority:=100000) clP4 (p:Prop):Decidable p:=Ys p
noncomputable def ZdE (i j:Int):Bool:=(decide (-(2 ^ 64) < i) && decide (i < 2 ^ 64)) || (decide (-(2 ^ 64) < j) && decide (j < 2 ^ 64))
end
section
local instance (priority:=100000) clP5 (p:Prop):Decidable p:=Ys p
@[simp] noncomputable def Zgk (a b:D) (M:Store):R3 D:=match a,b with
 | .int i,.int j=>if ZdE i j then .ok (.int (i * j)) M else .bad
 | .str x,.int k=>if x.length * k.toNat <= SZ /\ k < 1000000 /\ -1000000 < k then .ok (.str (Yl k.toNat x).flatten) M else .bad
 | .ref n,.int k=>match M[n]? with
  | some (.lst x)=>if x.length * k.toNat <= SZ /\ k < 1000000 /\ -1000000 < k then alloc (.lst (Yl k.toNat x).flatten) M else .bad
  | _=>.bad
 | _,_=>.bad
end
@[simp] noncomputable def ZaB (a b:D) (M:Store):R3 D:=match a,b with
 | .int i,.int j=>if 0 < j then .ok (.int (i % j)) M else .bad
 | _,_=>.bad
section
local instance (priority:=100000) clP6 (p:Prop):Decidable p:=Ys p
@[simp] noncomputable def Za7 (a b:D) (M:Store):R3 D:=match a,b with
 | .int i,.int j=>if 0 < j /\ j < 1073741824 then .ok (.int (i / j)) M else .bad
 | _,_=>.bad
end
@[simp] noncomputable def ZiH (a b:D) (M:Store):R3 D:=match a,b with
 | .int i,.int j=>if 0 <= j /\ j <= 1000 /\ i.natAbs < 1000 then .ok (.int (i ^ j.toNat)) M else .bad
 | _,_=>.bad
@[simp] noncomputable def ZbE (a:D) (M:Store):R3 D:=match a with
 | .int i=>.ok (.int (-i)) M
 | _=>.bad
@[simp] noncomputable def Zis (a b:D) (M:Store):R3 D:=match a,b with
 | .int i,.int j=>.ok (.bl (decide (i < j))) M
 | _,_=>.bad
@[simp] noncomputable def ZgW (a b:D) (M:Store):R3 D:=match a,b with
 | .int i,.int j=>.ok (.bl (decide (i <= j))) M
 | _,_=>.bad
@[simp] noncomputable def ZgT (a b:D) (M:Store):R3 D:=match a,b with
 | .int i,.int j=>.ok (.bl (decide (j < i))) M
 | _,_=>.bad
@[simp] noncomputable def ZqI (a b:D) (M:Store):R3 D:=match a,b with
 | .int i,.int j=>.ok (.bl (decide (j <= i))) M
 | _,_=>.bad
@[simp] noncomputable def eqD (a b:D) (M:Store):Option Bool:=match a,b with
 | .ref n,.ref m=>match M[n]?,M[m]? with
  | some (.lst x),some (.lst y)=>if x.all (ZaM DEEP) && y.all (ZaM DEEP) then some (Zc4 x y) else none
  | _,_=>none
 | .int i,.int j=>some (decide (i = j))
 | .str x,.str y=>some (decide (x = y))
 | .bl x,.bl y=>some (decide (x = y))
 | .tup x,.tup y=>if x.all (ZaM DEEP) && y.all (ZaM DEEP) then some (Zc4 x y) else none
 | _,_=>none
@[simp] noncomputable def ZaH (a b:D) (M:Store):R3 D:=match eqD a b M with
 | some r=>.ok (.bl r) M
 | none=>.bad
@[simp] noncomputable def ZeP (a b:D) (M:Store):R3 D:=match eqD a b M with
 | some r=>.ok (.bl (!r)) M
 | none=>.bad
@[simp] noncomputable def ZjI (a b:D) (M:Store):R3 D:=match b with
 | .non=>.ok (.bl (decide (a = .non))) M
 | _=>.bad
noncomputable def Za9:D -> Bool
 | .non=>true | .bl _=>true | .int _=>true | .str _=>true | _=>false
@[simp] noncomputable def inD (a b:D):Option Bool:=match a,b with
 | .str [c],.str y=>some (decide (c ∈ y))
 | x,.tup ys=>if Za9 x && ys.all Za9 then some (ys.any fun y=>deq y x) else none
 | _,_=>none
@[simp] noncomputable def Zjg (a b:D) (M:Store):R3 D:=match inD a b with
 | some r=>.ok (.bl r) M
 | none=>.bad
@[simp] noncomputable def Zf5 (a b:D) (M:Store):R3 D:=match inD a b with
 | some r=>.ok (.bl (!r)) M
 | none=>.bad
noncomputable def ixD (n:Nat) (i:Int):Option Nat:=if 0 <= i then (if i < n then some i.toNat else none) else if -(n:Int) <= i then some (i + n).toNat else none
noncomputable def Zbc {α:Type} (xs:List α) (i:Int):Option α:=(ixD xs.length i).bind fun j=>xs[j]?
@[simp] noncomputable def ZeM:D -> Option Za4
 | .int i=>some (.inl i)
 | .str x=>some (.inr x)
 | _=>none
noncomputable def Zcb:List (Za4 × D) -> Za4 -> Option D
 | [],_=>none
 | (k,v) :: r,x=>if k = x then some v else Zcb r x
section
local instance (priority:=100000) clP7 (p:Prop):Decidable p:=Ys p
@[simp] noncomputable def Zf (a b:D) (M:Store):R3 D:=match a,b with
 | .tup ds,.int i=>match Zbc ds i with
  | some d=>.ok d M
  | none=>.bad
 | .scr ds,.int i=>match Zbc ds i with
  | some d=>.ok d M
  | none=>.bad
 | .str x,.int i=>match Zbc x i with
  | some c=>if x.length <= SZ then .ok (.str [c]) M else .bad
  | none=>.bad
 | .ref n,.int i=>match M[n]? with
  | some (.lst ds)=>match Zbc ds i with
   | some d=>.ok d M
   | none=>.bad
  | _=>.bad
 | _,_=>.bad
end
@[simp] noncomputable def ZcP:Option MO -> Option (List (Za4 × D))
 | some (.dct kvs)=>some kvs
 | some (.fdct kvs)=>some kvs
 | _=>none
@[simp] noncomputable def Zcp (a b:D) (M:Store):R3 D:=match a with
 | .ref n=>match ZcP M[n]?,ZeM b with
  | some kvs,some x=>match Zcb kvs x with
   | some d=>.ok d M
   | none=>.bad
  | _,_=>.bad
 | _=>.bad
noncomputable def sIx (n d:Nat):Option Int -> Nat
 | none=>d
 | some v=>if v < 0 then (v + (n:Int)).toNat else min v.toNat n
noncomputable def cutD {α:Type} (xs:List α) (lo hi:Option Int):List α:=(xs.drop (sIx xs.length 0 lo)).take (sIx xs.length xs.length hi - sIx xs.length 0 lo)
noncomputable abbrev EO3:=Zaq -> Store -> R3 (Option Int)
@[simp] noncomputable def ZaY:EO3:=fun _ M=>.ok none M
@[simp] noncomputable def ZaP (f:E3):EO3:=fun env M=>(f env M).bind fun a M1=>match a with
 | .int i=>.ok (some i) M1
 | _=>.bad
section
local instance (priority:=100000) clP8 (p:Prop):Decidable p:=Ys p
@[simp] noncomputable def Zgt (a:D) (lo hi:Option Int) (M:Store):R3 D:=match a with
 | .tup ds=>.ok (.tup (cutD ds lo hi)) M
 | .scr ds=>alloc (.lst (cutD ds lo hi)) M
 | .str x=>if x.length <= SZ then .ok (.str (cutD x lo hi)) M else .bad
 | .ref n=>match M[n]? with
  | some (.lst ds)=>alloc (.lst (cutD ds lo hi)) M
  | _=>.bad
 | _=>.bad
end
@[simp] noncomputable def eSl (f:E3) (lo hi:EO3):E3:=fun env M=>(f env M).bind fun a M1=>(lo env M1).bind fun l M2=>(hi env M2).bind fun h M3=>Zgt a l h M3
section
local instance (priority:=100000) clP9 (p:Prop):Decidable p:=Ys p
@[simp] noncomputable def Za2 (ds:List D) (M:Store):R3 D:=match ds with
 | [.tup x]=>.ok (.int x.length) M
 | [.scr x]=>.ok (.int x.length) M
 | [.str x]=>if x.length <= SZ then .ok (.int x.length) M else .bad
 | [.ref n]=>match M[n]? with
  | some (.lst x)=>.ok (.int x.length) M
  | _=>.bad
 | _=>.bad
end
@[simp] noncomputable def Za1 (ds:List D) (M:Store):R3 D:=match ds with
 | [.tup x]=>.ok (.tup x) M
 | [.scr x]=>.ok (.tup x) M
 | [.ref n]=>match M[n]? with
  | some (.lst x)=>.ok (.tup x) M
  | _=>.bad
 | _=>.bad
@[simp] noncomputable def Zhz (ds:List D) (M:Store):R3 D:=match ds with
 | [.tup x]=>alloc (.lst x) M
 | [.scr x]=>alloc (.lst x) M
 | [.ref n]=>match M[n]? with
  | some (.lst x)=>alloc (.lst x) M
  | _=>.bad
 | _=>.bad
inductive Ty3 where
 | int | bool | str | list | tuple
 deriving DecidableEq
@[simp] noncomputable def ZcZ (T:Ty3) (d:D) (M:Store):Option Bool:=match d with
 | .non=>some false
 | .bl _=>some (T == .bool || T == .int)
 | .int _=>some (T == .int)
 | .str _=>some (T == .str)
 | .tup _=>some (T == .tuple)
 | .scr _=>none
 | .ref n=>match M[n]? with
  | some (.lst _)=>some (T == .list)
  | some (.dct _)=>some false
  | some (.fdct _)=>none
  | some (.ins _ _)=>none
  | none=>none
@[simp] noncomputable def Zeg (T:Ty3) (d:D) (M:Store):R3 D:=match ZcZ T d M with
 | some b=>.ok (.bl b) M
 | none=>.bad
noncomputable def isB:D -> Bool
 | .bl _=>true
 | _=>false
noncomputable def isT:D -> Bool
 | .bl b=>b
 | _=>false
noncomputable def allB (l:List D):Option Bool:=if l.all isB then some (l.all isT) else none
@[simp] noncomputable def Ziv (ds:List D) (M:Store):R3 D:=match ds with
 | [.ref n]=>match M[n]? with
  | some (.lst x)=>match allB x with
   | some b=>.ok (.bl b) M
   | none=>.bad
  | _=>.bad
 | _=>.bad
@[simp] noncomputable def ZaZ (o:D) (ds:List D) (M:Store):R3 D:=match o,ds with
 | .str x,[.str y]=>if x.length <= SZ /\ y.length <= SZ then .ok (.bl (y.isPrefixOf x)) M else .bad
 | _,_=>.bad
section
local instance (priority:=100000) clP11 (p:Prop):Decidable p:=Ys p
@[simp] noncomputable def ZaD (o:D) (ds:List D) (M:Store):R3 D:=match o,ds with
 | .ref n,[d]=>match M[n]? with
  | some (.lst x)=>if x.length < SZ then .ok .non (M.set n (.lst (x ++ [d]))) else .bad
  | _=>.bad
 | _,_=>.bad
end
section
local instance (priority:=100000) clPp (p:Prop):Decidable p:=Ys p
end
@[simp] noncomputable def tyS (a:D) (_:Store):Bool:=match a with
 | .str _=>true
 | _=>false
@[simp] noncomputable def tyL (a:D) (M:Store):Bool:=match a with
 | .ref n=>match M[n]? with
  | some (.lst _)=>true
  | _=>false
 | _=>false
@[simp] noncomputable def ZjN (a:D) (M:Store):Bool:=match a with
 | .ref n=>(ZcP M[n]?).isSome
 | _=>false
@[simp] noncomputable def ZaR (ty:D -> Store -> Bool) (m:D -> List D -> Store -> R3 D) (o:E3) (g:EL3):E3:=fun env M=>(o env M).bind fun a M1=>if ty a M1 then (g env M1).bind fun ds M2=>m a ds M2 else .bad
@[simp] noncomputable def Zax (b:List D -> Store -> R3 D) (g:EL3):E3:=fun env M=>(g env M).bind fun ds M1=>b ds M1
noncomputable def putD (k:Za4) (v:D) (kvs:List (Za4 × D)):List (Za4 × D):=
 if (kvs.any fun p=>decide (p.1 = k)) = true then kvs.map (fun p=>if p.1 = k then (p.1,v) else p) else kvs ++ [(k,v)]
noncomputable abbrev EP3:=Zaq -> Store -> R3 (List (Za4 × D))
@[simp] noncomputable def ZsH:EP3:=fun _ M=>.ok [] M
@[simp] noncomputable def ZdP (f g:E3) (r:EP3):EP3:=fun env M=>(f env M).bind fun a M1=>(g env M1).bind fun b M2=>match ZeM a with
 | some k=>(r env M2).bind fun l M3=>.ok ((k,b) :: l) M3
 | none=>.bad
noncomputable def dictOf (l:List (Za4 × D)):List (Za4 × D):=l.foldl (fun acc p=>putD p.1 p.2 acc) []
@[simp] noncomputable def Zos (r:EP3):E3:=fun env M=>(r env (M ++ [.dct []])).bind fun l M1=>match M1[M.length]? with
 | some (.dct [])=>if l.length <= 15 then .ok (.ref M.length) (M1.set M.length (.dct (dictOf l))) else .bad
 | _=>.bad
@[simp] noncomputable def Zpx:E3:=fun _ M=>alloc (.dct []) M
@[simp] noncomputable def e3 (op:D -> D -> D -> Store -> R3 D) (f g h:E3):E3:=fun env M=>(f env M).bind fun a M1=>(g env M1).bind fun b M2=>(h env M2).bind fun c M3=>op a b c M3
section
local instance (priority:=100000) clP12 (p:Prop):Decidable p:=Ys p
@[simp] noncomputable def ZlN (v a b:D) (M:Store):R3 D:=match a with
 | .ref n=>match M[n]?,ZeM b with
  | some (.dct kvs),some k=>if kvs.length < SZ then .ok .non (M.set n (.dct (putD k v kvs))) else .bad
  | _,_=>.bad
 | _=>.bad
end
@[simp] noncomputable def Zl0 (v a b:D) (M:Store):R3 D:=match a,b with
 | .ref n,.int i=>match M[n]? with
  | some (.lst xs)=>match ixD xs.length i with
   | some j=>.ok .non (M.set n (.lst (xs.set j v)))
   | none=>.bad
  | _=>.bad
 | _,_=>.bad
@[simp] noncomputable def Zkg (o:D) (ds:List D) (M:Store):R3 D:=match o,ds with
 | .ref n,[b]=>match ZcP M[n]?,ZeM b with
  | some kvs,some k=>.ok ((Zcb kvs k).getD .non) M
  | _,_=>.bad
 | .ref n,[b,d]=>match ZcP M[n]?,ZeM b with
  | some kvs,some k=>.ok ((Zcb kvs k).getD d) M
  | _,_=>.bad
 | _,_=>.bad
noncomputable def Zdg:List D -> Option (List (Za4 × D))
 | []=>some []
 | .tup [a,b] :: r=>match ZeM a with
  | some k=>(Zdg r).map fun l=>(k,b) :: l
  | none=>none
 | _ :: _=>none
section
local instance (priority:=100000) clP13 (p:Prop):Decidable p:=Ys p
@[simp] noncomputable def Zha (ds:List D) (M:Store):R3 D:=match ds with
 | [.ref n]=>match ZcP M[n]? with
  | some kvs=>alloc (.dct kvs) M
  | none=>.bad
 | [.tup x]=>match Zdg x with
  | some l=>if l.length <= 100000 then alloc (.dct (dictOf l)) M else .bad
  | none=>.bad
 | _=>.bad
end
@[simp] noncomputable def ZtK (ds:List D) (M:Store):R3 D:=match ds with
 | [.int i]=>.ok (.int i) M
 | [.bl b]=>.ok (.int (if b then 1 else 0)) M
 | _=>.bad
noncomputable def ltT:List D -> List D -> Option Bool
 | [],[]=>some false
 | [],_ :: _=>some true
 | _ :: _,[]=>some false
 | .int i :: x,.int j :: y=>if i = j then ltT x y else some (decide (i < j))
 | .str a :: x,.str b :: y=>if a = b then ltT x y else some (decide (a < b))
 | _ :: _,_ :: _=>none
noncomputable def ltD:D -> D -> Option Bool
 | .tup a,.tup b=>ltT a b
 | .int i,.int j=>some (decide (i < j))
 | _,_=>none
def leD (a b:D):Prop:=ltD b a = some false
def ZhI (x y:List D):Prop:=y.Perm x /\ y.Pairwise leD
noncomputable def ZdH:D -> Bool
 | .tup (.int _ :: _)=>true
 | _=>false
noncomputable def ZfN:D -> Bool
 | .int _=>true
 | _=>false
structure Zo4 (x:List D):Prop where
 len:x.length < 64
 kind:x.all ZdH = true \/ x.all ZfN = true
 cmp:∀ a ∈ x,∀ b ∈ x,(ltD a b).isSome = true
section
local instance (priority:=100000) clPs (p:Prop):Decidable p:=Ys p
noncomputable def Zn2 (x:List D):List D:=if h:∃ y,ZhI x y then h.choose else x
@[simp] noncomputable def ZdG (ds:List D) (M:Store):R3 D:=match ds with
 | [.ref n]=>match M[n]? with
  | some (.lst x)=>if Zo4 x then alloc (.lst (Zn2 x)) M else .bad
  | _=>.bad
 | _=>.bad
end
noncomputable def Zc5:List D -> Option (List Int)
 | []=>some []
 | .int i :: r=>(Zc5 r).map (i :: ·)
 | _ :: _=>none
@[simp] noncomputable def ZgO (ds:List D) (M:Store):R3 D:=match ds with
 | [.ref n]=>match M[n]? with
  | some (.lst x)=>match Zc5 x with
   | some ns=>.ok (.int ns.sum) M
   | none=>.bad
  | _=>.bad
 | [.scr x]=>match Zc5 x with
  | some ns=>.ok (.int ns.sum) M
  | none=>.bad
 | _=>.bad
noncomputable def Zab:S3:=fun env M=>.nx env M
noncomputable def Zj6:S3:=fun _ _=>.bad
noncomputable def Zy (f g:S3):S3:=fun env M=>match f env M with
 | .nx env' M'=>g env' M'
 | o=>o
noncomputable def sIf (c:E3) (f g:S3):S3:=fun env M=>match c env M with
 | .ok (.bl true) M1=>f env M1
 | .ok (.bl false) M1=>g env M1
 | .exc x M1=>.exc x M1
 | _=>.bad
noncomputable def Zau (f:E3):S3:=fun env M=>match f env M with
 | .ok d M1=>.rt d M1
 | .exc x M1=>.exc x M1
 | .bad=>.bad
noncomputable def ZaJ (f:E3):S3:=fun env M=>match f env M with
 | .ok _ M1=>.nx env M1
 | .exc x M1=>.exc x M1
 | .bad=>.bad
noncomputable def ZaF (i:Nat) (f:E3):S3:=fun env M=>match f env M with
 | .ok d M1=>.nx (env.set i (some d)) M1
 | .exc x M1=>.exc x M1
 | .bad=>.bad
noncomputable def Zmt (o i f:E3):S3:=ZaJ (e3 ZlN f o i)
noncomputable def Zg4 (o i f:E3):S3:=ZaJ (e3 Zl0 f o i)
noncomputable abbrev G3:=D -> Zaq -> Option Zaq
@[simp] noncomputable def ZbB (i:Nat):G3:=fun d env=>some (env.set i (some d))
@[simp] noncomputable def bindAll:List Nat -> List D -> Zaq -> Option Zaq
 | [],[],env=>some env
 | i :: is,d :: ds,env=>bindAll is ds (env.set i (some d))
 | _,_,_=>none
@[simp] noncomputable def Zgx (is:List Nat):G3:=fun d env=>match d with
 | .tup ds=>bindAll is ds env
 | _=>none
structure It3 where
 items:List D
 lock:Option Nat
noncomputable abbrev I3:=Zaq -> Store -> R3 It3
section
local instance (priority:=100000) clP14 (p:Prop):Decidable p:=Ys p
@[simp] noncomputable def Zdl (f:E3):I3:=fun env M=>(f env M).bind fun a M1=>match a with
 | .tup ds=>.ok ⟨ds,none⟩ M1
 | .scr ds=>.ok ⟨ds,none⟩ M1
 | .str x=>if x.length <= SZ then .ok ⟨x.map fun c=>.str [c],none⟩ M1 else .bad
 | .ref n=>match M1[n]? with
  | some (.lst ds)=>.ok ⟨ds,some n⟩ M1
  | _=>.bad
 | _=>.bad
end
noncomputable def Zd2 (lo:Int) (n:Nat):List D:=(Yaa n).map fun (k:Nat)=>D.int (lo + (k:Int))
section
local instance (priority:=100000) clP15 (p:Prop):Decidable p:=Ys p
@[simp] noncomputable def Zbq (f:E3):I3:=fun env M=>(f env M).bind fun a M1=>match a with
 | .int j=>if j <= 1000000 /\ -1000000 <= j then .ok ⟨Zd2 0 j.toNat,none⟩ M1 else .bad
 | _=>.bad
end
section
local instance (priority:=100000) clP16 (p:Prop):Decidable p:=Ys p
end
noncomputable def locked (it:It3) (M:Store):Bool:=match it.lock with
 | none=>true
 | some n=>decide (M[n]? = some (.lst it.items))
noncomputable def ZeT (it:It3) (g:G3) (body:S3):List D -> Zaq -> Store -> O3
 | [],env,M=>if locked it M then .nx env M else .bad
 | d :: ds,env,M=>if locked it M then match g d env with
  | none=>.bad
  | some env1=>match body env1 M with
   | .nx e M'=>ZeT it g body ds e M'
   | .ct e M'=>ZeT it g body ds e M'
   | .bk e M'=>.nx e M'
   | o=>o
  else .bad
noncomputable def ZfR (i:I3) (g:G3) (body:S3):S3:=fun env M=>match i env M with
 | .ok it M1=>ZeT it g body it.items env M1
 | .exc x M1=>.exc x M1
 | .bad=>.bad
noncomputable def Zde (c:E3) (body:S3):Nat -> Zaq -> Store -> O3
 | 0,_,_=>.bad
 | n + 1,env,M=>match c env M with
  | .ok (.bl true) M1=>match body env M1 with
   | .nx e M'=>Zde c body n e M'
   | .ct e M'=>Zde c body n e M'
   | .bk e M'=>.nx e M'
   | o=>o
  | .ok (.bl false) M1=>.nx env M1
  | .exc x M1=>.exc x M1
  | _=>.bad
noncomputable def Zjr (c:E3) (body:S3):S3:=Zde c body 1000000
noncomputable def ZdI:List E3 -> Zaq -> Store -> R3 Bool
 | [],_,M=>.ok true M
 | c :: cs,env,M=>(c env M).bind fun a M1=>match a with
  | .bl true=>ZdI cs env M1
  | .bl false=>.ok false M1
  | _=>.bad
section
local instance (priority:=100000) clP17 (p:Prop):Decidable p:=Ys p
noncomputable def ZbC (it:It3) (g:G3) (ifs:List E3) (elt:E3) (n:Nat):List D -> Zaq -> Store -> R3 D
 | [],_,M=>if locked it M then .ok (.ref n) M else .bad
 | d :: ds,env,M=>if locked it M then match g d env with
  | none=>.bad
  | some env1=>(ZdI ifs env1 M).bind fun b M1=>if b then (elt env1 M1).bind fun e M2=>match M2[n]? with
    | some (.lst x)=>if x.length < SZ then ZbC it g ifs elt n ds env1 (M2.set n (.lst (x ++ [e]))) else .bad
    | _=>.bad
   else ZbC it g ifs elt n ds env1 M1
  else .bad
end
noncomputable def eLC (i:I3) (own:Nat) (g:G3) (ifs:List E3) (elt:E3):E3:=fun env M=>(i env M).bind fun it M1=>
 ZbC it g ifs elt M1.length it.items (env ++ Yl own none) (M1 ++ [.lst []])
noncomputable def keyV:Za4 -> D
 | .inl i=>.int i
 | .inr x=>.str x
noncomputable def ZpN (f:E3) (own:Nat) (g:G3) (ifs:List E3) (elt:E3):E3:=fun env M=>(f env M).bind fun a M1=>match a with
 | .ref n=>match M1[n]? with
  | some (.dct kvs)=>(ZbC ⟨kvs.map fun q=>keyV q.1,none⟩ g ifs elt M1.length (kvs.map fun q=>keyV q.1) (env ++ Yl own none) (M1.set n (.fdct kvs) ++ [.lst []])).bind fun v M2=>match M2[n]? with
   | some (.fdct kvs')=>.ok v (M2.set n (.dct kvs'))
   | _=>.bad
  | _=>.bad
 | _=>.bad
noncomputable def ZgJ (n:Nat):MO -> Bool
 | .lst xs=>belowL n xs
 | .dct kvs=>belowL n (kvs.map (·.2))
 | .fdct kvs=>belowL n (kvs.map (·.2))
 | .ins _ fs=>belowL n (fs.map (·.2))
noncomputable def Zdh (M:Store) (d:D) (M':Store):R3 D:=
 if below M.length d && (decide (M'.take M.length = M) || (M'.take M.length).all (ZgJ M.length)) then .ok d (M'.take M.length) else .ok d M'
noncomputable def mkF (ps n:Nat) (body:S3):F3:=fun ds M=>if ds.length = ps then match body (ds.map some ++ Yl (n - ps) none) M with
  | .nx _ M'=>Zdh M .non M'
  | .rt d M'=>Zdh M d M'
  | .exc x M'=>.exc x M'
  | _=>.bad
 else .bad
end
theorem Zhv:∀ (a b:List D),ltT a b = some true -> ltT b a = some false
 | [],[],h=>by simp [ltT] at h
 | [],_ :: _,_=>by simp [ltT]
 | _ :: _,[],h=>by simp [ltT] at h
 | .int i :: x,.int j :: y,h=>by
  simp only [ltT] at h ⊢;by_cases e:i = j
  ·subst e; simp only [if_true] at h ⊢; exact Zhv x y h
  ·rw [if_neg e] at h
   rw [if_neg (Ya4 e)];simp only [Yas,decide_eq_true_eq,decide_eq_false_iff_not] at h ⊢;exact fun z=>iN [] [_,_] 2 25796087953 T1 z h
 | .str p :: x,.str q :: y,h=>by
  simp only [ltT] at h ⊢;by_cases e:p = q
  ·subst e; simp only [if_true] at h ⊢; exact Zhv x y h
  ·rw [if_neg e] at h
   rw [if_neg (Ya4 e)];simp only [Yas,decide_eq_true_eq,decide_eq_false_iff_not] at h ⊢;exact fun z=>List.lt_irrefl _ (List.lt_trans h z)
 | .non :: _,_ :: _,h=>by simp [ltT] at h
 | .bl _ :: _,_ :: _,h=>by simp [ltT] at h
 | .tup _ :: _,_ :: _,h=>by simp [ltT] at h
 | .scr _ :: _,_ :: _,h=>by simp [ltT] at h
 | .ref _ :: _,_ :: _,h=>by simp [ltT] at h
 | .int _ :: _,.non :: _,h=>by simp [ltT] at h
 | .int _ :: _,.bl _ :: _,h=>by simp [ltT] at h
 | .int _ :: _,.str _ :: _,h=>by simp [ltT] at h
 | .int _ :: _,.tup _ :: _,h=>by simp [ltT] at h
 | .int _ :: _,.scr _ :: _,h=>by simp [ltT] at h
 | .int _ :: _,.ref _ :: _,h=>by simp [ltT] at h
 | .str _ :: _,.non :: _,h=>by simp [ltT] at h
 | .str _ :: _,.bl _ :: _,h=>by simp [ltT] at h
 | .str _ :: _,.int _ :: _,h=>by simp [ltT] at h
 | .str _ :: _,.tup _ :: _,h=>by simp [ltT] at h
 | .str _ :: _,.scr _ :: _,h=>by simp [ltT] at h
 | .str _ :: _,.ref _ :: _,h=>by simp [ltT] at h
theorem Zd6 {p:Prop} {b:Bool} (h:(none:Option Bool) = some b):p:=by cases h
theorem Zeo {d e:D} {x y:List D} {r:Bool} (h:ltT (d :: x) (e :: y) = some r):(∃ i j,d = .int i /\ e = .int j) \/ ∃ i j,d = .str i /\ e = .str j:=by
 cases d with
 | int i=>cases e with
  | int j=>exact .inl ⟨_,_,rfl,rfl⟩
  | _=>exact Zd6 h
 | str i=>cases e with
  | str j=>exact .inr ⟨_,_,rfl,rfl⟩
  | _=>exact Zd6 h
 | _=>cases e <;> exact Zd6 h
theorem ZlI:∀ (a b c:List D),ltT b a = some false -> ltT c b = some false -> ltT c a = some false
 | [],b,c,h1,h2=>by cases c <;> simp [ltT]
 | _ :: _,[],c,h1,h2=>by simp [ltT] at h1
 | _ :: _,_ :: _,[],h1,h2=>by simp [ltT] at h2
 | d :: x,e :: y,f :: z,h1,h2=>by
  rcases Zeo h1 with ⟨j,i,rfl,rfl⟩ | ⟨j,i,rfl,rfl⟩
  ·rcases Zeo h2 with ⟨k,j',rfl,e⟩ | ⟨k,j',rfl,e⟩
   ·cases e
    simp only [ltT] at h1 h2 ⊢;by_cases e1:j = i
    ·subst e1
     simp only [if_true] at h1;by_cases e2:k = j
     ·subst e2; simp only [if_true] at h2 ⊢; exact ZlI x y z h1 h2
     ·rw [if_neg e2] at h2 ⊢; exact h2
    ·rw [if_neg e1] at h1
     by_cases e2:k = j
     ·subst e2; rw [if_neg e1]; exact h1
     ·rw [if_neg e2] at h2
      simp only [Yas,decide_eq_false_iff_not] at h1 h2;rw [if_neg (by exact fun z=>iN [] [_,_] 2 26047746257 T1 h1 (Yex.2 ⟨(iN [] [_,_,_] 2 1271860891809 T1 z h2),e1⟩))];simp only [Yas,decide_eq_false_iff_not]; exact fun z=>iN [] [_,_,_] 3 0x612d120d11091 T1 z h2 h1
   ·cases e
  ·rcases Zeo h2 with ⟨k,j',rfl,e⟩ | ⟨k,j',rfl,e⟩
   ·cases e
   ·cases e
    simp only [ltT] at h1 h2 ⊢;by_cases e1:j = i
    ·subst e1
     simp only [if_true] at h1;by_cases e2:k = j
     ·subst e2; simp only [if_true] at h2 ⊢; exact ZlI x y z h1 h2
     ·rw [if_neg e2] at h2 ⊢; exact h2
    ·rw [if_neg e1] at h1
     by_cases e2:k = j
     ·subst e2; rw [if_neg e1]; exact h1
     ·rw [if_neg e2] at h2
      simp only [Yas,decide_eq_false_iff_not,Yjj] at h1 h2;have h3:i <= k:=List.le_trans h1 h2;have ne:k ≠ i:=fun z=>by subst z; exact e1 (List.le_antisymm h2 h1)
      rw [if_neg ne];simp only [Yas,decide_eq_false_iff_not,Yjj]; exact h3
theorem Zhq:∀ (a b:List D),ltT a b = some false -> ltT b a = some false -> a = b
 | [],[],_,_=>rfl
 | [],_ :: _,h,_=>by simp [ltT] at h
 | _ :: _,[],_,h=>by simp [ltT] at h
 | d :: x,e :: y,h1,h2=>by
  rcases Zeo h1 with ⟨i,j,rfl,rfl⟩ | ⟨i,j,rfl,rfl⟩
  ·simp only [ltT] at h1 h2
   by_cases e1:i = j
   ·subst e1; simp only [if_true] at h1 h2; rw [Zhq x y h1 h2]
   ·rw [if_neg e1] at h1
    rw [if_neg (Ya4 e1)] at h2;simp only [Yas,decide_eq_false_iff_not] at h1 h2;exact (iN [] [_,_] 2 26047746257 T1 h1 (Yex.2 ⟨(Ye1.1 h2),e1⟩)).elim
  ·simp only [ltT] at h1 h2
   by_cases e1:i = j
   ·subst e1; simp only [if_true] at h1 h2; rw [Zhq x y h1 h2]
   ·rw [if_neg e1] at h1
    rw [if_neg (Ya4 e1)] at h2;simp only [Yas,decide_eq_false_iff_not,Yjj] at h1 h2;exact absurd (List.le_antisymm h2 h1) e1
theorem Zkr {a b:D} (h:ltD a b = some true):ltD b a = some false:=by
 cases a with
 | int i=>cases b with
  | int j=>
   simp only [ltD,Yas,decide_eq_true_eq,decide_eq_false_iff_not] at h ⊢; exact fun z=>iN [] [_,_] 2 25796087953 T1 z h
  | _=>exact Zd6 h
 | tup x=>cases b with
  | tup y=>exact Zhv _ _ h
  | _=>exact Zd6 h
 | _=>exact Zd6 h
theorem Zs2 {a b c:D} (h1:ltD b a = some false) (h2:ltD c b = some false):ltD c a = some false:=by
 cases b with
 | int j=>cases a with
  | int i=>cases c with
   | int k=>
    simp only [ltD,Yas,decide_eq_false_iff_not] at h1 h2 ⊢; exact fun z=>iN [] [_,_,_] 3 0x612d120d11091 T1 z h2 h1
   | _=>exact Zd6 h2
  | _=>exact Zd6 h1
 | tup y=>cases a with
  | tup x=>cases c with
   | tup z=>exact ZlI _ _ _ h1 h2
   | _=>exact Zd6 h2
  | _=>exact Zd6 h1
 | _=>exact Zd6 h1
theorem Zoy {a b:D} (h1:ltD a b = some false) (h2:ltD b a = some false):a = b:=by
 cases a with
 | int i=>cases b with
  | int j=>
   simp only [ltD,Yas,decide_eq_false_iff_not] at h1 h2; rw [show i = j by exact Ycg (Ye1.1 h2) (Ye1.1 h1)]
  | _=>exact Zd6 h1
 | tup x=>cases b with
  | tup y=>rw [Zhq _ _ h1 h2]
  | _=>exact Zd6 h1
 | _=>exact Zd6 h1
theorem ZiQ:∀ {x y:List D},y.Perm x -> x.Pairwise leD -> y.Pairwise leD -> y = x
 | [],y,p,_,_=>p.eq_nil
 | a :: x,y,p,hx,hy=>by
  cases y with
  | nil=>exact (p.symm.eq_nil).symm ▸ rfl
  | cons b y=>
   have hx':=Yca.mp hx;have hy':=Yca.mp hy;have e:b = a:=by
    rcases Y3.mp (p.mem_iff.mp Yq) with h | h
    ·exact h
    ·rcases Y3.mp (p.mem_iff.mpr (Yq (a:=a) (l:=x))) with h' | h'
     ·exact h'.symm
     ·exact Zoy (hx'.1 b h) (hy'.1 a h')
   subst e;rw [ZiQ (List.Perm.cons_inv p) hx'.2 hy'.2]
theorem ZkB {x y:List D} (h:ZhI x y):Zn2 x = y:=by
 unfold Zn2;rw [dif_pos ⟨y,h⟩];have hc:=Exists.choose_spec (⟨y,h⟩:∃ y,ZhI x y);exact ZiQ (hc.1.trans h.1.symm) h.2 hc.2
end L3
namespace L3
theorem Zhx {it:It3} {i n:Nat} {elt:E3} {R:D -> D -> Prop} {env0:Zaq}:∀ (ds:List D) (acc:List D) (env:Zaq) (M:Store),(∀ d,env.set i (some d) = env0.set i (some d)) ->
  (∀ d ∈ ds,∀ x,∃ e,elt (env0.set i (some d)) (M.set n (.lst x)) = .ok e (M.set n (.lst x)) /\ R d e) -> (∀ x,locked it (M.set n (.lst x)) = true) -> M[n]? = some (.lst acc) -> acc.length + ds.length <= SZ ->
  ∃ es,es.length = ds.length /\ (∀ (j:Nat) d e,ds[j]? = some d -> es[j]? = some e -> R d e) /\ ZbC it (ZbB i) [] elt n ds env M = .ok (.ref n) (M.set n (.lst (acc ++ es))):=by
 intro ds
 induction ds with
 | nil=>
  intro acc env M _ _ hl hM _;have e:M.set n (.lst acc) = M:=by
   apply Ybl;intro j;by_cases hj:j = n
   ·subst hj
    rw [Yab (Yb.mp hM).1,hM]
   ·rw [Y9 (Ya4 hj)]
  have hl':=hl acc;rw [e] at hl';exact ⟨[],rfl,fun j d e h=>by simp at h,by simp only [ZbC,hl',if_true,Yaj,e]⟩
 | cons d ds ih=>
  intro acc env M he hf hl hM hz;have hn:n < M.length:=(Yb.mp hM).1;have e:M.set n (.lst acc) = M:=by
   apply Ybl;intro j;by_cases hj:j = n
   ·subst hj
    rw [Yab hn,hM]
   ·rw [Y9 (Ya4 hj)]
  have hl':=hl acc;rw [e] at hl';obtain ⟨v,hf',hR⟩:=hf d Yq acc;rw [e] at hf';have hz':acc.length < SZ:=by simp at hz ⊢; exact lB 1 0xf42405b01f42405ba1c0c01 T1 hz
  obtain ⟨es,le,re,h⟩:=ih (acc ++ [v]) (env0.set i (some d)) (M.set n (.lst (acc ++ [v]))) (fun d'=>by rw [Yb6]) (fun d' hd' x=>by rw [Yb6]; exact hf d' (Yv _ hd') x) (fun x=>by rw [Yb6]; exact hl x) (by rw [Yab hn]) (by simp at hz ⊢; exact lB 1 0xf42405b1a0cc0f42405ba1c0c01 T1 hz);refine ⟨v :: es,by simp [le],fun j d' e' h1 h2=>?_,?_⟩
  ·cases j with
   | zero=>simp at h1 h2; subst h1 h2; exact hR
   | succ j=>exact re j d' e' (by simpa using h1) (by simpa using h2)
  ·simp only [ZbC,hl',if_true,ZbB,he d,ZdI,R3.bind_ok,hf',hM,hz']
   rw [h,Yb6];simp
theorem Zeu {it:It3} {g:G3} {body:S3} {P:Nat -> Zaq -> Store -> Prop}:∀ (ds:List D) (j:Nat) (env:Zaq) (M:Store),P j env M -> (∀ j env M,P j env M -> locked it M = true) ->
  (∀ (k:Nat) d,ds[k]? = some d -> ∀ env M,P (j + k) env M -> ∃ env1 e' M',g d env = some env1 /\ body env1 M = .nx e' M' /\ P (j + k + 1) e' M') -> ∃ e' M',ZeT it g body ds env M = .nx e' M' /\ P (j + ds.length) e' M':=by
 intro ds
 induction ds with
 | nil=>intro j env M p hl _; exact ⟨env,M,by simp only [ZeT,hl j env M p,if_true],p⟩
 | cons d ds ih=>
  intro j env M p hl hs;obtain ⟨env1,e',M',h1,h2,p'⟩:=hs 0 d rfl env M p;obtain ⟨e2,M2,h3,p2⟩:=ih (j + 1) e' M' p' hl fun k d' hd' env M p=>by
   have:=hs (k + 1) d' (by simpa using hd') env M (by rw [show j + (k + 1) = j + 1 + k by exact Yh (lB 0 1790139547840 T1) (lB 0 0xa1c0c1a0cc0 T1)]; exact p);rw [show j + (k + 1) + 1 = j + 1 + k + 1 by exact Yh (lB 0 0xa1a0cccaa1c0cc0 T1) (lB 0 0xaa1c0cca1a0ccc0 T1)] at this;exact this
  exact ⟨e2,M2,by simp only [ZeT,hl j env M p,if_true,h1,h2,h3],by rw [Yai,show j + (ds.length + 1) = j + 1 + ds.length by exact Yh (lB 0 1790139547840 T1) (lB 0 0xa1c0c1a0cc0 T1)]; exact p2⟩
theorem Zm {f g:S3} {env env':Zaq} {M M':Store} (h:f env M = .nx env' M'):Zy f g env M = g env' M':=by rw [Zy,h]
theorem ZbY {f g:S3} {env:Zaq} {M M':Store} {d:D} (h:f env M = .rt d M'):Zy f g env M = .rt d M':=by rw [Zy,h]
theorem ZbN {c:E3} {f g:S3} {env:Zaq} {M M':Store} (h:c env M = .ok (.bl true) M'):sIf c f g env M = f env M':=by rw [sIf,h]
theorem ZaE {f:E3} {env:Zaq} {M M':Store} {d:D} (h:f env M = .ok d M'):Zau f env M = .rt d M':=by rw [Zau,h]
theorem Zaf {f:E3} {i:Nat} {env env':Zaq} {M M':Store} {d:D} (h:f env M = .ok d M') (he:env.set i (some d) = env':=by first | (dsimp only [Yfp,List.set_cons_zero] <;> exact rfl) | exact rfl):ZaF i f env M = .nx env' M':=by rw [ZaF,h]; simp only [he]
theorem Zak {c:E3} {f:S3} {env:Zaq} {M M':Store} (h:c env M = .ok (.bl false) M'):sIf c f Zab env M = .nx env M':=by rw [sIf,h]; rfl
theorem Zgm {f:E3} {env:Zaq} {M M':Store} {d:D} (h:f env M = .ok d M'):ZaJ f env M = .nx env M':=by rw [ZaJ,h]
theorem ZeL {i:I3} {g:G3} {u:S3} {env:Zaq} {M M':Store} {it:It3} (h:i env M = .ok it M'):ZfR i g u env M = ZeT it g u it.items env M':=by rw [ZfR,h]
theorem Zic {i:I3} {own:Nat} {g:G3} {ts:List E3} {f:E3} {env:Zaq} {M M':Store} {it:It3} (h:i env M = .ok it M'):eLC i own g ts f env M = ZbC it g ts f M'.length it.items (env ++ Yl own none) (M' ++ [.lst []]):=by rw [eLC,h]; rfl
theorem Zdz {ps n:Nat} {body:S3} {ds:List D} {env:Zaq} {M M':Store} {d:D} (h:body env M = .rt d M') (hl:ds.length = ps:=by rfl) (he:ds.map some ++ Yl (n - ps) none = env:=by rfl):mkF ps n body ds M = Zdh M d M':=by rw [mkF,if_pos hl,he,h]
theorem Zse {ps n:Nat} {body:S3} {ds:List D} {env env':Zaq} {M M':Store} (h:body env M = .nx env' M') (hl:ds.length = ps:=by rfl) (he:ds.map some ++ Yl (n - ps) none = env:=by rfl):mkF ps n body ds M = Zdh M .non M':=by rw [mkF,if_pos hl,he,h]
theorem ZoI {M G:Store} {d:D} (h:below M.length d = true):Zdh M d (M ++ G) = .ok d M:=by
 simp [Zdh,h]
theorem Zny {M:Store} {d:D} (h:below M.length d = true):Zdh M d M = .ok d M:=by
 simp [Zdh,h]
theorem Zaa {α:Type} (M:List α) (x:α) (xs:List α):(M ++ x :: xs)[M.length]? = some x:=by simp
theorem Za5 {α:Type} (M xs:List α) (k:Nat):(M ++ xs)[M.length + k]? = xs[k]?:=by
 rw [Yaq (Yam _ _)]; congr 1; exact Yh (lC 1 2199589555233 T1 (Yd (Yam _ _))) (lC 1 2267788938241 T1 (sbA _ _))
theorem ZbV {α:Type} (M xs:List α) (k:Nat) (o:α):(M ++ xs).set (M.length + k) o = M ++ xs.set k o:=by
 rw [Yhg _ _ (Yam _ _)]; congr 2; exact Yh (lC 1 2199589555233 T1 (Yd (Yam _ _))) (lC 1 2267788938241 T1 (sbA _ _))
theorem ZaI {α:Type} {M:List α} {n:Nat} {o:α} (h:M[n]? = some o) (xs:List α):(M ++ xs)[n]? = some o:=by
 rw [Y7 (Yb.mp h).1,h]
theorem ZaG {α:Type} (xs:List α) (k:Nat):Zbc xs (k:Int) = xs[k]?:=by
 unfold Zbc ixD;rw [if_pos (Ybo k)];by_cases h:k < xs.length
 ·rw [if_pos (Yff.2 h)]; simp
 ·rw [if_neg (by exact fun z=>iN [_,_] [] 2 6667149772945 T1 z h)]; simp at h ⊢; exact h
@[simp] theorem Ztk {α:Type} (xs:List α) (k:Nat):Zbc xs (k:Int) = xs[k]?:=ZaG xs k
@[simp] theorem Zt4 {α:Type} (xs:List α) (n:Nat):Zbc xs (no_index (Ygg n:Int)) = xs[(Ygg n:Nat)]?:=ZaG xs n
@[simp] theorem Zte {α:Type} (xs:List α):Zbc xs (-1) = xs.getLast?:=by
 unfold Zbc ixD;rw [if_neg (by decide),List.getLast?_eq_getElem?];by_cases h:0 < xs.length
 ·rw [if_pos (by exact iN [_] [] 1 725993655825 T1 h)]
  simp only [Ygt];congr 1; exact Yh (iN [_,_,_] [] 2 0x200a2c10118a9c08a1 T1 (Ya8 (iN [_] [] 1 595337940497 T1 h)) (sbA _ _)) (iN [_,_,_] [] 2 0x1200a2c211808a9c81 T1 (Ydn _) (Yd (lA 1 10489361 T1 h)))
 ·have:xs = []:=by simpa using h
  subst this; rfl
theorem Zmx (n k:Nat):ixD n (k:Int) = if k < n then some k else none:=by
 unfold ixD;rw [if_pos (Ybo k)];by_cases h:k < n
 ·rw [if_pos (Yff.2 h),if_pos h]; simp
 ·rw [if_neg (by exact fun z=>iN [_,_] [] 2 6667149772945 T1 z h),if_neg h]
@[simp] theorem Zo9 (n k:Nat):ixD n (k:Int) = if k < n then some k else none:=Zmx n k
@[simp] theorem ZuC (m n:Nat):ixD m (no_index (Ygg n:Int)) = if (Ygg n:Nat) < m then some (Ygg n:Nat) else none:=Zmx m n
theorem getD_last {α:Type} (xs:List α) (x:α):Zbc (xs ++ [x]) (-1) = some x:=by
 unfold Zbc ixD;rw [if_neg (by decide),if_pos (by simp; exact iN [_] [] 0 10521768 T1)];have:(-1 + ((xs ++ [x]).length:Int)).toNat = xs.length:=by simp; exact Yh (iN [_,_] [] 1 4514701222086817 T1 (Ya8 (iN [_] [] 0 43097169128 T1))) (iN [_,_] [] 1 4505291991981185 T1 (Ydn _))
 simp only [Ygt,this];simp
theorem Zlh {α:Type} (xs:List α):cutD xs none (some (-1)) = xs.dropLast:=by
 unfold cutD sIx;simp only [Yfv];rw [if_pos (by decide),Yhh];congr 1;omega
inductive Row where
 | put (a:Nat) (n:Int) | add (a b c:Nat) | sub (a b c:Nat) | more (a b c:Nat) | get (a b:Nat) | set (a b:Nat) | jump (k:Nat) | when (a k:Nat) | tell (a:Nat) | halt
 deriving Inhabited
noncomputable def Zq:Row -> D
 | .put a n=>.tup [.str [112,117,116],.int a,.int n]
 | .add a b c=>.tup [.str [97,100,100],.int a,.int b,.int c]
 | .sub a b c=>.tup [.str [115,117,98],.int a,.int b,.int c]
 | .more a b c=>.tup [.str [109,111,114,101],.int a,.int b,.int c]
 | .get a b=>.tup [.str [103,101,116],.int a,.int b]
 | .set a b=>.tup [.str [115,101,116],.int a,.int b]
 | .jump k=>.tup [.str [106,117,109,112],.int k]
 | .when a k=>.tup [.str [119,104,101,110],.int a,.int k]
 | .tell a=>.tup [.str [116,101,108,108],.int a]
 | .halt=>.tup [.str [104,97,108,116]]
noncomputable def Row.ok (many:Nat):Row -> Prop
 | .put a _=>a < 8
 | .add a b c=>a < 8 /\ b < 8 /\ c < 8
 | .sub a b c=>a < 8 /\ b < 8 /\ c < 8
 | .more a b c=>a < 8 /\ b < 8 /\ c < 8
 | .get a b=>a < 8 /\ b < 8
 | .set a b=>a < 8 /\ b < 8
 | .jump k=>k < many
 | .when a k=>a < 8 /\ k < many
 | .tell a=>a < 8
 | .halt=>True
noncomputable abbrev Zba:=List Row
noncomputable def Zo (r:Zba):D:=.tup (r.map Zq)
structure ZbS (r:Zba):Prop where
 rows:∀ x ∈ r,x.ok r.length
 last:∃ q x,r = q ++ [x] /\ (x = .halt \/ ∃ k,x = .jump k)
structure Stt where
 place:Nat
 boxes:List Int
 cells:List (Int × Int)
 deriving Inhabited,DecidableEq
noncomputable def Zu (bs:List Int):D:=.tup (bs.map D.int)
noncomputable def Zae (c:Int × Int):D:=.tup [.int c.1,.int c.2]
noncomputable def Zah (cs:List (Int × Int)):D:=.tup (cs.map Zae)
noncomputable def Ze (s:Stt):D:=.tup [.int s.place,Zu s.boxes,Zah s.cells]
def Stt.ok (r:Zba) (s:Stt):Prop:=s.place < r.length /\ s.boxes.length = 8
noncomputable def Row.tells (bs:List Int):Row -> Option Int
 | .tell a=>bs[a]?
 | _=>none
noncomputable def Row.isHalt:Row -> Bool
 | .halt=>true
 | _=>false
@[simp] theorem Ztn {a:Nat} {n:Int} {bs:List Int}:(Row.put a n).tells bs = none:=rfl
@[simp] theorem Zru {a:Nat} {n:Int}:(Row.put a n).isHalt = false:=rfl
@[simp] theorem Zth {a:Nat} {b:Nat} {c:Nat} {bs:List Int}:(Row.add a b c).tells bs = none:=rfl
@[simp] theorem ZsD {a:Nat} {b:Nat} {c:Nat}:(Row.add a b c).isHalt = false:=rfl
@[simp] theorem Ztm {a:Nat} {b:Nat} {c:Nat} {bs:List Int}:(Row.sub a b c).tells bs = none:=rfl
@[simp] theorem Zst {a:Nat} {b:Nat} {c:Nat}:(Row.sub a b c).isHalt = false:=rfl
@[simp] theorem Zsd {a:Nat} {b:Nat} {c:Nat} {bs:List Int}:(Row.more a b c).tells bs = none:=rfl
@[simp] theorem Zrf {a:Nat} {b:Nat} {c:Nat}:(Row.more a b c).isHalt = false:=rfl
@[simp] theorem Ztl {a:Nat} {b:Nat} {bs:List Int}:(Row.get a b).tells bs = none:=rfl
@[simp] theorem Zr8 {a:Nat} {b:Nat}:(Row.get a b).isHalt = false:=rfl
@[simp] theorem Ztg {a:Nat} {b:Nat} {bs:List Int}:(Row.set a b).tells bs = none:=rfl
@[simp] theorem Zr0 {a:Nat} {b:Nat}:(Row.set a b).isHalt = false:=rfl
@[simp] theorem ZsA {k:Nat} {bs:List Int}:(Row.jump k).tells bs = none:=rfl
@[simp] theorem Zrd {k:Nat}:(Row.jump k).isHalt = false:=rfl
@[simp] theorem Zsh {a:Nat} {k:Nat} {bs:List Int}:(Row.when a k).tells bs = none:=rfl
@[simp] theorem Zq0 {a:Nat} {k:Nat}:(Row.when a k).isHalt = false:=rfl
@[simp] theorem Zs0 {a:Nat} {bs:List Int}:(Row.tell a).tells bs = bs[a]?:=rfl
@[simp] theorem Zrc {a:Nat}:(Row.tell a).isHalt = false:=rfl
@[simp] theorem ZrU  {bs:List Int}:(Row.halt).tells bs = none:=rfl
@[simp] theorem Zq1 :(Row.halt).isHalt = true:=rfl
noncomputable def ZdA (r:Zba) (ss:List Stt):List Int:=ss.dropLast.filterMap fun s=>(r[s.place]?).bind fun x=>x.tells s.boxes
noncomputable def Zcv (r:Zba) (s:Stt):Bool:=match r[s.place]? with
 | some x=>x.isHalt
 | none=>false
mutual
theorem Znx:∀ (n:Nat) (d:D),ZaM n d = true -> deq d d = true
 | _,.non,_=>rfl
 | _,.bl _,_=>by simp [deq]
 | _,.int _,_=>by simp [deq]
 | _,.str _,_=>by simp [deq]
 | 0,.tup _,h=>by simp [ZaM] at h
 | n + 1,.tup ds,h=>by simp only [deq]; exact ZhC n ds (by simpa [ZaM] using h)
 | _,.scr _,h=>by simp [ZaM] at h
 | _,.ref _,h=>by simp [ZaM] at h
theorem ZhC:∀ (n:Nat) (ds:List D),(∀ d ∈ ds,ZaM n d = true) -> Zc4 ds ds = true
 | _,[],_=>rfl
 | n,d :: ds,h=>by
  simp only [Zc4,Yu];exact ⟨Znx n d (h d Yq),ZhC n ds fun x hx=>h x (Yv _ hx)⟩
end
def Rt (o:O3) (d:D):Prop:=∃ M',o = .rt d M'
theorem Rt.set {i:Nat} {f:E3} {g:S3} {env env':Zaq} {M M':Store} {d r:D} (h:f env M = .ok d M') (k:Rt (g env' M') r) (he:env.set i (some d) = env':=by first | (dsimp only [Yfp,List.set_cons_zero] <;> exact rfl) | exact rfl):Rt (Zy (ZaF i f) g env M) r:=by
 rw [Rt,Zm (Zaf h he)]; exact k
theorem Rt.skip {c:E3} {u g:S3} {env:Zaq} {M M':Store} {r:D} (h:c env M = .ok (.bl false) M') (k:Rt (g env M') r):Rt (Zy (sIf c u Zab) g env M) r:=by
 rw [Rt,Zm (Zak h)]; exact k
theorem Rt.loop {i:I3} {t:G3} {u g:S3} {env env':Zaq} {M M' M1:Store} {it:It3} {r:D} (h:i env M = .ok it M1) (hl:ZeT it t u it.items env M1 = .nx env' M') (k:Rt (g env' M') r):Rt (Zy (ZfR i t u) g env M) r:=by
 rw [Rt,Zm ((ZeL h).trans hl)]; exact k
theorem Rt.step {f g:S3} {env env':Zaq} {M M':Store} {r:D} (h:f env M = .nx env' M') (k:Rt (g env' M') r):Rt (Zy f g env M) r:=by
 rw [Rt,Zm h]; exact k
theorem Rt.ret {f:E3} {env:Zaq} {M M':Store} {d:D} (h:f env M = .ok d M'):Rt (Zau f env M) d:=⟨M',ZaE h⟩
theorem Rt.law {ps n:Nat} {body:S3} {ds:List D} {env:Zaq} {b:Bool} (h:Rt (body env []) (.bl b)) (hl:ds.length = ps:=by rfl) (he:ds.map some ++ Yl (n - ps) none = env:=by rfl):∃ M',mkF ps n body ds [] = .ok (.bl b) M':=by
 obtain ⟨M',h⟩:=h;exact ⟨_,(Zdz h hl he).trans (by rw [Zdh,if_pos (by simp [below])])⟩
theorem Rt.pure {ps n:Nat} {body:S3} {ds:List D} {env:Zaq} {M G:Store} {d:D} (h:body env M = .rt d (M ++ G)) (hd:below M.length d = true) (hl:ds.length = ps:=by rfl) (he:ds.map some ++ Yl (n - ps) none = env:=by rfl):mkF ps n body ds M = .ok d M:=
 (Zdz h hl he).trans (ZoI hd)
theorem Zkh {α:Type} {enc:α -> D} {P:Nat -> α -> Prop}:∀ (es:List D),(∀ (j:Nat) e,es[j]? = some e -> ∃ a,e = enc a /\ P j a) -> ∃ as:List α,es = as.map enc /\ ∀ (j:Nat) a,as[j]? = some a -> P j a
 | [],_=>⟨[],rfl,fun j a h=>by simp at h⟩
 | e :: es,h=>by
  obtain ⟨a,rfl,pa⟩:=h 0 e rfl;obtain ⟨as,rfl,ps⟩:=Zkh (enc:=enc) (P:=fun j=>P (j + 1)) es fun j e he=>h (j + 1) e (by simpa using he);refine ⟨a :: as,rfl,fun j b hb=>?_⟩;cases j with
  | zero=>simp at hb; subst hb; exact pa
  | succ j=>exact ps j b (by simpa using hb)
theorem ZqK {n:Nat} {lo:Int} {j:Nat} {d:D} (h:(Zd2 lo n)[j]? = some d):d = .int (lo + j) /\ j < n:=by
 unfold Zd2 at h;rw [Yp] at h;cases q:(Yaa n)[j]? with
 | none=>rw [q] at h; cases h
 | some k=>
  rw [q] at h;obtain ⟨hi,e⟩:=Yb.mp q;rw [List.getElem_range] at e;subst e;simp at h hi;exact ⟨h.symm,hi⟩
theorem ZhD {n:Nat} {j:Nat} {d:D} (h:(Zd2 0 n)[j]? = some d):d = .int (j:Int) /\ j < n:=by
 obtain ⟨e,l⟩:=ZqK h;exact ⟨by rw [e,Ydd],l⟩
theorem Zjm (lo:Int) (n:Nat):(Zd2 lo n).length = n:=by simp [Zd2]
theorem Znt {o arg:E3} {env:Zaq} {M M2:Store} {n:Nat} {xs ys:List D} {d:D} (ho:o env M = .ok (.ref n) M) (hM:M[n]? = some (.lst xs)) (ha:arg env M = .ok d M2) (hM2:M2[n]? = some (.lst ys)) (hz:ys.length < 1000000):
  ZaR tyL ZaD o (Za arg Zg) env M = .ok .non (M2.set n (.lst (ys ++ [d]))):=by
 simp [ho,hM,ha,hM2,hz]
theorem Zk {op:D -> D -> Store -> R3 D} {f g:E3} {env:Zaq} {M M1 M2 M3:Store} {a b d:D} (h1:f env M = .ok a M1) (h2:g env M1 = .ok b M2) (h3:op a b M2 = .ok d M3):e2 op f g env M = .ok d M3:=by
 simp only [e2,h1,h2,h3,R3.bind]
theorem Zeh {F:F3} {f:E3} {env:Zaq} {M M1 M2:Store} {a d:D} (h1:f env M = .ok a M1) (h2:F [a] M1 = .ok d M2):Zt F (Za f Zg) env M = .ok d M2:=by
 simp only [Zt,Za,Zg,h1,h2,R3.bind]
theorem Zbd {F:F3} {f g:E3} {env:Zaq} {M M1 M2 M3:Store} {a b d:D} (h1:f env M = .ok a M1) (h2:g env M1 = .ok b M2) (h3:F [a,b] M2 = .ok d M3):Zt F (Za f (Za g Zg)) env M = .ok d M3:=by
 simp only [Zt,Za,Zg,h1,h2,h3,R3.bind]
theorem Zb2 {F:F3} {f g h:E3} {env:Zaq} {M M1 M2 M3 M4:Store} {a b c d:D} (h1:f env M = .ok a M1) (h2:g env M1 = .ok b M2) (h3:h env M2 = .ok c M3) (h4:F [a,b,c] M3 = .ok d M4):Zt F (Za f (Za g (Za h Zg))) env M = .ok d M4:=by
 simp only [Zt,Za,Zg,h1,h2,h3,h4,R3.bind]
@[simp] theorem ZuL (a b:Ty3):(a == b) = decide (a = b):=by cases a <;> cases b <;> rfl
theorem Zsl {F:F3} {f g h k:E3} {env:Zaq} {M M1 M2 M3 M4 M5:Store} {a b c d e:D} (h1:f env M = .ok a M1) (h2:g env M1 = .ok b M2) (h3:h env M2 = .ok c M3) (h4:k env M3 = .ok d M4) (h5:F [a,b,c,d] M4 = .ok e M5):Zt F (Za f (Za g (Za h (Za k Zg)))) env M = .ok e M5:=by
 simp only [Zt,Za,Zg,h1,h2,h3,h4,h5,R3.bind]
theorem ZbH {b:List D -> Store -> R3 D} {f:E3} {env:Zaq} {M M1 M2:Store} {a d:D} (h1:f env M = .ok a M1) (h2:b [a] M1 = .ok d M2):Zax b (Za f Zg) env M = .ok d M2:=by
 simp only [Zax,Za,Zg,h1,h2,R3.bind]
theorem Zd5 {op:D -> Store -> R3 D} {f:E3} {env:Zaq} {M M1 M2:Store} {a d:D} (h1:f env M = .ok a M1) (h2:op a M1 = .ok d M2):e1 op f env M = .ok d M2:=by
 simp only [e1,h1,h2,R3.bind]
theorem Zat {f:E3} {g:EL3} {env:Zaq} {M M1 M2:Store} {d:D} {ds:List D} (h1:f env M = .ok d M1) (h2:g env M1 = .ok ds M2):Za f g env M = .ok (d :: ds) M2:=by
 simp only [Za,h1,h2,R3.bind]
theorem Zc1 {g:EL3} {env:Zaq} {M M':Store} {ds:List D} (h:g env M = .ok ds M') (hl:decide (ds.length <= 100) = true):Zbv g env M = .ok (.tup ds) M':=by
 have:=of_decide_eq_true hl;simp only [Zbv,h,R3.bind];rw [if_pos (Yj this (by decide))]
theorem ZeJ {n:Nat} {M:Store} {xs:List D} (h:M[n]? = some (.lst xs)):Za2 [.ref n] M = .ok (.int (xs.length:Int)) M:=by simp only [Za2,h]
theorem Zfm {n:Nat} {M:Store} {xs:List D} (h:M[n]? = some (.lst xs)):Za1 [.ref n] M = .ok (.tup xs) M:=by simp only [Za1,h]
theorem ZbX {n:Nat} {M:Store} {xs:List D} {i:Int} {d:D} (h:M[n]? = some (.lst xs)) (hd:Zbc xs i = some d):Zf (.ref n) (.int i) M = .ok d M:=by simp only [Zf,h,hd]
theorem Zb0 {M:Store} {xs:List D} {i:Int} {d:D} (hd:Zbc xs i = some d):Zf (.tup xs) (.int i) M = .ok d M:=by simp only [Zf,hd]
theorem Zuf {a b:Int} {M:Store} (h:a <= b):ZgW (.int a) (.int b) M = .ok (.bl true) M:=by simp only [ZgW,decide_eq_true h]
theorem ZtF {a b:Int} {M:Store} (h:¬ a <= b):ZgW (.int a) (.int b) M = .ok (.bl false) M:=by simp only [ZgW,decide_eq_false h]
theorem Zp1 {a b:Int} {M:Store} (h:a = b):ZaH (.int a) (.int b) M = .ok (.bl true) M:=by simp only [ZaH,eqD,decide_eq_true h]
theorem Zrk {a b:Int} {M:Store} (h:¬ a = b):ZaH (.int a) (.int b) M = .ok (.bl false) M:=by simp only [ZaH,eqD,decide_eq_false h]
theorem Zrw {a b:List Nat} {M:Store} (h:¬ a = b):ZeP (.str a) (.str b) M = .ok (.bl true) M:=by simp only [ZeP,eqD,decide_eq_false h]; rfl
theorem Zn0 {a b:List Nat} {M:Store} (h:a = b):ZeP (.str a) (.str b) M = .ok (.bl false) M:=by simp only [ZeP,eqD,decide_eq_true h]; rfl
theorem Zbh {i j:Int} {M:Store} (h:0 < j):ZaB (.int i) (.int j) M = .ok (.int (i % j)) M:=by simp only [ZaB,if_pos h]
theorem ZmG {f g:E3} {env:Zaq} {M M1:Store} (h1:f env M = .ok (.bl false) M1):eOr f g env M = g env M1:=by simp only [eOr,h1,R3.bind]
theorem Zrb {f g:E3} {env:Zaq} {M M1:Store} (h1:f env M = .ok (.bl true) M1):eOr f g env M = .ok (.bl true) M1:=by simp only [eOr,h1,R3.bind]
theorem Zdb {f g:E3} {env:Zaq} {M M1:Store} (h1:f env M = .ok (.bl true) M1):Zcq f g env M = g env M1:=by simp only [Zcq,h1,R3.bind]
theorem ZfL {f g:E3} {env:Zaq} {M M1:Store} (h1:f env M = .ok (.bl false) M1):Zcq f g env M = .ok (.bl false) M1:=by simp only [Zcq,h1,R3.bind]
theorem Zq7 {c f g:E3} {env:Zaq} {M M1:Store} (h1:c env M = .ok (.bl true) M1):eIf c f g env M = f env M1:=by simp only [eIf,h1,R3.bind]
theorem Zra {c f g:E3} {env:Zaq} {M M1:Store} (h1:c env M = .ok (.bl false) M1):eIf c f g env M = g env M1:=by simp only [eIf,h1,R3.bind]
theorem ZjY {α:Type} {enc:α -> D} {h:α -> D} {own:Nat} {i:Nat} {it:I3} {elt:E3} {env:Zaq} {M M1:Store} {lock:Option Nat} {as:List α} (hi:it env M = .ok ⟨as.map enc,lock⟩ M1) (hlock:∀ n,lock = some n -> M1[n]? = some (.lst (as.map enc)))
  (he:∀ a ∈ as,∀ M,elt ((env ++ Yl own none).set i (some (enc a))) M = .ok (h a) M) (hz:as.length <= 100000):eLC it own (ZbB i) [] elt env M = .ok (.ref M1.length) (M1 ++ [.lst (as.map h)]):=by
 rw [Zic hi];obtain ⟨es,le,re,hh⟩:=Zhx (it:=⟨as.map enc,lock⟩) (i:=i) (n:=M1.length) (elt:=elt) (R:=fun d e=>∀ a ∈ as,d = enc a -> e = h a) (env0:=env ++ Yl own none) (as.map enc) [] (env ++ Yl own none) (M1 ++ [.lst []]) (fun _=>rfl)
  (fun d hd x=>by
   obtain ⟨a,ha,rfl⟩:=Yan.mp hd;refine ⟨h a,he a ha _,fun b hb e=>?_⟩;have h1:=he a ha [];have h2:=he b hb [];rw [e,h2] at h1;injection h1 with h1 _;exact h1.symm)
  (fun x=>by
   cases lock with
   | none=>rfl
   | some n=>
    have hn:=hlock n rfl;have hlt:=(Yb.mp hn).1;simp only [locked,decide_eq_true_eq];rw [Y9 (by exact fun z=>lB 2 25787699233 T1 z hlt),Y7 hlt,hn]) (by simp) (by simp; exact lA 1 0xf42405b00186a05b001 T1 hz)
 rw [show (⟨as.map enc,lock⟩:It3).items = as.map enc from rfl,hh];have:es = as.map h:=by
  apply Ybl;intro j;rw [Yp];cases ha:as[j]? with
  | none=>
   have:as.length <= j:=by simpa using ha
   simp [le]; exact this
  | some a=>
   have hj:j < es.length:=by
    have:=(Yb.mp ha).1;simpa [le] using this
   have h2:=re j (enc a) es[j] (by simp [ha]) (by simp [hj]) a (Yax ha) rfl;rw [Y6 hj,h2]; rfl
 rw [this];simp
noncomputable def ZhV (t:List (Int × Int)) (n v:Int):List (Int × Int):=if t.any (fun p=>decide (p.1 = n)) = true then t.map (fun p=>if p.1 = n then (p.1,v) else p) else t ++ [(n,v)]
noncomputable def ZaQ (t:List (Int × Int)):List (Za4 × D):=t.map fun p=>(.inl p.1,.int p.2)
def keysOk (t:List (Int × Int)):Prop:=(t.map (·.1)).Nodup
noncomputable def ZeU:List (Int × Int) -> Int -> Int
 | [],_=>0
 | (k,v) :: r,n=>if k = n then v else ZeU r n
theorem Zoj (t:List (Int × Int)) (n v:Int):putD (.inl n) (.int v) (ZaQ t) = ZaQ (ZhV t n v):=by
 have ha:((ZaQ t).any fun p=>decide (p.1 = (.inl n:Za4))) = t.any fun p=>decide (p.1 = n):=by
  simp [ZaQ,List.any_map,Function.comp_def]
 unfold putD ZhV;rw [ha];by_cases c:(t.any fun p=>decide (p.1 = n)) = true
 ·rw [if_pos c,if_pos c]
  simp only [ZaQ,Ycn];apply Yc7;intro p _;by_cases e:p.1 = n
  ·simp [e]
  ·simp [e]
 ·rw [if_neg c,if_neg c]
  simp [ZaQ]
theorem Zke (t:List (Int × Int)) (n:Int):Zcb (ZaQ t) (.inl n) = (if t.any (fun p=>decide (p.1 = n)) = true then some (D.int (ZeU t n)) else none):=by
 induction t with
 | nil=>rfl
 | cons p t ih=>
  obtain ⟨k,v⟩:=p;show (if (Sum.inl k:Za4) = Sum.inl n then some (D.int v) else Zcb (ZaQ t) (.inl n)) = _;by_cases e:k = n
  ·simp [e,ZeU]
  ·rw [if_neg (by simp [e]),ih]
   simp only [Ybd,ZeU,if_neg e,decide_eq_false e,Ygd]
theorem Zfn {t:List (Int × Int)} {n:Int} (h:¬ t.any (fun p=>decide (p.1 = n)) = true):ZeU t n = 0:=by
 induction t with
 | nil=>rfl
 | cons p t ih=>
  obtain ⟨k,v⟩:=p;simp only [Ybd,Yc3,decide_eq_true_eq,not_or] at h;simp only [ZeU,if_neg h.1];exact ih (by simpa using h.2)
theorem Zlf (t:List (Int × Int)) (n:Int):(Zcb (ZaQ t) (.inl n)).getD (.int 0) = .int (ZeU t n):=by
 rw [Zke];by_cases c:(t.any fun p=>decide (p.1 = n)) = true
 ·rw [if_pos c]; rfl
 ·rw [if_neg c,Zfn c]; rfl
theorem ZiF {t:List (Int × Int)} (n v:Int) (h:keysOk t):keysOk (ZhV t n v):=by
 unfold keysOk ZhV at *;by_cases c:(t.any fun p=>decide (p.1 = n)) = true
 ·rw [if_pos c,Ycn]
  have:(t.map ((fun x=>x.1) ∘ fun p=>if p.1 = n then (p.1,v) else p)) = t.map (·.1):=by
   apply Yc7;intro p _;by_cases e:p.1 = n <;> simp [e]
  rw [this]; exact h
 ·rw [if_neg c,Yae]
  refine List.nodup_append.mpr ⟨h,by simp,fun x hx y hy=>?_⟩;simp at hy;subst hy;rintro rfl;obtain ⟨p,hp,e⟩:=Yan.mp hx;exact c (Ycb.mpr ⟨p,hp,by simp [e]⟩)
theorem ZoF {t:List (Int × Int)} {n v:Int} (q:Int × Int):q ∈ ZhV t n v ↔ (q = (n,v)) \/ (q.1 ≠ n /\ q ∈ t):=by
 obtain ⟨a,b⟩:=q;unfold ZhV;by_cases c:(t.any fun p=>decide (p.1 = n)) = true
 ·rw [if_pos c,Yan]
  constructor
  ·rintro ⟨p,hp,e⟩
   by_cases ep:p.1 = n
   ·rw [if_pos ep] at e
    left; rw [← e,ep]
   ·rw [if_neg ep] at e
    right; rw [← e]; exact ⟨ep,hp⟩
  ·rintro (e | ⟨h1,h2⟩)
   ·obtain ⟨p,hp,ep⟩:=Ycb.mp c
    have ep:p.1 = n:=by simpa using ep
    exact ⟨p,hp,by rw [if_pos ep,e,ep]⟩
   ·exact ⟨(a,b),h2,by rw [if_neg h1]⟩
 ·rw [if_neg c,Ybh,Yco]
  constructor
  ·rintro (h | h)
   ·right
    refine ⟨fun z=>c (Ycb.mpr ⟨(a,b),h,by simpa using z⟩),h⟩
   ·left; exact h
  ·rintro (h | ⟨_,h⟩)
   ·right; exact h
   ·left; exact h
theorem Ze4 {t:List (Int × Int)} (h:keysOk t) {k v:Int} (hm:(k,v) ∈ t):ZeU t k = v:=by
 induction t with
 | nil=>simp at hm
 | cons p t ih=>
  obtain ⟨a,b⟩:=p;unfold keysOk at h;simp only [Yt,Ycy] at h;rcases Y3.mp hm with e | e
  ·cases e; simp [ZeU]
  ·have:a ≠ k:=fun z=>h.1 (Yan.mpr ⟨(k,v),e,z.symm⟩)
   simp only [ZeU,if_neg this];exact ih h.2 e
def Zeb (cs:List (Int × Int)):Prop:=cs.Pairwise fun a b=>a.1 < b.1
theorem Zeb.keys {cs:List (Int × Int)} (h:Zeb cs):keysOk cs:=by
 unfold keysOk Zeb at *;rw [Ydb,Yem];exact h.imp fun h=>(fun z=>iN [] [_,_] 2 26047746225 T1 z h)
theorem Zk6:∀ {x y:List (Int × Int)},Zeb x -> Zeb y -> (∀ q,q ∈ x ↔ q ∈ y) -> x = y
 | [],[],_,_,_=>rfl
 | [],b :: y,_,_,h=>by have:=(h b).mpr Yq; simp at this
 | a :: x,[],_,_,h=>by have:=(h a).mp Yq; simp at this
 | a :: x,b :: y,hx,hy,h=>by
  have hx':=Yca.mp hx;have hy':=Yca.mp hy;have e:a = b:=by
   rcases Y3.mp ((h a).mp Yq) with e | e
   ·exact e
   ·rcases Y3.mp ((h b).mpr Yq) with e' | e'
    ·exact e'.symm
    ·have h1:=hy'.1 a e
     have h2:=hx'.1 b e';exact (iN [] [_,_] 2 25796087953 T1 h2 h1).elim
  subst e;congr 1;refine Zk6 hx'.2 hy'.2 fun q=>?_;constructor
  ·intro hq
   rcases Y3.mp ((h q).mp (Yv _ hq)) with e | e
   ·subst e; have:=hx'.1 q hq; exact (iN [] [_] 1 393361 T1 this).elim
   ·exact e
  ·intro hq
   rcases Y3.mp ((h q).mpr (Yv _ hq)) with e | e
   ·subst e; have:=hy'.1 q hq; exact (iN [] [_] 1 393361 T1 this).elim
   ·exact e
noncomputable def Zl6 (p:Int × Int):List (Int × Int) -> List (Int × Int)
 | []=>[p]
 | q :: r=>if p.1 < q.1 then p :: q :: r else q :: Zl6 p r
theorem ZgK (p:Int × Int):∀ r,(Zl6 p r).Perm (p :: r)
 | []=>.refl _
 | q :: r=>by
  unfold Zl6;split
  ·exact .refl _
  ·exact ((ZgK p r).cons q).trans (.swap p q r)
theorem ZiJ {p:Int × Int}:∀ {r:List (Int × Int)},Zeb r -> (∀ q ∈ r,q.1 ≠ p.1) -> Zeb (Zl6 p r)
 | [],_,_=>by simp [Zl6,Zeb]
 | q :: r,h,hn=>by
  have h':=Yca.mp h;unfold Zl6;split
  ·rename_i c
   refine Yca.mpr ⟨fun x hx=>?_,h⟩;rcases Y3.mp hx with e | e
   ·subst e; exact c
   ·have:=h'.1 x e; exact Int.lt_trans c this
  ·rename_i c
   refine Yca.mpr ⟨fun x hx=>?_,ZiJ h'.2 fun x hx=>hn x (Yv _ hx)⟩;rcases Y3.mp ((ZgK p r).mem_iff.mp hx) with e | e
   ·subst e; have:=hn q Yq; exact (Yex.2 ⟨(Ye1.1 c),this⟩)
   ·exact h'.1 x e
noncomputable def ZaN:List (Int × Int) -> List (Int × Int)
 | []=>[]
 | p :: t=>if p.2 ≠ 0 then Zl6 p (ZaN t) else ZaN t
theorem ZeE:∀ t:List (Int × Int),(ZaN t).Perm (t.filter fun p=>decide (p.2 ≠ 0))
 | []=>.refl _
 | p :: t=>by
  unfold ZaN;by_cases c:p.2 ≠ 0
  ·rw [if_pos c,Ygh (by simpa using c)]
   exact (ZgK p _).trans ((ZeE t).cons p)
  ·rw [if_neg c,Ygi (by simpa using c)]
   exact ZeE t
theorem Zdf {t:List (Int × Int)} {q:Int × Int}:q ∈ ZaN t ↔ q ∈ t /\ q.2 ≠ 0:=by
 rw [(ZeE t).mem_iff,Ycv]; simp
theorem Zc6:∀ {t:List (Int × Int)},keysOk t -> Zeb (ZaN t)
 | [],_=>by simp [ZaN,Zeb]
 | p :: t,h=>by
  unfold keysOk at h;simp only [Yt,Ycy] at h;unfold ZaN;split
  ·refine ZiJ (Zc6 h.2) fun q hq=>?_
   intro e;exact h.1 (Yan.mpr ⟨q,(Zdf.mp hq).1,e⟩)
  ·exact Zc6 h.2
noncomputable def Zch (cs:List (Int × Int)) (n v:Int):List (Int × Int):=cs.filter (fun c=>decide (c.1 < n)) ++ (if v ≠ 0 then [(n,v)] else []) ++ cs.filter (fun c=>decide (n < c.1))
theorem ZkZ {cs:List (Int × Int)} {n v:Int} {q:Int × Int}:q ∈ Zch cs n v ↔ (q = (n,v) /\ v ≠ 0) \/ (q.1 ≠ n /\ q ∈ cs):=by
 unfold Zch;simp only [Ybh,Ycv,decide_eq_true_eq];have hm:q ∈ (if v ≠ 0 then [(n,v)] else []) ↔ (q = (n,v) /\ v ≠ 0):=by
  by_cases c:v ≠ 0
  ·rw [if_pos c]; simp [c]
  ·rw [if_neg c]; simp [c]
 rw [hm];constructor
 ·rintro ((⟨h1,h2⟩ | h) | ⟨h1,h2⟩)
  ·right; exact ⟨(fun z=>iN [] [_,_] 2 26047746225 T1 z h2),h1⟩
  ·left; exact h
  ·right; exact ⟨(fun z=>iN [] [_,_] 2 25796087969 T1 z h2),h1⟩
 ·rintro (h | ⟨h1,h2⟩)
  ·left; right; exact h
  ·rcases Int.lt_or_gt_of_ne h1 with c | c
   ·left; left; exact ⟨h2,c⟩
   ·right; exact ⟨h2,c⟩
theorem Zgw {cs:List (Int × Int)} {n v:Int} (h:Zeb cs):Zeb (Zch cs n v):=by
 unfold Zch Zeb at *;have hm:∀ q ∈ (if v ≠ 0 then [(n,v)] else []),q.1 = n:=fun q hq=>by
  by_cases c:v ≠ 0
  ·rw [if_pos c] at hq; simp at hq; rw [hq]
  ·rw [if_neg c] at hq; simp at hq
 refine Yhz.mpr ⟨Yhz.mpr ⟨h.filter _,?_,fun a ha b hb=>?_⟩,h.filter _,fun a ha b hb=>?_⟩
 ·by_cases c:v ≠ 0
  ·rw [if_pos c]; simp
  ·rw [if_neg c]; simp
 ·have h1:=(Ycv.mp ha).2
  rw [hm b hb]; simpa using h1
 ·have h2:n < b.1:=by simpa using (Ycv.mp hb).2
  rcases Ybh.mp ha with ha | ha
  ·have:a.1 < n:=by simpa using (Ycv.mp ha).2
   exact Int.lt_trans this h2
  ·rw [hm a ha]; exact h2
theorem Znl {t:List (Int × Int)} (h:keysOk t) (n v:Int):ZaN (ZhV t n v) = Zch (ZaN t) n v:=by
 refine Zk6 (Zc6 (ZiF n v h)) (Zgw (Zc6 h)) fun q=>?_;rw [Zdf,ZkZ,ZoF,Zdf];constructor
 ·rintro ⟨h1 | ⟨h1,h2⟩,h3⟩
  ·left; refine ⟨h1,?_⟩; rw [h1] at h3; exact h3
  ·right; exact ⟨h1,h2,h3⟩
 ·rintro (⟨h1,h2⟩ | ⟨h1,h2,h3⟩)
  ·exact ⟨.inl h1,by rw [h1]; exact h2⟩
  ·exact ⟨.inr ⟨h1,h2⟩,h3⟩
theorem ZmR {t:List (Int × Int)} (h:keysOk t) (n:Int):ZeU (ZaN t) n = ZeU t n:=by
 by_cases c:(t.any fun p=>decide (p.1 = n)) = true
 ·obtain ⟨p,hp,e⟩:=Ycb.mp c
  have e:p.1 = n:=by simpa using e
  obtain ⟨a,b⟩:=p;simp only at e;subst e;rw [Ze4 h hp];by_cases z:b = 0
  ·subst z
   rw [Zfn];intro q;obtain ⟨p',hp',e'⟩:=Ycb.mp q;have e':p'.1 = a:=by simpa using e'
   obtain ⟨a',b'⟩:=p';simp only at e';subst e';have h1:=(Zdf.mp hp').1;have h2:=(Zdf.mp hp').2;have:=Ze4 h h1;rw [Ze4 h hp] at this;exact h2 this.symm
  ·exact Ze4 (Zc6 h).keys (Zdf.mpr ⟨hp,z⟩)
 ·rw [Zfn c,Zfn]
  intro q;obtain ⟨p',hp',e'⟩:=Ycb.mp q;exact c (Ycb.mpr ⟨p',(Zdf.mp hp').1,e'⟩)
noncomputable def Row.place (bs:List Int) (p:Nat):Row -> Nat
 | .jump k=>k
 | .when a k=>if 0 < bs.getD a 0 then k else p + 1
 | _=>p + 1
noncomputable def Row.boxes (bs:List Int) (cs:List (Int × Int)):Row -> List Int
 | .put a n=>bs.set a n
 | .add a b c=>bs.set a (bs.getD b 0 + bs.getD c 0)
 | .sub a b c=>bs.set a (bs.getD b 0 - bs.getD c 0)
 | .more a b c=>bs.set a (if bs.getD c 0 < bs.getD b 0 then 1 else 0)
 | .get a b=>bs.set a (ZeU cs (bs.getD b 0))
 | _=>bs
noncomputable def Row.cells (bs:List Int) (cs:List (Int × Int)):Row -> List (Int × Int)
 | .set a b=>Zch cs (bs.getD a 0) (bs.getD b 0)
 | _=>cs
noncomputable def Zgi (s:Stt) (r:Row):Option Stt:=if r.isHalt then none else some ⟨r.place s.boxes s.place,r.boxes s.boxes s.cells,r.cells s.boxes s.cells⟩
noncomputable def Zcm (roll:Zba) (s:Stt):Option Stt:=(roll[s.place]?).bind (Zgi s)
noncomputable def Zo0:Option Stt -> D
 | none=>.non
 | some s=>Ze s
theorem ZlW (cs:List (Int × Int)):Zdg (cs.map Zae) = some (ZaQ cs):=by
 induction cs with
 | nil=>rfl
 | cons p cs ih=>simp only [Yt,Zae,Zdg,ZeM,ih,Ye7,ZaQ]
theorem Zpw (kvs:List (Za4 × D)) (k j:Za4) (v:D):Zcb (putD k v kvs) j = if j = k then some v else Zcb kvs j:=by
 have mp:∀ l:List (Za4 × D),Zcb (l.map fun p=>if p.1 = k then (p.1,v) else p) j = if j = k then (if l.any (fun p=>decide (p.1 = k)) then some v else none) else Zcb l j:=by
  intro l
  induction l with
  | nil=>simp [Zcb]
  | cons p l ih=>
   obtain ⟨a,b⟩:=p;rw [Yt];by_cases e:a = k
   ·subst e
    simp only [if_true,Zcb];by_cases ej:a = j
    ·subst ej; simp
    ·rw [if_neg ej,ih,if_neg (Ya4 ej),if_neg (Ya4 ej),if_neg ej]
   ·simp only [if_neg e,Zcb]
    by_cases ej:a = j
    ·subst ej; simp [e]
    ·rw [if_neg ej,ih,if_neg ej]; simp only [Ybd,decide_eq_false e,Ygd]
 have ap:∀ l:List (Za4 × D),¬ l.any (fun p=>decide (p.1 = k)) = true -> Zcb (l ++ [(k,v)]) j = if j = k then some v else Zcb l j:=by
  intro l
  induction l with
  | nil=>intro _; simp only [Ybq,Zcb]; by_cases e:k = j <;> simp [e,Ya4,eq_comm]
  | cons p l ih=>
   intro h;obtain ⟨a,b⟩:=p;simp only [Ybd,Yc3,decide_eq_true_eq,not_or] at h;simp only [Ydw,Zcb];by_cases ej:a = j
   ·subst ej; rw [if_pos rfl,if_neg h.1,if_pos rfl]
   ·rw [if_neg ej,if_neg ej]; exact ih (by simpa using h.2)
 unfold putD;by_cases c:(kvs.any fun p=>decide (p.1 = k)) = true
 ·rw [if_pos c,mp,c]; simp
 ·rw [if_neg c]; exact ap kvs c
theorem ZiI:∀ (l acc:List (Za4 × D)) (j:Za4),(l.map (·.1)).Nodup -> Zcb (l.foldl (fun a p=>putD p.1 p.2 a) acc) j = (match Zcb l j with | some v=>some v | none=>Zcb acc j)
 | [],acc,j,_=>rfl
 | p :: l,acc,j,h=>by
  obtain ⟨k,v⟩:=p;simp only [Yt,Ycy] at h;rw [Ye6,ZiI l _ j h.2,Zpw];simp only [Zcb];by_cases e:k = j
  ·subst e
   have:Zcb l k = none:=by
    have hn:=h.1;clear h
    induction l with
    | nil=>rfl
    | cons q l ih=>
     simp only [Yt,Y3,not_or] at hn;simp only [Zcb];rw [if_neg (Ya4 hn.1)]; exact ih hn.2
   rw [this]; simp
  ·rw [if_neg e,if_neg (Ya4 e)]
theorem ZnK {t:List (Int × Int)} (h:keysOk t):((ZaQ t).map (·.1)).Nodup:=by
 unfold keysOk at h;simp only [ZaQ,Ycn];rw [Ydb,Yem] at *;exact h.imp fun h e=>h (by simpa using e)
theorem Znw {t:List (Int × Int)} (h:keysOk t) (n:Int):(Zcb (dictOf (ZaQ t)) (.inl n)).getD (.int 0) = .int (ZeU t n):=by
 unfold dictOf;rw [ZiI _ _ _ (ZnK h),← Zlf];cases Zcb (ZaQ t) (.inl n) <;> rfl
theorem Zgr {α:Type} {enc h:α -> D} {p:α -> Bool} {it:It3} {i n:Nat} {c elt:E3} {env0:Zaq}:∀ (as:List α) (acc:List D) (env:Zaq) (M:Store),(∀ d,env.set i (some d) = env0.set i (some d)) ->
  (∀ a ∈ as,∀ x,c (env0.set i (some (enc a))) (M.set n (.lst x)) = .ok (.bl (p a)) (M.set n (.lst x))) -> (∀ a ∈ as,p a = true -> ∀ x,elt (env0.set i (some (enc a))) (M.set n (.lst x)) = .ok (h a) (M.set n (.lst x))) ->
  (∀ x,locked it (M.set n (.lst x)) = true) -> M[n]? = some (.lst acc) -> acc.length + as.length <= SZ ->
  ZbC it (ZbB i) [c] elt n (as.map enc) env M = .ok (.ref n) (M.set n (.lst (acc ++ (as.filter p).map h))):=by
 intro as
 induction as with
 | nil=>
  intro acc env M _ _ _ hl hM _;have e:M.set n (.lst acc) = M:=by
   apply Ybl;intro j;by_cases hj:j = n
   ·subst hj; rw [Yab (Yb.mp hM).1,hM]
   ·rw [Y9 (Ya4 hj)]
  have hl':=hl acc;rw [e] at hl';simp only [Yc5,ZbC,hl',if_true,List.filter_nil,Yaj,e]
 | cons a as ih=>
  intro acc env M he hc hf hl hM hz;have hn:n < M.length:=(Yb.mp hM).1;have e:M.set n (.lst acc) = M:=by
   apply Ybl;intro j;by_cases hj:j = n
   ·subst hj; rw [Yab hn,hM]
   ·rw [Y9 (Ya4 hj)]
  have hl':=hl acc;rw [e] at hl';have hc':=hc a Yq acc;rw [e] at hc';rw [Yt];cases hp:p a with
  | false=>
   rw [hp] at hc';simp only [ZbC,hl',if_true,ZbB,he (enc a),ZdI,hc',R3.bind,Yah,if_false];rw [ih acc (env0.set i (some (enc a))) M (fun d'=>by rw [Yb6]) (fun b hb x=>hc b (Yv _ hb) x) (fun b hb=>hf b (Yv _ hb)) hl hM (by simp at hz ⊢; exact lB 1 0xf42405b10c0f42405ba1c0c01 T1 hz),Ygi (by simp [hp])]
  | true=>
   rw [hp] at hc';have hf':=hf a Yq hp acc;rw [e] at hf';have hz':acc.length < SZ:=by simp at hz ⊢; exact lB 1 0xf42405b01f42405ba1c0c01 T1 hz
   simp only [ZbC,hl',if_true,ZbB,he (enc a),ZdI,hc',R3.bind,hf',hM,hz'];rw [ih (acc ++ [h a]) (env0.set i (some (enc a))) (M.set n (.lst (acc ++ [h a]))) (fun d'=>by rw [Yb6]) (fun b hb x=>by rw [Yb6]; exact hc b (Yv _ hb) x) (fun b hb hpb x=>by rw [Yb6]; exact hf b (Yv _ hb) hpb x) (fun x=>by rw [Yb6]; exact hl x) (by rw [Yab hn]) (by simp at hz ⊢; exact lB 1 0xf42405b1a0cc0f42405ba1c0c01 T1 hz),Ygh hp,Yb6];simp
theorem Zi4 {α:Type} {enc h:α -> D} {p:α -> Bool} {own:Nat} {i:Nat} {it:I3} {c elt:E3} {env:Zaq} {M M1:Store} {lock:Option Nat} {as:List α} (hi:it env M = .ok ⟨as.map enc,lock⟩ M1) (hlock:∀ n,lock = some n -> M1[n]? = some (.lst (as.map enc)))
  (hc:∀ a ∈ as,∀ M,c ((env ++ Yl own none).set i (some (enc a))) M = .ok (.bl (p a)) M) (he:∀ a ∈ as,p a = true -> ∀ M,elt ((env ++ Yl own none).set i (some (enc a))) M = .ok (h a) M) (hz:as.length <= 100000):
  eLC it own (ZbB i) [c] elt env M = .ok (.ref M1.length) (M1 ++ [.lst ((as.filter p).map h)]):=by
 rw [Zic hi];have:=Zgr (it:=⟨as.map enc,lock⟩) (i:=i) (n:=M1.length) (c:=c) (elt:=elt) (env0:=env ++ Yl own none) as [] (env ++ Yl own none) (M1 ++ [.lst []]) (fun _=>rfl) (fun a ha x=>hc a ha _) (fun a ha hp x=>he a ha hp _)
  (fun x=>by
   cases lock with
   | none=>rfl
   | some n=>
    have hn:=hlock n rfl;have hlt:=(Yb.mp hn).1;simp only [locked,decide_eq_true_eq];rw [Y9 (by exact fun z=>lB 2 25787699233 T1 z hlt),Y7 hlt,hn]) (by simp) (by simp; exact lA 1 0xf42405b00186a05b001 T1 hz)
 refine this.trans ?_;simp
theorem Zmc {x y:List (Int × Int)} (hp:y.Perm x) (hr:Zeb y):ZhI (x.map Zae) (y.map Zae):=by
 refine ⟨hp.map _,?_⟩;rw [Yem];refine hr.imp fun {a b} h=>?_;show (if b.1 = a.1 then _ else _) = _;rw [if_neg (by omega),decide_eq_false (by exact fun z=>iN [] [_,_] 2 25796087953 T1 z h)]
theorem ZjL {x:List (Int × Int)} (h:x.length < 64):Zo4 (x.map Zae):=by
 refine ⟨by simpa using h,.inl (by simp [Zae,ZdH]),fun a ha b hb=>?_⟩;obtain ⟨p,_,rfl⟩:=Yan.mp ha;obtain ⟨q,_,rfl⟩:=Yan.mp hb;simp only [ltD,Zae,ltT];split
 ·split
  ·rfl
  ·rfl
 ·rfl
theorem ZlL {cs:List (Int × Int)} (h:Zeb cs) (n v:Int):(Zch cs n v).length <= cs.length + 1:=by
 unfold Zch;have f:(cs.filter (fun c=>decide (c.1 < n))).length + (cs.filter (fun c=>decide (n < c.1))).length <= cs.length:=by
  clear h
  induction cs with
  | nil=>simp
  | cons c cs ih=>
   simp only [Ygs];by_cases h1:c.1 < n
   ·have h2:¬ n < c.1:=(fun z=>iN [] [_,_] 2 25796087953 T1 z h1)
    simp only [h1,h2,decide_true,decide_false,if_true,Yah,if_false,Yai]; exact lC 1 0xa2c1a0cc0210c01 T1 ih
   ·by_cases h2:n < c.1
    ·simp only [h1,h2,decide_true,decide_false,if_true,Yah,if_false,Yai]; exact lC 1 0xa2ca1c0c0210c01 T1 ih
    ·simp only [h1,h2,decide_false,Yah,if_false,Yai]; exact lC 1 0xa2c10c0210c01 T1 ih
 rw [Yw,Yw];split <;> simp only [Yai,Yc2] <;> omega
noncomputable def Zby (roll:Zba):Nat -> Stt -> List Stt
 | 0,s=>[s]
 | k + 1,s=>match Zcm roll s with
  | none=>[s]
  | some s'=>s :: Zby roll k s'
theorem ZdM {roll:Zba} {s s':Stt} (k:Nat) (h:Zcm roll s = some s'):Zby roll (k + 1) s = s :: Zby roll k s':=by
 show (match Zcm roll s with | none=>[s] | some s'=>s :: Zby roll k s') = _;rw [h]
theorem ZdL {roll:Zba} {s:Stt} (k:Nat) (h:Zcm roll s = none):Zby roll (k + 1) s = [s]:=by
 show (match Zcm roll s with | none=>[s] | some s'=>s :: Zby roll k s') = _;rw [h]
structure Good (roll:Zba) (s:Stt):Prop where
 pl:s.place < roll.length
 bx:s.boxes.length = 8
 rs:Zeb s.cells
theorem Zf0 {roll:Zba} {s:Stt} (h:s.place < roll.length):Zcm roll s = none ↔ Zcv roll s = true:=by
 have hr:roll[s.place]? = some roll[s.place]:=by simp [h]
 unfold Zcm Zcv;rw [hr];show Zgi s roll[s.place] = none ↔ roll[s.place].isHalt = true;unfold Zgi;split <;> simp_all
theorem Zm9 (r:Row) (bs:List Int) (cs:List (Int × Int)):(r.boxes bs cs).length = bs.length:=by cases r <;> simp [Row.boxes]
theorem ZgQ {roll:Zba} (R:ZbS roll) {s s':Stt} (g:Good roll s) (h:Zcm roll s = some s'):Good roll s' /\ s'.cells.length <= s.cells.length + 1:=by
 obtain ⟨hp,hb,hc⟩:=g;have hr:roll[s.place]? = some roll[s.place]:=by simp [hp]
 have ro:=R.rows _ (Y4 hp);unfold Zcm at h;rw [hr] at h;have h':Zgi s roll[s.place] = some s':=h;unfold Zgi at h';split at h'
 ·cases h'
 ·rename_i nh
  cases h'
  have nl:roll[s.place] ≠ .halt -> (∀ k,roll[s.place] ≠ .jump k) -> s.place + 1 < roll.length:=fun n1 n2=>by
   obtain ⟨q,x,e,hx⟩:=R.last;have hl:roll.length = q.length + 1:=by rw [e]; simp
   by_cases c:s.place = q.length
   ·have:roll[s.place] = x:=by
     have:=hr;simp only [e,c] at this;simp at this;simp [c,e]
    rw [this] at n1 n2;rcases hx with hx | ⟨k,hx⟩
    ·exact absurd hx n1
    ·exact absurd hx (n2 k)
   ·exact lC 2 0xa2c11211a1c031 T1 hl (Yad (lC 2 316668234547233 T1 hl hp) c)
  have nh':roll[s.place] ≠ .halt:=fun z=>by rw [z] at nh; simp at nh
  refine ⟨⟨?_,by rw [Zm9]; exact hb,?_⟩,?_⟩
  ·generalize roll[s.place] = r at ro nl nh'
   cases r with
   | jump k=>exact ro
   | when a k=>
    show (if 0 < s.boxes.getD a 0 then k else s.place + 1) < _;split
    ·exact ro.2
    ·exact nl nh' (fun _ z=>by cases z)
   | halt=>exact absurd rfl nh'
   | _=>exact nl nh' (fun _ z=>by cases z)
  ·generalize roll[s.place] = r
   cases r with
   | set a b=>exact Zgw hc
   | _=>exact hc
  ·generalize roll[s.place] = r
   cases r with
   | set a b=>exact ZlL hc _ _
   | _=>exact Nat.le_succ _
theorem ZhR (roll:Zba):∀ k s,(Zby roll k s).length <= k + 1
 | 0,s=>by simp [Zby]
 | k + 1,s=>by
  unfold Zby;split
  ·simp
  ·have:=ZhR roll k ‹_›; simp; exact this
theorem ZmB (roll:Zba) (k:Nat) (s:Stt):Zby roll k s ≠ []:=by
 cases k with
 | zero=>simp [Zby]
 | succ k=>unfold Zby; split <;> simp
noncomputable def Zx (i:Int):List Nat:=(PySem.Str.ofString (toString i)).cps.toList
noncomputable section
local instance (priority:=100000) clQ1 (p:Prop):Decidable p:=Ys p
@[simp] noncomputable def ZkO (ds:List D) (M:Store):R3 D:=match ds with
 | [.int i]=>if i.natAbs.log2 < 1920 then .ok (.str (Zx i)) M else .bad
 | [.str x]=>.ok (.str x) M
 | _=>.bad
noncomputable def ZdZ:List D -> Option (List (List Nat))
 | []=>some []
 | .str x :: ds=>(ZdZ ds).map (x :: ·)
 | _=>none
noncomputable def glue (sep:List Nat):List (List Nat) -> List Nat
 | []=>[]
 | [x]=>x
 | x :: y :: xs=>x ++ sep ++ glue sep (y :: xs)
noncomputable def Zcf (sep:List Nat) (ts:List (List Nat)):Nat:=(ts.map fun t=>t.length + sep.length).sum
@[simp] noncomputable def ZfB (o:D) (ds:List D) (M:Store):R3 D:=match o,ds with
 | .str sep,[.ref n]=>match M[n]? with
  | some (.lst x)=>match ZdZ x with
   | some ts=>if Zcf sep ts <= SZ then .ok (.str (glue sep ts)) M else .bad
   | none=>.bad
  | _=>.bad
 | _,_=>.bad
noncomputable def ZdR (x y:List Nat):List (List Nat):=(PySem.Txt.split ⟨x.toArray⟩ ⟨y.toArray⟩).map fun t=>t.cps.toList
@[simp] noncomputable def Zed (o:D) (ds:List D) (M:Store):R3 D:=match o,ds with
 | .str x,[.str y]=>if 0 < y.length /\ x.length + 2 <= SZ then alloc (.lst ((ZdR x y).map D.str)) M else .bad
 | _,_=>.bad
@[simp] noncomputable def Zgj (ds:List D) (M:Store):R3 D:=match ds with
 | [.str x]=>match Yh9 ⟨x.toArray⟩ with
  | some n=>if x.length <= 640 then .ok (.int n) M else .bad
  | none=>.bad
 | ds=>ZtK ds M
@[simp] noncomputable def Zgg (T1 T2:Ty3) (d:D) (M:Store):R3 D:=match ZcZ T1 d M,ZcZ T2 d M with
 | some a,some b=>.ok (.bl (a || b)) M
 | _,_=>.bad
end
noncomputable section
noncomputable def ZvI (f:E3) (g:G3):S3:=fun env M=>match f env M with
 | .ok d M1=>match g d env with
  | some env1=>.nx env1 M1
  | none=>.bad
 | .exc x M1=>.exc x M1
 | .bad=>.bad
structure ItL where
 items:List D
 lk:List (Nat × List D)
noncomputable def ZbW (lk:List (Nat × List D)) (M:Store):Bool:=lk.all fun q=>decide (M[q.1]? = some (.lst q.2))
noncomputable def Zev (lk:List (Nat × List D)) (g:G3) (body:S3):List D -> Zaq -> Store -> O3
 | [],env,M=>if ZbW lk M then .nx env M else .bad
 | d :: ds,env,M=>if ZbW lk M then match g d env with
  | none=>.bad
  | some env1=>match body env1 M with
   | .nx e M'=>Zev lk g body ds e M'
   | .ct e M'=>Zev lk g body ds e M'
   | .bk e M'=>.nx e M'
   | o=>o
  else .bad
noncomputable abbrev IL3:=Zaq -> Store -> R3 ItL
noncomputable def Zfe (i:IL3) (g:G3) (body:S3):S3:=fun env M=>match i env M with
 | .ok it M1=>Zev it.lk g body it.items env M1
 | .exc x M1=>.exc x M1
 | .bad=>.bad
noncomputable def Zew:Nat -> List D -> List D
 | _,[]=>[]
 | k,d :: ds=>.tup [.int k,d] :: Zew (k + 1) ds
@[simp] noncomputable def Zvs (f:E3):IL3:=fun env M=>(f env M).bind fun a M1=>match a with
 | .tup ds=>.ok ⟨Zew 0 ds,[]⟩ M1
 | .ref n=>match M1[n]? with
  | some (.lst ds)=>.ok ⟨Zew 0 ds,[(n,ds)]⟩ M1
  | _=>.bad
 | _=>.bad
noncomputable def Zlc (f:E3) (is:List Nat):S3:=fun env M=>match f env M with
 | .ok (.ref n) M1=>(match M1[n]? with
  | some (.lst ds)=>(match bindAll is ds env with
   | some env1=>.nx env1 M1
   | none=>.bad)
  | _=>.bad)
 | _=>.bad
theorem ZgR:∀ (k:Nat) (ds:List D) (i:Nat),(Zew k ds)[i]? = (ds[i]?).map fun d=>.tup [.int ((k + i:Nat):Int),d]
 | _,[],_=>by simp [Zew]
 | k,d :: ds,0=>by simp [Zew]
 | k,d :: ds,i + 1=>by
  simp only [Zew,Yy,ZgR (k + 1) ds i];rw [show k + 1 + i = k + (i + 1) by exact Yh (lB 0 0xa1c0c1a0cc0 T1) (lB 0 1790139547840 T1)]
theorem ZgU:∀ (k:Nat) (ds:List D),(Zew k ds).length = ds.length
 | _,[]=>rfl
 | k,d :: ds=>by simp [Zew,ZgU (k + 1) ds]
theorem Zf2 {lk:List (Nat × List D)} {g:G3} {body:S3} {P:Nat -> Zaq -> Store -> Prop}:∀ (ds:List D) (j:Nat) (env:Zaq) (M:Store),P j env M -> (∀ j env M,P j env M -> ZbW lk M = true) ->
  (∀ (i:Nat) d env M,ds[i]? = some d -> P (j + i) env M -> ∃ env1,g d env = some env1 /\ ((∃ e' M',body env1 M = .nx e' M' /\ P (j + i + 1) e' M') \/ ∃ e' M',body env1 M = .ct e' M' /\ P (j + i + 1) e' M')) ->
  ∃ e' M',Zev lk g body ds env M = .nx e' M' /\ P (j + ds.length) e' M'
 | [],j,env,M,p,hl,_=>⟨env,M,by simp [Zev,hl _ _ _ p],by simpa using p⟩
 | d :: ds,j,env,M,p,hl,hs=>by
  obtain ⟨env1,hg,hb⟩:=hs 0 d env M (by simp) (by simpa using p);have go:∀ e' M',P (j + 1) e' M' -> ∃ e'' M'',Zev lk g body ds e' M' = .nx e'' M'' /\ P (j + (d :: ds).length) e'' M'':=fun e' M' p'=>by
   obtain ⟨e'',M'',h,p''⟩:=Zf2 ds (j + 1) e' M' p' hl fun i d env M hd p=>by
    have:=hs (i + 1) d env M (by simpa using hd) (by rw [show j + (i + 1) = j + 1 + i by exact Yh (lB 0 1790139547840 T1) (lB 0 0xa1c0c1a0cc0 T1)]; exact p);rw [show j + (i + 1) + 1 = j + 1 + i + 1 by exact Yh (lB 0 0xa1a0cccaa1c0cc0 T1) (lB 0 0xaa1c0cca1a0ccc0 T1)] at this;exact this
   exact ⟨e'',M'',h,by rw [show j + (d :: ds).length = j + 1 + ds.length by simp; exact Yh (lB 0 1790139547840 T1) (lB 0 0xa1c0c1a0cc0 T1)]; exact p''⟩
  simp only [Nat.add_zero] at hb;rcases hb with ⟨e',M',hb,p'⟩ | ⟨e',M',hb,p'⟩
  ·obtain ⟨e'',M'',h,p''⟩:=go e' M' p'
   exact ⟨e'',M'',by simp [Zev,hl _ _ _ p,hg,hb,h],p''⟩
  ·obtain ⟨e'',M'',h,p''⟩:=go e' M' p'
   exact ⟨e'',M'',by simp [Zev,hl _ _ _ p,hg,hb,h],p''⟩
end
noncomputable section
noncomputable def Zey:List D -> List D -> List D
 | a :: x,b :: y=>.tup [a,b] :: Zey x y
 | _,_=>[]
@[simp] noncomputable def ZvQ (f g:E3):IL3:=fun env M=>(f env M).bind fun a M1=>(g env M1).bind fun b M2=>match a,b with
 | .ref n,.ref m=>match M2[n]?,M2[m]? with
  | some (.lst x),some (.lst y)=>.ok ⟨Zey x y,[(n,x),(m,y)]⟩ M2
  | _,_=>.bad
 | _,_=>.bad
section
local instance (priority:=100000) clZ1 (p:Prop):Decidable p:=Ys p
end
section
local instance (priority:=100000) clZ2 (p:Prop):Decidable p:=Ys p
end
theorem Zgz:∀ (x y:List D) (i:Nat),(Zey x y)[i]? = (match x[i]?,y[i]? with | some a,some b=>some (D.tup [a,b]) | _,_=>none)
 | [],y,i=>by cases y <;> simp [Zey]
 | a :: x,[],i=>by simp [Zey]
 | a :: x,b :: y,0=>by simp [Zey]
 | a :: x,b :: y,i + 1=>by simp only [Zey,Yy,Zgz x y i]
theorem ZhQ:∀ (x y:List D),(Zey x y).length = min x.length y.length
 | [],y=>by cases y <;> simp [Zey]
 | a :: x,[]=>by simp [Zey]
 | a :: x,b :: y=>by simp only [Zey,Yai,ZhQ x y]; omega
end
noncomputable section
section
local instance (priority:=100000) clPg (p:Prop):Decidable p:=Ys p
end
end
noncomputable section
end
noncomputable section
end
noncomputable section
noncomputable abbrev Zij:=List (List Nat × List (List Nat))
noncomputable def tabAt (x:List Nat):Zij -> Option (List (List Nat))
 | []=>none
 | (k,v) :: r=>if x = k then some v else tabAt x r
noncomputable def ZgV (t:Zij) (d:D) (M:Store):R3 D:=match d with
 | .str x=>match tabAt x t with
  | some ds=>.ok (.tup (ds.map D.str)) M
  | none=>.ok .non M
 | _=>.bad
noncomputable def Ze3 (t:Zij) (d:D) (M:Store):R3 D:=match d with
 | .str x=>match tabAt x t with
  | some ds=>.ok (.tup (ds.map D.str)) M
  | none=>.bad
 | _=>.bad
noncomputable def Zjp (f:E3):IL3:=fun env M=>(f env M).bind fun a M1=>match a with
 | .ref n=>match M1[n]? with
  | some (.lst ds)=>.ok ⟨Zew 1 ds,[(n,ds)]⟩ M1
  | _=>.bad
 | _=>.bad
noncomputable def Zkq (M:Store):D -> Option (List D × List (Nat × List D))
 | .tup x=>some (x,[])
 | .ref n=>match M[n]? with
  | some (.lst x)=>some (x,[(n,x)])
  | _=>none
 | _=>none
noncomputable def Zg1 (f g:E3):IL3:=fun env M=>(f env M).bind fun a M1=>(g env M1).bind fun b M2=>match Zkq M2 a,Zkq M2 b with
 | some (x,l),some (y,k)=>.ok ⟨Zey x y,l ++ k⟩ M2
 | _,_=>.bad
end
open PySem PySem.Spec PyProof.Rows L2
noncomputable abbrev St:=L2.St
theorem Zbw:SZ <= Yac:=by rw [Ybe]; decide
def SqF (K:Ya) (H:Hp) (a:Addr) (xs:List V):Prop:=
 (∃ o,H a = some (.frz o (.lst xs))) \/
  ∃ (o:Obj) (its:Array Value) (n:Nat),K.lookup a = some o /\ o.cls = .type "list" /\ o.dict = none /\ o.data = .seq its n /\ its.size <= Yac /\ Vals xs its.toList
theorem SqF.sq {K:Ya} {H:Hp} {a:Addr} {xs:List V} (h:SqF K H a xs):SqL K H a xs:=by
 rcases h with ⟨o,h⟩ | h
 ·exact .inl (.inr ⟨o,h⟩)
 ·exact .inr h
mutual
noncomputable def Rep (K:Ya) (H:Hp) (ι:List Addr):D -> V -> Prop
 | .non,v=>v = .non
 | .bl b,v=>v = .bl b
 | .int i,v=>v = .int i
 | .str x,v=>v = .str ⟨x.toArray⟩
 | .tup ds,v=>∃ a vs,v = .ref a /\ SqT K H a vs /\ Zz K H ι ds vs
 | .scr ds,v=>∃ a vs,v = .ref a /\ SqF K H a vs /\ Zz K H ι ds vs
 | .ref n,v=>∃ a,ι[n]? = some a /\ v = .ref a
noncomputable def Zz (K:Ya) (H:Hp) (ι:List Addr):List D -> List V -> Prop
 | [],vs=>vs = []
 | d :: ds,vs=>∃ v ws,vs = v :: ws /\ Rep K H ι d v /\ Zz K H ι ds ws
end
structure Ext (K:Ya) (H:Hp) (ι:List Addr) (H':Hp) (ι':List Addr):Prop where
 tup:∀ a xs,SqT K H a xs -> SqT K H' a xs
 scr:∀ a xs,SqF K H a xs -> SqF K H' a xs
 pre:∀ (n:Nat) (a:Addr),ι[n]? = some a -> ι'[n]? = some a
 frz:∀ a o u,H a = some (.frz o u) -> H' a = some (.frz o u)
section
variable {K:Ya} {H H' H1 H2:Hp} {ι ι' ι1 ι2:List Addr}
theorem Ext.refl:Ext K H ι H ι:=⟨fun _ _ h=>h,fun _ _ h=>h,fun _ _ h=>h,fun _ _ _ h=>h⟩
theorem Ext.trans (a:Ext K H ι H1 ι1) (b:Ext K H1 ι1 H2 ι2):Ext K H ι H2 ι2:=
 ⟨fun x xs h=>b.tup x xs (a.tup x xs h),fun x xs h=>b.scr x xs (a.scr x xs h),fun n x h=>b.pre n x (a.pre n x h),fun x o u h=>b.frz x o u (a.frz x o u h)⟩
mutual
theorem Rep.mono (e:Ext K H ι H' ι'):∀ {d:D} {v:V},Rep K H ι d v -> Rep K H' ι' d v
 | .non,_,h=>by simpa [Rep] using h
 | .bl _,_,h=>by simpa [Rep] using h
 | .int _,_,h=>by simpa [Rep] using h
 | .str _,_,h=>by simpa [Rep] using h
 | .tup ds,_,h=>by
  simp only [Rep] at h ⊢;obtain ⟨a,vs,rfl,s,r⟩:=h;exact ⟨a,vs,rfl,e.tup _ _ s,Zz.mono e (ds:=ds) r⟩
 | .scr ds,_,h=>by
  simp only [Rep] at h ⊢;obtain ⟨a,vs,rfl,s,r⟩:=h;exact ⟨a,vs,rfl,e.scr _ _ s,Zz.mono e (ds:=ds) r⟩
 | .ref n,_,h=>by
  simp only [Rep] at h ⊢;obtain ⟨a,s,rfl⟩:=h;exact ⟨a,e.pre _ _ s,rfl⟩
theorem Zz.mono (e:Ext K H ι H' ι'):∀ {ds:List D} {vs:List V},Zz K H ι ds vs -> Zz K H' ι' ds vs
 | [],_,h=>by simpa [Zz] using h
 | d :: ds,_,h=>by
  simp only [Zz] at h ⊢;obtain ⟨v,ws,rfl,r,q⟩:=h;exact ⟨v,ws,rfl,Rep.mono e (d:=d) r,Zz.mono e (ds:=ds) q⟩
end
mutual
theorem Rep.keep (ht:∀ a xs,SqT K H a xs -> SqT K H' a xs) (hs:∀ a xs,SqF K H a xs -> SqF K H' a xs):∀ {d:D} {v:V},Rep K H ι d v -> Rep K H' ι d v
 | .non,_,h=>by simpa [Rep] using h
 | .bl _,_,h=>by simpa [Rep] using h
 | .int _,_,h=>by simpa [Rep] using h
 | .str _,_,h=>by simpa [Rep] using h
 | .tup ds,_,h=>by
  simp only [Rep] at h ⊢;obtain ⟨a,vs,rfl,s,r⟩:=h;exact ⟨a,vs,rfl,ht _ _ s,Zz.keep ht hs (ds:=ds) r⟩
 | .scr ds,_,h=>by
  simp only [Rep] at h ⊢;obtain ⟨a,vs,rfl,s,r⟩:=h;exact ⟨a,vs,rfl,hs _ _ s,Zz.keep ht hs (ds:=ds) r⟩
 | .ref n,_,h=>by simpa [Rep] using h
theorem Zz.keep (ht:∀ a xs,SqT K H a xs -> SqT K H' a xs) (hs:∀ a xs,SqF K H a xs -> SqF K H' a xs):∀ {ds:List D} {vs:List V},Zz K H ι ds vs -> Zz K H' ι ds vs
 | [],_,h=>by simpa [Zz] using h
 | d :: ds,_,h=>by
  simp only [Zz] at h ⊢;obtain ⟨v,ws,rfl,r,q⟩:=h;exact ⟨v,ws,rfl,Rep.keep ht hs (d:=d) r,Zz.keep ht hs (ds:=ds) q⟩
end
theorem Zz.nil:Zz K H ι [] []:=by simp [Zz]
theorem Zz.cons {d:D} {ds:List D} {v:V} {vs:List V} (h:Rep K H ι d v) (t:Zz K H ι ds vs):Zz K H ι (d :: ds) (v :: vs):=by
 simp only [Zz];exact ⟨v,vs,rfl,h,t⟩
theorem Zz.nil_inv {vs:List V} (h:Zz K H ι [] vs):vs = []:=by simpa [Zz] using h
theorem Zz.cons_inv {d:D} {ds:List D} {vs:List V} (h:Zz K H ι (d :: ds) vs):∃ v ws,vs = v :: ws /\ Rep K H ι d v /\ Zz K H ι ds ws:=by simpa [Zz] using h
theorem Zz.length:∀ {ds:List D} {vs:List V},Zz K H ι ds vs -> vs.length = ds.length
 | [],_,h=>by rw [h.nil_inv]; rfl
 | d :: ds,_,h=>by
  obtain ⟨v,ws,rfl,_,q⟩:=h.cons_inv;simp [q.length]
theorem Zz.append:∀ {ds es:List D} {vs ws:List V},Zz K H ι ds vs -> Zz K H ι es ws -> Zz K H ι (ds ++ es) (vs ++ ws)
 | [],_,_,_,h,q=>by rw [h.nil_inv]; exact q
 | d :: ds,_,_,_,h,q=>by
  obtain ⟨v,us,rfl,r,t⟩:=h.cons_inv;exact Zz.cons r (t.append q)
theorem Zz.drop:∀ {ds:List D} {vs:List V} (n:Nat),Zz K H ι ds vs -> Zz K H ι (ds.drop n) (vs.drop n)
 | _,_,0,h=>h
 | [],_,n + 1,h=>by rw [h.nil_inv]; exact Zz.nil
 | d :: ds,_,n + 1,h=>by
  obtain ⟨v,us,rfl,r,t⟩:=h.cons_inv;exact t.drop n
theorem Zz.take:∀ {ds:List D} {vs:List V} (n:Nat),Zz K H ι ds vs -> Zz K H ι (ds.take n) (vs.take n)
 | _,_,0,h=>Zz.nil
 | [],_,n + 1,h=>by rw [h.nil_inv]; exact Zz.nil
 | d :: ds,_,n + 1,h=>by
  obtain ⟨v,us,rfl,r,t⟩:=h.cons_inv;exact Zz.cons r (t.take n)
theorem Zz.get:∀ {ds:List D} {vs:List V} {i:Nat} {d:D},Zz K H ι ds vs -> ds[i]? = some d -> ∃ v,vs[i]? = some v /\ Rep K H ι d v
 | [],_,_,_,_,e=>by simp at e
 | d :: ds,_,0,_,h,e=>by
  obtain ⟨v,us,rfl,r,t⟩:=h.cons_inv;simp at e; subst e;exact ⟨v,rfl,r⟩
 | d :: ds,_,i + 1,_,h,e=>by
  obtain ⟨v,us,rfl,r,t⟩:=h.cons_inv;obtain ⟨w,q,z⟩:=t.get (i:=i) (by simpa using e);exact ⟨w,by simpa using q,z⟩
theorem Zz.set:∀ {ds:List D} {vs:List V} {d:D} {v:V} (i:Nat),Zz K H ι ds vs -> Rep K H ι d v -> Zz K H ι (ds.set i d) (vs.set i v)
 | [],_,_,_,_,h,_=>by rw [h.nil_inv]; exact Zz.nil
 | d :: ds,_,_,_,0,h,q=>by
  obtain ⟨v,us,rfl,r,t⟩:=h.cons_inv;exact Zz.cons q t
 | d :: ds,_,_,_,i + 1,h,q=>by
  obtain ⟨v,us,rfl,r,t⟩:=h.cons_inv;exact Zz.cons r (t.set i q)
theorem Zz.ints:∀ (ns:List Int),Zz K H ι (ns.map D.int) (ns.map V.int)
 | []=>Zz.nil
 | n :: ns=>Zz.cons (by simp [Rep]) (Zz.ints ns)
theorem Rep.non_inv {v:V} (h:Rep K H ι .non v):v = .non:=by simpa [Rep] using h
theorem Rep.bl_inv {v:V} {b:Bool} (h:Rep K H ι (.bl b) v):v = .bl b:=by simpa [Rep] using h
theorem Rep.int_inv {v:V} {i:Int} (h:Rep K H ι (.int i) v):v = .int i:=by simpa [Rep] using h
theorem Rep.str_inv {v:V} {x:List Nat} (h:Rep K H ι (.str x) v):v = .str ⟨x.toArray⟩:=by simpa [Rep] using h
theorem Rep.tup_inv {v:V} {ds:List D} (h:Rep K H ι (.tup ds) v):∃ a vs,v = .ref a /\ SqT K H a vs /\ Zz K H ι ds vs:=by simpa [Rep] using h
theorem Rep.scr_inv {v:V} {ds:List D} (h:Rep K H ι (.scr ds) v):∃ a vs,v = .ref a /\ SqF K H a vs /\ Zz K H ι ds vs:=by simpa [Rep] using h
theorem Rep.ref_inv {v:V} {n:Nat} (h:Rep K H ι (.ref n) v):∃ a,ι[n]? = some a /\ v = .ref a:=by simpa [Rep] using h
theorem Rep.non:Rep K H ι .non .non:=by simp [Rep]
theorem Rep.bl {b:Bool}:Rep K H ι (.bl b) (.bl b):=by simp [Rep]
theorem Rep.int {i:Int}:Rep K H ι (.int i) (.int i):=by simp [Rep]
theorem Rep.str {x:List Nat}:Rep K H ι (.str x) (.str ⟨x.toArray⟩):=by simp [Rep]
theorem Rep.tup {a:Addr} {vs:List V} {ds:List D} (s:SqT K H a vs) (r:Zz K H ι ds vs):Rep K H ι (.tup ds) (.ref a):=by
 simp only [Rep]; exact ⟨a,vs,rfl,s,r⟩
theorem Rep.ref {a:Addr} {n:Nat} (s:ι[n]? = some a):Rep K H ι (.ref n) (.ref a):=by
 simp only [Rep]; exact ⟨a,s,rfl⟩
end
def ExO (e C:Addr) (h:Heap):Prop:=∃ o vs,h.get? e = some o /\ o.cls = .ref C /\ o.data = .fields vs
noncomputable abbrev exH (e C:Addr):HO:=.ext (ExO e C)
noncomputable def dk:Za4 -> Key
 | .inl i=>.inl i
 | .inr x=>.inr ⟨x.toArray⟩
def KvR (K:Ya) (H:Hp) (ι:List Addr) (kvs:List (Za4 × D)) (ws:List (Key × V)):Prop:=
 ws.map (·.1) = kvs.map (fun p=>dk p.1) /\ Zz K H ι (kvs.map (·.2)) (ws.map (·.2))
def FsR (K:Ya) (H:Hp) (ι:List Addr) (fs:List (List Nat × D)) (gs:List (Str × V)):Prop:=
 gs.map (·.1) = fs.map (fun p=>(⟨p.1.toArray⟩:Str)) /\ Zz K H ι (fs.map (·.2)) (gs.map (·.2))
def ClsAt (K:Ya) (c:List Nat) (C:Addr):Prop:=PySem.W.nsIn K Yn ⟨c.toArray⟩ = some (some (.ref C))
noncomputable def Zfq (K:Ya) (H:Hp) (ι:List Addr):MO -> Addr -> Prop
 | .lst xs,a=>∃ vs,H a = some (.lst vs) /\ Zz K H ι xs vs
 | .dct kvs,a=>∃ ws,H a = some (.dK ws) /\ KvR K H ι kvs ws
 | .fdct kvs,a=>∃ ws,(∃ o,H a = some (.frz o (.dK ws))) /\ KvR K H ι kvs ws
 | .ins c fs,a=>(∃ C dx gs,H a = some (.ins C dx gs) /\ (ClsAt K c C /\ c.head? ≠ some 0) /\ FsR K H ι fs gs) \/ ∃ C,H a = some (exH a C) /\ c.head? = some 0 /\ ClsAt K c.tail C /\ fs = []
structure Zap (K:Ya) (H:Hp) (ι:List Addr) (M:Store):Prop where
 len:ι.length = M.length
 nd:ι.Nodup
 obj:∀ (n:Nat) o a,M[n]? = some o -> ι[n]? = some a -> Zfq K H ι o a
def Loose (H:Hp) (p:Addr):Prop:=H p = none \/ (∃ vs,H p = some (.lst vs)) \/ (∃ ws,H p = some (.dK ws)) \/ ∃ C dx gs,H p = some (.ins C dx gs)
section
variable {K:Ya} {H H':Hp} {ι ι':List Addr} {M:Store} {p:Addr} {o:HO}
theorem Loose.ne {a:Addr} {u:HO} (l:Loose H p) (h:H a = some u) (h1:∀ vs,u ≠ .lst vs) (h2:∀ ws,u ≠ .dK ws) (h3:∀ C dx gs,u ≠ .ins C dx gs:=by exact fun _ _ _ z=>nomatch z):a ≠ p:=by
 rintro rfl;rcases l with l | ⟨vs,l⟩ | ⟨ws,l⟩ | ⟨C,dx,gs,l⟩
 ·rw [h] at l; cases l
 ·rw [h] at l; exact h1 vs (Yao l)
 ·rw [h] at l; exact h2 ws (Yao l)
 ·rw [h] at l; exact h3 C dx gs (Yao l)
theorem Loose.tup (l:Loose H p) {a:Addr} {xs:List V} (h:SqT K H a xs):SqT K (upd H p o) a xs:=by
 rcases h with (h | ⟨ob,h⟩) | h
 ·exact .inl (.inl (by rw [Zaj (l.ne h (fun _ z=>nomatch z) (fun _ z=>nomatch z))]; exact h))
 ·exact .inl (.inr ⟨ob,by rw [Zaj (l.ne h (fun _ z=>nomatch z) (fun _ z=>nomatch z))]; exact h⟩)
 ·exact .inr h
theorem Loose.scr (l:Loose H p) {a:Addr} {xs:List V} (h:SqF K H a xs):SqF K (upd H p o) a xs:=by
 rcases h with ⟨ob,h⟩ | h
 ·exact .inl ⟨ob,by rw [Zaj (l.ne h (fun _ z=>nomatch z) (fun _ z=>nomatch z))]; exact h⟩
 ·exact .inr h
theorem Loose.frz (l:Loose H p) {a:Addr} {ob:Obj} {u:HO} (h:H a = some (.frz ob u)):upd H p o a = some (.frz ob u):=by
 rw [Zaj (l.ne h (fun _ z=>nomatch z) (fun _ z=>nomatch z))]; exact h
theorem Loose.ext (l:Loose H p):Ext K H ι (upd H p o) ι:=⟨fun _ _ h=>l.tup h,fun _ _ h=>l.scr h,fun _ _ h=>h,fun _ _ _ h=>l.frz h⟩
theorem Loose.extA (l:Loose H p):Ext K H ι (upd H p o) (ι ++ [p]):=⟨fun _ _ h=>l.tup h,fun _ _ h=>l.scr h,fun n a h=>by
 rw [Y7 (Yb.mp h).1]; exact h,fun _ _ _ h=>l.frz h⟩
theorem Zfq.mono {m:MO} {a:Addr} (e:Ext K H ι H' ι') (h:Zfq K H ι m a) (k:H' a = H a):Zfq K H' ι' m a:=by
 cases m with
 | lst xs=>obtain ⟨vs,q,r⟩:=h; exact ⟨vs,k.trans q,r.mono e⟩
 | dct kvs=>obtain ⟨ws,q,r1,r2⟩:=h; exact ⟨ws,k.trans q,r1,r2.mono e⟩
 | fdct kvs=>obtain ⟨ws,⟨o,q⟩,r1,r2⟩:=h; exact ⟨ws,⟨o,k.trans q⟩,r1,r2.mono e⟩
 | ins c fs=>
  rcases h with ⟨C,dx,gs,q,c,r1,r2⟩ | ⟨C,q,r⟩
  ·exact .inl ⟨C,dx,gs,k.trans q,c,r1,r2.mono e⟩
  ·exact .inr ⟨C,k.trans q,r⟩
theorem Zfq.ne {m:MO} {a:Addr} (h:Zfq K H ι m a):H a ≠ none:=by
 cases m with
 | lst xs=>obtain ⟨vs,q,r⟩:=h; rw [q]; simp
 | dct kvs=>obtain ⟨ws,q,r⟩:=h; rw [q]; simp
 | fdct kvs=>obtain ⟨ws,⟨o,q⟩,r⟩:=h; rw [q]; simp
 | ins c fs=>rcases h with ⟨C,dx,gs,q,r⟩ | ⟨C,q,r⟩ <;> (rw [q]; simp)
theorem Zap.at (S:Zap K H ι M) {n:Nat} {m:MO} (h:M[n]? = some m):∃ a,ι[n]? = some a /\ Zfq K H ι m a:=by
 have hn:n < ι.length:=by rw [S.len]; exact (Yb.mp h).1
 exact ⟨ι[n],by simp [hn],S.obj n m _ h (by simp [hn])⟩
theorem Zap.there (S:Zap K H ι M) {n:Nat} {a:Addr} (h:ι[n]? = some a):∃ m,M[n]? = some m /\ Zfq K H ι m a:=by
 have hn:n < M.length:=by rw [← S.len]; exact (Yb.mp h).1
 exact ⟨M[n],by simp [hn],S.obj n _ _ (by simp [hn]) h⟩
theorem Zap.fresh (S:Zap K H ι M) (hp:H p = none):p ∉ ι:=fun h=>by
 obtain ⟨n,hn⟩:=Ycc h;obtain ⟨m,_,q⟩:=S.there hn;exact q.ne hp
theorem Zap.other (S:Zap K H ι M) (l:Loose H p) (hp:p ∉ ι):Zap K (upd H p o) ι M:=
 ⟨S.len,S.nd,fun n m a h1 h2=>(S.obj n m a h1 h2).mono l.ext (by
  rw [Zaj]; rintro rfl; exact hp (Yax h2))⟩
theorem Zap.new (S:Zap K H ι M) (hp:H p = none) {m:MO} (h:Zfq K (upd H p o) (ι ++ [p]) m p):Zap K (upd H p o) (ι ++ [p]) (M ++ [m]):=by
 have hf:=S.fresh hp;refine ⟨by simp [S.len],?_,fun n m' a h1 h2=>?_⟩
 ·exact List.nodup_append.mpr ⟨S.nd,by simp,fun x hx y hy=>by
   have e:y = p:=by simpa using hy
   subst e;rintro rfl;exact hf hx⟩
 ·by_cases hn:n < ι.length
  ·rw [Y7 hn] at h2
   rw [Y7 (by rw [← S.len]; exact hn)] at h1;refine (S.obj n m' a h1 h2).mono (Loose.extA (.inl hp)) ?_;rw [Zaj];rintro rfl;exact hf (Yax h2)
  ·rw [Yaq (Y8 hn)] at h2
   rw [Yaq (by rw [← S.len]; exact Y8 hn)] at h1;have hlt:n - ι.length < 1:=by
    have:=(Yb.mp h2).1;simpa using this
   have e0:n - ι.length = 0:=Yh (lA 1 234922001 T1 hlt) (Yag _);rw [e0] at h2;rw [← S.len,e0] at h1;simp at h1 h2;subst h1 h2;exact h
theorem Zap.put (S:Zap K H ι M) {n:Nat} (l0:Loose H p) (hn:ι[n]? = some p) {m:MO} (h:Zfq K (upd H p o) ι m p):Zap K (upd H p o) ι (M.set n m):=by
 obtain ⟨m0,hm0,q0⟩:=S.there hn;refine ⟨by simp [S.len],S.nd,fun k m' a h1 h2=>?_⟩;by_cases hk:k = n
 ·subst hk
  rw [hn] at h2;cases h2;have hlt:k < M.length:=(Yb.mp hm0).1;rw [Yab hlt] at h1;cases h1;exact h
 ·rw [Y9 (Ya4 hk)] at h1
  refine (S.obj k m' a h1 h2).mono (Loose.ext l0) ?_;rw [Zaj];rintro rfl;have hlt1:=(Yb.mp h2);have hlt2:=(Yb.mp hn);exact hk ((Ygq S.nd).mp (hlt1.2.trans hlt2.2.symm))
theorem Zap.lst (S:Zap K H ι M) (hp:H p = none) {xs:List D} {vs:List V} (r:Zz K H ι xs vs):Ext K H ι (upd H p (.lst vs)) (ι ++ [p]) /\ Zap K (upd H p (.lst vs)) (ι ++ [p]) (M ++ [.lst xs]) /\ Rep K (upd H p (.lst vs)) (ι ++ [p]) (.ref M.length) (.ref p):=by
 have e:Ext K H ι (upd H p (.lst vs)) (ι ++ [p]):=Loose.extA (.inl hp);refine ⟨e,S.new hp ⟨vs,Zbl,r.mono e⟩,Rep.ref ?_⟩;rw [← S.len]; simp
theorem Zap.tupl (S:Zap K H ι M) (hp:H p = none) {xs:List D} {vs:List V} (r:Zz K H ι xs vs):Ext K H ι (upd H p (.tup vs)) ι /\ Zap K (upd H p (.tup vs)) ι M /\ Rep K (upd H p (.tup vs)) ι (.tup xs) (.ref p):=by
 have e:Ext K H ι (upd H p (.tup vs)) ι:=Loose.ext (.inl hp);exact ⟨e,S.other (.inl hp) (S.fresh hp),Rep.tup (SqT.of Zbl) (r.mono e)⟩
theorem Zap.setl (S:Zap K H ι M) {n:Nat} (l0:Loose H p) (hn:ι[n]? = some p) {xs:List D} {vs:List V} (r:Zz K H ι xs vs):Ext K H ι (upd H p (.lst vs)) ι /\ Zap K (upd H p (.lst vs)) ι (M.set n (.lst xs)):=by
 have e:Ext K H ι (upd H p (.lst vs)) ι:=Loose.ext l0;exact ⟨e,S.put l0 hn ⟨vs,Zbl,r.mono e⟩⟩
end
def Zbm (K:Ya) (H:Hp) (ι:List Addr) (env:Zaq) (σ:St):Prop:=
 env.length = σ.length /\ ∀ (i:Nat) d,env[i]? = some (some d) -> ∃ v,σ[i]? = some (some v) /\ Rep K H ι d v
theorem Zbm.mono {K:Ya} {H H':Hp} {ι ι':List Addr} {env:Zaq} {σ:St} (r:Zbm K H ι env σ) (e:Ext K H ι H' ι'):Zbm K H' ι' env σ:=
 ⟨r.1,fun i d h=>let ⟨v,q,z⟩:=r.2 i d h; ⟨v,q,z.mono e⟩⟩
theorem Zbm.set {K:Ya} {H:Hp} {ι:List Addr} {env:Zaq} {σ:St} {d:D} {v:V} (r:Zbm K H ι env σ) (i:Nat) (h:Rep K H ι d v):Zbm K H ι (env.set i (some d)) (σ.set i (some v)):=by
 refine ⟨by simp [r.1],fun j e hj=>?_⟩;by_cases hij:j = i
 ·subst hij
  have hlt:j < env.length:=by
   have:=(Yb.mp hj).1;simpa using this
  rw [Yab hlt] at hj;cases hj;exact ⟨v,by rw [Yab (by rw [← r.1]; exact hlt)],h⟩
 ·rw [Y9 (Ya4 hij)] at hj
  obtain ⟨w,q,z⟩:=r.2 j e hj;exact ⟨w,by rw [Y9 (Ya4 hij)]; exact q,z⟩
def Zac (K:Ya) (H:Hp) (ι:List Addr) (Q:VK) (r:R3 D):Prop:=match r with
 | .ok d M'=>∀ v H' ι',Ext K H ι H' ι' -> Zap K H' ι' M' -> Rep K H' ι' d v -> Q v H'
 | _=>False
inductive TOf (K:Ya) (f:E3) (σ:St) (H:Hp) (Q:VK):Prop where
 | mk (ι:List Addr) (M:Store) (env:Zaq) (S:Zap K H ι M) (E:Zbm K H ι env σ) (h:Zac K H ι Q (f env M)):TOf K f σ H Q
def tOf (K:Ya) (f:E3):TE:=fun σ H Q=>TOf K f σ H Q
def Zht (K:Ya) (H:Hp) (ι:List Addr) (Q:Bool -> Hp -> Prop) (r:R3 D):Prop:=match r with
 | .ok (.bl b) M'=>∀ H' ι',Ext K H ι H' ι' -> Zap K H' ι' M' -> Q b H'
 | _=>False
inductive TTf (K:Ya) (f:E3) (σ:St) (H:Hp) (Q:Bool -> Hp -> Prop):Prop where
 | mk (ι:List Addr) (M:Store) (env:Zaq) (S:Zap K H ι M) (E:Zbm K H ι env σ) (h:Zht K H ι Q (f env M)):TTf K f σ H Q
def tTf (K:Ya) (f:E3):TT:=fun σ H Q=>TTf K f σ H Q
def ZjT (K:Ya) (H:Hp) (ι:List Addr) (Q:List V -> Hp -> Prop) (r:R3 (List D)):Prop:=match r with
 | .ok ds M'=>∀ vs H' ι',Ext K H ι H' ι' -> Zap K H' ι' M' -> Zz K H' ι' ds vs -> Q vs H'
 | _=>False
inductive TAf (K:Ya) (f:EL3) (σ:St) (H:Hp) (Q:List V -> Hp -> Prop):Prop where
 | mk (ι:List Addr) (M:Store) (env:Zaq) (S:Zap K H ι M) (E:Zbm K H ι env σ) (h:ZjT K H ι Q (f env M)):TAf K f σ H Q
def tAf (K:Ya) (f:EL3):TA:=fun σ H Q=>TAf K f σ H Q
def Zlm (K:Ya) (H:Hp) (ι:List Addr) (Q:Option Int -> Hp -> Prop) (r:R3 (Option Int)):Prop:=match r with
 | .ok o M'=>∀ H' ι',Ext K H ι H' ι' -> Zap K H' ι' M' -> Q o H'
 | _=>False
def tOo (K:Ya) (f:EO3):TO:=fun σ H Q=>∃ ι M env,Zap K H ι M /\ Zbm K H ι env σ /\ Zlm K H ι Q (f env M)
def Zfs (K:Ya) (H:Hp) (ι:List Addr) (E:Ends) (r:O3):Prop:=match r with
 | .nx env' M'=>∀ σ' H' ι',Ext K H ι H' ι' -> Zap K H' ι' M' -> Zbm K H' ι' env' σ' -> E.nx σ' H'
 | .bk env' M'=>∀ σ' H' ι',Ext K H ι H' ι' -> Zap K H' ι' M' -> Zbm K H' ι' env' σ' -> E.bk σ' H'
 | .ct env' M'=>∀ σ' H' ι',Ext K H ι H' ι' -> Zap K H' ι' M' -> Zbm K H' ι' env' σ' -> E.ct σ' H'
 | .rt d M'=>∀ v H' ι',Ext K H ι H' ι' -> Zap K H' ι' M' -> Rep K H' ι' d v -> E.rt v H'
 | _=>False
inductive TSf (K:Ya) (f:S3) (D:Ends) (σ:St) (H:Hp):Prop where
 | mk (ι:List Addr) (M:Store) (env:Zaq) (S:Zap K H ι M) (E:Zbm K H ι env σ) (h:Zfs K H ι D (f env M)):TSf K f D σ H
def tSf (K:Ya) (f:S3):TS:=fun E σ H=>TSf K f E σ H
def C3 (X:Cx) (e:Expr) (f:E3):Prop:=PE X e (tOf X.K f)
def CT (X:Cx) (e:Expr) (f:E3):Prop:=PT X e (tTf X.K f)
def CA (X:Cx) (es:List Expr) (f:EL3):Prop:=PA X es (tAf X.K f)
def CO (X:Cx) (e:Option Expr) (f:EO3):Prop:=PO X e (tOo X.K f)
def CS (X:Cx) (st:Stmt) (f:S3):Prop:=PS X st (tSf X.K f)
def CSs (X:Cx) (st:List Stmt) (f:S3):Prop:=PSs X st (tSf X.K f)
theorem _root_.L2.PE.imp {X:Cx} {e:Expr} {t t':TE} (h:PE X e t) (i:∀ σ H Q,t' σ H Q -> t σ H Q):PE X e t':=fun pins s σ H Q I q=>h pins s σ H Q I (i σ H Q q)
theorem _root_.L2.PT.imp {X:Cx} {e:Expr} {t t':TT} (h:PT X e t) (i:∀ σ H Q,t' σ H Q -> t σ H Q):PT X e t':=fun pins s σ H Q I q=>h pins s σ H Q I (i σ H Q q)
theorem _root_.L2.PA.imp {X:Cx} {e:List Expr} {t t':TA} (h:PA X e t) (i:∀ σ H Q,t' σ H Q -> t σ H Q):PA X e t':=fun pos pins s σ H Q I q=>h pos pins s σ H Q I (i σ H Q q)
theorem _root_.L2.PO.imp {X:Cx} {e:Option Expr} {t t':TO} (h:PO X e t) (i:∀ σ H Q,t' σ H Q -> t σ H Q):PO X e t':=fun pins s σ H Q I q=>h pins s σ H Q I (i σ H Q q)
theorem _root_.L2.PS.imp {X:Cx} {e:Stmt} {t t':TS} (h:PS X e t) (i:∀ D σ H,t' D σ H -> t D σ H):PS X e t':=fun pins s σ H D I q=>h pins s σ H D I (i D σ H q)
theorem _root_.L2.PSs.imp {X:Cx} {e:List Stmt} {t t':TS} (h:PSs X e t) (i:∀ D σ H,t' D σ H -> t D σ H):PSs X e t':=fun pins s σ H D I q=>h pins s σ H D I (i D σ H q)
theorem _root_.L2.OpR.imp {X:Cx} {f:Value -> Value -> Sem Value} {r r':R2} (h:OpR X f r) (i:∀ x y H Q,r' x y H Q -> r x y H Q):OpR X f r':=fun pins s σ H x y v u Q I rx ry q=>h pins s σ H x y v u Q I rx ry (i x y H Q q)
theorem _root_.L2.UnR.imp {X:Cx} {f:Value -> Sem Value} {r r':V -> Hp -> VK -> Prop} (h:UnR X f r) (i:∀ x H Q,r' x H Q -> r x H Q):UnR X f r':=fun pins s σ H x v Q I rx q=>h pins s σ H x v Q I rx (i x H Q q)
theorem _root_.L2.Za0.imp {X:Cx} {f:Value} {r r':List V -> Hp -> VK -> Prop} (h:Za0 X f r) (i:∀ x H Q,r' x H Q -> r x H Q):Za0 X f r':=fun pins s σ H xs us Q I rx q=>h pins s σ H xs us Q I rx (i xs H Q q)
theorem _root_.L2.IxR.imp {X:Cx} {r r':R2} (h:IxR X r) (i:∀ x y H Q,r' x y H Q -> r x y H Q):IxR X r':=fun value slice pins s σ H x y v u Q I rx ry q hs=>h value slice pins s σ H x y v u Q I rx ry (i x y H Q q) hs
theorem _root_.L2.SlR.imp {X:Cx} {r r':V -> Option Int -> Option Int -> Hp -> VK -> Prop} (h:SlR X r) (i:∀ x lo hi H Q,r' x lo hi H Q -> r x lo hi H Q):SlR X r':=fun pins s σ H x v vl vu lo hi sl Q I rx hs pl pu q=>h pins s σ H x v vl vu lo hi sl Q I rx hs pl pu (i x lo hi H Q q)
section
variable {K:Ya} {H H1:Hp} {ι ι1:List Addr}
theorem Zac.up {Q:VK} {r:R3 D} (e:Ext K H ι H1 ι1) (h:Zac K H ι Q r):Zac K H1 ι1 Q r:=by
 cases r with
 | ok d M=>exact fun v H' ι' e' S r=>h v H' ι' (e.trans e') S r
 | exc x M=>exact h
 | bad=>exact h
theorem Zht.up {Q:Bool -> Hp -> Prop} {r:R3 D} (e:Ext K H ι H1 ι1) (h:Zht K H ι Q r):Zht K H1 ι1 Q r:=by
 cases r with
 | ok d M=>cases d <;> first | exact h | exact fun H' ι' e' S=>h H' ι' (e.trans e') S
 | exc x M=>exact h
 | bad=>exact h
theorem ZjT.up {Q:List V -> Hp -> Prop} {r:R3 (List D)} (e:Ext K H ι H1 ι1) (h:ZjT K H ι Q r):ZjT K H1 ι1 Q r:=by
 cases r with
 | ok d M=>exact fun v H' ι' e' S r=>h v H' ι' (e.trans e') S r
 | exc x M=>exact h
 | bad=>exact h
theorem Zlm.up {Q:Option Int -> Hp -> Prop} {r:R3 (Option Int)} (e:Ext K H ι H1 ι1) (h:Zlm K H ι Q r):Zlm K H1 ι1 Q r:=by
 cases r with
 | ok d M=>exact fun H' ι' e' S=>h H' ι' (e.trans e') S
 | exc x M=>exact h
 | bad=>exact h
theorem Zfs.up {Q:Ends} {r:O3} (e:Ext K H ι H1 ι1) (h:Zfs K H ι Q r):Zfs K H1 ι1 Q r:=by
 cases r with
 | nx d M=>exact fun v H' ι' e' S r=>h v H' ι' (e.trans e') S r
 | bk d M=>exact fun v H' ι' e' S r=>h v H' ι' (e.trans e') S r
 | ct d M=>exact fun v H' ι' e' S r=>h v H' ι' (e.trans e') S r
 | rt d M=>exact fun v H' ι' e' S r=>h v H' ι' (e.trans e') S r
 | exc x M=>exact h
 | bad=>exact h
theorem Zac.ok {Q:VK} {d:D} {M:Store} {v:V} (h:Zac K H ι Q (.ok d M)) (S:Zap K H ι M) (r:Rep K H ι d v):Q v H:=h v H ι Ext.refl S r
theorem Zac.bind {α:Type} {Q:VK} {r:R3 α} {k:α -> Store -> R3 D} (h:Zac K H ι Q (r.bind k)):∃ a M,r = .ok a M /\ Zac K H ι Q (k a M):=by
 cases r with
 | ok a M=>exact ⟨a,M,rfl,h⟩
 | exc x M=>exact h.elim
 | bad=>exact h.elim
theorem ZjT.bind {α:Type} {Q:List V -> Hp -> Prop} {r:R3 α} {k:α -> Store -> R3 (List D)} (h:ZjT K H ι Q (r.bind k)):∃ a M,r = .ok a M /\ ZjT K H ι Q (k a M):=by
 cases r with
 | ok a M=>exact ⟨a,M,rfl,h⟩
 | exc x M=>exact h.elim
 | bad=>exact h.elim
theorem Zlm.bind {α:Type} {Q:Option Int -> Hp -> Prop} {r:R3 α} {k:α -> Store -> R3 (Option Int)} (h:Zlm K H ι Q (r.bind k)):∃ a M,r = .ok a M /\ Zlm K H ι Q (k a M):=by
 cases r with
 | ok a M=>exact ⟨a,M,rfl,h⟩
 | exc x M=>exact h.elim
 | bad=>exact h.elim
theorem Zht.bind {α:Type} {Q:Bool -> Hp -> Prop} {r:R3 α} {k:α -> Store -> R3 D} (h:Zht K H ι Q (r.bind k)):∃ a M,r = .ok a M /\ Zht K H ι Q (k a M):=by
 cases r with
 | ok a M=>exact ⟨a,M,rfl,h⟩
 | exc x M=>exact h.elim
 | bad=>exact h.elim
end
inductive R2I (K:Ya) (op:D -> D -> Store -> R3 D) (x y:V) (H:Hp) (Q:VK):Prop where
 | mk (ι:List Addr) (M:Store) (a b:D) (S:Zap K H ι M) (ra:Rep K H ι a x) (rb:Rep K H ι b y) (h:Zac K H ι Q (op a b M)):R2I K op x y H Q
def r2 (K:Ya) (op:D -> D -> Store -> R3 D):R2:=fun x y H Q=>R2I K op x y H Q
noncomputable def r1 (K:Ya) (op:D -> Store -> R3 D):V -> Hp -> VK -> Prop:=fun x H Q=>∃ ι M a,Zap K H ι M /\ Rep K H ι a x /\ Zac K H ι Q (op a M)
inductive RBI (K:Ya) (b:List D -> Store -> R3 D) (xs:List V) (H:Hp) (Q:VK):Prop where
 | mk (ι:List Addr) (M:Store) (ds:List D) (S:Zap K H ι M) (r:Zz K H ι ds xs) (h:Zac K H ι Q (b ds M)):RBI K b xs H Q
noncomputable def rB (K:Ya) (b:List D -> Store -> R3 D):List V -> Hp -> VK -> Prop:=fun xs H Q=>RBI K b xs H Q
noncomputable def rM (K:Ya) (m:D -> List D -> Store -> R3 D):V -> List V -> Hp -> VK -> Prop:=fun x xs H Q=>∃ ι M a ds,Zap K H ι M /\ Rep K H ι a x /\ Zz K H ι ds xs /\ Zac K H ι Q (m a ds M)
noncomputable def rS (K:Ya):V -> Option Int -> Option Int -> Hp -> VK -> Prop:=fun x lo hi H Q=>∃ ι M a,Zap K H ι M /\ Rep K H ι a x /\ Zac K H ι Q (Zgt a lo hi M)
theorem Zj1 {K:Ya} {op:D -> D -> Store -> R3 D} {f g:E3} (σ:St) (H:Hp) (Q:VK) (h:tOf K (e2 op f g) σ H Q):tOp (r2 K op) (tOf K f) (tOf K g) σ H Q:=by
 obtain ⟨ι,M,env,S,E,h⟩:=h;obtain ⟨a,M1,e1,h⟩:=Zac.bind h;obtain ⟨b,M2,e2,h⟩:=Zac.bind h;refine ⟨ι,M,env,S,E,?_⟩;rw [e1];intro v H1 ι1 x1 S1 r1;refine ⟨ι1,M1,env,S1,E.mono x1,?_⟩;rw [e2];intro u H2 ι2 x2 S2 r2;exact ⟨ι2,M2,a,b,S2,r1.mono x2,r2,(h.up x1).up x2⟩
theorem Zs4 {K:Ya} {op:D -> Store -> R3 D} {f:E3} (σ:St) (H:Hp) (Q:VK) (h:tOf K (e1 op f) σ H Q):tUn (r1 K op) (tOf K f) σ H Q:=by
 obtain ⟨ι,M,env,S,E,h⟩:=h;obtain ⟨a,M1,e1,h⟩:=Zac.bind h;refine ⟨ι,M,env,S,E,?_⟩;rw [e1];intro v H1 ι1 x1 S1 r1;exact ⟨ι1,M1,a,S1,r1,h.up x1⟩
section
variable {X:Cx} {a b c e o:Expr} {es:List Expr} {pos p:Pos} {f g h:E3} {gl:EL3}
theorem Zd (i:Nat) {x:Str} (hN:X.N[i]? = some x:=by rfl) (hv:Vis X.env.scope x:=by first | exact Or.inl rfl | exact Or.inr (Or.inl rfl) | exact Or.inr (Or.inr rfl)) (hd:(x == ("__debug__":Str)) = false:=by decide)
  (hcd:(x == ("__classdict__":Str)) = false:=by decide):C3 X (.Name x pos) (Zb i):=(Zsv hN hv hd hcd).imp fun σ H Q zz1=>by
 obtain ⟨ι,M,env,S,E,h⟩:=zz1;unfold Zb at h;cases q:env[i]? with
 | none=>rw [q] at h; exact h.elim
 | some od=>
  cases od with
  | none=>rw [q] at h; exact h.elim
  | some d=>
   rw [q] at h;obtain ⟨v,e1,r⟩:=E.2 i d q;exact ⟨v,e1,Zac.ok h S r⟩
theorem Zj {i j}:C3 X (.Constant (.int i) j pos) (eC (.int i)):=ZoP.imp fun σ H Q ⟨ι,M,env,S,E,h⟩=>Zac.ok h S Rep.int
theorem ZjJ {i j}:C3 X (.Constant (.bool i) j pos) (eC (.bl i)):=ZtQ.imp fun σ H Q ⟨ι,M,env,S,E,h⟩=>Zac.ok h S Rep.bl
theorem ZhT {j}:C3 X (.Constant .none j pos) (eC .non):=Zrx.imp fun σ H Q ⟨ι,M,env,S,E,h⟩=>Zac.ok h S Rep.non
theorem Zan {x:Str} {cs:List Nat} {j} (hx:x = ⟨cs.toArray⟩:=by decide +kernel):C3 X (.Constant (.str x) j pos) (eC (.str cs)):=ZsL.imp fun σ H Q zz1=>by
 obtain ⟨ι,M,env,S,E,h⟩:=zz1;subst hx;exact Zac.ok h S Rep.str
theorem ZlJ {x:Str} {d:D} {v:V} {u:Value} (hm:X.mg x = some u) (r:RelV v u) (hr:∀ H ι,Rep X.K H ι d v) (hg:Gl X x:=by rfl) (hd:(x == ("__debug__":Str)) = false:=by decide):C3 X (.Name x pos) (eC d):=
 (ZjV hg hm r hd).imp fun σ H Q ⟨ι,M,env,S,E,h⟩=>Zac.ok h S (hr H ι)
theorem Zam {op:Operator} {q:D -> D -> Store -> R3 D} (ho:OpR X (Yb8 op) (r2 X.K q)) (ha:C3 X a f) (hb:C3 X b g):C3 X (.BinOp a op b pos) (e2 q f g):=(Ztt ho ha hb).imp Zj1
theorem ZhP {op:UnaryOp} {q:D -> Store -> R3 D} (ho:UnR X (unaryOp op) (r1 X.K q)) (ha:C3 X a f):C3 X (.UnaryOp op a pos) (e1 q f):=(Zt6 ho ha).imp Zs4
theorem ZeS {op:CmpOp} {q:D -> D -> Store -> R3 D} (ho:OpR X (Ya5 op) (r2 X.K q)) (ha:C3 X a f) (hb:C3 X b g) (hm:Ygc op b = false:=by rfl):C3 X (.Compare a [op] [b] pos) (e2 q f g):=(Zqw ho ha hb hm).imp Zj1
theorem Zjb {K:Ya} {H:Hp} {ι:List Addr} {Q:Bool -> Hp -> Prop} {r:R3 D} (h:Zht K H ι Q r):Zac K H ι (fun x H'=>∃ k,x = .bl k /\ Q k H') r:=by
 cases r with
 | ok d M=>
  cases d with
  | bl b=>exact fun v H' ι' e S r=>⟨b,r.bl_inv,h H' ι' e S⟩
  | _=>exact h.elim
 | exc x M=>exact h.elim
 | bad=>exact h.elim
theorem Zb6 (h:C3 X e f) (he:∀ whole,isTrue e X.env whole = (do let v ← whole; Yjo e.pos; Yg8 [v] (truthy v)):=by intro _; rfl):CT X e f:=(ZrA h he).imp fun σ H Q ⟨ι,M,env,S,E,h⟩=>⟨ι,M,env,S,E,Zjb h⟩
theorem Zas {op:CmpOp} {q:D -> D -> Store -> R3 D} (ho:OpR X (Ya5 op) (r2 X.K q)) (ha:C3 X a f) (hb:C3 X b g) (hm:Ygc op b = false:=by rfl):CT X (.Compare a [op] [b] pos) (e2 q f g):=
 (Zqe ho ha hb hm).imp fun σ H Q ⟨ι,M,env,S,E,h⟩=>Zj1 σ H _ ⟨ι,M,env,S,E,Zjb h⟩
end
section
variable {X:Cx} {a b c e o:Expr} {es rest:List Expr} {pos p:Pos} {f g h:E3} {gl:EL3}
theorem Zja {op} (h:C3 X a f):C3 X (.BoolOp op [a] pos) f:=ZsC h
theorem ZiW (ha:C3 X a f) (hb:C3 X (.BoolOp .And (b :: rest) pos) g):C3 X (.BoolOp .And (a :: b :: rest) pos) (Zcq f g):=(ZrR ha hb).imp fun σ H Q zz1=>by
 obtain ⟨ι,M,env,S,E,h⟩:=zz1;obtain ⟨d,M1,e1,h⟩:=Zac.bind h;refine ⟨ι,M,env,S,E,?_⟩;rw [e1];intro v H1 ι1 x1 S1 r1;cases d with
 | bl k=>
  refine ⟨k,r1.bl_inv,?_⟩;cases k with
  | true=>rw [if_pos rfl]; exact ⟨ι1,M1,env,S1,E.mono x1,h.up x1⟩
  | false=>rw [if_neg (by decide)]; exact Zac.ok (h.up x1) S1 Rep.bl
 | _=>exact h.elim
theorem Zvi (ha:C3 X a f) (hb:C3 X (.BoolOp .Or (b :: rest) pos) g):C3 X (.BoolOp .Or (a :: b :: rest) pos) (eOr f g):=(ZtP ha hb).imp fun σ H Q zz1=>by
 obtain ⟨ι,M,env,S,E,h⟩:=zz1;obtain ⟨d,M1,e1,h⟩:=Zac.bind h;refine ⟨ι,M,env,S,E,?_⟩;rw [e1];intro v H1 ι1 x1 S1 r1;cases d with
 | bl k=>
  refine ⟨k,r1.bl_inv,?_⟩;cases k with
  | false=>rw [if_neg (by decide)]; exact ⟨ι1,M1,env,S1,E.mono x1,h.up x1⟩
  | true=>rw [if_pos rfl]; exact Zac.ok (h.up x1) S1 Rep.bl
 | _=>exact h.elim
def CW (X:Cx) (e:Expr) (f:E3):Prop:=PW X e (tTf X.K f)
theorem CW.ct (h:CW X e f):CT X e f:=PW.pt h
theorem PW.imp {t t':TT} (h:PW X e t) (i:∀ σ H Q,t' σ H Q -> t σ H Q):PW X e t':=fun wh pins s σ H Q I q=>h wh pins s σ H Q I (i σ H Q q)
theorem ZeR (ha:CT X a f):CW X (.BoolOp .And [a] pos) f:=ZpZ ha
theorem Zh1 (ha:CT X a f):CW X (.BoolOp .Or [a] pos) f:=ZrT ha
theorem ZfK (ha:CT X a f) (hb:CW X (.BoolOp .And (b :: rest) pos) g):CW X (.BoolOp .And (a :: b :: rest) pos) (Zcq f g):=PW.imp (Zsq ha hb) fun σ H Q zz1=>by
 obtain ⟨ι,M,env,S,E,h⟩:=zz1;obtain ⟨d,M1,e1,h⟩:=Zht.bind h;refine ⟨ι,M,env,S,E,?_⟩;rw [e1];cases d with
 | bl k=>
  intro H1 ι1 x1 S1;cases k with
  | true=>rw [if_pos rfl]; exact ⟨ι1,M1,env,S1,E.mono x1,h.up x1⟩
  | false=>rw [if_neg (by decide)]; exact h H1 ι1 x1 S1
 | _=>exact h.elim
theorem Zkk (ha:CT X a f) (hb:CW X (.BoolOp .Or (b :: rest) pos) g):CW X (.BoolOp .Or (a :: b :: rest) pos) (eOr f g):=PW.imp (ZtW ha hb) fun σ H Q zz1=>by
 obtain ⟨ι,M,env,S,E,h⟩:=zz1;obtain ⟨d,M1,e1,h⟩:=Zht.bind h;refine ⟨ι,M,env,S,E,?_⟩;rw [e1];cases d with
 | bl k=>
  intro H1 ι1 x1 S1;cases k with
  | false=>rw [if_neg (by decide)]; exact ⟨ι1,M1,env,S1,E.mono x1,h.up x1⟩
  | true=>rw [if_pos rfl]; exact h H1 ι1 x1 S1
 | _=>exact h.elim
theorem Zdv (ha:CT X a f):CT X (.UnaryOp .Not a pos) (e1 Zbp f):=(ZsI ha).imp fun σ H Q zz1=>by
 obtain ⟨ι,M,env,S,E,h⟩:=zz1;obtain ⟨d,M1,e1,h⟩:=Zht.bind h;refine ⟨ι,M,env,S,E,?_⟩;rw [e1];cases d with
 | bl k=>exact fun H1 ι1 x1 S1=>h H1 ι1 x1 S1
 | _=>exact h.elim
theorem ZrQ (hc:CT X c f) (ha:C3 X a g) (hb:C3 X b h):C3 X (.IfExp c a b pos) (eIf f g h):=(ZoH hc ha hb).imp fun σ H Q zz1=>by
 obtain ⟨ι,M,env,S,E,h⟩:=zz1;obtain ⟨d,M1,e1,h⟩:=Zac.bind h;refine ⟨ι,M,env,S,E,?_⟩;rw [e1];cases d with
 | bl k=>
  intro H1 ι1 x1 S1;cases k with
  | true=>rw [if_pos rfl]; exact ⟨ι1,M1,env,S1,E.mono x1,h.up x1⟩
  | false=>rw [if_neg (by decide)]; exact ⟨ι1,M1,env,S1,E.mono x1,h.up x1⟩
 | _=>exact h.elim
theorem Zi:CA X [] Zg:=ZjQ.imp fun σ H Q ⟨ι,M,env,S,E,h⟩=>h [] H ι Ext.refl S Zz.nil
theorem Zc (ha:C3 X e f) (hr:CA X es gl) (hs:Yx (e :: es) X.env = (false,eval e X.env) :: Yx es X.env:=by rfl):CA X (e :: es) (Za f gl):=(ZeD ha hr hs).imp fun σ H Q zz1=>by
 obtain ⟨ι,M,env,S,E,h⟩:=zz1;obtain ⟨d,M1,e1,h⟩:=ZjT.bind h;obtain ⟨ds,M2,e2,h⟩:=ZjT.bind h;refine ⟨ι,M,env,S,E,?_⟩;rw [e1];intro v H1 ι1 x1 S1 r1;refine ⟨ι1,M1,env,S1,E.mono x1,?_⟩;rw [e2];intro vs H2 ι2 x2 S2 r2;exact h (v :: vs) H2 ι2 (x1.trans x2) S2 (Zz.cons (r1.mono x2) r2)
theorem ZcV {x1} (h:CA X es gl):C3 X (.Tuple es x1 pos) (Zbv gl):=(Zpr h).imp fun σ H Q zz1=>by
 obtain ⟨ι,M,env,S,E,h⟩:=zz1;obtain ⟨ds,M1,e1,h⟩:=Zac.bind h;refine ⟨ι,M,env,S,E,?_⟩;rw [e1];intro vs H1 ι1 x1 S1 r1;by_cases hz:ds.length <= SZ
 ·rw [if_pos hz] at h
  refine ⟨by rw [r1.length]; exact Yj hz Zbw,fun p hp=>?_⟩;obtain ⟨x2,S2,r2⟩:=S1.tupl hp r1;exact h _ _ _ (x1.trans x2) S2 r2
 ·rw [if_neg hz] at h; exact h.elim
theorem Zcz (h:CA X es gl):C3 X (.List es pos) (Zbu gl):=(ZsY h).imp fun σ H Q zz1=>by
 obtain ⟨ι,M,env,S,E,h⟩:=zz1;obtain ⟨ds,M1,e1,h⟩:=Zac.bind h;refine ⟨ι,M,env,S,E,?_⟩;rw [e1];intro vs H1 ι1 x1 S1 r1;by_cases hz:ds.length <= SZ
 ·rw [if_pos hz] at h
  refine ⟨by rw [r1.length]; exact Yj hz Zbw,fun p hp=>?_⟩;obtain ⟨x2,S2,r2⟩:=S1.lst hp r1;exact h _ _ _ (x1.trans x2) S2 r2
 ·rw [if_neg hz] at h; exact h.elim
theorem Zn1 {K:Ya} {q:List D -> Store -> R3 D} (σ:St) (H:Hp) (Q:VK) (h:tOf K (Zax q gl) σ H Q):tCB (rB K q) (tAf K gl) σ H Q:=by
 obtain ⟨ι,M,env,S,E,h⟩:=h;obtain ⟨ds,M1,e1,h⟩:=Zac.bind h;refine ⟨ι,M,env,S,E,?_⟩;rw [e1];intro vs H1 ι1 x1 S1 r1;exact ⟨ι1,M1,ds,S1,r1,h.up x1⟩
theorem Zcs {x:Str} {id:String} {q:List D -> Store -> R3 D} (hc:Za0 X (.builtin id) (rB X.K q)) (hm:X.mg x = none) (hv:Yap x = some (.builtin id)) (ha:CA X (e :: es) gl) (hg:Gl X x:=by rfl) (hn:x ≠ "__name__":=by decide) (hdb:(x == ("__debug__":Str)) = false:=by decide)
  (he:Yx (e :: es) X.env = (false,eval e X.env) :: Yx es X.env:=by rfl) (hpl:(Ycl pos (Yx es X.env)).any (·.1) = false:=by rfl):C3 X (.Call (.Name x p) (e :: es) [] pos) (Zax q gl):=(Zh3 hc hg hm hv ha hn hdb he hpl).imp Zn1
theorem ZdD {x:Str} {T:String} {q:List D -> Store -> R3 D} (hc:Za0 X (.type T) (rB X.K q)) (hm:X.mg x = none) (hv:Yap x = some (.type T)) (ha:CA X (e :: es) gl) (hg:Gl X x:=by rfl) (hn:x ≠ "__name__":=by decide) (hdb:(x == ("__debug__":Str)) = false:=by decide)
  (he:Yx (e :: es) X.env = (false,eval e X.env) :: Yx es X.env:=by rfl) (hpl:(Ycl pos (Yx es X.env)).any (·.1) = false:=by rfl):C3 X (.Call (.Name x p) (e :: es) [] pos) (Zax q gl):=(ZmW hc hg hm hv ha hn hdb he hpl).imp Zn1
theorem Zw (hr:IxR X (r2 X.K Zf)) (ha:C3 X a f) (hb:C3 X b g) (hs:ZmH b:=by exact fun _ _=>rfl):C3 X (.Subscript a b pos) (e2 Zf f g):=(Ztu hr ha hb hs).imp Zj1
theorem ZcS:CO X none ZaY:=Zqf.imp fun σ H Q ⟨ι,M,env,S,E,h⟩=>h H ι Ext.refl S
theorem ZcO (h:C3 X e f):CO X (some e) (ZaP f):=(Zp3 h).imp fun σ H Q zz1=>by
 obtain ⟨ι,M,env,S,E,h⟩:=zz1;obtain ⟨d,M1,e1,h⟩:=Zlm.bind h;refine ⟨ι,M,env,S,E,?_⟩;rw [e1];intro v H1 ι1 x1 S1 r1;cases d with
 | int i=>exact ⟨i,r1.int_inv,h H1 ι1 x1 S1⟩
 | _=>exact h.elim
theorem ZhA {lo hi:Option Expr} {ol oh:EO3} {p2:Pos} (hr:SlR X (rS X.K)) (he:C3 X e f) (hl:CO X lo ol) (hu:CO X hi oh):C3 X (.Subscript e (.Slice lo hi none p2) pos) (eSl f ol oh):=(Zpj hr he hl hu).imp fun σ H Q zz1=>by
 obtain ⟨ι,M,env,S,E,h⟩:=zz1;obtain ⟨d,M1,e1,h⟩:=Zac.bind h;obtain ⟨l,M2,e2,h⟩:=Zac.bind h;obtain ⟨u,M3,e3,h⟩:=Zac.bind h;refine ⟨ι,M,env,S,E,?_⟩;rw [e1];intro v H1 ι1 x1 S1 r1;refine ⟨ι1,M1,env,S1,E.mono x1,?_⟩;rw [e2];intro H2 ι2 x2 S2;refine ⟨ι2,M2,env,S2,(E.mono x1).mono x2,?_⟩;rw [e3];intro H3 ι3 x3 S3;exact ⟨ι3,M3,d,S3,(r1.mono x2).mono x3,((h.up x1).up x2).up x3⟩
theorem Zai:CSs X [] Zab:=Zqa.imp fun D σ H ⟨ι,M,env,S,E,h⟩=>h σ H ι Ext.refl S E
theorem Zr {st:Stmt} {u:S3} (h:CS X st u):CSs X [st] u:=ZpP h
theorem Zh {st:Stmt} {sts:List Stmt} {u w:S3} (h1:CS X st u) (h2:CSs X sts w):CSs X (st :: sts) (Zy u w):=(Zok h1 h2).imp fun D σ H zz1=>by
 obtain ⟨ι,M,env,S,E,h⟩:=zz1;refine ⟨ι,M,env,S,E,?_⟩;have h':Zfs X.K H ι D (match u env M with | .nx env' M'=>w env' M' | o=>o):=h;cases q:u env M with
 | nx env' M'=>rw [q] at h'; exact fun σ' H' ι' x S' E'=>⟨ι',M',env',S',E',h'.up x⟩
 | _=>rw [q] at h'; exact h'
theorem ZaL {c1:Expr} {x y:List Stmt} {u w:S3} (hc:CT X c1 f) (ha:CSs X x u) (hb:CSs X y w):CS X (.If c1 x y pos) (sIf f u w):=(Zuk hc ha hb).imp fun D σ H zz1=>by
 obtain ⟨ι,M,env,S,E,h⟩:=zz1;refine ⟨ι,M,env,S,E,?_⟩;unfold sIf at h;cases q:f env M with
 | ok d M1=>
  rw [q] at h;cases d with
  | bl k=>
   intro H1 ι1 x1 S1;cases k with
   | true=>rw [if_pos rfl]; exact ⟨ι1,M1,env,S1,E.mono x1,h.up x1⟩
   | false=>rw [if_neg (by decide)]; exact ⟨ι1,M1,env,S1,E.mono x1,h.up x1⟩
  | _=>exact h.elim
 | exc x M1=>rw [q] at h; exact h.elim
 | bad=>rw [q] at h; exact h.elim
theorem Zag (h:C3 X e f):CS X (.Return (some e) pos) (Zau f):=(ZrE h).imp fun D σ H zz1=>by
 obtain ⟨ι,M,env,S,E,h⟩:=zz1;refine ⟨ι,M,env,S,E,?_⟩;unfold Zau at h;cases q:f env M with
 | ok d M1=>rw [q] at h; exact h
 | exc x M1=>rw [q] at h; exact h.elim
 | bad=>rw [q] at h; exact h.elim
theorem Zcu (h:C3 X e f) (hs:Yfz e none pos.line X.env = pure false:=by rfl):CS X (.Expr e pos) (ZaJ f):=(Zqs h hs).imp fun D σ H zz1=>by
 obtain ⟨ι,M,env,S,E,h⟩:=zz1;refine ⟨ι,M,env,S,E,?_⟩;unfold ZaJ at h;cases q:f env M with
 | ok d M1=>rw [q] at h; exact fun v H1 ι1 x1 S1 r1=>h σ H1 ι1 x1 S1 (E.mono x1)
 | exc x M1=>rw [q] at h; exact h.elim
 | bad=>rw [q] at h; exact h.elim
theorem Zaw (i:Nat) {x:Str} {pos':Pos} (hN:X.N.Nodup) (he:C3 X e f) (hi:X.N[i]? = some x:=by rfl) (hx:Loc X.env.scope x:=by first | exact Or.inl rfl | exact Or.inr rfl) (hs:Yfz e (some (.Name x pos')) pos.line X.env = pure false:=by rfl)
  (hf:X.fn x = true \/ X.env.scope.names.lookup x = some .local:=by first | exact .inl rfl | exact .inr rfl):CS X (.Assign [.Name x pos'] e pos) (ZaF i f):=(ZsS hN hi hx he hs hf).imp fun D σ H zz1=>by
 obtain ⟨ι,M,env,S,E,h⟩:=zz1;refine ⟨ι,M,env,S,E,?_⟩;unfold ZaF at h;cases q:f env M with
 | ok d M1=>rw [q] at h; exact fun v H1 ι1 x1 S1 r1=>h _ H1 ι1 x1 S1 ((E.mono x1).set i r1)
 | exc x M1=>rw [q] at h; exact h.elim
 | bad=>rw [q] at h; exact h.elim
theorem ZlB {st:Stmt}:CS X st Zj6:=fun _ _ _ _ _ _ ⟨_,_,_,_,_,h⟩=>h.elim
end
noncomputable def sp3 (K:Ya) (n:Nat) (F:F3):Sp:=fun vs H Q _=>∃ ι M ds,Zap K H ι M /\ Zz K H ι ds vs /\ ds.length = n /\ Zac K H ι Q (F ds M)
section
variable {K:Ya} {H H':Hp} {ι ι':List Addr} {M M':Store}
mutual
theorem Rep.below:∀ {d:D} {v:V},Rep K H ι d v -> L3.below ι.length d = true
 | .non,_,_=>rfl
 | .bl _,_,_=>rfl
 | .int _,_,_=>rfl
 | .str _,_,_=>rfl
 | .tup ds,_,h=>by
  obtain ⟨a,vs,_,_,r⟩:=h.tup_inv;simp only [L3.below];exact Zz.belowL (ds:=ds) r
 | .scr ds,_,h=>by
  obtain ⟨a,vs,_,_,r⟩:=h.scr_inv;simp only [L3.below];exact Zz.belowL (ds:=ds) r
 | .ref n,_,h=>by
  obtain ⟨a,q,_⟩:=h.ref_inv;simp only [L3.below,decide_eq_true_eq];exact (Yb.mp q).1
theorem Zz.belowL:∀ {ds:List D} {vs:List V},Zz K H ι ds vs -> L3.belowL ι.length ds = true
 | [],_,_=>rfl
 | d :: ds,_,h=>by
  obtain ⟨v,ws,_,r,q⟩:=h.cons_inv;simp only [L3.belowL,Yu];exact ⟨Rep.below (d:=d) r,Zz.belowL (ds:=ds) q⟩
end
mutual
theorem Rep.cut {n:Nat}:∀ {d:D} {v:V},L3.below n d = true -> Rep K H ι d v -> Rep K H (ι.take n) d v
 | .non,_,_,h=>by simpa [Rep] using h
 | .bl _,_,_,h=>by simpa [Rep] using h
 | .int _,_,_,h=>by simpa [Rep] using h
 | .str _,_,_,h=>by simpa [Rep] using h
 | .tup ds,_,hb,h=>by
  obtain ⟨a,vs,rfl,s,r⟩:=h.tup_inv;exact Rep.tup s (Zz.cut (ds:=ds) (by simpa only [L3.below] using hb) r)
 | .scr ds,_,hb,h=>by
  obtain ⟨a,vs,rfl,s,r⟩:=h.scr_inv;simp only [Rep];exact ⟨a,vs,rfl,s,Zz.cut (ds:=ds) (by simpa only [L3.below] using hb) r⟩
 | .ref k,_,hb,h=>by
  obtain ⟨a,q,rfl⟩:=h.ref_inv;refine Rep.ref ?_;rw [Ycz (by simpa [L3.below] using hb)];exact q
theorem Zz.cut {n:Nat}:∀ {ds:List D} {vs:List V},L3.belowL n ds = true -> Zz K H ι ds vs -> Zz K H (ι.take n) ds vs
 | [],_,_,h=>by simpa [Zz] using h
 | d :: ds,_,hb,h=>by
  obtain ⟨v,ws,rfl,r,q⟩:=h.cons_inv;simp only [L3.belowL,Yu] at hb;exact Zz.cons (Rep.cut (d:=d) hb.1 r) (Zz.cut (ds:=ds) hb.2 q)
end
theorem Zfq.below {m:MO} {a:Addr} (h:Zfq K H ι m a):ZgJ ι.length m = true:=by
 cases m with
 | lst xs=>obtain ⟨vs,_,r⟩:=h; exact r.belowL
 | dct kvs=>obtain ⟨ws,_,_,r⟩:=h; exact r.belowL
 | fdct kvs=>obtain ⟨ws,_,_,r⟩:=h; exact r.belowL
 | ins c fs=>
  rcases h with ⟨_,_,gs,_,_,_,r⟩ | ⟨_,_,_,_,rfl⟩
  ·exact r.belowL
  ·rfl
theorem Zfq.cut {n:Nat} {m:MO} {a:Addr} (hb:ZgJ n m = true) (h:Zfq K H ι m a):Zfq K H (ι.take n) m a:=by
 cases m with
 | lst xs=>obtain ⟨vs,q,r⟩:=h; exact ⟨vs,q,r.cut hb⟩
 | dct kvs=>obtain ⟨ws,q,r1,r2⟩:=h; exact ⟨ws,q,r1,r2.cut hb⟩
 | fdct kvs=>obtain ⟨ws,q,r1,r2⟩:=h; exact ⟨ws,q,r1,r2.cut hb⟩
 | ins c fs=>
  rcases h with ⟨C,dx,gs,q,c,r1,r2⟩ | h
  ·exact .inl ⟨C,dx,gs,q,c,r1,r2.cut hb⟩
  ·exact .inr h
theorem Zap.cut {n:Nat} (S:Zap K H ι M) (h:(M.take n).all (ZgJ n) = true):Zap K H (ι.take n) (M.take n):=by
 refine ⟨by simp [S.len],S.nd.sublist (List.take_sublist _ _),fun k m a h1 h2=>?_⟩;have hk:k < n:=by
  have:=(Yb.mp h1).1;rw [Yay] at this;exact Y0 this (Yed _ _)
 have hb:ZgJ n m = true:=Y5.mp h m (Yax h1);rw [Ycz hk] at h1 h2;exact (S.obj k m a h1 h2).cut hb
theorem ZmF {Q:VK} {d:D} {v:V} (S:Zap K H ι M) (x:Ext K H ι H' ι') (S':Zap K H' ι' M') (r:Rep K H' ι' d v) (h:Zac K H ι Q (Zdh M d M')):Q v H':=by
 unfold Zdh at h;split at h
 ·rename_i c
  simp only [Yu,Yc3,decide_eq_true_eq] at c;have hall:(M'.take M.length).all (ZgJ M.length) = true:=by
   rcases c.2 with e | e
   ·rw [e,Y5]
    intro m hm;obtain ⟨n,hn⟩:=Ycc hm;obtain ⟨a,q,w⟩:=S.at hn;rw [← S.len];exact w.below
   ·exact e
  refine h v H' (ι'.take M.length) ⟨x.tup,x.scr,fun n a q=>?_,x.frz⟩ (S'.cut hall) (r.cut c.1);rw [Ycz (by rw [← S.len]; exact (Yb.mp q).1)];exact x.pre n a q
 ·exact h v H' ι' x S' r
end
theorem Zbm.start {K:Ya} {H:Hp} {ι:List Addr} {ds:List D} {vs:List V} (r:Zz K H ι ds vs) (n:Nat):Zbm K H ι (ds.map some ++ Yl n none) (vs.map some ++ Yl n none):=by
 refine ⟨by simp [r.length],fun i d h=>?_⟩;by_cases hi:i < ds.length
 ·rw [Y7 (by simpa using hi),Yp] at h
  cases q:ds[i]? with
  | none=>rw [q] at h; simp at h
  | some d'=>
   rw [q] at h;simp at h;subst h;obtain ⟨v,e,z⟩:=r.get q;refine ⟨v,?_,z⟩;rw [Y7 (by simpa [r.length] using hi),Yp,e];rfl
 ·rw [Yaq (by simpa using hi),Yc6] at h
  split at h <;> simp at h
section
variable {P:Yaf} {w:World} {K:Ya} {mg:Str -> Option Value} {base:Heap}
theorem fn3 {x qual:Str} {st:Stmt} {f:Addr} {fd:FuncData} {N ps:List Str} {k:Nat} {body:S3} (F:Fun K x qual st f fd) (S:Zaz N ps (Zn st))
  (hb:∀ (cdv:Value) (A:Yar) (outer:List Env) (s:Yg) (H:Hp) (E:XK),Zdw k (A.deeper (Yh8 qual (Zn st) s.heap.objs.size f cdv)) -> CSs (Zk3 CX0 P w K mg base N qual (Zn st) f cdv A outer s H E).nox (Zar st) body):
  Zf1 P w K mg base CX0 (k + 1) f fd ps (sp3 K ps.length (mkF ps.length N.length body)):=by
 refine F.ok S (fun vs H Q E ⟨ι,M,ds,_,r,l,_⟩=>by rw [r.length,l]) fun cdv A outer s H vs Q E hr zz1=>?_;obtain ⟨ι,M,ds,SR,r,l,h⟩:=zz1;refine ⟨_,hb cdv A outer s H E hr,ι,M,ds.map some ++ Yl (N.length - ps.length) none,SR,?_,?_⟩
 ·have e:L2.start N vs = vs.map some ++ Yl (N.length - ps.length) none:=by unfold L2.start; rw [r.length,l]
  rw [e];exact Zbm.start r _
 ·unfold mkF at h
  rw [if_pos l] at h;cases q:body (ds.map some ++ Yl (N.length - ps.length) none) M with
  | nx env' M'=>rw [q] at h; exact fun σ' H' ι' x S' E'=>ZmF SR x S' Rep.non h
  | rt d M'=>rw [q] at h; exact fun v H' ι' x S' r'=>ZmF SR x S' r' h
  | bk _ _=>rw [q] at h; exact h.elim
  | ct _ _=>rw [q] at h; exact h.elim
  | exc _ _=>rw [q] at h; exact h.elim
  | bad=>rw [q] at h; exact h.elim
def Fn3 (P:Yaf) (w:World) (K:Ya) (mg:Str -> Option Value) (base:Heap) (k:Nat) (x:Str) (ps:List Str) (F:F3):Prop:=
 (∀ ds M,ds.length ≠ ps.length -> F ds M = .bad) /\ ∃ f fd,mg x = some (.ref f) /\ Yeo K (.ref f) = true /\ Binds K fd ps [] /\ Zf1 P w K mg base CX0 k f fd ps (sp3 K ps.length F)
def Zay (K:Ya) (mg:Str -> Option Value) (x:Str) (st:Stmt) (ps:List Str):Prop:=∃ f fd,Fun K x x st f fd /\ mg x = some (.ref f) /\ Binds K fd ps []
theorem Fn3.mono {j k:Nat} {x:Str} {ps:List Str} {F:F3} (h:Fn3 P w K mg base j x ps F) (l:j <= k):Fn3 P w K mg base k x ps F:=
 let ⟨n,f,fd,a,b,c,d⟩:=h; ⟨n,f,fd,a,b,c,d.mono l⟩
theorem Fn3.of {x:Str} {st:Stmt} {N ps:List Str} {k:Nat} {body:S3} (d:Zay K mg x st ps) (S:Zaz N ps (Zn st))
  (hb:∀ (f:Addr) (cdv:Value) (A:Yar) (outer:List Env) (s:Yg) (H:Hp) (E:XK),Zdw k (A.deeper (Yh8 x (Zn st) s.heap.objs.size f cdv)) -> CSs (Zk3 CX0 P w K mg base N x (Zn st) f cdv A outer s H E).nox (Zar st) body):
  Fn3 P w K mg base (k + 1) x ps (mkF ps.length N.length body):=by
 obtain ⟨f,fd,F,m,bi⟩:=d;exact ⟨fun ds M h=>if_neg h,f,fd,m,F.kp,bi,fn3 F S (hb f)⟩
end
section
variable {X:Cx} {e:Expr} {es:List Expr} {pos p:Pos} {gl:EL3} {x:Str} {k:Nat} {ps:List Str} {F:F3}
theorem Zal (G:Fn3 X.prog X.w X.K X.mg X.base k x ps F) (hr:Zdw k X.A) (ha:CA X (e :: es) gl) (hg:Gl X x:=by rfl) (hdb:(x == ("__debug__":Str)) = false:=by decide)
  (he:Yx (e :: es) X.env = (false,eval e X.env) :: Yx es X.env:=by rfl) (hpl:(Ycl pos (Yx es X.env)).any (·.1) = false:=by rfl):C3 X (.Call (.Name x p) (e :: es) [] pos) (Zt F gl):=by
 obtain ⟨hn,f,fd,m,kp,bi,ok⟩:=G;refine (ZqD ok hr hg m kp bi .nil Zuq ha hdb he hpl).imp fun σ H Q zz1=>?_;obtain ⟨ι,M,env,S,E,h⟩:=zz1;obtain ⟨ds,M1,e1,h⟩:=Zac.bind h;refine ⟨ι,M,env,S,E,?_⟩;rw [e1];intro vs H1 ι1 x1 S1 r1;have hl:ds.length = ps.length:=by
  refine Decidable.byContradiction fun q=>?_;rw [hn ds M1 q] at h;exact h.elim
 exact ⟨ι1,M1,ds,S1,by rw [Yaj]; exact r1,hl,h.up x1⟩
end
def tGf (K:Ya) (g:G3):TG:=fun v σ H Q=>∃ ι M env d env',Zap K H ι M /\ Zbm K H ι env σ /\ Rep K H ι d v /\ g d env = some env' /\ ∀ σ',Zbm K H ι env' σ' -> Q σ' H
def tGs (K:Ya) (is:List Nat):TGs:=fun vs σ H Q=>∃ ι M env ds env',Zap K H ι M /\ Zbm K H ι env σ /\ Zz K H ι ds vs /\ bindAll is ds env = some env' /\ ∀ σ',Zbm K H ι env' σ' -> Q σ' H
def CG (X:Cx) (tg:Expr) (g:G3):Prop:=PG X tg (tGf X.K g)
def CGs (X:Cx) (tg:List Expr) (is:List Nat):Prop:=PGs X tg (tGs X.K is)
theorem PG.imp {X:Cx} {e:Expr} {t t':TG} (h:PG X e t) (i:∀ v σ H Q,t' v σ H Q -> t v σ H Q):PG X e t':=fun pins s σ H v u Q I r q=>h pins s σ H v u Q I r (i v σ H Q q)
theorem PGs.imp {X:Cx} {e:List Expr} {t t':TGs} (h:PGs X e t) (i:∀ v σ H Q,t' v σ H Q -> t v σ H Q):PGs X e t':=fun pins s σ H v u Q I r q=>h pins s σ H v u Q I r (i v σ H Q q)
section
variable {X:Cx} {e:Expr} {es:List Expr} {pos:Pos}
theorem ZbI (i:Nat) {x:Str} (hN:X.N.Nodup) (hi:X.N[i]? = some x:=by rfl) (hx:Loc X.env.scope x:=by first | exact Or.inl rfl | exact Or.inr rfl)
  (hf:X.fn x = true \/ X.env.scope.names.lookup x = some .local:=by first | exact .inl rfl | exact .inr rfl):CG X (.Name x pos) (ZbB i):=PG.imp (ZmO hN hi hx hf) fun v σ H Q zz1=>by
 obtain ⟨ι,M,env,d,env',S,E,r,q,h⟩:=zz1;cases q;exact h _ (E.set i r)
theorem Zho:CGs X [] []:=PGs.imp Zqd fun v σ H Q zz1=>by
 obtain ⟨ι,M,env,ds,env',S,E,r,q,h⟩:=zz1;cases ds with
 | nil=>cases q; exact ⟨r.nil_inv,h σ E⟩
 | cons d ds=>cases q
theorem Zdp (i:Nat) {is:List Nat} {x:Str} (hN:X.N.Nodup) (ht:CGs X es is) (hi:X.N[i]? = some x:=by rfl) (hx:Loc X.env.scope x:=by first | exact Or.inl rfl | exact Or.inr rfl)
  (hf:X.fn x = true \/ X.env.scope.names.lookup x = some .local:=by first | exact .inl rfl | exact .inr rfl) (hs:(Ybf (.Name x pos :: es) X.env).map (·.2) = Yfi (.Name x pos) X.env :: (Ybf es X.env).map (·.2):=by rfl):
  CGs X (.Name x pos :: es) (i :: is):=PGs.imp (Zn3 (ZmO hN hi hx hf) ht hs) fun v σ H Q zz1=>by
 obtain ⟨ι,M,env,ds,env',S,E,r,q,h⟩:=zz1;cases ds with
 | nil=>cases q
 | cons d ds=>
  obtain ⟨v,ws,rfl,r1,r2⟩:=r.cons_inv;exact ⟨v,ws,rfl,ι,M,env.set i (some d),ds,env',S,E.set i r1,r2,q,h⟩
theorem ZlA {is:List Nat} {k:Nat} (hc:X.calm = true) (h:CGs X es is) (hl:es.length = is.length:=by rfl) (hn:(Ybf es X.env).length = is.length:=by rfl) (hst:(Ybf es X.env).findIdx? (·.1) = none:=by rfl):CG X (.Tuple es k pos) (Zgx is):=
 PG.imp (Zr9 (n:=is.length) hc h hn hst) fun v σ H Q zz1=>by
  obtain ⟨ι,M,env,d,env',S,E,r,q,h⟩:=zz1;cases d with
  | tup ds=>
   obtain ⟨a,vs,rfl,s,r⟩:=r.tup_inv;have hlen:∀ (is:List Nat) (ds:List D) (env env':Zaq),bindAll is ds env = some env' -> ds.length = is.length:=by
    intro is
    induction is with
    | nil=>intro ds env env' h; cases ds with | nil=>rfl | cons d ds=>cases h
    | cons i is ih=>intro ds env env' h; cases ds with | nil=>cases h | cons d ds=>simp [ih ds _ _ h]
   exact ⟨a,vs,rfl,s,by rw [r.length]; exact hlen _ _ _ _ q,ι,M,env,ds,env',S,E,r,q,h⟩
  | _=>cases q
end
def ZhK (K:Ya) (H:Hp) (ι:List Addr) (it:It3) (J:It):Prop:=∀ (i:Nat) H2 ι2 M2,Ext K H ι H2 ι2 -> Zap K H2 ι2 M2 -> locked it M2 = true ->
 (∀ d,it.items[i]? = some d -> J.go i H2 /\ ∀ x H3,J.yld i H2 x H3 -> H3 = H2 /\ Rep K H2 ι2 d x) /\ (i = it.items.length -> J.stop i H2)
def Zly (K:Ya) (H:Hp) (ι:List Addr) (R:It -> Hp -> Prop) (r:R3 It3):Prop:=match r with
 | .ok it M'=>∀ J H' ι',Ext K H ι H' ι' -> Zap K H' ι' M' -> ZhK K H' ι' it J -> R J H'
 | _=>False
def tIf (K:Ya) (g:I3):TI:=fun σ H R=>∃ ι M env,Zap K H ι M /\ Zbm K H ι env σ /\ Zly K H ι R (g env M)
def CI (X:Cx) (tg e:Expr) (g:I3):Prop:=PI X tg e (tIf X.K g)
theorem PI.imp {X:Cx} {tg e:Expr} {t t':TI} (h:PI X tg e t) (i:∀ σ H Q,t' σ H Q -> t σ H Q):PI X tg e t':=fun pins s σ H Q I q=>h pins s σ H Q I (i σ H Q q)
theorem PI.or {X:Cx} {tg e:Expr} {t t':TI} (h:PI X tg e t) (h':PI X tg e t'):PI X tg e (fun σ H R=>t σ H R \/ t' σ H R):=fun pins s σ H Q I q=>q.elim (h pins s σ H Q I) (h' pins s σ H Q I)
theorem Zly.bind {K:Ya} {H:Hp} {ι:List Addr} {α:Type} {Q:It -> Hp -> Prop} {r:R3 α} {k:α -> Store -> R3 It3} (h:Zly K H ι Q (r.bind k)):∃ a M,r = .ok a M /\ Zly K H ι Q (k a M):=by
 cases r with
 | ok a M=>exact ⟨a,M,rfl,h⟩
 | exc x M=>exact h.elim
 | bad=>exact h.elim
section
variable {K:Ya} {H:Hp} {ι:List Addr}
end
section
variable {X:Cx} {tg e a b:Expr} {pos p:Pos} {f g:E3}
theorem Zss (h:C3 X e f) (hs:PI X tg e (fun σ H R=>tOf X.K f σ H fun x H1=>∃ z:Str,x = .str z /\ z.length <= SZ /\ ∀ J,(∀ ι,ZhK X.K H1 ι ⟨z.cps.toList.map fun c=>.str [c],none⟩ J) -> R J H1)):CI X tg e (Zdl f):=
 PI.imp (PI.or (Zs3 h) (PI.or (Zqb h) hs)) fun σ H R zz1=>by
  obtain ⟨ι,M,env,S,E,h⟩:=zz1;obtain ⟨d,M1,e1,h⟩:=Zly.bind h;cases d with
  | tup ds=>
   refine .inl ⟨ι,M,env,S,E,?_⟩;rw [e1];intro v H1 ι1 x1 S1 r1;obtain ⟨a,vs,rfl,s,r⟩:=r1.tup_inv;refine ⟨a,rfl,⟨vs,s⟩,h _ H1 ι1 x1 S1 ?_⟩;intro i H2 ι2 M2 x S2 _;refine ⟨fun d hd=>?_,fun hl=>⟨vs,x.tup _ _ s,by rw [r.length,hl]; exact Yi _⟩⟩;obtain ⟨v,hv,rv⟩:=r.get hd;refine ⟨⟨vs,v,x.tup _ _ s,hv⟩,fun y H3 hy=>⟨hy.1,?_⟩⟩;have e:=hy.2 vs (x.tup _ _ s);rw [hv] at e;cases e;exact rv.mono x
  | scr ds=>
   refine .inr (.inl ⟨ι,M,env,S,E,?_⟩);rw [e1];intro v H1 ι1 x1 S1 r1;obtain ⟨a,vs,rfl,s,r⟩:=r1.scr_inv;refine ⟨a,rfl,⟨vs,s.sq⟩,h _ H1 ι1 x1 S1 ?_⟩;intro i H2 ι2 M2 x S2 _;refine ⟨fun d hd=>?_,fun hl=>⟨vs,(x.scr _ _ s).sq,by rw [r.length,hl]; exact Yi _⟩⟩;obtain ⟨v,hv,rv⟩:=r.get hd;refine ⟨⟨vs,v,(x.scr _ _ s).sq,hv⟩,fun y H3 hy=>⟨hy.1,?_⟩⟩;have e:=hy.2 vs (x.scr _ _ s).sq;rw [hv] at e;cases e;exact rv.mono x
  | ref n=>
   refine .inr (.inl ⟨ι,M,env,S,E,?_⟩);rw [e1];intro v H1 ι1 x1 S1 r1;cases hm:M1[n]? with
   | none=>simp only [hm] at h; exact h.elim
   | some o=>
    cases o with
    | dct kvs=>simp only [hm] at h; exact h.elim
    | fdct kvs=>simp only [hm] at h; exact h.elim
    | ins _ _=>simp only [hm] at h; exact h.elim
    | lst ds=>
     simp only [hm] at h;obtain ⟨a,ha,rfl⟩:=r1.ref_inv;obtain ⟨vs,q,r⟩:=S1.obj n _ a hm ha;refine ⟨a,rfl,⟨vs,SqL.of q⟩,h _ H1 ι1 x1 S1 ?_⟩;intro i H2 ι2 M2 x S2 lk;have lk':M2[n]? = some (.lst ds):=of_decide_eq_true lk;obtain ⟨vs2,q2,r2⟩:=S2.obj n _ a lk' (x.pre _ _ ha);refine ⟨fun d hd=>?_,fun hl=>⟨vs2,SqL.of q2,by rw [r2.length,hl]; exact Yi _⟩⟩;obtain ⟨v,hv,rv⟩:=r2.get hd;refine ⟨⟨vs2,v,SqL.of q2,hv⟩,fun y H3 hy=>⟨hy.1,?_⟩⟩;have e:=hy.2 vs2 (SqL.of q2);rw [hv] at e;cases e;exact rv
  | str z=>
   refine .inr (.inr ⟨ι,M,env,S,E,?_⟩);rw [e1];intro v H1 ι1 x1 S1 r1;have hv:=r1.str_inv;subst hv;by_cases hz:z.length <= SZ
   ·simp only [if_pos hz] at h
    refine ⟨_,rfl,by simpa [Ybu] using hz,fun J hJ=>h J H1 ι1 x1 S1 ?_⟩;simpa using hJ ι1
   ·simp only [if_neg hz] at h; exact h.elim
  | non=>exact h.elim
  | bl b=>exact h.elim
  | int i=>exact h.elim
theorem Zpy {K:Ya} {H:Hp} {ι:List Addr} (lo:Int) (n:Nat):ZhK K H ι ⟨Zd2 lo n,none⟩ (Itr lo n):=by
 intro i H2 ι2 M2 x S _;refine ⟨fun d hd=>?_,fun hl=>?_⟩
 ·unfold Zd2 at hd
  rw [Yp] at hd;cases q:(Yaa n)[i]? with
  | none=>rw [q] at hd; cases hd
  | some k=>
   rw [q] at hd;obtain ⟨hi,e⟩:=Yb.mp q;rw [List.getElem_range] at e;subst e;have hd':D.int (lo + (i:Int)) = d:=by simpa using hd
   subst hd';exact ⟨(by show i < n; simpa using hi),fun y H3 hy=>⟨hy.1,by rw [hy.2]; exact Rep.int⟩⟩
 ·show n <= i
  rw [hl];simp [Zd2]
theorem Zer (hm:X.mg "range" = none) (h:C3 X a f) (hg:Gl X "range":=by rfl) (hs:Yx [a] X.env = [(false,eval a X.env)]:=by rfl) (hs':Yx (a :: []) X.env = (false,eval a X.env) :: Yx [] X.env:=by rfl):CI X tg (.Call (.Name "range" p) [a] [] pos) (Zbq f):=
 PI.imp (ZmT hg hm (Zc h Zi hs') hs) fun σ H R zz1=>by
  obtain ⟨ι,M,env,S,E,h⟩:=zz1;obtain ⟨d,M1,e1,h⟩:=Zly.bind h;refine ⟨ι,M,env,S,E,?_⟩;have e2:Za f Zg env M = .ok [d] M1:=by unfold Za; rw [e1]; rfl
  rw [e2];intro vs H1 ι1 x1 S1 r1;obtain ⟨v,ws,rfl,r,q⟩:=r1.cons_inv;have:=q.nil_inv;subst this;cases d with
  | int j=>
   have hv:=r.int_inv;subst hv;by_cases hj:j <= 1000000 /\ -1000000 <= j
   ·simp only [if_pos hj] at h
    exact ⟨j,rfl,by omega,by omega,h _ H1 ι1 x1 S1 (Zpy 0 j.toNat)⟩
   ·simp only [if_neg hj] at h; exact h.elim
  | _=>exact h.elim
theorem ZgD {iter:Expr} {body:List Stmt} {i:I3} {g:G3} {u:S3} (hxe:X.xe = fun _ _=>False) (hc:X.calm = true) (hi:CI X tg iter i) (hg:CG X tg g) (hb:CSs X body u) (hs:∀ x,Ycx iter X.env x = pure x:=by intro _; rfl):
  CS X (.For tg iter body [] pos) (ZfR i g u):=(Zof (by rw [hxe]; exact Yhi) hc hi hg hb hs).imp fun D σ H zz1=>by
 obtain ⟨ι,M,env,S,E,h⟩:=zz1;unfold ZfR at h;cases q:i env M with
 | exc x M1=>rw [q] at h; exact h.elim
 | bad=>rw [q] at h; exact h.elim
 | ok it M1=>
  rw [q] at h;refine ⟨ι,M,env,S,E,?_⟩;rw [q];intro J H1 ι1 x1 S1 ok;refine ⟨fun i m σ2 H2=>m = it.items.length - i /\ i <= it.items.length /\ ∃ ι2 M2 env2,Ext X.K H1 ι1 H2 ι2 /\ Zap X.K H2 ι2 M2 /\ Zbm X.K H2 ι2 env2 σ2 /\ Zfs X.K H2 ι2 D (ZeT it g u (it.items.drop i) env2 M2),
   ⟨_,rfl,Yag _,ι1,M1,env,Ext.refl,S1,E.mono x1,Zfs.up x1 h⟩,?_⟩
  rintro i m σ2 H2 ⟨rfl,hi,ι2,M2,env2,x2,S2,E2,h2⟩;by_cases hlt:i < it.items.length
  ·have hd:it.items[i]? = some it.items[i]:=by simp [hlt]
   rw [Yb2 hlt] at h2;unfold ZeT at h2;by_cases lk:locked it M2 = true
   ·rw [if_pos lk] at h2
    obtain ⟨go,yl⟩:=(ok i H2 ι2 M2 x2 S2 lk).1 _ hd;cases eg:g it.items[i] env2 with
    | none=>rw [eg] at h2; exact h2.elim
    | some env3=>
     rw [eg] at h2;refine .inr ⟨go,fun σ' H'=>∃ ι3 M3 env4,Ext X.K H2 ι2 H' ι3 /\ Zap X.K H' ι3 M3 /\ Zbm X.K H' ι3 env4 σ' /\ Zfs X.K H' ι3 D (ZeT it g u (it.items.drop (i + 1)) env4 M3),
      fun σ' H' ⟨ι3,M3,env4,x3,S3,E3,h3⟩=>⟨it.items.length - (i + 1),lD 2 0x30113c2012a1c0c21 T1 (Yd (lB 1 6991908881 T1 hlt)) (sbA _ _),rfl,hlt,ι3,M3,env4,x2.trans x3,S3,E3,h3⟩,fun x H' hy=>?_⟩
     obtain ⟨rfl,rx⟩:=yl x H' hy;refine ⟨ι2,M2,env2,_,env3,S2,E2,rx,eg,fun σ' E'=>⟨ι2,M2,env3,S2,E',?_⟩⟩;cases qu:u env3 M2 with
     | nx e' M'=>simp only [qu] at h2; exact fun σ' H' ι' x' S' E'=>⟨ι',M',e',x',S',E',h2.up x'⟩
     | ct e' M'=>simp only [qu] at h2; exact fun σ' H' ι' x' S' E'=>⟨ι',M',e',x',S',E',h2.up x'⟩
     | bk e' M'=>simp only [qu] at h2; exact h2
     | rt d M'=>simp only [qu] at h2; exact h2
     | exc x' M'=>simp only [qu] at h2; exact h2.elim
     | bad=>simp only [qu] at h2; exact h2.elim
   ·rw [if_neg lk] at h2; exact h2.elim
  ·have e0:i = it.items.length:=Yh hi (Y8 hlt)
   subst e0;rw [Ygu] at h2;unfold ZeT at h2;by_cases lk:locked it M2 = true
   ·rw [if_pos lk] at h2
    exact .inl ⟨(ok _ H2 ι2 M2 x2 S2 lk).2 rfl,h2 σ2 H2 ι2 Ext.refl S2 E2⟩
   ·rw [if_neg lk] at h2; exact h2.elim
theorem ZkC {c1:Expr} {body:List Stmt} {u:S3} (hxe:X.xe = fun _ _=>False) (hc:CT X c1 f) (hb:CSs X body u):CS X (.While c1 body [] pos) (Zjr f u):=(Zpe (by rw [hxe]; exact Yhi) hc hb).imp fun D σ H zz1=>by
 obtain ⟨ι,M,env,S,E,h⟩:=zz1;refine ⟨fun m σ2 H2=>∃ ι2 M2 env2,Zap X.K H2 ι2 M2 /\ Zbm X.K H2 ι2 env2 σ2 /\ Zfs X.K H2 ι2 D (Zde f u m env2 M2),⟨1000000,ι,M,env,S,E,h⟩,?_⟩;rintro m σ2 H2 ⟨ι2,M2,env2,S2,E2,h2⟩;cases m with
 | zero=>exact h2.elim
 | succ m=>
  refine ⟨ι2,M2,env2,S2,E2,?_⟩;unfold Zde at h2;cases q:f env2 M2 with
  | exc x M1=>rw [q] at h2; exact h2.elim
  | bad=>rw [q] at h2; exact h2.elim
  | ok d M1=>
   rw [q] at h2;cases d with
   | bl k=>
    cases k with
    | false=>
     intro H3 ι3 x3 S3;rw [if_neg (by decide)];exact h2 σ2 H3 ι3 x3 S3 (E2.mono x3)
    | true=>
     intro H3 ι3 x3 S3;rw [if_pos rfl];refine ⟨fun σ' H'=>∃ ι4 M4 env4,Zap X.K H' ι4 M4 /\ Zbm X.K H' ι4 env4 σ' /\ Zfs X.K H' ι4 D (Zde f u m env4 M4),fun σ' H' q=>⟨m,Nat.lt_succ_self _,q⟩,ι3,M1,env2,S3,E2.mono x3,?_⟩;have h3:=Zfs.up x3 h2;cases qu:u env2 M1 with
     | nx e' M'=>simp only [qu] at h3; exact fun σ' H' ι' x' S' E'=>⟨ι',M',e',S',E',h3.up x'⟩
     | ct e' M'=>simp only [qu] at h3; exact fun σ' H' ι' x' S' E'=>⟨ι',M',e',S',E',h3.up x'⟩
     | bk e' M'=>simp only [qu] at h3; exact h3
     | rt d M'=>simp only [qu] at h3; exact h3
     | exc x' M'=>simp only [qu] at h3; exact h3.elim
     | bad=>simp only [qu] at h3; exact h3.elim
   | _=>exact h2.elim
end
theorem Rep.non_iff {K:Ya} {H:Hp} {ι:List Addr} {d:D} {v:V} (r:Rep K H ι d v):decide (v = V.non) = decide (d = D.non):=by
 cases d with
 | non=>rw [r.non_inv]; rfl
 | bl b=>rw [r.bl_inv]; simp
 | int i=>rw [r.int_inv]; simp
 | str x=>rw [r.str_inv]; simp
 | tup ds=>obtain ⟨a,vs,rfl,_⟩:=r.tup_inv; simp
 | scr ds=>obtain ⟨a,vs,rfl,_⟩:=r.scr_inv; simp
 | ref n=>obtain ⟨a,_,rfl⟩:=r.ref_inv; simp
theorem ZfX {x y:List Nat}:decide (V.str ⟨x.toArray⟩ = V.str ⟨y.toArray⟩) = (x == y):=by
 by_cases h:x = y
 ·subst h; simp
 ·rw [decide_eq_false (fun e=>h (by injection e with e1; injection e1 with e2; simpa using congrArg Yer e2))]
  exact (beq_eq_false_iff_ne.mpr h).symm
section
variable {X:Cx}
theorem Zog:OpR X (Yb8 .Add) (fun x y H Q=>∃ a b ys,x = .ref a /\ y = .ref b /\ SqT X.K H a [] /\ SqT X.K H b ys /\ Q (.ref b) H):=by
 intro pins s σ H x y v u Q I rx ry h;obtain ⟨a,b,ys,rfl,rfl,ha,hb,q⟩:=h;cases rx;cases ry;obtain ⟨its,r1,p1,_⟩:=I.tuple ha;obtain ⟨its2,r2,p2,_⟩:=I.tuple hb;cases r1;obtain ⟨⟨cls,dd,data,sl⟩,ho,hc,n,hd⟩:=id p1;obtain ⟨⟨cls2,dd2,data2,sl2⟩,ho2,hc2,n2,hd2⟩:=id p2;simp only at hc hd hc2 hd2;subst hc hd hc2 hd2;exact Yja ⟨_,ho,rfl⟩ ⟨_,ho2,rfl⟩ Ygr Yiy Yeg Yec (Yd4 _ _)
   (tuple_addW0 a b _ its2.toArray n n2 dd dd2 sl sl2 (by simp)) ⟨ho,ho2,⟨.ref b,H,I,rfl,q⟩⟩
theorem ZqL (x y:List Nat):(⟨x.toArray⟩:Str) ++ ⟨y.toArray⟩ = ⟨(x ++ y).toArray⟩:=by
 show Str.append _ _ = _;unfold Str.append;simp
theorem Zbx:OpR X (Yb8 .Add) (r2 X.K Zao):=OpR.imp (OpR.or Ztc (OpR.or ZlG (OpR.or Zsy (OpR.or ZqF Zog)))) fun x y H Q zz1=>by
 obtain ⟨ι,M,a,b,S,ra,rb,h⟩:=zz1;cases a with
 | int i=>cases b with
  | int j=>exact .inl ⟨i,j,ra.int_inv,rb.int_inv,Zac.ok h S Rep.int⟩
  | _=>exact h.elim
 | str x=>cases b with
  | str y=>
   simp only [Zao] at h;split at h
   ·rename_i hz
    refine .inr (.inl ⟨_,_,ra.str_inv,rb.str_inv,?_,?_⟩)
    ·have:=Zbw
     simp only [Ybu,Ye];exact Yj hz this
    ·rw [ZqL]; exact Zac.ok h S Rep.str
   ·exact h.elim
  | _=>exact h.elim
 | tup x=>cases b with
  | tup y=>
   simp only [Zao] at h;split at h
   ·rename_i hz
    obtain ⟨p,vs,rfl,s,r⟩:=ra.tup_inv;obtain ⟨q,ws,rfl,s',r'⟩:=rb.tup_inv;by_cases hv:vs = []
    ·subst hv
     have hx:x = []:=by have:=r.length; simpa using this.symm
     subst hx;exact .inr (.inr (.inr (.inr ⟨p,q,ws,rfl,rfl,s,s',Zac.ok h S (Rep.tup s' r')⟩)))
    ·refine .inr (.inr (.inr (.inl ⟨p,q,vs,ws,rfl,rfl,s,s',hv,?_,fun hw=>?_,fun hw p' hp=>?_⟩)))
     ·have:=Zbw
      rw [r.length,r'.length];exact Yj hz this
     ·subst hw
      have hy:y = []:=by have:=r'.length; simpa using this.symm
      subst hy;rw [Yaj] at h;exact Zac.ok h S (Rep.tup s r)
     ·obtain ⟨x2,S2,r2⟩:=S.tupl hp (r.append r')
      exact h _ _ _ x2 S2 r2
   ·exact h.elim
  | _=>exact h.elim
 | ref n=>cases b with
  | ref m=>
   simp only [Zao] at h;cases hn:M[n]? with
   | none=>simp only [hn] at h; exact h.elim
   | some o=>
    cases o with
    | dct _=>simp only [hn] at h; exact h.elim
    | fdct _=>simp only [hn] at h; exact h.elim
    | ins _ _=>simp only [hn] at h; exact h.elim
    | lst x=>
     cases hm:M[m]? with
     | none=>simp only [hn,hm] at h; exact h.elim
     | some o=>
      cases o with
      | dct _=>simp only [hn,hm] at h; exact h.elim
      | fdct _=>simp only [hn,hm] at h; exact h.elim
      | ins _ _=>simp only [hn,hm] at h; exact h.elim
      | lst y=>
       simp only [hn,hm] at h;split at h
       ·rename_i hz
        obtain ⟨p,hp,rfl⟩:=ra.ref_inv;obtain ⟨q,hq,rfl⟩:=rb.ref_inv;obtain ⟨vs,e1,r1⟩:=S.obj n _ p hn hp;obtain ⟨ws,e2,r2⟩:=S.obj m _ q hm hq;refine .inr (.inr (.inl ⟨p,q,vs,ws,rfl,rfl,e1,e2,?_,fun p' hp'=>?_⟩))
        ·have:=Zbw
         rw [r1.length,r2.length];exact Yj hz this
        ·obtain ⟨x2,S2,r3⟩:=S.lst hp' (r1.append r2)
         exact h _ _ _ x2 S2 r3
       ·exact h.elim
  | _=>exact h.elim
 | _=>cases b <;> exact h.elim
theorem Zh7:OpR X (Yb8 .Sub) (r2 X.K Zdo):=OpR.imp ZrK fun x y H Q zz1=>by
 obtain ⟨ι,M,a,b,S,ra,rb,h⟩:=zz1;cases a <;> cases b <;> first | exact h.elim | exact ⟨_,_,ra.int_inv,rb.int_inv,Zac.ok h S Rep.int⟩
theorem Zb1:OpR X (Yb8 .Mod) (r2 X.K ZaB):=OpR.imp ZrS fun x y H Q zz1=>by
 obtain ⟨ι,M,a,b,S,ra,rb,h⟩:=zz1;cases a with
 | int i=>cases b with
  | int j=>
   simp only [ZaB] at h;split at h
   ·rename_i hj
    exact ⟨i,j,ra.int_inv,rb.int_inv,hj,Zac.ok h S Rep.int⟩
   ·exact h.elim
  | _=>exact h.elim
 | _=>cases b <;> exact h.elim
theorem ZdY:OpR X (Yb8 .FloorDiv) (r2 X.K Za7):=OpR.imp ZpR fun x y H Q zz1=>by
 obtain ⟨ι,M,a,b,S,ra,rb,h⟩:=zz1;cases a with
 | int i=>cases b with
  | int j=>
   simp only [Za7] at h;split at h
   ·rename_i hj
    exact ⟨i,j,ra.int_inv,rb.int_inv,hj,Zac.ok h S Rep.int⟩
   ·exact h.elim
  | _=>exact h.elim
 | _=>cases b <;> exact h.elim
theorem ZqV:OpR X (Yb8 .Pow) (r2 X.K ZiH):=OpR.imp Zs9 fun x y H Q zz1=>by
 obtain ⟨ι,M,a,b,S,ra,rb,h⟩:=zz1;cases a with
 | int i=>cases b with
  | int j=>
   simp only [ZiH] at h;split at h
   ·rename_i hj
    exact ⟨i,j,ra.int_inv,rb.int_inv,⟨hj.1,iN [] [_] 1 0xf42405b083e83b081 T1 hj.2.1,by have:=hj.2.2; omega⟩,Zac.ok h S Rep.int⟩
   ·exact h.elim
  | _=>exact h.elim
 | _=>cases b <;> exact h.elim
theorem ZeW:UnR X (unaryOp .USub) (r1 X.K ZbE):=UnR.imp ZsJ fun x H Q zz1=>by
 obtain ⟨ι,M,a,S,ra,h⟩:=zz1;cases a with
 | int i=>exact ⟨i,ra.int_inv,Zac.ok h S Rep.int⟩
 | _=>exact h.elim
theorem Zqg:OpR X (Ya5 .Lt) (r2 X.K Zis):=OpR.imp Zuu fun x y H Q zz1=>by
 obtain ⟨ι,M,a,b,S,ra,rb,h⟩:=zz1;cases a <;> cases b <;> first | exact h.elim | exact ⟨_,_,ra.int_inv,rb.int_inv,Zac.ok h S Rep.bl⟩
theorem ZsQ:OpR X (Ya5 .LtE) (r2 X.K ZgW):=OpR.imp Zt3 fun x y H Q zz1=>by
 obtain ⟨ι,M,a,b,S,ra,rb,h⟩:=zz1;cases a <;> cases b <;> first | exact h.elim | exact ⟨_,_,ra.int_inv,rb.int_inv,Zac.ok h S Rep.bl⟩
theorem Znh:OpR X (Ya5 .Gt) (r2 X.K ZgT):=OpR.imp ZtE fun x y H Q zz1=>by
 obtain ⟨ι,M,a,b,S,ra,rb,h⟩:=zz1;cases a <;> cases b <;> first | exact h.elim | exact ⟨_,_,ra.int_inv,rb.int_inv,Zac.ok h S Rep.bl⟩
theorem Zu9:OpR X (Ya5 .GtE) (r2 X.K ZqI):=OpR.imp Zus fun x y H Q zz1=>by
 obtain ⟨ι,M,a,b,S,ra,rb,h⟩:=zz1;cases a <;> cases b <;> first | exact h.elim | exact ⟨_,_,ra.int_inv,rb.int_inv,Zac.ok h S Rep.bl⟩
theorem ZrW:OpR X (Ya5 .Is) (r2 X.K ZjI):=OpR.imp Zr3 fun x y H Q zz1=>by
 obtain ⟨ι,M,a,b,S,ra,rb,h⟩:=zz1;cases b with
 | non=>exact ⟨rb.non_inv,by rw [ra.non_iff]; exact Zac.ok h S Rep.bl⟩
 | _=>exact h.elim
end
theorem units_in1 (A:Yar):A.in1.units = A.units + 1:=rfl
section
variable {X:Cx} {pins:List (Addr × Obj)} {σ:St} {H:Hp} {s:Yg} {ι:List Addr}
theorem ZcR {e:Nat -> Bool}:∀ {x y:List D},x.length = y.length -> (∀ (j:Nat) a b,x[j]? = some a -> y[j]? = some b -> e j = deq a b) -> (Yaa x.length).all e = Zc4 x y:=by
 intro x
 induction x generalizing e with
 | nil=>intro y h _; cases y with | nil=>rfl | cons _ _=>simp at h
 | cons a x ih=>
  intro y h he;cases y with
  | nil=>simp at h
  | cons b y=>
   rw [Yai,Yg1,Ybc,List.all_map,he 0 a b rfl rfl];rw [Zc4];congr 1;exact ih (e:=e ∘ Nat.succ) (by simpa using h) fun j a' b' h1 h2=>he (j + 1) a' b' (by simpa using h1) (by simpa using h2)
theorem Zeq:∀ {x y:List D},Zc4 x y = true -> x.length = y.length
 | [],[],_=>rfl
 | [],_ :: _,h=>by simp [Zc4] at h
 | _ :: _,[],h=>by simp [Zc4] at h
 | a :: x,b :: y,h=>by
  simp only [Zc4,Yu] at h;simp [Zeq h.2]
theorem Rep.fun1 (I:Inv X pins σ H s):∀ (n:Nat) (a b:D) (v:V),ZaM n a = true -> ZaM n b = true -> Rep X.K H ι a v -> Rep X.K H ι b v -> deq a b = true:=by
 intro n
 induction n with
 | zero=>
  intro a b v ha hb r q;cases a with
  | non=>have:=r.non_inv; subst this; cases b <;> simp_all [ZaM,Rep,deq]
  | bl x=>have:=r.bl_inv; subst this; cases b <;> simp_all [ZaM,Rep,deq]
  | int x=>have:=r.int_inv; subst this; cases b <;> simp_all [ZaM,Rep,deq]
  | str x=>have:=r.str_inv; subst this; cases b <;> simp_all [ZaM,Rep,deq]
  | _=>simp [ZaM] at ha
 | succ n ih=>
  intro a b v ha hb r q;cases a with
  | non=>have:=r.non_inv; subst this; cases b <;> simp_all [ZaM,Rep,deq]
  | bl x=>have:=r.bl_inv; subst this; cases b <;> simp_all [ZaM,Rep,deq]
  | int x=>have:=r.int_inv; subst this; cases b <;> simp_all [ZaM,Rep,deq]
  | str x=>have:=r.str_inv; subst this; cases b <;> simp_all [ZaM,Rep,deq]
  | tup ds=>
   obtain ⟨p,vs,rfl,s1,r1⟩:=r.tup_inv;cases b with
   | tup es=>
    obtain ⟨p',ws,e,s2,r2⟩:=q.tup_inv;cases e;have e:=I.tuple_inj s1 s2;subst e;rw [deq];have h1:ds.all (ZaM n) = true:=ha;have h2:es.all (ZaM n) = true:=hb;have key:∀ (ds es:List D) (vs:List V),ds.all (ZaM n) = true -> es.all (ZaM n) = true -> Zz X.K H ι ds vs -> Zz X.K H ι es vs -> Zc4 ds es = true:=by
     intro ds
     induction ds with
     | nil=>intro es vs _ _ r1 r2; have:=r1.nil_inv; subst this; cases es with | nil=>rfl | cons _ _=>obtain ⟨_,_,e,_⟩:=r2.cons_inv; cases e
     | cons d ds ih2=>
      intro es vs h1 h2 r1 r2;obtain ⟨v,ws,rfl,q1,q2⟩:=r1.cons_inv;cases es with
      | nil=>have:=r2.nil_inv; cases this
      | cons e es=>
       obtain ⟨v',ws',z,q3,q4⟩:=r2.cons_inv;cases z;rw [Ybc,Yu] at h1 h2;rw [Zc4,ih d e v h1.1 h2.1 q1 q3,ih2 es ws h1.2 h2.2 q2 q4];rfl
    exact key ds es vs h1 h2 r1 r2
   | non=>have:=q.non_inv; cases this
   | bl _=>have:=q.bl_inv; cases this
   | int _=>have:=q.int_inv; cases this
   | str _=>have:=q.str_inv; cases this
   | _=>simp [ZaM] at hb
  | _=>simp [ZaM] at ha
theorem Zel (A:Yar) (a b:D) (x y:V) (u v:Value) (ha:Za9 a = true) (hb:Za9 b = true) (ra:Rep X.K H ι a x) (rb:Rep X.K H ι b y) (ru:RelV x u) (rv:RelV y v):Yi2 A s u v (deq a b):=by
 cases a with
 | non=>have:=ra.non_inv; subst this; cases ru; cases b with
  | non=>have:=rb.non_inv; subst this; cases rv; exact Yhe _
  | bl k=>have:=rb.bl_inv; subst this; cases rv; exact Yhw _
  | int k=>have:=rb.int_inv; subst this; obtain ⟨t,rfl⟩:=rv; exact Yie _ _
  | str k=>have:=rb.str_inv; subst this; obtain ⟨t,rfl⟩:=rv; exact Yif _ _
  | _=>simp [Za9] at hb
 | bl i=>have:=ra.bl_inv; subst this; cases ru; cases b with
  | non=>have:=rb.non_inv; subst this; cases rv; exact Yhx _
  | bl k=>have:=rb.bl_inv; subst this; cases rv; exact Yhy _ _
  | int k=>have:=rb.int_inv; subst this; obtain ⟨t,rfl⟩:=rv; exact Yig _ _ _
  | str k=>have:=rb.str_inv; subst this; obtain ⟨t,rfl⟩:=rv; exact Yih _ _ _
  | _=>simp [Za9] at hb
 | int i=>have:=ra.int_inv; subst this; obtain ⟨t0,rfl⟩:=ru; cases b with
  | non=>have:=rb.non_inv; subst this; cases rv; exact Yii _ _
  | bl k=>have:=rb.bl_inv; subst this; cases rv; exact Yij _ _ _
  | int k=>have:=rb.int_inv; subst this; obtain ⟨t,rfl⟩:=rv; exact SeqAt.EqAt.int_int _ _ _ _
  | str k=>have:=rb.str_inv; subst this; obtain ⟨t,rfl⟩:=rv; exact Yfg _ _ _ _
  | _=>simp [Za9] at hb
 | str i=>have:=ra.str_inv; subst this; obtain ⟨t0,rfl⟩:=ru; cases b with
  | non=>have:=rb.non_inv; subst this; cases rv; exact Yik _ _
  | bl k=>have:=rb.bl_inv; subst this; cases rv; exact Yil _ _ _
  | int k=>have:=rb.int_inv; subst this; obtain ⟨t,rfl⟩:=rv; exact Yfh _ _ _ _
  | str k=>have:=rb.str_inv; subst this; obtain ⟨t,rfl⟩:=rv; exact (by
    have e:deq (.str i) (.str k) = ((⟨i.toArray⟩:Str) == ⟨k.toArray⟩):=by
     rw [deq,← ZfX];by_cases h:(⟨i.toArray⟩:Str) = ⟨k.toArray⟩
     ·simp [h]
     ·simp [h]
    rw [e];exact SeqAt.EqAt.str_str _ _ _ _)
  | _=>simp [Za9] at hb
 | _=>simp [Za9] at ha
theorem Zjc (I:Inv X pins σ H s):∀ (n:Nat) (A:Yar) (a b:D) (x y:V) (u v:Value),A.units + n + 1 < cLine -> ZaM n a = true -> ZaM n b = true -> Rep X.K H ι a x -> Rep X.K H ι b y -> RelV x u -> RelV y v -> Yi2 A s u v (deq a b):=by
 intro n
 induction n with
 | zero=>
  intro A a b x y u v hu ha hb ra rb ru rv;have f:∀ d:D,ZaM 0 d = true -> Za9 d = true:=fun d h=>by cases d <;> simp_all [ZaM,Za9]
  exact Zel A a b x y u v (f a ha) (f b hb) ra rb ru rv
 | succ n ih=>
  intro A a b x y u v hu ha hb ra rb ru rv;have hu0:A.units + 0 + 1 < cLine:=lC 1 0x2ae0cc12aa1c0cc11 T1 hu;have hu1:A.units < cLine:=lB 1 1104257534993 T1 hu0;cases a with
  | tup ds=>
   obtain ⟨p,vs,rfl,s1,r1⟩:=ra.tup_inv;cases ru;obtain ⟨its,rvs,ht,_⟩:=I.tuple s1;have it1:s.heap.IsTuple p its.toArray:=ht;cases b with
   | tup es=>
    obtain ⟨p',ws,rfl,s2,r2⟩:=rb.tup_inv;cases rv;obtain ⟨its2,rws,ht2,_⟩:=I.tuple s2;have it2:s.heap.IsTuple p' its2.toArray:=ht2;by_cases hp:p = p'
    ·subst hp
     rw [Rep.fun1 I (n + 1) _ _ _ ha hb ra rb];exact Yhe _
    ·refine SeqAt.EqAt.of_refs hp ?_
     have e1:its.length = ds.length:=by rw [← rvs.length,r1.length]
     have e2:its2.length = es.length:=by rw [← rws.length,r2.length]
     have key:((Yaa (min its.toArray.size its2.toArray.size)).all (fun j=>match ds[j]?,es[j]? with | some a,some b=>deq a b | _,_=>false) && its.toArray.size == its2.toArray.size) = deq (.tup ds) (.tup es):=by
      rw [deq,Ye,Ye,e1,e2];by_cases hl:ds.length = es.length
      ·rw [hl,Yhj,beq_self_eq_true,Ygj,← hl]
       exact ZcR hl fun j a b h1 h2=>by rw [h1,h2]
      ·have z:Zc4 ds es = false:=by
        cases q:Zc4 ds es with
        | false=>rfl
        | true=>exact absurd (Zeq q) hl
       rw [z,beq_eq_false_iff_ne.mpr hl,Yia]
     rw [← key];refine SeqAt.RcAt.tuples it1 it2 hu1 fun j h1 h2=>?_;have h1':j < ds.length:=by rw [← e1]; simpa using h1
     have h2':j < es.length:=by rw [← e2]; simpa using h2
     have q1:ds[j]? = some ds[j]:=by simp [h1']
     have q2:es[j]? = some es[j]:=by simp [h2']
     rw [q1,q2];obtain ⟨v1,g1,z1⟩:=r1.get q1;obtain ⟨v2,g2,z2⟩:=r2.get q2;obtain ⟨u1,k1,l1⟩:=rvs.get g1;obtain ⟨u2,k2,l2⟩:=rws.get g2;have m1:its.toArray[j] = u1:=by
      have:=Yb.mp k1;simpa using this.2
     have m2:its2.toArray[j] = u2:=by
      have:=Yb.mp k2;simpa using this.2
     rw [m1,m2];exact ih A.in1 ds[j] es[j] v1 v2 u1 u2 (by rw [units_in1]; exact lC 1 0x2a1a0ccc12aa1c0cc11 T1 hu) (Y5.mp (show ds.all (ZaM n) = true from ha) _ (Y4 h1')) (Y5.mp (show es.all (ZaM n) = true from hb) _ (Y4 h2')) z1 z2 l1 l2
   | non=>have:=rb.non_inv; subst this; cases rv; exact SeqAt.EqAt.tuple_none it1 hu1
   | bl k=>have:=rb.bl_inv; subst this; cases rv; exact SeqAt.EqAt.tuple_bool _ it1 hu1
   | int k=>have:=rb.int_inv; subst this; obtain ⟨t,rfl⟩:=rv; exact SeqAt.EqAt.tuple_int _ _ it1 hu1
   | str k=>have:=rb.str_inv; subst this; obtain ⟨t,rfl⟩:=rv; exact SeqAt.EqAt.tuple_str _ _ it1 hu1
   | _=>simp [ZaM] at hb
  | non=>cases b with
   | tup es=>
    have:=ra.non_inv; subst this; cases ru;obtain ⟨p',ws,rfl,s2,r2⟩:=rb.tup_inv;cases rv;obtain ⟨its2,rws,ht2,_⟩:=I.tuple s2;exact SeqAt.EqAt.none_tuple (show s.heap.IsTuple p' its2.toArray from ht2) hu1
   | scr _=>simp [ZaM] at hb
   | ref _=>simp [ZaM] at hb
   | _=>exact Zel A _ _ x y u v (by rfl) (by rfl) ra rb ru rv
  | bl i=>cases b with
   | tup es=>
    have:=ra.bl_inv; subst this; cases ru;obtain ⟨p',ws,rfl,s2,r2⟩:=rb.tup_inv;cases rv;obtain ⟨its2,rws,ht2,_⟩:=I.tuple s2;exact SeqAt.EqAt.bool_tuple _ (show s.heap.IsTuple p' its2.toArray from ht2) hu1
   | scr _=>simp [ZaM] at hb
   | ref _=>simp [ZaM] at hb
   | _=>exact Zel A _ _ x y u v (by rfl) (by rfl) ra rb ru rv
  | int i=>cases b with
   | tup es=>
    have:=ra.int_inv; subst this; obtain ⟨t0,rfl⟩:=ru;obtain ⟨p',ws,rfl,s2,r2⟩:=rb.tup_inv;cases rv;obtain ⟨its2,rws,ht2,_⟩:=I.tuple s2;exact SeqAt.EqAt.int_tuple _ _ (show s.heap.IsTuple p' its2.toArray from ht2) hu1
   | scr _=>simp [ZaM] at hb
   | ref _=>simp [ZaM] at hb
   | _=>exact Zel A _ _ x y u v (by rfl) (by rfl) ra rb ru rv
  | str i=>cases b with
   | tup es=>
    have:=ra.str_inv; subst this; obtain ⟨t0,rfl⟩:=ru;obtain ⟨p',ws,rfl,s2,r2⟩:=rb.tup_inv;cases rv;obtain ⟨its2,rws,ht2,_⟩:=I.tuple s2;exact SeqAt.EqAt.str_tuple _ _ (show s.heap.IsTuple p' its2.toArray from ht2) hu1
   | scr _=>simp [ZaM] at hb
   | ref _=>simp [ZaM] at hb
   | _=>exact Zel A _ _ x y u v (by rfl) (by rfl) ra rb ru rv
  | _=>simp [ZaM] at ha
end
section
variable {X:Cx}
theorem Zrz {pins:List (Addr × Obj)} {σ:St} {H:Hp} {s:Yg} {ι:List Addr} {M:Store} {a b:D} {x y:V} {u v:Value} {k:Bool} (hu:X.A.units + 80 < cLine) (I:Inv X pins σ H s) (S:Zap X.K H ι M)
  (ra:Rep X.K H ι a x) (rb:Rep X.K H ι b y) (ru:RelV x u) (rv:RelV y v) (h:eqD a b M = some k):SeqAt.RcAt X.A s u v k:=by
 cases a with
 | ref n=>
  cases b with
  | ref m=>
   simp only [eqD] at h;cases hn:M[n]? with
   | none=>simp [hn] at h
   | some o=>
    cases o with
    | dct _=>simp [hn] at h
    | fdct _=>simp [hn] at h
    | ins _ _=>simp [hn] at h
    | lst ds=>
     cases hm:M[m]? with
     | none=>simp [hn,hm] at h
     | some o=>
      cases o with
      | dct _=>simp [hn,hm] at h
      | fdct _=>simp [hn,hm] at h
      | ins _ _=>simp [hn,hm] at h
      | lst es=>
       simp only [hn,hm] at h;split at h
       ·rename_i hp
        cases h
        rw [Yu] at hp;obtain ⟨p,hp1,rfl⟩:=ra.ref_inv;obtain ⟨q,hq1,rfl⟩:=rb.ref_inv;cases ru;cases rv;obtain ⟨vs,e1,r1⟩:=S.obj n _ p hn hp1;obtain ⟨ws,e2,r2⟩:=S.obj m _ q hm hq1;obtain ⟨its,rvs,pl1,_⟩:=I.list (SqL.of e1);obtain ⟨its2,rws,pl2,_⟩:=I.list (SqL.of e2);have it1:=pl1.isList;have it2:=pl2.isList;have l1:its.length = ds.length:=by rw [← rvs.length,r1.length]
        have l2:its2.length = es.length:=by rw [← rws.length,r2.length]
        have hu1:X.A.units < cLine:=lB 1 17666545486865 T1 hu;by_cases hl:ds.length = es.length
        ·have key:(Yaa its.toArray.size).all (fun j=>match ds[j]?,es[j]? with | some a,some b=>deq a b | _,_=>false) = Zc4 ds es:=by
          rw [Ye,l1];exact ZcR hl fun j a b h1 h2=>by rw [h1,h2]
         rw [← key];refine SeqAt.RcAt.lists it1 it2 (by rw [Ye,Ye,l1,l2,hl]) hu1 fun j h1 h2=>?_;have h1':j < ds.length:=by rw [← l1]; simpa using h1
         have h2':j < es.length:=by rw [← l2]; simpa using h2
         have q1:ds[j]? = some ds[j]:=by simp [h1']
         have q2:es[j]? = some es[j]:=by simp [h2']
         rw [q1,q2];obtain ⟨v1,g1,z1⟩:=r1.get q1;obtain ⟨v2,g2,z2⟩:=r2.get q2;obtain ⟨u1,k1,w1⟩:=rvs.get g1;obtain ⟨u2,k2,w2⟩:=rws.get g2;have m1:its.toArray[j] = u1:=by
          have:=Yb.mp k1;simpa using this.2
         have m2:its2.toArray[j] = u2:=by
          have:=Yb.mp k2;simpa using this.2
         rw [m1,m2];exact Zjc I DEEP X.A.in1 ds[j] es[j] v1 v2 u1 u2 (by rw [units_in1]; show X.A.units + 1 + 60 + 1 < cLine; exact lB 1 0x1a3c2ba0ccc11502b0c11 T1 hu) (Y5.mp hp.1 _ (Y4 h1')) (Y5.mp hp.2 _ (Y4 h2')) z1 z2 w1 w2
        ·have z:Zc4 ds es = false:=by
          cases q:Zc4 ds es with
          | false=>rfl
          | true=>exact absurd (Zeq q) hl
         rw [z];exact SeqAt.RcAt.lists_lengths it1 it2 (by rw [Ye,Ye,l1,l2]; simpa using hl) hu1
       ·cases h
  | _=>simp [eqD] at h
 | int i=>cases b with
  | int j=>
   simp only [eqD] at h;cases h;have:=ra.int_inv; subst this; have:=rb.int_inv; subst this;obtain ⟨t,rfl⟩:=ru;obtain ⟨t',rfl⟩:=rv;rw [← Yb7];exact SeqAt.RcAt.int_int _ _ _ _
  | _=>simp [eqD] at h
 | str i=>cases b with
  | str j=>
   simp only [eqD] at h;cases h;have:=ra.str_inv; subst this; have:=rb.str_inv; subst this;obtain ⟨t,rfl⟩:=ru;obtain ⟨t',rfl⟩:=rv;have e:decide (i = j) = ((⟨i.toArray⟩:Str) == ⟨j.toArray⟩):=by
    rw [← Yb7,← ZfX];by_cases h:(⟨i.toArray⟩:Str) = ⟨j.toArray⟩
    ·simp [h]
    ·simp [h]
   rw [e];exact SeqAt.RcAt.str_str _ _ _ _
  | _=>simp [eqD] at h
 | bl i=>cases b with
  | bl j=>
   simp only [eqD] at h;cases h;have:=ra.bl_inv; subst this; have:=rb.bl_inv; subst this;cases ru;cases rv;rw [← Yb7];exact SeqAt.RcAt.bool_bool _ _
  | _=>simp [eqD] at h
 | tup ds=>cases b with
  | tup es=>
   simp only [eqD] at h;split at h
   ·rename_i hp
    cases h
    rw [Yu] at hp;obtain ⟨p,vs,rfl,s1,r1⟩:=ra.tup_inv;obtain ⟨p',ws,rfl,s2,r2⟩:=rb.tup_inv;cases ru;cases rv;obtain ⟨its,rvs,ht,_⟩:=I.tuple s1;obtain ⟨its2,rws,ht2,_⟩:=I.tuple s2;have e1:its.length = ds.length:=by rw [← rvs.length,r1.length]
    have e2:its2.length = es.length:=by rw [← rws.length,r2.length]
    have hu1:X.A.units < cLine:=lB 1 17666545486865 T1 hu;have key:((Yaa (min its.toArray.size its2.toArray.size)).all (fun j=>match ds[j]?,es[j]? with | some a,some b=>deq a b | _,_=>false) && its.toArray.size == its2.toArray.size) = Zc4 ds es:=by
     rw [Ye,Ye,e1,e2];by_cases hl:ds.length = es.length
     ·rw [hl,Yhj,beq_self_eq_true,Ygj,← hl]
      exact ZcR hl fun j a b h1 h2=>by rw [h1,h2]
     ·have z:Zc4 ds es = false:=by
       cases q:Zc4 ds es with
       | false=>rfl
       | true=>exact absurd (Zeq q) hl
      rw [z,beq_eq_false_iff_ne.mpr hl,Yia]
    rw [← key];refine SeqAt.RcAt.tuples (show s.heap.IsTuple p its.toArray from ht) (show s.heap.IsTuple p' its2.toArray from ht2) hu1 fun j h1 h2=>?_;have h1':j < ds.length:=by rw [← e1]; simpa using h1
    have h2':j < es.length:=by rw [← e2]; simpa using h2
    have q1:ds[j]? = some ds[j]:=by simp [h1']
    have q2:es[j]? = some es[j]:=by simp [h2']
    rw [q1,q2];obtain ⟨v1,g1,z1⟩:=r1.get q1;obtain ⟨v2,g2,z2⟩:=r2.get q2;obtain ⟨u1,k1,w1⟩:=rvs.get g1;obtain ⟨u2,k2,w2⟩:=rws.get g2;have m1:its.toArray[j] = u1:=by
     have:=Yb.mp k1;simpa using this.2
    have m2:its2.toArray[j] = u2:=by
     have:=Yb.mp k2;simpa using this.2
    rw [m1,m2];exact Zjc I DEEP X.A.in1 ds[j] es[j] v1 v2 u1 u2 (by rw [units_in1]; show X.A.units + 1 + 60 + 1 < cLine; exact lB 1 0x1a3c2ba0ccc11502b0c11 T1 hu) (Y5.mp hp.1 _ (Y4 h1')) (Y5.mp hp.2 _ (Y4 h2')) z1 z2 w1 w2
   ·cases h
  | _=>simp [eqD] at h
 | _=>cases b <;> simp [eqD] at h
theorem Zb7 (hu:X.A.units + 80 < cLine):OpR X (Ya5 .Eq) (r2 X.K ZaH):=by
 intro pins s σ H x y v u Q I rx ry h;obtain ⟨ι,M,a,b,S,ra,rb,h⟩:=h;unfold ZaH at h;cases q:eqD a b M with
 | none=>rw [q] at h; exact h.elim
 | some k=>
  rw [q] at h;exact Zrz hu I S ra rb rx ry q X.prog X.w X.xe _ ⟨.bl k,H,I,rfl,Zac.ok h S Rep.bl⟩
theorem ZlE {K:Ya} {H:Hp} {ι:List Addr} {ds:List D} {vs:List V} {i:Int} {d:D} (r:Zz K H ι ds vs) (h:Zbc ds i = some d):∃ v,atI vs i = some v /\ Rep K H ι d v:=by
 unfold Zbc at h;unfold atI;have e:ixN vs.length i = ixD ds.length i:=by rw [r.length]; rfl
 rw [e];cases q:ixD ds.length i with
 | none=>rw [q] at h; cases h
 | some j=>
  rw [q] at h;exact r.get h
theorem Zv:IxR X (r2 X.K Zf):=IxR.imp Zs1 fun x y H Q zz1=>by
 obtain ⟨ι,M,a,b,S,ra,rb,h⟩:=zz1;cases a with
 | tup ds=>cases b with
  | int i=>
   simp only [Zf] at h;cases q:Zbc ds i with
   | none=>simp only [q] at h; exact h.elim
   | some d=>
    simp only [q] at h;obtain ⟨p,vs,rfl,s1,r1⟩:=ra.tup_inv;obtain ⟨v,e,rv⟩:=ZlE r1 q;exact .inr (.inl ⟨p,vs,i,v,rfl,rb.int_inv,s1,e,Zac.ok h S rv⟩)
  | _=>exact h.elim
 | scr ds=>cases b with
  | int i=>
   simp only [Zf] at h;cases q:Zbc ds i with
   | none=>simp only [q] at h; exact h.elim
   | some d=>
    simp only [q] at h;obtain ⟨p,vs,rfl,s1,r1⟩:=ra.scr_inv;obtain ⟨v,e,rv⟩:=ZlE r1 q;exact .inl ⟨p,vs,i,v,rfl,rb.int_inv,s1.sq,e,Zac.ok h S rv⟩
  | _=>exact h.elim
 | str z=>cases b with
  | int i=>
   simp only [Zf] at h;cases q:Zbc z i with
   | none=>simp only [q] at h; exact h.elim
   | some c=>
    simp only [q] at h;split at h
    ·rename_i hz
     refine .inr (.inr ⟨_,i,c,ra.str_inv,rb.int_inv,?_,?_,Zac.ok h S Rep.str⟩)
     ·have:=Zbw
      simp only [Ybu,Ye];exact Yj hz this
     ·simpa [atI,ixN,Zbc,ixD] using q
    ·exact h.elim
  | _=>exact h.elim
 | ref n=>cases b with
  | int i=>
   cases hn:M[n]? with
   | none=>simp only [Zf,hn] at h; exact h.elim
   | some o=>
    cases o with
    | dct _=>simp only [Zf,hn] at h; exact h.elim
    | fdct _=>simp only [Zf,hn] at h; exact h.elim
    | ins _ _=>simp only [Zf,hn] at h; exact h.elim
    | lst ds=>
     simp only [Zf,hn] at h;cases q:Zbc ds i with
     | none=>simp only [q] at h; exact h.elim
     | some d=>
      simp only [q] at h;obtain ⟨p,hp,rfl⟩:=ra.ref_inv;obtain ⟨vs,e1,r1⟩:=S.obj n _ p hn hp;obtain ⟨v,e,rv⟩:=ZlE r1 q;exact .inl ⟨p,vs,i,v,rfl,rb.int_inv,SqL.of e1,e,Zac.ok h S rv⟩
  | _=>exact h.elim
 | _=>cases b <;> exact h.elim
theorem Zlr {K:Ya} {H:Hp} {ι:List Addr} {ds:List D} {vs:List V} (r:Zz K H ι ds vs) (lo hi:Option Int):Zz K H ι (cutD ds lo hi) (Zk1 vs lo hi):=by
 have e:∀ n d o,HT.sIx n d o = sIx n d o:=fun n d o=>by cases o <;> rfl
 unfold cutD Zk1;rw [e,e,r.length];exact (r.drop _).take _
end
noncomputable def ZcJ (cells:List (Str × Addr)):List (Str × NameKind) -> List (Str × Addr) -> List (Str × Addr)
 | [],cs=>cs
 | (n,k) :: r,cs=>ZcJ cells r (if k == .free then (n,(cells.lookup n).getD 0) :: cs else cs)
theorem ZfC {scope:Scope} {env:Env} (h:∀ y ∈ scope.names,y.2 = .free -> ∃ c,env.cells.lookup y.1 = some c):closureFor scope env = pure (ZcJ env.cells scope.names []):=by
 unfold closureFor;have key:∀ (names:List (Str × NameKind)) (cs:List (Str × Addr)),(∀ y ∈ names,y.2 = .free -> ∃ c,env.cells.lookup y.1 = some c) ->
   (forIn names cs fun x r=>match x with | (name,kind)=>if (kind == NameKind.free) = true then do let c ← cellOf env name; pure (ForInStep.yield ((name,c) :: r)) else pure (ForInStep.yield r):Sem (List (Str × Addr))) = pure (ZcJ env.cells names cs):=by
  intro names
  induction names with
  | nil=>intro cs _; rfl
  | cons y r ih=>
   intro cs hy;obtain ⟨n,k⟩:=y;rw [Yhk];by_cases hk:k = .free
   ·subst hk
    obtain ⟨c,hc⟩:=hy (n,.free) Yq rfl;have e1:cellOf env n = pure c:=by unfold cellOf; rw [hc]
    simp only [beq_self_eq_true,if_true,e1,pure_bind];rw [ih _ fun z hz=>hy z (Yv _ hz)];simp [ZcJ,hc]
   ·have hb:(k == NameKind.free) = false:=by simpa using hk
    simp only [hb,Yah,if_false,pure_bind];rw [ih _ fun z hz=>hy z (Yv _ hz)];simp [ZcJ,hb]
 have:=key scope.names [] h
 first
  | exact this
  | (simp only [bind_pure]; exact this)
theorem ZnE {cells:List (Str × Addr)} {x:Str} {c:Addr}:∀ (names:List (Str × NameKind)) (cs:List (Str × Addr)),(∀ y ∈ names,y.2 = .free -> ∃ c,cells.lookup y.1 = some c) -> (ZcJ cells names cs).lookup x = some c -> cs.lookup x = some c \/ cells.lookup x = some c:=by
 intro names
 induction names with
 | nil=>intro cs _ h; exact .inl h
 | cons y r ih=>
  intro cs hy h;obtain ⟨n,k⟩:=y;rw [ZcJ] at h;rcases ih _ (fun z hz=>hy z (Yv _ hz)) h with q | q
  ·by_cases hk:k = .free
   ·subst hk
    obtain ⟨c0,hc⟩:=hy (n,.free) Yq rfl;simp only [beq_self_eq_true,if_true,hc,Option.getD_some,Yat] at q;cases hx:x == n with
    | true=>
     simp only [hx] at q;cases q;have:x = n:=by simpa using hx
     subst this;exact .inr hc
    | false=>simp only [hx] at q; exact .inl q
   ·have hb:(k == NameKind.free) = false:=by simpa using hk
    simp only [hb,Yah,if_false] at q;exact .inl q
  ·exact .inr q
theorem Zl2 {cells:List (Str × Addr)} {x:Str}:∀ (names:List (Str × NameKind)) (cs:List (Str × Addr)),(cs.lookup x).isSome = true -> ((ZcJ cells names cs).lookup x).isSome = true:=by
 intro names
 induction names with
 | nil=>intro cs h; exact h
 | cons y r ih=>
  intro cs h;obtain ⟨n,k⟩:=y;rw [ZcJ];refine ih _ ?_;split
  ·rw [Yat]
   split
   ·rfl
   ·exact h
  ·exact h
theorem ZiZ {cells:List (Str × Addr)} {x:Str}:∀ (names:List (Str × NameKind)) (cs:List (Str × Addr)),(x,NameKind.free) ∈ names -> ((ZcJ cells names cs).lookup x).isSome = true:=by
 intro names
 induction names with
 | nil=>intro cs h; cases h
 | cons y r ih=>
  intro cs h;obtain ⟨n,k⟩:=y;rw [ZcJ];rcases Y3.mp h with e | h
  ·cases e
   refine Zl2 _ _ ?_;simp
  ·exact ih _ h
noncomputable def ZbT (X:Cx) (scope:Scope) (N':List Str) (C:Addr) (cl:List (Str × Addr)) (s:Yg) (H:Hp) (ex:List Addr):Cx:=
 { X with N:=N',s₀:=s,H₀:=H,env:=compEnvC scope cl C X.env,outer:=X.stack,stack:=X.stack,ex:=ex,fn:=fun _=>false,pn:=[],xe:=fun _ _=>False }
noncomputable def ZoQ (N N':List Str) (scope:Scope):Bool:=(Yaa N.length).all fun i=>match N'[i]? with
 | some x=>(scope.names.lookup x).isNone || (decide (N[i]? = some x) && decide (scope.names.lookup x = some .free))
 | none=>false
def CTs (X:Cx) (ifs:List Expr) (ts:List E3):Prop:=∀ (pins:List (Addr × Obj)) (s:Yg) (σ:St) (H:Hp) (Q:Bool -> Hp -> Prop),Inv X pins σ H s ->
 (∃ ι M env,Zap X.K H ι M /\ Zbm X.K H ι env σ /\ match ZdI ts env M with | .ok b M'=>∀ H' ι',Ext X.K H ι H' ι' -> Zap X.K H' ι' M' -> Q b H' | _=>False) ->
 wpAny (model X.prog X.w) X.A (forIn ifs true fun c r=>if r = true then do let ok ← isTrue c X.env (eval c X.env); pure (ForInStep.yield ok) else pure (ForInStep.yield r)) (TP X pins σ Q) X.xe s
theorem Zfk {X:Cx}:CTs X [] []:=fun pins s σ H Q I ⟨ι,M,env,S,E,h⟩=>wpAny_tests_nil ⟨H,I,h H ι Ext.refl S⟩
theorem Zj9 {X:Cx} {c:Expr} {f:E3} (hc:CT X c f):CTs X [c] [f]:=fun pins s σ H Q I zz1=>by
 obtain ⟨ι,M,env,S,E,h⟩:=zz1;refine wpAny_tests_one (hc pins s σ H Q I ⟨ι,M,env,S,E,?_⟩);unfold ZdI at h;cases q:f env M with
 | ok d M1=>
  rw [q] at h;cases d with
  | bl b=>cases b with
   | true=>exact h
   | false=>exact h
  | _=>exact h.elim
 | exc x M1=>rw [q] at h; exact h.elim
 | bad=>rw [q] at h; exact h.elim
section
variable {prog:Yaf} {w:World} {A:Yar} {R:Result -> Yg -> Prop} {s:Yg}
theorem ZjX {elt target iter:Expr} {ifs:List Expr} {scope:Scope} {pos:Pos} {it acc:Value} {env:Env} (I:Nat -> Yg -> Prop)
  (turn:∀ n s,I n s -> wpAny (model prog w) A (Yf0 it) (fun r s₁=>match r with
   | none=>R (.ok .next) s₁
   | some v=>wpAny (model prog w) A (Yd9 target it v) (fun _ s₁'=>wpAny (model prog w) A (Yfi target env v) (fun _ s₂=>
     wpAny (model prog w) A (forIn ifs true fun c r=>if r = true then do let ok ← isTrue c env (eval c env); pure (ForInStep.yield ok) else pure (ForInStep.yield r)) (fun ok s₃=>
      if ok = true then wpAny (model prog w) A (eval elt env) (fun x s₄=>
       wpAny (model prog w) A (call (.builtin "list.append") [acc,x]) (fun _ s₅=>∃ m,m < n /\ I m s₅) (fun _ _=>False) s₄) (fun _ _=>False) s₃
      else ∃ m,m < n /\ I m s₃) (fun _ _=>False) s₂) (fun _ _=>False) s₁') (fun _ _=>False) s₁) (fun _ _=>False) s)
  (n:Nat) (h:I n s):Yha (model prog w) A (.compLoop (.ListComp elt [⟨target,iter,ifs,0⟩] scope pos) 0 it acc env) R s:=by
 refine codeAny_loop rfl I (fun n s hI=>?_) n h;show wpAny _ A ((compTurn (.ListComp elt [⟨target,iter,ifs,0⟩] scope pos) 0 it acc env).onRaise (fun x=>do noteFrame x env; theTreesLotGoes x)) _ _ s;refine wpAny_noted ?_;rw [compTurn_list];refine Yc (Yd8 (Yc (Ybt (turn n s hI) (fun r s₁ h₁=>?_) fun _ _ h'=>Ybx h')));cases r with
 | none=>exact Ym h₁
 | some v=>
  refine Yc (Ybt h₁ (fun _ s₁' h₁'=>?_) fun _ _ h'=>Ybx h');refine Yc (Ybt h₁' (fun _ s₂ h₂=>Yc (Ybt h₂ (fun ok s₃ h₃=>?_) fun _ _ h'=>Ybx h')) fun _ _ h'=>Ybx h');cases ok with
  | false=>exact Ym ⟨rfl,h₃⟩
  | true=>
   exact Yc (Yc (Ybt h₃ (fun x s₄ h₄=>Yc (Ybt h₄ (fun _ s₅ h₅=>Ym (Ym ⟨rfl,h₅⟩)) fun _ _ h'=>Ybx h')) fun _ _ h'=>Ybx h'))
end
theorem ZdX {env:Env} {x:Str} {k:NameKind}:∀ {names:List (Str × NameKind)},(names.map fun (n,k)=>if (k == NameKind.free && env.scope.kind == .function && env.kindOf n == some .cell) then (n,NameKind.cell) else (n,k)).lookup x = some k ->
  ∃ k0,names.lookup x = some k0 /\ (k0 = k \/ (k0 = .free /\ k = .cell)):=by
 intro names
 induction names with
 | nil=>intro h; simp at h
 | cons y r ih=>
  intro h;obtain ⟨n,k1⟩:=y;rw [Yt] at h;cases hx:x == n with
  | true=>
   refine ⟨k1,by simp [Yat,hx],?_⟩;by_cases hc:(k1 == NameKind.free && env.scope.kind == .function && env.kindOf n == some .cell) = true
   ·simp only [if_pos hc,Yat,hx] at h
    cases h
    simp only [Yu,beq_iff_eq] at hc;exact .inr ⟨hc.1.1,rfl⟩
   ·simp only [if_neg hc,Yat,hx] at h
    cases h
    exact .inl rfl
  | false=>
   have h':(r.map fun (n,k)=>if (k == NameKind.free && env.scope.kind == .function && env.kindOf n == some .cell) then (n,NameKind.cell) else (n,k)).lookup x = some k:=by
    by_cases hc:(k1 == NameKind.free && env.scope.kind == .function && env.kindOf n == some .cell) = true
    ·simp only [if_pos hc,Yat,hx] at h; exact h
    ·simp only [if_neg hc,Yat,hx] at h; exact h
   obtain ⟨k0,e,q⟩:=ih h';exact ⟨k0,by simp [Yat,hx,e],q⟩
theorem Zjs {env:Env} {x:Str}:∀ {names:List (Str × NameKind)},names.lookup x = some .free ->
  (names.map fun (n,k)=>if (k == NameKind.free && env.scope.kind == .function && env.kindOf n == some .cell) then (n,NameKind.cell) else (n,k)).lookup x = some .free \/
  (names.map fun (n,k)=>if (k == NameKind.free && env.scope.kind == .function && env.kindOf n == some .cell) then (n,NameKind.cell) else (n,k)).lookup x = some .cell:=by
 intro names
 induction names with
 | nil=>intro h; simp at h
 | cons y r ih=>
  intro h;obtain ⟨n,k1⟩:=y;rw [Yt];cases hx:x == n with
  | true=>
   simp only [Yat,hx] at h;cases h;by_cases hc:(NameKind.free == NameKind.free && env.scope.kind == .function && env.kindOf n == some .cell) = true
   ·simp only [if_pos hc,Yat,hx]; exact .inr trivial
   ·simp only [if_neg hc,Yat,hx]; exact .inl trivial
  | false=>
   simp only [Yat,hx] at h;by_cases hc:(k1 == NameKind.free && env.scope.kind == .function && env.kindOf n == some .cell) = true
   ·simp only [if_pos hc,Yat,hx]; exact ih h
   ·simp only [if_neg hc,Yat,hx]; exact ih h
section
variable {X:Cx} {pins:List (Addr × Obj)} {σ:St} {H:Hp} {s:Yg} {scope:Scope} {N':List Str} {own:Nat} {fp:List Addr}
theorem Zpm (I:Inv X pins σ H s) (hk:scope.kind = .function) (hcell:∀ y ∈ scope.names,y.2 ≠ .cell) (hfree:∀ y ∈ scope.names,y.2 = .free -> X.env.kindOf y.1 = some .cell \/ X.env.kindOf y.1 = some .free)
  (hN:N'.length = X.N.length + own) (hv:ZoQ X.N N' scope = true) (hfp:∀ b ∈ fp,ZeK X pins H b) (hlt:∀ b ∈ fp,b < s.heap.objs.size) {h1:Heap} {tk:Nat}
  (hns:h1.Ns s.heap.objs.size fun _=>none) (keep:∀ b o,s.heap.get? b = some o -> h1.get? b = some o):
  Inv (ZbT X scope N' s.heap.objs.size (ZcJ X.env.cells scope.names []) s H fp) [] (σ ++ Yl own none) H { s with heap:=h1,toks:=tk }:=by
 have hc0:∀ y ∈ scope.names,y.2 = .free -> ∃ c,X.env.cells.lookup y.1 = some c:=fun y hy e=>I.ok.has y.1 (hfree y hy e);have sub:∀ x c,(ZcJ X.env.cells scope.names []).lookup x = some c -> X.env.cells.lookup x = some c:=fun x c h=>by
  rcases ZnE scope.names [] hc0 h with q | q
  ·simp at q
  ·exact q
 have cellK:∀ {c:Addr} {v:Option Value},s.heap.IsCell c v -> h1.IsCell c v:=fun ⟨o,ho,hd⟩=>⟨o,keep _ o ho,hd⟩;refine ⟨⟨I.ok.mod,hk,I.ok.glob,I.ok.blt,Yi _,fun x y c h1 h2=>I.ok.inj x y c (sub x c h1) (sub y c h2),fun x hx=>?_,fun x c h=>?_,I.ok.hd,I.ok.frames,.inl rfl,fun b hb=>⟨Y2 (hlt b hb),fun x c h=>(hfp b hb).2.2.2.2.1 x c (sub x c h)⟩,
   I.bs,Yj I.ok.bsz I.sz,fun b o e hb=>?_,fun b hb hz=>?_,I.stack,I.stkFree⟩,rfl,I.bare,Un.kept keep,⟨_,hns,fun i x v h1 h2 h3=>?_⟩,fun x c h=>?_,I.hok.fresh (Yi _),fun x c h=>I.freeC x c (sub x c h),
  fun p hp=>absurd (show p ∈ ([]:List (Addr × Obj)) from hp) (by simp),I.hok.kept keep,?_⟩
 ·have hx':(Yi5 scope X.env).names.lookup x = some .cell \/ (Yi5 scope X.env).names.lookup x = some .free:=hx
  have:scope.names.lookup x = some .free:=by
   rcases hx' with hx' | hx'
   ·obtain ⟨k0,e,q⟩:=ZdX (names:=scope.names) hx'
    rcases q with q | ⟨q,_⟩
    ·subst q; exact absurd rfl (hcell _ (Ya7 e))
    ·rw [e,q]
   ·obtain ⟨k0,e,q⟩:=ZdX (names:=scope.names) hx'
    rcases q with q | ⟨_,q⟩
    ·rw [e,q]
    ·cases q
  exact Yd3.mp (ZiZ scope.names [] (Ya7 this))
 ·cases h
 ·obtain ⟨_,_,_,q,_⟩:=hfp b hb
  rcases q with q | q
  ·exact I.ok.noex b o e q
  ·exact absurd (Y0 (Yo e) (Yj I.ok.bsz q)) (Yck _)
 ·have hz':b ∈ frs X.stack:=hz
  obtain ⟨_,q1,q2,_⟩:=hfp b hb;rcases Y3.mp (I.stkSub b hz') with e | e
  ·exact q1 e
  ·exact q2 e
 ·have hi:i < σ.length:=by
   by_cases hi:i < σ.length
   ·exact hi
   ·rw [Yaq (Y8 hi),Yc6] at h2
    split at h2 <;> cases h2
  rw [Y7 hi] at h2;have hiN:i < X.N.length:=by rw [← I.len]; exact hi
  have hN':N'[i]? = some x:=h1;have vq:=Y5.mp hv i (Yft.mpr hiN);rw [hN'] at vq;have h3':(Yi5 scope X.env).names.lookup x = some .local \/ (Yi5 scope X.env).names.lookup x = some .cell \/ (Yi5 scope X.env).names.lookup x = some .free:=h3;have some_of:∃ k0,scope.names.lookup x = some k0:=by
   rcases h3' with q | q | q <;> (obtain ⟨k0,e,_⟩:=ZdX (names:=scope.names) q; exact ⟨k0,e⟩)
  obtain ⟨k0,ek⟩:=some_of;simp only [ek,Option.isNone_some,Ygd,Yu,decide_eq_true_eq] at vq;obtain ⟨vq1,vq2⟩:=vq;cases vq2;have hkind:=hfree (x,.free) (Ya7 ek) rfl;obtain ⟨m,hn,hl⟩:=I.loc;have hVis:Vis X.env.scope x:=by
   rcases hkind with q | q
   ·exact .inr (.inl q)
   ·exact .inr (.inr q)
  obtain ⟨u,ru,lk⟩:=hl i x v vq1 h2 hVis;refine ⟨u,ru,?_⟩;rcases lk with ⟨kl,_⟩ | ⟨_,c,ec,ic⟩
  ·rcases hkind with q | q <;> (rw [q] at kl; cases kl)
  ·have hkk:(compEnvC scope (ZcJ X.env.cells scope.names []) s.heap.objs.size X.env).kindOf x = some .cell \/ (compEnvC scope (ZcJ X.env.cells scope.names []) s.heap.objs.size X.env).kindOf x = some .free:=by
    rcases Zjs (env:=X.env) ek with q | q
    ·exact .inr q
    ·exact .inl q
   obtain ⟨c',ec'⟩:=Yd3.mp (ZiZ (cells:=X.env.cells) scope.names [] (Ya7 ek));have e2:=sub x c' ec';rw [ec] at e2;cases e2;exact .inr ⟨hkk,c,ec',cellK ic⟩
 ·obtain ⟨v,ic⟩:=I.cell x c (sub x c h)
  exact ⟨v,cellK ic⟩
 ·show (σ ++ Yl own none).length = N'.length
  rw [Yw,Yhc,I.len,hN]
theorem Zbm.grow {K:Ya} {H:Hp} {ι:List Addr} {env:Zaq} {σ:St} (E:Zbm K H ι env σ) (n:Nat):Zbm K H ι (env ++ Yl n none) (σ ++ Yl n none):=by
 refine ⟨by simp [E.1],fun i d h=>?_⟩;by_cases hi:i < env.length
 ·rw [Y7 hi] at h
  obtain ⟨v,e,r⟩:=E.2 i d h;exact ⟨v,by rw [Y7 (by rw [← E.1]; exact hi)]; exact e,r⟩
 ·rw [Yaq (Y8 hi),Yc6] at h
  split at h <;> cases h
end
section
structure Cb where
 Y:Cx
 fp:List Addr
 tn:Nat -> Heap -> Prop
 itd:It3
 H2:Hp
 ι2:List Addr
 Q:VK
 g:G3
 ts:List E3
 f:E3
 nM:Nat
 acc:Addr
inductive CbJ (P:Cb) (n:Nat) (s':Yg):Prop
 | mk (k:Nat) (σ5:St) (H5:Hp) (ι5:List Addr) (M5:Store) (env5:Zaq) (I5:Inv P.Y [] σ5 H5 s') (st5:P.tn k s'.heap) (fr5:∀ b ∈ P.fp,H5 b = none) (hn:P.itd.items.length - k = n) (hk:k <= P.itd.items.length)
   (x5:Ext P.Y.K P.H2 P.ι2 H5 ι5) (S5:Zap P.Y.K H5 ι5 M5) (E5:Zbm P.Y.K H5 ι5 env5 σ5) (hι:ι5[P.nM]? = some P.acc) (h5:Zac P.Y.K H5 ι5 P.Q (ZbC P.itd P.g P.ts P.f P.nM (P.itd.items.drop k) env5 M5))
def CbL (P:Cb) (n:Nat) (s':Yg):Prop:=∃ m,m < n /\ CbJ P m s'
section
noncomputable local instance (priority:=100000) clP18a (p:Prop):Decidable p:=clP17 p
noncomputable def cbE (P:Cb) (k:Nat) (env:Zaq) (e:D) (M2:Store):R3 D:=match M2[P.nM]? with
 | some (.lst x)=>if x.length < SZ then ZbC P.itd P.g P.ts P.f P.nM (P.itd.items.drop (k + 1)) env (M2.set P.nM (.lst (x ++ [e]))) else .bad
 | _=>.bad
noncomputable def cbB (P:Cb) (k:Nat) (env:Zaq) (b:Bool) (M1:Store):R3 D:=if b then (P.f env M1).bind (cbE P k env) else ZbC P.itd P.g P.ts P.f P.nM (P.itd.items.drop (k + 1)) env M1
end
def cbF (P:Cb) (n:Nat) (xv:Value) (s:Yg):Prop:=wpAny (model P.Y.prog P.Y.w) P.Y.A (call (.builtin "list.append") [.ref P.acc,xv]) (fun _ s'=>CbL P n s') P.Y.xe s
def cbO (P:Cb) (elt:Expr) (n:Nat) (ok:Bool) (s:Yg):Prop:=if ok = true then wpAny (model P.Y.prog P.Y.w) P.Y.A (eval elt P.Y.env) (cbF P n) P.Y.xe s else CbL P n s
def cbS (P:Cb) (elt:Expr) (ifs:List Expr) (n:Nat) (s:Yg):Prop:=wpAny (model P.Y.prog P.Y.w) P.Y.A (forIn ifs true fun c r=>if r = true then do let ok ← isTrue c P.Y.env (eval c P.Y.env); pure (ForInStep.yield ok) else pure (ForInStep.yield r)) (cbO P elt n) P.Y.xe s
def cbA (P:Cb) (tg elt:Expr) (ifs:List Expr) (n:Nat) (u:Value) (s:Yg):Prop:=wpAny (model P.Y.prog P.Y.w) P.Y.A (Yfi tg P.Y.env u) (fun _=>cbS P elt ifs n) P.Y.xe s
def cbN (P:Cb) (tg elt:Expr) (ifs:List Expr) (it:Addr) (n:Nat) (F:Yg -> Prop) (r:Option Value) (s:Yg):Prop:=match r with
 | none=>F s
 | some v=>wpAny (model P.Y.prog P.Y.w) P.Y.A (Yd9 tg (.ref it) v) (fun _=>cbA P tg elt ifs n v) P.Y.xe s
variable {P:Cb} {tg elt:Expr} {ifs:List Expr} {J:It} {it:Addr} {k:Nat} {h7:Heap} {σ:St} {H H':Hp} {s:Yg} {ι:List Addr} {M M1:Store} {env:Zaq}
theorem Zmu (T:Turn P.Y.prog P.Y.w P.Y.K tg J P.fp it P.tn) (st7:P.tn (k + 1) h7) (hlt:k < P.itd.items.length) (I':Inv P.Y ([] ++ ZeV P.fp h7) σ H s) (x:Ext P.Y.K P.H2 P.ι2 H ι) (S:Zap P.Y.K H ι M) (E:Zbm P.Y.K H ι env σ) (hι:ι[P.nM]? = some P.acc)
  (h:Zac P.Y.K H ι P.Q (ZbC P.itd P.g P.ts P.f P.nM (P.itd.items.drop (k + 1)) env M)):CbL P (P.itd.items.length - k) s:=
 ⟨P.itd.items.length - (k + 1),lD 2 0x30113c2012a1c0c21 T1 (Yd (lB 1 6991908881 T1 hlt)) (sbA _ _),⟨k + 1,σ,H,ι,M,env,I'.unpinned,T.keep _ _ _ st7 fun b hb o e=>(I'.pin (b,o) (Yal _ (Yal _ (ZeI hb e)))).1,fun b hb=>(T.obj _ _ st7 b hb).elim fun o e=>(I'.pin (b,o) (Yal _ (Yal _ (ZeI hb e.1)))).2.1,rfl,hlt,x,S,E,hι,h⟩⟩
theorem Zt0:cbB P k env true M = (P.f env M).bind (cbE P k env):=if_pos rfl
theorem Zua:cbB P k env false M = ZbC P.itd P.g P.ts P.f P.nM (P.itd.items.drop (k + 1)) env M:=if_neg (by decide)
theorem Zac.iff {K:Ya} {H:Hp} {ι:List Addr} {Q:VK} {c:Prop} {dc:Decidable c} {r:R3 D} (h:Zac K H ι Q (if c then r else .bad)):c /\ Zac K H ι Q r:=by
 by_cases hc:c
 ·rw [if_pos hc] at h; exact ⟨hc,h⟩
 ·rw [if_neg hc] at h; exact h.elim
theorem Zsu {xs:List D} {d:D} {v:V} {xv:Value} (T:Turn P.Y.prog P.Y.w P.Y.K tg J P.fp it P.tn) (st7:P.tn (k + 1) h7) (hlt:k < P.itd.items.length) (I':Inv P.Y ([] ++ ZeV P.fp h7) σ H s) (r:RelV v xv) (x:Ext P.Y.K P.H2 P.ι2 H ι) (S:Zap P.Y.K H ι M) (E:Zbm P.Y.K H ι env σ) (rd:Rep P.Y.K H ι d v) (hι:ι[P.nM]? = some P.acc)
  (hm:M[P.nM]? = some (.lst xs)) (hz:xs.length < SZ) (h:Zac P.Y.K H ι P.Q (ZbC P.itd P.g P.ts P.f P.nM (P.itd.items.drop (k + 1)) env (M.set P.nM (.lst (xs ++ [d]))))):
  cbF P (P.itd.items.length - k) xv s:=by
 obtain ⟨vs,ev,rvs⟩:=S.obj _ _ _ hm hι;obtain ⟨x11,S11⟩:=S.setl (.inr (.inl ⟨_,ev⟩)) hι (rvs.append (Zz.cons rd Zz.nil));refine thn (Q':=fun _ s'=>CbL P (P.itd.items.length - k) s') (ZiM _ s σ H (.ref P.acc) [v] (.ref P.acc) [xv] (fun _ H'=>H' = upd H P.acc (.lst (vs ++ [v]))) I' rfl (.cons r .nil) ⟨_,vs,v,rfl,rfl,ev,by rw [rvs.length]; exact Y0 hz Zbw,rfl⟩) fun _ s11 zz1=>?_;obtain ⟨_,H11,I11,_,eH⟩:=zz1;rw [eH] at I11;exact Zmu T st7 hlt I11 (x.trans x11) S11 (E.mono x11) (x11.pre _ _ hι) (h.up x11)
theorem ZsZ (T:Turn P.Y.prog P.Y.w P.Y.K tg J P.fp it P.tn) (helt:C3 P.Y elt P.f) (st7:P.tn (k + 1) h7) (hlt:k < P.itd.items.length) (I':Inv P.Y ([] ++ ZeV P.fp h7) σ H s) (x:Ext P.Y.K P.H2 P.ι2 H ι) (S:Zap P.Y.K H ι M) (E:Zbm P.Y.K H ι env σ) (hι:ι[P.nM]? = some P.acc)
  (h:Zac P.Y.K H ι P.Q ((P.f env M).bind (cbE P k env))):
  wpAny (model P.Y.prog P.Y.w) P.Y.A (eval elt P.Y.env) (cbF P (P.itd.items.length - k)) P.Y.xe s:=by
 obtain ⟨d,M10,e10,h10⟩:=Zac.bind h;refine thn (Q':=cbF P (P.itd.items.length - k)) (helt _ s σ H (fun v H'=>∃ ι10,Ext P.Y.K H ι H' ι10 /\ Zap P.Y.K H' ι10 M10 /\ Rep P.Y.K H' ι10 d v) I' ⟨ι,M,env,S,E,by rw [e10]; exact fun v H' ι' x' S' r'=>⟨ι',x',S',r'⟩⟩) fun xv s10 zz1=>?_;obtain ⟨v,H10,I10,r10,ι10,x10,S10,rd⟩:=zz1;unfold cbE at h10;cases hm:M10[P.nM]? with
 | none=>rw [hm] at h10; exact h10.elim
 | some o=>
  rw [hm] at h10;cases o with
  | dct _=>exact h10.elim
  | fdct _=>exact h10.elim
  | ins _ _=>exact h10.elim
  | lst xs=>
   exact Zsu T st7 hlt I10 r10 (x.trans x10) S10 (E.mono x10) rd (x10.pre _ _ hι) hm (Zac.iff h10).1 ((Zac.iff h10).2.up x10)
theorem ZrD (T:Turn P.Y.prog P.Y.w P.Y.K tg J P.fp it P.tn) (hts:CTs P.Y ifs P.ts) (helt:C3 P.Y elt P.f) (st7:P.tn (k + 1) h7) (hlt:k < P.itd.items.length) (I':Inv P.Y ([] ++ ZeV P.fp h7) σ H s) (x:Ext P.Y.K P.H2 P.ι2 H ι) (S:Zap P.Y.K H ι M) (E:Zbm P.Y.K H ι env σ) (hι:ι[P.nM]? = some P.acc)
  (h:Zac P.Y.K H ι P.Q ((ZdI P.ts env M).bind (cbB P k env))):
  cbS P elt ifs (P.itd.items.length - k) s:=by
 obtain ⟨b,M9,e9,h9⟩:=Zac.bind h;refine thn (Q':=cbO P elt (P.itd.items.length - k)) (hts _ s σ H (fun b' H'=>b' = b /\ ∃ ι9,Ext P.Y.K H ι H' ι9 /\ Zap P.Y.K H' ι9 M9) I' ⟨ι,M,env,S,E,by rw [e9]; exact fun H' ι' x' S'=>⟨rfl,ι',x',S'⟩⟩) fun b' s9 zz1=>?_;obtain ⟨H9,I9,eb,ι9,x9,S9⟩:=zz1;rw [← eb] at h9;cases b' with
 | false=>exact Zmu T st7 hlt I9 (x.trans x9) S9 (E.mono x9) (x9.pre _ _ hι) (Zac.up x9 (Zua ▸ h9))
 | true=>exact ZsZ T helt st7 hlt I9 (x.trans x9) S9 (E.mono x9) (x9.pre _ _ hι) (Zac.up x9 (Zt0 ▸ h9))
theorem Zun (T:Turn P.Y.prog P.Y.w P.Y.K tg J P.fp it P.tn) (hc:P.Y.calm = true) (hfp:∀ {H':Hp},(∀ b ∈ P.fp,H' b = none) -> ∀ b ∈ P.fp,ZeK P.Y [] H' b) (hg:CG P.Y tg P.g) (hts:CTs P.Y ifs P.ts) (helt:C3 P.Y elt P.f) (hlt:k < P.itd.items.length)
  (I5:Inv P.Y [] σ H s) (st5:P.tn k s.heap) (fr5:∀ b ∈ P.fp,H b = none) (x:Ext P.Y.K P.H2 P.ι2 H ι) (S:Zap P.Y.K H ι M) (E:Zbm P.Y.K H ι env σ) (hι:ι[P.nM]? = some P.acc) (ok:ZhK P.Y.K P.H2 P.ι2 P.itd J)
  (h:Zac P.Y.K H ι P.Q (ZbC P.itd P.g P.ts P.f P.nM (P.itd.items[k] :: P.itd.items.drop (k + 1)) env M)) (F:Yg -> Prop):
  wpAny (model P.Y.prog P.Y.w) P.Y.A (Yf0 (.ref it)) (cbN P tg elt ifs it (P.itd.items.length - k) F) P.Y.xe s:=by
 obtain ⟨lk,h⟩:=Zac.iff h;obtain ⟨go,yl⟩:=(ok k H ι M x S lk).1 _ (Y6 hlt);cases eg:P.g P.itd.items[k] env with
 | none=>rw [eg] at h; exact h.elim
 | some env6=>
  rw [eg] at h;refine thn (T.item P.Y rfl rfl rfl hc k [] s σ H P.Y.xe I5 (hfp fr5) st5 go) fun r s6 zz1=>?_;obtain ⟨u,hr,h6⟩:=zz1;rw [hr];refine thn (Q':=fun _=>cbA P tg elt ifs (P.itd.items.length - k) u) h6 fun _ s7 zz1=>?_;obtain ⟨y,H7,I7,r7,y7,st7,fr7⟩:=zz1;obtain ⟨e7,rx⟩:=yl y H7 y7;rw [e7] at I7 fr7;refine thn (Q':=fun _=>cbS P elt ifs (P.itd.items.length - k)) (hg _ s7 σ H y u (fun σ' H'=>H' = H /\ Zbm P.Y.K H ι env6 σ') (I7.pinned (hfp fr7) (T.obj _ _ st7)) r7 ⟨ι,M,env,_,env6,S,E,rx,eg,fun σ' E'=>⟨rfl,E'⟩⟩) fun _ s8 zz1=>?_;obtain ⟨σ8,H8,I8,e8,E8⟩:=zz1;rw [e8] at I8;exact ZrD T hts helt st7 hlt I8 x S E8 hι h
theorem ZqC {n:Nat} (T:Turn P.Y.prog P.Y.w P.Y.K tg J P.fp it P.tn) (hc:P.Y.calm = true) (hfp:∀ {H':Hp},(∀ b ∈ P.fp,H' b = none) -> ∀ b ∈ P.fp,ZeK P.Y [] H' b)
  (I5:Inv P.Y [] σ H s) (st5:P.tn P.itd.items.length s.heap) (fr5:∀ b ∈ P.fp,H b = none) (x:Ext P.Y.K P.H2 P.ι2 H ι) (S:Zap P.Y.K H ι M) (hι:ι[P.nM]? = some P.acc) (ok:ZhK P.Y.K P.H2 P.ι2 P.itd J)
  (h:Zac P.Y.K H ι P.Q (ZbC P.itd P.g P.ts P.f P.nM [] env M)) {F:Yg -> Prop} (hF:∀ s6,Inv P.Y [] σ H s6 -> P.Q (.ref P.acc) H -> F s6):
  wpAny (model P.Y.prog P.Y.w) P.Y.A (Yf0 (.ref it)) (cbN P tg elt ifs it n F) P.Y.xe s:=by
 obtain ⟨lk,h⟩:=Zac.iff h;refine thn (T.done P.Y rfl rfl rfl hc _ [] s σ H P.Y.xe I5 (hfp fr5) st5 ((ok _ H ι M x S lk).2 rfl)) fun r s6 zz1=>?_;rw [zz1.1];exact hF s6 zz1.2 (h _ H ι Ext.refl S (Rep.ref hι))
end
section
variable {X:Cx} {elt tg iter:Expr} {ifs:List Expr} {scope:Scope} {pos:Pos} {i:I3} {own:Nat} {g:G3} {ts:List E3} {f:E3} {N':List Str}
structure ZgN (X:Cx) (scope:Scope) (N':List Str) (own:Nat):Prop where
 kind:scope.kind = .function
 cell:∀ y ∈ scope.names,y.2 ≠ .cell
 free:∀ y ∈ scope.names,y.2 = .free -> X.env.kindOf y.1 = some .cell \/ X.env.kindOf y.1 = some .free
 names:∀ y ∈ scope.names,y.2 = .local -> scope.names.lookup y.1 = some .local
 len:N'.length = X.N.length + own
 vis:ZoQ X.N N' scope = true
theorem ZqA {P:Cb} {J:It} {it:Addr} {s:Yg} {F:Yg -> Prop} (T:Turn P.Y.prog P.Y.w P.Y.K tg J P.fp it P.tn) (hc:P.Y.calm = true) (hfp:∀ {H':Hp},(∀ b ∈ P.fp,H' b = none) -> ∀ b ∈ P.fp,ZeK P.Y [] H' b)
  (hb:CG P.Y tg P.g /\ CTs P.Y ifs P.ts /\ C3 P.Y elt P.f) (ok:ZhK P.Y.K P.H2 P.ι2 P.itd J) {n:Nat} (z:CbJ P n s)
  (fin:∀ σ H s',Inv P.Y [] σ H s' -> P.Q (.ref P.acc) H -> F s'):wpAny (model P.Y.prog P.Y.w) P.Y.A (Yf0 (.ref it)) (cbN P tg elt ifs it n F) P.Y.xe s:=by
 obtain ⟨k,σ5,H5,ι5,M5,env5,I5,st5,fr5,hn,hk,x5,S5,E5,hι,h5⟩:=z;by_cases hlt:k < P.itd.items.length
 ·rw [Yb2 hlt] at h5
  exact hn ▸ Zun T hc hfp hb.1 hb.2.1 hb.2.2 hlt I5 st5 fr5 x5 S5 E5 hι ok h5 _
 ·rw [Yh hk (Y8 hlt)] at st5 h5
  rw [Ygu] at h5;exact ZqC T hc hfp I5 st5 fr5 x5 S5 hι ok h5 fun s6 I6 q=>fin σ5 H5 s6 I6 q
theorem Zk2 {pins:List (Addr × Obj)} {σ:St} {s3:Yg} {H2 H3:Hp} {ι2 ι3:List Addr} {M3:Store} {nM:Nat} {D:Addr} {env:Zaq} {it:Addr} {fp:List Addr} {tn:Nat -> Heap -> Prop} {J:It} {itd:It3} {Q:VK} {E:Value -> Yg -> Prop} (O:ZgN X scope N' own) (hc:X.calm = true)
  (hb:∀ C cl s H ex,CG (ZbT X scope N' C cl s H ex) tg g /\ CTs (ZbT X scope N' C cl s H ex) ifs ts /\ C3 (ZbT X scope N' C cl s H ex) elt f)
  (T:Turn X.prog X.w X.K tg J fp it tn) (st3:tn 0 s3.heap) (hlt3:∀ b ∈ fp,b < s3.heap.objs.size) (I3:Inv X pins σ H3 s3) (hfp3:∀ b ∈ fp,ZeK X pins H3 b) (x3:Ext X.K H2 ι2 H3 ι3) (S3:Zap X.K H3 ι3 M3) (E2:Zbm X.K H3 ι3 env σ) (ok:ZhK X.K H2 ι2 itd J)
  (h:Zac X.K H3 ι3 Q (ZbC itd g ts f nM itd.items (env ++ Yl own none) M3)) (hι:ι3[nM]? = some D)
  (RR:Value -> Addr -> Result -> Yg -> Prop)
  (fin:∀ (acc C:Addr) (s':Yg) (m:Str -> Option Value) (H':Hp),s'.heap.Ns C m -> ZeK X pins H' C -> Inv X pins σ H' s' -> Q (.ref acc) H' -> RR (.ref acc) C (.ok .next) s'):
  wpAny (model X.prog X.w) X.A (newFunctionEnv scope X.env.globals (ZcJ X.env.cells scope.names []) [] X.env.qual none .none (some X.env)) (fun cenv s₄=>
   Yha (model X.prog X.w) X.A (.compStart (.ListComp elt [⟨tg,iter,ifs,0⟩] scope pos) 0 (.ref it) (.ref D) { cenv with scope:=Yi5 scope X.env }) (RR (.ref D) cenv.locals) s₄) E s3:=by
 refine wpAny_newFunctionEnv O.cell (by intro y hy; cases hy) (fun h4 hns hsb=>?_) O.kind;have keep34:∀ b o,s3.heap.get? b = some o -> h4.get? b = some o:=fun b o e=>hsb.extBut b o (Y2 (Yo e)) (Yf _ e);have I4:=Zpm (own:=own) (N':=N') (tk:=s3.toks + ([]:List (Str × Value)).length) I3 O.kind O.cell O.free O.len O.vis hfp3 hlt3 hns keep34;have st4:tn 0 h4:=T.keep _ _ _ st3 fun b hb o e=>keep34 b o e;have L:=ZjX (prog:=X.prog) (w:=X.w) (A:=X.A) (R:=RR (.ref D) s3.heap.objs.size) (scope:=scope) (pos:=pos) (iter:=iter) (elt:=elt) (target:=tg) (ifs:=ifs) (env:=compEnvC scope (ZcJ X.env.cells scope.names []) s3.heap.objs.size X.env) (CbJ ⟨ZbT X scope N' s3.heap.objs.size (ZcJ X.env.cells scope.names []) s3 H3 fp,fp,tn,itd,H2,ι2,Q,g,ts,f,nM,D⟩) (fun n s5 z=>ZqA (P:=⟨ZbT X scope N' s3.heap.objs.size (ZcJ X.env.cells scope.names []) s3 H3 fp,fp,tn,itd,H2,ι2,Q,g,ts,f,nM,D⟩) T hc
  (fun hn b hb=>⟨hn b hb,Y2 (hlt3 b hb),fun hz=>I4.ok.exfs b hb hz,.inl hb,fun x c hx=>(I4.ok.exf b hb).2 x c hx,fun p hp=>absurd (show p ∈ ([]:List (Addr × Obj)) from hp) (by simp)⟩)
  (hb _ _ _ _ _) ok z
  fun σ' H' s6 I6 q=>I6.loc.elim fun m6 hn6=>fin _ _ s6 m6 H' hn6.1 (I3.fpOk (Yi _) I6.free) (I3.call' (ch:=fp) I6.os I6.base I6.hok I6.bare fun b hb=>⟨(hfp3 b hb).2.2.2.1,(hfp3 b hb).2.1,(hfp3 b hb).2.2.2.2.1,(hfp3 b hb).2.2.2.2.2⟩) q) _
  ⟨0,_,_,_,_,_,I4,st4,fun b hb=>(hfp3 b hb).1,rfl,Yag _,x3,S3,E2.grow own,hι,h⟩
 exact codeAny_compStart_list L (T.self _ 0 _ _ _ st4 L)
theorem ZhH {pins:List (Addr × Obj)} {σ:St} {s2:Yg} {H2:Hp} {ι2:List Addr} {M2:Store} {env:Zaq} {it:Addr} {fp:List Addr} {tn:Nat -> Heap -> Prop} {J:It} {itd:It3} {Q:VK} {E:Value -> Yg -> Prop} (O:ZgN X scope N' own) (hc:X.calm = true)
  (hb:∀ C cl s H ex,CG (ZbT X scope N' C cl s H ex) tg g /\ CTs (ZbT X scope N' C cl s H ex) ifs ts /\ C3 (ZbT X scope N' C cl s H ex) elt f)
  (I2:Inv X pins σ H2 s2) (T:Turn X.prog X.w X.K tg J fp it tn) (st0:tn 0 s2.heap) (hfp:∀ b ∈ fp,ZeK X pins H2 b) (S2:Zap X.K H2 ι2 M2) (E2:Zbm X.K H2 ι2 env σ) (ok:ZhK X.K H2 ι2 itd J)
  (h:Zac X.K H2 ι2 Q (ZbC itd g ts f M2.length itd.items (env ++ Yl own none) (M2 ++ [.lst []])))
  (RR:Value -> Addr -> Result -> Yg -> Prop)
  (fin:∀ (acc C:Addr) (s':Yg) (m:Str -> Option Value) (H':Hp),s'.heap.Ns C m -> ZeK X pins H' C -> Inv X pins σ H' s' -> Q (.ref acc) H' -> RR (.ref acc) C (.ok .next) s'):
  wpAny (model X.prog X.w) X.A (newList []) (fun acc s₃=>wpAny (model X.prog X.w) X.A (newFunctionEnv scope X.env.globals (ZcJ X.env.cells scope.names []) [] X.env.qual none .none (some X.env)) (fun cenv s₄=>
   Yha (model X.prog X.w) X.A (.compStart (.ListComp elt [⟨tg,iter,ifs,0⟩] scope pos) 0 (.ref it) acc { cenv with scope:=Yi5 scope X.env }) (RR acc cenv.locals) s₄) E s₃) E s2:=by
 refine Ycf ?_;have hD:H2 s2.heap.objs.size = none:=I2.hok.fresh (Yi _);obtain ⟨x3,S3,r3⟩:=S2.lst hD (Zz.nil (K:=X.K) (H:=H2) (ι:=ι2));have I3:Inv X pins σ (upd H2 s2.heap.objs.size (.lst [])) { s2 with heap:=s2.heap.push { cls:=.type "list",data:=.seq ([]:List Value).toArray } }:=
  I2.laid (t':=s2.toks) (fun b u e=>Yf _ e) (Yi _) ⟨Yag _,[],0,.nil,Yr _ rfl⟩
 have keep23:∀ b o,s2.heap.get? b = some o -> (s2.heap.push { cls:=.type "list",data:=.seq ([]:List Value).toArray }).get? b = some o:=fun b o e=>Yf _ e;generalize hs3:({ s2 with heap:=s2.heap.push { cls:=.type "list",data:=.seq ([]:List Value).toArray } }:Yg) = s3 at I3 ⊢;have keep23:∀ b o,s2.heap.get? b = some o -> s3.heap.get? b = some o:=by rw [← hs3]; exact keep23
 have lt2:∀ b ∈ fp,b < s2.heap.objs.size:=fun b hb=>(T.obj _ _ st0 b hb).elim fun o e=>Yo e.1;have hlt3:∀ b ∈ fp,b < s3.heap.objs.size:=fun b hb=>(T.obj _ _ st0 b hb).elim fun o e=>Yo (keep23 b o e.1);exact Zk2 O hc hb (T:=T) (st3:=T.keep _ _ _ st0 fun b hb o e=>keep23 b o e) (hlt3:=hlt3) (I3:=I3) (hfp3:=fun b hb=>⟨(Zaj (Y2 (lt2 b hb))).trans (hfp b hb).1,(hfp b hb).2⟩) (x3:=x3) (S3:=S3) (E2:=E2.mono x3) (ok:=ok) (h:=h.up x3) (hι:=by rw [← S2.len]; simp) RR fin
theorem Zng (O:ZgN X scope N' own) (hxe:X.xe = fun _ _=>False) (hc:X.calm = true) (hi:CI X tg iter i)
  (hb:∀ C cl s H ex,CG (ZbT X scope N' C cl s H ex) tg g /\ CTs (ZbT X scope N' C cl s H ex) ifs ts /\ C3 (ZbT X scope N' C cl s H ex) elt f)
  (hs:∀ x,Ycx iter X.env x = pure x:=by intro _; rfl):C3 X (.ListComp elt [⟨tg,iter,ifs,0⟩] scope pos) (eLC i own g ts f):=by
 intro pins s σ H Q I h;obtain ⟨ι,M,env,S,E,h⟩:=h;obtain ⟨itd,M1,e1,h⟩:=Zac.bind h;have hc0:∀ y ∈ scope.names,y.2 = .free -> ∃ c,X.env.cells.lookup y.1 = some c:=fun y hy e=>I.ok.has y.1 (O.free y hy e);rw [eval_ListComp];refine Yf7 (use:=none) rfl hs (ZfC hc0) O.kind O.names ?_;refine thn (hi pins s σ H (fun J H'=>∃ ι',Ext X.K H ι H' ι' /\ Zap X.K H' ι' M1 /\ ZhK X.K H' ι' itd J) I ⟨ι,M,env,S,E,by rw [e1]; exact fun J H' ι' x S' o=>⟨ι',x,S',o⟩⟩) fun v s1 h1=>thn h1 fun itv s2 h2=>?_;obtain ⟨it,fp,tn,J,H2,rfl,I2,T,st2,f2,ι2,x2,S2,ok⟩:=h2;refine ZhH (own:=own) (g:=g) (ts:=ts) (f:=f) O hc hb I2 T st2 f2 S2 (E.mono x2) ok (h.up x2) (fun acc C=>compPost (model X.prog X.w) X.A X.xe none (EP X pins σ Q) acc C) ?_;intro acc C s' m H' hn hf I' hq;obtain ⟨f0,f1,f2',f3,f4,f5⟩:=hf;exact ⟨m,hn,fun h' sb=>⟨.ref acc,H',I'.turned (t':=s'.toks) (fun b o hb e=>(sb.2 b hb).trans e) f0 f1 f3 f4 f5,rfl,hq⟩⟩
theorem ZhS (j:Nat) {x:Str} {pos' spos:Pos} (O:ZgN X scope N' own) (hxe:X.xe = fun _ _=>False) (hc:X.calm = true) (hN:X.N.Nodup) (hi:CI X tg iter i)
  (hb:∀ C cl s H ex,CG (ZbT X scope N' C cl s H ex) tg g /\ CTs (ZbT X scope N' C cl s H ex) ifs ts /\ C3 (ZbT X scope N' C cl s H ex) elt f)
  (hj:X.N[j]? = some x:=by rfl) (hx:Loc X.env.scope x:=by first | exact Or.inl rfl | exact Or.inr rfl)
  (hf:X.fn x = true \/ X.env.scope.names.lookup x = some .local:=by first | exact .inl rfl | exact .inr rfl)
  (hsw:Yfz (.ListComp elt [⟨tg,iter,ifs,0⟩] scope pos) (some (.Name x pos')) spos.line X.env = pure true:=by rfl)
  (hs:∀ x,Ycx iter X.env x = pure x:=by intro _; rfl):CS X (.Assign [.Name x pos'] (.ListComp elt [⟨tg,iter,ifs,0⟩] scope pos) spos) (ZaF j (eLC i own g ts f)):=by
 intro pins s σ H D I h;obtain ⟨ι,M,env,S,E,h⟩:=h;have h0:Zac X.K H ι (fun v H'=>D.nx (σ.set j (some v)) H') (eLC i own g ts f env M):=by
  unfold ZaF at h;cases q:eLC i own g ts f env M with
  | ok d M1=>rw [q] at h; exact fun v H1 ι1 x1 S1 r1=>h _ H1 ι1 x1 S1 ((E.mono x1).set j r1)
  | exc _ _=>rw [q] at h; exact h.elim
  | bad=>rw [q] at h; exact h.elim
 obtain ⟨itd,M1,e1,h1⟩:=Zac.bind h0;have hc0:∀ y ∈ scope.names,y.2 = .free -> ∃ c,X.env.cells.lookup y.1 = some c:=fun y hy e=>I.ok.has y.1 (O.free y hy e);rw [exec_Assign_Name_used _ _ _ _ hsw];refine Yc (Yd8 (Yc ?_));show wpAny _ X.A (do let _ ← comprehension (.ListComp elt [⟨tg,iter,ifs,0⟩] scope pos) scope X.env _ (newList []) false (eval iter X.env) (some (Yfi (.Name x pos') X.env))) _ _ s;refine Yc (Ybt (Yf7 (use:=some (Yfi (.Name x pos') X.env)) (Q:=fun _ s'=>SP X pins D .next s') rfl hs (ZfC hc0) O.kind O.names ?_) (fun _ s' hq=>Ym (Ym hq)) fun _ _ e=>e);refine thn (hi pins s σ H (fun J H'=>∃ ι',Ext X.K H ι H' ι' /\ Zap X.K H' ι' M1 /\ ZhK X.K H' ι' itd J) I ⟨ι,M,env,S,E,by rw [e1]; exact fun J H' ι' x S' o=>⟨ι',x,S',o⟩⟩) fun v s1 h1'=>thn h1' fun itv s2 h2=>?_;obtain ⟨it,fp,tn,J,H2,rfl,I2,T,st2,f2,ι2,x2,S2,ok⟩:=h2;refine ZhH (own:=own) (g:=g) (ts:=ts) (f:=f) O hc hb I2 T st2 f2 S2 (E.mono x2) ok (h1.up x2) (fun acc C=>compPost (model X.prog X.w) X.A X.xe (some (Yfi (.Name x pos') X.env)) (fun _ s'=>SP X pins D .next s') acc C) ?_;intro acc C s' m H' hn hfC I' hq;obtain ⟨f0,f1,f2',f3,f4,f5⟩:=hfC;show wpAny _ X.A (Yfi (.Name x pos') X.env (.ref acc)) _ _ s';refine wpAny_assign_Name (ZiX I' hN hj hx (show RelV (.ref acc) (.ref acc) from rfl) (fun s'' I'' ⟨a,sb,ha⟩=>?_) hf);have hCa:C ≠ a:=by
  rcases ha with rfl | ha
  ·exact f1
  ·exact Ya4 (f4 x a ha)
 exact ⟨m,hn.sameBut sb hCa,fun h' sb'=>⟨_,H',I''.turned (t':=s''.toks) (fun b o hb e=>(sb'.2 b hb).trans e) f0 f1 f3 f4 f5,hq⟩⟩
end
theorem ZcK {k:Nat} {A:Yar} (r:Zdw k A):A.units + 80 < cLine:=by have:=r.un; exact lC 1 0x2502b0c12c82b110d0cc11 T1 this
noncomputable def Its (x:Str):It:=⟨fun i _=>i < x.cps.size,fun i H y H'=>H' = H /\ ∃ c,x.cps[i]? = some c /\ y = .str ⟨#[c]⟩,fun i _=>i = x.cps.size⟩
theorem Zoo {P:Yaf} {w:World} {K:Ya} {tg:Expr} {it:Addr} {x:Str} {t:Tok} {ty:String} (W:∀ A':Yar,A'.handled = none -> Walks P w A' it [it] [it] x.cps.size (SignAt x) (fun i h=>h.IsStrIter it ty x t i))
  (hs:∀ (A:Yar) (i:Nat) (s:Yg) (Q:Value -> Yg -> Prop) (E:Value -> Yg -> Prop),s.heap.IsStrIter it ty x t i -> Q (.ref it) s -> wpAny (model P w) A (pyIter (.ref it)) Q E s)
  (hty:["enumerate","zip","dict_itemiterator","dict_reverseitemiterator","odict_iterator","itertools.zip_longest","itertools.pairwise"].contains ty = false):Turn P w K tg (Its x) [it] it (fun i h=>h.IsStrIter it ty x t i) where
 mem:=by simp
 obj:=fun i h st b hb=>by
  have e:b = it:=by simpa using hb
  subst e;obtain ⟨o,e,c,d⟩:=st;exact ⟨o,e,fun v z=>by rw [d] at z; cases z⟩
 keep:=fun i h h' st k=>let ⟨o,e,r⟩:=st; ⟨o,k it (by simp) o e,r⟩
 item:=by
  intro X hP hw hK hc i pins s σ H E I hf st hg;subst hP hw hK;obtain ⟨f0,f1,f2,f3,f4,f5⟩:=hf it (by simp);refine (W X.A (I.ok.hd hc)).item i s _ _ hg st fun v h' tk hv st' kk=>?_;obtain ⟨c,u,hx,rfl⟩:=hv;have I1:Inv X pins σ H { s with heap:=h',toks:=tk }:=I.turned (fun b o hb e=>kk b o (by simpa using hb) e) f0 f1 f3 f4 f5;obtain ⟨o,e,cc,d⟩:=id st';exact ⟨_,rfl,Zli (s:={ s with heap:=h',toks:=tk }) e cc d hty ⟨.str ⟨#[c]⟩,H,I1,⟨u,rfl⟩,⟨rfl,c,hx,rfl⟩,st',fun b hb=>(hf b hb).1⟩⟩
 done:=by
  intro X hP hw hK hc i pins s σ H E I hf st hg;subst hP hw hK;obtain ⟨f0,f1,f2,f3,f4,f5⟩:=hf it (by simp);have e:i = x.cps.size:=hg;subst e;exact (W X.A (I.ok.hd hc)).done s _ _ st fun h' tk kk=>⟨rfl,I.turned (fun b o hb e=>kk b o (by simpa using hb) e) f0 f1 f3 f4 f5⟩
 self:=hs
section
variable {X:Cx} {tg e o:Expr} {es:List Expr} {pos p apos cpos:Pos} {f:E3} {gl:EL3}
theorem ZsU (h:C3 X e f):PI X tg e (fun σ H R=>tOf X.K f σ H fun x H1=>∃ z:Str,x = .str z /\ z.length <= SZ /\ ∀ J,(∀ ι,ZhK X.K H1 ι ⟨z.cps.toList.map fun c=>.str [c],none⟩ J) -> R J H1):=by
 intro pins s σ H R I hw;refine thn (h pins s σ H _ I hw) fun v s1 zz1=>?_;obtain ⟨x,H1,I1,r1,z,ex,hz,q⟩:=zz1;subst ex;obtain ⟨t,rfl⟩:=r1;have key:∀ (ty:String) (o:Obj),(∀ A':Yar,A'.handled = none -> Walks X.prog X.w A' s1.heap.objs.size [s1.heap.objs.size] [s1.heap.objs.size] z.cps.size (SignAt z) (fun i h=>h.IsStrIter s1.heap.objs.size ty z t i)) ->
   (∀ (A:Yar) (i:Nat) (s:Yg) (Q:Value -> Yg -> Prop) (E:Value -> Yg -> Prop),s.heap.IsStrIter s1.heap.objs.size ty z t i -> Q (.ref s1.heap.objs.size) s -> wpAny (model X.prog X.w) A (pyIter (.ref s1.heap.objs.size)) Q E s) ->
   ["enumerate","zip","dict_itemiterator","dict_reverseitemiterator","odict_iterator","itertools.zip_longest","itertools.pairwise"].contains ty = false -> (s1.heap.push o).IsStrIter s1.heap.objs.size ty z t 0 ->
   PIE X pins σ tg R (.ref s1.heap.objs.size) { s1 with heap:=s1.heap.push o }:=by
  intro ty o W hs hty st;refine ⟨s1.heap.objs.size,[s1.heap.objs.size],_,_,H1,rfl,I1.kept (t':=s1.toks) fun b o e=>Yf _ e,Zoo W hs hty,st,fun b hb=>?_,q _ fun ι=>?_⟩
  ·have e:b = s1.heap.objs.size:=by simpa using hb
   subst e;exact I1.fpOk (Yi _) (I1.hok.fresh (Yi _))
  ·intro i H2 ι2 M2 x S _
   refine ⟨fun d hd=>?_,fun hl=>?_⟩
   ·rw [Yp] at hd
    cases hq:z.cps.toList[i]? with
    | none=>rw [hq] at hd; cases hd
    | some c=>
     rw [hq] at hd;have hd':D.str [c] = d:=by simpa using hd
     subst hd';have hi:i < z.cps.size:=by
      have:=(Yb.mp hq).1;simpa using this
     refine ⟨hi,fun y H3 hy=>⟨hy.1,?_⟩⟩;obtain ⟨_,c',hc',rfl⟩:=hy;have:c' = c:=by
      rw [← Yhl,hq] at hc';exact (Yao hc').symm
     subst this;exact Rep.str
   ·show i = z.cps.size
    rw [hl];simp
 cases ha:z.cps.all (· < 128)
 ·exact wpAny_pyIter_wide ha (key "str_iterator" _ (fun A' hA=>Walks.strWide hA _ z t) (fun _ _ _ _ _ st h=>wpAny_pyIter_striter_wide st h) (by decide) ⟨_,Yr _ rfl,rfl,rfl⟩)
 ·exact wpAny_pyIter_ascii ha (key "str_ascii_iterator" _ (fun A' hA=>Walks.strAscii hA _ z t) (fun _ _ _ _ _ st h=>wpAny_pyIter_striter_ascii st h) (by decide) ⟨_,Yr _ rfl,rfl,rfl⟩)
theorem Zj3 (h:C3 X e f):CI X tg e (Zdl f):=Zss h (ZsU h)
theorem ZjE {K:Ya} {T:String} {ty:D -> Store -> Bool} {m:D -> List D -> Store -> R3 D} (hty:∀ H ι M a x,Zap K H ι M -> Rep K H ι a x -> ty a M = true -> tyV K T x H) (σ:St) (H:Hp) (Q:VK) (h:tOf K (ZaR ty m f gl) σ H Q):tBM K T (rM K m) (tOf K f) (tAf K gl) σ H Q:=by
 obtain ⟨ι,M,env,S,E,h⟩:=h;obtain ⟨a,M1,e1,h⟩:=Zac.bind h;refine ⟨ι,M,env,S,E,?_⟩;rw [e1];intro v H1 ι1 x1 S1 r1;by_cases ht:ty a M1 = true
 ·rw [if_pos ht] at h
  obtain ⟨ds,M2,e2,h⟩:=Zac.bind h;refine ⟨hty _ _ _ _ _ S1 r1 ht,ι1,M1,env,S1,E.mono x1,?_⟩;rw [e2];intro vs H2 ι2 x2 S2 r2;exact ⟨ι2,M2,a,ds,S2,r1.mono x2,r2,(h.up x1).up x2⟩
 ·rw [if_neg ht] at h; exact h.elim
theorem Zlp {K:Ya} (H:Hp) (ι:List Addr) (M:Store) (a:D) (x:V) (_:Zap K H ι M) (r:Rep K H ι a x) (h:tyS a M = true):tyV K "str" x H:=by
 cases a with
 | str z=>rw [r.str_inv]; rfl
 | _=>simp at h
theorem Zs8 {K:Ya} (H:Hp) (ι:List Addr) (M:Store) (a:D) (x:V) (S:Zap K H ι M) (r:Rep K H ι a x) (h:tyL a M = true):tyV K "list" x H:=by
 cases a with
 | ref n=>
  simp only [tyL] at h;cases hn:M[n]? with
  | none=>simp [hn] at h
  | some o=>
   cases o with
   | dct _=>simp [hn] at h
   | fdct _=>simp [hn] at h
   | ins _ _=>simp [hn] at h
   | lst xs=>
    obtain ⟨p,hp,rfl⟩:=r.ref_inv;obtain ⟨vs,e,_⟩:=S.obj n _ p hn hp;exact .inl ⟨rfl,vs,SqL.of e⟩
 | _=>simp at h
theorem _root_.L2.MtR.imp {id:String} {r r':V -> List V -> Hp -> VK -> Prop} (h:MtR X id r) (i:∀ x xs H Q,r' x xs H Q -> r x xs H Q):MtR X id r':=fun pins s σ H x xs v us Q I rx rs q=>h pins s σ H x xs v us Q I rx rs (i x xs H Q q)
theorem Zpv:MtR X "list.append" (rM X.K ZaD):=MtR.imp (r:=ZmL) ZiM fun x xs H Q zz1=>by
 obtain ⟨ι,M,a,ds,S,ra,rd,h⟩:=zz1;cases a with
 | ref n=>
  cases ds with
  | nil=>exact h.elim
  | cons d ds=>
   cases ds with
   | cons _ _=>exact h.elim
   | nil=>
    simp only [ZaD] at h;cases hn:M[n]? with
    | none=>simp only [hn] at h; exact h.elim
    | some o=>
     cases o with
     | dct _=>simp only [hn] at h; exact h.elim
     | fdct _=>simp only [hn] at h; exact h.elim
     | ins _ _=>simp only [hn] at h; exact h.elim
     | lst z=>
      simp only [hn] at h;split at h
      ·rename_i hz
       obtain ⟨p,hp,rfl⟩:=ra.ref_inv;obtain ⟨v,ws,rfl,r1,r2⟩:=rd.cons_inv;have:=r2.nil_inv;subst this;obtain ⟨vs,e,rv⟩:=S.obj n _ p hn hp;obtain ⟨x2,S2⟩:=S.setl (.inr (.inl ⟨_,e⟩)) hp (rv.append (Zz.cons r1 Zz.nil));exact ⟨p,vs,v,rfl,rfl,e,by rw [rv.length]; exact Y0 hz Zbw,h _ _ _ x2 S2 Rep.non⟩
      ·exact h.elim
 | _=>exact h.elim
theorem ZaW (ho:C3 X o f) (ha:CA X (e :: es) gl)
  (hbase:Ydm o "append" X.env (eval o X.env) = eval o X.env:=by rfl)
  (hfew:((Ycl cpos (Yx (e :: es) X.env)).all (fun x=>!x.1) && (Ydk cpos (Ybz [] X.env)).all (fun x=>x.1.isSome)
   && decide ((e :: es).length + ([]:List Keyword).length + (if ([]:List Keyword).isEmpty then 0 else 1) < 30)) = true:=by rfl)
  (hline:(apos.endLine == cpos.line) = true:=by rfl) (hs:Yx (e :: es) X.env = (false,eval e X.env) :: Yx es X.env:=by rfl) (hplain:(Ycl cpos (Yx es X.env)).any (·.1) = false:=by rfl):
  C3 X (.Call (.Attribute o "append" apos) (e :: es) [] cpos) (ZaR tyL ZaD f gl):=
 (ZmN PySem.F.plainAttrs_list PySem.F.slot_list_append PySem.F.type_list_append Zpv ho ha hbase hfew hline hs hplain).imp (ZjE Zs8)
theorem Zqr (x y:List Nat):Txt.startswith (⟨x.toArray⟩:Str) ⟨y.toArray⟩ = y.isPrefixOf x:=by
 unfold Txt.startswith Builtin.Str.subAt;simp only [Ybu,Ye,Ya3];rw [Bool.eq_iff_iff];simp only [Yu,decide_eq_true_eq,beq_iff_eq,List.isPrefixOf_iff_prefix];constructor
 ·rintro ⟨_,h⟩
  have h':=congrArg Yer h;simp at h';rw [Ygk];exact h'.symm
 ·intro h
  refine ⟨h.length_le,?_⟩;rw [Ygk] at h;apply Array.toList_inj.mp;simp;exact h.symm
theorem m_startswith:MtR X "str.startswith" (rM X.K ZaZ):=by
 intro pins s σ H x xs v us Q I rx rs h;obtain ⟨ι,M,a,ds,S,ra,rd,h⟩:=h;cases a with
 | str z=>
  cases ds with
  | nil=>exact h.elim
  | cons d ds=>
   cases ds with
   | cons _ _=>cases d <;> exact h.elim
   | nil=>
    cases d with
    | str y=>
     simp only [ZaZ] at h;split at h
     ·have:=ra.str_inv
      subst this;obtain ⟨w',ws,rfl,r1,r2⟩:=rd.cons_inv;have:=r2.nil_inv;subst this;have:=r1.str_inv;subst this;obtain ⟨t,rfl⟩:=rx;obtain ⟨u,rfl,ru⟩:=vals1 rs;obtain ⟨t',rfl⟩:=ru;refine SC.startswith ?_;rw [Zqr];exact ⟨.bl _,H,I,rfl,Zac.ok h S Rep.bl⟩
     ·exact h.elim
    | _=>exact h.elim
 | _=>exact h.elim
theorem Zes (ho:C3 X o f) (ha:CA X (e :: es) gl)
  (hbase:Ydm o "startswith" X.env (eval o X.env) = eval o X.env:=by rfl)
  (hfew:((Ycl cpos (Yx (e :: es) X.env)).all (fun x=>!x.1) && (Ydk cpos (Ybz [] X.env)).all (fun x=>x.1.isSome)
   && decide ((e :: es).length + ([]:List Keyword).length + (if ([]:List Keyword).isEmpty then 0 else 1) < 30)) = true:=by rfl)
  (hline:(apos.endLine == cpos.line) = true:=by rfl) (hs:Yx (e :: es) X.env = (false,eval e X.env) :: Yx es X.env:=by rfl) (hplain:(Ycl cpos (Yx es X.env)).any (·.1) = false:=by rfl):
  C3 X (.Call (.Attribute o "startswith" apos) (e :: es) [] cpos) (ZaR tyS ZaZ f gl):=
 (ZmN Yej PySem.F.slot_str_startswith PySem.F.type_str_startswith m_startswith ho ha hbase hfew hline hs hplain).imp (ZjE Zlp)
theorem Zts:OpR X (Ya5 .In) (r2 X.K fun a b M=>match a,b with | .str [c],.str y=>.ok (.bl (decide (c ∈ y))) M | _,_=>.bad):=OpR.imp Zm2 fun x y H Q zz1=>by
 obtain ⟨ι,M,a,b,S,ra,rb,h⟩:=zz1;cases a with
 | str z=>
  cases z with
  | nil=>cases b <;> exact h.elim
  | cons c z=>
   cases z with
   | cons _ _=>cases b <;> exact h.elim
   | nil=>
    cases b with
    | str y=>
     refine ⟨_,_,ra.str_inv,rb.str_inv,?_⟩;have e:=StrLaws.found_one (⟨y.toArray⟩:Str) c;rw [show (⟨[c].toArray⟩:Str) = ⟨#[c]⟩ from rfl,e];exact Zac.ok h S Rep.bl
    | _=>exact h.elim
 | _=>cases b <;> exact h.elim
end
section
variable {X:Cx}
theorem ZrI {pins:List (Addr × Obj)} {σ:St} {H:Hp} {s:Yg} {ι:List Addr} {M:Store} {a b:D} {x y:V} {u v:Value} {k:Bool} (hu:X.A.units + 80 < cLine) (I:Inv X pins σ H s) (S:Zap X.K H ι M)
  (ra:Rep X.K H ι a x) (rb:Rep X.K H ι b y) (ru:RelV x u) (rv:RelV y v) (h:eqD a b M = some k):SeqAt.RcNeAt X.A s u v (!k):=by
 cases a with
 | ref n=>
  cases b with
  | ref m=>
   simp only [eqD] at h;cases hn:M[n]? with
   | none=>simp [hn] at h
   | some o=>
    cases o with
    | dct _=>simp [hn] at h
    | fdct _=>simp [hn] at h
    | ins _ _=>simp [hn] at h
    | lst ds=>
     cases hm:M[m]? with
     | none=>simp [hn,hm] at h
     | some o=>
      cases o with
      | dct _=>simp [hn,hm] at h
      | fdct _=>simp [hn,hm] at h
      | ins _ _=>simp [hn,hm] at h
      | lst es=>
       simp only [hn,hm] at h;split at h
       ·rename_i hp
        cases h
        rw [Yu] at hp;obtain ⟨p,hp1,rfl⟩:=ra.ref_inv;obtain ⟨q,hq1,rfl⟩:=rb.ref_inv;cases ru;cases rv;obtain ⟨vs,e1,r1⟩:=S.obj n _ p hn hp1;obtain ⟨ws,e2,r2⟩:=S.obj m _ q hm hq1;obtain ⟨its,rvs,pl1,_⟩:=I.list (SqL.of e1);obtain ⟨its2,rws,pl2,_⟩:=I.list (SqL.of e2);have it1:=pl1.isList;have it2:=pl2.isList;have l1:its.length = ds.length:=by rw [← rvs.length,r1.length]
        have l2:its2.length = es.length:=by rw [← rws.length,r2.length]
        have hu1:X.A.units < cLine:=lB 1 17666545486865 T1 hu;by_cases hl:ds.length = es.length
        ·have key:(Yaa its.toArray.size).all (fun j=>match ds[j]?,es[j]? with | some a,some b=>deq a b | _,_=>false) = Zc4 ds es:=by
          rw [Ye,l1];exact ZcR hl fun j a b h1 h2=>by rw [h1,h2]
         rw [← key];refine SeqAt.RcNeAt.lists it1 it2 (by rw [Ye,Ye,l1,l2,hl]) hu1 fun j h1 h2=>?_;have h1':j < ds.length:=by rw [← l1]; simpa using h1
         have h2':j < es.length:=by rw [← l2]; simpa using h2
         have q1:ds[j]? = some ds[j]:=by simp [h1']
         have q2:es[j]? = some es[j]:=by simp [h2']
         rw [q1,q2];obtain ⟨v1,g1,z1⟩:=r1.get q1;obtain ⟨v2,g2,z2⟩:=r2.get q2;obtain ⟨u1,k1,w1⟩:=rvs.get g1;obtain ⟨u2,k2,w2⟩:=rws.get g2;have m1:its.toArray[j] = u1:=by
          have:=Yb.mp k1;simpa using this.2
         have m2:its2.toArray[j] = u2:=by
          have:=Yb.mp k2;simpa using this.2
         rw [m1,m2];exact Zjc I DEEP X.A.in1 ds[j] es[j] v1 v2 u1 u2 (by rw [units_in1]; show X.A.units + 1 + 60 + 1 < cLine; exact lB 1 0x1a3c2ba0ccc11502b0c11 T1 hu) (Y5.mp hp.1 _ (Y4 h1')) (Y5.mp hp.2 _ (Y4 h2')) z1 z2 w1 w2
        ·have z:Zc4 ds es = false:=by
          cases q:Zc4 ds es with
          | false=>rfl
          | true=>exact absurd (Zeq q) hl
         rw [z];exact SeqAt.RcNeAt.lists_lengths it1 it2 (by rw [Ye,Ye,l1,l2]; simpa using hl) hu1
       ·cases h
  | _=>simp [eqD] at h
 | int i=>cases b with
  | int j=>
   simp only [eqD] at h;cases h;have:=ra.int_inv; subst this; have:=rb.int_inv; subst this;obtain ⟨t,rfl⟩:=ru;obtain ⟨t',rfl⟩:=rv;rw [← Yb7];exact SeqAt.RcNeAt.int_int _ _ _ _
  | _=>simp [eqD] at h
 | str i=>cases b with
  | str j=>
   simp only [eqD] at h;cases h;have:=ra.str_inv; subst this; have:=rb.str_inv; subst this;obtain ⟨t,rfl⟩:=ru;obtain ⟨t',rfl⟩:=rv;have e:decide (i = j) = ((⟨i.toArray⟩:Str) == ⟨j.toArray⟩):=by
    rw [← Yb7,← ZfX];by_cases h:(⟨i.toArray⟩:Str) = ⟨j.toArray⟩
    ·simp [h]
    ·simp [h]
   rw [e];exact SeqAt.RcNeAt.str_str _ _ _ _
  | _=>simp [eqD] at h
 | bl i=>cases b with
  | bl j=>
   simp only [eqD] at h;cases h;have:=ra.bl_inv; subst this; have:=rb.bl_inv; subst this;cases ru;cases rv;rw [← Yb7];exact SeqAt.RcNeAt.bool_bool _ _
  | _=>simp [eqD] at h
 | tup ds=>cases b with
  | tup es=>
   simp only [eqD] at h;split at h
   ·rename_i hp
    cases h
    rw [Yu] at hp;obtain ⟨p,vs,rfl,s1,r1⟩:=ra.tup_inv;obtain ⟨p',ws,rfl,s2,r2⟩:=rb.tup_inv;cases ru;cases rv;obtain ⟨its,rvs,ht,_⟩:=I.tuple s1;obtain ⟨its2,rws,ht2,_⟩:=I.tuple s2;have e1:its.length = ds.length:=by rw [← rvs.length,r1.length]
    have e2:its2.length = es.length:=by rw [← rws.length,r2.length]
    have hu1:X.A.units < cLine:=lB 1 17666545486865 T1 hu;have key:((Yaa (min its.toArray.size its2.toArray.size)).all (fun j=>match ds[j]?,es[j]? with | some a,some b=>deq a b | _,_=>false) && its.toArray.size == its2.toArray.size) = Zc4 ds es:=by
     rw [Ye,Ye,e1,e2];by_cases hl:ds.length = es.length
     ·rw [hl,Yhj,beq_self_eq_true,Ygj,← hl]
      exact ZcR hl fun j a b h1 h2=>by rw [h1,h2]
     ·have z:Zc4 ds es = false:=by
       cases q:Zc4 ds es with
       | false=>rfl
       | true=>exact absurd (Zeq q) hl
      rw [z,beq_eq_false_iff_ne.mpr hl,Yia]
    rw [← key];refine SeqAt.RcNeAt.tuples (show s.heap.IsTuple p its.toArray from ht) (show s.heap.IsTuple p' its2.toArray from ht2) hu1 fun j h1 h2=>?_;have h1':j < ds.length:=by rw [← e1]; simpa using h1
    have h2':j < es.length:=by rw [← e2]; simpa using h2
    have q1:ds[j]? = some ds[j]:=by simp [h1']
    have q2:es[j]? = some es[j]:=by simp [h2']
    rw [q1,q2];obtain ⟨v1,g1,z1⟩:=r1.get q1;obtain ⟨v2,g2,z2⟩:=r2.get q2;obtain ⟨u1,k1,w1⟩:=rvs.get g1;obtain ⟨u2,k2,w2⟩:=rws.get g2;have m1:its.toArray[j] = u1:=by
     have:=Yb.mp k1;simpa using this.2
    have m2:its2.toArray[j] = u2:=by
     have:=Yb.mp k2;simpa using this.2
    rw [m1,m2];exact Zjc I DEEP X.A.in1 ds[j] es[j] v1 v2 u1 u2 (by rw [units_in1]; show X.A.units + 1 + 60 + 1 < cLine; exact lB 1 0x1a3c2ba0ccc11502b0c11 T1 hu) (Y5.mp hp.1 _ (Y4 h1')) (Y5.mp hp.2 _ (Y4 h2')) z1 z2 w1 w2
   ·cases h
  | _=>simp [eqD] at h
 | _=>cases b <;> simp [eqD] at h
theorem Znf (hu:X.A.units + 80 < cLine):OpR X (Ya5 .NotEq) (r2 X.K ZeP):=by
 intro pins s σ H x y v u Q I rx ry h;obtain ⟨ι,M,a,b,S,ra,rb,h⟩:=h;unfold ZeP at h;cases q:eqD a b M with
 | none=>rw [q] at h; exact h.elim
 | some k=>
  rw [q] at h;exact ZrI hu I S ra rb rx ry q X.prog X.w X.xe _ ⟨.bl (!k),H,I,rfl,Zac.ok h S Rep.bl⟩
theorem Zhr {K:Ya} {H:Hp} {ι:List Addr} {d:D} {v:V} (r:Rep K H ι d v) (h:Za9 d = true):Zfy v = true:=by
 cases d with
 | non=>rw [r.non_inv]; rfl
 | bl b=>rw [r.bl_inv]; rfl
 | int i=>rw [r.int_inv]; rfl
 | str x=>rw [r.str_inv]; rfl
 | _=>simp [Za9] at h
theorem ZpV (x y:List Nat):((⟨x.toArray⟩:Str) == ⟨y.toArray⟩) = (x == y):=by
 rw [Bool.eq_iff_iff];simp
theorem Zp4 {K:Ya} {H:Hp} {ι:List Addr} {d e:D} {v w:V} (r:Rep K H ι d v) (q:Rep K H ι e w) (h:Za9 d = true) (h':Za9 e = true):eqV v w = deq d e:=by
 cases d with
 | non=>have:=r.non_inv; subst this; cases e with
  | non=>have:=q.non_inv; subst this; rfl
  | bl _=>have:=q.bl_inv; subst this; rfl
  | int _=>have:=q.int_inv; subst this; rfl
  | str _=>have:=q.str_inv; subst this; rfl
  | _=>simp [Za9] at h'
 | bl _=>have:=r.bl_inv; subst this; cases e with
  | non=>have:=q.non_inv; subst this; rfl
  | bl _=>have:=q.bl_inv; subst this; rfl
  | int _=>have:=q.int_inv; subst this; rfl
  | str _=>have:=q.str_inv; subst this; rfl
  | _=>simp [Za9] at h'
 | int _=>have:=r.int_inv; subst this; cases e with
  | non=>have:=q.non_inv; subst this; rfl
  | bl _=>have:=q.bl_inv; subst this; rfl
  | int _=>have:=q.int_inv; subst this; rfl
  | str _=>have:=q.str_inv; subst this; rfl
  | _=>simp [Za9] at h'
 | str _=>have:=r.str_inv; subst this; cases e with
  | non=>have:=q.non_inv; subst this; rfl
  | bl _=>have:=q.bl_inv; subst this; rfl
  | int _=>have:=q.int_inv; subst this; rfl
  | str _=>have:=q.str_inv; subst this; exact ZpV _ _
  | _=>simp [Za9] at h'
 | _=>simp [Za9] at h
theorem Zka {K:Ya} {H:Hp} {ι:List Addr} {d:D} {v:V} (r:Rep K H ι d v) (h:Za9 d = true):∀ {ds:List D} {vs:List V},Zz K H ι ds vs -> ds.all Za9 = true -> vs.all Zfy = true /\ inV v vs = ds.any fun y=>deq y d
 | [],_,q,_=>by rw [q.nil_inv]; exact ⟨rfl,rfl⟩
 | e :: ds,_,q,hd=>by
  obtain ⟨w,ws,rfl,r1,r2⟩:=q.cons_inv;rw [Ybc,Yu] at hd;obtain ⟨h1,h2⟩:=Zka r h r2 hd.2;refine ⟨by rw [Ybc,Zhr r1 hd.1,h1]; rfl,?_⟩;unfold inV at h2 ⊢;rw [Ybd,Ybd,h2,Zp4 r1 r hd.1 h]
theorem ZtA (hu:X.A.units + 80 < cLine):OpR X (Ya5 .In) (r2 X.K Zjg):=OpR.imp (OpR.or Zts Zns) fun x y H Q zz1=>by
 obtain ⟨ι,M,a,b,S,ra,rb,h⟩:=zz1;have seq:∀ (d:D) (ys:List D),b = .tup ys -> (Za9 d && ys.all Za9) = true -> a = d -> Q (.bl (ys.any fun y=>deq y d)) H -> rIn X.K false x y H Q:=by
  rintro d ys rfl hf rfl q;rw [Yu] at hf;obtain ⟨p,vs,rfl,s,r⟩:=rb.tup_inv;obtain ⟨h1,h2⟩:=Zka ra hf.1 r hf.2;exact ⟨p,vs,rfl,.inr s,Zhr ra hf.1,h1,by rw [if_neg (by decide),h2]; exact q⟩
 cases b with
 | tup ys=>
  have h':Zac X.K H ι Q (match (if Za9 a && ys.all Za9 then some (ys.any fun y=>deq y a) else none) with | some r=>.ok (.bl r) M | none=>.bad):=by
   cases a with
   | str z=>cases z with
    | nil=>exact h
    | cons c z=>cases z <;> exact h
   | _=>exact h
  by_cases hf:(Za9 a && ys.all Za9) = true
  ·rw [if_pos hf] at h'
   exact .inr (seq a ys rfl hf rfl (Zac.ok h' S Rep.bl))
  ·rw [if_neg hf] at h'; exact h'.elim
 | str y=>cases a with
  | str z=>cases z with
   | nil=>exact h.elim
   | cons c z=>cases z with
    | nil=>exact .inl ⟨ι,M,_,_,S,ra,rb,h⟩
    | cons _ _=>exact h.elim
  | _=>exact h.elim
 | _=>cases a with
  | str z=>cases z with
   | nil=>exact h.elim
   | cons c z=>cases z <;> exact h.elim
  | _=>exact h.elim
theorem ZoE:OpR X (Ya5 .NotIn) (r2 X.K fun a b M=>match a,b with | .str [c],.str y=>.ok (.bl (!decide (c ∈ y))) M | _,_=>.bad):=OpR.imp Zjw fun x y H Q zz1=>by
 obtain ⟨ι,M,a,b,S,ra,rb,h⟩:=zz1;cases a with
 | str z=>
  cases z with
  | nil=>cases b <;> exact h.elim
  | cons c z=>
   cases z with
   | cons _ _=>cases b <;> exact h.elim
   | nil=>
    cases b with
    | str y=>
     refine ⟨_,_,ra.str_inv,rb.str_inv,?_⟩;have e:=StrLaws.found_one (⟨y.toArray⟩:Str) c;rw [show (⟨[c].toArray⟩:Str) = ⟨#[c]⟩ from rfl,e];exact Zac.ok h S Rep.bl
    | _=>exact h.elim
 | _=>cases b <;> exact h.elim
theorem Zp5 (hu:X.A.units + 80 < cLine):OpR X (Ya5 .NotIn) (r2 X.K Zf5):=OpR.imp (OpR.or ZoE Zjx) fun x y H Q zz1=>by
 obtain ⟨ι,M,a,b,S,ra,rb,h⟩:=zz1;have seq:∀ (d:D) (ys:List D),b = .tup ys -> (Za9 d && ys.all Za9) = true -> a = d -> Q (.bl (!(ys.any fun y=>deq y d))) H -> rIn X.K true x y H Q:=by
  rintro d ys rfl hf rfl q;rw [Yu] at hf;obtain ⟨p,vs,rfl,s,r⟩:=rb.tup_inv;obtain ⟨h1,h2⟩:=Zka ra hf.1 r hf.2;exact ⟨p,vs,rfl,.inr s,Zhr ra hf.1,h1,by rw [if_pos rfl,h2]; exact q⟩
 cases b with
 | tup ys=>
  have h':Zac X.K H ι Q (match (if Za9 a && ys.all Za9 then some (ys.any fun y=>deq y a) else none) with | some r=>.ok (.bl (!r)) M | none=>.bad):=by
   cases a with
   | str z=>cases z with
    | nil=>exact h
    | cons c z=>cases z <;> exact h
   | _=>exact h
  by_cases hf:(Za9 a && ys.all Za9) = true
  ·rw [if_pos hf] at h'
   exact .inr (seq a ys rfl hf rfl (Zac.ok h' S Rep.bl))
  ·rw [if_neg hf] at h'; exact h'.elim
 | str y=>cases a with
  | str z=>cases z with
   | nil=>exact h.elim
   | cons c z=>cases z with
    | nil=>exact .inl ⟨ι,M,_,_,S,ra,rb,h⟩
    | cons _ _=>exact h.elim
  | _=>exact h.elim
 | _=>cases a with
  | str z=>cases z with
   | nil=>exact h.elim
   | cons c z=>cases z <;> exact h.elim
  | _=>exact h.elim
theorem Zps (x:List Nat) (n:Nat) (a:List Nat):(Yl n x.toArray).foldl (· ++ ·) a.toArray = (a ++ (Yl n x).flatten).toArray:=by
 induction n generalizing a with
 | zero=>simp
 | succ n ih=>
  rw [Ya9,Ye6,Ya9,Yb1];have:=ih (a ++ x);simp only [List.append_toArray] at this ⊢;rw [this];simp
theorem Zsz (x:List Nat) (k:Int):Txt.mul (⟨x.toArray⟩:Str) k = ⟨(Yl k.toNat x).flatten.toArray⟩:=by
 unfold Txt.mul;split
 ·rename_i h
  have:k.toNat = 0:=Yh (Yb4 (Int.toNat_of_nonpos (iN [] [_] 1 235446417 T1 h))) (Yag _);rw [this]; rfl
 ·split
  ·rename_i h1 h2
   simp only [Yc3,beq_iff_eq,Ybu,Ye] at h2;rcases h2 with h2 | h2
   ·subst h2; simp
   ·have:x = []:=Yc9 h2
    subst this;simp
  ·have:=Zps x k.toNat []
   rw [Ybq] at this;exact congrArg Str.mk this
theorem Zz.repl {K:Ya} {H:Hp} {ι:List Addr} {ds:List D} {vs:List V} (r:Zz K H ι ds vs):∀ k:Nat,Zz K H ι (Yl k ds).flatten (Yl k vs).flatten
 | 0=>Zz.nil
 | k + 1=>by rw [Ya9,Ya9,Yb1,Yb1]; exact r.append (Zz.repl r k)
theorem Zt7:OpR X (Yb8 .Mult) (r2 X.K Zgk):=by
 have hs:OpR X (Yb8 .Mult) (fun x y H Q=>∃ (z:List Nat) (k:Int),x = .str ⟨z.toArray⟩ /\ y = .int k /\ z.length * k.toNat <= 1000000 /\ k < 1000000 /\ -1000000 < k /\ Q (.str ⟨(Yl k.toNat z).flatten.toArray⟩) H):=by
  intro pins s σ H x y v u Q I rx ry h;obtain ⟨z,k,rfl,rfl,h1,h2,h3,q⟩:=h;obtain ⟨t,rfl⟩:=rx;obtain ⟨t',rfl⟩:=ry;refine SB.mul ⟨?_,fun h4 h5=>?_,fun h4 h5=>?_⟩ fun t'' tk=>?_
  ·simp; omega
  ·simp only [Ybu,Ye]
   simp at h4 h5;have hk:2 <= k:=by
    simp only [Ybu,Ye] at h5;omega
   have e:(k.toNat:Int) = k:=Ycg (Yfe (Ya8 (iN [] [_] 1 3892452225 T1 hk))) ((Ydn _));have hm:(z.length:Int) * k <= 1000000:=by
    have h1':((z.length * k.toNat:Nat):Int) <= 1000000:=Yep.mpr h1;rw [Yg5,e] at h1';exact h1'
   have hd:(z.length:Int) <= 9223372036854775807 / k:=Int.le_ediv_of_mul_le (iN [] [_] 1 3909229441 T1 hk) (by omega);show ¬ ((z.length:Int) > (2 ^ 63 - 1) / k);have e3:((2:Int) ^ 63 - 1) = 9223372036854775807:=by decide
   rw [e3];exact fun z=>iN [_] [_] 2 6599352549521 T1 z hd
  ·unfold Yin
   simp only [Ybu,Ye,decide_eq_false_iff_not];have hsz:(1000000:Nat) <= Yac:=Zbw;exact fun z=>lB 3 0x6f42405b1010f42405b011011 T1 z hsz h1
  ·rw [Zsz]
   exact ⟨.str _,H,I.tok _,⟨_,rfl⟩,q⟩
 refine OpR.imp (OpR.or ZrO (OpR.or hs ZrG)) fun x y H Q zz1=>?_;obtain ⟨ι,M,a,b,S,ra,rb,h⟩:=zz1;cases a with
 | int i=>cases b with
  | int j=>
   simp only [Zgk] at h;split at h
   ·rename_i hm
    refine .inl ⟨i,j,ra.int_inv,rb.int_inv,?_,Zac.ok h S Rep.int⟩;simp only [ZdE,Yc3,Yu,decide_eq_true_eq] at hm;exact hm
   ·exact h.elim
  | _=>exact h.elim
 | str z=>cases b with
  | int k=>
   simp only [Zgk] at h;split at h
   ·rename_i hz
    exact .inr (.inl ⟨z,k,ra.str_inv,rb.int_inv,hz.1,hz.2.1,hz.2.2,Zac.ok h S Rep.str⟩)
   ·exact h.elim
  | _=>exact h.elim
 | ref n=>cases b with
  | int k=>
   simp only [Zgk] at h;cases hn:M[n]? with
   | none=>simp only [hn] at h; exact h.elim
   | some o=>
    cases o with
    | dct _=>simp only [hn] at h; exact h.elim
    | fdct _=>simp only [hn] at h; exact h.elim
    | ins _ _=>simp only [hn] at h; exact h.elim
    | lst z=>
     simp only [hn] at h;split at h
     ·rename_i hz
      obtain ⟨p,hp,rfl⟩:=ra.ref_inv;obtain ⟨vs,e,r⟩:=S.obj n _ p hn hp;refine .inr (.inr ⟨p,k,vs,rfl,rb.int_inv,e,by omega,by omega,by rw [r.length]; exact Yj hz.1 Zbw,fun q hq=>?_⟩);obtain ⟨x2,S2,r2⟩:=S.lst hq (Zz.repl r k.toNat);exact h _ _ _ x2 S2 r2
     ·exact h.elim
  | _=>exact h.elim
 | _=>cases b <;> exact h.elim
theorem Zmn (n d:Nat) (hd:d <= n) (o:Option Int):(match o with | none=>(d:Int) | some i=>max 0 (min (if i < 0 then i + (n:Int) else i) (n:Int))) = ((sIx n d o:Nat):Int):=by
 cases o with
 | none=>rfl
 | some v=>
  show max 0 (min (if v < 0 then v + (n:Int) else v) (n:Int)) = (((if v < 0 then (v + (n:Int)).toNat else min v.toNat n):Nat):Int);by_cases h:v < 0
  ·rw [if_pos h,if_pos h]; exact clC v n h
  ·rw [if_neg h,if_neg h]; exact clD v n h
theorem Zg0 (lo hi:Option Int) (n:Nat):Ych lo hi 1 n = (Yaa (sIx n n hi - sIx n 0 lo)).map (fun k=>sIx n 0 lo + k):=by
 have e1:=Zmn n 0 (Yag _) lo;have e2:=Zmn n n (Yi _) hi;have key:Ych lo hi 1 n = sliceRange ((sIx n 0 lo:Nat):Int) ((sIx n n hi:Nat):Int) 1:=by
  rw [← e1,← e2];simp only [Ych,show ((1:Int) > 0) = True from by simp,if_true];cases lo <;> cases hi <;> rfl
 rw [key];generalize sIx n 0 lo = a;generalize sIx n n hi = b;simp only [sliceRange,show ((1:Int) > 0) = True from by simp,if_true];by_cases hlt:(a:Int) < b
 ·have e3:(((b:Int) - a + 1 - 1) / 1).toNat = b - a:=by first | exact Yh (iN [_,_,_,_] [_] 3 0x230038a112c001aa1808fcf001d81 T1 (Int.mul_ediv_self_le (by decide)) (sbA _ _) (Ya8 (iN [_,_] [_] 2 0xe8a001dcaa0818fcf91180891 T1 hlt (Yf8 (by decide))))) (iN [_,_,_,_] [_] 3 0x230013c2128081a001dcaa1808fcf91 T1 (Yf8 (by decide)) (Ydn _) (Yd (iN [_,_] [] 1 4296542353 T1 hlt))) | (simp; done) | (simp; omega)
  simp only [hlt,if_true,e3];refine Yc7 fun k _=>?_;exact Yh (iN [_,_,_] [] 1 0x21c002801d18c08a1 T1 (Ya8 (iN [_,_] [] 0 103109659880 T1))) (iN [_,_,_] [] 1 0x210c0281801d08c81 T1 (Ydn _))
 ·have:b - a = 0:=Yh (Yb4 (Yhm (iN [_,_] [] 1 270010577 T1 hlt))) (Yag _)
  simp [hlt,this]
theorem ZjZ (n d:Nat) (hd:d <= n) (o:Option Int):sIx n d o <= n:=by
 cases o with
 | none=>exact hd
 | some v=>simp only [sIx]; split <;> omega
theorem ZlY (z:List Nat) (lo hi:Option Int) (l u:Option (Int × Tok)) (hl:l.map (·.1) = lo) (hu:u.map (·.1) = hi):
  (if ((1:Int) == 1 && (Yen ⟨z.toArray⟩ l u none).length == (⟨z.toArray⟩:Str).length) = true then (⟨z.toArray⟩:Str) else ⟨((Yen ⟨z.toArray⟩ l u none).filterMap ((⟨z.toArray⟩:Str).cps[·]?)).toArray⟩) = ⟨(cutD z lo hi).toArray⟩:=by
 have e0:Yen ⟨z.toArray⟩ l u none = (Yaa (sIx z.length z.length hi - sIx z.length 0 lo)).map (fun k=>sIx z.length 0 lo + k):=by
  unfold Yen;rw [hl,hu];simp only [Ybu,Ye];exact Zg0 lo hi z.length
 have hb:=ZjZ z.length z.length (Yi _) hi;rw [e0];have pick:((Yaa (sIx z.length z.length hi - sIx z.length 0 lo)).map (fun k=>sIx z.length 0 lo + k)).filterMap ((⟨z.toArray⟩:Str).cps[·]?) = cutD z lo hi:=by
  unfold cutD;by_cases hab:sIx z.length 0 lo <= sIx z.length z.length hi
  ·have h:=StrLaws.picks z (sIx z.length z.length hi - sIx z.length 0 lo) (sIx z.length 0 lo) (lD 2 82120338080600065 T1 hb (Yd hab))
   simpa using h
  ·have:sIx z.length z.length hi - sIx z.length 0 lo = 0:=Yh (Yb4 (Yhm (lB 1 1052737 T1 hab))) (Yag _)
   rw [this];simp
 rw [pick];split
 ·rename_i hc
  simp only [Yk,Ydo,Ybu,Ye,Yu,beq_iff_eq] at hc;have hc2:=hc.2;have h0:sIx z.length 0 lo = 0 \/ z.length = 0:=by omega
  have:cutD z lo hi = z:=by
   unfold cutD;rcases h0 with h0 | h0
   ·rw [h0,Yfv,Ybg (by exact lD 3 0x3102001e3c2011031 T1 hc2 (sbA _ _) (Yb9 _ _))]
   ·have:z = []:=Yc9 h0
    subst this;simp
  rw [this]
 ·rfl
theorem Zsk:SlR X (fun x lo hi H Q=>∃ z:List Nat,x = .str ⟨z.toArray⟩ /\ z.length <= SZ /\ Q (.str ⟨(cutD z lo hi).toArray⟩) H):=by
 intro pins s σ H x v vl vu lo hi sl Q I rx hs pl pu h;obtain ⟨z,rfl,hz,q⟩:=h;obtain ⟨t,rfl⟩:=rx;have part:∀ {v:Value} {o:Option Int},IsPart v o -> ∃ p:Option (Int × Tok),v = partValue p /\ p.map (·.1) = o:=by
  intro v o h;cases h with
  | none=>exact ⟨none,rfl,rfl⟩
  | int i t=>exact ⟨some (i,t),rfl,rfl⟩
 obtain ⟨l,rfl,hl⟩:=part pl;obtain ⟨u,rfl,hu⟩:=part pu;refine ⟨"str",_,PySem.F.slot_str_getitem.lookup,Yf6 _ _ _,?_⟩;refine wpAny_getItem_str_slice (l:=l) (u:=u) (st:=none) hs rfl ?_;unfold sliceMade;refine post_val_or_made (fun _=>?_) fun t' k=>?_
 ·show ((Yen ⟨z.toArray⟩ l u none).filterMap ((⟨z.toArray⟩:Str).cps[·]?)).toArray.size <= Yac
  rw [Ye];refine Yj (Yd6 _ _) ?_;show (Ych (l.map (·.1)) (u.map (·.1)) 1 (⟨z.toArray⟩:Str).length).length <= Yac;rw [Zg0];simp only [Yk,Ydo,Ybu,Ye];have:=ZjZ z.length z.length (Yi _) (u.map (·.1));have:=Zbw;omega
 ·have e:=ZlY z lo hi l u hl hu
  have e':(if (((none:Option (Int × Tok)).map (·.1)).getD 1 == 1 && (Yen ⟨z.toArray⟩ l u none).length == (⟨z.toArray⟩:Str).length) = true then (⟨z.toArray⟩:Str) else ⟨((Yen ⟨z.toArray⟩ l u none).filterMap ((⟨z.toArray⟩:Str).cps[·]?)).toArray⟩) = ⟨(cutD z lo hi).toArray⟩:=e;rw [e'];exact ⟨.str _,H,I.tok _,⟨_,rfl⟩,q⟩
theorem ZfI {prog:Yaf} {w:World} {A:Yar} {E:Value -> Yg -> Prop} {s:Yg} {t sl:Addr} {items:Array Value} {vl vu:Value} {lo hi:Option Int} {Q:Value -> Yg -> Prop} (ht:IsTup s.heap t items) (hs:s.heap.IsSliceOf sl vl vu .none) (pl:IsPart vl lo) (pu:IsPart vu hi)
  (hw:HT.sIx items.size 0 lo = 0 /\ HT.sIx items.size items.size hi = items.size) (h:Q (.ref t) s):wpAny (model prog w) A (Ye5 (.ref t) (.ref sl)) Q E s:=by
 obtain ⟨os,hos,hcs,hds⟩:=id hs;have hTs:s.TypeIs (.ref sl) "slice":=⟨os,hos,hcs⟩;unfold Ye5
 try with_reducible refine Yau ?_
 first | refine Yc (Ym ?_) | skip
 refine Yc (Yf5 ht.typeIs (by decide) ?_);refine Yc (Ya0 (name:=Ybv "__getitem__") ht.typeIs Yb0
  (Ybw Yb0 ht.typeIs Yic ?_ (args_tuple_getitem _ _)))
 show wpAny _ _ (Yfd (.ref t) >>= _) _ _ s;refine Yc (tupleItemsOf_ ht ?_);refine Yc (Yfm hTs ?_);rw [if_pos (by decide)];refine Yc (HT.sliceApplied_gen hs pl pu ?_);have hyes:(((HT.sIx items.size 0 lo:Nat):Int) == 0 && (1:Int) == 1 && (HT.sIx items.size items.size hi - HT.sIx items.size 0 lo) == items.size) = true:=by
  rw [hw.1,hw.2]; simp
 show wpAny _ _ (if (((HT.sIx items.size 0 lo:Nat):Int) == 0 && (1:Int) == 1 && (HT.sIx items.size items.size hi - HT.sIx items.size 0 lo) == items.size) = true then _ else _) _ _ s;rw [if_pos hyes];unfold Builtin.Tuple.tupleIsExact;refine Yc (Yc (Yfm ht.typeIs (Ym ?_)));rw [if_pos (by decide)];exact Yc (Yhu (Ym ⟨_,rfl,Ym h⟩))
theorem Zp7:SlR X (fun x lo hi H Q=>∃ a xs,x = .ref a /\ SqT X.K H a xs /\ (HT.sIx xs.length 0 lo = 0 /\ HT.sIx xs.length xs.length hi = xs.length) /\ Q (.ref a) H):=by
 intro pins s σ H x v vl vu lo hi sl Q I rx hs pl pu h;obtain ⟨a,xs,rfl,hx,hw,q⟩:=h;cases rx;obtain ⟨its,r,ht,hz⟩:=I.tuple hx;have hlen:its.toArray.size = xs.length:=by rw [Ye]; exact r.length.symm
 refine ⟨"tuple",_,PyProof.Rows.slot_tuple_getitem.lookup,ht.typeIs,?_⟩;exact ZfI ht hs pl pu (by rw [hlen]; exact hw) ⟨.ref a,H,I,rfl,q⟩
theorem Zh9:SlR X (rS X.K):=SlR.imp (SlR.or (SlR.or Zl1 Zp7) (SlR.or Zp0 Zsk)) fun x lo hi H Q zz1=>by
 obtain ⟨ι,M,a,S,ra,h⟩:=zz1;have ex:∀ n d o,HT.sIx n d o = sIx n d o:=fun n d o=>by cases o <;> rfl
 cases a with
 | tup ds=>
  simp only [Zgt] at h;obtain ⟨p,vs,rfl,s,r⟩:=ra.tup_inv;by_cases hw:sIx ds.length 0 lo = 0 /\ sIx ds.length ds.length hi = ds.length
  ·refine .inl (.inr ⟨p,vs,rfl,s,by rw [ex,ex,r.length]; exact hw,?_⟩)
   have e:cutD ds lo hi = ds:=by unfold cutD; rw [hw.1,hw.2]; simp
   rw [e] at h;exact Zac.ok h S (Rep.tup s r)
  ·refine .inl (.inl ⟨p,vs,rfl,s,by rw [ex,ex,r.length]; exact hw,fun q hq=>?_⟩)
   obtain ⟨x2,S2,r2⟩:=S.tupl hq (Zlr r lo hi);exact h _ _ _ x2 S2 r2
 | scr ds=>
  simp only [Zgt] at h;obtain ⟨p,vs,rfl,s,r⟩:=ra.scr_inv;refine .inr (.inl ⟨p,vs,rfl,s.sq,fun q hq=>?_⟩);obtain ⟨x2,S2,r2⟩:=S.lst hq (Zlr r lo hi);exact h _ _ _ x2 S2 r2
 | str z=>
  simp only [Zgt] at h;split at h
  ·rename_i hz
   exact .inr (.inr ⟨z,ra.str_inv,hz,Zac.ok h S Rep.str⟩)
  ·exact h.elim
 | ref n=>
  simp only [Zgt] at h;cases hn:M[n]? with
  | none=>simp only [hn] at h; exact h.elim
  | some o=>
   cases o with
   | dct _=>simp only [hn] at h; exact h.elim
   | fdct _=>simp only [hn] at h; exact h.elim
   | ins _ _=>simp only [hn] at h; exact h.elim
   | lst ds=>
    simp only [hn] at h;obtain ⟨p,hp,rfl⟩:=ra.ref_inv;obtain ⟨vs,e,r⟩:=S.obj n _ p hn hp;refine .inr (.inl ⟨p,vs,rfl,SqL.of e,fun q hq=>?_⟩);obtain ⟨x2,S2,r2⟩:=S.lst hq (Zlr r lo hi);exact h _ _ _ x2 S2 r2
 | _=>exact h.elim
theorem Zdj {K:Ya} {H:Hp} {ι:List Addr} {d:D} {xs:List V} (r:Zz K H ι [d] xs):∃ x,xs = [x] /\ Rep K H ι d x:=by
 obtain ⟨v,ws,rfl,r1,r2⟩:=r.cons_inv;have:=r2.nil_inv;subst this;exact ⟨v,rfl,r1⟩
theorem ZdC:Za0 X (.builtin "len") (rB X.K Za2):=Za0.imp Zph fun xs H Q zz1=>by
 obtain ⟨ι,M,ds,S,rd,h⟩:=zz1;cases ds with
 | nil=>exact h.elim
 | cons d ds=>
  cases ds with
  | cons _ _=>cases d <;> exact h.elim
  | nil=>
   obtain ⟨x,rfl,r⟩:=Zdj rd;cases d with
   | tup z=>
    obtain ⟨p,vs,rfl,s,r'⟩:=r.tup_inv;exact ⟨_,vs.length,rfl,.inr ⟨vs,s,rfl⟩,by rw [r'.length]; exact Zac.ok h S Rep.int⟩
   | scr z=>
    obtain ⟨p,vs,rfl,s,r'⟩:=r.scr_inv;exact ⟨_,vs.length,rfl,.inl ⟨vs,s.sq,rfl⟩,by rw [r'.length]; exact Zac.ok h S Rep.int⟩
   | str z=>
    simp only [Za2] at h;split at h
    ·rename_i hz
     have:=r.str_inv;subst this;refine ⟨_,z.length,rfl,⟨?_,?_⟩,Zac.ok h S Rep.int⟩
     ·show z.toArray.size <= Yac
      rw [Ye];exact Yj hz Zbw
     ·show z.length = z.toArray.size
      rw [Ye]
    ·exact h.elim
   | ref n=>
    cases hn:M[n]? with
    | none=>simp only [Za2,hn] at h; exact h.elim
    | some o=>
     cases o with
     | dct _=>simp only [Za2,hn] at h; exact h.elim
     | fdct _=>simp only [Za2,hn] at h; exact h.elim
     | ins _ _=>simp only [Za2,hn] at h; exact h.elim
     | lst z=>
      simp only [Za2,hn] at h;obtain ⟨p,hp,rfl⟩:=r.ref_inv;obtain ⟨vs,e,r'⟩:=S.obj n _ p hn hp;exact ⟨_,vs.length,rfl,.inl ⟨vs,SqL.of e,rfl⟩,by rw [r'.length]; exact Zac.ok h S Rep.int⟩
   | _=>exact h.elim
theorem ZcW:Za0 X (.type "tuple") (rB X.K Za1):=Za0.imp Zix fun xs H Q zz1=>by
 obtain ⟨ι,M,ds,S,rd,h⟩:=zz1;cases ds with
 | nil=>exact h.elim
 | cons d ds=>
  cases ds with
  | cons _ _=>cases d <;> exact h.elim
  | nil=>
   obtain ⟨x,rfl,r⟩:=Zdj rd;cases d with
   | tup z=>
    obtain ⟨p,vs,rfl,s,r'⟩:=r.tup_inv;exact ⟨p,vs,rfl,.inr ⟨s,Zac.ok h S (Rep.tup s r')⟩⟩
   | scr z=>
    obtain ⟨p,vs,rfl,s,r'⟩:=r.scr_inv;refine ⟨p,vs,rfl,.inl ⟨s.sq,fun q hq=>?_⟩⟩;obtain ⟨x2,S2,r2⟩:=S.tupl hq r';exact h _ _ _ x2 S2 r2
   | ref n=>
    cases hn:M[n]? with
    | none=>simp only [Za1,hn] at h; exact h.elim
    | some o=>
     cases o with
     | dct _=>simp only [Za1,hn] at h; exact h.elim
     | fdct _=>simp only [Za1,hn] at h; exact h.elim
     | ins _ _=>simp only [Za1,hn] at h; exact h.elim
     | lst z=>
      simp only [Za1,hn] at h;obtain ⟨p,hp,rfl⟩:=r.ref_inv;obtain ⟨vs,e,r'⟩:=S.obj n _ p hn hp;refine ⟨p,vs,rfl,.inl ⟨SqL.of e,fun q hq=>?_⟩⟩;obtain ⟨x2,S2,r2⟩:=S.tupl hq r';exact h _ _ _ x2 S2 r2
   | _=>exact h.elim
theorem ZsG:Za0 X (.type "list") (rB X.K Zhz):=Za0.imp ZjO fun xs H Q zz1=>by
 obtain ⟨ι,M,ds,S,rd,h⟩:=zz1;cases ds with
 | nil=>exact h.elim
 | cons d ds=>
  cases ds with
  | cons _ _=>cases d <;> exact h.elim
  | nil=>
   obtain ⟨x,rfl,r⟩:=Zdj rd;cases d with
   | tup z=>
    obtain ⟨p,vs,rfl,s,r'⟩:=r.tup_inv;refine ⟨p,vs,rfl,.inr s,fun q hq=>?_⟩;obtain ⟨x2,S2,r2⟩:=S.lst hq r';exact h _ _ _ x2 S2 r2
   | scr z=>
    obtain ⟨p,vs,rfl,s,r'⟩:=r.scr_inv;refine ⟨p,vs,rfl,.inl s.sq,fun q hq=>?_⟩;obtain ⟨x2,S2,r2⟩:=S.lst hq r';exact h _ _ _ x2 S2 r2
   | ref n=>
    cases hn:M[n]? with
    | none=>simp only [Zhz,hn] at h; exact h.elim
    | some o=>
     cases o with
     | dct _=>simp only [Zhz,hn] at h; exact h.elim
     | fdct _=>simp only [Zhz,hn] at h; exact h.elim
     | ins _ _=>simp only [Zhz,hn] at h; exact h.elim
     | lst z=>
      simp only [Zhz,hn] at h;obtain ⟨p,hp,rfl⟩:=r.ref_inv;obtain ⟨vs,e,r'⟩:=S.obj n _ p hn hp;refine ⟨p,vs,rfl,.inl (SqL.of e),fun q hq=>?_⟩;obtain ⟨x2,S2,r2⟩:=S.lst hq r';exact h _ _ _ x2 S2 r2
   | _=>exact h.elim
end
theorem Zco:Yap "len" = some (.builtin "len"):=by decide +kernel
theorem Zn6:Yap "all" = some (.builtin "all"):=by decide +kernel
theorem Zot:Yap "sum" = some (.builtin "sum"):=by decide +kernel
theorem ZnF:Yap "sorted" = some (.builtin "sorted"):=by decide +kernel
theorem ZfD:Yap "isinstance" = some (.builtin "isinstance"):=by decide +kernel
theorem Zpd:Yap "int" = some (.type "int"):=by decide +kernel
theorem ZrL:Yap "str" = some (.type "str"):=by decide +kernel
theorem ZqG:Yap "list" = some (.type "list"):=by decide +kernel
theorem Zb5:Yap "tuple" = some (.type "tuple"):=by decide +kernel
theorem Zqi:Yap "dict" = some (.type "dict"):=by decide +kernel
section
variable {X:Cx} {a:Expr} {pos p p2:Pos} {f:E3}
noncomputable def tyN:Ty3 -> String
 | .int=>"int" | .bool=>"bool" | .str=>"str" | .list=>"list" | .tuple=>"tuple"
theorem ZfO (K:Ya) (t:String) (T:Ty3) (ht:t ∈ ["NoneType","bool","int","str","list","tuple","dict"]):
  PySem.W.kitOne K (.type t) (.type (tyN T)) = some (t == tyN T || (t == "bool" && tyN T == "int")):=by
 simp only [Y3,Ybi,or_false] at ht;rcases ht with rfl | rfl | rfl | rfl | rfl | rfl | rfl <;> cases T <;> kernel_rfl
theorem Zpn (T:Ty3):Yap (tyN T) = some (.type (tyN T)):=by cases T <;> decide +kernel
theorem Zqp {pins:List (Addr × Obj)} {σ:St} {H:Hp} {s:Yg} {ι:List Addr} {M:Store} {A:Yar} {E:Value -> Yg -> Prop} {Q:Value -> Yg -> Prop} {T:Ty3} {d:D} {x:V} {u:Value} {b:Bool} (I:Inv X pins σ H s) (S:Zap X.K H ι M) (r:Rep X.K H ι d x) (ru:RelV x u)
  (e:ZcZ T d M = some b) (h:∀ tk,Q (.bool b) { s with toks:=tk }):wpAny (model X.prog X.w) A (call (.builtin "isinstance") [u,.type (tyN T)]) Q E s:=by
 cases d with
 | non=>
  have:=r.non_inv; subst this;have hb:b = false:=by simpa [ZcZ] using e.symm
  subst hb;exact ZdN I ru (.non) ((ZfO X.K "NoneType" T (by simp)).trans (by cases T <;> rfl)) h
 | bl c=>
  have:=r.bl_inv; subst this;have hb:b = (T == .bool || T == .int):=by simpa [ZcZ] using e.symm
  subst hb;exact ZdN I ru (.bl c) ((ZfO X.K "bool" T (by simp)).trans (by cases T <;> rfl)) h
 | int i=>
  have:=r.int_inv; subst this;have hb:b = (T == .int):=by simpa [ZcZ] using e.symm
  subst hb;exact ZdN I ru (.int i) ((ZfO X.K "int" T (by simp)).trans (by cases T <;> rfl)) h
 | str z=>
  have:=r.str_inv; subst this;have hb:b = (T == .str):=by simpa [ZcZ] using e.symm
  subst hb;exact ZdN I ru (.str _) ((ZfO X.K "str" T (by simp)).trans (by cases T <;> rfl)) h
 | tup ds=>
  obtain ⟨a,vs,rfl,st,rr⟩:=r.tup_inv;cases ru;have hb:b = (T == .tuple):=by simpa [ZcZ] using e.symm
  subst hb;obtain ⟨its,_,pt,_⟩:=I.tuple st;obtain ⟨o,h1,h2,_⟩:=pt;exact Ya6 Yfk I.kIn ⟨o,h1,h2⟩ ((ZfO X.K "tuple" T (by simp)).trans (by cases T <;> rfl)) (fun z=>nomatch z) h
 | scr ds=>simp [ZcZ] at e
 | ref n=>
  simp only [ZcZ] at e;cases hn:M[n]? with
  | none=>simp [hn] at e
  | some o=>
   obtain ⟨a,ha,rfl⟩:=r.ref_inv;cases o with
   | lst z=>
    have hb:b = (T == .list):=by simpa [hn] using e.symm
    subst hb;obtain ⟨vs,ev,_⟩:=S.obj n _ a hn ha;exact ZdN I ru (.lst ev) ((ZfO X.K "list" T (by simp)).trans (by cases T <;> rfl)) h
   | dct z=>
    have hb:b = false:=by simpa [hn] using e.symm
    subst hb;obtain ⟨vs,ev,_⟩:=S.obj n _ a hn ha;exact ZdN I ru (.dK ev) ((ZfO X.K "dict" T (by simp)).trans (by cases T <;> rfl)) h
   | fdct z=>simp [hn] at e
   | ins _ _=>simp [hn] at e
theorem ZfY (T:Ty3) {x:Str} (hm:X.mg "isinstance" = none) (hm2:X.mg x = none) (h:C3 X a f) (hx:x = (Ybv (tyN T)):=by rfl) (hg:Gl X "isinstance":=by rfl) (hg2:Gl X x:=by rfl)
  (hn:x ≠ "__name__":=by decide) (hd:(x == ("__debug__":Str)) = false:=by decide)
  (hs:Yx (a :: [.Name x p2]) X.env = (false,eval a X.env) :: Yx [.Name x p2] X.env:=by rfl) (hs2:Yx (.Name x p2 :: []) X.env = (false,eval (.Name x p2) X.env) :: Yx [] X.env:=by rfl)
  (hpl:(Ycl pos (Yx [.Name x p2] X.env)).any (·.1) = false:=by rfl):C3 X (.Call (.Name "isinstance" p) [a,.Name x p2] [] pos) (e1 (Zeg T) f):=by
 subst hx;have hc:Za0 X (.builtin "isinstance") (fun xs H Q=>∃ ι M d x,xs = [x,.ty (tyN T)] /\ Zap X.K H ι M /\ Rep X.K H ι d x /\ Zac X.K H ι Q (Zeg T d M)):=by
  intro pins s σ H xs us Q I r q;obtain ⟨ι,M,d,x,rfl,S,rd,q⟩:=q;obtain ⟨u,w',rfl,ru,rw'⟩:=vals2 r;cases rw';unfold Zeg at q;cases e:ZcZ T d M with
  | none=>rw [e] at q; exact q.elim
  | some b=>
   rw [e] at q;exact Zqp I S rd ru e fun tk=>⟨.bl b,H,I.tok _,rfl,Zac.ok q S Rep.bl⟩
 refine (Zh3 hc hg hm ZfD (ZeD h (ZeD (Zjt hg2 hm2 (Zpn T) (v:=.ty (tyN T)) rfl hn hd) ZjQ hs2) hs) (by decide) (by decide) hs hpl).imp fun σ H Q zz1=>?_;obtain ⟨ι,M,env,S,E,h⟩:=zz1;obtain ⟨d,M1,e1,h⟩:=Zac.bind h;refine ⟨ι,M,env,S,E,?_⟩;rw [e1];intro v H1 ι1 x1 S1 r1;exact ⟨ι1,M1,d,v,rfl,S1,r1,h.up x1⟩
theorem Zfz {p:D -> Bool}:∀ {l:List D} {e:Nat -> Bool},(∀ (j:Nat) d,l[j]? = some d -> e j = p d) -> (Yaa l.length).all e = l.all p
 | [],_,_=>rfl
 | d :: l,e,h=>by
  rw [Yai,Yg1,Ybc,List.all_map,h 0 d rfl,Ybc];congr 1;exact Zfz fun j d' hj=>h (j + 1) d' (by simpa using hj)
theorem ZqY (hc:X.calm = true):Za0 X (.builtin "all") (rB X.K Ziv):=by
 intro pins s σ H xs us Q I rs h;obtain ⟨ι,M,ds,S,rd,h⟩:=h;cases ds with
 | nil=>exact h.elim
 | cons d ds=>
  cases ds with
  | cons _ _=>cases d <;> exact h.elim
  | nil=>
   obtain ⟨x,rfl,r⟩:=Zdj rd;obtain ⟨u,rfl,ru⟩:=vals1 rs;cases d with
   | ref n=>
    cases hn:M[n]? with
    | none=>simp only [Ziv,hn] at h; exact h.elim
    | some o=>
     cases o with
     | dct _=>simp only [Ziv,hn] at h; exact h.elim
     | fdct _=>simp only [Ziv,hn] at h; exact h.elim
     | ins _ _=>simp only [Ziv,hn] at h; exact h.elim
     | lst z=>
      simp only [Ziv,hn] at h;cases q:allB z with
      | none=>rw [q] at h; exact h.elim
      | some b=>
       rw [q] at h;obtain ⟨a,ha,rfl⟩:=r.ref_inv;cases ru;obtain ⟨vs,ev,rv⟩:=S.obj n _ a hn ha;obtain ⟨its,rr,pl,_⟩:=I.list (SqL.of ev);have hz:z.all isB = true /\ z.all isT = b:=by
        unfold allB at q;split at q
        ·rename_i hz
         exact ⟨hz,Yao q⟩
        ·cases q
       have hlen:its.toArray.size = z.length:=by rw [Ye,← rr.length,rv.length]
       have hhd:X.A.in1.handled = none:=I.ok.hd hc;refine call_all_walk (Yce pl.isList ⟨s.heap.objs.size,_,_,_,_,_,(fun j=>match z[j]? with | some d=>isT d | none=>true),rfl,Walks.list hhd s.heap.objs.size a (Y2 (I.hok.lt ev)) its.toArray,⟨⟨_,Yr _ rfl,rfl,rfl⟩,pl.isList.at fun o e=>Yf _ e⟩,?_,?_⟩)
       ·intro j v s' Q' E' hv hq
        have hv':its[j]? = some v:=by simpa using hv
        have hj:j < z.length:=by
         have:=(Yb.mp hv').1;rw [← Ye,hlen] at this;exact this
        have e1:z[j]? = some z[j]:=by simp [hj]
        have hb:=Y5.mp hz.1 _ (Y4 hj);obtain ⟨w,g1,g2⟩:=rv.get e1;obtain ⟨u',k1,k2⟩:=rr.get g1;rw [hv'] at k1;cases k1;have hq':Q' (isT z[j]) s':=by
         have:=hq;simp only [e1] at this;exact this
        generalize z[j] = dj at hb g2 hq';cases dj with
        | bl c=>
         have:=g2.bl_inv;subst this;cases k2;exact Ydj hq'
        | _=>simp [isB] at hb
       ·intro h' tk kk
        rw [hlen,Zfz (p:=isT) (fun j d hd=>by rw [hd]),hz.2];exact ⟨.bl b,H,I.kept (fun c o e=>kk c o (by simp; exact Y2 (Yo e)) (Yf _ e)),rfl,Zac.ok h S Rep.bl⟩
   | _=>exact h.elim
end
noncomputable def Zq2 (outer:List (Str × NameKind)) (N:List Str) (scope:Scope) (N':List Str) (own:Nat):Bool:=
 (scope.names.all fun y=>decide (y.2 ≠ .cell) && (decide (y.2 ≠ .free) || decide (outer.lookup y.1 = some .cell) || decide (outer.lookup y.1 = some .free)) && (decide (y.2 ≠ .local) || decide (scope.names.lookup y.1 = some .local))) &&
  decide (N'.length = N.length + own) && ZoQ N N' scope
theorem Zcd {X:Cx} {scope:Scope} {N':List Str} {own:Nat} (hk:scope.kind = .function) (h:Zq2 X.env.scope.names X.N scope N' own = true):ZgN X scope N' own:=by
 simp only [Zq2,Yu,decide_eq_true_eq,Y5,Yc3] at h;obtain ⟨⟨h1,h2⟩,h3⟩:=h;refine ⟨hk,fun y hy=>(h1 y hy).1.1,fun y hy e=>?_,fun y hy e=>?_,h2,h3⟩
 ·rcases (h1 y hy).1.2 with (q | q) | q
  ·exact absurd e q
  ·exact .inl q
  ·exact .inr q
 ·rcases (h1 y hy).2 with q | q
  ·exact absurd e q
  ·exact q
theorem ZaA {K:Ya} {h:Heap} {mg:Str -> Option Value} (KX:K.In h) (G:h.Ns Yn mg) {x:Str} {st:Stmt} {f:Addr} {oc:Value} {od an:Option Addr} {osl:Array (Option Value)} {dV kV doc pm cdv ct:Value}
  (a:PySem.W.nsIn K Yn x = some (some (.ref f))) (l:K.lookup f = some ⟨oc,od,.func (Ydg x x (Zav st) (Zar st) (Zn st) dV kV doc pm an cdv ct),osl⟩)
  (c:Yfu K cdv x = true) (k:Yeo K (.ref f) = true) {ps:List Str} (b:Binds K (Ydg x x (Zav st) (Zar st) (Zn st) dV kV doc pm an cdv ct) ps []):Zay K mg x st ps:=⟨f,_,Zn5 l c k,PySem.W.mg_of KX G a,b⟩
theorem Zug {l:PySem.W.OpenLaw} {k:Nat} {q:Yaf} {loose:List Str} {XP:(Str -> Option Value) -> Heap -> Prop} {YP:World -> Heap -> Prop} {d:DefRec} {K:Params -> Ya} {F:F3} (hn:l.most = some 63) (hdf:d.params.defaults = []) (hr:Zdw k Yim)
  (hY:∀ (w:World) (h:Heap),YP w h -> (K w.params).In h)
  (G:∀ (w:World) (mg:Str -> Option Value) (fa:Addr) (h:Heap),(K w.params).In h -> h.Ns Yn mg -> mg d.name = some (.ref fa) ->
   ∃ fd:FuncData,(∀ (s:Yg) (u:Value),Yjg s fd ⟨[u],[]⟩ [("script",u)]) /\ ∀ base:Heap,(K w.params).In base -> base.Ns Yn mg -> Zf1 l.prog w (K w.params) mg base CX0 k fa fd ["script"] (sp3 (K w.params) 1 F))
  (hF:∀ ns:List Int,ns.length <= 63 -> ∃ M',F [.scr (ns.map D.int)] [] = .ok (.bl true) M'):
  PySem.W.WalkO q loose XP YP l.row.toRowW d [] (fun f vs=>PySem.call f vs):=
 L2.Zmp (n:=63) (k:=k) (x:="script") (CX:=fun _=>CX0) (sp:=fun w=>sp3 (K w.params) 1 F) hn (by decide) hdf hr hY G (fun w H a ns hl hO hS=>by
  obtain ⟨M',e⟩:=hF ns hl;refine ⟨[],[],[.scr (ns.map D.int)],⟨rfl,List.nodup_nil,fun n o a h=>by simp at h⟩,Zz.cons ?_ Zz.nil,rfl,?_⟩
  ·simp only [Rep]
   refine ⟨a,ns.map V.int,rfl,?_,Zz.ints ns⟩;rcases hS with (h | ⟨o,h⟩) | h
   ·rcases hO a with z | ⟨ob,xs,z⟩
    ·rw [h] at z; cases z
    ·rw [h] at z; cases z
   ·exact .inl ⟨o,h⟩
   ·exact .inr h
  ·rw [e]
   exact fun v H' ι' _ _ r=>r.bl_inv) fun _ _ _ _ _ z=>z
theorem Zme {a b:Za4} (h:dk a = dk b):a = b:=by
 cases a with
 | inl i=>cases b with
  | inl j=>simp only [dk,Sum.inl.injEq] at h; rw [h]
  | inr y=>simp [dk] at h
 | inr x=>cases b with
  | inl j=>simp [dk] at h
  | inr y=>
   simp only [dk,Sum.inr.injEq,Str.mk.injEq] at h;have:=congrArg Yer h;simp at this;rw [this]
theorem Zgp {K:Ya} {H:Hp} {ι:List Addr} {b:D} {y:V} {k:Za4} (h:ZeM b = some k) (r:Rep K H ι b y):y = kV (dk k):=by
 cases b with
 | int i=>cases h; exact r.int_inv
 | str x=>cases h; exact r.str_inv
 | _=>simp [ZeM] at h
section
variable {K:Ya} {H H':Hp} {ι ι':List Addr} {M:Store} {p:Addr}
theorem KvR.nil:KvR K H ι [] []:=⟨rfl,Zz.nil⟩
theorem KvR.cons {k:Za4} {d:D} {v:V} {kvs:List (Za4 × D)} {ws:List (Key × V)} (h:Rep K H ι d v) (r:KvR K H ι kvs ws):KvR K H ι ((k,d) :: kvs) ((dk k,v) :: ws):=
 ⟨by simp [r.1],Zz.cons h r.2⟩
theorem KvR.cons_inv {q:Za4 × D} {kvs:List (Za4 × D)} {ws:List (Key × V)} (r:KvR K H ι (q :: kvs) ws):∃ v ws',ws = (dk q.1,v) :: ws' /\ Rep K H ι q.2 v /\ KvR K H ι kvs ws':=by
 obtain ⟨h1,h2⟩:=r;cases ws with
 | nil=>simp at h1
 | cons w ws=>
  simp only [Yt,List.cons.injEq] at h1;obtain ⟨v,us,e,r1,r2⟩:=Zz.cons_inv h2;simp only [Yt,List.cons.injEq] at e;exact ⟨w.2,ws,by rw [← h1.1],e.1 ▸ r1,h1.2,e.2 ▸ r2⟩
theorem KvR.nil_inv {ws:List (Key × V)} (r:KvR K H ι [] ws):ws = []:=by simpa using r.1
theorem KvR.mono {kvs:List (Za4 × D)} {ws:List (Key × V)} (r:KvR K H ι kvs ws) (e:Ext K H ι H' ι'):KvR K H' ι' kvs ws:=⟨r.1,r.2.mono e⟩
theorem KvR.length {kvs:List (Za4 × D)} {ws:List (Key × V)} (r:KvR K H ι kvs ws):ws.length = kvs.length:=by
 have:=congrArg Yjh r.1;simpa using this
theorem KvR.val {kvs:List (Za4 × D)} (k:Za4):∀ {ws:List (Key × V)},KvR K H ι kvs ws -> match Zcb kvs k with | some d=>∃ v,Ze7 ws (dk k) = some v /\ Rep K H ι d v | none=>Ze7 ws (dk k) = none:=by
 induction kvs with
 | nil=>intro ws r; rw [r.nil_inv]; exact Zpf
 | cons q kvs ih=>
  intro ws r;obtain ⟨v,ws',rfl,r1,r2⟩:=r.cons_inv;obtain ⟨k',d⟩:=q;unfold Zcb;by_cases e:k' = k
  ·rw [if_pos e]
   exact ⟨v,Zf3 (by rw [e]),r1⟩
  ·rw [if_neg e,Zge fun z=>e (Zme z)]
   exact ih r2
theorem KvR.append {k1 k2:List (Za4 × D)} {w1 w2:List (Key × V)} (a:KvR K H ι k1 w1) (b:KvR K H ι k2 w2):KvR K H ι (k1 ++ k2) (w1 ++ w2):=
 ⟨by simp [a.1,b.1],by rw [Yae,Yae]; exact a.2.append b.2⟩
theorem KvR.any {kvs:List (Za4 × D)} (k:Za4):∀ {ws:List (Key × V)},KvR K H ι kvs ws -> (ws.any fun kv=>decide (kv.1 = dk k)) = (kvs.any fun q=>decide (q.1 = k)):=by
 induction kvs with
 | nil=>intro ws r; rw [r.nil_inv]; rfl
 | cons q kvs ih=>
  intro ws r;obtain ⟨v,ws',rfl,r1,r2⟩:=r.cons_inv;rw [Ybd,Ybd,ih r2];congr 1;by_cases e:q.1 = k
  ·simp [e]
  ·simp [e]; exact fun z=>e (Zme z)
theorem KvR.put {kvs:List (Za4 × D)} {k:Za4} {d:D} {v:V} {ws:List (Key × V)} (r:KvR K H ι kvs ws) (rd:Rep K H ι d v):KvR K H ι (putD k d kvs) (putK ws (dk k) v):=by
 unfold putD putK;rw [r.any k];by_cases c:(kvs.any fun q=>decide (q.1 = k)) = true
 ·rw [if_pos c,if_pos c]
  clear c
  induction kvs generalizing ws with
  | nil=>rw [r.nil_inv]; exact KvR.nil
  | cons q kvs ih=>
   obtain ⟨u,ws',rfl,r1,r2⟩:=r.cons_inv;rw [Yt,Yt];by_cases e:q.1 = k
   ·rw [if_pos e,if_pos (by rw [e])]; exact KvR.cons rd (ih r2)
   ·rw [if_neg e,if_neg fun z=>e (Zme z)]; exact KvR.cons r1 (ih r2)
 ·rw [if_neg c,if_neg c]
  exact r.append (KvR.cons rd KvR.nil)
theorem KvR.merge {l:List (Za4 × D)}:∀ {kvs:List (Za4 × D)} {ws us:List (Key × V)},KvR K H ι l us -> KvR K H ι kvs ws -> KvR K H ι (l.foldl (fun acc p=>putD p.1 p.2 acc) kvs) (ZfW ws us):=by
 induction l with
 | nil=>intro kvs ws us r r0; rw [r.nil_inv]; exact r0
 | cons q l ih=>
  intro kvs ws us r r0;obtain ⟨v,us',rfl,r1,r2⟩:=r.cons_inv;exact ih (ws:=putK ws (dk q.1) v) (us:=us') r2 (r0.put r1)
theorem Zap.dct (S:Zap K H ι M) (hp:H p = none) {kvs:List (Za4 × D)} {ws:List (Key × V)} (r:KvR K H ι kvs ws):Ext K H ι (upd H p (.dK ws)) (ι ++ [p]) /\ Zap K (upd H p (.dK ws)) (ι ++ [p]) (M ++ [.dct kvs]) /\ Rep K (upd H p (.dK ws)) (ι ++ [p]) (.ref M.length) (.ref p):=by
 have e:Ext K H ι (upd H p (.dK ws)) (ι ++ [p]):=Loose.extA (.inl hp);exact ⟨e,S.new hp ⟨ws,Zbl,r.mono e⟩,Rep.ref (by rw [← S.len]; simp)⟩
theorem Zap.setd (S:Zap K H ι M) {n:Nat} (l0:Loose H p) (hn:ι[n]? = some p) {kvs:List (Za4 × D)} {ws:List (Key × V)} (r:KvR K H ι kvs ws):Ext K H ι (upd H p (.dK ws)) ι /\ Zap K (upd H p (.dK ws)) ι (M.set n (.dct kvs)):=by
 have e:Ext K H ι (upd H p (.dK ws)) ι:=Loose.ext l0;exact ⟨e,S.put l0 hn ⟨ws,Zbl,r.mono e⟩⟩
end
section
variable {X:Cx} {a b c e o:Expr} {es:List Expr} {pos p pos' apos cpos:Pos} {f g h:E3} {gl:EL3}
def ZiB (K:Ya) (H:Hp) (ι:List Addr) (Q:List (V × V) -> Hp -> Prop) (r:R3 (List (Za4 × D))):Prop:=match r with
 | .ok l M'=>∀ ws H' ι',Ext K H ι H' ι' -> Zap K H' ι' M' -> KvR K H' ι' l ws -> Q (ws.map fun kv=>(kV kv.1,kv.2)) H'
 | _=>False
theorem ZiB.up {K:Ya} {H H1:Hp} {ι ι1:List Addr} {Q:List (V × V) -> Hp -> Prop} {r:R3 (List (Za4 × D))} (e:Ext K H ι H1 ι1) (h:ZiB K H ι Q r):ZiB K H1 ι1 Q r:=by
 cases r with
 | ok d M=>exact fun v H' ι' e' S r=>h v H' ι' (e.trans e') S r
 | exc x M=>exact h
 | bad=>exact h
theorem ZiB.bind {K:Ya} {H:Hp} {ι:List Addr} {α:Type} {Q:List (V × V) -> Hp -> Prop} {r:R3 α} {k:α -> Store -> R3 (List (Za4 × D))} (h:ZiB K H ι Q (r.bind k)):∃ a M,r = .ok a M /\ ZiB K H ι Q (k a M):=by
 cases r with
 | ok a M=>exact ⟨a,M,rfl,h⟩
 | exc x M=>exact h.elim
 | bad=>exact h.elim
def CD (X:Cx) (pos:Pos) (ks:List (Option Expr)) (vs:List Expr) (r:EP3):Prop:=
 ∃ trs,PPs X pos ks vs trs /\ ∀ σ H Q,(∃ ι M env,Zap X.K H ι M /\ Zbm X.K H ι env σ /\ ZiB X.K H ι Q (r env M)) -> ZjC trs σ H Q
theorem ZrH:CD X pos [] [] ZsH:=⟨[],ZqH,fun σ H Q ⟨ι,M,env,S,E,h⟩=>h [] H ι Ext.refl S KvR.nil⟩
theorem ZeG {k v:Expr} {ks:List (Option Expr)} {vs:List Expr} {r:EP3} (hk:C3 X k f) (hv:C3 X v g) (hr:CD X pos ks vs r):CD X pos (some k :: ks) (v :: vs) (ZdP f g r):=by
 obtain ⟨trs,hp,ht⟩:=hr;refine ⟨_,Zor hk hv hp,fun σ H Q ⟨ι,M,env,S,E,h⟩=>?_⟩;obtain ⟨a,M1,e1,h⟩:=ZiB.bind h;obtain ⟨b,M2,e2,h⟩:=ZiB.bind h;refine ⟨ι,M,env,S,E,?_⟩;rw [e1];intro x H1 ι1 x1 S1 r1;refine ⟨ι1,M1,env,S1,E.mono x1,?_⟩;rw [e2];intro y H2 ι2 x2 S2 r2;cases hkd:ZeM a with
 | none=>simp only [hkd] at h; exact h.elim
 | some kk=>
  simp only [hkd] at h;obtain ⟨l,M3,e3,h⟩:=ZiB.bind h;refine ht σ H2 _ ⟨ι2,M2,env,S2,(E.mono x1).mono x2,?_⟩;rw [e3];intro ws H3 ι3 x3 S3 r3;have:=h ((dk kk,y) :: ws) H3 ι3 ((x1.trans x2).trans x3) S3 (KvR.cons (r2.mono x3) r3);rw [Yt,← Zgp hkd r1] at this;exact this
theorem Ztr {ks:List (Option Expr)} {vs:List Expr} {r:EP3} (hr:CD X pos ks vs r) (hall:ks.all (·.isSome) = true:=by rfl) (hl:ks.length = vs.length:=by rfl) (h0:ks ≠ []:=by exact List.cons_ne_nil _ _) (h15:ks.length <= 15:=by decide):C3 X (.Dict ks vs pos) (Zos r):=by
 obtain ⟨trs,hp,ht⟩:=hr;refine (Zqv hp hall hl h0 h15).imp fun σ H Q ⟨ι,M,env,S,E,h⟩ p hp=>?_;obtain ⟨x1,S1,r1⟩:=S.dct hp KvR.nil;obtain ⟨l,M1,e1,h⟩:=Zac.bind h;refine ht σ _ _ ⟨_,_,env,S1,E.mono x1,?_⟩;rw [e1];intro ws H2 ι2 x2 S2 r2;have hip:ι2[M.length]? = some p:=x2.pre _ _ (by rw [← S.len]; simp);split at h
 ·rename_i hm
  obtain ⟨ws0,hw0,k0⟩:=S2.obj _ _ _ hm hip;rw [k0.nil_inv] at hw0;split at h
  ·rename_i h15'
   refine ⟨hw0,ws,rfl,by rw [r2.length]; exact h15',?_⟩;obtain ⟨x3,S3⟩:=S2.setd (.inr (.inr (.inl ⟨_,hw0⟩))) hip (KvR.merge (kvs:=[]) (ws:=[]) r2 KvR.nil);exact h _ _ _ ((x1.trans x2).trans x3) S3 (Rep.ref hip)
  ·exact h.elim
 ·exact h.elim
theorem Zry:C3 X (.Dict [] [] pos) Zpx:=ZoL.imp fun σ H Q ⟨ι,M,env,S,E,h⟩ p hp=>by
 obtain ⟨x1,S1,r1⟩:=S.dct hp KvR.nil;exact h _ _ _ x1 S1 r1
theorem hu1 (hu:X.A.units + 80 < cLine):X.A.units + 1 < cLine:=lB 1 7331617893452817 T1 hu
theorem Zje {K:Ya} {H:Hp} {ι:List Addr} {M:Store} (S:Zap K H ι M) {n:Nat} {kvs:List (Za4 × D)} {a:Addr} (h:ZcP M[n]? = some kvs) (ha:ι[n]? = some a):∃ ws,Rd H a (.dK ws) /\ KvR K H ι kvs ws:=by
 cases hn:M[n]? with
 | none=>simp [hn] at h
 | some ob=>
  cases ob with
  | lst _=>simp [hn] at h
  | dct k=>
   have e:k = kvs:=by simpa [hn] using h
   subst e;obtain ⟨ws,hw,kr⟩:=S.obj n _ a hn ha;exact ⟨ws,.inl hw,kr⟩
  | fdct k=>
   have e:k = kvs:=by simpa [hn] using h
   subst e;obtain ⟨ws,⟨o,hw⟩,kr⟩:=S.obj n _ a hn ha;exact ⟨ws,.inr ⟨o,hw⟩,kr⟩
  | ins _ _=>simp [hn] at h
theorem Zl3 (hu:X.A.units + 80 < cLine) (ha:C3 X a f) (hb:C3 X b g) (hs:Znz b:=by exact fun _ _=>rfl):C3 X (.Subscript a b pos) (e2 Zcp f g):=(ZqJ (hu1 hu) ha hb hs).imp fun σ H Q zz1=>by
 obtain ⟨ι,M,env,S,E,h⟩:=zz1;obtain ⟨d,M1,e1,h⟩:=Zac.bind h;obtain ⟨k,M2,e2,h⟩:=Zac.bind h;refine ⟨ι,M,env,S,E,?_⟩;rw [e1];intro x H1 ι1 x1 S1 r1;refine ⟨ι1,M1,env,S1,E.mono x1,?_⟩;rw [e2];intro y H2 ι2 x2 S2 r2;cases d with
 | ref n=>
  simp only [Zcp] at h;cases hn:ZcP M2[n]? with
  | none=>simp only [hn] at h; exact h.elim
  | some kvs=>
   cases hk:ZeM k with
   | none=>simp only [hn,hk] at h; exact h.elim
   | some kk=>
    simp only [hn,hk] at h;cases hv:Zcb kvs kk with
    | none=>simp only [hv] at h; exact h.elim
    | some w=>
     simp only [hv] at h;obtain ⟨ad,ha,rfl⟩:=(r1.mono x2).ref_inv;obtain ⟨ws,hw,kr⟩:=Zje S2 hn ha;have hv':=kr.val kk;rw [hv] at hv';obtain ⟨v,ev,rv⟩:=hv';refine ⟨ad,v,rfl,?_,h v H2 ι2 (x1.trans x2) S2 rv⟩;rw [Zgp hk r2,← ev];exact .inl ⟨ws,dk kk,hw,rfl,rfl⟩
 | _=>exact h.elim
theorem ZmD {K:Ya} {op:D -> D -> D -> Store -> R3 D} {H:Hp} {ι:List Addr} {Q:VK} {env:Zaq} {M:Store} (h':Zac K H ι Q (e3 op f g h env M)):
  ∃ a M1 b M2 c M3,f env M = .ok a M1 /\ g env M1 = .ok b M2 /\ h env M2 = .ok c M3 /\ Zac K H ι Q (op a b c M3):=by
 obtain ⟨a,M1,e1,h'⟩:=Zac.bind h';obtain ⟨b,M2,e2,h'⟩:=Zac.bind h';obtain ⟨c,M3,e3,h'⟩:=Zac.bind h';exact ⟨a,M1,b,M2,c,M3,e1,e2,e3,h'⟩
theorem Zkn {K:Ya} {H:Hp} {ι:List Addr} {D':Ends} {env:Zaq} {M:Store} {σ:St} (E:Zbm K H ι env σ) (h':Zfs K H ι D' (ZaJ f env M)):Zac K H ι (fun _ H'=>D'.nx σ H') (f env M):=by
 unfold ZaJ at h';cases q:f env M with
 | ok d M1=>rw [q] at h'; exact fun v H1 ι1 x1 S1 r1=>h' σ H1 ι1 x1 S1 (E.mono x1)
 | exc x M1=>rw [q] at h'; exact h'.elim
 | bad=>rw [q] at h'; exact h'.elim
theorem ZpG {i:Expr} (hu:X.A.units + 80 < cLine) (ho:C3 X o f) (hi:C3 X i g) (hv:C3 X e h) (hs:Yfz e (some (.Subscript o i pos')) pos.line X.env = pure false:=by rfl):CS X (.Assign [.Subscript o i pos'] e pos) (Zmt f g h):=(ZpF (hu1 hu) ho hi hv hs).imp fun D' σ H zz1=>by
 obtain ⟨ι,M,env,S,E,hh⟩:=zz1;obtain ⟨d,M1,b,M2,k,M3,e1,e2,e3,hh⟩:=ZmD (Zkn E hh);refine ⟨ι,M,env,S,E,?_⟩;rw [e1];intro v H1 ι1 x1 S1 r1;refine ⟨ι1,M1,env,S1,E.mono x1,?_⟩;rw [e2];intro x H2 ι2 x2 S2 r2;refine ⟨ι2,M2,env,S2,(E.mono x1).mono x2,?_⟩;rw [e3];intro y H3 ι3 x3 S3 r3;cases b with
 | ref n=>
  simp only [ZlN] at hh;cases hn:M3[n]? with
  | none=>simp only [hn] at hh; exact hh.elim
  | some ob=>
   cases ob with
   | lst _=>simp only [hn] at hh; exact hh.elim
   | fdct _=>simp only [hn] at hh; exact hh.elim
   | ins _ _=>simp only [hn] at hh; exact hh.elim
   | dct kvs=>
    cases hk:ZeM k with
    | none=>simp only [hn,hk] at hh; exact hh.elim
    | some kk=>
     simp only [hn,hk] at hh;split at hh
     ·rename_i hz
      obtain ⟨ad,ha,rfl⟩:=(r2.mono x3).ref_inv;obtain ⟨ws,hw,kr⟩:=S3.obj n _ ad hn ha;obtain ⟨x4,S4⟩:=S3.setd (.inr (.inr (.inl ⟨_,hw⟩))) ha (kr.put (k:=kk) ((r1.mono x2).mono x3));refine ⟨ad,_,rfl,?_,hh .non _ _ (((x1.trans x2).trans x3).trans x4) S4 Rep.non⟩;rw [Zgp hk r3];exact ZlU.k hw (by rw [kr.length]; exact Y0 hz Zbw)
     ·exact hh.elim
 | _=>exact hh.elim
theorem Zgb {i:Expr} {spos:Pos} (ho:C3 X o f) (hi:C3 X i g) (hv:C3 X e h)
  (ha:∀ v,Yfi (.Subscript o i spos) X.env v = (do
   let ov ← Yg8 [v] (eval o X.env)
   let iv ← Yg8 [v,ov] (eval i X.env)
   Yjo spos
   Yg8 [v,ov,iv] (setItem ov iv v)
   release [v,ov,iv] []):=by intro _; rfl)
  (hs:Yiw [.Subscript o i spos] e pos.line X.env = pure false:=by rfl) (hw:Yix [.Subscript o i spos] e X.env = pure none:=by rfl)
  (h1:(Ybf [.Subscript o i spos] X.env).map (·.2) = [Yfi (.Subscript o i spos) X.env]:=by rfl):CS X (.Assign [.Subscript o i spos] e pos) (Zg4 f g h):=(ZpB hv (Ztd ho hi set_list ha) hs hw h1).imp fun D' σ H zz1=>by
 obtain ⟨ι,M,env,S,E,hh⟩:=zz1;obtain ⟨d,M1,b,M2,k,M3,e1,e2,e3,hh⟩:=ZmD (Zkn E hh);refine ⟨ι,M,env,S,E,?_⟩;rw [e1];intro v H1 ι1 x1 S1 r1;refine ⟨ι1,M1,env,S1,E.mono x1,?_⟩;rw [e2];intro x H2 ι2 x2 S2 r2;refine ⟨ι2,M2,env,S2,(E.mono x1).mono x2,?_⟩;rw [e3];intro y H3 ι3 x3 S3 r3;cases b with
 | ref n=>
  cases k with
  | int j=>
   simp only [Zl0] at hh;cases hn:M3[n]? with
   | none=>simp only [hn] at hh; exact hh.elim
   | some ob=>
    cases ob with
    | dct _=>simp only [hn] at hh; exact hh.elim
    | fdct _=>simp only [hn] at hh; exact hh.elim
    | ins _ _=>simp only [hn] at hh; exact hh.elim
    | lst xs=>
     simp only [hn] at hh;cases hj:ixD xs.length j with
     | none=>simp only [hj] at hh; exact hh.elim
     | some q=>
      simp only [hj] at hh;obtain ⟨ad,ha,rfl⟩:=(r2.mono x3).ref_inv;obtain ⟨ws,hw,kr⟩:=S3.obj n _ ad hn ha;obtain ⟨x4,S4⟩:=S3.setl (.inr (.inl ⟨_,hw⟩)) ha (kr.set q ((r1.mono x2).mono x3));exact ⟨ad,ws,j,q,rfl,r3.int_inv,hw,by rw [kr.length]; exact hj,hh .non _ _ (((x1.trans x2).trans x3).trans x4) S4 Rep.non⟩
  | _=>exact hh.elim
 | _=>exact hh.elim
end
open PySem PySem.W PyProof.Rows
section
noncomputable def kev {α:Type} (lt:Nat -> Nat -> Bool):KasT α -> α
 | .ret a=>a
 | .ask i j k=>kev lt (k (lt i j))
theorem ZeA {α β:Type} (lt:Nat -> Nat -> Bool) (f:α -> KasT β):∀ t:KasT α,kev lt (t.bind f) = kev lt (f (kev lt t))
 | .ret _=>rfl
 | .ask i j k=>ZeA lt f (k (lt i j))
variable {lt:Nat -> Nat -> Bool}
structure Zfr (lt:Nat -> Nat -> Bool):Prop where
 asym:∀ {a b},lt a b = true -> lt b a = false
 tr:∀ {a b c},lt b a = false -> lt c b = false -> lt c a = false
theorem Zfr.rf (o:Zfr lt) (a:Nat):lt a a = false:=by
 cases h:lt a a
 ·rfl
 ·exact h ▸ o.asym h
noncomputable abbrev at' (p:Array Nat) (i:Nat):Nat:=p.getD i 0
theorem ZkX {p q:Array Nat} {i j:Nat} (h:p[i]? = q[j]?):at' p i = at' q j:=by
 simp only [at',Ybr,h]
def Up (lt:Nat -> Nat -> Bool) (p:Array Nat) (n:Nat):Prop:=∀ i j,i <= j -> j < n -> lt (at' p j) (at' p i) = false
def Ziw (lt:Nat -> Nat -> Bool) (p:Array Nat) (n:Nat):Prop:=∀ i j,i <= j -> j < n -> lt (at' p i) (at' p j) = false
theorem ZpT (o:Zfr lt) {p:Array Nat} {n:Nat} (h1:1 <= n) (u:Up lt p n) (h:lt (at' p n) (at' p (n - 1)) = false):Up lt p (n + 1):=by
 intro i j hij hj;by_cases e:j = n
 ·subst e
  by_cases e':i = j
  ·subst e'; exact o.rf _
  ·exact o.tr (u i (j - 1) (lC 2 563648976195601 T1 (Yad hij e') (sbA _ _)) (lB 1 4313451553 T1 (Yd h1))) h
 ·exact u i j hij ((Yad (lB 1 4305567761 T1 hj) e))
theorem Zfj (o:Zfr lt) {p:Array Nat} {n:Nat} (h1:1 <= n) (u:Ziw lt p n) (h:lt (at' p (n - 1)) (at' p n) = false):Ziw lt p (n + 1):=by
 intro i j hij hj;by_cases e:j = n
 ·subst e
  by_cases e':i = j
  ·subst e'; exact o.rf _
  ·exact o.tr h (u i (j - 1) (lC 2 563648976195601 T1 (Yad hij e') (sbA _ _)) (lB 1 4313451553 T1 (Yd h1)))
 ·exact u i j hij ((Yad (lB 1 4305567761 T1 hj) e))
theorem Zlx (o:Zfr lt) {p:Array Nat}:∀ (f n:Nat),1 <= n -> Up lt p n -> n <= kev lt (kas_asc p f n) /\ kev lt (kas_asc p f n) <= n + f /\ Up lt p (kev lt (kas_asc p f n)) /\
  (kev lt (kas_asc p f n) = n + f \/ lt (at' p (kev lt (kas_asc p f n))) (at' p (kev lt (kas_asc p f n) - 1)) = true)
 | 0,n,h1,u=>⟨Yi _,Yi _,u,.inl rfl⟩
 | f + 1,n,h1,u=>by
  have e:kev lt (kas_asc p (f + 1) n) = kev lt (if lt (at' p n) (at' p (n - 1)) = true then KasT.ret n else kas_asc p f (n + 1)):=rfl;rw [e];cases c:lt (at' p n) (at' p (n - 1)) with
  | true=>exact ⟨Yi _,by simp only [if_true,kev]; exact Yam _ _,u,.inr c⟩
  | false=>
   simp only [Yah,if_false];obtain ⟨a,b,d,e⟩:=Zlx o f (n + 1) (Yee _ _) (ZpT o h1 u c);exact ⟨lB 1 4296674305 T1 a,lC 1 0xa2c1c002a1cc001 T1 b,d,e.elim (fun z=>.inl (Yh (lC 1 0xa2c1c002a1cc021 T1 z) (lC 1 0xa2c1c02a1cc031 T1 z))) .inr⟩
theorem Zfd {p:Array Nat} {i j:Nat} (hj:j <= p.size) (k:Nat):at' (kas_rev p i j) k = if i <= k /\ k < j then at' p (i + j - 1 - k) else at' p k:=by
 have e:=getElem?_mirror_all (xs:=p) (i:=i) hj k;unfold kas_rev;split
 ·rename_i h; rw [if_pos h] at e; exact ZkX e
 ·rename_i h; rw [if_neg h] at e; exact ZkX e
theorem Zc2 (p:Array Nat) (i j:Nat):(kas_rev p i j).Perm p:=mirror_perm _ _ _ _
theorem Zd0 (p:Array Nat) (i j:Nat):(kas_rev p i j).size = p.size:=mirror_size _ _ _ _
def Alike (lt:Nat -> Nat -> Bool) (p:Array Nat) (n q:Nat):Prop:=∀ i j,n - (q + 1) <= i -> i < n -> n - (q + 1) <= j -> j < n -> lt (at' p i) (at' p j) = false
theorem ZiV (o:Zfr lt) {p:Array Nat} {n q:Nat} (hn:n <= p.size) (hq:q + 1 <= n) (d:Ziw lt p n) (a:Alike lt p n q):Ziw lt (kas_rev p (n - (q + 1)) n) n:=by
 intro i j hij hj;rw [Zfd hn,Zfd hn];by_cases h1:n - (q + 1) <= i
 ·rw [if_pos ⟨h1,Ybs hij hj⟩,if_pos ⟨Yj h1 hij,hj⟩]
  exact a _ _ (lF 4 0x53025c401a4c13c0102011011 T1 hj hij (sbA _ _) (sbA _ _)) (lE 3 0x341214c2130ca2c211001 T1 h1 (Yd (lC 1 5043654673 T1 hj)) (Yd (lE 3 0x420a4c13c0102011011 T1 hj hij (sbA _ _)))) (lE 3 0x42004c301a3c12c011011 T1 hj (sbA _ _) (sbA _ _)) (lF 4 0x451325c2140ca3c2121011001 T1 h1 hij (Yd (lC 1 5043654673 T1 hj)) (Yd (lD 2 0x300a3c12c011011 T1 hj (sbA _ _))))
 ·rw [if_neg (fun z=>lB 2 26042503169 T1 z.1 h1)]
  by_cases h2:n - (q + 1) <= j
  ·rw [if_pos ⟨h2,hj⟩]; exact d _ _ (lF 4 0x51025c401a4c30c0132111041 T1 h1 hj (sbA _ _) (sbA _ _)) (lE 3 0x341214c2130ca2c211001 T1 h2 (Yd (lC 1 8801751105 T1 h1)) (Yd (lD 2 0x300a3c12c011011 T1 hj (sbA _ _))))
  ·rw [if_neg (fun z=>lB 2 26042503169 T1 z.1 h2)]; exact d _ _ hij hj
theorem Zhl (o:Zfr lt):∀ (f:Nat) (p:Array Nat) (n q:Nat),q + 1 <= n -> n + f <= p.size -> Ziw lt p n -> Alike lt p n q ->
  let r:=kev lt (kas_desc f p n q); r.1.Perm p /\ r.1.size = p.size /\ n <= r.2.1 /\ r.2.1 <= n + f /\ r.2.2 + 1 <= r.2.1 /\ Ziw lt r.1 r.2.1 /\ Alike lt r.1 r.2.1 r.2.2
 | 0,p,n,q,hq,hs,d,a=>⟨Yef _,rfl,Yi _,Yi _,hq,d,a⟩
 | f + 1,p,n,q,hq,hs,d,a=>by
  have one:∀ (p':Array Nat),Alike lt p' (n + 1) 0:=fun p' i j h1 h2 h3 h4=>by
   have:i = j:=Yh (lD 3 0x120aec0ca3c01a3c2111001 T1 h3 h2 (sbA _ _)) (lD 3 0x300aec2ca1c013201a1c011 T1 h4 h1 (sbA _ _));subst this; exact o.rf _
  unfold kas_desc;simp only [kev];cases c:lt (p.getD n 0) (p.getD (n - 1) 0) with
  | true=>
   simp only [if_true];by_cases hq0:q > 0
   ·rw [if_pos hq0]
    have hl:lt (at' (kas_rev p (n - (q + 1)) n) (n - 1)) (at' (kas_rev p (n - (q + 1)) n) n) = false:=by
     rw [Zfd (by exact lC 1 2199729736705 T1 hs),Zfd (by exact lC 1 2199729736705 T1 hs),if_pos ⟨lD 2 0x300a3c2012a1c0c21 T1 (Yd hq) (sbA _ _),lB 1 4313451553 T1 (Yd (lB 1 6981028865 T1 hq))⟩,if_neg (fun z=>lA 1 393233 T1 z.2)];exact o.tr (o.asym c) (a _ _ (lE 3 0x40034c2011a3c21a2c10c01 T1 (sbA _ _) (Yd (lB 1 6981028865 T1 hq)) (sbA _ _)) (lF 4 0x251345c21a4c20120ca3c212a1c0c21 T1 (Yd hq) (Yd (lC 1 1291176250369 T1 hq)) (sbA _ _) (Yd (lD 2 0x2301a3c21a2c10c01 T1 (sbA _ _) (Yd (lB 1 6981028865 T1 hq))))) (lD 2 0x300a3c2012a1c0c21 T1 (Yd hq) (sbA _ _)) (lB 1 4313451553 T1 (Yd (lB 1 6981028865 T1 hq))))
    obtain ⟨h1,h2,h3,h4,h5,h6,h7⟩:=Zhl o f (kas_rev p (n - (q + 1)) n) (n + 1) 0 (lA 0 168603328 T1) (by rw [Zd0]; exact lC 1 0x21a0cc02a1c0c01 T1 hs) (Zfj o (lB 1 6981028865 T1 hq) (ZiV o (lC 1 2199729736705 T1 hs) hq d a) hl) (one _);exact ⟨h1.trans (Zc2 _ _ _),h2.trans (Zd0 _ _ _),lB 1 4296674305 T1 h3,lC 1 0xa2c1c002a1cc001 T1 h4,h5,h6,h7⟩
   ·rw [if_neg hq0]
    obtain ⟨h1,h2,h3,h4,h5,h6,h7⟩:=Zhl o f p (n + 1) 0 (lA 0 168603328 T1) (lC 1 0x21a0cc02a1c0c01 T1 hs) (Zfj o (lB 1 6981028865 T1 hq) d (o.asym c)) (one _);exact ⟨h1,h2,lB 1 4296674305 T1 h3,lC 1 0xa2c1c002a1cc001 T1 h4,h5,h6,h7⟩
  | false=>
   simp only [Yah,if_false,kev];cases c2:lt (p.getD (n - 1) 0) (p.getD n 0) with
   | true=>exact ⟨Yef _,rfl,Yi _,by simp only [if_true,kev]; exact Yam _ _,hq,d,a⟩
   | false=>
    simp only [Yah,if_false];have al:Alike lt p (n + 1) (q + 1):=fun i j h1 h2 h3 h4=>by
     have z:∀ k,n + 1 - (q + 1 + 1) <= k -> k < n + 1 -> lt (at' p k) (at' p n) = false /\ lt (at' p n) (at' p k) = false:=fun k k1 k2=>by
      by_cases e:k = n
      ·subst e; exact ⟨o.rf _,o.rf _⟩
      ·exact ⟨o.tr c2 (a k (n - 1) (lE 3 0x120aa3cc0ca4c014a3c2c211001 T1 k1 (Yd hq) (sbA _ _)) ((Yad (lB 1 4305567761 T1 k2) e)) (lD 2 0x300a3c2012a1c0c21 T1 (Yd hq) (sbA _ _)) (lB 1 4313451553 T1 (Yd (lB 1 6981028865 T1 hq)))),o.tr (a (n - 1) k (lD 2 0x300a3c2012a1c0c21 T1 (Yd hq) (sbA _ _)) (lB 1 4313451553 T1 (Yd (lB 1 6981028865 T1 hq))) (lE 3 0x120aa3cc0ca4c014a3c2c211001 T1 k1 (Yd hq) (sbA _ _)) ((Yad (lB 1 4305567761 T1 k2) e))) c⟩
     exact o.tr (z j h3 h4).2 (z i h1 h2).1
    obtain ⟨h1,h2,h3,h4,h5,h6,h7⟩:=Zhl o f p (n + 1) (q + 1) (lB 1 0xa1caa0cc01a0c01 T1 hq) (lC 1 0x21a0cc02a1c0c01 T1 hs) (Zfj o (lB 1 6981028865 T1 hq) d c2) al;exact ⟨h1,h2,lB 1 4296674305 T1 h3,lC 1 0xa2c1c002a1cc001 T1 h4,h5,h6,h7⟩
theorem Zls {p:Array Nat} {n:Nat} (hn:n <= p.size) (d:Ziw lt p n):Up lt (kas_rev p 0 n) n:=by
 intro i j hij hj;rw [Zfd hn,Zfd hn,if_pos ⟨Yag _,hj⟩,if_pos ⟨Yag _,Ybs hij hj⟩];exact d _ _ (lE 3 0x340214c2103c2011001 T1 hij (sbA _ _) (Yd (lC 2 0x200a2c1ec011011 T1 hj (sbA _ _)))) (lC 2 81348472104160289 T1 (Yd (lB 1 8264880145 T1 hj)) (Yb9 _ _))
theorem ZkR (o:Zfr lt) {p:Array Nat} {n nrem:Nat} (h1:1 <= n) (hn:n <= nrem) (hs:nrem <= p.size) (d:Ziw lt p n):
  let r:=kev lt (kas_tail3 n nrem p); r.2.Perm p /\ r.2.size = p.size /\ 1 <= r.1 /\ r.1 <= nrem /\ Up lt r.2 r.1:=by
 unfold kas_tail3;rw [ZeA];obtain ⟨a,b,c,_⟩:=Zlx o (p:=kas_rev p 0 n) (nrem - n) n h1 (Zls (Yj hn hs) d);exact ⟨Zc2 _ _ _,Zd0 _ _ _,Yj h1 a,Yj b (lC 1 2206541614113 T1 (Yd hn)),c⟩
theorem ZgY (o:Zfr lt) {p:Array Nat} {n nrem:Nat} (h1:1 <= n) (hn:n + 1 <= nrem) (hs:nrem <= p.size) (d:Ziw lt p (n + 1)):
  let r:=kev lt (kas_descPart n nrem p); r.2.Perm p /\ r.2.size = p.size /\ 1 <= r.1 /\ r.1 <= nrem /\ Up lt r.2 r.1:=by
 unfold kas_descPart;rw [ZeA];have one:Alike lt p (n + 1) 0:=fun i j h1 h2 h3 h4=>by
  have:i = j:=Yh (lD 3 0x120aec0ca3c01a3c2111001 T1 h3 h2 (sbA _ _)) (lD 3 0x300aec2ca1c013201a1c011 T1 h4 h1 (sbA _ _));subst this; exact o.rf _
 obtain ⟨a1,a2,a3,a4,a5,a6,a7⟩:=Zhl o (nrem - (n + 1)) p (n + 1) 0 (lA 0 168603328 T1) (lD 2 0x12a3cc00a3c2c211001 T1 hs (Yd hn)) d one;generalize kev lt (kas_desc (nrem - (n + 1)) p (n + 1) 0) = r at *;dsimp only;by_cases hq:r.2.2 > 0
 ·rw [if_pos hq]
  obtain ⟨b1,b2,b3,b4,b5⟩:=ZkR o (p:=kas_rev r.1 (r.2.1 - (r.2.2 + 1)) r.2.1) (n:=r.2.1) (nrem:=nrem) (lB 1 6981028865 T1 a5) (lD 2 0x3003a1c2c212a1cc001 T1 a4 (Yd hn)) (by rw [Zd0]; exact lC 2 137741013041 T1 a2 hs) (ZiV o (lF 4 0x3005a1c2c21450143312a1cc001 T1 a4 a2 hs (Yd hn)) a5 a6 a7);exact ⟨(b1.trans (Zc2 _ _ _)).trans a1,(b2.trans (Zd0 _ _ _)).trans a2,b3,b4,b5⟩
 ·rw [if_neg hq]
  obtain ⟨b1,b2,b3,b4,b5⟩:=ZkR o (p:=r.1) (n:=r.2.1) (nrem:=nrem) (lB 1 6981028865 T1 a5) (lD 2 0x3003a1c2c212a1cc001 T1 a4 (Yd hn)) (lC 2 137741013041 T1 a2 hs) a6;exact ⟨b1.trans a1,b2.trans a2,b3,b4,b5⟩
theorem Zox (o:Zfr lt) {p:Array Nat} {nrem:Nat} (h1:1 <= nrem) (hs:nrem <= p.size):let r:=kev lt (kas_count nrem p); r.2.Perm p /\ r.2.size = p.size /\ 1 <= r.1 /\ r.1 <= nrem /\ Up lt r.2 r.1:=by
 unfold kas_count;rw [ZeA];have u1:Up lt p 1:=fun i j hij hj=>by
  have:i = j:=Yh hij (lB 1 16818193 T1 hj);subst this; exact o.rf _
 obtain ⟨a,b,c,d⟩:=Zlx o (p:=p) (nrem - 1) 1 (Yi _) u1;generalize kev lt (kas_asc p (nrem - 1) 1) = n at *;dsimp only;by_cases e:(n == nrem) = true
 ·rw [if_pos e]; exact ⟨Yef _,rfl,a,by show n <= nrem; exact lC 2 0x2002a1c211ac001 T1 b (Yd h1),c⟩
 ·rw [if_neg e]
  have hne:n ≠ nrem:=by simpa using e
  have hlt:lt (at' p n) (at' p (n - 1)) = true:=d.resolve_left (fun z=>lB 2 25787699217 T1 (Yad (lC 2 0x2002a1c211ac021 T1 z (Yd h1)) hne) (Yad (lC 2 9185053868998705 T1 z (sbA _ _)) (Ya4 hne)));by_cases hn:n > 1
  ·rw [if_pos hn]
   simp only [kev];cases c0:lt (p.getD 0 0) (p.getD (n - 1) 0) with
   | true=>exact ⟨Yef _,rfl,a,by show n <= nrem; exact Yde (Yad (lC 2 0x2002a1c211ac001 T1 b (Yd h1)) hne),c⟩
   | false=>
    simp only [Yah,if_false];have dn:Ziw lt (kas_rev p 0 n) (n + 1):=by
     have al:∀ i j,i < n -> j < n -> lt (at' p i) (at' p j) = false:=fun i j hi hj=>
      o.tr (o.tr (c j (n - 1) (lC 2 563648976195601 T1 hj (sbA _ _)) (lB 1 4313451553 T1 (Yd (lB 1 27267089 T1 hj)))) c0) (c 0 i (Yag _) (hi))
     intro i j hij hj;rw [Zfd (by exact lC 2 1236985253889 T1 hs (Yad (lC 2 0x2002a1c211ac001 T1 b (Yd h1)) hne)),Zfd (by exact lC 2 1236985253889 T1 hs (Yad (lC 2 0x2002a1c211ac001 T1 b (Yd h1)) hne))];by_cases ej:j < n
     ·rw [if_pos ⟨Yag _,Ybs hij ej⟩,if_pos ⟨Yag _,ej⟩]; exact al _ _ (lC 2 81348472104160289 T1 (Yd (lB 1 8264880145 T1 ej)) (Yb9 _ _)) (lC 2 81348472104160289 T1 (Yd (lB 1 8264880145 T1 ej)) (Yb9 _ _))
     ·have:j = n:=Yh (lB 1 4305567761 T1 hj) (Y8 ej)
      subst this;by_cases ei:i < j
      ·rw [if_pos ⟨Yag _,ei⟩,if_neg (fun z=>lA 1 393233 T1 z.2)]
       exact o.tr (o.asym hlt) (al _ _ (lC 2 81348472104160289 T1 (Yd (lB 1 8264880145 T1 ei)) (Yb9 _ _)) (lB 1 4313451553 T1 (Yd (lB 1 27267089 T1 ei))))
      ·have:i = j:=Yh hij (Y8 ei)
       subst this; rw [if_neg (fun z=>lA 1 393233 T1 z.2)]; exact o.rf _
    obtain ⟨b1,b2,b3,b4,b5⟩:=ZgY o (p:=kas_rev p 0 n) (n:=n) (nrem:=nrem) a (lB 1 6991908881 T1 (Yad (lC 2 0x2002a1c211ac001 T1 b (Yd h1)) hne)) (by rw [Zd0]; exact hs) dn;exact ⟨b1.trans (Zc2 _ _ _),b2.trans (Zd0 _ _ _),b3,b4,b5⟩
  ·rw [if_neg hn]
   have:n = 1:=Yh (Y8 hn) a;subst this;exact ZgY o (Yi _) (lA 1 2864712209 T1 (Yad h1 hne)) hs (Zfj o (Yi _) (fun i j hij hj=>by
    have:i = j:=Yh hij (lB 1 16818193 T1 hj);subst this; exact o.rf _) (o.asym hlt))
theorem Zid (o:Zfr lt) {p:Array Nat} {k:Nat} (u:Up lt p k):∀ (f l r:Nat),l <= r -> r <= k -> r <= l + f -> (∀ i,i < l -> lt (at' p k) (at' p i) = false) -> (∀ i,r <= i -> i < k -> lt (at' p k) (at' p i) = true) ->
  let m:=kev lt (kas_place p k f l r); m <= k /\ (∀ i,i < m -> lt (at' p k) (at' p i) = false) /\ (∀ i,m <= i -> i < k -> lt (at' p k) (at' p i) = true)
 | 0,l,r,h1,h2,h3,hl,hr=>⟨by show l <= k; exact Yj h1 h2,hl,fun i hi hk=>hr i (by have:l <= i:=hi; exact lC 2 317624676323329 T1 this h3) hk⟩
 | f + 1,l,r,h1,h2,h3,hl,hr=>by
  unfold kas_place;by_cases c:l >= r
  ·rw [if_pos c]; exact ⟨by show l <= k; exact Yj h1 h2,hl,fun i hi hk=>hr i (by have:l <= i:=hi; exact Yj c this) hk⟩
  ·rw [if_neg c]
   simp only [kev];cases q:lt (p.getD k 0) (p.getD ((l + r) / 2) 0) with
   | true=>
    simp only [if_true];refine Zid o u f l ((l + r) / 2) (Y8 fun z=>lC 3 0x6a0c02d21c1112411012 T1 z c (Yio _ (by decide))) (Y8 fun z=>lD 4 0x623c102d01020232411012 T1 z c h2 (Ydc _ _)) (Y8 fun z=>lD 3 0x630c202d01a1c0c301210c12 T1 z h3 (Ydc _ _)) hl fun i hi hk=>?_;cases z:lt (at' p k) (at' p i) with
    | true=>rfl
    | false=>
     have:=o.tr (u ((l + r) / 2) i hi hk) z;rw [q] at this; cases this
   | false=>
    simp only [Yah,if_false];exact Zid o u f ((l + r) / 2 + 1) r (Y8 fun z=>lC 3 0x602c102d012041a1c012 T1 z c (Ydc _ _)) h2 (Y8 fun z=>lD 3 0x6a0c02d23c11a1c3c20121a0cc12 T1 z h3 (Yio _ (by decide))) (fun i hi=>o.tr (u i ((l + r) / 2) (lB 1 4305567761 T1 hi) (Ydv fun z=>lD 4 0x623c102d01020232411002 T1 z c h2 (Ydc _ _))) q) hr
theorem ZiN {p:Array Nat} {k d:Nat} (hk:k < p.size) (hd:d <= k) (i:Nat):at' (bubble p k d) i = if i = k - d then at' p k else if k - d < i /\ i <= k then at' p (i - 1) else at' p i:=by
 have e:=getElem?_bubble (xs:=p) hk d hd i;by_cases h1:i = k - d
 ·rw [if_pos h1] at e ⊢; exact ZkX e
 ·rw [if_neg h1] at e ⊢
  by_cases h2:k - d < i /\ i <= k
  ·rw [if_pos h2] at e ⊢; exact ZkX e
  ·rw [if_neg h2] at e ⊢; exact ZkX e
theorem ZnY (o:Zfr lt):∀ (f:Nat) (p:Array Nat) (k:Nat),k + f = p.size -> Up lt p k -> (kev lt (kas_bin f p k)).Perm p /\ Up lt (kev lt (kas_bin f p k)) p.size
 | 0,p,k,h,u=>⟨Yef _,by rw [← h]; exact u⟩
 | f + 1,p,k,h,u=>by
  unfold kas_bin;rw [ZeA];obtain ⟨a,b,c⟩:=Zid o u k 0 k (Yag _) (Yi _) (Yee _ _) (fun i hi=>(lA 1 450577 T1 hi).elim) (fun i h1 h2=>(lB 2 25786650641 T1 h2 h1).elim);generalize kev lt (kas_place p k k 0 k) = m at *;have sz:=bubble_size p k (k - m);have up:Up lt (bubble p k (k - m)) (k + 1):=by
   intro i j hij hj;have e:k - (k - m) = m:=Yh (lD 2 0x230013c2121c001 T1 (sbA _ _) (Yd ((Yb9 _ _)))) (lD 2 0x31003c201210c21 T1 (Yd a) (sbA _ _));rw [ZiN (by exact lC 1 2204024704033 T1 h) ((Yb9 _ _)),ZiN (by exact lC 1 2204024704033 T1 h) ((Yb9 _ _)),e];by_cases e1:i = m
   ·rw [if_pos e1]
    by_cases e2:j = m
    ·rw [if_pos e2]; exact o.rf _
    ·rw [if_neg e2,if_pos ⟨(Yad (lC 2 2268279672881 T1 e1 hij) (Ya4 e2)),lB 1 4305567761 T1 hj⟩]; exact o.asym (c _ (lC 2 563648976195601 T1 (Yad (lC 2 2268279672881 T1 e1 hij) (Ya4 e2)) (sbA _ _)) (lC 2 81357452928466961 T1 hj (Yd (lB 1 27267089 T1 (Yad (lC 2 2268279672881 T1 e1 hij) (Ya4 e2))))))
   ·rw [if_neg e1]
    by_cases e2:j = m
    ·rw [if_pos e2,if_neg (fun z=>lC 3 0x6210102211011 T1 z.1 e2 hij)]; exact b _ ((Yad (lC 2 1236984205345 T1 e2 hij) e1))
    ·rw [if_neg e2]
     by_cases e3:m < i
     ·rw [if_pos (show m < i /\ i <= k from ⟨e3,lC 2 316667966111761 T1 hj hij⟩),if_pos (show m < j /\ j <= k from ⟨Y0 e3 hij,lB 1 4305567761 T1 hj⟩)]; exact u _ _ (lD 3 0x320a3c1010a2c211001 T1 hij (Yd (lB 1 27267089 T1 e3)) (sbA _ _)) (lC 2 81357452928466961 T1 hj (Yd (lC 2 2886771740689 T1 e3 hij)))
     ·rw [if_neg (show ¬ (m < i /\ i <= k) from fun z=>e3 z.1)]
      by_cases e4:m < j
      ·rw [if_pos (show m < j /\ j <= k from ⟨e4,lB 1 4305567761 T1 hj⟩)]; exact u _ _ (lD 3 0x320a3c10120511011 T1 e4 e3 (sbA _ _)) (lC 2 81357452928466961 T1 hj (Yd (lB 1 27267089 T1 e4)))
      ·rw [if_neg (show ¬ (m < j /\ j <= k) from fun z=>e4 z.1)]; exact u _ _ (hij) (Y0 (Yad (Y8 e4) e2) a)
  obtain ⟨h1,h2⟩:=ZnY o f (bubble p k (k - m)) (k + 1) (by rw [sz]; exact Yh (lC 1 0x21a0cc02a1c0c21 T1 h) (lC 1 0x1a0cc202a1c0c31 T1 h)) up;exact ⟨h1.trans (bubble_perm _ _ _),by rw [sz] at h2; exact h2⟩
theorem Zp8 (o:Zfr lt) {n:Nat} (h1:1 <= n):(kev lt (kas_sort n)).Perm (Yfq (Yaa n)) /\ Up lt (kev lt (kas_sort n)) n:=by
 unfold kas_sort;rw [ZeA];obtain ⟨a1,a2,a3,a4,a5⟩:=Zox o (p:=Yfq (Yaa n)) h1 (by simp);generalize kev lt (kas_count n (Yfq (Yaa n))) = r at *;have sz:r.2.size = n:=by rw [a2]; simp
 by_cases c:r.1 < n
 ·rw [if_pos c]
  have hm:max r.1 1 = r.1:=by omega
  rw [hm];obtain ⟨b1,b2⟩:=ZnY o (n - r.1) r.2 r.1 (Yh (lD 2 0x23c0132c211031 T1 sz (Yd (Yde c))) (lD 2 0x23c0032c1011021 T1 sz (sbA _ _))) a5;exact ⟨b1.trans a1,by rw [sz] at b2; exact b2⟩
 ·rw [if_neg c]
  have:r.1 = n:=Yh a4 (Y8 c);exact ⟨a1,by rw [← this]; exact a5⟩
end
end L3
namespace L3
open PySem PySem.W PyProof.Rows
section
noncomputable def ZeN {α:Type} (n:Nat) (R:α -> Prop):KasT α -> Prop
 | .ret a=>R a
 | .ask i j k=>i < n /\ j < n /\ ∀ b,ZeN n R (k b)
theorem ZeN.bind {α β:Type} {n:Nat} {R:α -> Prop} {R':β -> Prop} {f:α -> KasT β} (hf:∀ a,R a -> ZeN n R' (f a)):∀ {t:KasT α},ZeN n R t -> ZeN n R' (t.bind f)
 | .ret a,h=>hf a h
 | .ask _ _ _,⟨h1,h2,h3⟩=>⟨h1,h2,fun b=>(h3 b).bind hf⟩
theorem Zld {α:Type} {n:Nat} {lt:Nat -> Nat -> Bool} {cmp:Nat -> Nat -> (Bool -> Yg -> Prop) -> Yg -> Prop} {G:Yg -> Prop} {R:α -> Prop} (hc:∀ i j (C:Bool -> Yg -> Prop) s,i < n -> j < n -> G s -> (∀ s',G s' -> C (lt i j) s') -> cmp i j C s) {Q:α -> Yg -> Prop}:
  ∀ (t:KasT α),ZeN n R t -> ∀ (s:Yg),G s -> (∀ s',G s' -> Q (kev lt t) s') -> t.kasWp cmp Q s
 | .ret _,_,s,g,h=>h s g
 | .ask i j k,⟨h1,h2,h3⟩,s,g,h=>hc i j _ s h1 h2 g fun s' g'=>Zld hc (k (lt i j)) (h3 _) s' g' h
variable {n:Nat}
def Low (n:Nat) (p:Array Nat):Prop:=∀ i,at' p i < n
theorem Low.perm {p q:Array Nat} (h0:0 < n) (l:Low n p) (e:q.Perm p):Low n q:=by
 intro i;unfold at';rw [Ybr];cases h:q[i]? with
 | none=>simpa using h0
 | some x=>
  have hx:x ∈ p:=e.mem_iff.mp (Yhn h);obtain ⟨j,hj,e2⟩:=Array.mem_iff_getElem.mp hx;have:=l j;unfold at' at this;rw [Ybr,Array.getElem?_eq_getElem hj,e2] at this;simpa using this
theorem Zji {p:Array Nat} (l:Low n p):∀ (f m:Nat),ZeN n (fun _=>True) (kas_asc p f m)
 | 0,_=>trivial
 | f + 1,m=>⟨l _,l _,fun b=>by
  cases b with
  | true=>exact trivial
  | false=>exact Zji l f (m + 1)⟩
theorem Zgl (h0:0 < n):∀ (f:Nat) (p:Array Nat) (m q:Nat),Low n p -> ZeN n (fun r=>Low n r.1) (kas_desc f p m q)
 | 0,p,_,_,l=>l
 | f + 1,p,m,q,l=>by
  unfold kas_desc;refine ⟨l _,l _,fun b=>?_⟩;cases b with
  | true=>
   simp only [if_true];split
   ·exact Zgl h0 f _ _ _ (l.perm h0 (Zc2 _ _ _))
   ·exact Zgl h0 f _ _ _ l
  | false=>
   simp only [Yah,if_false];refine ⟨l _,l _,fun c=>?_⟩;cases c with
   | true=>exact l
   | false=>exact Zgl h0 f _ _ _ l
theorem ZiT (h0:0 < n) {p:Array Nat} {m nrem:Nat} (l:Low n p):ZeN n (fun r=>Low n r.2) (kas_tail3 m nrem p):=
 ZeN.bind (R:=fun _=>True) (R':=fun r=>Low n r.2) (f:=fun m'=>KasT.ret (m',kas_rev p 0 m)) (fun _ _=>l.perm h0 (Zc2 p 0 m)) (Zji (l.perm h0 (Zc2 _ _ _)) _ _)
theorem Zgu (h0:0 < n) {p:Array Nat} {m nrem:Nat} (l:Low n p):ZeN n (fun r=>Low n r.2) (kas_descPart m nrem p):=by
 refine ZeN.bind (fun r hr=>?_) (Zgl h0 _ _ _ _ l);split
 ·exact ZiT h0 (Low.perm h0 hr (Zc2 _ _ _))
 ·exact ZiT h0 hr
theorem Zm7 (h0:0 < n) {p:Array Nat} {nrem:Nat} (l:Low n p):ZeN n (fun r=>Low n r.2) (kas_count nrem p):=by
 refine ZeN.bind (fun m _=>?_) (Zji l _ _);split
 ·exact l
 ·split
  ·refine ⟨l _,l _,fun b=>?_⟩
   cases b with
   | true=>exact l
   | false=>exact Zgu h0 (l.perm h0 (Zc2 _ _ _))
  ·exact Zgu h0 l
theorem ZgP {p:Array Nat} {k:Nat} (l:Low n p):∀ (f a b:Nat),ZeN n (fun _=>True) (kas_place p k f a b)
 | 0,_,_=>trivial
 | f + 1,a,b=>by
  unfold kas_place;split
  ·exact trivial
  ·refine ⟨l _,l _,fun c=>?_⟩
   cases c with
   | true=>exact ZgP l f _ _
   | false=>exact ZgP l f _ _
theorem Zmw (h0:0 < n):∀ (f:Nat) (p:Array Nat) (k:Nat),Low n p -> ZeN n (fun _=>True) (kas_bin f p k)
 | 0,_,_,_=>trivial
 | f + 1,p,k,l=>ZeN.bind (fun _ _=>Zmw h0 f _ _ (l.perm h0 (bubble_perm _ _ _))) (ZgP l _ _ _)
theorem ZoD (h0:0 < n):ZeN n (fun _=>True) (kas_sort n):=by
 have l:Low n (Yfq (Yaa n)):=fun i=>by
  unfold at';rw [Ybr];cases h:(Yfq (Yaa n))[i]? with
  | none=>simpa using h0
  | some x=>
   have:=Yhn h;simpa using this
 refine ZeN.bind (fun r hr=>?_) (Zm7 h0 l);split
 ·exact Zmw h0 _ _ _ hr
 ·exact trivial
end
section
variable {prog:Yaf} {w:World} {A:Yar} {E:Value -> Yg -> Prop} {s:Yg}
noncomputable def Zhc (h:Heap) (a:Addr) (vs:List Value):Heap:=((h.update a (Ydl fun _=>#[])).push (Ygv "tuple" vs.toArray 0)).push (Ygv "list" #[] 0)
def Zfu (s s':Yg):Prop:=∃ t,s' = { s with toks:=t }
theorem ZoW {h:Heap} {a b:Addr} {vs:List Value} (hb:b ≠ a) (hlt:b < h.objs.size):(Zhc h a vs).get? b = h.get? b:=by
 unfold Zhc;rw [Yc4 _ _ _ (by rw [Yi6,Ydx]; exact Y2 (Ybm hlt)),Yc4 _ _ _ (by rw [Ydx]; exact Y2 hlt),Yip _ _ _ _ hb]
theorem Zo2 {a:Addr} {vs:List Value} {n:Nat} {lt:Nat -> Nat -> Bool} {κ:Yje} {P:PySem.Fin -> Yg -> Prop} (o:Zfr lt) (ho:s.heap.get? a = some (Ygv "list" vs.toArray n)) (h64:vs.length < 64)
  (hk:2 <= vs.length -> ∀ (Q:Yje -> Yg -> Prop) s',Zfu { s with heap:=Zhc s.heap a vs } s' -> (∀ s'',Zfu { s with heap:=Zhc s.heap a vs } s'' -> Q κ s'') -> wpAny (model prog w) A (keyKind' vs.toArray) Q E s')
  (hc:2 <= vs.length -> ∀ i j (C:Bool -> Yg -> Prop) s',i < vs.length -> j < vs.length -> Zfu { s with heap:=Zhc s.heap a vs } s' -> (∀ s'',Zfu { s with heap:=Zhc s.heap a vs } s'' -> C (lt i j) s'') -> kas_ask prog w A κ vs i j C s')
  (h:∀ (out:List Value) (p:List Nat) t,p.Perm (Yaa vs.length) -> (∀ (i j x y:Nat),i <= j -> p[i]? = some x -> p[j]? = some y -> lt y x = false) -> out = p.map (fun i=>vs.getD i Value.none) -> P (.done (.ret .none)) { s with heap:=sortedHeap s.heap a vs out.toArray,toks:=t }):
  wpAny (model prog w) A (Builtin.«list.sort» ⟨[.ref a],[]⟩) P E s:=by
 have ha:a < s.heap.objs.size:=Yo ho;obtain ⟨e1,g1⟩:∃ e1,(s.heap.update a (Ydl fun _=>(#[]:Array Value))).get? a = some (Ygv "list" #[] e1):=⟨_,get?_update_seq ho _⟩;have g6:(Zhc s.heap a vs).get? a = some (Ygv "list" #[] e1):=by
  unfold Zhc; rw [Yc4 _ _ _ (by rw [Yi6,Ydx]; exact Y2 (Ybm ha)),Yc4 _ _ _ (by rw [Ydx]; exact Y2 ha)]; exact g1
 rw [list_sort_plain]; refine Yc (listItems_at ho rfl (Yc (Yi0 ho rfl ?_ (by rw [Ye,Ybe]; exact lA 1 0x10000007b00402b011 T1 h64) (Yag _))));refine Yc (Yjk g1 rfl (Yc (wpAny_newTuple ?_ (by show vs.length <= _; rw [Ybe]; exact lA 1 0x10000007b00402b011 T1 h64)))); refine Yc (wpAny_newList ?_ (Yag _));refine Yau ?_;show wpAny (model prog w) A _ P E { s with heap:=Zhc s.heap a vs };dsimp only;by_cases h2:vs.length < 2
 ·have q2:vs.toArray.size < 2:=by rw [Ye]; exact h2
  rw [if_pos q2,if_pos q2]; refine Yc (Ym ?_);rw [StateT.run_pure]; refine Yc (Ym ?_);dsimp only; refine Yc (Yjk g6 rfl (Yc (Yi0 g6 rfl ?_ (Yag _) ?_)))
  ·have es:(arrOf (SortSt.mk' general' (vs.toArray.zip vs.toArray) #[] 7 none)).map (·.2) = vs.toArray:=by
    show (vs.toArray.zip vs.toArray).map (·.2) = _;apply Array.toList_inj.mp; simp [List.map_snd_zip]
   rw [es]; simp only [bne_self_eq_false,Yah,if_false];refine Ym (h vs (Yaa vs.length) s.toks (List.Perm.refl _) (fun i j x y hij hx hy=>?_) ?_)
   ·have:=(Yb.mp hx).1
    have:=(Yb.mp hy).1;simp only [Ydo] at *;have:i = j:=Yh hij (lC 2 563094658027537 T1 this h2);subst this; rw [hx] at hy; cases hy; exact o.rf _
   ·apply Ybl
    intro i;rw [Yp];by_cases hi:i < vs.length
    ·simp [hi]
    ·simp [hi]
  ·refine Yj (Yb4 (Array.size_map ..)) ?_
   show (vs.toArray.zip vs.toArray).size <= _;rw [Array.size_zip,Ye,Ybe]; exact lB 2 0xa10000007bc10010121b011 T1 h2 (Yed _ _)
 ·have q2:¬ vs.toArray.size < 2:=by rw [Ye]; exact h2
  have h2':2 <= vs.length:=Y8 h2;rw [if_neg q2,if_neg q2];refine Yc (hk h2' _ _ ⟨s.toks,rfl⟩ fun s' hs'=>?_);refine Yc (Ybt (kat_run (Q:=fun st' s''=>Zfu { s with heap:=Zhc s.heap a vs } s'' /\ failedOf st' = none /\ arrOf st' = (kev lt (kas_sort vs.length)).map (kas_item (vs.toArray.zip vs.toArray))) (G:=fun p s''=>Zfu { s with heap:=Zhc s.heap a vs } s'' /\ p = kev lt (kas_sort vs.length)) rfl h2' h64
   (fun p st' s'' _ a2 a3 ⟨a4,a5⟩=>⟨a4,a3,by rw [a2,a5]⟩) (Zld (n:=vs.length) (hc h2') _ (ZoD (lA 1 3775011585 T1 h2')) s' hs' fun s'' g=>⟨g,rfl⟩)) ?_ fun _ _ e=>e)
  rintro ⟨⟨⟩,st'⟩ s'' ⟨⟨t,rfl⟩,hf,har⟩;dsimp only;obtain ⟨pp,pu⟩:=Zp8 o (n:=vs.length) (lA 1 2684492545 T1 h2');generalize kev lt (kas_sort vs.length) = p at pp pu har;have hout:=kat_snds (vs:=vs) (ks:=vs) rfl har;rw [hout];have hlen:p.toList.length = vs.length:=by have:=pp.size_eq; simpa using this
  refine Yc (Yjk g6 rfl (Yc (Yi0 g6 rfl ?_ (Yag _) (by rw [Ye,Yk,hlen,Ybe]; exact lA 1 0xa10000007bc00402b011 T1 h64))));rw [hf]; simp only [bne_self_eq_false,Yah,if_false];refine Ym (h _ p.toList t ?_ (fun i j x y hij hx hy=>?_) rfl)
  ·have:=Array.perm_iff_toList_perm.mp pp; simpa using this
  ·have hj:=(Yb.mp hy).1
   have u:=pu i j hij (by rw [hlen] at hj; exact hj);have cv:∀ (k z:Nat),p.toList[k]? = some z -> at' p k = z:=fun k z hz=>by
    rw [at',Ybr,← Yhl,hz]; rfl
   rw [cv i x hx,cv j y hy] at u; exact u
theorem ZkP {l:Addr} {vs:List Value} {lt:Nat -> Nat -> Bool} {κ:Yje} {Q:Value -> Yg -> Prop} (o:Zfr lt) (hl:s.heap.IsList l vs.toArray) (h64:vs.length < 64)
  (hk:2 <= vs.length -> ∀ (h':Heap) (Q:Yje -> Yg -> Prop) s',(∀ b u,s.heap.get? b = some u -> h'.get? b = some u) -> Zfu { s with heap:=h' } s' -> (∀ s'',Zfu { s with heap:=h' } s'' -> Q κ s'') -> wpAny (model prog w) A.in1.in1 (keyKind' vs.toArray) Q (fun _ _=>False) s')
  (hc:2 <= vs.length -> ∀ (h':Heap) i j (C:Bool -> Yg -> Prop) s',(∀ b u,s.heap.get? b = some u -> h'.get? b = some u) -> i < vs.length -> j < vs.length -> Zfu { s with heap:=h' } s' -> (∀ s'',Zfu { s with heap:=h' } s'' -> C (lt i j) s'') -> kas_ask prog w A.in1.in1 κ vs i j C s')
  (h:∀ (out:List Value) (p:List Nat) t h' a,p.Perm (Yaa vs.length) -> (∀ (i j x y:Nat),i <= j -> p[i]? = some x -> p[j]? = some y -> lt y x = false) -> out = p.map (fun i=>vs.getD i Value.none) ->
   (∀ b u,s.heap.get? b = some u -> h'.get? b = some u) -> s.heap.objs.size <= a -> (∃ e,h'.get? a = some (Ygv "list" out.toArray e)) -> Q (.ref a) { s with heap:=h',toks:=t }):
  wpAny (model prog w) A (call (.builtin "sorted") [.ref l]) Q E s:=by
 refine Calls.call_function_entry kind_sorted plain_sorted entry_sorted (args_sorted1 _) ?_; unfold Builtin.«sorted»;refine Yc (m:=checkCount "sorted" 1 1 _) (Ym (Yc (collect_list hl ?_ (by rw [Ybe]; exact lA 1 0x10000007b00402b011 T1 h64)))); refine Yc (wpAny_newList ?_ (by rw [Ybe]; exact lA 1 0x10000007b00402b011 T1 h64));have hsz:((s.heap.push (Ygv "list" #[] 0)).update s.heap.objs.size (Ydl (· ++ vs.toArray))).objs.size = s.heap.objs.size + 1:=(Ydx ..).trans (Yi6 ..);obtain ⟨h3,e3⟩:∃ h3,((s.heap.push (Ygv "list" #[] 0)).update s.heap.objs.size (Ydl (· ++ vs.toArray))).push (Ygv "list" vs.toArray 0) = h3:=⟨_,rfl⟩;have g3:h3.get? (s.heap.objs.size + 1) = some (Ygv "list" vs.toArray 0):=by rw [← e3,← hsz]; exact Yr _ rfl
 have k3:∀ b u,s.heap.get? b = some u -> h3.get? b = some u:=fun b u q=>by
  have hlt:b < s.heap.objs.size:=Yo q;rw [← e3,Yc4 _ _ _ (by rw [hsz]; exact Y2 (Ybm hlt)),Yip _ _ _ _ (Y2 hlt),Yc4 _ _ _ (Y2 hlt)]; exact q
 have z3:h3.objs.size = s.heap.objs.size + 2:=by rw [← e3,Yi6,hsz]
 show wpAny _ _ _ _ _ { s with heap:=((s.heap.push (Ygv "list" #[] 0)).update s.heap.objs.size (Ydl (· ++ vs.toArray))).push (Ygv "list" vs.toArray 0) };rw [hsz,e3];have km:∀ b u,s.heap.get? b = some u -> (Zhc h3 (s.heap.objs.size + 1) vs).get? b = some u:=fun b u q=>by
  have hlt:b < s.heap.objs.size:=Yo q;rw [ZoW (Y2 (Ybm hlt)) (by rw [z3]; exact Ybm (Ybm hlt))]; exact k3 b u q
 refine Yc (Yau (Ybw slot_list_sort ⟨_,g3,rfl⟩ entry_list_sort ?body (args_list_sort _)))
 case body=>
  refine Zo2 (s:={ s with heap:=h3 }) (κ:=κ) o g3 h64 (fun h2 Q' s' hs' hq=>Ybt (hk h2 _ Q' s' km hs' hq) (fun _ _ q=>q) fun _ _ z=>z.elim) (fun h2 i j C s' hi hj hs' hq=>hc h2 _ i j C s' km hi hj hs' hq) fun out p t hp hu ho=>⟨_,rfl,Ym ⟨_,rfl,?_⟩⟩;refine h out p t (sortedHeap h3 (s.heap.objs.size + 1) vs out.toArray) (s.heap.objs.size + 1) hp hu ho (fun b u q=>?_) (Yam _ _) ?_
  ·have hlt:b < s.heap.objs.size:=Yo q
   rw [sortedHeap_old (Y2 (Ybm hlt)) (by rw [z3]; exact Ybm (Ybm hlt))]; exact k3 b u q
  ·exact sortedHeap_at g3
end
end L3
namespace L3
open PySem PySem.W PySem.Spec PyProof.Rows L2
section
variable {prog:Yaf} {w:World} {A:Yar} {K:Ya} {H:Hp} {ι:List Addr}
theorem Zn4 {s:Yg} {C:Bool -> Yg -> Prop} {r:Bool} (hC:C r s):∀ (x y:List D) (xs ys:List V) (us ws:List Value) (k:Nat) (fin:Bool),Zz K H ι x xs -> Zz K H ι y ys -> Vals xs us -> Vals ys ws -> fin = decide (x.length < y.length) ->
  (k = 0 -> (∀ d,x.head? = some d -> ZfN d = true)) -> ltT x y = some r -> KatLex prog w A true fin C (us.zip ws) k s
 | [],[],xs,ys,us,ws,k,fin,rx,ry,vx,vy,hf,_,h=>by
  have e1:=rx.nil_inv; have e2:=ry.nil_inv; subst e1 e2; cases vx; cases vy;refine kat_nil ?_;simp [ltT] at h; subst hf; simpa [h] using hC
 | [],d :: y,xs,ys,us,ws,k,fin,rx,ry,vx,vy,hf,_,h=>by
  have e1:=rx.nil_inv; subst e1; cases vx;refine kat_nil ?_;simp [ltT] at h; subst hf; simpa [h] using hC
 | d :: x,[],xs,ys,us,ws,k,fin,rx,ry,vx,vy,hf,_,h=>by
  have e1:=ry.nil_inv; subst e1; cases vy;rw [List.zip_nil_right];refine kat_nil ?_;simp [ltT] at h; subst hf; simpa [h] using hC
 | d :: x,e :: y,xs,ys,us,ws,k,fin,rx,ry,vx,vy,hf,h0,h=>by
  obtain ⟨v,xs',rfl,r1,r2⟩:=rx.cons_inv;obtain ⟨v',ys',rfl,r1',r2'⟩:=ry.cons_inv;cases vx with
  | @cons _ u _ us' ru rus=>
  cases vy with
  | @cons _ u' _ ws' ru' rus'=>
  rw [List.zip_cons_cons];have hfin:fin = decide (x.length < y.length):=by rw [hf]; simp
  rcases Zeo h with ⟨i,j,rfl,rfl⟩ | ⟨i,j,rfl,rfl⟩
  ·have ev:=r1.int_inv; have ev':=r1'.int_inv
   subst ev ev';obtain ⟨t,rfl⟩:=ru;obtain ⟨t',rfl⟩:=ru';refine kat_cons (wpAny_eqBool_int ?_);simp only [ltT] at h;by_cases e:i = j
   ·subst e
    rw [if_pos rfl] at h;rw [beq_self_eq_true];exact kat_yes (Zn4 hC x y xs' ys' us' ws' (k + 1) fin r2 r2' rus rus' hfin (fun z=>(lA 1 116001825 T1 z).elim) h)
   ·rw [if_neg e] at h
    have hb:(i == j) = false:=by simpa using e
    rw [hb];refine kat_no ?_;have hr:decide (i < j) = r:=by simpa using h
    cases hk:(true && k == 0) with
    | true=>exact oneLt_int (by rw [hr]; exact hC)
    | false=>exact kat_one _ _ (lt_int (by show C _ s; rw [hr]; exact hC))
  ·have ev:=r1.str_inv; have ev':=r1'.str_inv
   subst ev ev';obtain ⟨t,rfl⟩:=ru;obtain ⟨t',rfl⟩:=ru';refine kat_cons (wpAny_eqBool_str ?_);simp only [ltT] at h;by_cases e:i = j
   ·subst e
    rw [if_pos rfl] at h;rw [decide_eq_true rfl];exact kat_yes (Zn4 hC x y xs' ys' us' ws' (k + 1) fin r2 r2' rus rus' hfin (fun z=>(lA 1 116001825 T1 z).elim) h)
   ·rw [if_neg e] at h
    have hb:decide ((⟨i.toArray⟩:Str) = ⟨j.toArray⟩) = false:=by
     rw [decide_eq_false_iff_not]; intro z; injection z with z; exact e (by simpa using congrArg Yer z)
    rw [hb];refine kat_no ?_;have hr:decide (i < j) = r:=by simpa using h
    have hk0:k ≠ 0:=fun z=>by have:=h0 z _ rfl; simp [ZfN] at this
    have hk:(true && k == 0) = false:=by simp [hk0]
    rw [hk];exact kat_one _ _ (lt_str (by show C _ s; rw [show decide ((⟨i.toArray⟩:Str).cps.toList < (⟨j.toArray⟩:Str).cps.toList) = r from hr]; exact hC))
end
section
variable {X:Cx}
theorem Zet {x:List D} {vs:List V} {its:List Value} {K:Ya} {H:Hp} {ι:List Addr} (r:Zz K H ι x vs) (v:Vals vs its) {i:Nat} {d:D} (h:x[i]? = some d):∃ u,RelV u (its.getD i Value.none) /\ Rep K H ι d u /\ vs[i]? = some u:=by
 obtain ⟨u,e1,r1⟩:=r.get h;obtain ⟨z,e2,r2⟩:=v.get e1;refine ⟨u,?_,r1,e1⟩;rw [Yaz,e2]; exact r2
theorem Zg3 {pins:List (Addr × Obj)} {σ:St} {H:Hp} {s:Yg} {ι:List Addr} (I:Inv X pins σ H s) {h':Heap} (k:∀ b u,s.heap.get? b = some u -> h'.get? b = some u):∀ (x:List D) (vs:List V) (its:List Value),Zz X.K H ι x vs -> Vals vs its -> x.all ZdH = true ->
  ∃ fs:List Value,KatTups h' its fs /\ fs.length = x.length /\ ∀ f ∈ fs,∃ i t,f = .int i t
 | [],vs,its,r,v,_=>by have e:=r.nil_inv; subst e; cases v; exact ⟨[],.nil,rfl,fun f h=>by simp at h⟩
 | d :: x,vs,its,r,v,h=>by
  obtain ⟨u,vs',rfl,r1,r2⟩:=r.cons_inv;cases v with
  | @cons _ z _ its' rz rzs=>
  simp only [Ybc,Yu] at h;obtain ⟨fs,t,l,hf⟩:=Zg3 I k x vs' its' r2 rzs h.2;have hd:=h.1;cases d with
  | tup ds=>
   cases ds with
   | nil=>simp [ZdH] at hd
   | cons e ds=>
    cases e with
    | int i=>
     obtain ⟨a,ws,rfl,sq,rr⟩:=r1.tup_inv;cases (show z = Value.ref a from rz);obtain ⟨its2,rv,⟨o,ho,hc,n,hdat⟩,_⟩:=I.tuple sq;obtain ⟨u0,ws',rfl,q1,q2⟩:=rr.cons_inv;have e0:=q1.int_inv;subst e0;cases rv with
     | @cons _ y0 _ ys ry0 _=>
     obtain ⟨tk,rfl⟩:=ry0;refine ⟨.int i tk :: fs,KatTups.cons (k a o ho) hc hdat (by simp) t,by simp [l],fun f hm=>?_⟩;rcases Y3.mp hm with rfl | hm
     ·exact ⟨i,tk,rfl⟩
     ·exact hf f hm
    | _=>simp [ZdH] at hd
  | _=>simp [ZdH] at hd
theorem Zz.pick {K:Ya} {H:Hp} {ι:List Addr} {x:List D} {vs:List V} (r:Zz K H ι x vs) (d0:D) (v0:V):∀ (p:List Nat),(∀ i ∈ p,i < x.length) -> Zz K H ι (p.map fun i=>x.getD i d0) (p.map fun i=>vs.getD i v0)
 | [],_=>Zz.nil
 | i :: p,h=>by
  have hi:=h i Yq;obtain ⟨v,e,q⟩:=r.get (i:=i) (d:=x[i]) (by simp [hi]);refine Zz.cons ?_ (Zz.pick r d0 v0 p fun j hj=>h j (Yv _ hj));dsimp only;rw [Yaz,Yaz,e,Y6 hi]; exact q
theorem Vals.pick {vs:List V} {us:List Value} (r:Vals vs us) (v0:V):∀ (p:List Nat),(∀ i ∈ p,i < vs.length) -> Vals (p.map fun i=>vs.getD i v0) (p.map fun i=>us.getD i Value.none)
 | [],_=>.nil
 | i :: p,h=>by
  have hi:=h i Yq;obtain ⟨v,e,q⟩:=r.get (i:=i) (x:=vs[i]) (by simp [hi]);refine .cons ?_ (Vals.pick r v0 p fun j hj=>h j (Yv _ hj));dsimp only;rw [Yaz,Yaz,e,Y6 hi]; exact q
theorem Znb {x:List D} (d0:D) {p:List Nat} (h:p.Perm (Yaa x.length)):(p.map fun i=>x.getD i d0).Perm x:=by
 have h1:=h.map (fun i=>x.getD i d0);have h2:(Yaa x.length).map (fun i=>x.getD i d0) = x:=by
  apply Ybl;intro i;rw [Yp];by_cases hi:i < x.length
  ·simp [hi]
  ·simp [hi]
 rwa [h2] at h1
theorem Zju {x:List D} (cmp:∀ a ∈ x,∀ b ∈ x,(ltD a b).isSome = true) {a b:D} (ha:a ∈ x) (hb:b ∈ x) (h:decide (ltD a b = some true) = false):ltD a b = some false:=by
 have c:=cmp a ha b hb;cases q:ltD a b with
 | none=>rw [q] at c; cases c
 | some z=>cases z with
  | true=>exact absurd q (of_decide_eq_false h)
  | false=>rfl
theorem Zsb (x:List D):∃ d0:D,∀ i:Nat,x ≠ [] -> x.getD i d0 ∈ x:=by
 cases x with
 | nil=>exact ⟨.non,fun _ h=>absurd rfl h⟩
 | cons e y=>
  refine ⟨e,fun i _=>?_⟩;rw [Yaz];cases q:(e :: y)[i]? with
  | some d=>exact Yax q
  | none=>exact Yq
theorem ZsX {x:List D} (cmp:∀ a ∈ x,∀ b ∈ x,(ltD a b).isSome = true) {d0:D} (mem:∀ i:Nat,x ≠ [] -> x.getD i d0 ∈ x):Zfr fun i j=>decide (ltD (x.getD i d0) (x.getD j d0) = some true):=by
 refine ⟨fun {i j} h=>decide_eq_false fun h'=>?_,fun {i j k} h1 h2=>decide_eq_false fun h3=>?_⟩
 ·rw [Zkr (of_decide_eq_true h)] at h'; cases h'
 ·by_cases hx:x = []
  ·subst hx
   rw [List.getD_nil,List.getD_nil] at h3;have z:=Zkr h3; rw [h3] at z; cases z
  ·rw [Zs2 (Zju cmp (mem j hx) (mem i hx) h1) (Zju cmp (mem k hx) (mem j hx) h2)] at h3; cases h3
theorem ZrJ {x:List D} (cmp:∀ a ∈ x,∀ b ∈ x,(ltD a b).isSome = true) {d0:D} (mem:∀ i:Nat,x ≠ [] -> x.getD i d0 ∈ x) {p:List Nat} (hp:p.Perm (Yaa x.length))
  (hu:∀ (i j x' y':Nat),i <= j -> p[i]? = some x' -> p[j]? = some y' -> decide (ltD (x.getD y' d0) (x.getD x' d0) = some true) = false):ZhI x (p.map fun i=>x.getD i d0):=by
 refine ⟨Znb d0 hp,?_⟩;rw [Yem,List.pairwise_iff_getElem];intro i j hi hj hij;have hx:x ≠ []:=fun e=>by
  subst e;have z:=hp.length_eq;rw [Ydo] at z;rw [z] at hi;exact absurd hi (Nat.not_lt_zero _)
 have z:=Zju cmp (mem p[j] hx) (mem p[i] hx) (hu i j p[i] p[j] (Yde hij) (Y6 hi) (Y6 hj));unfold leD;rw [z]
theorem Zn7:Za0 X (.builtin "sorted") (rB X.K ZdG):=by
 intro pins s σ H xs us Q I rs ⟨ι,M,ds,S,rd,h⟩;cases ds with
 | nil=>exact h.elim
 | cons d ds=>
  cases ds with
  | cons _ _=>cases d <;> exact h.elim
  | nil=>
   obtain ⟨x0,rfl,r⟩:=Zdj rd;obtain ⟨u,rfl,ru⟩:=vals1 rs;cases d with
   | ref n=>
    cases hn:M[n]? with
    | none=>simp only [ZdG,hn] at h; exact h.elim
    | some ob=>
     cases ob with
     | dct _=>simp only [ZdG,hn] at h; exact h.elim
     | fdct _=>simp only [ZdG,hn] at h; exact h.elim
     | ins _ _=>simp only [ZdG,hn] at h; exact h.elim
     | lst x=>
      simp only [ZdG,hn] at h;split at h
      ·rename_i ok
       obtain ⟨a,ha,rfl⟩:=r.ref_inv;cases ru;obtain ⟨vs,ev,rv⟩:=S.obj n _ a hn ha;obtain ⟨its,rr,pl,zl⟩:=I.list (SqL.of ev);have lx:its.length = x.length:=by rw [← rr.length,rv.length]
       obtain ⟨d0,mem⟩:=Zsb x;have ltok:=ZsX ok.cmp mem;have fin:∀ (out:List Value) (p:List Nat) t h' a',p.Perm (Yaa its.length) -> (∀ (i j x' y':Nat),i <= j -> p[i]? = some x' -> p[j]? = some y' -> decide (ltD (x.getD y' d0) (x.getD x' d0) = some true) = false) -> out = p.map (fun i=>its.getD i Value.none) ->
         (∀ b u,s.heap.get? b = some u -> h'.get? b = some u) -> s.heap.objs.size <= a' -> (∃ e,h'.get? a' = some (Ygv "list" out.toArray e)) -> EP X pins σ Q (.ref a') { s with heap:=h',toks:=t }:=by
        intro out p t h' a' hp hu ho hk ha' ⟨e,he⟩;have hlt:∀ i ∈ p,i < x.length:=fun i hi=>by have:=hp.mem_iff.mp hi; rw [lx] at this; simpa using this
        have plen:p.length = x.length:=by have:=hp.length_eq; simpa [lx] using this
        have sq:=ZrJ ok.cmp mem (by rw [← lx]; exact hp) hu;rw [ZkB sq] at h;have hn0:=I.hok.fresh ha';obtain ⟨x2,S2,r2⟩:=S.lst hn0 (rv.pick d0 .non p hlt);refine ⟨.ref a',_,I.laid (o:=.lst (p.map fun i=>vs.getD i .non)) hk ha' ⟨?_,out,e,?_,he⟩,rfl,h _ _ _ x2 S2 r2⟩
        ·rw [Yk,plen,Ybe]; have:=ok.len; exact lA 1 0x10000007b00402b011 T1 this
        ·rw [ho]; exact Vals.pick rr .non p fun i hi=>by rw [rv.length]; exact hlt i hi
       rcases ok.kind with kd | kd
       ·refine ZkP (κ:=tuples' (Value.type "int" != Value.type "tuple")) ltok pl.isList (by rw [lx]; exact ok.len) (fun h2 h' Q' s' hk hs' hq=>?_) (fun h2 h' i j C s' hk hi hj hs' hC=>?_) fun out p t h' a' hp hu ho hk ha' he=>fin out p t h' a' hp hu ho hk ha' he
        ·obtain ⟨fs,kt,lf,hf⟩:=Zg3 I hk x vs its rv rr kd
         obtain ⟨t,rfl⟩:=hs';refine kat_kind (T:=.type "int") kt (by rw [lf,← lx]; exact lA 1 3775011585 T1 h2) (fun v hv=>?_) (by decide) (hq _ ⟨t,rfl⟩);obtain ⟨i,tk,rfl⟩:=hf v hv;exact Looks.now
        ·obtain ⟨t,rfl⟩:=hs'
         have hxi:x[i]? = some x[i]:=by rw [Y6]
         have hxj:x[j]? = some x[j]:=by rw [Y6]
         obtain ⟨vi,ri,qi,_⟩:=Zet rv rr hxi;obtain ⟨vj,rj,qj,_⟩:=Zet rv rr hxj;have ki:=Y5.mp kd _ (Y4 (show i < x.length by exact lC 2 2203874037777 T1 hi lx));have kj:=Y5.mp kd _ (Y4 (show j < x.length by exact lC 2 2203874037777 T1 hj lx));have cm:=ok.cmp _ (Y4 (show i < x.length by exact lC 2 2203874037777 T1 hi lx)) _ (Y4 (show j < x.length by exact lC 2 2203874037777 T1 hj lx));have gi:x.getD i d0 = x[i]:=by simp [show i < x.length by exact lC 2 2203874037777 T1 hi lx]
         have gj:x.getD j d0 = x[j]:=by simp [show j < x.length by exact lC 2 2203874037777 T1 hj lx]
         simp only [gi,gj] at hC;generalize x[i] = di at *;generalize x[j] = dj at *;cases di with
         | tup di=>
          cases dj with
          | tup dj=>
           obtain ⟨a1,w1,rfl,s1,e1⟩:=qi.tup_inv;obtain ⟨a2,w2,rfl,s2,e2⟩:=qj.tup_inv;obtain ⟨i1,v1,⟨o1,g1,_,n1,d1⟩,_⟩:=I.tuple s1;obtain ⟨i2,v2,⟨o2,g2,_,n2,d2⟩,_⟩:=I.tuple s2;unfold kas_ask;rw [show its.getD i Value.none = .ref a1 from ri,show its.getD j Value.none = .ref a2 from rj];cases q:ltT di dj with
           | none=>simp only [ltD,q] at cm; cases cm
           | some b=>
            refine kat_lt (hk _ _ g1) d1 (hk _ _ g2) d2 (Zn4 (r:=b) ?_ di dj w1 w2 i1 i2 0 _ e1 e2 v1 v2 ?_ (fun _ d hd=>?_) q)
            ·have:=hC _ ⟨t,rfl⟩
             simp only [ltD,q] at this;cases b <;> simpa using this
            ·rw [Ye,Ye,← v1.length,← v2.length,e1.length,e2.length]
            ·cases di with
             | nil=>cases hd
             | cons d' r'=>cases hd; cases d <;> simp [ZdH,ZfN] at ki ⊢
          | _=>simp [ZdH] at kj
         | _=>simp [ZdH] at ki
       ·refine ZkP (κ:=oneType') ltok pl.isList (by rw [lx]; exact ok.len) (fun h2 h' Q' s' hk hs' hq=>?_) (fun h2 h' i j C s' hk hi hj hs' hC=>?_) fun out p t h' a' hp hu ho hk ha' he=>fin out p t h' a' hp hu ho hk ha' he
        ·obtain ⟨t,rfl⟩:=hs'
         refine kas_kind (T:=.type "int") h2 (fun v hv=>?_) (by decide) (by decide) (hq _ ⟨t,rfl⟩);obtain ⟨i,hi,rfl⟩:=List.getElem_of_mem hv;have hxi:x[i]? = some x[i]:=by rw [Y6]
         obtain ⟨vi,ri,qi,_⟩:=Zet rv rr hxi;have ki:=Y5.mp kd _ (Y4 (show i < x.length by exact lC 2 2203874037777 T1 hi lx));have gi:its.getD i Value.none = its[i]:=by simp [hi]
         rw [gi] at ri;generalize x[i] = di at *;cases di with
         | int k=>
          have:=qi.int_inv;subst this;obtain ⟨tk,e⟩:=ri;rw [e];exact Looks.now
         | _=>simp [ZfN] at ki
        ·obtain ⟨t,rfl⟩:=hs'
         have hxi:x[i]? = some x[i]:=by rw [Y6]
         have hxj:x[j]? = some x[j]:=by rw [Y6]
         obtain ⟨vi,ri,qi,_⟩:=Zet rv rr hxi;obtain ⟨vj,rj,qj,_⟩:=Zet rv rr hxj;have ki:=Y5.mp kd _ (Y4 (show i < x.length by exact lC 2 2203874037777 T1 hi lx));have kj:=Y5.mp kd _ (Y4 (show j < x.length by exact lC 2 2203874037777 T1 hj lx));have gi:x.getD i d0 = x[i]:=by simp [show i < x.length by exact lC 2 2203874037777 T1 hi lx]
         have gj:x.getD j d0 = x[j]:=by simp [show j < x.length by exact lC 2 2203874037777 T1 hj lx]
         simp only [gi,gj] at hC;generalize x[i] = di at *;generalize x[j] = dj at *;cases di with
         | int p=>
          cases dj with
          | int q=>
           have:=qi.int_inv; subst this;have:=qj.int_inv; subst this;obtain ⟨t1,e1⟩:=ri;obtain ⟨t2,e2⟩:=rj;unfold kas_ask;rw [e1,e2,keyLt'_oneType];refine oneLt_int ?_;have:=hC _ ⟨t,rfl⟩;simpa [ltD] using this
          | _=>simp [ZfN] at kj
         | _=>simp [ZfN] at ki
      ·exact h.elim
   | _=>exact h.elim
end
end L3
namespace L3
open PySem PySem.Spec PyProof.Rows L2
section
variable {X:Cx} {a b c e o:Expr} {es:List Expr} {pos p apos cpos:Pos} {f g h:E3} {gl:EL3}
theorem Zui:Za0 X (.type "int") (rB X.K ZtK):=Za0.imp ZmP fun xs H Q zz1=>by
 obtain ⟨ι,M,ds,S,rd,h⟩:=zz1;cases ds with
 | nil=>exact h.elim
 | cons d ds=>
  cases ds with
  | cons _ _=>cases d <;> exact h.elim
  | nil=>
   obtain ⟨x,rfl,r⟩:=Zdj rd;cases d with
   | int i=>exact .inl ⟨i,by rw [r.int_inv],Zac.ok h S Rep.int⟩
   | bl k=>exact .inr ⟨k,by rw [r.bl_inv],Zac.ok h S Rep.int⟩
   | _=>exact h.elim
theorem Zi5 {K:Ya} {H:Hp} {ι:List Addr}:∀ {x:List D} {ns:List Int} {vs:List V} {us:List Value},Zc5 x = some ns -> Zz K H ι x vs -> Vals vs us -> IntsAre us ns
 | [],ns,vs,us,h,r,v=>by
  have e:=r.nil_inv; subst e; cases v;have:ns = []:=by simpa [Zc5] using h.symm
  subst this; exact .nil
 | .int i :: x,ns,vs,us,h,r,v=>by
  obtain ⟨u,vs',rfl,r1,r2⟩:=r.cons_inv;have e:=r1.int_inv; subst e;cases v with
  | @cons _ z _ us' rz rzs=>
  obtain ⟨t,rfl⟩:=rz;simp only [Zc5] at h;cases hx:Zc5 x with
  | none=>rw [hx] at h; cases h
  | some ms=>
   rw [hx] at h;have:ns = i :: ms:=by simpa using h.symm
   subst this;exact .cons i t (Zi5 hx r2 rzs)
 | .non :: _,_,_,_,h,_,_=>by simp [Zc5] at h
 | .bl _ :: _,_,_,_,h,_,_=>by simp [Zc5] at h
 | .str _ :: _,_,_,_,h,_,_=>by simp [Zc5] at h
 | .tup _ :: _,_,_,_,h,_,_=>by simp [Zc5] at h
 | .scr _ :: _,_,_,_,h,_,_=>by simp [Zc5] at h
 | .ref _ :: _,_,_,_,h,_,_=>by simp [Zc5] at h
theorem Zn9 {pins:List (Addr × Obj)} {σ:St} {H:Hp} {s:Yg} {Q:VK} {l:Addr} {vs:List V} {x:List D} {ns:List Int} {ι:List Addr} (hc:X.calm = true) (I:Inv X pins σ H s) (sq:SqL X.K H l vs) (r:Zz X.K H ι x vs) (hx:Zc5 x = some ns) (q:Q (.int ns.sum) H):
  wpAny (model X.prog X.w) X.A (call (.builtin "sum") [.ref l]) (EP X pins σ Q) X.xe s:=by
 obtain ⟨its,rr,pl,zl⟩:=I.list sq;have ia:=Zi5 hx r rr;obtain ⟨ys,hy⟩:=ia.allInts.items;refine sum_intListG (I.ok.hd hc) (by rw [← hy]; exact pl.isList) fun h' tk t' hk=>⟨.int ns.sum,H,I.kept hk,⟨t',?_⟩,q⟩;have e1:ns = ys.toList.map (·.1):=by rw [← nums_intItems,← hy]; exact (show numsOf its.toArray.toList = ns from ia.numsOf).symm
 rw [preSum_eq,Ybg (by simp),← e1]
theorem Zq3 (hc:X.calm = true):Za0 X (.builtin "sum") (rB X.K ZgO):=by
 intro pins s σ H xs us Q I rs ⟨ι,M,ds,S,rd,h⟩;cases ds with
 | nil=>exact h.elim
 | cons d ds=>
  cases ds with
  | cons _ _=>cases d <;> exact h.elim
  | nil=>
   obtain ⟨x,rfl,r⟩:=Zdj rd;obtain ⟨u,rfl,ru⟩:=vals1 rs;cases d with
   | ref n=>
    cases hn:M[n]? with
    | none=>simp only [ZgO,hn] at h; exact h.elim
    | some ob=>
     cases ob with
     | dct _=>simp only [ZgO,hn] at h; exact h.elim
     | fdct _=>simp only [ZgO,hn] at h; exact h.elim
     | ins _ _=>simp only [ZgO,hn] at h; exact h.elim
     | lst z=>
      simp only [ZgO,hn] at h;cases q:Zc5 z with
      | none=>rw [q] at h; exact h.elim
      | some ns=>
       rw [q] at h;obtain ⟨a,ha,rfl⟩:=r.ref_inv;cases ru;obtain ⟨vs,ev,rv⟩:=S.obj n _ a hn ha;exact Zn9 hc I (SqL.of ev) rv q (Zac.ok h S Rep.int)
   | scr z=>
    simp only [ZgO] at h;cases q:Zc5 z with
    | none=>rw [q] at h; exact h.elim
    | some ns=>
     rw [q] at h;obtain ⟨a,vs,rfl,sq,rv⟩:=r.scr_inv;cases ru;exact Zn9 hc I sq.sq rv q (Zac.ok h S Rep.int)
   | _=>exact h.elim
theorem Zrp {K:Ya} {H:Hp} {ι:List Addr} {M:Store} (S:Zap K H ι M) {n:Nat} {a:Addr} (h:(ZcP M[n]?).isSome = true) (ha:ι[n]? = some a):IsD H a:=by
 cases hn:ZcP M[n]? with
 | none=>rw [hn] at h; cases h
 | some kvs=>
  obtain ⟨ws,hw,_⟩:=Zje S hn ha;exact .inl ⟨ws,hw⟩
theorem ZnW {K:Ya} {H:Hp} {ι:List Addr} {kvs:List (Za4 × D)} {ws:List (Key × V)} {d:D} {z:V} (kr:KvR K H ι kvs ws) (k:Za4) (rd:Rep K H ι d z):Rep K H ι ((Zcb kvs k).getD d) ((Ze7 ws (dk k)).getD z):=by
 have hv:=kr.val k;cases q:Zcb kvs k with
 | none=>rw [q] at hv; rw [hv]; exact rd
 | some w=>
  rw [q] at hv;obtain ⟨v,ev,rv⟩:=hv;rw [ev]; exact rv
theorem ZoR {e':Expr} (hu:X.A.units + 80 < cLine) (ho:C3 X o f) (he:C3 X e g) (he':C3 X e' h) (m:M2 X o "get" apos e e' cpos:=by exact ⟨rfl,rfl,rfl,rfl⟩):C3 X (.Call (.Attribute o "get" apos) [e,e'] [] cpos) (ZaR ZjN Zkg f (Za g (Za h Zg))):=(ZoJ (hu1 hu) ho he he' m).imp fun σ H Q zz1=>by
 obtain ⟨ι,M,env,S,E,hh⟩:=zz1;obtain ⟨d,M1,e1,hh⟩:=Zac.bind hh;refine ⟨ι,M,env,S,E,?_⟩;rw [e1];intro x H1 ι1 x1 S1 r1;cases d with
 | ref n=>
  by_cases hD:(ZcP M1[n]?).isSome = true
  ·simp only [ZjN,hD,if_true] at hh
   obtain ⟨ad,ha,rfl⟩:=r1.ref_inv;obtain ⟨ds,M2,e2,hh⟩:=Zac.bind hh;refine ⟨ad,rfl,Zrp S1 hD ha,ι1,M1,env,S1,E.mono x1,?_⟩;cases q:g env M1 with
   | bad=>simp [q] at e2
   | exc x' M'=>simp [q] at e2
   | ok b M2'=>
    cases q':h env M2' with
    | bad=>simp [q,q'] at e2
    | exc x' M'=>simp [q,q'] at e2
    | ok b' M3'=>
     simp only [Za,q,q',R3.bind,Zg] at e2;cases e2;intro y H2 ι2 x2 S2 r2;refine ⟨ι2,M2',env,S2,(E.mono x1).mono x2,?_⟩;rw [q'];intro z H3 ι3 x3 S3 r3;simp only [Zkg] at hh;cases hn:ZcP M2[n]? with
     | none=>simp only [hn] at hh; exact hh.elim
     | some kvs=>
      cases hk:ZeM b with
      | none=>simp only [hn,hk] at hh; exact hh.elim
      | some kk=>
       simp only [hn,hk] at hh;obtain ⟨ws,hw,kr⟩:=Zje S3 hn (x3.pre _ _ (x2.pre _ _ ha));refine ⟨Ze7 ws (dk kk),.inl ⟨ws,dk kk,hw,Zgp hk r2,rfl⟩,hh _ H3 ι3 ((x1.trans x2).trans x3) S3 (ZnW kr kk r3)⟩
  ·simp only [ZjN,hD] at hh; exact hh.elim
 | _=>exact hh.elim
end
section
variable {X:Cx} {pins:List (Addr × Obj)} {σ:St} {H:Hp} {s:Yg} {d:Addr} {ws:List (Key × V)} {ob:Obj}
theorem Znk (hk:HOk X.prog X.w H s.heap) (h:H d = some (.dK ws)) (ho:s.heap.get? d = some ob):HOk X.prog X.w (upd H d (.frz ob (.dK ws))) s.heap:=fun b u e=>by
 have stay:∀ {b u},H b = some u -> ZaX X.prog X.w (upd H d (.frz ob (.dK ws))) s.heap b u:=fun {b u} e=>(hk b u e).stay (fun _ _ _ q=>q) (fun c q=>by rw [Zaj (Zi9 q h (by intro z; cases z))]; exact q) fun c xs q=>by rw [Zaj (Zi9 q h (by intro z; cases z))]; exact q
 by_cases eb:b = d
 ·subst eb
  rw [Zbl] at e;cases e;exact ⟨ho,stay h⟩
 ·rw [Zaj eb] at e
  exact stay e
theorem _root_.L2.Inv.still (I:Inv X pins σ H s) (h:H d = some (.dK ws)) (ho:s.heap.get? d = some ob):Inv X pins σ (upd H d (.frz ob (.dK ws))) s:=by
 have nd:∀ b,H b = none -> b ≠ d:=fun b n z=>by rw [z,h] at n; cases n
 exact I.step (h':=s.heap) (g':=s.gens) (t':=s.toks) (d':=s.drawn) (ch:=[]) (fun _ z=>nomatch z) (fun b o _ _ _ e _=>e) (fun b o _ _ _ e _=>⟨o.slots,e⟩) (fun b o _ _ n=>by rw [Zaj (nd b n)]; exact n) (fun b o _ e=>⟨o,e⟩)
  (fun b xs q=>by rw [Zaj (Zi9 q h (by intro z; cases z))]; exact q) (fun b o u q=>by rw [Zaj (Zi9 q h (by intro z; cases z))]; exact q) (fun b ps q=>⟨#[],by rw [Zaj (Zi9 q h (by intro z; cases z)),q]; simp⟩) (fun _ hm=>hm) (Znk I.hok h ho) I.bare
theorem _root_.L2.Inv.thaw (I:Inv X pins σ H s) (h:H d = some (.frz ob (.dK ws))) (h0:∀ o u,X.H₀ d ≠ some (.frz o u)):Inv X pins σ (upd H d (.dK ws)) s:=by
 have nd:∀ b,H b = none -> b ≠ d:=fun b n z=>by rw [z,h] at n; cases n
 have nt:∀ {b u},H b = some u -> (∀ o v,u ≠ .frz o v) -> b ≠ d:=fun q nz z=>by rw [z,h] at q; cases q; exact nz _ _ rfl
 have stay:∀ {b u},H b = some u -> ZaX X.prog X.w (upd H d (.dK ws)) s.heap b u:=fun {b u} e=>(I.hok b u e).stay (fun _ _ _ q=>q) (fun c q=>by rw [Zaj (nt q fun _ _ z=>nomatch z)]; exact q) fun c xs q=>by rw [Zaj (nt q fun _ _ z=>nomatch z)]; exact q
 refine ⟨I.ok,I.os,I.bare,⟨I.base.keep,I.base.slot,fun b o e n hx=>?_,I.base.there,fun b xs e=>?_,fun b o u e=>?_,fun b ps e=>?_⟩,I.loc,I.cell,?_,fun x c e=>?_,fun p hp=>?_,fun b u e=>?_,I.len⟩
 ·have:=I.base.free b o e n hx
  rw [Zaj (nd b this)]; exact this
 ·have:=I.base.tups b xs e
  rw [Zaj (nt this fun _ _ z=>nomatch z)]; exact this
 ·have hb:b ≠ d:=fun z=>by subst z; exact h0 o u e
  rw [Zaj hb]; exact I.base.frzs b o u e
 ·obtain ⟨more,q⟩:=I.base.tbls b ps e
  exact ⟨more,by rw [Zaj (nt q fun _ _ z=>nomatch z)]; exact q⟩
 ·rw [Zaj (nd _ I.free)]; exact I.free
 ·rw [Zaj (nd _ (I.freeC x c e))]; exact I.freeC x c e
 ·obtain ⟨e,n,r⟩:=I.pin p hp
  exact ⟨e,by rw [Zaj (nd _ n)]; exact n,r⟩
 ·by_cases eb:b = d
  ·subst eb
   rw [Zbl] at e;cases e;obtain ⟨_,q⟩:=(show ZaX X.prog X.w H s.heap b (.frz ob (.dK ws)) from I.hok b _ h);exact q.stay (fun _ _ _ q=>q) (fun c q=>by rw [Zaj (nt q fun _ _ z=>nomatch z)]; exact q) fun c xs q=>by rw [Zaj (nt q fun _ _ z=>nomatch z)]; exact q
  ·rw [Zaj eb] at e
   exact stay e
end
noncomputable def Itd (d:Addr) (ob:Obj) (ws:List (Key × V)):It:=
 ⟨fun i H=>H d = some (.frz ob (.dK ws)) /\ i < ws.length,fun i H x H'=>H' = H /\ ∃ q,ws[i]? = some q /\ x = kV q.1,fun i H=>H d = some (.frz ob (.dK ws)) /\ i = ws.length⟩
theorem Zud {P:Yaf} {w:World} {k:Key} {v:Value} (h:(ZaK P w).is k v = true):RelV (kV k) v:=by
 rw [ZlP] at h;rcases Zbf h with ⟨i,t,rfl,rfl⟩ | ⟨x,t,rfl,rfl⟩
 ·exact ⟨t,rfl⟩
 ·exact ⟨t,rfl⟩
theorem ZmY {P:Yaf} {w:World} {K:Ya} {tg:Expr} {it d:Addr} {ob:Obj} {ws:List (Key × V)} {vs:List (Key × Value)} {ep:Nat} (hne:d ≠ it) (hD:∀ h:Heap,h.get? d = some ob -> h.DictAt (ZaK P w) d vs ep) (kv:KV ws vs):
  Turn P w K tg (Itd d ob ws) [it] it (fun i h=>h.IsKeyIter it d i vs.length ep) where
 mem:=by simp
 obj:=fun i h st b hb=>by
  have e:b = it:=by simpa using hb
  subst e;obtain ⟨o,e,c,d⟩:=st;exact ⟨o,e,fun v z=>by rw [d] at z; cases z⟩
 keep:=fun i h h' st k=>st.at fun o e=>k it (by simp) o e
 item:=by
  intro X hP hw hK hc i pins s σ H E I hf st hg;subst hP hw hK;obtain ⟨f0,f1,f2,f3,f4,f5⟩:=hf it (by simp);have hob:=(show ZaX X.prog X.w H s.heap d (.frz ob (.dK ws)) from I.hok d _ hg.1).1;refine (Walks.dictKeys (I.ok.hd hc) it d hne vs ep).item i s _ _ (by rw [← kv.length]; exact hg.2) ⟨st,hD _ hob⟩ fun v h' tk hv st' kk=>?_;obtain ⟨k,x,hx,hk⟩:=hv;have I1:Inv X pins σ H { s with heap:=h',toks:=tk }:=I.turned (fun b o hb e=>kk b o (by simpa using hb) e) f0 f1 f3 f4 f5;obtain ⟨o,e,cc,dd⟩:=id st'.1;have hil:i < ws.length:=hg.2;have hq:ws[i]? = some ws[i]:=by simp [hil]
  have ek:ws[i].1 = k:=by
   have:=congrArg (fun l=>l[i]?) kv.keys;simp only [Yp,hq,hx,Ye7,Yas] at this;exact this
  exact ⟨_,rfl,Zli (s:={ s with heap:=h',toks:=tk }) e cc dd (by decide) ⟨kV k,H,I1,Zud hk,⟨rfl,ws[i],hq,by rw [ek]⟩,st'.1,fun b hb=>(hf b hb).1⟩⟩
 done:=by
  intro X hP hw hK hc i pins s σ H E I hf st hg;subst hP hw hK;obtain ⟨f0,f1,f2,f3,f4,f5⟩:=hf it (by simp);have hob:=(show ZaX X.prog X.w H s.heap d (.frz ob (.dK ws)) from I.hok d _ hg.1).1;have ei:i = vs.length:=by rw [hg.2,kv.length]
  subst ei;exact (Walks.dictKeys (I.ok.hd hc) it d hne vs ep).done s _ _ ⟨st,hD _ hob⟩ fun h' tk kk=>⟨rfl,I.turned (fun b o hb e=>kk b o (by simpa using hb) e) f0 f1 f3 f4 f5⟩
 self:=fun _ _ _ _ _ st h=>wpAny_pyIter_keyiter st h
noncomputable def ZjF (f:E3):I3:=fun env M=>(f env M).bind fun a M1=>match a with
 | .ref n=>match M1[n]? with
  | some (.dct kvs)=>.ok ⟨kvs.map fun q=>keyV q.1,none⟩ (M1.set n (.fdct kvs))
  | _=>.bad
 | _=>.bad
theorem ZoA {K:Ya} {H:Hp} {ι:List Addr} (k:Za4):Rep K H ι (keyV k) (kV (dk k)):=by
 cases k with
 | inl i=>exact Rep.int
 | inr x=>exact Rep.str
section
variable {X:Cx} {tg e elt:Expr} {ifs:List Expr} {pos:Pos} {f fe:E3} {ts:List E3} {g:G3} {scope:Scope} {N':List Str} {own:Nat}
theorem ZoG (h:C3 X e f):CI X tg e (ZjF f):=by
 intro pins s σ H R I ⟨ι,M,env,S,E,hw⟩;obtain ⟨d,M1,e1,hw⟩:=Zly.bind hw;refine thn (h pins s σ H (fun v H'=>∃ ι',Ext X.K H ι H' ι' /\ Zap X.K H' ι' M1 /\ Rep X.K H' ι' d v) I ⟨ι,M,env,S,E,by rw [e1]; exact fun v H' ι' x S' r=>⟨ι',x,S',r⟩⟩) fun v s1 zz1=>?_;obtain ⟨x,H1,I1,r1,ι1,x1,S1,rd⟩:=zz1;cases d with
 | ref n=>
  cases hn:M1[n]? with
  | none=>simp only [hn] at hw; exact hw.elim
  | some ob=>
   cases ob with
   | lst _=>simp only [hn] at hw; exact hw.elim
   | fdct _=>simp only [hn] at hw; exact hw.elim
   | ins _ _=>simp only [hn] at hw; exact hw.elim
   | dct kvs=>
    simp only [hn] at hw;obtain ⟨a,ha,rfl⟩:=rd.ref_inv;cases r1;obtain ⟨ws,hws,kr⟩:=S1.obj n _ a hn ha;obtain ⟨zl,hsys,vs,kv,o,es,ep,ho,hrest⟩:=Zpi I1.hok hws;have hlt:a < s1.heap.objs.size:=Yo ho;refine wpAny_pyIter_dict (kvs:=vs) (ep:=ep) hsys ⟨o,es,ho,hrest⟩ ?_;have I2:Inv X pins σ H1 { s1 with heap:=s1.heap.push { cls:=.type "dict_keyiterator",data:=.fields #[.ref a,.int 0 0,.int vs.length 0,.int ep 0] } }:=I1.kept (t':=s1.toks) fun b u q=>Yf _ q;have I3:=I2.still hws (Yf _ ho);have l0:Loose H1 a:=.inr (.inr (.inl ⟨ws,hws⟩));have x2:Ext X.K H1 ι1 (upd H1 a (.frz o (.dK ws))) ι1:=l0.ext;have S2:Zap X.K (upd H1 a (.frz o (.dK ws))) ι1 (M1.set n (.fdct kvs)):=S1.put l0 ha ⟨ws,⟨o,Zbl⟩,kr.mono x2⟩;refine ⟨s1.heap.objs.size,[s1.heap.objs.size],_,Itd a o ws,_,rfl,I3,ZmY (vs:=vs) (ep:=ep) (Y2 hlt) (fun h' hh=>⟨o,es,hh,hrest⟩) kv,⟨_,Yr _ rfl,rfl,rfl⟩,fun b hb=>?_,hw _ _ ι1 (x1.trans x2) S2 ?_⟩
    ·have eb:b = s1.heap.objs.size:=by simpa using hb
     subst eb;exact I1.fpOk (Yi _) (by rw [Zaj (Yes hlt)]; exact I1.hok.fresh (Yi _))
    ·intro i H2 ι2 M2 x S3 _
     have hz:=x.frz a o _ Zbl;refine ⟨fun dd hd=>?_,fun hl=>⟨hz,by rw [hl,Yk,kr.length]⟩⟩;rw [Yp] at hd;cases hq:kvs[i]? with
     | none=>rw [hq] at hd; cases hd
     | some q=>
      rw [hq] at hd;have hd':keyV q.1 = dd:=by simpa using hd
      subst hd';have hi:i < ws.length:=by rw [kr.length]; exact (Yb.mp hq).1
      refine ⟨⟨hz,hi⟩,fun y H3 hy=>⟨hy.1,?_⟩⟩;obtain ⟨_,w',hw',rfl⟩:=hy;have ek:w'.1 = dk q.1:=by
       have:=congrArg (fun l=>l[i]?) kr.1;simp only [Yp,hw',hq,Ye7,Yas] at this;exact this
      rw [ek];exact ZoA q.1
 | _=>exact hw.elim
theorem ZtD {x:Str} {pos2:Pos} (i:Nat) (O:ZgN X scope N' own) (hxe:X.xe = fun _ _=>False) (hc:X.calm = true) (hi:C3 X (.Name x pos2) (Zb i))
  (hb:∀ C cl s H ex,CG (ZbT X scope N' C cl s H ex) tg g /\ CTs (ZbT X scope N' C cl s H ex) ifs ts /\ C3 (ZbT X scope N' C cl s H ex) elt fe)
  (hs:∀ y,Ycx (.Name x pos2) X.env y = pure y:=by intro _; rfl):C3 X (.ListComp elt [⟨tg,.Name x pos2,ifs,0⟩] scope pos) (ZpN (Zb i) own g ts fe):=by
 intro pins s σ H Q I ⟨ι,M,env,S,E,h⟩;obtain ⟨d,M1,e1,h⟩:=Zac.bind h;have eM:M1 = M:=by
  simp only [Zb] at e1;split at e1
  ·cases e1; rfl
  ·cases e1
 subst eM;cases d with
 | ref n=>
  cases hn:M1[n]? with
  | none=>simp only [hn] at h; exact h.elim
  | some ob=>
   cases ob with
   | lst _=>simp only [hn] at h; exact h.elim
   | fdct _=>simp only [hn] at h; exact h.elim
   | ins _ _=>simp only [hn] at h; exact h.elim
   | dct kvs=>
    simp only [hn] at h;obtain ⟨v,M2,e2,h⟩:=Zac.bind h;have ha:∃ a,ι[n]? = some a /\ Zfq X.K H ι (.dct kvs) a:=S.at hn;obtain ⟨a,ha,ws0,hw0,_⟩:=ha;have eL:eLC (ZjF (Zb i)) own g ts fe env M1 = .ok v M2:=by
     unfold eLC ZjF;rw [e1];simp only [R3.bind,hn];rw [List.length_set];exact e2
    refine thn (Zng (i:=ZjF (Zb i)) O hxe hc (ZoG hi) hb hs pins s σ H (fun v' H'=>∃ ι',Ext X.K H ι H' ι' /\ Zap X.K H' ι' M2 /\ Rep X.K H' ι' v v') I ⟨ι,M1,env,S,E,by rw [eL]; exact fun v' H' ι' x S' r=>⟨ι',x,S',r⟩⟩) fun v' s' zz1=>?_;obtain ⟨x',H',I',rx,ι',xx,S',rv⟩:=zz1;cases hm:M2[n]? with
    | none=>simp only [hm] at h; exact h.elim
    | some ob2=>
     cases ob2 with
     | lst _=>simp only [hm] at h; exact h.elim
     | dct _=>simp only [hm] at h; exact h.elim
     | ins _ _=>simp only [hm] at h; exact h.elim
     | fdct kvs'=>
      simp only [hm] at h;have ha':=xx.pre _ _ ha;obtain ⟨ws,⟨o,hw⟩,kr⟩:=S'.obj n _ a hm ha';have I2:=I'.thaw hw fun o u z=>by
       have:=I.base.frzs a o u z;rw [hw0] at this; cases this
      have nz:∀ {b u},H' b = some u -> (∀ o v,u ≠ .frz o v) -> upd H' a (.dK ws) b = some u:=fun {b u} q nf=>by
       rw [Zaj]; · exact q
       ·rintro rfl; rw [hw] at q; cases q; exact nf _ _ rfl
      have tp:∀ b xs,SqT X.K H' b xs -> SqT X.K (upd H' a (.dK ws)) b xs:=fun b xs q=>by
       rcases q with (q | ⟨o',q⟩) | q
       ·exact .inl (.inl (nz q fun _ _ z=>nomatch z))
       ·refine .inl (.inr ⟨o',?_⟩)
        rw [Zaj]; · exact q
        ·rintro rfl; rw [hw] at q; cases q
       ·exact .inr q
      have sc:∀ b xs,SqF X.K H' b xs -> SqF X.K (upd H' a (.dK ws)) b xs:=fun b xs q=>by
       rcases q with ⟨o',q⟩ | q
       ·refine .inl ⟨o',?_⟩
        rw [Zaj]; · exact q
        ·rintro rfl; rw [hw] at q; cases q
       ·exact .inr q
      have mono:∀ {d':D} {u:V},Rep X.K H' ι' d' u -> Rep X.K (upd H' a (.dK ws)) ι' d' u:=fun {d' u} r=>by
       exact Rep.keep tp sc r
      have monoL:∀ {ds:List D} {us:List V},Zz X.K H' ι' ds us -> Zz X.K (upd H' a (.dK ws)) ι' ds us:=fun {ds us} r=>Zz.keep tp sc r;have S2:Zap X.K (upd H' a (.dK ws)) ι' (M2.set n (.dct kvs')):=by
       refine ⟨by simp [S'.len],S'.nd,fun k m b h1 h2=>?_⟩;by_cases hk:k = n
       ·subst hk
        rw [ha'] at h2; cases h2;rw [Yab (Yb.mp hm).1] at h1;cases h1;exact ⟨ws,Zbl,kr.1,monoL kr.2⟩
       ·rw [Y9 (Ya4 hk)] at h1
        have hb':b ≠ a:=by
         rintro rfl;have q1:=Yb.mp h2;have q2:=Yb.mp ha';exact hk ((Ygq S'.nd).mp (q1.2.trans q2.2.symm))
        have:=S'.obj k m b h1 h2;cases m with
        | lst xs=>obtain ⟨vs,q,r⟩:=this; exact ⟨vs,by rw [Zaj hb']; exact q,monoL r⟩
        | dct xs=>obtain ⟨vs,q,r⟩:=this; exact ⟨vs,by rw [Zaj hb']; exact q,r.1,monoL r.2⟩
        | fdct xs=>obtain ⟨vs,⟨o',q⟩,r⟩:=this; exact ⟨vs,⟨o',by rw [Zaj hb']; exact q⟩,r.1,monoL r.2⟩
        | ins c xs=>exact this.elim (fun z=>let ⟨C,dx,vs,q,c,r⟩:=z; .inl ⟨C,dx,vs,by rw [Zaj hb']; exact q,c,r.1,monoL r.2⟩) fun z=>let ⟨C,q,r⟩:=z; .inr ⟨C,by rw [Zaj hb']; exact q,r⟩
      refine ⟨x',_,I2,rx,h x' _ ι' ⟨fun b xs q=>tp b xs (xx.tup b xs q),fun b xs q=>sc b xs (xx.scr b xs q),xx.pre,fun b o' u q=>?_⟩ S2 (mono rv)⟩;have hb':b ≠ a:=by rintro rfl; rw [hw0] at q; cases q
      rw [Zaj hb'];exact xx.frz b o' u q
 | _=>exact h.elim
end
section
variable {prog:Yaf} {w:World} {A:Yar} {E:Value -> Yg -> Prop} {s:Yg}
theorem Znn:typeLookup (.type "tuple") (Ybv "keys") = pure none:=by rw [typeLookup_type,builtinLookup_eq_fast]; kernel_rfl
set_option maxRecDepth 8000 in
theorem Zlb {a:Addr} {o:Obj} {xs:Array Value} {k:Nat} {Q:Option Value -> Yg -> Prop} (hx:s.heap.get? a = some o) (hc:o.cls = .type "tuple") (hdat:o.data = .seq xs k) (hd:o.dict = none) (hA:A.handled = none)
  (h:∀ h' tk,(∀ b u,s.heap.get? b = some u -> h'.get? b = some u) -> Q none { s with heap:=h',toks:=tk }):wpAny (model prog w) A (getAttr? (.ref a) (Ybv "keys")) Q E s:=by
 obtain ⟨c,dct,dat,sl⟩:=o;simp only at hc hdat hd;subst hc hdat hd;obtain ⟨hp,g,d,tk,os⟩:=s;have hT:∀ tk',(⟨hp,g,d,tk',os⟩:Yg).TypeIs (.ref a) "tuple":=fun _=>⟨_,hx,rfl⟩;have f1:=sub_AttributeError; have f3:=F.slot_tuple_getattribute.lookup; have f4:=F.slot_tuple_getattribute.bind (.ref a); have f5:=am_tuple_getattr_none;unfold getAttr? getAttrBy? getAttrBy
 repeat (any_goals (first | assumption | exact hT _ | ((with_reducible show wpAny _ _ (call (Value.builtin "tuple.__getattribute__") _ _) _ _ _); refine Ye2 F.slot_tuple_getattribute (hT _) am_entry_tuple_getattribute (F.args_tuple_getattribute_2 _ _) (meets_getattribute_miss_tuple a xs k sl _ _ Znn (by decide) (by rw [Ybe]; decide)) ⟨hx,hA,fun h' tk' e hx'=>?_⟩) | wp_step))
 obtain ⟨t',u',he⟩:=hx'.there;show wpAny _ _ (getattributeRaised _ _ _ _ _ _ _) _ _ _;unfold getattributeRaised
 repeat (any_goals (first | assumption | wp_step))
 all_goals exact h _ _ hx'.of.keeps
theorem ZeZ:entryFor table "dict.update.loop" = some Builtin.«dict.update.loop»:=entryFor_of_tree (by kernel_rfl)
theorem Zc0:plainId "dict.update.loop" = true:=by decide +kernel
def Zlv (prog:Yaf) (w:World) (h:Heap) (v:Value) (q:Key × Value):Prop:=∃ a o key n,v = .ref a /\ h.get? a = some o /\ o.cls = .type "tuple" /\ o.data = .seq #[key,q.2] n /\ (ZaK prog w).is q.1 key = true
theorem Zo1 {d I ax:Addr} {items:Array Value} {ps:List (Key × Value)} {res:Value} (hh:A.in1.handled = none) (hne:ax ≠ I) (hdI:d ≠ I) (hda:d ≠ ax) (hl:ps.length = items.size) (hz:ps.length <= 100000):
  ∀ (k i:Nat) (s:Yg) (kvs:List (Key × Value)) {R:Result -> Yg -> Prop},items.size - i = k -> i <= items.size -> s.heap.IsTupleIter I ax i -> s.heap.IsTuple ax items -> s.heap.DictOf (ZaK prog w) d kvs -> kvs.length <= i ->
   (∀ (j:Nat) v q,items[j]? = some v -> ps[j]? = some q -> Zlv prog w s.heap v q /\ v ≠ .ref d /\ v ≠ .ref I) ->
   (∀ h' tk,h'.DictOf (ZaK prog w) d (merged kvs (ps.drop i)) -> (∀ b o,b ≠ d -> b ≠ I -> s.heap.get? b = some o -> h'.get? b = some o) -> R (.ok (.ret res)) { s with heap:=h',toks:=tk }) ->
   Yha (model prog w) A (.builtin "dict.update.loop" ⟨[.ref d,.ref I,Yh6 i,res],[]⟩) R s:=by
 have W:=Walks.tuple (prog:=prog) (w:=w) hh I ax hne items;intro k
 induction k with
 | zero=>
  intro i s kvs R hk hi st tup dd hkl hp hR;have hin:i = items.size:=Yh hi (lC 2 580682816544801 T1 hk (sbA _ _));subst hin;refine Yho ZeZ ?_;rw [Yh0 Zc0 _];show wpAny _ A.in1 (Yf0 (.ref I) >>= _) _ _ s;refine Yc (W.done s _ _ ⟨st,tup⟩ fun h' tk kk=>?_);show wpAny _ A.in1 (Builtin.Dict.addKeywords d [] >>= _) _ _ _;refine Yc (Ym (Ym (hR h' tk ?_ fun b o hb hI e=>kk b o (by simpa using hI) e)));rw [List.drop_of_length_le (Yb4 hl)];obtain ⟨o,es,ep,ho,r⟩:=dd;exact ⟨o,es,ep,kk d o (by simpa using hdI) ho,r⟩
 | succ k ih=>
  intro i s kvs R hk hi st tup dd hkl hp hR;have hlt:i < items.size:=lD 2 0x321320c21a1c031 T1 hk (Yd hi);have hv:items[i]? = some items[i]:=by simp [hlt]
  have hq:ps[i]? = some (ps[i]'(by omega)):=by simp [show i < ps.length by omega]
  refine Yho ZeZ ?_;rw [Yh0 Zc0 _];show wpAny _ A.in1 (Yf0 (.ref I) >>= _) _ _ s;refine Yc (W.item i s _ _ hlt ⟨st,tup⟩ fun v h1 tk1 hP st1 kk1=>?_);rw [hv] at hP;cases hP;obtain ⟨⟨a,o,key,n,ev,ho,hc,hd,hkey⟩,nd,nI⟩:=hp i _ _ hv hq;have haI:a ≠ I:=fun z=>nI (by rw [ev,z]);have had:a ≠ d:=fun z=>nd (by rw [ev,z]);have ho1:h1.get? a = some o:=kk1 a o (by simpa using haI) ho;have dd1:h1.DictOf (ZaK prog w) d kvs:=by
   obtain ⟨o',es,ep,ho',r⟩:=dd;exact ⟨o',es,ep,kk1 d o' (by simpa using hdI) ho',r⟩
  rw [ev];generalize ps[i]'(lC 2 2203623428113 T1 hlt hl) = q at hq hkey hd;dsimp only;refine Yc (Yau (Yc (wpAny_tryCatch ?_)));unfold Builtin.Dict.pairItems;refine Yc (Yfm (T:="tuple") ⟨o,ho1,hc⟩ ?_);rw [if_pos (by decide)];refine Yc ?_;unfold seqItems?;refine Yc (wpAny_load ho1 ?_);rw [hd];refine Ym (Ym ?_);show wpAny _ A.in1 (Yg8 [key,q.2] (dictSet d key q.2)) _ _ _;refine Yau (wpAny_dictSet_pairs hkey dd1 (fun h2 dd2 sb=>?_) (by rw [Ybe]; exact lD 4 0x10000007b201331186a05b30102011011 T1 hlt hkl hz hl));refine Ym ⟨plainId_quiet Zc0 _,?_⟩;show Yha (model prog w) A (.builtin "dict.update.loop" ⟨[.ref d,.ref I,Yh6 ((i:Int) + 1),res],[]⟩) R _;have e1:((i:Int) + 1) = ((i + 1:Nat):Int):=rfl;rw [e1];have k2:∀ b u,b ≠ d -> b ≠ I -> s.heap.get? b = some u -> h2.get? b = some u:=fun b u hb hI e=>(sb.2 b hb).trans (kk1 b u (by simpa using hI) e);refine ih (i + 1) _ (stored kvs q.1 q.2) (Yh (lE 3 0x12030c4014a3c2c21a1c021 T1 hk (Yd (lB 1 6991908881 T1 hlt)) (sbA _ _)) (lE 3 0x310240c21a4c3c201a1c031 T1 hk (sbA _ _) (Yd (Yde hlt)))) hlt ?_ ?_ dd2 ?_ ?_ ?_
  ·obtain ⟨o',e',r⟩:=st1.1
   exact ⟨o',(sb.2 I (Ya4 hdI)).trans e',r⟩
  ·obtain ⟨o',e',r⟩:=st1.2
   exact ⟨o',(sb.2 ax (Ya4 hda)).trans e',r⟩
  ·have:=(show (stored kvs q.1 q.2).length <= kvs.length + 1 from by unfold stored; split <;> simp)
   exact lC 2 0xa2c002101a1c001 T1 this hkl
  ·intro j v q' hj hq'
   obtain ⟨⟨a',o',key',n',ev',ho',r⟩,nd',nI'⟩:=hp j v q' hj hq';exact ⟨⟨a',o',key',n',ev',k2 a' o' (fun z=>nd' (by rw [ev',z])) (fun z=>nI' (by rw [ev',z])) ho',r⟩,nd',nI'⟩
  ·intro h' tk dd' kk'
   refine hR h' tk ?_ fun b u hb hI e=>kk' b u hb hI (k2 b u hb hI e);have hq2:ps.drop i = q :: ps.drop (i + 1):=by rw [Yb2 (by exact lC 2 2203623428113 T1 hlt hl)]; congr 1; rw [Y6 (by exact lC 2 2203623428113 T1 hlt hl)] at hq; exact Yao hq
   rw [hq2];exact dd'
theorem Zl5 {ax:Addr} {items:Array Value} {ps:List (Key × Value)} {Q:Value -> Yg -> Prop} (hA:A.handled = none) (ht:Zdt s.heap ax items) (hl:ps.length = items.size) (hz:ps.length <= 100000)
  (hp:∀ (j:Nat) v q,items[j]? = some v -> ps[j]? = some q -> Zlv prog w s.heap v q)
  (h:∀ h' tk,h'.DictOf (ZaK prog w) s.heap.objs.size (merged [] ps) -> (∀ b o,s.heap.get? b = some o -> h'.get? b = some o) -> Q (.ref s.heap.objs.size) { s with heap:=h',toks:=tk }):
  wpAny (model prog w) A (call (.type "dict") [.ref ax]) Q E s:=by
 obtain ⟨o,ho,⟨hc,hdn⟩,n,hdat⟩:=id ht;have hlt:ax < s.heap.objs.size:=Yo ho;refine callType_codes (Q₁:=fun obj s₁=>obj = .ref s.heap.objs.size /\ s₁ = { s with heap:=s.heap.push { cls:=.type "dict",data:=.dict #[] } }) F.kt_called_dict (F.kt_typeCall_dict_1 _) F.entry_dict_init (kt_code_dict_new _ ⟨rfl,rfl⟩) ?_;rintro obj s₁ ⟨rfl,rfl⟩;have hnew:(s.heap.push { cls:=.type "dict",data:=.dict #[] }).DictOf (ZaK prog w) s.heap.objs.size []:=Heap.DictOf.new s.heap;have hk1:∀ b u,s.heap.get? b = some u -> (s.heap.push { cls:=.type "dict",data:=.dict #[] }).get? b = some u:=fun b u q=>Yf _ q;refine ⟨hnew.typeIs,F.args_dict_init_2 _ _,?_⟩;unfold Builtin.«dict.__init__»;refine Yc ?_; unfold Builtin.Dict.selfAndRest;refine Yc (wpAny_notOrdered_dict hnew.typeIs ?_); show wpAny _ _ (pure (s.heap.objs.size,[Value.ref ax])) _ _ _;refine Ym ?_; show wpAny _ _ (Ygl "dict.__init__" s.heap.objs.size (.ref ax) [] .none) _ _ _;unfold Ygl;refine Yc (Yfm (T:="tuple") ⟨o,hk1 _ _ ho,hc⟩ ?_);rw [if_pos (by decide)];refine Yc (Zlb (hk1 _ _ ho) hc hdat hdn hA fun h2 tk2 k2=>?_);simp only [Option.isNone_none,if_true];refine Yc (Yhu ?_);have d2:h2.DictOf (ZaK prog w) s.heap.objs.size []:=by
  obtain ⟨o',es,ep,ho',r⟩:=hnew;exact ⟨o',es,ep,k2 _ _ ho',r⟩
 have t2:h2.IsTuple ax items:=⟨o,k2 _ _ (hk1 _ _ ho),hc,n,hdat⟩;have l2:s.heap.objs.size < h2.objs.size:=by obtain ⟨o',_,_,ho',_⟩:=d2; exact Yo ho'
 refine Yc (Yfj t2 ?_);have k3:∀ b u,h2.get? b = some u -> (h2.push { cls:=.type "tuple_iterator",data:=.fields #[.ref ax,.int 0 0] }).get? b = some u:=fun b u q=>Yf _ q;have t3:(h2.push { cls:=.type "tuple_iterator",data:=.fields #[.ref ax,.int 0 0] }).IsTuple ax items:=by obtain ⟨o',e',r⟩:=t2; exact ⟨o',k3 _ _ e',r⟩
 have d3:(h2.push { cls:=.type "tuple_iterator",data:=.fields #[.ref ax,.int 0 0] }).DictOf (ZaK prog w) s.heap.objs.size []:=by obtain ⟨o',es,ep,ho',r⟩:=d2; exact ⟨o',es,ep,k3 _ _ ho',r⟩
 refine Ym ⟨plainId_quiet Zc0 _,Zo1 (prog:=prog) (w:=w) (A:=A.in1) (ax:=ax) (items:=items) (ps:=ps) hA (Y2 (Yet hlt l2)) (Y2 l2) (Yes hlt) hl hz items.size 0 _ [] (Yh ((Yb9 _ _)) (lB 1 4309762049 T1 (sbA _ _))) (Yag _) ⟨_,Yr _ rfl,rfl,rfl⟩ t3 d3 (Yag _) (fun j v q hj hq=>?_) fun h' tk dd' kk'=>?_⟩
 ·obtain ⟨a,o',key,n',ev,ho',r⟩:=hp j v q hj hq
  have hla:a < s.heap.objs.size:=Yo ho';refine ⟨⟨a,o',key,n',ev,k3 _ _ (k2 _ _ (hk1 _ _ ho')),r⟩,fun z=>?_,fun z=>?_⟩
  ·rw [ev] at z; injection z with z; exact absurd hla (by rw [z]; exact Yck _)
  ·rw [ev] at z; injection z with z; exact absurd (Yet hla l2) (by rw [z]; exact Yck _)
 ·refine ⟨rfl,h h' tk dd' fun b u q=>kk' b u (Y2 (Yo q)) (Y2 (Yet (Yo q) l2)) (k3 _ _ (k2 _ _ (hk1 _ _ q)))⟩
end
section
variable {X:Cx}
theorem pairs_at {pins:List (Addr × Obj)} {σ:St} {H:Hp} {s:Yg} {ι:List Addr} (I:Inv X pins σ H s):∀ {x:List D} {l:List (Za4 × D)} {vs:List V} {us:List Value},Zdg x = some l -> Zz X.K H ι x vs -> Vals vs us ->
  ∃ (ws:List (Key × V)) (ps:List (Key × Value)),KvR X.K H ι l ws /\ KV ws ps /\ ps.length = us.length /\ ∀ (j:Nat) v q,us[j]? = some v -> ps[j]? = some q -> Zlv X.prog X.w s.heap v q
 | [],l,vs,us,h,r,v=>by
  have e:=r.nil_inv; subst e; cases v;have:l = []:=by simpa [Zdg] using h.symm
  subst this;exact ⟨[],[],KvR.nil,.nil,rfl,fun j v q h=>by simp at h⟩
 | d :: x,l,vs,us,h,r,v=>by
  obtain ⟨u,vs',rfl,r1,r2⟩:=r.cons_inv;cases v with
  | @cons _ z _ us' rz rzs=>
  cases d with
  | tup ds=>
   match ds,h,r1 with
   | [a,b],h,r1=>
    simp only [Zdg] at h;cases hk:ZeM a with
    | none=>simp only [hk] at h; cases h
    | some kk=>
     simp only [hk] at h;cases hx:Zdg x with
     | none=>rw [hx] at h; cases h
     | some l'=>
      rw [hx] at h;have:l = (kk,b) :: l':=by simpa using h.symm
      subst this;obtain ⟨ws,ps,kr,kv,lp,hp⟩:=pairs_at I hx r2 rzs;obtain ⟨ad,xs,rfl,sq,rr⟩:=r1.tup_inv;cases (show z = Value.ref ad from rz);obtain ⟨ya,ys,rfl,ra,rr⟩:=rr.cons_inv;obtain ⟨yb,ys,rfl,rb,rr⟩:=rr.cons_inv;have e:=rr.nil_inv; subst e;obtain ⟨its,rv,⟨o,ho,hc,n,hd⟩,_⟩:=I.tuple sq;cases rv with
      | @cons _ u1 _ _ q1 rv=>
      cases rv with
      | @cons _ u2 _ _ q2 rv=>
      cases rv
      refine ⟨(dk kk,yb) :: ws,(dk kk,u2) :: ps,KvR.cons rb kr,.cons ⟨rfl,q2⟩ kv,by simp [lp],fun j v q hj hq=>?_⟩;cases j with
      | zero=>
       simp at hj hq;subst hj hq;exact ⟨ad,o,u1,n,rfl,ho,hc,hd,ZiE (by rw [← Zgp hk ra]; exact q1)⟩
      | succ j=>exact hp j v q (by simpa using hj) (by simpa using hq)
   | [],h,_=>simp [Zdg] at h
   | [_],h,_=>simp [Zdg] at h
   | _ :: _ :: _ :: _,h,_=>simp [Zdg] at h
  | _=>simp [Zdg] at h
theorem Zr1 (hc:X.calm = true):Za0 X (.type "dict") (rB X.K Zha):=by
 intro pins s σ H xs us Q I rs ⟨ι,M,ds,S,rd,h⟩;cases ds with
 | nil=>exact h.elim
 | cons d ds=>
  cases ds with
  | cons _ _=>cases d <;> exact h.elim
  | nil=>
   obtain ⟨x,rfl,r⟩:=Zdj rd;obtain ⟨u,rfl,ru⟩:=vals1 rs;cases d with
   | ref n=>
    cases hn:ZcP M[n]? with
    | none=>simp only [Zha,hn] at h; exact h.elim
    | some kvs=>
     simp only [Zha,hn] at h;obtain ⟨a,ha,rfl⟩:=r.ref_inv;cases ru;obtain ⟨ws,hw,kr⟩:=Zje S hn ha;refine Zpu I hw fun p s' hp I'=>⟨.ref p,_,I',rfl,?_⟩;obtain ⟨x2,S2,r2⟩:=S.dct hp kr;exact h _ _ _ x2 S2 r2
   | tup z=>
    simp only [Zha] at h;cases hp:Zdg z with
    | none=>rw [hp] at h; exact h.elim
    | some l=>
     rw [hp] at h;dsimp only at h;split at h
     ·rename_i hz
      obtain ⟨a,vs,rfl,sq,rr⟩:=r.tup_inv;cases ru;obtain ⟨its,rv,ht,_⟩:=I.tupleN sq;obtain ⟨ws,ps,kr,kv,lp,hpp⟩:=pairs_at I hp rr rv;have hl:ps.length = l.length:=by rw [← kv.length,kr.length]
      refine Zl5 (ps:=ps) (I.ok.hd hc) ht (by simpa using lp) (by rw [hl]; exact hz) (fun j v q hj hq=>hpp j v q (by simpa using hj) hq) fun h' tk dd kk=>⟨.ref s.heap.objs.size,upd H s.heap.objs.size (.dK (ZfW [] ws)),?_,rfl,?_⟩
      ·have hm:=kv.merge (kvs:=[]) (vs:=[]) .nil
       refine I.laid kk (Yi _) (Zjj ?_ (beq_eq_false_iff_ne.mpr (Ya4 (Y2 I.big))) hm dd);have h1:=Zef ws [];rw [Yc2] at h1;rw [Ybe];have:=kr.length;exact lC 3 0x10000007b20186a05b1010ec2011021 T1 this h1 hz
      ·obtain ⟨x2,S2,r2⟩:=S.dct (I.hok.fresh (Yi _)) (KvR.merge (kvs:=[]) (ws:=[]) kr KvR.nil)
       exact h _ _ _ x2 S2 r2
     ·exact h.elim
   | _=>exact h.elim
end
theorem ZpK {X:Cx} {sts:List Stmt}:CSs X sts Zj6:=fun _ _ _ _ _ _ ⟨_,_,_,_,_,h⟩=>h.elim
section
variable {X:Cx} {a b c e o:Expr} {es:List Expr} {pos p apos cpos:Pos} {f g h:E3} {gl:EL3}
theorem Znq:Za0 X (.type "str") (fun xs H Q=>(∃ i,xs = [.int i] /\ i.natAbs.log2 < 1920 /\ Q (.str (toString i)) H) \/ ∃ x,xs = [.str x] /\ Q (.str x) H):=by
 intro pins s σ H xs us Q I r h;rcases h with h | ⟨x,rfl,q⟩
 ·exact Zjh pins s σ H xs us Q I r h
 ·obtain ⟨u,rfl,t,rfl⟩:=vals1 r
  exact PySem.P.str_of_str ⟨.str x,H,I,⟨t,rfl⟩,q⟩
theorem ZtI:Za0 X (.type "str") (rB X.K ZkO):=Za0.imp Znq fun xs H Q zz1=>by
 obtain ⟨ι,M,ds,S,rd,h⟩:=zz1;cases ds with
 | nil=>exact h.elim
 | cons d ds=>
  cases ds with
  | cons _ _=>cases d <;> exact h.elim
  | nil=>
   obtain ⟨x,rfl,r⟩:=Zdj rd;cases d with
   | int i=>
    simp only [ZkO] at h;split at h
    ·rename_i hz
     refine .inl ⟨i,by rw [r.int_inv],hz,Zac.ok h S ?_⟩;have:=Rep.str (K:=X.K) (H:=H) (ι:=ι) (x:=Zx i);exact this
    ·exact h.elim
   | str z=>exact .inr ⟨_,by rw [r.str_inv],Zac.ok h S Rep.str⟩
   | _=>exact h.elim
theorem ZiU {K:Ya} {H:Hp} {ι:List Addr}:∀ {x:List D} {ts:List (List Nat)} {vs:List V} {us:List Value},ZdZ x = some ts -> Zz K H ι x vs -> Vals vs us -> ∃ l:List (Str × Tok),us = Yjl l /\ l.map (·.1) = ts.map fun t=>(⟨t.toArray⟩:Str)
 | [],ns,vs,us,h,r,v=>by
  have e:=r.nil_inv; subst e; cases v;have:ns = []:=by simpa [ZdZ] using h.symm
  subst this; exact ⟨[],rfl,rfl⟩
 | .str i :: x,ns,vs,us,h,r,v=>by
  obtain ⟨u,vs',rfl,r1,r2⟩:=r.cons_inv;have e:=r1.str_inv; subst e;cases v with
  | @cons _ z _ us' rz rzs=>
  obtain ⟨t,rfl⟩:=rz;simp only [ZdZ] at h;cases hx:ZdZ x with
  | none=>rw [hx] at h; cases h
  | some ms=>
   rw [hx] at h;have:ns = i :: ms:=by simpa using h.symm
   subst this;obtain ⟨l,rfl,e⟩:=ZiU hx r2 rzs;exact ⟨(_,t) :: l,rfl,by simp [e]⟩
 | .non :: _,_,_,_,h,_,_=>by simp [ZdZ] at h
 | .bl _ :: _,_,_,_,h,_,_=>by simp [ZdZ] at h
 | .int _ :: _,_,_,_,h,_,_=>by simp [ZdZ] at h
 | .tup _ :: _,_,_,_,h,_,_=>by simp [ZdZ] at h
 | .scr _ :: _,_,_,_,h,_,_=>by simp [ZdZ] at h
 | .ref _ :: _,_,_,_,h,_,_=>by simp [ZdZ] at h
theorem ZgM (sep:List Nat):∀ ts:List (List Nat),Str.join (⟨sep.toArray⟩:Str) (ts.map fun t=>(⟨t.toArray⟩:Str)) = ⟨(glue sep ts).toArray⟩
 | []=>rfl
 | [x]=>rfl
 | x :: y :: xs=>by
  have ih:=ZgM sep (y :: xs);simp only [Yt] at ih ⊢;simp only [Str.join,glue] at ih ⊢;rw [ih];show (⟨(x.toArray ++ sep.toArray) ++ (glue sep (y :: xs)).toArray⟩:Str) = _;simp
theorem ZsN {sep:List Nat} {ts:List (List Nat)} (h:Zcf sep ts <= SZ):JoinOk (⟨sep.toArray⟩:Str) (ts.map fun t=>(⟨t.toArray⟩:Str)) = true:=by
 have gen:∀ (ts:List (List Nat)) (k:Nat),Yi3 (fun x1 (x2:Str)=>x1 + x2.length + (⟨sep.toArray⟩:Str).length) k (ts.map fun t=>(⟨t.toArray⟩:Str)) = k + Zcf sep ts:=by
  intro ts
  induction ts with
  | nil=>intro k; simp [Zcf]
  | cons t ts ih=>
   intro k;simp only [Yt,Ye6,ih];simp [Zcf,Ybu]; exact Yh (lD 0 0x321cc0c3210ccc0 T1) (lD 0 0x3210ccc321cc0c0 T1)
 unfold JoinOk Yin;rw [List.foldl_toArray,gen];have:Yac >= SZ:=Zbw;simp only [Ya3,Bool.not_eq_true',decide_eq_false_iff_not];exact fun z=>lC 3 0x6210102011011 T1 z this h
theorem Zrt:MtR X "str.join" (rM X.K ZfB):=by
 intro pins s σ H x xs v us Q I rx rs h;obtain ⟨ι,M,a,ds,S,ra,rd,h⟩:=h;cases a with
 | str sep=>
  cases ds with
  | nil=>exact h.elim
  | cons d ds=>
   cases ds with
   | cons _ _=>cases d <;> exact h.elim
   | nil=>
    cases d with
    | ref n=>
     simp only [ZfB] at h;cases hn:M[n]? with
     | none=>simp only [hn] at h; exact h.elim
     | some ob=>
      cases ob with
      | dct _=>simp only [hn] at h; exact h.elim
      | fdct _=>simp only [hn] at h; exact h.elim
      | ins _ _=>simp only [hn] at h; exact h.elim
      | lst z=>
       simp only [hn] at h;cases hs:ZdZ z with
       | none=>simp only [hs] at h; exact h.elim
       | some ts=>
        simp only [hs] at h;split at h
        ·rename_i hz
         have:=ra.str_inv;subst this;obtain ⟨w',ws,rfl,r1,r2⟩:=rd.cons_inv;have:=r2.nil_inv;subst this;obtain ⟨p,hp,rfl⟩:=r1.ref_inv;obtain ⟨t,rfl⟩:=rx;obtain ⟨u,rfl,ru⟩:=vals1 rs;cases ru;obtain ⟨vs,e,rv⟩:=S.obj n _ p hn hp;obtain ⟨its,rr,pl,zl⟩:=I.list (SqL.of e);obtain ⟨l,rfl,el⟩:=ZiU hs rv rr;refine SC.join pl.isList el (ZsN hz) fun t' k=>⟨.str _,H,I.tok _,⟨t',rfl⟩,?_⟩;rw [Txt.join,StrLaws.glued_eq_join,ZgM];exact Zac.ok h S Rep.str
        ·exact h.elim
    | _=>exact h.elim
 | _=>exact h.elim
theorem Zh0 (ho:C3 X o f) (ha:CA X (e :: es) gl)
  (hbase:Ydm o "join" X.env (eval o X.env) = eval o X.env:=by rfl)
  (hfew:((Ycl cpos (Yx (e :: es) X.env)).all (fun x=>!x.1) && (Ydk cpos (Ybz [] X.env)).all (fun x=>x.1.isSome)
   && decide ((e :: es).length + ([]:List Keyword).length + (if ([]:List Keyword).isEmpty then 0 else 1) < 30)) = true:=by rfl)
  (hline:(apos.endLine == cpos.line) = true:=by rfl) (hs:Yx (e :: es) X.env = (false,eval e X.env) :: Yx es X.env:=by rfl) (hplain:(Ycl cpos (Yx es X.env)).any (·.1) = false:=by rfl):
  C3 X (.Call (.Attribute o "join" apos) (e :: es) [] cpos) (ZaR tyS ZfB f gl):=
 (ZmN Yej PySem.F.slot_str_join PySem.F.type_str_join Zrt ho ha hbase hfew hline hs hplain).imp (ZjE Zlp)
end
section
variable {X:Cx} {a b c e o:Expr} {es:List Expr} {pos p apos cpos:Pos} {f g h:E3} {gl:EL3}
theorem Znv {prog:Yaf} {w:World} {A:Yar} {E:Value -> Yg -> Prop} {s:Yg} {x:Str} {t:Tok} {Q:Value -> Yg -> Prop} {y:Str} {u:Tok}
  (hy:(y.length == 0) = false) (hz:x.length + 2 <= Yac)
  (h:∀ (l:List (Str × Tok)) (k:Nat),l.map (·.1) = Txt.split x y -> l.length <= x.length + 2 -> Q (.ref s.heap.objs.size) { s with heap:=s.heap.push { cls:=.type "list",data:=.seq (Yjl l).toArray },toks:=k }):
  wpAny (model prog w) A (call (.builtin "str.split") [.str x t,.str y u]) Q E s:=by
 have e1:=StrLaws.occ_length_le x y 0 x.length (x.length + 1);have e2:=length_partsBetween x (Ybp x y 0 x.length (x.length + 1)) y.length;have hn:(Yf9 x (Ybp x y 0 x.length (x.length + 1)) y.length).length <= Yac:=lD 3 0x300321b2c01a2c101a1c021 T1 e2 e1 hz;cases h1:(decide (x.length < y.length) || decide (Yiq x < Yiq y)) with
 | true=>
  exact Ye2 Ygw (Yf6 s x t) Yga (Yfr (.str x t) (.str y u)) (meets_str_split_cannot_occur x y t u h1)
   (h [(x,t)] s.toks (if_pos h1).symm (by simp))
 | false=>
  cases hf:(Ybp x y 0 x.length (x.length + 1)).isEmpty with
  | true=>
   exact Ye2 Ygw (Yf6 s x t) Yga (Yfr (.str x t) (.str y u)) (meets_str_split_not_found x y t u h1 hy hf)
    (h [(x,t)] s.toks ((if_neg (ne_true_of_eq_false h1)).trans (if_pos hf)).symm (by simp))
  | false=>
   refine Ye2 Ygw (Yf6 s x t) Yga (Yfr (.str x t) (.str y u)) (meets_str_split_sep x y t u h1 hy hf (lB 1 1099815390209 T1 hz) hn) ?_;rw [strsFrom_eq];refine h (numbered s.toks _) _ ((numbered_texts s.toks _).trans ((if_neg (ne_true_of_eq_false h1)).trans (if_neg (ne_true_of_eq_false hf))).symm) ?_;have e3:=congrArg Yjh (numbered_texts s.toks (Yf9 x (Ybp x y 0 x.length (x.length + 1)) y.length));rw [Yk] at e3;exact lD 3 0x21b3c00a3c201a2c1211021 T1 e3 e2 e1
theorem Zip:Za0 X (.type "int") (fun xs H Q=>∃ x n,xs = [.str x] /\ intText? x = some n /\ x.length <= 640 /\ Q (.int n) H):=by
 intro pins s σ H xs us Q I r h;obtain ⟨x,n,rfl,hn,hz,q⟩:=h;obtain ⟨u,rfl,t,rfl⟩:=vals1 r;exact PySem.W.KIN.call_text hn hz ⟨.int n,H,I.tok _,⟨_,rfl⟩,q⟩
theorem ZoV:Za0 X (.type "int") (rB X.K Zgj):=Za0.imp (Za0.or Zui Zip) fun xs H Q zz1=>by
 obtain ⟨ι,M,ds,S,rd,h⟩:=zz1
 match ds,rd,h with
 | [.str x],rd,h=>
  obtain ⟨v,rfl,r⟩:=Zdj rd;simp only [Zgj] at h;cases hn:Yh9 ⟨x.toArray⟩ with
  | none=>rw [hn] at h; exact h.elim
  | some n=>
   rw [hn] at h;dsimp only at h;split at h
   ·rename_i hz
    exact .inr ⟨_,n,by rw [r.str_inv],hn,by simpa [Ybu] using hz,Zac.ok h S Rep.int⟩
   ·exact h.elim
 | [],rd,h=>exact h.elim
 | [.int i],rd,h=>exact .inl ⟨ι,M,_,S,rd,h⟩
 | [.bl i],rd,h=>exact .inl ⟨ι,M,_,S,rd,h⟩
 | [.non],rd,h=>exact h.elim
 | [.tup _],rd,h=>exact h.elim
 | [.scr _],rd,h=>exact h.elim
 | [.ref _],rd,h=>exact h.elim
 | .str _ :: _ :: _,rd,h=>exact h.elim
 | .int _ :: _ :: _,rd,h=>exact h.elim
 | .bl _ :: _ :: _,rd,h=>exact h.elim
 | .non :: _ :: _,rd,h=>exact h.elim
 | .tup _ :: _ :: _,rd,h=>exact h.elim
 | .scr _ :: _ :: _,rd,h=>exact h.elim
 | .ref _ :: _ :: _,rd,h=>exact h.elim
theorem ZhW {K:Ya} {H:Hp} {ι:List Addr}:∀ (l:List (Str × Tok)),Vals (l.map fun p=>V.str p.1) (Yjl l) /\ Zz K H ι ((l.map fun p=>p.1.cps.toList).map D.str) (l.map fun p=>V.str p.1)
 | []=>⟨.nil,Zz.nil⟩
 | p :: l=>⟨.cons ⟨p.2,rfl⟩ (ZhW (K:=K) (H:=H) (ι:=ι) l).1,Zz.cons (Rep.str (x:=p.1.cps.toList)) (ZhW l).2⟩
theorem m_split:MtR X "str.split" (rM X.K Zed):=by
 intro pins s σ H x xs v us Q I rx rs h;obtain ⟨ι,M,a,ds,S,ra,rd,h⟩:=h;cases a with
 | str z=>
  cases ds with
  | nil=>exact h.elim
  | cons d ds=>
   cases ds with
   | cons _ _=>cases d <;> exact h.elim
   | nil=>
    cases d with
    | str y=>
     simp only [Zed] at h;split at h
     ·rename_i hz
      have:=ra.str_inv;subst this;obtain ⟨w',ws,rfl,r1,r2⟩:=rd.cons_inv;have:=r2.nil_inv;subst this;have:=r1.str_inv;subst this;obtain ⟨t,rfl⟩:=rx;obtain ⟨u,rfl,ru⟩:=vals1 rs;obtain ⟨t',rfl⟩:=ru;have zl:=Zbw;refine Znv ?_ ?_ fun l k hl hn=>?_
      ·have:=hz.1
       simp [Ybu]; intro e; subst e; simp at this
      ·simp only [Ybu,Ye]; exact Yj hz.2 zl
      ·have hq:=I.fresh
       obtain ⟨v1,r'⟩:=ZhW (K:=X.K) (H:=H) (ι:=ι) l;have e1:(l.map fun p=>p.1.cps.toList) = ZdR z y:=by
        rw [ZdR,← hl,Ycn]; rfl
       rw [e1] at r';obtain ⟨x2,S2,r2⟩:=S.lst hq r';refine ⟨.ref s.heap.objs.size,_,I.laid (fun b o' e=>Yf _ e) (Yi _) (show ZaX X.prog X.w _ _ _ (.lst (l.map fun p=>V.str p.1)) from ⟨?_,Yjl l,_,v1,Yr _ rfl⟩),rfl,h _ _ _ x2 S2 r2⟩;simp only [Yk,Ybu,Ye] at hn ⊢; exact lD 3 0x300221b1c01320121b1c001 T1 hn zl hz.2
     ·exact h.elim
    | _=>exact h.elim
 | _=>exact h.elim
theorem Zg9 (ho:C3 X o f) (ha:CA X (e :: es) gl)
  (hbase:Ydm o "split" X.env (eval o X.env) = eval o X.env:=by rfl)
  (hfew:((Ycl cpos (Yx (e :: es) X.env)).all (fun x=>!x.1) && (Ydk cpos (Ybz [] X.env)).all (fun x=>x.1.isSome)
   && decide ((e :: es).length + ([]:List Keyword).length + (if ([]:List Keyword).isEmpty then 0 else 1) < 30)) = true:=by rfl)
  (hline:(apos.endLine == cpos.line) = true:=by rfl) (hs:Yx (e :: es) X.env = (false,eval e X.env) :: Yx es X.env:=by rfl) (hplain:(Ycl cpos (Yx es X.env)).any (·.1) = false:=by rfl):
  C3 X (.Call (.Attribute o "split" apos) (e :: es) [] cpos) (ZaR tyS Zed f gl):=
 (ZmN Yej PySem.F.slot_str_split PySem.F.type_str_split m_split ho ha hbase hfew hline hs hplain).imp (ZjE Zlp)
end
section
variable {X:Cx} {a b c e o:Expr} {es:List Expr} {pos p p1 p2 p3 pt apos cpos:Pos} {f g h:E3} {gl:EL3}
theorem ZpO (K:Ya) (t:String) (T1 T2:Ty3) (ht:t ∈ ["NoneType","bool","int","str","list","tuple","dict"]):
  PySem.W.kitAny K (.type t) [.type (tyN T1),.type (tyN T2)] = some ((t == tyN T1 || (t == "bool" && tyN T1 == "int")) || (t == tyN T2 || (t == "bool" && tyN T2 == "int"))):=by
 simp only [Y3,Ybi,or_false] at ht;rcases ht with rfl | rfl | rfl | rfl | rfl | rfl | rfl <;> cases T1 <;> cases T2 <;> kernel_rfl
theorem ZpU {pins:List (Addr × Obj)} {σ:St} {H:Hp} {s:Yg} {ι:List Addr} {M:Store} {d:D} {x:V} {u:Value} (I:Inv X pins σ H s) (S:Zap X.K H ι M) (r:Rep X.K H ι d x) (ru:RelV x u) (hd:ZcZ .int d M ≠ none):
  ∃ (t:String) (Hc:Heap -> Prop),PySem.W.KitX X.K u (.type t) Hc /\ Hc s.heap /\ u ≠ .builtin "__main__.__loader__#opaque" /\ t ∈ ["NoneType","bool","int","str","list","tuple","dict"] /\ ∀ T b,ZcZ T d M = some b -> b = (t == tyN T || (t == "bool" && tyN T == "int")):=by
 cases d with
 | non=>
  have:=r.non_inv; subst this;cases (show u = Value.none from ru);exact ⟨"NoneType",_,PySem.W.kitx_none,True.intro,(fun z=>nomatch z),by simp,fun T b e=>by
   have hb:b = false:=by simpa [ZcZ] using e.symm
   subst hb; cases T <;> rfl⟩
 | bl c=>
  have:=r.bl_inv; subst this;cases (show u = Value.bool c from ru);exact ⟨"bool",_,PySem.W.kitx_bool,True.intro,(fun z=>nomatch z),by simp,fun T b e=>by
   have hb:b = (T == .bool || T == .int):=by simpa [ZcZ] using e.symm
   subst hb; cases T <;> rfl⟩
 | int i=>
  have:=r.int_inv; subst this;obtain ⟨t,q⟩:=(show ∃ t,u = Value.int i t from ru); cases q;exact ⟨"int",_,PySem.W.kitx_int,True.intro,(fun z=>nomatch z),by simp,fun T b e=>by
   have hb:b = (T == .int):=by simpa [ZcZ] using e.symm
   subst hb; cases T <;> rfl⟩
 | str z=>
  have:=r.str_inv; subst this;obtain ⟨t,q⟩:=(show ∃ t,u = Value.str _ t from ru); cases q;exact ⟨"str",_,PySem.W.kitx_str,True.intro,(fun z=>nomatch z),by simp,fun T b e=>by
   have hb:b = (T == .str):=by simpa [ZcZ] using e.symm
   subst hb; cases T <;> rfl⟩
 | tup ds=>
  obtain ⟨a,vs,rfl,st,rr⟩:=r.tup_inv;cases ru;obtain ⟨its,_,pt,_⟩:=I.tuple st;obtain ⟨o,h1,h2,_⟩:=pt;exact ⟨"tuple",_,Yfk,⟨o,h1,h2⟩,(fun z=>nomatch z),by simp,fun T b e=>by
   have hb:b = (T == .tuple):=by simpa [ZcZ] using e.symm
   subst hb; cases T <;> rfl⟩
 | scr ds=>exact absurd (by simp [ZcZ]) hd
 | ref n=>
  simp only [ZcZ] at hd;cases hn:M[n]? with
  | none=>exact absurd (by simp [hn]) hd
  | some o=>
   obtain ⟨a,ha,rfl⟩:=r.ref_inv;cases o with
   | lst z=>
    obtain ⟨vs,ev,_⟩:=S.obj n _ a hn ha;cases (show u = Value.ref a from ru);obtain ⟨_,_,n',_,h1⟩:=(show ZaX X.prog X.w H s.heap a (.lst vs) from I.hok a _ ev);exact ⟨"list",_,Yf1,⟨_,h1,rfl⟩,(fun z=>nomatch z),by simp,fun T b e=>by
     have hb:b = (T == .list):=by simpa [ZcZ,hn] using e.symm
     subst hb; cases T <;> rfl⟩
   | dct z=>
    obtain ⟨vs,ev,_⟩:=S.obj n _ a hn ha;cases (show u = Value.ref a from ru);obtain ⟨_,_,vs',_,q⟩:=(show ZaX X.prog X.w H s.heap a (.dK vs) from I.hok a _ ev);obtain ⟨o,es,ep,h1,h2,_⟩:=q;exact ⟨"dict",_,Yf2,⟨o,h1,h2.1⟩,(fun z=>nomatch z),by simp,fun T b e=>by
     have hb:b = false:=by simpa [ZcZ,hn] using e.symm
     subst hb; cases T <;> rfl⟩
   | fdct z=>exact absurd (by simp [hn]) hd
   | ins _ _=>exact absurd (by simp [hn]) hd
theorem ZmM (T1 T2:Ty3) {x y:Str} {k} (hm:X.mg "isinstance" = none) (hm1:X.mg x = none) (hm2:X.mg y = none) (h:C3 X a f) (hx:x = (Ybv (tyN T1)):=by rfl) (hy:y = (Ybv (tyN T2)):=by rfl) (hg:Gl X "isinstance":=by rfl) (hg1:Gl X x:=by rfl) (hg2:Gl X y:=by rfl)
  (hn:x ≠ "__name__":=by decide) (hd:(x == ("__debug__":Str)) = false:=by decide) (hn':y ≠ "__name__":=by decide) (hd':(y == ("__debug__":Str)) = false:=by decide)
  (hs:Yx (a :: [.Tuple [.Name x p1,.Name y p2] k pt]) X.env = (false,eval a X.env) :: Yx [.Tuple [.Name x p1,.Name y p2] k pt] X.env:=by rfl) (hs1:Yx (.Tuple [.Name x p1,.Name y p2] k pt :: []) X.env = (false,eval (.Tuple [.Name x p1,.Name y p2] k pt) X.env) :: Yx [] X.env:=by rfl)
  (hs2:Yx (.Name x p1 :: [.Name y p2]) X.env = (false,eval (.Name x p1) X.env) :: Yx [.Name y p2] X.env:=by rfl) (hs3:Yx (.Name y p2 :: []) X.env = (false,eval (.Name y p2) X.env) :: Yx [] X.env:=by rfl)
  (hpl:(Ycl pos (Yx [.Tuple [.Name x p1,.Name y p2] k pt] X.env)).any (·.1) = false:=by rfl):C3 X (.Call (.Name "isinstance" p) [a,.Tuple [.Name x p1,.Name y p2] k pt] [] pos) (e1 (Zgg T1 T2) f):=by
 subst hx hy;have hc:Za0 X (.builtin "isinstance") (fun xs H Q=>∃ ι M d x q,xs = [x,.ref q] /\ H q = some (.tup [.ty (tyN T1),.ty (tyN T2)]) /\ Zap X.K H ι M /\ Rep X.K H ι d x /\ Zac X.K H ι Q (Zgg T1 T2 d M)):=by
  intro pins s σ H xs us Q I r q;obtain ⟨ι,M,d,x,tp,rfl,et,S,rd,q⟩:=q;obtain ⟨u,w',rfl,ru,rw'⟩:=vals2 r;cases rw';unfold Zgg at q;cases e1:ZcZ T1 d M with
  | none=>rw [e1] at q; exact q.elim
  | some b1=>
   cases e2:ZcZ T2 d M with
   | none=>rw [e1,e2] at q; exact q.elim
   | some b2=>
    rw [e1,e2] at q;have hd:ZcZ .int d M ≠ none:=fun z=>by
     cases d with
     | ref n=>
      simp only [ZcZ] at z e1;cases hn:M[n]? with
      | none=>simp [hn] at e1
      | some o=>cases o <;> simp [hn] at z e1
     | scr _=>simp [ZcZ] at e1
     | _=>simp [ZcZ] at z
    obtain ⟨t,Hc,kx,hh,hl,ht,hb⟩:=ZpU I S rd ru hd;obtain ⟨_,its,rt,pt⟩:=(show ZaX X.prog X.w H s.heap tp (.tup [.ty (tyN T1),.ty (tyN T2)]) from I.hok tp _ et);obtain ⟨v1,v2,rfl,q1,q2⟩:=vals2 rt;cases q1; cases q2;obtain ⟨ob,g1,⟨g2,g3⟩,n,g4⟩:=pt;have ho:ob = { cls:=.type "tuple",dict:=ob.dict,data:=.seq [.type (tyN T1),.type (tyN T2)].toArray n,slots:=ob.slots }:=by
     cases ob; simp only at g2 g4; subst g2 g4; rfl
    rw [ho] at g1;refine PySem.W.kia_tup kx I.kIn hh g1 ((ZpO X.K t T1 T2 ht).trans ?_) hl fun tk=>⟨.bl (b1 || b2),H,I.tok _,rfl,Zac.ok q S Rep.bl⟩;rw [hb T1 b1 e1,hb T2 b2 e2]
 refine (Zh3 hc hg hm ZfD (ZeD h (ZeD (Zpr (ZeD (Zjt hg1 hm1 (Zpn T1) (v:=.ty (tyN T1)) rfl hn hd) (ZeD (Zjt hg2 hm2 (Zpn T2) (v:=.ty (tyN T2)) rfl hn' hd') ZjQ hs3) hs2)) ZjQ hs1) hs) (by decide) (by decide) hs hpl).imp fun σ H Q zz1=>?_;obtain ⟨ι,M,env,S,E,h⟩:=zz1;obtain ⟨d,M1,e1,h⟩:=Zac.bind h;refine ⟨ι,M,env,S,E,?_⟩;rw [e1];intro v H1 ι1 x1 S1 r1;refine ⟨by simp; exact Yj (by decide) Zbw,fun q hq=>?_⟩;have x2:Ext X.K H1 ι1 (upd H1 q (.tup [.ty (tyN T1),.ty (tyN T2)])) ι1:=Loose.ext (.inl hq);exact ⟨ι1,M1,d,v,q,rfl,Zbl,S1.other (.inl hq) (S1.fresh hq),r1.mono x2,h.up (x1.trans x2)⟩
end
section
variable {X:Cx} {tg e:Expr} {pos:Pos} {f:E3} {g:G3}
end
section
variable {X:Cx} {tg e elt:Expr} {ifs:List Expr} {pos:Pos} {f fe:E3} {ts:List E3} {g:G3} {scope:Scope} {N':List Str} {own:Nat}
end
def Zt5 (K:Ya) (H:Hp) (ι:List Addr) (it:ItL) (J:It):Prop:=∀ (i:Nat) H2 ι2 M2,Ext K H ι H2 ι2 -> Zap K H2 ι2 M2 -> ZbW it.lk M2 = true ->
 (∀ d,it.items[i]? = some d -> J.go i H2 /\ ∀ x H3,J.yld i H2 x H3 -> Ext K H2 ι2 H3 ι2 /\ Zap K H3 ι2 M2 /\ Rep K H3 ι2 d x) /\ (i = it.items.length -> J.stop i H2)
def Zhu (K:Ya) (H:Hp) (ι:List Addr) (R:It -> Hp -> Prop) (r:R3 ItL):Prop:=match r with
 | .ok it M'=>∀ J H' ι',Ext K H ι H' ι' -> Zap K H' ι' M' -> Zt5 K H' ι' it J -> R J H'
 | _=>False
def tIL (K:Ya) (g:IL3):TI:=fun σ H R=>∃ ι M env,Zap K H ι M /\ Zbm K H ι env σ /\ Zhu K H ι R (g env M)
def CIL (X:Cx) (tg e:Expr) (g:IL3):Prop:=PI X tg e (tIL X.K g)
theorem Zhu.bind {K:Ya} {H:Hp} {ι:List Addr} {α:Type} {Q:It -> Hp -> Prop} {r:R3 α} {k:α -> Store -> R3 ItL} (h:Zhu K H ι Q (r.bind k)):∃ a M,r = .ok a M /\ Zhu K H ι Q (k a M):=by
 cases r with
 | ok a M=>exact ⟨a,M,rfl,h⟩
 | exc x M=>exact h.elim
 | bad=>exact h.elim
section
variable {X:Cx} {tg:Expr} {pos:Pos}
theorem Zj7 {iter:Expr} {body:List Stmt} {i:IL3} {g:G3} {u:S3} (hxe:X.xe = fun _ _=>False) (hc:X.calm = true) (hi:CIL X tg iter i) (hg:CG X tg g) (hb:CSs X body u) (hs:∀ x,Ycx iter X.env x = pure x:=by intro _; rfl):
  CS X (.For tg iter body [] pos) (Zfe i g u):=(Zof (by rw [hxe]; exact Yhi) hc hi hg hb hs).imp fun D σ H zz1=>by
 obtain ⟨ι,M,env,S,E,h⟩:=zz1;unfold Zfe at h;cases q:i env M with
 | exc x M1=>rw [q] at h; exact h.elim
 | bad=>rw [q] at h; exact h.elim
 | ok it M1=>
  rw [q] at h;refine ⟨ι,M,env,S,E,?_⟩;rw [q];intro J H1 ι1 x1 S1 ok;refine ⟨fun i m σ2 H2=>m = it.items.length - i /\ i <= it.items.length /\ ∃ ι2 M2 env2,Ext X.K H1 ι1 H2 ι2 /\ Zap X.K H2 ι2 M2 /\ Zbm X.K H2 ι2 env2 σ2 /\ Zfs X.K H2 ι2 D (Zev it.lk g u (it.items.drop i) env2 M2),
   ⟨_,rfl,Yag _,ι1,M1,env,Ext.refl,S1,E.mono x1,Zfs.up x1 h⟩,?_⟩
  rintro i m σ2 H2 ⟨rfl,hi,ι2,M2,env2,x2,S2,E2,h2⟩;by_cases hlt:i < it.items.length
  ·have hd:it.items[i]? = some it.items[i]:=by simp [hlt]
   rw [Yb2 hlt] at h2;unfold Zev at h2;by_cases lk:ZbW it.lk M2 = true
   ·rw [if_pos lk] at h2
    obtain ⟨go,yl⟩:=(ok i H2 ι2 M2 x2 S2 lk).1 _ hd;cases eg:g it.items[i] env2 with
    | none=>rw [eg] at h2; exact h2.elim
    | some env3=>
     rw [eg] at h2;refine .inr ⟨go,fun σ' H'=>∃ ι3 M3 env4,Ext X.K H2 ι2 H' ι3 /\ Zap X.K H' ι3 M3 /\ Zbm X.K H' ι3 env4 σ' /\ Zfs X.K H' ι3 D (Zev it.lk g u (it.items.drop (i + 1)) env4 M3),
      fun σ' H' ⟨ι3,M3,env4,x3,S3,E3,h3⟩=>⟨it.items.length - (i + 1),lD 2 0x30113c2012a1c0c21 T1 (Yd (lB 1 6991908881 T1 hlt)) (sbA _ _),rfl,hlt,ι3,M3,env4,x2.trans x3,S3,E3,h3⟩,fun x H' hy=>?_⟩
     obtain ⟨x7,S7,rx⟩:=yl x H' hy;refine ⟨ι2,M2,env2,_,env3,S7,E2.mono x7,rx,eg,fun σ' E'=>⟨ι2,M2,env3,S7,E',?_⟩⟩;have h2':=Zfs.up x7 h2;cases qu:u env3 M2 with
     | nx e' M'=>simp only [qu] at h2'; exact fun σ' H' ι' x' S' E'=>⟨ι',M',e',x7.trans x',S',E',h2'.up x'⟩
     | ct e' M'=>simp only [qu] at h2'; exact fun σ' H' ι' x' S' E'=>⟨ι',M',e',x7.trans x',S',E',h2'.up x'⟩
     | bk e' M'=>simp only [qu] at h2'; exact h2'
     | rt d M'=>simp only [qu] at h2'; exact h2'
     | exc x' M'=>simp only [qu] at h2'; exact h2'.elim
     | bad=>simp only [qu] at h2'; exact h2'.elim
   ·rw [if_neg lk] at h2; exact h2.elim
  ·have e0:i = it.items.length:=Yh hi (Y8 hlt)
   subst e0;rw [Ygu] at h2;unfold Zev at h2;by_cases lk:ZbW it.lk M2 = true
   ·rw [if_pos lk] at h2
    exact .inl ⟨(ok _ H2 ι2 M2 x2 S2 lk).2 rfl,h2 σ2 H2 ι2 Ext.refl S2 E2⟩
   ·rw [if_neg lk] at h2; exact h2.elim
end
theorem _root_.L2.Inv.turnedL {X:Cx} {pins:List (Addr × Obj)} {σ:St} {H:Hp} {s:Yg} {h':Heap} {t':Nat} {fp:List Addr} (I:Inv X pins σ H s) (k:∀ b o,b ∉ fp -> s.heap.get? b = some o -> h'.get? b = some o) (hf:∀ b ∈ fp,ZeK X pins H b):
  Inv X pins σ H { s with heap:=h',toks:=t' }:=by
 have nit:∀ b u,H b = some u -> b ∉ fp:=fun b u e z=>by rw [(hf b z).1] at e; cases e
 refine I.step (g':=s.gens) (d':=s.drawn) (ch:=fp) (fun b hb=>⟨(hf b hb).2.2.2.1,(hf b hb).2.1,(hf b hb).2.2.2.2.1,(hf b hb).2.2.2.2.2⟩) (fun b o _ _ hc e _=>k b o hc e) (fun b o _ _ hc e _=>⟨o.slots,k b o hc e⟩) (fun _ _ _ _ n=>n)
  (fun b o hc e=>⟨o,k b o hc e⟩) (fun _ _ e=>e) (fun _ _ _ e=>e) (fun b ps e=>⟨#[],by rw [e]; simp⟩) (fun m hm=>?_) (fun b u e=>?_) I.bare
 ·obtain ⟨o,es,ep,ho,r⟩:=hm
  exact ⟨o,es,ep,k _ o (fun z=>(hf _ z).2.1 rfl) ho,r⟩
 ·refine (I.hok b u e).stay (fun c v hc q=>k c v ?_ q) (fun _ q=>q) fun _ _ q=>q
  rcases hc with z | z
  ·rw [z]; exact nit b u e
  ·exact nit c _ z
theorem ZnO {X:Cx} {pins:List (Addr × Obj)} {σ:St} {H:Hp} {s:Yg} {h' h'':Heap} {e it:Addr} {i:Nat} {x:V} {u:Value} {tk tk':Nat} (I:Inv X pins σ H s) (hf:∀ b ∈ [e,it],ZeK X pins H b) (he:e < s.heap.objs.size) (hi:it < s.heap.objs.size) (ru:RelV x u)
  (hT:h'.get? s.heap.objs.size = some { cls:=.type "tuple",data:=.seq #[.int i tk,u] }) (hk:∀ b o,b ≠ e -> b ≠ it -> s.heap.get? b = some o -> h'.get? b = some o) (hs:Yd2 e h' h''):
  Inv X pins σ (upd H s.heap.objs.size (.tup [.int i,x])) { s with heap:=h'',toks:=tk' } /\ ∀ b ∈ [e,it],upd H s.heap.objs.size (.tup [.int i,x]) b = none:=by
 have hn:∀ b ∈ [e,it],upd H s.heap.objs.size (.tup [.int i,x]) b = none:=fun b hb=>by
  have:b ≠ s.heap.objs.size:=by
   simp only [Y3,Ybi,or_false] at hb;rcases hb with rfl | rfl
   ·exact Y2 he
   ·exact Y2 hi
  rw [Zaj this]; exact (hf b hb).1
 refine ⟨?_,hn⟩;have I1:Inv X pins σ (upd H s.heap.objs.size (.tup [.int i,x])) { s with heap:=s.heap.push { cls:=.type "tuple",data:=.seq ([.int i tk,u]:List Value).toArray },toks:=s.toks }:=
  I.laid (t':=s.toks) (fun b o e=>Yf _ e) (Yi _) (show ZaX X.prog X.w _ _ _ (.tup [.int i,x]) from ⟨by rw [Ybe]; show 2 <= _; decide,[.int i tk,u],.cons ⟨tk,rfl⟩ (.cons ru .nil),Zdt.new _ _⟩)
 have I3:=I1.turnedL (t':=tk') (h':=h'') (fp:=[e,it]) (fun b o hb q=>by
  have hbe:b ≠ e:=fun z=>hb (by simp [z]);have hbi:b ≠ it:=fun z=>hb (by simp [z]);rcases Yh1 q with ⟨rfl,rfl⟩ | q
  ·exact (hs.2 _ (Yes he)).trans hT
  ·exact (hs.2 _ hbe).trans (hk b o hbe hbi q)) fun b hb=>⟨hn b hb,(hf b hb).2⟩
 exact I3
theorem boot_enumerate:Yap "enumerate" = some (.type "enumerate"):=by decide +kernel
open AutoSeq1 (wpAny_loadPart')
set_option maxRecDepth 100000
section
variable {prog:Yaf} {w:World} {A:Yar} {E:Value -> Yg -> Prop} {s:Yg}
theorem Zgo {it t:Addr} {i:Nat} {items:Array Value} {x:Value} {Q:Value -> Yg -> Prop} (hit:s.heap.IsTupleIter it t i) (ht:s.heap.IsTuple t items) (hx:items[i]? = some x)
  (hQ:∀ h',h'.IsTupleIter it t (i + 1) -> Yd2 it s.heap h' -> Q x { s with heap:=h' }):wpAny (model prog w) A (Yak (.ref it)) Q E s:=by
 obtain ⟨o,ho,hc,hd⟩:=id hit;obtain ⟨ol,hol,_,nl,hdl⟩:=ht;unfold Yak;refine Yc (Ya0 (name:=Ybv "__next__") hit.typeIs Yd1
  (Ybw Yd1 hit.typeIs Yh2 ?_ (Yir _)))
 show wpAny _ _ (field (.ref it) 0 >>= _) _ _ s;refine Yc (Ybj ho hd (x:=.ref t) rfl ?_);show wpAny _ _ (if (Value.ref t == Value.none) = true then _ else _) _ _ s;rw [if_neg (show ¬ ((Value.ref t == Value.none) = true) from Yav)];show wpAny _ _ (field (.ref it) 1 >>= _) _ _ s;refine Yc (Ybj ho hd (x:=.int i 0) rfl ?_);show wpAny _ _ (seqItems? (.ref t) >>= _) _ _ s;refine Yc (Yct hol hdl ?_);simp only [Yek,hx];refine Yc (wpAny_setField ho hd (by simp) (Ym ⟨x,rfl,Ym (hQ _ ?_ (Yis ..))⟩));exact ⟨_,Yhd _ ho (Obj.isFreed_of_fields (Obj.data_mapFields hd _)),(Obj.cls_mapFields ..).trans hc,by
  rw [Obj.data_mapFields hd]; simp [Yh6]⟩
theorem ZgG {it t:Addr} {i:Nat} {items:Array Value} {Q:Value -> Yg -> Prop} (hh:A.handled = none) (hit:s.heap.IsTupleIter it t i) (ht:s.heap.IsTuple t items) (hx:items[i]? = none)
  (hE:∀ h' e,Yit it s.heap h' -> (∃ o,h'.get? e = some o /\ o.cls = .type "StopIteration") -> E (.ref e) { s with heap:=h' }):wpAny (model prog w) A (Yak (.ref it)) Q E s:=by
 obtain ⟨o,ho,hc,hd⟩:=id hit;obtain ⟨ol,hol,_,nl,hdl⟩:=ht;unfold Yak;refine Yc (Ya0 (name:=Ybv "__next__") hit.typeIs Yd1
  (Ybw Yd1 hit.typeIs Yh2 ?_ (Yir _)))
 show wpAny _ _ (field (.ref it) 0 >>= _) _ _ s;refine Yc (Ybj ho hd (x:=.ref t) rfl ?_);show wpAny _ _ (if (Value.ref t == Value.none) = true then _ else _) _ _ s;rw [if_neg (show ¬ ((Value.ref t == Value.none) = true) from Yav)];show wpAny _ _ (field (.ref it) 1 >>= _) _ _ s;refine Yc (Ybj ho hd (x:=.int i 0) rfl ?_);show wpAny _ _ (seqItems? (.ref t) >>= _) _ _ s;refine Yc (Yct hol hdl ?_);simp only [Yek,hx];refine Yc (Yhu (Yc (wpAny_setField ho hd (by simp) ?_)));show wpAny _ _ (newExc (.type "StopIteration") [] >>= _) _ _ _;refine Yc ?_;simp only [newExc,newTuple];refine Yc (Ycf ?_ (by size_fits));refine Yc (m:=firstArgMember _ _) (wpAny_of_eq (a:=Value.none) (by first | rfl | (simp only [firstArgMember]; rfl)) ?_);refine Ycf ?_ (by size_fits);simp only [raiseNew];refine Yc (wpAny_handled ?_)
 first | rw [show A.in1.handled = none from hh] | rw [hh]
 refine Yc (Ym (wpAny_throw ?_));exact hE _ _ (((Yis ..).extBut.push _).push _) ⟨_,Yr _ rfl,rfl⟩
end
section
variable {X:Cx} {es:List Expr} {k:Nat} {a:Expr} {p pos tpos:Pos} {f:E3}
end
end L3
namespace L3
open PySem PySem.Spec PyProof.Rows L2
section
variable {prog:Yaf} {w:World} {A:Yar} {E:Value -> Yg -> Prop} {s:Yg}
theorem Zi7 {it t:Addr} {items:Array Value} (hne:t ≠ it):∀ (n i:Nat) (s:Yg) (Q:List Value -> Yg -> Prop),s.heap.IsListIter it t i -> s.heap.IsList t items -> i + n <= items.size ->
  (∀ h',h'.IsListIter it t (i + n) -> Yd2 it s.heap h' -> Q ((items.toList.drop i).take n) { s with heap:=h' }) -> wpAny (model prog w) A (draw (.ref it) n) Q E s
 | 0,i,s,Q,hit,_,_,hQ=>by
  show wpAny _ _ (pure []) Q E s;exact Ym (by simpa using hQ s.heap hit (Heap.SameBut.refl ..))
 | n + 1,i,s,Q,hit,ht,hle,hQ=>by
  have hlt:i < items.size:=lC 1 2204024704001 T1 hle;show wpAny _ _ (Yf0 (.ref it) >>= _) Q E s;refine Yc (Ygx hit ht (x:=items[i]) (by simp [hlt]) fun h₁ hit₁ hs₁=>?_);refine Yc (Yau (Zi7 hne n (i + 1) _ _ hit₁ (ht.extBut hs₁.extBut hne) (lC 1 0x21a0cc02a1c0c01 T1 hle) fun h₂ hit₂ hs₂=>Ym ?_));have hd:items.toList.drop i = items[i] :: items.toList.drop (i + 1):=by simp [Yb2,hlt]
  have:=hQ h₂ (by rw [show i + (n + 1) = i + 1 + n by exact Yh (lB 0 1790139547840 T1) (lB 0 0xa1c0c1a0cc0 T1)]; exact hit₂) (hs₁.trans hs₂);rw [hd,List.take_succ_cons] at this;exact this
theorem ZgC {t:Addr} {items:Array Value} {Q:List Value -> Yg -> Prop} (hh:A.handled = none) (ht:s.heap.IsList t items)
  (hQ:∀ h',Yit s.heap.objs.size s.heap h' -> Q items.toList { s with heap:=h' }):wpAny (model prog w) A (unpackItems (.ref t) items.size none) Q E s:=by
 have hlt:t ≠ s.heap.objs.size:=by obtain ⟨o,ho,_⟩:=ht; exact Y2 (Yo ho)
 have hT:s.TypeIs (.ref t) "list":=by obtain ⟨o,ho,hc,_⟩:=ht; exact ⟨o,ho,hc⟩
 unfold unpackItems;refine Yc ?_
 ·unfold notIterableAtAll
  refine Yc (wpAny_specialOf hT F.slot_list_iter.lookup ?_);refine Ym ?_;simp only [Yah,if_false];refine Yc (Yau (Yce ht ?_));have htp:(s.heap.push { cls:=.type "list_iterator",data:=.fields #[.ref t,.int 0 0] }).IsList t items:=ht.at fun o e=>Yf _ e;refine Yc (Yau (Zi7 hlt items.size 0 _ _ ⟨_,Yr _ rfl,rfl,rfl⟩ htp (lA 0 3776 T1) fun h₁ hit₁ hs₁=>?_));have hall:List.take items.size (List.drop 0 items.toList) = items.toList:=by
   rw [Yfv]; exact Ybg (by simp)
  rw [hall];rw [if_neg (by simp)];have ht₁:h₁.IsList t items:=htp.extBut hs₁.extBut hlt;refine Yc (Yau (Yg9 hh hit₁ ht₁ (by simp) fun h₂ he₂=>?_));simp only [Option.isSome_none,Yah,if_false];refine Ym (hQ h₂ fun b o hb e=>he₂ b o hb (hs₁.extBut b o hb (Yf _ e)))
theorem Zgq {env:Env} {elts:List Expr} {x1} {pos:Pos} {t:Addr} {items:Array Value} {Q:Unit -> Yg -> Prop} (hh:A.handled = none) (ht:s.heap.IsList t items)
  (hn:(Ybf elts env).length = items.size) (hstar:(Ybf elts env).findIdx? (·.1) = none)
  (h:∀ h',Yit s.heap.objs.size s.heap h' -> wpAny (model prog w) A (assignInOrder ((Ybf elts env).map (·.2)) items.toList) Q E { s with heap:=h' }):
  wpAny (model prog w) A (Yfi (.Tuple elts x1 pos) env (.ref t)) Q E s:=by
 rw [assign_Tuple];refine Yc (Yd8 ?_);unfold unpack;rw [hn,hstar];exact Yc (Yau (ZgC hh ht h))
end
section
variable {X:Cx} {e:Expr} {es:List Expr} {pos:Pos} {f:E3}
def ZuP (K:Ya) (n:Nat) (t:TGs):TG:=fun v σ H Q=>∃ a xs,v = .ref a /\ SqL K H a xs /\ xs.length = n /\ t xs σ H Q
theorem Zrs {k:Nat} {t:TGs} {n:Nat} (hc:X.calm = true) (h:PGs X es t)
  (hn:(Ybf es X.env).length = n:=by rfl) (hst:(Ybf es X.env).findIdx? (·.1) = none:=by rfl):PG X (.Tuple es k pos) (ZuP X.K n t):=by
 intro pins s σ H v u Q I r hw;obtain ⟨a,xs,e1,hq,hl,hw⟩:=hw;subst e1;cases r;obtain ⟨its,rv,ht,hz⟩:=I.list hq;refine Zgq (I.ok.hd hc) ht.isList (by simp [hn,← hl,rv.length]) hst fun h' hx=>?_;have I1:Inv X pins σ H { s with heap:=h' }:=I.kept (t':=s.toks) fun b o e=>hx b o (Y2 (Yo e)) e;exact h pins _ σ H xs _ Q I1 (by simpa using rv) hw
theorem ZkY:∀ (is:List Nat) (ds:List D) (env env':Zaq),bindAll is ds env = some env' -> ds.length = is.length:=by
 intro is
 induction is with
 | nil=>intro ds env env' h; cases ds with | nil=>rfl | cons d ds=>cases h
 | cons i is ih=>intro ds env env' h; cases ds with | nil=>cases h | cons d ds=>simp [ih ds _ _ h]
theorem Zqn {is:List Nat} {k:Nat} {tpos:Pos} (hc:X.calm = true) (he:C3 X e f) (h:CGs X es is)
  (hs:Yiw [.Tuple es k tpos] e pos.line X.env = pure false:=by rfl) (hw:Yix [.Tuple es k tpos] e X.env = pure none:=by rfl)
  (h1:(Ybf [.Tuple es k tpos] X.env).map (·.2) = [Yfi (.Tuple es k tpos) X.env]:=by rfl)
  (hn:(Ybf es X.env).length = is.length:=by rfl) (hst:(Ybf es X.env).findIdx? (·.1) = none:=by rfl):CS X (.Assign [.Tuple es k tpos] e pos) (Zlc f is):=
 (ZpB he (Zrs (n:=is.length) hc h hn hst) hs hw h1).imp fun D σ H zz1=>by
 obtain ⟨ι,M,env,S,E,hh⟩:=zz1;refine ⟨ι,M,env,S,E,?_⟩;unfold Zlc at hh;cases q:f env M with
 | exc x M1=>rw [q] at hh; exact hh.elim
 | bad=>rw [q] at hh; exact hh.elim
 | ok d M1=>
  rw [q] at hh;cases d with
  | ref n=>
   simp only at hh;cases hm:M1[n]? with
   | none=>simp only [hm] at hh; exact hh.elim
   | some o=>
    cases o with
    | dct _=>simp only [hm] at hh; exact hh.elim
    | fdct _=>simp only [hm] at hh; exact hh.elim
    | ins _ _=>simp only [hm] at hh; exact hh.elim
    | lst ds=>
     simp only [hm] at hh;cases qb:bindAll is ds env with
     | none=>simp only [qb] at hh; exact hh.elim
     | some env1=>
      simp only [qb] at hh;intro v H1 ι1 x1 S1 r1;obtain ⟨a,ha,rfl⟩:=r1.ref_inv;obtain ⟨vs,hv,rv⟩:=S1.obj n _ a hm ha;exact ⟨a,vs,rfl,SqL.of hv,by rw [rv.length]; exact ZkY _ _ _ _ qb,ι1,M1,env,ds,env1,S1,E.mono x1,rv,qb,fun σ' E'=>hh σ' H1 ι1 x1 S1 E'⟩
  | _=>exact hh.elim
end
set_option maxRecDepth 100000
noncomputable def Itz (S T:Hp -> List V -> Prop):It:=⟨fun i H=>∃ xs ys x y,S H xs /\ T H ys /\ xs[i]? = some x /\ ys[i]? = some y,fun i H x H'=>∃ A a b,x = .ref A /\ H A = none /\ H' = upd H A (.tup [a,b]) /\ (∀ xs,S H xs -> xs[i]? = some a) /\ ∀ ys,T H ys -> ys[i]? = some b,
 fun i H=>∃ xs ys,S H xs /\ T H ys /\ (xs.length <= i \/ ys.length <= i)⟩
theorem ZoB {X:Cx} {pins:List (Addr × Obj)} {σ:St} {H:Hp} {s:Yg} {h' h'':Heap} {fp:List Addr} {x y:V} {u v:Value} {tk':Nat} (I:Inv X pins σ H s) (hf:∀ b ∈ fp,ZeK X pins H b) (hlt:∀ b ∈ fp,b < s.heap.objs.size) (ru:RelV x u) (rv:RelV y v)
  (hT:h'.get? s.heap.objs.size = some { cls:=.type "tuple",data:=.seq #[u,v] }) (hk:∀ b o,b ∉ fp -> s.heap.get? b = some o -> h'.get? b = some o) (hs:∀ b o,b ∉ fp -> h'.get? b = some o -> h''.get? b = some o):
  Inv X pins σ (upd H s.heap.objs.size (.tup [x,y])) { s with heap:=h'',toks:=tk' } /\ ∀ b ∈ fp,upd H s.heap.objs.size (.tup [x,y]) b = none:=by
 have hn:∀ b ∈ fp,upd H s.heap.objs.size (.tup [x,y]) b = none:=fun b hb=>by
  rw [Zaj (Y2 (hlt b hb))]; exact (hf b hb).1
 refine ⟨?_,hn⟩;have I1:Inv X pins σ (upd H s.heap.objs.size (.tup [x,y])) { s with heap:=s.heap.push { cls:=.type "tuple",data:=.seq ([u,v]:List Value).toArray },toks:=s.toks }:=
  I.laid (t':=s.toks) (fun b o e=>Yf _ e) (Yi _) (show ZaX X.prog X.w _ _ _ (.tup [x,y]) from ⟨by rw [Ybe]; show 2 <= _; decide,[u,v],.cons ru (.cons rv .nil),Zdt.new _ _⟩)
 have nT:s.heap.objs.size ∉ fp:=fun z=>Yck _ (hlt _ z);have I3:=I1.turnedL (t':=tk') (h':=h'') (fp:=fp) (fun b o hb q=>by
  rcases Yh1 q with ⟨rfl,rfl⟩ | q
  ·exact hs _ _ nT hT
  ·exact hs _ _ hb (hk b o hb q)) fun b hb=>⟨hn b hb,(hf b hb).2⟩
 exact I3
section
variable {X:Cx} {es:List Expr} {k:Nat} {a b:Expr} {p pos tpos:Pos} {f g:E3}
theorem ZmX:Yap "zip" = some (.type "zip"):=by decide +kernel
end
open PySem PySem.W PyProof.Rows
section
variable {M:Model} {A:Yar} {E:Value -> Yg -> Prop} {G:Yg -> Prop}
def TT (M:Model) (A:Yar) (E:Value -> Yg -> Prop) (G:Yg -> Prop) {α:Type} (m:StateT SortSt Sem α) (Q:α -> SortSt -> Prop) (st:SortSt):Prop:=∀ s,G s -> kasC M A E m (fun a st' s'=>Q a st' /\ G s') st s
end
section
variable {prog:Yaf} {w:World} {A:Yar} {E:Value -> Yg -> Prop} {G:Yg -> Prop} {κ:Yje} {it:Array Keyed} {lt:Nat -> Nat -> Bool} {N:Nat}
section
variable {left:Bool} {key:Nat} {l:List Nat} {base n:Nat} {st:SortSt} {B:Nat -> Bool}
end
end
end L3
namespace L3
open PySem PySem.Spec PyProof.Rows L2
noncomputable def Zsw (K:Ya) (d:List Str) (v:Value):Bool:=match v with
 | .ref a=>(match K.lookup a with
  | some o=>o.cls == .type "tuple" && o.dict.isNone && (match o.data with | .seq vs _=>decide (vs.size <= 1000) && KTD.strsLook vs.toList d | _=>false)
  | none=>false)
 | _=>false
noncomputable def Zqm (t:Zij):List (Str × List Str):=t.map fun p=>(⟨p.1.toArray⟩,p.2.map fun y=>⟨y.toArray⟩)
def ZtZ (K:Ya) (d:List Str) (v:Value):Prop:=∃ a,v = .ref a /\ ∀ H,SqT K H a (d.map V.str)
theorem Zno:∀ {vs:List Value} {d:List Str},StrsAre vs d -> Vals (d.map V.str) vs:=by
 intro vs d h
 induction h with
 | nil=>exact .nil
 | cons _ _ _ ih=>exact .cons ⟨_,rfl⟩ ih
theorem ZpJ {K:Ya} {d:List Str} {v:Value} (h:Zsw K d v = true):ZtZ K d v:=by
 unfold Zsw at h;split at h
 ·rename_i a
  refine ⟨a,rfl,fun H=>?_⟩;split at h
  ·rename_i o ho
   simp only [Yu] at h;obtain ⟨⟨h1,h2⟩,h3⟩:=h;split at h3
   ·rename_i vs n hd
    simp only [Yu,decide_eq_true_eq] at h3;exact .inr ⟨o,vs,n,ho,⟨beq_iff_eq.mp h1,by simpa using h2⟩,hd,Yj h3.1 (by rw [Ybe]; decide),Zno (KTD.strs_of_look h3.2)⟩
   ·cases h3
  ·cases h
 ·cases h
abbrev Zkm (K:Ya) (a:Addr) (t:Zij):Prop:=KTD.tabLook (Zsw K) (fun b=>K.lookup b) a (Zqm t) = true
theorem Zkm.at {K:Ya} {a:Addr} {t:Zij} {h:Heap} (T:Zkm K a t) (X:K.In h):Yhp (ZtZ K) h a (Zqm t):=KTD.tab_of_look (fun _ _ q=>ZpJ q) X T
theorem Zfh (x:List Nat):∀ t:Zij,Yc8 (⟨x.toArray⟩:Str) (Zqm t) = (tabAt x t).map fun ds=>ds.map fun y=>(⟨y.toArray⟩:Str)
 | []=>rfl
 | (k,v) :: r=>by
  show (if decide ((⟨x.toArray⟩:Str) = ⟨k.toArray⟩) = true then some (v.map fun y=>(⟨y.toArray⟩:Str)) else Yc8 ⟨x.toArray⟩ (Zqm r)) = (if x = k then some v else tabAt x r).map _;by_cases e:x = k
  ·subst e; rw [if_pos rfl,if_pos (decide_eq_true rfl)]; rfl
  ·rw [if_neg e,if_neg (by simp [e]),Zfh x r]
theorem ZhL {K:Ya} {H:Hp} {ι:List Addr}:∀ ds:List (List Nat),Zz K H ι (ds.map D.str) ((ds.map fun y=>(⟨y.toArray⟩:Str)).map V.str)
 | []=>Zz.nil
 | _ :: ds=>Zz.cons Rep.str (ZhL ds)
section
variable {prog:Yaf} {w:World} {A:Yar} {E:Value -> Yg -> Prop} {s:Yg} {a:Addr} {K:Ya} {t:Zij} {x:List Nat} {tk:Tok}
theorem Zex {R:List Str -> Value -> Prop} {T:List (Str × List Str)} (h:Yhp R s.heap a T):s.TypeIs (.ref a) "dict":=let ⟨_,o,_,_,ho,hc,_⟩:=h; ⟨o,ho,hc.1⟩
theorem Zkj {R:List Str -> Value -> Prop} {T:List (Str × List Str)} {k:Str} {Q:Option Value -> Yg -> Prop} (h:Yhp R s.heap a T)
  (hs:∀ d v,Yc8 k T = some d -> R d v -> Q (some v) { s with toks:=s.toks + 1 }) (hn:Yc8 k T = none -> Q none { s with toks:=s.toks + 1 }):wpAny (model prog w) A (dictGet a (.str k tk)) Q E s:=by
 obtain ⟨_,o,es,ep,ho,hc,hd,hr⟩:=h;unfold dictGet
 try with_reducible refine Yau ?_
 refine Yc (wpAny_pyHash_str (Yc (KTD.kt_dictFind_strs (s:={ s with toks:=s.toks + 1 }) ho hd (by obtain ⟨es⟩:=es; simpa using hr.exact) ?_)));have key:Q (findBy (fun q v=>v.isStr q) es k) { s with toks:=s.toks + 1 }:=by
  rw [show findBy (fun q v=>v.isStr q) es k = (es.toList.find? fun z=>z.key.isStr k).map (·.val) by obtain ⟨es⟩:=es; simp [findBy]];cases e:Yc8 k T with
  | none=>rw [hr.find_none e]; exact hn e
  | some d=>
   obtain ⟨v,hv,r⟩:=hr.find_some e;rw [hv]; exact hs d v e r
 rw [findBy_of_findIdx?] at key;cases e:es.findIdx? fun z=>z.key.isStr k with
 | none=>rw [e] at key; exact Ym key
 | some j=>rw [e] at key; exact Yc (wpAny_dictEntries (s:={ s with toks:=s.toks + 1 }) ho hd (Ym key))
theorem Znu {R:List Str -> Value -> Prop} {T:List (Str × List Str)} {k:Str}:
  MeetsIn prog w (Builtin.«dict.get» ⟨[.ref a,.str k tk],[]⟩) fun _ Z s=>Yhp R s.heap a T /\ (∀ d v,Yc8 k T = some d -> R d v -> Z (.ok (.ret v)) { s with toks:=s.toks + 1 }) /\ (Yc8 k T = none -> Z (.ok (.ret .none)) { s with toks:=s.toks + 1 }):=
 .of_wp fun A Z s zz=>by
  obtain ⟨h,h1,h2⟩:=zz;show wpAny _ _ (dictGet a (.str k tk) >>= fun o=>_) _ _ s;refine Yc (Zkj h (fun d v e r=>Ym ⟨v,rfl,h1 d v e r⟩) fun e=>?_);show wpAny _ _ (Builtin.Dict.missed a (.str k tk) >>= fun o=>_) _ _ _;exact Yc (wpAny_missed_other h.1 (Ym ⟨Value.none,rfl,h2 e⟩))
theorem Zp6 {R:List Str -> Value -> Prop} {T:List (Str × List Str)} {k:Str} {Q:Value -> Yg -> Prop} (h:Yhp R s.heap a T)
  (h1:∀ d v,Yc8 k T = some d -> R d v -> Q v { s with toks:=s.toks + 1 }) (h2:Yc8 k T = none -> Q .none { s with toks:=s.toks + 1 }):wpAny (model prog w) A (call (.builtin "dict.get") [.ref a,.str k tk]) Q E s:=
 Yjc Ycm (Zex h) Yei (PySem.F.args_dict_get_2 _ _) (Znu (R:=R) (T:=T)) ⟨h,h1,h2⟩
theorem ZoN {R:List Str -> Value -> Prop} {T:List (Str × List Str)} {k:Str} {d:List Str} {Q:Value -> Yg -> Prop} (h:Yhp R s.heap a T) (e:Yc8 k T = some d)
  (h1:∀ v,R d v -> Q v { s with toks:=s.toks + 1 }):wpAny (model prog w) A (Ye5 (.ref a) (.str k tk)) Q E s:=by
 unfold Ye5
 try with_reducible refine Yau ?_
 refine Yc (Yf5 (Zex h) (by decide) ?_);refine Yc (Ya0 (name:=Ybv "__getitem__") (Zex h) Yfw
  (Ybw Yfw (Zex h) PySem.F.entry_dict_getitem ?_ (PySem.F.args_dict_getitem_2 _ _)))
 show wpAny _ _ (dictGet a (.str k tk) >>= fun o=>_) _ _ s;refine Yc (Zkj h (fun d' v e' r=>?_) fun e'=>by rw [e] at e'; cases e');rw [e] at e'; cases e';exact Ym ⟨v,rfl,Ym (h1 v r)⟩
end
section
variable {X:Cx} {e:Expr} {x:Str} {a:Addr} {t:Zij} {npos apos cpos pos:Pos} {g:E3}
theorem Zsp {te:TE} (hm:X.mg x = some (.ref a)) (ht:Zkm X.K a t) (he:PE X e te) (m:M1 X (.Name x npos) "get" apos e cpos) (hg:Gl X x) (hd:(x == ("__debug__":Str)) = false):
  PE X (.Call (.Attribute (.Name x npos) "get" apos) [e] [] cpos) (fun σ H Q=>te σ H fun y H1=>∃ k,y = .str ⟨k.toArray⟩ /\ match tabAt k t with
   | some ds=>∀ b,SqT X.K H1 b ((ds.map fun z=>(⟨z.toArray⟩:Str)).map V.str) -> Q (.ref b) H1
   | none=>Q .non H1):=by
 intro pins s σ H Q I h;refine wpAny_Call_method m.base m.few m.line Ygf Ycm Yhf (thn (ZjV (v:=.ref a) (u:=.ref a) hg hm rfl hd pins s σ H (fun v H'=>v = .ref a /\ H' = H) I ⟨rfl,rfl⟩) fun u s1 zz1=>?_);obtain ⟨v,H1,I1,r1,rfl,rfl⟩:=zz1;obtain rfl:u = Value.ref a:=r1;have T1:=ht.at I1.kIn;refine ⟨Zex T1,fun b q=>?_,?_⟩
 ·cases q
  obtain ⟨_,ob,_,_,h1,h2,_⟩:=T1;exact ⟨ob,h1,h2.2.1⟩
 rw [m.trees];refine Yeh rfl (Yew (Yea (thn (he pins s1 σ H1 _ I1 h) fun iv s2 zz2=>Yf3 ?_)));obtain ⟨y,H2,I2,ry,k,rfl,q⟩:=zz2;obtain ⟨tk,rfl⟩:=ry;refine Zp6 (ht.at I2.kIn) (fun d v ed rv=>?_) fun ed=>?_
 ·rw [Zfh] at ed
  cases et:tabAt k t with
  | none=>rw [et] at ed; cases ed
  | some ds=>
   rw [et] at ed q;cases ed;obtain ⟨b,rfl,sq⟩:=rv;exact ⟨.ref b,H2,I2.tok _,rfl,q b (sq _)⟩
 ·rw [Zfh] at ed
  cases et:tabAt k t with
  | some ds=>rw [et] at ed; cases ed
  | none=>rw [et] at q; exact ⟨.non,H2,I2.tok _,rfl,q⟩
theorem ZsF (hm:X.mg x = some (.ref a)) (ht:Zkm X.K a t) (he:C3 X e g) (m:M1 X (.Name x npos) "get" apos e cpos:=by exact ⟨rfl,rfl,rfl,rfl⟩) (hg:Gl X x:=by rfl) (hd:(x == ("__debug__":Str)) = false:=by decide):
  C3 X (.Call (.Attribute (.Name x npos) "get" apos) [e] [] cpos) (e1 (ZgV t) g):=(Zsp hm ht he m hg hd).imp fun σ H Q zz1=>by
 obtain ⟨ι,M,env,S,E,h⟩:=zz1;obtain ⟨d,M1,e1,h⟩:=Zac.bind h;refine ⟨ι,M,env,S,E,?_⟩;rw [e1];intro y H1 ι1 x1 S1 r1;cases d with
 | str k=>
  cases r1.str_inv
  refine ⟨k,rfl,?_⟩;simp only [ZgV] at h;cases et:tabAt k t with
  | none=>rw [et] at h; exact h _ H1 ι1 x1 S1 Rep.non
  | some ds=>rw [et] at h; exact fun b sq=>h _ H1 ι1 x1 S1 (Rep.tup sq (ZhL ds))
 | _=>exact h.elim
theorem ZqO {te:TE} (hm:X.mg x = some (.ref a)) (ht:Zkm X.K a t) (he:PE X e te) (hs:Znz e) (hg:Gl X x) (hd:(x == ("__debug__":Str)) = false):
  PE X (.Subscript (.Name x npos) e pos) (fun σ H Q=>te σ H fun y H1=>∃ k ds,y = .str ⟨k.toArray⟩ /\ tabAt k t = some ds /\ ∀ b,SqT X.K H1 b ((ds.map fun z=>(⟨z.toArray⟩:Str)).map V.str) -> Q (.ref b) H1):=by
 intro pins s σ H Q I h;refine ZmI PySem.F.slot_dict_getitem.lookup hs (thn (ZjV (v:=.ref a) (u:=.ref a) hg hm rfl hd pins s σ H (fun v H'=>v = .ref a /\ H' = H) I ⟨rfl,rfl⟩) fun u s1 zz1=>?_);obtain ⟨v,H1,I1,r1,rfl,rfl⟩:=zz1;obtain rfl:u = Value.ref a:=r1;refine thn (he pins s1 σ H1 _ I1 h) fun iv s2 zz2=>?_;obtain ⟨y,H2,I2,ry,k,ds,rfl,et,q⟩:=zz2;obtain ⟨tk,rfl⟩:=ry;have T2:=ht.at I2.kIn;refine ⟨Zex T2,ZoN T2 (d:=ds.map fun z=>(⟨z.toArray⟩:Str)) (by rw [Zfh,et]; rfl) fun v rv=>?_⟩;obtain ⟨b,rfl,sq⟩:=rv;exact ⟨.ref b,H2,I2.tok _,rfl,q b (sq _)⟩
theorem Zso (hm:X.mg x = some (.ref a)) (ht:Zkm X.K a t) (he:C3 X e g) (hs:Znz e:=by exact fun _ _=>rfl) (hg:Gl X x:=by rfl) (hd:(x == ("__debug__":Str)) = false:=by decide):
  C3 X (.Subscript (.Name x npos) e pos) (e1 (Ze3 t) g):=(ZqO hm ht he hs hg hd).imp fun σ H Q zz1=>by
 obtain ⟨ι,M,env,S,E,h⟩:=zz1;obtain ⟨d,M1,e1,h⟩:=Zac.bind h;refine ⟨ι,M,env,S,E,?_⟩;rw [e1];intro y H1 ι1 x1 S1 r1;cases d with
 | str k=>
  cases r1.str_inv
  simp only [Ze3] at h;cases et:tabAt k t with
  | none=>rw [et] at h; exact h.elim
  | some ds=>rw [et] at h; exact ⟨k,ds,rfl,et,fun b sq=>h _ H1 ι1 x1 S1 (Rep.tup sq (ZhL ds))⟩
 | _=>exact h.elim
end
open AutoSeq1 (wpAny_loadPart')
set_option maxRecDepth 100000
theorem ZkS {prog:Yaf} {w:World} {A:Yar} {it:Addr} {fp:List Addr} {n:Nat} {P:Nat -> Value -> Prop} {St:Nat -> Heap -> Prop} (D:Draws prog w A it fp n P St):
  Draws prog w A it fp (n + 1) (fun i v=>P (i - 1) v) (fun i h=>∃ j,i = j + 1 /\ St j h) where
 live:=fun i h ⟨j,_,st⟩=>D.live j h st
 frame:=fun i h h' ⟨j,e,st⟩ hk=>⟨j,e,D.frame j h h' st hk⟩
 item:=fun i s Q E hi st hQ=>by
  obtain ⟨j,rfl,st⟩:=st;exact D.item j s Q E (Nat.lt_of_succ_lt_succ hi) st fun x h' tk hp st' hs=>hQ x h' tk hp ⟨j + 1,rfl,st'⟩ hs
 done:=fun s Q E st hE=>by
  obtain ⟨j,e,st⟩:=st;cases Yjd e;exact D.done s Q E st hE
theorem ZkF (l:Addr) (items:Array Value) (n:Nat) (dct:Option Addr) (sl:Array (Option Value)) (t:Tok):
  Meets (Builtin.«enumerate.__new__» ⟨[.type "enumerate",.ref l],[("start",.int 1 t)]⟩) (fun _ R s=>s.heap.get? l = some { cls:=.type "list",dict:=dct,data:=.seq items n,slots:=sl } /\
   R (.ok (.ret (.ref (s.heap.push { cls:=.type "list_iterator",data:=.fields #[.ref l,.int 0 0] }).objs.size)))
    { s with heap:=(s.heap.push { cls:=.type "list_iterator",data:=.fields #[.ref l,.int 0 0] }).push { cls:=.type "enumerate",data:=.fields #[.none,.bool false,.ref s.heap.objs.size,Yh6 1,.none,.none] } }):=
 .of_wp fun prog w A R s h=>by
  obtain ⟨hp,g,d,tk,os⟩:=s; obtain ⟨hl,h⟩:=h;have hsub:=sub_enumerate;have hL:Heap.IsList (Yjm ⟨hp,g,d,tk,os⟩) l items:=⟨_,hl,rfl,n,rfl⟩
  wp_walk using Yc0 hl
  refine wpAny_stack_any fun st=>Ym ?_;split
  ·rename_i c _ _ _ _ _
   cases (c == Value.type "enumerate")
   ·wp_walk using Yc0 hl,Yce hL
    exact ⟨_,rfl,h⟩
   ·wp_walk using Yc0 hl,Yce hL
    exact ⟨_,rfl,h⟩
  ·wp_walk using Yc0 hl,Yce hL
   exact ⟨_,rfl,h⟩
theorem ZlT (a b:Value):checkTypeCall "enumerate" ⟨[a],[("start",b)]⟩ = pure ():=by kernel_rfl
theorem Zne (a b:Value):checkBuiltinCall "enumerate.__new__" ⟨[.type "enumerate",a],[("start",b)]⟩ = pure ():=by kernel_rfl
theorem Zlz (o a b:Value):argsOk "object.__init__" ⟨[o,a],[("start",b)]⟩:=by
 unfold argsOk; rw [signature?_of (id:="object.__init__") (n:=['_','_','t','i','n','i','_','_']) (o:=['t','c','e','j','b','o']) (by kernel_rfl) F.owner_object]; kernel_rfl
theorem Zko {self a b:Value}:Meets (Builtin.«object.__init__» ⟨[self,a],[("start",b)]⟩) (fun _ R s=>s.TypeIs self "enumerate" /\ R (.ok (.ret .none)) s):=by
 have hl:=F.called_enumerate.init.lookup; have hm:=F.called_enumerate.made;refine Meets.of_wp fun prog w A R s hs=>?_;obtain ⟨hT,hq⟩:=hs
 repeat (any_goals (first | assumption | wp_step))
 exact ⟨_,rfl,hq⟩
theorem ZlV {prog:Yaf} {w:World} {A:Yar} {E:Value -> Yg -> Prop} {s:Yg} {l:Addr} {items:Array Value} {t:Tok} {Q:Value -> Yg -> Prop} (hL:s.heap.IsList l items)
  (h:∀ h',IsEnum h' (s.heap.objs.size + 1) s.heap.objs.size 1 .none -> h'.IsListIter s.heap.objs.size l 0 -> (∀ b o,s.heap.get? b = some o -> h'.get? b = some o) -> Q (.ref (s.heap.objs.size + 1)) { s with heap:=h' }):
  wpAny (model prog w) A (call (.type "enumerate") [.ref l] [("start",.int 1 t)]) Q E s:=by
 obtain ⟨⟨c,dct,dt,sl⟩,hl,hc,n,hd⟩:=hL;replace hc:c = .type "list":=hc; replace hd:dt = .seq items n:=hd;subst hc hd;have ft:=F.called_enumerate;obtain ⟨c,tl,hmro⟩:=ft.mro;have hmade:=ft.made; have hsub:=ft.sub;have hct:=ZlT (.ref l) (.int 1 t); have hcn:=Zne (.ref l) (.int 1 t);refine wpAny_call (codeAny_of_tree (show wpAny _ _ (callAny (.type "enumerate") _) _ _ _ from ?_));refine Ym ⟨Code.quiet_builtin _ (by decide +kernel),Yho F.entry_type_call (?_)⟩;rw [Around.under_plain (weight_type_call_type _ _ _) (units_type_call_type _ _ _)];have h1:=ft.notType; have h2:=ft.canCreate
 repeat (any_goals (first | assumption | wp_step))
 have hz:(s.heap.push { cls:=.type "list_iterator",data:=.fields #[.ref l,.int 0 0] }).objs.size = s.heap.objs.size + 1:=Yda ..;have g0:=ZkF l items n dct sl t prog w A.in1 (wants (fun obj s₁=>s₁.TypeIs obj "enumerate" /\ Q obj s₁) E) s ⟨hl,by
  show _ /\ _;rw [hz];have he:IsEnum ((s.heap.push { cls:=.type "list_iterator",data:=.fields #[.ref l,.int 0 0] }).push { cls:=.type "enumerate",data:=.fields #[.none,.bool false,.ref s.heap.objs.size,Yh6 1,.none,.none] }) (s.heap.objs.size + 1) s.heap.objs.size 1 .none:=by
   have q:=Yr (s.heap.push { cls:=.type "list_iterator",data:=.fields #[.ref l,.int 0 0] }) (o:={ cls:=.type "enumerate",data:=.fields #[.none,.bool false,.ref s.heap.objs.size,Yh6 1,.none,.none] }) rfl;rw [hz] at q; exact q
  exact ⟨⟨_,he,rfl⟩,h _ he ⟨_,Yf _ (Yr _ rfl),rfl,rfl⟩ fun b o x=>Yf _ (Yf _ x)⟩⟩
 refine Yfl (Yh3 ft.plain F.entry_enumerate_new (wpAny_of_eq hcn g0)) fun r s₁ hr=>?_;cases r with
 | error e=>exact hr
 | ok fl=>
  cases fl with
  | ret obj=>
   obtain ⟨hT,hq⟩:=hr;have hli:=ft.init.lookup; have hbi:=ft.init.bind obj
   repeat (any_goals (first | assumption | wp_step))
   refine Yfl (Yh3 ft.init.plain F.entry_object_init (ft.init.check _ _ _ _ _ _ _ _ hT (Zlz obj _ _) (Zko prog w A.in1 (wants (fun r s₂=>r = .none /\ Q obj s₂) E) s₁ ⟨hT,rfl,hq⟩))) fun r₂ s₂ hr₂=>?_;cases r₂ with
   | error e=>exact hr₂
   | ok fl₂=>
    cases fl₂ with
    | ret r=>
     obtain ⟨rfl,hq⟩:=hr₂
     repeat (any_goals (first | assumption | wp_step))
    | _=>exact hr₂.elim
  | _=>exact hr.elim
noncomputable def Zuh (S:Hp -> List V -> Prop):It:=⟨fun i H=>∃ xs x,S H xs /\ xs[i]? = some x,fun i H x H'=>∃ A a,x = .ref A /\ H A = none /\ H' = upd H A (.tup [.int ((i + 1:Nat):Int),a]) /\ ∀ xs,S H xs -> xs[i]? = some a,
 fun i H=>∃ xs,S H xs /\ xs.length <= i⟩
theorem Zlu {P:Yaf} {w:World} {K:Ya} {es:List Expr} {k:Nat} {pos:Pos} (a e it:Addr) (hne:e ≠ it):
  Turn P w K (.Tuple es k pos) (Zuh fun H xs=>SqL K H a xs) [e,it] e (fun i h=>(∃ old,IsEnum h e it ((i + 1:Nat):Int) old) /\ h.IsListIter it a i) where
 mem:=by simp
 obj:=fun i h st b hb=>by
  obtain ⟨⟨old,he⟩,o,ho,c,d⟩:=st;simp only [Y3,Ybi,or_false] at hb;rcases hb with rfl | rfl
  ·exact ⟨_,he,fun v z=>by cases z⟩
  ·exact ⟨o,ho,fun v z=>by rw [d] at z; cases z⟩
 keep:=fun i h h' st k=>by
  obtain ⟨⟨old,he⟩,hit⟩:=st;exact ⟨⟨old,k e (by simp) _ he⟩,hit.at fun o q=>k it (by simp) o q⟩
 item:=by
  intro X hP hw hK hc i pins s σ H E I hf st hg;subst hP hw hK;obtain ⟨xs,x,hq,hx⟩:=hg;obtain ⟨its,rv,p,hz⟩:=I.list hq;obtain ⟨u,hu,ru⟩:=rv.get hx;obtain ⟨⟨old,he⟩,hit⟩:=st;have hel:=Yo he;have hil:it < s.heap.objs.size:=by obtain ⟨o,ho,_⟩:=id hit; exact Yo ho
  have hae:e ≠ a:=by
   rintro rfl;obtain ⟨o,ho,hc,_⟩:=p.isList;rw [he] at ho; cases ho;exact absurd hc (by simp)
  have hai:a ≠ it:=by
   rintro rfl;obtain ⟨o,ho,hc,_⟩:=p.isList;obtain ⟨o',ho',hc',_⟩:=hit;rw [ho'] at ho; cases ho;rw [hc'] at hc;exact absurd hc (by simp)
  have D:=ZkS (Draws.list (prog:=X.prog) (w:=X.w) (A:=X.A.in1) (I.ok.hd hc) it a hai its.toArray);refine wpAny_pyNext_enum_itemD (i:=i + 1) D he ⟨i,rfl,hit,p.isList⟩ (by simpa using (Yb.mp hu).1) hne (by simp [hne,hae]) fun y h' tk hy ho hst hT hsz hk=>?_;have ey:y = u:=by
   have q:its.toArray[i]? = some u:=by simpa using hu
   have hy':its.toArray[i]? = some y:=hy;rw [q] at hy'; cases hy'; rfl
  subst ey;refine ⟨_,rfl,wpAny_letOwnedTupleGo_enum (s:={ s with heap:=h',toks:=tk + 1 }) ho fun h'' he'' hs''=>?_⟩;obtain ⟨I2,n2⟩:=ZnO (i:=i + 1) (x:=x) (tk':=tk + 1) I hf hel hil ru hT hk hs'';obtain ⟨j,ej,hst,_⟩:=hst;cases Yjd ej;exact ⟨.ref s.heap.objs.size,_,I2,rfl,⟨_,x,rfl,I.hok.fresh (Yi _),rfl,fun ys hy=>by rw [I.list_inj hy hq]; exact hx⟩,⟨⟨_,by simpa using he''⟩,hst.extBut hs''.extBut (Ya4 hne)⟩,n2⟩
 done:=by
  intro X hP hw hK hc i pins s σ H E I hf st hg;subst hP hw hK;obtain ⟨xs,hq,hx⟩:=hg;obtain ⟨its,rv,p,hz⟩:=I.list hq;obtain ⟨⟨old,he⟩,hit⟩:=st;have hl:=rv.length;have hT:s.TypeIs (.ref e) "enumerate":=⟨_,he,rfl⟩;unfold Yf0;refine Yc (Yi1 (Ya0 (name:=Ybv "__next__") hT Yhq
   (Ybw Yhq hT F.entry_enumerate_next (show wpAny _ _ (field (.ref e) 2 >>= fun o=>_) _ _ _ from ?_) (F.args_enumerate_next_1 _))))
  refine Yc (Ybj he rfl (x:=.ref it) rfl (Yc ?_));refine Yhr (I.ok.hd hc) hit p.isList (by simp; exact lC 2 2268279672881 T1 hl hx) fun h' x he' hx'=>?_;obtain ⟨o,ho,hc⟩:=hx';refine Yc (wpAny_isInstance (T:="StopIteration") (b:=true) ⟨o,ho,hc⟩ isSubtype_stop (Ym ?_));exact ⟨rfl,I.turnedL (t':=s.toks) (fun b o hb q=>he' b o (fun z=>hb (by simp [z])) q) hf⟩
 self:=fun _ _ _ _ _ st h=>by
  obtain ⟨⟨old,he⟩,_⟩:=st;exact wpAny_pyIter_enum he h
section
variable {X:Cx} {es:List Expr} {k:Nat} {a:Expr} {p pos tpos kp cp:Pos} {f:E3}
def Zqx (K:Ya) (ta:TA):TI:=fun σ H R=>ta σ H fun vs H1=>∃ b,vs = [.ref b] /\ ∃ xs,SqL K H1 b xs /\ R (Zuh fun H xs=>SqL K H b xs) H1
theorem Zjf {M:Model} {A:Yar} {E:Value -> Yg -> Prop} {s:Yg} {env:Env} {T:String} {e:Expr} {kws:List Keyword} {Q:Value -> Yg -> Prop}
  (h:wpAny M A (spliced (Ycl pos (Yx [e] env))) (fun vs s₁=>wpAny M A (evalAll ((Ydk pos (Ybz kws env)).map (·.2)))
   (fun kvs s₂=>wpAny M A (call (.type T) vs (((Ydk pos (Ybz kws env)).filterMap (·.1)).zip kvs)) Q E s₂) E s₁) E s)
  (he:Ycl pos (Yx [e] env) = [(false,eval e env)])
  (hall:(Ydk pos (Ybz kws env)).all (·.1.isSome) = true) (hkw:(Ydk pos (Ybz kws env)).any (·.1.isNone) = false):
  wpAny M A (callWith pos (.type T) [] (Ycl pos (Yx [e] env)) (Ydk pos (Ybz kws env))) Q E s:=by
 rw [he] at h ⊢;unfold callWith;refine Yc (Yau (Ybt (PyProof.Rows.evalArgs_kwB (Q:=fun a s₁=>wpAny M A (call (.type T) a.pos a.kw) Q E s₁) hall h) (fun a s₁ h₁=>Yc (Yd8 ?_)) fun _ _ x=>x));simp only [hkw,Ybd,List.any_nil,Bool.or_false];refine Yc (Ym (Yc ?_));exact Ybt h₁ (fun r s₂ hr=>Yc (Yau (wpAny_point (Ym hr)))) fun _ _ x=>x
theorem Zov {ta:TA} {j} (hg:Gl X "enumerate") (hm:X.mg "enumerate" = none) (ha:PA X [a] ta) (he:Ycl pos (Yx [a] X.env) = [(false,eval a X.env)]):
  PI X (.Tuple es k tpos) (.Call (.Name "enumerate" p) [a] [⟨some "start",.Constant (.int 1) j cp,kp⟩] pos) (Zqx X.K ta):=by
 intro pins s σ H R I h;refine Yeb (ZgL I hg hm boot_enumerate (Zjf (thn (ha pos pins s σ H _ I h) fun us s1 zz1=>?_) he rfl rfl));obtain ⟨vs,H1,I1,r1,q1⟩:=zz1;refine thn ((ZqE (nm:=some "start") (kpos:=kp) (ZoP (j:=j) (pos:=cp) (i:=1)) Zsa) pos pins s1 σ H1 (fun zs H'=>zs = [.int 1] /\ H' = H1) I1 ⟨rfl,rfl⟩) fun ws s2 zz2=>?_;obtain ⟨zs,H2,I2,rz,rfl,rfl⟩:=zz2;obtain ⟨b,e,xs,hq,q⟩:=q1;subst e;cases r1 with
 | cons r rr=>
  cases rr
  cases r
  cases rz with
  | cons r' rr=>
   cases rr
   obtain ⟨t,rfl⟩:=r';have fp:∀ c ∈ [s2.heap.objs.size + 1,s2.heap.objs.size],ZeK X pins H2 c:=fun c hc=>by
    have hc':s2.heap.objs.size <= c:=by
     simp only [Y3,Ybi,or_false] at hc;rcases hc with rfl | rfl <;> omega
    exact I2.fpOk hc' (I2.hok.fresh hc')
   obtain ⟨its,rv,pl,hz⟩:=I2.list hq;refine ZlV (t:=t) pl.isList fun h' hE hI hk=>?_;have I3:Inv X pins σ H2 { s2 with heap:=h' }:=I2.kept (t':=s2.toks) hk;exact wpAny_pyIter_enum (s:={ s2 with heap:=h' }) hE ⟨_,[s2.heap.objs.size + 1,s2.heap.objs.size],_,_,H2,rfl,I3,Zlu b _ _ (Nat.succ_ne_self _),⟨⟨_,hE⟩,hI⟩,fp,q⟩
theorem Zow {j} (hm:X.mg "enumerate" = none) (h:C3 X a f) (hg:Gl X "enumerate":=by rfl) (he:Ycl pos (Yx [a] X.env) = [(false,eval a X.env)]:=by rfl) (hs':Yx (a :: []) X.env = (false,eval a X.env) :: Yx [] X.env:=by rfl):
  CIL X (.Tuple es k tpos) (.Call (.Name "enumerate" p) [a] [⟨some "start",.Constant (.int 1) j cp,kp⟩] pos) (Zjp f):=
 PI.imp (Zov hg hm (Zc h Zi hs') he) fun σ H R zz1=>by
  obtain ⟨ι,M,env,S,E,h⟩:=zz1;obtain ⟨d,M1,e1,h⟩:=Zhu.bind h;refine ⟨ι,M,env,S,E,?_⟩;have e2:Za f Zg env M = .ok [d] M1:=by unfold Za; rw [e1]; rfl
  rw [e2];intro vs H1 ι1 x1 S1 r1;obtain ⟨v,ws,rfl,r,q⟩:=r1.cons_inv;have:=q.nil_inv;subst this;cases d with
  | ref n=>
   cases hm:M1[n]? with
   | none=>simp only [hm] at h; exact h.elim
   | some o=>
    cases o with
    | lst ds=>
     simp only [hm] at h;obtain ⟨b,ha,rfl⟩:=r.ref_inv;obtain ⟨vs,q,r⟩:=S1.obj n _ b hm ha;refine ⟨b,rfl,vs,SqL.of q,h _ H1 ι1 x1 S1 ?_⟩;intro i H2 ι2 M2 x S2 lk;have lk':M2[n]? = some (.lst ds):=by simpa [ZbW] using lk
     obtain ⟨vs2,q2,r2⟩:=S2.obj n _ b lk' (x.pre _ _ ha);refine ⟨fun d hd=>?_,fun hl=>⟨vs2,SqL.of q2,by rw [r2.length,hl,ZgU]; exact Yi _⟩⟩;rw [ZgR,Yi7 1 i] at hd;cases hq:ds[i]? with
     | none=>rw [hq] at hd; cases hd
     | some d0=>
      rw [hq] at hd;cases hd;obtain ⟨v,hv,rv⟩:=r2.get hq;refine ⟨⟨vs2,v,SqL.of q2,hv⟩,fun y H3 hy=>?_⟩;obtain ⟨T,y',rfl,hT,rfl,hall⟩:=hy;have e:=hall vs2 (SqL.of q2);rw [hv] at e;cases e;exact S2.tupl hT (Zz.cons Rep.int (Zz.cons rv Zz.nil))
    | _=>simp only [hm] at h; exact h.elim
  | _=>exact h.elim
end
end L3
namespace L3
open PySem PySem.Spec PyProof.Rows L2
set_option maxRecDepth 100000
def obK (b:Bool) (h:Heap) (l:Addr) (its:Array Value):Prop:=match b with
 | true=>h.IsList l its
 | false=>h.IsTuple l its
def itK (b:Bool) (h:Heap) (it l:Addr) (i:Nat):Prop:=match b with
 | true=>h.IsListIter it l i
 | false=>h.IsTupleIter it l i
def sqK (b:Bool) (K:Ya) (H:Hp) (l:Addr) (xs:List V):Prop:=match b with
 | true=>SqL K H l xs
 | false=>SqT K H l xs
noncomputable def itT:Bool -> String
 | true=>"list_iterator"
 | false=>"tuple_iterator"
theorem obK.keep {b:Bool} {h h':Heap} {l:Addr} {its:Array Value} (k:∀ o,h.get? l = some o -> h'.get? l = some o) (x:obK b h l its):obK b h' l its:=by
 cases b with
 | true=>exact Heap.IsList.at x k
 | false=>exact Heap.IsTuple.at x k
theorem itK.keep {b:Bool} {h h':Heap} {it l:Addr} {i:Nat} (k:∀ o,h.get? it = some o -> h'.get? it = some o) (x:itK b h it l i):itK b h' it l i:=by
 cases b with
 | true=>exact Heap.IsListIter.at x k
 | false=>exact Heap.IsTupleIter.at x k
theorem itK.there {b:Bool} {h:Heap} {it l:Addr} {i:Nat} (x:itK b h it l i):∃ o,h.get? it = some o /\ ∀ v,o.data ≠ .cell v:=by
 cases b with
 | true=>obtain ⟨o,ho,_,d⟩:=x; exact ⟨o,ho,fun v z=>by rw [d] at z; cases z⟩
 | false=>obtain ⟨o,ho,_,d⟩:=x; exact ⟨o,ho,fun v z=>by rw [d] at z; cases z⟩
theorem obK.there {b:Bool} {h:Heap} {l:Addr} {its:Array Value} (x:obK b h l its):l < h.objs.size:=by
 cases b with
 | true=>obtain ⟨o,ho,_⟩:=x; exact Yo ho
 | false=>obtain ⟨o,ho,_⟩:=x; exact Yo ho
theorem sqK.at {b:Bool} {X:Cx} {pins:List (Addr × Obj)} {σ:St} {H:Hp} {s:Yg} {l:Addr} {xs:List V} (I:Inv X pins σ H s) (x:sqK b X.K H l xs):∃ its:List Value,Vals xs its /\ obK b s.heap l its.toArray:=by
 cases b with
 | true=>obtain ⟨its,r,p,_⟩:=I.list x; exact ⟨its,r,p.isList⟩
 | false=>obtain ⟨its,r,p,_⟩:=I.tuple x; exact ⟨its,r,p⟩
theorem sqK.inj {b:Bool} {X:Cx} {pins:List (Addr × Obj)} {σ:St} {H:Hp} {s:Yg} {l:Addr} {xs ys:List V} (I:Inv X pins σ H s) (x:sqK b X.K H l xs) (y:sqK b X.K H l ys):xs = ys:=by
 cases b with
 | true=>exact I.list_inj x y
 | false=>exact I.tuple_inj x y
section
variable {prog:Yaf} {w:World} {A:Yar} {E:Value -> Yg -> Prop} {s:Yg}
theorem nextK {b:Bool} {it l:Addr} {i:Nat} {its:Array Value} {x:Value} {Q:Value -> Yg -> Prop} (hi:itK b s.heap it l i) (ho:obK b s.heap l its) (hx:its[i]? = some x)
  (hQ:∀ h',itK b h' it l (i + 1) -> Yd2 it s.heap h' -> Q x { s with heap:=h' }):wpAny (model prog w) A (Yak (.ref it)) Q E s:=by
 cases b with
 | true=>exact wpAny_nextOf_list_item hi ho hx hQ
 | false=>exact Zgo hi ho hx hQ
theorem Zi8 {b:Bool} {it l:Addr} {i:Nat} {its:Array Value} {Q:Value -> Yg -> Prop} (hh:A.handled = none) (hi:itK b s.heap it l i) (ho:obK b s.heap l its) (hx:its[i]? = none)
  (hE:∀ h' e,Yit it s.heap h' -> (∃ o,h'.get? e = some o /\ o.cls = .type "StopIteration") -> E (.ref e) { s with heap:=h' }):wpAny (model prog w) A (Yak (.ref it)) Q E s:=by
 cases b with
 | true=>exact Yhr hh hi ho hx hE
 | false=>exact ZgG hh hi ho hx hE
theorem Zrg {b:Bool} {l:Addr} {its:Array Value} {Q:Value -> Yg -> Prop} (ho:obK b s.heap l its) (h:Q (.ref s.heap.objs.size) { s with heap:=s.heap.push { cls:=.type (itT b),data:=.fields #[.ref l,.int 0 0] } }):
  wpAny (model prog w) A (pyIter (.ref l)) Q E s:=by
 cases b with
 | true=>exact Yce ho h
 | false=>exact Yfj ho h
theorem itK.new {b:Bool} {h:Heap} {it l:Addr} (e:h.get? it = some { cls:=.type (itT b),data:=.fields #[.ref l,.int 0 0] }):itK b h it l 0:=by
 cases b with
 | true=>exact ⟨_,e,rfl,rfl⟩
 | false=>exact ⟨_,e,rfl,rfl⟩
theorem Zm3 {b1 b2:Bool} {z TI TO i1 i2 l1 l2:Addr} {k1 k2:Nat} {xs ys:Array Value} {x y a b:Value} {Q:Value -> Yg -> Prop} (D:ZipApart z TI TO i1 i2 l1 l2)
  (hz:IsZip s.heap z TI TO .none) (hTI:Ydr s.heap TI (.ref i1) (.ref i2)) (hTO:Ydr s.heap TO a b)
  (h1:itK b1 s.heap i1 l1 k1) (h2:itK b2 s.heap i2 l2 k2) (hl1:obK b1 s.heap l1 xs) (hl2:obK b2 s.heap l2 ys) (hx:xs[k1]? = some x) (hy:ys[k2]? = some y)
  (hQ:∀ h',IsZip h' z TI TO (Yh6 s.heap.objs.size) -> Ydr h' TO x y -> itK b1 h' i1 l1 (k1 + 1) -> itK b2 h' i2 l2 (k2 + 1) -> Ydr h' s.heap.objs.size x y ->
   (∀ c o,c ≠ z -> c ≠ TO -> c ≠ i1 -> c ≠ i2 -> s.heap.get? c = some o -> h'.get? c = some o) -> Q (.ref s.heap.objs.size) { s with heap:=h' }):
  wpAny (model prog w) A (Builtin.«zip.__next__» ⟨[.ref z],[]⟩) (fun fin s'=>∃ v,fin = .done (.ret v) /\ Q v s') E s:=by
 show wpAny _ _ (field (.ref z) 2 >>= fun o=>_) _ _ _;refine Yc (Ybj hz rfl (x:=.bool false) rfl (show wpAny _ _ (field (.ref z) 3 >>= fun o=>_) _ _ _ from ?_));refine Yc (Ybj hz rfl (x:=.ref TI) rfl (Yc (Yct hTI rfl ?_)));refine (show wpAny _ _ (Ybk (.ref z) >>= fun o=>_) _ _ _ from Yc ?_);unfold Ybk;refine Yc (Ybj hz rfl (x:=.none) rfl (Ym ?_)); simp only [if_true];refine Yc (Yhu (Yc (Ybj hz rfl (x:=.ref TO) rfl ?_)));refine Yc (Ycp hz (by simp) fun g1 hz1 hs1=>Yc ?_);replace hz1:IsZip g1 z TI TO .ellipsis:=hz1;simp only [List.zipIdx_cons,List.zipIdx_nil,Yhk,List.forIn_nil];refine Yc (Yc (Ygm (show wpAny _ _ (Yak (.ref i1) >>= fun o=>_) _ _ _ from ?_)));refine Yc (nextK (h1.keep fun o q=>hs1.extBut _ o D.i1z q) (hl1.keep fun o q=>hs1.extBut _ o D.l1z q) hx fun g2 h12 hs2=>Ym ?_);have hTO2:Ydr g2 TO a b:=hs2.extBut _ _ D.TOi1 (hs1.extBut _ _ D.TOz hTO);refine Yc (Yct hTO2 rfl (Yc (Yey hTO2 fun g3 hTO3 hs3=>?_)));replace hTO3:Ydr g3 TO x b:=hTO3;refine Yc (Yjn (Ym (Yc (Yc (Ygm (show wpAny _ _ (Yak (.ref i2) >>= fun o=>_) _ _ _ from ?_))))));refine Yc (nextK (h2.keep fun o q=>hs3.extBut _ o D.TOi2.symm (hs2.extBut _ o D.i12.symm (hs1.extBut _ o D.i2z q))) (hl2.keep fun o q=>hs3.extBut _ o D.l2TO (hs2.extBut _ o D.l2i1 (hs1.extBut _ o D.l2z q))) hy fun g4 h24 hs4=>Ym ?_);have hTO4:Ydr g4 TO x b:=hs4.extBut _ _ D.TOi2 hTO3;refine Yc (Yct hTO4 rfl (Yc (Yey hTO4 fun g5 hTO5 hs5=>?_)));replace hTO5:Ydr g5 TO x y:=hTO5;refine Yc (Yjn (Ym (Ym (Yc (Yct hTO5 rfl (Yc (wpAny_newTuple ?_)))))));have hsz:g5.objs.size = s.heap.objs.size:=by rw [hs5.1,hs4.1,hs3.1,hs2.1,hs1.1]
 have hz5:IsZip g5 z TI TO .ellipsis:=hs5.extBut _ _ D.TOz.symm (hs4.extBut _ _ D.i2z.symm (hs3.extBut _ _ D.TOz.symm (hs2.extBut _ _ D.i1z.symm hz1)));have hk5:∀ c o,c ≠ z -> c ≠ TO -> c ≠ i1 -> c ≠ i2 -> s.heap.get? c = some o -> g5.get? c = some o:=fun c o c1 c2 c3 c4 e=>
  hs5.extBut _ _ c2 (hs4.extBut _ _ c4 (hs3.extBut _ _ c2 (hs2.extBut _ _ c3 (hs1.extBut _ _ c1 e))))
 have h15:itK b1 g5 i1 l1 (k1 + 1):=h12.keep fun o q=>hs5.extBut _ o D.TOi1.symm (hs4.extBut _ o D.i12 (hs3.extBut _ o D.TOi1.symm q));have h25:itK b2 g5 i2 l2 (k2 + 1):=h24.keep fun o q=>hs5.extBut _ o D.TOi2.symm q;have hzlt:z < g5.objs.size:=Yo hz5;refine (show wpAny _ _ (Ydu (.ref z) (.ref g5.objs.size) >>= fun o=>_) _ _ _ from Yc ?_);unfold Ydu;have hz6:IsZip (g5.push { cls:=.type "tuple",data:=.seq #[x,y] }) z TI TO .ellipsis:=Yf _ hz5;refine Yc (Ycp hz6 (by simp) fun g7 hz7 hs7=>?_);replace hz7:IsZip g7 z TI TO (Yh6 g5.objs.size):=hz7;refine Ycp hz7 (by simp) fun g8 hz8 hs8=>?_;replace hz8:IsZip g8 z TI TO (Yh6 g5.objs.size):=hz8;have up:∀ c o,c ≠ z -> g5.get? c = some o -> g8.get? c = some o:=fun c o c1 e=>hs8.extBut _ _ c1 (hs7.extBut _ _ c1 (Yf _ e));have hT8:Ydr g8 g5.objs.size x y:=hs8.extBut _ _ (Yes hzlt) (hs7.extBut _ _ (Yes hzlt) (Yr _ rfl));rw [hsz] at hz8 hT8;refine Ym ⟨_,rfl,(show Q (.ref g5.objs.size) _ from ?_)⟩;rw [hsz];exact hQ g8 hz8 (up _ _ D.TOz hTO5) (h15.keep fun o e=>up _ o D.i1z e) (h25.keep fun o e=>up _ o D.i2z e) hT8 fun c o c1 c2 c3 c4 e=>up c o c1 (hk5 c o c1 c2 c3 c4 e)
theorem Zpo {b1 b2:Bool} {z TI TO i1 i2 l1 l2:Addr} {k1 k2:Nat} {xs ys:Array Value} {a b:Value} {Q:Fin -> Yg -> Prop} (hh:A.handled = none) (D:ZipApart z TI TO i1 i2 l1 l2)
  (hz:IsZip s.heap z TI TO .none) (hTI:Ydr s.heap TI (.ref i1) (.ref i2)) (hTO:Ydr s.heap TO a b)
  (h1:itK b1 s.heap i1 l1 k1) (h2:itK b2 s.heap i2 l2 k2) (hl1:obK b1 s.heap l1 xs) (hl2:obK b2 s.heap l2 ys) (hend:xs[k1]? = none \/ ys[k2]? = none)
  (hE:∀ h' e,(∀ c o,c ≠ z -> c ≠ TO -> c ≠ i1 -> c ≠ i2 -> s.heap.get? c = some o -> h'.get? c = some o) -> (∃ o,h'.get? e = some o /\ o.cls = .type "StopIteration") -> E (.ref e) { s with heap:=h' }):
  wpAny (model prog w) A (Builtin.«zip.__next__» ⟨[.ref z],[]⟩) Q E s:=by
 show wpAny _ _ (field (.ref z) 2 >>= fun o=>_) _ _ _;refine Yc (Ybj hz rfl (x:=.bool false) rfl (show wpAny _ _ (field (.ref z) 3 >>= fun o=>_) _ _ _ from ?_));refine Yc (Ybj hz rfl (x:=.ref TI) rfl (Yc (Yct hTI rfl ?_)));refine (show wpAny _ _ (Ybk (.ref z) >>= fun o=>_) _ _ _ from Yc ?_);unfold Ybk;refine Yc (Ybj hz rfl (x:=.none) rfl (Ym ?_)); simp only [if_true];refine Yc (Yhu (Yc (Ybj hz rfl (x:=.ref TO) rfl ?_)));refine Yc (Ycp hz (by simp) fun g1 hz1 hs1=>Yc ?_);replace hz1:IsZip g1 z TI TO .ellipsis:=hz1;simp only [List.zipIdx_cons,List.zipIdx_nil,Yhk,List.forIn_nil];refine Yc (Yc (Ygm (show wpAny _ _ (Yak (.ref i1) >>= fun o=>_) _ _ _ from ?_)));have h11:itK b1 g1 i1 l1 k1:=h1.keep fun o q=>hs1.extBut _ o D.i1z q;have hl11:obK b1 g1 l1 xs:=hl1.keep fun o q=>hs1.extBut _ o D.l1z q;cases hx:xs[k1]? with
 | none=>
  refine Yc (Zi8 hh h11 hl11 hx fun g2 e hs2 he=>?_);obtain ⟨oe,hoe,hce⟩:=he;have hz2:IsZip g2 z TI TO .ellipsis:=hs2 _ _ D.i1z.symm hz1;have hez:e ≠ z:=fun q=>by subst q; rw [hz2] at hoe; cases hoe; simp at hce
  exact Ycp hz2 (by simp) fun g3 _ hs3=>hE g3 e (fun c o c1 _ c3 _ q=>hs3.extBut _ _ c1 (hs2 _ _ c3 (hs1.extBut _ _ c1 q))) ⟨oe,hs3.extBut _ _ hez hoe,hce⟩
 | some x=>
  have hy:ys[k2]? = none:=by rcases hend with q | q; rw [hx] at q; cases q; exact q
  refine Yc (nextK h11 hl11 hx fun g2 h12 hs2=>Ym ?_);have hTO2:Ydr g2 TO a b:=hs2.extBut _ _ D.TOi1 (hs1.extBut _ _ D.TOz hTO);refine Yc (Yct hTO2 rfl (Yc (Yey hTO2 fun g3 hTO3 hs3=>?_)));refine Yc (Yjn (Ym (Yc (Yc (Ygm (show wpAny _ _ (Yak (.ref i2) >>= fun o=>_) _ _ _ from ?_))))));refine Yc (Zi8 hh (h2.keep fun o q=>hs3.extBut _ o D.TOi2.symm (hs2.extBut _ o D.i12.symm (hs1.extBut _ o D.i2z q))) (hl2.keep fun o q=>hs3.extBut _ o D.l2TO (hs2.extBut _ o D.l2i1 (hs1.extBut _ o D.l2z q))) hy fun g4 e hs4 he=>?_);obtain ⟨oe,hoe,hce⟩:=he;have hz4:IsZip g4 z TI TO .ellipsis:=hs4 _ _ D.i2z.symm (hs3.extBut _ _ D.TOz.symm (hs2.extBut _ _ D.i1z.symm hz1));have hez:e ≠ z:=fun q=>by subst q; rw [hz4] at hoe; cases hoe; simp at hce
  exact Ycp hz4 (by simp) fun g5 _ hs5=>hE g5 e (fun c o c1 c2 c3 c4 q=>hs5.extBut _ _ c1 (hs4 _ _ c4 (hs3.extBut _ _ c2 (hs2.extBut _ _ c3 (hs1.extBut _ _ c1 q))))) ⟨oe,hs5.extBut _ _ hez hoe,hce⟩
theorem Zjy {b1 b2:Bool} {z TI TO i1 i2 l1 l2:Addr} {k1 k2:Nat} {xs ys:Array Value} {x y a b:Value} {Q:Option Value -> Yg -> Prop} (D:ZipApart z TI TO i1 i2 l1 l2)
  (hz:IsZip s.heap z TI TO .none) (hTI:Ydr s.heap TI (.ref i1) (.ref i2)) (hTO:Ydr s.heap TO a b)
  (h1:itK b1 s.heap i1 l1 k1) (h2:itK b2 s.heap i2 l2 k2) (hl1:obK b1 s.heap l1 xs) (hl2:obK b2 s.heap l2 ys) (hx:xs[k1]? = some x) (hy:ys[k2]? = some y)
  (hQ:∀ h',IsZip h' z TI TO (Yh6 s.heap.objs.size) -> Ydr h' TO x y -> itK b1 h' i1 l1 (k1 + 1) -> itK b2 h' i2 l2 (k2 + 1) -> Ydr h' s.heap.objs.size x y ->
   (∀ c o,c ≠ z -> c ≠ TO -> c ≠ i1 -> c ≠ i2 -> s.heap.get? c = some o -> h'.get? c = some o) -> Q (some (.ref s.heap.objs.size)) { s with heap:=h' }):
  wpAny (model prog w) A (Yf0 (.ref z)) Q E s:=by
 have hT:s.TypeIs (.ref z) "zip":=⟨_,hz,rfl⟩;unfold Yf0;exact Yc (Yi1 (Ya0 (name:=Ybv "__next__") hT Ye8 (Ybw Ye8 hT F.entry_zip_next
  (Zm3 D hz hTI hTO h1 h2 hl1 hl2 hx hy fun h' a1 a2 a3 a4 a5 a6=>Ym (hQ h' a1 a2 a3 a4 a5 a6)) (F.args_zip_next_1 _))))
theorem ZkH {b1 b2:Bool} {z TI TO i1 i2 l1 l2:Addr} {k1 k2:Nat} {xs ys:Array Value} {a b:Value} {Q:Option Value -> Yg -> Prop} (hh:A.handled = none) (D:ZipApart z TI TO i1 i2 l1 l2)
  (hz:IsZip s.heap z TI TO .none) (hTI:Ydr s.heap TI (.ref i1) (.ref i2)) (hTO:Ydr s.heap TO a b)
  (h1:itK b1 s.heap i1 l1 k1) (h2:itK b2 s.heap i2 l2 k2) (hl1:obK b1 s.heap l1 xs) (hl2:obK b2 s.heap l2 ys) (hend:xs[k1]? = none \/ ys[k2]? = none)
  (hQ:∀ h',(∀ c o,c ≠ z -> c ≠ TO -> c ≠ i1 -> c ≠ i2 -> s.heap.get? c = some o -> h'.get? c = some o) -> Q none { s with heap:=h' }):wpAny (model prog w) A (Yf0 (.ref z)) Q E s:=by
 have hT:s.TypeIs (.ref z) "zip":=⟨_,hz,rfl⟩;unfold Yf0;refine Yc (Yi1 (Ya0 (name:=Ybv "__next__") hT Ye8 (Ybw Ye8 hT F.entry_zip_next
  (Zpo hh D hz hTI hTO h1 h2 hl1 hl2 hend fun h' e hk he=>?_) (F.args_zip_next_1 _))))
 obtain ⟨o,ho,hc⟩:=he;exact Yc (wpAny_isInstance (T:="StopIteration") (b:=true) ⟨o,ho,hc⟩ isSubtype_stop (Ym (hQ _ hk)))
end
noncomputable abbrev zK1 (b:Bool) (h:Heap) (l:Addr):Heap:=h.push { cls:=.type (itT b),data:=.fields #[.ref l,.int 0 0] }
noncomputable abbrev zK3 (b1 b2:Bool) (h:Heap) (l1 l2:Addr):Heap:=(zK1 b2 (zK1 b1 h l1) l2).push { cls:=.type "tuple",data:=.seq #[.ref h.objs.size,.ref (zK1 b1 h l1).objs.size] }
noncomputable abbrev zK4 (b1 b2:Bool) (h:Heap) (l1 l2:Addr):Heap:=(zK3 b1 b2 h l1 l2).push { cls:=.type "tuple",data:=.seq #[.none,.none] }
noncomputable abbrev zK5 (b1 b2:Bool) (h:Heap) (l1 l2:Addr):Heap:=(zK4 b1 b2 h l1 l2).push { cls:=.type "zip",data:=.fields #[.none,.bool false,.bool false,.ref (zK1 b2 (zK1 b1 h l1) l2).objs.size,.ref (zK3 b1 b2 h l1 l2).objs.size] }
theorem Zl4 (b1 b2:Bool) (l1 l2:Addr) (xs ys:Array Value):
  Meets (Builtin.«zip.__new__» ⟨[.type "zip",.ref l1,.ref l2],[]⟩) (fun _ R s=>obK b1 s.heap l1 xs /\ obK b2 s.heap l2 ys /\ R (.ok (.ret (.ref (zK4 b1 b2 s.heap l1 l2).objs.size))) { s with heap:=zK5 b1 b2 s.heap l1 l2 }):=
 .of_wp fun prog w A R s h=>by
  obtain ⟨hp,g,d,tk,os⟩:=s; obtain ⟨hl1,hl2,h⟩:=h;have hsub:=sub_zip;have hL1:obK b1 (Yjm ⟨hp,g,d,tk,os⟩) l1 xs:=hl1;have hL2:obK b2 (Yjm ⟨zK1 b1 hp l1,g,d,tk,os⟩) l2 ys:=hl2.keep fun o q=>Yf _ q
  wp_walk using Zrg hL1,Zrg hL2
  exact ⟨_,rfl,h⟩
theorem Znj {prog:Yaf} {w:World} {A:Yar} {E:Value -> Yg -> Prop} {s:Yg} {b1 b2:Bool} {l1 l2:Addr} {xs ys:Array Value} {Q:Value -> Yg -> Prop} (hl1:obK b1 s.heap l1 xs) (hl2:obK b2 s.heap l2 ys)
  (h:∀ h',IsZip h' (s.heap.objs.size + 4) (s.heap.objs.size + 2) (s.heap.objs.size + 3) .none -> Ydr h' (s.heap.objs.size + 2) (.ref s.heap.objs.size) (.ref (s.heap.objs.size + 1)) ->
   Ydr h' (s.heap.objs.size + 3) .none .none -> itK b1 h' s.heap.objs.size l1 0 -> itK b2 h' (s.heap.objs.size + 1) l2 0 -> (∀ c o,s.heap.get? c = some o -> h'.get? c = some o) -> Q (.ref (s.heap.objs.size + 4)) { s with heap:=h' }):
  wpAny (model prog w) A (call (.type "zip") [.ref l1,.ref l2]) Q E s:=by
 refine callType_new F.called_zip (by decide) (F.typeCall_zip_2 _ _) (F.newCall_zip_2 _ _) (fun obj=>F.args_object_init_3 obj _ _) F.entry_zip_new (Zl4 b1 b2 l1 l2 xs ys) ⟨hl1,hl2,?_⟩;have z1:(zK1 b1 s.heap l1).objs.size = s.heap.objs.size + 1:=Yda ..;have z2:(zK1 b2 (zK1 b1 s.heap l1) l2).objs.size = s.heap.objs.size + 2:=(Yda ..).trans (by rw [z1]);have z3:(zK3 b1 b2 s.heap l1 l2).objs.size = s.heap.objs.size + 3:=(Yda ..).trans (by rw [z2]);have z4:(zK4 b1 b2 s.heap l1 l2).objs.size = s.heap.objs.size + 4:=(Yda ..).trans (by rw [z3]);have p5:∀ {c o},(zK4 b1 b2 s.heap l1 l2).get? c = some o -> (zK5 b1 b2 s.heap l1 l2).get? c = some o:=fun q=>Yf _ q;have p4:∀ {c o},(zK3 b1 b2 s.heap l1 l2).get? c = some o -> (zK5 b1 b2 s.heap l1 l2).get? c = some o:=fun q=>p5 (Yf _ q);have p3:∀ {c o},(zK1 b2 (zK1 b1 s.heap l1) l2).get? c = some o -> (zK5 b1 b2 s.heap l1 l2).get? c = some o:=fun q=>p4 (Yf _ q);have p2:∀ {c o},(zK1 b1 s.heap l1).get? c = some o -> (zK5 b1 b2 s.heap l1 l2).get? c = some o:=fun q=>p3 (Yf _ q);have g5:(zK5 b1 b2 s.heap l1 l2).get? (zK4 b1 b2 s.heap l1 l2).objs.size = some { cls:=.type "zip",data:=.fields #[.none,.bool false,.bool false,.ref (zK1 b2 (zK1 b1 s.heap l1) l2).objs.size,.ref (zK3 b1 b2 s.heap l1 l2).objs.size] }:=Yr _ rfl;have g4:(zK5 b1 b2 s.heap l1 l2).get? (zK3 b1 b2 s.heap l1 l2).objs.size = some { cls:=.type "tuple",data:=.seq #[.none,.none] }:=p5 (Yr _ rfl);have g3:(zK5 b1 b2 s.heap l1 l2).get? (zK1 b2 (zK1 b1 s.heap l1) l2).objs.size = some { cls:=.type "tuple",data:=.seq #[.ref s.heap.objs.size,.ref (zK1 b1 s.heap l1).objs.size] }:=p4 (Yr _ rfl);have g2:(zK5 b1 b2 s.heap l1 l2).get? (zK1 b1 s.heap l1).objs.size = some { cls:=.type (itT b2),data:=.fields #[.ref l2,.int 0 0] }:=p3 (Yr _ (by cases b2 <;> rfl));have g1:(zK5 b1 b2 s.heap l1 l2).get? s.heap.objs.size = some { cls:=.type (itT b1),data:=.fields #[.ref l1,.int 0 0] }:=p2 (Yr _ (by cases b1 <;> rfl));rw [z4,z2,z3] at g5;rw [z2,z1] at g3;rw [z3] at g4;rw [z1] at g2;show _ /\ _;rw [z4];exact ⟨⟨_,g5,rfl⟩,h _ g5 g3 g4 (itK.new g1) (itK.new g2) fun c o q=>p2 (Yf _ q)⟩
def Zrq (b1 b2:Bool) (z TI TO i1 i2 l1 l2:Addr) (i:Nat) (h:Heap):Prop:=IsZip h z TI TO .none /\ Ydr h TI (.ref i1) (.ref i2) /\ (∃ a b,Ydr h TO a b) /\ itK b1 h i1 l1 i /\ itK b2 h i2 l2 i
theorem ZnB {P:Yaf} {w:World} {K:Ya} {es:List Expr} {k:Nat} {pos:Pos} (b1 b2:Bool) (l1 l2 z TI TO i1 i2:Addr) (Z:ZipApart z TI TO i1 i2 l1 l2):
  Turn P w K (.Tuple es k pos) (Itz (fun H xs=>sqK b1 K H l1 xs) (fun H ys=>sqK b2 K H l2 ys)) [z,TI,TO,i1,i2] z (Zrq b1 b2 z TI TO i1 i2 l1 l2) where
 mem:=by simp
 obj:=fun i h st b hb=>by
  obtain ⟨hz,h1,⟨a,c,h2⟩,g1,g2⟩:=st;simp only [Y3,Ybi,or_false] at hb;rcases hb with rfl | rfl | rfl | rfl | rfl
  ·exact ⟨_,hz,fun v z=>by cases z⟩
  ·exact ⟨_,h1,fun v z=>by cases z⟩
  ·exact ⟨_,h2,fun v z=>by cases z⟩
  ·exact g1.there
  ·exact g2.there
 keep:=fun i h h' st k=>by
  obtain ⟨hz,h1,⟨a,c,h2⟩,g1,g2⟩:=st;exact ⟨k z (by simp) _ hz,k TI (by simp) _ h1,⟨a,c,k TO (by simp) _ h2⟩,g1.keep fun o q=>k i1 (by simp) o q,g2.keep fun o q=>k i2 (by simp) o q⟩
 item:=by
  intro X hP hw hK hc i pins s σ H E I hf st hg;subst hP hw hK;obtain ⟨xs,ys,x,y,hx,hy,gx,gy⟩:=hg;obtain ⟨its,rv,p⟩:=sqK.at I hx;obtain ⟨its2,rv2,p2⟩:=sqK.at I hy;obtain ⟨u,hu,ru⟩:=rv.get gx;obtain ⟨v,hv,rv'⟩:=rv2.get gy;obtain ⟨hz,h1,⟨a,c,h2⟩,g1,g2⟩:=st;have hlt:∀ b ∈ [z,TI,TO,i1,i2],b < s.heap.objs.size:=fun b hb=>by
   obtain ⟨o1,q1,_⟩:=g1.there;obtain ⟨o2,q2,_⟩:=g2.there;simp only [Y3,Ybi,or_false] at hb;rcases hb with rfl | rfl | rfl | rfl | rfl
   ·exact Yo hz
   ·exact Yo h1
   ·exact Yo h2
   ·exact Yo q1
   ·exact Yo q2
  refine Zjy Z hz h1 h2 g1 g2 p p2 (x:=u) (y:=v) (by simpa using hu) (by simpa using hv) fun h' hz' hTO hi1 hi2 hT hk=>?_;refine ⟨_,rfl,wpAny_letOwnedTupleGo_zip (s:={ s with heap:=h' }) hz' fun h'' hz'' hs''=>?_⟩;have hTI':Ydr h' TI (.ref i1) (.ref i2):=hk TI _ Z.TIz Z.TITO Z.TIi1 Z.TIi2 h1;obtain ⟨I2,n2⟩:=ZoB (x:=x) (y:=y) (tk':=s.toks) (fp:=[z,TI,TO,i1,i2]) (h':=h') (h'':=h'') I hf hlt ru rv' hT
   (fun b o hb q=>hk b o (fun e=>hb (by simp [e])) (fun e=>hb (by simp [e])) (fun e=>hb (by simp [e])) (fun e=>hb (by simp [e])) q)
   (fun b o hb q=>(hs''.2 b fun e=>hb (by simp [e])).trans q)
  refine ⟨.ref s.heap.objs.size,_,I2,rfl,⟨_,x,y,rfl,I.hok.fresh (Yi _),rfl,fun zs hq=>by rw [sqK.inj I hq hx]; exact gx,fun zs hq=>by rw [sqK.inj I hq hy]; exact gy⟩,?_,n2⟩;exact ⟨hz'',(hs''.2 _ Z.TIz).trans hTI',⟨_,_,(hs''.2 _ Z.TOz).trans hTO⟩,hi1.keep fun o q=>(hs''.2 _ Z.i1z).trans q,hi2.keep fun o q=>(hs''.2 _ Z.i2z).trans q⟩
 done:=by
  intro X hP hw hK hc i pins s σ H E I hf st hg;subst hP hw hK;obtain ⟨xs,ys,hx,hy,ho⟩:=hg;obtain ⟨its,rv,p⟩:=sqK.at I hx;obtain ⟨its2,rv2,p2⟩:=sqK.at I hy;have hl1:=rv.length;have hl2:=rv2.length;obtain ⟨hz,h1,⟨a,c,h2⟩,g1,g2⟩:=st;refine ZkH (I.ok.hd hc) Z hz h1 h2 g1 g2 p p2 ?_ fun h' hk=>⟨rfl,I.turnedL (t':=s.toks) (fun b o hb q=>hk b o (fun e=>hb (by simp [e])) (fun e=>hb (by simp [e])) (fun e=>hb (by simp [e])) (fun e=>hb (by simp [e])) q) hf⟩;rcases ho with ho | ho
  ·left; simp; exact lC 2 1237490667521 T1 ho hl1
  ·right; simp; exact lC 2 1237490667521 T1 ho hl2
 self:=fun _ _ _ _ _ st h=>wpAny_pyIter_zip st.1 h
section
variable {X:Cx} {es:List Expr} {k:Nat} {a b:Expr} {p pos tpos:Pos} {f g:E3}
def ZrF (K:Ya) (ta:TA):TI:=fun σ H R=>ta σ H fun vs H1=>∃ b1 b2 l1 l2,vs = [.ref l1,.ref l2] /\ (∃ xs,sqK b1 K H1 l1 xs) /\ (∃ ys,sqK b2 K H1 l2 ys) /\ R (Itz (fun H xs=>sqK b1 K H l1 xs) (fun H ys=>sqK b2 K H l2 ys)) H1
theorem Zqo {ta:TA} (hg:Gl X "zip") (hm:X.mg "zip" = none) (ha:PA X [a,b] ta) (hs:Yx [a,b] X.env = [(false,eval a X.env),(false,eval b X.env)]:=by rfl) (hs2:Yx [b] X.env = [(false,eval b X.env)]:=by rfl):PI X (.Tuple es k tpos) (.Call (.Name "zip" p) [a,b] [] pos) (ZrF X.K ta):=by
 intro pins s σ H R I h;refine Call_ (ZgL I hg hm ZmX (Ydf (thn (ha pos pins s σ H _ I h) fun us s1 ⟨vs,H1,I1,r1,q1⟩=>?_) (by rw [hs,hs2]) (by rw [hs2]; rfl)));obtain ⟨b1,b2,l1,l2,e,⟨xs,hx⟩,⟨ys,hy⟩,q⟩:=q1;subst e;cases r1 with
 | cons r rr=>
  cases rr with
  | cons r' rr=>
   cases rr
   cases r
   cases r'
   obtain ⟨its,rv,p1⟩:=sqK.at I1 hx;obtain ⟨its2,rv2,p2⟩:=sqK.at I1 hy;refine Znj p1 p2 fun h' hZ hTI hTO hi1 hi2 hk=>?_;have I2:Inv X pins σ H1 { s1 with heap:=h' }:=I1.kept (t':=s1.toks) hk;have fp:∀ c ∈ [s1.heap.objs.size + 4,s1.heap.objs.size + 2,s1.heap.objs.size + 3,s1.heap.objs.size,s1.heap.objs.size + 1],ZeK X pins H1 c:=fun c hc=>by
    have hc':s1.heap.objs.size <= c:=by
     simp only [Y3,Ybi,or_false] at hc;rcases hc with rfl | rfl | rfl | rfl | rfl <;> omega
    exact I1.fpOk hc' (I1.hok.fresh hc')
   exact wpAny_pyIter_zip (s:={ s1 with heap:=h' }) hZ ⟨_,_,_,_,H1,rfl,I2,ZnB b1 b2 l1 l2 _ _ _ _ _ (zipApart_new p1.there p2.there),⟨hZ,hTI,⟨_,_,hTO⟩,hi1,hi2⟩,fp,q⟩
theorem Zle {K:Ya} {H:Hp} {ι:List Addr} {M:Store} {d:D} {v:V} {x:List D} {l:List (Nat × List D)} (S:Zap K H ι M) (r:Rep K H ι d v) (e:Zkq M d = some (x,l)):
  ∃ b a,v = .ref a /\ (∃ vs,sqK b K H a vs) /\ ∀ H2 ι2 M2,Ext K H ι H2 ι2 -> Zap K H2 ι2 M2 -> ZbW l M2 = true -> ∃ vs,sqK b K H2 a vs /\ Zz K H2 ι2 x vs:=by
 cases d with
 | tup ds=>
  obtain ⟨a,vs,rfl,s,r⟩:=r.tup_inv;cases e;exact ⟨false,a,rfl,⟨vs,s⟩,fun H2 ι2 M2 x S2 _=>⟨vs,x.tup _ _ s,r.mono x⟩⟩
 | ref n=>
  unfold Zkq at e;cases hm:M[n]? with
  | none=>simp only [hm] at e; cases e
  | some o=>
   cases o with
   | lst ds=>
    simp only [hm] at e;obtain ⟨rfl,rfl⟩:ds = x /\ [(n,ds)] = l:=by simpa using e
    obtain ⟨a,ha,rfl⟩:=r.ref_inv;obtain ⟨vs,q,_⟩:=S.obj n _ a hm ha;refine ⟨true,a,rfl,⟨vs,SqL.of q⟩,fun H2 ι2 M2 x S2 lk=>?_⟩;have lk':M2[n]? = some (.lst ds):=by simpa [ZbW] using lk
    obtain ⟨vs2,q2,r2⟩:=S2.obj n _ a lk' (x.pre _ _ ha);exact ⟨vs2,SqL.of q2,r2⟩
   | _=>simp only [hm] at e; cases e
 | _=>cases e
theorem ZmK (hm:X.mg "zip" = none) (h1:C3 X a f) (h2:C3 X b g) (hg:Gl X "zip":=by rfl) (hs:Yx [a,b] X.env = [(false,eval a X.env),(false,eval b X.env)]:=by rfl) (hs2:Yx [b] X.env = [(false,eval b X.env)]:=by rfl)
  (hs':Yx (a :: [b]) X.env = (false,eval a X.env) :: Yx [b] X.env:=by rfl) (hs'':Yx (b :: []) X.env = (false,eval b X.env) :: Yx [] X.env:=by rfl):CIL X (.Tuple es k tpos) (.Call (.Name "zip" p) [a,b] [] pos) (Zg1 f g):=
 PI.imp (Zqo hg hm (Zc h1 (Zc h2 Zi hs'') hs') hs hs2) fun σ H R zz1=>by
  obtain ⟨ι,M,env,S,E,h⟩:=zz1;obtain ⟨d,M1,e1,h⟩:=Zhu.bind h;obtain ⟨d2,M2,e2,h⟩:=Zhu.bind h;refine ⟨ι,M,env,S,E,?_⟩;have e3:Za f (Za g Zg) env M = .ok [d,d2] M2:=by simp only [Za,Zg,R3.bind,e1,e2]
  rw [e3];intro vs H1 ι1 x1 S1 r1;obtain ⟨v,ws,rfl,r,q⟩:=r1.cons_inv;obtain ⟨v2,ws2,rfl,r2,q2⟩:=q.cons_inv;have:=q2.nil_inv;subst this;cases q1:Zkq M2 d with
  | none=>simp only [q1] at h; exact h.elim
  | some xl=>
   cases q2:Zkq M2 d2 with
   | none=>simp only [q1,q2] at h; exact h.elim
   | some yk=>
    obtain ⟨x,l⟩:=xl;obtain ⟨y,k⟩:=yk;simp only [q1,q2] at h;obtain ⟨b1,a1,rfl,w1,f1⟩:=Zle S1 r q1;obtain ⟨b2,a2,rfl,w2,f2⟩:=Zle S1 r2 q2;refine ⟨b1,b2,a1,a2,rfl,w1,w2,h _ H1 ι1 x1 S1 ?_⟩;intro i H2 ι2 M3 xx S2 lk;have lk':ZbW l M3 = true /\ ZbW k M3 = true:=by simpa [ZbW] using lk
    obtain ⟨ws1,p1,q1⟩:=f1 H2 ι2 M3 xx S2 lk'.1;obtain ⟨ws2,p2,q2⟩:=f2 H2 ι2 M3 xx S2 lk'.2;refine ⟨fun d hd=>?_,fun hl=>⟨ws1,ws2,p1,p2,by rw [q1.length,q2.length,hl,ZhQ]; omega⟩⟩;rw [Zgz] at hd;cases hq:x[i]? with
    | none=>rw [hq] at hd; cases hd
    | some a0=>
     cases hq2:y[i]? with
     | none=>rw [hq,hq2] at hd; cases hd
     | some b0=>
      rw [hq,hq2] at hd;cases hd;obtain ⟨v1,hv1,rv1⟩:=q1.get hq;obtain ⟨v2,hv2,rv2⟩:=q2.get hq2;refine ⟨⟨ws1,ws2,v1,v2,p1,p2,hv1,hv2⟩,fun y H3 hy=>?_⟩;obtain ⟨T,y1,y2,rfl,hT,rfl,ha1,ha2⟩:=hy;have e:=ha1 ws1 p1;rw [hv1] at e;cases e;have e:=ha2 ws2 p2;rw [hv2] at e;cases e;exact S2.tupl hT (Zz.cons rv1 (Zz.cons rv2 Zz.nil))
end
end L3
set_option maxHeartbeats 400000
namespace Law
open PySem L3
noncomputable section
def g_BOXES:E3:=eC (.int 8)
def g_FIGURES:E3:=eC (.str [48,49,50,51,52,53,54,55,56,57])
def Za3:Zij:=[([112,117,116],[[98,111,120],[110,117,109,98,101,114]]),([97,100,100],[[98,111,120],[98,111,120],[98,111,120]]),([115,117,98],[[98,111,120],[98,111,120],[98,111,120]]),([109,111,114,101],[[98,111,120],[98,111,120],[98,111,120]]),([103,101,116],[[98,111,120],[98,111,120]]),([115,101,116],[[98,111,120],[98,111,120]]),([106,117,109,112],[[114,111,119]]),([119,104,101,110],[[98,111,120],[114,111,119]]),([116,101,108,108],[[98,111,120]]),([104,97,108,116],[])]
def g_MOST_FIGURES:E3:=eC (.int 60)
def Zee:S3:=Zau (Zbv (Za (eC (.int 0)) (Za (Zax Za1 (Za (Zb 0) (Zg))) (Za (Zbv (Zg)) (Zg)))))
def ZaT:F3:=mkF 1 1 Zee
def Zga:S3:=Zy (sIf (e2 ZaH (e2 Zf (Zb 0) (eC (.int 0))) (eC (.str [106,117,109,112]))) (Zau (e2 Zf (Zb 0) (eC (.int 1)))) (Zab)) (Zy (sIf (Zcq (e2 ZaH (e2 Zf (Zb 0) (eC (.int 0))) (eC (.str [119,104,101,110]))) (e2 ZgT (e2 Zf (Zb 2) (e2 Zf (Zb 0) (eC (.int 1)))) (eC (.int 0)))) (Zau (e2 Zf (Zb 0) (eC (.int 2)))) (Zab)) (Zau (e2 Zao (Zb 1) (eC (.int 1)))))
def ZcL:F3:=mkF 3 3 Zga
def Zfg:S3:=Zy (sIf (e2 ZaH (Zb 0) (eC (.str [97,100,100]))) (Zau (e2 Zao (Zb 1) (Zb 2))) (Zab)) (Zy (sIf (e2 ZaH (Zb 0) (eC (.str [115,117,98]))) (Zau (e2 Zdo (Zb 1) (Zb 2))) (Zab)) (Zau (eIf (e2 ZgT (Zb 1) (Zb 2)) (eC (.int 1)) (eC (.int 0)))))
def Zb8:F3:=mkF 3 3 Zfg
def ZhZ:S3:=Zau (e2 Zao (e2 Zao (eSl (Zb 0) (ZaY) (ZaP (Zb 1))) (Zbv (Za (Zb 2) (Zg)))) (eSl (Zb 0) (ZaP (e2 Zao (Zb 1) (eC (.int 1)))) (ZaY)))
def Zb3:F3:=mkF 3 3 ZhZ
def Zgv:S3:=Zau (ZaR ZjN Zkg (Zax Zha (Za (Zb 0) (Zg))) (Za (Zb 1) (Za (eC (.int 0)) (Zg))))
def ZcU:F3:=mkF 2 2 Zgv
def ZeQ:S3:=Zy (ZaF 3 (e2 Zf (Zb 0) (eC (.int 0)))) (Zy (sIf (e2 ZaH (Zb 3) (eC (.str [112,117,116]))) (Zau (Zt Zb3 (Za (Zb 1) (Za (e2 Zf (Zb 0) (eC (.int 1))) (Za (e2 Zf (Zb 0) (eC (.int 2))) (Zg)))))) (Zab)) (Zy (sIf (e2 ZaH (Zb 3) (eC (.str [103,101,116]))) (Zau (Zt Zb3 (Za (Zb 1) (Za (e2 Zf (Zb 0) (eC (.int 1))) (Za (Zt ZcU (Za (Zb 2) (Za (e2 Zf (Zb 1) (e2 Zf (Zb 0) (eC (.int 2)))) (Zg)))) (Zg)))))) (Zab)) (Zy (sIf (e2 Zjg (Zb 3) (Zbv (Za (eC (.str [97,100,100])) (Za (eC (.str [115,117,98])) (Za (eC (.str [109,111,114,101])) (Zg)))))) (Zau (Zt Zb3 (Za (Zb 1) (Za (e2 Zf (Zb 0) (eC (.int 1))) (Za (Zt Zb8 (Za (Zb 3) (Za (e2 Zf (Zb 1) (e2 Zf (Zb 0) (eC (.int 2)))) (Za (e2 Zf (Zb 1) (e2 Zf (Zb 0) (eC (.int 3)))) (Zg))))) (Zg)))))) (Zab)) (Zau (Zb 1)))))
def ZcX:F3:=mkF 3 4 ZeQ
def Zg7:S3:=Zy (ZaF 3 (eLC (Zdl (Zb 0)) 1 (ZbB 6) [e2 Zis (e2 Zf (Zb 6) (eC (.int 0))) (Zb 1)] (Zb 6))) (Zy (ZaF 4 (eLC (Zdl (Zb 0)) 1 (ZbB 6) [e2 ZgT (e2 Zf (Zb 6) (eC (.int 0))) (Zb 1)] (Zb 6))) (Zy (ZaF 5 (eIf (e2 ZeP (Zb 2) (eC (.int 0))) (Zbu (Za (Zbv (Za (Zb 1) (Za (Zb 2) (Zg)))) (Zg))) (Zbu (Zg)))) (Zau (Zax Za1 (Za (e2 Zao (e2 Zao (Zb 3) (Zb 5)) (Zb 4)) (Zg))))))
def ZcD:F3:=mkF 3 6 Zg7
def ZeH:S3:=Zy (sIf (e2 ZaH (e2 Zf (Zb 0) (eC (.int 0))) (eC (.str [115,101,116]))) (Zau (Zt ZcD (Za (Zb 2) (Za (e2 Zf (Zb 1) (e2 Zf (Zb 0) (eC (.int 1)))) (Za (e2 Zf (Zb 1) (e2 Zf (Zb 0) (eC (.int 2)))) (Zg)))))) (Zab)) (Zau (Zb 2))
def ZcT:F3:=mkF 3 3 ZeH
def ZeF:S3:=Zy (ZaF 2 (e2 Zf (Zb 1) (eC (.int 0)))) (Zy (ZaF 3 (e2 Zf (Zb 1) (eC (.int 1)))) (Zy (ZaF 4 (e2 Zf (Zb 1) (eC (.int 2)))) (Zy (ZaF 5 (e2 Zf (Zb 0) (Zb 2))) (Zy (sIf (e2 ZaH (e2 Zf (Zb 5) (eC (.int 0))) (eC (.str [104,97,108,116]))) (Zau (eC .non)) (Zab)) (Zau (Zbv (Za (Zt ZcL (Za (Zb 5) (Za (Zb 2) (Za (Zb 3) (Zg))))) (Za (Zt ZcX (Za (Zb 5) (Za (Zb 3) (Za (Zb 4) (Zg))))) (Za (Zt ZcT (Za (Zb 5) (Za (Zb 3) (Za (Zb 4) (Zg))))) (Zg))))))))))
def ZaU:F3:=mkF 2 6 ZeF
def ZmC:S3:=Zy (ZaF 2 (e2 Zf (Zb 1) (e1 ZbE (eC (.int 1))))) (Zau (e2 ZaH (e2 Zf (e2 Zf (Zb 0) (e2 Zf (Zb 2) (eC (.int 0)))) (eC (.int 0))) (eC (.str [104,97,108,116]))))
def ZdK:F3:=mkF 2 3 ZmC
def ZqQ:S3:=Zy (ZaF 3 (Zbu (Za (Zt ZaT (Za (Zb 1) (Zg))) (Zg)))) (Zy (Zjr (Zcq (e2 ZgW (Zax Za2 (Za (Zb 3) (Zg))) (Zb 2)) (e1 Zbp (Zt ZdK (Za (Zb 0) (Za (Zb 3) (Zg)))))) (ZaJ (ZaR tyL ZaD (Zb 3) (Za (Zt ZaU (Za (Zb 0) (Za (e2 Zf (Zb 3) (e1 ZbE (eC (.int 1)))) (Zg)))) (Zg))))) (Zau (Zb 3)))
def Zh4:F3:=mkF 3 4 ZqQ
def Zma:S3:=Zy (ZaF 2 (Zbu (Zg))) (Zy (ZfR (Zdl (eSl (Zb 1) (ZaY) (ZaP (e1 ZbE (eC (.int 1)))))) (ZbB 3) (Zy (ZaF 4 (e2 Zf (Zb 0) (e2 Zf (Zb 3) (eC (.int 0))))) (sIf (e2 ZaH (e2 Zf (Zb 4) (eC (.int 0))) (eC (.str [116,101,108,108]))) (ZaJ (ZaR tyL ZaD (Zb 2) (Za (e2 Zf (e2 Zf (Zb 3) (eC (.int 1))) (e2 Zf (Zb 4) (eC (.int 1)))) (Zg)))) (Zab)))) (Zau (Zb 2)))
def Zh2:F3:=mkF 2 5 Zma
def Zd4:S3:=Zy (ZaF 1 (eIf (ZaR tyS ZaZ (Zb 0) (Za (eC (.str [45])) (Zg))) (eSl (Zb 0) (ZaP (eC (.int 1))) (ZaY)) (Zb 0))) (Zy (sIf (eOr (e2 Zis (Zax Za2 (Za (Zb 1) (Zg))) (eC (.int 1))) (e2 ZgT (Zax Za2 (Za (Zb 1) (Zg))) (g_MOST_FIGURES))) (Zau (eC (.bl false))) (Zab)) (Zy (sIf (ZaR tyS ZaZ (Zb 1) (Za (eC (.str [48])) (Zg))) (Zau (e2 ZaH (Zb 0) (eC (.str [48])))) (Zab)) (Zau (Zax Ziv (Za (eLC (Zdl (Zb 1)) 1 (ZbB 2) [] (e2 Zjg (Zb 2) (g_FIGURES))) (Zg))))))
def ZbG:F3:=mkF 1 2 Zd4
def Ze1:S3:=Zau (Zcq (e2 ZqI (Zb 0) (eC (.int 0))) (e2 Zis (Zb 0) (Zb 1)))
def Za6:F3:=mkF 2 2 Ze1
def ZfS:S3:=Zy (ZaF 1 (ZaR tyS Zed (Zb 0) (Za (eC (.str [32])) (Zg)))) (Zy (ZaF 2 (e1 (ZgV Za3) (e2 Zf (Zb 1) (eC (.int 0))))) (Zy (sIf (eOr (e2 ZjI (Zb 2) (eC .non)) (e2 ZeP (Zax Za2 (Za (Zb 1) (Zg))) (e2 Zao (Zax Za2 (Za (Zb 2) (Zg))) (eC (.int 1))))) (Zau (eC .non)) (Zab)) (Zy (ZaF 3 (Zbu (Za (e2 Zf (Zb 1) (eC (.int 0))) (Zg)))) (Zy (Zfe (Zg1 (Zb 2) (eSl (Zb 1) (ZaP (eC (.int 1))) (ZaY))) (Zgx [4,5]) (Zy (sIf (e1 Zbp (Zt ZbG (Za (Zb 5) (Zg)))) (Zau (eC .non)) (Zab)) (Zy (ZaF 6 (Zax Zgj (Za (Zb 5) (Zg)))) (Zy (sIf (Zcq (e2 ZaH (Zb 4) (eC (.str [98,111,120]))) (e1 Zbp (Zt Za6 (Za (Zb 6) (Za (g_BOXES) (Zg)))))) (Zau (eC .non)) (Zab)) (ZaJ (ZaR tyL ZaD (Zb 3) (Za (Zb 6) (Zg)))))))) (Zau (Zax Za1 (Za (Zb 3) (Zg))))))))
def Zc8:F3:=mkF 1 7 ZfS
def Zce:S3:=Zy (sIf (e2 Zf5 (e2 Zf (e2 Zf (Zb 0) (e1 ZbE (eC (.int 1)))) (eC (.int 0))) (Zbv (Za (eC (.str [104,97,108,116])) (Za (eC (.str [106,117,109,112])) (Zg))))) (Zj6) (Zab)) (ZfR (Zdl (Zb 0)) (ZbB 1) (Zfe (Zg1 (e1 (Ze3 Za3) (e2 Zf (Zb 1) (eC (.int 0)))) (eSl (Zb 1) (ZaP (eC (.int 1))) (ZaY))) (Zgx [2,3]) (sIf (Zcq (e2 ZaH (Zb 2) (eC (.str [114,111,119]))) (e1 Zbp (Zt Za6 (Za (Zb 3) (Za (Zax Za2 (Za (Zb 0) (Zg))) (Zg)))))) (Zj6) (Zab))))
def Zcj:F3:=mkF 1 4 Zce
def ZeX:S3:=Zy (ZaF 1 (Zbu (Zg))) (Zy (Zfe (Zjp (ZaR tyS Zed (Zb 0) (Za (eC (.str [10])) (Zg)))) (Zgx [2,3]) (Zy (ZaF 4 (Zt Zc8 (Za (Zb 3) (Zg)))) (Zy (sIf (e2 ZjI (Zb 4) (eC .non)) (Zj6) (Zab)) (ZaJ (ZaR tyL ZaD (Zb 1) (Za (Zb 4) (Zg))))))) (Zy (ZaJ (Zt Zcj (Za (Zb 1) (Zg)))) (Zau (Zax Za1 (Za (Zb 1) (Zg))))))
def ZcI:F3:=mkF 1 5 ZeX
def ZcM:S3:=Zy (sIf (e2 Zis (Zb 1) (Zax Za2 (Za (Zb 0) (Zg)))) (Zau (e2 Zf (Zb 0) (Zb 1))) (Zab)) (Zau (eC (.int 0)))
def Zad:F3:=mkF 2 2 ZcM
def Zd8:S3:=Zy (ZaF 1 (e2 Za7 (Zb 0) (eC (.int 6)))) (Zy (ZaF 2 (Zbu (Za (e2 Zdo (e2 ZaB (Zb 1) (eC (.int 5))) (eC (.int 2))) (Za (e2 ZaB (Zb 1) (eC (.int 3))) (Za (e2 ZaB (Zb 1) (eC (.int 4))) (Za (e2 Zdo (e2 ZaB (Zb 1) (eC (.int 9))) (eC (.int 4))) (Za (e2 ZaB (Zb 1) (e2 ZiH (eC (.int 10)) (eC (.int 30)))) (Za (e1 ZbE (e2 ZaB (Zb 1) (e2 ZiH (eC (.int 10)) (eC (.int 30))))) (Zg))))))))) (Zau (e2 Zf (Zb 2) (e2 ZaB (Zb 0) (eC (.int 6))))))
def ZaS:F3:=mkF 1 3 Zd8
def ZfQ:S3:=Zy (ZaF 3 (Zbu (Za (eC (.str [112,117,116])) (Za (eC (.str [112,117,116])) (Za (eC (.str [97,100,100])) (Za (eC (.str [115,117,98])) (Za (eC (.str [109,111,114,101])) (Za (eC (.str [103,101,116])) (Za (eC (.str [103,101,116])) (Za (eC (.str [115,101,116])) (Za (eC (.str [115,101,116])) (Za (eC (.str [106,117,109,112])) (Za (eC (.str [119,104,101,110])) (Za (eC (.str [119,104,101,110])) (Za (eC (.str [116,101,108,108])) (Za (eC (.str [116,101,108,108])) (Zg))))))))))))))))) (Zy (ZaF 4 (e2 Zf (e2 Zao (Zb 3) (Zbu (Za (eC (.str [97,100,100])) (Za (eC (.str [115,101,116])) (Za (eC (.str [104,97,108,116])) (Zg)))))) (e2 ZaB (Zb 0) (eC (.int 17))))) (Zy (ZaF 5 (e2 Za7 (Zb 0) (eC (.int 17)))) (Zy (ZaF 6 (Zbu (Za (e2 ZaB (Zb 5) (eC (.int 8))) (Za (e2 ZaB (e2 Za7 (Zb 5) (eC (.int 8))) (eC (.int 8))) (Za (e2 ZaB (e2 Za7 (Zb 5) (eC (.int 64))) (eC (.int 8))) (Zg)))))) (Zy (ZaF 7 (e2 Zao (e2 Zao (Zb 1) (eC (.int 1))) (e2 ZaB (e2 Za7 (Zb 5) (eC (.int 32))) (e2 Zdo (Zb 2) (Zb 1))))) (Zy (sIf (e2 ZaH (e2 ZaB (e2 Za7 (Zb 5) (eC (.int 8))) (eC (.int 4))) (eC (.int 1))) (ZaF 7 (e2 ZaB (e2 Za7 (Zb 5) (eC (.int 32))) (e2 Zao (Zb 1) (eC (.int 1))))) (Zab)) (Zy (sIf (e2 ZaH (Zb 4) (eC (.str [112,117,116]))) (Zau (Zbv (Za (Zb 4) (Za (e2 Zf (Zb 6) (eC (.int 0))) (Za (Zt ZaS (Za (e2 Za7 (Zb 5) (eC (.int 8))) (Zg))) (Zg)))))) (Zab)) (Zy (sIf (e2 ZaH (Zb 4) (eC (.str [106,117,109,112]))) (Zau (Zbv (Za (Zb 4) (Za (Zb 7) (Zg))))) (Zab)) (Zy (sIf (e2 ZaH (Zb 4) (eC (.str [119,104,101,110]))) (Zau (Zbv (Za (Zb 4) (Za (e2 Zf (Zb 6) (eC (.int 0))) (Za (Zb 7) (Zg)))))) (Zab)) (Zy (ZaF 8 (Zos (ZdP (eC (.str [97,100,100])) (eC (.int 3)) (ZdP (eC (.str [115,117,98])) (eC (.int 3)) (ZdP (eC (.str [109,111,114,101])) (eC (.int 3)) (ZdP (eC (.str [103,101,116])) (eC (.int 2)) (ZdP (eC (.str [115,101,116])) (eC (.int 2)) (ZdP (eC (.str [116,101,108,108])) (eC (.int 1)) (ZdP (eC (.str [104,97,108,116])) (eC (.int 0)) (ZsH)))))))))) (Zau (Zax Za1 (Za (e2 Zao (Zbu (Za (Zb 4) (Zg))) (eSl (Zb 6) (ZaY) (ZaP (e2 Zcp (Zb 8) (Zb 4))))) (Zg)))))))))))))
def Zcw:F3:=mkF 3 9 ZfQ
def Zff:S3:=Zy (ZaF 1 (Zax Za2 (Za (Zb 0) (Zg)))) (Zy (ZaF 2 (eLC (Zbq (Zb 1)) 1 (ZbB 3) [] (Zt Zcw (Za (e2 Zf (Zb 0) (Zb 3)) (Za (Zb 3) (Za (Zb 1) (Zg))))))) (Zy (sIf (e2 ZaH (e2 ZaB (Zax ZgO (Za (Zb 0) (Zg))) (eC (.int 4))) (eC (.int 1))) (Zau (Zax Za1 (Za (e2 Zao (Zb 2) (Zbu (Za (Zbv (Za (eC (.str [106,117,109,112])) (Za (e2 ZaB (e2 Za7 (Zax ZgO (Za (Zb 0) (Zg))) (eC (.int 4))) (e2 Zao (Zb 1) (eC (.int 1)))) (Zg)))) (Zg)))) (Zg)))) (Zab)) (Zau (Zax Za1 (Za (e2 Zao (Zb 2) (Zbu (Za (Zbv (Za (eC (.str [104,97,108,116])) (Zg))) (Zg)))) (Zg))))))
def Zdm:F3:=mkF 1 3 Zff
def ZfM:S3:=Zy (ZaF 2 (Zbu (Za (Zbv (Za (eC (.str [106,117,109,112])) (Za (e2 Zao (Zb 1) (eC (.int 1))) (Zg)))) (Zg)))) (Zy (ZfR (Zbq (Zb 1)) (ZbB 3) (ZaJ (ZaR tyL ZaD (Zb 2) (Za (e2 Zf (Zbu (Za (Zbv (Za (eC (.str [116,101,108,108])) (Za (e2 ZaB (Zb 3) (eC (.int 8))) (Zg)))) (Za (Zbv (Za (eC (.str [112,117,116])) (Za (e2 ZaB (Zb 3) (eC (.int 8))) (Za (Zb 3) (Zg))))) (Za (Zbv (Za (eC (.str [104,97,108,116])) (Zg))) (Zg))))) (e2 ZaB (Zb 3) (eC (.int 3)))) (Zg))))) (Zy (ZfR (Zdl (Zb 0)) (ZbB 4) (Zy (sIf (eOr (e2 ZaH (e2 Zf (Zb 4) (eC (.int 0))) (eC (.str [106,117,109,112]))) (e2 ZaH (e2 Zf (Zb 4) (eC (.int 0))) (eC (.str [119,104,101,110])))) (ZaF 4 (e2 Zao (eSl (Zb 4) (ZaY) (ZaP (e1 ZbE (eC (.int 1))))) (Zbv (Za (e2 Zao (e2 Zao (e2 Zf (Zb 4) (e1 ZbE (eC (.int 1)))) (Zb 1)) (eC (.int 1))) (Zg))))) (Zab)) (ZaJ (ZaR tyL ZaD (Zb 2) (Za (Zb 4) (Zg)))))) (Zau (Zax Za1 (Za (Zb 2) (Zg))))))
def ZdO:F3:=mkF 2 5 ZfM
def Zfb:S3:=Zau (ZaR tyS ZfB (eC (.str [10])) (Za (eLC (Zdl (Zb 0)) 1 (ZbB 1) [] (ZaR tyS ZfB (eC (.str [32])) (Za (eLC (Zdl (Zb 1)) 1 (ZbB 2) [] (Zax ZkO (Za (Zb 2) (Zg)))) (Zg)))) (Zg)))
def Zbo:F3:=mkF 1 1 Zfb
def Ze8:S3:=Zy (sIf (e2 ZaH (e2 Zf (Zb 0) (eC (.int 0))) (eC (.str [106,117,109,112]))) (Zau (e2 Zf (Zb 0) (eC (.int 1)))) (Zab)) (Zy (sIf (Zcq (e2 ZaH (e2 Zf (Zb 0) (eC (.int 0))) (eC (.str [119,104,101,110]))) (e2 ZgT (e2 Zf (Zb 2) (e2 Zf (Zb 0) (eC (.int 1)))) (eC (.int 0)))) (Zau (e2 Zf (Zb 0) (eC (.int 2)))) (Zab)) (Zy (sIf (e2 ZaH (e2 Zf (Zb 0) (eC (.int 0))) (eC (.str [112,117,116]))) (Zg4 (Zb 2) (e2 Zf (Zb 0) (eC (.int 1))) (e2 Zf (Zb 0) (eC (.int 2)))) (Zab)) (Zy (sIf (e2 ZaH (e2 Zf (Zb 0) (eC (.int 0))) (eC (.str [97,100,100]))) (Zg4 (Zb 2) (e2 Zf (Zb 0) (eC (.int 1))) (e2 Zao (e2 Zf (Zb 2) (e2 Zf (Zb 0) (eC (.int 2)))) (e2 Zf (Zb 2) (e2 Zf (Zb 0) (eC (.int 3)))))) (Zab)) (Zy (sIf (e2 ZaH (e2 Zf (Zb 0) (eC (.int 0))) (eC (.str [115,117,98]))) (Zg4 (Zb 2) (e2 Zf (Zb 0) (eC (.int 1))) (e2 Zdo (e2 Zf (Zb 2) (e2 Zf (Zb 0) (eC (.int 2)))) (e2 Zf (Zb 2) (e2 Zf (Zb 0) (eC (.int 3)))))) (Zab)) (Zy (sIf (e2 ZaH (e2 Zf (Zb 0) (eC (.int 0))) (eC (.str [109,111,114,101]))) (Zg4 (Zb 2) (e2 Zf (Zb 0) (eC (.int 1))) (Zax Zgj (Za (e2 ZgT (e2 Zf (Zb 2) (e2 Zf (Zb 0) (eC (.int 2)))) (e2 Zf (Zb 2) (e2 Zf (Zb 0) (eC (.int 3))))) (Zg)))) (Zab)) (Zy (sIf (e2 ZaH (e2 Zf (Zb 0) (eC (.int 0))) (eC (.str [103,101,116]))) (Zg4 (Zb 2) (e2 Zf (Zb 0) (eC (.int 1))) (ZaR ZjN Zkg (Zb 3) (Za (e2 Zf (Zb 2) (e2 Zf (Zb 0) (eC (.int 2)))) (Za (eC (.int 0)) (Zg))))) (Zab)) (Zy (sIf (e2 ZaH (e2 Zf (Zb 0) (eC (.int 0))) (eC (.str [115,101,116]))) (Zmt (Zb 3) (e2 Zf (Zb 2) (e2 Zf (Zb 0) (eC (.int 1)))) (e2 Zf (Zb 2) (e2 Zf (Zb 0) (eC (.int 2))))) (Zab)) (Zau (e2 Zao (Zb 1) (eC (.int 1)))))))))))
def ZbD:F3:=mkF 4 4 Ze8
def Zf8:S3:=Zy (ZaF 3 (Zax ZdG (Za (ZpN (Zb 2) 1 (ZbB 4) [e2 ZeP (e2 Zcp (Zb 2) (Zb 4)) (eC (.int 0))] (Zbv (Za (Zb 4) (Za (e2 Zcp (Zb 2) (Zb 4)) (Zg))))) (Zg)))) (Zau (Zbv (Za (Zb 0) (Za (Zax Za1 (Za (Zb 1) (Zg))) (Za (Zax Za1 (Za (Zb 3) (Zg))) (Zg))))))
def Zbr:F3:=mkF 3 4 Zf8
def ZfA:S3:=Zy (ZaF 3 (eC (.int 0))) (Zy (ZaF 1 (Zax Zhz (Za (Zb 1) (Zg)))) (Zy (ZaF 4 (Zpx)) (Zy (ZaF 5 (Zbu (Za (Zt Zbr (Za (Zb 3) (Za (Zb 1) (Za (Zb 4) (Zg))))) (Zg)))) (Zy (ZaF 6 (Zbu (Zg))) (Zy (Zjr (Zcq (e2 ZeP (e2 Zf (e2 Zf (Zb 0) (Zb 3)) (eC (.int 0))) (eC (.str [104,97,108,116]))) (e2 ZgW (Zax Za2 (Za (Zb 5) (Zg))) (Zb 2))) (Zy (ZaJ (ZaR tyL ZaD (Zb 6) (Za (Zbu (Zg)) (Zg)))) (Zy (sIf (e2 ZaH (e2 Zf (e2 Zf (Zb 0) (Zb 3)) (eC (.int 0))) (eC (.str [116,101,108,108]))) (ZaJ (ZaR tyL ZaD (e2 Zf (Zb 6) (e1 ZbE (eC (.int 1)))) (Za (e2 Zf (Zb 1) (e2 Zf (e2 Zf (Zb 0) (Zb 3)) (eC (.int 1)))) (Zg)))) (Zab)) (Zy (ZaF 3 (Zt ZbD (Za (e2 Zf (Zb 0) (Zb 3)) (Za (Zb 3) (Za (Zb 1) (Za (Zb 4) (Zg))))))) (ZaJ (ZaR tyL ZaD (Zb 5) (Za (Zt Zbr (Za (Zb 3) (Za (Zb 1) (Za (Zb 4) (Zg))))) (Zg)))))))) (Zau (Zbu (Za (Zb 5) (Za (Zb 6) (Zg))))))))))
def ZbP:F3:=mkF 3 7 ZfA
def Zbe (rec:F3):S3:=Zy (sIf (e1 (Zgg .tuple .list) (Zb 1)) (Zy (sIf (eOr (e2 ZeP (e1 (Zeg .tuple) (Zb 0)) (e1 (Zeg .tuple) (Zb 1))) (e1 Zbp (e1 (Zgg .tuple .list) (Zb 0)))) (Zau (eC (.bl false))) (Zab)) (Zau (Zcq (e2 ZaH (Zax Za2 (Za (Zb 0) (Zg))) (Zax Za2 (Za (Zb 1) (Zg)))) (Zax Ziv (Za (eLC (Zbq (Zax Za2 (Za (Zb 1) (Zg)))) 1 (ZbB 2) [] (Zt rec (Za (e2 Zf (Zb 0) (Zb 2)) (Za (e2 Zf (Zb 1) (Zb 2)) (Zg))))) (Zg)))))) (Zab)) (Zy (sIf (eOr (e1 (Zeg .bool) (Zb 1)) (e1 (Zeg .bool) (Zb 0))) (Zau (Zcq (e1 (Zeg .bool) (Zb 1)) (Zcq (e1 (Zeg .bool) (Zb 0)) (e2 ZaH (Zb 0) (Zb 1))))) (Zab)) (Zau (Zcq (e1 (Zeg .int) (Zb 0)) (e2 ZaH (Zb 0) (Zb 1)))))
def ZaO:Nat -> F3
 | 0=>mkF 2 2 Zj6
 | n + 1=>mkF 2 2 (Zbe (ZaO n))
def ZaC:F3:=ZaO 7
def Zc3:S3:=Zy (sIf (e1 Zbp (Zt ZaC (Za (Zt ZaT (Za (Zb 1) (Zg))) (Za (e2 Zf (Zb 2) (eC (.int 0))) (Zg))))) (Zau (eC (.bl false))) (Zab)) (Zy (ZfR (Zbq (e2 Zdo (Zax Za2 (Za (Zb 2) (Zg))) (eC (.int 1)))) (ZbB 3) (sIf (e1 Zbp (Zt ZaC (Za (Zt ZaU (Za (Zb 0) (Za (e2 Zf (Zb 2) (Zb 3)) (Zg)))) (Za (e2 Zf (Zb 2) (e2 Zao (Zb 3) (eC (.int 1)))) (Zg))))) (Zau (eC (.bl false))) (Zab))) (Zau (eOr (e2 ZeP (e2 Zf (e2 Zf (Zb 0) (e2 Zf (e2 Zf (Zb 2) (e1 ZbE (eC (.int 1)))) (eC (.int 0)))) (eC (.int 0))) (eC (.str [104,97,108,116]))) (e2 ZjI (Zt ZaU (Za (Zb 0) (Za (e2 Zf (Zb 2) (e1 ZbE (eC (.int 1)))) (Zg)))) (eC .non)))))
def Zbn:F3:=mkF 3 4 Zc3
def Zd1:S3:=Zy (ZaF 3 (Zbu (Zg))) (Zy (ZfR (Zdl (eSl (Zb 2) (ZaY) (ZaP (e2 Zdo (Zax Za2 (Za (Zb 1) (Zg))) (eC (.int 1)))))) (ZbB 4) (ZaF 3 (e2 Zao (Zb 3) (Zb 4)))) (Zy (ZaF 5 (Zt Zh2 (Za (Zb 0) (Za (Zb 1) (Zg))))) (Zy (sIf (e1 Zbp (Zt ZaC (Za (Zb 5) (Za (Zb 3) (Zg))))) (Zau (eC (.bl false))) (Zab)) (Zy (ZaJ (ZaR tyL ZaD (Zb 5) (Za (eC (.int 7)) (Zg)))) (Zy (sIf (e1 Zbp (Zt ZaC (Za (Zt Zh2 (Za (Zb 0) (Za (Zb 1) (Zg)))) (Za (Zb 3) (Zg))))) (Zau (eC (.bl false))) (Zab)) (Zau (Zt ZaC (Za (Zt ZdK (Za (Zb 0) (Za (Zb 1) (Zg)))) (Za (e2 ZaH (e2 Zf (e2 Zf (Zb 0) (e2 Zf (e2 Zf (Zb 1) (e1 ZbE (eC (.int 1)))) (eC (.int 0)))) (eC (.int 0))) (eC (.str [104,97,108,116]))) (Zg))))))))))
def Zbj:F3:=mkF 3 6 Zd1
def ZoS:S3:=Zy (ZaF 1 (Zt Zdm (Za (eSl (Zb 0) (ZaY) (ZaP (eC (.int 60)))) (Zg)))) (Zy (sIf (e2 ZaH (e2 ZaB (Zt Zad (Za (Zb 0) (Za (eC (.int 4)) (Zg)))) (eC (.int 4))) (eC (.int 1))) (ZaF 1 (Zt ZdO (Za (Zb 1) (Za (e2 ZaB (e2 Za7 (Zt Zad (Za (Zb 0) (Za (eC (.int 4)) (Zg)))) (eC (.int 4))) (eC (.int 331))) (Zg))))) (Zab)) (Zy (ZaF 2 (Zax Za1 (Za (eLC (Zbq (eC (.int 8))) 1 (ZbB 8) [] (Zt ZaS (Za (e2 Zao (e2 Za7 (Zt Zad (Za (Zb 0) (Za (Zb 8) (Zg)))) (e2 Zao (Zb 8) (eC (.int 2)))) (e2 Zgk (eC (.int 5)) (Zb 8))) (Zg)))) (Zg)))) (Zy (ZaF 3 (e2 ZaB (Zt Zad (Za (Zb 0) (Za (eC (.int 1)) (Zg)))) (eC (.int 61)))) (Zy (Zlc (Zt ZbP (Za (Zb 1) (Za (Zb 2) (Za (Zb 3) (Zg))))) [4,5]) (Zy (sIf (Zcq (e2 ZaH (e2 ZaB (Zt Zad (Za (Zb 0) (Za (eC (.int 2)) (Zg)))) (eC (.int 2))) (eC (.int 1))) (e2 ZgW (Zax Za2 (Za (Zt Zbo (Za (Zb 1) (Zg))) (Zg))) (eC (.int 4000)))) (ZaF 1 (Zt ZcI (Za (Zt Zbo (Za (Zb 1) (Zg))) (Zg)))) (Zab)) (Zy (ZaF 6 (Zt Zh4 (Za (Zb 1) (Za (Zb 2) (Za (Zb 3) (Zg)))))) (Zy (sIf (e1 Zbp (Zt ZaC (Za (Zb 6) (Za (Zb 4) (Zg))))) (Zau (eC (.bl false))) (Zab)) (Zy (ZaJ (ZaR tyL ZaD (Zb 6) (Za (e2 Zf (Zb 6) (eC (.int 0))) (Zg)))) (Zy (sIf (e1 Zbp (Zt ZaC (Za (Zt Zh4 (Za (Zb 1) (Za (Zb 2) (Za (Zb 3) (Zg))))) (Za (Zb 4) (Zg))))) (Zau (eC (.bl false))) (Zab)) (Zy (sIf (e1 Zbp (Zt Zbn (Za (Zb 1) (Za (Zb 2) (Za (Zb 4) (Zg)))))) (Zau (eC (.bl false))) (Zab)) (Zy (ZaF 7 (e2 Zao (eC (.int 1)) (e2 ZaB (Zt Zad (Za (Zb 0) (Za (eC (.int 3)) (Zg)))) (Zax Za2 (Za (Zb 4) (Zg)))))) (Zau (Zcq (Zt Zbj (Za (Zb 1) (Za (Zb 4) (Za (Zb 5) (Zg))))) (Zt Zbj (Za (Zb 1) (Za (eSl (Zb 4) (ZaY) (ZaP (Zb 7))) (Za (Zb 5) (Zg))))))))))))))))))
def ZmE:F3:=mkF 1 8 ZoS
end
end Law
namespace Law
open PySem PySem.Spec PyProof.Rows L2 L3
noncomputable def top (i:Nat):Stmt:=PySem.Challenge.pw_stepledger_k14_whole_run_walked.main.body.getD i (.Pass ⟨0,0,0,0⟩)
noncomputable abbrev ZbQ:Stmt:=top 1
noncomputable abbrev Zca:Stmt:=top 2
noncomputable abbrev Zcg:Stmt:=top 3
noncomputable abbrev Zck:Stmt:=top 4
noncomputable abbrev Zek:Stmt:=top 5
noncomputable abbrev Zci:Stmt:=top 6
noncomputable abbrev Zdd:Stmt:=top 7
noncomputable abbrev Zcc:Stmt:=top 8
noncomputable abbrev ZcB:Stmt:=top 9
noncomputable abbrev Zi3:Stmt:=top 10
noncomputable abbrev ZgX:Stmt:=top 11
noncomputable abbrev Zfo:Stmt:=top 12
noncomputable abbrev ZcC:Stmt:=top 22
noncomputable abbrev Zcy:Stmt:=top 23
noncomputable abbrev Zc9:Stmt:=top 24
noncomputable abbrev Zbg:Stmt:=top 25
noncomputable abbrev ZcG:Stmt:=top 26
noncomputable abbrev Zbz:Stmt:=top 28
noncomputable abbrev ZbR:Stmt:=top 29
noncomputable abbrev Zda:Stmt:=top 30
noncomputable abbrev ZcE:Stmt:=top 31
noncomputable abbrev Zc7:Stmt:=top 32
noncomputable abbrev ZcF:Stmt:=top 33
noncomputable abbrev ZcA:Stmt:=top 34
noncomputable abbrev Zcl:Stmt:=top 35
noncomputable abbrev ZbO:Stmt:=top 36
noncomputable abbrev ZcH:Stmt:=top 37
noncomputable abbrev Za8:Stmt:=top 38
noncomputable abbrev ZbA:Stmt:=top 39
noncomputable abbrev Zf9:Stmt:=top 40
structure Txt (K:W.Frag) (mg:Str -> Option Value):Prop where
  kin:True
  m_all:mg "all" = none
  m_bool:mg "bool" = none
  m_dict:mg "dict" = none
  m_enumerate:mg "enumerate" = none
  m_int:mg "int" = none
  m_isinstance:mg "isinstance" = none
  m_len:mg "len" = none
  m_list:mg "list" = none
  m_range:mg "range" = none
  m_sorted:mg "sorted" = none
  m_str:mg "str" = none
  m_sum:mg "sum" = none
  m_tuple:mg "tuple" = none
  m_zip:mg "zip" = none
  g_BOXES:∃ t,mg "BOXES" = some (.int 8 t)
  g_FIGURES:∃ t,mg "FIGURES" = some (.str "0123456789" t)
  t_FORMS:∃ a,mg "FORMS" = some (.ref a) /\ Zkm K a Za3
  g_MOST_FIGURES:∃ t,mg "MOST_FIGURES" = some (.int 60 t)
theorem Zpz {X:Cx} {pos:Pos} (T:Txt X.K X.mg) (hg:Gl X "BOXES":=by rfl):C3 X (.Name "BOXES" pos) g_BOXES:=by
  obtain ⟨t,e⟩:=T.g_BOXES;exact ZlJ (v:=.int 8) e ⟨t,rfl⟩ (fun _ _=>Rep.int) hg
theorem Zlt {X:Cx} {pos:Pos} (T:Txt X.K X.mg) (hg:Gl X "FIGURES":=by rfl):C3 X (.Name "FIGURES" pos) g_FIGURES:=by
  obtain ⟨t,e⟩:=T.g_FIGURES;refine ZlJ (v:=.str ⟨([48,49,50,51,52,53,54,55,56,57]:List Nat).toArray⟩) e ⟨t,?_⟩ (fun _ _=>Rep.str) hg;exact congrArg (fun z=>Value.str z t) (by decide +kernel)
theorem Zm6 {X:Cx} {e:Expr} {npos apos cpos:Pos} {g:E3} (T:Txt X.K X.mg) (he:C3 X e g) (m:M1 X (.Name "FORMS" npos) "get" apos e cpos:=by exact ⟨rfl,rfl,rfl,rfl⟩) (hg:Gl X "FORMS":=by rfl):C3 X (.Call (.Attribute (.Name "FORMS" npos) "get" apos) [e] [] cpos) (e1 (ZgV Za3) g):=by
  obtain ⟨a,hm,ht⟩:=T.t_FORMS;exact ZsF hm ht he m hg
theorem ZnC {X:Cx} {e:Expr} {npos pos:Pos} {g:E3} (T:Txt X.K X.mg) (he:C3 X e g) (hs:Znz e:=by exact fun _ _=>rfl) (hg:Gl X "FORMS":=by rfl):C3 X (.Subscript (.Name "FORMS" npos) e pos) (e1 (Ze3 Za3) g):=by
  obtain ⟨a,hm,ht⟩:=T.t_FORMS;exact Zso hm ht he hs hg
theorem Zhb {X:Cx} {pos:Pos} (T:Txt X.K X.mg) (hg:Gl X "MOST_FIGURES":=by rfl):C3 X (.Name "MOST_FIGURES" pos) g_MOST_FIGURES:=by
  obtain ⟨t,e⟩:=T.g_MOST_FIGURES;exact ZlJ (v:=.int 60) e ⟨t,rfl⟩ (fun _ _=>Rep.int) hg
section
variable {P:Yaf} {w:World} {K:W.Frag} {mg:Str -> Option Value} {base:Heap}
theorem Zhs:Zaz ["boxes"] ["boxes"] (Zn ZbQ):=⟨rfl,rfl,rfl,by decide +kernel,rfl,by decide +kernel,by decide +kernel⟩
theorem ZhJ (A:Zay K mg "first_state" ZbQ ["boxes"]) (T:Txt K mg):Fn3 P w K mg base 1 "first_state" ["boxes"] ZaT:=
  Fn3.of (N:=["boxes"]) (k:=0) A Zhs fun f cdv A outer s H E hr=>by
    have hu:=ZcK hr;unfold Zee;refine Zr ?_;refine Zag ?_;refine ZcV ?_;refine Zc ?_ ?_
    ·exact Zj
    ·exact Zc (ZdD (T:="tuple") ZcW T.m_tuple Zb5 (Zc (Zd 0) Zi)) (Zc (ZcV Zi) Zi)
theorem Zil:Zaz ["row","place","boxes"] ["row","place","boxes"] (Zn Zcg):=⟨rfl,rfl,rfl,by decide +kernel,rfl,by decide +kernel,by decide +kernel⟩
theorem Ziy (A:Zay K mg "next_place" Zcg ["row","place","boxes"]) (T:Txt K mg):Fn3 P w K mg base 1 "next_place" ["row","place","boxes"] ZcL:=
  Fn3.of (N:=["row","place","boxes"]) (k:=0) A Zil fun f cdv A outer s H E hr=>by
    have hu:=ZcK hr;unfold Zga;refine Zh ?_ ?_
    ·refine ZaL ?_ ?_ ?_
     ·exact Zas ((Zb7 hu)) (Zw Zv (Zd 0) Zj) Zan
     ·exact Zr (Zag (Zw Zv (Zd 0) Zj))
     ·exact Zai
    ·refine Zh ?_ ?_
     ·refine ZaL ?_ ?_ ?_
      ·refine CW.ct ?_
       refine ZfK ?_ ?_
       ·exact Zas ((Zb7 hu)) (Zw Zv (Zd 0) Zj) Zan
       ·exact ZeR (Zas Znh (Zw Zv (Zd 2) (Zw Zv (Zd 0) Zj)) Zj)
      ·exact Zr (Zag (Zw Zv (Zd 0) Zj))
      ·exact Zai
     ·exact Zr (Zag (Zam Zbx (Zd 1) Zj))
theorem ZnI:Zaz ["name","one","other"] ["name","one","other"] (Zn Zek):=⟨rfl,rfl,rfl,by decide +kernel,rfl,by decide +kernel,by decide +kernel⟩
theorem ZnA (A:Zay K mg "worked" Zek ["name","one","other"]) (T:Txt K mg):Fn3 P w K mg base 1 "worked" ["name","one","other"] Zb8:=
  Fn3.of (N:=["name","one","other"]) (k:=0) A ZnI fun f cdv A outer s H E hr=>by
    have hu:=ZcK hr;unfold Zfg;refine Zh ?_ ?_
    ·exact ZaL (Zas ((Zb7 hu)) (Zd 0) Zan) (Zr (Zag (Zam Zbx (Zd 1) (Zd 2)))) Zai
    ·refine Zh ?_ ?_
     ·exact ZaL (Zas ((Zb7 hu)) (Zd 0) Zan) (Zr (Zag (Zam Zh7 (Zd 1) (Zd 2)))) Zai
     ·exact Zr (Zag (ZrQ (Zas Znh (Zd 1) (Zd 2)) Zj Zj))
theorem ZkJ:Zaz ["boxes","box","value"] ["boxes","box","value"] (Zn Zdd):=⟨rfl,rfl,rfl,by decide +kernel,rfl,by decide +kernel,by decide +kernel⟩
theorem Zll (A:Zay K mg "with_box" Zdd ["boxes","box","value"]) (T:Txt K mg):Fn3 P w K mg base 1 "with_box" ["boxes","box","value"] Zb3:=
  Fn3.of (N:=["boxes","box","value"]) (k:=0) A ZkJ fun f cdv A outer s H E hr=>by
    have hu:=ZcK hr;unfold ZhZ;refine Zr ?_;refine Zag ?_;refine Zam ?_ ?_ ?_
    ·exact Zbx
    ·exact Zam Zbx (ZhA Zh9 (Zd 0) ZcS (ZcO (Zd 1))) (ZcV (Zc (Zd 2) Zi))
    ·exact ZhA Zh9 (Zd 0) (ZcO (Zam Zbx (Zd 1) Zj)) ZcS
theorem Zit:Zaz ["cells","number"] ["cells","number"] (Zn Zcc):=⟨rfl,rfl,rfl,by decide +kernel,rfl,by decide +kernel,by decide +kernel⟩
theorem ZiA (A:Zay K mg "cell_value" Zcc ["cells","number"]) (T:Txt K mg):Fn3 P w K mg base 1 "cell_value" ["cells","number"] ZcU:=
  Fn3.of (N:=["cells","number"]) (k:=0) A Zit fun f cdv A outer s H E hr=>by
    have hu:=ZcK hr;unfold Zgv;refine Zr ?_;exact Zag (ZoR hu (ZdD (T:="dict") ((Zr1 rfl)) T.m_dict Zqi (Zc (Zd 0) Zi)) (Zd 1) Zj)
theorem ZfF:Zaz ["row","boxes","cells","name"] ["row","boxes","cells"] (Zn Zck):=⟨rfl,rfl,rfl,by decide +kernel,rfl,by decide +kernel,by decide +kernel⟩
theorem Zim (A:Zay K mg "next_boxes" Zck ["row","boxes","cells"]) (T:Txt K mg) (F_worked:Fn3 P w K mg base 1 "worked" ["name","one","other"] Zb8) (F_with_box:Fn3 P w K mg base 1 "with_box" ["boxes","box","value"] Zb3) (F_cell_value:Fn3 P w K mg base 1 "cell_value" ["cells","number"] ZcU):Fn3 P w K mg base 2 "next_boxes" ["row","boxes","cells"] ZcX:=
  Fn3.of (N:=["row","boxes","cells","name"]) (k:=1) A ZfF fun f cdv A outer s H E hr=>by
    have hu:=ZcK hr;unfold ZeQ;refine Zh ?_ ?_
    ·exact Zaw 3 ZfF.nd (Zw Zv (Zd 0) Zj)
    ·refine Zh ?_ ?_
     ·refine ZaL ?_ ?_ ?_
      ·exact Zas ((Zb7 hu)) (Zd 3) Zan
      ·refine Zr ?_
       refine Zag ?_;refine Zal (k:=1) (ps:=["boxes","box","value"]) ?_ ?_ ?_
       ·exact F_with_box
       ·exact hr.mono (by decide)
       ·refine Zc ?_ ?_
        ·exact Zd 1
        ·exact Zc (Zw Zv (Zd 0) Zj) (Zc (Zw Zv (Zd 0) Zj) Zi)
      ·exact Zai
     ·refine Zh ?_ ?_
      ·refine ZaL ?_ ?_ ?_
       ·exact Zas ((Zb7 hu)) (Zd 3) Zan
       ·refine Zr ?_
        refine Zag ?_;refine Zal (k:=1) (ps:=["boxes","box","value"]) ?_ ?_ ?_
        ·exact F_with_box
        ·exact hr.mono (by decide)
        ·refine Zc ?_ ?_
         ·exact Zd 1
         ·refine Zc ?_ ?_
          ·exact Zw Zv (Zd 0) Zj
          ·refine Zc ?_ ?_
           ·refine Zal (k:=1) (ps:=["cells","number"]) ?_ ?_ ?_
            ·exact F_cell_value
            ·exact hr.mono (by decide)
            ·exact Zc (Zd 2) (Zc (Zw Zv (Zd 1) (Zw Zv (Zd 0) Zj)) Zi)
           ·exact Zi
       ·exact Zai
      ·refine Zh ?_ ?_
       ·refine ZaL ?_ ?_ ?_
        ·exact Zas ((ZtA hu)) (Zd 3) (ZcV (Zc Zan (Zc Zan (Zc Zan Zi))))
        ·refine Zr ?_
         refine Zag ?_;refine Zal (k:=1) (ps:=["boxes","box","value"]) ?_ ?_ ?_
         ·exact F_with_box
         ·exact hr.mono (by decide)
         ·refine Zc ?_ ?_
          ·exact Zd 1
          ·refine Zc ?_ ?_
           ·exact Zw Zv (Zd 0) Zj
           ·refine Zc ?_ ?_
            ·refine Zal (k:=1) (ps:=["name","one","other"]) ?_ ?_ ?_
             ·exact F_worked
             ·exact hr.mono (by decide)
             ·refine Zc ?_ ?_
              ·exact Zd 3
              ·refine Zc ?_ ?_
               ·exact Zw Zv (Zd 1) (Zw Zv (Zd 0) Zj)
               ·exact Zc (Zw Zv (Zd 1) (Zw Zv (Zd 0) Zj)) Zi
            ·exact Zi
        ·exact Zai
       ·exact Zr (Zag (Zd 1))
theorem ZdJ:Zaz ["cells","number","value","below","above","here"] ["cells","number","value"] (Zn ZcB):=⟨rfl,rfl,rfl,by decide +kernel,rfl,by decide +kernel,by decide +kernel⟩
theorem ZjK (A:Zay K mg "with_cell" ZcB ["cells","number","value"]) (T:Txt K mg):Fn3 P w K mg base 1 "with_cell" ["cells","number","value"] ZcD:=
  Fn3.of (N:=["cells","number","value","below","above","here"]) (k:=0) A ZdJ fun f cdv A outer s H E hr=>by
    have hu:=ZcK hr;unfold Zg7;refine Zh ?_ ?_
    ·refine ZhS (N':=["cells","number","value","below","above","here","cell"]) 3 ?_ ?_ ?_ ?_ ?_ (fun C cl s H ex=>⟨?_,?_,?_⟩)
     ·exact Zcd rfl (by kernel_rfl)
     ·exact rfl
     ·exact rfl
     ·exact ZdJ.nd
     ·exact Zj3 (Zd 0)
     ·exact ZbI 6 ((show Ydb (["cells","number","value","below","above","here","cell"]:List Str) by decide +kernel))
     ·exact Zj9 (Zas Zqg (Zw Zv (Zd 6) Zj) (Zd 1))
     ·exact Zd 6
    ·refine Zh ?_ ?_
     ·refine ZhS (N':=["cells","number","value","below","above","here","cell"]) 4 ?_ ?_ ?_ ?_ ?_ (fun C cl s H ex=>⟨?_,?_,?_⟩)
      ·exact Zcd rfl (by kernel_rfl)
      ·exact rfl
      ·exact rfl
      ·exact ZdJ.nd
      ·exact Zj3 (Zd 0)
      ·exact ZbI 6 ((show Ydb (["cells","number","value","below","above","here","cell"]:List Str) by decide +kernel))
      ·exact Zj9 (Zas Znh (Zw Zv (Zd 6) Zj) (Zd 1))
      ·exact Zd 6
     ·refine Zh ?_ ?_
      ·refine Zaw 5 ?_ ?_
       ·exact ZdJ.nd
       ·refine ZrQ ?_ ?_ ?_
        ·exact Zas ((Znf hu)) (Zd 2) Zj
        ·exact Zcz (Zc (ZcV (Zc (Zd 1) (Zc (Zd 2) Zi))) Zi)
        ·exact Zcz Zi
      ·refine Zr ?_
       refine Zag ?_;refine ZdD (T:="tuple") ?_ ?_ ?_ ?_
       ·exact ZcW
       ·exact T.m_tuple
       ·exact Zb5
       ·exact Zc (Zam Zbx (Zam Zbx (Zd 3) (Zd 5)) (Zd 4)) Zi
theorem Zii:Zaz ["row","boxes","cells"] ["row","boxes","cells"] (Zn Zci):=⟨rfl,rfl,rfl,by decide +kernel,rfl,by decide +kernel,by decide +kernel⟩
theorem ZiC (A:Zay K mg "next_cells" Zci ["row","boxes","cells"]) (T:Txt K mg) (F_with_cell:Fn3 P w K mg base 1 "with_cell" ["cells","number","value"] ZcD):Fn3 P w K mg base 2 "next_cells" ["row","boxes","cells"] ZcT:=
  Fn3.of (N:=["row","boxes","cells"]) (k:=1) A Zii fun f cdv A outer s H E hr=>by
    have hu:=ZcK hr;unfold ZeH;refine Zh ?_ ?_
    ·refine ZaL ?_ ?_ ?_
     ·exact Zas ((Zb7 hu)) (Zw Zv (Zd 0) Zj) Zan
     ·refine Zr ?_
      refine Zag ?_;refine Zal (k:=1) (ps:=["cells","number","value"]) ?_ ?_ ?_
      ·exact F_with_cell
      ·exact hr.mono (by decide)
      ·refine Zc ?_ ?_
       ·exact Zd 2
       ·refine Zc ?_ ?_
        ·exact Zw Zv (Zd 1) (Zw Zv (Zd 0) Zj)
        ·exact Zc (Zw Zv (Zd 1) (Zw Zv (Zd 0) Zj)) Zi
     ·exact Zai
    ·exact Zr (Zag (Zd 2))
theorem Zcr:Zaz ["roll","state","place","boxes","cells","row"] ["roll","state"] (Zn Zca):=⟨rfl,rfl,rfl,by decide +kernel,rfl,by decide +kernel,by decide +kernel⟩
theorem Zin (A:Zay K mg "next_state" Zca ["roll","state"]) (T:Txt K mg) (F_next_place:Fn3 P w K mg base 1 "next_place" ["row","place","boxes"] ZcL) (F_next_boxes:Fn3 P w K mg base 2 "next_boxes" ["row","boxes","cells"] ZcX) (F_next_cells:Fn3 P w K mg base 2 "next_cells" ["row","boxes","cells"] ZcT):Fn3 P w K mg base 3 "next_state" ["roll","state"] ZaU:=
  Fn3.of (N:=["roll","state","place","boxes","cells","row"]) (k:=2) A Zcr fun f cdv A outer s H E hr=>by
    have hu:=ZcK hr;unfold ZeF;refine Zh ?_ ?_
    ·exact Zaw 2 Zcr.nd (Zw Zv (Zd 1) Zj)
    ·refine Zh ?_ ?_
     ·exact Zaw 3 Zcr.nd (Zw Zv (Zd 1) Zj)
     ·refine Zh ?_ ?_
      ·exact Zaw 4 Zcr.nd (Zw Zv (Zd 1) Zj)
      ·refine Zh ?_ ?_
       ·exact Zaw 5 Zcr.nd (Zw Zv (Zd 0) (Zd 2))
       ·refine Zh ?_ ?_
        ·exact ZaL (Zas ((Zb7 hu)) (Zw Zv (Zd 5) Zj) Zan) (Zr (Zag ZhT)) Zai
        ·refine Zr ?_
         refine Zag ?_;refine ZcV ?_;refine Zc ?_ ?_
         ·exact Zal (k:=1) (ps:=["row","place","boxes"]) F_next_place (hr.mono (by decide)) (Zc (Zd 5) (Zc (Zd 2) (Zc (Zd 3) Zi)))
         ·refine Zc ?_ ?_
          ·exact Zal (k:=2) (ps:=["row","boxes","cells"]) F_next_boxes (hr.mono (by decide)) (Zc (Zd 5) (Zc (Zd 3) (Zc (Zd 4) Zi)))
          ·exact Zc (Zal (k:=2) (ps:=["row","boxes","cells"]) F_next_cells (hr.mono (by decide)) (Zc (Zd 5) (Zc (Zd 3) (Zc (Zd 4) Zi)))) Zi
theorem Zki:Zaz ["roll","states","last"] ["roll","states"] (Zn Zfo):=⟨rfl,rfl,rfl,by decide +kernel,rfl,by decide +kernel,by decide +kernel⟩
theorem ZoO (A:Zay K mg "ended" Zfo ["roll","states"]) (T:Txt K mg):Fn3 P w K mg base 1 "ended" ["roll","states"] ZdK:=
  Fn3.of (N:=["roll","states","last"]) (k:=0) A Zki fun f cdv A outer s H E hr=>by
    have hu:=ZcK hr;unfold ZmC;refine Zh ?_ ?_
    ·exact Zaw 2 Zki.nd (Zw Zv (Zd 1) (ZhP ZeW Zj))
    ·refine Zr ?_
     refine Zag ?_;refine ZeS ?_ ?_ ?_
     ·exact (Zb7 hu)
     ·exact Zw Zv (Zw Zv (Zd 0) (Zw Zv (Zd 2) Zj)) Zj
     ·exact Zan
theorem Zom:Zaz ["roll","boxes","most","states"] ["roll","boxes","most"] (Zn Zi3):=⟨rfl,rfl,rfl,by decide +kernel,rfl,by decide +kernel,by decide +kernel⟩
theorem ZrM (A:Zay K mg "run" Zi3 ["roll","boxes","most"]) (T:Txt K mg) (F_first_state:Fn3 P w K mg base 1 "first_state" ["boxes"] ZaT) (F_next_state:Fn3 P w K mg base 3 "next_state" ["roll","state"] ZaU) (F_ended:Fn3 P w K mg base 1 "ended" ["roll","states"] ZdK):Fn3 P w K mg base 4 "run" ["roll","boxes","most"] Zh4:=
  Fn3.of (N:=["roll","boxes","most","states"]) (k:=3) A Zom fun f cdv A outer s H E hr=>by
    have hu:=ZcK hr;unfold ZqQ;refine Zh ?_ ?_
    ·exact Zaw 3 Zom.nd (Zcz (Zc (Zal (k:=1) (ps:=["boxes"]) F_first_state (hr.mono (by decide)) (Zc (Zd 1) Zi)) Zi))
    ·refine Zh ?_ ?_
     ·refine ZkC ?_ ?_ ?_
      ·exact rfl
      ·refine CW.ct ?_
       refine ZfK ?_ ?_
       ·exact Zas ZsQ (Zcs (id:="len") ZdC T.m_len Zco (Zc (Zd 3) Zi)) (Zd 2)
       ·exact ZeR (Zdv (Zb6 (Zal (k:=1) (ps:=["roll","states"]) F_ended (hr.mono (by decide)) (Zc (Zd 0) (Zc (Zd 3) Zi)))))
      ·refine Zr ?_
       refine Zcu ?_;refine ZaW ?_ ?_
       ·exact Zd 3
       ·refine Zc ?_ ?_
        ·refine Zal (k:=3) (ps:=["roll","state"]) ?_ ?_ ?_
         ·exact F_next_state
         ·exact hr.mono (by decide)
         ·exact Zc (Zd 0) (Zc (Zw Zv (Zd 3) (ZhP ZeW Zj)) Zi)
        ·exact Zi
     ·exact Zr (Zag (Zd 3))
theorem Zhm:Zaz ["roll","states","numbers","state","row"] ["roll","states"] (Zn ZgX):=⟨rfl,rfl,rfl,by decide +kernel,rfl,by decide +kernel,by decide +kernel⟩
theorem Zp9 (A:Zay K mg "told" ZgX ["roll","states"]) (T:Txt K mg):Fn3 P w K mg base 1 "told" ["roll","states"] Zh2:=
  Fn3.of (N:=["roll","states","numbers","state","row"]) (k:=0) A Zhm fun f cdv A outer s H E hr=>by
    have hu:=ZcK hr;unfold Zma;refine Zh ?_ ?_
    ·exact Zaw 2 Zhm.nd (Zcz Zi)
    ·refine Zh ?_ ?_
     ·refine ZgD ?_ ?_ ?_ ?_ ?_
      ·exact rfl
      ·exact rfl
      ·exact Zj3 (ZhA Zh9 (Zd 1) ZcS (ZcO (ZhP ZeW Zj)))
      ·exact ZbI 3 Zhm.nd
      ·refine Zh ?_ ?_
       ·exact Zaw 4 Zhm.nd (Zw Zv (Zd 0) (Zw Zv (Zd 3) Zj))
       ·refine Zr ?_
        refine ZaL ?_ ?_ ?_
        ·exact Zas ((Zb7 hu)) (Zw Zv (Zd 4) Zj) Zan
        ·refine Zr ?_
         refine Zcu ?_;refine ZaW ?_ ?_
         ·exact Zd 2
         ·exact Zc (Zw Zv (Zw Zv (Zd 3) Zj) (Zw Zv (Zd 4) Zj)) Zi
        ·exact Zai
     ·exact Zr (Zag (Zd 2))
theorem Zgc:Zaz ["word","figures"] ["word"] (Zn ZcC):=⟨rfl,rfl,rfl,by decide +kernel,rfl,by decide +kernel,by decide +kernel⟩
theorem Zjv (A:Zay K mg "is_number" ZcC ["word"]) (T:Txt K mg):Fn3 P w K mg base 1 "is_number" ["word"] ZbG:=
  Fn3.of (N:=["word","figures"]) (k:=0) A Zgc fun f cdv A outer s H E hr=>by
    have hu:=ZcK hr;unfold Zd4;refine Zh ?_ ?_
    ·refine Zaw 1 ?_ ?_
     ·exact Zgc.nd
     ·refine ZrQ ?_ ?_ ?_
      ·exact Zb6 (Zes (Zd 0) (Zc Zan Zi))
      ·exact ZhA Zh9 (Zd 0) (ZcO Zj) ZcS
      ·exact Zd 0
    ·refine Zh ?_ ?_
     ·refine ZaL ?_ ?_ ?_
      ·refine CW.ct ?_
       refine Zkk ?_ ?_
       ·exact Zas Zqg (Zcs (id:="len") ZdC T.m_len Zco (Zc (Zd 1) Zi)) Zj
       ·exact Zh1 (Zas Znh (Zcs (id:="len") ZdC T.m_len Zco (Zc (Zd 1) Zi)) (Zhb T))
      ·exact Zr (Zag ZjJ)
      ·exact Zai
     ·refine Zh ?_ ?_
      ·refine ZaL ?_ ?_ ?_
       ·exact Zb6 (Zes (Zd 1) (Zc Zan Zi))
       ·exact Zr (Zag (ZeS ((Zb7 hu)) (Zd 0) Zan))
       ·exact Zai
      ·refine Zr ?_
       refine Zag ?_;refine Zcs (id:="all") ?_ ?_ ?_ ?_
       ·exact (ZqY rfl)
       ·exact T.m_all
       ·exact Zn6
       ·refine Zc ?_ ?_
        ·refine Zng (N':=["word","figures","figure"]) ?_ ?_ ?_ ?_ (fun C cl s H ex=>⟨?_,?_,?_⟩)
         ·exact Zcd rfl (by kernel_rfl)
         ·exact rfl
         ·exact rfl
         ·exact Zj3 (Zd 1)
         ·exact ZbI 2 ((show Ydb (["word","figures","figure"]:List Str) by decide +kernel))
         ·exact Zfk
         ·exact ZeS ((ZtA hu)) (Zd 2) (Zlt T)
        ·exact Zi
theorem ZjH:Zaz ["number","many"] ["number","many"] (Zn ZcG):=⟨rfl,rfl,rfl,by decide +kernel,rfl,by decide +kernel,by decide +kernel⟩
theorem ZjM (A:Zay K mg "is_within" ZcG ["number","many"]) (T:Txt K mg):Fn3 P w K mg base 1 "is_within" ["number","many"] Za6:=
  Fn3.of (N:=["number","many"]) (k:=0) A ZjH fun f cdv A outer s H E hr=>by
    have hu:=ZcK hr;unfold Ze1;exact Zr (Zag (ZiW (ZeS Zu9 (Zd 0) Zj) (Zja (ZeS Zqg (Zd 0) (Zd 1)))))
theorem Zb9:Zaz ["line","words","form","row","kind","word","number"] ["line"] (Zn Zc9):=⟨rfl,rfl,rfl,by decide +kernel,rfl,by decide +kernel,by decide +kernel⟩
theorem ZkA (A:Zay K mg "read_row" Zc9 ["line"]) (T:Txt K mg) (F_is_number:Fn3 P w K mg base 1 "is_number" ["word"] ZbG) (F_is_within:Fn3 P w K mg base 1 "is_within" ["number","many"] Za6):Fn3 P w K mg base 2 "read_row" ["line"] Zc8:=
  Fn3.of (N:=["line","words","form","row","kind","word","number"]) (k:=1) A Zb9 fun f cdv A outer s H E hr=>by
    have hu:=ZcK hr;unfold ZfS;refine Zh ?_ ?_
    ·exact Zaw 1 Zb9.nd (Zg9 (Zd 0) (Zc Zan Zi))
    ·refine Zh ?_ ?_
     ·exact Zaw 2 Zb9.nd (Zm6 T (Zw Zv (Zd 1) Zj))
     ·refine Zh ?_ ?_
      ·refine ZaL ?_ ?_ ?_
       ·refine CW.ct ?_
        refine Zkk ?_ ?_
        ·exact Zas ZrW (Zd 2) ZhT
        ·refine Zh1 ?_
         refine Zas ?_ ?_ ?_
         ·exact (Znf hu)
         ·exact Zcs (id:="len") ZdC T.m_len Zco (Zc (Zd 1) Zi)
         ·exact Zam Zbx (Zcs (id:="len") ZdC T.m_len Zco (Zc (Zd 2) Zi)) Zj
       ·exact Zr (Zag ZhT)
       ·exact Zai
      ·refine Zh ?_ ?_
       ·exact Zaw 3 Zb9.nd (Zcz (Zc (Zw Zv (Zd 1) Zj) Zi))
       ·refine Zh ?_ ?_
        ·refine Zj7 ?_ ?_ ?_ ?_ ?_
         ·exact rfl
         ·exact rfl
         ·exact ZmK T.m_zip (Zd 2) (ZhA Zh9 (Zd 1) (ZcO Zj) ZcS)
         ·exact ZlA rfl (Zdp 4 Zb9.nd (Zdp 5 Zb9.nd Zho))
         ·refine Zh ?_ ?_
          ·refine ZaL ?_ ?_ ?_
           ·exact Zdv (Zb6 (Zal (k:=1) (ps:=["word"]) F_is_number (hr.mono (by decide)) (Zc (Zd 5) Zi)))
           ·exact Zr (Zag ZhT)
           ·exact Zai
          ·refine Zh ?_ ?_
           ·exact Zaw 6 Zb9.nd (ZdD (T:="int") ZoV T.m_int Zpd (Zc (Zd 5) Zi))
           ·refine Zh ?_ ?_
            ·refine ZaL ?_ ?_ ?_
             ·refine CW.ct ?_
              refine ZfK ?_ ?_
              ·exact Zas ((Zb7 hu)) (Zd 4) Zan
              ·exact ZeR (Zdv (Zb6 (Zal (k:=1) (ps:=["number","many"]) F_is_within (hr.mono (by decide)) (Zc (Zd 6) (Zc (Zpz T) Zi)))))
             ·exact Zr (Zag ZhT)
             ·exact Zai
            ·exact Zr (Zcu (ZaW (Zd 3) (Zc (Zd 6) Zi)))
        ·exact Zr (Zag (ZdD (T:="tuple") ZcW T.m_tuple Zb5 (Zc (Zd 3) Zi)))
theorem ZbZ:Zaz ["rows","row","kind","number"] ["rows"] (Zn Zbg):=⟨rfl,rfl,rfl,by decide +kernel,rfl,by decide +kernel,by decide +kernel⟩
theorem Zgd (A:Zay K mg "refuse_no_roll" Zbg ["rows"]) (T:Txt K mg) (F_is_within:Fn3 P w K mg base 1 "is_within" ["number","many"] Za6):Fn3 P w K mg base 2 "refuse_no_roll" ["rows"] Zcj:=
  Fn3.of (N:=["rows","row","kind","number"]) (k:=1) A ZbZ fun f cdv A outer s H E hr=>by
    have hu:=ZcK hr;unfold Zce;refine Zh ?_ ?_
    ·refine ZaL ?_ ?_ ?_
     ·refine Zas ?_ ?_ ?_
      ·exact (Zp5 hu)
      ·exact Zw Zv (Zw Zv (Zd 0) (ZhP ZeW Zj)) Zj
      ·exact ZcV (Zc Zan (Zc Zan Zi))
     ·exact Zr ZlB
     ·exact Zai
    ·refine Zr ?_
     refine ZgD ?_ ?_ ?_ ?_ ?_
     ·exact rfl
     ·exact rfl
     ·exact Zj3 (Zd 0)
     ·exact ZbI 1 ZbZ.nd
     ·refine Zr ?_
      refine Zj7 ?_ ?_ ?_ ?_ ?_
      ·exact rfl
      ·exact rfl
      ·refine ZmK ?_ ?_ ?_
       ·exact T.m_zip
       ·exact ZnC T (Zw Zv (Zd 1) Zj)
       ·exact ZhA Zh9 (Zd 1) (ZcO Zj) ZcS
      ·exact ZlA rfl (Zdp 2 ZbZ.nd (Zdp 3 ZbZ.nd Zho))
      ·refine Zr ?_
       refine ZaL ?_ ?_ ?_
       ·refine CW.ct ?_
        refine ZfK ?_ ?_
        ·exact Zas ((Zb7 hu)) (Zd 2) Zan
        ·refine ZeR ?_
         refine Zdv ?_;refine Zb6 ?_;refine Zal (k:=1) (ps:=["number","many"]) ?_ ?_ ?_
         ·exact F_is_within
         ·exact hr.mono (by decide)
         ·exact Zc (Zd 3) (Zc (Zcs (id:="len") ZdC T.m_len Zco (Zc (Zd 0) Zi)) Zi)
       ·exact Zr ZlB
       ·exact Zai
theorem ZcQ:Zaz ["text","rows","number","line","row"] ["text"] (Zn Zcy):=⟨rfl,rfl,rfl,by decide +kernel,rfl,by decide +kernel,by decide +kernel⟩
theorem ZjD (A:Zay K mg "read_roll" Zcy ["text"]) (T:Txt K mg) (F_read_row:Fn3 P w K mg base 2 "read_row" ["line"] Zc8) (F_refuse_no_roll:Fn3 P w K mg base 2 "refuse_no_roll" ["rows"] Zcj):Fn3 P w K mg base 3 "read_roll" ["text"] ZcI:=
  Fn3.of (N:=["text","rows","number","line","row"]) (k:=2) A ZcQ fun f cdv A outer s H E hr=>by
    have hu:=ZcK hr;unfold ZeX;refine Zh ?_ ?_
    ·exact Zaw 1 ZcQ.nd (Zcz Zi)
    ·refine Zh ?_ ?_
     ·refine Zj7 ?_ ?_ ?_ ?_ ?_
      ·exact rfl
      ·exact rfl
      ·exact Zow T.m_enumerate (Zg9 (Zd 0) (Zc Zan Zi))
      ·exact ZlA rfl (Zdp 2 ZcQ.nd (Zdp 3 ZcQ.nd Zho))
      ·refine Zh ?_ ?_
       ·exact Zaw 4 ZcQ.nd (Zal (k:=2) (ps:=["line"]) F_read_row (hr.mono (by decide)) (Zc (Zd 3) Zi))
       ·refine Zh ?_ ?_
        ·exact ZaL (Zas ZrW (Zd 4) ZhT) (Zr ZlB) Zai
        ·exact Zr (Zcu (ZaW (Zd 1) (Zc (Zd 4) Zi)))
     ·refine Zh ?_ ?_
      ·exact Zcu (Zal (k:=2) (ps:=["rows"]) F_refuse_no_roll (hr.mono (by decide)) (Zc (Zd 1) Zi))
      ·exact Zr (Zag (ZdD (T:="tuple") ZcW T.m_tuple Zb5 (Zc (Zd 1) Zi)))
theorem Zhh:Zaz ["script","k"] ["script","k"] (Zn Zbz):=⟨rfl,rfl,rfl,by decide +kernel,rfl,by decide +kernel,by decide +kernel⟩
theorem Zhi (A:Zay K mg "_law_cell_at" Zbz ["script","k"]) (T:Txt K mg):Fn3 P w K mg base 1 "_law_cell_at" ["script","k"] Zad:=
  Fn3.of (N:=["script","k"]) (k:=0) A Zhh fun f cdv A outer s H E hr=>by
    have hu:=ZcK hr;unfold ZcM;refine Zh ?_ ?_
    ·refine ZaL ?_ ?_ ?_
     ·exact Zas Zqg (Zd 1) (Zcs (id:="len") ZdC T.m_len Zco (Zc (Zd 0) Zi))
     ·exact Zr (Zag (Zw Zv (Zd 0) (Zd 1)))
     ·exact Zai
    ·exact Zr (Zag Zj)
theorem ZdT:Zaz ["cell","rest","some"] ["cell"] (Zn ZbR):=⟨rfl,rfl,rfl,by decide +kernel,rfl,by decide +kernel,by decide +kernel⟩
theorem ZhM (A:Zay K mg "_law_number" ZbR ["cell"]) (T:Txt K mg):Fn3 P w K mg base 1 "_law_number" ["cell"] ZaS:=
  Fn3.of (N:=["cell","rest","some"]) (k:=0) A ZdT fun f cdv A outer s H E hr=>by
    have hu:=ZcK hr;unfold Zd8;refine Zh ?_ ?_
    ·exact Zaw 1 ZdT.nd (Zam ZdY (Zd 0) Zj)
    ·refine Zh ?_ ?_
     ·refine Zaw 2 ?_ ?_
      ·exact ZdT.nd
      ·refine Zcz ?_
       refine Zc ?_ ?_
       ·exact Zam Zh7 (Zam Zb1 (Zd 1) Zj) Zj
       ·refine Zc ?_ ?_
        ·exact Zam Zb1 (Zd 1) Zj
        ·refine Zc ?_ ?_
         ·exact Zam Zb1 (Zd 1) Zj
         ·refine Zc ?_ ?_
          ·exact Zam Zh7 (Zam Zb1 (Zd 1) Zj) Zj
          ·refine Zc ?_ ?_
           ·exact Zam Zb1 (Zd 1) (Zam ZqV Zj Zj)
           ·exact Zc (ZhP ZeW (Zam Zb1 (Zd 1) (Zam ZqV Zj Zj))) Zi
     ·exact Zr (Zag (Zw Zv (Zd 2) (Zam Zb1 (Zd 0) Zj)))
theorem ZbF:Zaz ["cell","at","many","names","name","rest","boxes","lead","sizes"] ["cell","at","many"] (Zn Zda):=⟨rfl,rfl,rfl,by decide +kernel,rfl,by decide +kernel,by decide +kernel⟩
theorem Zk8 (A:Zay K mg "_law_row" Zda ["cell","at","many"]) (T:Txt K mg) (F__law_number:Fn3 P w K mg base 1 "_law_number" ["cell"] ZaS):Fn3 P w K mg base 2 "_law_row" ["cell","at","many"] Zcw:=
  Fn3.of (N:=["cell","at","many","names","name","rest","boxes","lead","sizes"]) (k:=1) A ZbF fun f cdv A outer s H E hr=>by
    have hu:=ZcK hr;unfold ZfQ;refine Zh ?_ ?_
    ·refine Zaw 3 ?_ ?_
     ·exact ZbF.nd
     ·refine Zcz ?_
      refine Zc ?_ ?_
      ·exact Zan
      ·refine Zc ?_ ?_
       ·exact Zan
       ·refine Zc ?_ ?_
        ·exact Zan
        ·refine Zc ?_ ?_
         ·exact Zan
         ·refine Zc ?_ ?_
          ·exact Zan
          ·refine Zc ?_ ?_
           ·exact Zan
           ·refine Zc ?_ ?_
            ·exact Zan
            ·refine Zc ?_ ?_
             ·exact Zan
             ·refine Zc ?_ ?_
              ·exact Zan
              ·exact Zc Zan (Zc Zan (Zc Zan (Zc Zan (Zc Zan Zi))))
    ·refine Zh ?_ ?_
     ·refine Zaw 4 ?_ ?_
      ·exact ZbF.nd
      ·refine Zw ?_ ?_ ?_
       ·exact Zv
       ·exact Zam Zbx (Zd 3) (Zcz (Zc Zan (Zc Zan (Zc Zan Zi))))
       ·exact Zam Zb1 (Zd 0) Zj
     ·refine Zh ?_ ?_
      ·exact Zaw 5 ZbF.nd (Zam ZdY (Zd 0) Zj)
      ·refine Zh ?_ ?_
       ·refine Zaw 6 ?_ ?_
        ·exact ZbF.nd
        ·refine Zcz ?_
         refine Zc ?_ ?_
         ·exact Zam Zb1 (Zd 5) Zj
         ·refine Zc ?_ ?_
          ·exact Zam Zb1 (Zam ZdY (Zd 5) Zj) Zj
          ·exact Zc (Zam Zb1 (Zam ZdY (Zd 5) Zj) Zj) Zi
       ·refine Zh ?_ ?_
        ·refine Zaw 7 ?_ ?_
         ·exact ZbF.nd
         ·refine Zam ?_ ?_ ?_
          ·exact Zbx
          ·exact Zam Zbx (Zd 1) Zj
          ·exact Zam Zb1 (Zam ZdY (Zd 5) Zj) (Zam Zh7 (Zd 2) (Zd 1))
        ·refine Zh ?_ ?_
         ·refine ZaL ?_ ?_ ?_
          ·exact Zas ((Zb7 hu)) (Zam Zb1 (Zam ZdY (Zd 5) Zj) Zj) Zj
          ·refine Zr ?_
           exact Zaw 7 ZbF.nd (Zam Zb1 (Zam ZdY (Zd 5) Zj) (Zam Zbx (Zd 1) Zj))
          ·exact Zai
         ·refine Zh ?_ ?_
          ·refine ZaL ?_ ?_ ?_
           ·exact Zas ((Zb7 hu)) (Zd 4) Zan
           ·refine Zr ?_
            refine Zag ?_;refine ZcV ?_;refine Zc ?_ ?_
            ·exact Zd 4
            ·refine Zc ?_ ?_
             ·exact Zw Zv (Zd 6) Zj
             ·exact Zc (Zal (k:=1) (ps:=["cell"]) F__law_number (hr.mono (by decide)) (Zc (Zam ZdY (Zd 5) Zj) Zi)) Zi
           ·exact Zai
          ·refine Zh ?_ ?_
           ·refine ZaL ?_ ?_ ?_
            ·exact Zas ((Zb7 hu)) (Zd 4) Zan
            ·exact Zr (Zag (ZcV (Zc (Zd 4) (Zc (Zd 7) Zi))))
            ·exact Zai
           ·refine Zh ?_ ?_
            ·refine ZaL ?_ ?_ ?_
             ·exact Zas ((Zb7 hu)) (Zd 4) Zan
             ·refine Zr ?_
              exact Zag (ZcV (Zc (Zd 4) (Zc (Zw Zv (Zd 6) Zj) (Zc (Zd 7) Zi))))
             ·exact Zai
            ·refine Zh ?_ ?_
             ·refine Zaw 8 ?_ ?_
              ·exact ZbF.nd
              ·refine Ztr ?_
               refine ZeG ?_ ?_ ?_
               ·exact Zan
               ·exact Zj
               ·refine ZeG ?_ ?_ ?_
                ·exact Zan
                ·exact Zj
                ·refine ZeG ?_ ?_ ?_
                 ·exact Zan
                 ·exact Zj
                 ·refine ZeG ?_ ?_ ?_
                  ·exact Zan
                  ·exact Zj
                  ·exact ZeG Zan Zj (ZeG Zan Zj (ZeG Zan Zj ZrH))
             ·refine Zr ?_
              refine Zag ?_;refine ZdD (T:="tuple") ?_ ?_ ?_ ?_
              ·exact ZcW
              ·exact T.m_tuple
              ·exact Zb5
              ·refine Zc ?_ ?_
               ·refine Zam ?_ ?_ ?_
                ·exact Zbx
                ·exact Zcz (Zc (Zd 4) Zi)
                ·exact ZhA Zh9 (Zd 6) ZcS (ZcO (Zl3 hu (Zd 8) (Zd 4)))
               ·exact Zi
theorem ZeO:Zaz ["cells","many","rows"] ["cells"] (Zn ZcE):=⟨rfl,rfl,rfl,by decide +kernel,rfl,by decide +kernel,by decide +kernel⟩
theorem Zj0 (A:Zay K mg "_law_roll" ZcE ["cells"]) (T:Txt K mg) (F__law_row:Fn3 P w K mg base 2 "_law_row" ["cell","at","many"] Zcw):Fn3 P w K mg base 3 "_law_roll" ["cells"] Zdm:=
  Fn3.of (N:=["cells","many","rows"]) (k:=2) A ZeO fun f cdv A outer s H E hr=>by
    have hu:=ZcK hr;unfold Zff;refine Zh ?_ ?_
    ·exact Zaw 1 ZeO.nd (Zcs (id:="len") ZdC T.m_len Zco (Zc (Zd 0) Zi))
    ·refine Zh ?_ ?_
     ·refine ZhS (N':=["cells","many","rows","k"]) 2 ?_ ?_ ?_ ?_ ?_ (fun C cl s H ex=>⟨?_,?_,?_⟩)
      ·exact Zcd rfl (by kernel_rfl)
      ·exact rfl
      ·exact rfl
      ·exact ZeO.nd
      ·exact Zer T.m_range (Zd 1)
      ·exact ZbI 3 ((show Ydb (["cells","many","rows","k"]:List Str) by decide +kernel))
      ·exact Zfk
      ·refine Zal (k:=2) (ps:=["cell","at","many"]) ?_ ?_ ?_
       ·exact F__law_row
       ·exact hr.mono (by decide)
       ·exact Zc (Zw Zv (Zd 0) (Zd 3)) (Zc (Zd 3) (Zc (Zd 1) Zi))
     ·refine Zh ?_ ?_
      ·refine ZaL ?_ ?_ ?_
       ·refine Zas ?_ ?_ ?_
        ·exact (Zb7 hu)
        ·exact Zam Zb1 (Zcs (id:="sum") ((Zq3 rfl)) T.m_sum Zot (Zc (Zd 0) Zi)) Zj
        ·exact Zj
       ·refine Zr ?_
        refine Zag ?_;refine ZdD (T:="tuple") ?_ ?_ ?_ ?_
        ·exact ZcW
        ·exact T.m_tuple
        ·exact Zb5
        ·refine Zc ?_ ?_
         ·refine Zam ?_ ?_ ?_
          ·exact Zbx
          ·exact Zd 2
          ·refine Zcz ?_
           refine Zc ?_ ?_
           ·refine ZcV ?_
            refine Zc ?_ ?_
            ·exact Zan
            ·refine Zc ?_ ?_
             ·refine Zam ?_ ?_ ?_
              ·exact Zb1
              ·exact Zam ZdY (Zcs (id:="sum") ((Zq3 rfl)) T.m_sum Zot (Zc (Zd 0) Zi)) Zj
              ·exact Zam Zbx (Zd 1) Zj
             ·exact Zi
           ·exact Zi
         ·exact Zi
       ·exact Zai
      ·refine Zr ?_
       refine Zag ?_;refine ZdD (T:="tuple") ?_ ?_ ?_ ?_
       ·exact ZcW
       ·exact T.m_tuple
       ·exact Zb5
       ·exact Zc (Zam Zbx (Zd 2) (Zcz (Zc (ZcV (Zc Zan Zi)) Zi))) Zi
theorem Zdn:Zaz ["roll","many","rows","k","row"] ["roll","many"] (Zn Zc7):=⟨rfl,rfl,rfl,by decide +kernel,rfl,by decide +kernel,by decide +kernel⟩
theorem Zlg (A:Zay K mg "_law_far" Zc7 ["roll","many"]) (T:Txt K mg):Fn3 P w K mg base 1 "_law_far" ["roll","many"] ZdO:=
  Fn3.of (N:=["roll","many","rows","k","row"]) (k:=0) A Zdn fun f cdv A outer s H E hr=>by
    have hu:=ZcK hr;unfold ZfM;refine Zh ?_ ?_
    ·refine Zaw 2 ?_ ?_
     ·exact Zdn.nd
     ·exact Zcz (Zc (ZcV (Zc Zan (Zc (Zam Zbx (Zd 1) Zj) Zi))) Zi)
    ·refine Zh ?_ ?_
     ·refine ZgD ?_ ?_ ?_ ?_ ?_
      ·exact rfl
      ·exact rfl
      ·exact Zer T.m_range (Zd 1)
      ·exact ZbI 3 Zdn.nd
      ·refine Zr ?_
       refine Zcu ?_;refine ZaW ?_ ?_
       ·exact Zd 2
       ·refine Zc ?_ ?_
        ·refine Zw ?_ ?_ ?_
         ·exact Zv
         ·refine Zcz ?_
          refine Zc ?_ ?_
          ·exact ZcV (Zc Zan (Zc (Zam Zb1 (Zd 3) Zj) Zi))
          ·refine Zc ?_ ?_
           ·exact ZcV (Zc Zan (Zc (Zam Zb1 (Zd 3) Zj) (Zc (Zd 3) Zi)))
           ·exact Zc (ZcV (Zc Zan Zi)) Zi
         ·exact Zam Zb1 (Zd 3) Zj
        ·exact Zi
     ·refine Zh ?_ ?_
      ·refine ZgD ?_ ?_ ?_ ?_ ?_
       ·exact rfl
       ·exact rfl
       ·exact Zj3 (Zd 0)
       ·exact ZbI 4 Zdn.nd
       ·refine Zh ?_ ?_
        ·refine ZaL ?_ ?_ ?_
         ·refine CW.ct ?_
          refine Zkk ?_ ?_
          ·exact Zas ((Zb7 hu)) (Zw Zv (Zd 4) Zj) Zan
          ·exact Zh1 (Zas ((Zb7 hu)) (Zw Zv (Zd 4) Zj) Zan)
         ·refine Zr ?_
          refine Zaw 4 ?_ ?_
          ·exact Zdn.nd
          ·refine Zam ?_ ?_ ?_
           ·exact Zbx
           ·exact ZhA Zh9 (Zd 4) ZcS (ZcO (ZhP ZeW Zj))
           ·refine ZcV ?_
            refine Zc ?_ ?_
            ·exact Zam Zbx (Zam Zbx (Zw Zv (Zd 4) (ZhP ZeW Zj)) (Zd 1)) Zj
            ·exact Zi
         ·exact Zai
        ·exact Zr (Zcu (ZaW (Zd 2) (Zc (Zd 4) Zi)))
      ·exact Zr (Zag (ZdD (T:="tuple") ZcW T.m_tuple Zb5 (Zc (Zd 2) Zi)))
theorem Zjn:Zaz ["roll"] ["roll"] (Zn ZcF):=⟨rfl,rfl,rfl,by decide +kernel,rfl,by decide +kernel,by decide +kernel⟩
theorem Zjk (A:Zay K mg "_law_text" ZcF ["roll"]) (T:Txt K mg):Fn3 P w K mg base 1 "_law_text" ["roll"] Zbo:=
  Fn3.of (N:=["roll"]) (k:=0) A Zjn fun f cdv A outer s H E hr=>by
    have hu:=ZcK hr;unfold Zfb;refine Zr ?_;refine Zag ?_;refine Zh0 ?_ ?_
    ·exact Zan
    ·refine Zc ?_ ?_
     ·refine Zng (N':=["roll","row"]) ?_ ?_ ?_ ?_ (fun C cl s H ex=>⟨?_,?_,?_⟩)
      ·exact Zcd rfl (by kernel_rfl)
      ·exact rfl
      ·exact rfl
      ·exact Zj3 (Zd 0)
      ·exact ZbI 1 ((show Ydb (["roll","row"]:List Str) by decide +kernel))
      ·exact Zfk
      ·refine Zh0 ?_ ?_
       ·exact Zan
       ·refine Zc ?_ ?_
        ·refine Zng (N':=["roll","row","part"]) ?_ ?_ ?_ ?_ (fun C cl s H ex=>⟨?_,?_,?_⟩)
         ·exact Zcd rfl (by kernel_rfl)
         ·exact rfl
         ·exact rfl
         ·exact Zj3 (Zd 1)
         ·exact ZbI 2 ((show Ydb (["roll","row","part"]:List Str) by decide +kernel))
         ·exact Zfk
         ·exact ZdD (T:="str") ZtI T.m_str ZrL (Zc (Zd 2) Zi)
        ·exact Zi
     ·exact Zi
theorem Zj2:Zaz ["row","place","boxes","there"] ["row","place","boxes","there"] (Zn ZcA):=⟨rfl,rfl,rfl,by decide +kernel,rfl,by decide +kernel,by decide +kernel⟩
theorem Zj4 (A:Zay K mg "_law_step" ZcA ["row","place","boxes","there"]) (T:Txt K mg):Fn3 P w K mg base 1 "_law_step" ["row","place","boxes","there"] ZbD:=
  Fn3.of (N:=["row","place","boxes","there"]) (k:=0) A Zj2 fun f cdv A outer s H E hr=>by
    have hu:=ZcK hr;unfold Ze8;refine Zh ?_ ?_
    ·refine ZaL ?_ ?_ ?_
     ·exact Zas ((Zb7 hu)) (Zw Zv (Zd 0) Zj) Zan
     ·exact Zr (Zag (Zw Zv (Zd 0) Zj))
     ·exact Zai
    ·refine Zh ?_ ?_
     ·refine ZaL ?_ ?_ ?_
      ·refine CW.ct ?_
       refine ZfK ?_ ?_
       ·exact Zas ((Zb7 hu)) (Zw Zv (Zd 0) Zj) Zan
       ·exact ZeR (Zas Znh (Zw Zv (Zd 2) (Zw Zv (Zd 0) Zj)) Zj)
      ·exact Zr (Zag (Zw Zv (Zd 0) Zj))
      ·exact Zai
     ·refine Zh ?_ ?_
      ·refine ZaL ?_ ?_ ?_
       ·exact Zas ((Zb7 hu)) (Zw Zv (Zd 0) Zj) Zan
       ·exact Zr (Zgb (Zd 2) (Zw Zv (Zd 0) Zj) (Zw Zv (Zd 0) Zj))
       ·exact Zai
      ·refine Zh ?_ ?_
       ·refine ZaL ?_ ?_ ?_
        ·exact Zas ((Zb7 hu)) (Zw Zv (Zd 0) Zj) Zan
        ·refine Zr ?_
         refine Zgb ?_ ?_ ?_
         ·exact Zd 2
         ·exact Zw Zv (Zd 0) Zj
         ·refine Zam ?_ ?_ ?_
          ·exact Zbx
          ·exact Zw Zv (Zd 2) (Zw Zv (Zd 0) Zj)
          ·exact Zw Zv (Zd 2) (Zw Zv (Zd 0) Zj)
        ·exact Zai
       ·refine Zh ?_ ?_
        ·refine ZaL ?_ ?_ ?_
         ·exact Zas ((Zb7 hu)) (Zw Zv (Zd 0) Zj) Zan
         ·refine Zr ?_
          refine Zgb ?_ ?_ ?_
          ·exact Zd 2
          ·exact Zw Zv (Zd 0) Zj
          ·refine Zam ?_ ?_ ?_
           ·exact Zh7
           ·exact Zw Zv (Zd 2) (Zw Zv (Zd 0) Zj)
           ·exact Zw Zv (Zd 2) (Zw Zv (Zd 0) Zj)
         ·exact Zai
        ·refine Zh ?_ ?_
         ·refine ZaL ?_ ?_ ?_
          ·exact Zas ((Zb7 hu)) (Zw Zv (Zd 0) Zj) Zan
          ·refine Zr ?_
           refine Zgb ?_ ?_ ?_
           ·exact Zd 2
           ·exact Zw Zv (Zd 0) Zj
           ·refine ZdD (T:="int") ?_ ?_ ?_ ?_
            ·exact ZoV
            ·exact T.m_int
            ·exact Zpd
            ·refine Zc ?_ ?_
             ·refine ZeS ?_ ?_ ?_
              ·exact Znh
              ·exact Zw Zv (Zd 2) (Zw Zv (Zd 0) Zj)
              ·exact Zw Zv (Zd 2) (Zw Zv (Zd 0) Zj)
             ·exact Zi
          ·exact Zai
         ·refine Zh ?_ ?_
          ·refine ZaL ?_ ?_ ?_
           ·exact Zas ((Zb7 hu)) (Zw Zv (Zd 0) Zj) Zan
           ·refine Zr ?_
            refine Zgb ?_ ?_ ?_
            ·exact Zd 2
            ·exact Zw Zv (Zd 0) Zj
            ·exact ZoR hu (Zd 3) (Zw Zv (Zd 2) (Zw Zv (Zd 0) Zj)) Zj
           ·exact Zai
          ·refine Zh ?_ ?_
           ·refine ZaL ?_ ?_ ?_
            ·exact Zas ((Zb7 hu)) (Zw Zv (Zd 0) Zj) Zan
            ·refine Zr ?_
             refine ZpG ?_ ?_ ?_ ?_
             ·exact hu
             ·exact Zd 3
             ·exact Zw Zv (Zd 2) (Zw Zv (Zd 0) Zj)
             ·exact Zw Zv (Zd 2) (Zw Zv (Zd 0) Zj)
            ·exact Zai
           ·exact Zr (Zag (Zam Zbx (Zd 1) Zj))
theorem Zfv:Zaz ["place","boxes","there","cells"] ["place","boxes","there"] (Zn Zcl):=⟨rfl,rfl,rfl,by decide +kernel,rfl,by decide +kernel,by decide +kernel⟩
theorem Zih (A:Zay K mg "_law_state" Zcl ["place","boxes","there"]) (T:Txt K mg):Fn3 P w K mg base 1 "_law_state" ["place","boxes","there"] Zbr:=
  Fn3.of (N:=["place","boxes","there","cells"]) (k:=0) A Zfv fun f cdv A outer s H E hr=>by
    have hu:=ZcK hr;unfold Zf8;refine Zh ?_ ?_
    ·refine Zaw 3 ?_ ?_
     ·exact Zfv.nd
     ·refine Zcs (id:="sorted") ?_ ?_ ?_ ?_
      ·exact Zn7
      ·exact T.m_sorted
      ·exact ZnF
      ·refine Zc ?_ ?_
       ·refine ZtD (N':=["place","boxes","there","cells","number"]) 2 ?_ ?_ ?_ ?_ (fun C cl s H ex=>⟨?_,?_,?_⟩)
        ·exact Zcd rfl (by kernel_rfl)
        ·exact rfl
        ·exact rfl
        ·exact Zd 2
        ·exact ZbI 4 ((show Ydb (["place","boxes","there","cells","number"]:List Str) by decide +kernel))
        ·exact Zj9 (Zas ((Znf hu)) (Zl3 hu (Zd 2) (Zd 4)) Zj)
        ·exact ZcV (Zc (Zd 4) (Zc (Zl3 hu (Zd 2) (Zd 4)) Zi))
       ·exact Zi
    ·refine Zr ?_
     refine Zag ?_;refine ZcV ?_;refine Zc ?_ ?_
     ·exact Zd 0
     ·refine Zc ?_ ?_
      ·exact ZdD (T:="tuple") ZcW T.m_tuple Zb5 (Zc (Zd 1) Zi)
      ·exact Zc (ZdD (T:="tuple") ZcW T.m_tuple Zb5 (Zc (Zd 3) Zi)) Zi
theorem Zbi:Zaz ["roll","boxes","bound","place","there","states","numbers"] ["roll","boxes","bound"] (Zn ZbO):=⟨rfl,rfl,rfl,by decide +kernel,rfl,by decide +kernel,by decide +kernel⟩
theorem ZhB (A:Zay K mg "_law_walked" ZbO ["roll","boxes","bound"]) (T:Txt K mg) (F__law_step:Fn3 P w K mg base 1 "_law_step" ["row","place","boxes","there"] ZbD) (F__law_state:Fn3 P w K mg base 1 "_law_state" ["place","boxes","there"] Zbr):Fn3 P w K mg base 2 "_law_walked" ["roll","boxes","bound"] ZbP:=
  Fn3.of (N:=["roll","boxes","bound","place","there","states","numbers"]) (k:=1) A Zbi fun f cdv A outer s H E hr=>by
    have hu:=ZcK hr;unfold ZfA;refine Zh ?_ ?_
    ·exact Zaw 3 Zbi.nd Zj
    ·refine Zh ?_ ?_
     ·exact Zaw 1 Zbi.nd (ZdD (T:="list") ZsG T.m_list ZqG (Zc (Zd 1) Zi))
     ·refine Zh ?_ ?_
      ·exact Zaw 4 Zbi.nd Zry
      ·refine Zh ?_ ?_
       ·refine Zaw 5 ?_ ?_
        ·exact Zbi.nd
        ·refine Zcz ?_
         exact Zc (Zal (k:=1) (ps:=["place","boxes","there"]) F__law_state (hr.mono (by decide)) (Zc (Zd 3) (Zc (Zd 1) (Zc (Zd 4) Zi)))) Zi
       ·refine Zh ?_ ?_
        ·exact Zaw 6 Zbi.nd (Zcz Zi)
        ·refine Zh ?_ ?_
         ·refine ZkC ?_ ?_ ?_
          ·exact rfl
          ·refine CW.ct ?_
           refine ZfK ?_ ?_
           ·exact Zas ((Znf hu)) (Zw Zv (Zw Zv (Zd 0) (Zd 3)) Zj) Zan
           ·exact ZeR (Zas ZsQ (Zcs (id:="len") ZdC T.m_len Zco (Zc (Zd 5) Zi)) (Zd 2))
          ·refine Zh ?_ ?_
           ·exact Zcu (ZaW (Zd 6) (Zc (Zcz Zi) Zi))
           ·refine Zh ?_ ?_
            ·refine ZaL ?_ ?_ ?_
             ·exact Zas ((Zb7 hu)) (Zw Zv (Zw Zv (Zd 0) (Zd 3)) Zj) Zan
             ·refine Zr ?_
              refine Zcu ?_;refine ZaW ?_ ?_
              ·exact Zw Zv (Zd 6) (ZhP ZeW Zj)
              ·exact Zc (Zw Zv (Zd 1) (Zw Zv (Zw Zv (Zd 0) (Zd 3)) Zj)) Zi
             ·exact Zai
            ·refine Zh ?_ ?_
             ·refine Zaw 3 ?_ ?_
              ·exact Zbi.nd
              ·refine Zal (k:=1) (ps:=["row","place","boxes","there"]) ?_ ?_ ?_
               ·exact F__law_step
               ·exact hr.mono (by decide)
               ·exact Zc (Zw Zv (Zd 0) (Zd 3)) (Zc (Zd 3) (Zc (Zd 1) (Zc (Zd 4) Zi)))
             ·refine Zr ?_
              refine Zcu ?_;refine ZaW ?_ ?_
              ·exact Zd 5
              ·exact Zc (Zal (k:=1) (ps:=["place","boxes","there"]) F__law_state (hr.mono (by decide)) (Zc (Zd 3) (Zc (Zd 1) (Zc (Zd 4) Zi)))) Zi
         ·exact Zr (Zag (Zcz (Zc (Zd 5) (Zc (Zd 6) Zi))))
theorem Zgn:Zaz ["found","due"] ["found","due"] (Zn ZcH):=⟨rfl,rfl,rfl,by decide +kernel,rfl,by decide +kernel,by decide +kernel⟩
theorem ZjS (A:Zay K mg "_law_same" ZcH ["found","due"]) (T:Txt K mg):Fn3 P w K mg base 8 "_law_same" ["found","due"] ZaC:=by
  have all:∀ n:Nat,Fn3 P w K mg base (n + 1) "_law_same" ["found","due"] (ZaO n):=by
    intro n
    induction n with
    | zero=>exact Fn3.of (N:=["found","due"]) (k:=0) A Zgn fun f cdv A outer s H E hr=>ZpK
    | succ n IH=>
      refine (Fn3.of (N:=["found","due"]) (k:=n + 1) A Zgn fun f cdv A outer s H E hr=>?_).mono (by omega);have hu:=ZcK hr;unfold Zbe;refine Zh ?_ ?_
      ·refine ZaL ?_ ?_ ?_
       ·exact Zb6 (ZmM .tuple .list T.m_isinstance T.m_tuple T.m_list (Zd 1))
       ·refine Zh ?_ ?_
        ·refine ZaL ?_ ?_ ?_
         ·refine CW.ct ?_
          refine Zkk ?_ ?_
          ·exact Zas ((Znf hu)) (ZfY .tuple T.m_isinstance T.m_tuple (Zd 0)) (ZfY .tuple T.m_isinstance T.m_tuple (Zd 1))
          ·exact Zh1 (Zdv (Zb6 (ZmM .tuple .list T.m_isinstance T.m_tuple T.m_list (Zd 0))))
         ·exact Zr (Zag ZjJ)
         ·exact Zai
        ·refine Zr ?_
         refine Zag ?_;refine ZiW ?_ ?_
         ·refine ZeS ?_ ?_ ?_
          ·exact (Zb7 hu)
          ·exact Zcs (id:="len") ZdC T.m_len Zco (Zc (Zd 0) Zi)
          ·exact Zcs (id:="len") ZdC T.m_len Zco (Zc (Zd 1) Zi)
         ·refine Zja ?_
          refine Zcs (id:="all") ?_ ?_ ?_ ?_
          ·exact (ZqY rfl)
          ·exact T.m_all
          ·exact Zn6
          ·refine Zc ?_ ?_
           ·refine Zng (N':=["found","due","k"]) ?_ ?_ ?_ ?_ (fun C cl s H ex=>⟨?_,?_,?_⟩)
            ·exact Zcd rfl (by kernel_rfl)
            ·exact rfl
            ·exact rfl
            ·exact Zer T.m_range (Zcs (id:="len") ZdC T.m_len Zco (Zc (Zd 1) Zi))
            ·exact ZbI 2 ((show Ydb (["found","due","k"]:List Str) by decide +kernel))
            ·exact Zfk
            ·refine Zal (k:=n + 1) (ps:=["found","due"]) ?_ ?_ ?_
             ·exact IH
             ·exact hr
             ·exact Zc (Zw Zv (Zd 0) (Zd 2)) (Zc (Zw Zv (Zd 1) (Zd 2)) Zi)
           ·exact Zi
       ·exact Zai
      ·refine Zh ?_ ?_
       ·refine ZaL ?_ ?_ ?_
        ·refine CW.ct ?_
         exact Zkk (Zb6 (ZfY .bool T.m_isinstance T.m_bool (Zd 1))) (Zh1 (Zb6 (ZfY .bool T.m_isinstance T.m_bool (Zd 0))))
        ·refine Zr ?_
         refine Zag ?_;refine ZiW ?_ ?_
         ·exact ZfY .bool T.m_isinstance T.m_bool (Zd 1)
         ·exact ZiW (ZfY .bool T.m_isinstance T.m_bool (Zd 0)) (Zja (ZeS ((Zb7 hu)) (Zd 0) (Zd 1)))
        ·exact Zai
       ·exact Zr (Zag (ZiW (ZfY .int T.m_isinstance T.m_int (Zd 0)) (Zja (ZeS ((Zb7 hu)) (Zd 0) (Zd 1)))))
  exact all 7
theorem ZdV:Zaz ["roll","boxes","states","k"] ["roll","boxes","states"] (Zn Za8):=⟨rfl,rfl,rfl,by decide +kernel,rfl,by decide +kernel,by decide +kernel⟩
theorem ZfV (A:Zay K mg "_law_one_by_one" Za8 ["roll","boxes","states"]) (T:Txt K mg) (F_first_state:Fn3 P w K mg base 1 "first_state" ["boxes"] ZaT) (F_next_state:Fn3 P w K mg base 3 "next_state" ["roll","state"] ZaU) (F__law_same:Fn3 P w K mg base 8 "_law_same" ["found","due"] ZaC):Fn3 P w K mg base 9 "_law_one_by_one" ["roll","boxes","states"] Zbn:=
  Fn3.of (N:=["roll","boxes","states","k"]) (k:=8) A ZdV fun f cdv A outer s H E hr=>by
    have hu:=ZcK hr;unfold Zc3;refine Zh ?_ ?_
    ·refine ZaL ?_ ?_ ?_
     ·refine Zdv ?_
      refine Zb6 ?_;refine Zal (k:=8) (ps:=["found","due"]) ?_ ?_ ?_
      ·exact F__law_same
      ·exact hr.mono (by decide)
      ·refine Zc ?_ ?_
       ·exact Zal (k:=1) (ps:=["boxes"]) F_first_state (hr.mono (by decide)) (Zc (Zd 1) Zi)
       ·exact Zc (Zw Zv (Zd 2) Zj) Zi
     ·exact Zr (Zag ZjJ)
     ·exact Zai
    ·refine Zh ?_ ?_
     ·refine ZgD ?_ ?_ ?_ ?_ ?_
      ·exact rfl
      ·exact rfl
      ·exact Zer T.m_range (Zam Zh7 (Zcs (id:="len") ZdC T.m_len Zco (Zc (Zd 2) Zi)) Zj)
      ·exact ZbI 3 ZdV.nd
      ·refine Zr ?_
       refine ZaL ?_ ?_ ?_
       ·refine Zdv ?_
        refine Zb6 ?_;refine Zal (k:=8) (ps:=["found","due"]) ?_ ?_ ?_
        ·exact F__law_same
        ·exact hr.mono (by decide)
        ·refine Zc ?_ ?_
         ·exact Zal (k:=3) (ps:=["roll","state"]) F_next_state (hr.mono (by decide)) (Zc (Zd 0) (Zc (Zw Zv (Zd 2) (Zd 3)) Zi))
         ·exact Zc (Zw Zv (Zd 2) (Zam Zbx (Zd 3) Zj)) Zi
       ·exact Zr (Zag ZjJ)
       ·exact Zai
     ·refine Zr ?_
      refine Zag ?_;refine Zvi ?_ ?_
      ·refine ZeS ?_ ?_ ?_
       ·exact (Znf hu)
       ·refine Zw ?_ ?_ ?_
        ·exact Zv
        ·exact Zw Zv (Zd 0) (Zw Zv (Zw Zv (Zd 2) (ZhP ZeW Zj)) Zj)
        ·exact Zj
       ·exact Zan
      ·refine Zja ?_
       refine ZeS ?_ ?_ ?_
       ·exact ZrW
       ·refine Zal (k:=3) (ps:=["roll","state"]) ?_ ?_ ?_
        ·exact F_next_state
        ·exact hr.mono (by decide)
        ·exact Zc (Zd 0) (Zc (Zw Zv (Zd 2) (ZhP ZeW Zj)) Zi)
       ·exact ZhT
theorem ZbM:Zaz ["roll","states","numbers","due","some","found"] ["roll","states","numbers"] (Zn ZbA):=⟨rfl,rfl,rfl,by decide +kernel,rfl,by decide +kernel,by decide +kernel⟩
theorem Zhe (A:Zay K mg "_law_told_of" ZbA ["roll","states","numbers"]) (T:Txt K mg) (F_told:Fn3 P w K mg base 1 "told" ["roll","states"] Zh2) (F_ended:Fn3 P w K mg base 1 "ended" ["roll","states"] ZdK) (F__law_same:Fn3 P w K mg base 8 "_law_same" ["found","due"] ZaC):Fn3 P w K mg base 9 "_law_told_of" ["roll","states","numbers"] Zbj:=
  Fn3.of (N:=["roll","states","numbers","due","some","found"]) (k:=8) A ZbM fun f cdv A outer s H E hr=>by
    have hu:=ZcK hr;unfold Zd1;refine Zh ?_ ?_
    ·exact Zaw 3 ZbM.nd (Zcz Zi)
    ·refine Zh ?_ ?_
     ·refine ZgD ?_ ?_ ?_ ?_ ?_
      ·exact rfl
      ·exact rfl
      ·refine Zj3 ?_
       refine ZhA ?_ ?_ ?_ ?_
       ·exact Zh9
       ·exact Zd 2
       ·exact ZcS
       ·exact ZcO (Zam Zh7 (Zcs (id:="len") ZdC T.m_len Zco (Zc (Zd 1) Zi)) Zj)
      ·exact ZbI 4 ZbM.nd
      ·exact Zr (Zaw 3 ZbM.nd (Zam Zbx (Zd 3) (Zd 4)))
     ·refine Zh ?_ ?_
      ·exact Zaw 5 ZbM.nd (Zal (k:=1) (ps:=["roll","states"]) F_told (hr.mono (by decide)) (Zc (Zd 0) (Zc (Zd 1) Zi)))
      ·refine Zh ?_ ?_
       ·refine ZaL ?_ ?_ ?_
        ·exact Zdv (Zb6 (Zal (k:=8) (ps:=["found","due"]) F__law_same (hr.mono (by decide)) (Zc (Zd 5) (Zc (Zd 3) Zi))))
        ·exact Zr (Zag ZjJ)
        ·exact Zai
       ·refine Zh ?_ ?_
        ·exact Zcu (ZaW (Zd 5) (Zc Zj Zi))
        ·refine Zh ?_ ?_
         ·refine ZaL ?_ ?_ ?_
          ·refine Zdv ?_
           refine Zb6 ?_;refine Zal (k:=8) (ps:=["found","due"]) ?_ ?_ ?_
           ·exact F__law_same
           ·exact hr.mono (by decide)
           ·exact Zc (Zal (k:=1) (ps:=["roll","states"]) F_told (hr.mono (by decide)) (Zc (Zd 0) (Zc (Zd 1) Zi))) (Zc (Zd 3) Zi)
          ·exact Zr (Zag ZjJ)
          ·exact Zai
         ·refine Zr ?_
          refine Zag ?_;refine Zal (k:=8) (ps:=["found","due"]) ?_ ?_ ?_
          ·exact F__law_same
          ·exact hr.mono (by decide)
          ·refine Zc ?_ ?_
           ·exact Zal (k:=1) (ps:=["roll","states"]) F_ended (hr.mono (by decide)) (Zc (Zd 0) (Zc (Zd 1) Zi))
           ·refine Zc ?_ ?_
            ·refine ZeS ?_ ?_ ?_
             ·exact (Zb7 hu)
             ·refine Zw ?_ ?_ ?_
              ·exact Zv
              ·exact Zw Zv (Zd 0) (Zw Zv (Zw Zv (Zd 1) (ZhP ZeW Zj)) Zj)
              ·exact Zj
             ·exact Zan
            ·exact Zi
theorem Zei:Zaz ["script","roll","boxes","bound","states","numbers","found","at"] ["script"] (Zn Zf9):=⟨rfl,rfl,rfl,by decide +kernel,rfl,by decide +kernel,by decide +kernel⟩
theorem Zro {f:Addr} {fd:FuncData} (F:Fun K "law" "law" Zf9 f fd) (T:Txt K mg) (F_run:Fn3 P w K mg base 4 "run" ["roll","boxes","most"] Zh4) (F_read_roll:Fn3 P w K mg base 3 "read_roll" ["text"] ZcI) (F__law_cell_at:Fn3 P w K mg base 1 "_law_cell_at" ["script","k"] Zad) (F__law_number:Fn3 P w K mg base 1 "_law_number" ["cell"] ZaS) (F__law_roll:Fn3 P w K mg base 3 "_law_roll" ["cells"] Zdm) (F__law_far:Fn3 P w K mg base 1 "_law_far" ["roll","many"] ZdO) (F__law_text:Fn3 P w K mg base 1 "_law_text" ["roll"] Zbo) (F__law_walked:Fn3 P w K mg base 2 "_law_walked" ["roll","boxes","bound"] ZbP) (F__law_same:Fn3 P w K mg base 8 "_law_same" ["found","due"] ZaC) (F__law_one_by_one:Fn3 P w K mg base 9 "_law_one_by_one" ["roll","boxes","states"] Zbn) (F__law_told_of:Fn3 P w K mg base 9 "_law_told_of" ["roll","states","numbers"] Zbj):Zf1 P w K mg base CX0 10 f fd ["script"] (sp3 K 1 ZmE):=
  fn3 (N:=["script","roll","boxes","bound","states","numbers","found","at"]) (k:=9) F Zei fun cdv A outer s H E hr=>by
    have hu:=ZcK hr;unfold ZoS;refine Zh ?_ ?_
    ·refine Zaw 1 ?_ ?_
     ·exact Zei.nd
     ·exact Zal (k:=3) (ps:=["cells"]) F__law_roll (hr.mono (by decide)) (Zc (ZhA Zh9 (Zd 0) ZcS (ZcO Zj)) Zi)
    ·refine Zh ?_ ?_
     ·refine ZaL ?_ ?_ ?_
      ·refine Zas ?_ ?_ ?_
       ·exact (Zb7 hu)
       ·exact Zam Zb1 (Zal (k:=1) (ps:=["script","k"]) F__law_cell_at (hr.mono (by decide)) (Zc (Zd 0) (Zc Zj Zi))) Zj
       ·exact Zj
      ·refine Zr ?_
       refine Zaw 1 ?_ ?_
       ·exact Zei.nd
       ·refine Zal (k:=1) (ps:=["roll","many"]) ?_ ?_ ?_
        ·exact F__law_far
        ·exact hr.mono (by decide)
        ·refine Zc ?_ ?_
         ·exact Zd 1
         ·refine Zc ?_ ?_
          ·refine Zam ?_ ?_ ?_
           ·exact Zb1
           ·exact Zam ZdY (Zal (k:=1) (ps:=["script","k"]) F__law_cell_at (hr.mono (by decide)) (Zc (Zd 0) (Zc Zj Zi))) Zj
           ·exact Zj
          ·exact Zi
      ·exact Zai
     ·refine Zh ?_ ?_
      ·refine Zaw 2 ?_ ?_
       ·exact Zei.nd
       ·refine ZdD (T:="tuple") ?_ ?_ ?_ ?_
        ·exact ZcW
        ·exact T.m_tuple
        ·exact Zb5
        ·refine Zc ?_ ?_
         ·refine Zng (N':=["script","roll","boxes","bound","states","numbers","found","at","j"]) ?_ ?_ ?_ ?_ (fun C cl s H ex=>⟨?_,?_,?_⟩)
          ·exact Zcd rfl (by kernel_rfl)
          ·exact rfl
          ·exact rfl
          ·exact Zer T.m_range Zj
          ·exact ZbI 8 ((show Ydb (["script","roll","boxes","bound","states","numbers","found","at","j"]:List Str) by decide +kernel))
          ·exact Zfk
          ·refine Zal (k:=1) (ps:=["cell"]) ?_ ?_ ?_
           ·exact F__law_number
           ·exact hr.mono (by decide)
           ·refine Zc ?_ ?_
            ·refine Zam ?_ ?_ ?_
             ·exact Zbx
             ·refine Zam ?_ ?_ ?_
              ·exact ZdY
              ·exact Zal (k:=1) (ps:=["script","k"]) F__law_cell_at (hr.mono (by decide)) (Zc (Zd 0) (Zc (Zd 8) Zi))
              ·exact Zam Zbx (Zd 8) Zj
             ·exact Zam Zt7 Zj (Zd 8)
            ·exact Zi
         ·exact Zi
      ·refine Zh ?_ ?_
       ·refine Zaw 3 ?_ ?_
        ·exact Zei.nd
        ·exact Zam Zb1 (Zal (k:=1) (ps:=["script","k"]) F__law_cell_at (hr.mono (by decide)) (Zc (Zd 0) (Zc Zj Zi))) Zj
       ·refine Zh ?_ ?_
        ·refine Zqn ?_ ?_ ?_
         ·exact rfl
         ·exact Zal (k:=2) (ps:=["roll","boxes","bound"]) F__law_walked (hr.mono (by decide)) (Zc (Zd 1) (Zc (Zd 2) (Zc (Zd 3) Zi)))
         ·exact Zdp 4 Zei.nd (Zdp 5 Zei.nd Zho)
        ·refine Zh ?_ ?_
         ·refine ZaL ?_ ?_ ?_
          ·refine CW.ct ?_
           refine ZfK ?_ ?_
           ·refine Zas ?_ ?_ ?_
            ·exact (Zb7 hu)
            ·exact Zam Zb1 (Zal (k:=1) (ps:=["script","k"]) F__law_cell_at (hr.mono (by decide)) (Zc (Zd 0) (Zc Zj Zi))) Zj
            ·exact Zj
           ·refine ZeR ?_
            refine Zas ?_ ?_ ?_
            ·exact ZsQ
            ·exact Zcs (id:="len") ZdC T.m_len Zco (Zc (Zal (k:=1) (ps:=["roll"]) F__law_text (hr.mono (by decide)) (Zc (Zd 1) Zi)) Zi)
            ·exact Zj
          ·refine Zr ?_
           refine Zaw 1 ?_ ?_
           ·exact Zei.nd
           ·exact Zal (k:=3) (ps:=["text"]) F_read_roll (hr.mono (by decide)) (Zc (Zal (k:=1) (ps:=["roll"]) F__law_text (hr.mono (by decide)) (Zc (Zd 1) Zi)) Zi)
          ·exact Zai
         ·refine Zh ?_ ?_
          ·exact Zaw 6 Zei.nd (Zal (k:=4) (ps:=["roll","boxes","most"]) F_run (hr.mono (by decide)) (Zc (Zd 1) (Zc (Zd 2) (Zc (Zd 3) Zi))))
          ·refine Zh ?_ ?_
           ·refine ZaL ?_ ?_ ?_
            ·exact Zdv (Zb6 (Zal (k:=8) (ps:=["found","due"]) F__law_same (hr.mono (by decide)) (Zc (Zd 6) (Zc (Zd 4) Zi))))
            ·exact Zr (Zag ZjJ)
            ·exact Zai
           ·refine Zh ?_ ?_
            ·exact Zcu (ZaW (Zd 6) (Zc (Zw Zv (Zd 6) Zj) Zi))
            ·refine Zh ?_ ?_
             ·refine ZaL ?_ ?_ ?_
              ·refine Zdv ?_
               refine Zb6 ?_;refine Zal (k:=8) (ps:=["found","due"]) ?_ ?_ ?_
               ·exact F__law_same
               ·exact hr.mono (by decide)
               ·refine Zc ?_ ?_
                ·exact Zal (k:=4) (ps:=["roll","boxes","most"]) F_run (hr.mono (by decide)) (Zc (Zd 1) (Zc (Zd 2) (Zc (Zd 3) Zi)))
                ·exact Zc (Zd 4) Zi
              ·exact Zr (Zag ZjJ)
              ·exact Zai
             ·refine Zh ?_ ?_
              ·refine ZaL ?_ ?_ ?_
               ·exact Zdv (Zb6 (Zal (k:=9) (ps:=["roll","boxes","states"]) F__law_one_by_one (hr.mono (by decide)) (Zc (Zd 1) (Zc (Zd 2) (Zc (Zd 4) Zi)))))
               ·exact Zr (Zag ZjJ)
               ·exact Zai
              ·refine Zh ?_ ?_
               ·refine Zaw 7 ?_ ?_
                ·exact Zei.nd
                ·refine Zam ?_ ?_ ?_
                 ·exact Zbx
                 ·exact Zj
                 ·refine Zam ?_ ?_ ?_
                  ·exact Zb1
                  ·exact Zal (k:=1) (ps:=["script","k"]) F__law_cell_at (hr.mono (by decide)) (Zc (Zd 0) (Zc Zj Zi))
                  ·exact Zcs (id:="len") ZdC T.m_len Zco (Zc (Zd 4) Zi)
               ·refine Zr ?_
                refine Zag ?_;refine ZiW ?_ ?_
                ·exact Zal (k:=9) (ps:=["roll","states","numbers"]) F__law_told_of (hr.mono (by decide)) (Zc (Zd 1) (Zc (Zd 4) (Zc (Zd 5) Zi)))
                ·refine Zja ?_
                 refine Zal (k:=9) (ps:=["roll","states","numbers"]) ?_ ?_ ?_
                 ·exact F__law_told_of
                 ·exact hr.mono (by decide)
                 ·exact Zc (Zd 1) (Zc (ZhA Zh9 (Zd 4) ZcS (ZcO (Zd 7))) (Zc (Zd 5) Zi))
end
end Law
set_option maxHeartbeats 200000
namespace Law
open L3
theorem Zsj (c:Nat):∀ (x y a b:List Nat),c ∉ x -> c ∉ y -> x ++ c :: a = y ++ c :: b -> x = y /\ a = b:=by
 intro x
 induction x with
 | nil=>
  intro y a b _ hy h;cases y with
  | nil=>exact ⟨rfl,(Ydp h).2⟩
  | cons q y=>exact absurd (Ydp h).1 fun e=>hy (e ▸ Yq ..)
 | cons p x ih=>
  intro y a b hx hy h;cases y with
  | nil=>exact absurd (Ydp h).1 fun e=>hx (e ▸ Yq ..)
  | cons q y=>
   obtain ⟨e1,e2⟩:=ih y a b (fun z=>hx (Yv _ z)) (fun z=>hy (Yv _ z)) (Ydp h).2;exact ⟨by rw [(Ydp h).1,e1],e2⟩
theorem Zep (s x y:List Nat) (r:List (List Nat)):glue s (x :: y :: r) = x ++ (s ++ glue s (y :: r)):=by
 show x ++ s ++ glue s (y :: r) = _;rw [Yz]
theorem Zoh (c:Nat):∀ (ts us:List (List Nat)),ts ≠ [] -> us ≠ [] -> (∀ t ∈ ts,c ∉ t) -> (∀ t ∈ us,c ∉ t) -> glue [c] ts = glue [c] us -> ts = us:=by
 intro ts
 induction ts with
 | nil=>intro us h; exact absurd rfl h
 | cons t ts ih=>
  intro us _ hu ft fu h;cases us with
  | nil=>exact absurd rfl hu
  | cons u us=>
   have ht:=ft t (Yq ..);have hu':=fu u (Yq ..);cases ts with
   | nil=>
    cases us with
    | nil=>rw [show t = u from h]
    | cons v us=>
     rw [Zep] at h;refine absurd (show c ∈ t from ?_) ht;rw [show t = _ from h];exact Yal _ (Yq ..)
   | cons w ts=>
    cases us with
    | nil=>
     rw [Zep] at h;refine absurd (show c ∈ u from ?_) hu';rw [show u = _ from h.symm];exact Yal _ (Yq ..)
    | cons v us=>
     rw [Zep,Zep] at h;obtain ⟨e1,e2⟩:=Zsj c t u _ _ ht hu' h;rw [e1,ih (v :: us) (fun z=>nomatch z) (fun z=>nomatch z) (fun q hq=>ft q (Yv _ hq)) (fun q hq=>fu q (Yv _ hq)) e2]
theorem Zib (x:List Nat) (c:Nat):glue [c] (ZdR x [c]) = x:=by
 have h:=PySem.StrLaws.join_split (⟨x.toArray⟩:PySem.Str) (⟨([c]:List Nat).toArray⟩);have e:(PySem.Txt.split (⟨x.toArray⟩:PySem.Str) ⟨([c]:List Nat).toArray⟩) = (ZdR x [c]).map fun t=>(⟨t.toArray⟩:PySem.Str):=by
  unfold ZdR;rw [Ycn];exact (List.map_id _).symm.trans (Yc7 fun t _=>rfl)
 rw [e,ZgM] at h;have q:=congrArg (fun s:PySem.Str=>s.cps.toList) h;simpa using q
theorem Zg5 (c:Nat) (ts:List (List Nat)) (h:ts ≠ []) (hf:∀ t ∈ ts,c ∉ t):ZdR (glue [c] ts) [c] = ts:=by
 have hs:∀ t ∈ ZdR (glue [c] ts) [c],c ∉ t:=by
  intro t ht;obtain ⟨p,hp,rfl⟩:=Yan.mp ht;exact PySem.StrLaws.split_free _ c p hp
 refine Zoh c _ _ (fun z=>?_) h hs hf (Zib _ c);have q:=Zib (glue [c] ts) c;unfold ZdR at z;have z1:=Ye9.mp z;have z2:=PyProof.Rows.split_pos (⟨(glue [c] ts).toArray⟩:PySem.Str) ⟨([c]:List Nat).toArray⟩;rw [z1] at z2;exact absurd z2 (by decide)
noncomputable def ZbK (n:Nat):List Nat:=(Yhs 10 n).map Char.toNat
theorem Zlk:∀ d:Nat,d < 10 -> (Nat.digitChar d).toNat = 48 + d:=by decide
theorem ZdU {n:Nat} (h:n < 10):ZbK n = [48 + n]:=by
 unfold ZbK;rw [Ygn h,Yt,Yc5,Zlk n h]
theorem Zen {n:Nat} (h:10 <= n):ZbK n = ZbK (n / 10) ++ [48 + n % 10]:=by
 have hm:n % 10 < 10:=Nat.mod_lt n (by decide);have t:Yhs 10 (n / 10) ++ Yhs 10 (n % 10) = Yhs 10 (10 * (n / 10) + n % 10):=Nat.toDigits_append_toDigits (by decide) (by omega) hm;rw [Nat.div_add_mod] at t;unfold ZbK;rw [← t,Yae,Ygn hm,Yt,Yc5,Zlk _ hm]
theorem Zem (n:Nat):∀ c ∈ ZbK n,48 <= c /\ c <= 57:=by
 induction n using Yht with
 | _ n ih=>
  by_cases h:n < 10
  ·rw [ZdU h]
   intro c hc;rw [Yco.mp hc]; exact ⟨Yam _ _,lA 1 0x392b0302bc0a1b011 T1 h⟩
  ·rw [Zen (Y8 h)]
   intro c hc;rcases Ybh.mp hc with hc | hc
   ·exact ih (n / 10) (Ydv fun z=>lB 3 0x6010ad01a1b0511002 T1 z h (Ydc _ _)) c hc
   ·rw [Yco.mp hc]; exact ⟨Yam _ _,lA 1 0x392b0302bc0a1b011 T1 (Nat.mod_lt _ (by decide))⟩
theorem Zhj (n:Nat):ZbK n ≠ []:=by
 by_cases h:n < 10
 ·rw [ZdU h]; exact fun z=>nomatch z
 ·rw [Zen (Y8 h)]; exact fun z=>absurd (List.append_eq_nil_iff.mp z).2 (fun z=>nomatch z)
theorem Ze9 (k:Nat):∀ n:Nat,n < 10 ^ (k + 1) -> (ZbK n).length <= k + 1:=by
 induction k with
 | zero=>intro n h; rw [ZdU (by simpa using h)]; exact Yi _
 | succ k ih=>
  intro n h;by_cases q:n < 10
  ·rw [ZdU q]; exact Yee 1 _
  ·rw [Zen (Y8 q),Yw,Yaw]
   have:=ih (n / 10) (by rw [Nat.pow_succ] at h; omega);exact lB 1 0xaa1cca0c0a1c001 T1 this
theorem Zm1 (n:Nat) (h:0 < n):∀ r,ZbK n ≠ 48 :: r:=by
 induction n using Yht with
 | _ n ih=>
  intro r z;by_cases q:n < 10
  ·rw [ZdU q] at z
   have:=(Ydp z).1; exact lA 2 0x60e11302b0302bc21 T1 this h
  ·rw [Zen (Y8 q)] at z
   cases e:ZbK (n / 10) with
   | nil=>exact Zhj _ e
   | cons c l=>
    rw [e] at z;have:=(Ydp z).1;subst this;exact ih (n / 10) (Ydv fun z=>lB 3 0x6010ad01a1b0511002 T1 z q (Ydc _ _)) (by omega) l e
theorem Zk0 (n:Nat):Ycd (ZbK n) = n:=by
 induction n using Yht with
 | _ n ih=>
  by_cases q:n < 10
  ·rw [ZdU q]
   show 0 * 10 + (48 + n - 48) = n;exact Yh (lB 1 0x10a1b00dc01302bc302b0c21 T1 (Yd (Yam _ _))) (lB 1 0x1a1b00dc00302b1c0302bc01 T1 (sbA _ _))
  ·rw [Zen (Y8 q)]
   have e:Ycd (ZbK (n / 10) ++ [48 + n % 10]) = Ycd (ZbK (n / 10)) * 10 + (48 + n % 10 - 48):=by
    unfold Ycd;rw [List.foldl_append]; rfl
   rw [e,ih (n / 10) (Ydv fun z=>lB 3 0x6010ad01a1b0511002 T1 z q (Ydc _ _))];omega
theorem ZkE (n:Nat):Zx (n:Int) = ZbK n:=by
 unfold Zx ZbK;rw [Yfa];show (Nat.repr n).toList.map Char.toNat = _;rw [Nat.toList_repr]
theorem ZkU (n:Nat):Zx (Int.negSucc n) = 45 :: ZbK (n + 1):=by
 unfold Zx ZbK;rw [Yfa];show ("-" ++ Nat.repr (n + 1)).toList.map Char.toNat = _;rw [String.toList_append,Yae,Nat.toList_repr];rfl
theorem Zfi (i:Int) (h:i.natAbs < 10 ^ 60):Yh9 ⟨(Zx i).toArray⟩ = some i /\ (Zx i).length <= 61 /\ ∀ c ∈ Zx i,45 <= c:=by
 cases i with
 | ofNat n=>
  have hl:=Ze9 59 n h;have e:Zx (Int.ofNat n) = ZbK n:=ZkE n;rw [e];refine ⟨?_,Nat.le_succ_of_le hl,fun c hc=>Yj (by decide) (Zem n c hc).1⟩;have q:=PySem.intText_digits (x:=⟨(ZbK n).toArray⟩) (Zem n) (Zhj n) (Yj (show (ZbK n).toArray.size <= 60 by simpa using hl) (by decide));rw [q];show some ((Ycd (ZbK n):Nat):Int) = _;rw [Zk0]; rfl
 | negSucc n=>
  have hl:=Ze9 59 (n + 1) h;rw [ZkU];refine ⟨?_,Yev hl,fun c hc=>?_⟩
  ·have q:=PySem.intText_neg (x:=⟨(45 :: ZbK (n + 1)).toArray⟩) (cs:=ZbK (n + 1)) rfl (Zem _) (Zhj _) (Yj (show (45 :: ZbK (n + 1)).toArray.size <= 61 by simpa using hl) (by decide))
   rw [q,Zk0]; rfl
  ·rcases Y3.mp hc with e | hc
   ·exact Yb4 e.symm
   ·exact Yj (by decide) (Zem _ c hc).1
theorem Zhw (n d:Nat):sIx n d none = d:=rfl
theorem Zjz (n d k:Nat):sIx n d (some (k:Int)) = min k n:=by
 have h:¬ ((k:Int) < 0):=(fun z=>iN [_] [] 1 7211153 T1 z);simp only [sIx,if_neg h,Yek]
theorem Zgy {α:Type} (w:List α) (k:Nat):cutD w (some (k:Int)) none = w.drop k:=by
 unfold cutD;rw [Zjz,Zhw];by_cases h:k <= w.length
 ·rw [Yd7 h,Ybg (by simp)]
 ·rw [Ygp (by exact lB 1 1052737 T1 h),Yg2 (Yi _),Yg2 (by exact lB 1 1052737 T1 h)]; simp
theorem ZhY {α:Type} (w:List α) (k:Nat):cutD w none (some (k:Int)) = w.take k:=by
 unfold cutD;rw [Zjz,Zhw];by_cases h:k <= w.length
 ·rw [Yd7 h]; simp
 ·rw [Ygp (by exact lB 1 1052737 T1 h),Nat.sub_zero,Yfv,Ybg (Yi _),Ybg (by exact lB 1 1052737 T1 h)]
theorem ZfH (n:Nat) (bs:List Int):below n (Zu bs) = true:=by
 unfold Zu below
 induction bs with
 | nil=>rfl
 | cons b bs ih=>simp only [Yt,belowL,below,ih,Yb3]
theorem Ze0 (n:Nat) (cs:List (Int × Int)):below n (Zah cs) = true:=by
 unfold Zah below
 induction cs with
 | nil=>rfl
 | cons b bs ih=>simp only [Yt,belowL,ih,Zae,below,Yb3]
theorem Zfa (n:Nat) (s:Stt):below n (Ze s) = true:=by
 simp only [Ze,below,belowL,ZfH,Ze0,Yb3]
theorem Zl8 (n:Nat) (s:Option Stt):below n (Zo0 s) = true:=by
 cases s with
 | none=>rfl
 | some s=>exact Zfa n s
theorem Zq9 {bs:List Int} (h:bs.length = 8) {a:Nat} (ha:a < 8):bs[a]? = some (bs.getD a 0):=by
 rw [Yaz,Y6 (by exact lB 2 72481667054415889 T1 ha h)]; rfl
theorem Zbs {bs:List Int} (h:bs.length = 8) {a:Nat} (ha:a < 8):∃ x,bs.getD a 0 = x /\ Zbc (bs.map D.int) (a:Int) = some (.int x):=⟨bs.getD a 0,rfl,by rw [ZaG,Yp,Zq9 h ha]; rfl⟩
theorem ZcY {i j:Int} {M:Store} (h:0 < j /\ j < 1073741824):Za7 (.int i) (.int j) M = .ok (.int (i / j)) M:=by simp only [Za7,if_pos h]
theorem Zdx {g:EL3} {env:Zaq} {M M':Store} {ds:List D} (h:g env M = .ok ds M') (hl:decide (ds.length <= 100) = true):Zbu g env M = .ok (.ref M'.length) (M' ++ [.lst ds]):=by
 have z:ds.length <= SZ:=Yj (of_decide_eq_true hl) (by decide);simp only [Zbu,h,R3.bind,if_pos z,alloc]
theorem ZfZ {env:Zaq} {M M':Store} {n:Nat} {xs:List D} {d:D} {o t:E3} (ho:o env M = .ok (.ref n) M) (hM:M[n]? = some (.lst xs)) (ht:t env M = .ok d M') (hM':M'[n]? = some (.lst xs)) (hl:xs.length < SZ):
  ZaJ (ZaR tyL ZaD o (Za t (Zg))) env M = .nx env (M'.set n (.lst (xs ++ [d]))):=by
 have e:ZaR tyL ZaD o (Za t (Zg)) env M = .ok .non (M'.set n (.lst (xs ++ [d]))):=by
  simp only [ZaR,ho,R3.bind,tyL,hM,Za,ht,Zg,ZaD,hM',if_pos hl,if_true]
 rw [ZaJ,e]
theorem Zr7 {i j:Int} {M:Store} (h:ZdE i j = true):Zgk (.int i) (.int j) M = .ok (.int (i * j)) M:=by simp only [Zgk,h,if_true]
theorem ZkM (bs:List Int) (a:Nat) (v:Int) (M:Store) (ha:a < bs.length) (hl:bs.length <= 1000):Zb3 [Zu bs,.int a,.int v] M = .ok (Zu (bs.set a v)) M:=by
 have h1:(e2 Zao (e2 Zao (eSl (Zb 0) (ZaY) (ZaP (Zb 1))) (Zbv (Za (Zb 2) (Zg)))) (eSl (Zb 0) (ZaP (e2 Zao (Zb 1) (eC (.int 1)))) (ZaY))) [some (Zu bs),some (.int a),some (.int v)] M = .ok (Zu (bs.set a v)) M:=by
  have c1:cutD (bs.map D.int) none (some (a:Int)) = (bs.take a).map D.int:=by rw [ZhY,Ygo]
  have c2:cutD (bs.map D.int) (some ((a:Int) + 1)) none = (bs.drop (a + 1)).map D.int:=by
   rw [show ((a:Int) + 1) = ((a + 1:Nat):Int) by exact rfl,Zgy,List.map_drop]
  have s1:eSl (Zb 0) (ZaY) (ZaP (Zb 1)) [some (Zu bs),some (.int a),some (.int v)] M = .ok (.tup ((bs.take a).map D.int)) M:=by
   simp only [eSl,Zb,ZaY,ZaP,Zu,Y1,Yy,R3.bind,Zgt,c1]
  have s2:eSl (Zb 0) (ZaP (e2 Zao (Zb 1) (eC (.int 1)))) (ZaY) [some (Zu bs),some (.int a),some (.int v)] M = .ok (.tup ((bs.drop (a + 1)).map D.int)) M:=by
   simp only [eSl,e2,eC,Zao,Zb,ZaY,ZaP,Zu,Y1,Yy,R3.bind,Zgt,c2]
  have s3:Zbv (Za (Zb 2) (Zg)) [some (Zu bs),some (.int a),some (.int v)] M = .ok (.tup [.int v]) M:=by simp
  have a1:Zao (.tup ((bs.take a).map D.int)) (.tup [.int v]) M = .ok (.tup ((bs.take a).map D.int ++ [.int v])) M:=by
   simp only [Zao]; rw [if_pos (by simp; exact lB 2 0xf423f5b1001013e83b001 T1 hl (Ybb _ _))]
  refine (Zk (Zk s1 s3 a1) s2 ?_);simp only [Zao];rw [if_pos (by simp; exact lD 3 0xf42405b3a1cc00a2c3c2121013e83b001 T1 hl (Yed _ _) (Yd (lB 1 6991908881 T1 ha))),Zu,List.set_eq_take_append_cons_drop,if_pos ha];simp
 exact Rt.pure (G:=[]) (env:=[some (Zu bs),some (.int a),some (.int v)]) (by rw [Yaj]; exact ZaE h1) (ZfH _ _)
theorem Ziq (cs:List (Int × Int)) (n:Int) (M:Store) (h:keysOk cs) (hl:cs.length <= 5000):ZcU [Zah cs,.int n] M = .ok (.int (ZeU cs n)) M:=by
 have h1:(ZaR ZjN Zkg (Zax Zha (Za (Zb 0) (Zg))) (Za (Zb 1) (Za (eC (.int 0)) (Zg)))) [some (Zah cs),some (.int n)] M = .ok (.int (ZeU cs n)) (M ++ [.dct (dictOf (ZaQ cs))]):=by
  have hz:(ZaQ cs).length <= 100000:=by simp [ZaQ]; exact lA 1 0x186a05b0013884b001 T1 hl
  have b1:Zax Zha (Za (Zb 0) (Zg)) [some (Zah cs),some (.int n)] M = .ok (.ref M.length) (M ++ [.dct (dictOf (ZaQ cs))]):=by
   refine ZbH (a:=Zah cs) (M1:=M) rfl ?_;simp only [Zah,Zha,ZlW];rw [if_pos hz]; rfl
  simp only [ZaR,b1,R3.bind,ZjN,Za,Zb,eC,Zg,Y1,Yy];simp only [Zaa,ZcP,Yfn,if_true,Zkg,ZeM];rw [Znw h]
 exact Rt.pure (env:=[some (Zah cs),some (.int n)]) (ZaE h1) rfl
theorem Zik (r:Row) (bs:List Int) (p many:Nat) (M:Store) (hb:bs.length = 8) (hr:r.ok many):ZcL [Zq r,.int p,Zu bs] M = .ok (.int (r.place bs p)) M:=by
 refine Rt.pure (G:=[]) (env:=[some (Zq r),some (.int p),some (Zu bs)]) ?_ rfl;rw [Yaj];cases r with
 | when a k=>
  obtain ⟨x,hx,gx⟩:=Zbs hb hr.1;have g:Zf (Zu bs) (.int (a:Int)) M = .ok (.int x) M:=by simp only [Zu,Zf,gx]
  have cc:(Zcq (e2 ZaH (e2 Zf (Zb 0) (eC (.int 0))) (eC (.str [119,104,101,110]))) (e2 ZgT (e2 Zf (Zb 2) (e2 Zf (Zb 0) (eC (.int 1)))) (eC (.int 0)))) [some (Zq (.when a k)),some (.int p),some (Zu bs)] M = .ok (.bl (decide (0 < x))) M:=(Zdb (M1:=M) rfl).trans (Zk (Zk (b:=.int (a:Int)) rfl rfl g) rfl rfl);have s0:(e2 ZaH (e2 Zf (Zb 0) (eC (.int 0))) (eC (.str [106,117,109,112]))) [some (Zq (.when a k)),some (.int p),some (Zu bs)] M = .ok (.bl false) M:=rfl;simp only [Row.place,hx];by_cases c:0 < x
  ·rw [decide_eq_true c] at cc
   rw [if_pos c];exact (Zm (Zak s0)).trans (ZbY ((ZbN cc).trans rfl))
  ·rw [decide_eq_false c] at cc
   rw [if_neg c];exact (Zm (Zak s0)).trans ((Zm (Zak cc)).trans rfl)
 | _=>rfl
theorem Zmi (x y:Int) (M:Store):Zb8 [.str [97,100,100],.int x,.int y] M = .ok (.int (x + y)) M:=by simp [Zb8,Zfg,Zy,ZaF,Zau,sIf,Zab,ZaJ,mkF,Zdh,below,belowL,ZdE]
theorem ZlR (x y:Int) (M:Store):Zb8 [.str [115,117,98],.int x,.int y] M = .ok (.int (x - y)) M:=by simp [Zb8,Zfg,Zy,ZaF,Zau,sIf,Zab,ZaJ,mkF,Zdh,below,belowL,ZdE]
theorem Zla (x y:Int) (M:Store):Zb8 [.str [109,111,114,101],.int x,.int y] M = .ok (.int (if y < x then 1 else 0)) M:=by
 by_cases c:y < x <;> simp [Zb8,Zfg,Zy,ZaF,Zau,sIf,Zab,ZaJ,mkF,Zdh,below,belowL,ZdE,c]
theorem Zig (r:Row) (bs:List Int) (cs:List (Int × Int)) (many:Nat) (M:Store) (hb:bs.length = 8) (hr:r.ok many) (hk:keysOk cs) (hl:cs.length <= 5000):ZcX [Zq r,Zu bs,Zah cs] M = .ok (Zu (r.boxes bs cs)) M:=by
 have wb:∀ (a:Nat) (v:Int),a < 8 -> Zb3 [Zu bs,.int a,.int v] M = .ok (Zu (bs.set a v)) M:=fun a v ha=>ZkM bs a v M (by rw [hb]; exact ha) (by rw [hb]; decide);have cv:∀ (n:Int),ZcU [Zah cs,.int n] M = .ok (.int (ZeU cs n)) M:=fun n=>Ziq cs n M hk hl;have gt:∀ {a:Nat} {x:Int},Zbc (bs.map D.int) (a:Int) = some (.int x) -> Zf (Zu bs) (.int (a:Int)) M = .ok (.int x) M:=fun {a x} g=>by simp only [Zu,Zf,g]
 have tp:∀ env,(Zbv (Za (eC (.str [97,100,100])) (Za (eC (.str [115,117,98])) (Za (eC (.str [109,111,114,101])) (Zg))))) env M = .ok (.tup [.str [97,100,100],.str [115,117,98],.str [109,111,114,101]]) M:=fun env=>by simp
 refine Rt.pure (G:=[]) (env:=[some (Zq r),some (Zu bs),some (Zah cs),none]) ?_ (ZfH _ _);rw [Yaj];have pre:∀ {w:List Nat} {o:O3} {k:S3},Zf (Zq r) (.int 0) M = .ok (.str w) M -> k [some (Zq r),some (Zu bs),some (Zah cs),some (.str w)] M = o -> Zy (ZaF 3 (e2 Zf (Zb 0) (eC (.int 0)))) k [some (Zq r),some (Zu bs),some (Zah cs),none] M = o:=fun {w o k} h1 h=>(Zm (Zaf (Zk rfl rfl h1))).trans h;have sk:∀ {w v:List Nat} {f k:S3} {o:O3},decide (w = v) = false -> k [some (Zq r),some (Zu bs),some (Zah cs),some (.str w)] M = o -> Zy (sIf (e2 ZaH (Zb 3) (eC (.str v))) f Zab) k [some (Zq r),some (Zu bs),some (Zah cs),some (.str w)] M = o:=fun {w v f k o} h1 h=>(Zm (Zak (M':=M) (Zk rfl rfl (by simp only [ZaH,eqD,h1])))).trans h;have wk:∀ {w:List Nat} {a b c:Nat} {x y z:Int},Zq r = .tup [.str w,.int a,.int b,.int c] -> Zb8 [.str w,.int x,.int y] M = .ok (.int z) M -> a < 8 -> Zbc (bs.map D.int) (b:Int) = some (.int x) -> Zbc (bs.map D.int) (c:Int) = some (.int y) -> Zjg (.str w) (.tup [.str [97,100,100],.str [115,117,98],.str [109,111,114,101]]) M = .ok (.bl true) M ->
   (Zy (sIf (e2 Zjg (Zb 3) (Zbv (Za (eC (.str [97,100,100])) (Za (eC (.str [115,117,98])) (Za (eC (.str [109,111,114,101])) (Zg)))))) (Zau (Zt Zb3 (Za (Zb 1) (Za (e2 Zf (Zb 0) (eC (.int 1))) (Za (Zt Zb8 (Za (Zb 3) (Za (e2 Zf (Zb 1) (e2 Zf (Zb 0) (eC (.int 2)))) (Za (e2 Zf (Zb 1) (e2 Zf (Zb 0) (eC (.int 3)))) (Zg))))) (Zg)))))) (Zab)) (Zau (Zb 1))) [some (Zq r),some (Zu bs),some (Zah cs),some (.str w)] M = .rt (Zu (bs.set a z)) M:=fun {w a b c x y z} he hw ha gx gy hin=>by
  rw [he];exact ZbY ((ZbN (Zk rfl (tp _) hin)).trans (ZaE (Zb2 rfl (b:=.int (a:Int)) (M2:=M) rfl (Zb2 rfl (Zk rfl (b:=.int (b:Int)) (M2:=M) rfl (gt gx)) (Zk rfl (b:=.int (c:Int)) (M2:=M) rfl (gt gy)) hw) (wb a z ha))))
 have no:∀ {w:List Nat},Zf (Zq r) (.int 0) M = .ok (.str w) M -> decide (w = [112,117,116]) = false -> decide (w = [103,101,116]) = false -> Zjg (.str w) (.tup [.str [97,100,100],.str [115,117,98],.str [109,111,114,101]]) M = .ok (.bl false) M -> ZeQ [some (Zq r),some (Zu bs),some (Zah cs),none] M = .rt (Zu bs) M:=fun {w} h1 h2 h3 h4=>
  pre h1 (sk h2 (sk h3 ((Zm (Zak (Zk rfl (tp _) h4))).trans rfl)))
 cases r with
 | put a n=>exact pre rfl (ZbY ((ZbN (M':=M) rfl).trans (ZaE (Zb2 rfl rfl rfl (wb a n hr)))))
 | get a b=>
  obtain ⟨x,hx,gx⟩:=Zbs hb hr.2;simp only [Row.boxes,hx];exact pre rfl (sk rfl (ZbY ((ZbN (M':=M) rfl).trans (ZaE (Zb2 rfl (b:=.int (a:Int)) (M2:=M) rfl (Zbd rfl (Zk rfl (b:=.int (b:Int)) (M2:=M) rfl (gt gx)) (cv x)) (wb a _ hr.1))))))
 | add a b c=>
  obtain ⟨x,hx,gx⟩:=Zbs hb hr.2.1;obtain ⟨y,hy,gy⟩:=Zbs hb hr.2.2;simp only [Row.boxes,hx,hy];exact pre rfl (sk rfl (sk rfl (wk rfl (Zmi x y M) hr.1 gx gy rfl)))
 | sub a b c=>
  obtain ⟨x,hx,gx⟩:=Zbs hb hr.2.1;obtain ⟨y,hy,gy⟩:=Zbs hb hr.2.2;simp only [Row.boxes,hx,hy];exact pre rfl (sk rfl (sk rfl (wk rfl (ZlR x y M) hr.1 gx gy rfl)))
 | more a b c=>
  obtain ⟨x,hx,gx⟩:=Zbs hb hr.2.1;obtain ⟨y,hy,gy⟩:=Zbs hb hr.2.2;simp only [Row.boxes,hx,hy];exact pre rfl (sk rfl (sk rfl (wk rfl (Zla x y M) hr.1 gx gy rfl)))
 | _=>exact no rfl rfl rfl rfl
theorem ZsT {a b l c:Nat} (f1:a <= c) (f2:b <= c) (hL:l <= 1) (hl:c <= 5000):a + l + b <= 1000000:=by omega
theorem Zmm {n m:Nat} {M:Store} {x y:List D} (h1:M[n]? = some (.lst x)) (h2:M[m]? = some (.lst y)) (hz:x.length + y.length <= SZ):Zao (.ref n) (.ref m) M = .ok (.ref M.length) (M ++ [.lst (x ++ y)]):=by
 simp only [Zao,h1,h2,if_pos hz,alloc]
theorem Zon {g:EL3} {env:Zaq} {M M':Store} {ds:List D} (h:g env M = .ok ds M') (hl:decide (ds.length <= 100) = true):Zbu g env M = .ok (.ref M'.length) (M' ++ [.lst ds]):=by
 have z:ds.length <= SZ:=Yj (of_decide_eq_true hl) (by decide);simp only [Zbu,h,R3.bind,if_pos z,alloc]
theorem Zsi {A L B:List D} {m:Store} {x0 x1 x2:Option D} (hz:A.length + L.length + B.length <= SZ):Zau (Zax Za1 (Za (e2 Zao (e2 Zao (Zb 3) (Zb 5)) (Zb 4)) (Zg))) [x0,x1,x2,some (.ref m.length),some (.ref (m ++ [MO.lst A]).length),some (.ref (m ++ [MO.lst A] ++ [MO.lst B]).length)] (m ++ [MO.lst A] ++ [MO.lst B] ++ [MO.lst L])
  = .rt (.tup (A ++ L ++ B)) (m ++ ([MO.lst A] ++ ([MO.lst B] ++ ([MO.lst L] ++ ([MO.lst (A ++ L)] ++ [MO.lst (A ++ L ++ B)]))))):=by
 have gA:(m ++ [MO.lst A] ++ [MO.lst B] ++ [MO.lst L])[m.length]? = some (.lst A):=ZaI (ZaI (Zaa ..) _) _;have gB:(m ++ [MO.lst A] ++ [MO.lst B] ++ [MO.lst L])[(m ++ [MO.lst A]).length]? = some (.lst B):=ZaI (Zaa ..) _;have gL:(m ++ [MO.lst A] ++ [MO.lst B] ++ [MO.lst L])[(m ++ [MO.lst A] ++ [MO.lst B]).length]? = some (.lst L):=Zaa ..;rw [← Yz,← Yz,← Yz,← Yz];generalize m ++ [MO.lst A] ++ [MO.lst B] ++ [MO.lst L] = M3 at *;exact ZaE (ZbH (Zk (Zk (by exact rfl) (by exact rfl) (Zmm gA gL (Yj (Yam _ _) hz))) (by exact rfl) (Zmm (Zaa ..) (ZaI gB _) (by rw [Yw]; exact hz))) (Zfm (Zaa ..)))
theorem Zjo (cs:List (Int × Int)) (n v:Int) (M:Store) (hl:cs.length <= 5000):ZcD [Zah cs,.int n,.int v] M = .ok (Zah (Zch cs n v)) M:=by
 have b1:=Zi4 (α:=Int × Int) (enc:=Zae) (h:=Zae) (p:=fun c=>decide (c.1 < n)) (own:=1) (i:=6) (it:=Zdl (Zb 0)) (c:=e2 Zis (e2 Zf (Zb 6) (eC (.int 0))) (Zb 1)) (elt:=Zb 6) (env:=[some (Zah cs),some (.int n),some (.int v),none,none,none]) (M:=M) (M1:=M) (lock:=none) (as:=cs)
  (by exact rfl) (fun _ h=>by cases h) (fun a _ M=>by exact rfl) (fun a _ _ M=>by exact rfl) (lA 1 0x186a05b0013884b001 T1 hl)
 have b2:=fun (x:D) (M:Store)=>Zi4 (α:=Int × Int) (enc:=Zae) (h:=Zae) (p:=fun c=>decide (n < c.1)) (own:=1) (i:=6) (it:=Zdl (Zb 0)) (c:=e2 ZgT (e2 Zf (Zb 6) (eC (.int 0))) (Zb 1)) (elt:=Zb 6) (env:=[some (Zah cs),some (.int n),some (.int v),some x,none,none]) (M:=M) (M1:=M) (lock:=none) (as:=cs)
  (by exact rfl) (fun _ h=>by cases h) (fun a _ M=>by exact rfl) (fun a _ _ M=>by exact rfl) (lA 1 0x186a05b0013884b001 T1 hl)
 have f1:=Yeu (fun c:Int × Int=>decide (c.1 < n)) cs;have f2:=Yeu (fun c:Int × Int=>decide (n < c.1)) cs;have e:Zah (Zch cs n v) = .tup ((cs.filter fun c=>decide (c.1 < n)).map Zae ++ (if v ≠ 0 then [(n,v)] else []).map Zae ++ (cs.filter fun c=>decide (n < c.1)).map Zae):=by rw [Zah,Zch,Yae,Yae]
 have b3:∀ (x y:D) (M:Store),eIf (e2 ZeP (Zb 2) (eC (.int 0))) (Zbu (Za (Zbv (Za (Zb 1) (Za (Zb 2) (Zg)))) (Zg))) (Zbu (Zg)) [some (Zah cs),some (.int n),some (.int v),some x,some y,none] M = .ok (.ref M.length) (M ++ [.lst ((if v ≠ 0 then [(n,v)] else []).map Zae)]):=fun x y M=>by
  by_cases c:v = 0
  ·rw [if_neg (fun h=>h c),c]; exact (Zra (M1:=M) (by exact rfl)).trans (Zon (by exact rfl) rfl)
  ·rw [if_pos c]; exact (Zq7 (M1:=M) (Zk rfl rfl (by simp only [ZeP,eqD,decide_eq_false c,Bool.not_false]))).trans (Zon (Zat (Zc1 (by exact rfl) rfl) (by exact rfl)) rfl)
 have lL:((if v ≠ 0 then [(n,v)] else []).map Zae).length <= 1:=by split; exact Yi 1; exact Yag 1
 have hz:((cs.filter fun c=>decide (c.1 < n)).map Zae).length + ((if v ≠ 0 then [(n,v)] else []).map Zae).length + ((cs.filter fun c=>decide (n < c.1)).map Zae).length <= SZ:=by rw [Yk,Yk (as:=List.filter (fun c=>decide (n < c.1)) cs)]; exact ZsT f1 f2 lL hl
 rw [e];generalize (if v ≠ 0 then [(n,v)] else []).map Zae = L at *;exact Rt.pure ((Zm (Zaf b1)).trans ((Zm (Zaf (b2 (.ref M.length) _))).trans ((Zm (Zaf (b3 (.ref M.length) (.ref (M ++ [MO.lst ((cs.filter fun c=>decide (c.1 < n)).map Zae)]).length) _))).trans (Zsi hz)))) (e ▸ Ze0 _ _)
theorem Zir (r:Row) (bs:List Int) (cs:List (Int × Int)) (many:Nat) (M:Store) (hb:bs.length = 8) (hr:r.ok many) (hl:cs.length <= 5000):ZcT [Zq r,Zu bs,Zah cs] M = .ok (Zah (r.cells bs cs)) M:=by
 have wc:∀ (n v:Int) (M:Store),ZcD [Zah cs,.int n,.int v] M = .ok (Zah (Zch cs n v)) M:=fun n v M=>Zjo cs n v M hl;refine Rt.pure (G:=[]) (env:=[some (Zq r),some (Zu bs),some (Zah cs)]) ?_ (Ze0 _ _);rw [Yaj];unfold ZeH;generalize ZcD = F1 at *;cases r with
 | set a b=>
  obtain ⟨x,hx,gx⟩:=Zbs hb hr.1;obtain ⟨y,hy,gy⟩:=Zbs hb hr.2;have e:Row.cells bs cs (.set a b) = Zch cs x y:=by rw [← hx,← hy]; rfl
  rw [e];exact ZbY ((ZbN (M':=M) (by exact rfl)).trans (ZaE (Zb2 (by exact rfl) (Zk (by exact rfl) (by exact rfl) (Zb0 gx)) (Zk (by exact rfl) (by exact rfl) (Zb0 gy)) (wc x y M))))
 | _=>exact (Zm (Zak (M':=M) (by exact rfl))).trans (ZaE (by exact rfl))
theorem ZfE (roll:Zba) (s:Stt) (M:Store) (hok:∀ x ∈ roll,x.ok roll.length) (hs:s.ok roll) (hk:keysOk s.cells) (hl:s.cells.length <= 5000):ZaU [Zo roll,Ze s] M = .ok (Zo0 (Zcm roll s)) M:=by
 obtain ⟨hp,hb⟩:=hs;have hr:roll[s.place]? = some roll[s.place]:=by simp [hp]
 have ro:=hok _ (Y4 hp);unfold Zcm;rw [hr];generalize roll[s.place] = r at hr ro;show _ = R3.ok (Zo0 (Zgi s r)) M;have np:=Zik r s.boxes s.place roll.length;have nb:=Zig r s.boxes s.cells roll.length;have nc:=Zir r s.boxes s.cells roll.length;refine Rt.pure (G:=[]) (env:=[some (Zo roll),some (Ze s),none,none,none,none]) ?_ (Zl8 _ _);rw [Yaj];unfold ZeF;generalize ZcL = F1 at *;generalize ZcX = F2 at *;generalize ZcT = F3' at *;refine (Zm (Zaf (d:=.int s.place) (M':=M) (by exact rfl))).trans ((Zm (Zaf (d:=Zu s.boxes) (M':=M) (by exact rfl))).trans ((Zm (Zaf (d:=Zah s.cells) (M':=M) (by exact rfl))).trans ((Zm (Zaf (d:=Zq r) (M':=M) (by simp [Zo,hr]))).trans ?_)));have e3:Zbv (Za (Zt F1 (Za (Zb 5) (Za (Zb 2) (Za (Zb 3) (Zg))))) (Za (Zt F2 (Za (Zb 5) (Za (Zb 3) (Za (Zb 4) (Zg))))) (Za (Zt F3' (Za (Zb 5) (Za (Zb 3) (Za (Zb 4) (Zg))))) (Zg)))) [some (Zo roll),some (Ze s),some (.int s.place),some (Zu s.boxes),some (Zah s.cells),some (Zq r)] M = .ok (Ze ⟨r.place s.boxes s.place,r.boxes s.boxes s.cells,r.cells s.boxes s.cells⟩) M:=by
  exact Zc1 (Zat (Zb2 (by exact rfl) (by exact rfl) (by exact rfl) (np M hb ro)) (Zat (Zb2 (by exact rfl) (by exact rfl) (by exact rfl) (nb M hb ro hk hl)) (Zat (Zb2 (by exact rfl) (by exact rfl) (by exact rfl) (nc M hb ro hl)) (by exact rfl)))) (by exact rfl)
 cases hh:r.isHalt with
 | true=>
  cases r <;> simp at hh
  exact ZbY ((ZbN (M':=M) (by exact rfl)).trans (ZaE (by exact rfl)))
 | false=>
  have e4:(e2 ZaH (e2 Zf (Zb 5) (eC (.int 0))) (eC (.str [104,97,108,116]))) [some (Zo roll),some (Ze s),some (.int s.place),some (Zu s.boxes),some (Zah s.cells),some (Zq r)] M = .ok (.bl false) M:=by
   cases r <;> first | exact rfl | simp [Zq] at hh ⊢
  refine (Zm (Zak e4)).trans (ZaE (e3.trans ?_));simp [Zgi,hh,Zo0]
theorem ZeY (bs:List Int) (M:Store):ZaT [Zu bs] M = .ok (Ze ⟨0,bs,[]⟩) M:=by
 refine Rt.pure (G:=[]) (env:=[some (Zu bs)]) ?_ (Zfa _ _);simp [Zee,Zau,Ze,Zu,Zah]
theorem ZtO {i j:Int} (h:-(2 ^ 64) < i /\ i < 2 ^ 64):ZdE i j = true:=by
 unfold ZdE; rw [Yc3]; left; simp only [Yu,decide_eq_true_eq]; exact h
theorem ZcN (x:Int) (m:Nat) (h:0 < m):∃ a:Nat,x % (m:Int) = a /\ a < m:=by
 have h1:=Int.emod_nonneg x (b:=(m:Int)) (by exact fun z=>iN [_] [] 2 416093702305 T1 z h);have h2:=Yfs x (b:=(m:Int)) (by exact iN [_] [] 1 149491217 T1 h);exact ⟨(x % (m:Int)).toNat,(Ya8 h1).symm,by exact iN [_,_] [_] 2 18698308976785 T1 h2 (Ya8 h1)⟩
noncomputable def ZdS (ns:List Int) (i:Int):Int:=ns.getD i.toNat 0
theorem cell_eq (ns:List Int) (i:Int) (hi:0 <= i) (M:Store):Zad [.scr (ns.map D.int),.int i] M = .ok (.int (ZdS ns i)) M:=by
 obtain ⟨k,rfl⟩:=Ygb hi;by_cases h:k < ns.length
 ·simp [Zad,ZcM,Zy,ZaF,Zau,sIf,Zab,ZaJ,mkF,Zdh,below,belowL,ZdE,h,ZdS]
 ·simp [Zad,ZcM,Zy,ZaF,Zau,sIf,Zab,ZaJ,mkF,Zdh,below,belowL,ZdE,h,ZdS]
theorem ZkW (roll:Zba) (ss:List Stt) (s:Stt) (n:Nat) (M:Store) (hs:s.place < roll.length) (hM:M[n]? = some (.lst ((ss ++ [s]).map Ze))):ZdK [Zo roll,.ref n] M = .ok (.bl (Zcv roll s)) M:=by
 have hr:roll[s.place]? = some roll[s.place]:=by simp [hs]
 have h1:(e2 Zf (Zb 1) (e1 ZbE (eC (.int 1)))) [some (Zo roll),some (.ref n),none] M = .ok (Ze s) M:=by
  have:=getD_last (ss.map Ze) (Ze s);simp [hM,this]
 refine Rt.pure (G:=[]) (env:=[some (Zo roll),some (.ref n),none]) ?_ rfl;rw [Yaj];refine (Zm (Zaf h1)).trans (ZaE ?_);unfold Zcv;rw [hr];generalize roll[s.place] = r at hr;cases r <;> simp [Zo,Ze,hr,Zq]
theorem ZnZ (roll:Zba) (R:ZbS roll) (d:D) (most:Nat) (M:Store) (hm:most <= 2001):∀ (k:Nat) (pre:List Stt) (s:Stt) (fuel:Nat),pre.length + k = most -> k < fuel -> Good roll s -> s.cells.length <= pre.length ->
  Zde (Zcq (e2 ZgW (Zax Za2 (Za (Zb 3) (Zg))) (Zb 2)) (e1 Zbp (Zt ZdK (Za (Zb 0) (Za (Zb 3) (Zg)))))) (ZaJ (ZaR tyL ZaD (Zb 3) (Za (Zt ZaU (Za (Zb 0) (Za (e2 Zf (Zb 3) (e1 ZbE (eC (.int 1)))) (Zg)))) (Zg)))) fuel
   [some (Zo roll),some d,some (.int (most:Int)),some (.ref M.length)] (M ++ [.lst ((pre ++ [s]).map Ze)]) = .nx [some (Zo roll),some d,some (.int (most:Int)),some (.ref M.length)] (M ++ [.lst ((pre ++ Zby roll k s).map Ze)]):=by
 intro k
 induction k with
 | zero=>
  intro pre s fuel hk hf g hc;cases fuel with
  | zero=>exact (lN [] 1 454161 rfl hf).elim
  | succ fuel=>
   have c1:(Zcq (e2 ZgW (Zax Za2 (Za (Zb 3) (Zg))) (Zb 2)) (e1 Zbp (Zt ZdK (Za (Zb 0) (Za (Zb 3) (Zg)))))) [some (Zo roll),some d,some (.int (most:Int)),some (.ref M.length)] (M ++ [.lst ((pre ++ [s]).map Ze)]) = .ok (.bl false) (M ++ [.lst ((pre ++ [s]).map Ze)]):=by
    refine ZfL ?_;have:¬ ((pre.length:Int) + 1 <= (most:Int)):=(fun z=>iN [_,_] [] 2 0x61e0c3118a08c81 T1 z hk);simp [this]
   unfold Zde;rw [c1]; rfl
 | succ k ih=>
  intro pre s fuel hk hf g hc;cases fuel with
  | zero=>exact (lA 1 116001809 T1 hf).elim
  | succ fuel=>
   have en:=ZkW roll pre s M.length (M ++ [.lst ((pre ++ [s]).map Ze)]) g.pl (Zaa _ _ _);have c1:(Zcq (e2 ZgW (Zax Za2 (Za (Zb 3) (Zg))) (Zb 2)) (e1 Zbp (Zt ZdK (Za (Zb 0) (Za (Zb 3) (Zg)))))) [some (Zo roll),some d,some (.int (most:Int)),some (.ref M.length)] (M ++ [.lst ((pre ++ [s]).map Ze)]) = .ok (.bl (!Zcv roll s)) (M ++ [.lst ((pre ++ [s]).map Ze)]):=by
    rw [Zdb (M1:=M ++ [.lst ((pre ++ [s]).map Ze)]) (by
     have:(pre.length:Int) + 1 <= (most:Int):=iN [_,_,_] [] 1 0x28a08c82a1c0c21 T1 hk;simp [this])]
    exact Zd5 (Zbd rfl rfl en) rfl
   unfold Zde;rw [c1];cases q:Zcm roll s with
   | none=>
    have he:=(Zf0 g.pl).mp q;rw [he];simp only [Bool.not_true];rw [ZdL k q]
   | some s'=>
    have he:Zcv roll s = false:=by
     cases z:Zcv roll s with
     | false=>rfl
     | true=>rw [(Zf0 g.pl).mpr z] at q; cases q
    rw [he];simp only [Bool.not_false];have nx:=ZfE roll s (M ++ [.lst ((pre ++ [s]).map Ze)]) R.rows ⟨g.pl,g.bx⟩ g.rs.keys (lD 3 0x13884b007d13b3013a2c1c211001 T1 hc hk hm);rw [q] at nx;have last:(e2 Zf (Zb 3) (e1 ZbE (eC (.int 1)))) [some (Zo roll),some d,some (.int (most:Int)),some (.ref M.length)] (M ++ [.lst ((pre ++ [s]).map Ze)]) = .ok (Ze s) (M ++ [.lst ((pre ++ [s]).map Ze)]):=by
     have:=getD_last (pre.map Ze) (Ze s);simp [this]
    have bd:=Zgm (Znt (o:=Zb 3) (arg:=Zt ZaU (Za (Zb 0) (Za (e2 Zf (Zb 3) (e1 ZbE (eC (.int 1)))) (Zg)))) (env:=[some (Zo roll),some d,some (.int (most:Int)),some (.ref M.length)]) (M:=M ++ [.lst ((pre ++ [s]).map Ze)]) (M2:=M ++ [.lst ((pre ++ [s]).map Ze)]) (n:=M.length) (xs:=(pre ++ [s]).map Ze) (ys:=(pre ++ [s]).map Ze) (d:=Ze s') rfl (Zaa _ _ _) (Zbd rfl last nx) (Zaa _ _ _) (by simp; exact lC 2 0xf42405ba0c17d13b2012a1c0c21 T1 hk hm));rw [bd];obtain ⟨g',lc⟩:=ZgQ R g q;have:=ih (pre ++ [s]) s' fuel (by simp; exact Yh (lC 1 0x21a0cc02a1c0c21 T1 hk) (lC 1 0x1a0cc202a1c0c31 T1 hk)) (lB 1 1106520968209 T1 hf) g' (by simp; exact lC 2 0xa2c002101a1c001 T1 lc hc);have e1:(M ++ [MO.lst ((pre ++ [s]).map Ze)]).set M.length (.lst ((pre ++ [s]).map Ze ++ [Ze s'])) = M ++ [.lst ((pre ++ [s] ++ [s']).map Ze)]:=by simp
    rw [e1];refine this.trans ?_;rw [ZdM k q];simp
theorem ZrY (roll:Zba) (R:ZbS roll) (bs:List Int) (most:Nat) (M:Store) (hm:most <= 2001) (hb:bs.length = 8):Zh4 [Zo roll,Zu bs,.int (most:Int)] M = .ok (.ref M.length) (M ++ [.lst ((Zby roll most ⟨0,bs,[]⟩).map Ze)]):=by
 have fs:=ZeY bs M;have pos:0 < roll.length:=by obtain ⟨q,x,e,_⟩:=R.last; rw [e]; simp
 have lp:=ZnZ roll R (Zu bs) most M hm most [] ⟨0,bs,[]⟩ 1000000 (by simp) (lA 1 0xf42405b017d13b001 T1 hm) ⟨pos,hb,by simp [Zeb]⟩ (by simp);have s1:(Zbu (Za (Zt ZaT (Za (Zb 1) (Zg))) (Zg))) [some (Zo roll),some (Zu bs),some (.int (most:Int)),none] M = .ok (.ref M.length) (M ++ [.lst (([] ++ [(⟨0,bs,[]⟩:Stt)]).map Ze)]):=by
  have e1:Zt ZaT (Za (Zb 1) Zg) [some (Zo roll),some (Zu bs),some (.int (most:Int)),none] M = .ok (Ze ⟨0,bs,[]⟩) M:=Zeh rfl fs;generalize Zt ZaT (Za (Zb 1) Zg) = E1 at e1 ⊢;simp [e1]
 refine (Zdz (env:=[some (Zo roll),some (Zu bs),some (.int (most:Int)),none]) ((Zm (Zaf s1)).trans ((Zm lp).trans (ZaE rfl)))).trans ?_;simp [Zdh,below]
theorem Zmy (roll:Zba) (ss:List Stt) (n:Nat) (M:Store) (hok:∀ x ∈ roll,x.ok roll.length) (hs:∀ s ∈ ss,s.ok roll) (hz:ss.length <= 100000) (hM:M[n]? = some (.lst (ss.map Ze))):
  Zh2 [Zo roll,.ref n] M = .ok (.ref M.length) (M ++ [.lst ((ZdA roll ss).map D.int),.lst (ss.dropLast.map Ze)]):=by
 have hb:Zma [some (Zo roll),some (.ref n),none,none,none] M = .rt (.ref M.length) (M ++ [.lst ((ZdA roll ss).map D.int),.lst (ss.dropLast.map Ze)]):=by
  have h0:(Zdl (eSl (Zb 1) (ZaY) (ZaP (e1 ZbE (eC (.int 1)))))) [some (Zo roll),some (.ref n),some (.ref M.length),none,none] (M ++ [.lst []]) = .ok ⟨ss.dropLast.map Ze,some (M.length + 1)⟩ (M ++ [.lst [],.lst (ss.dropLast.map Ze)]):=by
   simp [ZaI hM,Zlh]
  obtain ⟨e',M',hl,x,y,rfl,rfl⟩:=Zeu (it:=⟨ss.dropLast.map Ze,some (M.length + 1)⟩) (g:=ZbB 3)
   (body:=(Zy (ZaF 4 (e2 Zf (Zb 0) (e2 Zf (Zb 3) (eC (.int 0))))) (sIf (e2 ZaH (e2 Zf (Zb 4) (eC (.int 0))) (eC (.str [116,101,108,108]))) (ZaJ (ZaR tyL ZaD (Zb 2) (Za (e2 Zf (e2 Zf (Zb 3) (eC (.int 1))) (e2 Zf (Zb 4) (eC (.int 1)))) (Zg)))) (Zab))))
   (P:=fun j env M'=>∃ x y,env = [some (Zo roll),some (.ref n),some (.ref M.length),x,y] /\ M' = M ++ [.lst (((ss.dropLast.take j).filterMap fun s=>(roll[s.place]?).bind fun x=>x.tells s.boxes).map D.int),.lst (ss.dropLast.map Ze)])
   (ss.dropLast.map Ze) 0 [some (Zo roll),some (.ref n),some (.ref M.length),none,none] (M ++ [.lst [],.lst (ss.dropLast.map Ze)])
   ⟨none,none,rfl,by simp⟩ (fun j env M' ⟨x,y,he,hm⟩=>by subst hm; simp [locked])
   (fun k d hd env M' ⟨x,y,he,hm⟩=>by
    subst he hm;rw [Yp] at hd;cases hs':ss.dropLast[k]? with
    | none=>rw [hs'] at hd; cases hd
    | some s=>
     rw [hs'] at hd;have hd':Ze s = d:=by simpa using hd
     subst hd';have hmem:s ∈ ss:=List.dropLast_subset _ (Yax hs');obtain ⟨hp,hbx⟩:=hs s hmem;have hr:roll[s.place]? = some roll[s.place]:=by simp [hp]
     have hro:=hok _ (Y4 hp);have ht:ss.dropLast.take (k + 1) = ss.dropLast.take k ++ [s]:=by rw [Ydq,hs']; rfl
     generalize roll[s.place] = r at hr hro;have hlen:(((ss.dropLast.take k).filterMap fun s=>(roll[s.place]?).bind fun x=>x.tells s.boxes)).length < 1000000:=by
      have h1:=Yd6 (fun s:Stt=>(roll[s.place]?).bind fun x=>x.tells s.boxes) (ss.dropLast.take k);have h2:=List.length_take_le k ss.dropLast;have h3:ss.dropLast.length = ss.length - 1:=by simp
      have h4:=Yay (i:=k) (l:=ss.dropLast);exact lF 6 0xf42405b4153012101186a05b501040132211021 T1 h4 h3 h1 hz (Ybb _ _) (Yb9 _ _)
     refine ⟨[some (Zo roll),some (.ref n),some (.ref M.length),some (Ze s),y],[some (Zo roll),some (.ref n),some (.ref M.length),some (Ze s),some (Zq r)],_,rfl,(Zm (Zaf (d:=Zq r) (M':=M ++ [.lst (((ss.dropLast.take k).filterMap fun s=>(roll[s.place]?).bind fun x=>x.tells s.boxes).map D.int),.lst (ss.dropLast.map Ze)]) ?_)).trans ?_,_,_,rfl,rfl⟩
     ·simp [Zo,Ze,hr]
     ·rw [Ya3,ht,List.filterMap_append]
      cases r with
      | tell a=>
       have ha:a < s.boxes.length:=by rw [hbx]; exact hro
       have hv:s.boxes[a]? = some s.boxes[a]:=by simp [ha]
       simp [Zq,Ze,Zu,Zy,ZaF,Zau,sIf,Zab,ZaJ,mkF,Zdh,below,belowL,ZdE,hr,hv,hlen]
      | _=>simp [Zq,Zy,ZaF,Zau,sIf,Zab,ZaJ,mkF,Zdh,below,belowL,ZdE,hr])
  refine (Zm (Zaf (d:=.ref M.length) (M':=M ++ [.lst []]) (by simp))).trans ((Zm ((ZeL h0).trans hl)).trans (ZaE ?_));rw [Ya3,Yk,Ydy];rfl
 refine (Zdz hb).trans ?_;simp [Zdh,below]
theorem ZoK {M:Store} {n:Nat} {o:MO} (h:M[n]? = some o):M.set n o = M:=by
 apply Ybl;intro j;by_cases hj:j = n
 ·subst hj; rw [Yab (Yb.mp h).1,h]
 ·rw [Y9 (Ya4 hj)]
theorem ZlK {i:Nat} {env:Zaq} {t:List (Int × Int)} {n own:Nat} {M:Store} {c elt:E3} (hi:env[i]? = some (some (.ref n))) (hM:M[n]? = some (.dct (ZaQ t))) (hz:t.length <= 100000)
  (hc:∀ p ∈ t,∀ M,ZcP M[n]? = some (ZaQ t) -> c ((env ++ Yl own none).set env.length (some (.int p.1))) M = .ok (.bl (decide (p.2 ≠ 0))) M)
  (he:∀ p ∈ t,∀ M,ZcP M[n]? = some (ZaQ t) -> elt ((env ++ Yl own none).set env.length (some (.int p.1))) M = .ok (Zae p) M):
  ZpN (Zb i) own (ZbB env.length) [c] elt env M = .ok (.ref M.length) (M ++ [.lst ((t.filter fun p=>decide (p.2 ≠ 0)).map Zae)]):=by
 have hlt:=(Yb.mp hM).1;have e0:Zb i env M = .ok (.ref n) M:=by simp only [Zb,hi]
 have ek:((ZaQ t).map fun q=>keyV q.1) = t.map fun p=>D.int p.1:=by
  simp [ZaQ,keyV,Function.comp_def]
 have rd:∀ x,ZcP ((M.set n (.fdct (ZaQ t)) ++ [MO.lst []]).set M.length (MO.lst x))[n]? = some (ZaQ t):=fun x=>by
  rw [Y9 (by exact fun z=>lB 2 25787699233 T1 z hlt),Y7 (by simpa using hlt),Yab hlt]; rfl
 have lp:=Zgr (α:=Int × Int) (enc:=fun p=>D.int p.1) (h:=Zae) (p:=fun p=>decide (p.2 ≠ 0)) (it:=⟨(ZaQ t).map fun q=>keyV q.1,none⟩) (i:=env.length) (n:=M.length) (c:=c) (elt:=elt) (env0:=env ++ Yl own none) t [] (env ++ Yl own none) (M.set n (.fdct (ZaQ t)) ++ [.lst []]) (fun _=>rfl)
  (fun p hp x=>hc p hp _ (rd x)) (fun p hp _ x=>he p hp _ (rd x)) (fun _=>rfl) (by rw [Yaq (by simp)]; simp) (by simp; exact lA 1 0xf42405b00186a05b001 T1 hz)
 unfold ZpN;rw [e0];simp only [R3.bind,hM];rw [show (List.map (fun q=>keyV q.fst) (ZaQ t)) = t.map (fun p=>D.int p.1) from ek] at lp ⊢;rw [lp];have e1:(M.set n (.fdct (ZaQ t)) ++ [MO.lst []]).set M.length (MO.lst ([] ++ (t.filter fun p=>decide (p.2 ≠ 0)).map Zae)) = M.set n (.fdct (ZaQ t)) ++ [MO.lst ((t.filter fun p=>decide (p.2 ≠ 0)).map Zae)]:=by
  rw [Yhg _ _ (by simp)]; simp
 rw [e1];have e2:(M.set n (.fdct (ZaQ t)) ++ [MO.lst ((t.filter fun p=>decide (p.2 ≠ 0)).map Zae)])[n]? = some (.fdct (ZaQ t)):=by
  rw [Y7 (by simpa using hlt),Yab hlt]
 simp only [e2];rw [List.set_append_left _ _ (by simpa using hlt),Yb6,ZoK hM]
theorem Zmz {n:Nat} {t:List (Int × Int)} (hk:keysOk t) {p:Int × Int} (hp:p ∈ t) {M:Store} (h:ZcP M[n]? = some (ZaQ t)):Zcp (.ref n) (.int p.1) M = .ok (.int p.2) M:=by
 have hv:Zcb (ZaQ t) (.inl p.1) = some (.int p.2):=by
  rw [Zke,if_pos (Ycb.mpr ⟨p,hp,by simp⟩),Ze4 hk (k:=p.1) (v:=p.2) hp]
 simp only [Zcp,h,ZeM,hv]
theorem Zkv {t:List (Int × Int)} (h:t.length < 64):(t.filter fun p=>decide (p.2 ≠ 0)).length < 64:=Ybs (Yeu _ _) h
theorem Zlw {e:E3} {env:Zaq} {M M1:Store} {t:List (Int × Int)} {n:Nat} (hk:keysOk t) (hl:t.length < 64) (h:e env M = .ok (.ref n) M1) (hn:M1[n]? = some (.lst ((t.filter fun p=>decide (p.2 ≠ 0)).map Zae))):
  Zax ZdG (Za e Zg) env M = .ok (.ref M1.length) (M1 ++ [.lst ((ZaN t).map Zae)]):=by
 refine ZbH h ?_;simp only [ZdG,hn];rw [if_pos (ZjL (Zkv hl)),ZkB (Zmc (ZeE t) (Zc6 hk))];rfl
theorem Zmh {α:Type} {enc:α -> D} {P:D -> α -> Prop} {it:It3} {i n:Nat} {elt:E3} {env0 env:Zaq} {ds acc:List D} {M:Store} (he:∀ d,env.set i (some d) = env0.set i (some d))
  (hf:∀ d ∈ ds,∃ a,P d a /\ ∀ x,elt (env0.set i (some d)) (M.set n (.lst x)) = .ok (enc a) (M.set n (.lst x))) (hl:∀ x,locked it (M.set n (.lst x)) = true) (hM:M[n]? = some (.lst acc)) (hz:acc.length + ds.length <= SZ):
  ∃ as:List α,as.length = ds.length /\ (∀ (j:Nat) d a,ds[j]? = some d -> as[j]? = some a -> P d a) /\ ZbC it (ZbB i) [] elt n ds env M = .ok (.ref n) (M.set n (.lst (acc ++ as.map enc))):=by
 obtain ⟨es,le,re,h⟩:=Zhx (it:=it) (i:=i) (n:=n) (elt:=elt) (R:=fun d e=>∃ a,e = enc a /\ P d a) (env0:=env0) ds acc env M he (fun d hd x=>by
  obtain ⟨a,pa,ha⟩:=hf d hd;exact ⟨enc a,ha _,a,rfl,pa⟩) hl hM hz
 obtain ⟨as,rfl,ps⟩:=Zkh (enc:=enc) (P:=fun j a=>∀ d,ds[j]? = some d -> P d a) es fun j e hj=>by
  have hlt:j < ds.length:=by rw [← le]; exact (Yb.mp hj).1
  obtain ⟨a,ea,pa⟩:=re j ds[j] e (by simp [hlt]) hj;refine ⟨a,ea,fun d hd=>?_⟩;rw [Y6 hlt] at hd;cases hd;exact pa
 exact ⟨as,by simpa using le,fun j d a hd ha=>ps j a ha d hd,h⟩
theorem ZdQ {M M':Store} {d:D} (h:M'.length = M.length):Zdh M d M' = .ok d M':=by
 unfold Zdh;rw [Ybg (Yb4 h)];split <;> rfl
noncomputable def ZfG (r:Row) (bs:List Int) (t:List (Int × Int)):List (Int × Int):=match r with
 | .set a b=>ZhV t (bs.getD a 0) (bs.getD b 0)
 | _=>t
theorem set_same {M:Store} {n:Nat} {o:MO} (h:M[n]? = some o):M.set n o = M:=by
 apply Ybl;intro j;by_cases hj:j = n
 ·subst hj; rw [Yab (Yb.mp h).1,h]
 ·rw [Y9 (Ya4 hj)]
theorem Zk5 {r:Row} {bs:List Int} {t:List (Int × Int)} (hk:keysOk t):r.boxes bs (ZaN t) = r.boxes bs t:=by cases r <;> simp [Row.boxes,ZmR hk]
theorem Zk4 {r:Row} {bs:List Int} {t:List (Int × Int)} (hk:keysOk t):r.cells bs (ZaN t) = ZaN (ZfG r bs t):=by
 cases r <;> simp only [Row.cells,ZfG]
 rw [Znl hk]
theorem Zo3 {r:Row} {bs:List Int} {t:List (Int × Int)} (hk:keysOk t):keysOk (ZfG r bs t):=by
 cases r <;> simp only [ZfG] <;> first | exact hk | exact ZiF _ _ hk
theorem Zpl (t:List (Int × Int)) (n v:Int):(ZhV t n v).length <= t.length + 1:=by
 unfold ZhV; split <;> simp
theorem Zqu (r:Row) (bs:List Int) (t:List (Int × Int)):(ZfG r bs t).length <= t.length + 1:=by
 cases r <;> simp only [ZfG] <;> first | omega | exact Zpl _ _ _
noncomputable def Zk9:Row -> List Nat
 | .put ..=>[112,117,116] | .add ..=>[97,100,100] | .sub ..=>[115,117,98] | .more ..=>[109,111,114,101] | .get ..=>[103,101,116] | .set ..=>[115,101,116] | .jump ..=>[106,117,109,112] | .when ..=>[119,104,101,110] | .tell ..=>[116,101,108,108] | .halt=>[104,97,108,116]
theorem Zkp (r:Row) (M:Store):Zf (Zq r) (.int 0) M = .ok (.str (Zk9 r)) M:=by cases r <;> simp [Zq,Zk9]
theorem ZmV (r:Row):r.isHalt = decide ((Zk9 r) = [104,97,108,116]):=by cases r <;> rfl
theorem ZoY {c:E3} {body:S3} {n:Nat} {env e:Zaq} {M M1 M':Store} (h:c env M = .ok (.bl true) M1) (h':body env M1 = .nx e M'):Zde c body (n + 1) env M = Zde c body n e M':=by
 show (match c env M with | .ok (.bl true) M1=>_ | .ok (.bl false) M1=>_ | .exc x M1=>_ | _=>_) = _;rw [h]; simp only [h']
theorem Zh8 {c:E3} {body:S3} {n:Nat} {env:Zaq} {M M1:Store} (h:c env M = .ok (.bl false) M1):Zde c body (n + 1) env M = .nx env M1:=by
 show (match c env M with | .ok (.bl true) M1=>_ | .ok (.bl false) M1=>_ | .exc x M1=>_ | _=>_) = _;rw [h]
theorem Zgh (r:Row):∃ nm,(r.isHalt = decide (nm = [104,97,108,116])) /\ ∀ M,Zf (Zq r) (.int 0) M = .ok (.str nm) M:=⟨_,ZmV r,Zkp r⟩
theorem skp {c:E3} {u g:S3} {env:Zaq} {M:Store} (h:c env M = .ok (.bl false) M):Zy (sIf c u Zab) g env M = g env M:=Zm (Zak h)
theorem ZnX (r:Row) (p nb nt:Nat) (bs:List Int) (t:List (Int × Int)) (M:Store) (many:Nat) (g0:M[nb]? = some (.lst (bs.map D.int))) (g1:M[nt]? = some (.dct (ZaQ t))) (hne:nb ≠ nt) (hb:bs.length = 8) (hr:r.ok many) (hl:t.length < 100000):
  ZbD [Zq r,.int p,.ref nb,.ref nt] M = .ok (.int (r.place bs p)) ((M.set nb (.lst ((r.boxes bs t).map D.int))).set nt (.dct (ZaQ (ZfG r bs t)))):=by
 have z:(ZaQ t).length < 1000000:=by rw [ZaQ,Yk]; exact lA 1 0xf42405b01186a05b011 T1 hl
 have sb:M.set nb (.lst (bs.map D.int)) = M:=set_same g0;have st:M.set nt (.dct (ZaQ t)) = M:=set_same g1;have sx:∀ x,(M.set nb x).set nt (.dct (ZaQ t)) = M.set nb x:=fun x=>set_same (by rw [Y9 hne]; exact g1);have fin:∀ {d:D} {bs':List Int},Ze8 [some (Zq r),some (.int (p:Int)),some (.ref nb),some (.ref nt)] M = .rt d (M.set nb (.lst (bs'.map D.int))) ->
   ZbD [Zq r,.int p,.ref nb,.ref nt] M = .ok d ((M.set nb (.lst (bs'.map D.int))).set nt (.dct (ZaQ t))):=fun {d bs'} h=>by rw [sx]; exact (Zdz h).trans (ZdQ (by simp))
 have gt:∀ {a:Nat} {x:Int},Zbc (bs.map D.int) (a:Int) = some (.int x) -> Zf (.ref nb) (.int (a:Int)) M = .ok (.int x) M:=fun {a x} g=>by simp only [Zf,g0,g]
 have pl:∀ {i f:E3} {a:Nat} {v:Int},f [some (Zq r),some (.int (p:Int)),some (.ref nb),some (.ref nt)] M = .ok (.int v) M -> i [some (Zq r),some (.int (p:Int)),some (.ref nb),some (.ref nt)] M = .ok (.int (a:Int)) M -> a < 8 ->
   Zg4 (Zb 2) i f [some (Zq r),some (.int (p:Int)),some (.ref nb),some (.ref nt)] M = .nx [some (Zq r),some (.int (p:Int)),some (.ref nb),some (.ref nt)] (M.set nb (.lst ((bs.set a v).map D.int))):=fun {i f a v} h1 h2 ha=>by
  have hl8:a < (bs.map D.int).length:=by rw [Yk,hb]; exact ha
  simp only [Zg4,ZaJ,e3,h1,h2,R3.bind,Zb,Y1,Yy,Zl0,g0,Zo9,if_pos hl8,List.map_set]
 cases r with
 | put a n=>exact fin (bs':=bs.set a n) ((skp rfl).trans ((skp rfl).trans ((Zm ((ZbN (M':=M) rfl).trans (pl (a:=a) rfl rfl hr))).trans ((skp rfl).trans ((skp rfl).trans ((skp rfl).trans ((skp rfl).trans ((skp rfl).trans rfl))))))))
 | add a b c=>
  obtain ⟨x,hx,gx⟩:=Zbs hb hr.2.1; obtain ⟨y,hy,gy⟩:=Zbs hb hr.2.2;simp only [Row.boxes,hx,hy];exact fin ((skp rfl).trans ((skp rfl).trans ((skp rfl).trans ((Zm ((ZbN (M':=M) rfl).trans (pl (a:=a) (v:=x + y) (Zk (Zk rfl (b:=.int (b:Int)) rfl (gt gx)) (Zk rfl (b:=.int (c:Int)) rfl (gt gy)) rfl) rfl hr.1))).trans ((skp rfl).trans ((skp rfl).trans ((skp rfl).trans ((skp rfl).trans rfl))))))))
 | sub a b c=>
  obtain ⟨x,hx,gx⟩:=Zbs hb hr.2.1; obtain ⟨y,hy,gy⟩:=Zbs hb hr.2.2;simp only [Row.boxes,hx,hy];exact fin ((skp rfl).trans ((skp rfl).trans ((skp rfl).trans ((skp rfl).trans ((Zm ((ZbN (M':=M) rfl).trans (pl (a:=a) (v:=x - y) (Zk (Zk rfl (b:=.int (b:Int)) rfl (gt gx)) (Zk rfl (b:=.int (c:Int)) rfl (gt gy)) rfl) rfl hr.1))).trans ((skp rfl).trans ((skp rfl).trans ((skp rfl).trans rfl))))))))
 | more a b c=>
  obtain ⟨x,hx,gx⟩:=Zbs hb hr.2.1; obtain ⟨y,hy,gy⟩:=Zbs hb hr.2.2;simp only [Row.boxes,hx,hy];have iv:Zgj [.bl (decide (y < x))] M = .ok (.int (if y < x then 1 else 0)) M:=by
   by_cases q:y < x
   ·rw [decide_eq_true q,if_pos q]; rfl
   ·rw [decide_eq_false q,if_neg q]; rfl
  exact fin ((skp rfl).trans ((skp rfl).trans ((skp rfl).trans ((skp rfl).trans ((skp rfl).trans ((Zm ((ZbN (M':=M) rfl).trans (pl (a:=a) (ZbH (Zk (Zk rfl (b:=.int (b:Int)) rfl (gt gx)) (Zk rfl (b:=.int (c:Int)) rfl (gt gy)) rfl) iv) rfl hr.1))).trans ((skp rfl).trans ((skp rfl).trans rfl))))))))
 | get a b=>
  obtain ⟨x,hx,gx⟩:=Zbs hb hr.2;simp only [Row.boxes,hx];have gv:(ZaR ZjN Zkg (Zb 3) (Za (e2 Zf (Zb 2) (e2 Zf (Zb 0) (eC (.int 2)))) (Za (eC (.int 0)) (Zg)))) [some (Zq (.get a b)),some (.int (p:Int)),some (.ref nb),some (.ref nt)] M = .ok (.int (ZeU t x)) M:=by
   have e1:(e2 Zf (Zb 2) (e2 Zf (Zb 0) (eC (.int 2)))) [some (Zq (.get a b)),some (.int (p:Int)),some (.ref nb),some (.ref nt)] M = .ok (.int x) M:=Zk rfl (b:=.int (b:Int)) rfl (gt gx);generalize (e2 Zf (Zb 2) (e2 Zf (Zb 0) (eC (.int 2)))) = E at e1;simp only [ZaR,Zb,Y1,Yy,R3.bind,ZjN,g1,ZcP,Yfn,if_true,Za,Zg,eC,e1,Zkg,ZeM,Zlf]
  exact fin ((skp rfl).trans ((skp rfl).trans ((skp rfl).trans ((skp rfl).trans ((skp rfl).trans ((skp rfl).trans ((Zm ((ZbN (M':=M) rfl).trans (pl (a:=a) gv rfl hr.1))).trans ((skp rfl).trans rfl))))))))
 | set a b=>
  obtain ⟨x,hx,gx⟩:=Zbs hb hr.1; obtain ⟨y,hy,gy⟩:=Zbs hb hr.2;simp only [Row.boxes,ZfG,hx,hy];rw [sb];have pd:Zmt (Zb 3) (e2 Zf (Zb 2) (e2 Zf (Zb 0) (eC (.int 1)))) (e2 Zf (Zb 2) (e2 Zf (Zb 0) (eC (.int 2)))) [some (Zq (.set a b)),some (.int (p:Int)),some (.ref nb),some (.ref nt)] M = .nx [some (Zq (.set a b)),some (.int (p:Int)),some (.ref nb),some (.ref nt)] (M.set nt (.dct (ZaQ (ZhV t x y)))):=by
   have e1:(e2 Zf (Zb 2) (e2 Zf (Zb 0) (eC (.int 1)))) [some (Zq (.set a b)),some (.int (p:Int)),some (.ref nb),some (.ref nt)] M = .ok (.int x) M:=Zk rfl (b:=.int (a:Int)) rfl (gt gx);have e2':(e2 Zf (Zb 2) (e2 Zf (Zb 0) (eC (.int 2)))) [some (Zq (.set a b)),some (.int (p:Int)),some (.ref nb),some (.ref nt)] M = .ok (.int y) M:=Zk rfl (b:=.int (b:Int)) rfl (gt gy);generalize (e2 Zf (Zb 2) (e2 Zf (Zb 0) (eC (.int 1)))) = E1 at e1;generalize (e2 Zf (Zb 2) (e2 Zf (Zb 0) (eC (.int 2)))) = E2 at e2';simp only [Zmt,ZaJ,e3,e1,e2',R3.bind,Zb,Y1,Yy,ZlN,g1,ZeM,if_pos z,Zoj]
  exact (Zdz ((skp rfl).trans ((skp rfl).trans ((skp rfl).trans ((skp rfl).trans ((skp rfl).trans ((skp rfl).trans ((skp rfl).trans ((Zm ((ZbN (M':=M) rfl).trans pd)).trans rfl))))))))).trans (ZdQ (by simp))
 | jump k=>
  refine (Zdz (M':=M) (d:=.int (k:Int)) (ZbY ((ZbN (M':=M) rfl).trans rfl))).trans ((ZdQ rfl).trans ?_);simp only [Row.boxes,ZfG,sb,st]; rfl
 | when a k=>
  obtain ⟨x,hx,gx⟩:=Zbs hb hr.1;have cc:(Zcq (e2 ZaH (e2 Zf (Zb 0) (eC (.int 0))) (eC (.str [119,104,101,110]))) (e2 ZgT (e2 Zf (Zb 2) (e2 Zf (Zb 0) (eC (.int 1)))) (eC (.int 0)))) [some (Zq (.when a k)),some (.int (p:Int)),some (.ref nb),some (.ref nt)] M = .ok (.bl (decide (0 < x))) M:=(Zdb (M1:=M) rfl).trans (Zk (Zk rfl (b:=.int (a:Int)) rfl (gt gx)) rfl rfl);simp only [Row.boxes,Row.place,ZfG,sb,st,hx];by_cases q:0 < x
  ·rw [decide_eq_true q] at cc
   rw [if_pos q];exact (Zdz (M':=M) (d:=.int (k:Int)) ((skp rfl).trans (ZbY ((ZbN cc).trans rfl)))).trans (ZdQ rfl)
  ·rw [decide_eq_false q] at cc
   rw [if_neg q];exact (Zdz (M':=M) (d:=.int ((p:Int) + 1)) ((skp rfl).trans ((skp cc).trans ((skp rfl).trans ((skp rfl).trans ((skp rfl).trans ((skp rfl).trans ((skp rfl).trans ((skp rfl).trans rfl))))))))).trans (ZdQ rfl)
 | tell a=>
  refine (Zdz (M':=M) (d:=.int ((p:Int) + 1)) rfl).trans ((ZdQ rfl).trans ?_);simp only [Row.boxes,ZfG,sb,st]; rfl
 | halt=>
  refine (Zdz (M':=M) (d:=.int ((p:Int) + 1)) rfl).trans ((ZdQ rfl).trans ?_);simp only [Row.boxes,ZfG,sb,st]; rfl
theorem ZpL (r:Row) (p:Nat) (bs:List Int) (t:List (Int × Int)) (A G:Store) (many:Nat) (hb:bs.length = 8) (hr:r.ok many) (hl:t.length < 100000):
  ZbD [Zq r,.int p,.ref A.length,.ref (A.length + 1)] (A ++ .lst (bs.map D.int) :: .dct (ZaQ t) :: G) = .ok (.int (r.place bs p)) (A ++ .lst ((r.boxes bs t).map D.int) :: .dct (ZaQ (ZfG r bs t)) :: G):=by
 rw [ZnX r p A.length (A.length + 1) bs t _ many (Zaa _ _ _) (Za5 _ _ 1) (fun z=>lA 1 111198257 T1 z) hb hr hl];rw [show (A ++ MO.lst (bs.map D.int) :: .dct (ZaQ t) :: G).set A.length (.lst ((r.boxes bs t).map D.int)) = A ++ .lst ((r.boxes bs t).map D.int) :: .dct (ZaQ t) :: G from ZbV A _ 0 _,ZbV A _ 1 _];rfl
theorem Zgs (p:Nat) (bs:List Int) (t:List (Int × Int)) (nb nt:Nat) (M:Store) (g0:M[nb]? = some (.lst (bs.map D.int))) (g1:M[nt]? = some (.dct (ZaQ t))) (hk:keysOk t) (hl:t.length < 64):Zbr [.int (p:Int),.ref nb,.ref nt] M = .ok (Ze ⟨p,bs,ZaN t⟩) M:=by
 have b2:=ZlK (i:=2) (env:=[some (.int (p:Int)),some (.ref nb),some (.ref nt),none]) (t:=t) (n:=nt) (own:=1) (M:=M) (c:=e2 ZeP (e2 Zcp (Zb 2) (Zb 4)) (eC (.int 0))) (elt:=Zbv (Za (Zb 4) (Za (e2 Zcp (Zb 2) (Zb 4)) (Zg)))) rfl g1 (lA 1 0x186a05b00402b011 T1 hl)
  (fun q hq M hM=>by
   have:=Zmz hk hq hM;have e:(e2 Zcp (Zb 2) (Zb 4)) ([some (.int (p:Int)),some (.ref nb),some (.ref nt),none,some (.int q.1)]) M = .ok (.int q.2) M:=Zk rfl rfl this;exact (Zk e rfl (by simp)))
  (fun q hq M hM=>by
   have:=Zmz hk hq hM;have e:(e2 Zcp (Zb 2) (Zb 4)) ([some (.int (p:Int)),some (.ref nb),some (.ref nt),none,some (.int q.1)]) M = .ok (.int q.2) M:=Zk rfl rfl this;generalize (e2 Zcp (Zb 2) (Zb 4)) = E at e;show Zbv (Za (Zb 4) (Za E Zg)) [some (.int (p:Int)),some (.ref nb),some (.ref nt),none,some (.int q.1)] M = _;simp [e,Zae])
 have so:=Zlw hk hl b2 (Zaa _ _ _);have k0:=ZaI g0 [.lst ((t.filter fun p=>decide (p.2 ≠ 0)).map Zae),.lst ((ZaN t).map Zae)];have k2:(M ++ [MO.lst ((t.filter fun p=>decide (p.2 ≠ 0)).map Zae),.lst ((ZaN t).map Zae)])[M.length + 1]? = some (.lst ((ZaN t).map Zae)):=Za5 _ _ 1;rw [Yz] at so;refine Rt.pure (G:=[.lst ((t.filter fun p=>decide (p.2 ≠ 0)).map Zae),.lst ((ZaN t).map Zae)]) (env:=[some (.int (p:Int)),some (.ref nb),some (.ref nt),none]) ((Zm (Zaf so)).trans (ZaE ?_)) (Zfa _ _);generalize hM':M ++ [MO.lst ((t.filter fun p=>decide (p.2 ≠ 0)).map Zae),.lst ((ZaN t).map Zae)] = M' at k0 k2;have e3:(M ++ [MO.lst ((t.filter fun p=>decide (p.2 ≠ 0)).map Zae)]).length = M.length + 1:=by simp
 have t1:Zax Za1 (Za (Zb 1) (Zg)) [some (.int (p:Int)),some (.ref nb),some (.ref nt),some (.ref (M.length + 1))] M' = .ok (Zu bs) M':=by simp [k0,Zu]
 have t2:Zax Za1 (Za (Zb 3) (Zg)) [some (.int (p:Int)),some (.ref nb),some (.ref nt),some (.ref (M.length + 1))] M' = .ok (Zah (ZaN t)) M':=by simp [k2,Zah]
 rw [e3];generalize Zax Za1 (Za (Zb 1) (Zg)) = E1 at t1;generalize Zax Za1 (Za (Zb 3) (Zg)) = E2 at t2;show Zbv (Za (Zb 0) (Za E1 (Za E2 (Zg)))) [some (.int (p:Int)),some (.ref nb),some (.ref nt),some (.ref (M.length + 1))] (M ++ [MO.lst ((t.filter fun p=>decide (p.2 ≠ 0)).map Zae),.lst ((ZaN t).map Zae)]) = _;rw [hM'];simp [t1,t2,Ze]
noncomputable def Zdk (roll:Zba) (s:Stt):List Int:=((roll[s.place]?).bind fun x=>x.tells s.boxes).toList
noncomputable def ZaV (n:Nat) (k:Nat):List D:=(Yaa k).map fun i=>D.ref (n + i)
theorem ZiO (n k:Nat):ZaV n (k + 1) = ZaV n k ++ [.ref (n + k)]:=by simp [ZaV,List.range_succ]
noncomputable def Zf4 (roll:Zba) (ss:List Stt):Store:=ss.map fun s=>MO.lst ((Zdk roll s).map D.int)
noncomputable abbrev Zb4 (A:Store) (roll:Zba) (bs:List Int) (t:List (Int × Int)) (all pre:List Stt):Store:=A ++ (.lst (bs.map D.int) :: .dct (ZaQ t) :: .lst (all.map Ze) :: .lst (ZaV (A.length + 4) pre.length) :: Zf4 roll pre)
noncomputable abbrev wE (roll:Zba) (A:Store) (most:Int) (p:Nat):Zaq:=[some (Zo roll),some (.ref A.length),some (.int most),some (.int (p:Int)),some (.ref (A.length + 1)),some (.ref (A.length + 2)),some (.ref (A.length + 3))]
noncomputable abbrev wI:S3:=(sIf (e2 ZaH (e2 Zf (e2 Zf (Zb 0) (Zb 3)) (eC (.int 0))) (eC (.str [116,101,108,108]))) (ZaJ (ZaR tyL ZaD (e2 Zf (Zb 6) (e1 ZbE (eC (.int 1)))) (Za (e2 Zf (Zb 1) (e2 Zf (e2 Zf (Zb 0) (Zb 3)) (eC (.int 1)))) (Zg)))) (Zab))
theorem Zks (roll:Zba) (ss:List Stt):(ss.map (Zdk roll)).flatten = ss.filterMap fun s=>(roll[s.place]?).bind fun x=>x.tells s.boxes:=by
 induction ss with
 | nil=>rfl
 | cons s ss ih=>
  rw [Yt,Yb1,ih,Ydz];unfold Zdk;cases (roll[s.place]?).bind fun x=>x.tells s.boxes <;> rfl
theorem ZmZ (roll:Zba) (R:ZbS roll) (A:Store) (most:Int) (s:Stt) (g:Good roll s) (t:List (Int × Int)) (all pre:List Stt) (hl:pre.length <= 1000) (f:S3):
  (Zy (ZaJ (ZaR tyL ZaD (Zb 6) (Za (Zbu (Zg)) (Zg)))) (Zy wI f)) (wE roll A most s.place) (Zb4 A roll s.boxes t all pre) = f (wE roll A most s.place) (Zb4 A roll s.boxes t all (pre ++ [s])):=by
 have gp:=g.pl;have hr:roll[s.place]? = some roll[s.place]:=by simp [g.pl]
 have ro:=R.rows _ (Y4 g.pl);generalize roll[s.place] = r at hr ro;obtain ⟨S,hS⟩:∃ S,Zb4 A roll s.boxes t all pre = S:=⟨_,rfl⟩;have lS:S.length = A.length + 4 + pre.length:=by rw [← hS]; simp [Zb4,Zf4]; exact Yh (lB 0 0x141b0ccaaaa1cccc0c0 T1) (lB 0 0xaaaa1cccc0c141b0cc0 T1)
 have g6:S[A.length + 3]? = some (.lst (ZaV (A.length + 4) pre.length)):=by rw [← hS]; exact Za5 _ _ 3
 have g1:S[A.length]? = some (.lst (s.boxes.map D.int)):=by rw [← hS]; exact Zaa ..
 have e0:(Zbu (Zg)) (wE roll A most s.place) S = .ok (.ref S.length) (S ++ [.lst []]):=Zdx rfl rfl;have z6:(ZaV (A.length + 4) pre.length).length < SZ:=by simp only [ZaV,Yk,Ydo,SZ]; exact lA 1 0xf42405b013e83b001 T1 hl
 have s0:=ZfZ (o:=Zb 6) (n:=A.length + 3) rfl g6 e0 (ZaI g6 _) z6;rw [lS,← ZiO] at s0;obtain ⟨S1,hS1⟩:∃ S1,(S ++ [MO.lst []]).set (A.length + 3) (.lst (ZaV (A.length + 4) (pre.length + 1))) = S1:=⟨_,rfl⟩;have f1:S1 = A ++ (.lst (s.boxes.map D.int) :: .dct (ZaQ t) :: .lst (all.map Ze) :: .lst (ZaV (A.length + 4) (pre.length + 1)) :: (Zf4 roll pre ++ [.lst []])):=by
  rw [← hS1,← hS];have q:=ZbV A (.lst (s.boxes.map D.int) :: .dct (ZaQ t) :: .lst (all.map Ze) :: .lst (ZaV (A.length + 4) pre.length) :: (Zf4 roll pre ++ [.lst []])) 3 (.lst (ZaV (A.length + 4) (pre.length + 1)));simp only [Zb4,Yz,Ydw] at q ⊢;exact q
 have k1:S1[A.length]? = some (.lst (s.boxes.map D.int)):=by rw [f1]; exact Zaa ..
 have k6:S1[A.length + 3]? = some (.lst (ZaV (A.length + 4) (pre.length + 1))):=by rw [f1]; exact Za5 _ _ 3
 have kn:S1[A.length + 4 + pre.length]? = some (.lst []):=by
  rw [f1,show A.length + 4 + pre.length = A.length + (4 + pre.length) by exact Yh (lB 0 90560227587067072 T1) (lB 0 90547858081300672 T1),Za5];rw [show 4 + pre.length = pre.length + 4 by exact Yh (lA 0 4514212223936 T1) (lA 0 282331295936 T1)];simp only [Yy];rw [show pre.length = (Zf4 roll pre).length by simp [Zf4]];exact Zaa ..
 have fin:∀ v:List Int,Zdk roll s = v -> A ++ (.lst (s.boxes.map D.int) :: .dct (ZaQ t) :: .lst (all.map Ze) :: .lst (ZaV (A.length + 4) (pre.length + 1)) :: (Zf4 roll pre ++ [.lst (v.map D.int)])) = Zb4 A roll s.boxes t all (pre ++ [s]):=fun v hv=>by
  subst hv;simp only [Zb4,Zf4,Yae,Yt,Yc5,Yw,Yaw]
 have row:(e2 Zf (Zb 0) (Zb 3)) (wE roll A most s.place) S1 = .ok (Zq r) S1:=Zk rfl rfl (Zb0 (by rw [ZaG,Yp,hr]; rfl));obtain ⟨nm,hn,hi⟩:∃ nm,Zk9 r = nm /\ ∀ M,Zf (Zq r) (.int 0) M = .ok (.str nm) M:=⟨_,rfl,Zkp r⟩;have cond:(e2 ZaH (e2 Zf (e2 Zf (Zb 0) (Zb 3)) (eC (.int 0))) (eC (.str [116,101,108,108]))) (wE roll A most s.place) S1 = .ok (.bl (decide (nm = [116,101,108,108]))) S1:=Zk (Zk row rfl (hi S1)) rfl (by simp only [ZaH,eqD]);rw [hS];rw [Zm s0,hS1];have no:¬ nm = [116,101,108,108] -> Zdk roll s = [] -> (Zy wI f) (wE roll A most s.place) S1 = f (wE roll A most s.place) (Zb4 A roll s.boxes t all (pre ++ [s])):=fun h1 h2=>by
  rw [decide_eq_false h1] at cond;rw [Zm (Zak cond),← fin [] h2,f1]; rfl
 cases r with
 | tell a=>
  have ha:a < 8:=ro;obtain ⟨x,hx,gx⟩:=Zbs g.bx ha;have ht:Zdk roll s = [x]:=by unfold Zdk; rw [hr]; show (s.boxes[a]?).toList = [x]; rw [Zq9 g.bx ha,hx]; rfl
  rw [← hn] at cond;have la:(e2 Zf (Zb 6) (e1 ZbE (eC (.int 1)))) (wE roll A most s.place) S1 = .ok (.ref (A.length + 4 + pre.length)) S1:=Zk rfl rfl (ZbX k6 (by rw [ZiO]; exact getD_last ..));have lb:(e2 Zf (Zb 1) (e2 Zf (e2 Zf (Zb 0) (Zb 3)) (eC (.int 1)))) (wE roll A most s.place) S1 = .ok (.int x) S1:=Zk rfl (Zk row rfl (Zb0 (ZaG _ 1))) (ZbX k1 gx);have s1:=ZfZ la kn lb kn (by decide);rw [Zm ((ZbN cond).trans s1),← fin [x] ht,f1];have q:=ZbV A (.lst (s.boxes.map D.int) :: .dct (ZaQ t) :: .lst (all.map Ze) :: .lst (ZaV (A.length + 4) (pre.length + 1)) :: (Zf4 roll pre ++ [.lst []])) (pre.length + 4) (.lst ([] ++ [D.int x]));rw [show A.length + (pre.length + 4) = A.length + 4 + pre.length by exact Yh (lB 0 90547858846105792 T1) (lB 0 0x41b1c0c141b0cc0 T1)] at q;rw [q];simp only [Yfp];have q2:=ZbV (Zf4 roll pre) [.lst []] 0 (.lst ([] ++ [D.int x]));rw [show (Zf4 roll pre).length + 0 = pre.length by simp [Zf4]] at q2;rw [q2]; rfl
 | _=>exact no (by rw [← hn]; simp [Zk9]) (by unfold Zdk; rw [hr]; rfl)
theorem Znm (roll:Zba) (R:ZbS roll) (most:Nat) (A:Store) (hm:most <= 60):
  ∀ (k:Nat) (pre:List Stt) (s:Stt) (t:List (Int × Int)) (fuel:Nat),pre.length + k = most -> k < fuel -> Good roll s -> keysOk t -> s.cells = ZaN t -> t.length <= pre.length ->
  ∃ (p':Nat) (bs':List Int) (t':List (Int × Int)),Zde (Zcq (e2 ZeP (e2 Zf (e2 Zf (Zb 0) (Zb 3)) (eC (.int 0))) (eC (.str [104,97,108,116]))) (e2 ZgW (Zax Za2 (Za (Zb 5) (Zg))) (Zb 2))) (Zy (ZaJ (ZaR tyL ZaD (Zb 6) (Za (Zbu (Zg)) (Zg)))) (Zy wI (Zy (ZaF 3 (Zt ZbD (Za (e2 Zf (Zb 0) (Zb 3)) (Za (Zb 3) (Za (Zb 1) (Za (Zb 4) (Zg))))))) (ZaJ (ZaR tyL ZaD (Zb 5) (Za (Zt Zbr (Za (Zb 3) (Za (Zb 1) (Za (Zb 4) (Zg))))) (Zg))))))) fuel
   (wE roll A most s.place) (Zb4 A roll s.boxes t (pre ++ [s]) pre) =
   .nx (wE roll A most p') (Zb4 A roll bs' t' (pre ++ Zby roll k s) (pre ++ Zby roll k s).dropLast):=by
 intro k
 induction k with
 | zero=>
  intro pre s t fuel hk hf g kt es hj;cases fuel with
  | zero=>exact (lN [] 1 454161 rfl hf).elim
  | succ fuel=>
   refine ⟨s.place,s.boxes,t,?_⟩;have gp:=g.pl;have hr:roll[s.place]? = some roll[s.place]:=by simp [g.pl]
   obtain ⟨nm,hn,hi⟩:=Zgh roll[s.place];show _ = O3.nx _ (Zb4 A roll s.boxes t (pre ++ [s]) (pre ++ [s]).dropLast);rw [Yez];generalize hM:Zb4 A roll s.boxes t (pre ++ [s]) pre = M;have g2:M[A.length + 2]? = some (.lst ((pre ++ [s]).map Ze)):=by rw [← hM]; exact Za5 _ _ 2
   have c0:(e2 Zf (e2 Zf (Zb 0) (Zb 3)) (eC (.int 0))) (wE roll A most s.place) M = .ok (.str nm) M:=Zk (a:=Zq roll[s.place]) (Zk rfl rfl (Zb0 (by rw [ZaG,Yp,hr]; rfl))) rfl (hi M);by_cases hq:nm = [104,97,108,116]
   ·rw [Zh8 (ZfL (M1:=M) (Zk c0 rfl (Zn0 hq)))]
   ·rw [Zh8 ((Zdb (M1:=M) (Zk c0 rfl (Zrw hq))).trans (Zk (ZbH rfl (ZeJ g2)) rfl (ZtF (by rw [Yk,Yw,Yaw]; exact fun z=>iN [_,_] [] 2 0x61e0c3118a0c881 T1 z hk))))]
 | succ k ih=>
  intro pre s t fuel hk hf g kt es hj;cases fuel with
  | zero=>exact (lA 1 116001809 T1 hf).elim
  | succ fuel=>
   have gp:=g.pl;have hr:roll[s.place]? = some roll[s.place]:=by simp [g.pl]
   have ro:=R.rows _ (Y4 g.pl);obtain ⟨nm,hn,hi⟩:=Zgh roll[s.place];generalize hrr:roll[s.place] = r at hr ro hn hi;have wt:=ZmZ roll R A most s g t (pre ++ [s]) pre (lC 2 0x3e83b003c2b2012a1c0c21 T1 hk hm);generalize hM:Zb4 A roll s.boxes t (pre ++ [s]) pre = M at wt;have g2:M[A.length + 2]? = some (.lst ((pre ++ [s]).map Ze)):=by rw [← hM]; exact Za5 _ _ 2
   have ci:∀ M,(e2 Zf (Zb 0) (Zb 3)) (wE roll A most s.place) M = .ok (Zq r) M:=fun M=>Zk rfl rfl (Zb0 (by rw [ZaG,Yp,hr]; rfl));have c0:(e2 Zf (e2 Zf (Zb 0) (Zb 3)) (eC (.int 0))) (wE roll A most s.place) M = .ok (.str nm) M:=Zk (ci M) rfl (hi M);by_cases hq:nm = [104,97,108,116]
   ·refine ⟨s.place,s.boxes,t,?_⟩
    rw [Zh8 (ZfL (M1:=M) (Zk c0 rfl (Zn0 hq)))];have:Zcm roll s = none:=by simp [Zcm,hr,Zgi,hn,hq]
    rw [ZdL k this,Yez,hM]
   ·have cc:=(Zdb (M1:=M) (Zk c0 rfl (op:=ZeP) (b:=.str [104,97,108,116]) (g:=eC (.str [104,97,108,116])) (Zrw hq))).trans (Zk (f:=Zax Za2 (Za (Zb 5) (Zg))) (g:=Zb 2) (ZbH rfl (ZeJ g2)) rfl (Zuf (show (((pre ++ [s]).map Ze).length:Int) <= (most:Int) by rw [Yk,Yw,Yaw]; exact iN [_,_,_] [] 1 0x28a0c882a1c0c21 T1 hk)))
    have nh:r.isHalt = false:=by rw [hn]; simp [hq]
    have st:Zcm roll s = some ⟨r.place s.boxes s.place,r.boxes s.boxes t,ZaN (ZfG r s.boxes t)⟩:=by
     simp only [Zcm,hr,Ygt,Zgi,nh,es,Zk5 kt,Zk4 kt]; rfl
    have tl:=Zqu r s.boxes t;have kt':=Zo3 (r:=r) (bs:=s.boxes) kt;have go:=ZpL r s.place s.boxes t A (.lst ((pre ++ [s]).map Ze) :: .lst (ZaV (A.length + 4) (pre ++ [s]).length) :: Zf4 roll (pre ++ [s])) roll.length g.bx ro (lD 3 0x186a05b013c2b3013a2c1c211001 T1 hj hk hm);have gd:=(ZgQ R g st).1;generalize r.place s.boxes s.place = p2 at *;generalize r.boxes s.boxes t = bs2 at *;generalize ZfG r s.boxes t = t2 at *;have b1:(Zt ZbD (Za (e2 Zf (Zb 0) (Zb 3)) (Za (Zb 3) (Za (Zb 1) (Za (Zb 4) (Zg)))))) (wE roll A most s.place) (Zb4 A roll s.boxes t (pre ++ [s]) (pre ++ [s])) = .ok (.int (p2:Int)) (Zb4 A roll bs2 t2 (pre ++ [s]) (pre ++ [s])):=
     Zsl (ci _) rfl rfl rfl go
    generalize hM2:Zb4 A roll bs2 t2 (pre ++ [s]) (pre ++ [s]) = M2 at b1;have k0:M2[A.length]? = some (.lst (bs2.map D.int)):=by rw [← hM2]; exact Zaa ..
    have k1:M2[A.length + 1]? = some (.dct (ZaQ t2)):=by rw [← hM2]; exact Za5 _ _ 1
    have k2:M2[A.length + 2]? = some (.lst ((pre ++ [s]).map Ze)):=by rw [← hM2]; exact Za5 _ _ 2
    have se:=Zgs p2 bs2 t2 A.length (A.length + 1) M2 k0 k1 kt' (lE 4 0x402b013c2b4014a3c2c212101a1c001 T1 tl hj hk hm);have bd:=ZfZ (o:=Zb 5) (t:=Zt Zbr (Za (Zb 3) (Za (Zb 1) (Za (Zb 4) (Zg))))) (env:=(wE roll A most p2)) (n:=A.length + 2) rfl k2 (Zb2 rfl rfl rfl se) k2 (by rw [Yk,Yw,Yaw]; simp only [SZ]; exact lC 2 0xf42405ba0c13c2b2012a1c0c21 T1 hk hm);obtain ⟨p',bs',t',h'⟩:=ih (pre ++ [s]) ⟨p2,bs2,ZaN t2⟩ t2 fuel (by simp; exact Yh (lC 1 0x21a0cc02a1c0c21 T1 hk) (lC 1 0x1a0cc202a1c0c31 T1 hk)) (lB 1 1106520968209 T1 hf) gd kt' rfl (by simp; exact lC 2 0xa2c002101a1c001 T1 tl hj);have e1:M2.set (A.length + 2) (.lst ((pre ++ [s]).map Ze ++ [Ze ⟨p2,bs2,ZaN t2⟩])) = Zb4 A roll bs2 t2 (pre ++ [s] ++ [(⟨p2,bs2,ZaN t2⟩:Stt)]) (pre ++ [s]):=by
     have e:(pre ++ [s] ++ [(⟨p2,bs2,ZaN t2⟩:Stt)]).map Ze = (pre ++ [s]).map Ze ++ [Ze ⟨p2,bs2,ZaN t2⟩]:=Yae ..;rw [← hM2];simp only [Zb4];rw [e];exact ZbV A _ 2 _
    refine ⟨p',bs',t',(ZoY cc ((wt _).trans ((Zm (Zaf (i:=3) b1)).trans bd))).trans ?_⟩;rw [e1];refine h'.trans ?_;rw [ZdM k st,Yz,Ycq]
theorem ZmQ (roll:Zba) (R:ZbS roll) (bs:List Int) (most:Nat) (M:Store) (hm:most <= 60) (hb:bs.length = 8):
  ∃ bs' t',ZbP [Zo roll,Zu bs,.int (most:Int)] M = .ok (.ref (Zb4 M roll bs' t' (Zby roll most ⟨0,bs,[]⟩) (Zby roll most ⟨0,bs,[]⟩).dropLast).length) (Zb4 M roll bs' t' (Zby roll most ⟨0,bs,[]⟩) (Zby roll most ⟨0,bs,[]⟩).dropLast ++ [.lst [.ref (M.length + 2),.ref (M.length + 3)]]):=by
 have pos:0 < roll.length:=by obtain ⟨q,x,e,_⟩:=R.last; rw [e]; simp
 obtain ⟨p',bs',t',lp⟩:=Znm roll R most M hm most [] ⟨0,bs,[]⟩ [] 1000000 (by simp) (lA 1 0xf42405b013c2b001 T1 hm) ⟨pos,hb,by simp [Zeb]⟩ (by simp [keysOk]) rfl (by simp);simp only [Ybq] at lp;have se:=Zgs 0 bs [] M.length (M.length + 1) (M ++ [.lst (bs.map D.int),.dct (ZaQ [])]) (Zaa _ _ _) (Za5 _ _ 1) (by simp [keysOk]) (by decide);refine ⟨bs',t',?_⟩;generalize hW:Zb4 M roll bs' t' (Zby roll most ⟨0,bs,[]⟩) (Zby roll most ⟨0,bs,[]⟩).dropLast = W at lp;have lW:M.length + 4 <= W.length:=by rw [← hW]; simp [Zb4]
 refine (Zdz (env:=[some (Zo roll),some (Zu bs),some (.int (most:Int)),none,none,none,none]) (d:=.ref W.length) (M':=W ++ [.lst [.ref (M.length + 2),.ref (M.length + 3)]]) ?_).trans ?_
 ·have c:(Zt Zbr (Za (Zb 3) (Za (Zb 1) (Za (Zb 4) (Zg))))) [some (Zo roll),some (.ref M.length),some (.int (most:Int)),some (.int 0),some (.ref (M.length + 1)),none,none] (M ++ [.lst (bs.map D.int),.dct (ZaQ [])]) = .ok (Ze ⟨0,bs,ZaN []⟩) (M ++ [.lst (bs.map D.int),.dct (ZaQ [])]):=Zb2 rfl rfl rfl se
  refine (Zm (Zaf (d:=.int 0) (M':=M) rfl)).trans ((Zm (Zaf (d:=.ref M.length) (M':=M ++ [.lst (bs.map D.int)]) (ZbH rfl rfl))).trans ((Zm (Zaf (d:=.ref (M.length + 1)) (M':=M ++ [.lst (bs.map D.int),.dct (ZaQ [])]) ?_)).trans ((Zm (Zaf (d:=.ref (M.length + 2)) (M':=M ++ [.lst (bs.map D.int),.dct (ZaQ []),.lst ([(⟨0,bs,[]⟩:Stt)].map Ze)]) ?_)).trans ((Zm (Zaf (d:=.ref (M.length + 3)) (M':=M ++ [.lst (bs.map D.int),.dct (ZaQ []),.lst ([(⟨0,bs,[]⟩:Stt)].map Ze),.lst []]) ?_)).trans ((Zm (f:=Zjr _ _) lp).trans (ZaE (Zdx (Zat rfl (Zat rfl rfl)) rfl)))))))
  ·simp only [Zpx,alloc,Yw,Yaw,Yz,Ycq]; rfl
  ·have q:=Zdx (Zat c (g:=Zg) rfl) rfl
   rw [q,Yw,Yz]; rfl
  ·have q:=Zdx (g:=Zg) (env:=[some (Zo roll),some (.ref M.length),some (.int (most:Int)),some (.int 0),some (.ref (M.length + 1)),some (.ref (M.length + 2)),none]) (M:=M ++ [.lst (bs.map D.int),.dct (ZaQ []),.lst ([(⟨0,bs,[]⟩:Stt)].map Ze)]) rfl rfl
   rw [q,Yw,Yz]; rfl
 ·have nb:below M.length (.ref W.length) = false:=by simp only [below]; exact decide_eq_false (fun z=>lB 2 0x6041b1c011011 T1 z lW)
  unfold Zdh;rw [nb]; rfl
noncomputable def Zku (nm:List Nat) (is:List Int):D:=.tup (.str nm :: is.map D.int)
noncomputable def ZfT (nm:List Nat) (is:List Int):List Nat:=glue [32] (nm :: is.map Zx)
noncomputable abbrev bx:List Nat:=[98,111,120]
noncomputable abbrev rw3:List Nat:=[114,111,119]
structure ZnU (nm:List Nat) (is:List Int) (ks:List (List Nat)):Prop where
 tab:tabAt nm Za3 = some ks
 len:ks.length = is.length
 few:is.length <= 3 /\ nm.length <= 4
 abc:∀ c ∈ nm,97 <= c
 num:∀ n ∈ is,n.natAbs < 10 ^ 60
 box:∀ (j:Nat) n,ks[j]? = some bx -> is[j]? = some n -> 0 <= n /\ n < 8
theorem Zky (s:Nat) (b:Nat):∀ ts:List (List Nat),(∀ t ∈ ts,t.length <= b) -> Zcf [s] ts <= ts.length * (b + 1) /\ (glue [s] ts).length <= ts.length * (b + 1):=by
 intro ts
 induction ts with
 | nil=>intro _; exact ⟨by simp [Zcf],by simp [glue]⟩
 | cons t ts ih=>
  intro h;have ht:=h t (Yq ..);obtain ⟨i1,i2⟩:=ih fun q hq=>h q (Yv _ hq);have e1:Zcf [s] (t :: ts) = t.length + 1 + Zcf [s] ts:=by simp [Zcf]
  have e3:(ts.length + 1) * (b + 1) = ts.length * (b + 1) + (b + 1):=Nat.succ_mul ..;rw [e1,Yai,e3];refine ⟨lD 2 0xa3c1c0a2cc032011001 T1 i1 ht,?_⟩;cases ts with
  | nil=>show t.length <= _; exact lC 1 0xa1c2c001001 T1 ht
  | cons u ts=>
   rw [Zep,Yw,Yw];show t.length + (1 + _) <= _;exact lD 2 0xa3c1c0ac2c032011001 T1 i2 ht
theorem strs_map:∀ ts:List (List Nat),ZdZ (ts.map D.str) = some ts
 | []=>rfl
 | t :: ts=>by show (ZdZ (ts.map D.str)).map _ = _; rw [strs_map ts]; rfl
theorem ZmJ {s:Nat} {n:Nat} {M:Store} {ts:List (List Nat)} (h:M[n]? = some (.lst (ts.map D.str))) (hz:Zcf [s] ts <= SZ):ZfB (.str [s]) [.ref n] M = .ok (.str (glue [s] ts)) M:=by
 simp only [ZfB,h,strs_map,if_pos hz]
theorem ZhF {m:D -> List D -> Store -> R3 D} {o g:E3} {env:Zaq} {M M1 M2:Store} {x:List Nat} {d r:D} (h1:o env M = .ok (.str x) M) (h2:g env M = .ok d M1) (h3:m (.str x) [d] M1 = .ok r M2):ZaR tyS m o (Za g Zg) env M = .ok r M2:=by
 simp only [ZaR,h1,R3.bind,tyS,if_true,Za,h2,Zg,h3]
theorem Zqq {i:Int} (h:i.natAbs < 10 ^ 60):(Zx i).length <= 61:=(Zfi i h).2.1
theorem ZsV {i:Int} (h:i.natAbs < 10 ^ 60):i.natAbs.log2 < 1920:=by
 by_cases z:i.natAbs = 0
 ·rw [z]; decide
 ·exact (Nat.log2_lt z).mpr (Yet h (by decide +kernel))
theorem Zob {nm:List Nat} {is:List Int} (hn:nm.length <= 4) (h:∀ n ∈ is,n.natAbs < 10 ^ 60):∀ t ∈ nm :: is.map Zx,t.length <= 61:=by
 intro t ht;rcases Y3.mp ht with e | ht
 ·rw [e]; exact Yj hn (by decide)
 ·obtain ⟨i,hi,rfl⟩:=Yan.mp ht
  exact Zqq (h i hi)
noncomputable def strOf:D -> D
 | .int i=>.str (Zx i)
 | d=>d
theorem ZoU (nm:List Nat) (is:List Int):(D.str nm :: is.map D.int).map strOf = (nm :: is.map Zx).map D.str:=by
 simp [strOf]
theorem ZhG {nm:List Nat} {is:List Int} (hl:is.length <= 3) (hn:nm.length <= 4) (h:∀ n ∈ is,n.natAbs < 10 ^ 60):Zcf [32] (nm :: is.map Zx) <= 248 /\ (ZfT nm is).length <= 248:=by
 obtain ⟨a,b⟩:=Zky 32 61 _ (Zob hn h);have e:(nm :: is.map Zx).length * (61 + 1) <= 248:=by rw [Yai,Yk]; omega
 exact ⟨Yj a e,Yj b e⟩
theorem Zl9 {env:Zaq} {k:Nat} {M:Store} {nm:List Nat} {is:List Int} (hv:(Zb k) env M = .ok (Zku nm is) M) (hl:is.length <= 3) (hn:nm.length <= 4) (h:∀ n ∈ is,n.natAbs < 10 ^ 60):
  (ZaR tyS ZfB (eC (.str [32])) (Za (eLC (Zdl (Zb k)) 1 (ZbB env.length) [] (Zax ZkO (Za (Zb env.length) (Zg)))) (Zg))) env M = .ok (.str (ZfT nm is)) (M ++ [.lst ((nm :: is.map Zx).map D.str)]):=by
 have hi:(Zdl (Zb k)) env M = .ok ⟨(D.str nm :: is.map D.int).map (fun d=>d),none⟩ M:=by
  have e:(D.str nm :: is.map D.int).map (fun d=>d) = D.str nm :: is.map D.int:=List.map_id _;rw [e];simp only [Zdl,hv,R3.bind,Zku]
 have lc:=ZjY (h:=strOf) (own:=1) (i:=env.length) (elt:=(Zax ZkO (Za (Zb env.length) (Zg)))) hi (fun n z=>nomatch z)
  (fun d hd M'=>by
   refine ZbH (a:=d) (M1:=M') (by simp) ?_;rcases Y3.mp hd with e | hd
   ·rw [e]; rfl
   ·obtain ⟨i,hi,rfl⟩:=Yan.mp hd
    simp only [ZkO,if_pos (ZsV (h i hi)),strOf]) (by rw [Yai,Yk]; exact lA 1 0x186a05ba0c031b001 T1 hl)
 rw [ZoU] at lc;exact ZhF rfl lc (ZmJ (by simp) (Yj (ZhG hl hn h).1 (by decide)))
theorem zip_get {ks:List (List Nat)} {is:List Int} (hl:ks.length = is.length) {i:Nat} {d:D} (h:(Zey (ks.map D.str) (is.map fun n=>D.str (Zx n)))[i]? = some d):∃ k n,ks[i]? = some k /\ is[i]? = some n /\ d = .tup [.str k,.str (Zx n)]:=by
 rw [Zgz,Yp,Yp] at h;cases hk:ks[i]? with
 | none=>rw [hk] at h; cases h
 | some k=>
  cases hn:is[i]? with
  | none=>rw [hk,hn] at h; cases h
  | some n=>rw [hk,hn] at h; cases h; exact ⟨k,n,rfl,rfl,rfl⟩
theorem Zmb {w fs:List Nat} {M:Store} (h1:1 <= fs.length) (h2:fs.length <= 60) (h3:∀ r,fs ≠ 48 :: r) (h4:∀ c ∈ fs,48 <= c /\ c <= 57):
  (Zy (sIf (eOr (e2 Zis (Zax Za2 (Za (Zb 1) (Zg))) (eC (.int 1))) (e2 ZgT (Zax Za2 (Za (Zb 1) (Zg))) (g_MOST_FIGURES))) (Zau (eC (.bl false))) (Zab)) (Zy (sIf (ZaR tyS ZaZ (Zb 1) (Za (eC (.str [48])) (Zg))) (Zau (e2 ZaH (Zb 0) (eC (.str [48])))) (Zab)) (Zau (Zax Ziv (Za (eLC (Zdl (Zb 1)) 1 (ZbB 2) [] (e2 Zjg (Zb 2) (g_FIGURES))) (Zg)))))) [some (.str w),some (.str fs)] M = .rt (.bl true) (M ++ [.lst (fs.map fun _=>D.bl true)]):=by
 have hz:fs.length <= SZ:=Yj h2 (by decide);have ln:(Zax Za2 (Za (Zb 1) (Zg))) [some (.str w),some (.str fs)] M = .ok (.int fs.length) M:=ZbH (a:=.str fs) rfl (by simp only [Za2,if_pos hz]);have c1:(eOr (e2 Zis (Zax Za2 (Za (Zb 1) (Zg))) (eC (.int 1))) (e2 ZgT (Zax Za2 (Za (Zb 1) (Zg))) (g_MOST_FIGURES))) [some (.str w),some (.str fs)] M = .ok (.bl false) M:=by
  rw [ZmG (M1:=M) (Zk ln rfl (by simp only [Zis]; rw [decide_eq_false (by exact fun z=>iN [_] [] 2 415002921105 T1 z h1)]))];exact Zk ln (g:=g_MOST_FIGURES) (b:=.int 60) rfl (by simp only [ZgT]; rw [decide_eq_false (by exact fun z=>iN [_] [] 2 0x63c2b001083c2b91 T1 z h2)])
 have c2:(ZaR tyS ZaZ (Zb 1) (Za (eC (.str [48])) (Zg))) [some (.str w),some (.str fs)] M = .ok (.bl false) M:=by
  refine ZhF (d:=.str [48]) rfl rfl ?_;cases fs with
  | nil=>exact absurd h1 (by decide)
  | cons c r=>
   have q:¬ 48 = c:=fun e=>h3 r (by rw [e]);have e:([48]:List Nat).isPrefixOf (c :: r) = false:=by
    show ((48 == c) && List.isPrefixOf [] r) = false;rw [beq_eq_false_iff_ne.mpr q]; rfl
   simp only [ZaZ];rw [if_pos ⟨hz,by decide⟩,e]
 rw [Zm (Zak c1),Zm (Zak c2)];have hi:(Zdl (Zb 1)) [some (.str w),some (.str fs)] M = .ok ⟨fs.map (fun c=>D.str [c]),none⟩ M:=by
  simp only [Zdl,Zb,Yy,Y1,R3.bind,if_pos hz]
 have lc:=ZjY (h:=fun _=>D.bl true) (own:=1) (i:=2) (elt:=(e2 Zjg (Zb 2) (g_FIGURES))) hi (fun n z=>nomatch z)
  (fun c hc M'=>by
   have q:=h4 c hc;refine Zk (a:=.str [c]) (b:=.str [48,49,50,51,52,53,54,55,56,57]) rfl rfl ?_;simp only [Zjg,inD];rw [decide_eq_true];simp only [Y3,Ybi,or_false];omega) (Yj h2 (by decide))
 refine ZaE (ZbH lc ?_);have a:∀ l:List Nat,(l.map fun _=>D.bl true).all isB = true /\ (l.map fun _=>D.bl true).all isT = true:=by
  intro l
  induction l with
  | nil=>exact ⟨rfl,rfl⟩
  | cons _ l ih=>exact ⟨by simp only [Yt,Ybc,isB,ih.1,Yb3],by simp only [Yt,Ybc,isT,ih.2,Yb3]⟩
 simp only [Ziv,Zaa,allB,(a fs).1,(a fs).2,if_true]
theorem ZnS {i:Int} (h:i.natAbs < 10 ^ 60) (M:Store):ZbG [.str (Zx i)] M = .ok (.bl true) M:=by
 have go:∀ (n:Nat) (w:List Nat),0 < n -> n < 10 ^ 60 -> (eIf (ZaR tyS ZaZ (Zb 0) (Za (eC (.str [45])) (Zg))) (eSl (Zb 0) (ZaP (eC (.int 1))) (ZaY)) (Zb 0)) [some (.str w),none] M = .ok (.str (ZbK n)) M -> ZbG [.str w] M = .ok (.bl true) M:=fun n w h0 h1 hf=>by
  refine Rt.pure (G:=[.lst ((ZbK n).map fun _=>D.bl true)]) (env:=[some (.str w),none]) ?_ rfl;unfold Zd4;rw [Zm (Zaf hf)];refine Zmb ?_ (Ze9 59 n h1) (Zm1 n h0) (Zem n);cases e:ZbK n with
  | nil=>exact absurd e (Zhj n)
  | cons _ _=>exact Yee 1 _
 cases i with
 | ofNat n=>
  have e:Zx (Int.ofNat n) = ZbK n:=ZkE n;have hp:(eIf (ZaR tyS ZaZ (Zb 0) (Za (eC (.str [45])) (Zg))) (eSl (Zb 0) (ZaP (eC (.int 1))) (ZaY)) (Zb 0)) [some (.str (ZbK n)),none] M = .ok (.str (ZbK n)) M:=by
   rw [Zra (M1:=M)]
   ·rfl
   ·refine ZhF (d:=.str [45]) rfl rfl ?_
    have hl:=Ze9 59 n h;have e:([45]:List Nat).isPrefixOf (ZbK n) = false:=by
     cases q:ZbK n with
     | nil=>rfl
     | cons c r=>
      have qc:=Zem n c (by rw [q]; exact Yq ..);show ((45 == c) && List.isPrefixOf [] r) = false;rw [beq_eq_false_iff_ne.mpr (by exact fun z=>lA 2 0x60302b0102d2b31 T1 z qc.1)]; rfl
    simp only [ZaZ];rw [if_pos ⟨Yj hl (by decide),by decide⟩,e]
  rw [e];by_cases z:n = 0
  ·subst z
   refine Rt.pure (G:=[]) (env:=[some (.str (ZbK 0)),none]) ?_ rfl;rw [Yaj];unfold Zd4;rw [Zm (Zaf hp),ZdU (by decide)];simp [Zy,sIf,Zau,Zab,g_MOST_FIGURES]
  ·exact go n _ (Nat.pos_of_ne_zero z) h hp
 | negSucc n=>
  rw [ZkU];have hl:=Ze9 59 (n + 1) h;refine go (n + 1) _ (Nat.succ_pos n) h ?_;rw [Zq7 (M1:=M)]
  ·have e:cutD (45 :: ZbK (n + 1)) (some 1) none = ZbK (n + 1):=Zgy (45 :: ZbK (n + 1)) 1
   have hz:(45 :: ZbK (n + 1)).length <= SZ:=Yj (Yev hl) (by decide);simp only [eSl,Zb,ZaP,ZaY,eC,R3.bind,Y1,Zgt,if_pos hz,e]
  ·refine ZhF (d:=.str [45]) rfl rfl ?_
   have hz:(45 :: ZbK (n + 1)).length <= SZ:=Yj (Yev hl) (by decide);simp only [ZaZ];rw [if_pos ⟨hz,by decide⟩];rfl
theorem Zi1 (i m:Int) (M:Store):Za6 [.int i,.int m] M = .ok (.bl (decide (0 <= i /\ i < m))) M:=by
 refine Rt.pure (G:=[]) (env:=[some (.int i),some (.int m)]) ?_ rfl;rw [Yaj];unfold Ze1;refine ZaE ?_;by_cases h:0 <= i
 ·rw [Zdb (M1:=M) (Zk rfl rfl (by simp only [ZqI,decide_eq_true h]))]
  refine Zk rfl rfl ?_;simp only [Zis,h,true_and]
 ·rw [ZfL (M1:=M) (Zk rfl rfl (by simp only [ZqI,decide_eq_false h])),decide_eq_false (fun z=>h z.1)]
theorem ZjA {line:D} {wd:D} {M:Store} {W S:MO} {nm:List Nat} {is:List Int} {ks:List (List Nat)} (F:ZnU nm is ks) (hS:S = .lst (is.map fun n=>D.str (Zx n))):
  ∃ x y z,Zev [(M.length + 2,is.map fun n=>D.str (Zx n))] (Zgx [4,5]) (Zy (sIf (e1 Zbp (Zt ZbG (Za (Zb 5) (Zg)))) (Zau (eC .non)) (Zab)) (Zy (ZaF 6 (Zax Zgj (Za (Zb 5) (Zg)))) (Zy (sIf (Zcq (e2 ZaH (Zb 4) (eC (.str [98,111,120]))) (e1 Zbp (Zt Za6 (Za (Zb 6) (Za (g_BOXES) (Zg)))))) (Zau (eC .non)) (Zab)) (ZaJ (ZaR tyL ZaD (Zb 3) (Za (Zb 6) (Zg)))))))
   (Zey (ks.map D.str) (is.map fun n=>D.str (Zx n))) [some line,some wd,some (.tup (ks.map D.str)),some (.ref (M.length + 1)),none,none,none] (M ++ [W,.lst [.str nm],S]) =
   .nx [some line,some wd,some (.tup (ks.map D.str)),some (.ref (M.length + 1)),x,y,z] (M ++ [W,.lst (.str nm :: is.map D.int),S]):=by
 obtain ⟨e',M',hl,x,y,z,rfl,rfl⟩:=Zf2 (lk:=[(M.length + 2,is.map fun n=>D.str (Zx n))]) (g:=Zgx [4,5])
  (body:=(Zy (sIf (e1 Zbp (Zt ZbG (Za (Zb 5) (Zg)))) (Zau (eC .non)) (Zab)) (Zy (ZaF 6 (Zax Zgj (Za (Zb 5) (Zg)))) (Zy (sIf (Zcq (e2 ZaH (Zb 4) (eC (.str [98,111,120]))) (e1 Zbp (Zt Za6 (Za (Zb 6) (Za (g_BOXES) (Zg)))))) (Zau (eC .non)) (Zab)) (ZaJ (ZaR tyL ZaD (Zb 3) (Za (Zb 6) (Zg))))))))
  (P:=fun j env M'=>∃ x y z,env = [some line,some wd,some (.tup (ks.map D.str)),some (.ref (M.length + 1)),x,y,z] /\ M' = M ++ [W,.lst (.str nm :: (is.take j).map D.int),S])
  (Zey (ks.map D.str) (is.map fun n=>D.str (Zx n))) 0 [some line,some wd,some (.tup (ks.map D.str)),some (.ref (M.length + 1)),none,none,none] (M ++ [W,.lst [.str nm],S]) ⟨none,none,none,rfl,rfl⟩
  (fun j env M' hp=>by
   obtain ⟨x,y,z,rfl,rfl⟩:=hp;subst hS;simp [ZbW,Za5])
  (fun i d env M' hd hp=>by
   obtain ⟨x,y,z,rfl,rfl⟩:=hp;obtain ⟨k,n,hk,hn,rfl⟩:=zip_get F.len hd;rw [Ya3];refine ⟨_,rfl,.inl ⟨[some line,some wd,some (.tup (ks.map D.str)),some (.ref (M.length + 1)),some (.str k),some (.str (Zx n)),some (.int n)],M ++ [W,.lst (.str nm :: (is.take (i + 1)).map D.int),S],?_,_,_,_,rfl,rfl⟩⟩;have hb:=F.num n (Yax hn);obtain ⟨r1,r2,r3⟩:=Zfi n hb;have c1:∀ M0,(e1 Zbp (Zt ZbG (Za (Zb 5) (Zg)))) [some line,some wd,some (.tup (ks.map D.str)),some (.ref (M.length + 1)),some (.str k),some (.str (Zx n)),z] M0 = .ok (.bl false) M0:=fun M0=>Zd5 (Zeh rfl (ZnS hb M0)) rfl;refine (Zm (Zak (c1 _))).trans ?_;have c2:∀ M0,(Zax Zgj (Za (Zb 5) (Zg))) [some line,some wd,some (.tup (ks.map D.str)),some (.ref (M.length + 1)),some (.str k),some (.str (Zx n)),z] M0 = .ok (.int n) M0:=fun M0=>ZbH (a:=.str (Zx n)) rfl (by simp only [Zgj,r1]; rw [if_pos (Yj r2 (by decide))]);refine (Zm (Zaf (c2 _))).trans ?_;have c3:∀ M0,(Zcq (e2 ZaH (Zb 4) (eC (.str [98,111,120]))) (e1 Zbp (Zt Za6 (Za (Zb 6) (Za (g_BOXES) (Zg)))))) [some line,some wd,some (.tup (ks.map D.str)),some (.ref (M.length + 1)),some (.str k),some (.str (Zx n)),some (.int n)] M0 = .ok (.bl false) M0:=fun M0=>by
    by_cases q:k = bx
    ·subst q
     rw [Zdb (M1:=M0) (Zk rfl rfl (by simp only [ZaH,eqD,decide_true]))];refine Zd5 (Zbd rfl rfl (Zi1 n 8 M0)) ?_;rw [decide_eq_true (F.box i n hk hn)]; rfl
    ·exact ZfL (M1:=M0) (Zk rfl rfl (by simp only [ZaH,eqD]; rw [decide_eq_false q]))
   refine (Zm (Zak (c3 _))).trans ?_;have e:(is.take (i + 1)).map D.int = (is.take i).map D.int ++ [.int n]:=by rw [Ydq,hn,Yae]; rfl
   have hz:(D.str nm :: (is.take i).map D.int).length < SZ:=by
    have:=F.few.1;rw [Yai,Yk,Yay]; simp only [SZ]; exact lB 2 0xf42405ba1c1010131b001 T1 this (Ybb _ _)
   rw [e];refine Zgm (d:=.non) ?_;have g1:(M ++ [W,.lst (.str nm :: (is.take i).map D.int),S])[M.length + 1]? = some (.lst (.str nm :: (is.take i).map D.int)):=by rw [Za5]; rfl
   simp only [ZaR,Zb,Yy,Y1,R3.bind,tyL,g1,if_true,Za,Zg,ZaD,if_pos hz,ZbV];rfl)
 refine ⟨x,y,z,hl.trans ?_⟩;have e:0 + (Zey (ks.map D.str) (is.map fun n=>D.str (Zx n))).length = is.length:=by rw [ZhQ,Yk,Yk,F.len,Yhj,Ya3]
 rw [e,Ydy]
theorem ZlQ {nm:List Nat} {is:List Int} {ks:List (List Nat)} (F:ZnU nm is ks) (M:Store):Zc8 [.str (ZfT nm is)] M = .ok (Zku nm is) M:=by
 have hl:=(ZhG F.few.1 F.few.2 F.num).2;have hsp:ZdR (ZfT nm is) [32] = nm :: is.map Zx:=by
  refine Zg5 32 _ (fun z=>nomatch z) fun t ht=>?_;rcases Y3.mp ht with e | ht
  ·rw [e]; exact fun z=>absurd (F.abc 32 z) (by decide)
  ·obtain ⟨i,hi,rfl⟩:=Yan.mp ht
   exact fun z=>absurd ((Zfi i (F.num i hi)).2.2 32 z) (by decide)
 have w0:(ZaR tyS Zed (Zb 0) (Za (eC (.str [32])) (Zg))) [some (.str (ZfT nm is)),none,none,none,none,none,none] M = .ok (.ref M.length) (M ++ [.lst ((nm :: is.map Zx).map D.str)]):=by
  refine ZhF (d:=.str [32]) rfl rfl ?_;simp only [Zed,hsp];rw [if_pos ⟨by decide,Yj (Yds hl 2) (by decide)⟩]; rfl
 have mw:∀ G,(M ++ .lst ((nm :: is.map Zx).map D.str) :: G)[M.length]? = some (.lst ((nm :: is.map Zx).map D.str)):=fun G=>Zaa ..;have wn:∀ env G,env[1]? = some (some (.ref M.length)) -> (e2 Zf (Zb 1) (eC (.int 0))) env (M ++ .lst ((nm :: is.map Zx).map D.str) :: G) = .ok (.str nm) (M ++ .lst ((nm :: is.map Zx).map D.str) :: G):=fun env G he=>by
  refine Zk (a:=.ref M.length) (by simp only [Zb,he]) rfl (ZbX (mw G) ?_);exact ZaG _ 0
 refine Rt.pure (G:=[.lst ((nm :: is.map Zx).map D.str),.lst (.str nm :: is.map D.int),.lst (is.map fun n=>D.str (Zx n))]) (env:=[some (.str (ZfT nm is)),none,none,none,none,none,none]) ?_ ?_
 ·unfold ZfS
  refine (Zm (Zaf w0)).trans ?_;have f0:(e1 (ZgV Za3) (e2 Zf (Zb 1) (eC (.int 0)))) [some (.str (ZfT nm is)),some (.ref M.length),none,none,none,none,none] (M ++ [.lst ((nm :: is.map Zx).map D.str)]) = .ok (.tup (ks.map D.str)) (M ++ [.lst ((nm :: is.map Zx).map D.str)]):=
   Zd5 (wn _ [] rfl) (by simp only [ZgV,F.tab])
  refine (Zm (Zaf f0)).trans ?_;have c0:(eOr (e2 ZjI (Zb 2) (eC .non)) (e2 ZeP (Zax Za2 (Za (Zb 1) (Zg))) (e2 Zao (Zax Za2 (Za (Zb 2) (Zg))) (eC (.int 1))))) [some (.str (ZfT nm is)),some (.ref M.length),some (.tup (ks.map D.str)),none,none,none,none] (M ++ [.lst ((nm :: is.map Zx).map D.str)]) = .ok (.bl false) (M ++ [.lst ((nm :: is.map Zx).map D.str)]):=by
   rw [ZmG (M1:=M ++ [.lst ((nm :: is.map Zx).map D.str)]) (Zk rfl rfl (by simp only [ZjI]; rw [decide_eq_false (fun z=>nomatch z)]))];refine Zk (ZbH rfl (ZeJ (mw []))) (Zk (ZbH (a:=.tup (ks.map D.str)) rfl rfl) rfl rfl) ?_;simp only [ZeP,eqD];rw [decide_eq_true]
   ·rfl
   ·rw [Yk,Yk,Yai,Yk,F.len]; rfl
  refine (Zm (Zak c0)).trans ?_;have r0:(Zbu (Za (e2 Zf (Zb 1) (eC (.int 0))) (Zg))) [some (.str (ZfT nm is)),some (.ref M.length),some (.tup (ks.map D.str)),none,none,none,none] (M ++ [.lst ((nm :: is.map Zx).map D.str)]) = .ok (.ref (M.length + 1)) (M ++ [.lst ((nm :: is.map Zx).map D.str),.lst [.str nm]]):=by
   have q:=Zat (wn [some (.str (ZfT nm is)),some (.ref M.length),some (.tup (ks.map D.str)),none,none,none,none] [] rfl) (g:=Zg) rfl;simp only [Zbu,q,R3.bind];rw [if_pos (show [D.str nm].length <= SZ from (by decide:1 <= SZ))];simp only [alloc,Yw,Yaw,Yz,Ycq]
  refine (Zm (Zaf r0)).trans ?_;have z0:(Zg1 (Zb 2) (eSl (Zb 1) (ZaP (eC (.int 1))) (ZaY))) [some (.str (ZfT nm is)),some (.ref M.length),some (.tup (ks.map D.str)),some (.ref (M.length + 1)),none,none,none] (M ++ [.lst ((nm :: is.map Zx).map D.str),.lst [.str nm]]) = .ok ⟨Zey (ks.map D.str) (is.map fun n=>D.str (Zx n)),[(M.length + 2,is.map fun n=>D.str (Zx n))]⟩ (M ++ [.lst ((nm :: is.map Zx).map D.str),.lst [.str nm],.lst (is.map fun n=>D.str (Zx n))]):=by
   have e1:cutD ((nm :: is.map Zx).map D.str) (some 1) none = is.map fun n=>D.str (Zx n):=(Zgy ((nm :: is.map Zx).map D.str) 1).trans (by rw [Yt,Ycn]; rfl);have e2:(M ++ [.lst ((nm :: is.map Zx).map D.str),.lst [.str nm],.lst (is.map fun n=>D.str (Zx n))])[M.length + 2]? = some (.lst (is.map fun n=>D.str (Zx n))):=by rw [Za5]; rfl
   have e3:(eSl (Zb 1) (ZaP (eC (.int 1))) (ZaY)) [some (.str (ZfT nm is)),some (.ref M.length),some (.tup (ks.map D.str)),some (.ref (M.length + 1)),none,none,none] (M ++ [.lst ((nm :: is.map Zx).map D.str),.lst [.str nm]]) = .ok (.ref (M.length + 2)) (M ++ [.lst ((nm :: is.map Zx).map D.str),.lst [.str nm],.lst (is.map fun n=>D.str (Zx n))]):=by
    simp only [eSl,Zb,Yy,Y1,R3.bind,ZaP,eC,ZaY,Zgt,mw,e1,alloc,Yw,Yai,Yc2,Yz,Ydw,Ybq]
   simp only [Zg1,e3,R3.bind,Zkq,e2,Zb,Yy,Y1,Ybq]
  obtain ⟨x,y,z,hl⟩:=ZjA (line:=.str (ZfT nm is)) (wd:=.ref M.length) (M:=M) (W:=.lst ((nm :: is.map Zx).map D.str)) F rfl;refine (Zm (show Zfe _ _ _ _ _ = _ from by unfold Zfe; rw [z0]; exact hl)).trans ?_;refine ZaE (ZbH rfl (Zfm ?_));rw [Za5]; rfl
 ·have q:∀ l:List Int,belowL M.length (l.map D.int) = true:=by
   intro l
   induction l with
   | nil=>rfl
   | cons a l ih=>simp only [Yt,belowL,below,ih,Yb3]
  simp only [Zku,below,belowL,q,Yb3]
noncomputable abbrev GR:=List Nat × List Int
noncomputable def grD (r:GR):D:=Zku r.1 r.2
noncomputable def grT (r:GR):List Nat:=ZfT r.1 r.2
structure ZsE (rs:List GR):Prop where
 fit:∀ r ∈ rs,∃ ks,ZnU r.1 r.2 ks
 few:rs.length <= 1000
 ne:rs ≠ []
structure ZsB (rs:List GR):Prop where
 base:ZsE rs
 last:∃ q r,rs = q ++ [r] /\ (r.1 = [104,97,108,116] \/ r.1 = [106,117,109,112])
 lead:∀ r ∈ rs,∀ ks,tabAt r.1 Za3 = some ks -> ∀ (j:Nat) n,ks[j]? = some rw3 -> r.2[j]? = some n -> 0 <= n /\ n < (rs.length:Int)
theorem ZoC {ks:List (List Nat)} {is:List Int} {i:Nat} {d:D} (h:(Zey (ks.map D.str) (is.map D.int))[i]? = some d):∃ k n,ks[i]? = some k /\ is[i]? = some n /\ d = .tup [.str k,.int n]:=by
 rw [Zgz,Yp,Yp] at h;cases hk:ks[i]? with
 | none=>rw [hk] at h; cases h
 | some k=>
  cases hn:is[i]? with
  | none=>rw [hk,hn] at h; cases h
  | some n=>rw [hk,hn] at h; cases h; exact ⟨k,n,rfl,rfl,rfl⟩
theorem Zqc {env:Zaq} {M:Store} {r:GR} {ks:List (List Nat)} (ht:tabAt r.1 Za3 = some ks) (hv:env[1]? = some (some (grD r))):
  (Zg1 (e1 (Ze3 Za3) (e2 Zf (Zb 1) (eC (.int 0)))) (eSl (Zb 1) (ZaP (eC (.int 1))) (ZaY))) env M = .ok ⟨Zey (ks.map D.str) (r.2.map D.int),[]⟩ M:=by
 have e0:(e1 (Ze3 Za3) (e2 Zf (Zb 1) (eC (.int 0)))) env M = .ok (.tup (ks.map D.str)) M:=by
  refine Zd5 (Zk (a:=grD r) (M1:=M) (by simp only [Zb,hv]) rfl (Zb0 (ZaG _ 0))) ?_;simp only [Ze3,ht]
 have e1:(eSl (Zb 1) (ZaP (eC (.int 1))) (ZaY)) env M = .ok (.tup (r.2.map D.int)) M:=by
  have q:cutD (D.str r.1 :: r.2.map D.int) (some 1) none = r.2.map D.int:=Zgy (D.str r.1 :: r.2.map D.int) 1;simp only [eSl,Zb,hv,R3.bind,ZaP,eC,ZaY,grD,Zku,Zgt,q]
 simp only [Zg1,e0,e1,R3.bind,Zkq,Ybq]
theorem Zln {rs:List GR} (F:ZsB rs) {n:Nat} {M:Store} (hM:M[n]? = some (.lst (rs.map grD))):Zcj [.ref n] M = .ok .non M:=by
 have hb:∃ e',Zce [some (.ref n),none,none,none] M = .nx e' M:=by
  unfold Zce;have c0:(e2 Zf5 (e2 Zf (e2 Zf (Zb 0) (e1 ZbE (eC (.int 1)))) (eC (.int 0))) (Zbv (Za (eC (.str [104,97,108,116])) (Za (eC (.str [106,117,109,112])) (Zg))))) [some (.ref n),none,none,none] M = .ok (.bl false) M:=by
   obtain ⟨q,r,e,hr⟩:=F.last;have g:Zbc (rs.map grD) (-1) = some (grD r):=by rw [e,Yae]; exact getD_last ..
   refine Zk (Zk (Zk rfl rfl (ZbX hM g)) rfl (Zb0 (ZaG _ 0))) (Zc1 rfl rfl) ?_;rcases hr with hr | hr
   ·simp only [Zf5,inD,hr]; rfl
   ·simp only [Zf5,inD,hr]; rfl
  rw [Zm (Zak c0),ZeL (it:=⟨rs.map grD,some n⟩) (M':=M) (by simp only [Zdl,Zb,Y1,R3.bind,hM])];obtain ⟨e',M',hl,_,_,_,rfl,rfl⟩:=Zeu (it:=⟨rs.map grD,some n⟩) (g:=ZbB 1)
   (body:=(Zfe (Zg1 (e1 (Ze3 Za3) (e2 Zf (Zb 1) (eC (.int 0)))) (eSl (Zb 1) (ZaP (eC (.int 1))) (ZaY))) (Zgx [2,3]) (sIf (Zcq (e2 ZaH (Zb 2) (eC (.str [114,111,119]))) (e1 Zbp (Zt Za6 (Za (Zb 3) (Za (Zax Za2 (Za (Zb 0) (Zg))) (Zg)))))) (Zj6) (Zab))))
   (P:=fun j env M'=>∃ x y z,env = [some (.ref n),x,y,z] /\ M = M') (rs.map grD) 0 [some (.ref n),none,none,none] M ⟨none,none,none,rfl,rfl⟩
   (fun j env M' hp=>by
    obtain ⟨x,y,z,rfl,rfl⟩:=hp;simp only [locked,hM,decide_true])
   (fun i d hd env M' hp=>by
    obtain ⟨x,y,z,rfl,rfl⟩:=hp;rw [Yp] at hd;cases hr:rs[i]? with
    | none=>rw [hr] at hd; cases hd
    | some r=>
     rw [hr] at hd; cases hd;have hm:=Yax hr;obtain ⟨ks,hk⟩:=F.base.fit r hm;obtain ⟨e2,M2,hl2,y2,z2,rfl,rfl⟩:=Zf2 (lk:=[]) (g:=Zgx [2,3])
      (body:=(sIf (Zcq (e2 ZaH (Zb 2) (eC (.str [114,111,119]))) (e1 Zbp (Zt Za6 (Za (Zb 3) (Za (Zax Za2 (Za (Zb 0) (Zg))) (Zg)))))) (Zj6) (Zab)))
      (P:=fun j env M'=>∃ y z,env = [some (.ref n),some (grD r),y,z] /\ M = M') (Zey (ks.map D.str) (r.2.map D.int)) 0 [some (.ref n),some (grD r),y,z] M ⟨y,z,rfl,rfl⟩ (fun _ _ _ _=>rfl)
      (fun i d env M' hd hp=>by
       obtain ⟨y,z,rfl,rfl⟩:=hp;obtain ⟨k,v,h1,h2,rfl⟩:=ZoC hd;refine ⟨_,rfl,.inl ⟨[some (.ref n),some (grD r),some (.str k),some (.int v)],M,Zak ?_,_,_,rfl,rfl⟩⟩;by_cases q:k = rw3
       ·subst q
        rw [Zdb (M1:=M) (Zk rfl rfl (by simp only [ZaH,eqD,decide_true]))];refine Zd5 (Zbd (b:=.int (rs.map grD).length) (M2:=M) rfl (ZbH rfl (ZeJ hM)) (Zi1 v _ M)) ?_;rw [Yk,decide_eq_true (F.lead r hm ks hk.tab i v h1 h2)]; rfl
       ·exact ZfL (M1:=M) (Zk rfl rfl (by simp only [ZaH,eqD]; rw [decide_eq_false q])))
     refine ⟨_,[some (.ref n),some (grD r),y2,z2],M,rfl,?_,some (grD r),y2,z2,rfl,rfl⟩;unfold Zfe;rw [Zqc hk.tab rfl];exact hl2)
  exact ⟨_,hl⟩
 obtain ⟨e',hb⟩:=hb;have q:=Zse (ps:=1) (n:=4) (ds:=[.ref n]) (env:=[some (.ref n),none,none,none]) hb;exact q.trans (Zny rfl)
theorem ZgA {rs:List GR} (F:ZsE rs):(∀ t ∈ rs.map grT,t.length <= 248) /\ Zcf [10] (rs.map grT) <= SZ /\ (glue [10] (rs.map grT)).length + 2 <= SZ:=by
 have h:∀ t ∈ rs.map grT,t.length <= 248:=by
  intro t ht;obtain ⟨r,hr,rfl⟩:=Yan.mp ht;obtain ⟨ks,hk⟩:=F.fit r hr;exact (ZhG hk.few.1 hk.few.2 hk.num).2
 obtain ⟨a,b⟩:=Zky 10 248 _ h;have e:(rs.map grT).length * (248 + 1) <= 249000:=by rw [Yk]; have:=F.few; omega
 exact ⟨h,Yj a (Yj e (by decide)),Yj (Yds (Yj b e) 2) (by decide)⟩
theorem ZnH {nm:List Nat} {is:List Int} (ha:∀ c ∈ nm,97 <= c) (h:∀ n ∈ is,n.natAbs < 10 ^ 60):∀ c ∈ ZfT nm is,32 <= c:=by
 have gen:∀ ts:List (List Nat),(∀ t ∈ ts,∀ c ∈ t,32 <= c) -> ∀ c ∈ glue [32] ts,32 <= c:=by
  intro ts
  induction ts with
  | nil=>intro _ c hc; exact nomatch hc
  | cons t ts ih=>
   intro h c hc;cases ts with
   | nil=>exact h t (Yq ..) c hc
   | cons u ts=>
    rw [Zep] at hc;rcases Ybh.mp hc with hc | hc
    ·exact h t (Yq ..) c hc
    ·rcases Ybh.mp hc with hc | hc
     ·rw [Yco.mp hc]; exact Yi _
     ·exact ih (fun q hq=>h q (Yv _ hq)) c hc
 refine gen _ fun t ht=>?_;rcases Y3.mp ht with e | ht
 ·rw [e]; exact fun c hc=>Yj (by decide) (ha c hc)
 ·obtain ⟨i,hi,rfl⟩:=Yan.mp ht
  exact fun c hc=>Yj (by decide) ((Zfi i (h i hi)).2.2 c hc)
theorem Zkf {rs:List GR} (F:ZsE rs):ZdR (glue [10] (rs.map grT)) [10] = rs.map grT:=by
 refine Zg5 10 _ (fun z=>F.ne (Ye9.mp z)) fun t ht=>?_;obtain ⟨r,hr,rfl⟩:=Yan.mp ht;obtain ⟨ks,hk⟩:=F.fit r hr;exact fun z=>absurd (ZnH hk.abc hk.num 10 z) (by decide)
theorem Zk7 {rs:List GR} (F:ZsB rs) (M:Store):ZcI [.str (glue [10] (rs.map grT))] M = .ok (.tup (rs.map grD)) M:=by
 have Z:=ZgA F.base;have sp:(ZaR tyS Zed (Zb 0) (Za (eC (.str [10])) (Zg))) [some (.str (glue [10] (rs.map grT))),some (.ref M.length),none,none,none] (M ++ [.lst []]) = .ok (.ref (M.length + 1)) (M ++ [.lst [],.lst ((rs.map grT).map D.str)]):=by
  refine ZhF (d:=.str [10]) rfl rfl ?_;simp only [Zed,Zkf F.base];rw [if_pos ⟨by decide,Z.2.2⟩];simp only [alloc,Yw,Yaw,Yz,Ycq]
 have en:(Zjp (ZaR tyS Zed (Zb 0) (Za (eC (.str [10])) (Zg)))) [some (.str (glue [10] (rs.map grT))),some (.ref M.length),none,none,none] (M ++ [.lst []]) = .ok ⟨Zew 1 ((rs.map grT).map D.str),[(M.length + 1,(rs.map grT).map D.str)]⟩ (M ++ [.lst [],.lst ((rs.map grT).map D.str)]):=by
  have g:(M ++ [.lst [],.lst ((rs.map grT).map D.str)])[M.length + 1]? = some (.lst ((rs.map grT).map D.str)):=by rw [Za5]; rfl
  simp only [Zjp,sp,R3.bind,g]
 refine Rt.pure (G:=[.lst (rs.map grD),.lst ((rs.map grT).map D.str)]) (env:=[some (.str (glue [10] (rs.map grT))),none,none,none,none]) ?_ ?_
 ·unfold ZeX
  refine (Zm (Zaf (d:=.ref M.length) (M':=M ++ [.lst []]) (by simp only [Zbu,Zg,R3.bind]; rw [if_pos (show ([]:List D).length <= SZ by decide)]; rfl))).trans ?_;obtain ⟨e',M',hl,x,y,z,rfl,rfl⟩:=Zf2 (lk:=[(M.length + 1,(rs.map grT).map D.str)]) (g:=Zgx [2,3])
   (body:=(Zy (ZaF 4 (Zt Zc8 (Za (Zb 3) (Zg)))) (Zy (sIf (e2 ZjI (Zb 4) (eC .non)) (Zj6) (Zab)) (ZaJ (ZaR tyL ZaD (Zb 1) (Za (Zb 4) (Zg)))))))
   (P:=fun j env M'=>∃ x y z,env = [some (.str (glue [10] (rs.map grT))),some (.ref M.length),x,y,z] /\ M' = M ++ [.lst ((rs.take j).map grD),.lst ((rs.map grT).map D.str)])
   (Zew 1 ((rs.map grT).map D.str)) 0 [some (.str (glue [10] (rs.map grT))),some (.ref M.length),none,none,none] (M ++ [MO.lst [],MO.lst ((rs.map grT).map D.str)]) ⟨none,none,none,rfl,rfl⟩
   (fun j env M' hp=>by
    obtain ⟨x,y,z,rfl,rfl⟩:=hp;simp [ZbW,Za5])
   (fun i d env M' hd hp=>by
    obtain ⟨x,y,z,rfl,rfl⟩:=hp;rw [ZgR,Yp,Yp] at hd;cases hr:rs[i]? with
    | none=>rw [hr] at hd; cases hd
    | some r=>
     rw [hr] at hd; cases hd;obtain ⟨ks,hk⟩:=F.base.fit r (Yax hr);rw [Ya3];refine ⟨_,rfl,.inl ⟨[some (.str (glue [10] (rs.map grT))),some (.ref M.length),some (.int ((1 + i:Nat):Int)),some (.str (grT r)),some (grD r)],M ++ [.lst ((rs.take (i + 1)).map grD),.lst ((rs.map grT).map D.str)],?_,_,_,_,rfl,rfl⟩⟩;have c1:∀ M0,(Zt Zc8 (Za (Zb 3) (Zg))) [some (.str (glue [10] (rs.map grT))),some (.ref M.length),some (.int ((1 + i:Nat):Int)),some (.str (grT r)),z] M0 = .ok (grD r) M0:=fun M0=>Zeh rfl (ZlQ hk M0);refine (Zm (Zaf (c1 _))).trans ?_;refine (Zm (Zak (Zk rfl rfl (show ZjI (grD r) .non _ = _ from by simp only [ZjI]; rw [decide_eq_false (fun z=>nomatch z)])))).trans ?_;have e:(rs.take (i + 1)).map grD = (rs.take i).map grD ++ [grD r]:=by rw [Ydq,hr,Yae]; rfl
     have hz:((rs.take i).map grD).length < SZ:=by
      have:=F.base.few;rw [Yk,Yay]; simp only [SZ]; exact lB 2 0xf42405b1101013e83b001 T1 this (Ybb _ _)
     rw [e];refine Zgm (d:=.non) ?_;have g1:(M ++ [MO.lst ((rs.take i).map grD),.lst ((rs.map grT).map D.str)])[M.length]? = some (.lst ((rs.take i).map grD)):=Zaa ..;have s1:(M ++ [MO.lst ((rs.take i).map grD),.lst ((rs.map grT).map D.str)]).set M.length (.lst ((rs.take i).map grD ++ [grD r])) = M ++ [.lst ((rs.take i).map grD ++ [grD r]),.lst ((rs.map grT).map D.str)]:=ZbV M _ 0 _;simp only [ZaR,Zb,Yy,Y1,R3.bind,tyL,g1,if_true,Za,Zg,ZaD,if_pos hz,s1])
  have e:0 + (Zew 1 ((rs.map grT).map D.str)).length = rs.length:=by rw [ZgU,Yk,Yk,Ya3]
  rw [e,Ydy] at hl;refine (Zm (show Zfe _ _ _ _ _ = _ from by unfold Zfe; rw [en]; exact hl)).trans ?_;have g1:(M ++ [.lst (rs.map grD),.lst ((rs.map grT).map D.str)])[M.length]? = some (.lst (rs.map grD)):=Zaa ..;refine (Zm (Zgm (Zeh rfl (Zln F g1)))).trans ?_;exact ZaE (ZbH rfl (Zfm g1))
 ·have q:∀ l:List Int,belowL M.length (l.map D.int) = true:=by
   intro l
   induction l with
   | nil=>rfl
   | cons a l ih=>simp only [Yt,belowL,below,ih,Yb3]
  have q2:∀ l:List GR,belowL M.length (l.map grD) = true:=by
   intro l
   induction l with
   | nil=>rfl
   | cons a l ih=>simp only [Yt,belowL,grD,Zku,below,q,ih,Yb3]
  simp only [below,q2]
noncomputable def Zio:Row -> List Nat
 | .put _ _=>[112,117,116] | .add _ _ _=>[97,100,100] | .sub _ _ _=>[115,117,98] | .more _ _ _=>[109,111,114,101] | .get _ _=>[103,101,116] | .set _ _=>[115,101,116]
 | .jump _=>[106,117,109,112] | .when _ _=>[119,104,101,110] | .tell _=>[116,101,108,108] | .halt=>[104,97,108,116]
noncomputable def ZpY:Row -> List Int
 | .put a n=>[a,n] | .add a b c=>[a,b,c] | .sub a b c=>[a,b,c] | .more a b c=>[a,b,c] | .get a b=>[a,b] | .set a b=>[a,b]
 | .jump k=>[k] | .when a k=>[a,k] | .tell a=>[a] | .halt=>[]
noncomputable abbrev nbr:List Nat:=[110,117,109,98,101,114]
noncomputable def Zs7:Row -> List (List Nat)
 | .put _ _=>[bx,nbr] | .add _ _ _=>[bx,bx,bx] | .sub _ _ _=>[bx,bx,bx] | .more _ _ _=>[bx,bx,bx] | .get _ _=>[bx,bx] | .set _ _=>[bx,bx]
 | .jump _=>[rw3] | .when _ _=>[bx,rw3] | .tell _=>[bx] | .halt=>[]
noncomputable def ZgS (r:Row):GR:=(Zio r,ZpY r)
theorem Zj8 (r:Row):Zq r = grD (ZgS r):=by cases r <;> rfl
theorem ZpI (rs:List Row):rs.map Zq = (rs.map ZgS).map grD:=by
 rw [Ycn]; exact Yc7 fun r _=>Zj8 r
noncomputable def Zcx:Row -> Prop
 | .put _ v=>v.natAbs < 10 ^ 60
 | _=>True
theorem ZgH {a b:Nat} (h:a < b) (hb:b <= 5000):((a:Nat):Int).natAbs < 10 ^ 60:=by
 rw [Int.natAbs_natCast]; exact Y0 h (Yj hb (by decide +kernel))
theorem ZpH {a:Nat} (h:a < 8):(0:Int) <= a /\ (a:Int) < 8:=⟨Ybo a,iN [_] [] 1 0x81b08981b011 T1 h⟩
theorem ZjW {m:Nat} (hm:m <= 5000) (r:Row) (h:r.ok m) (hs:Zcx r):ZnU (Zio r) (ZpY r) (Zs7 r) /\ ∀ (j:Nat) n,(Zs7 r)[j]? = some rw3 -> (ZpY r)[j]? = some n -> 0 <= n /\ n < (m:Int):=by
 have s8:∀ {a:Nat},a < 8 -> ((a:Nat):Int).natAbs < 10 ^ 60:=fun q=>ZgH q (by decide);have sm:∀ {a:Nat},a < m -> ((a:Nat):Int).natAbs < 10 ^ 60:=fun q=>ZgH q hm;have mk:∀ {nm:List Nat} {is:List Int} {ks:List (List Nat)},tabAt nm Za3 = some ks -> ks.length = is.length -> (Ye3 is.length 3 && Ye3 nm.length 4) = true -> (nm.all fun c=>decide (97 <= c)) = true -> (∀ n ∈ is,n.natAbs < 10 ^ 60) ->
   (∀ (j:Nat) k n,ks[j]? = some k -> is[j]? = some n -> (k = bx -> 0 <= n /\ n < 8) /\ (k = rw3 -> 0 <= n /\ n < (m:Int))) -> ZnU nm is ks /\ ∀ (j:Nat) n,ks[j]? = some rw3 -> is[j]? = some n -> 0 <= n /\ n < (m:Int):=
  fun h1 h2 h3 h4 h5 h6=>⟨⟨h1,h2,⟨Ycj (Yh4.mp h3).1,Ycj (Yh4.mp h3).2⟩,fun c hc=>of_decide_eq_true (Y5.mp h4 c hc),h5,fun j n a b=>(h6 j _ n a b).1 rfl⟩,fun j n a b=>(h6 j _ n a b).2 rfl⟩
 have m1:∀ {P:Int -> Prop} {a:Int},P a -> ∀ n ∈ [a],P n:=fun h n hn=>by rw [Yco.mp hn]; exact h
 have m2:∀ {P:Int -> Prop} {a b:Int},P a -> P b -> ∀ n ∈ [a,b],P n:=fun h h' n hn=>by
  rcases Y3.mp hn with e | hn
  ·rw [e]; exact h
  ·exact m1 h' n hn
 have m3:∀ {P:Int -> Prop} {a b c:Int},P a -> P b -> P c -> ∀ n ∈ [a,b,c],P n:=fun h h' h'' n hn=>by
  rcases Y3.mp hn with e | hn
  ·rw [e]; exact h
  ·exact m2 h' h'' n hn
 have kb:∀ {a:Nat},a < 8 -> (bx = bx -> (0:Int) <= a /\ (a:Int) < 8) /\ (bx = rw3 -> (0:Int) <= a /\ (a:Int) < (m:Int)):=fun q=>⟨fun _=>ZpH q,(fun z=>by cases z)⟩;have kr:∀ {a:Nat},a < m -> (rw3 = bx -> (0:Int) <= a /\ (a:Int) < 8) /\ (rw3 = rw3 -> (0:Int) <= a /\ (a:Int) < (m:Int)):=fun q=>⟨(fun z=>by cases z),fun _=>⟨Ybo _,Yff.2 q⟩⟩;have g0:∀ {Q:Nat -> List Nat -> Int -> Prop} (j:Nat) k n,([]:List (List Nat))[j]? = some k -> ([]:List Int)[j]? = some n -> Q j k n:=fun j k n z=>by simp at z
 have gS:∀ {Q:List Nat -> Int -> Prop} {k0:List Nat} {ks:List (List Nat)} {a:Int} {is:List Int},Q k0 a -> (∀ (j:Nat) k n,ks[j]? = some k -> is[j]? = some n -> Q k n) -> ∀ (j:Nat) k n,(k0 :: ks)[j]? = some k -> (a :: is)[j]? = some n -> Q k n:=fun h0 h1 j k n e1 e2=>by
  cases j with
  | zero=>cases e1; cases e2; exact h0
  | succ j=>exact h1 j k n e1 e2
 have gN:∀ {Q:List Nat -> Int -> Prop} (j:Nat) k n,([]:List (List Nat))[j]? = some k -> ([]:List Int)[j]? = some n -> Q k n:=fun j k n z=>by simp at z
 cases r with
 | put a v=>exact mk rfl rfl rfl rfl (m2 (s8 h) hs) (gS (kb h) (gS ⟨(fun z=>by cases z),(fun z=>by cases z)⟩ gN))
 | add a b c=>exact mk rfl rfl rfl rfl (m3 (s8 h.1) (s8 h.2.1) (s8 h.2.2)) (gS (kb h.1) (gS (kb h.2.1) (gS (kb h.2.2) gN)))
 | sub a b c=>exact mk rfl rfl rfl rfl (m3 (s8 h.1) (s8 h.2.1) (s8 h.2.2)) (gS (kb h.1) (gS (kb h.2.1) (gS (kb h.2.2) gN)))
 | more a b c=>exact mk rfl rfl rfl rfl (m3 (s8 h.1) (s8 h.2.1) (s8 h.2.2)) (gS (kb h.1) (gS (kb h.2.1) (gS (kb h.2.2) gN)))
 | get a b=>exact mk rfl rfl rfl rfl (m2 (s8 h.1) (s8 h.2)) (gS (kb h.1) (gS (kb h.2) gN))
 | set a b=>exact mk rfl rfl rfl rfl (m2 (s8 h.1) (s8 h.2)) (gS (kb h.1) (gS (kb h.2) gN))
 | jump k=>exact mk rfl rfl rfl rfl (m1 (sm h)) (gS (kr h) gN)
 | when a k=>exact mk rfl rfl rfl rfl (m2 (s8 h.1) (sm h.2)) (gS (kb h.1) (gS (kr h.2) gN))
 | tell a=>exact mk rfl rfl rfl rfl (m1 (s8 h)) (gS (kb h) gN)
 | halt=>exact mk rfl rfl rfl rfl (fun n z=>nomatch z) gN
theorem Zhy {roll:Zba} (R:ZbS roll) (hs:∀ r ∈ roll,Zcx r) (hl:roll.length <= 1000):ZsB (roll.map ZgS):=by
 have hm:roll.length <= 5000:=Yj hl (by decide);obtain ⟨q,x,e,hx⟩:=R.last;refine ⟨⟨fun r hr=>?_,by rw [Yk]; exact hl,fun z=>?_⟩,⟨q.map ZgS,ZgS x,by rw [e,Yae]; rfl,?_⟩,fun r hr ks hk j n h1 h2=>?_⟩
 ·obtain ⟨x,hx,rfl⟩:=Yan.mp hr
  exact ⟨_,(ZjW hm x (R.rows x hx) (hs x hx)).1⟩
 ·rw [e] at z; exact absurd (Ye9.mp z) (by simp)
 ·rcases hx with rfl | ⟨k,rfl⟩
  ·exact .inl rfl
  ·exact .inr rfl
 ·obtain ⟨x,hx,rfl⟩:=Yan.mp hr
  obtain ⟨f1,f2⟩:=ZjW hm x (R.rows x hx) (hs x hx);rw [show tabAt (ZgS x).1 Za3 = some (Zs7 x) from f1.tab] at hk;cases hk;rw [Yk];exact f2 j n h1 h2
noncomputable def ZiS (roll:Zba):List Nat:=glue [10] ((roll.map ZgS).map grT)
theorem Zni {roll:Zba} (R:ZbS roll) (hs:∀ r ∈ roll,Zcx r) (hl:roll.length <= 1000) (M:Store):ZcI [.str (ZiS roll)] M = .ok (Zo roll) M:=by
 have q:=Zk7 (Zhy R hs hl) M;rw [Zo,ZpI]; exact q
theorem Zqk {x y:List D} {M:Store} (h:x.length + y.length <= SZ):Zao (.tup x) (.tup y) M = .ok (.tup (x ++ y)) M:=by simp only [Zao,if_pos h]
theorem Zl1 {f:E3} {lo hi:EO3} {env:Zaq} {M:Store} {xs:List D} {a b:Option Int} (h1:f env M = .ok (.tup xs) M) (h2:lo env M = .ok a M) (h3:hi env M = .ok b M):eSl f lo hi env M = .ok (.tup (cutD xs a b)) M:=by
 simp only [eSl,h1,h2,h3,R3.bind,Zgt]
theorem ZlF {f:E3} {lo hi:EO3} {env:Zaq} {M:Store} {n:Nat} {xs:List D} {a b:Option Int} (h1:f env M = .ok (.ref n) M) (hM:M[n]? = some (.lst xs)) (h2:lo env M = .ok a M) (h3:hi env M = .ok b M):eSl f lo hi env M = .ok (.ref M.length) (M ++ [.lst (cutD xs a b)]):=by
 simp only [eSl,h1,h2,h3,R3.bind,Zgt,hM,alloc]
theorem Zi6 (c:Int):∃ v:Int,v.natAbs < 10 ^ 60 /\ ∀ M,ZaS [.int c] M = .ok (.int v) M:=by
 have m:∀ (x:Int) (b:Nat),0 < b -> b <= 10 ^ 30 -> 0 <= x % (b:Int) /\ x % (b:Int) < 10 ^ 30:=fun x b h h'=>⟨Int.emod_nonneg _ (fun z=>iN [_] [] 2 416093702305 T1 z h),by have:=Yfs x (b:=(b:Int)) (iN [_] [] 1 149491217 T1 h); omega⟩;have l:∀ M,(Zbu (Za (e2 Zdo (e2 ZaB (Zb 1) (eC (.int 5))) (eC (.int 2))) (Za (e2 ZaB (Zb 1) (eC (.int 3))) (Za (e2 ZaB (Zb 1) (eC (.int 4))) (Za (e2 Zdo (e2 ZaB (Zb 1) (eC (.int 9))) (eC (.int 4))) (Za (e2 ZaB (Zb 1) (e2 ZiH (eC (.int 10)) (eC (.int 30)))) (Za (e1 ZbE (e2 ZaB (Zb 1) (e2 ZiH (eC (.int 10)) (eC (.int 30))))) (Zg)))))))) [some (.int c),some (.int (c / 6)),none] M = .ok (.ref M.length) (M ++ [.lst ([c / 6 % 5 - 2,c / 6 % 3,c / 6 % 4,c / 6 % 9 - 4,c / 6 % 10 ^ 30,-(c / 6 % 10 ^ 30)].map D.int)]):=fun M=>
  Zdx (Zat (Zk (Zk rfl rfl (Zbh (by decide))) rfl rfl) (Zat (Zk rfl rfl (Zbh (by decide))) (Zat (Zk rfl rfl (Zbh (by decide))) (Zat (Zk (Zk rfl rfl (Zbh (by decide))) rfl rfl) (Zat (Zk rfl (b:=.int (10 ^ 30)) rfl (Zbh (by decide))) (Zat (Zd5 (Zk rfl (b:=.int (10 ^ 30)) rfl (Zbh (by decide))) rfl) rfl)))))) rfl
 obtain ⟨k,hk,lk⟩:=ZcN c 6 (by decide);have hk':c % 6 = (k:Int):=hk;obtain ⟨v,hv,sv⟩:∃ v,[c / 6 % 5 - 2,c / 6 % 3,c / 6 % 4,c / 6 % 9 - 4,c / 6 % 10 ^ 30,-(c / 6 % 10 ^ 30)][k]? = some v /\ v.natAbs < 10 ^ 60:=by
  have q1:=m (c / 6) 5 (by decide) (by decide);have q2:=m (c / 6) 3 (by decide) (by decide);have q3:=m (c / 6) 4 (by decide) (by decide);have q4:=m (c / 6) 9 (by decide) (by decide);have q5:=m (c / 6) (10 ^ 30) (by decide) (Yi _);have q5':0 <= c / 6 % (10 ^ 30:Int) /\ c / 6 % (10 ^ 30:Int) < 10 ^ 30:=q5;have up:∀ {x:Int},x.natAbs < 10 ^ 31 -> x.natAbs < 10 ^ 60:=fun h=>Yet h (by decide);have hh:k = 0 \/ k = 1 \/ k = 2 \/ k = 3 \/ k = 4 \/ k = 5:=by omega
  rcases hh with rfl | rfl | rfl | rfl | rfl | rfl
  ·exact ⟨_,rfl,up (by omega)⟩
  ·exact ⟨_,rfl,up (by omega)⟩
  ·exact ⟨_,rfl,up (by omega)⟩
  ·exact ⟨_,rfl,up (by omega)⟩
  ·exact ⟨_,rfl,up (by omega)⟩
  ·exact ⟨_,rfl,up (by omega)⟩
 refine ⟨v,sv,fun M=>?_⟩;refine Rt.pure (G:=[.lst ([c / 6 % 5 - 2,c / 6 % 3,c / 6 % 4,c / 6 % 9 - 4,c / 6 % 10 ^ 30,-(c / 6 % 10 ^ 30)].map D.int)]) (env:=[some (.int c),none,none]) ?_ rfl;unfold Zd8;refine (Zm (Zaf (Zk rfl rfl (ZcY (by decide))))).trans ((Zm (Zaf (l M))).trans (ZaE (Zk rfl (Zk rfl rfl ((Zbh (by decide)).trans (by rw [hk']))) (ZbX (Zaa ..) ?_))));rw [ZaG,Yp,hv]; rfl
theorem Zmk {n m:Nat} {M:Store} {x y:List D} (h1:M[n]? = some (.lst x)) (h2:M[m]? = some (.lst y)) (hz:x.length + y.length <= 100000):Zao (.ref n) (.ref m) M = .ok (.ref M.length) (M ++ [.lst (x ++ y)]):=by
 simp only [Zao,h1,h2,if_pos (Yj hz (by decide:100000 <= SZ)),alloc]
theorem Zr6 {r:EP3} {env:Zaq} {M:Store} {l:List (Za4 × D)} (h:r env (M ++ [.dct []]) = .ok l (M ++ [.dct []])) (hl:Ye3 l.length 15 = true):Zos r env M = .ok (.ref M.length) (M ++ [.dct (dictOf l)]):=by
 have e:(M ++ [MO.dct []]).set M.length (.dct (dictOf l)) = M ++ [.dct (dictOf l)]:=ZbV M _ 0 _;simp only [Zos,h,R3.bind,Zaa,if_pos (Ycj hl),e]
noncomputable def Zd9:List (Za4 × D):=[(.inr [97,100,100],.int 3),(.inr [115,117,98],.int 3),(.inr [109,111,114,101],.int 3),(.inr [103,101,116],.int 2),(.inr [115,101,116],.int 2),(.inr [116,101,108,108],.int 1),(.inr [104,97,108,116],.int 0)]
noncomputable def ZrV:S3:=(Zy (ZaF 8 (Zos (ZdP (eC (.str [97,100,100])) (eC (.int 3)) (ZdP (eC (.str [115,117,98])) (eC (.int 3)) (ZdP (eC (.str [109,111,114,101])) (eC (.int 3)) (ZdP (eC (.str [103,101,116])) (eC (.int 2)) (ZdP (eC (.str [115,101,116])) (eC (.int 2)) (ZdP (eC (.str [116,101,108,108])) (eC (.int 1)) (ZdP (eC (.str [104,97,108,116])) (eC (.int 0)) (ZsH)))))))))) (Zau (Zax Za1 (Za (e2 Zao (Zbu (Za (Zb 4) (Zg))) (eSl (Zb 6) (ZaY) (ZaP (e2 Zcp (Zb 8) (Zb 4))))) (Zg)))))
noncomputable def ZlO:S3:=(Zy (sIf (e2 ZaH (Zb 4) (eC (.str [112,117,116]))) (Zau (Zbv (Za (Zb 4) (Za (e2 Zf (Zb 6) (eC (.int 0))) (Za (Zt ZaS (Za (e2 Za7 (Zb 5) (eC (.int 8))) (Zg))) (Zg)))))) (Zab)) (Zy (sIf (e2 ZaH (Zb 4) (eC (.str [106,117,109,112]))) (Zau (Zbv (Za (Zb 4) (Za (Zb 7) (Zg))))) (Zab)) (Zy (sIf (e2 ZaH (Zb 4) (eC (.str [119,104,101,110]))) (Zau (Zbv (Za (Zb 4) (Za (e2 Zf (Zb 6) (eC (.int 0))) (Za (Zb 7) (Zg)))))) (Zab)) ZrV)))
noncomputable abbrev rE (c A m p q:Int) (n3 n6:Nat) (nm:List Nat) (z:Option D):Zaq:=[some (.int c),some (.int A),some (.int m),some (.ref n3),some (.str nm),some (.int p),some (.ref n6),some (.int q),z]
theorem Zql {c A m p q:Int} {n3 n6:Nat} {nm:List Nat} {a b d:Int} {S:Store} (g:S[n6]? = some (.lst [.int a,.int b,.int d])) (k:Nat) (hv:Zcb (dictOf Zd9) (.inr nm) = some (.int (k:Int))):∃ G,ZrV [some (.int c),some (.int A),some (.int m),some (.ref n3),some (.str nm),some (.int p),some (.ref n6),some (.int q),none] S = .rt (.tup (.str nm :: ([.int a,.int b,.int d]:List D).take k)) (S ++ G):=by
 refine ⟨[.dct (dictOf Zd9)] ++ [.lst [.str nm]] ++ [.lst (([.int a,.int b,.int d]:List D).take k)] ++ [.lst (.str nm :: ([.int a,.int b,.int d]:List D).take k)],?_⟩;unfold ZrV;refine (Zm (Zaf (Zr6 (l:=Zd9) rfl rfl))).trans (ZaE ?_);have l1:(Zbu (Za (Zb 4) (Zg))) (rE c A m p q n3 n6 nm (some (.ref S.length))) (S ++ [.dct (dictOf Zd9)]) = .ok (.ref (S ++ [MO.dct (dictOf Zd9)]).length) (S ++ [.dct (dictOf Zd9)] ++ [.lst [.str nm]]):=Zdx rfl rfl;have g0:(S ++ [MO.dct (dictOf Zd9)])[S.length]? = some (.dct (dictOf Zd9)):=Zaa ..;obtain ⟨S1,h1⟩:∃ S1,S ++ [MO.dct (dictOf Zd9)] = S1:=⟨_,rfl⟩;rw [h1] at l1 g0 ⊢;have g1:=ZaI g0 [MO.lst [.str nm]];have g2:(S1 ++ [MO.lst [.str nm]])[n6]? = some (.lst [.int a,.int b,.int d]):=by rw [← h1]; exact ZaI (ZaI g _) _
 have hi:(ZaP (e2 Zcp (Zb 8) (Zb 4))) (rE c A m p q n3 n6 nm (some (.ref S.length))) (S1 ++ [.lst [.str nm]]) = .ok (some (k:Int)) (S1 ++ [.lst [.str nm]]):=by
  have e:(e2 Zcp (Zb 8) (Zb 4)) (rE c A m p q n3 n6 nm (some (.ref S.length))) (S1 ++ [.lst [.str nm]]) = .ok (.int (k:Int)) (S1 ++ [.lst [.str nm]]):=Zk rfl rfl (by simp only [Zcp,g1,ZcP,ZeM,hv]);simp only [ZaP,e,R3.bind]
 have l2:=ZlF (f:=Zb 6) (lo:=ZaY) rfl g2 rfl hi;rw [ZhY] at l2;have g3:(S1 ++ [MO.lst [.str nm]] ++ [MO.lst (([.int a,.int b,.int d]:List D).take k)])[S1.length]? = some (.lst [.str nm]):=ZaI (Zaa ..) _;have l3:=Zmk g3 (Zaa (S1 ++ [MO.lst [.str nm]]) (.lst (([.int a,.int b,.int d]:List D).take k)) []) (by rw [Yay]; show 1 + min k 3 <= _; exact lA 1 0x186a05b0ac031b001 T1 (Ybb _ _));refine (ZbH (Zk l1 l2 l3) (Zfm (Zaa ..))).trans ?_;rw [← h1];simp only [Yz,Ycq]
noncomputable def ZiY:List (List Nat):=[[112,117,116],[97,100,100],[115,117,98],[109,111,114,101],[103,101,116],[115,101,116],[106,117,109,112],[119,104,101,110],[116,101,108,108],[104,97,108,116]]
noncomputable def rowOf (nm:List Nat) (a b d k:Nat) (v:Int):Row:=
 if nm = [112,117,116] then .put a v else if nm = [97,100,100] then .add a b d else if nm = [115,117,98] then .sub a b d else if nm = [109,111,114,101] then .more a b d else if nm = [103,101,116] then .get a b else
 if nm = [115,101,116] then .set a b else if nm = [106,117,109,112] then .jump k else if nm = [119,104,101,110] then .when a k else if nm = [116,101,108,108] then .tell a else .halt
theorem ZiD {nm:List Nat} {P:List Nat -> Prop} (h:nm ∈ ZiY) (h0:P [112,117,116]) (h1:P [97,100,100]) (h2:P [115,117,98]) (h3:P [109,111,114,101]) (h4:P [103,101,116]) (h5:P [115,101,116]) (h6:P [106,117,109,112]) (h7:P [119,104,101,110]) (h8:P [116,101,108,108]) (h9:P [104,97,108,116]):P nm:=by
 simp only [ZiY,Y3,Ybi,or_false] at h;rcases h with rfl | rfl | rfl | rfl | rfl | rfl | rfl | rfl | rfl | rfl <;> assumption
theorem ZoT {nm:List Nat} {a b d k n:Nat} {v:Int} (h:nm ∈ ZiY) (la:a < 8) (lb:b < 8) (ld:d < 8) (lk:k < n) (sv:v.natAbs < 10 ^ 60):(rowOf nm a b d k v).ok n /\ Zcx (rowOf nm a b d k v):=
 ZiD (P:=fun nm=>(rowOf nm a b d k v).ok n /\ Zcx (rowOf nm a b d k v)) h ⟨la,sv⟩ ⟨⟨la,lb,ld⟩,trivial⟩ ⟨⟨la,lb,ld⟩,trivial⟩ ⟨⟨la,lb,ld⟩,trivial⟩ ⟨⟨la,lb⟩,trivial⟩ ⟨⟨la,lb⟩,trivial⟩ ⟨lk,trivial⟩ ⟨⟨la,lk⟩,trivial⟩ ⟨la,trivial⟩ ⟨trivial,trivial⟩
theorem ZpX {c A m p v:Int} {n3 n6 k:Nat} {nm:List Nat} {a b d:Nat} {S:Store} (g:S[n6]? = some (.lst [.int (a:Int),.int (b:Int),.int (d:Int)])) (hv:∀ M,ZaS [.int (p / 8)] M = .ok (.int v) M) (hn:nm ∈ ZiY):
  ∃ G,ZlO (rE c A m p k n3 n6 nm none) S = .rt (Zq (rowOf nm a b d k v)) (S ++ G):=by
 have i0:∀ nm,(e2 Zf (Zb 6) (eC (.int 0))) (rE c A m p k n3 n6 nm none) S = .ok (.int (a:Int)) S:=fun nm=>Zk rfl rfl (ZbX g (ZaG _ 0));have eq:∀ {nm w:List Nat} {t:Bool},decide (nm = w) = t -> (e2 ZaH (Zb 4) (eC (.str w))) (rE c A m p k n3 n6 nm none) S = .ok (.bl t) S:=fun h=>Zk rfl rfl (by simp only [ZaH,eqD]; rw [h]);have rest:∀ (nm:List Nat) (r:Row) (s:Nat),decide (nm = [112,117,116]) = false -> decide (nm = [106,117,109,112]) = false -> decide (nm = [119,104,101,110]) = false -> Zcb (dictOf Zd9) (.inr nm) = some (.int (s:Int)) -> D.tup (.str nm :: ([.int (a:Int),.int (b:Int),.int (d:Int)]:List D).take s) = Zq r -> rowOf nm a b d k v = r ->
   ∃ G,ZlO (rE c A m p k n3 n6 nm none) S = .rt (Zq (rowOf nm a b d k v)) (S ++ G):=fun nm r s h1 h2 h3 h4 h5 h6=>by
  obtain ⟨G,hG⟩:=Zql (c:=c) (A:=A) (m:=m) (p:=p) (q:=k) (n3:=n3) (nm:=nm) g s h4;rw [h5] at hG;rw [h6];exact ⟨G,(Zm (Zak (eq h1))).trans ((Zm (Zak (eq h2))).trans ((Zm (Zak (eq h3))).trans hG))⟩
 refine ZiD (P:=fun nm=>∃ G,ZlO (rE c A m p k n3 n6 nm none) S = .rt (Zq (rowOf nm a b d k v)) (S ++ G)) hn ?_ (rest _ (.add a b d) 3 rfl rfl rfl rfl rfl rfl) (rest _ (.sub a b d) 3 rfl rfl rfl rfl rfl rfl) (rest _ (.more a b d) 3 rfl rfl rfl rfl rfl rfl) (rest _ (.get a b) 2 rfl rfl rfl rfl rfl rfl) (rest _ (.set a b) 2 rfl rfl rfl rfl rfl rfl) ?_ ?_ (rest _ (.tell a) 1 rfl rfl rfl rfl rfl rfl) (rest _ .halt 0 rfl rfl rfl rfl rfl rfl)
 ·exact ⟨[],by rw [Yaj]; exact ZbY ((ZbN (eq rfl)).trans (ZaE (Zc1 (Zat rfl (Zat (i0 _) (Zat (Zeh (Zk rfl rfl (ZcY (by decide))) (hv S)) rfl))) rfl)))⟩
 ·exact ⟨[],by rw [Yaj]; exact (Zm (Zak (eq rfl))).trans (ZbY ((ZbN (eq rfl)).trans (ZaE (Zc1 rfl rfl))))⟩
 ·exact ⟨[],by rw [Yaj]; exact (Zm (Zak (eq rfl))).trans ((Zm (Zak (eq rfl))).trans (ZbY ((ZbN (eq rfl)).trans (ZaE (Zc1 (Zat rfl (Zat (i0 _) rfl)) rfl)))))⟩
noncomputable def Zft:List (List Nat):=[[112,117,116],[112,117,116],[97,100,100],[115,117,98],[109,111,114,101],[103,101,116],[103,101,116],[115,101,116],[115,101,116],[106,117,109,112],[119,104,101,110],[119,104,101,110],[116,101,108,108],[116,101,108,108]]
noncomputable def nm3:List (List Nat):=[[97,100,100],[115,101,116],[104,97,108,116]]
theorem Zo6 (n:Nat) (r:GR):below n (grD r) = true:=by
 have q:∀ l:List Int,belowL n (l.map D.int) = true:=by
  intro l
  induction l with
  | nil=>rfl
  | cons a l ih=>simp only [Yt,belowL,below,ih,Yb3]
 simp only [grD,Zku,below,belowL,q,Yb3]
theorem Zsm (c:Int) (j many:Nat) (hat:j < many):∃ r:Row,(r.ok (many + 1) /\ Zcx r) /\ ∀ M,Zcw [.int c,.int j,.int many] M = .ok (Zq r) M:=by
 obtain ⟨a,ha,la⟩:=ZcN (c / 17) 8 (by decide);obtain ⟨b,hb,lb⟩:=ZcN (c / 17 / 8) 8 (by decide);obtain ⟨d,hd,ld⟩:=ZcN (c / 17 / 64) 8 (by decide);obtain ⟨i,hi,li⟩:=ZcN c 17 (by decide);obtain ⟨x,hx,lx⟩:=ZcN (c / 17 / 32) (many - j) (Nat.sub_pos_of_lt hat);obtain ⟨y,hy,ly⟩:=ZcN (c / 17 / 32) (j + 1) (Nat.succ_pos _);have ha':c / 17 % 8 = (a:Int):=ha;have hb':c / 17 / 8 % 8 = (b:Int):=hb;have hd':c / 17 / 64 % 8 = (d:Int):=hd;have hi':c % 17 = (i:Int):=hi;have hx':c / 17 / 32 % ((many:Int) - (j:Int)) = (x:Int):=by rw [← hx,show ((many:Int) - (j:Int)) = ((many - j:Nat):Int) by exact Ycg (iN [_,_,_] [] 1 6799418428866561 T1 (sbA _ _)) (iN [_,_,_] [] 1 6800412982184993 T1 (Yd (Yde hat)))]
 have hy':c / 17 / 32 % ((j:Int) + 1) = (y:Int):=hy;obtain ⟨nm,hnm,mem⟩:∃ nm,(Zft ++ nm3)[i]? = some nm /\ nm ∈ ZiY:=by
  have l:i < (Zft ++ nm3).length:=li;refine ⟨(Zft ++ nm3)[i],Y6 l,?_⟩;have al:∀ w ∈ Zft ++ nm3,w ∈ ZiY:=by decide
  exact al _ (Y4 l)
 obtain ⟨k,lk,hk⟩:∃ k:Nat,k < many + 1 /\ (k:Int) = if c / 17 / 8 % 4 = 1 then (y:Int) else (j:Int) + 1 + x:=by
  by_cases q:c / 17 / 8 % 4 = 1
  ·exact ⟨y,lC 2 0xa2c012111a1c011 T1 ly hat,by rw [if_pos q]⟩
  ·exact ⟨j + 1 + x,iN [_,_,_] [_] 2 0xa1c0a2cc12818f091080b1 T1 hx' (Yfs _ (iN [_,_] [] 1 556465197073 T1 hat)),by rw [if_neg q]; exact Ycg (iN [_,_] [] 0 6931925845462152 T1) (iN [_,_] [] 0 7332402940644552 T1)⟩
 obtain ⟨v,sv,hv⟩:=Zi6 (c / 17 / 8);refine ⟨rowOf nm a b d k v,ZoT mem la lb ld lk sv,fun M=>?_⟩;have one:∃ G,ZfQ [some (.int c),some (.int j),some (.int many),none,none,none,none,none,none] M = .rt (Zq (rowOf nm a b d k v)) (M ++ G):=by
  have s3:(Zbu (Za (eC (.str [112,117,116])) (Za (eC (.str [112,117,116])) (Za (eC (.str [97,100,100])) (Za (eC (.str [115,117,98])) (Za (eC (.str [109,111,114,101])) (Za (eC (.str [103,101,116])) (Za (eC (.str [103,101,116])) (Za (eC (.str [115,101,116])) (Za (eC (.str [115,101,116])) (Za (eC (.str [106,117,109,112])) (Za (eC (.str [119,104,101,110])) (Za (eC (.str [119,104,101,110])) (Za (eC (.str [116,101,108,108])) (Za (eC (.str [116,101,108,108])) (Zg)))))))))))))))) [some (.int c),some (.int j),some (.int many),none,none,none,none,none,none] M = .ok (.ref M.length) (M ++ [.lst (Zft.map D.str)]):=Zdx rfl rfl;have l4:(Zbu (Za (eC (.str [97,100,100])) (Za (eC (.str [115,101,116])) (Za (eC (.str [104,97,108,116])) (Zg))))) [some (.int c),some (.int j),some (.int many),some (.ref M.length),none,none,none,none,none] (M ++ [.lst (Zft.map D.str)]) = .ok (.ref (M ++ [MO.lst (Zft.map D.str)]).length) (M ++ [.lst (Zft.map D.str)] ++ [.lst (nm3.map D.str)]):=Zdx rfl rfl;have a4:=Zmk (ZaI (Zaa M (.lst (Zft.map D.str)) []) [MO.lst (nm3.map D.str)]) (Zaa (M ++ [MO.lst (Zft.map D.str)]) (.lst (nm3.map D.str)) []) (by decide);rw [← Yae] at a4;have s4:=Zk (op:=Zf) (f:=(e2 Zao (Zb 3) (Zbu (Za (eC (.str [97,100,100])) (Za (eC (.str [115,101,116])) (Za (eC (.str [104,97,108,116])) (Zg))))))) (g:=(e2 ZaB (Zb 0) (eC (.int 17)))) (d:=.str nm) (Zk rfl l4 a4) (Zk rfl rfl ((Zbh (by decide)).trans (by rw [hi']))) (ZbX (Zaa ..) (by rw [ZaG,Yp,hnm]; rfl));obtain ⟨S,hS⟩:∃ S,M ++ [MO.lst (Zft.map D.str)] ++ [.lst (nm3.map D.str)] ++ [.lst ((Zft ++ nm3).map D.str)] = S:=⟨_,rfl⟩;rw [hS] at s4;have s6:(Zbu (Za (e2 ZaB (Zb 5) (eC (.int 8))) (Za (e2 ZaB (e2 Za7 (Zb 5) (eC (.int 8))) (eC (.int 8))) (Za (e2 ZaB (e2 Za7 (Zb 5) (eC (.int 64))) (eC (.int 8))) (Zg))))) [some (.int c),some (.int j),some (.int many),some (.ref M.length),some (.str nm),some (.int (c / 17)),none,none,none] S = .ok (.ref S.length) (S ++ [.lst [.int (a:Int),.int (b:Int),.int (d:Int)]]):=
   Zdx (Zat (Zk rfl rfl ((Zbh (by decide)).trans (by rw [ha']))) (Zat (Zk (Zk rfl rfl (ZcY (by decide))) rfl ((Zbh (by decide)).trans (by rw [hb']))) (Zat (Zk (Zk rfl rfl (ZcY (by decide))) rfl ((Zbh (by decide)).trans (by rw [hd']))) rfl))) rfl
  have gB:(S ++ [MO.lst [.int (a:Int),.int (b:Int),.int (d:Int)]])[S.length]? = some (.lst [.int (a:Int),.int (b:Int),.int (d:Int)]):=Zaa ..;obtain ⟨S2,hS2⟩:∃ S2,S ++ [MO.lst [.int (a:Int),.int (b:Int),.int (d:Int)]] = S2:=⟨_,rfl⟩;rw [hS2] at s6 gB;have s7:(e2 Zao (e2 Zao (Zb 1) (eC (.int 1))) (e2 ZaB (e2 Za7 (Zb 5) (eC (.int 32))) (e2 Zdo (Zb 2) (Zb 1)))) [some (.int c),some (.int j),some (.int many),some (.ref M.length),some (.str nm),some (.int (c / 17)),some (.ref S.length),none,none] S2 = .ok (.int ((j:Int) + 1 + x)) S2:=Zk (Zk rfl rfl rfl) (Zk (Zk rfl rfl (ZcY (by decide))) (Zk rfl rfl rfl) ((Zbh (by exact iN [_,_] [] 1 556465197073 T1 hat)).trans (by rw [hx']))) rfl;have s8:(sIf (e2 ZaH (e2 ZaB (e2 Za7 (Zb 5) (eC (.int 8))) (eC (.int 4))) (eC (.int 1))) (ZaF 7 (e2 ZaB (e2 Za7 (Zb 5) (eC (.int 32))) (e2 Zao (Zb 1) (eC (.int 1))))) (Zab)) [some (.int c),some (.int j),some (.int many),some (.ref M.length),some (.str nm),some (.int (c / 17)),some (.ref S.length),some (.int ((j:Int) + 1 + x)),none] S2 = .nx [some (.int c),some (.int j),some (.int many),some (.ref M.length),some (.str nm),some (.int (c / 17)),some (.ref S.length),some (.int (k:Int)),none] S2:=by
   by_cases q:c / 17 / 8 % 4 = 1
   ·rw [hk,if_pos q]
    exact (ZbN (Zk (Zk (Zk rfl rfl (ZcY (by decide))) rfl (Zbh (by decide))) rfl (Zp1 q))).trans (Zaf (Zk (Zk rfl rfl (ZcY (by decide))) (Zk rfl rfl rfl) ((Zbh (by exact iN [_] [] 0 10521833 T1)).trans (by rw [hy']))))
   ·rw [hk,if_neg q]
    exact Zak (Zk (Zk (Zk rfl rfl (ZcY (by decide))) rfl (Zbh (by decide))) rfl (Zrk q))
  obtain ⟨G,ht⟩:=ZpX (c:=c) (A:=j) (m:=many) (p:=c / 17) (n3:=M.length) (k:=k) gB hv mem;refine ⟨[.lst (Zft.map D.str)] ++ [.lst (nm3.map D.str)] ++ [.lst ((Zft ++ nm3).map D.str)] ++ [.lst [.int (a:Int),.int (b:Int),.int (d:Int)]] ++ G,?_⟩;have e:M ++ ([.lst (Zft.map D.str)] ++ [.lst (nm3.map D.str)] ++ [.lst ((Zft ++ nm3).map D.str)] ++ [.lst [.int (a:Int),.int (b:Int),.int (d:Int)]] ++ G) = S2 ++ G:=by rw [← hS2,← hS]; simp only [Yz]
  rw [e];exact (Zm (Zaf s3)).trans ((Zm (Zaf s4)).trans ((Zm (Zaf (Zk rfl rfl (ZcY (by decide))))).trans ((Zm (Zaf s6)).trans ((Zm (Zaf s7)).trans ((Zm s8).trans ht)))))
 obtain ⟨G,hG⟩:=one;exact Rt.pure (env:=[some (.int c),some (.int j),some (.int many),none,none,none,none,none,none]) hG (by rw [Zj8]; exact Zo6 _ _)
theorem Zhp (n:Nat) (r:Zba):below n (Zo r) = true:=by
 unfold Zo below
 induction r with
 | nil=>rfl
 | cons x r ih=>
  simp only [Yt,belowL,ih,Ygj];cases x <;> rfl
theorem Zna (cs:List Int):Zc5 (cs.map D.int) = some cs:=by
 induction cs with
 | nil=>rfl
 | cons c cs ih=>simp only [Yt,Zc5,ih,Ye7]
theorem ZpQ (cs:List Int) (n:Nat) (M:Store) (hM:M[n]? = some (.lst (cs.map D.int))) (hl:cs.length <= 63):∃ roll:Zba,roll.length = cs.length + 1 /\ (ZbS roll /\ ∀ r ∈ roll,Zcx r) /\ Zdm [.ref n] M = .ok (Zo roll) M:=by
 obtain ⟨rows,lr,hr,h4⟩:=Zmh (α:=Row) (enc:=Zq) (P:=fun _ r=>r.ok (cs.length + 1) /\ Zcx r) (it:=⟨Zd2 0 cs.length,none⟩) (i:=3) (n:=M.length) (elt:=Zt Zcw (Za (e2 Zf (Zb 0) (Zb 3)) (Za (Zb 3) (Za (Zb 1) (Zg)))))
  (env0:=[some (.ref n),some (.int (cs.length:Int)),none,none]) (env:=[some (.ref n),some (.int (cs.length:Int)),none,none]) (ds:=Zd2 0 cs.length) (acc:=[]) (M:=M ++ [.lst []]) (fun _=>rfl)
  (fun d hd=>by
   obtain ⟨j,hj⟩:=Ycc hd;obtain ⟨rfl,lj⟩:=ZhD hj;obtain ⟨r,ok,h⟩:=Zsm cs[j] j cs.length lj;exact ⟨r,ok,fun x=>by
    have hlt:=(Yb.mp hM).1;have hM2:((M ++ [MO.lst []]).set M.length (.lst x))[n]? = some (.lst (cs.map D.int)):=by
     rw [Y9 (by exact fun z=>lB 2 25787699233 T1 z hlt),Y7 hlt,hM]
    generalize (M ++ [MO.lst []]).set M.length (.lst x) = M2 at hM2;have e1:(e2 Zf (Zb 0) (Zb 3)) [some (.ref n),some (.int (cs.length:Int)),none,some (.int (j:Int))] M2 = .ok (.int cs[j]) M2:=by simp [lj,hM2]
    show Zt Zcw _ [some (.ref n),some (.int (cs.length:Int)),none,some (.int (j:Int))] M2 = _;exact Zb2 e1 rfl rfl (h M2)⟩)
  (fun x=>rfl) (by simp) (by simp [Zjm]; exact lA 1 0xf42405b003f2b001 T1 hl)
 have lrows:rows.length = cs.length:=by rw [Zjm] at lr; exact lr
 have hrows:∀ x ∈ rows,x.ok (cs.length + 1) /\ Zcx x:=fun x hx=>by
  obtain ⟨j,hj⟩:=Ycc hx;have:j < (Zd2 0 cs.length).length:=by rw [← lr]; exact (Yb.mp hj).1
  exact hr j (Zd2 0 cs.length)[j] x (by simp [this]) hj
 have s1:(Zax Za2 (Za (Zb 0) (Zg))) [some (.ref n),none,none] M = .ok (.int (cs.length:Int)) M:=by simp [hM]
 have s2:(eLC (Zbq (Zb 1)) 1 (ZbB 3) [] (Zt Zcw (Za (e2 Zf (Zb 0) (Zb 3)) (Za (Zb 3) (Za (Zb 1) (Zg)))))) [some (.ref n),some (.int (cs.length:Int)),none] M = .ok (.ref M.length) (M ++ [.lst (rows.map Zq)]):=by
  rw [Zic (it:=⟨Zd2 0 cs.length,none⟩) (M':=M) (by
   have:((cs.length:Int)) <= 1000000 /\ -1000000 <= (cs.length:Int):=⟨iN [_] [] 1 0xf42405b0883f2b001 T1 hl,iN [_] [] 0 615291837336 T1⟩;simp [this])]
  refine Eq.trans h4 ?_;simp
 have sm:∀ M',(Zax ZgO (Za (Zb 0) (Zg))) [some (.ref n),some (.int (cs.length:Int)),some (.ref M.length)] (M ++ M') = .ok (.int cs.sum) (M ++ M'):=fun M'=>by
  refine ZbH rfl ?_;simp only [ZgO,ZaI hM,Zna]
 obtain ⟨k,hk,lk⟩:=ZcN (cs.sum / 4) (cs.length + 1) (lA 0 658657 T1);have fin:∀ last:Row,last.ok (cs.length + 1) -> (last = .halt \/ ∃ k,last = .jump k) -> (∃ G,Zff [some (.ref n),none,none] M = .rt (Zo (rows ++ [last])) (M ++ G)) -> ∃ roll:Zba,roll.length = cs.length + 1 /\ (ZbS roll /\ ∀ r ∈ roll,Zcx r) /\ Zdm [.ref n] M = .ok (Zo roll) M:=fun last lo ll ⟨G,h⟩=>
  ⟨rows ++ [last],by simp [lrows],⟨⟨by
   intro x hx;rw [Yw,lrows];rcases Ybh.mp hx with h | h
   ·exact (hrows x h).1
   ·simp at h; subst h; exact lo,rows,last,rfl,ll⟩,(fun x hx=>by
   rcases Ybh.mp hx with h | h
   ·exact (hrows x h).2
   ·rw [Yco.mp h]
    rcases ll with rfl | ⟨k,rfl⟩
    ·trivial
    ·trivial)⟩,Rt.pure h (Zhp _ _)⟩
 have zl:rows.length + 1 <= 1000000:=lB 2 0xf42405ba0c03f2b1011021 T1 lrows hl;by_cases c:cs.sum % 4 = 1
 ·refine fin (.jump k) lk (.inr ⟨k,rfl⟩) ⟨_,(Zm (Zaf s1)).trans ((Zm (Zaf s2)).trans (ZbY ((ZbN (M':=M ++ [.lst (rows.map Zq)]) ?_).trans (ZaE (M':=M ++ [.lst (rows.map Zq),.lst [Zq (.jump k)],.lst (rows.map Zq ++ [Zq (.jump k)])]) ?_))))⟩
  ·refine Zk (Zk (sm _) rfl (M3:=M ++ [.lst (rows.map Zq)]) (d:=.int (cs.sum % 4)) (by simp)) rfl ?_
   simp [c]
  ·have e1:(e2 ZaB (e2 Za7 (Zax ZgO (Za (Zb 0) (Zg))) (eC (.int 4))) (e2 Zao (Zb 1) (eC (.int 1)))) [some (.ref n),some (.int (cs.length:Int)),some (.ref M.length)] (M ++ [.lst (rows.map Zq)]) = .ok (.int (k:Int)) (M ++ [.lst (rows.map Zq)]):=by
    refine Zk (Zk (sm _) rfl (M3:=M ++ [.lst (rows.map Zq)]) (d:=.int (cs.sum / 4)) (by simp)) (b:=.int ((cs.length + 1:Nat):Int)) (M2:=M ++ [.lst (rows.map Zq)]) (by simp) ?_;simp only [ZaB];rw [if_pos (by exact iN [_] [] 0 10537193 T1),hk]
   generalize (e2 ZaB (e2 Za7 (Zax ZgO (Za (Zb 0) (Zg))) (eC (.int 4))) (e2 Zao (Zb 1) (eC (.int 1)))) = E1 at e1 ⊢;simp [e1,zl,Zq,Zo]
 ·refine fin .halt trivial (.inl rfl) ⟨_,(Zm (Zaf s1)).trans ((Zm (Zaf s2)).trans ((Zm (Zak (M':=M ++ [.lst (rows.map Zq)]) ?_)).trans (ZaE (M':=M ++ [.lst (rows.map Zq),.lst [Zq .halt],.lst (rows.map Zq ++ [Zq .halt])]) ?_)))⟩
  ·refine Zk (Zk (sm _) rfl (M3:=M ++ [.lst (rows.map Zq)]) (d:=.int (cs.sum % 4)) (by simp)) rfl ?_
   simp [c]
  ·simp [zl,Zq,Zo]
noncomputable def ZbU:Nat -> D -> Bool
 | _,.int _=>true
 | _,.bl _=>true
 | n + 1,.tup ds=>decide (ds.length <= 1000) && ds.all (ZbU n)
 | _,_=>false
theorem Zf6:∀ (n:Nat) (d:D) (M:Store),ZbU n d = true -> ZaO (n + 1) [d,d] M = .ok (.bl true) M:=by
 intro n
 induction n with
 | zero=>
  intro d M h;cases d with
  | int i=>simp [ZaO,Zbe,Zy,ZaF,Zau,sIf,Zab,ZaJ,mkF,Zdh,below,belowL,ZdE]
  | bl b=>simp [ZaO,Zbe,Zy,ZaF,Zau,sIf,Zab,ZaJ,mkF,Zdh,below,belowL,ZdE]
  | _=>simp [ZbU] at h
 | succ n ih=>
  intro d M h;cases d with
  | int i=>simp [ZaO,Zbe,Zy,ZaF,Zau,sIf,Zab,ZaJ,mkF,Zdh,below,belowL,ZdE]
  | bl b=>simp [ZaO,Zbe,Zy,ZaF,Zau,sIf,Zab,ZaJ,mkF,Zdh,below,belowL,ZdE]
  | tup ds=>
   simp only [ZbU,Yu,decide_eq_true_eq,Y5] at h;obtain ⟨hl,hd⟩:=h;show mkF 2 2 (Zbe (ZaO (n + 1))) [.tup ds,.tup ds] M = _;generalize ZaO (n + 1) = F at ih;have lc:=ZjY (α:=Nat) (enc:=fun k=>D.int (0 + (k:Int))) (h:=fun _=>D.bl true) (own:=1) (i:=2) (it:=Zbq (Zax Za2 (Za (Zb 1) (Zg)))) (elt:=Zt F (Za (e2 Zf (Zb 0) (Zb 2)) (Za (e2 Zf (Zb 1) (Zb 2)) (Zg)))) (env:=[some (.tup ds),some (.tup ds)]) (M:=M) (M1:=M) (lock:=none) (as:=Yaa ds.length)
    (by
     have:(ds.length:Int) <= 1000000 /\ -1000000 <= (ds.length:Int):=⟨iN [_] [] 1 0xf42405b0883e83b001 T1 hl,iN [_] [] 0 615291837336 T1⟩;simp [this,Zd2]) (fun _ h=>by cases h)
    (fun k hk M=>by
     have hk':k < ds.length:=by simpa using hk
     have hg:ds[k]? = some ds[k]:=by simp [hk']
     have:=ih ds[k] M (hd _ (Y4 hk'));have gk:Zbc ds (0 + (k:Int)) = some ds[k]:=by rw [Ydd,ZaG,hg]
     simp only [Zt,Za,e2,Zb,Zg,Ydw,Ybq,Yl,List.set,Y1,Yy,R3.bind,Zf,gk,this]) (by simp; exact lA 1 0x186a05b003e83b001 T1 hl)
   refine Rt.pure (G:=[.lst ((Yaa ds.length).map fun _=>D.bl true)]) (env:=[some (.tup ds),some (.tup ds)]) ?_ rfl;unfold Zbe;refine ZbY ((ZbN (M':=M) (by exact rfl)).trans ((Zm (Zak (M':=M) (by exact rfl))).trans (ZaE ((Zdb (M1:=M) (by simp)).trans (ZbH lc ?_)))));simp [allB,isB,isT]
  | _=>simp [ZbU] at h
theorem Zfl (n:Nat) (ds:List D) (p q:Nat) (M:Store) (hp:M[p]? = some (.lst ds)) (hq:M[q]? = some (.lst ds)) (h:∀ d ∈ ds,ZbU n d = true) (hl:ds.length <= 10000):ZaO (n + 2) [.ref p,.ref q] M = .ok (.bl true) M:=by
 show mkF 2 2 (Zbe (ZaO (n + 1))) [.ref p,.ref q] M = _;have ih:=Zf6 n;generalize ZaO (n + 1) = F at ih;have b:(ds.length:Int) <= 1000000 /\ -1000000 <= (ds.length:Int):=⟨iN [_] [] 1 0xf42405b08827104b001 T1 hl,iN [_] [] 0 615291837336 T1⟩;have ir:Zbq (Zax Za2 (Za (Zb 1) (Zg))) [some (.ref p),some (.ref q)] M = .ok ⟨(Yaa ds.length).map fun (k:Nat)=>D.int (0 + (k:Int)),none⟩ M:=by simp [hq,b,Zd2]
 obtain ⟨es,le,re,hh⟩:=Zhx (it:=⟨(Yaa ds.length).map fun (k:Nat)=>D.int (0 + (k:Int)),none⟩) (i:=2) (n:=M.length) (elt:=Zt F (Za (e2 Zf (Zb 0) (Zb 2)) (Za (e2 Zf (Zb 1) (Zb 2)) (Zg)))) (R:=fun _ e=>e = .bl true) (env0:=[some (.ref p),some (.ref q),none]) ((Yaa ds.length).map fun (k:Nat)=>D.int (0 + (k:Int))) [] [some (.ref p),some (.ref q),none] (M ++ [.lst []]) (fun _=>rfl)
  (fun d hd x=>by
   obtain ⟨k,hk,rfl⟩:=Yan.mp hd;have hk':k < ds.length:=by simpa using hk
   have hg:ds[k]? = some ds[k]:=by simp [hk']
   have:=h _ (Y4 hk');generalize ds[k] = e at hg this;have gk:Zbc ds (0 + (k:Int)) = some e:=by rw [Ydd,ZaG,hg]
   rw [show (M ++ [MO.lst []]).set M.length (.lst x) = M ++ [.lst x] by simp];have g1:=ZaI hp [.lst x];have g2:=ZaI hq [.lst x];refine ⟨.bl true,Zbd (a:=e) (b:=e) (M1:=M ++ [.lst x]) (M2:=M ++ [.lst x]) ?_ ?_ (ih e _ this),rfl⟩
   ·simp only [e2,Zb,List.set,Y1,Yy,R3.bind,Zf,g1,gk]
   ·simp only [e2,Zb,List.set,Y1,Yy,R3.bind,Zf,g2,gk])
  (fun _=>rfl) (by simp) (by simp; exact lA 1 0xf42405b0027104b001 T1 hl)
 have all:allB es = some true:=by
  have:∀ e ∈ es,e = .bl true:=fun e he=>by
   obtain ⟨j,hj,ej⟩:=List.mem_iff_getElem.mp he;exact re j (((Yaa ds.length).map fun (k:Nat)=>D.int (0 + (k:Int)))[j]'(by rw [← le]; exact hj)) e (Y6 _) (by rw [← ej]; simp)
  unfold allB;rw [if_pos (Y5.mpr fun e he=>by rw [this e he]; rfl),Y5.mpr fun e he=>by rw [this e he]; rfl]
 have lc:(eLC (Zbq (Zax Za2 (Za (Zb 1) (Zg)))) 1 (ZbB 2) [] (Zt F (Za (e2 Zf (Zb 0) (Zb 2)) (Za (e2 Zf (Zb 1) (Zb 2)) (Zg))))) [some (.ref p),some (.ref q)] M = .ok (.ref M.length) (M ++ [.lst es]):=by
  rw [Zic ir];refine Eq.trans hh ?_;simp
 refine Rt.pure (G:=[.lst es]) (env:=[some (.ref p),some (.ref q)]) ?_ rfl;unfold Zbe;refine ZbY ((ZbN (M':=M) (by simp [hq])).trans ((Zm (Zak (M':=M) (by simp [hp,hq]))).trans (ZaE ((Zdb (M1:=M) (by simp [hp,hq])).trans (ZbH lc ?_)))));simp [all]
theorem Zl7 {α:Type} {enc:α -> D} {h:α -> D} {G0:α -> Store} {M:Store} {i:Nat} {elt:E3} {env0:Zaq} {its:List D}:∀ (as:List α) (acc:List D) (env:Zaq) (G:Store),(∀ d,env.set i (some d) = env0.set i (some d)) ->
  (∀ a ∈ as,∀ S,elt (env0.set i (some (enc a))) S = .ok (h a) (S ++ G0 a)) -> acc.length + as.length <= 100000 ->
  ∃ G',ZbC ⟨its,none⟩ (ZbB i) [] elt M.length (as.map enc) env (M ++ .lst acc :: G) = .ok (.ref M.length) (M ++ .lst (acc ++ as.map h) :: G'):=by
 intro as
 induction as with
 | nil=>intro acc env G _ _ _; exact ⟨G,by rw [Yc5,Yc5,Yaj]; simp only [ZbC,locked,if_true]⟩
 | cons a as ih=>
  intro acc env G he hf hz;have e1:=hf a (Yq ..) (M ++ .lst acc :: G);have e2:(M ++ .lst acc :: G ++ G0 a)[M.length]? = some (.lst acc):=by rw [Yz]; exact Zaa ..
  have e3:(M ++ .lst acc :: G ++ G0 a).set M.length (.lst (acc ++ [h a])) = M ++ .lst (acc ++ [h a]) :: (G ++ G0 a):=by rw [Yz]; exact ZbV M _ 0 _
  have hl:acc.length < SZ:=by rw [Yai] at hz; simp only [SZ]; exact lB 1 0xf42405b01186a05ba1c0c01 T1 hz
  obtain ⟨G',h'⟩:=ih (acc ++ [h a]) (env0.set i (some (enc a))) (G ++ G0 a) (fun d=>by rw [Yb6]) (fun b hb=>hf b (Yv _ hb)) (by rw [Yw,Yaw]; rw [Yai] at hz; exact lB 1 0x186a05b1a0cc0186a05ba1c0c01 T1 hz);refine ⟨G',?_⟩;rw [Yz] at h';rw [Yt];simp only [ZbC,locked,if_true,ZbB,he,ZdI,R3.bind_ok,e1,e2,if_pos hl,e3];exact h'
theorem Zqy {roll:Zba} (R:ZbS roll) (hs:∀ r ∈ roll,Zcx r) (hl:roll.length <= 1000) (M:Store):Zbo [Zo roll] M = .ok (.str (ZiS roll)) M:=by
 have hm:roll.length <= 5000:=Yj hl (by decide);obtain ⟨G',h'⟩:=Zl7 (enc:=Zq) (h:=fun r=>D.str (grT (ZgS r))) (G0:=fun r=>[.lst ((Zio r :: (ZpY r).map Zx).map D.str)]) (M:=M) (i:=1) (env0:=[some (Zo roll),none]) (its:=roll.map Zq)
  (elt:=(ZaR tyS ZfB (eC (.str [32])) (Za (eLC (Zdl (Zb 1)) 1 (ZbB 2) [] (Zax ZkO (Za (Zb 2) (Zg)))) (Zg)))) roll [] [some (Zo roll),none] [] (fun _=>rfl)
  (fun r hr S=>by
   have F:=(ZjW hm r (R.rows r hr) (hs r hr)).1;rw [Zj8];exact Zl9 (env:=[some (Zo roll),some (grD (ZgS r))]) (k:=1) rfl F.few.1 F.few.2 F.num) (by rw [Yc2]; exact lA 1 0x186a05b0ec013884b001 T1 hm)
 have e:(roll.map fun r=>D.str (grT (ZgS r))) = ((roll.map ZgS).map grT).map D.str:=by rw [Ycn,Ycn]; rfl
 rw [Ybq,e] at h';have lc:(eLC (Zdl (Zb 0)) 1 (ZbB 1) [] (ZaR tyS ZfB (eC (.str [32])) (Za (eLC (Zdl (Zb 1)) 1 (ZbB 2) [] (Zax ZkO (Za (Zb 2) (Zg)))) (Zg)))) [some (Zo roll)] M = .ok (.ref M.length) (M ++ .lst (((roll.map ZgS).map grT).map D.str) :: G'):=by
  rw [Zic (it:=⟨roll.map Zq,none⟩) (M':=M) rfl];exact h'
 refine Rt.pure (G:=.lst (((roll.map ZgS).map grT).map D.str) :: G') (env:=[some (Zo roll)]) ?_ rfl;unfold Zfb;exact ZaE (ZhF rfl lc (ZmJ (Zaa ..) (ZgA (Zhy R hs hl).base).2.1))
noncomputable def Zea (k:Nat):Row:=if k % 3 = 0 then .tell (k % 8) else if k % 3 = 1 then .put (k % 8) k else .halt
noncomputable def Zcn (d:Nat):Row -> Row
 | .jump k=>.jump (k + d)
 | .when a k=>.when a (k + d)
 | r=>r
noncomputable def ZkG (roll:Zba) (many:Nat):Zba:=(.jump (many + 1) :: (Yaa many).map Zea) ++ roll.map (Zcn (many + 1))
theorem Zms (roll:Zba) (many:Nat):(ZkG roll many).length = many + 1 + roll.length:=by simp [ZkG]; exact Yh (lB 0 1790139501760 T1) (lB 0 0xa10cc1a0cc0 T1)
theorem Zn8 {n m d:Nat} (h:n + d <= m) (r:Row) (hr:r.ok n):(Zcn d r).ok m:=by
 cases r with
 | jump k=>exact Y0 (Yh5 (show k < n from hr) d) h
 | when a k=>exact ⟨hr.1,Y0 (Yh5 hr.2 d) h⟩
 | _=>exact hr
theorem ZsP {roll:Zba} (R:ZbS roll) (hs:∀ r ∈ roll,Zcx r) {many:Nat} (hm:many <= 1000):ZbS (ZkG roll many) /\ ∀ r ∈ ZkG roll many,Zcx r:=by
 have pos:0 < roll.length:=by obtain ⟨q,x,e,_⟩:=R.last; rw [e]; simp
 have each:∀ r ∈ ZkG roll many,r.ok (many + 1 + roll.length) /\ Zcx r:=fun r hr=>by
  rcases Ybh.mp hr with hr | hr
  ·rcases Y3.mp hr with e | hr
   ·rw [e]; exact ⟨show many + 1 < many + 1 + roll.length by omega,trivial⟩
   ·obtain ⟨k,hk,rfl⟩:=Yan.mp hr
    have hk':=Yft.mp hk;have m8:k % 8 < 8:=Nat.mod_lt _ (by decide);unfold Zea;by_cases h0:k % 3 = 0
    ·rw [if_pos h0]; exact ⟨m8,trivial⟩
    ·rw [if_neg h0]
     by_cases h1:k % 3 = 1
     ·rw [if_pos h1]; exact ⟨m8,ZgH (show k < 5000 by exact lB 2 0x13884b013e83b1011011 T1 hk' hm) (Yi _)⟩
     ·rw [if_neg h1]; exact ⟨trivial,trivial⟩
  ·obtain ⟨x,hx,rfl⟩:=Yan.mp hr
   refine ⟨Zn8 (n:=roll.length) (lB 0 694922887360 T1) x (R.rows x hx),?_⟩;have:=hs x hx;cases x <;> first | exact this | trivial
 refine ⟨⟨fun r hr=>by rw [Zms]; exact (each r hr).1,?_⟩,fun r hr=>(each r hr).2⟩;obtain ⟨q,x,e,hx⟩:=R.last;refine ⟨(.jump (many + 1) :: (Yaa many).map Zea) ++ q.map (Zcn (many + 1)),Zcn (many + 1) x,?_,?_⟩
 ·unfold ZkG; rw [e,Yae,Yz]; rfl
 ·rcases hx with rfl | ⟨k,rfl⟩
  ·exact .inl rfl
  ·exact .inr ⟨_,rfl⟩
noncomputable abbrev Zuj:E3:=(eOr (e2 ZaH (e2 Zf (Zb 4) (eC (.int 0))) (eC (.str [106,117,109,112]))) (e2 ZaH (e2 Zf (Zb 4) (eC (.int 0))) (eC (.str [119,104,101,110]))))
noncomputable abbrev ZrC:S3:=(ZaF 4 (e2 Zao (eSl (Zb 4) (ZaY) (ZaP (e1 ZbE (eC (.int 1))))) (Zbv (Za (e2 Zao (e2 Zao (e2 Zf (Zb 4) (e1 ZbE (eC (.int 1)))) (Zb 1)) (eC (.int 1))) (Zg)))))
noncomputable abbrev ZpM:S3:=(Zy (sIf Zuj ZrC (Zab)) (ZaJ (ZaR tyL ZaD (Zb 2) (Za (Zb 4) (Zg)))))
noncomputable abbrev ZtC:S3:=(ZaJ (ZaR tyL ZaD (Zb 2) (Za (e2 Zf (Zbu (Za (Zbv (Za (eC (.str [116,101,108,108])) (Za (e2 ZaB (Zb 3) (eC (.int 8))) (Zg)))) (Za (Zbv (Za (eC (.str [112,117,116])) (Za (e2 ZaB (Zb 3) (eC (.int 8))) (Za (Zb 3) (Zg))))) (Za (Zbv (Za (eC (.str [104,97,108,116])) (Zg))) (Zg))))) (e2 ZaB (Zb 3) (eC (.int 3)))) (Zg))))
noncomputable abbrev ZkV (a:Option D) (many:Nat) (M:Store) (y:Option D) (r:Row):Zaq:=[a,some (.int (many:Int)),some (.ref M.length),y,some (Zq r)]
theorem Zm4 (a b:Option D) (k:Nat) (hk:k < 1000) {M:Store} {xs:List D} (hx:xs.length <= 1000) {G:Store} {y:Option D}:∃ G',ZtC [a,b,some (.ref M.length),some (.int (k:Int)),y] (M ++ .lst xs :: G) = .nx [a,b,some (.ref M.length),some (.int (k:Int)),y] (M ++ .lst (xs ++ [Zq (Zea k)]) :: G'):=by
 obtain ⟨S,hS⟩:∃ S,M ++ .lst xs :: G = S:=⟨_,rfl⟩;have gS:S[M.length]? = some (.lst xs):=by rw [← hS]; exact Zaa ..
 rw [hS];have m8:(e2 ZaB (Zb 3) (eC (.int 8))) [a,b,some (.ref M.length),some (.int (k:Int)),y] S = .ok (.int ((k % 8:Nat):Int)) S:=Zk rfl rfl ((Zbh (by decide)).trans (by rw [Int.natCast_emod]; rfl));have m3:∀ T,(e2 ZaB (Zb 3) (eC (.int 3))) [a,b,some (.ref M.length),some (.int (k:Int)),y] T = .ok (.int ((k % 3:Nat):Int)) T:=fun T=>Zk rfl rfl ((Zbh (by decide)).trans (by rw [Int.natCast_emod]; rfl));have l2:=Zdx (g:=(Za (Zbv (Za (eC (.str [116,101,108,108])) (Za (e2 ZaB (Zb 3) (eC (.int 8))) (Zg)))) (Za (Zbv (Za (eC (.str [112,117,116])) (Za (e2 ZaB (Zb 3) (eC (.int 8))) (Za (Zb 3) (Zg))))) (Za (Zbv (Za (eC (.str [104,97,108,116])) (Zg))) (Zg))))) (Zat (Zc1 (Zat rfl (Zat m8 rfl)) rfl) (Zat (Zc1 (Zat rfl (Zat m8 (Zat rfl rfl))) rfl) (Zat (Zc1 rfl rfl) rfl))) rfl;have gx:Zbc [D.tup [.str [116,101,108,108],.int ((k % 8:Nat):Int)],.tup [.str [112,117,116],.int ((k % 8:Nat):Int),.int (k:Int)],.tup [.str [104,97,108,116]]] ((k % 3:Nat):Int) = some (Zq (Zea k)):=by
  rw [ZaG];unfold Zea;have hh:k % 3 = 0 \/ k % 3 = 1 \/ k % 3 = 2:=by omega
  rcases hh with h | h | h
  ·rw [if_pos h,h]; rfl
  ·rw [if_neg (by exact fun z=>lA 2 28457426977 T1 z h),if_pos h,h]; rfl
  ·rw [if_neg (by exact fun z=>lA 2 6741759746081 T1 z h),if_neg (by exact fun z=>lA 2 6741759729697 T1 z h),h]; rfl
 refine ⟨G ++ [.lst [D.tup [.str [116,101,108,108],.int ((k % 8:Nat):Int)],.tup [.str [112,117,116],.int ((k % 8:Nat):Int),.int (k:Int)],.tup [.str [104,97,108,116]]]],(ZfZ rfl gS (Zk l2 (m3 _) (ZbX (Zaa ..) gx)) (ZaI gS _) (Ybs hx (by decide))).trans ?_⟩;rw [← hS,Yz];exact congrArg _ (ZbV M _ 0 _)
theorem ZmU (a:Option D) (many:Nat) (r:Row) {M:Store} {xs:List D} (hx:xs.length <= 2000) {G:Store} {y:Option D}:ZpM (ZkV a many M y r) (M ++ .lst xs :: G) = .nx [a,some (.int (many:Int)),some (.ref M.length),y,some (Zq (Zcn (many + 1) r))] (M ++ .lst (xs ++ [Zq (Zcn (many + 1) r)]) :: G):=by
 obtain ⟨S,hS⟩:∃ S,M ++ .lst xs :: G = S:=⟨_,rfl⟩;have gS:S[M.length]? = some (.lst xs):=by rw [← hS]; exact Zaa ..
 rw [hS];have i0:(e2 Zf (Zb 4) (eC (.int 0))) (ZkV a many M y r) S = .ok (.str (Zio r)) S:=Zk rfl rfl (show Zf (Zq r) _ _ = _ by rw [Zj8]; exact Zb0 (ZaG _ 0));have cond:∀ {t u:Bool},decide (Zio r = [106,117,109,112]) = t -> decide (Zio r = [119,104,101,110]) = u -> Zuj (ZkV a many M y r) S = .ok (.bl (t || u)) S:=fun {t u} ht hu=>by
  have e1:(e2 ZaH (e2 Zf (Zb 4) (eC (.int 0))) (eC (.str [106,117,109,112]))) (ZkV a many M y r) S = .ok (.bl t) S:=Zk i0 rfl (by simp only [ZaH,eqD]; rw [ht]);have e2:(e2 ZaH (e2 Zf (Zb 4) (eC (.int 0))) (eC (.str [119,104,101,110]))) (ZkV a many M y r) S = .ok (.bl u) S:=Zk i0 rfl (by simp only [ZaH,eqD]; rw [hu]);cases t with
  | true=>exact Zrb e1
  | false=>exact (ZmG e1).trans e2
 have tl:∀ q:Row,(ZaJ (ZaR tyL ZaD (Zb 2) (Za (Zb 4) (Zg)))) [a,some (.int (many:Int)),some (.ref M.length),y,some (Zq q)] S = .nx [a,some (.int (many:Int)),some (.ref M.length),y,some (Zq q)] (M ++ .lst (xs ++ [Zq q]) :: G):=fun q=>by
  refine (ZfZ rfl gS rfl gS (Ybs hx (by decide))).trans ?_;rw [← hS];exact congrArg _ (ZbV M _ 0 _)
 have no:decide (Zio r = [106,117,109,112]) = false -> decide (Zio r = [119,104,101,110]) = false -> Zcn (many + 1) r = r -> ZpM (ZkV a many M y r) S = .nx [a,some (.int (many:Int)),some (.ref M.length),y,some (Zq (Zcn (many + 1) r))] (M ++ .lst (xs ++ [Zq (Zcn (many + 1) r)]) :: G):=fun h1 h2 e=>by
  rw [e]; exact (Zm (Zak (cond h1 h2))).trans (tl r)
 have yes:∀ {t u:Bool} {x:List D} {k:Nat},decide (Zio r = [106,117,109,112]) = t -> decide (Zio r = [119,104,101,110]) = u -> (t || u) = true -> Zq r = .tup (x ++ [.int (k:Int)]) -> x.length <= 3 -> Zq (Zcn (many + 1) r) = .tup (x ++ [.int ((k + (many + 1):Nat):Int)]) -> ZpM (ZkV a many M y r) S = .nx [a,some (.int (many:Int)),some (.ref M.length),y,some (Zq (Zcn (many + 1) r))] (M ++ .lst (xs ++ [Zq (Zcn (many + 1) r)]) :: G):=fun {t u x k} ht hu htu e hl e9=>by
  have c:=cond ht hu;rw [htu] at c;have cx:cutD (x ++ [D.int (k:Int)]) none (some (-1)) = x:=by rw [Zlh,Yez]
  have s4:ZrC (ZkV a many M y r) S = .nx [a,some (.int (many:Int)),some (.ref M.length),y,some (Zq (Zcn (many + 1) r))] S:=by
   show ZrC [a,some (.int (many:Int)),some (.ref M.length),y,some (Zq r)] S = _;rw [e,e9];refine Zaf (Zk (Zl1 (xs:=x ++ [.int (k:Int)]) (a:=none) (b:=some (-1)) rfl rfl rfl) (Zc1 (Zat (Zk (Zk (Zk rfl rfl (Zb0 (getD_last x (.int (k:Int))))) rfl rfl) rfl rfl) rfl) rfl) (Zqk ?_)) ?_
   ·rw [cx]; show x.length + 1 <= SZ; simp only [SZ]; exact lA 1 0xf42405ba0c031b001 T1 hl
   ·rw [cx,show ((k:Int) + (many:Int) + 1) = ((k + (many + 1):Nat):Int) by exact Ycg (iN [_,_] [] 0 0xa1c0c8a1808cc8 T1) (iN [_,_] [] 0 0xa1808cca1c0c88 T1)]; rfl
  exact (Zm ((ZbN c).trans s4)).trans (tl _)
 cases r with
 | jump k=>exact yes (x:=[.str [106,117,109,112]]) (k:=k) rfl rfl rfl rfl (by show 1 <= 3; decide) rfl
 | when q k=>exact yes (x:=[.str [119,104,101,110],.int q]) (k:=k) rfl rfl rfl rfl (by show 2 <= 3; decide) rfl
 | _=>exact no rfl rfl rfl
theorem Zrv (roll:Zba) (hl:roll.length <= 1000) (many:Nat) (hm:many < 400) (M:Store):ZdO [Zo roll,.int (many:Int)] M = .ok (Zo (ZkG roll many)) M:=by
 have s2:(Zbu (Za (Zbv (Za (eC (.str [106,117,109,112])) (Za (e2 Zao (Zb 1) (eC (.int 1))) (Zg)))) (Zg))) [some (Zo roll),some (.int (many:Int)),none,none,none] M = .ok (.ref M.length) (M ++ [.lst [Zq (.jump (many + 1))]]):=Zdx (Zat (Zc1 rfl rfl) rfl) rfl;obtain ⟨e',M',h1,y,G,rfl,rfl⟩:=Zeu (it:=⟨Zd2 0 many,none⟩) (g:=ZbB 3) (body:=ZtC)
  (P:=fun j env M'=>∃ (y:Option D) (G:Store),env = [some (Zo roll),some (.int (many:Int)),some (.ref M.length),y,none] /\ M' = M ++ .lst (((.jump (many + 1) :: (Yaa j).map Zea):List Row).map Zq) :: G) (Zd2 0 many) 0 [some (Zo roll),some (.int (many:Int)),some (.ref M.length),none,none] (M ++ [.lst [Zq (.jump (many + 1))]]) ⟨none,[],rfl,rfl⟩ (fun _ _ _ _=>rfl)
  (fun k d hd env M' hp=>by
   obtain ⟨y,G,rfl,rfl⟩:=hp;obtain ⟨rfl,hk⟩:=ZhD hd;rw [Ya3];obtain ⟨G',ht⟩:=Zm4 (some (Zo roll)) (some (.int (many:Int))) k (lB 2 0x3e83b011903b1111011 T1 hk hm) (M:=M) (xs:=((.jump (many + 1) :: (Yaa k).map Zea):List Row).map Zq) (by simp; exact lB 2 0x3e73b001903b1111011 T1 hk hm) (G:=G) (y:=none);refine ⟨_,_,_,rfl,ht,_,G',rfl,?_⟩;rw [List.range_succ,Yae,Yt,Yt,Yae]; rfl)
 rw [Zjm,Ya3] at h1;obtain ⟨e',M',h2,z,rfl,rfl⟩:=Zeu (it:=⟨roll.map Zq,none⟩) (g:=ZbB 4) (body:=ZpM)
  (P:=fun j env M'=>∃ (z:Option D),env = [some (Zo roll),some (.int (many:Int)),some (.ref M.length),y,z] /\ M' = M ++ .lst (((.jump (many + 1) :: (Yaa many).map Zea) ++ (roll.take j).map (Zcn (many + 1))).map Zq) :: G) (roll.map Zq) 0 [some (Zo roll),some (.int (many:Int)),some (.ref M.length),y,none] (M ++ .lst (((.jump (many + 1) :: (Yaa many).map Zea):List Row).map Zq) :: G) ⟨none,rfl,by simp⟩ (fun _ _ _ _=>rfl)
  (fun k d hd env M' hp=>by
   obtain ⟨z,rfl,rfl⟩:=hp;rw [Yp] at hd;cases hr:roll[k]? with
   | none=>rw [hr] at hd; cases hd
   | some r=>
    rw [hr] at hd; cases hd;rw [Ya3];refine ⟨_,_,_,rfl,ZmU (some (Zo roll)) many r (by simp; exact lC 3 0x7cf3b20c012013e83b1011903b011 T1 hm hl (Ybb _ _)),_,rfl,?_⟩;rw [Ydq,hr,Yae (f:=Zcn (many + 1)),← Yz,Yae (f:=Zq) (l₂:=(some r).toList.map (Zcn (many + 1)))]; rfl)
 rw [Yk,Ya3,Ydy] at h2;have hr:(Zbq (Zb 1)) [some (Zo roll),some (.int (many:Int)),some (.ref M.length),none,none] (M ++ [.lst [Zq (.jump (many + 1))]]) = .ok ⟨Zd2 0 many,none⟩ (M ++ [.lst [Zq (.jump (many + 1))]]):=by
  simp only [Zbq,Zb,Yy,Y1,R3.bind];rw [if_pos (⟨iN [_] [] 1 0xf42405b0881903b011 T1 hm,iN [_] [] 0 615291837336 T1⟩)]; rfl
 refine Rt.pure (G:=.lst ((ZkG roll many).map Zq) :: G) (env:=[some (Zo roll),some (.int (many:Int)),none,none,none]) ?_ (Zhp _ _);unfold ZfM;refine (Zm (Zaf s2)).trans ((Zm (show ZfR _ _ _ _ _ = _ from (ZeL hr).trans h1)).trans ((Zm (show ZfR _ _ _ _ _ = _ from (ZeL (it:=⟨roll.map Zq,none⟩) rfl).trans h2)).trans (ZaE (ZbH rfl (Zfm (Zaa ..))))))
structure Drawn (roll:Zba) (k:Nat) (s:Stt):Prop where
 ok:s.ok roll
 rise:Zeb s.cells
 len:s.cells.length <= k
theorem ZgE {roll:Zba} (R:ZbS roll):∀ (k:Nat) (s:Stt) (j:Nat),Good roll s -> s.cells.length <= j -> ∀ (i:Nat) (x:Stt),(Zby roll k s)[i]? = some x -> Drawn roll (j + i) x
 | 0,s,j,g,hc,0,x,h=>by cases h; exact ⟨⟨g.pl,g.bx⟩,g.rs,hc⟩
 | 0,s,j,g,hc,i + 1,x,h=>by cases h
 | k + 1,s,j,g,hc,i,x,h=>by
  cases q:Zcm roll s with
  | none=>
   rw [ZdL k q] at h;cases i with
   | zero=>cases h; exact ⟨⟨g.pl,g.bx⟩,g.rs,hc⟩
   | succ i=>cases h
  | some s'=>
   rw [ZdM k q] at h;cases i with
   | zero=>cases h; exact ⟨⟨g.pl,g.bx⟩,g.rs,hc⟩
   | succ i=>
    obtain ⟨g',l'⟩:=ZgQ R g q;have:=ZgE R k s' (j + 1) g' (Yj l' (Yev hc)) i x h;rw [show j + (i + 1) = j + 1 + i by exact Yh (lB 0 1790139547840 T1) (lB 0 0xa1c0c1a0cc0 T1)]; exact this
theorem Zg6 {roll:Zba}:∀ (k:Nat) (s:Stt) (i:Nat) (x y:Stt),(Zby roll k s)[i]? = some x -> (Zby roll k s)[i + 1]? = some y -> Zcm roll x = some y
 | 0,s,i,x,y,_,h=>by cases h
 | k + 1,s,i,x,y,h,h'=>by
  cases q:Zcm roll s with
  | none=>rw [ZdL k q] at h'; cases h'
  | some s'=>
   rw [ZdM k q] at h h';cases i with
   | zero=>
    cases h
    have e:(Zby roll k s')[0]? = some s':=by
     cases k with
     | zero=>rfl
     | succ k=>
      cases p:Zcm roll s' with
      | none=>rw [ZdL k p]; rfl
      | some s''=>rw [ZdM k p]; rfl
    rw [q,← e]; exact h'
   | succ i=>exact Zg6 k s' i x y h h'
structure ZfP (roll:Zba) (all:List Stt) (pn b:Nat) (M:Store):Prop where
 nums:M[pn]? = some (.lst (ZaV b (all.length - 1)))
 inn:∀ (i:Nat) s,i + 1 < all.length -> all[i]? = some s -> M[b + i]? = some (.lst ((Zdk roll s).map D.int))
theorem ZfP.old {roll:Zba} {all:List Stt} {pn b:Nat} {M:Store} (h:ZfP roll all pn b M) (G:Store):ZfP roll all pn b (M ++ G):=⟨ZaI h.nums G,fun i s h1 h2=>ZaI (h.inn i s h1 h2) G⟩
theorem Znd (b n k:Nat) (h:k <= n):(ZaV b n).take k = ZaV b k:=by
 unfold ZaV;rw [← Ygo,List.take_range,Yd7 h]
theorem ZoM {roll:Zba} {a b c:Option D} {q r:Nat} {S:Store} {x y:List D} (h1:S[q]? = some (.lst x)) (h2:S[r]? = some (.lst y)) (hz:x.length + y.length <= 100000):(ZaF 3 (e2 Zao (Zb 3) (Zb 4))) [a,b,c,some (.ref q),some (.ref r),none] S = .nx [a,b,c,some (.ref S.length),some (.ref r),none] (S ++ [.lst (x ++ y)]):=by
 refine Zaf (Zk rfl rfl ?_);simp only [Zao,h1,h2,alloc];rw [if_pos (Yj hz (by decide))]
theorem ZkN (roll:Zba):∀ ss:List Stt,((ss.map (Zdk roll)).flatten).length <= ss.length:=by
 intro ss;rw [Zks];exact Yd6 ..
theorem Zia {roll:Zba} (R:ZbS roll) {all:List Stt} (hg:∀ s ∈ all,s.ok roll) (hl:all.length <= 1000) {m:Nat} (h1:1 <= m) (hm:m <= all.length) {ps pn b:Nat} {M:Store} (N:ZfP roll all pn b M) (hps:M[ps]? = some (.lst ((all.take m).map Ze))):
  Zbj [Zo roll,.ref ps,.ref pn] M = .ok (.bl true) M:=by
 have el:(all.take m).length = m:=by rw [Yay]; omega
 have sl:(Zdl (eSl (Zb 2) (ZaY) (ZaP (e2 Zdo (Zax Za2 (Za (Zb 1) (Zg))) (eC (.int 1)))))) [some (Zo roll),some (.ref ps),some (.ref pn),some (.ref M.length),none,none] (M ++ [.lst []]) = .ok ⟨ZaV b (m - 1),some (M.length + 1)⟩ (M ++ [.lst [],.lst (ZaV b (m - 1))]):=by
  have c:(ZaP (e2 Zdo (Zax Za2 (Za (Zb 1) (Zg))) (eC (.int 1)))) [some (Zo roll),some (.ref ps),some (.ref pn),some (.ref M.length),none,none] (M ++ [.lst []]) = .ok (some ((m - 1:Nat):Int)) (M ++ [.lst []]):=by
   have e:(e2 Zdo (Zax Za2 (Za (Zb 1) (Zg))) (eC (.int 1))) [some (Zo roll),some (.ref ps),some (.ref pn),some (.ref M.length),none,none] (M ++ [.lst []]) = .ok (.int ((m - 1:Nat):Int)) (M ++ [.lst []]):=by
    refine Zk (ZbH rfl (ZeJ (ZaI hps _))) rfl ?_;rw [Yk,el];show R3.ok (D.int ((m:Int) - 1)) _ = _;rw [show (m:Int) - 1 = ((m - 1:Nat):Int) by exact Ycg (iN [_,_] [] 1 433246112432129 T1 (sbA _ _)) (iN [_,_] [] 1 0xa18f0881a0c21 T1 (Yd h1))]
   simp only [ZaP,e,R3.bind]
  have ct:cutD (ZaV b (all.length - 1)) none (some ((m - 1:Nat):Int)) = ZaV b (m - 1):=by rw [ZhY,Znd _ _ _ (by exact lD 3 0x320a3c1010a2c211001 T1 hm (Yd h1) (sbA _ _))]
  have g:=ZaI N.nums [MO.lst []];have e3:(eSl (Zb 2) (ZaY) (ZaP (e2 Zdo (Zax Za2 (Za (Zb 1) (Zg))) (eC (.int 1))))) [some (Zo roll),some (.ref ps),some (.ref pn),some (.ref M.length),none,none] (M ++ [.lst []]) = .ok (.ref (M.length + 1)) (M ++ [.lst [],.lst (ZaV b (m - 1))]):=by
   refine (ZlF rfl g rfl c).trans ?_;rw [ct,Yw,Yz]; rfl
  have g2:(M ++ [.lst [],.lst (ZaV b (m - 1))])[M.length + 1]? = some (.lst (ZaV b (m - 1))):=Za5 _ _ 1;rw [Zdl,e3];simp only [R3.bind,g2]
 obtain ⟨e',S,hlo,q,x,G,rfl,rfl,hq,hqM⟩:=Zeu (it:=⟨ZaV b (m - 1),some (M.length + 1)⟩) (g:=ZbB 4) (body:=(ZaF 3 (e2 Zao (Zb 3) (Zb 4))))
  (P:=fun j env S=>∃ (q:Nat) (x:Option D) (G:Store),env = [some (Zo roll),some (.ref ps),some (.ref pn),some (.ref q),x,none] /\ S = M ++ (.lst [] :: .lst (ZaV b (m - 1)) :: G) /\ S[q]? = some (.lst ((((all.take j).map (Zdk roll)).flatten).map D.int)) /\ M.length <= q)
  (ZaV b (m - 1)) 0 [some (Zo roll),some (.ref ps),some (.ref pn),some (.ref M.length),none,none] (M ++ [.lst [],.lst (ZaV b (m - 1))]) ⟨M.length,none,[],rfl,rfl,Zaa ..,Yi _⟩
  (fun j env S hp=>by
   obtain ⟨q,x,G,rfl,rfl,_,_⟩:=hp;have:(M ++ (.lst [] :: .lst (ZaV b (m - 1)) :: G))[M.length + 1]? = some (.lst (ZaV b (m - 1))):=Za5 _ _ 1;simp only [locked,this,decide_true])
  (fun k d hd env S hp=>by
   obtain ⟨q,x,G,rfl,rfl,hq,hqM⟩:=hp;rw [Ya3] at hq ⊢;have hk:k < m - 1:=by have:=(Yb.mp hd).1; simpa [ZaV] using this
   have ed:d = .ref (b + k):=by simp [ZaV,hk] at hd; exact hd.symm
   subst ed;have hs:all[k]? = some all[k]:=by simp [show k < all.length by exact lD 3 0x301210132011011 T1 hk hm (Yb9 _ _)]
   have h2:=(N.old (.lst [] :: .lst (ZaV b (m - 1)) :: G)).inn k all[k] (lD 3 0x3a0c12a1c2132011011 T1 hk hm (Yd h1)) hs;have tl:=ZkN roll (all.take k);have tl2:(Zdk roll all[k]).length <= 1:=by unfold Zdk; cases ((roll[all[k].place]?).bind fun x=>x.tells all[k].boxes) <;> simp
   have lk:(all.take k).length <= 1000:=by rw [Yay]; exact Yj (Ybb _ _) hl
   have ht:=ZoM (roll:=roll) (a:=some (Zo roll)) (b:=some (.ref ps)) (c:=some (.ref pn)) hq h2 (by rw [Yk,Yk]; omega);refine ⟨_,_,_,rfl,ht,_,_,G ++ [.lst ((((all.take k).map (Zdk roll)).flatten).map D.int ++ (Zdk roll all[k]).map D.int)],rfl,by simp only [Yz,Ydw],?_,by rw [Yw]; exact Yam _ _⟩;rw [Zaa,Ydq,hs,Yae (f:=Zdk roll),List.flatten_append,Yae (f:=D.int)];simp)
 have ln:0 + (ZaV b (m - 1)).length = m - 1:=by simp [ZaV]
 rw [ln] at hq;have due:((all.take (m - 1)).map (Zdk roll)).flatten = ZdA roll (all.take m):=by
  rw [Zks,ZdA,Yhh,el,List.take_take,Yd7 ((Yb9 _ _))]
 rw [due] at hq;have hss:∀ s ∈ all.take m,s.ok roll:=fun s h=>hg s (List.mem_of_mem_take h);have hz:(all.take m).length <= 100000:=lC 3 0x186a05b003e83b20121011021 T1 el hm hl;have tl:(ZdA roll (all.take m)).length <= 1000:=by rw [← due]; have:=ZkN roll (all.take (m - 1)); rw [Yay] at this; exact lC 3 0x3e83b0021013e83b2011001 T1 this hl (Ybb _ _)
 generalize hS:M ++ (.lst [] :: .lst (ZaV b (m - 1)) :: G) = S at *;have pS:S[ps]? = some (.lst ((all.take m).map Ze)):=by rw [← hS]; exact ZaI hps _
 have t1:=Zmy roll (all.take m) ps S R.rows hss hz pS;obtain ⟨S1,hS1⟩:∃ S1,S ++ [MO.lst ((ZdA roll (all.take m)).map D.int),.lst ((all.take m).dropLast.map Ze)] = S1:=⟨_,rfl⟩;have q1:S1[q]? = some (.lst ((ZdA roll (all.take m)).map D.int)):=by rw [← hS1]; exact ZaI hq _
 have f1:S1[S.length]? = some (.lst ((ZdA roll (all.take m)).map D.int)):=by rw [← hS1]; exact Zaa ..
 have p1:S1[ps]? = some (.lst ((all.take m).map Ze)):=by rw [← hS1]; exact ZaI pS _
 rw [hS1] at t1;have pl:∀ d ∈ (ZdA roll (all.take m)).map D.int,ZbU 5 d = true:=fun d hd=>by obtain ⟨i,_,rfl⟩:=Yan.mp hd; rfl
 have sm1:ZaC [.ref S.length,.ref q] S1 = .ok (.bl true) S1:=Zfl 5 _ _ _ _ f1 q1 pl (by rw [Yk]; exact lA 1 0x27104b003e83b001 T1 tl);have ps1:=ZfZ (o:=Zb 5) (t:=eC (.int 7)) (env:=[some (Zo roll),some (.ref ps),some (.ref pn),some (.ref q),x,some (.ref S.length)]) rfl f1 rfl f1 (by rw [Yk]; exact Ybs tl (by decide));obtain ⟨S2,hS2⟩:∃ S2,S1.set S.length (.lst ((ZdA roll (all.take m)).map D.int ++ [.int 7])) = S2:=⟨_,rfl⟩;rw [hS2] at ps1;have lq:q < S.length:=(Yb.mp hq).1;have lp:ps < S.length:=(Yb.mp pS).1;have q2:S2[q]? = some (.lst ((ZdA roll (all.take m)).map D.int)):=by rw [← hS2,Y9 (by exact fun z=>lB 2 25787699233 T1 z lq)]; exact q1
 have p2:S2[ps]? = some (.lst ((all.take m).map Ze)):=by rw [← hS2,Y9 (by exact fun z=>lB 2 25787699233 T1 z lp)]; exact p1
 have t2:=Zmy roll (all.take m) ps S2 R.rows hss hz p2;obtain ⟨S3,hS3⟩:∃ S3,S2 ++ [MO.lst ((ZdA roll (all.take m)).map D.int),.lst ((all.take m).dropLast.map Ze)] = S3:=⟨_,rfl⟩;have q3:S3[q]? = some (.lst ((ZdA roll (all.take m)).map D.int)):=by rw [← hS3]; exact ZaI q2 _
 have f3:S3[S2.length]? = some (.lst ((ZdA roll (all.take m)).map D.int)):=by rw [← hS3]; exact Zaa ..
 have p3:S3[ps]? = some (.lst ((all.take m).map Ze)):=by rw [← hS3]; exact ZaI p2 _
 rw [hS3] at t2;have sm3:ZaC [.ref S2.length,.ref q] S3 = .ok (.bl true) S3:=Zfl 5 _ _ _ _ f3 q3 pl (by rw [Yk]; exact lA 1 0x27104b003e83b001 T1 tl);obtain ⟨s0,s,es⟩:∃ s0 s,all.take m = s0 ++ [s]:=by
  have ne:all.take m ≠ []:=by intro z; rw [z] at el; simp at el; exact lA 2 25937645105 T1 el h1
  exact ⟨_,_,(Ye0 ne).symm⟩
 have sp:s.place < roll.length:=(hss s (by rw [es]; simp)).1;have en:=ZkW roll s0 s ps S3 sp (by rw [← es]; exact p3);have hr:roll[s.place]? = some roll[s.place]:=by simp [sp]
 obtain ⟨nm,hn,hi⟩:=Zgh roll[s.place];have ee:Zcv roll s = decide (nm = [104,97,108,116]):=by unfold Zcv; rw [hr]; exact hn
 have gl:Zbc ((all.take m).map Ze) (-1) = some (Ze s):=by rw [es,Yae]; exact getD_last ..
 have hb:(e2 ZaH (e2 Zf (e2 Zf (Zb 0) (e2 Zf (e2 Zf (Zb 1) (e1 ZbE (eC (.int 1)))) (eC (.int 0)))) (eC (.int 0))) (eC (.str [104,97,108,116]))) [some (Zo roll),some (.ref ps),some (.ref pn),some (.ref q),x,some (.ref S.length)] S3 = .ok (.bl (Zcv roll s)) S3:=by
  rw [ee];refine Zk (Zk (a:=Zq roll[s.place]) (Zk rfl (Zk (Zk rfl rfl (ZbX p3 gl)) rfl (Zb0 (ZaG _ 0))) (Zb0 (by rw [ZaG,Yp,hr]; rfl))) rfl (hi S3)) rfl ?_;simp only [ZaH,eqD]
 have sb:ZaC [.bl (Zcv roll s),.bl (Zcv roll s)] S3 = .ok (.bl true) S3:=Zf6 6 (.bl (Zcv roll s)) S3 rfl;have fin:∃ G3,S3 = M ++ G3:=by
  obtain ⟨G2,hG2⟩:∃ G2,S2 = M ++ G2:=by
   refine ⟨(.lst [] :: .lst (ZaV b (m - 1)) :: G ++ [MO.lst ((ZdA roll (all.take m)).map D.int),.lst ((all.take m).dropLast.map Ze)]).set (S.length - M.length) (.lst ((ZdA roll (all.take m)).map D.int ++ [.int 7])),?_⟩;rw [← ZbV,← hS2,← hS1,← hS,Yz];congr 1;rw [Yw]; exact Yh (lC 1 0x20c10c002c10c01 T1 (sbA _ _)) (lC 1 0x21c01c021c10c21 T1 (Yd (Yam _ _)))
  exact ⟨G2 ++ _,by rw [← hS3,hG2,Yz]⟩
 obtain ⟨G3,hG3⟩:=fin;refine Rt.pure (G:=G3) (env:=[some (Zo roll),some (.ref ps),some (.ref pn),none,none,none]) ?_ rfl;rw [← hG3];unfold Zd1;refine (Zm (Zaf (Zdx rfl rfl))).trans ((Zm (show ZfR _ _ _ _ _ = _ from (ZeL sl).trans hlo)).trans ?_);refine (Zm (Zaf (Zbd rfl rfl t1))).trans ((Zm (Zak (Zd5 (Zbd rfl rfl sm1) rfl))).trans ((Zm ps1).trans ((Zm (Zak (Zd5 (Zbd (Zbd rfl rfl t2) rfl sm3) rfl))).trans ?_)));exact ZaE (Zbd (Zbd rfl rfl en) hb sb)
theorem Zg2 (s:Stt) (h:s.boxes.length <= 1000) (h':s.cells.length <= 1000):∀ n,ZbU (n + 3) (Ze s) = true:=fun n=>by
 have c:∀ (l:List (Int × Int)),(l.map Zae).all (ZbU (n + 1)) = true:=fun l=>by
  rw [Y5];intro d hd;obtain ⟨x,_,rfl⟩:=Yan.mp hd;simp [Zae,ZbU]
 have i:∀ (l:List Int),(l.map D.int).all (ZbU (n + 1)) = true:=fun l=>by
  rw [Y5];intro d hd;obtain ⟨x,_,rfl⟩:=Yan.mp hd;rfl
 have a1:ZbU (n + 2) (Zu s.boxes) = true:=by
  show (decide ((s.boxes.map D.int).length <= 1000) && (s.boxes.map D.int).all (ZbU (n + 1))) = true;rw [Yk,decide_eq_true h,i]; rfl
 have a2:ZbU (n + 2) (Zah s.cells) = true:=by
  show (decide ((s.cells.map Zae).length <= 1000) && (s.cells.map Zae).all (ZbU (n + 1))) = true;rw [Yk,decide_eq_true h',c]; rfl
 show (decide (([.int s.place,Zu s.boxes,Zah s.cells]:List D).length <= 1000) && ([.int s.place,Zu s.boxes,Zah s.cells]:List D).all (ZbU (n + 2))) = true;rw [Ybc,Ybc,Ybc,a1,a2]; rfl
theorem Zsg {roll:Zba} (R:ZbS roll) {bs:List Int} (hb:bs.length = 8) {most:Nat} (hm:most <= 60) {p:Nat} {M:Store} (hp:M[p]? = some (.lst ((Zby roll most ⟨0,bs,[]⟩).map Ze))):Zbn [Zo roll,Zu bs,.ref p] M = .ok (.bl true) M:=by
 have pos:0 < roll.length:=by obtain ⟨q,x,e,_⟩:=R.last; rw [e]; simp
 have g0:Good roll ⟨0,bs,[]⟩:=⟨pos,hb,by simp [Zeb]⟩;have dr:=ZgE R most ⟨0,bs,[]⟩ 0 g0 (Yag _);have fo:=Zg6 (roll:=roll) most ⟨0,bs,[]⟩;have ln:=ZhR roll most ⟨0,bs,[]⟩;have ne:=ZmB roll most ⟨0,bs,[]⟩;have hd0:(Zby roll most ⟨0,bs,[]⟩)[0]? = some ⟨0,bs,[]⟩:=by
  cases most with
  | zero=>rfl
  | succ k=>
   cases q:Zcm roll ⟨0,bs,[]⟩ with
   | none=>rw [ZdL k q]; rfl
   | some s'=>rw [ZdM k q]; rfl
 have pl:∀ (i:Nat) (x:Stt),(Zby roll most ⟨0,bs,[]⟩)[i]? = some x -> ZbU 6 (Ze x) = true:=fun i x h=>by
  have D1:=dr i x h;have li:=(Yb.mp h).1;exact Zg2 x (by rw [D1.ok.2]; decide) (by have:=D1.len; exact lD 4 0x3e83b003c2b301a3c20121111ec001 T1 this li ln hm) 3
 have nx:∀ (i:Nat) (x:Stt) (M:Store),(Zby roll most ⟨0,bs,[]⟩)[i]? = some x -> ZaU [Zo roll,Ze x] M = .ok (Zo0 (Zcm roll x)) M:=fun i x M h=>by
  have D1:=dr i x h;have li:=(Yb.mp h).1;exact ZfE roll x M R.rows D1.ok D1.rise.keys (by have:=D1.len; exact lD 4 0x13884b003c2b301a3c20121111ec001 T1 this li ln hm)
 generalize Zby roll most ⟨0,bs,[]⟩ = ss at *;have c1:(e1 Zbp (Zt ZaC (Za (Zt ZaT (Za (Zb 1) (Zg))) (Za (e2 Zf (Zb 2) (eC (.int 0))) (Zg))))) [some (Zo roll),some (Zu bs),some (.ref p),none] M = .ok (.bl false) M:=by
  refine Zd5 (Zbd (Zeh rfl (ZeY bs M)) (Zk rfl rfl (ZbX hp (d:=Ze ⟨0,bs,[]⟩) ?_)) (Zf6 6 _ M (pl 0 _ hd0))) rfl;exact (ZaG _ 0).trans (by rw [Yp,hd0]; rfl)
 obtain ⟨m,em⟩:∃ m,ss.length = m + 1:=⟨ss.length - 1,by have:=Yiu.mpr ne; exact Yh ((sbA _ _)) (Yb4 (Yd (lA 1 10489361 T1 this)))⟩;have cr:(Zbq (e2 Zdo (Zax Za2 (Za (Zb 2) (Zg))) (eC (.int 1)))) [some (Zo roll),some (Zu bs),some (.ref p),none] M = .ok ⟨Zd2 0 m,none⟩ M:=by
  have e:(e2 Zdo (Zax Za2 (Za (Zb 2) (Zg))) (eC (.int 1))) [some (Zo roll),some (Zu bs),some (.ref p),none] M = .ok (.int (m:Int)) M:=by
   refine Zk (ZbH rfl (ZeJ hp)) rfl ?_;rw [Yk,em];show R3.ok (D.int (((m + 1:Nat):Int) - 1)) _ = _;rw [show ((m + 1:Nat):Int) - 1 = (m:Int) by exact Ycg (iN [_] [] 0 2325793016 T1) (iN [_] [] 0 45647196296 T1)]
  rw [Zbq,e];simp only [R3.bind];rw [if_pos (⟨iN [_,_,_] [] 3 0xf42405b1883c2b201a2c001a1c031 T1 em ln hm,iN [_] [] 0 615291837336 T1⟩)]; rfl
 obtain ⟨e',M',hl,x,rfl,rfl⟩:=Zeu (it:=⟨Zd2 0 m,none⟩) (g:=ZbB 3) (body:=(sIf (e1 Zbp (Zt ZaC (Za (Zt ZaU (Za (Zb 0) (Za (e2 Zf (Zb 2) (Zb 3)) (Zg)))) (Za (e2 Zf (Zb 2) (e2 Zao (Zb 3) (eC (.int 1)))) (Zg))))) (Zau (eC (.bl false))) (Zab)))
  (P:=fun j env M'=>∃ x,env = [some (Zo roll),some (Zu bs),some (.ref p),x] /\ M = M') (Zd2 0 m) 0 [some (Zo roll),some (Zu bs),some (.ref p),none] M ⟨none,rfl,rfl⟩ (fun _ _ _ _=>rfl)
  (fun k d hd env M' hp'=>by
   obtain ⟨x,rfl,rfl⟩:=hp';obtain ⟨rfl,hk⟩:=ZhD hd;have h1:ss[k]? = some ss[k]:=by simp [show k < ss.length by exact lC 2 564744212779025 T1 hk em]
   have h2:ss[k + 1]? = some ss[k + 1]:=by simp [show k + 1 < ss.length by exact lC 2 0x2a0c1a1c2311011 T1 hk em]
   have st:=fo k _ _ h1 h2;have n1:=nx k _ M h1;rw [st] at n1;refine ⟨_,_,M,rfl,Zak (Zd5 (Zbd (Zbd rfl (Zk rfl rfl (ZbX hp (d:=Ze ss[k]) ?_)) n1) (Zk rfl (Zk rfl rfl rfl) (ZbX hp (d:=Ze ss[k + 1]) ?_)) (Zf6 6 _ M (pl (k + 1) _ h2))) rfl),_,rfl,rfl⟩
   ·rw [ZaG,Yp,h1]; rfl
   ·rw [show (k:Int) + 1 = ((k + 1:Nat):Int) by exact rfl,ZaG,Yp,h2]; rfl)
 refine Rt.pure (G:=[]) (env:=[some (Zo roll),some (Zu bs),some (.ref p),none]) ?_ rfl;rw [Yaj];unfold Zc3;refine (Zm (Zak c1)).trans ((Zm (show ZfR _ _ _ _ _ = _ from (ZeL cr).trans hl)).trans (ZaE ?_));obtain ⟨s0,s,es⟩:∃ s0 s,ss = s0 ++ [s]:=⟨_,_,(Ye0 ne).symm⟩;have hs:ss[s0.length]? = some s:=by rw [es]; exact Zaa ..
 have sp:=(dr _ _ hs).ok.1;have hr:roll[s.place]? = some roll[s.place]:=by simp [sp]
 obtain ⟨nm,hn,hi⟩:=Zgh roll[s.place];have gl:Zbc (ss.map Ze) (-1) = some (Ze s):=by rw [es,Yae]; exact getD_last ..
 have il:(e2 Zf (Zb 2) (e1 ZbE (eC (.int 1)))) [some (Zo roll),some (Zu bs),some (.ref p),x] M = .ok (Ze s) M:=Zk rfl rfl (ZbX hp gl);have inm:(e2 Zf (e2 Zf (Zb 0) (e2 Zf (e2 Zf (Zb 2) (e1 ZbE (eC (.int 1)))) (eC (.int 0)))) (eC (.int 0))) [some (Zo roll),some (Zu bs),some (.ref p),x] M = .ok (.str nm) M:=Zk (a:=Zq roll[s.place]) (Zk rfl (Zk il rfl (Zb0 (ZaG _ 0))) (Zb0 (by rw [ZaG,Yp,hr]; rfl))) rfl (hi M);by_cases q:nm = [104,97,108,116]
 ·rw [ZmG (M1:=M) (Zk inm rfl (Zn0 q))]
  have n1:=nx _ s M hs;have en:Zcv roll s = true:=by unfold Zcv; rw [hr]; show roll[s.place].isHalt = true; rw [hn,decide_eq_true q]
  rw [(Zf0 sp).mpr en] at n1;exact Zk (Zbd rfl il n1) rfl rfl
 ·exact Zrb (M1:=M) (Zk inm rfl (Zrw q))
noncomputable abbrev lE (ns:List Int) (roll2:Zba) (bs:List Int) (most:Nat) (A:Store):Zaq:=[some (.scr (ns.map D.int)),some (Zo roll2),some (Zu bs),some (.int (most:Int)),some (.ref (A.length + 2)),some (.ref (A.length + 3)),none,none]
theorem Zpc (ns:List Int) (r:Option D) (M:Store):∃ bs:List Int,bs.length = 8 /\ ∃ G,(Zax Za1 (Za (eLC (Zbq (eC (.int 8))) 1 (ZbB 8) [] (Zt ZaS (Za (e2 Zao (e2 Za7 (Zt Zad (Za (Zb 0) (Za (Zb 8) (Zg)))) (e2 Zao (Zb 8) (eC (.int 2)))) (e2 Zgk (eC (.int 5)) (Zb 8))) (Zg)))) (Zg))) [some (.scr (ns.map D.int)),r,none,none,none,none,none,none] M = .ok (Zu bs) (M ++ G):=by
 obtain ⟨v,hv⟩:=Classical.axiomOfChoice (fun c:Int=>Zi6 c);have lc:=ZjY (α:=Nat) (enc:=fun k=>D.int (0 + (k:Int))) (h:=fun k=>D.int (v (ZdS ns k / ((k:Int) + 2) + 5 * (k:Int)))) (own:=1) (i:=8) (it:=Zbq (eC (.int 8))) (elt:=(Zt ZaS (Za (e2 Zao (e2 Za7 (Zt Zad (Za (Zb 0) (Za (Zb 8) (Zg)))) (e2 Zao (Zb 8) (eC (.int 2)))) (e2 Zgk (eC (.int 5)) (Zb 8))) (Zg))))
  (env:=[some (.scr (ns.map D.int)),r,none,none,none,none,none,none]) (M:=M) (M1:=M) (lock:=none) (as:=Yaa 8) (by rw [Zbq]; simp only [eC,R3.bind]; rw [if_pos (by decide)]; rfl) (fun _ h=>by cases h)
  (fun k hk M'=>by
   have hk':=Yft.mp hk;rw [Ydd];exact Zeh (Zk (Zk (Zbd rfl rfl (cell_eq ns k (Ybo _) M')) (Zk rfl rfl rfl) (ZcY (⟨iN [_] [] 0 565218537 T1,iN [_] [] 1 0x400000008b21b08c981b011 T1 hk'⟩))) (Zk rfl rfl (Zr7 (ZtO (by omega)))) rfl) ((hv _).2 M')) (by decide)
 have q:=ZbH (b:=Za1) lc (Zfm (Zaa ..));have e:((Yaa 8).map fun (k:Nat)=>D.int (v (ZdS ns k / ((k:Int) + 2) + 5 * (k:Int)))) = ((Yaa 8).map fun (k:Nat)=>v (ZdS ns k / ((k:Int) + 2) + 5 * (k:Int))).map D.int:=by rw [Ycn]; rfl
 rw [e] at q;exact ⟨_,by simp,_,q⟩
theorem Zo8 {ns:List Int} {roll:Zba} (R:ZbS roll) {bs:List Int} (hb:bs.length = 8) {most:Nat} (hm:most <= 60) {ps pn b:Nat} {M:Store} (N:ZfP roll (Zby roll most ⟨0,bs,[]⟩) pn b M) (hps:M[ps]? = some (.lst ((Zby roll most ⟨0,bs,[]⟩).map Ze))):Rt ((Zy (ZaF 6 (Zt Zh4 (Za (Zb 1) (Za (Zb 2) (Za (Zb 3) (Zg)))))) (Zy (sIf (e1 Zbp (Zt ZaC (Za (Zb 6) (Za (Zb 4) (Zg))))) (Zau (eC (.bl false))) (Zab)) (Zy (ZaJ (ZaR tyL ZaD (Zb 6) (Za (e2 Zf (Zb 6) (eC (.int 0))) (Zg)))) (Zy (sIf (e1 Zbp (Zt ZaC (Za (Zt Zh4 (Za (Zb 1) (Za (Zb 2) (Za (Zb 3) (Zg))))) (Za (Zb 4) (Zg))))) (Zau (eC (.bl false))) (Zab)) (Zy (sIf (e1 Zbp (Zt Zbn (Za (Zb 1) (Za (Zb 2) (Za (Zb 4) (Zg)))))) (Zau (eC (.bl false))) (Zab)) (Zy (ZaF 7 (e2 Zao (eC (.int 1)) (e2 ZaB (Zt Zad (Za (Zb 0) (Za (eC (.int 3)) (Zg)))) (Zax Za2 (Za (Zb 4) (Zg)))))) (Zau (Zcq (Zt Zbj (Za (Zb 1) (Za (Zb 4) (Za (Zb 5) (Zg))))) (Zt Zbj (Za (Zb 1) (Za (eSl (Zb 4) (ZaY) (ZaP (Zb 7))) (Za (Zb 5) (Zg))))))))))))) [some (.scr (ns.map D.int)),some (Zo roll),some (Zu bs),some (.int (most:Int)),some (.ref ps),some (.ref pn),none,none] M) (.bl true):=by
 have pos:0 < roll.length:=by obtain ⟨q,x,e,_⟩:=R.last; rw [e]; simp
 have g0:Good roll ⟨0,bs,[]⟩:=⟨pos,hb,by simp [Zeb]⟩;have dr:=ZgE R most ⟨0,bs,[]⟩ 0 g0 (Yag _);have ln:=ZhR roll most ⟨0,bs,[]⟩;have ne:=ZmB roll most ⟨0,bs,[]⟩;have rn:=fun S=>ZrY roll R bs most S (lA 1 0x7d13b003c2b001 T1 hm) hb;have one:=fun {S:Store} (h:S[ps]? = some (.lst ((Zby roll most ⟨0,bs,[]⟩).map Ze)))=>Zsg R hb hm h;generalize Zby roll most ⟨0,bs,[]⟩ = ss at *;have hg:∀ s ∈ ss,s.ok roll:=fun s h=>by obtain ⟨i,hi⟩:=Ycc h; exact (dr i s hi).ok
 have pl:∀ d ∈ ss.map Ze,ZbU 5 d = true:=fun d hd=>by
  obtain ⟨s,hs,rfl⟩:=Yan.mp hd;obtain ⟨i,hi⟩:=Ycc hs;have D1:=dr i s hi;have li:=(Yb.mp hi).1;exact Zg2 s (by rw [D1.ok.2]; decide) (by have:=D1.len; exact lD 4 0x3e83b003c2b301a3c20121111ec001 T1 this li ln hm) 2
 have hz:(ss.map Ze).length <= 10000:=by rw [Yk]; exact lB 2 0x27104b003c2b101a1c001 T1 ln hm
 have lp:=Yiu.mpr ne;obtain ⟨s0,e0⟩:∃ s0,ss[0]? = some s0:=⟨ss[0],by simp [lp]⟩;have h1:(M ++ [MO.lst (ss.map Ze)])[ps]? = some (.lst (ss.map Ze)):=ZaI hps _;have f1:(M ++ [MO.lst (ss.map Ze)])[M.length]? = some (.lst (ss.map Ze)):=Zaa ..;refine Rt.set (Zb2 rfl rfl rfl (rn M)) (Rt.skip (Zd5 (Zbd rfl rfl (Zfl 5 _ _ _ _ f1 h1 pl hz)) rfl) ?_);have i0:Zbc (ss.map Ze) 0 = some (Ze s0):=(ZaG _ 0).trans (by rw [Yp,e0]; rfl);have ap:=ZfZ (o:=Zb 6) (t:=(e2 Zf (Zb 6) (eC (.int 0)))) (env:=[some (.scr (ns.map D.int)),some (Zo roll),some (Zu bs),some (.int (most:Int)),some (.ref ps),some (.ref pn),some (.ref M.length),none]) rfl f1 (Zk rfl rfl (ZbX f1 i0)) f1 (Ybs hz (by decide));rw [show (M ++ [MO.lst (ss.map Ze)]).set M.length (.lst (ss.map Ze ++ [Ze s0])) = M ++ [.lst (ss.map Ze ++ [Ze s0])] from ZbV M _ 0 _] at ap;refine Rt.step ap ?_;obtain ⟨S,hS⟩:∃ S,M ++ [MO.lst (ss.map Ze ++ [Ze s0])] = S:=⟨_,rfl⟩;have pS:S[ps]? = some (.lst (ss.map Ze)):=by rw [← hS]; exact ZaI hps _
 have nS:ZfP roll ss pn b S:=by rw [← hS]; exact N.old _
 rw [hS];have h2:(S ++ [MO.lst (ss.map Ze)])[ps]? = some (.lst (ss.map Ze)):=ZaI pS _;have f2:(S ++ [MO.lst (ss.map Ze)])[S.length]? = some (.lst (ss.map Ze)):=Zaa ..;refine Rt.skip (Zd5 (Zbd (Zb2 rfl rfl rfl (rn S)) rfl (Zfl 5 _ _ _ _ f2 h2 pl hz)) rfl) ?_;refine Rt.skip (Zd5 (Zb2 rfl rfl rfl (one h2)) rfl) ?_;obtain ⟨k,hk,lk⟩:=ZcN (ZdS ns 3) ss.length lp;have at7:(e2 Zao (eC (.int 1)) (e2 ZaB (Zt Zad (Za (Zb 0) (Za (eC (.int 3)) (Zg)))) (Zax Za2 (Za (Zb 4) (Zg))))) [some (.scr (ns.map D.int)),some (Zo roll),some (Zu bs),some (.int (most:Int)),some (.ref ps),some (.ref pn),some (.ref M.length),none] (S ++ [.lst (ss.map Ze)]) = .ok (.int ((k + 1:Nat):Int)) (S ++ [.lst (ss.map Ze)]):=by
  refine Zk rfl (Zk (Zbd rfl rfl (cell_eq ns 3 (by decide) _)) (ZbH rfl (ZeJ h2)) (Zbh (by rw [Yk]; exact iN [_,_] [] 1 417927185 T1 lk))) ?_;rw [Yk,hk];show R3.ok (D.int (1 + (k:Int))) _ = _;rw [show 1 + (k:Int) = ((k + 1:Nat):Int) by exact Ycg (iN [_] [] 0 43159423688 T1) (iN [_] [] 0 2328497288 T1)]
 refine Rt.set at7 ?_;have n2:=nS.old [MO.lst (ss.map Ze)];generalize S ++ [MO.lst (ss.map Ze)] = S2 at *;have tk:ss.take ss.length = ss:=Ydy;have t1:=Zia R hg (lB 2 0x3e83b003c2b101a1c001 T1 ln hm) (m:=ss.length) lp (Yi _) n2 (by rw [tk]; exact h2);have c:cutD (ss.map Ze) none (some ((k + 1:Nat):Int)) = (ss.take (k + 1)).map Ze:=(ZhY _ _).trans (Ygo ..).symm;have sl:=ZlF (f:=Zb 4) (lo:=ZaY) (hi:=ZaP (Zb 7)) (env:=[some (.scr (ns.map D.int)),some (Zo roll),some (Zu bs),some (.int (most:Int)),some (.ref ps),some (.ref pn),some (.ref M.length),some (.int ((k + 1:Nat):Int))]) rfl h2 rfl rfl;rw [c] at sl;exact Rt.ret ((Zdb (M1:=S2) (Zb2 rfl rfl rfl t1)).trans (Zb2 rfl sl rfl (Zia R hg (by exact lB 2 0x3e83b003c2b101a1c001 T1 ln hm) (m:=k + 1) (by exact Yee _ _) (by exact lB 1 6991908881 T1 lk) (n2.old _) (Zaa ..))))
theorem law_holds:∀ ns:List Int,ns.length <= 63 -> ∃ M',ZmE [.scr (ns.map D.int)] [] = .ok (.bl true) M':=by
 intro ns hns;refine Rt.law (env:=[some (.scr (ns.map D.int)),none,none,none,none,none,none,none]) ?_;unfold ZoS;have c:cutD (ns.map D.int) none (some 60) = (ns.take 60).map D.int:=(ZhY (ns.map D.int) 60).trans (Ygo ..).symm;obtain ⟨roll,lr,⟨R,hs⟩,hr⟩:=ZpQ (ns.take 60) 0 [.lst ((ns.take 60).map D.int)] rfl (by rw [Yay]; exact lA 1 0x3f2b003c2b001 T1 (Yed _ _));have s1:(eSl (Zb 0) (ZaY) (ZaP (eC (.int 60)))) [some (.scr (ns.map D.int)),none,none,none,none,none,none,none] [] = .ok (.ref 0) [.lst ((ns.take 60).map D.int)]:=by
  simp only [eSl,Zb,Y1,R3.bind,ZaY,ZaP,eC,Zgt,c,alloc,Yc2,Ybq]
 have lr':roll.length <= 61:=by rw [lr,Yay]; exact lA 1 0x3d2ba0c03c2b001 T1 (Yed _ _)
 refine Rt.set (Zeh s1 hr) ?_;obtain ⟨M,hM⟩:∃ M,[MO.lst ((ns.take 60).map D.int)] = M:=⟨_,rfl⟩;rw [hM];have c4:∀ S,(Zt Zad (Za (Zb 0) (Za (eC (.int 4)) (Zg)))) [some (.scr (ns.map D.int)),some (Zo roll),none,none,none,none,none,none] S = .ok (.int (ZdS ns 4)) S:=fun S=>Zbd rfl rfl (cell_eq ns 4 (by decide) S);have st2:∃ roll2:Zba,ZbS roll2 /\ (∀ r ∈ roll2,Zcx r) /\ roll2.length <= 1000 /\ (sIf (e2 ZaH (e2 ZaB (Zt Zad (Za (Zb 0) (Za (eC (.int 4)) (Zg)))) (eC (.int 4))) (eC (.int 1))) (ZaF 1 (Zt ZdO (Za (Zb 1) (Za (e2 ZaB (e2 Za7 (Zt Zad (Za (Zb 0) (Za (eC (.int 4)) (Zg)))) (eC (.int 4))) (eC (.int 331))) (Zg))))) (Zab)) [some (.scr (ns.map D.int)),some (Zo roll),none,none,none,none,none,none] M = .nx [some (.scr (ns.map D.int)),some (Zo roll2),none,none,none,none,none,none] M:=by
  by_cases h:ZdS ns 4 % 4 = 1
  ·obtain ⟨many,hm,lm⟩:=ZcN (ZdS ns 4 / 4) 331 (by decide)
   have hm':ZdS ns 4 / 4 % 331 = (many:Int):=hm;obtain ⟨R2,s2⟩:=ZsP R hs (many:=many) (lA 1 0x3e83b0014b3b011 T1 lm);refine ⟨_,R2,s2,by rw [Zms]; exact lB 2 0x3e83b1a0cc03d2b10114b3b011 T1 lm lr',(ZbN (Zk (Zk (c4 M) rfl (Zbh (by decide))) rfl (Zp1 h))).trans (Zaf (Zbd rfl (Zk (Zk (c4 M) rfl (ZcY (by decide))) rfl ((Zbh (by decide)).trans (by rw [hm']))) (Zrv roll (lA 1 0x3e83b003d2b001 T1 lr') many (lA 1 0x1903b0114b3b011 T1 lm) M)))⟩
  ·exact ⟨roll,R,hs,lA 1 0x3e83b003d2b001 T1 lr',Zak (Zk (Zk (c4 M) rfl (Zbh (by decide))) rfl (Zrk h))⟩
 obtain ⟨roll2,R2,s2,l2,st2⟩:=st2;refine Rt.step st2 ?_;obtain ⟨bs,hb,G,hbs⟩:=Zpc ns (some (Zo roll2)) M;refine Rt.set hbs ?_;generalize M ++ G = A;obtain ⟨most,hm,lm⟩:=ZcN (ZdS ns 1) 61 (by decide);have hm':ZdS ns 1 % 61 = (most:Int):=hm;refine Rt.set (Zk (Zbd rfl rfl (cell_eq ns 1 (by decide) A)) rfl ((Zbh (by decide)).trans (by rw [hm']))) ?_;obtain ⟨bs',t',hw⟩:=ZmQ roll2 R2 bs most A (lA 1 0x3c2b003d2b011 T1 lm) hb;obtain ⟨W,hW⟩:∃ W,Zb4 A roll2 bs' t' (Zby roll2 most ⟨0,bs,[]⟩) (Zby roll2 most ⟨0,bs,[]⟩).dropLast = W:=⟨_,rfl⟩;have wS:W[A.length + 2]? = some (.lst ((Zby roll2 most ⟨0,bs,[]⟩).map Ze)):=by rw [← hW]; exact Za5 _ _ 2
 have wN:ZfP roll2 (Zby roll2 most ⟨0,bs,[]⟩) (A.length + 3) (A.length + 4) W:=by
  refine ⟨?_,fun i s h1 h2=>?_⟩
  ·rw [← hW,show (Zby roll2 most ⟨0,bs,[]⟩).length - 1 = (Zby roll2 most ⟨0,bs,[]⟩).dropLast.length by rw [List.length_dropLast]]
   exact Za5 _ _ 3
  ·rw [← hW,show A.length + 4 + i = A.length + (i + 4) by exact Yh (lB 0 0x41b1c0c141b0cc0 T1) (lB 0 90547858846105792 T1),Za5]
   simp only [Yy];rw [Zf4,Yp,List.getElem?_dropLast,if_pos (by exact lC 2 0x201a2c1011a0c11 T1 h1 (sbA _ _)),h2]; rfl
 rw [hW] at hw;have asg:(Zlc (Zt ZbP (Za (Zb 1) (Za (Zb 2) (Za (Zb 3) (Zg))))) [4,5]) [some (.scr (ns.map D.int)),some (Zo roll2),some (Zu bs),some (.int (most:Int)),none,none,none,none] A = .nx (lE ns roll2 bs most A) (W ++ [.lst [.ref (A.length + 2),.ref (A.length + 3)]]):=by
  have e:(Zt ZbP (Za (Zb 1) (Za (Zb 2) (Za (Zb 3) (Zg))))) [some (.scr (ns.map D.int)),some (Zo roll2),some (Zu bs),some (.int (most:Int)),none,none,none,none] A = _:=Zb2 rfl rfl rfl hw;unfold Zlc;rw [e];simp only [Zaa,bindAll,List.set]
 refine Rt.step asg ?_;have vS:=ZaI wS [MO.lst [.ref (A.length + 2),.ref (A.length + 3)]];have vN:=wN.old [MO.lst [.ref (A.length + 2),.ref (A.length + 3)]];generalize W ++ [MO.lst [.ref (A.length + 2),.ref (A.length + 3)]] = V at *;have tx:(Zt Zbo (Za (Zb 1) (Zg))) (lE ns roll2 bs most A) V = .ok (.str (ZiS roll2)) V:=Zeh rfl (Zqy R2 s2 l2 V);have zt:=(ZgA (Zhy R2 s2 l2).base).2.2;have le:(Zax Za2 (Za (Zt Zbo (Za (Zb 1) (Zg))) (Zg))) (lE ns roll2 bs most A) V = .ok (.int (ZiS roll2).length) V:=ZbH tx (by
  have:(ZiS roll2).length <= SZ:=Yj (Yam _ 2) zt;simp only [Za2,if_pos this])
 have c2:(e2 ZaB (Zt Zad (Za (Zb 0) (Za (eC (.int 2)) (Zg)))) (eC (.int 2))) (lE ns roll2 bs most A) V = .ok (.int (ZdS ns 2 % 2)) V:=Zk (Zbd rfl rfl (cell_eq ns 2 (by decide) V)) rfl (Zbh (by decide));have st6:(sIf (Zcq (e2 ZaH (e2 ZaB (Zt Zad (Za (Zb 0) (Za (eC (.int 2)) (Zg)))) (eC (.int 2))) (eC (.int 1))) (e2 ZgW (Zax Za2 (Za (Zt Zbo (Za (Zb 1) (Zg))) (Zg))) (eC (.int 4000)))) (ZaF 1 (Zt ZcI (Za (Zt Zbo (Za (Zb 1) (Zg))) (Zg)))) (Zab)) (lE ns roll2 bs most A) V = .nx (lE ns roll2 bs most A) V:=by
  by_cases h:ZdS ns 2 % 2 = 1
  ·by_cases h4:((ZiS roll2).length:Int) <= 4000
   ·exact (ZbN ((Zdb (M1:=V) (Zk c2 rfl (Zp1 h))).trans (Zk le rfl (Zuf h4)))).trans (Zaf (Zeh tx (Zni R2 s2 l2 V)))
   ·exact Zak ((Zdb (M1:=V) (Zk c2 rfl (Zp1 h))).trans (Zk le rfl (ZtF h4)))
  ·exact Zak (ZfL (M1:=V) (Zk c2 rfl (Zrk h)))
 exact Rt.step st6 (Zo8 R2 hb (lA 1 0x3c2b003d2b011 T1 lm) vN vS)
end Law
set_option maxHeartbeats 400000
namespace Law
open PySem PySem.Spec PyProof.Rows L2 L3
theorem uZ {P:List Value -> Prop} (h:P []):∀ us:List Value,us.length = 0 -> P us:=fun us e=>(Yc9 e) ▸ h
theorem uS {P:List Value -> Prop} {n:Nat} (h:∀ a us,us.length = n -> P (a :: us)) (us:List Value) (e:us.length = n + 1):P us:=by
 cases us with
 | nil=>exact absurd e (Nat.succ_ne_zero n).symm
 | cons a us=>exact h a us (Yjd e)
theorem ub1 {P:List Value -> Prop} {xa:Str} (h:∀ a,P [a]):∀ us:List Value,us.length = [xa].length -> P us:=uS fun a=>uZ (h a)
theorem ub2 {P:List Value -> Prop} {xa xb:Str} (h:∀ a b,P [a,b]):∀ us:List Value,us.length = [xa,xb].length -> P us:=uS fun a=>uS fun b=>uZ (h a b)
theorem ub3 {P:List Value -> Prop} {xa xb xc:Str} (h:∀ a b c,P [a,b,c]):∀ us:List Value,us.length = [xa,xb,xc].length -> P us:=uS fun a=>uS fun b=>uS fun c=>uZ (h a b c)
theorem ub4 {P:List Value -> Prop} {xa xb xc xd:Str} (h:∀ a b c d,P [a,b,c,d]):∀ us:List Value,us.length = [xa,xb,xc,xd].length -> P us:=uS fun a=>uS fun b=>uS fun c=>uS fun d=>uZ (h a b c d)
theorem Zr4 {l:PySem.W.OpenLaw} {w:World} {K:W.Frag} {h:Heap} {mg:Str -> Option Value} {fa f0 f1 f2 f3 f4 f5 f6 f7 f8 f9 f10 f11 f12 f13 f14 f15 f16 f17 f18 f19 f20 f21 f22 f23 f24 f25 f26 f27 f28 f29:Addr} (X:K.In h) (G:h.Ns Yn mg) (hfa:mg "law" = some (.ref fa))
  {od0 an0 od1 an1 od2 an2 od3 an3 od4 an4 od5 an5 od6 an6 od7 an7 od8 an8 od9 an9 od10 an10 od11 an11 od12 an12 od13 an13 od14 an14 od15 an15 od16 an16 od17 an17 od18 an18 od19 an19 od20 an20 od21 an21 od22 an22 od23 an23 od24 an24 od25 an25 od26 an26 od27 an27 od28 an28 od29 an29:Option Addr} {sl0 sl1 sl2 sl3 sl4 sl5 sl6 sl7 sl8 sl9 sl10 sl11 sl12 sl13 sl14 sl15 sl16 sl17 sl18 sl19 sl20 sl21 sl22 sl23 sl24 sl25 sl26 sl27 sl28 sl29:Array (Option Value)} {oc0 kV0 dc0 pm0 cd0 ct0 oc1 kV1 dc1 pm1 cd1 ct1 oc2 kV2 dc2 pm2 cd2 ct2 oc3 kV3 dc3 pm3 cd3 ct3 oc4 kV4 dc4 pm4 cd4 ct4 oc5 kV5 dc5 pm5 cd5 ct5 oc6 kV6 dc6 pm6 cd6 ct6 oc7 kV7 dc7 pm7 cd7 ct7 oc8 kV8 dc8 pm8 cd8 ct8 oc9 kV9 dc9 pm9 cd9 ct9 oc10 kV10 dc10 pm10 cd10 ct10 oc11 kV11 dc11 pm11 cd11 ct11 oc12 kV12 dc12 pm12 cd12 ct12 oc13 kV13 dc13 pm13 cd13 ct13 oc14 kV14 dc14 pm14 cd14 ct14 oc15 kV15 dc15 pm15 cd15 ct15 oc16 kV16 dc16 pm16 cd16 ct16 oc17 kV17 dc17 pm17 cd17 ct17 oc18 kV18 dc18 pm18 cd18 ct18 oc19 kV19 dc19 pm19 cd19 ct19 oc20 kV20 dc20 pm20 cd20 ct20 oc21 kV21 dc21 pm21 cd21 ct21 oc22 kV22 dc22 pm22 cd22 ct22 oc23 kV23 dc23 pm23 cd23 ct23 oc24 kV24 dc24 pm24 cd24 ct24 oc25 kV25 dc25 pm25 cd25 ct25 oc26 kV26 dc26 pm26 cd26 ct26 oc27 kV27 dc27 pm27 cd27 ct27 oc28 kV28 dc28 pm28 cd28 ct28 oc29 kV29 dc29 pm29 cd29 ct29:Value} {t_BOXES t_FIGURES t_MOST_FIGURES:Tok} {t10:Addr} {ot10:Value} {otd10:Option Addr} {nt10:Nat} {osl10:Array (Option Value)} {tk10_0:Tok} {a_FORMS:Addr}
  (a0:Yba K Yn "first_state" = some (some (.ref f0))) (l0:K.lookup f0 = some ⟨oc0,od0,.func (Yci "first_state" "first_state" (Zav ZbQ) (Zar ZbQ) (Zn ZbQ) .none kV0 dc0 pm0 an0 cd0 ct0),sl0⟩) (c0:Ya1 K cd0 "first_state" = true) (k0:Ya2 K (.ref f0) = true)
  (a1:Yba K Yn "next_place" = some (some (.ref f1))) (l1:K.lookup f1 = some ⟨oc1,od1,.func (Yci "next_place" "next_place" (Zav Zcg) (Zar Zcg) (Zn Zcg) .none kV1 dc1 pm1 an1 cd1 ct1),sl1⟩) (c1:Ya1 K cd1 "next_place" = true) (k1:Ya2 K (.ref f1) = true)
  (a2:Yba K Yn "worked" = some (some (.ref f2))) (l2:K.lookup f2 = some ⟨oc2,od2,.func (Yci "worked" "worked" (Zav Zek) (Zar Zek) (Zn Zek) .none kV2 dc2 pm2 an2 cd2 ct2),sl2⟩) (c2:Ya1 K cd2 "worked" = true) (k2:Ya2 K (.ref f2) = true)
  (a3:Yba K Yn "with_box" = some (some (.ref f3))) (l3:K.lookup f3 = some ⟨oc3,od3,.func (Yci "with_box" "with_box" (Zav Zdd) (Zar Zdd) (Zn Zdd) .none kV3 dc3 pm3 an3 cd3 ct3),sl3⟩) (c3:Ya1 K cd3 "with_box" = true) (k3:Ya2 K (.ref f3) = true)
  (a4:Yba K Yn "cell_value" = some (some (.ref f4))) (l4:K.lookup f4 = some ⟨oc4,od4,.func (Yci "cell_value" "cell_value" (Zav Zcc) (Zar Zcc) (Zn Zcc) .none kV4 dc4 pm4 an4 cd4 ct4),sl4⟩) (c4:Ya1 K cd4 "cell_value" = true) (k4:Ya2 K (.ref f4) = true)
  (a5:Yba K Yn "next_boxes" = some (some (.ref f5))) (l5:K.lookup f5 = some ⟨oc5,od5,.func (Yci "next_boxes" "next_boxes" (Zav Zck) (Zar Zck) (Zn Zck) .none kV5 dc5 pm5 an5 cd5 ct5),sl5⟩) (c5:Ya1 K cd5 "next_boxes" = true) (k5:Ya2 K (.ref f5) = true)
  (a6:Yba K Yn "with_cell" = some (some (.ref f6))) (l6:K.lookup f6 = some ⟨oc6,od6,.func (Yci "with_cell" "with_cell" (Zav ZcB) (Zar ZcB) (Zn ZcB) .none kV6 dc6 pm6 an6 cd6 ct6),sl6⟩) (c6:Ya1 K cd6 "with_cell" = true) (k6:Ya2 K (.ref f6) = true)
  (a7:Yba K Yn "next_cells" = some (some (.ref f7))) (l7:K.lookup f7 = some ⟨oc7,od7,.func (Yci "next_cells" "next_cells" (Zav Zci) (Zar Zci) (Zn Zci) .none kV7 dc7 pm7 an7 cd7 ct7),sl7⟩) (c7:Ya1 K cd7 "next_cells" = true) (k7:Ya2 K (.ref f7) = true)
  (a8:Yba K Yn "next_state" = some (some (.ref f8))) (l8:K.lookup f8 = some ⟨oc8,od8,.func (Yci "next_state" "next_state" (Zav Zca) (Zar Zca) (Zn Zca) .none kV8 dc8 pm8 an8 cd8 ct8),sl8⟩) (c8:Ya1 K cd8 "next_state" = true) (k8:Ya2 K (.ref f8) = true)
  (a9:Yba K Yn "ended" = some (some (.ref f9))) (l9:K.lookup f9 = some ⟨oc9,od9,.func (Yci "ended" "ended" (Zav Zfo) (Zar Zfo) (Zn Zfo) .none kV9 dc9 pm9 an9 cd9 ct9),sl9⟩) (c9:Ya1 K cd9 "ended" = true) (k9:Ya2 K (.ref f9) = true)
  (a10:Yba K Yn "run" = some (some (.ref f10))) (l10:K.lookup f10 = some ⟨oc10,od10,.func (Yci "run" "run" (Zav Zi3) (Zar Zi3) (Zn Zi3) (.ref t10) kV10 dc10 pm10 an10 cd10 ct10),sl10⟩) (c10:Ya1 K cd10 "run" = true) (k10:Ya2 K (.ref f10) = true)
  (d10:K.lookup t10 = some ⟨ot10,otd10,.seq #[.int 400 tk10_0] nt10,osl10⟩)
  (a11:Yba K Yn "told" = some (some (.ref f11))) (l11:K.lookup f11 = some ⟨oc11,od11,.func (Yci "told" "told" (Zav ZgX) (Zar ZgX) (Zn ZgX) .none kV11 dc11 pm11 an11 cd11 ct11),sl11⟩) (c11:Ya1 K cd11 "told" = true) (k11:Ya2 K (.ref f11) = true)
  (a12:Yba K Yn "is_number" = some (some (.ref f12))) (l12:K.lookup f12 = some ⟨oc12,od12,.func (Yci "is_number" "is_number" (Zav ZcC) (Zar ZcC) (Zn ZcC) .none kV12 dc12 pm12 an12 cd12 ct12),sl12⟩) (c12:Ya1 K cd12 "is_number" = true) (k12:Ya2 K (.ref f12) = true)
  (a13:Yba K Yn "is_within" = some (some (.ref f13))) (l13:K.lookup f13 = some ⟨oc13,od13,.func (Yci "is_within" "is_within" (Zav ZcG) (Zar ZcG) (Zn ZcG) .none kV13 dc13 pm13 an13 cd13 ct13),sl13⟩) (c13:Ya1 K cd13 "is_within" = true) (k13:Ya2 K (.ref f13) = true)
  (a14:Yba K Yn "read_row" = some (some (.ref f14))) (l14:K.lookup f14 = some ⟨oc14,od14,.func (Yci "read_row" "read_row" (Zav Zc9) (Zar Zc9) (Zn Zc9) .none kV14 dc14 pm14 an14 cd14 ct14),sl14⟩) (c14:Ya1 K cd14 "read_row" = true) (k14:Ya2 K (.ref f14) = true)
  (a15:Yba K Yn "refuse_no_roll" = some (some (.ref f15))) (l15:K.lookup f15 = some ⟨oc15,od15,.func (Yci "refuse_no_roll" "refuse_no_roll" (Zav Zbg) (Zar Zbg) (Zn Zbg) .none kV15 dc15 pm15 an15 cd15 ct15),sl15⟩) (c15:Ya1 K cd15 "refuse_no_roll" = true) (k15:Ya2 K (.ref f15) = true)
  (a16:Yba K Yn "read_roll" = some (some (.ref f16))) (l16:K.lookup f16 = some ⟨oc16,od16,.func (Yci "read_roll" "read_roll" (Zav Zcy) (Zar Zcy) (Zn Zcy) .none kV16 dc16 pm16 an16 cd16 ct16),sl16⟩) (c16:Ya1 K cd16 "read_roll" = true) (k16:Ya2 K (.ref f16) = true)
  (a17:Yba K Yn "_law_cell_at" = some (some (.ref f17))) (l17:K.lookup f17 = some ⟨oc17,od17,.func (Yci "_law_cell_at" "_law_cell_at" (Zav Zbz) (Zar Zbz) (Zn Zbz) .none kV17 dc17 pm17 an17 cd17 ct17),sl17⟩) (c17:Ya1 K cd17 "_law_cell_at" = true) (k17:Ya2 K (.ref f17) = true)
  (a18:Yba K Yn "_law_number" = some (some (.ref f18))) (l18:K.lookup f18 = some ⟨oc18,od18,.func (Yci "_law_number" "_law_number" (Zav ZbR) (Zar ZbR) (Zn ZbR) .none kV18 dc18 pm18 an18 cd18 ct18),sl18⟩) (c18:Ya1 K cd18 "_law_number" = true) (k18:Ya2 K (.ref f18) = true)
  (a19:Yba K Yn "_law_row" = some (some (.ref f19))) (l19:K.lookup f19 = some ⟨oc19,od19,.func (Yci "_law_row" "_law_row" (Zav Zda) (Zar Zda) (Zn Zda) .none kV19 dc19 pm19 an19 cd19 ct19),sl19⟩) (c19:Ya1 K cd19 "_law_row" = true) (k19:Ya2 K (.ref f19) = true)
  (a20:Yba K Yn "_law_roll" = some (some (.ref f20))) (l20:K.lookup f20 = some ⟨oc20,od20,.func (Yci "_law_roll" "_law_roll" (Zav ZcE) (Zar ZcE) (Zn ZcE) .none kV20 dc20 pm20 an20 cd20 ct20),sl20⟩) (c20:Ya1 K cd20 "_law_roll" = true) (k20:Ya2 K (.ref f20) = true)
  (a21:Yba K Yn "_law_far" = some (some (.ref f21))) (l21:K.lookup f21 = some ⟨oc21,od21,.func (Yci "_law_far" "_law_far" (Zav Zc7) (Zar Zc7) (Zn Zc7) .none kV21 dc21 pm21 an21 cd21 ct21),sl21⟩) (c21:Ya1 K cd21 "_law_far" = true) (k21:Ya2 K (.ref f21) = true)
  (a22:Yba K Yn "_law_text" = some (some (.ref f22))) (l22:K.lookup f22 = some ⟨oc22,od22,.func (Yci "_law_text" "_law_text" (Zav ZcF) (Zar ZcF) (Zn ZcF) .none kV22 dc22 pm22 an22 cd22 ct22),sl22⟩) (c22:Ya1 K cd22 "_law_text" = true) (k22:Ya2 K (.ref f22) = true)
  (a23:Yba K Yn "_law_step" = some (some (.ref f23))) (l23:K.lookup f23 = some ⟨oc23,od23,.func (Yci "_law_step" "_law_step" (Zav ZcA) (Zar ZcA) (Zn ZcA) .none kV23 dc23 pm23 an23 cd23 ct23),sl23⟩) (c23:Ya1 K cd23 "_law_step" = true) (k23:Ya2 K (.ref f23) = true)
  (a24:Yba K Yn "_law_state" = some (some (.ref f24))) (l24:K.lookup f24 = some ⟨oc24,od24,.func (Yci "_law_state" "_law_state" (Zav Zcl) (Zar Zcl) (Zn Zcl) .none kV24 dc24 pm24 an24 cd24 ct24),sl24⟩) (c24:Ya1 K cd24 "_law_state" = true) (k24:Ya2 K (.ref f24) = true)
  (a25:Yba K Yn "_law_walked" = some (some (.ref f25))) (l25:K.lookup f25 = some ⟨oc25,od25,.func (Yci "_law_walked" "_law_walked" (Zav ZbO) (Zar ZbO) (Zn ZbO) .none kV25 dc25 pm25 an25 cd25 ct25),sl25⟩) (c25:Ya1 K cd25 "_law_walked" = true) (k25:Ya2 K (.ref f25) = true)
  (a26:Yba K Yn "_law_same" = some (some (.ref f26))) (l26:K.lookup f26 = some ⟨oc26,od26,.func (Yci "_law_same" "_law_same" (Zav ZcH) (Zar ZcH) (Zn ZcH) .none kV26 dc26 pm26 an26 cd26 ct26),sl26⟩) (c26:Ya1 K cd26 "_law_same" = true) (k26:Ya2 K (.ref f26) = true)
  (a27:Yba K Yn "_law_one_by_one" = some (some (.ref f27))) (l27:K.lookup f27 = some ⟨oc27,od27,.func (Yci "_law_one_by_one" "_law_one_by_one" (Zav Za8) (Zar Za8) (Zn Za8) .none kV27 dc27 pm27 an27 cd27 ct27),sl27⟩) (c27:Ya1 K cd27 "_law_one_by_one" = true) (k27:Ya2 K (.ref f27) = true)
  (a28:Yba K Yn "_law_told_of" = some (some (.ref f28))) (l28:K.lookup f28 = some ⟨oc28,od28,.func (Yci "_law_told_of" "_law_told_of" (Zav ZbA) (Zar ZbA) (Zn ZbA) .none kV28 dc28 pm28 an28 cd28 ct28),sl28⟩) (c28:Ya1 K cd28 "_law_told_of" = true) (k28:Ya2 K (.ref f28) = true)
  (a29:Yba K Yn "law" = some (some (.ref f29))) (l29:K.lookup f29 = some ⟨oc29,od29,.func (Yci "law" "law" (Zav Zf9) (Zar Zf9) (Zn Zf9) .none kV29 dc29 pm29 an29 cd29 ct29),sl29⟩) (c29:Ya1 K cd29 "law" = true) (k29:Ya2 K (.ref f29) = true)
  (z_all:Yba K Yn "all" = some none)
  (z_bool:Yba K Yn "bool" = some none)
  (z_dict:Yba K Yn "dict" = some none)
  (z_enumerate:Yba K Yn "enumerate" = some none)
  (z_int:Yba K Yn "int" = some none)
  (z_isinstance:Yba K Yn "isinstance" = some none)
  (z_len:Yba K Yn "len" = some none)
  (z_list:Yba K Yn "list" = some none)
  (z_range:Yba K Yn "range" = some none)
  (z_sorted:Yba K Yn "sorted" = some none)
  (z_str:Yba K Yn "str" = some none)
  (z_sum:Yba K Yn "sum" = some none)
  (z_tuple:Yba K Yn "tuple" = some none)
  (z_zip:Yba K Yn "zip" = some none)
  (g_BOXES:Yba K Yn "BOXES" = some (some (.int 8 t_BOXES)))
  (g_FIGURES:Yba K Yn "FIGURES" = some (some (.str "0123456789" t_FIGURES)))
  (g_FORMS:Yba K Yn "FORMS" = some (some (.ref a_FORMS))) (r_tab_FORMS:Zkm K a_FORMS Za3)
  (g_MOST_FIGURES:Yba K Yn "MOST_FIGURES" = some (some (.int 60 t_MOST_FIGURES))):
  ∃ fd:FuncData,(∀ (s:Yg) (v:Value),Yjg s fd ⟨[v],[]⟩ [("script",v)]) /\ ∀ base:Heap,K.In base -> base.Ns Yn mg -> Zf1 l.prog w K mg base CX0 10 fa fd ["script"] (sp3 K 1 ZmE):=by
 have e:=hfa.symm.trans (Yjp X G a29);cases e;have T:Txt K mg:=⟨trivial,Ybn X G z_all,Ybn X G z_bool,Ybn X G z_dict,Ybn X G z_enumerate,Ybn X G z_int,Ybn X G z_isinstance,Ybn X G z_len,Ybn X G z_list,Ybn X G z_range,Ybn X G z_sorted,Ybn X G z_str,Ybn X G z_sum,Ybn X G z_tuple,Ybn X G z_zip,⟨_,Yjp X G g_BOXES⟩,⟨_,Yjp X G g_FIGURES⟩,⟨_,Yjp X G g_FORMS,r_tab_FORMS⟩,⟨_,Yjp X G g_MOST_FIGURES⟩⟩;have D_first_state:Zay K mg "first_state" ZbQ ["boxes"]:=ZaA X G a0 l0 c0 k0 (Binds.all (ub1 fun _=>rfl));have D_next_place:Zay K mg "next_place" Zcg ["row","place","boxes"]:=ZaA X G a1 l1 c1 k1 (Binds.all (ub3 fun _ _ _=>rfl));have D_worked:Zay K mg "worked" Zek ["name","one","other"]:=ZaA X G a2 l2 c2 k2 (Binds.all (ub3 fun _ _ _=>rfl));have D_with_box:Zay K mg "with_box" Zdd ["boxes","box","value"]:=ZaA X G a3 l3 c3 k3 (Binds.all (ub3 fun _ _ _=>rfl));have D_cell_value:Zay K mg "cell_value" Zcc ["cells","number"]:=ZaA X G a4 l4 c4 k4 (Binds.all (ub2 fun _ _=>rfl));have D_next_boxes:Zay K mg "next_boxes" Zck ["row","boxes","cells"]:=ZaA X G a5 l5 c5 k5 (Binds.all (ub3 fun _ _ _=>rfl));have D_with_cell:Zay K mg "with_cell" ZcB ["cells","number","value"]:=ZaA X G a6 l6 c6 k6 (Binds.all (ub3 fun _ _ _=>rfl));have D_next_cells:Zay K mg "next_cells" Zci ["row","boxes","cells"]:=ZaA X G a7 l7 c7 k7 (Binds.all (ub3 fun _ _ _=>rfl));have D_next_state:Zay K mg "next_state" Zca ["roll","state"]:=ZaA X G a8 l8 c8 k8 (Binds.all (ub2 fun _ _=>rfl));have D_ended:Zay K mg "ended" Zfo ["roll","states"]:=ZaA X G a9 l9 c9 k9 (Binds.all (ub2 fun _ _=>rfl));have D_run:Zay K mg "run" Zi3 ["roll","boxes","most"]:=ZaA X G a10 l10 c10 k10 (fun s us hK hl=>by rw [Yaj] at hl ⊢; exact match us,hl with | [_,_,_],_=>BindsTo.of_defaults rfl (hK _ _ d10) rfl rfl rfl);have D_told:Zay K mg "told" ZgX ["roll","states"]:=ZaA X G a11 l11 c11 k11 (Binds.all (ub2 fun _ _=>rfl));have D_is_number:Zay K mg "is_number" ZcC ["word"]:=ZaA X G a12 l12 c12 k12 (Binds.all (ub1 fun _=>rfl));have D_is_within:Zay K mg "is_within" ZcG ["number","many"]:=ZaA X G a13 l13 c13 k13 (Binds.all (ub2 fun _ _=>rfl));have D_read_row:Zay K mg "read_row" Zc9 ["line"]:=ZaA X G a14 l14 c14 k14 (Binds.all (ub1 fun _=>rfl));have D_refuse_no_roll:Zay K mg "refuse_no_roll" Zbg ["rows"]:=ZaA X G a15 l15 c15 k15 (Binds.all (ub1 fun _=>rfl));have D_read_roll:Zay K mg "read_roll" Zcy ["text"]:=ZaA X G a16 l16 c16 k16 (Binds.all (ub1 fun _=>rfl));have D__law_cell_at:Zay K mg "_law_cell_at" Zbz ["script","k"]:=ZaA X G a17 l17 c17 k17 (Binds.all (ub2 fun _ _=>rfl));have D__law_number:Zay K mg "_law_number" ZbR ["cell"]:=ZaA X G a18 l18 c18 k18 (Binds.all (ub1 fun _=>rfl));have D__law_row:Zay K mg "_law_row" Zda ["cell","at","many"]:=ZaA X G a19 l19 c19 k19 (Binds.all (ub3 fun _ _ _=>rfl));have D__law_roll:Zay K mg "_law_roll" ZcE ["cells"]:=ZaA X G a20 l20 c20 k20 (Binds.all (ub1 fun _=>rfl));have D__law_far:Zay K mg "_law_far" Zc7 ["roll","many"]:=ZaA X G a21 l21 c21 k21 (Binds.all (ub2 fun _ _=>rfl))
 have D__law_text:Zay K mg "_law_text" ZcF ["roll"]:=ZaA X G a22 l22 c22 k22 (Binds.all (ub1 fun _=>rfl));have D__law_step:Zay K mg "_law_step" ZcA ["row","place","boxes","there"]:=ZaA X G a23 l23 c23 k23 (Binds.all (ub4 fun _ _ _ _=>rfl));have D__law_state:Zay K mg "_law_state" Zcl ["place","boxes","there"]:=ZaA X G a24 l24 c24 k24 (Binds.all (ub3 fun _ _ _=>rfl));have D__law_walked:Zay K mg "_law_walked" ZbO ["roll","boxes","bound"]:=ZaA X G a25 l25 c25 k25 (Binds.all (ub3 fun _ _ _=>rfl));have D__law_same:Zay K mg "_law_same" ZcH ["found","due"]:=ZaA X G a26 l26 c26 k26 (Binds.all (ub2 fun _ _=>rfl));have D__law_one_by_one:Zay K mg "_law_one_by_one" Za8 ["roll","boxes","states"]:=ZaA X G a27 l27 c27 k27 (Binds.all (ub3 fun _ _ _=>rfl));have D__law_told_of:Zay K mg "_law_told_of" ZbA ["roll","states","numbers"]:=ZaA X G a28 l28 c28 k28 (Binds.all (ub3 fun _ _ _=>rfl));refine ⟨Yci "law" "law" (Zav Zf9) (Zar Zf9) (Zn Zf9) .none kV29 dc29 pm29 an29 cd29 ct29,fun s v=>.of_eq rfl,fun base _ _=>?_⟩;have F_first_state:=ZhJ (P:=l.prog) (w:=w) (base:=base) D_first_state T;have F_next_place:=Ziy (P:=l.prog) (w:=w) (base:=base) D_next_place T;have F_worked:=ZnA (P:=l.prog) (w:=w) (base:=base) D_worked T;have F_with_box:=Zll (P:=l.prog) (w:=w) (base:=base) D_with_box T;have F_cell_value:=ZiA (P:=l.prog) (w:=w) (base:=base) D_cell_value T;have F_next_boxes:=Zim (P:=l.prog) (w:=w) (base:=base) D_next_boxes T F_worked F_with_box F_cell_value;have F_with_cell:=ZjK (P:=l.prog) (w:=w) (base:=base) D_with_cell T;have F_next_cells:=ZiC (P:=l.prog) (w:=w) (base:=base) D_next_cells T F_with_cell;have F_next_state:=Zin (P:=l.prog) (w:=w) (base:=base) D_next_state T F_next_place F_next_boxes F_next_cells;have F_ended:=ZoO (P:=l.prog) (w:=w) (base:=base) D_ended T;have F_run:=ZrM (P:=l.prog) (w:=w) (base:=base) D_run T F_first_state F_next_state F_ended;have F_told:=Zp9 (P:=l.prog) (w:=w) (base:=base) D_told T;have F_is_number:=Zjv (P:=l.prog) (w:=w) (base:=base) D_is_number T;have F_is_within:=ZjM (P:=l.prog) (w:=w) (base:=base) D_is_within T;have F_read_row:=ZkA (P:=l.prog) (w:=w) (base:=base) D_read_row T F_is_number F_is_within;have F_refuse_no_roll:=Zgd (P:=l.prog) (w:=w) (base:=base) D_refuse_no_roll T F_is_within;have F_read_roll:=ZjD (P:=l.prog) (w:=w) (base:=base) D_read_roll T F_read_row F_refuse_no_roll;have F__law_cell_at:=Zhi (P:=l.prog) (w:=w) (base:=base) D__law_cell_at T;have F__law_number:=ZhM (P:=l.prog) (w:=w) (base:=base) D__law_number T;have F__law_row:=Zk8 (P:=l.prog) (w:=w) (base:=base) D__law_row T F__law_number;have F__law_roll:=Zj0 (P:=l.prog) (w:=w) (base:=base) D__law_roll T F__law_row;have F__law_far:=Zlg (P:=l.prog) (w:=w) (base:=base) D__law_far T;have F__law_text:=Zjk (P:=l.prog) (w:=w) (base:=base) D__law_text T;have F__law_step:=Zj4 (P:=l.prog) (w:=w) (base:=base) D__law_step T;have F__law_state:=Zih (P:=l.prog) (w:=w) (base:=base) D__law_state T
 have F__law_walked:=ZhB (P:=l.prog) (w:=w) (base:=base) D__law_walked T F__law_step F__law_state;have F__law_same:=ZjS (P:=l.prog) (w:=w) (base:=base) D__law_same T;have F__law_one_by_one:=ZfV (P:=l.prog) (w:=w) (base:=base) D__law_one_by_one T F_first_state F_next_state F__law_same;have F__law_told_of:=Zhe (P:=l.prog) (w:=w) (base:=base) D__law_told_of T F_told F_ended F__law_same;exact Zro (Zn5 (st:=Zf9) l29 c29 k29) T F_run F_read_roll F__law_cell_at F__law_number F__law_roll F__law_far F__law_text F__law_walked F__law_same F__law_one_by_one F__law_told_of
end Law
open PySem PySem.W PyProof.Rows
set_option maxRecDepth 100000 in
set_option maxHeartbeats 0 in
theorem PySem.Challenge.cw_stepledger_k14_whole_run_walked_holds : PySem.Challenge.rw_stepledger_k14_whole_run_walked.Holds := by
 w_on; o_law; k_head; (case hw=>w_witness2)
 k_fill
 refine L3.Zug (l:=PySem.Challenge.rw_stepledger_k14_whole_run_walked) (k:=10) (F:=Law.ZmE) rfl rfl ⟨rfl,by decide,by decide⟩ (fun w h Y=>W.kIn_of Y) ?G Law.law_holds
 case G=>
  intro w mg fa h KX G hmg;refine' Law.Zr4 KX G hmg ?a0 ?l0 ?c0 ?k0 ?a1 ?l1 ?c1 ?k1 ?a2 ?l2 ?c2 ?k2 ?a3 ?l3 ?c3 ?k3 ?a4 ?l4 ?c4 ?k4 ?a5 ?l5 ?c5 ?k5 ?a6 ?l6 ?c6 ?k6 ?a7 ?l7 ?c7 ?k7 ?a8 ?l8 ?c8 ?k8 ?a9 ?l9 ?c9 ?k9 ?a10 ?l10 ?c10 ?k10 ?d10 ?a11 ?l11 ?c11 ?k11 ?a12 ?l12 ?c12 ?k12 ?a13 ?l13 ?c13 ?k13 ?a14 ?l14 ?c14 ?k14 ?a15 ?l15 ?c15 ?k15 ?a16 ?l16 ?c16 ?k16 ?a17 ?l17 ?c17 ?k17 ?a18 ?l18 ?c18 ?k18 ?a19 ?l19 ?c19 ?k19 ?a20 ?l20 ?c20 ?k20 ?a21 ?l21 ?c21 ?k21 ?a22 ?l22 ?c22 ?k22 ?a23 ?l23 ?c23 ?k23 ?a24 ?l24 ?c24 ?k24 ?a25 ?l25 ?c25 ?k25 ?a26 ?l26 ?c26 ?k26 ?a27 ?l27 ?c27 ?k27 ?a28 ?l28 ?c28 ?k28 ?a29 ?l29 ?c29 ?k29 ?z_all ?z_bool ?z_dict ?z_enumerate ?z_int ?z_isinstance ?z_len ?z_list ?z_range ?z_sorted ?z_str ?z_sum ?z_tuple ?z_zip ?g_BOXES ?g_FIGURES ?g_FORMS ?r_tab_FORMS ?g_MOST_FIGURES
  (case a0=>k_is)
  (case l0=>k_is)
  (case c0=>k_is)
  (case k0=>k_is)
  (case a1=>k_is)
  (case l1=>k_is)
  (case c1=>k_is)
  (case k1=>k_is)
  (case a2=>k_is)
  (case l2=>k_is)
  (case c2=>k_is)
  (case k2=>k_is)
  (case a3=>k_is)
  (case l3=>k_is)
  (case c3=>k_is)
  (case k3=>k_is)
  (case a4=>k_is)
  (case l4=>k_is)
  (case c4=>k_is)
  (case k4=>k_is)
  (case a5=>k_is)
  (case l5=>k_is)
  (case c5=>k_is)
  (case k5=>k_is)
  (case a6=>k_is)
  (case l6=>k_is)
  (case c6=>k_is)
  (case k6=>k_is)
  (case a7=>k_is)
  (case l7=>k_is)
  (case c7=>k_is)
  (case k7=>k_is)
  (case a8=>k_is)
  (case l8=>k_is)
  (case c8=>k_is)
  (case k8=>k_is)
  (case a9=>k_is)
  (case l9=>k_is)
  (case c9=>k_is)
  (case k9=>k_is)
  (case a10=>k_is)
  (case l10=>k_is)
  (case c10=>k_is)
  (case k10=>k_is)
  (case d10=>k_is)
  (case a11=>k_is)
  (case l11=>k_is)
  (case c11=>k_is)
  (case k11=>k_is)
  (case a12=>k_is)
  (case l12=>k_is)
  (case c12=>k_is)
  (case k12=>k_is)
  (case a13=>k_is)
  (case l13=>k_is)
  (case c13=>k_is)
  (case k13=>k_is)
  (case a14=>k_is)
  (case l14=>k_is)
  (case c14=>k_is)
  (case k14=>k_is)
  (case a15=>k_is)
  (case l15=>k_is)
  (case c15=>k_is)
  (case k15=>k_is)
  (case a16=>k_is)
  (case l16=>k_is)
  (case c16=>k_is)
  (case k16=>k_is)
  (case a17=>k_is)
  (case l17=>k_is)
  (case c17=>k_is)
  (case k17=>k_is)
  (case a18=>k_is)
  (case l18=>k_is)
  (case c18=>k_is)
  (case k18=>k_is)
  (case a19=>k_is)
  (case l19=>k_is)
  (case c19=>k_is)
  (case k19=>k_is)
  (case a20=>k_is)
  (case l20=>k_is)
  (case c20=>k_is)
  (case k20=>k_is)
  (case a21=>k_is)
  (case l21=>k_is)
  (case c21=>k_is)
  (case k21=>k_is)
  (case a22=>k_is)
  (case l22=>k_is)
  (case c22=>k_is)
  (case k22=>k_is)
  (case a23=>k_is)
  (case l23=>k_is)
  (case c23=>k_is)
  (case k23=>k_is)
  (case a24=>k_is)
  (case l24=>k_is)
  (case c24=>k_is)
  (case k24=>k_is)
  (case a25=>k_is)
  (case l25=>k_is)
  (case c25=>k_is)
  (case k25=>k_is)
  (case a26=>k_is)
  (case l26=>k_is)
  (case c26=>k_is)
  (case k26=>k_is)
  (case a27=>k_is)
  (case l27=>k_is)
  (case c27=>k_is)
  (case k27=>k_is)
  (case a28=>k_is)
  (case l28=>k_is)
  (case c28=>k_is)
  (case k28=>k_is)
  (case a29=>k_is)
  (case l29=>k_is)
  (case c29=>k_is)
  (case k29=>k_is)
  (case z_all=>k_is)
  (case z_bool=>k_is)
  (case z_dict=>k_is)
  (case z_enumerate=>k_is)
  (case z_int=>k_is)
  (case z_isinstance=>k_is)
  (case z_len=>k_is)
  (case z_list=>k_is)
  (case z_range=>k_is)
  (case z_sorted=>k_is)
  (case z_str=>k_is)
  (case z_sum=>k_is)
  (case z_tuple=>k_is)
  (case z_zip=>k_is)
  (case g_BOXES=>k_is)
  (case g_FIGURES=>k_is)
  (case g_FORMS=>k_is)
  (case r_tab_FORMS=>first | rfl | decide +kernel)
  (case g_MOST_FIGURES=>k_is)
