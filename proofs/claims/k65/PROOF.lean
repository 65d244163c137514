import PyProof.Rows.All
import Wide.All
import OpenK.AllK
import Wide.FinOn
import Lean
import PyProof.EqAt
import PyProof.EqKinds
import PyProof.TupleCall
import PySem.Challenge.RW_stepledger_k65_deep_sums
open Option renaming some->Ya,none->Yk,map_eq_some_iff->JL,isSome_iff_exists->Qh,map_some->Qi,isSome_some->Xq,getD_none->Xr,bind_some->Xu
open PySem.W renaming Frag->Yb,findIn->Y9,kia_one->pC,emptyDict->ut,keepIn->qy,mg_none_of->nY,fnOf->pD,instObj->vQ,mroIn->uw,clsIn->ux,nsIn->eN,specialIn->Bb,hideAll_get->Fv,codeIn->Bc,mg_of->j5,hasDictIn->JM,plainGet->JN,makesIn->JP,kitx_tuple->Qj,callWith_K->Qk,methodObj->Ql,plainOver->Qm,kitx_list->Qn,kitx_dict->Qo,subIn->JQ,cellsFrom_some->Xv,takerIn->Qp,isFn->JR,takesIn->Qq,readsIn->Qs,findCls->Qt,hideAll_none->Xw,lookIn->Qu,typeIn->Qv,exmOne->Qw,of_hideAll->Xx,kitx_none->Xy,kitx_bool->Xz,handedIn->XC,kitx_int->XD,kitx_str->XF,hideAll->XH,Frag->vR,kitOne->XJ,WalkO->XM,mg_of->XQ,keepIn->JS,codeIn->Qx
open PySem renaming wpAny_bind->Yc,Value->Ye,Shared->Yf,wpAny_pure->Yp,starEach->Yr,Addr->Yt,Program->Y8,mainGlobals->b7,wpAny->ao,sizeLine->bB,model->aq,Around->bC,wpAny_holding->gG,World->aO,wpAny_mono->eY,keywordEach->iB,wpAny_loadPart'->rQ,bootBuiltins->jA,backTo->bO,mem_of_lookup->uy,attributeBase->mR,wpAny_callSpecial?_slot->yg,wpAny_newObj_type->rR,compareOp->gP,wpAny_truthy_bool->uz,Heap->aC,codeAny_call_builtin->yh,wpAny_field->mU,eval->aF,FuncData->jB,wpAny_Call_Name_kw->yj,backToKw->iC,wpAny_call_entry->vU,codeAny_mono->qz,wpAny_pyIter_list->yo,foldedSetIterable->yp,binaryOp->jg,wpAny_standAt->uD,strValues->lH,Stmt->Ydi,wpAny_passesOwn->yq,wpAny_pyIter_enum->Bd,codeAny_builtin->yr,wpAny_loadPart_at->Be,sizeLine_eq->rT,treeTable->nZ,assignEach->qC,wpAny_call->qD,importedModules->Bf,behindInMarks->yt,call_meets->rW,wpAny_letOwnedTupleGo_enum->Qy,codeAny->jP,checkBuiltinCall->Fw,excClassObj->vV,wpAny_comprehension_free->Qz,wpAny_execs_nil->Fx,swapsWith->rY,letOwnedTupleGo->Fy,wpAny_pyIter_tuple->JT,strLen_append->Bg,plainObj_wpAny_Assign_Attribute->XR,sliceBounds->yu,slicePicked->yw,wpAny_seqItems->Fz,wpAny_setField->FJ,wpAny_tryCatch->FN,plainId_quiet->FP,rawInt->lJ,getItem->qF,intText?->JV,wpAny_sequenceKey->QB,typeIs_str->Bh,wpAny_pyNext_enum_itemD->XS,wpAny_point->FQ,assign->n6,noFill_tuple_add->QC,codeAny_compStart_list->XX,wpAny_storeName_local->X4,holding->uE,Result->pF,wpAny_typeOf->JW,codeAny_of_tree->QD,weight_type_call_type->X5,wpAny_updateSeq->QF,wpAny_newFunctionEnv->X6,unbindBehindTheSuite->X7,wpAny_pyIter_revIter->X8,wpAny_loadPart->QG,newFunctionEnv->QH,cLine->j6,subscripted->JX,callerA->vW,relabel->vX,wpAny_of_eq->JZ,dictGet->vY,wpAny_letGo->J0,wpAny_isSubtype_exc->X_,seq_tuple_add->QJ,noteFrame->FT,wpAny_attempt->QK,callWith->Bj,wpAny_missed_other->YB,wpAny_assign_Name->YC,wpAny_rule->J1,wpAny_dictEntries->YD,Within->QL,concat_meets->QM,seqIndex_neg->QQ,wpAny_pyHash_int->YF,wpAny_pyHash_str->YG,wpAny_execs_cons->YH,wpAny_lookBehind->YJ,pastItsLine_dict->YK,wpAny_isInstance->YL,compEnvC->FW,standAt->Bl,pyNext->vZ,BindsTo->Bm,seqIndex_of->QR,valueAt->Bo,wpAny_specialOf->YM,wpAny_stack_any->YQ,wpAny_dictEpoch->YS,getAttrByItsOwn->YT,builtinsNs->QS,wpAny_Name->QT,typeLookup->QV,typeIs_int->QW,call->QX,IsEnum->yx,isInstance->QZ,spliced->FZ,getAttr->F_,contains->J2,PassesOwn->Q0,pyIter->Bp,cellsFrom->Q3,seqIndex?->Q4,scanBound->Q5,unaryOp->J3,setAttr->J4,evalAll->J5,bindL->v5,bindC->v8,leaving->J6,atKey->v9,Str->aj,Obj->aD,Env->cH,Sem->lK,Pos->aP,Tok->eO
open List renaming getElem?_eq_some_iff->Yd,mem_cons_of_mem->Yg,length_append->Yj,mem_cons_self->Yl,replicate->Ym,length_cons->Yn,size_toArray->Yo,length_map->Ys,getElem?_set_ne->Yu,mem_cons->Yv,map_cons->Yw,getElem?_append_left->Yx,mem_singleton->Yz,length_singleton->Y0,getElem?_set_self->Y4,mem_append_right->Y5,getElem?_eq_getElem->j7,forall_mem_cons->jC,all_eq_true->ig,append_nil->gQ,length_replicate->mV,lookup_cons->jh,prefix_append->j8,mem_append->jD,nil_append->jE,getElem?_map->lM,mem_append_left->pG,all_cons->iM,append_assoc->mW,set_cons_succ->n8,set_cons_zero->n_,take_of_length_le->uF,mem_map->ji,not_mem_nil->ou,getElem?_take_of_lt->v_,getElem?_append_right->yC,any_cons->j9,map_append->oA,flatten_cons->qG,drop_eq_getElem_cons->yD,replicate_succ->uG,map_map->lO,range->jj,prefix_refl->rZ,getElem?_replicate_of_lt->Ga,nodup_cons->su,foldl_cons->sy,Nodup->jQ,length_reverse->yE,getElem?_eq_none->Bq,eq_nil_of_length_eq_zero->J7,getElem_mem->wg,mem_flatMap->wj,mem_of_getElem?->Br,ext_getElem?->yF,map_eq_nil_iff->Bs,getD_eq_getElem?_getD->J8,length_take->yG,cons_append->yH,length_set->yI,getElem?_replicate->J9,getElem?_cons_succ->J_,getElem?_cons_zero->Ka,drop_eq_nil_of_le->Kc,map_nil->wk,find?_cons->Bt,range'->uH,reverse_cons->Gb,drop_length->Gd,map_congr_left->Kd,mem_map_of_mem->Ke,mem_filterMap->Kf,length_nil->Ge,lookup->yJ,length->yK,eraseIdxIfInBounds_toArray->YW,getElem?_of_mem->Q6,filterMap_cons->Q7,set_set->Gf,contains_cons->Q8,all_nil->Gg,nodup_append->Q9,length_range->Q_,prefix_iff_eq_take->YX,getElem?_set_self'->YZ,getLast?_replicate->Y_,range_succ_eq_map->ZC,append_eq_nil_iff->ZD,of_mem_zip->Ra,dropLast_eq_take->ZF,getElem?_toArray->ZG,isPrefixOf->Rb,mem_of_getLast?->ZJ,range_eq_range'->ZK,mem_range->Rc,drop_zero->Rf,take_sublist->ZL,foldl->Kg,mem_range'_1->ZM,getElem_inj->ZP,length_drop->ZQ,mem_flatten->ZR,range'_succ->ZS,mem_filter->ZV,nodup_nil->ZW,drop_left->ZX,take_left->ZZ
open PySem.Heap renaming get?_push_of_some->Yh,get?_push_size->Y1,lt_size->Y2,get?_update_other->mX,get?_update_self->wu,size_push->wz,get?_none_of_le->Yes,SameBut->Gh,get?_push_at->Rg,get?_update_ne->Z0
open Nat renaming le_trans->Yi,le_refl->Yq,le_antisymm->Y6,lt_of_lt_of_le->Y7,ne_of_lt->dG,le_of_not_lt->ir,zero_le->fL,le_add_right->lQ,lt_of_le_of_lt->pH,lt_trans->lR,le_of_eq->oE,add_comm->pI,succ_le_succ->yL,le_add_left->yM,lt_irrefl->wA,zero_add->wB,le_of_lt->wC,add_assoc->yN,add_le_add_right->Kh,lt_succ_self->Gi,le_succ->wD,min_eq_left->Gj,lt_succ_of_le->Kl,le_of_ble_eq_true->Rh,ne_of_gt->Bu,ble->oF,lt_of_not_le->Km,lt_add_right->Ko,beq->qH,le_succ_of_le->Ri,toDigits_of_lt_base->Z1,min_eq_right->Rj,succ_ne_self->Rk,sub_eq_zero_of_le->Z2,toDigits->Kq,strongRecOn->Rm,mul_le_mul_left->Z3,add_sub_cancel->Z4,sub_add_cancel->Z5,le_of_lt_succ->Z6,add_zero->Rn,min_le_right->Z7,min_le_left->Z8,zero_lt_one->Z9,toList_repr->Z_,add_le_add->Ymr
open Classical renaming propDecidable->Yy
open Bool renaming and_eq_true->Y3,false_ne_true->j_,and_eq_true_iff->Ya9,or_eq_true->wF,and_false->yO,false_eq_true->Gk,beq_eq_decide_eq->Kr,and_true->Bv,or_false->Ks,eq_iff_iff->Ro,false_and->Rp,not_eq_true->Yl2,false_or->Ynb
open Option.some renaming inj->eZ,injEq->Yla
open False renaming elim->dX
open Ne renaming symm->bV
open List.cons renaming inj->jR,injEq->Ymj
open Int renaming toNat_natCast->uI,emod_nonneg->sE,emod_lt_of_pos->wG,le_antisymm->yP,toNat_of_nonneg->Gm,natCast_nonneg->Ku,self_le_toNat->Kv,not_le->yQ,le_of_eq->Gn,le_of_lt->Kw,lt_of_lt_of_le->Ykh,ofNat_le->Rq,ofNat_lt->Rr,min_eq_left->Yl5
open PySem.Str renaming ofString->mY,length->lU,empty->Bw
open PySem.Builtin.List renaming listTooLong->Bx
open PyProof.Rows renaming slot_tuple_getitem->Ky,callWith_type1->Kz,slot_tupleiter_next->KC,callWith_builtin1->Yf9,signs_ofString->Ygo,envOfC->lV,evalArgs_kwB->Yg9,kindOf->mZ,AllBare->sG,subscriptTail_builtinR->Yh9,entry_tupleiter_next->Yje,entry_tuple_getitem->Yjt,args_tupleiter_next->Yj8,args_tuple_getitem->Ykl,subscriptTail->Ru,Subscript_->Rv
open PyProof.Rows.KTD renaming datumAt->oG,TabOf->qI,tab_of_look->Yml
open PySem.Builtin.Str renaming occurrences->Gp,strSliceIndices->KD,partsBetween->Yhk,tooLong->Yj6,strKind->Yj7
open PySem.NumText renaming digitsVal->Gq
open PyProof.Rows.F renaming plain_set_update_loop->Rx,entry_set_update_loop->Yex
open Array renaming getElem?_eq_some_iff->KH,length_toList->KJ,getElem?_setIfInBounds_ne->Yf2,toList->BJ,getElem?_toList->Ry,mem_of_getElem?->Yiz,mem_toList_iff->Yi8,append_assoc->Yki
open PySem.F renaming plain_max_loop->yR,slot_enumerate_next->KN,args_tuple_add_2->Rz,entry_tuple_add->RB,plainAttrs_list->RD,slot_tuple_add->RG,plainAttrs_str->RJ,slot_dict_get->RK,slot_dict_contains->Ygs,excBase_ValueError->Ygt,args_str_split_2->RL,slot_dict_getitem->Yha,entry_str_split->RM,args_enumerate_next_1->Yhv,args_dict_get_3->Yhy,slot_str_split->RN,entry_max_loop->RP,entry_enumerate_next->Yic,entry_dict_get->Yid,entry_enumerate_new->Yiv,args_list_extend_2->Yjc,entry_list_extend->Yj3,slot_list_extend->Ykp,called_enumerate->Yks,entry_list_pop->Yly,slot_list_pop->Ymd,slot_int_rmul->Yme
open PySem.Builtin.Slice renaming slicePlaces->KQ,sliceAdjust->RQ,sliceApplied->Ygq
open Decidable renaming byContradiction->KR
open PySem.Builtin.SmallTypes renaming nextOf->KY
open PySem.Around renaming under_plainId->Gr,under->KZ,under_plain->Yku
open PySem.Builtin.Tuple renaming tupleExact->K3,tupleItemsOf->Ygr
open PySem.Obj renaming data_mapFields->Gs,mapFields->yS,isFreed_of_fields->RT,mapSeq->yU,cls_mapFields->Yk9
open PySem.SeqAt renaming EqAt->uJ,in_listAt->Ymc
open PySem.SeqAt.EqAt renaming str_int->K4,int_str->RV,same->RW,none_bool->Yi9,bool_none->Yja,bool_bool->Yjb,none_int->Yjv,none_str->Yjw,bool_int->Yjx,bool_str->Yjy,int_none->Yjz,int_bool->Yj0,str_none->Yj1,str_bool->Yj2,int_int->Ykn,str_str->Yko
open PySem.Code renaming quiet_builtin->K5,isFrame->RX
open PySem.Calls renaming callWith_builtin->RZ,evalArgs_plain->R0,Name_function_global->Ygp,spliced_cons->R4,spliced_nil->Yk3
open ToString renaming toString->wH
open OfNat renaming ofNat->Gu
open Eq renaming trans->wI
open PySem.PassesOwn renaming never->R5
open PySem.Heap.SameBut renaming update->Yj9
open PySem.EntryCells renaming newEntry->Ykb
open PySem.Builtin.Dict renaming missed->Ykd
open PySem.Heap.Ns1 renaming of_empty->Yk0
open PySem.SeqAt.RcAt renaming tuples->Yk6
open PySem.Walks renaming list->K6
open Nat.succ renaming inj->R6
open PySem.Txt renaming split->Ymh,startswith->Ymt
open Char renaming toNat->R7
open PySem.Paired renaming length->Ym6
open Min renaming min->jk
namespace L3
set_option compiler.extract_closed false
set_option genSizeOf false in
set_option genInjectivity false in
inductive AE where
 |v (i:Nat)
 |k (n:Nat)
 |a (x y:AE)
 |m (n:Nat) (x:AE)
noncomputable def K7:List Nat->Nat->Nat
 |[],_=>0|x::_,0=>x|_::l,n+1=>K7 l n
noncomputable def AE.ev(c:List Nat):AE->Nat
 | .v i=>K7 c i|.k n=>n|.a x y=>x.ev c+y.ev c|.m n x=>n*x.ev c
noncomputable def aL:List Nat->List Nat->List Nat
 |[],r=>r|x::l,[]=>x::l|x::l,y::r=>(x+y)::aL l r
noncomputable def sL(n:Nat):List Nat->List Nat
 |[]=>[]|x::l=>(n*x)::sL n l
noncomputable def uL:Nat->List Nat
 |0=>[1]|n+1=>0::uL n
noncomputable def AE.li:AE->List Nat
 | .v i=>0::uL i|.k n=>[n]|.a x y=>aL x.li y.li|.m n x=>sL n x.li
noncomputable def dt:List Nat->List Nat->Nat
 |x::c,y::l=>x*y+dt c l|[],_=>0|_,[]=>0
noncomputable def BK:List Nat->List Nat->Bool
 |[],_=>true|x::l,[]=>oF x 0&&BK l []|x::l,y::r=>oF x y&&BK l r
theorem uK:∀c,dt c []=0
 |[]=>rfl|_::_=>rfl
theorem uM:∀c l r,dt c (aL l r)=dt c l+dt c r
 |c,[],r=>by rw[uK,wB];rfl|c,x::l,[]=>by rw[uK];rfl|[],x::l,y::r=>rfl|z::c,x::l,y::r=>by show z*(x+y)+dt c (aL l r)=_;rw[uM c l r,Nat.mul_add];exact Nat.add_add_add_comm _ _ _ _
theorem K8(n:Nat):∀c l,dt c (sL n l)=n*dt c l
 |c,[]=>by rw[uK];exact uK c|[],x::l=>rfl|z::c,x::l=>by show z*(n*x)+dt c (sL n l)=n*(z*x+dt c l);rw[K8 n c l,Nat.mul_add,Nat.mul_left_comm]
theorem ZuI:∀c i,dt c (uL i)=K7 c i
 |[],0=>rfl|[],_+1=>rfl|x::c,0=>by show x*1+dt c []=x;rw[uK,Nat.mul_one];rfl|x::c,n+1=>by show x*0+dt c (uL n)=K7 c n;rw[ZuI c n,Nat.mul_zero,wB]
theorem Gv:∀c l r,BK l r=true->dt c l<=dt c r
 |c,[],r,_=>by rw[uK];exact fL _|[],x::l,r,_=>fL _|z::c,x::l,[],h=>by have h:=(Y3 _ _).mp h;have e:x=0:=Nat.le_zero.1 (Rh h.1);have i:=Gv c l [] h.2;rw[uK]at i;show z*x+dt c l<=0;rw[e,Nat.le_zero.1 i];exact Yq 0|z::c,x::l,y::r,h=>
  have h:=(Y3 _ _).mp h
  Ymr (Z3 z (Rh h.1)) (Gv c l r h.2)
theorem AE.jf(c:List Nat):∀e:AE,dt (1::c) e.li=e.ev c
 | .v i=>(wB _).trans (ZuI c i)|.k n=>by show 1*n+dt c []=n;rw[uK,Nat.one_mul];rfl|.a x y=>(uM _ _ _).trans (congr (congrArg _ (x.jf c)) (y.jf c))|.m n x=>(K8 n _ _).trans (congrArg _ (x.jf c))
noncomputable def cA:Nat->Nat->AE×Nat
 |0,s=>(.k 0,s)|f+1,s=>bif oF (s % 16) 9 then(.v (s % 16),s / 16)else bif qH (s % 16) 10 then(.k 1,s / 16)
  else bif qH (s % 16) 11 then(.k (s / 256 % 16^(s / 16 % 16)),s / 256 / 16^(s / 16 % 16))
  else bif qH (s % 16) 12 then(.a (cA f (s / 16)).1 (cA f (cA f (s / 16)).2).1,(cA f (cA f (s / 16)).2).2)
  else bif qH (s % 16) 13 then(.m (s / 16 % 256) (cA f (s / 4096)).1,(cA f (s / 4096)).2)
  else(.k 0,s / 16)
noncomputable def Gw:Nat->Nat->Nat->Prop
 |0,x,y=>x<=y|1,x,y=>x<y|2,x,y=>x=y|3,x,y=>x=y
 |4,x,y=>¬x<=y|5,x,y=>¬x<y|_,_,_=>False
noncomputable def R8:Nat->AE->AE->List Nat
 |0,x,_=>x.li|1,x,_=>aL [1] x.li|2,x,_=>x.li|4,_,y=>aL [1] y.li
 |_,_,y=>y.li
noncomputable def Gx:Nat->AE->AE->List Nat
 |0,_,y=>y.li|1,_,y=>y.li|2,_,y=>y.li|_,x,_=>x.li
noncomputable def Gy(c:List Nat):Nat->Nat->Prop
 |0,s=>Gw (s % 16) ((cA 9 (s / 16)).1.ev c) ((cA 9 (cA 9 (s / 16)).2).1.ev c)|n+1,s=>Gw (s / 16 % 16) ((cA 9 (s / 256)).1.ev c) ((cA 9 (cA 9 (s / 256)).2).1.ev c)->Gy c n (cA 9 (cA 9 (s / 256)).2).2
noncomputable def gN:Nat->AE->AE->List Nat->List Nat->Bool
 |0,x,y,L,R=>BK (aL R x.li) (aL L y.li)|1,x,y,L,R=>BK (aL [1] (aL R x.li)) (aL L y.li)|_,_,_,L,R=>BK (aL [1] R) L
noncomputable def Gz:Nat->Nat->List Nat->List Nat->Bool
 |0,s,L,R=>gN (s % 16) (cA 9 (s / 16)).1 (cA 9 (cA 9 (s / 16)).2).1 L R|n+1,s,L,R=>Gz n (cA 9 (cA 9 (s / 256)).2).2 (aL L (sL (s % 16) (R8 (s / 16 % 16) (cA 9 (s / 256)).1 (cA 9 (cA 9 (s / 256)).2).1))) (aL R (sL (s % 16) (Gx (s / 16 % 16) (cA 9 (s / 256)).1 (cA 9 (cA 9 (s / 256)).2).1)))
theorem K9(c l:List Nat):dt (1::c) (aL [1] l)=dt (1::c) l+1:=by rw[uM];show 1*1+dt c []+_=_;rw[uK];exact pI _ _
theorem ZvU(c:List Nat)(x y:AE):∀r,Gw r (x.ev c) (y.ev c)->dt (1::c) (R8 r x y)<=dt (1::c) (Gx r x y)
 |0,h=>by show dt _ x.li<=dt _ y.li;rw[x.jf,y.jf];exact h|1,h=>by show dt _ (aL [1] x.li)<=dt _ y.li;rw[K9,x.jf,y.jf];exact h|2,h=>by show dt _ x.li<=dt _ y.li;rw[x.jf,y.jf];exact oE h|3,h=>by show dt _ y.li<=dt _ x.li;rw[x.jf,y.jf];exact oE h.symm
 |4,h=>by show dt _ (aL [1] y.li)<=dt _ x.li;rw[K9,x.jf,y.jf];exact Km h|5,h=>by show dt _ y.li<=dt _ x.li;rw[x.jf,y.jf];exact ir h|_+6,h=>h.elim
theorem Zyy(c:List Nat)(x y:AE)(L R:List Nat)(h:dt (1::c) L<=dt (1::c) R):∀r,gN r x y L R=true->Gw r (x.ev c) (y.ev c)
 |0,k=>by have e:=Gv (1::c) _ _ k;rw[uM,uM,x.jf,y.jf]at e;exact Nat.le_of_add_le_add_left (Yi e (Kh h _))|1,k=>by have e:=Gv (1::c) _ _ k;rw[K9,uM,uM,x.jf,y.jf]at e;exact Nat.lt_of_add_lt_add_left (Yi e (Kh h _))|r+2,k=>by have e:=Gv (1::c) _ _ k;rw[K9]at e;exact absurd (Yi e h) (Nat.not_succ_le_self _)
theorem arN(c:List Nat):∀(n s:Nat) (L R:List Nat),dt (1::c) L<=dt (1::c) R->Gz n s L R=true->Gy c n s
 |0,s,L,R,h,k=>Zyy c _ _ L R h _ k|n+1,s,L,R,h,k=>λg=>arN c n _ _ _ (by rw[uM,uM,K8,K8];exact Ymr h (Z3 _ (ZvU c _ _ _ g))) k
end L3
theorem lN(c:List Nat)(n s:Nat)(h:L3.Gz n s [] []=true):L3.Gy c n s:=L3.arN c n s [] [] (Yq _) h
theorem sbA(a b:Nat):a<=a-b+b:=Nat.le_add_of_sub_le (Yq _)
theorem T1:true=true:=rfl
theorem lA{a:Nat}(n s:Nat)(y:L3.Gz n s [] []=true):L3.Gy [a] n s:=lN _ n s y
theorem lI{a b c d e f g h i:Nat}(n s:Nat)(y:L3.Gz n s [] []=true):L3.Gy [a,b,c,d,e,f,g,h,i] n s:=lN _ n s y
theorem clA(w:Int):max w 0=(w.toNat:Int):=(Int.ofNat_toNat w).symm
theorem clB(v:Int)(n:Nat)(h:¬v<0):jk v (n:Int)=((jk v.toNat n:Nat):Int):=by
 obtain⟨k,rfl⟩:=Int.eq_ofNat_of_zero_le (Int.not_lt.1 h);rcases Nat.le_total k n with z|z
 .rw[Yl5 (Rq.2 z)];exact congrArg Int.ofNat (Gj z).symm
 .rw[Int.min_eq_right (Rq.2 z)];exact congrArg Int.ofNat (Rj z).symm
theorem R9(v:Int)(n:Nat)(h:v<0):max 0 (jk (v+(n:Int)) (n:Int))=((v+(n:Int)).toNat:Int):=by rw[Yl5 (Kw (Ykh (Int.add_lt_add_right h _) (Gn (Int.zero_add _)))),Int.max_comm];exact clA _
theorem R_(v:Int)(n:Nat)(h:¬v<0):max 0 (jk v (n:Int))=((jk v.toNat n:Nat):Int):=by rw[clB v n h];exact Int.max_eq_right (Ku _)
namespace L3
set_option genSizeOf false in
set_option genInjectivity false in
inductive AI where
 |v (i:Nat)
 |k (n:Nat)
 |c (e:AE)
 |a (x y:AI)
 |s (x y:AI)
 |g (x:AI)
 |m (n:Nat) (x:AI)
noncomputable def ZyQ:List Int->Nat->Int
 |[],_=>0|x::_,0=>x|_::l,n+1=>ZyQ l n
noncomputable def AI.ev(c:List Nat)(d:List Int):AI->Int
 | .v i=>ZyQ d i|.k n=>Int.ofNat n|.c e=>((e.ev c:Nat):Int)|.a x y=>x.ev c d+y.ev c d
 | .s x y=>x.ev c d-y.ev c d|.g x=>-x.ev c d|.m n x=>Int.ofNat n*x.ev c d
noncomputable def pL(u w:List Nat×List Nat):List Nat×List Nat:=(aL u.1 w.1,aL u.2 w.2)
noncomputable def AI.li:AI->Bool->List Nat×List Nat
 | .v i,b=>bif b then([],uL i)else([],[])|.k n,b=>bif b then([n],[])else([],[])|.c e,b=>bif b then(e.li,[])else([],[])|.a x y,b=>pL (x.li b) (y.li b)
 | .s x y,b=>pL (x.li b) (y.li (!b))|.g x,b=>x.li (!b)|.m n x,b=>(sL n (x.li b).1,sL n (x.li b).2)
section
variable (c:List Nat) (d:List Int)
noncomputable def cI(x y:AI):List Nat×List Nat:=pL (x.li true) (y.li false)
noncomputable def Zyc(u:List Nat×List Nat):List Nat×List Nat:=(aL [1] u.1,u.2)
noncomputable def Zzp:Nat->Int->Int->Prop
 |0,x,y=>x<=y|1,x,y=>x<y|2,x,y=>x=y|3,x,y=>x=y
 |4,x,y=>¬x<=y|5,x,y=>¬x<y|_,_,_=>False
noncomputable def loI:Nat->AI->AI->List Nat×List Nat
 |0,x,y=>cI x y|1,x,y=>Zyc (cI x y)|2,x,y=>cI x y|4,x,y=>Zyc (cI y x)
 |_,x,y=>cI y x
noncomputable def hiI:Nat->AI->AI->List Nat×List Nat
 |0,x,y=>cI y x|1,x,y=>cI y x|2,x,y=>cI y x|_,x,y=>cI x y
end
noncomputable def gm:Nat->Nat->AI×Nat
 |0,s=>(.k 0,s)|f+1,s=>bif oF (s % 16) 7 then(.v (s % 16),s / 16)else bif qH (s % 16) 8 then(.c (cA 9 (s / 16)).1,(cA 9 (s / 16)).2)
  else bif qH (s % 16) 9 then(.g (gm f (s / 16)).1,(gm f (s / 16)).2)else bif qH (s % 16) 10 then(.k 1,s / 16)
  else bif qH (s % 16) 11 then(.k (s / 256 % 16^(s / 16 % 16)),s / 256 / 16^(s / 16 % 16))
  else bif qH (s % 16) 12 then(.a (gm f (s / 16)).1 (gm f (gm f (s / 16)).2).1,(gm f (gm f (s / 16)).2).2)
  else bif qH (s % 16) 13 then(.m (s / 16 % 256) (gm f (s / 4096)).1,(gm f (s / 4096)).2)
  else bif qH (s % 16) 14 then(.k 0,s / 16)else(.s (gm f (s / 16)).1 (gm f (gm f (s / 16)).2).1,(gm f (gm f (s / 16)).2).2)
def hP(c:List Nat)(d:List Int)(r s:Nat):Prop:=bif oF 8 r then Zzp (r-8) ((gm 9 s).1.ev c d) ((gm 9 (gm 9 s).2).1.ev c d)else Gw r ((cA 9 s).1.ev c) ((cA 9 (cA 9 s).2).1.ev c)
noncomputable def hR(r s:Nat):Nat:=bif oF 8 r then(gm 9 (gm 9 s).2).2 else(cA 9 (cA 9 s).2).2
noncomputable def hL(r s:Nat):List Nat×List Nat:=bif oF 8 r then loI (r-8) (gm 9 s).1 (gm 9 (gm 9 s).2).1 else(R8 r (cA 9 s).1 (cA 9 (cA 9 s).2).1,[])
noncomputable def hH(r s:Nat):List Nat×List Nat:=bif oF 8 r then hiI (r-8) (gm 9 s).1 (gm 9 (gm 9 s).2).1 else(Gx r (cA 9 s).1 (cA 9 (cA 9 s).2).1,[])
end L3
set_option Elab.async false
set_option linter.all false
set_option maxRecDepth 100000
namespace L2
open PySem PySem.Spec PyProof.Rows
noncomputable abbrev Key:=Sum Int aj
noncomputable def ZuN:Key->Ye->Bool
 | .inl k,v=>Value.isInt k v|.inr x,v=>Value.isStrOf x v
noncomputable def ZzW(w:aO):Key->Int
 | .inl k=>hashInt k|.inr x=>hashStr w x
theorem uN:∀{k:Key} {v:Ye},ZuN k v=true->(∃i t,k=Sum.inl i/\v=Value.int i t)\/(∃x t,k=Sum.inr x/\v=Value.str x t)
 | .inl i,v,h=>by obtain⟨t,e⟩:=Value.isInt_shape (k:=i) (v:=v) h;exact .inl ⟨i,t,rfl,e⟩|.inr x,v,h=>by obtain⟨t,e⟩:=Value.isStrOf_shape (x:=x) (v:=v) h;exact .inr ⟨x,t,rfl,e⟩
theorem ZwK(a b:Int):decide ((Sum.inl a:Key)=Sum.inl b)=(a==b):=by
 by_cases e:a=b
 .subst e;simp
 .have h:¬(Sum.inl a:Key)=Sum.inl b:=λq=>e (Sum.inl.inj q);rw[decide_eq_false h];exact(beq_eq_false_iff_ne.mpr e).symm
theorem ZwO(a b:aj):decide ((Sum.inr a:Key)=Sum.inr b)=decide (a=b):=by
 by_cases e:a=b
 .subst e;simp
 .have h:¬(Sum.inr a:Key)=Sum.inr b:=λq=>e (Sum.inr.inj q);rw[decide_eq_false h,decide_eq_false e]
theorem Zvs(a:Int)(b:aj):decide ((Sum.inl a:Key)=Sum.inr b)=false:=decide_eq_false (λq=>nomatch q)
theorem Zvx(a:aj)(b:Int):decide ((Sum.inr a:Key)=Sum.inl b)=false:=decide_eq_false (λq=>nomatch q)
noncomputable def ZoG(prog:Y8)(w:aO):PySem.KeyKind prog w Key where
 is:=ZuN
 hash:=ZzW w
 inj:=λv a b ha hb=>by
  rcases uN ha with⟨i,t,rfl,rfl⟩|⟨x,t,rfl,rfl⟩
  .rcases uN hb with⟨j,u,rfl,e⟩|⟨y,u,rfl,e⟩
   .injection e with e1 _;rw[e1]
   .exact nomatch e
  .rcases uN hb with⟨j,u,rfl,e⟩|⟨y,u,rfl,e⟩
   .exact nomatch e
   .injection e with e1 _;rw[e1]
 byValue:=λk v h=>by rcases uN h with⟨i,t,rfl,rfl⟩|⟨x,t,rfl,rfl⟩<;>rfl
 pyHash:=λhv h=>by
  rcases uN hv with⟨i,t,rfl,rfl⟩|⟨x,t,rfl,rfl⟩
  .exact YF h
  .exact YG h
 eqBool:=λhu hv h=>by
  rcases uN hu with⟨i,t,rfl,rfl⟩|⟨x,t,rfl,rfl⟩
  .rcases uN hv with⟨j,u,rfl,rfl⟩|⟨y,u,rfl,rfl⟩
   .rw[ZwK]at h;exact wpAny_eqBool_int h
   .rw[Zvs]at h;exact RV i t y u _ _ _ _ h
  .rcases uN hv with⟨j,u,rfl,rfl⟩|⟨y,u,rfl,rfl⟩
   .rw[Zvx]at h;exact K4 x t j u _ _ _ _ h
   .rw[ZwO]at h;exact wpAny_eqBool_str h
 «strs»:=λk x t v h=>by
  rcases uN h with⟨i,u,rfl,e⟩|⟨y,u,rfl,e⟩
  .exact nomatch e
  .injection e with e1 _
   subst e1;cases v<;>rfl
end L2
namespace L2
open PySem PySem.Spec PyProof.Rows
inductive V where
 |non|bl (b:Bool)|int (i:Int)|str (x:aj)|BP (b:Array UInt8)|flt (b:UInt64)|ref (a:Yt)|ty (n:String)
 deriving DecidableEq
noncomputable def RelV:V->Ye->Prop
 | .non,u=>u=Value.none|.bl b,u=>u=Value.bool b|.int i,u=>∃t,u=Value.int i t|.str x,u=>∃t,u=Value.str x t
 | .BP b,u=>∃t,u=Value.bytes b t|.flt b,u=>∃t,u=Value.float b t|.ref a,u=>u=Value.ref a|.ty n,u=>u=Value.type n
noncomputable abbrev Vals:List V->List Ye->Prop:=Paired RelV
theorem Vals.length{xs:List V}{us:List Ye}(r:Vals xs us):xs.length=us.length:=Ym6 r
theorem Vals.get:∀{xs:List V} {us:List Ye} {i:Nat} {x:V},Vals xs us->xs[i]?=Ya x->∃u,us[i]?=Ya u/\RelV x u
 |_,_,_,_,.nil,e=>by simp at e|_,_,0,_,.cons r _,e=>by simp at e;subst e;exact⟨_,rfl,r⟩|_,_,i+1,x,.cons _ t,e=>by obtain⟨u,h1,h2⟩:=Vals.get (i:=i) (x:=x) t (by simpa using e);exact⟨u,by simpa using h1,h2⟩
theorem Vals.set{x:V}{u:Ye}(r:RelV x u):∀{xs:List V} {us:List Ye} (i:Nat),Vals xs us->Vals (xs.set i x) (us.set i u)
 |_,_,_,.nil=>.nil|_,_,0,.cons _ t=>.cons r t|_,_,i+1,.cons q t=>.cons q (Vals.set r i t)
theorem Vals.append:∀{xs ys:List V} {us ws:List Ye},Vals xs us->Vals ys ws->Vals (xs++ys) (us++ws)
 |_,_,_,_,.nil,s=>s|_,_,_,_,.cons r t,s=>.cons r (Vals.append t s)
theorem Vals.take:∀{xs:List V} {us:List Ye} (n:Nat),Vals xs us->Vals (xs.take n) (us.take n)
 |_,_,0,_=>.nil|_,_,_+1,.nil=>.nil|_,_,n+1,.cons r t=>.cons r (Vals.take n t)
theorem Vals.drop:∀{xs:List V} {us:List Ye} (n:Nat),Vals xs us->Vals (xs.drop n) (us.drop n)
 |_,_,0,r=>r|_,_,_+1,.nil=>.nil|_,_,n+1,.cons _ t=>Vals.drop n t
noncomputable def oH:Option V->Option Ye->Prop
 |some v,Ya u=>RelV v u|none,Yk=>True|_,_=>False
noncomputable def KV{κ:Type}:List (κ×V)->List (κ×Ye)->Prop:=Paired λ(p:κ×V) (q:κ×Ye)=>p.1=q.1/\RelV p.2 q.2
noncomputable def kV:Key->V
 | .inl i=>.int i|.inr x=>.str x
inductive HO where
 /--a list -/
 |lst (xs:List V)
 /--a tuple (never changes) -/
 |tup (xs:List V)
 /--a dict whose keys are ints and texts;one whose keys are tuples of ints and texts (the empty one is both) -/
 |dK (kvs:List (Key×V))|dT (kvs:List (List Key×V))
 /--a set of ints:its members,its size -/
 |set (S:Int->Bool) (n:Nat)
 /--an instance of the class at C,its dict at dx,its attributes -/
 |ins (C dx:Yt) (fs:List (aj×V))
 /--the dict of the instance at x -/
 |own (x:Yt)
 /--the dict of an exception -/
 |xd (fs:List (aj×V))
 /--a bound method,f of x -/
 |met (f x:Yt)
 /--a range object lo,lo+1,.. below hi -/
 |K_ (lo hi:Int)
 /--a thing that is known to the object (the script;a dict while a loop walks it):read,never written while it is so -/
 |cD (o:aD) (u:HO)
 /--a code object's table -/
 |wJ (ps:Array Ye)
 /--any other thing,by what is true of its one object (a def of one's own:Adg a S n:=HO.ext λh=>..) -/
 |ext (φ:aC->Prop)
noncomputable abbrev Hp:=Yt->Option HO
noncomputable def upd(H:Hp)(a:Yt)(o:HO):Hp:=λb=>if b=a then Ya o else H b
variable{H:Hp}
theorem fV{a:Yt}{o:HO}:upd H a o a=Ya o:=by unfold upd;rw[if_pos rfl]
theorem bh{a b:Yt}{o:HO}(h:b≠a):upd H a o b=H b:=by unfold upd;rw[if_neg h]
theorem sH{a b:Yt}{o:HO}(h:H a=Ya o)(h':H b=Yk):a≠b:=by intro e;subst e;rw[h]at h';cases h'
section
variable (P:Y8) (w:aO)
def sI(h:aC)(a:Yt)(items:Array Ye):Prop:=∃o,h.get? a=Ya o/\(o.cls= .type "tuple" /\o.dict=Yk)/\∃n,o.data= .seq items n
theorem sI.tup{h:aC}{a:Yt}{items:Array Ye}(x:sI h a items):IsTup h a items:=let⟨o,e,c,d⟩:=x;⟨o,e,c.1,d⟩
theorem sI.new(h:aC)(items:Array Ye):sI (h.push {cls:=.type "tuple",data:=.seq items}) h.objs.size items:=⟨_,Y1 _ rfl,⟨rfl,rfl⟩,0,rfl⟩
noncomputable def cX(H:Hp)(h:aC)(a:Yt):HO->Prop
 | .lst xs=>xs.length<=bB/\∃(its:List Ye) (n:Nat),Vals xs its/\h.get? a=Ya {cls:=.type "list",data:=.seq its.toArray n}|.tup xs=>xs.length<=bB/\∃its:List Ye,Vals xs its/\sI h a its.toArray|.dK kvs=>kvs.length<=bB/\(a==sysModules)=false/\∃vs,KV kvs vs/\h.DictOf (ZoG P w) a vs|.dT kvs=>kvs.length<=bB/\(a==sysModules)=false/\∃xs:List (List Key×Yt×Ye),
   Paired (λ(p:List Key×V) (q:List Key×Yt×Ye)=>p.1=q.1/\H q.2.1=Ya (.tup (p.1.map kV))/\RelV p.2 q.2.2) kvs xs/\
   ∃o es ep,h.get? a=Ya o/\o.ExactDict/\o.data= .dict es ep/\es.toList=xs.map (entryOfKey (tupleKind (ZoG P w)))/\(xs.map (·.1)).Nodup
 | .set S n=>h.SetOf (intKind P w) a S n|.ins C dx fs=>H dx=Ya (.own a)/\fs.length<=1000/\dx≠a/\h.get? a=Ya (vQ C dx)/\
   ∃mA,h.Ns1 dx mA/\(∀f,oH (fs.lookup f) (mA f))/\QL mA (fs.map (·.1))
 | .own _=>∃o,h.get? a=Ya o|.xd fs=>∃mA,h.Ns1 a mA/\∀f,oH (fs.lookup f) (mA f)|.K_ lo hi=>∃t u v,h.get? a=Ya {cls:=.type "range",data:=.fields #[.int lo t,.int hi u,.int 1 v]}|.cD o u=>h.get? a=Ya o/\cX H h a u
 | .wJ ps=>h.get? a=Ya {cls:=.none,data:=.fields ps}|.met f x=>h.get? a=Ya (Ql (.ref f) (.ref x))|.ext φ=>φ h/\(∃o,h.get? a=Ya o)/\∀h1 h2:aC,φ h1->(∀o,h1.get? a=Ya o->h2.get? a=Ya o)->φ h2
def e_(H:Hp)(h:aC):Prop:=∀a o,H a=Ya o->cX P w H h a o
end
section
variable {P:Y8} {w:aO} {H H':Hp} {h h':aC} {a:Yt} {o:HO}
theorem cX.lt(x:cX P w H h a o):a<h.objs.size:=by
 cases o with
 |lst xs=>obtain⟨_,_,_,_,e⟩:=x;exact Y2 e|tup xs=>obtain⟨_,_,_,p⟩:=x;exact p.tup.lt|dK kvs=>obtain⟨_,_,_,_,o,_,_,e,_⟩:=x;exact Y2 e|dT kvs=>obtain⟨_,_,_,_,o,_,_,e,_⟩:=x;exact Y2 e
 |set S n=>obtain⟨o,_,_,_,e,_⟩:=x;exact Y2 e|ins C dx fs=>obtain⟨_,_,_,e,_⟩:=x;exact Y2 e|own y=>obtain⟨_,e⟩:=x;exact Y2 e|xd fs=>obtain⟨_,⟨_,_,_,e,_⟩,_⟩:=x;exact Y2 e
 |K_ lo hi=>obtain⟨_,_,_,e⟩:=x;exact Y2 e|cD ob u=>obtain⟨e,_⟩:=x;exact Y2 e|wJ ps=>exact Y2 (show h.get? a=Ya _ from x)|met f y=>exact Y2 (show h.get? a=Ya _ from x)
 |ext φ=>obtain⟨_,⟨_,e⟩,_⟩:=x;exact Y2 e
theorem Paired.PX{α β:Type}{F G:α->β->Prop}:∀{l₁:List α} {l₂:List β},Paired F l₁ l₂->(∀a b,F a b->G a b)->Paired G l₁ l₂
 |_,_,.nil,_=>.nil|_,_,.cons r t,f=>.cons (f _ _ r) (Paired.PX t f)
theorem cX.stay(x:cX P w H h a o)(k:∀b u,(b=a\/H b=Ya (.own a))->h.get? b=Ya u->h'.get? b=Ya u)(ho:∀b,H b=Ya (.own a)->H' b=Ya (.own a))(ht:∀b xs,H b=Ya (.tup xs)->H' b=Ya (.tup xs)):cX P w H' h' a o:=by
 induction o with
 |lst xs=>obtain⟨z,its,n,r,e⟩:=x;exact⟨z,its,n,r,k _ _ (.inl rfl) e⟩|tup xs=>obtain⟨z,its,r,ob,e,c⟩:=x;exact⟨z,its,r,ob,k _ _ (.inl rfl) e,c⟩|dK kvs=>obtain⟨z,y,vs,r,ob,es,ep,e,c⟩:=x;exact⟨z,y,vs,r,ob,es,ep,k _ _ (.inl rfl) e,c⟩|dT kvs=>obtain⟨z,y,xs,r,ob,es,ep,e,c⟩:=x;exact⟨z,y,xs,Paired.PX r λp q z=>⟨z.1,ht _ _ z.2.1,z.2.2⟩,ob,es,ep,k _ _ (.inl rfl) e,c⟩
 |set S n=>obtain⟨ob,es,ep,t,e,c⟩:=x;exact⟨ob,es,ep,t,k _ _ (.inl rfl) e,c⟩|ins C dx fs=>obtain⟨d,z,ne,e,mA,⟨od,es,ep,e2,c⟩,r⟩:=x;exact⟨ho _ d,z,ne,k _ _ (.inl rfl) e,mA,⟨od,es,ep,k _ _ (.inr d) e2,c⟩,r⟩
 |own y=>obtain⟨ob,e⟩:=x;exact⟨ob,k _ _ (.inl rfl) e⟩|xd fs=>obtain⟨mA,⟨od,es,ep,e,c⟩,r⟩:=x;exact⟨mA,⟨od,es,ep,k _ _ (.inl rfl) e,c⟩,r⟩|K_ lo hi=>obtain⟨t,u,v,e⟩:=x;exact⟨t,u,v,k _ _ (.inl rfl) e⟩|cD ob u ih=>obtain⟨e,q⟩:=x;exact⟨k _ _ (.inl rfl) e,ih q⟩
 |wJ ps=>have e:h.get? a=Ya {cls:=.none,data:=.fields ps}:=x;show h'.get? a=Ya {cls:=.none,data:=.fields ps};exact k a _ (.inl rfl) e|met f y=>have e:h.get? a=Ya (Ql (.ref f) (.ref y)):=x;show h'.get? a=Ya (Ql (.ref f) (.ref y));exact k a _ (.inl rfl) e|ext φ=>obtain⟨p,⟨o,e⟩,st⟩:=x;exact⟨st _ _ p λo q=>k _ _ (.inl rfl) q,⟨o,k _ _ (.inl rfl) e⟩,st⟩
theorem e_.lt(x:e_ P w H h)(e:H a=Ya o):a<h.objs.size:=(x a o e).lt
theorem e_.fresh(x:e_ P w H h)(e:h.objs.size<=a):H a=Yk:=by
 cases q:H a with
 |none=>rfl|some u=>exact absurd (Y7 (x.lt q) e) (wA _)
theorem e_.kept(x:e_ P w H h)(k:∀b u,h.get? b=Ya u->h'.get? b=Ya u):e_ P w H h':=λa o e=>(x a o e).stay (λb u _ q=>k b u q) (λ_ q=>q) λ_ _ q=>q
theorem e_.laid(x:e_ P w H h)(k:∀b u,h.get? b=Ya u->h'.get? b=Ya u)(hp:h.objs.size<=a)(new:cX P w (upd H a o) h' a o):e_ P w (upd H a o) h':=λb u e=>by
 have hn:=x.fresh hp;by_cases hb:b=a
 .subst hb;rw[fV]at e;cases e;exact new
 .rw[bh hb]at e;exact(x b u e).stay (λc v _ q=>k c v q) (λc q=>by rw[bh (sH q hn)];exact q) λc xs q=>by rw[bh (sH q hn)];exact q
end
def Rd(H:Hp)(a:Yt)(u:HO):Prop:=H a=Ya u\/∃o,H a=Ya (.cD o u)
theorem Rd.ok{P:Y8}{w:aO}{h:aC}{a:Yt}{u:HO}(r:Rd H a u)(x:e_ P w H h):cX P w H h a u:=by
 rcases r with r|⟨o,r⟩
 .exact x a u r
 .obtain⟨_,q⟩:=x a _ r;exact q
noncomputable def La:Option HO->Prop
 |some (.lst _)=>True|some (.dK _)=>True|some (.dT _)=>True|some (.set _ _)=>True
 |some (.ins _ _ _)=>True|some (.ext _)=>True|_=>False
section
variable {P:Y8} {w:aO} {H:Hp} {h h':aC} {x e:Yt} {o':HO}
theorem e_.write(ok:e_ P w H h)(mu:La (H x))(he:e=x\/H e=Ya (.own x))(k:∀b u,b≠e->h.get? b=Ya u->h'.get? b=Ya u)(heo:∃u,h'.get? e=Ya u)(new:cX P w (upd H x o') h' x o'):e_ P w (upd H x o') h':=λb u q=>by
 have Xl:∀c y,H c=Ya (.own y)->c≠x:=λc y r z=>by subst z;rw[r]at mu;exact mu
 have AcL:∀c xs,H c=Ya (.tup xs)->c≠x:=λc xs r z=>by subst z;rw[r]at mu;exact mu
 by_cases hb:b=x
 .subst hb;rw[fV]at q;cases q;exact new
 .rw[bh hb]at q;by_cases hbe:b=e
  .have q':H b=Ya (.own x):=by
    rcases he with z|z
    .exact absurd (hbe.trans z) hb
    .rw[hbe];exact z
   rw[q]at q';cases q';obtain⟨v,hv⟩:=heo;exact⟨v,by rw[hbe];exact hv⟩
  .refine(ok b u q).stay (λc v hc r=>k c v ?_ r) (λc r=>by rw[bh (Xl c b r)];exact r) λc xs r=>by rw[bh (AcL c xs r)];exact r
   rcases hc with rfl|hc
   .exact hbe
   .rintro rfl;rcases he with z|z
    .exact Xl c b hc z
    .rw[hc]at z;cases z;exact hb rfl
end
structure Un(fs ex:List Yt)(H H':Hp)(h h':aC):Prop where
 keep:∀b o,h.get? b=Ya o->H b=Yk->b∉fs->b∉ex->h'.get? b=Ya o
 slot:∀b o,h.get? b=Ya o->H b=Yk->b∈fs->b∉ex->∃sl,h'.get? b=Ya {o with slots:=sl}
 free:∀b o,h.get? b=Ya o->H b=Yk->b∉ex->H' b=Yk
 there:∀b o,h.get? b=Ya o->b∉ex->∃o',h'.get? b=Ya o'
 tups:∀b xs,H b=Ya (.tup xs)->H' b=Ya (.tup xs)
 jZ:∀b o u,H b=Ya (.cD o u)->H' b=Ya (.cD o u)
 lG:∀b ps,H b=Ya (.wJ ps)->∃more,H' b=Ya (.wJ (ps++more))
section
variable {fs fs' ex ex':List Yt} {H H1 H2:Hp} {h h1 h2 h':aC} {a x e:Yt} {o:HO}
theorem Un.any(u:Un fs ex H H1 h h1){b:Yt}{ob:aD}(q:h.get? b=Ya ob)(n:H b=Yk)(hx:b∉ex):∃sl,h1.get? b=Ya {ob with slots:=sl}:=by
 by_cases hb:b∈fs
 .exact u.slot b ob q n hb hx
 .exact⟨ob.slots,u.keep b ob q n hb hx⟩
theorem Un.trans(a:Un fs ex H H1 h h1)(b:Un fs ex H1 H2 h1 h2):Un fs ex H H2 h h2 where
 keep:=λc ob q n hc hx=>b.keep c ob (a.keep c ob q n hc hx) (a.free c ob q n hx) hc hx
 slot:=λc ob q n hc hx=>by obtain⟨sl,e1⟩:=a.slot c ob q n hc hx;obtain⟨sl',e2⟩:=b.slot c _ e1 (a.free c ob q n hx) hc hx;exact⟨sl',e2⟩
 free:=λc ob q n hx=>by obtain⟨o',e1⟩:=a.there c ob q hx;exact b.free c o' e1 (a.free c ob q n hx) hx
 there:=λc ob q hx=>by obtain⟨o',e1⟩:=a.there c ob q hx;exact b.there c o' e1 hx
 tups:=λc xs q=>b.tups c xs (a.tups c xs q)
 jZ:=λc ob xs q=>b.jZ c ob xs (a.jZ c ob xs q)
 lG:=λc ps q=>by obtain⟨m1,e1⟩:=a.lG c ps q;obtain⟨m2,e2⟩:=b.lG c _ e1;exact⟨m1++m2,by rw[e2,Yki]⟩
theorem Un.kept(k:∀b u,h.get? b=Ya u->h'.get? b=Ya u):Un fs ex H H h h':=⟨λb ob q _ _ _=>k b ob q,λb ob q _ _ _=>⟨ob.slots,k b ob q⟩,λ_ _ _ n _=>n,λb ob q _=>⟨ob,k b ob q⟩,λ_ _ q=>q,λ_ _ _ q=>q,λ_ ps q=>⟨#[],by rw[q];simp⟩⟩
theorem Un.refl:Un fs ex H H h h:=Un.kept λ_ _ q=>q
theorem Un.laid(k:∀b u,h.get? b=Ya u->h'.get? b=Ya u)(hp:h.objs.size<=a)(hn:H a=Yk):Un fs ex H (upd H a o) h h' where
 keep:=λb u q _ _ _=>k b u q
 slot:=λb u q _ _ _=>⟨u.slots,k b u q⟩
 free:=λb u q n _=>by rw[bh (dG (Y7 (Y2 q) hp))];exact n
 there:=λb u q _=>⟨u,k b u q⟩
 tups:=λb xs q=>by rw[bh (sH q hn)];exact q
 jZ:=λb u xs q=>by rw[bh (sH q hn)];exact q
 lG:=λb ps q=>⟨#[],by rw[bh (sH q hn),q];simp⟩
theorem Un.write(mu:La (H x))(he:e=x\/H e=Ya (.own x))(k:∀b u,b≠e->h.get? b=Ya u->h'.get? b=Ya u)(heo:∃u,h'.get? e=Ya u):Un fs ex H (upd H x o) h h':=by
 have hx:∀b,H b=Yk->b≠x:=λb n z=>by subst z;rw[n]at mu;exact mu
 have hb:∀b,H b=Yk->b≠e:=λb n z=>by
  subst z;rcases he with r|r
  .exact hx b n r
  .rw[n]at r;cases r
 have hm:∀b u,H b=Ya u->¬La (Ya u)->b≠x:=λb u q nm z=>by subst z;rw[q]at mu;exact nm mu
 refine⟨λb u q n _ _=>k b u (hb b n) q,λb u q n _ _=>⟨u.slots,k b u (hb b n) q⟩,λb u q n _=>by rw[bh (hx b n)];exact n,λb u q _=>?_,
  λb xs q=>by rw[bh (hm b _ q λz=>z)];exact q,λb u xs q=>by rw[bh (hm b _ q λz=>z)];exact q,λb ps q=>⟨#[],by rw[bh (hm b _ q λz=>z),q];simp⟩⟩
 by_cases hbe:b=e
 .subst hbe;exact heo
 .exact⟨u,k b u hbe q⟩
theorem Un.mono(u:Un fs ex H H1 h h1)(hs:∀b∈fs,b∈fs')(hx:∀b∈ex,b∈ex'):Un fs' ex' H H1 h h1:=⟨λb ob q n hb he=>u.keep b ob q n (λz=>hb (hs b z)) λz=>he (hx b z),λ_ _ q n _ he=>u.any q n λz=>he (hx _ z),λb ob q n he=>u.free b ob q n λz=>he (hx b z),λb ob q he=>u.there b ob q λz=>he (hx b z),u.tups,u.jZ,u.lG⟩
end
noncomputable def yV(h:aC)(H:Hp):List Yt:=(jj h.objs.size).filter λa=>(H a).isSome
noncomputable def uO(h:aC)(H:Hp):aC:=XH h (yV h H)
theorem Zpo(h:aC)(H:Hp):(uO h H).objs.size=h.objs.size:=PySem.W.hideAll_size _ _
theorem Zri{h:aC}{b:Yt}{o:aD}(e:h.get? b=Ya o)(n:H b=Yk):(uO h H).get? b=Ya o:=Fv _ e λhm=>by have q:(H b).isSome=true:=(ZV.mp hm).2;rw[n]at q;simp at q
theorem Zuw{h:aC}{b:Yt}{o:aD}(e:(uO h H).get? b=Ya o):h.get? b=Ya o/\H b=Yk:=by
 have e':h.get? b=Ya o:=Xx (yV h H) e;refine⟨e',?_⟩;cases q:H b with
 |none=>rfl|some x=>have hm:b∈yV h H:=ZV.mpr ⟨Rc.mpr (Y2 e'),by simp[q]⟩;have z:(uO h H).get? b=Yk:=Xw (yV h H) hm;rw[z]at e;cases e
noncomputable def ZtR(g h:aC)(L:Yt):List (Yt×aD):=(jj h.objs.size).filterMap λa=>if a=L\/(g.get? a).isSome=true then Yk else(h.get? a).map λo=>(a,o)
noncomputable def rest(g h:aC)(L d:Yt):List (Yt×aD):=(ZtR g h L).filter λp=>decide (p.1≠d)
end L2
namespace L2
open PySem PySem.Spec PyProof.Rows
structure Mod(K:Yb)(mg:aj->Option Ye)(base:aC):Prop where
 yW:K.In base
 glob:base.Ns b7 mg
 blt:∃mb,base.Ns QS mb/\∀x:aj,x≠ "__name__" ->mb x=jA x
 nolimit:base.NoLimit
/--the context:a def's body (or a comprehension's block) running. base:fixed through the whole law;s₀,H₀:the entry;outer:the frames whose slots others may change(a def's callers);stack:all frames that run;
  ex:iterators that were made ahead of the entry and are walked here (a comprehension's);fn:the names whose cells were made at the entry (a def:all;a comprehension's block:its own);calm:not within an except suite;pn:pins that every state bears;xe:what is wanted of an exception that leaves the code -/
structure Cx where
 prog:Y8
 w:aO
 K:Yb
 mg:aj->Option Ye
 base:aC
 A:bC
 N:List aj
 s₀:Yf
 H₀:Hp
 env:cH
 outer:List cH
 stack:List cH
 ex:List Yt
 fn:aj->Bool
 calm:Bool
 pn:List (Yt×aD)
 xe:Ye->Yf->Prop
noncomputable def frs(l:List cH):List Yt:=l.filterMap (·.frame)
noncomputable abbrev Cx.fs(X:Cx):List Yt:=frs X.outer
def Lb(sc:Scope)(x:aj):Prop:=sc.names.lookup x=Ya .local\/sc.names.lookup x=Ya .cell\/sc.names.lookup x=Ya .free
def Loc(sc:Scope)(x:aj):Prop:=sc.names.lookup x=Ya .local\/sc.names.lookup x=Ya .cell
def Look(env:cH)(h:aC)(m:aj->Option Ye)(x:aj)(u:Ye):Prop:=(env.kindOf x=Ya .local/\m x=Ya u)\/((env.kindOf x=Ya .cell\/env.kindOf x=Ya .free)/\∃c,env.cells.lookup x=Ya c/\h.IsCell c (Ya u))
structure Cx.Ok(X:Cx):Prop where
 mod:Mod X.K X.mg X.base
 kind:X.env.scope.kind= .function
 glob:X.env.globals=b7
 blt:X.env.builtins=QS
 above:X.s₀.heap.objs.size<=X.env.locals
 inj:∀x y c,X.env.cells.lookup x=Ya c->X.env.cells.lookup y=Ya c->x=y
 has:∀x,(X.env.kindOf x=Ya .cell\/X.env.kindOf x=Ya .free)->∃c,X.env.cells.lookup x=Ya c
 cab:∀x c,X.fn x=true->X.env.cells.lookup x=Ya c->X.s₀.heap.objs.size<=c
 hd:X.calm=true->X.A.handled=Yk
 frames:X.A.frames=Ya X.stack
 BR:X.stack=X.outer\/(X.stack=X.env::X.outer/\X.env.frame=Ya X.env.locals)
 BV:∀b∈X.ex,b≠X.env.locals/\∀x c,X.env.cells.lookup x=Ya c->c≠b
 bs:∀b o,X.base.get? b=Ya o->X.s₀.heap.get? b=Ya o/\X.H₀ b=Yk
 oJ:X.base.objs.size<=X.s₀.heap.objs.size
 ye:∀b o,X.base.get? b=Ya o->b∉X.ex
 vM:∀b∈X.ex,b∉X.fs
 j4:X.s₀.heap.FunFrames X.base X.outer
 qJ:∀b∈X.fs,X.H₀ b=Yk
structure Inv(X:Cx)(pins:List (Yt×aD))(σ:List (Option V))(H:Hp)(s:Yf):Prop where
 ok:X.Ok
 os:s.os=X.s₀.os
 bare:sG s.gens
 base:Un X.fs X.ex X.H₀ H X.s₀.heap s.heap
 loc:∃m,s.heap.Ns X.env.locals m/\∀(i:Nat) (x:aj) (v:V),X.N[i]?=Ya x->σ[i]?=Ya (Ya v)->Lb X.env.scope x->∃u,RelV v u/\Look X.env s.heap m x u
 cell:∀x c,X.env.cells.lookup x=Ya c->∃v,s.heap.IsCell c v
 free:H X.env.locals=Yk
 jY:∀x c,X.env.cells.lookup x=Ya c->H c=Yk
 pin:∀p∈X.pn++pins,s.heap.get? p.1=Ya p.2/\H p.1=Yk/\p.1≠X.env.locals/\p.1∉X.fs/\∀v,p.2.data≠ .cell v
 hok:e_ X.prog X.w H s.heap
 len:σ.length=X.N.length
variable{ch:List Yt}{t':Nat}{E:Ye->Yf->Prop}
section
variable {X:Cx} {pins:List (Yt×aD)} {σ:List (Option V)} {H H':Hp} {s:Yf} {h':aC}
theorem Cx.Ok.AcM(ok:X.Ok){b:Yt}{o:aD}(e:X.base.get? b=Ya o):b∉X.fs:=λhb=>by have:=(ok.j4.mem hb).1;rw[e]at this;cases this
theorem Inv.bs(I:Inv X pins σ H s):∀b o,X.base.get? b=Ya o->s.heap.get? b=Ya o/\H b=Yk:=λb o e=>⟨I.base.keep b o (I.ok.bs b o e).1 (I.ok.bs b o e).2 (I.ok.AcM e) (I.ok.ye b o e),I.base.free b o (I.ok.bs b o e).1 (I.ok.bs b o e).2 (I.ok.ye b o e)⟩
theorem Inv.bk(I:Inv X pins σ H s):∀b o,X.base.get? b=Ya o->s.heap.get? b=Ya o:=λb o e=>(I.bs b o e).1
theorem Inv.mod(I:Inv X pins σ H s):Mod X.K X.mg X.base:=I.ok.mod
theorem Inv.bW(I:Inv X pins σ H s):X.K.In s.heap:=I.ok.mod.yW.keeps I.bk
theorem Inv.nolimit(I:Inv X pins σ H s):s.heap.NoLimit:=I.ok.mod.nolimit.keeps I.bk
theorem Inv.fr(I:Inv X pins σ H s):∃m,Fr X.base X.env.locals s.heap m:=
 let⟨m,hn,_⟩:=I.loc
 ⟨m,hn,I.bk,Yi I.ok.oJ I.ok.above⟩
theorem Inv.lt(I:Inv X pins σ H s):X.env.locals<s.heap.objs.size:=let⟨_,hn,_⟩:=I.loc;hn.lt
theorem Inv.sz(I:Inv X pins σ H s):X.s₀.heap.objs.size<=s.heap.objs.size:=Yi I.ok.above (wC I.lt)
theorem Inv.AcN(I:Inv X pins σ H s){a:Yt}(h:s.heap.objs.size<=a):a∉X.fs:=λhb=>by obtain⟨_,o,ho,_⟩:=I.ok.j4.mem hb;exact absurd (Y7 (Y2 ho) (Yi I.sz h)) (wA _)
theorem Inv.wK(I:Inv X pins σ H s):∀x c,X.env.cells.lookup x=Ya c->c≠X.env.locals:=λx c e z=>by obtain⟨v,o,ho,hd⟩:=I.cell x c e;obtain⟨m,⟨o',es,ep,ho',hd',_⟩,_⟩:=I.loc;rw[z,ho']at ho;cases ho;rw[hd']at hd;cases hd
theorem Inv.j4(I:Inv X pins σ H s):s.heap.FunFrames X.base X.outer:=by
 have all:∀(l:List cH),(∀b∈frs l,b∈X.fs)->X.s₀.heap.FunFrames X.base l->s.heap.FunFrames X.base l:=by
  intro l
  induction l with
  |nil=>intro _ _;trivial|cons env r ih=>intro hs hl;obtain⟨hk,⟨L,o,hf,hn,ho,hd⟩,hr⟩:=hl;have hL:L∈X.fs:=hs L (by unfold frs;rw[Q7,hf];exact Yl);obtain⟨sl,e⟩:=I.base.slot L o ho (I.ok.qJ L hL) hL λz=>I.ok.vM L z hL;exact⟨hk,⟨L,_,hf,hn,e,hd⟩,ih (λb hb=>hs b (by unfold frs;rw[Q7,hf];exact Yg _ hb)) hr⟩
 exact all X.outer (λ_ hb=>hb) I.ok.j4
theorem Inv.stack(I:Inv X pins σ H s):s.heap.FunFrames X.base X.stack:=by
 rcases I.ok.BR with e|⟨e,hf⟩
 .rw[e];exact I.j4
 .rw[e];obtain⟨m,hn,_⟩:=I.loc;refine .cons (by rw[I.ok.kind];decide) hf hn ?_ I.j4;exact Yes (Yi I.ok.oJ I.ok.above)
theorem Inv.A_(I:Inv X pins σ H s):∀b∈frs X.stack,b∈X.env.locals::X.fs:=λb hb=>by
 rcases I.ok.BR with e|⟨e,hf⟩
 .rw[e]at hb;exact Yg _ hb
 .rw[e]at hb;unfold frs at hb;rw[Q7,hf]at hb;exact hb
theorem Inv.Pu(I:Inv X pins σ H s):∀b∈frs X.stack,H b=Yk:=λb hb=>by
 rcases Yv.mp (I.A_ b hb)with e|hb
 .rw[e];exact I.free
 .obtain⟨_,o,ho,_⟩:=I.ok.j4.mem hb;exact I.base.free b o ho (I.ok.qJ b hb) λz=>I.ok.vM b z hb
theorem Inv.step{g':Array GenState}{d':Drawn}(I:Inv X pins σ H s)(hch:∀b∈ch,(b∈X.ex\/X.s₀.heap.objs.size<=b)/\b≠X.env.locals/\(∀x c,X.env.cells.lookup x=Ya c->c≠b)/\∀p∈X.pn++pins,p.1≠b)(keep:∀b o,b≠X.env.locals->b∉X.fs->b∉ch->s.heap.get? b=Ya o->H b=Yk->h'.get? b=Ya o)(slot:∀b o,b≠X.env.locals->b∈X.fs->b∉ch->s.heap.get? b=Ya o->H b=Yk->∃sl,h'.get? b=Ya {o with slots:=sl})(free:∀b o,b∉ch->s.heap.get? b=Ya o->H b=Yk->H' b=Yk)(there:∀b o,b∉ch->s.heap.get? b=Ya o->∃o',h'.get? b=Ya o')(tups:∀b xs,H b=Ya (.tup xs)->H' b=Ya (.tup xs))(jZ:∀b o u,H b=Ya (.cD o u)->H' b=Ya (.cD o u))(lG:∀b ps,H b=Ya (.wJ ps)->∃more,H' b=Ya (.wJ (ps++more)))(ns:∀m,s.heap.Ns X.env.locals m->h'.Ns X.env.locals m)(hok:e_ X.prog X.w H' h')(hg:sG g'):
  Inv X pins σ H' {s with heap:=h',gens:=g',drawn:=d',toks:=t'}:=by
 have neL:∀b o,X.s₀.heap.get? b=Ya o->b≠X.env.locals:=λb o e=>dG (Y7 (Y2 e) I.ok.above);have Ld:∀b o,X.s₀.heap.get? b=Ya o->b∉X.ex->b∉ch:=λb o e hx hb=>by
  rcases(hch b hb).1 with z|z
  .exact hx z
  .exact absurd (Y7 (Y2 e) z) (wA _)
 have cellK:∀x c,X.env.cells.lookup x=Ya c->∀v,s.heap.IsCell c v->h'.IsCell c v:=λx c e v ak=>by
  obtain⟨o,ho,hd⟩:=ak;have GC:c∉ch:=λz=>(hch c z).2.2.1 x c e rfl;by_cases hc:c∈X.fs
  .obtain⟨sl,q⟩:=slot c o (I.wK x c e) hc GC ho (I.jY x c e);exact⟨_,q,hd⟩
  .exact⟨o,keep c o (I.wK x c e) hc GC ho (I.jY x c e),hd⟩
 refine⟨I.ok,I.os,hg,⟨λb o e n hb hx=>?_,λb o e n hb hx=>?_,λb o e n hx=>?_,λb o e hx=>?_,λb xs e=>tups b xs (I.base.tups b xs e),λb o xs e=>jZ b o xs (I.base.jZ b o xs e),λb ps e=>?_⟩,?_,λx c e=>?_,?_,λx c e=>?_,λp hp=>?_,hok,I.len⟩
 .exact keep b o (neL b o e) hb (Ld b o e hx) (I.base.keep b o e n hb hx) (I.base.free b o e n hx)
 .obtain⟨sl,e1⟩:=I.base.slot b o e n hb hx;obtain⟨sl',e2⟩:=slot b _ (neL b o e) hb (Ld b o e hx) e1 (I.base.free b o e n hx);exact⟨sl',e2⟩
 .obtain⟨o',e1⟩:=I.base.there b o e hx;exact free b o' (Ld b o e hx) e1 (I.base.free b o e n hx)
 .obtain⟨o',e1⟩:=I.base.there b o e hx;exact there b o' (Ld b o e hx) e1
 .obtain⟨m1,e1⟩:=I.base.lG b ps e;obtain⟨m2,e2⟩:=lG b _ e1;exact⟨m1++m2,by rw[e2,Yki]⟩
 .obtain⟨m,hn,hl⟩:=I.loc;refine⟨m,ns m hn,λi x v e1 e2 e3=>?_⟩;obtain⟨u,r,l⟩:=hl i x v e1 e2 e3;refine⟨u,r,?_⟩;rcases l with l|⟨k,c,e,z⟩
  .exact .inl l
  .exact .inr ⟨k,c,e,cellK x c e _ z⟩
 .obtain⟨v,z⟩:=I.cell x c e;exact⟨v,cellK x c e v z⟩
 .obtain⟨m,⟨o,_,_,ho,_⟩,_⟩:=I.loc;exact free _ o (λz=>(hch _ z).2.1 rfl) ho I.free
 .obtain⟨v,o,ho,hd⟩:=I.cell x c e;exact free c o (λz=>(hch c z).2.2.1 x c e rfl) ho (I.jY x c e)
 .obtain⟨e,n,ne,nf,d⟩:=I.pin p hp;have GC:p.1∉ch:=λz=>(hch p.1 z).2.2.2 p hp rfl;exact⟨keep p.1 p.2 ne nf GC e n,free p.1 p.2 GC e n,ne,nf,d⟩
theorem Inv.un(I:Inv X pins σ H s)(u:Un X.fs [] H H' s.heap h')(hok:e_ X.prog X.w H' h'):Inv X pins σ H' {s with heap:=h',toks:=t'}:=by obtain⟨m,⟨o,es,ep,ho,r⟩,_⟩:=id I.loc;obtain⟨sl,hL⟩:=u.any ho I.free (by simp);exact I.step (g':=s.gens) (d':=s.drawn) (ch:=[]) (λ_ z=>nomatch z) (λb o _ hb _ e n=>u.keep b o e n hb (by simp)) (λb o _ hb _ e n=>u.slot b o e n hb (by simp)) (λb o _ e n=>u.free b o e n (by simp)) (λb o _ e=>u.there b o e (by simp)) u.tups u.jZ u.lG (λm' hm=>by obtain⟨o',es',ep',ho',r'⟩:=hm;rw[ho]at ho';cases ho';exact⟨_,es',ep',hL,r'⟩) hok I.bare
theorem Inv.call{g':Array GenState}{d':Drawn}(I:Inv X pins σ H s)(u:Un (frs X.stack) ch H H' s.heap h')(hok:e_ X.prog X.w H' h')(hg:sG g')(hch:∀b∈ch,(b∈X.ex\/X.s₀.heap.objs.size<=b)/\b≠X.env.locals/\(∀x c,X.env.cells.lookup x=Ya c->c≠b)/\∀p∈X.pn++pins,p.1≠b):
  Inv X pins σ H' {s with heap:=h',gens:=g',drawn:=d',toks:=t'}:=by
 obtain⟨m,⟨o,es,ep,ho,r⟩,_⟩:=id I.loc;obtain⟨sl,hL⟩:=u.any ho I.free λz=>(hch _ z).2.1 rfl;exact I.step (ch:=ch) hch (λb o hL hb hc e n=>u.keep b o e n (λz=>(Yv.mp (I.A_ b z)).elim hL hb) hc) (λb o _ _ hc e n=>u.any e n hc) (λb o hc e n=>u.free b o e n hc) (λb o hc e=>u.there b o e hc) u.tups u.jZ u.lG (λm' hm=>by obtain⟨o',es',ep',ho',r'⟩:=hm;rw[ho]at ho';cases ho';exact⟨_,es',ep',hL,r'⟩) hok hg
theorem Inv.turned{it:Yt}(I:Inv X pins σ H s)(k:∀b o,b≠it->s.heap.get? b=Ya o->h'.get? b=Ya o)(hn:H it=Yk)(hL:it≠X.env.locals)(h1:it∈X.ex\/X.s₀.heap.objs.size<=it)(h2:∀x c,X.env.cells.lookup x=Ya c->c≠it)(h3:∀p∈X.pn++pins,p.1≠it):Inv X pins σ H {s with heap:=h',toks:=t'}:=by
 have GD:∀b u,H b=Ya u->b≠it:=λb u e z=>by rw[z,hn]at e;cases e
 refine I.step (g':=s.gens) (d':=s.drawn) (ch:=[it]) (λb hb=>?_) (λb o _ _ hc e _=>k b o (λz=>hc (by simp[z])) e) (λb o _ _ hc e _=>⟨o.slots,k b o (λz=>hc (by simp[z])) e⟩) (λ_ _ _ _ n=>n)
  (λb o hc e=>⟨o,k b o (λz=>hc (by simp[z])) e⟩) (λ_ _ e=>e) (λ_ _ _ e=>e) (λb ps e=>⟨#[],by rw[e];simp⟩) (λm hm=>?_) (λb u e=>?_) I.bare
 .have e:b=it:=by simpa using hb
  subst e;exact⟨h1,hL,h2,h3⟩
 .obtain⟨o,es,ep,ho,r⟩:=hm;exact⟨o,es,ep,k _ o (bV hL) ho,r⟩
 .refine(I.hok b u e).stay (λc v hc q=>k c v ?_ q) (λ_ q=>q) λ_ _ q=>q;rcases hc with z|z
  .rw[z];exact GD b u e
  .exact GD c _ z
theorem Inv.tok(I:Inv X pins σ H s)(t:Nat):Inv X pins σ H {s with toks:=t}:=I.un (h':=s.heap) (t':=t) Un.refl I.hok
theorem Inv.kept(I:Inv X pins σ H s)(k:∀b u,s.heap.get? b=Ya u->h'.get? b=Ya u):Inv X pins σ H {s with heap:=h',toks:=t'}:=I.un (Un.kept k) (I.hok.kept k)
theorem Inv.laid{a:Yt}{o:HO}(I:Inv X pins σ H s)(k:∀b u,s.heap.get? b=Ya u->h'.get? b=Ya u)(hp:s.heap.objs.size<=a)(new:cX X.prog X.w (upd H a o) h' a o):
  Inv X pins σ (upd H a o) {s with heap:=h',toks:=t'}:=I.un (Un.laid k hp (I.hok.fresh hp)) (I.hok.laid k hp new)
theorem Inv.write{x e:Yt}{o:HO}(I:Inv X pins σ H s)(mu:La (H x))(he:e=x\/H e=Ya (.own x))(k:∀b u,b≠e->s.heap.get? b=Ya u->h'.get? b=Ya u)(heo:∃u,h'.get? e=Ya u)(new:cX X.prog X.w (upd H x o) h' x o):Inv X pins σ (upd H x o) {s with heap:=h',toks:=t'}:=I.un (Un.write mu he k heo) (I.hok.write mu he k heo new)
theorem Inv.W_{vL:List (Yt×aD)}(I:Inv X pins σ H s)(h:∀p∈vL,s.heap.get? p.1=Ya p.2/\H p.1=Yk/\p.1≠X.env.locals/\p.1∉X.fs/\∀v,p.2.data≠ .cell v):Inv X vL σ H s:=⟨I.ok,I.os,I.bare,I.base,I.loc,I.cell,I.free,I.jY,λp hp=>(jD.mp hp).elim (λz=>I.pin p (pG _ z)) (h p),I.hok,I.len⟩
theorem Sd{N:List aj}(hN:N.Nodup){i j:Nat}{x:aj}(a:N[i]?=Ya x)(b:N[j]?=Ya x):i=j:=by obtain⟨h1,e1⟩:=Yd.mp a;obtain⟨h2,e2⟩:=Yd.mp b;exact(ZP hN).mp (e1.trans e2.symm)
theorem Zkz{M:Model}{A:bC}{i:Nat}{x:aj}{v:V}{u:Ye}{Q:Unit->Yf->Prop}(I:Inv X pins σ H s)(hN:X.N.Nodup)(hi:X.N[i]?=Ya x)(hx:Loc X.env.scope x)(r:RelV v u)(h:∀s',Inv X pins (σ.set i (Ya v)) H s'->(∃a,Gh a s.heap s'.heap/\(a=X.env.locals\/X.env.cells.lookup x=Ya a))->Q () s')(hf:X.fn x=true\/X.env.scope.names.lookup x=Ya .local:=by first|exact .inl rfl|exact .inr rfl|assumption):ao M A (storeName X.env x u) Q E s:=by
 obtain⟨m,hn,hl⟩:=id I.loc;have hcls:(X.env.scope.kind== .class|| (X.env.scope.kind== .module&&X.env.locals !=X.env.globals))=false:=by rw[I.ok.kind];rfl
 have hiσ:i<σ.length:=by rw[I.len];exact(Yd.mp hi).1
 have wK:=I.wK;have tracked:∀{a:Yt} {h':aC},(∃o,s.heap.get? a=Ya o/\H a=Yk)->Gh a s.heap h'->e_ X.prog X.w H h':=λ{a h'} ha hs b ob e=>by
  obtain⟨_,_,hfree⟩:=ha;refine(I.hok b ob e).stay (λc w' hc q=>(hs.2 c ?_).trans q) (λ_ q=>q) λ_ _ q=>q;rintro rfl;rcases hc with rfl|hc
  .rw[hfree]at e;cases e
  .rw[hfree]at hc;cases hc
 rcases hx with hk|hk
 .refine X4 hk hn (λh' hn' hs=>?_) hcls;obtain⟨oL,_,_,hoL,_⟩:=id hn;refine h _ ⟨I.ok,I.os,I.bare,⟨λb o e n hb hx=>?_,λb o e n hb hx=>?_,I.base.free,λb o e hx=>?_,I.base.tups,I.base.jZ,I.base.lG⟩,⟨_,hn',λj y v' e1 e2 e3=>?_⟩,λy c e=>?_,I.free,I.jY,λp hp=>?_,tracked ⟨oL,hoL,I.free⟩ hs,by simpa using I.len⟩ ⟨_,hs,.inl rfl⟩
  .exact(hs.2 b (dG (Y7 (Y2 e) I.ok.above))).trans (I.base.keep b o e n hb hx)
  .obtain⟨sl,e1⟩:=I.base.slot b o e n hb hx;exact⟨sl,(hs.2 b (dG (Y7 (Y2 e) I.ok.above))).trans e1⟩
  .obtain⟨o',e1⟩:=I.base.there b o e hx;exact⟨o',(hs.2 b (dG (Y7 (Y2 e) I.ok.above))).trans e1⟩
  .by_cases hj:j=i
   .subst hj;rw[hi]at e1;cases e1;rw[Y4 hiσ]at e2;cases e2;exact⟨u,r,.inl ⟨hk,by simp⟩⟩
   .rw[Yu (bV hj)]at e2;obtain⟨u',r',q⟩:=hl j y v' e1 e2 e3;refine⟨u',r',?_⟩;rcases q with⟨k,e⟩|⟨k,c,e,z⟩
    .refine .inl ⟨k,?_⟩;have:y≠x:=λe=>hj (Sd hN e1 (e▸hi));simp[this,e]
    .exact .inr ⟨k,c,e,z.sameBut hs (wK y c e)⟩
  .obtain⟨w',z⟩:=I.cell y c e;exact⟨w',z.sameBut hs (wK y c e)⟩
  .obtain⟨e,n,ne,nf,d⟩:=I.pin p hp;exact⟨(hs.2 p.1 ne).trans e,n,ne,nf,d⟩
 .have hfn:X.fn x=true:=by
   rcases hf with z|z
   .exact z
   .rw[z]at hk;cases hk
  obtain⟨c,hc⟩:=I.ok.has x (.inl hk);obtain⟨w',z⟩:=I.cell x c hc;refine wpAny_storeName_cell I.ok.kind hk hc z (λh' hc' hs=>?_);obtain⟨oc,hoc,AcO⟩:=id z;refine h {s with heap:=h'} ⟨I.ok,I.os,I.bare,⟨λb o e n hb hx=>?_,λb o e n hb hx=>?_,I.base.free,λb o e hx=>?_,I.base.tups,I.base.jZ,I.base.lG⟩,⟨m,hn.sameBut hs (bV (wK x c hc)),λj y v' e1 e2 e3=>?_⟩,λy c' e=>?_,I.free,I.jY,λp hp=>?_,tracked ⟨oc,hoc,I.jY x c hc⟩ hs,by simpa using I.len⟩ ⟨c,hs,.inr hc⟩
  .exact(hs.2 b (dG (Y7 (Y2 e) (I.ok.cab x c hfn hc)))).trans (I.base.keep b o e n hb hx)
  .obtain⟨sl,e1⟩:=I.base.slot b o e n hb hx;exact⟨sl,(hs.2 b (dG (Y7 (Y2 e) (I.ok.cab x c hfn hc)))).trans e1⟩
  .obtain⟨o',e1⟩:=I.base.there b o e hx;exact⟨o',(hs.2 b (dG (Y7 (Y2 e) (I.ok.cab x c hfn hc)))).trans e1⟩
  .by_cases hj:j=i
   .subst hj;rw[hi]at e1;cases e1;rw[Y4 hiσ]at e2;cases e2;exact⟨u,r,.inr ⟨.inl hk,c,hc,hc'⟩⟩
   .rw[Yu (bV hj)]at e2;obtain⟨u',r',q⟩:=hl j y v' e1 e2 e3;refine⟨u',r',?_⟩;rcases q with q|⟨k,c',e,z'⟩
    .exact .inl q
    .refine .inr ⟨k,c',e,z'.sameBut hs ?_⟩;rintro rfl;exact hj (Sd hN e1 (I.ok.inj _ _ _ e hc▸hi))
  .by_cases hcc:c'=c
   .subst hcc;exact⟨_,hc'⟩
   .obtain⟨w2,z2⟩:=I.cell y c' e;exact⟨w2,z2.sameBut hs hcc⟩
  .obtain⟨e,n,ne,nf,d⟩:=I.pin p hp;refine⟨(hs.2 p.1 ?_).trans e,n,ne,nf,d⟩;intro q;rw[q,hoc]at e;have q':oc=p.2:=eZ e;exact d w' (by rw[←q'];exact AcO)
theorem Sg{M:Model}{A:bC}{i:Nat}{x:aj}{v:V}{u:Ye}{Q:Unit->Yf->Prop}(I:Inv X pins σ H s)(hN:X.N.Nodup)(hi:X.N[i]?=Ya x)(hx:Loc X.env.scope x)(r:RelV v u)(h:∀s',Inv X pins (σ.set i (Ya v)) H s'->Q () s')(hf:X.fn x=true\/X.env.scope.names.lookup x=Ya .local:=by first|exact .inl rfl|exact .inr rfl|assumption):ao M A (storeName X.env x u) Q E s:=Zkz I hN hi hx r (λs' I' _=>h s' I') hf
theorem Inv.call'{s':Yf}(I:Inv X pins σ H s)(ho:s'.os=s.os)(u:Un (frs X.stack) ch H H' s.heap s'.heap)(hok:e_ X.prog X.w H' s'.heap)(hg:sG s'.gens)(hch:∀b∈ch,(b∈X.ex\/X.s₀.heap.objs.size<=b)/\b≠X.env.locals/\(∀x c,X.env.cells.lookup x=Ya c->c≠b)/\∀p∈X.pn++pins,p.1≠b):Inv X pins σ H' s':=by obtain⟨h',g',d',t',o'⟩:=s';have e:o'=s.os:=ho;subst e;exact I.call (g':=g') (t':=t') (d':=d') u hok hg hch
end
noncomputable abbrev XK:=Ye->Option Yt->Hp->Prop
noncomputable abbrev St:=List (Option V)
noncomputable abbrev VK:=V->Hp->Prop
noncomputable abbrev TE:=St->Hp->VK->Prop
noncomputable abbrev TT:=St->Hp->(Bool->Hp->Prop)->Prop
noncomputable abbrev TA:=St->Hp->(List V->Hp->Prop)->Prop
structure Ends where
 nx:St->Hp->Prop
 rt:VK
 bk:St->Hp->Prop:=λ_ _=>False
 ct:St->Hp->Prop:=λ_ _=>False
noncomputable abbrev TS:=Ends->St->Hp->Prop
inductive EP(X:Cx)(pins:List (Yt×aD))(σ:St)(Q:VK)(u:Ye)(s':Yf):Prop where
 |mk (v:V) (H':Hp) (I:Inv X pins σ H' s') (r:RelV v u) (q:Q v H'):EP X pins σ Q u s'
inductive TP(X:Cx)(pins:List (Yt×aD))(σ:St)(Q:Bool->Hp->Prop)(b:Bool)(s':Yf):Prop where
 |mk (H':Hp) (I:Inv X pins σ H' s') (q:Q b H'):TP X pins σ Q b s'
inductive AP(X:Cx)(pins:List (Yt×aD))(σ:St)(Q:List V->Hp->Prop)(us:List Ye)(s':Yf):Prop where
 |mk (vs:List V) (H':Hp) (I:Inv X pins σ H' s') (r:Vals vs us) (q:Q vs H'):AP X pins σ Q us s'
def SP(X:Cx)(pins:List (Yt×aD))(D:Ends)(f:Flow)(s':Yf):Prop:=
 match f with
 | .next=>∃σ' H',Inv X pins σ' H' s'/\D.nx σ' H'|.brk=>∃σ' H',Inv X pins σ' H' s'/\D.bk σ' H'|.cont=>∃σ' H',Inv X pins σ' H' s'/\D.ct σ' H'|.ret u=>∃v σ' H',Inv X pins σ' H' s'/\RelV v u/\D.rt v H'
def PE(X:Cx)(e:Expr)(t:TE):Prop:=∀(pins:List (Yt×aD)) (s:Yf) (σ:St) (H:Hp) (Q:VK),Inv X pins σ H s->t σ H Q->ao (aq X.prog X.w) X.A (aF e X.env) (EP X pins σ Q) X.xe s
def PT(X:Cx)(e:Expr)(t:TT):Prop:=∀(pins:List (Yt×aD)) (s:Yf) (σ:St) (H:Hp) (Q:Bool->Hp->Prop),Inv X pins σ H s->t σ H Q->ao (aq X.prog X.w) X.A (isTrue e X.env (aF e X.env)) (TP X pins σ Q) X.xe s
def PW(X:Cx)(e:Expr)(t:TT):Prop:=∀(whole:lK Ye) (pins:List (Yt×aD)) (s:Yf) (σ:St) (H:Hp) (Q:Bool->Hp->Prop),Inv X pins σ H s->t σ H Q->ao (aq X.prog X.w) X.A (isTrue e X.env whole) (TP X pins σ Q) X.xe s
theorem PW.pt{X:Cx}{e:Expr}{t:TT}(h:PW X e t):PT X e t:=h _
def PA(X:Cx)(es:List Expr)(t:TA):Prop:=∀(pos:aP) (pins:List (Yt×aD)) (s:Yf) (σ:St) (H:Hp) (Q:List V->Hp->Prop),Inv X pins σ H s->t σ H Q->ao (aq X.prog X.w) X.A (FZ (bO pos (Yr es X.env))) (AP X pins σ Q) X.xe s
def PS(X:Cx)(st:Ydi)(t:TS):Prop:=∀(pins:List (Yt×aD)) (s:Yf) (σ:St) (H:Hp) (D:Ends),Inv X pins σ H s->t D σ H->ao (aq X.prog X.w) X.A (exec st X.env) (SP X pins D) X.xe s
def jl(X:Cx)(st:List Ydi)(t:TS):Prop:=∀(pins:List (Yt×aD)) (s:Yf) (σ:St) (H:Hp) (D:Ends),Inv X pins σ H s->t D σ H->ao (aq X.prog X.w) X.A (execs st X.env) (SP X pins D) X.xe s
theorem aH{α:Type}{t:lK α}{Q Q':α->Yf->Prop}{M:Model}{A:bC}{s:Yf}(h:ao M A t Q E s)(hQ:∀a s,Q a s->Q' a s):ao M A t Q' E s:=eY h hQ λ_ _ x=>x
end L2
namespace L2
open PySem PySem.Spec PyProof.Rows
section
variable {X:Cx}
def GF(i:Nat):TE:=λσ H Q=>∃v,σ[i]?=Ya (Ya v)/\Q v H
def tC(v:V):TE:=λ_ H Q=>Q v H
theorem GJ{i:Nat}{x:aj}{pos:aP}(hN:X.N[i]?=Ya x)(hv:Lb X.env.scope x)(hd:(x==("__debug__":aj))=false:=by decide)(hcd:(x==("__classdict__":aj))=false:=by decide):PE X (.Name x pos) (GF i):=by
 intro pins s σ H Q I h;obtain⟨v,e,h⟩:=h;obtain⟨m,hn,hl⟩:=I.loc;obtain⟨u,r,l⟩:=hl i x v hN e hv;have fin:EP X pins σ Q u s:=⟨v,H,I,r,h⟩;rcases l with⟨hk,hm⟩|⟨hk,c,hc,hcell⟩
 .exact QT (wpAny_loadName_local I.ok.kind hk hn hm fin) hd
 .rcases hk with hk|hk
  .exact QT (wpAny_loadName_cell I.ok.kind hk hc hcell fin) hd
  .exact QT (wpAny_loadName_free I.ok.kind hk hc hcell fin hcd) hd
theorem Sh{i j pos}:PE X (.Constant (.int i) j pos) (tC (.int i)):=λ_ _ _ H _ I h=>wpAny_Constant_int ⟨.int i,H,I.tok _,⟨_,rfl⟩,h⟩
theorem Zyk{b j pos}:PE X (.Constant (.bool b) j pos) (tC (.bl b)):=λ_ _ _ H _ I h=>Constant_bool ⟨.bl b,H,I,rfl,h⟩
theorem Zwh{j pos}:PE X (.Constant .none j pos) (tC .non):=λ_ _ _ H _ I h=>Constant_none ⟨.non,H,I,rfl,h⟩
theorem Sq{x j pos}:PE X (.Constant (.str x) j pos) (tC (.str x)):=λ_ _ _ H _ I h=>Calls.Constant_str ⟨.str x,H,I.tok _,⟨_,rfl⟩,h⟩
def Gl(X:Cx)(x:aj):Prop:=X.env.kindOf x=Ya .globalImplicit
theorem yX{E:Ye->Yf->Prop}{pins:List (Yt×aD)}{s:Yf}{σ:St}{H:Hp}{x:aj}{u:Ye}{pos:aP}{Q:Ye->Yf->Prop}(I:Inv X pins σ H s)(hg:Gl X x)(hm:X.mg x=Ya u)(h:Q u s)(hd:(x==("__debug__":aj))=false:=by decide):ao (aq X.prog X.w) X.A (aF (.Name x pos) X.env) Q E s:=Ygp I.ok.kind hg (Calls.loadGlobal_global (by rw[I.ok.glob];exact I.mod.glob.keeps I.bk) hm h) hd
theorem wL{E:Ye->Yf->Prop}{pins:List (Yt×aD)}{s:Yf}{σ:St}{H:Hp}{x:aj}{u:Ye}{pos:aP}{Q:Ye->Yf->Prop}(I:Inv X pins σ H s)(hg:Gl X x)(hm:X.mg x=Yk)(hv:jA x=Ya u)(h:Q u s)(hn:x≠ "__name__":=by decide)(hd:(x==("__debug__":aj))=false:=by decide):ao (aq X.prog X.w) X.A (aF (.Name x pos) X.env) Q E s:=by obtain⟨mb,h1,h2⟩:=I.mod.blt;exact Ygp I.ok.kind hg (Calls.loadGlobal_builtin (by rw[I.ok.glob];exact I.mod.glob.keeps I.bk) hm (by rw[I.ok.blt];exact h1.keeps I.bk) ((h2 x hn).trans hv) h) hd
theorem BW{x:aj}{v:V}{u:Ye}{pos:aP}(hg:Gl X x)(hm:X.mg x=Ya u)(r:RelV v u)(hd:(x==("__debug__":aj))=false:=by decide):PE X (.Name x pos) (tC v):=λ_ _ _ H _ I h=>yX I hg hm ⟨v,H,I,r,h⟩ hd
theorem Ss{x:aj}{v:V}{u:Ye}{pos:aP}(hg:Gl X x)(hm:X.mg x=Yk)(hv:jA x=Ya u)(r:RelV v u)(hn:x≠ "__name__":=by decide)(hd:(x==("__debug__":aj))=false:=by decide):PE X (.Name x pos) (tC v):=λ_ _ _ H _ I h=>wL I hg hm hv ⟨v,H,I,r,h⟩ hn hd
variable {a b:Expr} {ta tb:TE} {pos:aP}
def tB(t:TE):TT:=λσ H Q=>t σ H λx H1=>∃c,x= .bl c/\Q c H1
theorem ZwA{e:Expr}{t:TE}(h:PE X e t)(he:∀whole,isTrue e X.env whole=(do let v ←whole;Bl e.pos;uE [v] (truthy v)):=by intro _;rfl):PT X e (tB t):=by intro pins s σ H Q I hw;refine isTrue_plain (aH (h pins s σ H _ I hw) λv s1 ak=>?_) (he _);obtain⟨x,H1,I1,r1,q1⟩:=ak;obtain⟨d,rfl,q⟩:=q1;cases r1;exact uz ⟨H1,I1,q⟩
variable {tA Le:TT} {rest:List Expr}
def Zzd(t u:TT):TT:=λσ H Q=>t σ H λc H1=>if c=true then u σ H1 Q else Q false H1
def tOr(t u:TT):TT:=λσ H Q=>t σ H λc H1=>if c=true then Q true H1 else u σ H1 Q
def ZzT(t:TT):TT:=λσ H Q=>t σ H λc H1=>Q (!c) H1
theorem ZtM(ha:PT X a tA):PW X (.BoolOp .And [a] pos) tA:=by
 intro wh pins s σ H Q I h;refine isTrue_and (aH (ha pins s σ H Q I h) λc s1 e=>?_);cases c with
 |true=>exact isTrue_and_nil e|false=>exact e
theorem ZvY(ha:PT X a tA):PW X (.BoolOp .Or [a] pos) tA:=by
 intro wh pins s σ H Q I h;refine isTrue_or (aH (ha pins s σ H Q I h) λc s1 e=>?_);cases c with
 |false=>exact isTrue_or_nil e|true=>exact e
theorem ZvW(ha:PT X a tA)(hb:PW X (.BoolOp .And (b::rest) pos) Le):PW X (.BoolOp .And (a::b::rest) pos) (Zzd tA Le):=by
 intro wh pins s σ H Q I h;refine isTrue_and (aH (ha pins s σ H _ I h) λc s1 ak=>?_);obtain⟨H1,I1,q1⟩:=ak;cases c with
 |true=>exact hb wh pins s1 σ H1 Q I1 q1|false=>exact⟨H1,I1,q1⟩
theorem Zyl(ha:PT X a tA)(hb:PW X (.BoolOp .Or (b::rest) pos) Le):PW X (.BoolOp .Or (a::b::rest) pos) (tOr tA Le):=by
 intro wh pins s σ H Q I h;refine isTrue_or (aH (ha pins s σ H _ I h) λc s1 ak=>?_);obtain⟨H1,I1,q1⟩:=ak;cases c with
 |true=>exact⟨H1,I1,q1⟩|false=>exact hb wh pins s1 σ H1 Q I1 q1
theorem Zvn(ha:PT X a tA):PT X (.UnaryOp .Not a pos) (ZzT tA):=by intro pins s σ H Q I h;exact isTrue_not (aH (ha pins s σ H (λc H1=>Q (!c) H1) I h) λc s' ⟨H',I',q⟩=>⟨H',I',q⟩)
def ZxH(ta tb:TE):TE:=λσ H Q=>ta σ H λx H1=>∃c,x= .bl c/\if c=true then tb σ H1 Q else Q (.bl false) H1
def ZzK(ta tb:TE):TE:=λσ H Q=>ta σ H λx H1=>∃c,x= .bl c/\if c=true then Q (.bl true) H1 else tb σ H1 Q
def Zyf(ta:TE):TE:=λσ H Q=>ta σ H λx H1=>∃c,x= .bl c/\Q (.bl (!c)) H1
theorem ZvD{op}{t:TE}(h:PE X a t):PE X (.BoolOp op [a] pos) t:=λpins s σ H Q I hw=>BoolOp_one (h pins s σ H Q I hw)
theorem ZuY(ha:PE X a ta)(hb:PE X (.BoolOp .And (b::rest) pos) tb):PE X (.BoolOp .And (a::b::rest) pos) (ZxH ta tb):=by
 intro pins s σ H Q I h;refine BoolOp_and (aH (ha pins s σ H _ I h) λv s1 ak=>?_);obtain⟨x,H1,I1,r1,q1⟩:=ak;obtain⟨c,rfl,q1⟩:=q1;cases r1;refine uz ?_;cases c with
 |true=>exact hb pins s1 σ H1 Q I1 q1|false=>exact⟨.bl false,H1,I1,rfl,q1⟩
theorem Zyo(ha:PE X a ta)(hb:PE X (.BoolOp .Or (b::rest) pos) tb):PE X (.BoolOp .Or (a::b::rest) pos) (ZzK ta tb):=by
 intro pins s σ H Q I h;refine BoolOp_or (aH (ha pins s σ H _ I h) λv s1 ak=>?_);obtain⟨x,H1,I1,r1,q1⟩:=ak;obtain⟨c,rfl,q1⟩:=q1;cases r1;refine uz ?_;cases c with
 |false=>exact hb pins s1 σ H1 Q I1 q1|true=>exact⟨.bl true,H1,I1,rfl,q1⟩
theorem ZwC(ha:PE X a ta):PE X (.UnaryOp .Not a pos) (Zyf ta):=by intro pins s σ H Q I h;refine UnaryOp_ (aH (ha pins s σ H _ I h) λv s1 ak=>?_);obtain⟨x,H1,I1,r1,q1⟩:=ak;obtain⟨c,rfl,q1⟩:=q1;cases r1;exact not_of (uz ⟨.bl (!c),H1,I1,rfl,q1⟩)
def Su(t:TT)(ta tb:TE):TE:=λσ H Q=>t σ H λc H1=>if c=true then ta σ H1 Q else tb σ H1 Q
theorem Zrb{c:Expr}(hc:PT X c tA)(ha:PE X a ta)(hb:PE X b tb):PE X (.IfExp c a b pos) (Su tA ta tb):=by
 intro pins s σ H Q I h;refine wpAny_IfExp (aH (hc pins s σ H _ I h) λd s1 ak=>?_);obtain⟨H1,I1,q1⟩:=ak;cases d with
 |true=>exact ha pins s1 σ H1 Q I1 q1|false=>exact hb pins s1 σ H1 Q I1 q1
end
end L2
namespace L2
open PySem PySem.Spec PyProof.Rows
def bK(K:Yb)(H:Hp)(a:Yt)(xs:List V):Prop:=
 Rd H a (.lst xs)\/
  ∃(o:aD) (its:Array Ye) (n:Nat),K.lookup a=Ya o/\o.cls= .type "list" /\o.dict=Yk/\o.data= .seq its n/\its.size<=bB/\Vals xs its.toList
def cM(K:Yb)(H:Hp)(a:Yt)(xs:List V):Prop:=
 Rd H a (.tup xs)\/
  ∃(o:aD) (its:Array Ye) (n:Nat),K.lookup a=Ya o/\(o.cls= .type "tuple" /\o.dict=Yk)/\o.data= .seq its n/\its.size<=bB/\Vals xs its.toList
noncomputable def ZzY:Ye->Option V
 | .none=>Ya .non|.bool b=>Ya (.bl b)|.int i _=>Ya (.int i)|.str x _=>Ya (.str x)
 | .bytes b _=>Ya (.BP b)|.float b _=>Ya (.flt b)|.ref a=>Ya (.ref a)|.type n=>Ya (.ty n)
 |_=>Yk
theorem RelV.abs{x:V}{u:Ye}(r:RelV x u):ZzY u=Ya x:=by
 cases x with
 |non=>cases r;rfl|bl _=>cases r;rfl|int _=>obtain⟨t,rfl⟩:=r;rfl|str _=>obtain⟨t,rfl⟩:=r;rfl
 |BP _=>obtain⟨t,rfl⟩:=r;rfl|flt _=>obtain⟨t,rfl⟩:=r;rfl|ref _=>cases r;rfl|ty _=>cases r;rfl
theorem RelV.inj{x y:V}{u:Ye}(r:RelV x u)(q:RelV y u):x=y:=eZ (r.abs.symm.trans q.abs)
theorem Vals.inj:∀{xs ys:List V} {us:List Ye},Vals xs us->Vals ys us->xs=ys
 |_,_,_,.nil,.nil=>rfl|_,_,_,.cons r t,.cons r' t'=>by rw[r.inj r',Vals.inj t t']
variable{K:Yb}
section
variable {X:Cx} {pins:List (Yt×aD)} {σ:St} {H:Hp} {s:Yf} {a:Yt} {xs ys:List V}
theorem bK.of(h:H a=Ya (.lst xs)):bK K H a xs:=.inl (.inl h)
theorem cM.of(h:H a=Ya (.tup xs)):cM K H a xs:=.inl (.inl h)
theorem Inv.list(I:Inv X pins σ H s)(h:bK X.K H a xs):∃its:List Ye,Vals xs its/\PlainL s.heap a its.toArray/\xs.length<=bB:=by
 rcases h with h|⟨o,its,n,hk,hc,hd,hs,hz,r⟩
 .obtain⟨z,its,n,r,e⟩:=h.ok I.hok;exact⟨its,r,⟨_,n,e,rfl,rfl,rfl⟩,z⟩
 .refine⟨its.toList,r,⟨o,n,I.bW a o hk,hc,hd,by simpa using hs⟩,?_⟩;have e:=r.length;simp only[KJ]at e;omega
theorem Inv.tuple(I:Inv X pins σ H s)(h:cM X.K H a xs):∃its:List Ye,Vals xs its/\IsTup s.heap a its.toArray/\xs.length<=bB:=by
 rcases h with h|⟨o,its,n,hk,hc,hs,hz,r⟩
 .obtain⟨z,its,r,p⟩:=h.ok I.hok;exact⟨its,r,p.tup,z⟩
 .refine⟨its.toList,r,⟨o,I.bW a o hk,hc.1,n,by simpa using hs⟩,?_⟩;have e:=r.length;simp only[KJ]at e;omega
theorem Inv.JB(I:Inv X pins σ H s)(h:bK X.K H a xs)(h':bK X.K H a ys):xs=ys:=by
 obtain⟨its,r,⟨o,n,e,_,_,d⟩,_⟩:=I.list h;obtain⟨its',r',⟨o',n',e',_,_,d'⟩,_⟩:=I.list h';rw[e]at e';cases e';rw[d]at d';injection d' with d1 _;have:its=its':=by simpa using congrArg BJ d1
 subst this;exact r.inj r'
theorem Inv.Acn(I:Inv X pins σ H s)(h:cM X.K H a xs):∃its:List Ye,Vals xs its/\sI s.heap a its.toArray/\xs.length<=bB:=by
 rcases h with h|⟨o,its,n,hk,hc,hs,hz,r⟩
 .obtain⟨z,its,r,p⟩:=h.ok I.hok;exact⟨its,r,p,z⟩
 .refine⟨its.toList,r,⟨o,I.bW a o hk,hc,n,by simpa using hs⟩,?_⟩;have e:=r.length;simp only[KJ]at e;omega
theorem Inv.Pk(I:Inv X pins σ H s)(h:cM X.K H a xs)(h':cM X.K H a ys):xs=ys:=by
 obtain⟨its,r,⟨o,e,_,n,d⟩,_⟩:=I.tuple h;obtain⟨its',r',⟨o',e',_,n',d'⟩,_⟩:=I.tuple h';rw[e]at e';cases e';rw[d]at d';injection d' with d1 _;have:its=its':=by simpa using congrArg BJ d1
 subst this;exact r.inj r'
end
noncomputable abbrev Cx.wish(X:Cx)(E:Ye->Yf->Prop):Cx:={X with xe:=E}
noncomputable abbrev Cx.iD(X:Cx):Cx:=X.wish λ_ _=>False
theorem Cx.Ok.wish{X:Cx}(ok:X.Ok)(E:Ye->Yf->Prop):(X.wish E).Ok:=⟨ok.mod,ok.kind,ok.glob,ok.blt,ok.above,ok.inj,ok.has,ok.cab,ok.hd,ok.frames,ok.BR,ok.BV,ok.bs,ok.oJ,ok.ye,ok.vM,ok.j4,ok.qJ⟩
theorem Cx.Ok.nW{X:Cx}{E:Ye->Yf->Prop}(ok:(X.wish E).Ok):X.Ok:=⟨ok.mod,ok.kind,ok.glob,ok.blt,ok.above,ok.inj,ok.has,ok.cab,ok.hd,ok.frames,ok.BR,ok.BV,ok.bs,ok.oJ,ok.ye,ok.vM,ok.j4,ok.qJ⟩
variable{e:Expr}
section
variable {X:Cx} {pins:List (Yt×aD)} {σ:St} {H:Hp} {s:Yf} {E:Ye->Yf->Prop}
theorem Inv.wish(I:Inv X pins σ H s)(E:Ye->Yf->Prop):Inv (X.wish E) pins σ H s:=⟨I.ok.wish E,I.os,I.bare,I.base,I.loc,I.cell,I.free,I.jY,I.pin,I.hok,I.len⟩
theorem Inv.nW(I:Inv (X.wish E) pins σ H s):Inv X pins σ H s:=⟨I.ok.nW,I.os,I.bare,I.base,I.loc,I.cell,I.free,I.jY,I.pin,I.hok,I.len⟩
theorem SP.nW{D:Ends}{f:Flow}{s':Yf}(h:SP (X.wish E) pins D f s'):SP X pins D f s':=by
 cases f with
 |next=>obtain⟨σ',H',I,q⟩:=h;exact⟨σ',H',I.nW,q⟩|brk=>obtain⟨σ',H',I,q⟩:=h;exact⟨σ',H',I.nW,q⟩|cont=>obtain⟨σ',H',I,q⟩:=h;exact⟨σ',H',I.nW,q⟩|ret u=>obtain⟨v,σ',H',I,r,q⟩:=h;exact⟨v,σ',H',I.nW,r,q⟩
theorem PE.iD{t:TE}(h:PE X.iD e t):PE X e t:=λpins s σ H Q I hw=>eY (h pins s σ H Q (I.wish _) hw) (λ_ _ ⟨v,H',I',r,q⟩=>⟨v,H',I'.nW,r,q⟩) λ_ _ z=>dX z
theorem PT.iD{t:TT}(h:PT X.iD e t):PT X e t:=λpins s σ H Q I hw=>eY (h pins s σ H Q (I.wish _) hw) (λ_ _ ⟨H',I',q⟩=>⟨H',I'.nW,q⟩) λ_ _ z=>dX z
theorem jl.iD{st:List Ydi}{t:TS}(h:jl X.iD st t):jl X st t:=λpins s σ H D I hw=>eY (h pins s σ H D (I.wish _) hw) (λ_ _ q=>q.nW) λ_ _ z=>dX z
end
section
variable {X:Cx} {st:Ydi} {rest:List Ydi} {t u:TS} {e:Expr} {te:TE} {pos:aP}
def ZxW:TS:=λD σ H=>D.nx σ H
def ZxI(t u:TS):TS:=λD σ H=>t {D with nx:=u D} σ H
theorem ZsZ:jl X [] ZxW:=λ_ _ σ H _ I h=>Fx ⟨σ,H,I,h⟩
theorem Sv(h1:PS X st t)(h2:jl X rest u):jl X (st::rest) (ZxI t u):=by
 intro pins s σ H D I h;refine YH (aH (h1 pins s σ H {D with nx:=u D} I h) λf s1 q=>?_);cases f with
 |next=>obtain⟨σ',H',I',q⟩:=q;exact h2 pins s1 σ' H' D I' q|ret v=>exact q|brk=>exact q
 |cont=>exact q
theorem Sw(h1:PS X st t):jl X [st] t:=by
 intro pins s σ H D I h;refine YH (aH (h1 pins s σ H D I h) λf s1 q=>?_);cases f with
 |next=>exact Fx q|ret v=>exact q|brk=>exact q|cont=>exact q
theorem Inv.quiet{pins:List (Yt×aD)}{σ:St}{H:Hp}{s:Yf}(I:Inv X pins σ H s):interactive X.env=false:=by simp[interactive,I.ok.kind]
def ZuK(te:TE):TS:=λD σ H=>te σ H λ_ H1=>D.nx σ H1
theorem Sx(he:PE X e te)(hs:rY e Yk pos.line X.env=pure false:=by rfl):PS X (.Expr e pos) (ZuK te):=by intro pins s σ H D I h;exact wpAny_Expr_any (aH (he pins s σ H _ I h) λv s1 ⟨x,H1,I1,r1,q1⟩=>⟨σ,H1,I1,q1⟩) I.quiet hs
def ZzC(te:TE):TS:=λD σ H=>te σ H D.rt
theorem ZqL(he:PE X e te):PS X (.Return (Ya e) pos) (ZzC te):=by intro pins s σ H D I h;exact wpAny_Return_some (aH (he pins s σ H _ I h) λv s1 ⟨x,H1,I1,r1,q1⟩=>⟨x,σ,H1,I1,r1,q1⟩)
def ZzV(c:TT)(t u:TS):TS:=λD σ H=>c σ H λb H1=>if b=true then t D σ H1 else u D σ H1
theorem ZuR{c:Expr}{a b:List Ydi}{tc:TT}(hc:PT X c tc)(ha:jl X a t)(hb:jl X b u):PS X (.If c a b pos) (ZzV tc t u):=by
 intro pins s σ H D I h;refine wpAny_If (aH (hc pins s σ H _ I h) λd s1 ak=>?_);obtain⟨H1,I1,q1⟩:=ak;cases d with
 |true=>exact ha pins s1 σ H1 D I1 q1|false=>exact hb pins s1 σ H1 D I1 q1
end
noncomputable abbrev TG:=V->St->Hp->(St->Hp->Prop)->Prop
noncomputable abbrev uP:=List V->St->Hp->(St->Hp->Prop)->Prop
def PG(X:Cx)(target:Expr)(t:TG):Prop:=
 ∀(pins:List (Yt×aD)) (s:Yf) (σ:St) (H:Hp) (v:V) (u:Ye) (Q:St->Hp->Prop),Inv X pins σ H s->RelV v u->t v σ H Q ->
  ao (aq X.prog X.w) X.A (n6 target X.env u) (λ_ s'=>∃σ' H',Inv X pins σ' H' s'/\Q σ' H') X.xe s
def sJ(X:Cx)(ts:List Expr)(t:uP):Prop:=
 ∀(pins:List (Yt×aD)) (s:Yf) (σ:St) (H:Hp) (vs:List V) (us:List Ye) (Q:St->Hp->Prop),Inv X pins σ H s->Vals vs us->t vs σ H Q ->
  ao (aq X.prog X.w) X.A (assignInOrder ((qC ts X.env).map (·.2)) us) (λ_ s'=>∃σ' H',Inv X pins σ' H' s'/\Q σ' H') X.xe s
noncomputable abbrev Sy:=V->V->V->Hp->(Hp->Prop)->Prop
def Zys(X:Cx)(t:Sy):Prop:=
 ∀(pins:List (Yt×aD)) (s:Yf) (σ:St) (H:Hp) (o i v:V) (ov iv u:Ye) (Q:Hp->Prop),Inv X pins σ H s->RelV o ov->RelV i iv->RelV v u->t o i v H Q ->
  ao (aq X.prog X.w) X.A (setItem ov iv u) (λ_ s'=>∃H',Inv X pins σ H' s'/\Q H') X.xe s
variable{tg:Expr}
section
variable {X:Cx} {pos:aP}
def Zuz(i:Nat):TG:=λv σ H Q=>Q (σ.set i (Ya v)) H
theorem Zpj{i:Nat}{x:aj}(hN:X.N.Nodup)(hi:X.N[i]?=Ya x)(hx:Loc X.env.scope x)(hf:X.fn x=true\/X.env.scope.names.lookup x=Ya .local:=by first|exact .inl rfl|exact .inr rfl|assumption):PG X (.Name x pos) (Zuz i):=by intro pins s σ H v u Q I r h;exact YC (Sg I hN hi hx r (λs' I'=>⟨_,H,I',h⟩) hf)
def Zzy:uP:=λvs σ H Q=>vs=[]/\Q σ H
def Zye(t:TG)(u:uP):uP:=λvs σ H Q=>∃v r,vs=v::r/\t v σ H λσ' H'=>u r σ' H' Q
theorem Zt0:sJ X [] Zzy:=by intro pins s σ H vs us Q I r h;obtain⟨e,h⟩:=h;subst e;cases r;exact assignInOrder_nil ⟨σ,H,I,h⟩
theorem Zso{es:List Expr}{t:TG}{u:uP}(h1:PG X e t)(h2:sJ X es u)(hs:(qC (e::es) X.env).map (·.2)=n6 e X.env::(qC es X.env).map (·.2):=by rfl):sJ X (e::es) (Zye t u):=by
 intro pins s σ H vs us Q I r h;obtain⟨v,vr,e1,h⟩:=h;subst e1;cases r with
 |cons r rr=>rw[hs];refine assignInOrder_cons (aH (h1 pins s σ H _ _ _ I r h) λ_ s1 ak=>?_);obtain⟨σ1,H1,I1,q1⟩:=ak;exact h2 pins s1 σ1 H1 _ _ Q I1 rr q1
def ZzN(K:Yb)(n:Nat)(t:uP):TG:=λv σ H Q=>∃a xs,v= .ref a/\cM K H a xs/\xs.length=n/\t xs σ H Q
theorem Zwv{es:List Expr}{k:Nat}{t:uP}{n:Nat}(hc:X.calm=true)(h:sJ X es t)(hn:(qC es X.env).length=n:=by rfl)(hst:(qC es X.env).findIdx? (·.1)=Yk:=by rfl):PG X (.Tuple es k pos) (ZzN X.K n t):=by intro pins s σ H v u Q I r hw;obtain⟨a,xs,e1,hq,hl,hw⟩:=hw;subst e1;cases r;obtain⟨its,rv,ht,hz⟩:=I.tuple hq;refine assign_Tuple_tuple (I.ok.hd hc) ht (by simp[hn,←hl,rv.length]) hst λh' hx=>?_;have I1:Inv X pins σ H {s with heap:=h'}:=I.kept (t':=s.toks) λb o e=>hx b o (dG (Y2 e)) e;exact h pins _ σ H xs _ Q I1 (by simpa using rv) hw
def ZzQ(to ti:TE)(t:Sy):TG:=λv σ H Q=>to σ H λo H1=>ti σ H1 λi H2=>t o i v H2 λH3=>Q σ H3
theorem ZuV{o i:Expr}{to ti:TE}{t:Sy}(ho:PE X o to)(hi:PE X i ti)(hs:Zys X t)(ha:∀v,n6 (.Subscript o i pos) X.env v=(do
   let ov ←uE [v] (aF o X.env)
   let iv ←uE [v,ov] (aF i X.env)
   Bl pos
   uE [v,ov,iv] (setItem ov iv v)
   release [v,ov,iv] []):=by intro _;rfl):PG X (.Subscript o i pos) (ZzQ to ti t):=by
 intro pins s σ H v u Q I r h;rw[ha];refine Yc (gG (aH (ho pins s σ H _ I h) λov s1 ak=>?_));obtain⟨x,H1,I1,r1,q1⟩:=ak;refine Yc (gG (aH (hi pins s1 σ H1 _ I1 q1) λiv s2 ak=>?_));obtain⟨y,H2,I2,r2,q2⟩:=ak;refine Yc (uD (Yc (gG (aH (hs pins s2 σ H2 x y v ov iv u _ I2 r1 r2 r q2) λ_ s3 ak=>?_))));obtain⟨H3,I3,q3⟩:=ak;exact wpAny_release ⟨σ,H3,I3,q3⟩
def ZxG(te:TE)(g:TG):TS:=λD σ H=>te σ H λx H1=>g x σ H1 D.nx
theorem ZvX{te:TE}{g:TG}(he:PE X e te)(hg:PG X tg g)(hs:swapsWithSole [tg] e pos.line X.env=pure false:=by rfl)(hw:swappedStores [tg] e X.env=pure Yk:=by rfl)(h1:(qC [tg] X.env).map (·.2)=[n6 tg X.env]:=by rfl):PS X (.Assign [tg] e pos) (ZxG te g):=by intro pins s σ H D I h;refine wpAny_Assign_stores (aH (he pins s σ H _ I h) λv s1 ak=>?_) hs hw;obtain⟨x,H1,I1,r1,q1⟩:=ak;rw[h1];exact aH (hg pins s1 σ H1 x v _ I1 r1 q1) λ_ s2 q=>q
theorem Zsg{i:Nat}{x:aj}{te:TE}{pos':aP}(hN:X.N.Nodup)(hi:X.N[i]?=Ya x)(hx:Loc X.env.scope x)(he:PE X e te)(hs:rY e (Ya (.Name x pos')) pos.line X.env=pure false:=by rfl)(hf:X.fn x=true\/X.env.scope.names.lookup x=Ya .local:=by first|exact .inl rfl|exact .inr rfl|assumption):
  PS X (.Assign [.Name x pos'] e pos) (ZxG te (Zuz i)):=by
 intro pins s σ H D I h;refine wpAny_Assign_Name (aH (he pins s σ H _ I h) λv s1 ak=>?_) hs;obtain⟨y,H1,I1,r1,q1⟩:=ak;exact Sg I1 hN hi hx r1 (λs2 I2=>⟨_,H1,I2,q1⟩) hf
end
section
variable {X:Cx} {pos:aP}
def Zvv(c:TT)(tb:TS):TS:=λD σ H=>∃W:Nat->St->Hp->Prop,(∃m,W m σ H)/\∀m σ H,W m σ H ->
 c σ H λb H1=>if b=true then∃N:St->Hp->Prop,(∀σ' H',N σ' H'->∃m',m'<m/\W m' σ' H')/\tb {D with nx:=N,ct:=N,bk:=D.nx} σ H1 else D.nx σ H1
theorem Zr7{c:Expr}{body:List Ydi}{tc:TT}{tb:TS}(hp:Q0 (aq X.prog X.w) X.A X.env X.xe)(hc:PT X c tc)(hb:jl X body tb):PS X (.While c body [] pos) (Zvv tc tb):=by
 intro pins s σ H D I h;obtain⟨W,⟨m0,w0⟩,turn⟩:=h;refine wpAny_While (codeAny_whileLoop (λn s'=>∃σ' H',Inv X pins σ' H' s'/\W n σ' H') ?_ m0 ⟨σ,H,I,w0⟩);rintro n s1 ⟨σ1,H1,I1,w1⟩;refine yq hp (aH (hc pins s1 σ1 H1 _ I1 (turn n σ1 H1 w1)) λb s2 ak=>?_);obtain⟨H2,I2,q2⟩:=ak;cases b with
 | true=>
  obtain⟨N,hN,q2⟩:=q2;rw[if_pos rfl];refine yq hp (aH (hb pins s2 σ1 H2 _ I2 q2) λf s3 q3=>?_);cases f with
  |next=>obtain⟨σ3,H3,I3,n3⟩:=q3;obtain⟨m',hm,w3⟩:=hN σ3 H3 n3;exact⟨m',hm,σ3,H3,I3,w3⟩|cont=>obtain⟨σ3,H3,I3,n3⟩:=q3;obtain⟨m',hm,w3⟩:=hN σ3 H3 n3;exact⟨m',hm,σ3,H3,I3,w3⟩|brk=>exact q3|ret v=>exact q3
 |false=>rw[if_neg j_];exact Fx ⟨σ1,H2,I2,q2⟩
end
structure It where
 go:Nat->Hp->Prop
 Lf:Nat->Hp->V->Hp->Prop
 stop:Nat->Hp->Prop
def iu(X:Cx)(pins:List (Yt×aD))(H:Hp)(b:Yt):Prop:=H b=Yk/\b≠X.env.locals/\b∉X.fs/\(b∈X.ex\/X.s₀.heap.objs.size<=b)/\(∀x c,X.env.cells.lookup x=Ya c->c≠b)/\∀p∈X.pn++pins,p.1≠b
theorem Inv.ul{X:Cx}{pins:List (Yt×aD)}{σ:St}{H H':Hp}{s:Yf}{b:Yt}(I:Inv X pins σ H s)(hb:s.heap.objs.size<=b)(hn:H' b=Yk):iu X pins H' b:=by
 refine⟨hn,Bu (Y7 I.lt hb),I.AcN hb,.inr (Yi I.sz hb),λx c e z=>?_,λp hp z=>?_⟩
 .obtain⟨v,q⟩:=I.cell x c e;exact absurd (Y7 q.lt (by rw[z];exact hb)) (wA _)
 .exact absurd (Y7 (Y2 (I.pin p hp).1) (by rw[z];exact hb)) (wA _)
structure Turn(P:Y8)(w:aO)(K:Yb)(tg:Expr)(J:It)(fp:List Yt)(it:Yt)(tn:Nat->aC->Prop):Prop where
 mem:it∈fp
 obj:∀i h,tn i h->∀b∈fp,∃o,h.get? b=Ya o/\∀v,o.data≠ .cell v
 keep:∀i h h',tn i h->(∀b∈fp,∀o,h.get? b=Ya o->h'.get? b=Ya o)->tn i h'
 item:∀(X:Cx),X.prog=P->X.w=w->X.K=K->X.calm=true->∀(i:Nat) (pins:List (Yt×aD)) (s:Yf) (σ:St) (H:Hp) (E:Ye->Yf->Prop),Inv X pins σ H s->(∀b∈fp,iu X pins H b)->tn i s.heap->J.go i H ->
  ao (aq P w) X.A (vZ (.ref it)) (λr s1=>∃u,r=Ya u/\
   ao (aq P w) X.A (Fy tg (.ref it) u) (λ_ s2=>∃x H',Inv X pins σ H' s2/\RelV x u/\J.Lf i H x H'/\tn (i+1) s2.heap/\∀b∈fp,H' b=Yk) E s1) E s
 done:∀(X:Cx),X.prog=P->X.w=w->X.K=K->X.calm=true->∀(i:Nat) (pins:List (Yt×aD)) (s:Yf) (σ:St) (H:Hp) (E:Ye->Yf->Prop),Inv X pins σ H s->(∀b∈fp,iu X pins H b)->tn i s.heap->J.stop i H ->
  ao (aq P w) X.A (vZ (.ref it)) (λr s1=>r=Yk/\Inv X pins σ H s1) E s
 self:∀(A:bC) (i:Nat) (s:Yf) (Q:Ye->Yf->Prop) (E:Ye->Yf->Prop),tn i s.heap->Q (.ref it) s->ao (aq P w) A (Bp (.ref it)) Q E s
noncomputable abbrev TI:=St->Hp->(It->Hp->Prop)->Prop
def PIE(X:Cx)(pins:List (Yt×aD))(σ:St)(tg:Expr)(R:It->Hp->Prop)(itv:Ye)(s2:Yf):Prop:=∃(it:Yt) (fp:List Yt) (tn:Nat->aC->Prop) (J:It) (H':Hp),itv= .ref it/\Inv X pins σ H' s2/\Turn X.prog X.w X.K tg J fp it tn/\tn 0 s2.heap/\(∀b∈fp,iu X pins H' b)/\R J H'
def PI(X:Cx)(tg iter:Expr)(wi:TI):Prop:=
 ∀(pins:List (Yt×aD)) (s:Yf) (σ:St) (H:Hp) (R:It->Hp->Prop),Inv X pins σ H s->wi σ H R ->
  ao (aq X.prog X.w) X.A (aF iter X.env) (λv s1=>ao (aq X.prog X.w) X.A (Bp v) (PIE X pins σ tg R) X.xe s1) X.xe s
theorem GK{M:Model}{A:bC}{E:Ye->Yf->Prop}{s:Yf}{it:Yt}{u:Ye}{o:aD}{n:String}{vs:Array Ye}{Q:Unit->Yf->Prop}(ho:s.heap.get? it=Ya o)(hc:o.cls= .type n)(hd:o.data= .fields vs)(hn:["enumerate","zip","dict_itemiterator","dict_reverseitemiterator","odict_iterator","itertools.zip_longest","itertools.pairwise"].contains n=false)(hQ:Q () s):ao M A (Fy tg (.ref it) u) Q E s:=by
 unfold Fy;cases tg<;>first
  |exact Yp hQ
  | (cases u<;>first
    |exact Yp hQ
    | (refine Yc (wpAny_load ho ?_)
       rw[hc,hd];show ao M A (if(["enumerate","zip","dict_itemiterator","dict_reverseitemiterator","odict_iterator","itertools.zip_longest","itertools.pairwise"].contains n&&vs[0]?==Ya (lJ _))=true then _ else _) Q E s;rw[if_neg (by intro h;rw[hn,Rp]at h;cases h)];exact Yp hQ))
noncomputable def Itl(K:Yb)(a:Yt):It:=⟨λi H=>∃xs x,bK K H a xs/\xs[i]?=Ya x,λi H x H'=>H'=H/\∀xs,bK K H a xs->xs[i]?=Ya x,λi H=>∃xs,bK K H a xs/\xs.length<=i⟩
noncomputable def Itt(K:Yb)(a:Yt):It:=⟨λi H=>∃xs x,cM K H a xs/\xs[i]?=Ya x,λi H x H'=>H'=H/\∀xs,cM K H a xs->xs[i]?=Ya x,λi H=>∃xs,cM K H a xs/\xs.length<=i⟩
noncomputable def Lg(lo:Int)(n:Nat):It:=⟨λi _=>i<n,λi H x H'=>H'=H/\x= .int (lo+i),λi _=>n<=i⟩
theorem ZpP{P:Y8}{w:aO}(a it:Yt):Turn P w K tg (Itl K a) [it] it (λi h=>h.IsListIter it a i)where
 mem:=by simp
 obj:=λi h st b hb=>by
  have e:b=it:=by simpa using hb
  subst e;obtain⟨o,e,c,d⟩:=st;exact⟨o,e,λv z=>by rw[d]at z;cases z⟩
 keep:=λi h h' st k=>st.at λo e=>k it (by simp) o e
 item:=by intro X hP hw hK hc i pins s σ H E I hf st hg;subst hP hw hK;obtain⟨xs,x,hq,hx⟩:=hg;obtain⟨its,rv,p,hz⟩:=I.list hq;obtain⟨u,hu,ru⟩:=rv.get hx;obtain⟨f0,f1,f2,f3,f4,f5⟩:=hf it (by simp);refine wpAny_pyNext_list_item st p.isList (x:=u) (by simpa using hu) λh' st' sb=>?_;have I1:Inv X pins σ H {s with heap:=h'}:=I.turned (t':=s.toks) (λb o hb e=>(sb.2 b hb).trans e) f0 f1 f3 f4 f5;obtain⟨o,e,c,d⟩:=id st';exact⟨u,rfl,GK (s:={s with heap:=h'}) e c d (by decide) ⟨x,H,I1,ru,⟨rfl,λys hy=>by rw[I.JB hy hq];exact hx⟩,st',λb hb=>(hf b hb).1⟩⟩
 done:=by intro X hP hw hK hc i pins s σ H E I hf st hg;subst hP hw hK;obtain⟨xs,hq,hx⟩:=hg;obtain⟨its,rv,p,hz⟩:=I.list hq;obtain⟨f0,f1,f2,f3,f4,f5⟩:=hf it (by simp);have hl:=rv.length;exact wpAny_pyNext_list_end (I.ok.hd hc) st p.isList (by simp;omega) λh' eb=>⟨rfl,I.turned (t':=s.toks) (λb o hb e=>eb b o hb e) f0 f1 f3 f4 f5⟩
 self:=λ_ _ _ _ _ st h=>wpAny_pyIter_listiter st h
theorem ZnV{P:Y8}{w:aO}(a it:Yt):Turn P w K tg (Itt K a) [it] it (λi h=>h.IsTupleIter it a i)where
 mem:=by simp
 obj:=λi h st b hb=>by
  have e:b=it:=by simpa using hb
  subst e;obtain⟨o,e,c,d⟩:=st;exact⟨o,e,λv z=>by rw[d]at z;cases z⟩
 keep:=λi h h' st k=>st.at λo e=>k it (by simp) o e
 item:=by intro X hP hw hK hc i pins s σ H E I hf st hg;subst hP hw hK;obtain⟨xs,x,hq,hx⟩:=hg;obtain⟨its,rv,p,hz⟩:=I.tuple hq;obtain⟨u,hu,ru⟩:=rv.get hx;obtain⟨f0,f1,f2,f3,f4,f5⟩:=hf it (by simp);refine wpAny_pyNext_tuple_item st (show s.heap.IsTuple a its.toArray from p) (x:=u) (by simpa using hu) λh' st' sb=>?_;have I1:Inv X pins σ H {s with heap:=h'}:=I.turned (t':=s.toks) (λb o hb e=>(sb.2 b hb).trans e) f0 f1 f3 f4 f5;obtain⟨o,e,c,d⟩:=id st';exact⟨u,rfl,GK (s:={s with heap:=h'}) e c d (by decide) ⟨x,H,I1,ru,⟨rfl,λys hy=>by rw[I.Pk hy hq];exact hx⟩,st',λb hb=>(hf b hb).1⟩⟩
 done:=by intro X hP hw hK hc i pins s σ H E I hf st hg;subst hP hw hK;obtain⟨xs,hq,hx⟩:=hg;obtain⟨its,rv,p,hz⟩:=I.tuple hq;obtain⟨f0,f1,f2,f3,f4,f5⟩:=hf it (by simp);have hl:=rv.length;exact wpAny_pyNext_tuple_end (I.ok.hd hc) st (show s.heap.IsTuple a its.toArray from p) (by simp;omega) λh' eb=>⟨rfl,I.turned (t':=s.toks) (λb o hb e=>eb b o hb e) f0 f1 f3 f4 f5⟩
 self:=λ_ _ _ _ _ st h=>wpAny_pyIter_tupleiter st h
theorem Znq{P:Y8}{w:aO}(it:Yt)(lo:Int)(n:Nat):Turn P w K tg (Lg lo n) [it] it (λi h=>IsRangeIter h it (lo+(i:Nat)*1) ((n:Int)-(i:Nat)) 1)where
 mem:=by simp
 obj:=λi h st b hb=>by
  have e:b=it:=by simpa using hb
  subst e;exact⟨_,st,λv z=>by have z':Data.fields _=Data.cell v:=z;cases z'⟩
 keep:=λi h h' st k=>k it (by simp) _ st
 item:=by intro X hP hw hK hc i pins s σ H E I hf st hg;subst hP hw hK;obtain⟨f0,f1,f2,f3,f4,f5⟩:=hf it (by simp);have W:=Walks.range (prog:=X.prog) (w:=X.w) (I.ok.hd hc) it lo 1 n;refine W.item i s _ _ hg st λv h' tk hv st' kk=>?_;obtain⟨t,rfl⟩:=hv;have I1:Inv X pins σ H {s with heap:=h',toks:=tk}:=I.turned (λb o hb e=>kk b o (by simpa using hb) e) f0 f1 f3 f4 f5;refine⟨_,rfl,GK (s:={s with heap:=h',toks:=tk}) (n:="range_iterator") st' rfl rfl (by decide) ⟨.int (lo+i),H,I1,⟨t,?_⟩,⟨rfl,rfl⟩,st',λb hb=>(hf b hb).1⟩⟩;rw[Int.mul_one]
 done:=by intro X hP hw hK hc i pins s σ H E I hf st hg;subst hP hw hK;obtain⟨f0,f1,f2,f3,f4,f5⟩:=hf it (by simp);exact wpAny_pyNext_range_end (I.ok.hd hc) st (by have:n<=i:=hg;omega) λh' eb=>⟨rfl,I.turned (t':=s.toks) (λb o hb e=>eb b o hb e) f0 f1 f3 f4 f5⟩
 self:=λ_ _ _ _ _ st h=>wpAny_pyIter_rangeiter st h
end L2
namespace L2
open PySem PySem.Spec PyProof.Rows
variable{pins:List (Yt×aD)}{fp:List Yt}
section
variable {X:Cx} {tg:Expr}
def Zya(K:Yb)(tl:TE):TI:=λσ H R=>tl σ H λx H1=>∃a,x= .ref a/\(∃xs,bK K H1 a xs)/\R (Itl K a) H1
def ZzX(K:Yb)(tl:TE):TI:=λσ H R=>tl σ H λx H1=>∃a,x= .ref a/\(∃xs,cM K H1 a xs)/\R (Itt K a) H1
theorem Ztz{l:Expr}{tl:TE}(hl:PE X l tl):PI X tg l (Zya X.K tl):=by
 intro pins s σ H R I h;refine aH (hl pins s σ H _ I h) λv s1 ak=>?_;obtain⟨x,H1,I1,r1,q1⟩:=ak;obtain⟨a,e,⟨xs,hq⟩,q⟩:=q1;subst e;cases r1;obtain⟨its,rv,p,hz⟩:=I1.list hq;refine yo p.isList ?_;refine⟨s1.heap.objs.size,[s1.heap.objs.size],_,_,H1,rfl,I1.kept (t':=s1.toks) λb o e=>Yh _ e,ZpP a _,⟨_,Y1 _ rfl,rfl,rfl⟩,λb hb=>?_,q⟩;have e:b=s1.heap.objs.size:=by simpa using hb
 subst e;exact I1.ul (Yq _) (I1.hok.fresh (Yq _))
theorem ZvM{l:Expr}{tl:TE}(hl:PE X l tl):PI X tg l (ZzX X.K tl):=by
 intro pins s σ H R I h;refine aH (hl pins s σ H _ I h) λv s1 ak=>?_;obtain⟨x,H1,I1,r1,q1⟩:=ak;obtain⟨a,e,⟨xs,hq⟩,q⟩:=q1;subst e;cases r1;obtain⟨its,rv,p,hz⟩:=I1.tuple hq;refine JT (show s1.heap.IsTuple a its.toArray from p) ?_;refine⟨s1.heap.objs.size,[s1.heap.objs.size],_,_,H1,rfl,I1.kept (t':=s1.toks) λb o e=>Yh _ e,ZnV a _,⟨_,Y1 _ rfl,rfl,rfl⟩,λb hb=>?_,q⟩;have e:b=s1.heap.objs.size:=by simpa using hb
 subst e;exact I1.ul (Yq _) (I1.hok.fresh (Yq _))
theorem Zqp{σ:St}{H:Hp}{s:Yf}{R:It->Hp->Prop}{E:Ye->Yf->Prop}{lo hi:Int}{t u v:eO}{tk:Nat}(I:Inv X pins σ H s)(h1:-(2^62)<=lo)(h2:lo<2^62)(h3:-(2^62)<=hi)(h4:hi<2^62)(q:R (Lg lo (hi-lo).toNat) H):ao (aq X.prog X.w) X.A (Bp (.ref s.heap.objs.size)) (PIE X pins σ tg R) E {s with heap:=s.heap.push {cls:=.type "range",data:=.fields #[.int lo t,.int hi u,.int 1 v]},toks:=tk}:=by
 refine wpAny_pyIter_range (IsRange.new ..) (small_one h1 h2 h3 h4) ?_;have I1:Inv X pins σ H {s with heap:=s.heap.push {cls:=.type "range",data:=.fields #[.int lo t,.int hi u,.int 1 v]},toks:=tk}:=I.kept λb o e=>Yh _ e;refine⟨(s.heap.push {cls:=.type "range",data:=.fields #[.int lo t,.int hi u,.int 1 v]}).objs.size,[(s.heap.push {cls:=.type "range",data:=.fields #[.int lo t,.int hi u,.int 1 v]}).objs.size],_,_,H,rfl,
  I1.kept (t':=tk) λb o e=>Yh _ e,Znq _ lo (hi-lo).toNat,?_,λb hb=>?_,q⟩
 .have e1:lo+((0:Nat):Int)*1=lo:=by simp
  have e2:(((hi-lo).toNat:Nat):Int)-((0:Nat):Int)=Builtin.Range.rangeSize lo hi 1:=by rw[rangeSize_one];split <;>omega
  show IsRangeIter _ _ (lo+((0:Nat):Int)*1) ((((hi-lo).toNat:Nat):Int)-((0:Nat):Int)) 1;rw[e1,e2];exact Y1 _ rfl
 .have e:b=(s.heap.push {cls:=.type "range",data:=.fields #[.int lo t,.int hi u,.int 1 v]}).objs.size:=by simpa using hb
  subst e;exact I1.ul (Yq _) (I1.hok.fresh (Yq _))
def ZxA(ta:TA):TI:=λσ H R=>ta σ H λvs H1=>∃j:Int,vs=[.int j]/\ -(2^62)<=j/\j<2^62/\R (Lg 0 j.toNat) H1
theorem Zqc{a:Expr}{ta:TA}{p pos:aP}(hg:Gl X "range")(hm:X.mg "range" =Yk)(ha:PA X [a] ta)(hs:Yr [a] X.env=[(false,aF a X.env)]:=by rfl):PI X tg (.Call (.Name "range" p) [a] [] pos) (ZxA ta):=by
 intro pins s σ H R I h;refine Call_ (wL I hg hm boot_range (Kz (aH (ha pos pins s σ H _ I h) λus s1 ak=>?_) hs rfl));obtain⟨vs,H1,I1,r1,q1⟩:=ak;obtain⟨j,e,q1,q2,q⟩:=q1;subst e;cases r1 with
 |cons r rr=>
  cases rr
  obtain⟨t,rfl⟩:=r;exact call_range_1 (Zqp I1 (by omega) (by omega) q1 q2 (by simpa using q))
def ZzP(wi:TI)(g:TG)(tb:TS):TS:=λD σ H=>wi σ H λJ H1=>∃W:Nat->Nat->St->Hp->Prop,(∃m,W 0 m σ H1)/\∀i m σ H,W i m σ H ->
 (J.stop i H/\D.nx σ H)\/(J.go i H/\∃N:St->Hp->Prop,(∀σ' H',N σ' H'->∃m',m'<m/\W (i+1) m' σ' H')/\∀x H',J.Lf i H x H'->g x σ H' λσ2 H2=>tb {D with nx:=N,ct:=N,bk:=D.nx} σ2 H2)
noncomputable def uQ(fp:List Yt)(h:aC):List (Yt×aD):=fp.filterMap λb=>(h.get? b).map λo=>(b,o)
theorem BX{h:aC}{b:Yt}{o:aD}(hb:b∈fp)(e:h.get? b=Ya o):(b,o)∈uQ fp h:=Kf.mpr ⟨b,hb,by rw[e];rfl⟩
theorem ZpM{h:aC}{p:Yt×aD}(hp:p∈uQ fp h):p.1∈fp/\h.get? p.1=Ya p.2:=by
 obtain⟨b,hb,e⟩:=Kf.mp hp;cases q:h.get? b with
 |none=>rw[q]at e;cases e|some o=>rw[q]at e;have e':(b,o)=p:=eZ e;subst e';exact⟨hb,q⟩
theorem Inv.pinned{σ:St}{H:Hp}{s:Yf}(I:Inv X pins σ H s)(hf:∀b∈fp,iu X pins H b)(ho:∀b∈fp,∃o,s.heap.get? b=Ya o/\∀v,o.data≠ .cell v):Inv X (pins++uQ fp s.heap) σ H s:=I.W_ λp hp=>(jD.mp hp).elim (λz=>I.pin p (Y5 _ z)) λz=>by obtain⟨hb,e⟩:=ZpM z;obtain⟨f0,f1,f2,_⟩:=hf p.1 hb;obtain⟨o,e',d⟩:=ho p.1 hb;rw[e]at e';cases e';exact⟨e,f0,f1,f2,d⟩
theorem Inv.Fg{pl:List (Yt×aD)}{σ:St}{H:Hp}{s:Yf}(I:Inv X (pins++pl) σ H s):Inv X pins σ H s:=I.W_ λp hp=>I.pin p (Y5 _ (pG _ hp))
theorem SJ{iter:Expr}{body:List Ydi}{wi:TI}{g:TG}{tb:TS}{pos:aP}(hp:Q0 (aq X.prog X.w) X.A X.env X.xe)(hc:X.calm=true)(hi:PI X tg iter wi)(hg:PG X tg g)(hb:jl X body tb)(hs:∀x,yp iter X.env x=pure x:=by intro _;rfl):PS X (.For tg iter body [] pos) (ZzP wi g tb):=by
 intro pins s σ H D I h;refine wpAny_For (aH (hi pins s σ H _ I h) λv s1 h1=>aH h1 λitv s2 h2=>?_) hs;obtain⟨it,fp,tn,J,H2,e,I2,T,st2,f2,W,⟨m0,w0⟩,turn⟩:=h2;subst e;have stat:∀{H':Hp},(∀b∈fp,H' b=Yk)->∀b∈fp,iu X pins H' b:=λhn b hb=>⟨hn b hb,(f2 b hb).2⟩;refine codeAny_forLoop_any (λn s'=>∃i σ' H',Inv X pins σ' H' s'/\tn i s'.heap/\(∀b∈fp,H' b=Yk)/\W i n σ' H') ?_ m0 ⟨0,σ,H2,I2,st2,λb hb=>(f2 b hb).1,w0⟩;rintro n s3 ⟨i,σ3,H3,I3,st3,fr3,w3⟩;rcases turn i n σ3 H3 w3 with⟨stop,qn⟩|⟨go,N,hN,step⟩
 .refine yq hp (aH (T.done X rfl rfl rfl hc i pins s3 σ3 H3 X.xe I3 (stat fr3) st3 stop) λr s4 ⟨hr,I4⟩=>?_);subst hr;exact Fx ⟨σ3,H3,I4,qn⟩
 .refine yq hp (aH (T.item X rfl rfl rfl hc i pins s3 σ3 H3 X.xe I3 (stat fr3) st3 go) λr s4 ⟨u,hr,h4⟩=>?_);subst hr;refine yq hp (aH h4 λ_ s5 ak=>?_);obtain⟨x,H5,I5,r5,y5,lW,pJ⟩:=ak;have SM:=I5.pinned (stat pJ) (T.obj _ _ lW);refine yq hp (aH (hg _ s5 σ3 H5 x u _ SM r5 (step x H5 y5)) λ_ s6 ak=>?_);obtain⟨σ6,H6,I6,q6⟩:=ak;refine yq hp (aH (hb _ s6 σ6 H6 _ I6 q6) λf s7 q7=>?_);have again:∀{σ7:St} {H7:Hp},Inv X (pins++uQ fp s5.heap) σ7 H7 s7->N σ7 H7->∃m,m<n/\∃i σ' H',Inv X pins σ' H' s7/\tn i s7.heap/\(∀b∈fp,H' b=Yk)/\W i m σ' H':=λ{σ7 H7} I7 n7=>by
   obtain⟨m',hm,w7⟩:=hN σ7 H7 n7;refine⟨m',hm,i+1,σ7,H7,I7.Fg,T.keep _ _ _ lW λb hb o e=>(I7.pin (b,o) (Y5 _ (Y5 _ (BX hb e)))).1,λb hb=>?_,w7⟩;obtain⟨o,e,d⟩:=T.obj _ _ lW b hb;exact(I7.pin (b,o) (Y5 _ (Y5 _ (BX hb e)))).2.1
  cases f with
  |next=>obtain⟨σ7,H7,I7,n7⟩:=q7;exact again I7 n7|cont=>obtain⟨σ7,H7,I7,n7⟩:=q7;exact again I7 n7|brk=>obtain⟨σ7,H7,I7,q7⟩:=q7;exact⟨σ7,H7,I7.Fg,q7⟩|ret v=>obtain⟨x7,σ7,H7,I7,r7,q7⟩:=q7;exact⟨x7,σ7,H7,I7.Fg,r7,q7⟩
end
end L2
namespace L2
open PySem PySem.Spec PyProof.Rows
noncomputable abbrev R2:=V->V->Hp->VK->Prop
def a_(X:Cx)(f:Ye->Ye->lK Ye)(r:R2):Prop:=
 ∀(pins:List (Yt×aD)) (s:Yf) (σ:St) (H:Hp) (x y:V) (v u:Ye) (Q:VK),Inv X pins σ H s->RelV x v->RelV y u->r x y H Q ->
  ao (aq X.prog X.w) X.A (f v u) (EP X pins σ Q) X.xe s
def uR(X:Cx)(f:Ye->lK Ye)(r:V->Hp->VK->Prop):Prop:=
 ∀(pins:List (Yt×aD)) (s:Yf) (σ:St) (H:Hp) (x:V) (v:Ye) (Q:VK),Inv X pins σ H s->RelV x v->r x H Q ->
  ao (aq X.prog X.w) X.A (f v) (EP X pins σ Q) X.xe s
def cT(X:Cx)(f:Ye)(r:List V->Hp->VK->Prop):Prop:=
 ∀(pins:List (Yt×aD)) (s:Yf) (σ:St) (H:Hp) (xs:List V) (us:List Ye) (Q:VK),Inv X pins σ H s->Vals xs us->r xs H Q ->
  ao (aq X.prog X.w) X.A (call f us) (EP X pins σ Q) X.xe s
def BZ(r:R2)(ta tb:TE):TE:=λσ H Q=>ta σ H λx H1=>tb σ H1 λy H2=>r x y H2 Q
def tUn(r:V->Hp->VK->Prop)(ta:TE):TE:=λσ H Q=>ta σ H λx H1=>r x H1 Q
def rI(C:Int->Int->Prop)(g:Int->Int->V):R2:=λx y H Q=>∃i j,x= .int i/\y= .int j/\C i j/\Q (g i j) H
def yZ(g:Int->Int->V):R2:=λx y H Q=>∃i j,x= .int i/\y= .int j/\Q (g i j) H
noncomputable def rU(g:Int->V):V->Hp->VK->Prop:=λx H Q=>∃i,x= .int i/\Q (g i) H
variable{f:Ye->Ye->lK Ye}{pins:List (Yt×aD)}
section
variable {X:Cx} {a b c:Expr} {ta tb tc:TE} {pos:aP}
theorem SN(ha:PE X a ta)(hb:PE X b tb){s:Yf}{σ:St}{H:Hp}{R:V->V->Hp->Prop}(I:Inv X pins σ H s)(h:ta σ H λx H1=>tb σ H1 λy H2=>R x y H2){Q:Ye->Yf->Prop}(hf:∀v u s2 x y H2,Inv X pins σ H2 s2->RelV x v->RelV y u->R x y H2->ao (aq X.prog X.w) X.A (f v u) Q X.xe s2):
  ao (aq X.prog X.w) X.A (aF a X.env) (λv s₁=>ao (aq X.prog X.w) X.A (aF b X.env) (λu s₂=>ao (aq X.prog X.w) X.A (f v u) Q X.xe s₂) X.xe s₁) X.xe s:=by
 refine aH (ha pins s σ H _ I h) λv s1 ak=>?_;obtain⟨x,H1,I1,r1,q1⟩:=ak;refine aH (hb pins s1 σ H1 _ I1 q1) λu s2 ak=>?_;obtain⟨y,H2,I2,r2,q2⟩:=ak;exact hf v u s2 x y H2 I2 r1 r2 q2
theorem Zxs{op:Operator}{r:R2}(ho:a_ X (jg op) r)(ha:PE X a ta)(hb:PE X b tb):PE X (.BinOp a op b pos) (BZ r ta tb):=by intro pins s σ H Q I h;exact wpAny_BinOp (SN ha hb I h λv u s2 x y H2 I2 rx ry q=>ho pins s2 σ H2 x y v u Q I2 rx ry q)
theorem ZyB{op:UnaryOp}{r:V->Hp->VK->Prop}(ho:uR X (J3 op) r)(ha:PE X a ta):PE X (.UnaryOp op a pos) (tUn r ta):=by intro pins s σ H Q I h;exact UnaryOp_ (aH (ha pins s σ H _ I h) λv s1 ⟨x,H1,I1,r1,q1⟩=>ho pins s1 σ H1 x v Q I1 r1 q1)
theorem SQ{C:Int->Int->Prop}{g:Int->Int->Int}(rule:∀(i j:Int) (t u:eO) (s:Yf) (Q:Ye->Yf->Prop) (E:Ye->Yf->Prop),C i j->Q (.int (g i j) s.toks) {s with toks:=s.toks+1}->ao (aq X.prog X.w) X.A (f (.int i t) (.int j u)) Q E s):
  a_ X f (rI C λi j=>.int (g i j)):=by
 intro pins s σ H x y v u Q I rx ry h;obtain⟨i,j,rfl,rfl,hc,q⟩:=h;obtain⟨t,rfl⟩:=rx;obtain⟨t',rfl⟩:=ry;exact rule i j t t' s _ _ hc ⟨.int (g i j),H,I.tok _,⟨_,rfl⟩,q⟩
theorem Zyh{g:Int->Int->Int}(rule:∀(i j:Int) (t u:eO) (s:Yf) (Q:Ye->Yf->Prop) (E:Ye->Yf->Prop),Q (.int (g i j) s.toks) {s with toks:=s.toks+1}->ao (aq X.prog X.w) X.A (f (.int i t) (.int j u)) Q E s):
  a_ X f (yZ λi j=>.int (g i j)):=by
 intro pins s σ H x y v u Q I rx ry h;obtain⟨i,j,rfl,rfl,q⟩:=h;obtain⟨t,rfl⟩:=rx;obtain⟨t',rfl⟩:=ry;exact rule i j t t' s _ _ ⟨.int (g i j),H,I.tok _,⟨_,rfl⟩,q⟩
theorem SX{g:Int->Int->Bool}(rule:∀(i j:Int) (t u:eO) (s:Yf) (Q:Ye->Yf->Prop) (E:Ye->Yf->Prop),Q (.bool (g i j)) s->ao (aq X.prog X.w) X.A (f (.int i t) (.int j u)) Q E s):
  a_ X f (yZ λi j=>.bl (g i j)):=by
 intro pins s σ H x y v u Q I rx ry h;obtain⟨i,j,rfl,rfl,q⟩:=h;obtain⟨t,rfl⟩:=rx;obtain⟨t',rfl⟩:=ry;exact rule i j t t' s _ _ ⟨.bl (g i j),H,I,rfl,q⟩
def Zzr(i j:Int):Prop:=0<j/\j<1073741824
def S6(i j:Int):Prop:=(-(2^64)<i/\i<2^64)\/(-(2^64)<j/\j<2^64)
theorem S6.ok{i j:Int}(h:S6 i j):IntMulOk i j:=by
 rcases h with⟨h1,h2⟩|⟨h1,h2⟩
 .exact .of_left (intBits_le_64 h1 h2)
 .exact .of_right (intBits_le_64 h1 h2)
theorem Zv3:a_ X (jg .Add) (yZ λi j=>.int (i+j)):=Zyh λ_ _ _ _ _ _ _ q=>add_int q
theorem Zu3:a_ X (jg .Sub) (yZ λi j=>.int (i-j)):=Zyh λ_ _ _ _ _ _ _ q=>sub_int q
theorem Zu1:a_ X (jg .Mult) (rI S6 λi j=>.int (i*j)):=SQ λ_ _ _ _ _ _ _ hc q=>mul_int q hc.ok
theorem Zui:a_ X (jg .FloorDiv) (rI Zzr λi j=>.int (i / j)):=SQ λi j _ _ _ _ _ hc q=>by have h1:(0:Int)<j:=hc.1;have h2:j<1073741824:=hc.2;exact floordiv_int (by omega) (by rw[Int.fdiv_eq_ediv_of_nonneg i (by exact Kw h1)];exact q) (.inl (PyProof.noPylong_small (by omega)))
theorem Zvg:a_ X (jg .Mod) (rI (λ_ j=>0<j) λi j=>.int (i % j)):=SQ λi j _ _ _ _ _ hc q=>by have h1:(0:Int)<j:=hc;exact mod_int' (by omega) (by rw[Int.fmod_eq_emod_of_nonneg i (by exact Kw h1)];exact q)
theorem unI{f:Ye->lK Ye}{g:Int->Int}(rule:∀(i:Int) (t:eO) (s:Yf) (Q:Ye->Yf->Prop) (E:Ye->Yf->Prop),Q (.int (g i) s.toks) {s with toks:=s.toks+1}->ao (aq X.prog X.w) X.A (f (.int i t)) Q E s):
  uR X f (rU λi=>.int (g i)):=by
 intro pins s σ H x v Q I rx h;obtain⟨i,rfl,q⟩:=h;obtain⟨t,rfl⟩:=rx;exact rule i t s _ _ ⟨.int (g i),H,I.tok _,⟨_,rfl⟩,q⟩
theorem ZvG:uR X (J3 .USub) (rU λi=>.int (-i)):=unI λ_ _ _ _ _ q=>neg_int q
end
theorem S8{i j:aj}:decide (V.str i=V.str j)=(i==j):=by rw[Ro];simp
section
variable {X:Cx} {a b c:Expr} {ta tb tc:TE} {pos:aP}
theorem S_{σ:St}{H:Hp}{s:Yf}{Q:VK}{k k':Bool}(I:Inv X pins σ H s)(q:Q (.bl k) H)(e:k=k'):EP X pins σ Q (.bool k') s:=by subst e;exact⟨.bl k,H,I,rfl,q⟩
theorem ZyE:a_ X (gP .Lt) (yZ λi j=>.bl (decide (i<j))):=SX λ_ _ _ _ _ _ _ q=>lt_int q
theorem Zxu:a_ X (gP .LtE) (yZ λi j=>.bl (decide (i<=j))):=SX λ_ _ _ _ _ _ _ q=>le_int q
theorem Zx1:a_ X (gP .Gt) (yZ λi j=>.bl (decide (j<i))):=SX λ_ _ _ _ _ _ _ q=>gt_int q
theorem ZpC:a_ X (gP .In) (λx y H Q=>∃i j,x= .str i/\y= .str j/\Q (.bl (!(Gp j i 0 j.length 1).isEmpty)) H):=by intro pins s σ H x y v u Q I rx ry h;obtain⟨i,j,rfl,rfl,q⟩:=h;obtain⟨t,rfl⟩:=rx;obtain⟨t',rfl⟩:=ry;exact in_str (S_ I q rfl)
theorem ZuX:a_ X (gP .Is) (λx y H Q=>y= .non/\Q (.bl (decide (x= .non))) H):=by
 intro pins s σ H x y v u Q I rx ry h;obtain⟨rfl,q⟩:=h;cases ry;refine is_none_gen (S_ I q ?_);cases x<;>first
  |(cases rx;rfl)
  |(obtain⟨t,rfl⟩:=rx;rfl)
theorem Ztl:a_ X (gP .IsNot) (λx y H Q=>y= .non/\Q (.bl (!decide (x= .non))) H):=by
 intro pins s σ H x y v u Q I rx ry h;obtain⟨rfl,q⟩:=h;cases ry;refine isnot_none_gen (S_ I q ?_);cases x<;>first
  |(cases rx;rfl)
  |(obtain⟨t,rfl⟩:=rx;rfl)
noncomputable def isObj:HO->Bool
 | .lst _=>true|.ins _ _ _=>true|_=>false
theorem Tc{s:Yf}{σ:St}{H:Hp}{a:Yt}{o:HO}(I:Inv X pins σ H s)(h:H a=Ya o)(p:isObj o=true):∃ob,s.heap.get? a=Ya ob/\ob.cls≠ .type "tuple":=by
 cases o with
 |lst xs=>obtain⟨_,its,n,_,e⟩:xs.length<=bB/\∃(its:List Ye) (n:Nat),Vals xs its/\s.heap.get? a=Ya {cls:=.type "list",data:=.seq its.toArray n}:=I.hok a _ h;exact⟨_,e,(by show Value.type "list" ≠ .type "tuple";decide +kernel)⟩|ins C dx fs=>have x:=I.hok a _ h;obtain⟨_,_,_,e,_⟩:=x;exact⟨_,e,(by show Value.ref C≠ .type "tuple";exactλz=>by cases z)⟩|_=>exact absurd (show false=true from p) j_
theorem a_.or{r r':R2}(h:a_ X f r)(h':a_ X f r'):a_ X f (λx y H Q=>r x y H Q\/r' x y H Q):=by
 intro pins s σ H x y v u Q I rx ry q;rcases q with q|q
 .exact h pins s σ H x y v u Q I rx ry q
 .exact h' pins s σ H x y v u Q I rx ry q
theorem ZoZ{op:CmpOp}{r:R2}(ho:a_ X (gP op) r)(ha:PE X a ta)(hb:PE X b tb)(hm:yt op b=false):PE X (.Compare a [op] [b] pos) (BZ r ta tb):=by intro pins s σ H Q I h;exact wpAny_Compare1 (SN ha hb I h λv u s2 x y H2 I2 rx ry q=>ho pins s2 σ H2 x y v u Q I2 rx ry q) hm
def Zx4(t:TE):TT:=λσ H Q=>t σ H λx H'=>∃k,x= .bl k/\Q k H'
theorem Td{op:CmpOp}{r:R2}(ho:a_ X (gP op) r)(ha:PE X a ta)(hb:PE X b tb)(hm:yt op b=false):PT X (.Compare a [op] [b] pos) (Zx4 (BZ r ta tb)):=by intro pins s σ H Q I h;refine wpAny_isTrue_Compare1 (aH (ha pins s σ H _ I h) λv s1 ⟨x,H1,I1,r1,q1⟩=>aH (hb pins s1 σ H1 _ I1 q1) λu s2 ⟨y,H2,I2,r2,q2⟩=>aH (ho pins s2 σ H2 x y v u _ I2 r1 r2 q2) λc s3 ⟨z,H3,I3,r3,k,e,q3⟩=>?_) hm;subst e;cases r3;exact uz ⟨H3,I3,q3⟩
theorem GP:(bB:Nat)<2^63:=by rw[rT];decide
theorem Zng:a_ X (jg .Add) (λx y H Q=>∃i j,x= .str i/\y= .str j/\i.length+j.length<=bB/\Q (.str (i++j)) H):=by intro pins s σ H x y v u Q I rx ry h;obtain⟨i,j,rfl,rfl,hz,q⟩:=h;obtain⟨t,rfl⟩:=rx;obtain⟨t',rfl⟩:=ry;exact add_str (λt' tk=>⟨.str (i++j),H,I.tok _,⟨_,rfl⟩,q⟩) hz
theorem vals1{x:V}{us:List Ye}(r:Vals [x] us):∃u,us=[u]/\RelV x u:=by
 cases r with
 |cons r1 r2=>cases r2;exact⟨_,rfl,r1⟩
theorem vals2{x y:V}{us:List Ye}(r:Vals [x,y] us):∃u w',us=[u,w']/\RelV x u/\RelV y w':=by
 cases r with
 |cons r1 r2=>
  cases r2 with
  |cons r3 r4=>cases r4;exact⟨_,_,rfl,r1,r3⟩
theorem ZpQ(hc:X.calm=true):cT X (.builtin "max") (λxs H Q=>∃i j,xs=[.int i,.int j]/\Q (.int (if j>i then j else i)) H):=by
 intro pins s σ H xs us Q I r h;obtain⟨i,j,rfl,q⟩:=h;obtain⟨u,w',rfl,⟨t,rfl⟩,⟨t',rfl⟩⟩:=vals2 r;refine max_two_ints (I.ok.hd hc) λh' tk k=>⟨_,H,I.kept k,?_,q⟩;by_cases hj:j>i
 .rw[if_pos hj,if_pos hj];exact⟨_,rfl⟩
 .rw[if_neg hj,if_neg hj];exact⟨_,rfl⟩
theorem ZpV:cT X (.type "int") (λxs H Q=>(∃i,xs=[.int i]/\Q (.int i) H)\/∃k,xs=[.bl k]/\Q (.int (if k then 1 else 0)) H):=by
 intro pins s σ H xs us Q I r h;rcases h with⟨i,rfl,q⟩|⟨k,rfl,q⟩
 .obtain⟨u,rfl,t,rfl⟩:=vals1 r;exact call_int_int ⟨.int i,H,I,⟨_,rfl⟩,q⟩
 .obtain⟨u,rfl,r1⟩:=vals1 r;cases r1;exact call_int_bool ⟨.int (if k then 1 else 0),H,I.tok _,⟨_,rfl⟩,q⟩
theorem ZlK:cT X (.type "str") (λxs H Q=>∃i,xs=[.int i]/\i.natAbs.log2<1920/\Q (.str (wH i)) H):=by intro pins s σ H xs us Q I r h;obtain⟨i,rfl,hz,q⟩:=h;obtain⟨u,rfl,t,rfl⟩:=vals1 r;exact PySem.P.str_of_int hz ⟨.str _,H,I.tok _,⟨_,rfl⟩,q⟩
def Zzs(K:Yb)(x:V)(H:Hp)(n:Nat):Prop:=
 match x with
 | .str y=>y.length<=bB/\n=y.length|.BP y=>y.size<=bB/\n=y.size|.ref p=>(∃xs,bK K H p xs/\n=xs.length)\/∃xs,cM K H p xs/\n=xs.length|_=>False
theorem ZrQ:cT X (.builtin "len") (λxs H Q=>∃x n,xs=[x]/\Zzs X.K x H n/\Q (.int n) H):=by
 intro pins s σ H xs us Q I r h;obtain⟨x,n,rfl,e,q⟩:=h;obtain⟨u,rfl,rx⟩:=vals1 r;have hl:=GP;have hs:bB=16777216:=rT;cases x with
 |str y=>obtain⟨t,rfl⟩:=rx;obtain⟨hy,e'⟩:y.length<=bB/\n=y.length:=e;subst e';exact len_str (by omega) ⟨.int _,H,I.tok _,⟨_,rfl⟩,q⟩|BP y=>obtain⟨t,rfl⟩:=rx;obtain⟨hy,e'⟩:y.size<=bB/\n=y.size:=e;subst e';exact PySem.W.len_bytes (by omega) ⟨.int _,H,I.tok _,⟨_,rfl⟩,q⟩|ref p=>
  cases rx
  have e':(∃xs,bK X.K H p xs/\n=xs.length)\/∃xs,cM X.K H p xs/\n=xs.length:=e;rcases e' with⟨xs,hx,e'⟩|⟨xs,hx,e'⟩
  .subst e';obtain⟨its,r',pl,hz⟩:=I.list hx;have hlen:=r'.length;exact Calls.call_len_list pl.isList (by simp only[Yo];omega) ⟨.int xs.length,H,I.tok _,⟨_,by simp only[Yo];rw[hlen]⟩,q⟩
  .subst e';obtain⟨its,r',pl,hz⟩:=I.tuple hx;have hlen:=r'.length;exact len_tuple pl (by simp only[Yo];omega) ⟨.int xs.length,H,I.tok _,⟨_,by simp only[Yo];rw[hlen]⟩,q⟩
 |_=>exact(show False from e).elim
end
end L2
namespace L2
open PySem PySem.Spec PyProof.Rows
structure B_(h:aC)(x dx C:Yt)(mA:aj->Option Ye):Prop where
 obj:h.get? x=Ya (vQ C dx)
 ns:h.Ns1 dx mA
 ne:dx≠x
theorem Zp0{h:aC}{dx:Yt}{mA:aj->Option Ye}(n:h.Ns1 dx mA):∃od,h.get? dx=Ya od/\∀name,Qu name od=Ya (mA name):=by
 obtain⟨o,es,ep,ho,hd,hk,_,hm⟩:=n;refine⟨o,ho,λname=>?_⟩;have e:=hm name;unfold nsFind findBy at e;rw[←Array.find?_toList]at e;unfold Qu;rw[hd];dsimp only;split
 .rename_i y q;rw[q]at e;exact congrArg Ya e
 .rename_i q;rw[q]at e;have a:es.toList.any (·.refKey)=false:=by
   rw[List.any_eq_false];intro y hy;obtain⟨z,t,hkey⟩:=hk y (Yi8.mp hy);simp[DictEntry.refKey,hkey]
  have a':¬es.toList.any (·.refKey)=true:=by rw[a];exact j_
  rw[if_neg a'];exact congrArg Ya e
theorem B_.look{h:aC}{x dx C:Yt}{mA:aj->Option Ye}(I:B_ h x dx C mA):∃od,PySem.W.InstAt h x (vQ C dx) C (Ya od)/\∀name,Qu name od=Ya (mA name):=
 let⟨od,ho,hl⟩:=Zp0 I.ns
 ⟨od,⟨I.obj,rfl,rfl,ho⟩,hl⟩
variable{Q:Ye->Yf->Prop}
section
variable {prog:Y8} {w:aO} {A:bC} {E:Ye->Yf->Prop} {s:Yf} {K:Yb} {x dx C f:Yt} {mA:aj->Option Ye} {name:aj} {v:Ye}
theorem Zs2{expr:Bool}(X:K.In s.heap)(I:B_ s.heap x dx C mA)(hg:JN K C name=true)(hh:JM K C=true)(ha:Y9 K (.ref C) name=Ya Yk)(hv:mA name=Ya v)(hv':XC v=true)(h:Q v {s with toks:=s.toks+1}):
  ao (aq prog w) A (F_ (.ref x) name expr) Q E s:=by
 obtain⟨od,J,hl⟩:=I.look;exact PySem.W.get_value X J (PySem.W.plainGet_of hg).1 (PySem.W.findObj_own hh ha rfl (by rw[hl,hv])) hv' h
theorem ZtK{ns:List aj}{Q:Unit->Yf->Prop}(X:K.In s.heap)(I:B_ s.heap x dx C mA)(hs:Y9 K (.ref C) "__setattr__" =Ya (Ya (.builtin "object.__setattr__")))(hp:Qm K C=true)(ht:Qp K C name=Ya Yk)(hh:JM K C=true)(hw:QL mA ns)(hsz:ns.length<=bB)(h:∀h',B_ h' x dx C (λy=>if y=name then Ya v else mA y)->Gh dx s.heap h'->Q () {s with heap:=h',toks:=s.toks+2}):
  ao (aq prog w) A (J4 (.ref x) name v) Q E s:=by
 obtain⟨od,J,hl⟩:=I.look;refine PySem.W.set_plain X J hs (PySem.W.osa_open (s:={s with toks:=s.toks+1}) (r:=Yk) X J hp ht λb=>?_);obtain⟨cd,hc,hd'⟩:=PySem.W.any_some hh;have hx:s.heap.get? x=Ya ⟨.ref C,Ya dx,.plain,#[]⟩:=I.obj;refine Yc (Yp (Yc (Yc (QG hx (Yc (PySem.W.Looks.here (s:={s with toks:=s.toks+1}) (PySem.W.looks_clsIn X hc) ?_))))));rw[hd'];refine Yp (a:=Ya dx) (Yc (Yp (Yc ?_)));refine wpAny_nsSet1 (s:={s with toks:=s.toks+1}) I.ns λh' hn2 hs2=>?_;obtain⟨oD,esD,epD,hoD,hdD,hcD⟩:=hn2.count (PySem.Within.cons name v hw);refine Yc (YJ hoD (by rw[hdD];exact YK (Yi hcD (by rw[Yn];omega))) ?_);exact Yp (h _ ⟨(hs2.2 _ (bV I.ne)).trans I.obj,hn2,I.ne⟩ hs2)
theorem Zsd{R:pF->Yf->Prop}{vs:List Ye}{kw:List (aj×Ye)}(X:K.In s.heap)(hm:JP K C=true)(hi:Y9 K (.ref C) "__init__" =Ya (Ya (.ref f)))(hf:Qv K (.ref f)=Ya (.type "function"))(h:jP (aq prog w) (A.under (.builtin "type.__call__" ⟨.ref C::vs,kw⟩)) (.call (.ref f) ⟨.ref (s.heap.objs.size+1)::vs,kw⟩) (PySem.W.InitBack (s.heap.objs.size+1) R)
   {s with heap:=(s.heap.push ut).push (vQ C s.heap.objs.size)}):
  jP (aq prog w) A (.call (.ref C) ⟨vs,kw⟩) R s:=by
 obtain⟨hh,g,d,t,os⟩:=s;exact PySem.W.make_core (PySem.W.makes_of X hm) (PySem.W.looks_findIn X hi) (λself=>PySem.W.bind_fn X self hf) (.inl rfl) h
end
noncomputable def iQ(f:aj)(v:V):List (aj×V)->List (aj×V)
 |[]=>[(f,v)]|(g,x)::r=>if g=f then(g,v)::r else(g,x)::iQ f v r
theorem Zh2(f g:aj)(v:V):∀fs:List (aj×V),(iQ f v fs).lookup g=if g=f then Ya v else fs.lookup g
 | []=>by
  show yJ g [(f,v)]=_;by_cases h:g=f
  .have hb:(g==f)=true:=beq_iff_eq.mpr h;simp only[yJ,hb,if_pos h]
  .have hb:(g==f)=false:=beq_eq_false_iff_ne.mpr h;simp only[yJ,hb,if_neg h]
 | (k,x)::r=>by
  have ih:=Zh2 f g v r;rw[show iQ f v ((k,x)::r)=(if k=f then(k,v)::r else(k,x)::iQ f v r)from rfl];by_cases hk:k=f
  .rw[if_pos hk];by_cases h:g=k
   .have hb:(g==k)=true:=beq_iff_eq.mpr h;simp only[yJ,hb,if_pos (h.trans hk)]
   .have hb:(g==k)=false:=beq_eq_false_iff_ne.mpr h;simp only[yJ,hb,if_neg (λe:g=f=>h (e.trans hk.symm))]
  .rw[if_neg hk];by_cases h:g=k
   .have hb:(g==k)=true:=beq_iff_eq.mpr h;simp only[yJ,hb,if_neg (λe:g=f=>hk (h.symm.trans e))]
   .have hb:(g==k)=false:=beq_eq_false_iff_ne.mpr h;simp only[yJ,hb];exact ih
theorem Te(f:aj)(v:V):∀fs:List (aj×V),f∈(iQ f v fs).map (·.1)/\∀g,g∈fs.map (·.1)->g∈(iQ f v fs).map (·.1)
 |[]=>⟨by simp[iQ],λg h=>by simp at h⟩|(k,x)::r=>by
  obtain⟨i1,i2⟩:=Te f v r;rw[show iQ f v ((k,x)::r)=(if k=f then(k,v)::r else(k,x)::iQ f v r)from rfl];by_cases hk:k=f
  .rw[if_pos hk];subst hk;exact⟨by simp,λg h=>by simpa using h⟩
  .rw[if_neg hk];refine⟨?_,λg h=>?_⟩
   .rw[Yw];exact Yg _ i1
   .rw[Yw]at h ⊢;rcases Yv.mp h with e|e
    .exact Yv.mpr (.inl e)
    .exact Yg _ (i2 g e)
theorem Zie(f:aj)(v:V):∀fs:List (aj×V),(iQ f v fs).length<=fs.length+1
 |[]=>by simp[iQ]|(k,x)::r=>by
  have ih:=Zie f v r;rw[show iQ f v ((k,x)::r)=(if k=f then(k,v)::r else(k,x)::iQ f v r)from rfl];by_cases hk:k=f
  .rw[if_pos hk,Yn,Yn];exact lQ _ _
  .rw[if_neg hk,Yn,Yn];omega
theorem oH.some_of{v:V}{o:Option Ye}(r:oH (Ya v) o):∃u,o=Ya u/\RelV v u:=by
 cases o with
 |none=>exact(show False from r).elim|some u=>exact⟨u,rfl,r⟩
theorem Zp9{v:V}{u:Ye}(r:RelV v u):XC u=true:=by
 cases v with
 |non=>cases(show u=Value.none from r);rfl|bl b=>cases(show u=Value.bool b from r);rfl|int i=>obtain⟨t,e⟩:=(show∃t,u=Value.int i t from r);cases e;rfl|str x=>obtain⟨t,e⟩:=(show∃t,u=Value.str x t from r);cases e;rfl
 |BP b=>obtain⟨t,e⟩:=(show∃t,u=Value.bytes b t from r);cases e;rfl|flt b=>obtain⟨t,e⟩:=(show∃t,u=Value.float b t from r);cases e;rfl|ref a=>cases(show u=Value.ref a from r);rfl|ty n=>cases(show u=Value.type n from r);rfl
section
variable {P:Y8} {w:aO} {H H':Hp} {h h':aC} {a C dx:Yt} {fs fs':List (aj×V)}
theorem Tf(hok:e_ P w H h)(e:H a=Ya (.ins C dx fs)):∃mA,B_ h a dx C mA/\(∀f,oH (fs.lookup f) (mA f))/\QL mA (fs.map (·.1))/\fs.length<=1000/\H dx=Ya (.own a):=by obtain⟨d,z,ne,ob,mA,n,r,q⟩:=(show cX P w H h a (.ins C dx fs)from hok a _ e);exact⟨mA,⟨ob,n,ne⟩,r,q,z,d⟩
end
structure wM(K:Yb)(C:Yt):Prop where
 pg:JN K C Bw=true
 hd:JM K C=true
 po:Qm K C=true
 sa:Y9 K (.ref C) "__setattr__" =Ya (Ya (.builtin "object.__setattr__"))
theorem wM.get{K:Yb}{C:Yt}(c:wM K C)(f:aj):JN K C f=true:=c.pg
def sO(K:Yb)(C:Yt)(f:aj):Prop:=Y9 K (.ref C) f=Ya Yk
theorem sO.taker{K:Yb}{C:Yt}{f:aj}(n:sO K C f):Qp K C f=Ya Yk:=by unfold Qp;rw[show Y9 K (.ref C) f=Ya Yk from n];rfl
structure Meth(K:Yb)(C:Yt)(m:aj)(f:Yt):Prop where
 au:Y9 K (.ref C) m=Ya (Ya (.ref f))
 fn:JR K (.ref f)=true
 kp:qy K (.ref f)=true
section
variable {X:Cx} {pins:List (Yt×aD)} {σ:St} {H:Hp} {s:Yf} {a C dx:Yt} {fs:List (aj×V)} {f:aj} {v:V} {A:bC} {E:Ye->Yf->Prop}
theorem ZnU{b:Bool}(I:Inv X pins σ H s)(e:H a=Ya (.ins C dx fs))(c:wM X.K C)(n:sO X.K C f)(l:fs.lookup f=Ya v)(h:∀u s',Inv X pins σ H s'->RelV v u->Q u s'):ao (aq X.prog X.w) A (F_ (.ref a) f b) Q E s:=by obtain⟨mA,O,r,_,_,_⟩:=Tf I.hok e;obtain⟨u,hu,ru⟩:=oH.some_of (v:=v) (o:=mA f) (by rw[←l];exact r f);exact Zs2 I.bW O (c.get f) c.hd n hu (Zp9 ru) (h u _ (I.tok _) ru)
theorem ZnQ{y:V}{u:Ye}{Q:Unit->Yf->Prop}(I:Inv X pins σ H s)(e:H a=Ya (.ins C dx fs))(c:wM X.K C)(n:sO X.K C f)(hl:fs.length<1000)(ry:RelV y u)(h:∀s',Inv X pins σ (upd H a (.ins C dx (iQ f y fs))) s'->Q () s'):ao (aq X.prog X.w) A (J4 (.ref a) f u) Q E s:=by
 obtain⟨mA,O,r,wi,_,ho⟩:=Tf I.hok e;have hz:(fs.map (·.1)).length<=bB:=by rw[Ys,rT];omega
 refine ZtK I.bW O c.sa c.po n.taker c.hd wi hz λh' O' sb=>h _ ?_;have hd:∃o,h'.get? dx=Ya o:=let⟨o,_,_,e',_⟩:=O'.ns;⟨o,e'⟩;refine I.write (x:=a) (e:=dx) (by rw[e];exact True.intro) (.inr ho) (λb q hb z=>(sb.2 b hb).trans z) hd ?_;refine⟨by rw[bh O.ne];exact ho,?_,O.ne,O'.obj,_,O'.ns,λg=>?_,λg hg=>?_⟩
 .have:=Zie f y fs;omega
 .show oH ((iQ f y fs).lookup g) (if g=f then Ya u else mA g);rw[Zh2];by_cases q:g=f
  .rw[if_pos q,if_pos q];exact ry
  .rw[if_neg q,if_neg q];exact r g
 .by_cases q:g=f
  .rw[q];exact(Te f y fs).1
  .refine(Te f y fs).2 g (wi g λz=>hg ?_);show(if g=f then Ya u else mA g)=Yk;rw[if_neg q];exact z
theorem Inv.made(I:Inv X pins σ H s):Inv X pins σ (upd (upd H s.heap.objs.size (.own (s.heap.objs.size+1))) (s.heap.objs.size+1) (.ins C s.heap.objs.size []))
  {s with heap:=(s.heap.push ut).push (vQ C s.heap.objs.size)}:=by
 have e1:(s.heap.push ut).get? s.heap.objs.size=Ya ut:=Y1 s.heap rfl;have e2:((s.heap.push ut).push (vQ C s.heap.objs.size)).get? (s.heap.objs.size+1)=Ya (vQ C s.heap.objs.size):=by
  have:=Y1 (s.heap.push ut) (o:=vQ C s.heap.objs.size) rfl
  rwa[wz]at this
 have e3:(s.heap.push ut).Ns s.heap.objs.size (λ_=>Yk):=⟨ut,#[],_,e1,rfl,(λe he=>absurd he (by simp)),λ_=>rfl⟩;have I1:=I.laid (a:=s.heap.objs.size) (o:=.own (s.heap.objs.size+1)) (h':=s.heap.push ut) (t':=s.toks) (λb u q=>Yh _ q) (Yq _) ⟨_,e1⟩;refine I1.laid (a:=s.heap.objs.size+1) (o:=.ins C s.heap.objs.size []) (t':=s.toks) (λb u q=>Yh _ q) (oE (wz _ _)) ?_;have ne:s.heap.objs.size≠s.heap.objs.size+1:=dG (Gi _);refine⟨by rw[bh ne,fV],fL _,ne,e2,λ_=>Yk,(Yk0 e3).at λo q=>Yh _ q,λ_=>True.intro,λy hy=>absurd rfl hy⟩
theorem Zpa{prog:Y8}{w:aO}{env:cH}{e:Expr}{f:aj}{pos:aP}{s:Yf}(hb:mR e f env (aF e env)=aF e env)(h:ao (aq prog w) A (aF e env) (λo s₁=>ao (aq prog w) A (F_ o f true) Q E s₁) E s):ao (aq prog w) A (aF (.Attribute e f pos) env) Q E s:=Attribute_any_ h (by rw[arm_eval_Attribute,hb])
end
def Zzg(K:Yb)(ta:TE)(f:aj):TE:=λσ H Q=>ta σ H λx H1=>∃a C dx fs v,x= .ref a/\H1 a=Ya (.ins C dx fs)/\wM K C/\sO K C f/\fs.lookup f=Ya v/\Q v H1
def Zzn(K:Yb)(ta tv:TE)(f:aj):TS:=λD σ H=>tv σ H λy H1=>ta σ H1 λx H2=>∃a C dx fs,x= .ref a/\H2 a=Ya (.ins C dx fs)/\wM K C/\sO K C f/\fs.length<1000/\
 D.nx σ (upd H2 a (.ins C dx (iQ f y fs)))
section
variable {X:Cx} {o e value:Expr} {f:aj} {pos pos' tpos:aP} {ta tv:TE}
theorem Zwe(he:PE X e ta)(hb:mR e f X.env (aF e X.env)=aF e X.env):PE X (.Attribute e f pos) (Zzg X.K ta f):=by intro pins s σ H Q I h;refine Zpa hb (aH (he pins s σ H _ I h) λu s1 ak=>?_);obtain⟨x,H1,I1,rx,a,C,dx,fs,v,ex,ea,c,n,l,q⟩:=ak;subst ex;obtain rfl:u=Value.ref a:=rx;exact ZnU I1 ea c n l λu' s2 I2 ru=>⟨v,H1,I2,ru,q⟩
theorem Zva(ha:PE X o ta)(hv:PE X value tv)(hs:rY value (Ya (.Attribute o f pos')) pos.line X.env=pure false):PS X (.Assign [.Attribute o f pos'] value pos) (Zzn X.K ta tv f):=by intro pins s σ H D I h;refine XR (aH (hv pins s σ H _ I h) λu s1 ⟨y,H1,I1,ry,q⟩=>aH (ha pins s1 σ H1 _ I1 q) λov s2 ak=>?_) hs;obtain⟨x,H2,I2,rx,a,C,dx,fs,ex,ea,c,n,l,q2⟩:=ak;subst ex;obtain rfl:ov=Value.ref a:=rx;exact ZnQ I2 ea c n l ry λs3 I3=>⟨σ,_,I3,q2⟩
end
section
variable {X:Cx} {pins:List (Yt×aD)} {σ:St} {H:Hp} {s:Yf} {A:bC} {E:Ye->Yf->Prop} {Q:Ye->Yf->Prop} {c:Ye} {b:Bool}
inductive pK(K:Yb)(H:Hp):V->Ye->Prop where
 |non:pK K H .non (.type "NoneType")
 |bl (x:Bool):pK K H (.bl x) (.type "bool")
 |int (i:Int):pK K H (.int i) (.type "int")
 |str (x:aj):pK K H (.str x) (.type "str")
 |flt (x:UInt64):pK K H (.flt x) (.type "float")
 |lst {a:Yt} {xs:List V} (e:H a=Ya (.lst xs)):pK K H (.ref a) (.type "list")
 |cD {a:Yt} {o:aD} {xs:List V} (e:H a=Ya (.cD o (.lst xs))):pK K H (.ref a) (.type "list")
 |tup {a:Yt} {xs:List V} (e:H a=Ya (.tup xs)):pK K H (.ref a) (.type "tuple")
 |dK {a:Yt} {kvs:List (Key×V)} (e:H a=Ya (.dK kvs)):pK K H (.ref a) (.type "dict")
 |dT {a:Yt} {kvs:List (List Key×V)} (e:H a=Ya (.dT kvs)):pK K H (.ref a) (.type "dict")
 | ins {a C dx:Yt} {fs:List (aj×V)} (e:H a=Ya (.ins C dx fs)) (cl:wM K C) (ha:Y9 K (.ref C) "__class__" =Ya (Ya (.builtin "object.__class__")))
   (hn:Bb K (.builtin "object.__class__") "__get__" =Ya (Ya (.builtin "getset_descriptor.__get__"))) (htk:Qq K (.builtin "object.__class__")=Ya true)
   (hm:uw K C (.type "object")=Ya true):pK K H (.ref a) (.ref C)
theorem Ca{x:V}{u t:Ye}(I:Inv X pins σ H s)(rx:RelV x u)(ty:pK X.K H x t)(e:XJ X.K t c=Ya b)(h:∀tk,Q (.bool b) {s with toks:=tk}):
  ao (aq X.prog X.w) A (call (.builtin "isinstance") [u,c]) Q E s:=by
 cases ty with
 |non=>cases(show u=Value.none from rx);exact pC Xy I.bW True.intro e (λz=>nomatch z) h|bl y=>cases(show u=Value.bool y from rx);exact pC Xz I.bW True.intro e (λz=>nomatch z) h|int i=>obtain⟨t,q⟩:=(show∃t,u=Value.int i t from rx);cases q;exact pC XD I.bW True.intro e (λz=>nomatch z) h|str y=>obtain⟨t,q⟩:=(show∃t,u=Value.str y t from rx);cases q;exact pC XF I.bW True.intro e (λz=>nomatch z) h
 |flt y=>obtain⟨t,q⟩:=(show∃t,u=Value.float y t from rx);cases q;exact pC PySem.W.kitx_float I.bW True.intro e (λz=>nomatch z) h|@lst a xs ea=>
  cases(show u=Value.ref a from rx)
  obtain⟨_,_,n,_,h1⟩:=(show cX X.prog X.w H s.heap a (.lst xs)from I.hok a _ ea);exact pC Qn I.bW ⟨_,h1,rfl⟩ e (λz=>nomatch z) h
 | @cD a ob xs ea=>
  cases(show u=Value.ref a from rx)
  obtain⟨_,_,_,n,_,h1⟩:=(show cX X.prog X.w H s.heap a (.cD ob (.lst xs))from I.hok a _ ea);exact pC Qn I.bW ⟨_,h1,rfl⟩ e (λz=>nomatch z) h
 | @tup a xs ea=>
  cases(show u=Value.ref a from rx)
  obtain⟨_,_,_,p⟩:=(show cX X.prog X.w H s.heap a (.tup xs)from I.hok a _ ea);obtain⟨o,h1,h2,_⟩:=p;exact pC Qj I.bW ⟨o,h1,h2.1⟩ e (λz=>nomatch z) h
 | @dK a kvs ea=>
  cases(show u=Value.ref a from rx)
  obtain⟨_,_,vs,_,p⟩:=(show cX X.prog X.w H s.heap a (.dK kvs)from I.hok a _ ea);obtain⟨o,es,ep,h1,h2,_⟩:=p;exact pC Qo I.bW ⟨o,h1,h2.1⟩ e (λz=>nomatch z) h
 | @dT a kvs ea=>
  cases(show u=Value.ref a from rx)
  obtain⟨_,_,xs,_,o,es,ep,h1,h2,_⟩:=(show cX X.prog X.w H s.heap a (.dT kvs)from I.hok a _ ea);exact pC Qo I.bW ⟨o,h1,h2.1⟩ e (λz=>nomatch z) h
 | @ins a C dx fs ea cl ha hn htk hm=>
  cases(show u=Value.ref a from rx)
  obtain⟨mA,O,_⟩:=Tf I.hok ea;obtain⟨od,J,_⟩:=O.look;exact pC (PySem.W.kitx_own (cl.get _) cl.hd ha hn htk hm) I.bW J e (λz=>nomatch z) h
end
end L2
namespace L2
open PySem PySem.Spec PyProof.Rows
structure cJ(k:Nat)(A:bC):Prop where
 hd:A.handled=Yk
 dp:A.depth+3*k+5<recursionLimit
 un:A.units+16*k+200<j6
 gd:A.guards=Ya []
variable{A:bC}
theorem cJ.mono{j k:Nat}(r:cJ k A)(h:j<=k):cJ j A:=⟨r.hd,by have:=r.dp;omega,by have:=r.un;omega,r.gd⟩
theorem cJ.deeper{k:Nat}(r:cJ (k+1) A)(env:cH):cJ k (A.deeper env):=⟨r.hd,by have:=r.dp;show A.depth+1+3*k+5<_;omega,by have:=r.un;show A.units+3+16*k+200<_;omega,r.gd⟩
theorem cJ.in1{k:Nat}(r:cJ (k+1) A):cJ k A.in1:=⟨r.hd,by have:=r.dp;show A.depth+3*k+5<_;omega,by have:=r.un;show A.units+1+16*k+200<_;omega,r.gd⟩
variable{us:List Ye}
theorem Zn7{C:Yt}{kw:List (aj×Ye)}:(A.under (.builtin "type.__call__" ⟨.ref C::us,kw⟩)).depth=A.depth+1:=by first|rfl|simp[KZ,Code.weight,Code.isCreation,Code.isGuard,Code.isCaller,Code.frames,RX,guardIds]
theorem Zn1{C:Yt}{kw:List (aj×Ye)}:(A.under (.builtin "type.__call__" ⟨.ref C::us,kw⟩)).units=A.units+1:=by first|rfl|simp[KZ,Code.cUnits,Code.frames,RX]
theorem cJ.make{k:Nat}(r:cJ (k+1) A)(C:Yt)(us:List Ye)(kw:List (aj×Ye)):cJ k (A.under (.builtin "type.__call__" ⟨.ref C::us,kw⟩)):=⟨r.hd,by have:=r.dp;rw[Zn7];omega,by have:=r.un;rw[Zn1];omega,by have:=r.gd;first|exact this|simpa[KZ,Code.isGuard,guardIds]using this⟩
theorem cJ.depth{k:Nat}(r:cJ k A):A.depth<recursionLimit:=by have:=r.dp;omega
theorem cJ.units{k:Nat}(r:cJ k A):A.units+64<j6:=by have:=r.un;omega
def Tg:TA:=λ_ H Q=>Q [] H
def Lh(ta:TE)(tr:TA):TA:=λσ H Q=>ta σ H λx H1=>tr σ H1 λxs H2=>Q (x::xs) H2
section
variable {X:Cx} {e:Expr} {es:List Expr} {te:TE} {t:TA} {pos:aP}
theorem y_:PA X [] Tg:=λ_ _ _ _ H Q I h=>Yk3 ⟨[],H,I,.nil,h⟩
theorem pM(ha:PE X e te)(hr:PA X es t)(hs:Yr (e::es) X.env=(false,aF e X.env)::Yr es X.env:=by rfl):PA X (e::es) (Lh te t):=by intro pos pins s σ H Q I h;rw[hs];show ao _ _ (FZ ((false,aF e X.env)::bO pos (Yr es X.env))) _ _ s;refine R4 (aH (ha pins s σ H _ I h) λu s1 ak=>?_);obtain⟨x,H1,I1,r1,q1⟩:=ak;exact aH (hr pos pins s1 σ H1 _ I1 q1) λus s2 ⟨xs,H2,I2,r2,q2⟩=>⟨x::xs,H2,I2,.cons r1 r2,q2⟩
def ZzD(t:TA):TE:=λσ H Q=>t σ H λxs H1=>xs.length<=bB/\∀p,H1 p=Yk->Q (.ref p) (upd H1 p (.tup xs))
def Zzi(t:TA):TE:=λσ H Q=>t σ H λxs H1=>xs.length<=bB/\∀p,H1 p=Yk->Q (.ref p) (upd H1 p (.lst xs))
theorem Th{x1}(h:PA X es t):PE X (.Tuple es x1 pos) (ZzD t):=by intro pins s σ H Q I hq;refine wpAny_Tuple_spliced (aH (h pos pins s σ H _ I hq) λus s1 ⟨xs,H1,I1,r,z,q⟩=>⟨by rw[←r.length];exact z,?_⟩);have hf:H1 s1.heap.objs.size=Yk:=I1.hok.fresh (Yq _);refine⟨.ref s1.heap.objs.size,upd H1 s1.heap.objs.size (.tup xs),I1.laid (t':=s1.toks) (λb u e=>Yh _ e) (Yq _) ?_,rfl,q _ hf⟩;exact⟨z,us,r,⟨_,Y1 _ rfl,⟨rfl,rfl⟩,_,rfl⟩⟩
theorem ZwM(h:PA X es t):PE X (.List es pos) (Zzi t):=by intro pins s σ H Q I hq;refine wpAny_List_spliced (aH (h pos pins s σ H _ I hq) λus s1 ⟨xs,H1,I1,r,z,q⟩=>⟨by rw[←r.length];exact z,?_⟩);have hf:H1 s1.heap.objs.size=Yk:=I1.hok.fresh (Yq _);refine⟨.ref s1.heap.objs.size,upd H1 s1.heap.objs.size (.lst xs),I1.laid (t':=s1.toks) (λb u e=>Yh _ e) (Yq _) ?_,rfl,q _ hf⟩;exact⟨z,us,0,r,Y1 _ rfl⟩
end
noncomputable abbrev Sp:=List V->Hp->VK->XK->Prop
noncomputable abbrev oK:=List cH->Hp->Yf->XK->Ye->Yf->Prop
structure sS(P:Y8)(w:aO)(K:Yb)(mg:aj->Option Ye)(base:aC)(A:bC)(outer:List cH)(s:Yf)(H:Hp):Prop where
 frames:A.frames=Ya outer
 mod:Mod K mg base
 bs:∀b o,base.get? b=Ya o->s.heap.get? b=Ya o/\H b=Yk
 oJ:base.objs.size<=s.heap.objs.size
 j4:s.heap.FunFrames base outer
 qJ:∀b∈frs outer,H b=Yk
 hok:e_ P w H s.heap
 bare:sG s.gens
def CE(outer:List cH)(P:Y8)(w:aO)(H:Hp)(s:Yf)(Q:VK)(u:Ye)(s':Yf):Prop:=∃v H',s'.os=s.os/\sG s'.gens/\Un (frs outer) [] H H' s.heap s'.heap/\e_ P w H' s'.heap/\RelV v u/\Q v H'
def CR(CX:oK)(outer:List cH)(P:Y8)(w:aO)(H:Hp)(s:Yf)(Q:VK)(E:XK)(r:pF)(s':Yf):Prop:=
 match r with
 | .ok (.ret u)=>CE outer P w H s Q u s'|.ok _=>False|.error e=>CX outer H s E e s'
structure fM(P:Y8)(w:aO)(K:Yb)(mg:aj->Option Ye)(base:aC)(CX:oK)(k:Nat)(f:Yt)(fd:jB)(ps:List aj)(sp:Sp):Prop where
 len:∀vs H Q E,sp vs H Q E->vs.length=ps.length
 run:∀(A:bC) (outer:List cH) (s:Yf) (H:Hp) (args:Args) (us:List Ye) (vs:List V) (Q:VK) (E:XK),cJ k A->sS P w K mg base A outer s H->Bm s fd args (ps.zip us)->Vals vs us->sp vs H Q E ->
  jP (aq P w) A (.call (.ref f) args) (CR CX outer P w H s Q E) s
variable{P:Y8}{base:aC}{mg:aj->Option Ye}{w:aO}{K:Yb}{ps:List aj}
theorem fM.mono{CX:oK}{j k:Nat}{f:Yt}{fd:jB}{sp:Sp}(F:fM P w K mg base CX j f fd ps sp)(h:j<=k):
  fM P w K mg base CX k f fd ps sp:=⟨F.len,λA outer s H args us vs Q E hr=>F.run A outer s H args us vs Q E (hr.mono h)⟩
variable{H:Hp}{s:Yf}{outer:List cH}
theorem sS.make(e:sS P w K mg base A outer s H)(C:Yt)(us:List Ye)(kw:List (aj×Ye)):
  sS P w K mg base (A.under (.builtin "type.__call__" ⟨.ref C::us,kw⟩)) outer s H:=⟨by first|exact e.frames|(simpa[KZ,Code.envs,RX,pushEnvs]using e.frames),e.mod,e.bs,e.oJ,e.j4,e.qJ,e.hok,e.bare⟩
theorem sS.in1(e:sS P w K mg base A outer s H):
  sS P w K mg base A.in1 outer s H:=⟨e.frames,e.mod,e.bs,e.oJ,e.j4,e.qJ,e.hok,e.bare⟩
section
variable {X:Cx} {pins:List (Yt×aD)} {σ:St} {H:Hp} {s s':Yf}
theorem Inv.env0(I:Inv X pins σ H s):sS X.prog X.w X.K X.mg X.base X.A X.stack s H:=⟨I.ok.frames,I.ok.mod,I.bs,Yi I.ok.oJ I.sz,I.stack,I.Pu,I.hok,I.bare⟩
theorem Inv.after{Q:VK}{u:Ye}(I:Inv X pins σ H s)(h:CE X.stack X.prog X.w H s Q u s'):EP X pins σ Q u s':=by obtain⟨v,H',os,bare,un,hok,r,q⟩:=h;obtain⟨hh,g,d,t,os'⟩:=s';obtain rfl:os'=s.os:=os;exact⟨v,H',I.call (h':=hh) (g':=g) (d':=d) (t':=t) (ch:=[]) un hok bare (λb z=>absurd z (by simp)),r,q⟩
end
def ZxL(sp:Sp)(lX:List V)(E:XK)(t:TA):TE:=λσ H Q=>t σ H λvs H1=>sp (vs++lX) H1 Q E
def Zyr(C:Yt)(sp:Sp)(lX:List V)(E:XK)(t:TA):TE:=λσ H Q=>t σ H λvs H1=>∀x dx,H1 x=Yk->H1 dx=Yk->dx≠x ->
 sp (.ref x::(vs++lX)) (upd (upd H1 dx (.own x)) x (.ins C dx [])) (λv H2=>v= .non/\Q (.ref x) H2) E
def Binds(K:Yb)(fd:jB)(ps:List aj)(ds:List Ye):Prop:=∀(s:Yf) (us:List Ye),K.In s.heap->(us++ds).length=ps.length->Bm s fd ⟨us,[]⟩ (ps.zip (us++ds))
theorem Binds.all{fd:jB}(h:∀us:List Ye,us.length=ps.length->bindArgs fd ⟨us,[]⟩=pure (ps.zip us)):Binds K fd ps []:=λs us _ hl=>by rw[gQ]at hl ⊢;exact .of_eq (h us hl)
def GQ(CX:oK)(X:Cx)(E:XK):Prop:=∀(pins:List (Yt×aD)) (σ:St) (H:Hp) (s:Yf) (e:Ye) (s':Yf),Inv X pins σ H s->CX X.stack H s E e s'->X.xe e s'
variable{vs:List V}
section
variable {X:Cx} {CX:oK} {k:Nat} {f C:Yt} {fd:jB} {ps:List aj} {sp:Sp} {lX:List V} {ds:List Ye} {E:XK} {x m:aj} {p pos apos:aP} {e o:Expr} {es:List Expr} {ta:TE} {t:TA}
theorem Zw6{pins:List (Yt×aD)}{σ:St}{Q:VK}(F:fM X.prog X.w X.K X.mg X.base CX k f fd ps sp)(hr:cJ k X.A)(hb:Binds X.K fd ps ds)(hd:Vals lX ds)(hx:GQ CX X E)(I:Inv X pins σ H s)(r:Vals vs us)(h:sp (vs++lX) H Q E):ao (aq X.prog X.w) X.A (call (.ref f) us) (EP X pins σ Q) X.xe s:=by
 have r2:Vals (vs++lX) (us++ds):=r.append hd;have hl:(us++ds).length=ps.length:=by rw[←r2.length];exact F.len _ _ _ _ h
 refine qD (qz (F.run X.A X.stack s H ⟨us,[]⟩ (us++ds) (vs++lX) Q E hr I.env0 (hb s us I.bW hl) r2 h) λr s' hq=>?_);cases r with
 |error e=>exact hx pins σ H s e s' I hq|ok fl=>
  cases fl with
  |ret u=>exact I.after hq|next=>exact dX hq|brk=>exact dX hq|cont=>exact dX hq
theorem Ztf(F:fM X.prog X.w X.K X.mg X.base CX k f fd ps sp)(hr:cJ k X.A)(hg:Gl X x)(hm:X.mg x=Ya (.ref f))(hk:qy X.K (.ref f)=true)(hb:Binds X.K fd ps ds)(hd:Vals lX ds)(hx:GQ CX X E)(ha:PA X (e::es) t)(hdb:(x==("__debug__":aj))=false:=by decide)(he:Yr (e::es) X.env=(false,aF e X.env)::Yr es X.env:=by rfl)(hpl:(bO pos (Yr es X.env)).any (·.1)=false:=by rfl):
  PE X (.Call (.Name x p) (e::es) [] pos) (ZxL sp lX E t):=by
 intro pins s σ H Q I h;refine yj (yX I hg hm ?_ hdb);refine Qk (h₀:=X.base) I.ok.mod.yW hk (aH (ha pos pins s σ H _ I h) λus s1 ⟨vs,H1,I1,r,q⟩=>⟨I1.bW,?_⟩) he hpl;exact Zw6 F hr hb hd hx I1 r q
structure Mk(K:Yb)(C f:Yt):Prop where
 makes:JP K C=true
 init:Y9 K (.ref C) "__init__" =Ya (Ya (.ref f))
 fn:JR K (.ref f)=true
 kp:qy K (.ref C)=true
theorem Zqv{pins:List (Yt×aD)}{σ:St}{Q:VK}(M:Mk X.K C f)(F:fM X.prog X.w X.K X.mg X.base CX k f fd ps sp)(hr:cJ (k+1) X.A)(hb:Binds X.K fd ps ds)(hd:Vals lX ds)(hx:GQ CX X E)(I:Inv X pins σ H s)(r:Vals vs us)(h:∀x dx,H x=Yk->H dx=Yk->dx≠x->sp (.ref x::(vs++lX)) (upd (upd H dx (.own x)) x (.ins C dx [])) (λv H2=>v= .non/\Q (.ref x) H2) E):
  ao (aq X.prog X.w) X.A (call (.ref C) us) (EP X pins σ Q) X.xe s:=by
 have hq:=h (s.heap.objs.size+1) s.heap.objs.size (I.hok.fresh (wD _)) (I.hok.fresh (Yq _)) (dG (Gi _));have I2:=Inv.made (C:=C) I;have r2:Vals (V.ref (s.heap.objs.size+1)::(vs++lX)) (Value.ref (s.heap.objs.size+1)::(us++ds)):=.cons rfl (r.append hd);have hl:(Value.ref (s.heap.objs.size+1)::us++ds).length=ps.length:=by have e:=r2.length;rw[F.len _ _ _ _ hq]at e;exact e.symm
 refine qD (Zsd (f:=f) I.bW M.makes M.init (beq_iff_eq.mp M.fn) (qz (F.run _ X.stack _ _ ⟨Value.ref (s.heap.objs.size+1)::us,[]⟩ (Value.ref (s.heap.objs.size+1)::(us++ds)) _ _ E (hr.make C us [])
  (I2.env0.make C us []) (hb _ (Value.ref (s.heap.objs.size+1)::us) I2.bW hl) r2 hq) λr s' hq'=>?_))
 cases r with
 |error e=>exact hx pins σ _ _ e s' I2 hq'|ok fl=>
  cases fl with
  |ret u=>obtain⟨v,H',I3,rv,ev,q3⟩:=I2.after hq';subst ev;exact⟨rv,⟨V.ref (s.heap.objs.size+1),H',I3,rfl,q3⟩⟩|next=>exact dX hq'|brk=>exact dX hq'
  |cont=>exact dX hq'
theorem Ztv(M:Mk X.K C f)(F:fM X.prog X.w X.K X.mg X.base CX k f fd ps sp)(hr:cJ (k+1) X.A)(hg:Gl X x)(hm:X.mg x=Ya (.ref C))(hb:Binds X.K fd ps ds)(hd:Vals lX ds)(hx:GQ CX X E)(ha:PA X (e::es) t)(hdb:(x==("__debug__":aj))=false:=by decide)(he:Yr (e::es) X.env=(false,aF e X.env)::Yr es X.env:=by rfl)(hpl:(bO pos (Yr es X.env)).any (·.1)=false:=by rfl):
  PE X (.Call (.Name x p) (e::es) [] pos) (Zyr C sp lX E t):=by
 intro pins s σ H Q I h;refine yj (yX I hg hm ?_ hdb);refine Qk (h₀:=X.base) I.ok.mod.yW M.kp (aH (ha pos pins s σ H _ I h) λus s1 ⟨vs,H1,I1,r,q⟩=>⟨I1.bW,?_⟩) he hpl;exact Zqv M F hr hb hd hx I1 r q
end
def PK(X:Cx)(kws:List Keyword)(t:TA):Prop:=∀(pos:aP) (pins:List (Yt×aD)) (s:Yf) (σ:St) (H:Hp) (Q:List V->Hp->Prop),Inv X pins σ H s->t σ H Q->ao (aq X.prog X.w) X.A (J5 ((iC pos (iB kws X.env)).map (·.2))) (AP X pins σ Q) X.xe s
section
variable {X:Cx} {CX:oK} {k:Nat} {f C:Yt} {fd:jB} {ps ks:List aj} {sp:Sp} {E:XK} {x m:aj} {p pos apos kpos:aP} {e o:Expr} {es:List Expr} {kws:List Keyword} {te ta:TE} {t tk:TA} {nm:Option aj}
theorem ZrD:PK X [] Tg:=λ_ _ _ _ H Q I h=>wpAny_evalAll_nil ⟨[],H,I,.nil,h⟩
theorem ZoQ(ha:PE X e te)(hr:PK X kws t):PK X (⟨nm,e,kpos⟩::kws) (Lh te t):=by intro pos pins s σ H Q I h;show ao _ _ (J5 ((do let v ←aF e X.env;Bl pos;pure v)::(iC pos (iB kws X.env)).map (·.2))) _ _ s;refine wpAny_evalAll_cons (Yc (aH (ha pins s σ H _ I h) λu s1 ⟨x,H1,I1,r1,q1⟩=>Yc (uD (Yp ?_))));exact aH (hr pos pins s1 σ H1 _ I1 q1) λus s2 ⟨xs,H2,I2,r2,q2⟩=>⟨x::xs,H2,I2,.cons r1 r2,q2⟩
variable {g:List Ye->List Ye->List Ye} {gV:List V->List V->List V}
end
structure cL(N P:List aj)(sc:Scope):Prop where
 kind:sc.kind= .function
 co:sc.isCoroutine=false
 gen:sc.isGenerator=false
 nd:N.Nodup
 pre:N.take P.length=P
 par:∀x∈P,sc.names.lookup x=Ya .local\/sc.names.lookup x=Ya .cell
 Aco:∀y∈sc.names,y.2≠ .free
theorem Zkv{mZ:aj->Option NameKind}{x:aj}:∀{binds:List (aj×Ye)} {m:aj->Option Ye},(∀v,(x,v)∉binds)->v5 mZ binds m x=m x
 |[],_,_=>rfl|(n,v)::r,m,h=>by
  unfold v5;rw[Zkv λw hw=>h w (Yg _ hw)];split
  .have:x≠n:=by rintro rfl;exact h v Yl
   simp[this]
  .rfl
theorem ZkJ{mZ:aj->Option NameKind}{x:aj}:∀{binds:List (aj×Ye)} {m:aj->Option Ye},(∀v,(x,v)∉binds)->v8 mZ binds m x=m x
 |[],_,_=>rfl|(n,v)::r,m,h=>by
  unfold v8;rw[ZkJ λw hw=>h w (Yg _ hw)];split
  .rfl
  .have:x≠n:=by rintro rfl;exact h v Yl
   simp[this]
theorem Zkj{mZ:aj->Option NameKind}{x:aj}{v:Ye}:∀{P:List aj} {vs:List Ye} {i:Nat} {m:aj->Option Ye},P.Nodup->P[i]?=Ya x->vs[i]?=Ya v->mZ x=Ya .local ->
  v5 mZ (P.zip vs) m x=Ya v
 |[],_,_,_,_,h,_,_=>by simp at h|_::_,[],_,_,_,_,h,_=>by simp at h|p::P,w::vs,0,m,nd,h1,h2,hk=>by simp at h1 h2;subst h1;subst h2;show v5 mZ ((p,w)::P.zip vs) m p=_;unfold v5;rw[Zkv λv hv=>(su.mp nd).1 (Ra hv).1,if_pos hk];simp|p::P,w::vs,i+1,m,nd,h1,h2,hk=>by show v5 mZ ((p,w)::P.zip vs) m x=_;unfold v5;exact Zkj (i:=i) (su.mp nd).2 (by simpa using h1) (by simpa using h2) hk
theorem ZkI{mZ:aj->Option NameKind}{x:aj}{v:Ye}:∀{P:List aj} {vs:List Ye} {i:Nat} {m:aj->Option Ye},P.Nodup->P[i]?=Ya x->vs[i]?=Ya v->mZ x≠Ya .local ->
  v8 mZ (P.zip vs) m x=Ya v
 |[],_,_,_,_,h,_,_=>by simp at h|_::_,[],_,_,_,_,h,_=>by simp at h|p::P,w::vs,0,m,nd,h1,h2,hk=>by simp at h1 h2;subst h1;subst h2;show v8 mZ ((p,w)::P.zip vs) m p=_;unfold v8;rw[ZkJ λv hv=>(su.mp nd).1 (Ra hv).1,if_neg hk];simp|p::P,w::vs,i+1,m,nd,h1,h2,hk=>by show v8 mZ ((p,w)::P.zip vs) m x=_;unfold v8;exact ZkI (i:=i) (su.mp nd).2 (by simpa using h1) (by simpa using h2) hk
noncomputable def start(N:List aj)(vs:List V):St:=vs.map Ya++Ym (N.length-vs.length) Yk
noncomputable def oM(CX:oK)(P:Y8)(w:aO)(K:Yb)(mg:aj->Option Ye)(base:aC)(N:List aj)(qual:aj)(scope:Scope)(f:Yt)(cd:Ye)(A:bC)(outer:List cH)(s:Yf)(H:Hp)(E:XK):Cx where
 prog:=P
 w:=w
 K:=K
 mg:=mg
 base:=base
 A:=A.deeper (lV qual scope s.heap.objs.size f cd)
 N:=N
 s₀:=s
 H₀:=H
 env:=lV qual scope s.heap.objs.size f cd
 outer:=outer
 stack:=lV qual scope s.heap.objs.size f cd::outer
 ex:=[]
 calm:=true
 fn:=λ_=>true
 pn:=[]
 xe:=λe s'=>ao (aq P w) (A.deeper (lV qual scope s.heap.objs.size f cd)) (J6 (lV qual scope s.heap.objs.size f cd) e) (λ_ s''=>CX outer H s E e s'') (λe' s''=>CX outer H s E e' s'') s'
theorem Zl8{sc:Scope}{n:Nat}{x:aj}(h:sc.names.lookup x=Ya .cell):∃c,(Q3 n sc.names []).lookup x=Ya c:=by have q:=Xv sc.names n [] (.inl h);exact Qh.mp q
theorem ZpN{CX:oK}{N:List aj}{qual:aj}{scope:Scope}{f:Yt}{cd:Ye}{s1:Yf}{E:XK}(S:cL N ps scope)(hd:A.handled=Yk)(e0:sS P w K mg base A outer s H)(hl:vs.length=ps.length)(r:Vals vs us)(x:InCallC s s.heap.objs.size (v5 (lV qual scope s.heap.objs.size f cd).kindOf (ps.zip us) λ_=>Yk) (Q3 (s.heap.objs.size+1) scope.names []) (v8 (lV qual scope s.heap.objs.size f cd).kindOf (ps.zip us) λ_=>Yk) s1):
  Inv (oM CX P w K mg base N qual scope f cd A outer s H E) [] (start N vs) H s1:=by
 have hpl:ps.length<=N.length:=by have:=congrArg yK S.pre;rw[yG]at this;omega
 obtain⟨h1,tk,rfl,hk⟩:=x.done;have GR:∀b:Yt,b∉(oM CX P w K mg base N qual scope f cd A outer s H E).ex:=λb z=>absurd (show b∈([]:List Yt)from z) (by simp);refine⟨⟨e0.mod,S.kind,rfl,rfl,Yq _,λy z c h1 h2=>?_,λy hy=>?_,λy c _ h=>?_,λ_=>hd,Around.frames_deeper e0.frames,.inr ⟨rfl,rfl⟩,λb z=>absurd z (GR b),e0.bs,e0.oJ,λb _ _=>GR b,λb z=>absurd z (GR b),e0.j4,e0.qJ⟩,
  rfl,e0.bare,Un.kept hk,⟨_,x.toInCall.ns,λi y v h1 h2 h3=>?_⟩,λy c h=>⟨_,x.cell y c h⟩,e0.hok.fresh (Yq _),λy c h=>?_,λp hp=>absurd (show p∈([]:List (Yt×aD))from hp) (by simp),e0.hok.kept hk,?_⟩
 .exact name_of_addr x.apart (uy h1) (uy h2)
 .have hy:scope.names.lookup y=Ya .cell\/scope.names.lookup y=Ya .free:=hy;rcases hy with hy|hy
  .exact Zl8 hy
  .exact absurd rfl (S.Aco _ (uy hy))
 .exact wC (x.above y c (uy h))
 .have hi:i<vs.length:=by
   unfold start at h2;by_cases hi:i<vs.length
   .exact hi
   .rw[yC (by simpa using hi)]at h2;rw[J9]at h2;split at h2<;>cases h2
  have ha:vs[i]?=Ya v:=by
   unfold start at h2;rw[Yx (by simpa using hi),lM]at h2;cases e:vs[i]? with
   |none=>rw[e]at h2;cases h2|some a=>rw[e]at h2;cases h2;rfl
  obtain⟨u,hu,rv⟩:=r.get ha;have hp:ps[i]?=Ya y:=by rw[←S.pre,v_ (by omega)];exact h1
  have ndP:ps.Nodup:=by rw[←S.pre];exact S.nd.sublist (ZL _ _)
  refine⟨u,rv,?_⟩;rcases S.par y (Br hp)with k|k
  .exact .inl ⟨k,Zkj ndP hp hu k⟩
  .obtain⟨c,e⟩:=Zl8 (n:=s.heap.objs.size+1) k;refine .inr ⟨.inl k,c,e,?_⟩;have q:=x.cell y c e;rw[ZkI ndP hp hu (by show scope.names.lookup y≠_;rw[k];decide)]at q;exact q
 .exact e0.hok.fresh (wC (x.above y c (uy h)))
 .unfold start;show _=N.length;rw[Yj,Ys,mV];omega
theorem Ti{CX:oK}{k:Nat}{f:Yt}{name qual:aj}{params:Arguments}{body:List Ydi}{scope:Scope}{dV kV doc pm cdv ct oc:Ye}{an od:Option Yt}{osl:Array (Option Ye)}{N:List aj}{sp:Sp}(lk:K.lookup f=Ya ⟨oc,od,.func (pD name qual params body scope dV kV doc pm an cdv ct),osl⟩)(hcd:Bc K cdv qual=true)(S:cL N ps scope)(len:∀vs H Q E,sp vs H Q E->vs.length=ps.length)(hbody:∀(A:bC) (outer:List cH) (s:Yf) (H:Hp) (vs:List V) (Q:VK) (E:XK),cJ k (A.deeper (lV qual scope s.heap.objs.size f cdv))->sp vs H Q E ->
   ∃t,jl (oM CX P w K mg base N qual scope f cdv A outer s H E) body t/\t {nx:=λ_ H'=>Q .non H',rt:=Q} (start N vs) H):
  fM P w K mg base CX (k+1) f (pD name qual params body scope dV kV doc pm an cdv ct) ps sp:=by
 refine⟨len,λA outer s H args us vs Q E hr e0 hb r hsp=>?_⟩;have hl:=len _ _ _ _ hsp;have KX:K.In s.heap:=e0.mod.yW.keeps λb o e=>(e0.bs b o e).1;have lim:s.heap.NoLimit:=e0.mod.nolimit.keeps λb o e=>(e0.bs b o e).1;have hkind:∀y∈ps.zip us,scope.names.lookup y.1=Ya .local\/(scope.names.lookup y.1=Ya .cell/\((Q3 (s.heap.objs.size+1) scope.names []).lookup y.1).isSome=true):=λ⟨n,v⟩ hy=>by
  rcases S.par n (Ra hy).1 with q|q
  .exact .inl q
  .exact .inr ⟨q,Xv _ _ _ (.inl q)⟩
 refine codeAny_call_function hr.depth (KX _ _ lk) rfl S.co S.gen rfl (PySem.W.codeRec_of KX hcd) (hb _ _ _ _ ?_);refine wpAny_newFunctionEnv_cells S.kind hkind λenv he s1 x=>?_;subst he;refine⟨lim.keeps x.toInCall.keep,codeAny_func ?_⟩;obtain⟨t,ht,hq⟩:=hbody A outer s H vs Q E (hr.deeper _) hsp;have I:Inv (oM CX P w K mg base N qual scope f cdv A outer s H E) [] (start N vs) H s1:=ZpN S hr.hd e0 hl r x;refine eY (ht [] s1 (start N vs) H _ I hq) (λfl s' hs=>?_) λe s' hs=>hs;have fin:∀{σ':St} {H':Hp} {v:V} {u:Ye},Inv (oM CX P w K mg base N qual scope f cdv A outer s H E) [] σ' H' s'->RelV v u->Q v H'->CE outer P w H s Q u s':=λ{σ' H' v u} J rv q=>⟨v,H',J.os,J.bare,J.base,J.hok,rv,q⟩;cases fl with
 |ret u=>obtain⟨v,σ',H',J,rv,q⟩:=hs;exact fin J rv q|next=>obtain⟨σ',H',J,q⟩:=hs;exact fin (v:=V.non) (u:=Value.none) J rfl q|brk=>obtain⟨_,_,_,q⟩:=hs;exact dX q|cont=>obtain⟨_,_,_,q⟩:=hs;exact dX q
end L2
namespace L2
open PySem PySem.Spec PyProof.Rows
section
variable {X:Cx} {x:aj} {p pos:aP} {e:Expr} {es:List Expr} {t:TA} {id T:String} {r:List V->Hp->VK->Prop}
def GX(r:List V->Hp->VK->Prop)(t:TA):TE:=λσ H Q=>t σ H λvs H1=>r vs H1 Q
theorem Li(hc:cT X (.builtin id) r)(hg:Gl X x)(hm:X.mg x=Yk)(hv:jA x=Ya (.builtin id))(ha:PA X (e::es) t)(hn:x≠ "__name__":=by decide)(hdb:(x==("__debug__":aj))=false:=by decide)(he:Yr (e::es) X.env=(false,aF e X.env)::Yr es X.env:=by rfl)(hpl:(bO pos (Yr es X.env)).any (·.1)=false:=by rfl):PE X (.Call (.Name x p) (e::es) [] pos) (GX r t):=by intro pins s σ H Q I h;refine yj (wL I hg hm hv ?_ hn hdb);exact Yf9 (aH (ha pos pins s σ H _ I h) λus s1 ⟨vs,H1,I1,r1,q1⟩=>hc pins s1 σ H1 vs us Q I1 r1 q1) he hpl
theorem ZkB(hc:cT X (.type T) r)(hg:Gl X x)(hm:X.mg x=Yk)(hv:jA x=Ya (.type T))(ha:PA X (e::es) t)(hn:x≠ "__name__":=by decide)(hdb:(x==("__debug__":aj))=false:=by decide)(he:Yr (e::es) X.env=(false,aF e X.env)::Yr es X.env:=by rfl)(hpl:(bO pos (Yr es X.env)).any (·.1)=false:=by rfl):PE X (.Call (.Name x p) (e::es) [] pos) (GX r t):=by intro pins s σ H Q I h;refine yj (wL I hg hm hv ?_ hn hdb);exact Kz (aH (ha pos pins s σ H _ I h) λus s1 ⟨vs,H1,I1,r1,q1⟩=>hc pins s1 σ H1 vs us Q I1 r1 q1) he hpl
end
end L2
namespace HT
open PySem PyProof.Rows
section
variable {prog:Y8} {w:aO} {A:bC} {E:Ye->Yf->Prop} {s:Yf}
theorem Aca{t b:Yt}{vs ws:List Ye}{Q:Ye->Yf->Prop}(ht:IsTup s.heap t vs.toArray)(hb:IsTup s.heap b ws.toArray)(hv:vs≠[])(h1:ws=[]->Q (.ref t) s)(h2:ws≠[]->Q (.ref s.heap.objs.size) {s with heap:=s.heap.push {cls:=.type "tuple",data:=.seq (vs++ws).toArray}})(hsz:vs.length+ws.length<=bB):ao (aq prog w) A (jg .Add (.ref t) (.ref b)) Q E s:=by
 obtain⟨⟨cls,dd,data,sl⟩,ho,hc,n,hd⟩:=id ht;obtain⟨⟨cls2,dd2,data2,sl2⟩,ho2,hc2,n2,hd2⟩:=id hb;simp only at hc hd hc2 hd2;subst hc hd hc2 hd2;have e:vs.toArray++ws.toArray=(vs++ws).toArray:=by simp
 by_cases hw:ws=[]
 .exact QM ⟨_,ho,rfl⟩ ⟨_,ho2,rfl⟩ QC QJ RG RB (Rz _ _)
   (tuple_addW1 t b vs.toArray ws.toArray n n2 dd dd2 sl sl2 (by simpa using hv) (by simp[hw])) ⟨ho,ho2,h1 hw⟩
 .refine QM ⟨_,ho,rfl⟩ ⟨_,ho2,rfl⟩ QC QJ RG RB (Rz _ _)
   (tuple_addW2 t b vs.toArray ws.toArray n n2 dd dd2 sl sl2 (by simpa using hv) (by simpa using hw) (by rw[Yo,Yo];exact hsz)) ⟨ho,ho2,?_⟩
  rw[e];exact h2 hw
noncomputable def aG(n d:Nat):Option Int->Nat
 |none=>d|some v=>if v<0 then(v+(n:Int)).toNat else jk v.toNat n
theorem Tj(n d:Nat):aG n d Yk=d:=rfl
theorem GZ(n d k:Nat):aG n d (Ya (k:Int))=jk k n:=by show(if(k:Int)<0 then((k:Int)+(n:Int)).toNat else jk (k:Int).toNat n)=jk k n;rw[if_neg (Int.not_lt.2 (Ku _)),uI]
theorem Lj(n d:Nat)(hd:d<=n)(o:Option Int):aG n d o<=n:=by
 cases o with
 |none=>exact hd|some v=>
  show(if v<0 then(v+(n:Int)).toNat else jk v.toNat n)<=n;by_cases hv:v<0
  .rw[if_pos hv];omega
  .rw[if_neg hv];exact Z7 _ _
theorem Zoj(v:Int)(n d:Nat):(if v<0 then max (v+(n:Int)) 0 else jk v (n:Int))=((aG n d (Ya v):Nat):Int):=by
 show(if v<0 then max (v+(n:Int)) 0 else jk v (n:Int))=(((if v<0 then(v+(n:Int)).toNat else jk v.toNat n):Nat):Int);by_cases hv:v<0
 .simp only[if_pos hv];exact clA _
 .simp only[if_neg hv];exact clB _ _ hv
theorem Znj(lo hi:Option Int)(n:Nat):RQ lo hi 1 (n:Int)=(((aG n 0 lo:Nat):Int),((aG n n hi:Nat):Int)):=by
 have h1:¬((1:Int)<0):=by decide
 unfold RQ;simp only[h1,if_false];refine Prod.ext ?_ ?_
 .cases lo with
  |none=>rfl|some v=>exact Zoj v n 0
 .cases hi with
  |none=>rfl|some v=>exact Zoj v n n
theorem ZnN(i j:Nat):KQ (i:Int) (j:Int) 1=j-i:=by
 unfold KQ;have h1:(1:Int)>0:=by decide
 simp only[h1,if_true,Int.ediv_one];split <;>omega
theorem ZjC{v:Ye}{o:Option Int}{Q:Option Int->Yf->Prop}(p:IsPart v o)(h:Q o s):ao (aq prog w) A (Builtin.Slice.slicePartIndex v) Q E s:=by
 cases p with
 |none=>exact slicePart_none h|int i t=>exact slicePart_int h
theorem WT{sl:Yt}{vl vu:Ye}{lo hi:Option Int}{n:Nat}{Q:Int×Int×Nat->Yf->Prop}(hs:s.heap.IsSliceOf sl vl vu .none)(pl:IsPart vl lo)(pu:IsPart vu hi)(h:Q (((aG n 0 lo:Nat):Int),1,aG n n hi-aG n 0 lo) s):ao (aq prog w) A (Ygq (.ref sl) (pure (n:Int))) Q E s:=by obtain⟨os,hos,hcs,hds⟩:=id hs;unfold Ygq Builtin.Slice.sliceFields;refine Yc (Yc (mU hos hds (x:=vl) rfl (Yc (mU hos hds (x:=vu) rfl (Yc (mU hos hds (x:=.none) rfl (Yp ?_)))))));refine Yc (slicePart_none ?_);show ao _ _ (if((1:Int)==0)=true then _ else _) _ _ s;rw[if_neg (by decide)];refine Yc (ZjC pl (Yc (ZjC pu (Yc (Yp ?_)))));show ao _ _ (match RQ lo hi 1 (n:Int)with|(lo,hi)=>pure (lo,(1:Int),KQ lo hi 1)) _ _ s;rw[Znj lo hi n];show ao _ _ (pure (((aG n 0 lo:Nat):Int),(1:Int),KQ ((aG n 0 lo:Nat):Int) ((aG n n hi:Nat):Int) 1)) _ _ s;rw[ZnN];exact Yp h
theorem Zry(xs:Array Ye)(i k:Nat):((jj k).filterMap λ(m:Nat)=>xs[((i:Int)+(m:Int)*1).toNat]?).toArray=((xs.toList.drop i).take k).toArray:=by
 have e:(λ(m:Nat)=>xs[((i:Int)+(m:Int)*1).toNat]?)=λm=>xs[i+m]?:=by
  funext m;have:((i:Int)+(m:Int)*1).toNat=i+m:=by omega
  rw[this]
 rw[e];have:=pick_run xs i k;rw[List.filterMap_map]at this;have e2:((λx=>xs[x]?) ∘ λx=>i+x)=λm=>xs[i+m]?:=rfl;rw[e2]at this;rw[this]
theorem Aae{t sl:Yt}{items:Array Ye}{vl vu:Ye}{lo hi:Option Int}{Q:Ye->Yf->Prop}(ht:IsTup s.heap t items)(hs:s.heap.IsSliceOf sl vl vu .none)(pl:IsPart vl lo)(pu:IsPart vu hi)(hw:¬(aG items.size 0 lo=0/\aG items.size items.size hi=items.size))(h:Q (.ref s.heap.objs.size) {s with heap:=s.heap.push {cls:=.type "tuple",data:=.seq ((items.toList.drop (aG items.size 0 lo)).take (aG items.size items.size hi-aG items.size 0 lo)).toArray}})(hsz:items.size<=bB):ao (aq prog w) A (qF (.ref t) (.ref sl)) Q E s:=by
 have JH:sizeOk (.seq ((items.toList.drop (aG items.size 0 lo)).take (aG items.size items.size hi-aG items.size 0 lo)).toArray):=by show((items.toList.drop (aG items.size 0 lo)).take (aG items.size items.size hi-aG items.size 0 lo)).toArray.size<=bB;rw[Yo,yG,ZQ,KJ];omega
 have hj:aG items.size items.size hi<=items.size:=Lj _ _ (Yq _) hi;obtain⟨os,hos,hcs,hds⟩:=id hs;have hTs:s.TypeIs (.ref sl) "slice":=⟨os,hos,hcs⟩;unfold qF
 try with_reducible refine gG ?_
 first|refine Yc (Yp ?_)|skip
 refine Yc (QB ht.typeIs (by decide) ?_);refine Yc (yg (name:=mY "__getitem__") ht.typeIs Ky
  (vU Ky ht.typeIs Yjt ?_ (Ykl _ _)))
 show ao _ _ (Ygr (.ref t)>>=_) _ _ s;refine Yc (tupleItemsOf_ ht ?_);refine Yc (JW hTs ?_);rw[if_pos (by decide)];refine Yc (WT hs pl pu ?_);have hno:¬((((aG items.size 0 lo:Nat):Int)==0&&(1:Int)==1&&(aG items.size items.size hi-aG items.size 0 lo)==items.size)=true):=by intro q;rw[Y3,Y3]at q;have q1:((aG items.size 0 lo:Nat):Int)=0:=eq_of_beq q.1.1;have q2:aG items.size items.size hi-aG items.size 0 lo=items.size:=eq_of_beq q.2;exact hw ⟨by omega,by omega⟩
 show ao _ _ (if(((aG items.size 0 lo:Nat):Int)==0&&(1:Int)==1&&(aG items.size items.size hi-aG items.size 0 lo)==items.size)=true then _ else _) _ _ s;rw[if_neg hno,Zry]
 first
  |exact Yc (m:=K3 _) (rR (Yp ⟨_,rfl,Yp h⟩) JH)
  |exact Yc (m:=K3 _) (rR (Yc (Yp (Yp ⟨_,rfl,Yp h⟩))) JH)
  |exact Yc (Yc (m:=K3 _) (rR (Yp (Yp ⟨_,rfl,Yp h⟩)) JH))
  |exact Yc (Yc (m:=K3 _) (rR (Yp ⟨_,rfl,Yp h⟩) JH))
end
end HT
namespace L2
open PySem PySem.Spec PyProof.Rows
noncomputable abbrev TO:=St->Hp->(Option Int->Hp->Prop)->Prop
def PO(X:Cx)(e:Option Expr)(t:TO):Prop:=
 ∀(pins:List (Yt×aD)) (s:Yf) (σ:St) (H:Hp) (Q:Option Int->Hp->Prop),Inv X pins σ H s->t σ H Q ->
  ao (aq X.prog X.w) X.A (evalPart e X.env) (λu s'=>∃o H',Inv X pins σ H' s'/\IsPart u o/\Q o H') X.xe s
def Zub:TO:=λ_ H Q=>Q Yk H
def ZxN(t:TE):TO:=λσ H Q=>t σ H λx H1=>∃i,x= .int i/\Q (Ya i) H1
section
variable {X:Cx} {e:Expr} {te:TE} {lo hi:Option Expr} {tl th:TO} {pos p2:aP}
theorem Zto:PO X Yk Zub:=by intro pins s σ H Q I h;rw[evalPart_none];exact Yp ⟨Yk,H,I,.none,h⟩
theorem ZtH(h:PE X e te):PO X (Ya e) (ZxN te):=by intro pins s σ H Q I hw;rw[evalPart_some];refine aH (h pins s σ H _ I hw) λu s1 ak=>?_;obtain⟨x,H1,I1,r1,q1⟩:=ak;obtain⟨i,rfl,q⟩:=q1;obtain⟨t,rfl⟩:=r1;exact⟨Ya i,H1,I1,.int i t,q⟩
def jF(X:Cx)(r:V->Option Int->Option Int->Hp->VK->Prop):Prop:=
 ∀(pins:List (Yt×aD)) (s:Yf) (σ:St) (H:Hp) (x:V) (v vl vu:Ye) (lo hi:Option Int) (sl:Yt) (Q:VK),Inv X pins σ H s->RelV x v->s.heap.IsSliceOf sl vl vu .none->IsPart vl lo->IsPart vu hi->r x lo hi H Q ->
  ∃T id,QV (.type T) "__getitem__" =pure (Ya (.builtin id))/\s.TypeIs v T/\ao (aq X.prog X.w) X.A (qF v (.ref sl)) (EP X pins σ Q) X.xe s
theorem jF.or{r r':V->Option Int->Option Int->Hp->VK->Prop}(h:jF X r)(h':jF X r'):jF X (λx lo hi H Q=>r x lo hi H Q\/r' x lo hi H Q):=by
 intro pins s σ H x v vl vu lo hi sl Q I rx hs pl pu q;rcases q with q|q
 .exact h pins s σ H x v vl vu lo hi sl Q I rx hs pl pu q
 .exact h' pins s σ H x v vl vu lo hi sl Q I rx hs pl pu q
def tSl(r:V->Option Int->Option Int->Hp->VK->Prop)(te:TE)(tl th:TO):TE:=λσ H Q=>te σ H λx H1=>tl σ H1 λl H2=>th σ H2 λu H3=>r x l u H3 Q
theorem Zrl{r:V->Option Int->Option Int->Hp->VK->Prop}(hr:jF X r)(he:PE X e te)(hl:PO X lo tl)(hu:PO X hi th):PE X (.Subscript e (.Slice lo hi Yk p2) pos) (tSl r te tl th):=by intro pins s σ H Q I h;refine Rv (aH (he pins s σ H _ I h) λv s1 ak=>?_);obtain⟨x,H1,I1,r1,q1⟩:=ak;refine wpAny_Slice (aH (hl pins s1 σ H1 _ I1 q1) λvl s2 ⟨l,H2,I2,pl,q2⟩=>aH (hu pins s2 σ H2 _ I2 q2) λvu s3 ak=>?_);obtain⟨u,H3,I3,pu,q3⟩:=ak;rw[evalPart_none];refine Yp ?_;have I4:Inv X pins σ H3 {s3 with heap:=s3.heap.push {cls:=.type "slice",data:=.fields #[vl,vu,.none]}}:=I3.kept (t':=s3.toks) λb ob q=>Yh _ q;obtain⟨T,id,hT,ht,hg⟩:=hr pins {s3 with heap:=s3.heap.push {cls:=.type "slice",data:=.fields #[vl,vu,.none]}} σ H3 x v vl vu l u s3.heap.objs.size Q I4 r1 (Heap.IsSliceOf.new ..) pl pu q3;show ao (aq X.prog X.w) X.A (Ru e (.Slice lo hi Yk p2) v (.ref s3.heap.objs.size)) (EP X pins σ Q) X.xe {s3 with heap:=s3.heap.push {cls:=.type "slice",data:=.fields #[vl,vu,.none]}};exact tail_any (ops:=[.ref s3.heap.objs.size,v]) ht hT hg (by with_unfolding_all rfl)
noncomputable def wN(xs:List V)(lo hi:Option Int):List V:=(xs.drop (HT.aG xs.length 0 lo)).take (HT.aG xs.length xs.length hi-HT.aG xs.length 0 lo)
theorem Zh3(xs:List V)(lo hi:Option Int):(wN xs lo hi).length<=xs.length:=by unfold wN;rw[yG,ZQ];exact Yi (Z7 _ _) (Nat.sub_le _ _)
noncomputable def ZzL(K:Yb):V->Option Int->Option Int->Hp->VK->Prop:=λx lo hi H Q=>∃a xs,x= .ref a/\cM K H a xs/\
 ¬(HT.aG xs.length 0 lo=0/\HT.aG xs.length xs.length hi=xs.length)/\∀p,H p=Yk->Q (.ref p) (upd H p (.tup (wN xs lo hi)))
theorem ZvI:jF X (ZzL X.K):=by
 intro pins s σ H x v vl vu lo hi sl Q I rx hs pl pu h;obtain⟨a,xs,rfl,hx,hw,q⟩:=h;cases rx;obtain⟨its,r,ht,hz⟩:=I.tuple hx;have hlen:its.toArray.size=xs.length:=by rw[Yo];exact r.length.symm
 refine⟨"tuple",_,PyProof.Rows.slot_tuple_getitem.lookup,ht.typeIs,?_⟩;refine HT.Aae ht hs pl pu (by rw[hlen];exact hw) ?_ (by rw[hlen];exact hz);rw[hlen];refine⟨.ref s.heap.objs.size,_,I.laid (t':=s.toks) (o:=.tup (wN xs lo hi)) (λb ob q=>Yh _ q) (Yq _) ?_,rfl,q _ (I.hok.fresh (Yq _))⟩;exact⟨Yi (Zh3 xs lo hi) hz,_,(r.drop (HT.aG xs.length 0 lo)).take (HT.aG xs.length xs.length hi-HT.aG xs.length 0 lo),sI.new _ _⟩
def ZxO(K:Yb):R2:=λx y H Q=>∃a b xs ys,x= .ref a/\y= .ref b/\cM K H a xs/\cM K H b ys/\xs≠[]/\xs.length+ys.length<=bB/\
 (ys=[]->Q (.ref a) H)/\(ys≠[]->∀p,H p=Yk->Q (.ref p) (upd H p (.tup (xs++ys))))
theorem Vals.Px{xs:List V}{us:List Ye}(r:Vals xs us):us=[]↔xs=[]:=by
 cases r with
 |nil=>simp|cons _ _=>simp
theorem Ztj:a_ X (jg .Add) (ZxO X.K):=by intro pins s σ H x y v u Q I rx ry h;obtain⟨a,b,xs,ys,rfl,rfl,ha,hb,hx,hz,q1,q2⟩:=h;cases rx;cases ry;obtain⟨its,r1,p1,_⟩:=I.tuple ha;obtain⟨its2,r2,p2,_⟩:=I.tuple hb;refine HT.Aca p1 p2 (λz=>hx (r1.Px.mp z)) (λz=>⟨.ref a,H,I,rfl,q1 (r2.Px.mp z)⟩) (λz=>?_) (by rw[←r1.length,←r2.length];exact hz);refine⟨.ref s.heap.objs.size,_,I.laid (t':=s.toks) (o:=.tup (xs++ys)) (λb ob q=>Yh _ q) (Yq _) ?_,rfl,q2 (λw=>z (r2.Px.mpr w)) _ (I.hok.fresh (Yq _))⟩;exact⟨by rw[Yj];exact hz,_,r1.append r2,sI.new _ _⟩
end
end L2
namespace L2
open PySem PySem.Spec PyProof.Rows
noncomputable def Cd(n:Nat)(i:Int):Option Nat:=if 0<=i then(if i<n then Ya i.toNat else Yk)else if -(n:Int)<=i then Ya (i+n).toNat else Yk
noncomputable def za{α:Type}(xs:List α)(i:Int):Option α:=(Cd xs.length i).bind λj=>xs[j]?
theorem Tn{n:Nat}{i:Int}{j:Nat}(h:Cd n i=Ya j):Q4 i n=Ya j/\j<n/\ -(n:Int)<=i/\i<n:=by
 unfold Cd at h;by_cases h0:0<=i
 .rw[if_pos h0]at h;by_cases h1:i<n
  .rw[if_pos h1]at h;have e:i.toNat=j:=eZ h;exact⟨by rw[QR h0 h1,e],by omega,by omega,h1⟩
  .rw[if_neg h1]at h;cases h
 .rw[if_neg h0]at h;by_cases h1:-(n:Int)<=i
  .rw[if_pos h1]at h;have e:(i+n).toNat=j:=eZ h;exact⟨by rw[QQ (by exact yQ.1 h0) h1,e],by omega,h1,by omega⟩
  .rw[if_neg h1]at h;cases h
theorem Tp{α:Type}{xs:List α}{i:Int}{v:α}(h:za xs i=Ya v):∃j,Q4 i xs.length=Ya j/\xs[j]?=Ya v/\j<xs.length/\ -(xs.length:Int)<=i/\i<xs.length:=by
 unfold za at h;cases e:Cd xs.length i with
 |none=>rw[e]at h;cases h|some j=>rw[e]at h;obtain⟨h1,h2,h3,h4⟩:=Tn e;exact⟨j,h1,h,h2,h3,h4⟩
def ZoN(b:Expr):Prop:=∀o i,JX b false o i=operate [o,i] (qF o i)
def lY(X:Cx)(r:R2):Prop:=
 ∀(value slice:Expr) (pins:List (Yt×aD)) (s:Yf) (σ:St) (H:Hp) (x y:V) (v u:Ye) (Q:VK),Inv X pins σ H s->RelV x v->RelV y u->r x y H Q ->
  JX slice false v u=operate [v,u] (qF v u)->ao (aq X.prog X.w) X.A (Ru value slice v u) (EP X pins σ Q) X.xe s
def kh(X:Cx)(id:String)(r:V->List V->Hp->VK->Prop):Prop:=
 ∀(pins:List (Yt×aD)) (s:Yf) (σ:St) (H:Hp) (x:V) (xs:List V) (v:Ye) (us:List Ye) (Q:VK),Inv X pins σ H s->RelV x v->Vals xs us->r x xs H Q ->
  ao (aq X.prog X.w) X.A (call (.builtin id) (v::us)) (EP X pins σ Q) X.xe s
section
variable {X:Cx} {a b:Expr} {ta tb:TE} {pos:aP}
theorem lY.or{r r':R2}(h:lY X r)(h':lY X r'):lY X (λx y H Q=>r x y H Q\/r' x y H Q):=by
 intro value slice pins s σ H x y v u Q I rx ry q hs;rcases q with q|q
 .exact h value slice pins s σ H x y v u Q I rx ry q hs
 .exact h' value slice pins s σ H x y v u Q I rx ry q hs
theorem Zx2{r:R2}(hr:lY X r)(ha:PE X a ta)(hb:PE X b tb)(hs:ZoN b):PE X (.Subscript a b pos) (BZ r ta tb):=by intro pins s σ H Q I h;exact Rv (SN ha hb I h λv u s2 x y H2 I2 rx ry q=>hr a b pins s2 σ H2 x y v u Q I2 rx ry q (hs _ _))
def Zyn(K:Yb):R2:=λx y H Q=>∃p xs i v,x= .ref p/\y= .int i/\bK K H p xs/\za xs i=Ya v/\Q v H
def Zxw(K:Yb):R2:=λx y H Q=>∃p xs i v,x= .ref p/\y= .int i/\cM K H p xs/\za xs i=Ya v/\Q v H
def Zxz:R2:=λx y H Q=>∃z i c,x= .str z/\y= .int i/\z.length<=bB/\za z.cps.toList i=Ya c/\Q (.str ⟨#[c]⟩) H
theorem Ztq:lY X (Zyn X.K):=by
 intro value slice pins s σ H x y v u Q I rx ry h hs;obtain⟨p,xs,i,z,rfl,rfl,hq,he,q⟩:=h;cases rx;obtain⟨t,rfl⟩:=ry;obtain⟨its,r,pl,hz⟩:=I.list hq;obtain⟨j,h1,h2,h3,h4,h5⟩:=Tp he;obtain⟨w,ew,kj⟩:=r.get h2;have hl:=r.length;have hn:=GP;have fin:EP X pins σ Q w s:=⟨z,H,I,kj,q⟩;by_cases h0:0<=i
 .have hj:i.toNat=j:=by
   rw[QR h0 h5]at h1;exact eZ h1
  exact item_listR pl.isList h0 (by omega) (by rw[hj];simpa using ew) fin hs
 .have hj:(i+(its.toArray.size:Int)).toNat=j:=by
   rw[QQ (by exact yQ.1 h0) h4]at h1;rw[Yo,←hl];exact eZ h1
  exact Yh9 (x:=w) pl.isList.typeIs slot_list_getitem.lookup
   (wpAny_getItem_list_neg (Q:=λr s'=>r=w/\EP X pins σ Q r s') pl.isList (by exact yQ.1 h0) (by rw[Yo]<;>omega) (by omega) (by rw[hj];simpa using ew) ⟨rfl,fin⟩) hs
theorem Zwd:lY X (Zxw X.K):=by
 intro value slice pins s σ H x y v u Q I rx ry h hs;obtain⟨p,xs,i,z,rfl,rfl,hq,he,q⟩:=h;cases rx;obtain⟨t,rfl⟩:=ry;obtain⟨its,r,pl,hz⟩:=I.tuple hq;obtain⟨j,h1,h2,h3,h4,h5⟩:=Tp he;obtain⟨w,ew,kj⟩:=r.get h2;have hl:=r.length;have hn:=GP;have fin:EP X pins σ Q w s:=⟨z,H,I,kj,q⟩;exact Yh9 (x:=w) pl.typeIs slot_tuple_getitem.lookup
  (getItem_tuple (j:=j) (Q:=λr s'=>r=w/\EP X pins σ Q r s') pl (by omega) (by omega) (by rw[Yo,←hl];exact h1) (by simpa using ew) ⟨rfl,fin⟩) hs
theorem Zv2:lY X Zxz:=by
 intro value slice pins s σ H x y v u Q I rx ry h hs;obtain⟨z,i,c,rfl,rfl,hz,he,q⟩:=h;obtain⟨t,rfl⟩:=rx;obtain⟨t',rfl⟩:=ry;obtain⟨j,h1,h2,h3,h4,h5⟩:=Tp he;have hl:z.cps.toList.length=z.length:=by simp[lU]
 rw[hl]at h1 h4 h5;have hn:=GP;exact tail_any (Bh s z t) slot_str_getitem.lookup (getItem_str (c:=c) (by have e1:decide (i< -(2^63:Int))=false:=decide_eq_false (by omega);have e2:decide (i>=2^63)=false:=decide_eq_false (by omega);rw[e1,e2,Ks]) (by rw[h1];simpa using h2) ⟨.str ⟨#[c]⟩,H,I.tok _,⟨_,rfl⟩,q⟩) hs
def rIx(K:Yb):R2:=λx y H Q=>Zyn K x y H Q\/Zxw K x y H Q\/Zxz x y H Q
theorem ZwG:lY X (rIx X.K):=Ztq.or (Zwd.or Zv2)
theorem Znc(its:List Ye)(n j:Nat)(u:Ye):yU (·.setIfInBounds j u) {cls:=.type "list",data:=.seq its.toArray n}={cls:=.type "list",data:=.seq (its.set j u).toArray n}:=by simp[yU]
theorem Inv.lst{pins:List (Yt×aD)}{σ:St}{H:Hp}{s:Yf}{p:Yt}{xs:List V}(I:Inv X pins σ H s)(h:H p=Ya (.lst xs)):
  ∃(its:List Ye) (n:Nat),Vals xs its/\s.heap.get? p=Ya {cls:=.type "list",data:=.seq its.toArray n}/\xs.length<=bB:=by
 obtain⟨z,its,n,r,e⟩:=I.hok p _ h;exact⟨its,n,r,e,z⟩
theorem Inv.Acp{pins:List (Yt×aD)}{σ:St}{H:Hp}{s:Yf}{p:Yt}{xs ys:List V}{its its':List Ye}{n n':Nat}{f:aD->aD}(I:Inv X pins σ H s)(h:H p=Ya (.lst xs))(ho:s.heap.get? p=Ya {cls:=.type "list",data:=.seq its.toArray n})(hf:f {cls:=.type "list",data:=.seq its.toArray n}={cls:=.type "list",data:=.seq its'.toArray n'})(r:Vals ys its')(hz:ys.length<=bB)(t:Nat):
  Inv X pins σ (upd H p (.lst ys)) {s with heap:=s.heap.update p f,toks:=t}:=by
 have e:(s.heap.update p f).get? p=Ya {cls:=.type "list",data:=.seq its'.toArray n'}:=by rw[wu f ho (by rw[hf]<;>rfl),hf]
 refine I.write (x:=p) (e:=p) (by rw[h];trivial) (.inl rfl) (λb u hb q=>(mX _ _ (bV hb)).trans q) ⟨_,e⟩ ?_;exact⟨hz,its',n',r,e⟩
noncomputable def ZxB:V->V->V->Hp->(Hp->Prop)->Prop:=λo i v H Q=>∃p xs k j,o= .ref p/\i= .int k/\H p=Ya (.lst xs)/\Cd xs.length k=Ya j/\Q (upd H p (.lst (xs.set j v)))
theorem set_list:Zys X ZxB:=by
 intro pins s σ H o i v ov iv u Q I ro ri rv h;obtain⟨p,xs,k,j,rfl,rfl,hp,hj,q⟩:=h;cases ro;obtain⟨t,rfl⟩:=ri;obtain⟨its,n,r,ho,hz⟩:=I.lst hp;obtain⟨h1,h2,h3,h4⟩:=Tn hj;have hl:=r.length;have hn:=GP;have I':Inv X pins σ (upd H p (.lst (xs.set j v))) {s with heap:=s.heap.update p (yU (·.setIfInBounds j u))}:=I.Acp hp ho (Znc its n j u) (r.set rv j) (by rw[yI];exact hz) s.toks;by_cases h0:0<=k
 .have hk:k.toNat=j:=by
   rw[QR h0 h4]at h1;exact eZ h1
  exact PySem.W.ki_setAt ho h0 (by omega) (by rw[Yo,←hl];exact h4) (by rw[hk];exact⟨_,I',q⟩)
 .have hk:(k+(its.toArray.size:Int)).toNat=j:=by
   rw[QQ (by exact yQ.1 h0) h3]at h1;rw[Yo,←hl];exact eZ h1
  exact PySem.W.ki_setBack ho (by exact yQ.1 h0) (by rw[Yo,←hl];exact h3) (by omega) (by rw[hk];exact⟨_,I',q⟩)
theorem Zly(lo hi:Option Int)(n:Nat):(yu lo hi Yk n).1=((HT.aG n 0 lo:Nat):Int)/\(yu lo hi Yk n).2.1=((HT.aG n n hi:Nat):Int)/\(yu lo hi Yk n).2.2=1:=by
 refine⟨?_,?_,rfl⟩
 .cases lo with
  |none=>simp[yu,HT.aG]|some i=>
   simp only[yu,HT.aG,Xr,show(1:Int)>0 by decide,if_true];by_cases h:i<0
   .simp only[h,if_true]<;>exact R9 _ _ h
   .simp only[h,if_false]<;>exact R_ _ _ h
 .cases hi with
  |none=>simp[yu,HT.aG]|some i=>
   simp only[yu,HT.aG,Xr,show(1:Int)>0 by decide,if_true];by_cases h:i<0
   .simp only[h,if_true]<;>exact R9 _ _ h
   .simp only[h,if_false]<;>exact R_ _ _ h
theorem ZjQ(its:List Ye)(lo hi:Option Int):slicePick its.toArray lo hi Yk=((its.drop (HT.aG its.length 0 lo)).take (HT.aG its.length its.length hi-HT.aG its.length 0 lo)).toArray:=by obtain⟨h1,h2,h3⟩:=Zly lo hi its.toArray.size;unfold slicePick;rw[h1,h2,h3];simp only[sliceRange_one,pick_run,Yo]<;>rfl
noncomputable def Zzz(K:Yb):V->Option Int->Option Int->Hp->VK->Prop:=λx lo hi H Q=>∃a xs,x= .ref a/\bK K H a xs/\∀p,H p=Yk->Q (.ref p) (upd H p (.lst (wN xs lo hi)))
theorem ZsW:jF X (Zzz X.K):=by intro pins s σ H x v vl vu lo hi sl Q I rx hs pl pu h;obtain⟨a,xs,rfl,hx,q⟩:=h;cases rx;obtain⟨its,r,ht,hz⟩:=I.list hx;have hlen:=r.length;refine⟨"list",_,slot_list_getitem.lookup,ht.isList.typeIs,?_⟩;refine wpAny_getItem_list_slice ht.isList hs pl pu .none (by simp) ?_ (by rw[Yo]<;>omega);rw[ZjQ,←hlen];refine⟨.ref s.heap.objs.size,_,I.laid (t':=s.toks) (o:=.lst (wN xs lo hi)) (λb ob q=>Yh _ q) (Yq _) ?_,rfl,q _ (I.hok.fresh (Yq _))⟩;exact⟨Yi (Zh3 xs lo hi) hz,_,0,(r.drop (HT.aG xs.length 0 lo)).take (HT.aG xs.length xs.length hi-HT.aG xs.length 0 lo),Y1 _ rfl⟩
noncomputable def sU:V->Bool
 | .non=>true|.bl _=>true|.int _=>true|.str _=>true
 |_=>false
noncomputable def uT:V->V->Bool
 | .non,.non=>true|.bl a,.bl b=>a==b|.bl a,.int b=>(if a then 1 else 0)==b|.int a,.bl b=>a==(if b then 1 else 0)
 | .int a,.int b=>a==b|.str a,.str b=>a==b|_,_=>false
theorem ZvV{A:bC}{s:Yf}{y x:V}{u v:Ye}(ry:RelV y u)(rx:RelV x v)(fy:sU y=true)(fx:sU x=true):uJ A s u v (uT y x):=by
 cases y with
 |non=>
  cases ry
  cases x with
  |non=>cases rx;exact RW _|bl b=>cases rx;exact Yi9 b|int b=>obtain⟨t,rfl⟩:=rx;exact Yjv b t|str b=>obtain⟨t,rfl⟩:=rx;exact Yjw b t
  |_=>exact absurd (show false=true from fx) j_
 |bl a=>
  cases ry
  cases x with
  |non=>cases rx;exact Yja a|bl b=>cases rx;exact Yjb a b|int b=>obtain⟨t,rfl⟩:=rx;exact Yjx a b t|str b=>obtain⟨t,rfl⟩:=rx;exact Yjy a b t
  |_=>exact absurd (show false=true from fx) j_
 |int a=>
  obtain⟨t',rfl⟩:=ry;cases x with
  |non=>cases rx;exact Yjz a t'|bl b=>cases rx;exact Yj0 a t' b|int b=>obtain⟨t,rfl⟩:=rx;exact Ykn a t' b t|str b=>obtain⟨t,rfl⟩:=rx;exact RV a t' b t
  |_=>exact absurd (show false=true from fx) j_
 |str a=>
  obtain⟨t',rfl⟩:=ry;cases x with
  |non=>cases rx;exact Yj1 a t'|bl b=>cases rx;exact Yj2 a t' b|int b=>obtain⟨t,rfl⟩:=rx;exact K4 a t' b t|str b=>obtain⟨t,rfl⟩:=rx;exact Yko a t' b t
  |_=>exact absurd (show false=true from fx) j_
 |_=>exact absurd (show false=true from fy) j_
noncomputable def uU(x:V)(u:Ye):Bool:=match u with
 | .none=>uT .non x|.bool b=>uT (.bl b) x|.int i _=>uT (.int i) x|.str z _=>uT (.str z) x
 |_=>false
theorem ZqP{x y:V}{u:Ye}(r:RelV y u)(f:sU y=true):uU x u=uT y x:=by
 cases y with
 |non=>cases r;rfl|bl b=>cases r;rfl|int i=>obtain⟨t,rfl⟩:=r;rfl|str z=>obtain⟨t,rfl⟩:=r;rfl
 |_=>exact absurd (show false=true from f) j_
theorem Tq{x:V}:∀{xs:List V} {us:List Ye},Vals xs us->xs.all sU=true->us.any (uU x)=xs.any λy=>uT y x
 |_,_,.nil,_=>rfl|y::xs,u::us,.cons r t,f=>by rw[iM,Y3]at f;rw[j9,j9,ZqP r f.1,Tq t f.2]
theorem Tr{A:bC}{s:Yf}{x:V}{v:Ye}(rx:RelV x v)(fx:sU x=true):∀{xs:List V} {us:List Ye},Vals xs us->xs.all sU=true->∀u∈us,uJ A s u v (uU x u)
 |_,_,.nil,_=>λu hu=>by cases hu|y::xs,u::us,.cons r t,f=>λu' hu=>by
  rw[iM,Y3]at f;rcases Yv.mp hu with rfl|hu
  .rw[ZqP r f.1];exact ZvV r rx f.1 fx
  .exact Tr rx fx t f.2 u' hu
noncomputable def inV(x:V)(xs:List V):Bool:=xs.any λy=>uT y x
def rIn(K:Yb)(neg:Bool):R2:=λx y H Q=>∃p xs,y= .ref p/\(bK K H p xs\/cM K H p xs)/\sU x=true/\xs.all sU=true/\Q (.bl (if neg then !inV x xs else inV x xs)) H
theorem Zp2:a_ X (gP .In) (rIn X.K false):=by
 intro pins s σ H x y v u Q I rx ry h;obtain⟨p,xs,rfl,hq,fx,fs,q⟩:=h;cases ry;rcases hq with hq|hq
 .obtain⟨its,r,pl,hz⟩:=I.list hq;refine Ymc (uU x) pl.isList (λw hw=>Tr rx fx r fs w (by simpa using hw)) ⟨.bl _,H,I,rfl,?_⟩;rw[show its.toArray.any (uU x)=its.any (uU x)by simp,Tq r fs];exact q
 .obtain⟨its,r,pl,hz⟩:=I.tuple hq;refine SeqAt.in_tupleAt (uU x) pl (λw hw=>Tr rx fx r fs w (by simpa using hw)) ⟨.bl _,H,I,rfl,?_⟩;rw[show its.toArray.any (uU x)=its.any (uU x)by simp,Tq r fs];exact q
theorem cT.or{f:Ye}{r r':List V->Hp->VK->Prop}(h:cT X f r)(h':cT X f r'):cT X f (λxs H Q=>r xs H Q\/r' xs H Q):=by
 intro pins s σ H xs us Q I rs q;rcases q with q|q
 .exact h pins s σ H xs us Q I rs q
 .exact h' pins s σ H xs us Q I rs q
theorem Zj4:cT X (.type "tuple") (λxs H Q=>∃p ys,xs=[.ref p]/\((bK X.K H p ys/\∀l,H l=Yk->Q (.ref l) (upd H l (.tup ys)))\/(cM X.K H p ys/\Q (.ref p) H))):=by
 intro pins s σ H xs us Q I r h;obtain⟨p,ys,rfl,h⟩:=h;obtain⟨u,rfl,rx⟩:=vals1 r;cases rx;rcases h with⟨hq,q⟩|⟨hq,q⟩
 .obtain⟨its,r',pl,hz⟩:=I.list hq;have hlen:=r'.length;refine call_tuple_list pl.isList (λh' kp=>?_) (by simp only[Yo]<;>omega);have I1:Inv X pins σ H {s with heap:=h'}:=I.kept (t':=s.toks) kp;have I2:Inv X pins σ (upd H h'.objs.size (.tup ys)) {s with heap:=h'.push {cls:=.type "tuple",data:=.seq its.toArray}}:=
   I1.laid (t':=s.toks) (λb o e=>Yh _ e) (Yq _) (show cX X.prog X.w _ _ _ (.tup ys)from⟨hz,its,r',sI.new _ _⟩)
  exact⟨.ref h'.objs.size,_,I2,rfl,q _ (I1.hok.fresh (Yq _))⟩
 .obtain⟨its,r',pl,hz⟩:=I.tuple hq;exact call_tuple_same pl ⟨.ref p,H,I,rfl,q⟩
def zb(K:Yb)(T:String)(x:V)(H:Hp):Prop:=match x with
 | .str _=>T= "str"|.int _=>T= "int"|.ref p=>(T= "list" /\∃xs,bK K H p xs)\/(T= "tuple" /\∃o,K.lookup p=Ya o/\o.cls= .type "tuple" /\o.dict=Yk)\/
   (T= "dict" /\((∃kvs,H p=Ya (.dK kvs))\/∃kvs,H p=Ya (.dT kvs)))\/(T= "set" /\∃S n,H p=Ya (.set S n))
 |_=>False
theorem ZqS{pins:List (Yt×aD)}{σ:St}{H:Hp}{s:Yf}{T:String}{x:V}{v:Ye}(I:Inv X pins σ H s)(r:RelV x v)(ty:zb X.K T x H):
  s.TypeIs v T/\∀a,v= .ref a->∃ob,s.heap.get? a=Ya ob/\ob.dict=Yk:=by
 cases x with
 |str z=>obtain⟨t,rfl⟩:=r;cases(show T= "str" from ty);exact⟨Bh s z t,λ_ e=>nomatch e⟩|int i=>obtain⟨t,rfl⟩:=r;cases(show T= "int" from ty);exact⟨QW s i t,λ_ e=>nomatch e⟩|ref p=>
  cases r
  rcases ty with⟨rfl,xs,hq⟩|⟨rfl,o,hk,hc,hd⟩|⟨rfl,hk⟩|⟨rfl,S,n,hk⟩
  .obtain⟨its,_,pl,_⟩:=I.list hq;refine⟨pl.isList.typeIs,λa e=>?_⟩;cases e;obtain⟨o,n,e,c,hd,_⟩:=pl;exact⟨o,e,hd⟩
  .refine⟨⟨o,I.bW p o hk,hc⟩,λa e=>?_⟩;cases e;exact⟨o,I.bW _ o hk,hd⟩
  .have z:∃o,s.heap.get? p=Ya o/\o.ExactDict:=by
    rcases hk with⟨kvs,hk⟩|⟨kvs,hk⟩
    .obtain⟨_,_,_,_,o,_,_,e,ex,_⟩:=I.hok p _ hk;exact⟨o,e,ex⟩
    .obtain⟨_,_,_,_,o,_,_,e,ex,_⟩:=I.hok p _ hk;exact⟨o,e,ex⟩
   obtain⟨o,e,ex⟩:=z;refine⟨⟨o,e,ex.1⟩,λa e2=>?_⟩;cases e2;exact⟨o,e,ex.2.1⟩
  .obtain⟨o,_,_,_,e,ex,_⟩:=I.hok p _ hk;refine⟨⟨o,e,ex.1⟩,λa e2=>?_⟩;cases e2;exact⟨o,e,ex.2.1⟩
 |_=>exact dX ty
def Zyv(K:Yb)(T:String)(r:V->List V->Hp->VK->Prop)(to:TE):TE:=λσ H Q=>to σ H λx H1=>zb K T x H1/\r x [] H1 Q
def tBM(K:Yb)(T:String)(r:V->List V->Hp->VK->Prop)(to:TE)(t:TA):TE:=λσ H Q=>to σ H λx H1=>zb K T x H1/\t σ H1 λxs H2=>r x xs H2 Q
variable {o e:Expr} {es:List Expr} {to:TE} {t:TA} {name:aj} {apos cpos:aP} {T id:String} {r:V->List V->Hp->VK->Prop}
theorem Zvu(pa:PlainAttrs T)(slot:Slot T name id)(hty:typeOf (.builtin id)=pure (.type "method_descriptor"))(hm:kh X id r)(ho:PE X o to)(hbase:mR o name X.env (aF o X.env)=aF o X.env:=by rfl)(hline:(apos.endLine==cpos.line)=true:=by rfl):PE X (.Call (.Attribute o name apos) [] [] cpos) (Zyv X.K T r to):=by intro pins s σ H Q I h;refine wpAny_Call_method0_late hbase hline (aH (ho pins s σ H _ I h) λv s1 ak=>?_);obtain⟨x,H1,I1,r1,ty,q1⟩:=ak;obtain⟨h1,h2⟩:=ZqS I1 r1 ty;exact⟨T,id,pa,slot,hty,h1,h2,RZ rfl (PySem.evalArgs_none (hm pins s1 σ H1 x [] v [] Q I1 r1 .nil q1))⟩
theorem G4(pa:PlainAttrs T)(slot:Slot T name id)(hty:typeOf (.builtin id)=pure (.type "method_descriptor"))(hm:kh X id r)(ho:PE X o to)(ha:PA X (e::es) t)(hbase:mR o name X.env (aF o X.env)=aF o X.env:=by rfl)(hfew:((bO cpos (Yr (e::es) X.env)).all (λx=>!x.1)&&(iC cpos (iB [] X.env)).all (λx=>x.1.isSome)
   &&decide ((e::es).length+([]:List Keyword).length+(if([]:List Keyword).isEmpty then 0 else 1)<30))=true:=by rfl)(hline:(apos.endLine==cpos.line)=true:=by rfl)(hs:Yr (e::es) X.env=(false,aF e X.env)::Yr es X.env:=by rfl)(hplain:(bO cpos (Yr es X.env)).any (·.1)=false:=by rfl):
  PE X (.Call (.Attribute o name apos) (e::es) [] cpos) (tBM X.K T r to t):=by
 intro pins s σ H Q I h;refine wpAny_Call_method_late hbase hfew hline rfl (aH (ho pins s σ H _ I h) λv s1 ak=>?_);obtain⟨x,H1,I1,r1,ty,q1⟩:=ak;obtain⟨h1,h2⟩:=ZqS I1 r1 ty;refine⟨T,id,pa,slot,hty,h1,h2,?_⟩;have hA:=ha cpos pins s1 σ H1 _ I1 q1;rw[hs]at hA ⊢;refine RZ (by show(false|| (bO cpos (Yr es X.env)).any (·.1))=false;rw[hplain]<;>rfl) (R0 ?_);exact aH hA λus s2 ⟨vs,H2,I2,r2,q2⟩=>hm pins s2 σ H2 x vs v us Q I2 r1 r2 q2
/-xs.append(e),list.index on a module's tuple .. are kh facts of 06m -/
end
end L2
namespace L2
open PySem PySem.Spec PyProof.Rows
def Lk(X:Cx)(id:String)(r:V->List V->Hp->VK->Prop):Prop:=
 ∀(pins:List (Yt×aD)) (s:Yf) (σ:St) (H:Hp) (x:V) (xs:List V) (v:Ye) (us:List Ye) (Q:VK),Inv X pins σ H s->RelV x v->Vals xs us->r x xs H Q ->
  ao (aq X.prog X.w) X.A (call (.builtin id) (v::us)) (EP X pins σ Q) X.xe s
variable{us:List Ye}
theorem Vals.one{x:V}(h:Vals [x] us):∃u,us=[u]/\RelV x u:=by
 cases h with
 |cons r h=>cases h;exact⟨_,rfl,r⟩
theorem Vals.two{x y:V}(h:Vals [x,y] us):∃u v,us=[u,v]/\RelV x u/\RelV y v:=by
 cases h with
 |cons r h=>obtain⟨v,rfl,q⟩:=Vals.one h;exact⟨_,v,rfl,r,q⟩
theorem Vals.zero:∀{us:List Ye},Vals [] us->us=[]
 |_,.nil=>rfl
variable{xs:List V}
theorem Vals.dropLast(h:Vals xs us):Vals xs.dropLast us.dropLast:=by
 induction h with
 |nil=>exact .nil|cons r t ih=>
  cases t with
  |nil=>exact .nil|cons q t'=>exact .cons r ih
theorem Vals.eraseIdx:∀{xs:List V} {us:List Ye} (i:Nat),Vals xs us->Vals (xs.eraseIdx i) (us.eraseIdx i)
 |_,_,_,.nil=>.nil|_,_,0,.cons _ t=>t|_,_,i+1,.cons r t=>.cons r (Vals.eraseIdx i t)
theorem Vals.reverse(h:Vals xs us):Vals xs.reverse us.reverse:=by
 induction h with
 |nil=>exact .nil|cons r t ih=>rw[Gb,Gb];exact Vals.append ih (.cons r .nil)
theorem Vals.rep(h:Vals xs us):∀k:Nat,Vals (Ym k xs).flatten (Ym k us).flatten
 |0=>.nil|k+1=>by rw[uG,uG,qG,qG];exact Vals.append h (Vals.rep h k)
theorem Znb{α:Type}(l:List α):l.eraseIdx (l.length-1)=l.dropLast:=by
 induction l with
 |nil=>rfl|cons a r ih=>
  cases r with
  |nil=>rfl|cons b r=>
   have e:(a::b::r).length-1=((b::r).length-1)+1:=by have h1:(a::b::r).length=r.length+2:=rfl;have h2:(b::r).length=r.length+1:=rfl;omega
   rw[e,List.eraseIdx_cons_succ,ih]
   all_goals rfl
theorem Zkh{α:Type}:∀(l:List α) (i:Nat),(l.eraseIdx i).length<=l.length
 |[],_=>Yq _|_::_,0=>wD _|_::r,i+1=>yL (Zkh r i)
theorem foldl_rep(its:List Ye):∀(k:Nat) (acc:List Ye),
  Kg (λx1 x2=>x1++x2) acc.toArray (Ym k its.toArray)=(acc++(Ym k its).flatten).toArray
 |0,acc=>by simp|k+1,acc=>by
  have e:acc.toArray++its.toArray=(acc++its).toArray:=by simp
  have e2:(acc++its)++(Ym k its).flatten=acc++(Ym (k+1) its).flatten:=by rw[uG,qG,mW]
  rw[←e2,←foldl_rep its k (acc++its),←e,uG,sy]
section
variable {X:Cx} {pins:List (Yt×aD)} {σ:St} {H:Hp} {s:Yf} {l b:Yt} {xs ys zs:List V}
theorem Inv.Fo{its its':List Ye}{n:Nat}{f:Array Ye->Array Ye}{t':Nat}(I:Inv X pins σ H s)(hH:H l=Ya (.lst xs))(e:s.heap.get? l=Ya {cls:=.type "list",data:=.seq its.toArray n})(hf:f its.toArray=its'.toArray)(hv:Vals ys its')(hz:ys.length<=bB):
  Inv X pins σ (upd H l (.lst ys)) {s with heap:=s.heap.update l (yU f),toks:=t'}:=by
 have q:=PySem.IsL.update e f;rw[hf]at q;refine I.write (x:=l) (e:=l) (by rw[hH];exact trivial) (.inl rfl) (λb' u hb hu=>(mX s.heap (yU f) (bV hb)).trans hu) ⟨_,q⟩ ?_;exact⟨hz,its',_,hv,q⟩
theorem Inv.Xm{its:List Ye}{t':Nat}(I:Inv X pins σ H s)(hv:Vals ys its)(hz:ys.length<=bB):
  Inv X pins σ (upd H s.heap.objs.size (.lst ys)) {s with heap:=s.heap.push {cls:=.type "list",data:=.seq its.toArray},toks:=t'}:=
 I.laid (λ_ _ q=>Yh _ q) (Yq _) ⟨hz,its,0,hv,Y1 _ rfl⟩
theorem Inv.fresh(I:Inv X pins σ H s):H s.heap.objs.size=Yk:=I.hok.fresh (Yq _)
theorem Inv.um(I:Inv X pins σ H s)(hH:H l=Ya (.lst xs)):xs.length<=bB/\∃(its:List Ye) (n:Nat),Vals xs its/\xs.length=its.length/\s.heap.get? l=Ya {cls:=.type "list",data:=.seq its.toArray n}:=by obtain⟨z,its,n,r,e⟩:=I.hok l _ hH;exact⟨z,its,n,r,r.length,e⟩
theorem Tt{n:Nat}(h:n<=bB):Bx n=false:=by unfold Bx;exact decide_eq_false (by omega)
end
section
variable {X:Cx}
noncomputable def ZoM:V->List V->Hp->VK->Prop:=λx vs H Q=>∃l xs y,x= .ref l/\vs=[y]/\H l=Ya (.lst xs)/\xs.length<bB/\Q .non (upd H l (.lst (xs++[y])))
theorem Tu:Lk X "list.append" ZoM:=by intro pins s σ H x vs v us Q I rx rv h;obtain⟨l,xs,y,rfl,rfl,hH,hz,q⟩:=h;cases rx;obtain⟨u,rfl,ru⟩:=rv.one;obtain⟨z,its,n,r,hl,e⟩:=I.um hH;refine rW F.slot_list_append ⟨_,e,rfl⟩ F.entry_list_append (F.args_list_append_2 _ _) (PySem.list_append l its.toArray n u (by rw[Yo];omega)) ⟨e,?_⟩;refine⟨.non,_,I.Fo (its':=its++[u]) hH e (by simp) (r.append (.cons ru .nil)) ?_,rfl,q⟩;rw[Yj,Y0];omega
noncomputable def Zpi:V->List V->Hp->VK->Prop:=λx vs H Q=>∃l b xs zs,x= .ref l/\vs=[.ref b]/\H l=Ya (.lst xs)/\H b=Ya (.lst zs)/\xs.length+zs.length<=bB/\Q .non (upd H l (.lst (xs++zs)))
theorem ZpH:Lk X "list.extend" Zpi:=by
 intro pins s σ H x vs v us Q I rx rv h;obtain⟨l,b,xs,zs,rfl,rfl,hH,hB,hz,q⟩:=h;cases rx;obtain⟨u,rfl,ru⟩:=rv.one;cases ru;obtain⟨z,its,n,r,hl,e⟩:=I.um hH;obtain⟨z2,its2,n2,r2,hl2,e2⟩:=I.um hB;have hsz:its.toArray.size+its2.toArray.size<=bB:=by rw[Yo,Yo];omega
 have Fj:¬(!its.toArray.isEmpty&&Bx (its.toArray.size+its2.toArray.size))=true:=by rw[Tt hsz,yO];exact j_
 refine rW Ykp ⟨_,e,rfl⟩ Yj3 (Yjc _ _)
  (AutoSeq1.list_extend_list_list_0 l its.toArray n b its2.toArray n2 Fj (by rw[Yo];omega) (by omega)) ⟨e,e2,?_⟩
 refine⟨.non,_,I.Fo (its':=its++its2) hH e (by simp) (r.append r2) ?_,rfl,q⟩;rw[Yj];exact hz
noncomputable def Zym:V->List V->Hp->VK->Prop:=λx vs H Q=>∃l xs y,x= .ref l/\vs=[]/\H l=Ya (.lst xs)/\xs[xs.length-1]?=Ya y/\Q y (upd H l (.lst xs.dropLast))
theorem ZvO:Lk X "list.pop" Zym:=by
 intro pins s σ H x vs v us Q I rx rv h;obtain⟨l,xs,y,rfl,rfl,hH,hy,q⟩:=h;cases rx;have hus:=rv.zero;subst hus;obtain⟨z,its,n,r,hl,e⟩:=I.um hH;obtain⟨u,hu,ru⟩:=r.get hy;have hy':its.toArray[its.toArray.size-1]?=Ya u:=by show its.toArray[its.length-1]?=Ya u;rw[←Ry,←hl];exact hu
 refine rW Ymd ⟨_,e,rfl⟩ Yly (F.args_list_pop_1 _) (MeetsSeq.list_pop_last l its.toArray n u hy' (by rw[Yo];omega)) ⟨e,?_⟩;refine⟨y,_,I.Fo (its':=its.dropLast) hH e ?_ r.dropLast ?_,ru,q⟩
 .show its.toArray.eraseIdxIfInBounds (its.toArray.size-1)=its.dropLast.toArray;rw[Yo,YW,Znb]
 .rw[List.length_dropLast];exact Yi (Nat.sub_le _ _) z
noncomputable def ZrA:V->List V->Hp->VK->Prop:=λx vs H Q=>∃l xs i k y,x= .ref l/\vs=[.int i]/\H l=Ya (.lst xs)/\ -(2^63)<=i/\i<2^63/\Q4 i xs.length=Ya k/\xs[k]?=Ya y/\Q y (upd H l (.lst (xs.eraseIdx k)))
theorem ZqV:Lk X "list.pop" ZrA:=by
 intro pins s σ H x vs v us Q I rx rv h;obtain⟨l,xs,i,k,y,rfl,rfl,hH,h1,h2,hk,hy,q⟩:=h;cases rx;obtain⟨u,rfl,ru⟩:=rv.one;obtain⟨t,rfl⟩:=ru;obtain⟨z,its,n,r,hl,e⟩:=I.um hH;obtain⟨w,hw,kj⟩:=r.get hy;refine rW Ymd ⟨_,e,rfl⟩ Yly (F.args_list_pop_2 _ _)
  (MeetsSeq.list_pop_at l its.toArray n i t k w (fitsIndex_both h1 h2) (by rw[Yo,←hl];exact hk) (by rw[←Ry];exact hw) (by rw[Yo];omega)) ⟨e,?_⟩
 refine⟨y,_,I.Fo (its':=its.eraseIdx k) hH e ?_ (r.eraseIdx k) ?_,kj,q⟩
 .show its.toArray.eraseIdxIfInBounds k=(its.eraseIdx k).toArray;rw[YW]
 .have:=Zkh xs k;exact Yi this z
def ZzM:R2:=λx y H Q=>∃l b xs zs,x= .ref l/\y= .ref b/\H l=Ya (.lst xs)/\H b=Ya (.lst zs)/\xs.length+zs.length<=bB/\∀p,H p=Yk->Q (.ref p) (upd H p (.lst (xs++zs)))
theorem Zv1:a_ X (jg .Add) ZzM:=by
 intro pins s σ H x y v u Q I rx ry h;obtain⟨l,b,xs,zs,rfl,rfl,hH,hB,hz,q⟩:=h;cases rx;cases ry;obtain⟨z,its,n,r,hl,e⟩:=I.um hH;obtain⟨z2,its2,n2,r2,hl2,e2⟩:=I.um hB;refine PySem.P.add_list e e2 ?_ (by rw[Yo,Yo];omega);have ea:its.toArray++its2.toArray=(its++its2).toArray:=by simp
 rw[ea];exact⟨.ref _,_,I.Xm (t':=s.toks) (r.append r2) (by rw[Yj];exact hz),rfl,q _ I.fresh⟩
def Zzw:R2:=λx y H Q=>∃l k xs,x= .ref l/\y= .int k/\H l=Ya (.lst xs)/\ -(2^63)<=k/\k<2^63/\xs.length*k.toNat<=bB/\
 ∀p,H p=Yk->Q (.ref p) (upd H p (.lst (Ym k.toNat xs).flatten))
theorem len_rep{α:Type}(xs:List α)(k:Nat):(Ym k xs).flatten.length=k*xs.length:=by
 induction k with
 |zero=>simp|succ k ih=>rw[uG,qG,Yj,ih,Nat.succ_mul,pI]
theorem Zvp:a_ X (jg .Mult) Zzw:=by
 intro pins s σ H x y v u Q I rx ry h;obtain⟨l,k,xs,rfl,rfl,hH,h1,h2,hz,q⟩:=h;cases rx;obtain⟨t,rfl⟩:=ry;obtain⟨z,its,n,r,hl,e⟩:=I.um hH;have hlen:its.toArray.size*k.toNat<=bB:=by rw[Yo,←hl];exact hz
 have AcP:¬its.toArray.size*k.toNat>(2^63-1) / 8:=by
  have:(bB:Nat)<=(2^63-1) / 8:=by decide
  omega
 have hfit:¬(!Builtin.List.listFitsIndex k)=true:=by rw[fitsIndex_both h1 h2];exact j_
 have Fj:¬Bx (its.toArray.size*k.toNat)=true:=by rw[Tt hlen];exact j_
 have hnew:Kg (λx1 x2=>x1++x2) #[] (Ym (if its.toArray.isEmpty=true then 0 else k.toNat) its.toArray)=(Ym k.toNat its).flatten.toArray:=by
  have f0:∀m:Nat,Kg (λx1 x2=>x1++x2) #[] (Ym m its.toArray)=(Ym m its).flatten.toArray:=λm=>by have:=foldl_rep its m [];rw[jE]at this;exact this
  rw[f0];cases its with
  |nil=>simp|cons a r'=>rw[if_neg (by simp)]
 refine wpAny_binaryOp_repeat_ref (T:="list") (U:="int") (by decide) ⟨_,e,rfl⟩ (λs'=>QW s' k t) noFill_list_mul F.fills_int_mul Yme repeat_list F.slot_int_index.lookup
  (rW Yme (QW s k t) F.entry_int_rmul (F.args_int_rmul_2 _ _) (int___rmul___int_list k t l its.toArray n)
   ⟨e,rfl,⟨_,e,rfl⟩,rW F.slot_list_mul ⟨_,e,rfl⟩ F.entry_list_mul (F.args_list_mul_2 _ _) (AutoListH.list___mul___list_int_3 l its.toArray n k t hfit AcP Fj) ⟨e,?_⟩⟩)
 rw[hnew];exact⟨.ref _,_,I.Xm (t':=s.toks) (r.rep k.toNat) (by rw[len_rep,Nat.mul_comm];exact hz),rfl,q _ I.fresh⟩
end
end L2
namespace Att
open PySem PySem.W PySem.Calls PyProof.Rows
theorem Zix{P:Params}{h:aC}:∀(ns:List Int) (vs:List Ye),WellAll P h vs (ns.map WData.int)->IntsAre vs ns:=by
 intro ns
 induction ns with
 |nil=>intro vs w;rw[wk]at w;cases w;exact .nil|cons n ns ih=>
  intro vs w;rw[Yw]at w;cases w with
  |cons a b=>
   cases a
   exact .cons _ _ (ih _ b)
theorem Zqb{l:OpenLaw}{n:Nat}(hn:l.most=Ya n){P:Params}{h:aC}{args:List WData}{vals:List Ye}(hpre:l.row.toRowW.claim.pre args=true)(hwl:WellAll P h vals args):
  ∃a vs ns,vals=[Value.ref a]/\args=[WData.list (ns.map WData.int)]/\h.get? a=Ya {cls:=.type "list",data:=.seq vs.toArray}/\IntsAre vs ns/\ns.length<=n:=by
 have hsh:WShape.hasAll [] args [.list .int]=true:=(pre_splitW hpre).1;have hc:l.pre.holds [] {args:=args}=true:=(pre_splitW hpre).2;obtain⟨d,r,rfl,h1,h2⟩:=hasAllW_cons hsh;obtain rfl:=hasAllW_nil h2;obtain⟨xs,rfl,h3⟩:=hasW_list h1;obtain⟨ns,rfl⟩:=items_int h3;have hlen:ns.length<=n:=by
  unfold OpenLaw.pre at hc;have h4:(WTm.not (.lt (.lit (.int (n:Int))) (.len (.arg 0)))).holds [] {args:=[.list (ns.map .int)]}=true:=by have h4:=(holds_andW hc).1;rw[hn]at h4;exact h4
  have h5:=condW_of h4 (w_not (w_lt w_lit (w_len_list (w_arg rfl))));rw[Ys]at h5;refine ir λq=>?_;have q':(n:Int)<((ns.length:Nat):Int):=by exact Rr.2 q
  first
   |(rw[decide_eq_true q']at h5;exact absurd h5 (by decide))
   |(simp at h5;omega)
 cases hwl with
 |cons w1 w2=>
  cases w2
  cases w1 with
  |list ho hall=>exact⟨_,_,ns,rfl,rfl,ho,Zix ns _ hall,hlen⟩
theorem ZpU(l:OpenLaw)(args:List WData):l.row.toRowW.claim.post args (.bool true) args=true:=
 postW_of (r:=l.row.toRowW) (X:=(true==true))
  (show WShape.has [] (.bool true) .bool=true by first|rfl|decide|simp[WShape.has,WShape.arms,WShape.armsAll])
  (show(WTm.eq .res (.lit (.bool true))).value [] {args:=args,res:=Ya (.bool true),after:=args}=Ya (.bool (true==true))from w_eq_bool (w_res rfl) w_lit) rfl
theorem AaZ{l:OpenLaw}{n:Nat}{q:Y8}{loose:List aj}{XP:(aj->Option Ye)->aC->Prop}{YP:aO->aC->Prop}{d:DefRec}(hn:l.most=Ya n)(hdf:d.params.defaults=[])(call:∀(w:aO) (s₀ s₁:Yf) (mg mb:aj->Option Ye) (fa:Yt) (o:aD) (pm cd doc:Ye) (a:Yt) (vs:List Ye) (ns:List Int),
   Ground q loose [] XP w s₀ mg mb s₁.heap->YP w s₁.heap ->
   s₁.heap.get? fa=Ya o->o.data= .func (docDef d.name d.params d.body d.scope pm cd doc)->s₁.heap.CodeRec cd d.name->mg d.name=Ya (.ref fa) ->
   s₁.heap.get? a=Ya {cls:=.type "list",data:=.seq vs.toArray}->IntsAre vs ns->ns.length<=n->s₁.gens= #[] ->
   jP (aq l.prog w) vW (.call (.ref fa) ⟨[.ref a],[]⟩) (λr s'=>r= .ok (.ret (.bool true))/\OldK s₁.heap s'.heap/\s'.os=s₁.os/\sG s'.gens) s₁):
  WalkO q loose XP YP l.row.toRowW d [] (λf vs=>QX f vs):=by
 intro w s₀ s₁ mg mb G Y fa o pm cd doc dV kV ho hd hcd hD hmg hg args vals as hpre hlay hrd hwl hlo;obtain rfl:dV= .none:=Dflts.none hD hdf;obtain rfl:kV= .none:=Dflts.noKw hD;obtain⟨a,vs,ns,rfl,rfl,hobj,hints,hlen⟩:=Zqb hn hpre hwl;refine enter_call (qz (call w s₀ s₁ mg mb fa o pm cd doc a vs ns G Y ho (fd_plain hd) hcd hmg hobj hints hlen hg) λr s' hq=>?_);obtain⟨rfl,h2,h3,h4⟩:=hq;exact⟨.inl ⟨.bool true,.bool true,[],rfl,λ_=>rfl,.bool true,ZpU l _,λ_=>⟨List.Pairwise.nil,λ_ hm=>(nomatch hm)⟩⟩,h2,h3,h4⟩
end Att
namespace L2
open PySem PySem.Spec PyProof.Rows
theorem Zkd:∀{vs:List Ye} {ns:List Int},IntsAre vs ns->Vals (ns.map V.int) vs
 |_,_,.nil=>.nil|_,_,.cons n t h=>.cons ⟨t,rfl⟩ (Zkd h)
def Only(H:Hp):Prop:=∀b,H b=Yk\/∃o xs,H b=Ya (.cD o (.lst xs))
theorem Zrv{P:Y8}{w:aO}{K:Yb}{mg mb:aj->Option Ye}{CX:oK}{k:Nat}{fa a:Yt}{fd:jB}{x:aj}{sp:Sp}{s₁:Yf}{vs:List Ye}{ns:List Int}(KX:K.In s₁.heap)(hns:s₁.heap.Ns b7 mg)(hb:s₁.heap.Ns QS mb)(hbb:∀x:aj,x≠ "__name__" ->mb x=jA x)(hlim:s₁.heap.NoLimit)(hg:s₁.gens= #[])(ha:s₁.heap.get? a=Ya {cls:=.type "list",data:=.seq vs.toArray})(hi:IntsAre vs ns)(hl:ns.length<=bB)(hr:cJ k vW)(F:∀base:aC,K.In base->base.Ns b7 mg->fM P w K mg base CX k fa fd [x] sp)(hbind:∀(s:Yf) (u:Ye),Bm s fd ⟨[u],[]⟩ [(x,u)])(hsp:∀H:Hp,Only H->bK K H a (ns.map V.int)->sp [.ref a] H (λv _=>v= .bl true) λ_ _ _=>False)(Tv:∀H e s',CX [] H s₁ (λ_ _ _=>False) e s'->False):
  jP (aq P w) vW (.call (.ref fa) ⟨[.ref a],[]⟩) (λr s'=>r= .ok (.ret (.bool true))/\OldK s₁.heap s'.heap/\s'.os=s₁.os/\sG s'.gens) s₁:=by
 have rv:=Zkd hi;have lenV:=hi.length;have core:∀H:Hp,Only H->bK K H a (ns.map V.int)->e_ P w H s₁.heap->(∀b,H b≠Yk->b=a)->(H a≠Yk->K.lookup a=Yk) ->
   jP (aq P w) vW (.call (.ref fa) ⟨[.ref a],[]⟩) (λr s'=>r= .ok (.ret (.bool true))/\OldK s₁.heap s'.heap/\s'.os=s₁.os/\sG s'.gens) s₁:=by
  intro H hO hS hok hA hK;have Xa:∀{b:Yt} {o:aD},s₁.heap.get? b=Ya o->H b=Yk->(uO s₁.heap H).get? b=Ya o:=λe n=>Zri e n;have GR:∀{b:Yt} {o:aD} {es:Array DictEntry} {ep:Nat},s₁.heap.get? b=Ya o->o.data= .dict es ep->H b=Yk:=λ{b o es ep} e d=>by
   cases q:H b with
   |none=>rfl|some u=>have e':b=a:=hA b (by rw[q];simp);subst e';rw[ha]at e;cases e;have d':Data.seq vs.toArray _=Data.dict es ep:=d;cases d'
  have Ln:∀{b:Yt} {m:aj->Option Ye},s₁.heap.Ns b m->(uO s₁.heap H).Ns b m:=λ{b m} ⟨o,es,ep,e,d,r⟩=>⟨o,es,ep,Xa e (GR e d),d,r⟩;have hKb:K.In (uO s₁.heap H):=λb o e=>Xa (KX b o e) (by
   cases q:H b with
   |none=>rfl|some u=>have e':b=a:=hA b (by rw[q];simp);subst e';rw[hK (by rw[q];simp)]at e;cases e)
  have hM:Mod K mg (uO s₁.heap H):=⟨hKb,Ln hns,⟨mb,Ln hb,hbb⟩,let⟨mc,h1,h2⟩:=hlim;⟨mc,Ln h1,h2⟩⟩;have e0:sS P w K mg (uO s₁.heap H) vW [] s₁ H:=⟨rfl,hM,λb o e=>Zuw e,oE (Zpo _ _),trivial,λb hb=>absurd (show b∈([]:List Yt)from hb) (by simp),hok,.of_eq hg⟩;refine qz ((F _ hKb (Ln hns)).run vW [] s₁ H ⟨[.ref a],[]⟩ [.ref a] [.ref a] _ _ hr e0 (hbind s₁ (.ref a)) (.cons rfl .nil) (hsp H hO hS)) λr s' h=>?_;cases r with
  |error e=>exact(Tv H e s' h).elim|ok fl=>
   cases fl with
   |next=>exact dX h|brk=>exact dX h|cont=>exact dX h|ret u=>
    obtain⟨v,H',os,bare,un,hok',r',q⟩:=h;have q':v= .bl true:=q;subst q';obtain rfl:u=Value.bool true:=r';refine⟨rfl,OldK.of_keep λb o e=>?_,os,bare⟩;cases q:H b with
    |none=>exact un.keep b o e q (by intro z;exact absurd (show b∈([]:List Yt)from z) (by simp)) (by simp)|some u=>
     rcases hO b with z|⟨ob,xs,z⟩
     .rw[q]at z;cases z
     .have z2:=un.jZ b ob _ z;obtain⟨e1,_⟩:=hok b _ z;obtain⟨e2,_⟩:=hok' b _ z2;rw[e]at e1;cases e1;exact e2
 cases hk:K.lookup a with
 |some o=>have e:=KX a o hk;rw[ha]at e;cases e;refine core (λ_=>Yk) (λ_=>.inl rfl) (.inr ⟨_,vs.toArray,_,hk,rfl,rfl,rfl,by rw[Yo,lenV];exact hl,by simpa using rv⟩) (λb u z=>by have z':(Yk:Option HO)=Ya u:=z;cases z') (λb z=>absurd rfl z) λz=>absurd rfl z|none=>
  refine core (λb=>if b=a then Ya (.cD {cls:=.type "list",data:=.seq vs.toArray} (.lst (ns.map V.int)))else Yk) (λb=>?_) (.inl (.inr ⟨{cls:=.type "list",data:=.seq vs.toArray},if_pos rfl⟩)) (λb u z=>?_) (λb z=>?_) λ_=>hk
  .by_cases hb:b=a
   .exact .inr ⟨_,_,if_pos hb⟩
   .exact .inl (if_neg hb)
  .by_cases hb:b=a
   .have z':=(if_pos hb).symm.trans z;cases z';subst hb;exact⟨ha,by rw[Ys];exact hl,vs,_,rv,ha⟩
   .have z':=(if_neg hb).symm.trans z;cases z'
  .by_cases hb:b=a
   .exact hb
   .exact absurd (if_neg hb) z
end L2
namespace L2
open PySem PySem.Spec PyProof.Rows
theorem Zpd{l:PySem.W.OpenLaw}{n k:Nat}{q:Y8}{loose:List aj}{XP:(aj->Option Ye)->aC->Prop}{YP:aO->aC->Prop}{d:DefRec}{K:Params->Yb}{CX:aO->oK}{sp:aO->Sp}{x:aj}(hn:l.most=Ya n)(hn2:n<=bB)(hdf:d.params.defaults=[])(hr:cJ k vW)(hY:∀(w:aO) (h:aC),YP w h->(K w.params).In h)(F:∀(w:aO) (mg:aj->Option Ye) (fa:Yt) (h:aC),(K w.params).In h->h.Ns b7 mg->mg d.name=Ya (.ref fa) ->
   ∃fd:jB,(∀(s:Yf) (u:Ye),Bm s fd ⟨[u],[]⟩ [(x,u)])/\
    ∀base:aC,(K w.params).In base->base.Ns b7 mg->fM l.prog w (K w.params) mg base (CX w) k fa fd [x] (sp w))(hsp:∀(w:aO) (H:Hp) (a:Yt) (ns:List Int),ns.length<=n->Only H->bK (K w.params) H a (ns.map V.int)->sp w [.ref a] H (λv _=>v= .bl true) λ_ _ _=>False)(Tv:∀(w:aO) (H:Hp) (s:Yf) (e:Ye) (s':Yf),CX w [] H s (λ_ _ _=>False) e s'->False):
  XM q loose XP YP l.row.toRowW d [] (λf vs=>QX f vs):=by
 refine Att.AaZ hn hdf λw s₀ s₁ mg mb fa o pm cd doc a vs ns G Y ho hd hcd hmg hobj hints hlen hg=>?_;have KX:=hY w _ Y;obtain⟨fd,hb,hF⟩:=F w mg fa _ KX G.T.g hmg;exact Zrv KX G.T.g G.T.b G.T.builtins G.T.nolimit hg hobj hints (Yi hlen hn2) hr hF hb (λH hO hS=>hsp w H a ns hlen hO hS) λH e s'=>Tv w H s₁ e s'
end L2
/-THE LAST THEOREM (shape;LID,My.*are Adb):
  My.Adr:a structure of the addresses that your layer names (classes,functions);My.Txt K t:a structure (Prop) of the equations over K;
  My.Acq:{K} {implicit addresses ..} (e1:nsIn K b7 "law" =Ya (Ya (.ref f))) (e2:K.lookup f=Ya ⟨oc,od,.func (fnOf "law" "law" params body scope dV kV doc pm an cdv ct),sl⟩) (e3:codeIn K cdv "law" =true) ..:∃t,My.Txt K t
set_option maxRecDepth 100000 in
set_option maxHeartbeats 0 in
theorem PySem.Challenge.cw_LID_holds : PySem.Challenge.rw_LID.Holds := by
 w_on;o_law;k_head;(case hw=>w_witness2)
 k_fill
 refine L2.Zpd (l:=PySem.Challenge.rw_LID) (n:=63) (k:=40) (x:="script") (CX:=λw=>..) (sp:=λ_=>My.sp_law) rfl (by decide) rfl ⟨rfl,by decide,by decide⟩ (λw h Y=>PySem.W.kIn_of Y) ?F ?S ?C
 case F=>
  intro w mg fa h KX G hmg;have T:∃t,My.Txt (L2.KOf KX) t:=by
   dsimp only[L2.KOf]                          --K must stand as «<heap const>w.params» for k_is;refine' My.Acq ?e1 ?e2 ?e3 ..
   (case e1=>PySem.W.k_is)                    --in the order:a name->its address->its object->its parts
   (case e2=>PySem.W.k_is)
   ..
  obtain⟨t,T⟩:=T;have e0:=hmg.symm.trans (XQ KX G T.law);cases e0                                       --fa is the law's own address;exact⟨_,λs u=>.of_eq rfl,λbase kb nb=>My.Acr T kb nb⟩     --if «.of_eq rfl» comes too early:refine'⟨_,?b,λbase kb nb=>My.Acr T kb nb⟩;exactλs u=>.of_eq rfl
 case S=>exactλw H a ns hl hO hS=>..
 case C=>exact ..
(the tactic k_is has no namespace:write k_is) -/
namespace L2
open PySem PySem.Spec PyProof.Rows
noncomputable def m_(s:Ydi):Arguments:=match s with
 | .FunctionDef _ a _ _ _ _ _ _ _ _=>a|_=>{posonlyargs:=[],args:=[],vararg:=Yk,kwonlyargs:=[],kw_defaults:=[],kwarg:=Yk,defaults:=[]}
noncomputable def iG(s:Ydi):List Ydi:=match s with
 | .FunctionDef _ _ b _ _ _ _ _ _ _=>b|_=>[]
noncomputable def Zn(s:Ydi):Scope:=match s with
 | .FunctionDef _ _ _ _ _ _ sc _ _ _=>sc|_=>{kind:=.function,names:=[],isGenerator:=false,isCoroutine:=false}
noncomputable abbrev kI:oK:=λ_ _ _ _ _ _=>False
noncomputable abbrev E0:XK:=λ_ _ _=>False
theorem ZuJ{X:Cx}:GQ kI X E0:=λ_ _ _ _ _ _ _ h=>h.elim
structure pN(K:Yb)(x qual:aj)(st:Ydi)(f:Yt)(fd:jB):Prop where
 ex:∃(oc:Ye) (od:Option Yt) (dV kV doc pm:Ye) (an:Option Yt) (cdv ct:Ye) (osl:Array (Option Ye)),
  fd=pD x qual (m_ st) (iG st) (Zn st) dV kV doc pm an cdv ct/\K.lookup f=Ya ⟨oc,od,.func fd,osl⟩/\Bc K cdv qual=true
 kp:qy K (.ref f)=true
section
variable {P:Y8} {w:aO} {K:Yb} {mg:aj->Option Ye} {base:aC}
theorem pN.ok{x qual:aj}{st:Ydi}{f:Yt}{fd:jB}{N ps:List aj}{k:Nat}{sp:Sp}(F:pN K x qual st f fd)(S:cL N ps (Zn st))(len:∀vs H Q E,sp vs H Q E->vs.length=ps.length)(hbody:∀(cdv:Ye) (A:bC) (outer:List cH) (s:Yf) (H:Hp) (vs:List V) (Q:VK) (E:XK),cJ k (A.deeper (lV qual (Zn st) s.heap.objs.size f cdv))->sp vs H Q E ->
   ∃t,jl (oM kI P w K mg base N qual (Zn st) f cdv A outer s H E).iD (iG st) t/\t {nx:=λ_ H'=>Q .non H',rt:=Q} (start N vs) H):fM P w K mg base kI (k+1) f fd ps sp:=by
 obtain⟨oc,od,dV,kV,doc,pm,an,cdv,ct,osl,rfl,lk,hcd⟩:=F.ex;refine Ti lk hcd S len λA outer s H vs Q E hr hsp=>?_;obtain⟨t,h,q⟩:=hbody cdv A outer s H vs Q E hr hsp;exact⟨t,h.iD,q⟩
theorem pN.binds{x qual:aj}{st:Ydi}{f:Yt}{fd:jB}{ps:List aj}(F:pN K x qual st f fd)(h:∀(dV kV doc pm:Ye) (an:Option Yt) (cdv ct:Ye) (us:List Ye),us.length=ps.length->bindArgs (pD x qual (m_ st) (iG st) (Zn st) dV kV doc pm an cdv ct) ⟨us,[]⟩=pure (ps.zip us)):Binds K fd ps []:=by obtain⟨oc,od,dV,kV,doc,pm,an,cdv,ct,osl,rfl,lk,hcd⟩:=F.ex;exact .all (h dV kV doc pm an cdv ct)
theorem ZrX{x qual:aj}{st:Ydi}{f:Yt}{oc:Ye}{od an:Option Yt}{osl:Array (Option Ye)}{dV kV doc pm cdv ct:Ye}(l:K.lookup f=Ya ⟨oc,od,.func (pD x qual (m_ st) (iG st) (Zn st) dV kV doc pm an cdv ct),osl⟩)(c:Bc K cdv qual=true)(k:qy K (.ref f)=true):pN K x qual st f (pD x qual (m_ st) (iG st) (Zn st) dV kV doc pm an cdv ct):=⟨⟨oc,od,dV,kV,doc,pm,an,cdv,ct,osl,rfl,l,c⟩,k⟩
end
def wO(H H':Hp):Prop:=∀b o,H b=Ya o->H' b=Ya o
theorem wO.trans{H H1 H2:Hp}(a:wO H H1)(b:wO H1 H2):wO H H2:=λc o h=>b c o (a c o h)
theorem wO.free{H H':Hp}(e:wO H H'){l:Yt}(h:H' l=Option.none):H l=Option.none:=by
 cases q:H l with
 |none=>rfl|some o=>rw[e l o q]at h;cases h
theorem wO.seq{K:Yb}{H H':Hp}{a:Yt}{xs:List V}(e:wO H H')(h:bK K H a xs):bK K H' a xs:=by
 rcases h with(h|⟨o,h⟩)|h
 .exact .inl (.inl (e _ _ h))
 .exact .inl (.inr ⟨o,e _ _ h⟩)
 .exact .inr h
end L2
namespace L2
open PySem PySem.Spec PyProof.Rows
section
variable {κ:Type} [DecidableEq κ]
noncomputable def lZ(kvs:List (κ×V))(k:κ):Option V:=(kvs.find? λkv=>decide (kv.1=k)).map (·.2)
noncomputable def putK(kvs:List (κ×V))(k:κ)(v:V):List (κ×V):=if(kvs.any λkv=>decide (kv.1=k))=true then kvs.map (λkv=>if kv.1=k then(kv.1,v)else kv)else kvs++[(k,v)]
theorem Zre{k:κ}:lZ ([]:List (κ×V)) k=Yk:=rfl
theorem Lp{p:κ×V}{r:List (κ×V)}{k:κ}(e:p.1=k):lZ (p::r) k=Ya p.2:=by simp[lZ,Bt,e]
theorem Lq{p:κ×V}{r:List (κ×V)}{k:κ}(e:¬p.1=k):lZ (p::r) k=lZ r k:=by simp[lZ,Bt,e]
theorem Zmd(k:κ):∀kvs:List (κ×V),(kvs.any λkv=>decide (kv.1=k))=(lZ kvs k).isSome
 |[]=>rfl|p::r=>by
  rw[j9];by_cases e:p.1=k
  .simp only[Lp e,decide_eq_true e,Bool.true_or,Xq]
  .rw[Lq e,decide_eq_false e,Ynb];exact Zmd k r
theorem oH.AbD{o:Option V}{u:Option Ye}(r:oH o u):o.isSome=u.isSome:=by
 cases o with
 |none=>cases u with
  |none=>rfl|some _=>exact(show False from r).elim
 |some _=>cases u with
  |none=>exact(show False from r).elim|some _=>rfl
theorem oH.getD{o:Option V}{u:Option Ye}{d:V}{d':Ye}(r:oH o u)(rd:RelV d d'):RelV (o.getD d) (u.getD d'):=by
 cases o with
 |none=>cases u with
  |none=>exact rd|some _=>exact(show False from r).elim
 |some _=>cases u with
  |none=>exact(show False from r).elim|some _=>exact r
theorem KV.val{kvs:List (κ×V)}{vs:List (κ×Ye)}(r:KV kvs vs)(k:κ):oH (lZ kvs k) (Bo vs k):=by
 unfold KV at r
 induction r with
 |nil=>exact True.intro|@cons p q ps qs h t ih=>
  obtain⟨h1,h2⟩:=h;by_cases e:p.1=k
  .have e':q.1=k:=h1.symm.trans e;have b:Bo (q::qs) k=Ya q.2:=by simp[Bo,Bt,e']
   rw[Lp e,b];exact h2
  .have e':¬q.1=k:=λz=>e (h1.trans z);have b:Bo (q::qs) k=Bo qs k:=by simp[Bo,Bt,e']
   rw[Lq e,b];exact ih
theorem KV.any{kvs:List (κ×V)}{vs:List (κ×Ye)}(r:KV kvs vs)(k:κ):(kvs.any λkv=>decide (kv.1=k))=vs.any λkv=>decide (kv.1=k):=by
 unfold KV at r
 induction r with
 |nil=>rfl|cons h t ih=>rw[j9,j9,ih,h.1]
theorem KV.repl{kvs:List (κ×V)}{vs:List (κ×Ye)}(r:KV kvs vs)(k:κ){y:V}{u:Ye}(ry:RelV y u):
  KV (kvs.map λkv=>if kv.1=k then(kv.1,y)else kv) (vs.map λkv=>if kv.1=k then(kv.1,u)else kv):=by
 unfold KV at r ⊢
 induction r with
 |nil=>exact .nil|@cons p q ps qs h t ih=>
  rw[Yw,Yw];refine .cons ?_ ih;obtain⟨h1,h2⟩:=h;by_cases e:p.1=k
  .rw[if_pos e,if_pos (h1.symm.trans e)];exact⟨h1,ry⟩
  .rw[if_neg e,if_neg (λz=>e (h1.trans z))];exact⟨h1,h2⟩
theorem KV.put{kvs:List (κ×V)}{vs:List (κ×Ye)}(r:KV kvs vs)(k:κ){y:V}{u:Ye}(ry:RelV y u):KV (putK kvs k y) (stored vs k u):=by
 unfold putK stored;rw[r.any k];by_cases e:(vs.any λkv=>decide (kv.1=k))=true
 .rw[if_pos e,if_pos e];exact r.repl k ry
 .rw[if_neg e,if_neg e];exact Paired.snoc r ⟨rfl,ry⟩
theorem KV.length{kvs:List (κ×V)}{vs:List (κ×Ye)}(r:KV kvs vs):kvs.length=vs.length:=Ym6 r
end
noncomputable abbrev KT(H:Hp):List (List Key×V)->List (List Key×Yt×Ye)->Prop:=Paired λp q=>p.1=q.1/\H q.2.1=Ya (.tup (p.1.map kV))/\RelV p.2 q.2.2
variable{kvs:List (List Key×V)}{xs:List (List Key×Yt×Ye)}{H:Hp}
theorem KT.val(r:KT H kvs xs)(k:List Key):oH (lZ kvs k) ((v9 xs k).map (·.2)):=by
 induction r with
 |nil=>exact True.intro|@cons p q ps qs h t ih=>
  obtain⟨h1,_,h2⟩:=h;by_cases e:p.1=k
  .have e':q.1=k:=h1.symm.trans e;have b:v9 (q::qs) k=Ya q.2:=by simp[v9,Bt,e']
   rw[Lp e,b];exact h2
  .have e':¬q.1=k:=λz=>e (h1.trans z);have b:v9 (q::qs) k=v9 qs k:=by simp[v9,Bt,e']
   rw[Lq e,b];exact ih
theorem KT.repl(r:KT H kvs xs)(k:List Key){y:V}{u:Ye}(ry:RelV y u):
  KT H (kvs.map λkv=>if kv.1=k then(kv.1,y)else kv) (xs.map (putAt k u)):=by
 induction r with
 |nil=>exact .nil|@cons p q ps qs h t ih=>
  rw[Yw,Yw];refine .cons ?_ ih;obtain⟨h1,h2,h3⟩:=h;unfold putAt;by_cases e:p.1=k
  .rw[if_pos e,if_pos (h1.symm.trans e)];exact⟨h1,h2,ry⟩
  .rw[if_neg e,if_neg (λz=>e (h1.trans z))];exact⟨h1,h2,h3⟩
theorem KT.put(r:KT H kvs xs)(k:List Key){b:Yt}{y:V}{u:Ye}(hb:H b=Ya (.tup (k.map kV)))(ry:RelV y u):
  KT H (putK kvs k y) (storedH xs k b u):=by
 have e:(kvs.any λkv=>decide (kv.1=k))=(v9 xs k).isSome:=by rw[Zmd,(r.val k).AbD,Option.isSome_map]
 unfold putK storedH;rw[e];by_cases q:(v9 xs k).isSome=true
 .rw[if_pos q,if_pos q];exact r.repl k ry
 .rw[if_neg q,if_neg q];exact Paired.snoc r ⟨rfl,hb,ry⟩
theorem KT.keeps{H':Hp}(r:KT H kvs xs)(ht:∀b ys,H b=Ya (.tup ys)->H' b=Ya (.tup ys)):KT H' kvs xs:=Paired.PX r λ_ _ z=>⟨z.1,ht _ _ z.2.1,z.2.2⟩
def Lr(H:Hp)(a:Yt)(y:V)(r:Option V):Prop:=(∃kvs k,Rd H a (.dK kvs)/\y=kV k/\r=lZ kvs k)\/∃kvs k b,Rd H a (.dT kvs)/\y= .ref b/\H b=Ya (.tup (k.map kV))/\r=lZ kvs k
def Lw(H:Hp)(a:Yt)(y v:V)(H':Hp):Prop:=
 (∃kvs k,H a=Ya (.dK kvs)/\y=kV k/\kvs.length<bB/\H'=upd H a (.dK (putK kvs k v)))\/
 ∃kvs k b,H a=Ya (.dT kvs)/\y= .ref b/\H b=Ya (.tup (k.map kV))/\kvs.length<bB/\H'=upd H a (.dT (putK kvs k v))
theorem Lr.k{H:Hp}{a:Yt}{kvs:List (Key×V)}{k:Key}(e:H a=Ya (.dK kvs)):Lr H a (kV k) (lZ kvs k):=.inl ⟨kvs,k,.inl e,rfl,rfl⟩
theorem Lr.t{a b:Yt}{k:List Key}(e:H a=Ya (.dT kvs))(eb:H b=Ya (.tup (k.map kV))):Lr H a (.ref b) (lZ kvs k):=.inr ⟨kvs,k,b,.inl e,rfl,eb,rfl⟩
theorem Lw.k{H:Hp}{a:Yt}{kvs:List (Key×V)}{k:Key}{v:V}(e:H a=Ya (.dK kvs))(hl:kvs.length<bB):Lw H a (kV k) v (upd H a (.dK (putK kvs k v))):=.inl ⟨kvs,k,e,rfl,hl,rfl⟩
theorem Lw.t{a b:Yt}{k:List Key}{v:V}(e:H a=Ya (.dT kvs))(eb:H b=Ya (.tup (k.map kV)))(hl:kvs.length<bB):
  Lw H a (.ref b) v (upd H a (.dT (putK kvs k v))):=.inr ⟨kvs,k,b,e,rfl,eb,hl,rfl⟩
def Lx(i:Expr):Prop:=∀ov iv,JX i false ov iv=operate [ov,iv] (qF ov iv)
theorem Zuh{prog:Y8}{w:aO}{A:bC}{E:Ye->Yf->Prop}{s:Yf}{env:cH}{value slice:Expr}{pos:aP}{T id:String}{Q:Ye->Yf->Prop}(hl:QV (.type T) "__getitem__" =pure (Ya (.builtin id)))(hs:Lx slice)(h:ao (aq prog w) A (aF value env) (λo s₁=>ao (aq prog w) A (aF slice env) (λi s₂=>s₂.TypeIs o T/\ao (aq prog w) A (qF o i) Q E s₂) E s₁) E s):
  ao (aq prog w) A (aF (.Subscript value slice pos) env) Q E s:=by
 refine Rv (eY h (λo s₁ h₁=>eY h₁ (λi s₂ h₂=>?_) λ_ _ x=>x) λ_ _ x=>x);obtain⟨hT,h₂⟩:=h₂;unfold Ru;refine Yc ?_;rw[getitemInPython_of_ne hT.not_modules];refine Yc (YM hT hl ?_);have fin:ao (aq prog w) A (JX slice false o i) (λr s₃=>ao (aq prog w) A (letTemporaryGo value o r>>=λ_=>pure r) Q E s₃) E s₂:=by rw[hs o i];exact wpAny_operating (eY h₂ (λr s₃ h₃=>Yc (wpAny_letTemporaryGo (Yp h₃))) λ_ _ x=>x)
 first
  |exact Yp (Yc fin)
  |exact Yc (Yp (Yc fin))
  |exact Yc fin
structure M1(X:Cx)(o:Expr)(m:aj)(apos:aP)(e:Expr)(cpos:aP):Prop where
 base:mR o m X.env (aF o X.env)=aF o X.env
 few:((bO cpos (Yr [e] X.env)).all (λx=>!x.1)&&(iC cpos (iB [] X.env)).all (λx=>x.1.isSome)
  &&decide (([e]:List Expr).length+([]:List Keyword).length+(if([]:List Keyword).isEmpty then 0 else 1)<30))=true
 line:(apos.endLine==cpos.line)=true
 trees:bO cpos (Yr [e] X.env)=[(false,aF e X.env)]
structure M2(X:Cx)(o:Expr)(m:aj)(apos:aP)(e f:Expr)(cpos:aP):Prop where
 base:mR o m X.env (aF o X.env)=aF o X.env
 few:((bO cpos (Yr [e,f] X.env)).all (λx=>!x.1)&&(iC cpos (iB [] X.env)).all (λx=>x.1.isSome)
  &&decide (([e,f]:List Expr).length+([]:List Keyword).length+(if([]:List Keyword).isEmpty then 0 else 1)<30))=true
 line:(apos.endLine==cpos.line)=true
 trees:bO cpos (Yr [e,f] X.env)=[(false,aF e X.env),(false,aF f X.env)]
end L2
namespace L3
open PySem
variable{hi lo:Option Int}{M:Store}{T:oN}{env:Zz}{it:fW}
noncomputable section
inductive D where
 |non|bl (b:Bool)|int (i:Int)|str (x:List Nat)|tup (ds:List D)|bM (ds:List D)|ref (n:Nat)
 deriving Inhabited
noncomputable abbrev iw:=Sum Int (List Nat)
inductive MO where
 |lst (xs:List D)|dct (kvs:List (iw×D))|cP (kvs:List (iw×D))|ins (c:List Nat) (fs:List (List Nat×D))
 deriving Inhabited
noncomputable abbrev Store:=List MO
structure X3 where
 cls:List Nat
 arg:D
inductive R3(α:Type)where
 |ok (a:α) (M:Store)|exc (x:X3) (M:Store)|bad
@[simp] noncomputable def R3.bind{α β:Type}(r:R3 α)(k:α->Store->R3 β):R3 β:=match r with
 | .ok a M=>k a M|.exc x M=>.exc x M|.bad=>.bad
theorem R3.Xb{α β:Type}(a:α)(M:Store)(k:α->Store->R3 β):(R3.ok a M).bind k=k a M:=rfl
theorem ft{C:Prop}(h:false=true):C:=Bool.noConfusion h
theorem iR{α:Type}{C:Prop}{k:α}(h:Yk=Ya k):C:=by cases h
noncomputable def dO:Nat->D->Bool
 |_,.non=>true|_,.bl _=>true|_,.int _=>true|_,.str _=>true
 |n+1,.tup ds=>ds.all (dO n)|_,_=>false
noncomputable abbrev DEEP:Nat:=60
mutual
noncomputable def dH:D->D->Bool
 | .non,.non=>true|.bl a,.bl b=>a==b|.int a,.int b=>a==b|.str a,.str b=>a==b
 | .tup a,.tup b=>iH a b|.bl a,.int b=>(if a then 1 else 0)==b|.int a,.bl b=>a==(if b then 1 else 0)|_,_=>false
noncomputable def iH:List D->List D->Bool
 |[],[]=>true|a::x,b::y=>dH a b&&iH x y|_,_=>false
end
theorem Tw(a b:List Nat):dH (.str a) (.str b)=(a==b):=rfl
theorem ZuT(a b:List D):dH (.tup a) (.tup b)=iH a b:=rfl
theorem Zvl:iH [] []=true:=rfl
theorem Tz(a b:D)(x y:List D):iH (a::x) (b::y)=(dH a b&&iH x y):=rfl
mutual
noncomputable def below(n:Nat):D->Bool
 | .tup ds=>bT n ds|.bM ds=>bT n ds|.ref k=>k<n|.non=>true| .bl _=>true| .int _=>true| .str _=>true
noncomputable def bT(n:Nat):List D->Bool
 |[]=>true|d::ds=>below n d&&bT n ds
end
mutual
noncomputable def same:D->D->Bool
 | .non,.non=>true|.bl a,.bl b=>a==b|.int a,.int b=>a==b|.str a,.str b=>a==b
 | .tup a,.tup b=>Ce a b|.bM a,.bM b=>Ce a b|.ref a,.ref b=>a==b|_,_=>false
noncomputable def Ce:List D->List D->Bool
 |[],[]=>true|a::x,b::y=>same a b&&Ce x y|_,_=>false
end
mutual
theorem ZoW:∀{a b:D},same a b=true->a=b
 | .non,b,h=>by cases b<;>first|exact rfl|exact ft h
 | .bl a,b,h=>by cases b<;>first|exact congrArg D.bl (beq_iff_eq.mp h)|exact ft h
 | .int a,b,h=>by cases b<;>first|exact congrArg D.int (beq_iff_eq.mp h)|exact ft h
 | .str a,b,h=>by cases b<;>first|exact congrArg D.str (beq_iff_eq.mp h)|exact ft h
 | .tup a,b,h=>by cases b<;>first|exact congrArg D.tup (TF h)|exact ft h
 | .bM a,b,h=>by cases b<;>first|exact congrArg D.bM (TF h)|exact ft h
 | .ref a,b,h=>by cases b<;>first|exact congrArg D.ref (beq_iff_eq.mp h)|exact ft h
theorem TF:∀{x y:List D},Ce x y=true->x=y
 |[],y,h=>by cases y<;>first|exact rfl|exact ft h
 |a::x,y,h=>by
  cases y with
  |nil=>exact ft h|cons b y=>exact have w:=Ya9.mp (h:(same a b&&Ce x y)=true);congr (congrArg _ (ZoW w.1)) (TF w.2)
end
mutual
theorem Zog:∀(a:D),same a a=true
 | .non=>rfl|.bl a=>beq_self_eq_true a|.int a=>beq_self_eq_true a|.str a=>beq_self_eq_true a
 | .tup a=>TJ a|.bM a=>TJ a|.ref a=>beq_self_eq_true a
theorem TJ:∀(x:List D),Ce x x=true
 |[]=>rfl|a::x=>Ya9.mpr ⟨Zog a,TJ x⟩
end
theorem same_iff{a b:D}:same a b=true↔a=b:=⟨ZoW,λh=>h▸Zog a⟩
noncomputable instance:DecidableEq D:=λa b=>decidable_of_iff (same a b=true) same_iff
noncomputable instance:DecidableEq MO:=λa b=>match a,b with
 | .lst x,.lst y=>if h:x=y then isTrue (by rw[h])else isFalse (by intro e;cases e;exact h rfl)|.dct x,.dct y=>if h:x=y then isTrue (by rw[h])else isFalse (by intro e;cases e;exact h rfl)|.cP x,.cP y=>if h:x=y then isTrue (by rw[h])else isFalse (by intro e;cases e;exact h rfl)|.ins c x,.ins d y=>if h:c=d/\x=y then isTrue (by rw[h.1,h.2])else isFalse (by intro e;cases e;exact h ⟨rfl,rfl⟩)
 | .ins _ _,.lst _=>isFalse (by intro e;cases e)|.ins _ _,.dct _=>isFalse (by intro e;cases e)|.ins _ _,.cP _=>isFalse (by intro e;cases e)|.lst _,.ins _ _=>isFalse (by intro e;cases e)
 | .dct _,.ins _ _=>isFalse (by intro e;cases e)|.cP _,.ins _ _=>isFalse (by intro e;cases e)|.lst _,.dct _=>isFalse (by intro e;cases e)|.lst _,.cP _=>isFalse (by intro e;cases e)
 | .dct _,.lst _=>isFalse (by intro e;cases e)|.dct _,.cP _=>isFalse (by intro e;cases e)|.cP _,.lst _=>isFalse (by intro e;cases e)|.cP _,.dct _=>isFalse (by intro e;cases e)
@[simp] noncomputable abbrev SZ:Nat:=1000000
noncomputable abbrev Zz:=List (Option D)
noncomputable abbrev E3:=Zz->Store->R3 D
noncomputable abbrev cY:=Zz->Store->R3 (List D)
noncomputable abbrev F3:=List D->Store->R3 D
inductive O3 where
 |nx (env:Zz) (M:Store)|rt (d:D) (M:Store)|bk (env:Zz) (M:Store)|ct (env:Zz) (M:Store)|exc (x:X3) (M:Store)|bad
noncomputable abbrev S3:=Zz->Store->O3
@[simp] noncomputable def Zb(i:Nat):E3:=λenv M=>match env[i]? with
 |some (Ya d)=>.ok d M|_=>.bad
@[simp] noncomputable def eC(d:D):E3:=λ_ M=>.ok d M
@[simp] noncomputable def e1(op:D->Store->R3 D)(f:E3):E3:=λenv M=>(f env M).bind op
@[simp] noncomputable def e2(op:D->D->Store->R3 D)(f g:E3):E3:=λenv M=>(f env M).bind λa M1=>(g env M1).bind λb M2=>op a b M2
@[simp] noncomputable def Ze:cY:=λ_ M=>.ok [] M
@[simp] noncomputable def Za(f:E3)(g:cY):cY:=λenv M=>(f env M).bind λa M1=>(g env M1).bind λb M2=>.ok (a::b) M2
@[simp] noncomputable def alloc(o:MO)(M:Store):R3 D:=.ok (.ref M.length) (M++[o])
section
local instance (priority:=100000) Adh (p:Prop):Decidable p:=Yy p
@[simp] noncomputable def bD(g:cY):E3:=λenv M=>(g env M).bind λds M1=>if ds.length<=SZ then .ok (.tup ds) M1 else .bad
end
section
local instance (priority:=100000) Adi (p:Prop):Decidable p:=Yy p
@[simp] noncomputable def aV(g:cY):E3:=λenv M=>(g env M).bind λds M1=>if ds.length<=SZ then alloc (.lst ds) M1 else .bad
end
@[simp] noncomputable def gq(f g:E3):E3:=λenv M=>(f env M).bind λa M1=>match a with
 | .bl true=>g env M1|.bl false=>.ok (.bl false) M1|_=>.bad
@[simp] noncomputable def cU(f g:E3):E3:=λenv M=>(f env M).bind λa M1=>match a with
 | .bl false=>g env M1|.bl true=>.ok (.bl true) M1|_=>.bad
noncomputable def iT(a:D)(M:Store):R3 D:=match a with
 | .bl b=>.ok (.bl (!b)) M|_=>.bad
@[simp] theorem ZyG:∀b,iT (.bl b) M= .ok (.bl (!b)) M:=λ_=>rfl
@[simp] noncomputable def jm(c f g:E3):E3:=λenv M=>(c env M).bind λa M1=>match a with
 | .bl true=>f env M1|.bl false=>g env M1|_=>.bad
@[simp] noncomputable def Zx(F:F3)(g:cY):E3:=λenv M=>(g env M).bind λds M1=>F ds M1
section
local instance (priority:=100000) Adj (p:Prop):Decidable p:=Yy p
noncomputable def Zt(a b:D)(M:Store):R3 D:=match a,b with
 | .int i,.int j=>.ok (.int (i+j)) M|.str x,.str y=>if x.length+y.length<=SZ then .ok (.str (x++y)) M else .bad|.tup x,.tup y=>if x.length+y.length<=SZ then .ok (.tup (x++y)) M else .bad|.ref n,.ref m=>match M[n]?,M[m]? with
  |some (.lst x),Ya (.lst y)=>if x.length+y.length<=SZ then alloc (.lst (x++y)) M else .bad|_,_=>.bad
 |_,_=>.bad
@[simp] theorem Cg:∀i j,Zt (.int i) (.int j) M= .ok (.int (i+j)) M:=λ_ _=>rfl
@[simp] theorem ZmT:∀x y,Zt (.str x) (.str y) M=(if x.length+y.length<=SZ then .ok (.str (x++y)) M else .bad):=λ_ _=>rfl
@[simp] theorem Zmk:∀x y,Zt (.tup x) (.tup y) M=(if x.length+y.length<=SZ then .ok (.tup (x++y)) M else .bad):=λ_ _=>rfl
@[simp] theorem Zsh:∀n m,Zt (.ref n) (.ref m) M=(match M[n]?,M[m]? with
  |some (.lst x),Ya (.lst y)=>if x.length+y.length<=SZ then alloc (.lst (x++y)) M else .bad|_,_=>.bad):=λ_ _=>rfl
end
noncomputable def gR(a b:D)(M:Store):R3 D:=match a,b with
 | .int i,.int j=>.ok (.int (i-j)) M|_,_=>.bad
@[simp] theorem Ly:∀i j,gR (.int i) (.int j) M= .ok (.int (i-j)) M:=λ_ _=>rfl
section
local instance (priority:=100000) Adk (p:Prop):Decidable p:=Yy p
noncomputable def l_(i j:Int):Bool:=(decide (-(2^64)<i)&&decide (i<2^64))|| (decide (-(2^64)<j)&&decide (j<2^64))
end
section
local instance (priority:=100000) Adl (p:Prop):Decidable p:=Yy p
noncomputable def iy(a b:D)(M:Store):R3 D:=match a,b with
 | .int i,.int j=>if l_ i j then .ok (.int (i*j)) M else .bad|.str x,.int k=>if x.length*k.toNat<=SZ/\k<1000000/\ -1000000<k then .ok (.str (Ym k.toNat x).flatten) M else .bad|.ref n,.int k=>match M[n]? with
  |some (.lst x)=>if x.length*k.toNat<=SZ/\k<1000000/\ -1000000<k then alloc (.lst (Ym k.toNat x).flatten) M else .bad|_=>.bad
 |_,_=>.bad
@[simp] theorem ZxM:∀i j,iy (.int i) (.int j) M=(if l_ i j then .ok (.int (i*j)) M else .bad):=λ_ _=>rfl
@[simp] theorem Zq4:∀x k,iy (.str x) (.int k) M=(if x.length*k.toNat<=SZ/\k<1000000/\ -1000000<k then .ok (.str (Ym k.toNat x).flatten) M else .bad):=λ_ _=>rfl
@[simp] theorem ZyH:∀n k,iy (.ref n) (.int k) M=(match M[n]? with
  |some (.lst x)=>if x.length*k.toNat<=SZ/\k<1000000/\ -1000000<k then alloc (.lst (Ym k.toNat x).flatten) M else .bad|_=>.bad):=λ_ _=>rfl
end
noncomputable def aU(a b:D)(M:Store):R3 D:=match a,b with
 | .int i,.int j=>if 0<j then .ok (.int (i % j)) M else .bad|_,_=>.bad
@[simp] theorem Zl0:∀i j,aU (.int i) (.int j) M=(if 0<j then .ok (.int (i % j)) M else .bad):=λ_ _=>rfl
section
local instance (priority:=100000) Adm (p:Prop):Decidable p:=Yy p
noncomputable def bU(a b:D)(M:Store):R3 D:=match a,b with
 | .int i,.int j=>if 0<j/\j<1073741824 then .ok (.int (i / j)) M else .bad|_,_=>.bad
@[simp] theorem ZkD:∀i j,bU (.int i) (.int j) M=(if 0<j/\j<1073741824 then .ok (.int (i / j)) M else .bad):=λ_ _=>rfl
end
noncomputable def jn(a:D)(M:Store):R3 D:=match a with
 | .int i=>.ok (.int (-i)) M|_=>.bad
@[simp] theorem Ci:∀i,jn (.int i) M= .ok (.int (-i)) M:=λ_=>rfl
noncomputable def iU(a b:D)(M:Store):R3 D:=match a,b with
 | .int i,.int j=>.ok (.bl (decide (i<j))) M|_,_=>.bad
@[simp] theorem uV:∀i j,iU (.int i) (.int j) M= .ok (.bl (decide (i<j))) M:=λ_ _=>rfl
noncomputable def Cj(a b:D)(M:Store):R3 D:=match a,b with
 | .int i,.int j=>.ok (.bl (decide (i<=j))) M|_,_=>.bad
@[simp] theorem TQ:∀i j,Cj (.int i) (.int j) M= .ok (.bl (decide (i<=j))) M:=λ_ _=>rfl
noncomputable def dY(a b:D)(M:Store):R3 D:=match a,b with
 | .int i,.int j=>.ok (.bl (decide (j<i))) M|_,_=>.bad
@[simp] theorem pO:∀i j,dY (.int i) (.int j) M= .ok (.bl (decide (j<i))) M:=λ_ _=>rfl
noncomputable def qK(a b:D)(M:Store):Option Bool:=match a,b with
 | .ref n,.ref m=>match M[n]?,M[m]? with
  |some (.lst x),Ya (.lst y)=>if x.all (dO DEEP)&&y.all (dO DEEP)then Ya (iH x y)else Yk|_,_=>Yk
 | .int i,.int j=>Ya (decide (i=j))|.str x,.str y=>Ya (decide (x=y))|.bl x,.bl y=>Ya (decide (x=y))|.tup x,.tup y=>if x.all (dO DEEP)&&y.all (dO DEEP)then Ya (iH x y)else Yk
 |_,_=>Yk
@[simp] theorem G5:∀n m,qK (.ref n) (.ref m) M=(match M[n]?,M[m]? with
  |some (.lst x),Ya (.lst y)=>if x.all (dO DEEP)&&y.all (dO DEEP)then Ya (iH x y)else Yk|_,_=>Yk):=λ_ _=>rfl
@[simp] theorem sV:∀i j,qK (.int i) (.int j) M=Ya (decide (i=j)):=λ_ _=>rfl
@[simp] theorem wQ:∀x y,qK (.str x) (.str y) M=Ya (decide (x=y)):=λ_ _=>rfl
@[simp] theorem Lz:∀x y,qK (.bl x) (.bl y) M=Ya (decide (x=y)):=λ_ _=>rfl
@[simp] theorem LC:∀x y,qK (.tup x) (.tup y) M=(if x.all (dO DEEP)&&y.all (dO DEEP)then Ya (iH x y)else Yk):=λ_ _=>rfl
@[simp] noncomputable def aY(a b:D)(M:Store):R3 D:=match qK a b M with
 |some r=>.ok (.bl r) M|none=>.bad
@[simp] noncomputable def fj(a b:D)(M:Store):R3 D:=match qK a b M with
 |some r=>.ok (.bl (!r)) M|none=>.bad
noncomputable def zc(a b:D)(M:Store):R3 D:=match b with
 | .non=>.ok (.bl (decide (a= .non))) M|_=>.bad
@[simp] theorem Zy4{a:D}:zc a (.non) M= .ok (.bl (decide (a= .non))) M:=rfl
noncomputable def TV(a b:D)(M:Store):R3 D:=match b with
 | .non=>.ok (.bl (!decide (a= .non))) M|_=>.bad
@[simp] theorem ZwE{a:D}:TV a (.non) M= .ok (.bl (!decide (a= .non))) M:=rfl
noncomputable def cV:D->Bool
 | .non=>true| .bl _=>true| .int _=>true| .str _=>true|_=>false
noncomputable def TX(a:D)(y:List Nat):Option Bool:=match a with
 | .str [c]=>Ya (decide (c∈y))|_=>Yk
@[simp] theorem ZzE{y:List Nat}:∀c,TX (.str [c]) y=Ya (decide (c∈y)):=λ_=>rfl
noncomputable def inD(a b:D):Option Bool:=match b with
 | .str y=>TX a y|.tup ys=>if cV a&&ys.all cV then Ya (ys.any λy=>dH y a)else Yk|_=>Yk
@[simp] theorem Zze{a:D}:∀y,inD a (.str y)=TX a y:=λ_=>rfl
@[simp] theorem ZwF{a:D}:∀ys,inD a (.tup ys)=(if cV a&&ys.all cV then Ya (ys.any λy=>dH y a)else Yk):=λ_=>rfl
@[simp] noncomputable def jG(a b:D)(M:Store):R3 D:=match inD a b with
 |some r=>.ok (.bl r) M|none=>.bad
noncomputable def kJ(n:Nat)(i:Int):Option Nat:=if 0<=i then(if i<n then Ya i.toNat else Yk)else if -(n:Int)<=i then Ya (i+n).toNat else Yk
noncomputable def gw{α:Type}(xs:List α)(i:Int):Option α:=(kJ xs.length i).bind λj=>xs[j]?
noncomputable def ZyF:D->Option iw
 | .int i=>Ya (.inl i)|.str x=>Ya (.inr x)|_=>Yk
noncomputable def G6:List (iw×D)->iw->Option D
 |[],_=>Yk|(k,v)::r,x=>if k=x then Ya v else G6 r x
section
local instance (priority:=100000) Adn (p:Prop):Decidable p:=Yy p
noncomputable def Zm(a b:D)(M:Store):R3 D:=match a,b with
 | .tup ds,.int i=>match gw ds i with
  |some d=>.ok d M|none=>.bad
 | .bM ds,.int i=>match gw ds i with
  |some d=>.ok d M|none=>.bad
 | .str x,.int i=>match gw x i with
  |some c=>if x.length<=SZ then .ok (.str [c]) M else .bad|none=>.bad
 | .ref n,.int i=>match M[n]? with
  |some (.lst ds)=>match gw ds i with
   |some d=>.ok d M|none=>.bad
  |_=>.bad
 |_,_=>.bad
@[simp] theorem TY:∀ds i,Zm (.tup ds) (.int i) M=(match gw ds i with
  |some d=>.ok d M|none=>.bad):=λ_ _=>rfl
@[simp] theorem T3:∀ds i,Zm (.bM ds) (.int i) M=(match gw ds i with
  |some d=>.ok d M|none=>.bad):=λ_ _=>rfl
@[simp] theorem G7:∀x i,Zm (.str x) (.int i) M=(match gw x i with
  |some c=>if x.length<=SZ then .ok (.str [c]) M else .bad|none=>.bad):=λ_ _=>rfl
@[simp] theorem T4:∀n i,Zm (.ref n) (.int i) M=(match M[n]? with
  |some (.lst ds)=>match gw ds i with
   |some d=>.ok d M|none=>.bad
  |_=>.bad):=λ_ _=>rfl
end
noncomputable def ZuF:Option MO->Option (List (iw×D))
 |some (.dct kvs)=>Ya kvs|some (.cP kvs)=>Ya kvs|_=>Yk
noncomputable def ZwQ(a b:D)(M:Store):R3 D:=match a with
 | .ref n=>match ZuF M[n]?,ZyF b with
  |some kvs,Ya x=>match G6 kvs x with
   |some d=>.ok d M|none=>.bad
  |_,_=>.bad
 |_=>.bad
@[simp] theorem Zxb{b:D}:∀n,ZwQ (.ref n) b M=(match ZuF M[n]?,ZyF b with
  |some kvs,Ya x=>match G6 kvs x with
   |some d=>.ok d M|none=>.bad
  |_,_=>.bad):=λ_=>rfl
noncomputable def aG(n d:Nat):Option Int->Nat
 |none=>d|some v=>if v<0 then(v+(n:Int)).toNat else jk v.toNat n
noncomputable def cutD{α:Type}(xs:List α)(lo hi:Option Int):List α:=(xs.drop (aG xs.length 0 lo)).take (aG xs.length xs.length hi-aG xs.length 0 lo)
noncomputable abbrev wR:=Zz->Store->R3 (Option Int)
@[simp] noncomputable def dZ:wR:=λ_ M=>.ok Yk M
@[simp] noncomputable def cW(f:E3):wR:=λenv M=>(f env M).bind λa M1=>match a with
 | .int i=>.ok (Ya i) M1|_=>.bad
section
local instance (priority:=100000) Ado (p:Prop):Decidable p:=Yy p
noncomputable def zf(a:D)(lo hi:Option Int)(M:Store):R3 D:=match a with
 | .tup ds=>.ok (.tup (cutD ds lo hi)) M|.bM ds=>alloc (.lst (cutD ds lo hi)) M|.str x=>if x.length<=SZ then .ok (.str (cutD x lo hi)) M else .bad|.ref n=>match M[n]? with
  |some (.lst ds)=>alloc (.lst (cutD ds lo hi)) M|_=>.bad
 |_=>.bad
@[simp] theorem G8:∀ds,zf (.tup ds) lo hi M= .ok (.tup (cutD ds lo hi)) M:=λ_=>rfl
@[simp] theorem G9:∀ds,zf (.bM ds) lo hi M=alloc (.lst (cutD ds lo hi)) M:=λ_=>rfl
@[simp] theorem Ck:∀x,zf (.str x) lo hi M=(if x.length<=SZ then .ok (.str (cutD x lo hi)) M else .bad):=λ_=>rfl
@[simp] theorem Cm:∀n,zf (.ref n) lo hi M=(match M[n]? with
  |some (.lst ds)=>alloc (.lst (cutD ds lo hi)) M|_=>.bad):=λ_=>rfl
end
@[simp] noncomputable def c7(f:E3)(lo hi:wR):E3:=λenv M=>(f env M).bind λa M1=>(lo env M1).bind λl M2=>(hi env M2).bind λh M3=>zf a l h M3
section
local instance (priority:=100000) Adp (p:Prop):Decidable p:=Yy p
noncomputable def bG(ds:List D)(M:Store):R3 D:=match ds with
 |[.tup x]=>.ok (.int x.length) M|[.bM x]=>.ok (.int x.length) M|[.str x]=>if x.length<=SZ then .ok (.int x.length) M else .bad|[.ref n]=>match M[n]? with
  |some (.lst x)=>.ok (.int x.length) M|_=>.bad
 |_=>.bad
@[simp] theorem G_:∀x,bG ([.tup x]) M= .ok (.int x.length) M:=λ_=>rfl
@[simp] theorem Hf:∀x,bG ([.bM x]) M= .ok (.int x.length) M:=λ_=>rfl
@[simp] theorem Hg:∀x,bG ([.str x]) M=(if x.length<=SZ then .ok (.int x.length) M else .bad):=λ_=>rfl
@[simp] theorem uW:∀n,bG ([.ref n]) M=(match M[n]? with
  |some (.lst x)=>.ok (.int x.length) M|_=>.bad):=λ_=>rfl
end
noncomputable def kO(ds:List D)(M:Store):R3 D:=match ds with
 |[.tup x]=>.ok (.tup x) M|[.bM x]=>.ok (.tup x) M|[.ref n]=>match M[n]? with
  |some (.lst x)=>.ok (.tup x) M|_=>.bad
 |_=>.bad
@[simp] theorem Zkm:∀x,kO ([.tup x]) M= .ok (.tup x) M:=λ_=>rfl
@[simp] theorem Zki:∀x,kO ([.bM x]) M= .ok (.tup x) M:=λ_=>rfl
@[simp] theorem Cp:∀n,kO ([.ref n]) M=(match M[n]? with
  |some (.lst x)=>.ok (.tup x) M|_=>.bad):=λ_=>rfl
inductive oN where
 |int|bool|str|list|tuple
 deriving DecidableEq
noncomputable def jT(T:oN)(d:D)(M:Store):Option Bool:=match d with
 | .non=>Ya false|.bl _=>Ya (T== .bool|| T== .int)|.int _=>Ya (T== .int)|.str _=>Ya (T== .str)
 | .tup _=>Ya (T== .tuple)|.bM _=>Yk|.ref n=>match M[n]? with
  |some (.lst _)=>Ya (T== .list)|some (.dct _)=>Ya false|some (.cP _)=>Yk|some (.ins _ _)=>Yk
  |none=>Yk
@[simp] theorem Zoy:jT T (.non) M=Ya false:=rfl
@[simp] theorem Zo9:∀w0,jT T (.bl w0) M=Ya (T== .bool|| T== .int):=λ_=>rfl
@[simp] theorem Zoh:∀w0,jT T (.int w0) M=Ya (T== .int):=λ_=>rfl
@[simp] theorem ZoL:∀w0,jT T (.str w0) M=Ya (T== .str):=λ_=>rfl
@[simp] theorem Zom:∀w0,jT T (.tup w0) M=Ya (T== .tuple):=λ_=>rfl
@[simp] theorem Zo2:∀w0,jT T (.bM w0) M=Yk:=λ_=>rfl
@[simp] theorem Zou:∀n,jT T (.ref n) M=(match M[n]? with
  |some (.lst _)=>Ya (T== .list)|some (.dct _)=>Ya false|some (.cP _)=>Yk|some (.ins _ _)=>Yk
  |none=>Yk):=λ_=>rfl
@[simp] noncomputable def qL(T:oN)(d:D)(M:Store):R3 D:=match jT T d M with
 |some b=>.ok (.bl b) M|none=>.bad
noncomputable def Cq:D->Bool
 | .bl _=>true|_=>false
noncomputable def zj:D->Bool
 | .bl b=>b|_=>false
noncomputable def allB(l:List D):Option Bool:=if l.all Cq then Ya (l.all zj)else Yk
noncomputable def sW(ds:List D)(M:Store):R3 D:=match ds with
 | [.ref n]=>match M[n]? with
  |some (.lst x)=>match allB x with
   |some b=>.ok (.bl b) M|none=>.bad
  |_=>.bad
 |_=>.bad
@[simp] theorem Cr:∀n,sW ([.ref n]) M=(match M[n]? with
  |some (.lst x)=>match allB x with
   |some b=>.ok (.bl b) M|none=>.bad
  |_=>.bad):=λ_=>rfl
noncomputable def sX(o:D)(ds:List D)(M:Store):R3 D:=match o,ds with
 | .str x,[.str y]=>if x.length<=SZ/\y.length<=SZ then .ok (.bl (y.isPrefixOf x)) M else .bad|_,_=>.bad
@[simp] theorem Hh:∀x y,sX (.str x) ([.str y]) M=(if x.length<=SZ/\y.length<=SZ then .ok (.bl (y.isPrefixOf x)) M else .bad):=λ_ _=>rfl
section
local instance (priority:=100000) Adc (p:Prop):Decidable p:=Yy p
noncomputable def cQ(o:D)(ds:List D)(M:Store):R3 D:=match o,ds with
 | .ref n,[d]=>match M[n]? with
  |some (.lst x)=>if x.length<SZ then .ok .non (M.set n (.lst (x++[d])))else .bad|_=>.bad
 |_,_=>.bad
@[simp] theorem LK:∀n d,cQ (.ref n) ([d]) M=(match M[n]? with
  |some (.lst x)=>if x.length<SZ then .ok .non (M.set n (.lst (x++[d])))else .bad|_=>.bad):=λ_ _=>rfl
end
section
local instance (priority:=100000) Adq (p:Prop):Decidable p:=Yy p
noncomputable def kW(o:D)(ds:List D)(M:Store):R3 D:=match o,ds with
 | .ref n,[.int i]=>match M[n]? with
  | some (.lst x)=>if -1000000<=i/\i<=1000000 then match kJ x.length i with
   |some k=>match x[k]? with
    |some d=>.ok d (M.set n (.lst (x.eraseIdx k)))|none=>.bad
   |none=>.bad
   else .bad
  |_=>.bad
 | .ref n,[]=>match M[n]? with
  |some (.lst x)=>match x[x.length-1]? with
   |some d=>.ok d (M.set n (.lst x.dropLast))|none=>.bad
  |_=>.bad
 |_,_=>.bad
@[simp] theorem ZoC:∀n i,kW (.ref n) ([.int i]) M=(match M[n]? with
  | some (.lst x)=>if -1000000<=i/\i<=1000000 then match kJ x.length i with
   |some k=>match x[k]? with
    |some d=>.ok d (M.set n (.lst (x.eraseIdx k)))|none=>.bad
   |none=>.bad
   else .bad
  |_=>.bad):=λ_ _=>rfl
@[simp] theorem T5:∀n,kW (.ref n) ([]) M=(match M[n]? with
  |some (.lst x)=>match x[x.length-1]? with
   |some d=>.ok d (M.set n (.lst x.dropLast))|none=>.bad
  |_=>.bad):=λ_=>rfl
end
noncomputable def iz(a:D)(_:Store):Bool:=match a with
 | .str _=>true|_=>false
@[simp] theorem ZwX{w_:Store}:∀w0,iz (.str w0) w_=true:=λ_=>rfl
noncomputable def bI(a:D)(M:Store):Bool:=match a with
 | .ref n=>match M[n]? with
  |some (.lst _)=>true|_=>false
 |_=>false
@[simp] theorem zm:∀n,bI (.ref n) M=(match M[n]? with
  |some (.lst _)=>true|_=>false):=λ_=>rfl
@[simp] noncomputable def aQ(ty:D->Store->Bool)(m:D->List D->Store->R3 D)(o:E3)(g:cY):E3:=λenv M=>(o env M).bind λa M1=>if ty a M1 then(g env M1).bind λds M2=>m a ds M2 else .bad
@[simp] noncomputable def aJ(b:List D->Store->R3 D)(g:cY):E3:=λenv M=>(g env M).bind λds M1=>b ds M1
noncomputable def putD(k:iw)(v:D)(kvs:List (iw×D)):List (iw×D):=if(kvs.any λp=>decide (p.1=k))=true then kvs.map (λp=>if p.1=k then(p.1,v)else p)else kvs++[(k,v)]
@[simp] noncomputable def e3(op:D->D->D->Store->R3 D)(f g h:E3):E3:=λenv M=>(f env M).bind λa M1=>(g env M1).bind λb M2=>(h env M2).bind λc M3=>op a b c M3
noncomputable def ZqJ(v a b:D)(M:Store):R3 D:=match a,b with
 | .ref n,.int i=>match M[n]? with
  |some (.lst xs)=>match kJ xs.length i with
   |some j=>.ok .non (M.set n (.lst (xs.set j v)))|none=>.bad
  |_=>.bad
 |_,_=>.bad
@[simp] theorem Zpp{v:D}:∀n i,ZqJ v (.ref n) (.int i) M=(match M[n]? with
  |some (.lst xs)=>match kJ xs.length i with
   |some j=>.ok .non (M.set n (.lst (xs.set j v)))|none=>.bad
  |_=>.bad):=λ_ _=>rfl
noncomputable def Hi(ds:List D)(M:Store):R3 D:=match ds with
 |[.int i]=>.ok (.int i) M|[.bl b]=>.ok (.int (if b then 1 else 0)) M|_=>.bad
@[simp] theorem Zza:∀i,Hi ([.int i]) M= .ok (.int i) M:=λ_=>rfl
@[simp] theorem Zy0:∀b,Hi ([.bl b]) M= .ok (.int (if b then 1 else 0)) M:=λ_=>rfl
noncomputable def mj:List D->Option (List Int)
 |[]=>Ya []|.int i::r=>(mj r).map (i:: ·)|_::_=>Yk
noncomputable def aZ:S3:=λenv M=>.nx env M
noncomputable def Hj:S3:=λ_ _=>.bad
noncomputable def Zq(f g:S3):S3:=λenv M=>match f env M with
 | .nx env' M'=>g env' M'|o=>o
noncomputable def aK(c:E3)(f g:S3):S3:=λenv M=>match c env M with
 | .ok (.bl true) M1=>f env M1|.ok (.bl false) M1=>g env M1|.exc x M1=>.exc x M1|_=>.bad
noncomputable def aR(f:E3):S3:=λenv M=>match f env M with
 | .ok d M1=>.rt d M1|.exc x M1=>.exc x M1|.bad=>.bad
noncomputable def bj(f:E3):S3:=λenv M=>match f env M with
 | .ok _ M1=>.nx env M1|.exc x M1=>.exc x M1|.bad=>.bad
noncomputable def aA(i:Nat)(f:E3):S3:=λenv M=>match f env M with
 | .ok d M1=>.nx (env.set i (Ya d)) M1|.exc x M1=>.exc x M1|.bad=>.bad
noncomputable def Hl(o i f:E3):S3:=bj (e3 ZqJ f o i)
noncomputable abbrev G3:=D->Zz->Option Zz
@[simp] noncomputable def b_(i:Nat):G3:=λd env=>Ya (env.set i (Ya d))
noncomputable def bindAll:List Nat->List D->Zz->Option Zz
 |[],[],env=>Ya env|i::is,d::ds,env=>bindAll is ds (env.set i (Ya d))|_,_,_=>Yk
@[simp] theorem Ho:∀env,bindAll ([]) ([]) (env)=Ya env:=λ_=>rfl
@[simp] theorem Hq:∀i is d ds env,bindAll (i::is) (d::ds) (env)=bindAll is ds (env.set i (Ya d)):=λ_ _ _ _ _=>rfl
@[simp] noncomputable def jH(is:List Nat):G3:=λd env=>match d with
 | .tup ds=>bindAll is ds env|_=>Yk
structure fW where
 items:List D
 lock:Option Nat
noncomputable abbrev I3:=Zz->Store->R3 fW
section
local instance (priority:=100000) Ade (p:Prop):Decidable p:=Yy p
@[simp] noncomputable def dI(f:E3):I3:=λenv M=>(f env M).bind λa M1=>match a with
 | .tup ds=>.ok ⟨ds,Yk⟩ M1|.bM ds=>.ok ⟨ds,Yk⟩ M1|.str x=>if x.length<=SZ then .ok ⟨x.map λc=>.str [c],Yk⟩ M1 else .bad|.ref n=>match M1[n]? with
  |some (.lst ds)=>.ok ⟨ds,Ya n⟩ M1|_=>.bad
 |_=>.bad
end
noncomputable def jJ(lo:Int)(n:Nat):List D:=(jj n).map λ(k:Nat)=>D.int (lo+(k:Int))
section
local instance (priority:=100000) Adf (p:Prop):Decidable p:=Yy p
@[simp] noncomputable def wU(f:E3):I3:=λenv M=>(f env M).bind λa M1=>match a with
 | .int j=>if j<=1000000/\ -1000000<=j then .ok ⟨jJ 0 j.toNat,Yk⟩ M1 else .bad|_=>.bad
end
noncomputable def locked(it:fW)(M:Store):Bool:=match it.lock with
 |none=>true|some n=>decide (M[n]?=Ya (.lst it.items))
noncomputable def dg(it:fW)(g:G3)(body:S3):List D->Zz->Store->O3
 |[],env,M=>if locked it M then .nx env M else .bad|d::ds,env,M=>if locked it M then match g d env with
  |none=>.bad|some dD=>match body dD M with
   | .nx e M'=>dg it g body ds e M'|.ct e M'=>dg it g body ds e M'|.bk e M'=>.nx e M'|o=>o
  else .bad
theorem pR{g:G3}{body:S3}:dg it g body [] env M=if locked it M then .nx env M else .bad:=rfl
theorem pU{g:G3}{body:S3}{d:D}{ds:List D}:dg it g body (d::ds) env M=if locked it M then match g d env with
  |none=>.bad|some dD=>match body dD M with
   | .nx e M'=>dg it g body ds e M'|.ct e M'=>dg it g body ds e M'|.bk e M'=>.nx e M'|o=>o
  else .bad:=rfl
noncomputable def qM(i:I3)(g:G3)(body:S3):S3:=λenv M=>match i env M with
 | .ok it M1=>dg it g body it.items env M1|.exc x M1=>.exc x M1|.bad=>.bad
noncomputable def uX(c:E3)(body:S3):Nat->Zz->Store->O3
 |0,_,_=>.bad|n+1,env,M=>match c env M with
  | .ok (.bl true) M1=>match body env M1 with
   | .nx e M'=>uX c body n e M'|.ct e M'=>uX c body n e M'|.bk e M'=>.nx e M'|o=>o
  | .ok (.bl false) M1=>.nx env M1|.exc x M1=>.exc x M1|_=>.bad
theorem T6{c:E3}{body:S3}{n:Nat}:uX c body (n+1) env M=match c env M with
  | .ok (.bl true) M1=>match body env M1 with
   | .nx e M'=>uX c body n e M'|.ct e M'=>uX c body n e M'|.bk e M'=>.nx e M'|o=>o
  | .ok (.bl false) M1=>.nx env M1|.exc x M1=>.exc x M1|_=>.bad:=rfl
noncomputable def Zsk(c:E3)(body:S3):S3:=uX c body 1000000
noncomputable def uY:List E3->Zz->Store->R3 Bool
 |[],_,M=>.ok true M|c::cs,env,M=>(c env M).bind λa M1=>match a with
  | .bl true=>uY cs env M1|.bl false=>.ok false M1|_=>.bad
theorem LQ:uY [] env M= .ok true M:=rfl
theorem Hr{c:E3}{cs:List E3}:uY (c::cs) env M=(c env M).bind λa M1=>match a with
  | .bl true=>uY cs env M1|.bl false=>.ok false M1|_=>.bad:=rfl
section
local instance (priority:=100000) Acz (p:Prop):Decidable p:=Yy p
noncomputable def iV(it:fW)(g:G3)(ifs:List E3)(elt:E3)(n:Nat):List D->Zz->Store->R3 D
 |[],_,M=>if locked it M then .ok (.ref n) M else .bad|d::ds,env,M=>if locked it M then match g d env with
  |none=>.bad|some dD=>(uY ifs dD M).bind λb M1=>if b then(elt dD M1).bind λe M2=>match M2[n]? with
    |some (.lst x)=>if x.length<SZ then iV it g ifs elt n ds dD (M2.set n (.lst (x++[e])))else .bad|_=>.bad
   else iV it g ifs elt n ds dD M1
  else .bad
theorem Zo7{g:G3}{ifs:List E3}{elt:E3}{n:Nat}:iV it g ifs elt n [] env M=if locked it M then .ok (.ref n) M else .bad:=rfl
theorem T7{g:G3}{ifs:List E3}{elt:E3}{n:Nat}{d:D}{ds:List D}:iV it g ifs elt n (d::ds) env M=if locked it M then match g d env with
  |none=>.bad|some dD=>(uY ifs dD M).bind λb M1=>if b then(elt dD M1).bind λe M2=>match M2[n]? with
    |some (.lst x)=>if x.length<SZ then iV it g ifs elt n ds dD (M2.set n (.lst (x++[e])))else .bad|_=>.bad
   else iV it g ifs elt n ds dD M1
  else .bad:=rfl
end
noncomputable def jo(i:I3)(own:Nat)(g:G3)(ifs:List E3)(elt:E3):E3:=λenv M=>(i env M).bind λit M1=>iV it g ifs elt M1.length it.items (env++Ym own Yk) (M1++[.lst []])
noncomputable def wV(n:Nat):MO->Bool
 | .lst xs=>bT n xs|.dct kvs=>bT n (kvs.map (·.2))|.cP kvs=>bT n (kvs.map (·.2))|.ins _ fs=>bT n (fs.map (·.2))
noncomputable def dh(M:Store)(d:D)(M':Store):R3 D:=if below M.length d&&(decide (M'.take M.length=M)|| (M'.take M.length).all (wV M.length))then .ok d (M'.take M.length)else .ok d M'
noncomputable def bF(ps n:Nat)(body:S3):F3:=λds M=>if ds.length=ps then match body (ds.map Ya++Ym (n-ps) Yk) M with
  | .nx _ M'=>dh M .non M'|.rt d M'=>dh M d M'|.exc x M'=>.exc x M'|_=>.bad
 else .bad
end
end L3
namespace L3
variable{i n:Nat}
theorem ZqC{it:fW}{elt:E3}{R:D->D->Prop}{env0:Zz}:∀(ds:List D) (acc:List D) (env:Zz) (M:Store),(∀d,env.set i (Ya d)=env0.set i (Ya d)) ->
  (∀d∈ds,∀x,∃e,elt (env0.set i (Ya d)) (M.set n (.lst x))= .ok e (M.set n (.lst x))/\R d e)->(∀x,locked it (M.set n (.lst x))=true)->M[n]?=Ya (.lst acc)->acc.length+ds.length<=SZ ->
  ∃es,es.length=ds.length/\(∀(j:Nat) d e,ds[j]?=Ya d->es[j]?=Ya e->R d e)/\iV it (b_ i) [] elt n ds env M= .ok (.ref n) (M.set n (.lst (acc++es))):=by
 intro ds
 induction ds with
 | nil=>
  intro acc env M _ _ hl hM _;have e:M.set n (.lst acc)=M:=by
   apply yF;intro j;by_cases hj:j=n
   .subst hj;rw[Y4 (Yd.mp hM).1,hM]
   .rw[Yu (bV hj)]
  have hl':=hl acc;rw[e]at hl';exact⟨[],rfl,λj d e h=>by simp at h,by simp only[Zo7,T7,hl',if_true,gQ,e]⟩
 | cons d ds ih=>
  intro acc env M he hf hl hM hz;have hn:n<M.length:=(Yd.mp hM).1;have e:M.set n (.lst acc)=M:=by
   apply yF;intro j;by_cases hj:j=n
   .subst hj;rw[Y4 hn,hM]
   .rw[Yu (bV hj)]
  have hl':=hl acc;rw[e]at hl';obtain⟨v,hf',hR⟩:=hf d Yl acc;rw[e]at hf';have hz':acc.length<SZ:=by simp at hz ⊢;omega
  obtain⟨es,le,re,h⟩:=ih (acc++[v]) (env0.set i (Ya d)) (M.set n (.lst (acc++[v]))) (λd'=>by rw[Gf]) (λd' hd' x=>by rw[Gf];exact hf d' (Yg _ hd') x) (λx=>by rw[Gf];exact hl x) (by rw[Y4 hn]) (by simp at hz ⊢;omega);refine⟨v::es,by simp[le],λj d' e' h1 h2=>?_,?_⟩
  .cases j with
   |zero=>simp at h1 h2;subst h1 h2;exact hR|succ j=>exact re j d' e' (by simpa using h1) (by simpa using h2)
  .simp only[T7,hl',if_true,b_,he d,LQ,Hr,R3.Xb,hf',hM,hz'];rw[h,Gf];simp
variable{M M':Store}{env env':Zz}
theorem Zi{f g:S3}(h:f env M= .nx env' M'):Zq f g env M=g env' M':=by rw[Zq,h]
variable{d:D}
theorem sY{f g:S3}(h:f env M= .rt d M'):Zq f g env M= .rt d M':=by rw[Zq,h]
theorem d7{c:E3}{f g:S3}(h:c env M= .ok (.bl true) M'):aK c f g env M=f env M':=by rw[aK,h]
theorem jq{c:E3}{f g:S3}(h:c env M= .ok (.bl false) M'):aK c f g env M=g env M':=by rw[aK,h]
variable{f:E3}
theorem dF(h:f env M= .ok d M'):aR f env M= .rt d M':=by rw[aR,h]
theorem Zo(h:f env M= .ok d M')(he:env.set i (Ya d)=env':=by first|(dsimp only[n8,n_]<;>exact rfl)|exact rfl):aA i f env M= .nx env' M':=by rw[aA,h];simp only[he]
theorem fC{c:E3}{f:S3}(h:c env M= .ok (.bl false) M'):aK c f aZ env M= .nx env M':=by rw[aK,h];rfl
theorem zp(h:f env M= .ok d M'):bj f env M= .nx env M':=by rw[bj,h]
theorem wW{i:I3}{g:G3}{u:S3}{it:fW}(h:i env M= .ok it M'):qM i g u env M=dg it g u it.items env M':=by rw[qM,h]
theorem Zra{i:I3}{own:Nat}{g:G3}{ts:List E3}{it:fW}(h:i env M= .ok it M'):jo i own g ts f env M=iV it g ts f M'.length it.items (env++Ym own Yk) (M'++[.lst []]):=by rw[jo,h];rfl
variable{ds:List D}{body:S3}
theorem kY{ps:Nat}(h:body env M= .rt d M')(hl:ds.length=ps:=by rfl)(he:ds.map Ya++Ym (n-ps) Yk=env:=by rfl):bF ps n body ds M=dh M d M':=by rw[bF,if_pos hl,he,h]
theorem Hs{ps:Nat}(h:body env M= .nx env' M')(hl:ds.length=ps:=by rfl)(he:ds.map Ya++Ym (n-ps) Yk=env:=by rfl):bF ps n body ds M=dh M .non M':=by rw[bF,if_pos hl,he,h]
theorem ZrU{G:Store}(h:below M.length d=true):dh M d (M++G)= .ok d M:=by simp[dh,h]
theorem Zkt(h:below M.length d=true):dh M d M= .ok d M:=by simp[dh,h]
variable{α:Type}
theorem bY(M:List α)(x:α)(xs:List α):(M++x::xs)[M.length]?=Ya x:=by simp
theorem u0(M xs:List α)(k:Nat):(M++xs)[M.length+k]?=xs[k]?:=by rw[yC (lQ _ _)];congr 1;exact Y6 (by omega) (by omega)
theorem Ht(M xs:List α)(k:Nat)(o:α):(M++xs).set (M.length+k) o=M++xs.set k o:=by rw[List.set_append_right _ _ (lQ _ _)];congr 2;exact Y6 (by omega) (by omega)
theorem dR{M:List α}{o:α}(h:M[n]?=Ya o)(xs:List α):(M++xs)[n]?=Ya o:=by rw[Yx (Yd.mp h).1,h]
theorem gU(xs:List α)(k:Nat):gw xs (k:Int)=xs[k]?:=by
 unfold gw kJ;rw[if_pos (Ku k)];by_cases h:k<xs.length
 .rw[if_pos (Rr.2 h)];simp
 .rw[if_neg (by exactλz=>by omega)];simp at h ⊢;exact h
@[simp] theorem Zxe(xs:List α)(k:Nat):gw xs (k:Int)=xs[k]?:=gU xs k
@[simp] theorem Zyg(xs:List α)(n:Nat):gw xs (no_index (Gu n:Int))=xs[(Gu n:Nat)]?:=gU xs n
@[simp] theorem ZkE(xs:List α):gw xs (-1)=xs.getLast?:=by
 unfold gw kJ;rw[if_neg (by decide),List.getLast?_eq_getElem?];by_cases h:0<xs.length
 .rw[if_pos (by omega)];simp only[Xu];congr 1;exact Y6 (by omega) (by omega)
 .have:xs=[]:=by simpa using h
  subst this;rfl
theorem Zoa(n k:Nat):kJ n (k:Int)=if k<n then Ya k else Yk:=by
 unfold kJ;rw[if_pos (Ku k)];by_cases h:k<n
 .rw[if_pos (Rr.2 h),if_pos h];simp
 .rw[if_neg (by exactλz=>by omega),if_neg h]
@[simp] theorem ZxF(n k:Nat):kJ n (k:Int)=if k<n then Ya k else Yk:=Zoa n k
@[simp] theorem Zy8(m n:Nat):kJ m (no_index (Gu n:Int))=if(Gu n:Nat)<m then Ya (Gu n:Nat)else Yk:=Zoa m n
theorem getD_last(xs:List α)(x:α):gw (xs++[x]) (-1)=Ya x:=by
 unfold gw kJ;rw[if_neg (by decide),if_pos (by simp;omega)];have:(-1+((xs++[x]).length:Int)).toNat=xs.length:=by simp;exact Y6 (by omega) (by omega)
 simp only[Xu,this];simp
theorem Zuf(xs:List α)(k:Nat)(h:xs.length<=k):cutD xs Yk (Ya (k:Int))=xs:=by unfold cutD aG;simp only[Rf];rw[if_neg (by exactλz=>by omega),uF (by simp;omega)]
inductive Row where
 |put (a:Nat) (n:Int)|add (a b c:Nat)|sub (a b c:Nat)|more (a b c:Nat)|get (a b:Nat)|set (a b:Nat)|jump (k:Nat)|when (a k:Nat)|tell (a:Nat)|halt
 deriving Inhabited
noncomputable def Row.ok(many:Nat):Row->Prop
 | .put a _=>a<8|.add a b c=>a<8/\b<8/\c<8|.sub a b c=>a<8/\b<8/\c<8|.more a b c=>a<8/\b<8/\c<8
 | .get a b=>a<8/\b<8|.set a b=>a<8/\b<8|.jump k=>k<many|.when a k=>a<8/\k<many
 | .tell a=>a<8|.halt=>True
noncomputable def Row.tells(bs:List Int):Row->Option Int
 | .tell a=>bs[a]?|_=>Yk
noncomputable def Row.rP:Row->Bool
 | .halt=>true|_=>false
variable{a:Nat}
@[simp] theorem Zxk{n:Int}{bs:List Int}:(Row.put a n).tells bs=Yk:=rfl
@[simp] theorem Zw2{n:Int}:(Row.put a n).rP=false:=rfl
variable{c:Nat}
@[simp] theorem Zxg{b:Nat}{bs:List Int}:(Row.add a b c).tells bs=Yk:=rfl
@[simp] theorem ZwJ{b:Nat}:(Row.add a b c).rP=false:=rfl
@[simp] theorem Zxn{b:Nat}{bs:List Int}:(Row.sub a b c).tells bs=Yk:=rfl
@[simp] theorem ZwV{b:Nat}:(Row.sub a b c).rP=false:=rfl
@[simp] theorem Zu2{b:Nat}{bs:List Int}:(Row.more a b c).tells bs=Yk:=rfl
@[simp] theorem Zux{b:Nat}:(Row.more a b c).rP=false:=rfl
@[simp] theorem Zxm{b:Nat}{bs:List Int}:(Row.get a b).tells bs=Yk:=rfl
@[simp] theorem Zvf{b:Nat}:(Row.get a b).rP=false:=rfl
@[simp] theorem Zxf{b:Nat}{bs:List Int}:(Row.set a b).tells bs=Yk:=rfl
@[simp] theorem Zwt{b:Nat}:(Row.set a b).rP=false:=rfl
@[simp] theorem Zwp{k:Nat}{bs:List Int}:(Row.jump k).tells bs=Yk:=rfl
@[simp] theorem ZuO{k:Nat}:(Row.jump k).rP=false:=rfl
@[simp] theorem Zwi{k:Nat}{bs:List Int}:(Row.when a k).tells bs=Yk:=rfl
@[simp] theorem ZuC{k:Nat}:(Row.when a k).rP=false:=rfl
@[simp] theorem ZwT{bs:List Int}:(Row.tell a).tells bs=bs[a]?:=rfl
@[simp] theorem ZuQ:(Row.tell a).rP=false:=rfl
@[simp] theorem Zvi{bs:List Int}:(Row.halt).tells bs=Yk:=rfl
@[simp] theorem ZuD :(Row.halt).rP=true:=rfl
mutual
theorem Zp3:∀(n:Nat) (d:D),dO n d=true->dH d d=true
 |_,.non,_=>rfl|_,.bl b,_=>beq_self_eq_true b|_,.int b,_=>beq_self_eq_true b|_,.str b,_=>beq_self_eq_true b
 |0,.tup _,h=>ft h|n+1,.tup ds,h=>Zjo n ds (ig.mp h)|n,.bM _,h=>by cases n<;>exact ft h|n,.ref _,h=>by cases n<;>exact ft h
theorem Zjo:∀(n:Nat) (ds:List D),(∀d∈ds,dO n d=true)->iH ds ds=true
 |_,[],_=>rfl|n,d::ds,h=>by simp only[Zvl,Tz,Y3];exact⟨Zp3 n d (h d Yl),Zjo n ds λx hx=>h x (Yg _ hx)⟩
end
def Rt(o:O3)(d:D):Prop:=∃M',o= .rt d M'
theorem Rt.set{g:S3}{r:D}(h:f env M= .ok d M')(k:Rt (g env' M') r)(he:env.set i (Ya d)=env':=by first|(dsimp only[n8,n_]<;>exact rfl)|exact rfl):Rt (Zq (aA i f) g env M) r:=by rw[Rt,Zi (Zo h he)];exact k
theorem Rt.expr{g:S3}{r:D}(h:f env M= .ok d M')(k:Rt (g env M') r):Rt (Zq (bj f) g env M) r:=by rw[Rt,Zi (zp h)];exact k
theorem Rt.loop{i:I3}{t:G3}{u g:S3}{M M' M1:Store}{it:fW}{r:D}(h:i env M= .ok it M1)(hl:dg it t u it.items env M1= .nx env' M')(k:Rt (g env' M') r):Rt (Zq (qM i t u) g env M) r:=by rw[Rt,Zi ((wW h).trans hl)];exact k
theorem Rt.step{f g:S3}{r:D}(h:f env M= .nx env' M')(k:Rt (g env' M') r):Rt (Zq f g env M) r:=by rw[Rt,Zi h];exact k
theorem Rt.ret(h:f env M= .ok d M'):Rt (aR f env M) d:=⟨M',dF h⟩
theorem Rt.law{ps:Nat}{b:Bool}(h:Rt (body env []) (.bl b))(hl:ds.length=ps:=by rfl)(he:ds.map Ya++Ym (n-ps) Yk=env:=by rfl):∃M',bF ps n body ds []= .ok (.bl b) M':=by obtain⟨M',h⟩:=h;exact⟨_,(kY h hl he).trans (by rw[dh,if_pos (by simp[below])])⟩
theorem Rt.pure{ps:Nat}{G:Store}(h:body env M= .rt d (M++G))(hd:below M.length d=true)(hl:ds.length=ps:=by rfl)(he:ds.map Ya++Ym (n-ps) Yk=env:=by rfl):bF ps n body ds M= .ok d M:=(kY h hl he).trans (ZrU hd)
variable{g:E3}
theorem Zh{op:D->D->Store->R3 D}{M M1 M2 M3:Store}{a b d:D}(h1:f env M= .ok a M1)(h2:g env M1= .ok b M2)(h3:op a b M2= .ok d M3):e2 op f g env M= .ok d M3:=by simp only[e2,h1,h2,h3,R3.bind]
theorem di{F:F3}{M M1 M2:Store}{a:D}(h1:f env M= .ok a M1)(h2:F [a] M1= .ok d M2):Zx F (Za f Ze) env M= .ok d M2:=by simp only[Zx,Za,Ze,h1,h2,R3.bind]
theorem zq{F:F3}{M M1 M2 M3:Store}{a b d:D}(h1:f env M= .ok a M1)(h2:g env M1= .ok b M2)(h3:F [a,b] M2= .ok d M3):Zx F (Za f (Za g Ze)) env M= .ok d M3:=by simp only[Zx,Za,Ze,h1,h2,h3,R3.bind]
@[simp] theorem Zzo(a b:oN):(a==b)=decide (a=b):=by cases a<;>cases b<;>rfl
theorem dm{b:List D->Store->R3 D}{M M1 M2:Store}{a:D}(h1:f env M= .ok a M1)(h2:b [a] M1= .ok d M2):aJ b (Za f Ze) env M= .ok d M2:=by simp only[aJ,Za,Ze,h1,h2,R3.bind]
theorem dU{op:D->Store->R3 D}{M M1 M2:Store}{a:D}(h1:f env M= .ok a M1)(h2:op a M1= .ok d M2):e1 op f env M= .ok d M2:=by simp only[e1,h1,h2,R3.bind]
theorem Zr{g:cY}{M M1 M2:Store}(h1:f env M= .ok d M1)(h2:g env M1= .ok ds M2):Za f g env M= .ok (d::ds) M2:=by simp only[Za,h1,h2,R3.bind]
theorem iI{g:cY}(h:g env M= .ok ds M')(hl:decide (ds.length<=100)=true):bD g env M= .ok (.tup ds) M':=by have:=of_decide_eq_true hl;simp only[bD,h,R3.bind];rw[if_pos (Yi this (by decide))]
variable{xs:List D}
theorem oO(h:M[n]?=Ya (.lst xs)):bG [.ref n] M= .ok (.int (xs.length:Int)) M:=by simp only[G_,Hf,Hg,uW,h]
theorem Hu(h:M[n]?=Ya (.lst xs)):kO [.ref n] M= .ok (.tup xs) M:=by simp only[Zkm,Zki,Cp,h]
theorem jr{i:Int}(h:M[n]?=Ya (.lst xs))(hd:gw xs i=Ya d):Zm (.ref n) (.int i) M= .ok d M:=by simp only[TY,T3,G7,T4,h,hd]
theorem Hv{i:Int}(hd:gw xs i=Ya d):Zm (.tup xs) (.int i) M= .ok d M:=by simp only[TY,T3,G7,T4,hd]
theorem Zzq{a b:Int}(h:a<=b):Cj (.int a) (.int b) M= .ok (.bl true) M:=by simp only[TQ,decide_eq_true h]
theorem LR{a b:Int}(h:a=b):aY (.int a) (.int b) M= .ok (.bl true) M:=by simp only[aY,G5,sV,wQ,Lz,LC,decide_eq_true h]
theorem T8{a b:Int}(h:¬a=b):aY (.int a) (.int b) M= .ok (.bl false) M:=by simp only[aY,G5,sV,wQ,Lz,LC,decide_eq_false h]
theorem ZzG{a b:List Nat}(h:¬a=b):fj (.str a) (.str b) M= .ok (.bl true) M:=by simp only[fj,G5,sV,wQ,Lz,LC,decide_eq_false h];rfl
theorem ZyR{a b:List Nat}(h:a=b):fj (.str a) (.str b) M= .ok (.bl false) M:=by simp only[fj,G5,sV,wQ,Lz,LC,decide_eq_true h];rfl
theorem gH{i j:Int}(h:0<j):aU (.int i) (.int j) M= .ok (.int (i % j)) M:=by simp only[Zl0,if_pos h]
theorem ni{M M1:Store}(h1:f env M= .ok (.bl false) M1):cU f g env M=g env M1:=by simp only[cU,h1,R3.bind]
theorem wX{M M1:Store}(h1:f env M= .ok (.bl true) M1):cU f g env M= .ok (.bl true) M1:=by simp only[cU,h1,R3.bind]
theorem Cu{M M1:Store}(h1:f env M= .ok (.bl true) M1):gq f g env M=g env M1:=by simp only[gq,h1,R3.bind]
theorem L_{M M1:Store}(h1:f env M= .ok (.bl false) M1):gq f g env M= .ok (.bl false) M1:=by simp only[gq,h1,R3.bind]
theorem Hw{c:E3}{M M1:Store}(h1:c env M= .ok (.bl true) M1):jm c f g env M=f env M1:=by simp only[jm,h1,R3.bind]
theorem zr{c:E3}{M M1:Store}(h1:c env M= .ok (.bl false) M1):jm c f g env M=g env M1:=by simp only[jm,h1,R3.bind]
theorem wY{enc:α->D}{h:α->D}{own:Nat}{it:I3}{elt:E3}{M M1:Store}{lock:Option Nat}{as:List α}(hi:it env M= .ok ⟨as.map enc,lock⟩ M1)(PL:∀n,lock=Ya n->M1[n]?=Ya (.lst (as.map enc)))(he:∀a∈as,∀M,elt ((env++Ym own Yk).set i (Ya (enc a))) M= .ok (h a) M)(hz:as.length<=100000):jo it own (b_ i) [] elt env M= .ok (.ref M1.length) (M1++[.lst (as.map h)]):=by
 rw [Zra hi];obtain⟨es,le,re,hh⟩:=ZqC (it:=⟨as.map enc,lock⟩) (i:=i) (n:=M1.length) (elt:=elt) (R:=λd e=>∀a∈as,d=enc a->e=h a) (env0:=env++Ym own Yk) (as.map enc) [] (env++Ym own Yk) (M1++[.lst []]) (λ_=>rfl)
  (λd hd x=>by obtain⟨a,ha,rfl⟩:=ji.mp hd;refine⟨h a,he a ha _,λb hb e=>?_⟩;have h1:=he a ha [];have h2:=he b hb [];rw[e,h2]at h1;injection h1 with h1 _;exact h1.symm)
  (λx=>by
   cases lock with
   |none=>rfl|some n=>have hn:=PL n rfl;have hlt:=(Yd.mp hn).1;simp only[locked,decide_eq_true_eq];rw[Yu (by exactλz=>by omega),Yx hlt,hn]) (by simp) (by simp;omega)
 rw [show(⟨as.map enc,lock⟩:fW).items=as.map enc from rfl,hh];have:es=as.map h:=by
  apply yF;intro j;rw[lM];cases ha:as[j]? with
  |none=>
   have:as.length<=j:=by simpa using ha
   simp[le];exact this
  | some a=>
   have hj:j<es.length:=by have:=(Yd.mp ha).1;simpa[le]using this
   have h2:=re j (enc a) es[j] (by simp[ha]) (by simp[hj]) a (Br ha) rfl;rw[j7 hj,h2];rfl
 rw[this];simp
noncomputable def Zs0(cs:List (Int×Int))(n v:Int):List (Int×Int):=cs.filter (λc=>decide (c.1<n))++(if v≠0 then[(n,v)]else[])++cs.filter (λc=>decide (n<c.1))
noncomputable def Row.cells(bs:List Int)(cs:List (Int×Int)):Row->List (Int×Int)
 | .set a b=>Zs0 cs (bs.getD a 0) (bs.getD b 0)|_=>cs
noncomputable def fO(i:Int):List Nat:=(PySem.Str.ofString (wH i)).cps.toList
noncomputable section
local instance (priority:=100000) Ads (p:Prop):Decidable p:=Yy p
noncomputable def oR(ds:List D)(M:Store):R3 D:=match ds with
 |[.int i]=>if i.natAbs.log2<1920 then .ok (.str (fO i)) M else .bad|[.str x]=>.ok (.str x) M|_=>.bad
@[simp] theorem Zov:∀i,oR ([.int i]) M=(if i.natAbs.log2<1920 then .ok (.str (fO i)) M else .bad):=λ_=>rfl
@[simp] theorem Zum:∀x,oR ([.str x]) M= .ok (.str x) M:=λ_=>rfl
noncomputable def jt:List D->Option (List (List Nat))
 |[]=>Ya []|.str x::ds=>(jt ds).map (x:: ·)|_=>Yk
noncomputable def glue(sep:List Nat):List (List Nat)->List Nat
 |[]=>[]|[x]=>x|x::y::xs=>x++sep++glue sep (y::xs)
noncomputable def oU(sep:List Nat)(ts:List (List Nat)):Nat:=(ts.map λt=>t.length+sep.length).sum
noncomputable def u5(o:D)(ds:List D)(M:Store):R3 D:=match o,ds with
 | .str sep,[.ref n]=>match M[n]? with
  |some (.lst x)=>match jt x with
   |some ts=>if oU sep ts<=SZ then .ok (.str (glue sep ts)) M else .bad|none=>.bad
  |_=>.bad
 |_,_=>.bad
@[simp] theorem Zl9:∀sep n,u5 (.str sep) ([.ref n]) M=(match M[n]? with
  |some (.lst x)=>match jt x with
   |some ts=>if oU sep ts<=SZ then .ok (.str (glue sep ts)) M else .bad|none=>.bad
  |_=>.bad):=λ_ _=>rfl
noncomputable def oV(x y:List Nat):List (List Nat):=(Ymh ⟨x.toArray⟩ ⟨y.toArray⟩).map λt=>t.cps.toList
noncomputable def wZ(o:D)(ds:List D)(M:Store):R3 D:=match o,ds with
 | .str x,[.str y]=>if 0<y.length/\x.length+2<=SZ then alloc (.lst ((oV x y).map D.str)) M else .bad|_,_=>.bad
@[simp] theorem Zkq:∀x y,wZ (.str x) ([.str y]) M=(if 0<y.length/\x.length+2<=SZ then alloc (.lst ((oV x y).map D.str)) M else .bad):=λ_ _=>rfl
noncomputable def nj(ds:List D)(M:Store):R3 D:=match ds with
 |[.str x]=>match JV ⟨x.toArray⟩with
  |some n=>if x.length<=640 then .ok (.int n) M else .bad|none=>.bad
 |ds=>Hi ds M
@[simp] theorem Zru:∀x,nj ([.str x]) M=(match JV ⟨x.toArray⟩with
  |some n=>if x.length<=640 then .ok (.int n) M else .bad|none=>.bad):=λ_=>rfl
@[simp] theorem Zqz:∀i,nj [.int i] M= .ok (.int i) M:=λ_=>rfl
@[simp] theorem Zyi:∀b,nj [.bl b] M=Hi [.bl b] M:=λ_=>rfl
@[simp] noncomputable def Hx(T1 T2:oN)(d:D)(M:Store):R3 D:=match jT T1 d M,jT T2 d M with
 |some a,Ya b=>.ok (.bl (a|| b)) M|_,_=>.bad
end
noncomputable section
structure Hy where
 items:List D
 lk:List (Nat×List D)
noncomputable def d_(lk:List (Nat×List D))(M:Store):Bool:=lk.all λq=>decide (M[q.1]?=Ya (.lst q.2))
noncomputable def oW(lk:List (Nat×List D))(g:G3)(body:S3):List D->Zz->Store->O3
 |[],env,M=>if d_ lk M then .nx env M else .bad|d::ds,env,M=>if d_ lk M then match g d env with
  |none=>.bad|some dD=>match body dD M with
   | .nx e M'=>oW lk g body ds e M'|.ct e M'=>oW lk g body ds e M'|.bk e M'=>.nx e M'|o=>o
  else .bad
theorem T9{lk:List (Nat×List D)}{g:G3}:oW lk g body [] env M=if d_ lk M then .nx env M else .bad:=rfl
theorem T_{lk:List (Nat×List D)}{g:G3}:oW lk g body (d::ds) env M=if d_ lk M then match g d env with
  |none=>.bad|some dD=>match body dD M with
   | .nx e M'=>oW lk g body ds e M'|.ct e M'=>oW lk g body ds e M'|.bk e M'=>.nx e M'|o=>o
  else .bad:=rfl
noncomputable abbrev sZ:=Zz->Store->R3 Hy
noncomputable def Hz(i:sZ)(g:G3)(body:S3):S3:=λenv M=>match i env M with
 | .ok it M1=>oW it.lk g body it.items env M1|.exc x M1=>.exc x M1|.bad=>.bad
noncomputable def mq:Nat->List D->List D
 |_,[]=>[]|k,d::ds=>.tup [.int k,d]::mq (k+1) ds
@[simp] noncomputable def Ua(f:E3):sZ:=λenv M=>(f env M).bind λa M1=>match a with
 | .tup ds=>.ok ⟨mq 0 ds,[]⟩ M1|.ref n=>match M1[n]? with
  |some (.lst ds)=>.ok ⟨mq 0 ds,[(n,ds)]⟩ M1|_=>.bad
 |_=>.bad
noncomputable def ZxE(a b:D)(M:Store):R3 D:=match a,b with
 | .tup [.int i,.int j],.tup [.int k,.int l]=>.ok (.bl (decide (i<k)|| (decide (i=k)&&decide (j<=l)))) M|_,_=>.bad
@[simp] theorem Zxt:∀i j k l,ZxE (.tup [.int i,.int j]) (.tup [.int k,.int l]) M= .ok (.bl (decide (i<k)|| (decide (i=k)&&decide (j<=l)))) M:=λ_ _ _ _=>rfl
noncomputable def Zz7(f:E3)(is:List Nat):S3:=λenv M=>match f env M with
 | .ok (.ref n) M1=>(match M1[n]? with
  |some (.lst ds)=>(match bindAll is ds env with
   |some dD=>.nx dD M1|none=>.bad)
  |_=>.bad)
 |_=>.bad
noncomputable def Cv(ds:List D)(M:Store):R3 D:=match ds with
 |[.int i,.int j]=>.ok (.int (if j>i then j else i)) M|_=>.bad
@[simp] theorem Zrt:∀i j,Cv ([.int i,.int j]) M= .ok (.int (if j>i then j else i)) M:=λ_ _=>rfl
noncomputable def qN(a b:D)(M:Store):R3 D:=match b with
 | .ref n=>match M[n]? with
  |some (.lst ys)=>if cV a&&ys.all cV then .ok (.bl (ys.any λy=>dH y a)) M else .bad|_=>.bad
 |_=>.bad
@[simp] theorem Zmw{a:D}:∀n,qN a (.ref n) M=(match M[n]? with
  |some (.lst ys)=>if cV a&&ys.all cV then .ok (.bl (ys.any λy=>dH y a)) M else .bad|_=>.bad):=λ_=>rfl
theorem Ma:∀(k:Nat) (ds:List D) (i:Nat),(mq k ds)[i]?=(ds[i]?).map λd=>.tup [.int ((k+i:Nat):Int),d]
 |_,[],_=>by simp[mq]|k,d::ds,0=>by simp[mq]|k,d::ds,i+1=>by simp only[mq,J_,Ma (k+1) ds i];rw[show k+1+i=k+(i+1)by exact Y6 (by omega) (by omega)]
theorem Mf:∀(k:Nat) (ds:List D),(mq k ds).length=ds.length
 |_,[]=>rfl|k,d::ds=>by simp[mq,Mf (k+1) ds]
end
noncomputable section
noncomputable def Zx8:List D->List D->List D
 |a::x,b::y=>.tup [a,b]::Zx8 x y|_,_=>[]
@[simp] noncomputable def Adt(f g:E3):sZ:=λenv M=>(f env M).bind λa M1=>(g env M1).bind λb M2=>match a,b with
 | .ref n,.ref m=>match M2[n]?,M2[m]? with
  |some (.lst x),Ya (.lst y)=>.ok ⟨Zx8 x y,[(n,x),(m,y)]⟩ M2|_,_=>.bad
 |_,_=>.bad
section
local instance (priority:=100000) Adu (p:Prop):Decidable p:=Yy p
noncomputable def ju(lk:List (Nat×List D))(g:G3)(ifs:List E3)(elt:E3)(n:Nat):List D->Zz->Store->R3 D
 |[],_,M=>if d_ lk M then .ok (.ref n) M else .bad|d::ds,env,M=>if d_ lk M then match g d env with
  |none=>.bad|some dD=>(uY ifs dD M).bind λb M1=>if b then(elt dD M1).bind λv M2=>match M2[n]? with
    |some (.lst xs)=>if xs.length<SZ then ju lk g ifs elt n ds dD (M2.set n (.lst (xs++[v])))else .bad|_=>.bad
   else ju lk g ifs elt n ds dD M1
  else .bad
end
noncomputable def w5(i:sZ)(own:Nat)(g:G3)(ifs:List E3)(elt:E3):E3:=λenv M=>(i env M).bind λit M1=>ju it.lk g ifs elt M1.length it.items (env++Ym own Yk) (M1++[.lst []])
section
local instance (priority:=100000) Adv (p:Prop):Decidable p:=Yy p
noncomputable def pW(o:D)(ds:List D)(M:Store):R3 D:=match o,ds with
 | .ref n,[.ref m]=>match M[n]?,M[m]? with
  |some (.lst x),Ya (.lst y)=>if n≠m/\x.length+y.length<=SZ then .ok .non (M.set n (.lst (x++y)))else .bad|_,_=>.bad
 | .ref n,[.tup y]=>match M[n]? with
  |some (.lst x)=>if x.length+y.length<=SZ then .ok .non (M.set n (.lst (x++y)))else .bad|_=>.bad
 |_,_=>.bad
@[simp] theorem zu:∀n m,pW (.ref n) ([.ref m]) M=(match M[n]?,M[m]? with
  |some (.lst x),Ya (.lst y)=>if n≠m/\x.length+y.length<=SZ then .ok .non (M.set n (.lst (x++y)))else .bad|_,_=>.bad):=λ_ _=>rfl
@[simp] theorem Cw:∀n y,pW (.ref n) ([.tup y]) M=(match M[n]? with
  |some (.lst x)=>if x.length+y.length<=SZ then .ok .non (M.set n (.lst (x++y)))else .bad|_=>.bad):=λ_ _=>rfl
end
end
noncomputable section
end
noncomputable def w6(f:List Nat)(d:D):List (List Nat×D)->List (List Nat×D)
 |[]=>[(f,d)]|(g,x)::r=>if g=f then(g,d)::r else(g,x)::w6 f d r
noncomputable def jw(c f:List Nat)(a:D)(M:Store):R3 D:=match a with
 | .ref n=>match M[n]? with
  |some (.ins c' fs)=>if c'=c then(match fs.lookup f with
   |some d=>.ok d M|none=>.bad)else .bad
  |_=>.bad
 |_=>.bad
@[simp] theorem ZmP{c:List Nat}{f:List Nat}:∀n,jw c f (.ref n) M=(match M[n]? with
  |some (.ins c' fs)=>if c'=c then(match fs.lookup f with
   |some d=>.ok d M|none=>.bad)else .bad
  |_=>.bad):=λ_=>rfl
noncomputable def ZrR(c f:List Nat)(v a:D)(M:Store):R3 D:=match a with
 | .ref n=>match M[n]? with
  |some (.ins c' fs)=>if c'=c/\fs.length<1000 then .ok .non (M.set n (.ins c (w6 f v fs)))else .bad|_=>.bad
 |_=>.bad
@[simp] theorem Ub{c:List Nat}{f:List Nat}{v:D}:∀n,ZrR c f v (.ref n) M=(match M[n]? with
  |some (.ins c' fs)=>if c'=c/\fs.length<1000 then .ok .non (M.set n (.ins c (w6 f v fs)))else .bad|_=>.bad):=λ_=>rfl
noncomputable def HB(c f:List Nat)(o v:E3):S3:=bj (e2 (ZrR c f) v o)
@[simp] noncomputable def xg(c:List Nat)(F:F3)(g:cY):E3:=λenv M=>(g env M).bind λds M1=>match F (.ref M1.length::ds) (M1++[.ins c []])with
 | .ok .non M2=>.ok (.ref M1.length) M2|_=>.bad
noncomputable section
@[simp] noncomputable def pY(f:E3):E3:=λenv M=>match f env M with
 | .exc _ _=>.bad|r=>r
@[simp] noncomputable def oX(f:cY):cY:=λenv M=>match f env M with
 | .exc _ _=>.bad|r=>r
noncomputable def fD(f:S3):S3:=λenv M=>match f env M with
 | .exc _ _=>.bad|o=>o
noncomputable def HD(cs:List (List Nat))(j:Nat)(b h:S3):S3:=λenv M=>match b env M with
 | .exc x M'=>if cs.contains x.cls then(match h (env.set j (Ya x.arg)) M' with
  | .nx e' M2=>.nx (e'.set j Yk) M2|_=>.bad)else .bad
 |o=>o
end
noncomputable section
noncomputable def HF(i:I3)(g:G3)(body:S3):S3:=λenv M=>match i env M with
 | .ok it M1=>dg it g body it.items env M1|_=>.bad
end
noncomputable section
noncomputable abbrev Mg:=List (List Nat×List (List Nat))
noncomputable def Uc(f:E3):sZ:=λenv M=>(f env M).bind λa M1=>match a with
 | .ref n=>match M1[n]? with
  |some (.lst ds)=>.ok ⟨mq 1 ds,[(n,ds)]⟩ M1|_=>.bad
 |_=>.bad
end
noncomputable section
noncomputable abbrev kZ:=List (List Nat×Int)
noncomputable def cN(x:List Nat):kZ->Option Int
 |[]=>Yk|(k,v)::r=>if x=k then Ya v else cN x r
noncomputable def u6(t:kZ)(d e:D)(M:Store):R3 D:=match d with
 | .str x=>match cN x t with
  |some i=>.ok (.int i) M|none=>.ok e M
 | .int _=>.ok e M|_=>.bad
end
noncomputable section
end
noncomputable section
local instance (priority:=100000) Adw (p:Prop):Decidable p:=Yy p
end
open PySem PySem.Spec PyProof.Rows L2
noncomputable abbrev St:=L2.St
theorem jK:SZ<=bB:=by rw[rT];decide
def pZ(K:Yb)(H:Hp)(a:Yt)(xs:List V):Prop:=
 (∃o,H a=Ya (.cD o (.lst xs)))\/
  ∃(o:aD) (its:Array Ye) (n:Nat),K.lookup a=Ya o/\o.cls= .type "list" /\o.dict=Yk/\o.data= .seq its n/\its.size<=bB/\Vals xs its.toList
variable{K:Yb}{H:Hp}
theorem pZ.sq{a:Yt}{xs:List V}(h:pZ K H a xs):bK K H a xs:=by
 rcases h with⟨o,h⟩|h
 .exact .inl (.inr ⟨o,h⟩)
 .exact .inr h
mutual
noncomputable def Rep(K:Yb)(H:Hp)(ι:List Yt):D->V->Prop
 | .non,v=>v= .non|.bl b,v=>v= .bl b|.int i,v=>v= .int i|.str x,v=>v= .str ⟨x.toArray⟩
 | .tup ds,v=>∃a vs,v= .ref a/\cM K H a vs/\Zw K H ι ds vs|.bM ds,v=>∃a vs,v= .ref a/\pZ K H a vs/\Zw K H ι ds vs|.ref n,v=>∃a,ι[n]?=Ya a/\v= .ref a
noncomputable def Zw(K:Yb)(H:Hp)(ι:List Yt):List D->List V->Prop
 |[],vs=>vs=[]|d::ds,vs=>∃v ws,vs=v::ws/\Rep K H ι d v/\Zw K H ι ds ws
end
structure Ext(K:Yb)(H:Hp)(ι:List Yt)(H':Hp)(ι':List Yt):Prop where
 tup:∀a xs,cM K H a xs->cM K H' a xs
 bM:∀a xs,pZ K H a xs->pZ K H' a xs
 pre:∀(n:Nat) (a:Yt),ι[n]?=Ya a->ι'[n]?=Ya a
 cD:∀a o u,H a=Ya (.cD o u)->H' a=Ya (.cD o u)
variable{vs:List V}{v:V}
section
variable {K:Yb} {H H' H1 H2:Hp} {ι ι' ι1 ι2:List Yt}
theorem Ext.refl:Ext K H ι H ι:=⟨λ_ _ h=>h,λ_ _ h=>h,λ_ _ h=>h,λ_ _ _ h=>h⟩
theorem Ext.trans(a:Ext K H ι H1 ι1)(b:Ext K H1 ι1 H2 ι2):Ext K H ι H2 ι2:=⟨λx xs h=>b.tup x xs (a.tup x xs h),λx xs h=>b.bM x xs (a.bM x xs h),λn x h=>b.pre n x (a.pre n x h),λx o u h=>b.cD x o u (a.cD x o u h)⟩
mutual
theorem Rep.mono(e:Ext K H ι H' ι'):∀{d:D} {v:V},Rep K H ι d v->Rep K H' ι' d v
 | .non,_,h=>h|.bl _,_,h=>h|.int _,_,h=>h|.str _,_,h=>h
 | .tup ds,_,h=>by obtain⟨a,vs,rfl,s,r⟩:=h;exact⟨a,vs,rfl,e.tup _ _ s,Zw.mono e (ds:=ds) r⟩|.bM ds,_,h=>by obtain⟨a,vs,rfl,s,r⟩:=h;exact⟨a,vs,rfl,e.bM _ _ s,Zw.mono e (ds:=ds) r⟩|.ref n,_,h=>by obtain⟨a,s,rfl⟩:=h;exact⟨a,e.pre _ _ s,rfl⟩
theorem Zw.mono(e:Ext K H ι H' ι'):∀{ds:List D} {vs:List V},Zw K H ι ds vs->Zw K H' ι' ds vs
 |[],_,h=>h|d::ds,_,h=>by obtain⟨v,ws,rfl,r,q⟩:=h;exact⟨v,ws,rfl,Rep.mono e (d:=d) r,Zw.mono e (ds:=ds) q⟩
end
mutual
theorem Rep.keep(ht:∀a xs,cM K H a xs->cM K H' a xs)(hs:∀a xs,pZ K H a xs->pZ K H' a xs):∀{d:D} {v:V},Rep K H ι d v->Rep K H' ι d v
 | .non,_,h=>h|.bl _,_,h=>h|.int _,_,h=>h|.str _,_,h=>h
 | .tup ds,_,h=>by obtain⟨a,vs,rfl,s,r⟩:=h;exact⟨a,vs,rfl,ht _ _ s,Zw.keep ht hs (ds:=ds) r⟩|.bM ds,_,h=>by obtain⟨a,vs,rfl,s,r⟩:=h;exact⟨a,vs,rfl,hs _ _ s,Zw.keep ht hs (ds:=ds) r⟩|.ref n,_,h=>h
theorem Zw.keep(ht:∀a xs,cM K H a xs->cM K H' a xs)(hs:∀a xs,pZ K H a xs->pZ K H' a xs):∀{ds:List D} {vs:List V},Zw K H ι ds vs->Zw K H' ι ds vs
 |[],_,h=>h|d::ds,_,h=>by obtain⟨v,ws,rfl,r,q⟩:=h;exact⟨v,ws,rfl,Rep.keep ht hs (d:=d) r,Zw.keep ht hs (ds:=ds) q⟩
end
theorem Zw.nil:Zw K H ι [] []:=rfl
theorem Zw.cons{d:D}{ds:List D}{v:V}{vs:List V}(h:Rep K H ι d v)(t:Zw K H ι ds vs):Zw K H ι (d::ds) (v::vs):=⟨v,vs,rfl,h,t⟩
theorem Zw.nil_inv(h:Zw K H ι [] vs):vs=[]:=h
theorem Zw.cons_inv(h:Zw K H ι (d::ds) vs):∃v ws,vs=v::ws/\Rep K H ι d v/\Zw K H ι ds ws:=h
theorem Zw.length:∀{ds:List D} {vs:List V},Zw K H ι ds vs->vs.length=ds.length
 |[],_,h=>by rw[h.nil_inv];rfl|d::ds,_,h=>by obtain⟨v,ws,rfl,_,q⟩:=h.cons_inv;exact congrArg Nat.succ q.length
theorem Zw.append:∀{ds es:List D} {vs ws:List V},Zw K H ι ds vs->Zw K H ι es ws->Zw K H ι (ds++es) (vs++ws)
 |[],_,_,_,h,q=>by rw[h.nil_inv];exact q|d::ds,_,_,_,h,q=>by obtain⟨v,us,rfl,r,t⟩:=h.cons_inv;exact Zw.cons r (t.append q)
theorem Zw.drop:∀{ds:List D} {vs:List V} (n:Nat),Zw K H ι ds vs->Zw K H ι (ds.drop n) (vs.drop n)
 |_,_,0,h=>h|[],_,n+1,h=>by rw[h.nil_inv];exact Zw.nil|d::ds,_,n+1,h=>by obtain⟨v,us,rfl,r,t⟩:=h.cons_inv;exact t.drop n
theorem Zw.take:∀{ds:List D} {vs:List V} (n:Nat),Zw K H ι ds vs->Zw K H ι (ds.take n) (vs.take n)
 |_,_,0,h=>Zw.nil|[],_,n+1,h=>by rw[h.nil_inv];exact Zw.nil|d::ds,_,n+1,h=>by obtain⟨v,us,rfl,r,t⟩:=h.cons_inv;exact Zw.cons r (t.take n)
theorem Zw.get:∀{ds:List D} {vs:List V} {i:Nat} {d:D},Zw K H ι ds vs->ds[i]?=Ya d->∃v,vs[i]?=Ya v/\Rep K H ι d v
 |[],_,_,_,_,e=>by simp at e|d::ds,_,0,_,h,e=>by obtain⟨v,us,rfl,r,t⟩:=h.cons_inv;simp at e;subst e;exact⟨v,rfl,r⟩
 |d::ds,_,i+1,_,h,e=>by obtain⟨v,us,rfl,r,t⟩:=h.cons_inv;obtain⟨w,q,z⟩:=t.get (i:=i) (by simpa using e);exact⟨w,by simpa using q,z⟩
theorem Zw.set:∀{ds:List D} {vs:List V} {d:D} {v:V} (i:Nat),Zw K H ι ds vs->Rep K H ι d v->Zw K H ι (ds.set i d) (vs.set i v)
 |[],_,_,_,_,h,_=>by rw[h.nil_inv];exact Zw.nil|d::ds,_,_,_,0,h,q=>by obtain⟨v,us,rfl,r,t⟩:=h.cons_inv;exact Zw.cons q t
 |d::ds,_,_,_,i+1,h,q=>by obtain⟨v,us,rfl,r,t⟩:=h.cons_inv;exact Zw.cons r (t.set i q)
theorem Zw.ints:∀(ns:List Int),Zw K H ι (ns.map D.int) (ns.map V.int)
 |[]=>Zw.nil|n::ns=>Zw.cons rfl (Zw.ints ns)
theorem Rep.jd(h:Rep K H ι .non v):v= .non:=h
theorem Rep.gF{b:Bool}(h:Rep K H ι (.bl b) v):v= .bl b:=h
theorem Rep.int_inv{i:Int}(h:Rep K H ι (.int i) v):v= .int i:=h
theorem Rep.str_inv{x:List Nat}(h:Rep K H ι (.str x) v):v= .str ⟨x.toArray⟩:=h
theorem Rep.je(h:Rep K H ι (.tup ds) v):∃a vs,v= .ref a/\cM K H a vs/\Zw K H ι ds vs:=h
theorem Rep.vK(h:Rep K H ι (.bM ds) v):∃a vs,v= .ref a/\pZ K H a vs/\Zw K H ι ds vs:=h
theorem Rep.dN(h:Rep K H ι (.ref n) v):∃a,ι[n]?=Ya a/\v= .ref a:=h
theorem Rep.non:Rep K H ι .non .non:=rfl
theorem Rep.bl{b:Bool}:Rep K H ι (.bl b) (.bl b):=rfl
theorem Rep.int{i:Int}:Rep K H ι (.int i) (.int i):=rfl
theorem Rep.str{x:List Nat}:Rep K H ι (.str x) (.str ⟨x.toArray⟩):=rfl
theorem Rep.tup{a:Yt}{vs:List V}{ds:List D}(s:cM K H a vs)(r:Zw K H ι ds vs):Rep K H ι (.tup ds) (.ref a):=⟨a,vs,rfl,s,r⟩
theorem Rep.ref{a:Yt}(s:ι[n]?=Ya a):Rep K H ι (.ref n) (.ref a):=⟨a,s,rfl⟩
end
def zx(e C:Yt)(dd:Option Yt)(h:aC):Prop:=∃o vs,h.get? e=Ya o/\o.cls= .ref C/\o.data= .fields vs/\o.dict=dd
noncomputable abbrev u9(e C:Yt)(dd:Option Yt):HO:=.ext (zx e C dd)
noncomputable def dk:iw->Key
 | .inl i=>.inl i|.inr x=>.inr ⟨x.toArray⟩
def dz(K:Yb)(H:Hp)(ι:List Yt)(kvs:List (iw×D))(ws:List (Key×V)):Prop:=ws.map (·.1)=kvs.map (λp=>dk p.1)/\Zw K H ι (kvs.map (·.2)) (ws.map (·.2))
def fG(K:Yb)(H:Hp)(ι:List Yt)(fs:List (List Nat×D))(gs:List (aj×V)):Prop:=gs.map (·.1)=fs.map (λp=>(⟨p.1.toArray⟩:aj))/\Zw K H ι (fs.map (·.2)) (gs.map (·.2))
def ClsAt(K:Yb)(c:List Nat)(C:Yt):Prop:=PySem.W.nsIn K b7 ⟨c.toArray⟩=Ya (Ya (.ref C))
def Mh(K:Yb)(H:Hp)(ι:List Yt)(fs:List (List Nat×D))(dd:Option Yt):Prop:=fs=[]\/∃dx o gs,dd=Ya dx/\H dx=Ya (.cD o (.xd gs))/\fG K H ι fs gs
variable{ι:List Yt}
theorem Mh.up{H':Hp}{ι':List Yt}{fs:List (List Nat×D)}{dd:Option Yt}(hf:∀b o gs,H b=Ya (.cD o (.xd gs))->H' b=Ya (.cD o (.xd gs)))(hr:∀ds vs,Zw K H ι ds vs->Zw K H' ι' ds vs)(h:Mh K H ι fs dd):Mh K H' ι' fs dd:=h.imp id λz=>let⟨dx,o,gs,e,q,r1,r2⟩:=z;⟨dx,o,gs,e,hf _ _ _ q,r1,hr _ _ r2⟩
noncomputable def mz(K:Yb)(H:Hp)(ι:List Yt):MO->Yt->Prop
 | .lst xs,a=>∃vs,H a=Ya (.lst vs)/\Zw K H ι xs vs|.dct kvs,a=>∃ws,H a=Ya (.dK ws)/\dz K H ι kvs ws|.cP kvs,a=>∃ws,(∃o,H a=Ya (.cD o (.dK ws)))/\dz K H ι kvs ws|.ins c fs,a=>(∃C dx gs,H a=Ya (.ins C dx gs)/\(ClsAt K c C/\c.head?≠Ya 0)/\fG K H ι fs gs)\/∃C dd,H a=Ya (u9 a C dd)/\c.head?=Ya 0/\ClsAt K c.tail C/\Mh K H ι fs dd
structure aB(K:Yb)(H:Hp)(ι:List Yt)(M:Store):Prop where
 len:ι.length=M.length
 nd:ι.Nodup
 obj:∀(n:Nat) o a,M[n]?=Ya o->ι[n]?=Ya a->mz K H ι o a
def Loose(H:Hp)(p:Yt):Prop:=H p=Yk\/(∃vs,H p=Ya (.lst vs))\/(∃ws,H p=Ya (.dK ws))\/∃C dx gs,H p=Ya (.ins C dx gs)
variable{m:MO}
section
variable {K:Yb} {H H':Hp} {ι ι':List Yt} {M:Store} {p:Yt} {o:HO}
theorem Loose.ne{a:Yt}{u:HO}(l:Loose H p)(h:H a=Ya u)(h1:∀vs,u≠ .lst vs)(h2:∀ws,u≠ .dK ws)(h3:∀C dx gs,u≠ .ins C dx gs:=by exactλ_ _ _ z=>nomatch z):a≠p:=by
 rintro rfl;rcases l with l|⟨vs,l⟩|⟨ws,l⟩|⟨C,dx,gs,l⟩
 .rw[h]at l;cases l
 .rw[h]at l;exact h1 vs (eZ l)
 .rw[h]at l;exact h2 ws (eZ l)
 .rw[h]at l;exact h3 C dx gs (eZ l)
theorem Loose.tup(l:Loose H p){a:Yt}{xs:List V}(h:cM K H a xs):cM K (upd H p o) a xs:=by
 rcases h with(h|⟨ob,h⟩)|h
 .exact .inl (.inl (by rw[bh (l.ne h (λ_ z=>nomatch z) (λ_ z=>nomatch z))];exact h))
 .exact .inl (.inr ⟨ob,by rw[bh (l.ne h (λ_ z=>nomatch z) (λ_ z=>nomatch z))];exact h⟩)
 .exact .inr h
theorem Loose.bM(l:Loose H p){a:Yt}{xs:List V}(h:pZ K H a xs):pZ K (upd H p o) a xs:=by
 rcases h with⟨ob,h⟩|h
 .exact .inl ⟨ob,by rw[bh (l.ne h (λ_ z=>nomatch z) (λ_ z=>nomatch z))];exact h⟩
 .exact .inr h
theorem Loose.cD(l:Loose H p){a:Yt}{ob:aD}{u:HO}(h:H a=Ya (.cD ob u)):upd H p o a=Ya (.cD ob u):=by rw[bh (l.ne h (λ_ z=>nomatch z) (λ_ z=>nomatch z))];exact h
theorem Loose.ext(l:Loose H p):Ext K H ι (upd H p o) ι:=⟨λ_ _ h=>l.tup h,λ_ _ h=>l.bM h,λ_ _ h=>h,λ_ _ _ h=>l.cD h⟩
theorem Loose.Fp(l:Loose H p):Ext K H ι (upd H p o) (ι++[p]):=⟨λ_ _ h=>l.tup h,λ_ _ h=>l.bM h,λn a h=>by rw[Yx (Yd.mp h).1];exact h,λ_ _ _ h=>l.cD h⟩
theorem mz.mono{a:Yt}(e:Ext K H ι H' ι')(h:mz K H ι m a)(k:H' a=H a):mz K H' ι' m a:=by
 cases m with
 |lst xs=>obtain⟨vs,q,r⟩:=h;exact⟨vs,k.trans q,r.mono e⟩|dct kvs=>obtain⟨ws,q,r1,r2⟩:=h;exact⟨ws,k.trans q,r1,r2.mono e⟩|cP kvs=>obtain⟨ws,⟨o,q⟩,r1,r2⟩:=h;exact⟨ws,⟨o,k.trans q⟩,r1,r2.mono e⟩|ins c fs=>
  rcases h with⟨C,dx,gs,q,c,r1,r2⟩|⟨C,dd,q,z,c,r⟩
  .exact .inl ⟨C,dx,gs,k.trans q,c,r1,r2.mono e⟩
  .exact .inr ⟨C,dd,k.trans q,z,c,r.up (λb o g q=>e.cD b o _ q) λ_ _ r=>r.mono e⟩
theorem mz.ne{a:Yt}(h:mz K H ι m a):H a≠Yk:=by
 cases m with
 |lst xs=>obtain⟨vs,q,r⟩:=h;rw[q];simp|dct kvs=>obtain⟨ws,q,r⟩:=h;rw[q];simp|cP kvs=>obtain⟨ws,⟨o,q⟩,r⟩:=h;rw[q];simp|ins c fs=>rcases h with⟨C,dx,gs,q,r⟩|⟨C,dd,q,r⟩<;>(rw[q];simp)
theorem aB.at(S:aB K H ι M)(h:M[n]?=Ya m):∃a,ι[n]?=Ya a/\mz K H ι m a:=by
 have hn:n<ι.length:=by rw[S.len];exact(Yd.mp h).1
 exact⟨ι[n],by simp[hn],S.obj n m _ h (by simp[hn])⟩
theorem aB.there(S:aB K H ι M){a:Yt}(h:ι[n]?=Ya a):∃m,M[n]?=Ya m/\mz K H ι m a:=by
 have hn:n<M.length:=by rw[←S.len];exact(Yd.mp h).1
 exact⟨M[n],by simp[hn],S.obj n _ _ (by simp[hn]) h⟩
theorem aB.fresh(S:aB K H ι M)(hp:H p=Yk):p∉ι:=λh=>by obtain⟨n,hn⟩:=Q6 h;obtain⟨m,_,q⟩:=S.there hn;exact q.ne hp
theorem aB.other(S:aB K H ι M)(l:Loose H p)(hp:p∉ι):aB K (upd H p o) ι M:=⟨S.len,S.nd,λn m a h1 h2=>(S.obj n m a h1 h2).mono l.ext (by rw[bh];rintro rfl;exact hp (Br h2))⟩
theorem aB.new(S:aB K H ι M)(hp:H p=Yk)(h:mz K (upd H p o) (ι++[p]) m p):aB K (upd H p o) (ι++[p]) (M++[m]):=by
 have hf:=S.fresh hp;refine⟨by simp[S.len],?_,λn m' a h1 h2=>?_⟩
 .exact Q9.mpr ⟨S.nd,by simp,λx hx y hy=>by
   have e:y=p:=by simpa using hy
   subst e;rintro rfl;exact hf hx⟩
 .by_cases hn:n<ι.length
  .rw[Yx hn]at h2;rw[Yx (by rw[←S.len];exact hn)]at h1;refine(S.obj n m' a h1 h2).mono (Loose.Fp (.inl hp)) ?_;rw[bh];rintro rfl;exact hf (Br h2)
  .rw[yC (ir hn)]at h2;rw[yC (by rw[←S.len];exact ir hn)]at h1;have hlt:n-ι.length<1:=by
    have:=(Yd.mp h2).1;simpa using this
   have e0:n-ι.length=0:=Y6 (by omega) (fL _);rw[e0]at h2;rw[←S.len,e0]at h1;simp at h1 h2;subst h1 h2;exact h
theorem aB.put(S:aB K H ι M)(l0:Loose H p)(hn:ι[n]?=Ya p)(h:mz K (upd H p o) ι m p):aB K (upd H p o) ι (M.set n m):=by
 obtain⟨m0,hm0,q0⟩:=S.there hn;refine⟨by simp[S.len],S.nd,λk m' a h1 h2=>?_⟩;by_cases hk:k=n
 .subst hk;rw[hn]at h2;cases h2;have hlt:k<M.length:=(Yd.mp hm0).1;rw[Y4 hlt]at h1;cases h1;exact h
 .rw[Yu (bV hk)]at h1;refine(S.obj k m' a h1 h2).mono (Loose.ext l0) ?_;rw[bh];rintro rfl;have hlt1:=(Yd.mp h2);have hlt2:=(Yd.mp hn);exact hk ((ZP S.nd).mp (hlt1.2.trans hlt2.2.symm))
theorem aB.lst(S:aB K H ι M)(hp:H p=Yk){xs:List D}{vs:List V}(r:Zw K H ι xs vs):Ext K H ι (upd H p (.lst vs)) (ι++[p])/\aB K (upd H p (.lst vs)) (ι++[p]) (M++[.lst xs])/\Rep K (upd H p (.lst vs)) (ι++[p]) (.ref M.length) (.ref p):=by have e:Ext K H ι (upd H p (.lst vs)) (ι++[p]):=Loose.Fp (.inl hp);refine⟨e,S.new hp ⟨vs,fV,r.mono e⟩,Rep.ref ?_⟩;rw[←S.len];simp
theorem aB.uo(S:aB K H ι M)(hp:H p=Yk)(r:Zw K H ι xs vs):Ext K H ι (upd H p (.tup vs)) ι/\aB K (upd H p (.tup vs)) ι M/\Rep K (upd H p (.tup vs)) ι (.tup xs) (.ref p):=by have e:Ext K H ι (upd H p (.tup vs)) ι:=Loose.ext (.inl hp);exact⟨e,S.other (.inl hp) (S.fresh hp),Rep.tup (cM.of fV) (r.mono e)⟩
theorem aB.vN(S:aB K H ι M)(l0:Loose H p)(hn:ι[n]?=Ya p)(r:Zw K H ι xs vs):Ext K H ι (upd H p (.lst vs)) ι/\aB K (upd H p (.lst vs)) ι (M.set n (.lst xs)):=by have e:Ext K H ι (upd H p (.lst vs)) ι:=Loose.ext l0;exact⟨e,S.put l0 hn ⟨vs,fV,r.mono e⟩⟩
end
def bJ(K:Yb)(H:Hp)(ι:List Yt)(env:Zz)(σ:St):Prop:=env.length=σ.length/\∀(i:Nat) d,env[i]?=Ya (Ya d)->∃v,σ[i]?=Ya (Ya v)/\Rep K H ι d v
variable{σ:St}
theorem bJ.mono{H':Hp}{ι':List Yt}(r:bJ K H ι env σ)(e:Ext K H ι H' ι'):bJ K H' ι' env σ:=⟨r.1,λi d h=>let⟨v,q,z⟩:=r.2 i d h;⟨v,q,z.mono e⟩⟩
theorem bJ.set(r:bJ K H ι env σ)(i:Nat)(h:Rep K H ι d v):bJ K H ι (env.set i (Ya d)) (σ.set i (Ya v)):=by
 refine⟨by simp[r.1],λj e hj=>?_⟩;by_cases hij:j=i
 .subst hij;have hlt:j<env.length:=by
   have:=(Yd.mp hj).1;simpa using this
  rw[Y4 hlt]at hj;cases hj;exact⟨v,by rw[Y4 (by rw[←r.1];exact hlt)],h⟩
 .rw[Yu (bV hij)]at hj;obtain⟨w,q,z⟩:=r.2 j e hj;exact⟨w,by rw[Yu (bV hij)];exact q,z⟩
def Zv(K:Yb)(H:Hp)(ι:List Yt)(Q:VK)(r:R3 D):Prop:=match r with
 | .ok d M'=>∀v H' ι',Ext K H ι H' ι'->aB K H' ι' M'->Rep K H' ι' d v->Q v H'|_=>False
inductive TOf(K:Yb)(f:E3)(σ:St)(H:Hp)(Q:VK):Prop where
 |mk (ι:List Yt) (M:Store) (env:Zz) (S:aB K H ι M) (E:bJ K H ι env σ) (h:Zv K H ι Q (f env M)):TOf K f σ H Q
def mC(K:Yb)(f:E3):TE:=λσ H Q=>TOf K f σ H Q
def qO(K:Yb)(H:Hp)(ι:List Yt)(Q:Bool->Hp->Prop)(r:R3 D):Prop:=match r with
 | .ok (.bl b) M'=>∀H' ι',Ext K H ι H' ι'->aB K H' ι' M'->Q b H'|_=>False
inductive TTf(K:Yb)(f:E3)(σ:St)(H:Hp)(Q:Bool->Hp->Prop):Prop where
 |mk (ι:List Yt) (M:Store) (env:Zz) (S:aB K H ι M) (E:bJ K H ι env σ) (h:qO K H ι Q (f env M)):TTf K f σ H Q
def tTf(K:Yb)(f:E3):TT:=λσ H Q=>TTf K f σ H Q
def Cy(K:Yb)(H:Hp)(ι:List Yt)(Q:List V->Hp->Prop)(r:R3 (List D)):Prop:=match r with
 | .ok ds M'=>∀vs H' ι',Ext K H ι H' ι'->aB K H' ι' M'->Zw K H' ι' ds vs->Q vs H'|_=>False
inductive TAf(K:Yb)(f:cY)(σ:St)(H:Hp)(Q:List V->Hp->Prop):Prop where
 |mk (ι:List Yt) (M:Store) (env:Zz) (S:aB K H ι M) (E:bJ K H ι env σ) (h:Cy K H ι Q (f env M)):TAf K f σ H Q
def Ud(K:Yb)(f:cY):TA:=λσ H Q=>TAf K f σ H Q
def HJ(K:Yb)(H:Hp)(ι:List Yt)(Q:Option Int->Hp->Prop)(r:R3 (Option Int)):Prop:=match r with
 | .ok o M'=>∀H' ι',Ext K H ι H' ι'->aB K H' ι' M'->Q o H'|_=>False
def tOo(K:Yb)(f:wR):TO:=λσ H Q=>∃ι M env,aB K H ι M/\bJ K H ι env σ/\HJ K H ι Q (f env M)
def jU(K:Yb)(H:Hp)(ι:List Yt)(E:Ends)(r:O3):Prop:=match r with
 | .nx env' M'=>∀σ' H' ι',Ext K H ι H' ι'->aB K H' ι' M'->bJ K H' ι' env' σ'->E.nx σ' H'|.bk env' M'=>∀σ' H' ι',Ext K H ι H' ι'->aB K H' ι' M'->bJ K H' ι' env' σ'->E.bk σ' H'|.ct env' M'=>∀σ' H' ι',Ext K H ι H' ι'->aB K H' ι' M'->bJ K H' ι' env' σ'->E.ct σ' H'|.rt d M'=>∀v H' ι',Ext K H ι H' ι'->aB K H' ι' M'->Rep K H' ι' d v->E.rt v H'
 |_=>False
inductive TSf(K:Yb)(f:S3)(D:Ends)(σ:St)(H:Hp):Prop where
 |mk (ι:List Yt) (M:Store) (env:Zz) (S:aB K H ι M) (E:bJ K H ι env σ) (h:jU K H ι D (f env M)):TSf K f D σ H
def tSf(K:Yb)(f:S3):TS:=λE σ H=>TSf K f E σ H
def C3(X:Cx)(e:Expr)(f:E3):Prop:=PE X e (mC X.K f)
def CT(X:Cx)(e:Expr)(f:E3):Prop:=PT X e (tTf X.K f)
def CA(X:Cx)(es:List Expr)(f:cY):Prop:=PA X es (Ud X.K f)
def CO(X:Cx)(e:Option Expr)(f:wR):Prop:=PO X e (tOo X.K f)
def CS(X:Cx)(st:Ydi)(f:S3):Prop:=PS X st (tSf X.K f)
def mD(X:Cx)(st:List Ydi)(f:S3):Prop:=jl X st (tSf X.K f)
variable{e:Expr}{X:Cx}
theorem _root_.L2.PE.imp{t t':TE}(h:PE X e t)(i:∀σ H Q,t' σ H Q->t σ H Q):PE X e t':=λpins s σ H Q I q=>h pins s σ H Q I (i σ H Q q)
theorem _root_.L2.PT.imp{t t':TT}(h:PT X e t)(i:∀σ H Q,t' σ H Q->t σ H Q):PT X e t':=λpins s σ H Q I q=>h pins s σ H Q I (i σ H Q q)
theorem _root_.L2.PA.imp{e:List Expr}{t t':TA}(h:PA X e t)(i:∀σ H Q,t' σ H Q->t σ H Q):PA X e t':=λpos pins s σ H Q I q=>h pos pins s σ H Q I (i σ H Q q)
theorem _root_.L2.PO.imp{e:Option Expr}{t t':TO}(h:PO X e t)(i:∀σ H Q,t' σ H Q->t σ H Q):PO X e t':=λpins s σ H Q I q=>h pins s σ H Q I (i σ H Q q)
theorem _root_.L2.PS.imp{e:Ydi}{t t':TS}(h:PS X e t)(i:∀D σ H,t' D σ H->t D σ H):PS X e t':=λpins s σ H D I q=>h pins s σ H D I (i D σ H q)
theorem _root_.L2.jl.imp{e:List Ydi}{t t':TS}(h:jl X e t)(i:∀D σ H,t' D σ H->t D σ H):jl X e t':=λpins s σ H D I q=>h pins s σ H D I (i D σ H q)
theorem _root_.L2.a_.imp{f:Ye->Ye->lK Ye}{r r':R2}(h:a_ X f r)(i:∀x y H Q,r' x y H Q->r x y H Q):a_ X f r':=λpins s σ H x y v u Q I rx ry q=>h pins s σ H x y v u Q I rx ry (i x y H Q q)
theorem _root_.L2.uR.imp{f:Ye->lK Ye}{r r':V->Hp->VK->Prop}(h:uR X f r)(i:∀x H Q,r' x H Q->r x H Q):uR X f r':=λpins s σ H x v Q I rx q=>h pins s σ H x v Q I rx (i x H Q q)
theorem _root_.L2.cT.imp{f:Ye}{r r':List V->Hp->VK->Prop}(h:cT X f r)(i:∀x H Q,r' x H Q->r x H Q):cT X f r':=λpins s σ H xs us Q I rx q=>h pins s σ H xs us Q I rx (i xs H Q q)
theorem _root_.L2.lY.imp{r r':R2}(h:lY X r)(i:∀x y H Q,r' x y H Q->r x y H Q):lY X r':=λvalue slice pins s σ H x y v u Q I rx ry q hs=>h value slice pins s σ H x y v u Q I rx ry (i x y H Q q) hs
theorem _root_.L2.jF.imp{r r':V->Option Int->Option Int->Hp->VK->Prop}(h:jF X r)(i:∀x lo hi H Q,r' x lo hi H Q->r x lo hi H Q):jF X r':=λpins s σ H x v vl vu lo hi sl Q I rx hs pl pu q=>h pins s σ H x v vl vu lo hi sl Q I rx hs pl pu (i x lo hi H Q q)
variable{r:R3 D}
section
variable {K:Yb} {H H1:Hp} {ι ι1:List Yt}
theorem Zv.up{Q:VK}(e:Ext K H ι H1 ι1)(h:Zv K H ι Q r):Zv K H1 ι1 Q r:=by
 cases r with
 |ok d M=>exactλv H' ι' e' S r=>h v H' ι' (e.trans e') S r|exc x M=>exact h|bad=>exact h
theorem qO.up{Q:Bool->Hp->Prop}(e:Ext K H ι H1 ι1)(h:qO K H ι Q r):qO K H1 ι1 Q r:=by
 cases r with
 |ok d M=>cases d<;>first|exact h|exactλH' ι' e' S=>h H' ι' (e.trans e') S
 |exc x M=>exact h|bad=>exact h
theorem jU.up{Q:Ends}{r:O3}(e:Ext K H ι H1 ι1)(h:jU K H ι Q r):jU K H1 ι1 Q r:=by
 cases r with
 |nx d M=>exactλv H' ι' e' S r=>h v H' ι' (e.trans e') S r|bk d M=>exactλv H' ι' e' S r=>h v H' ι' (e.trans e') S r|ct d M=>exactλv H' ι' e' S r=>h v H' ι' (e.trans e') S r|rt d M=>exactλv H' ι' e' S r=>h v H' ι' (e.trans e') S r
 |exc x M=>exact h|bad=>exact h
theorem Zv.ok{Q:VK}(h:Zv K H ι Q (.ok d M))(S:aB K H ι M)(r:Rep K H ι d v):Q v H:=h v H ι Ext.refl S r
theorem Zv.bind{Q:VK}{r:R3 α}{k:α->Store->R3 D}(h:Zv K H ι Q (r.bind k)):∃a M,r= .ok a M/\Zv K H ι Q (k a M):=by
 cases r with
 |ok a M=>exact⟨a,M,rfl,h⟩|exc x M=>exact h.elim|bad=>exact h.elim
theorem Cy.bind{Q:List V->Hp->Prop}{r:R3 α}{k:α->Store->R3 (List D)}(h:Cy K H ι Q (r.bind k)):∃a M,r= .ok a M/\Cy K H ι Q (k a M):=by
 cases r with
 |ok a M=>exact⟨a,M,rfl,h⟩|exc x M=>exact h.elim|bad=>exact h.elim
theorem HJ.bind{Q:Option Int->Hp->Prop}{r:R3 α}{k:α->Store->R3 (Option Int)}(h:HJ K H ι Q (r.bind k)):∃a M,r= .ok a M/\HJ K H ι Q (k a M):=by
 cases r with
 |ok a M=>exact⟨a,M,rfl,h⟩|exc x M=>exact h.elim|bad=>exact h.elim
theorem qO.bind{Q:Bool->Hp->Prop}{r:R3 α}{k:α->Store->R3 D}(h:qO K H ι Q (r.bind k)):∃a M,r= .ok a M/\qO K H ι Q (k a M):=by
 cases r with
 |ok a M=>exact⟨a,M,rfl,h⟩|exc x M=>exact h.elim|bad=>exact h.elim
end
inductive R2I(K:Yb)(op:D->D->Store->R3 D)(x y:V)(H:Hp)(Q:VK):Prop where
 |mk (ι:List Yt) (M:Store) (a b:D) (S:aB K H ι M) (ra:Rep K H ι a x) (rb:Rep K H ι b y) (h:Zv K H ι Q (op a b M)):R2I K op x y H Q
def r2(K:Yb)(op:D->D->Store->R3 D):R2:=λx y H Q=>R2I K op x y H Q
noncomputable def r1(K:Yb)(op:D->Store->R3 D):V->Hp->VK->Prop:=λx H Q=>∃ι M a,aB K H ι M/\Rep K H ι a x/\Zv K H ι Q (op a M)
inductive RBI(K:Yb)(b:List D->Store->R3 D)(xs:List V)(H:Hp)(Q:VK):Prop where
 |mk (ι:List Yt) (M:Store) (ds:List D) (S:aB K H ι M) (r:Zw K H ι ds xs) (h:Zv K H ι Q (b ds M)):RBI K b xs H Q
noncomputable def rB(K:Yb)(b:List D->Store->R3 D):List V->Hp->VK->Prop:=λxs H Q=>RBI K b xs H Q
noncomputable def rM(K:Yb)(m:D->List D->Store->R3 D):V->List V->Hp->VK->Prop:=λx xs H Q=>∃ι M a ds,aB K H ι M/\Rep K H ι a x/\Zw K H ι ds xs/\Zv K H ι Q (m a ds M)
noncomputable def rS(K:Yb):V->Option Int->Option Int->Hp->VK->Prop:=λx lo hi H Q=>∃ι M a,aB K H ι M/\Rep K H ι a x/\Zv K H ι Q (zf a lo hi M)
theorem Mi{op:D->D->Store->R3 D}(σ:St)(H:Hp)(Q:VK)(h:mC K (e2 op f g) σ H Q):BZ (r2 K op) (mC K f) (mC K g) σ H Q:=by obtain⟨ι,M,env,S,E,h⟩:=h;obtain⟨a,M1,e1,h⟩:=Zv.bind h;obtain⟨b,M2,e2,h⟩:=Zv.bind h;refine⟨ι,M,env,S,E,?_⟩;rw[e1];intro v H1 ι1 x1 S1 r1;refine⟨ι1,M1,env,S1,E.mono x1,?_⟩;rw[e2];intro u H2 ι2 x2 S2 r2;exact⟨ι2,M2,a,b,S2,r1.mono x2,r2,(h.up x1).up x2⟩
theorem Zwy{op:D->Store->R3 D}(σ:St)(H:Hp)(Q:VK)(h:mC K (e1 op f) σ H Q):tUn (r1 K op) (mC K f) σ H Q:=by obtain⟨ι,M,env,S,E,h⟩:=h;obtain⟨a,M1,e1,h⟩:=Zv.bind h;refine⟨ι,M,env,S,E,?_⟩;rw[e1];intro v H1 ι1 x1 S1 r1;exact⟨ι1,M1,a,S1,r1,h.up x1⟩
variable{u:Ye}
section
variable {X:Cx} {a b c e o:Expr} {es:List Expr} {pos p:aP} {f g h:E3} {gl:cY}
theorem Zd(i:Nat){x:aj}(hN:X.N[i]?=Ya x:=by rfl)(hv:Lb X.env.scope x:=by first|exact Or.inl rfl|exact Or.inr (Or.inl rfl)|exact Or.inr (Or.inr rfl))(hd:(x==("__debug__":aj))=false:=by decide)(hcd:(x==("__classdict__":aj))=false:=by decide):C3 X (.Name x pos) (Zb i):=(GJ hN hv hd hcd).imp λσ H Q ak=>by
 obtain⟨ι,M,env,S,E,h⟩:=ak;unfold Zb at h;cases q:env[i]? with
 |none=>rw[q]at h;exact h.elim|some od=>
  cases od with
  |none=>rw[q]at h;exact h.elim|some d=>rw[q]at h;obtain⟨v,e1,r⟩:=E.2 i d q;exact⟨v,e1,Zv.ok h S r⟩
theorem Zj{i j}:C3 X (.Constant (.int i) j pos) (eC (.int i)):=Sh.imp λσ H Q ⟨ι,M,env,S,E,h⟩=>Zv.ok h S Rep.int
theorem zy{i j}:C3 X (.Constant (.bool i) j pos) (eC (.bl i)):=Zyk.imp λσ H Q ⟨ι,M,env,S,E,h⟩=>Zv.ok h S Rep.bl
theorem p6{j}:C3 X (.Constant .none j pos) (eC .non):=Zwh.imp λσ H Q ⟨ι,M,env,S,E,h⟩=>Zv.ok h S Rep.non
theorem bf{x:aj}{cs:List Nat}{j}(hx:x=⟨cs.toArray⟩:=by decide +kernel):C3 X (.Constant (.str x) j pos) (eC (.str cs)):=Sq.imp λσ H Q ak=>by obtain⟨ι,M,env,S,E,h⟩:=ak;subst hx;exact Zv.ok h S Rep.str
theorem u_{x:aj}(hm:X.mg x=Ya u)(r:RelV v u)(hr:∀H ι,Rep X.K H ι d v)(hg:Gl X x:=by rfl)(hd:(x==("__debug__":aj))=false:=by decide):C3 X (.Name x pos) (eC d):=(BW hg hm r hd).imp λσ H Q ⟨ι,M,env,S,E,h⟩=>Zv.ok h S (hr H ι)
theorem Zu{op:Operator}{q:D->D->Store->R3 D}(ho:a_ X (jg op) (r2 X.K q))(ha:C3 X a f)(hb:C3 X b g):C3 X (.BinOp a op b pos) (e2 q f g):=(Zxs ho ha hb).imp Mi
theorem tu{op:UnaryOp}{q:D->Store->R3 D}(ho:uR X (J3 op) (r1 X.K q))(ha:C3 X a f):C3 X (.UnaryOp op a pos) (e1 q f):=(ZyB ho ha).imp Zwy
theorem nq{op:CmpOp}{q:D->D->Store->R3 D}(ho:a_ X (gP op) (r2 X.K q))(ha:C3 X a f)(hb:C3 X b g)(hm:yt op b=false:=by rfl):C3 X (.Compare a [op] [b] pos) (e2 q f g):=(ZoZ ho ha hb hm).imp Mi
theorem Mj{Q:Bool->Hp->Prop}(h:qO K H ι Q r):Zv K H ι (λx H'=>∃k,x= .bl k/\Q k H') r:=by
 cases r with
 |ok d M=>
  cases d with
  |bl b=>exactλv H' ι' e S r=>⟨b,r.gF,h H' ι' e S⟩|_=>exact h.elim
 |exc x M=>exact h.elim|bad=>exact h.elim
theorem mF(h:C3 X e f)(he:∀whole,isTrue e X.env whole=(do let v ←whole;Bl e.pos;uE [v] (truthy v)):=by intro _;rfl):CT X e f:=(ZwA h he).imp λσ H Q ⟨ι,M,env,S,E,h⟩=>⟨ι,M,env,S,E,Mj h⟩
theorem bN{op:CmpOp}{q:D->D->Store->R3 D}(ho:a_ X (gP op) (r2 X.K q))(ha:C3 X a f)(hb:C3 X b g)(hm:yt op b=false:=by rfl):CT X (.Compare a [op] [b] pos) (e2 q f g):=(Td ho ha hb hm).imp λσ H Q ⟨ι,M,env,S,E,h⟩=>Mi σ H _ ⟨ι,M,env,S,E,Mj h⟩
end
variable{st:Ydi}{q:List D->Store->R3 D}
section
variable {X:Cx} {a b c e o:Expr} {es rest:List Expr} {pos p:aP} {f g h:E3} {gl:cY}
theorem xj{op}(h:C3 X a f):C3 X (.BoolOp op [a] pos) f:=ZvD h
theorem xq(ha:C3 X a f)(hb:C3 X (.BoolOp .And (b::rest) pos) g):C3 X (.BoolOp .And (a::b::rest) pos) (gq f g):=(ZuY ha hb).imp λσ H Q ak=>by
 obtain⟨ι,M,env,S,E,h⟩:=ak;obtain⟨d,M1,e1,h⟩:=Zv.bind h;refine⟨ι,M,env,S,E,?_⟩;rw[e1];intro v H1 ι1 x1 S1 r1;cases d with
 |bl k=>
  refine⟨k,r1.gF,?_⟩;cases k with
  |true=>rw[if_pos rfl];exact⟨ι1,M1,env,S1,E.mono x1,h.up x1⟩|false=>rw[if_neg (by decide)];exact Zv.ok (h.up x1) S1 Rep.bl
 |_=>exact h.elim
theorem Zx9(ha:C3 X a f)(hb:C3 X (.BoolOp .Or (b::rest) pos) g):C3 X (.BoolOp .Or (a::b::rest) pos) (cU f g):=(Zyo ha hb).imp λσ H Q ak=>by
 obtain⟨ι,M,env,S,E,h⟩:=ak;obtain⟨d,M1,e1,h⟩:=Zv.bind h;refine⟨ι,M,env,S,E,?_⟩;rw[e1];intro v H1 ι1 x1 S1 r1;cases d with
 |bl k=>
  refine⟨k,r1.gF,?_⟩;cases k with
  |false=>rw[if_neg (by decide)];exact⟨ι1,M1,env,S1,E.mono x1,h.up x1⟩|true=>rw[if_pos rfl];exact Zv.ok (h.up x1) S1 Rep.bl
 |_=>exact h.elim
theorem ZuU(ha:C3 X a f):C3 X (.UnaryOp .Not a pos) (e1 iT f):=(ZwC ha).imp λσ H Q ak=>by
 obtain⟨ι,M,env,S,E,h⟩:=ak;obtain⟨d,M1,e1,h⟩:=Zv.bind h;refine⟨ι,M,env,S,E,?_⟩;rw[e1];intro v H1 ι1 x1 S1 r1;cases d with
 |bl k=>exact⟨k,r1.gF,Zv.ok (h.up x1) S1 Rep.bl⟩|_=>exact h.elim
def CW(X:Cx)(e:Expr)(f:E3):Prop:=PW X e (tTf X.K f)
theorem CW.ct(h:CW X e f):CT X e f:=PW.pt h
theorem PW.imp{t t':TT}(h:PW X e t)(i:∀σ H Q,t' σ H Q->t σ H Q):PW X e t':=λwh pins s σ H Q I q=>h wh pins s σ H Q I (i σ H Q q)
theorem Ue(ha:CT X a f):CW X (.BoolOp .And [a] pos) f:=ZtM ha
theorem tD(ha:CT X a f):CW X (.BoolOp .Or [a] pos) f:=ZvY ha
theorem Ml(ha:CT X a f)(hb:CW X (.BoolOp .And (b::rest) pos) g):CW X (.BoolOp .And (a::b::rest) pos) (gq f g):=PW.imp (ZvW ha hb) λσ H Q ak=>by
 obtain⟨ι,M,env,S,E,h⟩:=ak;obtain⟨d,M1,e1,h⟩:=qO.bind h;refine⟨ι,M,env,S,E,?_⟩;rw[e1];cases d with
 |bl k=>
  intro H1 ι1 x1 S1;cases k with
  |true=>rw[if_pos rfl];exact⟨ι1,M1,env,S1,E.mono x1,h.up x1⟩|false=>rw[if_neg (by decide)];exact h H1 ι1 x1 S1
 |_=>exact h.elim
theorem p7(ha:CT X a f)(hb:CW X (.BoolOp .Or (b::rest) pos) g):CW X (.BoolOp .Or (a::b::rest) pos) (cU f g):=PW.imp (Zyl ha hb) λσ H Q ak=>by
 obtain⟨ι,M,env,S,E,h⟩:=ak;obtain⟨d,M1,e1,h⟩:=qO.bind h;refine⟨ι,M,env,S,E,?_⟩;rw[e1];cases d with
 |bl k=>
  intro H1 ι1 x1 S1;cases k with
  |false=>rw[if_neg (by decide)];exact⟨ι1,M1,env,S1,E.mono x1,h.up x1⟩|true=>rw[if_pos rfl];exact h H1 ι1 x1 S1
 |_=>exact h.elim
theorem xr(ha:CT X a f):CT X (.UnaryOp .Not a pos) (e1 iT f):=(Zvn ha).imp λσ H Q ak=>by
 obtain⟨ι,M,env,S,E,h⟩:=ak;obtain⟨d,M1,e1,h⟩:=qO.bind h;refine⟨ι,M,env,S,E,?_⟩;rw[e1];cases d with
 |bl k=>exactλH1 ι1 x1 S1=>h H1 ι1 x1 S1|_=>exact h.elim
theorem Cz(hc:CT X c f)(ha:C3 X a g)(hb:C3 X b h):C3 X (.IfExp c a b pos) (jm f g h):=(Zrb hc ha hb).imp λσ H Q ak=>by
 obtain⟨ι,M,env,S,E,h⟩:=ak;obtain⟨d,M1,e1,h⟩:=Zv.bind h;refine⟨ι,M,env,S,E,?_⟩;rw[e1];cases d with
 |bl k=>
  intro H1 ι1 x1 S1;cases k with
  |true=>rw[if_pos rfl];exact⟨ι1,M1,env,S1,E.mono x1,h.up x1⟩|false=>rw[if_neg (by decide)];exact⟨ι1,M1,env,S1,E.mono x1,h.up x1⟩
 |_=>exact h.elim
theorem Zf:CA X [] Ze:=y_.imp λσ H Q ⟨ι,M,env,S,E,h⟩=>h [] H ι Ext.refl S Zw.nil
theorem Zc(ha:C3 X e f)(hr:CA X es gl)(hs:Yr (e::es) X.env=(false,aF e X.env)::Yr es X.env:=by rfl):CA X (e::es) (Za f gl):=(pM ha hr hs).imp λσ H Q ak=>by obtain⟨ι,M,env,S,E,h⟩:=ak;obtain⟨d,M1,e1,h⟩:=Cy.bind h;obtain⟨ds,M2,e2,h⟩:=Cy.bind h;refine⟨ι,M,env,S,E,?_⟩;rw[e1];intro v H1 ι1 x1 S1 r1;refine⟨ι1,M1,env,S1,E.mono x1,?_⟩;rw[e2];intro vs H2 ι2 x2 S2 r2;exact h (v::vs) H2 ι2 (x1.trans x2) S2 (Zw.cons (r1.mono x2) r2)
theorem gJ{x1}(h:CA X es gl):C3 X (.Tuple es x1 pos) (bD gl):=(Th h).imp λσ H Q ak=>by
 obtain⟨ι,M,env,S,E,h⟩:=ak;obtain⟨ds,M1,e1,h⟩:=Zv.bind h;refine⟨ι,M,env,S,E,?_⟩;rw[e1];intro vs H1 ι1 x1 S1 r1;by_cases hz:ds.length<=SZ
 .rw[if_pos hz]at h;refine⟨by rw[r1.length];exact Yi hz jK,λp hp=>?_⟩;obtain⟨x2,S2,r2⟩:=S1.uo hp r1;exact h _ _ _ (x1.trans x2) S2 r2
 .rw[if_neg hz]at h;exact h.elim
theorem cF(h:CA X es gl):C3 X (.List es pos) (aV gl):=(ZwM h).imp λσ H Q ak=>by
 obtain⟨ι,M,env,S,E,h⟩:=ak;obtain⟨ds,M1,e1,h⟩:=Zv.bind h;refine⟨ι,M,env,S,E,?_⟩;rw[e1];intro vs H1 ι1 x1 S1 r1;by_cases hz:ds.length<=SZ
 .rw[if_pos hz]at h;refine⟨by rw[r1.length];exact Yi hz jK,λp hp=>?_⟩;obtain⟨x2,S2,r2⟩:=S1.lst hp r1;exact h _ _ _ (x1.trans x2) S2 r2
 .rw[if_neg hz]at h;exact h.elim
theorem ZrB(σ:St)(H:Hp)(Q:VK)(h:mC K (aJ q gl) σ H Q):GX (rB K q) (Ud K gl) σ H Q:=by obtain⟨ι,M,env,S,E,h⟩:=h;obtain⟨ds,M1,e1,h⟩:=Zv.bind h;refine⟨ι,M,env,S,E,?_⟩;rw[e1];intro vs H1 ι1 x1 S1 r1;exact⟨ι1,M1,ds,S1,r1,h.up x1⟩
theorem d8{x:aj}{id:String}(hc:cT X (.builtin id) (rB X.K q))(hm:X.mg x=Yk)(hv:jA x=Ya (.builtin id))(ha:CA X (e::es) gl)(hg:Gl X x:=by rfl)(hn:x≠ "__name__":=by decide)(hdb:(x==("__debug__":aj))=false:=by decide)(he:Yr (e::es) X.env=(false,aF e X.env)::Yr es X.env:=by rfl)(hpl:(bO pos (Yr es X.env)).any (·.1)=false:=by rfl):C3 X (.Call (.Name x p) (e::es) [] pos) (aJ q gl):=(Li hc hg hm hv ha hn hdb he hpl).imp ZrB
theorem p8{x:aj}{T:String}(hc:cT X (.type T) (rB X.K q))(hm:X.mg x=Yk)(hv:jA x=Ya (.type T))(ha:CA X (e::es) gl)(hg:Gl X x:=by rfl)(hn:x≠ "__name__":=by decide)(hdb:(x==("__debug__":aj))=false:=by decide)(he:Yr (e::es) X.env=(false,aF e X.env)::Yr es X.env:=by rfl)(hpl:(bO pos (Yr es X.env)).any (·.1)=false:=by rfl):C3 X (.Call (.Name x p) (e::es) [] pos) (aJ q gl):=(ZkB hc hg hm hv ha hn hdb he hpl).imp ZrB
theorem bw(hr:lY X (r2 X.K Zm))(ha:C3 X a f)(hb:C3 X b g)(hs:ZoN b:=by exactλ_ _=>rfl):C3 X (.Subscript a b pos) (e2 Zm f g):=(Zx2 hr ha hb hs).imp Mi
theorem qP:CO X Yk dZ:=Zto.imp λσ H Q ⟨ι,M,env,S,E,h⟩=>h H ι Ext.refl S
theorem oY(h:C3 X e f):CO X (Ya e) (cW f):=(ZtH h).imp λσ H Q ak=>by
 obtain⟨ι,M,env,S,E,h⟩:=ak;obtain⟨d,M1,e1,h⟩:=HJ.bind h;refine⟨ι,M,env,S,E,?_⟩;rw[e1];intro v H1 ι1 x1 S1 r1;cases d with
 |int i=>exact⟨i,r1.int_inv,h H1 ι1 x1 S1⟩|_=>exact h.elim
theorem p_{lo hi:Option Expr}{ol oh:wR}{p2:aP}(hr:jF X (rS X.K))(he:C3 X e f)(hl:CO X lo ol)(hu:CO X hi oh):C3 X (.Subscript e (.Slice lo hi Yk p2) pos) (c7 f ol oh):=(Zrl hr he hl hu).imp λσ H Q ak=>by obtain⟨ι,M,env,S,E,h⟩:=ak;obtain⟨d,M1,e1,h⟩:=Zv.bind h;obtain⟨l,M2,e2,h⟩:=Zv.bind h;obtain⟨u,M3,e3,h⟩:=Zv.bind h;refine⟨ι,M,env,S,E,?_⟩;rw[e1];intro v H1 ι1 x1 S1 r1;refine⟨ι1,M1,env,S1,E.mono x1,?_⟩;rw[e2];intro H2 ι2 x2 S2;refine⟨ι2,M2,env,S2,(E.mono x1).mono x2,?_⟩;rw[e3];intro H3 ι3 x3 S3;exact⟨ι3,M3,d,S3,(r1.mono x2).mono x3,((h.up x1).up x2).up x3⟩
theorem cO:mD X [] aZ:=ZsZ.imp λD σ H ⟨ι,M,env,S,E,h⟩=>h σ H ι Ext.refl S E
theorem Zk{u:S3}(h:CS X st u):mD X [st] u:=Sw h
theorem Zg{sts:List Ydi}{u w:S3}(h1:CS X st u)(h2:mD X sts w):mD X (st::sts) (Zq u w):=(Sv h1 h2).imp λD σ H ak=>by
 obtain⟨ι,M,env,S,E,h⟩:=ak;refine⟨ι,M,env,S,E,?_⟩;have h':jU X.K H ι D (match u env M with| .nx env' M'=>w env' M'|o=>o):=h;cases q:u env M with
 |nx env' M'=>rw[q]at h';exactλσ' H' ι' x S' E'=>⟨ι',M',env',S',E',h'.up x⟩|_=>rw[q]at h';exact h'
theorem cg{c1:Expr}{x y:List Ydi}{u w:S3}(hc:CT X c1 f)(ha:mD X x u)(hb:mD X y w):CS X (.If c1 x y pos) (aK f u w):=(ZuR hc ha hb).imp λD σ H ak=>by
 obtain⟨ι,M,env,S,E,h⟩:=ak;refine⟨ι,M,env,S,E,?_⟩;unfold aK at h;cases q:f env M with
 | ok d M1=>
  rw[q]at h;cases d with
  |bl k=>
   intro H1 ι1 x1 S1;cases k with
   |true=>rw[if_pos rfl];exact⟨ι1,M1,env,S1,E.mono x1,h.up x1⟩|false=>rw[if_neg (by decide)];exact⟨ι1,M1,env,S1,E.mono x1,h.up x1⟩
  |_=>exact h.elim
 |exc x M1=>rw[q]at h;exact h.elim|bad=>rw[q]at h;exact h.elim
theorem bQ(h:C3 X e f):CS X (.Return (Ya e) pos) (aR f):=(ZqL h).imp λD σ H ak=>by
 obtain⟨ι,M,env,S,E,h⟩:=ak;refine⟨ι,M,env,S,E,?_⟩;unfold aR at h;cases q:f env M with
 |ok d M1=>rw[q]at h;exact h|exc x M1=>rw[q]at h;exact h.elim|bad=>rw[q]at h;exact h.elim
theorem iW(h:C3 X e f)(hs:rY e Yk pos.line X.env=pure false:=by rfl):CS X (.Expr e pos) (bj f):=(Sx h hs).imp λD σ H ak=>by
 obtain⟨ι,M,env,S,E,h⟩:=ak;refine⟨ι,M,env,S,E,?_⟩;unfold bj at h;cases q:f env M with
 |ok d M1=>rw[q]at h;exactλv H1 ι1 x1 S1 r1=>h σ H1 ι1 x1 S1 (E.mono x1)|exc x M1=>rw[q]at h;exact h.elim|bad=>rw[q]at h;exact h.elim
theorem Zy(i:Nat){x:aj}{pos':aP}(hN:X.N.Nodup)(he:C3 X e f)(hi:X.N[i]?=Ya x:=by rfl)(hx:Loc X.env.scope x:=by first|exact Or.inl rfl|exact Or.inr rfl)(hs:rY e (Ya (.Name x pos')) pos.line X.env=pure false:=by rfl)(hf:X.fn x=true\/X.env.scope.names.lookup x=Ya .local:=by first|exact .inl rfl|exact .inr rfl):CS X (.Assign [.Name x pos'] e pos) (aA i f):=(Zsg hN hi hx he hs hf).imp λD σ H ak=>by
 obtain⟨ι,M,env,S,E,h⟩:=ak;refine⟨ι,M,env,S,E,?_⟩;unfold aA at h;cases q:f env M with
 |ok d M1=>rw[q]at h;exactλv H1 ι1 x1 S1 r1=>h _ H1 ι1 x1 S1 ((E.mono x1).set i r1)|exc x M1=>rw[q]at h;exact h.elim|bad=>rw[q]at h;exact h.elim
end
noncomputable def tE(K:Yb)(n:Nat)(F:F3):Sp:=λvs H Q _=>∃ι M ds,aB K H ι M/\Zw K H ι ds vs/\ds.length=n/\Zv K H ι Q (F ds M)
section
variable {K:Yb} {H H':Hp} {ι ι':List Yt} {M M':Store}
mutual
theorem Rep.below:∀{d:D} {v:V},Rep K H ι d v->L3.below ι.length d=true
 | .non,_,_=>rfl|.bl _,_,_=>rfl|.int _,_,_=>rfl|.str _,_,_=>rfl
 | .tup ds,_,h=>by obtain⟨a,vs,_,_,r⟩:=h.je;exact Zw.bT (ds:=ds) r|.bM ds,_,h=>by obtain⟨a,vs,_,_,r⟩:=h.vK;exact Zw.bT (ds:=ds) r|.ref n,_,h=>by obtain⟨a,q,_⟩:=h.dN;exact decide_eq_true (Yd.mp q).1
theorem Zw.bT:∀{ds:List D} {vs:List V},Zw K H ι ds vs->L3.bT ι.length ds=true
 |[],_,_=>rfl|d::ds,_,h=>by obtain⟨v,ws,_,r,q⟩:=h.cons_inv;exact Ya9.mpr ⟨Rep.below (d:=d) r,Zw.bT (ds:=ds) q⟩
end
mutual
theorem Rep.cut{n:Nat}:∀{d:D} {v:V},L3.below n d=true->Rep K H ι d v->Rep K H (ι.take n) d v
 | .non,_,_,h=>h|.bl _,_,_,h=>h|.int _,_,_,h=>h|.str _,_,_,h=>h
 | .tup ds,_,hb,h=>by obtain⟨a,vs,rfl,s,r⟩:=h.je;exact Rep.tup s (Zw.cut (ds:=ds) hb r)|.bM ds,_,hb,h=>by obtain⟨a,vs,rfl,s,r⟩:=h.vK;exact⟨a,vs,rfl,s,Zw.cut (ds:=ds) hb r⟩|.ref k,_,hb,h=>by obtain⟨a,q,rfl⟩:=h.dN;refine Rep.ref ?_;rw[v_ (of_decide_eq_true hb)];exact q
theorem Zw.cut{n:Nat}:∀{ds:List D} {vs:List V},L3.bT n ds=true->Zw K H ι ds vs->Zw K H (ι.take n) ds vs
 |[],_,_,h=>h|d::ds,_,hb,h=>by obtain⟨v,ws,rfl,r,q⟩:=h.cons_inv;exact have w:=Ya9.mp (hb:(L3.below n d&&L3.bT n ds)=true);Zw.cons (Rep.cut (d:=d) w.1 r) (Zw.cut (ds:=ds) w.2 q)
end
theorem mz.below{a:Yt}(h:mz K H ι m a):wV ι.length m=true:=by
 cases m with
 |lst xs=>obtain⟨vs,_,r⟩:=h;exact r.bT|dct kvs=>obtain⟨ws,_,_,r⟩:=h;exact r.bT|cP kvs=>obtain⟨ws,_,_,r⟩:=h;exact r.bT|ins c fs=>
  rcases h with⟨_,_,gs,_,_,_,r⟩|⟨_,_,_,_,_,rfl|⟨_,_,_,_,_,_,r⟩⟩
  .exact r.bT
  .rfl
  .exact r.bT
theorem mz.cut{a:Yt}(hb:wV n m=true)(h:mz K H ι m a):mz K H (ι.take n) m a:=by
 cases m with
 |lst xs=>obtain⟨vs,q,r⟩:=h;exact⟨vs,q,r.cut hb⟩|dct kvs=>obtain⟨ws,q,r1,r2⟩:=h;exact⟨ws,q,r1,r2.cut hb⟩|cP kvs=>obtain⟨ws,q,r1,r2⟩:=h;exact⟨ws,q,r1,r2.cut hb⟩|ins c fs=>
  rcases h with⟨C,dx,gs,q,c,r1,r2⟩|⟨C,dd,q,z,c,h|⟨dx,o,gs,e,f,r1,r2⟩⟩
  .exact .inl ⟨C,dx,gs,q,c,r1,r2.cut hb⟩
  .exact .inr ⟨C,dd,q,z,c,.inl h⟩
  .exact .inr ⟨C,dd,q,z,c,.inr ⟨dx,o,gs,e,f,r1,r2.cut hb⟩⟩
theorem aB.cut(S:aB K H ι M)(h:(M.take n).all (wV n)=true):aB K H (ι.take n) (M.take n):=by
 refine⟨by simp[S.len],S.nd.sublist (ZL _ _),λk m a h1 h2=>?_⟩;have hk:k<n:=by have:=(Yd.mp h1).1;rw[yG]at this;exact Y7 this (Z8 _ _)
 have hb:wV n m=true:=ig.mp h m (Br h1);rw[v_ hk]at h1 h2;exact(S.obj k m a h1 h2).cut hb
theorem Ug{Q:VK}(S:aB K H ι M)(x:Ext K H ι H' ι')(S':aB K H' ι' M')(r:Rep K H' ι' d v)(h:Zv K H ι Q (dh M d M')):Q v H':=by
 unfold dh at h;split at h
 .rename_i c;simp only[Y3,wF,decide_eq_true_eq]at c;have hall:(M'.take M.length).all (wV M.length)=true:=by
   rcases c.2 with e|e
   .rw[e,ig];intro m hm;obtain⟨n,hn⟩:=Q6 hm;obtain⟨a,q,w⟩:=S.at hn;rw[←S.len];exact w.below
   .exact e
  refine h v H' (ι'.take M.length) ⟨x.tup,x.bM,λn a q=>?_,x.cD⟩ (S'.cut hall) (r.cut c.1);rw[v_ (by rw[←S.len];exact(Yd.mp q).1)];exact x.pre n a q
 .exact h v H' ι' x S' r
end
theorem bJ.start(r:Zw K H ι ds vs)(n:Nat):bJ K H ι (ds.map Ya++Ym n Yk) (vs.map Ya++Ym n Yk):=by
 refine⟨by simp[r.length],λi d h=>?_⟩;by_cases hi:i<ds.length
 .rw[Yx (by simpa using hi),lM]at h;cases q:ds[i]? with
  |none=>rw[q]at h;simp at h|some d'=>rw[q]at h;simp at h;subst h;obtain⟨v,e,z⟩:=r.get q;refine⟨v,?_,z⟩;rw[Yx (by simpa[r.length]using hi),lM,e];rfl
 .rw[yC (by simpa using hi),J9]at h;split at h<;>simp at h
variable{ps:List aj}
section
variable {P:Y8} {w:aO} {K:Yb} {mg:aj->Option Ye} {base:aC}
theorem Uh{x qual:aj}{f:Yt}{fd:jB}{N:List aj}{k:Nat}(F:pN K x qual st f fd)(S:cL N ps (Zn st))(hb:∀(cdv:Ye) (A:bC) (outer:List cH) (s:Yf) (H:Hp) (E:XK),cJ k (A.deeper (lV qual (Zn st) s.heap.objs.size f cdv))->mD (oM kI P w K mg base N qual (Zn st) f cdv A outer s H E).iD (iG st) body):
  fM P w K mg base kI (k+1) f fd ps (tE K ps.length (bF ps.length N.length body)):=by
 refine F.ok S (λvs H Q E ⟨ι,M,ds,_,r,l,_⟩=>by rw[r.length,l]) λcdv A outer s H vs Q E hr ak=>?_;obtain⟨ι,M,ds,SR,r,l,h⟩:=ak;refine⟨_,hb cdv A outer s H E hr,ι,M,ds.map Ya++Ym (N.length-ps.length) Yk,SR,?_,?_⟩
 .have e:L2.start N vs=vs.map Ya++Ym (N.length-ps.length) Yk:=by unfold L2.start;rw[r.length,l]
  rw[e];exact bJ.start r _
 .unfold bF at h;rw[if_pos l]at h;cases q:body (ds.map Ya++Ym (N.length-ps.length) Yk) M with
  |nx env' M'=>rw[q]at h;exactλσ' H' ι' x S' E'=>Ug SR x S' Rep.non h|rt d M'=>rw[q]at h;exactλv H' ι' x S' r'=>Ug SR x S' r' h|bk _ _=>rw[q]at h;exact h.elim|ct _ _=>rw[q]at h;exact h.elim
  |exc _ _=>rw[q]at h;exact h.elim|bad=>rw[q]at h;exact h.elim
def aM(P:Y8)(w:aO)(K:Yb)(mg:aj->Option Ye)(base:aC)(k:Nat)(x:aj)(ps:List aj)(F:F3):Prop:=(∀ds M,ds.length≠ps.length->F ds M= .bad)/\∃f fd,mg x=Ya (.ref f)/\qy K (.ref f)=true/\Binds K fd ps []/\fM P w K mg base kI k f fd ps (tE K ps.length F)
def bL(K:Yb)(mg:aj->Option Ye)(x:aj)(st:Ydi)(ps:List aj):Prop:=∃f fd,pN K x x st f fd/\mg x=Ya (.ref f)/\Binds K fd ps []
theorem aM.mono{j k:Nat}{x:aj}{F:F3}(h:aM P w K mg base j x ps F)(l:j<=k):aM P w K mg base k x ps F:=let⟨n,f,fd,a,b,c,d⟩:=h;⟨n,f,fd,a,b,c,d.mono l⟩
theorem aM.of{x:aj}{N:List aj}{k:Nat}(d:bL K mg x st ps)(S:cL N ps (Zn st))(hb:∀(f:Yt) (cdv:Ye) (A:bC) (outer:List cH) (s:Yf) (H:Hp) (E:XK),cJ k (A.deeper (lV x (Zn st) s.heap.objs.size f cdv))->mD (oM kI P w K mg base N x (Zn st) f cdv A outer s H E).iD (iG st) body):
  aM P w K mg base (k+1) x ps (bF ps.length N.length body):=by
 obtain⟨f,fd,F,m,bi⟩:=d;exact⟨λds M h=>if_neg h,f,fd,m,F.kp,bi,Uh F S (hb f)⟩
end
section
variable {X:Cx} {e:Expr} {es:List Expr} {pos p:aP} {gl:cY} {x:aj} {k:Nat} {ps:List aj} {F:F3}
theorem cj(G:aM X.prog X.w X.K X.mg X.base k x ps F)(hr:cJ k X.A)(ha:CA X (e::es) gl)(hg:Gl X x:=by rfl)(hdb:(x==("__debug__":aj))=false:=by decide)(he:Yr (e::es) X.env=(false,aF e X.env)::Yr es X.env:=by rfl)(hpl:(bO pos (Yr es X.env)).any (·.1)=false:=by rfl):C3 X (.Call (.Name x p) (e::es) [] pos) (Zx F gl):=by
 obtain⟨hn,f,fd,m,kp,bi,ok⟩:=G;refine(Ztf ok hr hg m kp bi .nil ZuJ ha hdb he hpl).imp λσ H Q ak=>?_;obtain⟨ι,M,env,S,E,h⟩:=ak;obtain⟨ds,M1,e1,h⟩:=Zv.bind h;refine⟨ι,M,env,S,E,?_⟩;rw[e1];intro vs H1 ι1 x1 S1 r1;have hl:ds.length=ps.length:=by refine KR λq=>?_;rw[hn ds M1 q]at h;exact h.elim
 exact⟨ι1,M1,ds,S1,by rw[gQ];exact r1,hl,h.up x1⟩
end
def tGf(K:Yb)(g:G3):TG:=λv σ H Q=>∃ι M env d env',aB K H ι M/\bJ K H ι env σ/\Rep K H ι d v/\g d env=Ya env'/\∀σ',bJ K H ι env' σ'->Q σ' H
def tGs(K:Yb)(is:List Nat):uP:=λvs σ H Q=>∃ι M env ds env',aB K H ι M/\bJ K H ι env σ/\Zw K H ι ds vs/\bindAll is ds env=Ya env'/\∀σ',bJ K H ι env' σ'->Q σ' H
def CG(X:Cx)(tg:Expr)(g:G3):Prop:=PG X tg (tGf X.K g)
def Mm(X:Cx)(tg:List Expr)(is:List Nat):Prop:=sJ X tg (tGs X.K is)
theorem PG.imp{t t':TG}(h:PG X e t)(i:∀v σ H Q,t' v σ H Q->t v σ H Q):PG X e t':=λpins s σ H v u Q I r q=>h pins s σ H v u Q I r (i v σ H Q q)
theorem sJ.imp{e:List Expr}{t t':uP}(h:sJ X e t)(i:∀v σ H Q,t' v σ H Q->t v σ H Q):sJ X e t':=λpins s σ H v u Q I r q=>h pins s σ H v u Q I r (i v σ H Q q)
section
variable {X:Cx} {e:Expr} {es:List Expr} {pos:aP}
theorem jL(i:Nat){x:aj}(hN:X.N.Nodup)(hi:X.N[i]?=Ya x:=by rfl)(hx:Loc X.env.scope x:=by first|exact Or.inl rfl|exact Or.inr rfl)(hf:X.fn x=true\/X.env.scope.names.lookup x=Ya .local:=by first|exact .inl rfl|exact .inr rfl):CG X (.Name x pos) (b_ i):=PG.imp (Zpj hN hi hx hf) λv σ H Q ak=>by obtain⟨ι,M,env,d,env',S,E,r,q,h⟩:=ak;cases q;exact h _ (E.set i r)
theorem Mp:Mm X [] []:=sJ.imp Zt0 λv σ H Q ak=>by
 obtain⟨ι,M,env,ds,env',S,E,r,q,h⟩:=ak;cases ds with
 |nil=>cases q;exact⟨r.nil_inv,h σ E⟩|cons d ds=>cases q
theorem xu(i:Nat){is:List Nat}{x:aj}(hN:X.N.Nodup)(ht:Mm X es is)(hi:X.N[i]?=Ya x:=by rfl)(hx:Loc X.env.scope x:=by first|exact Or.inl rfl|exact Or.inr rfl)(hf:X.fn x=true\/X.env.scope.names.lookup x=Ya .local:=by first|exact .inl rfl|exact .inr rfl)(hs:(qC (.Name x pos::es) X.env).map (·.2)=n6 (.Name x pos) X.env::(qC es X.env).map (·.2):=by rfl):
  Mm X (.Name x pos::es) (i::is):=sJ.imp (Zso (Zpj hN hi hx hf) ht hs) λv σ H Q ak=>by
 obtain⟨ι,M,env,ds,env',S,E,r,q,h⟩:=ak;cases ds with
 |nil=>cases q|cons d ds=>obtain⟨v,ws,rfl,r1,r2⟩:=r.cons_inv;exact⟨v,ws,rfl,ι,M,env.set i (Ya d),ds,env',S,E.set i r1,r2,q,h⟩
theorem Mq{is:List Nat}{k:Nat}(hc:X.calm=true)(h:Mm X es is)(hl:es.length=is.length:=by rfl)(hn:(qC es X.env).length=is.length:=by rfl)(hst:(qC es X.env).findIdx? (·.1)=Yk:=by rfl):CG X (.Tuple es k pos) (jH is):=
 PG.imp (Zwv (n:=is.length) hc h hn hst) λv σ H Q ak=>by
  obtain⟨ι,M,env,d,env',S,E,r,q,h⟩:=ak;cases d with
  | tup ds=>
   obtain⟨a,vs,rfl,s,r⟩:=r.je;have hlen:∀(is:List Nat) (ds:List D) (env env':Zz),bindAll is ds env=Ya env'->ds.length=is.length:=by
    intro is
    induction is with
    |nil=>intro ds env env' h;cases ds with|nil=>rfl|cons d ds=>cases h
    |cons i is ih=>intro ds env env' h;cases ds with|nil=>cases h|cons d ds=>simp[ih ds _ _ h]
   exact⟨a,vs,rfl,s,by rw[r.length];exact hlen _ _ _ _ q,ι,M,env,ds,env',S,E,r,q,h⟩
  |_=>cases q
end
def tG(K:Yb)(H:Hp)(ι:List Yt)(it:fW)(J:It):Prop:=∀(i:Nat) H2 ι2 M2,Ext K H ι H2 ι2->aB K H2 ι2 M2->locked it M2=true ->
 (∀d,it.items[i]?=Ya d->J.go i H2/\∀x H3,J.Lf i H2 x H3->H3=H2/\Rep K H2 ι2 d x)/\(i=it.items.length->J.stop i H2)
def CJ(K:Yb)(H:Hp)(ι:List Yt)(R:It->Hp->Prop)(r:R3 fW):Prop:=match r with
 | .ok it M'=>∀J H' ι',Ext K H ι H' ι'->aB K H' ι' M'->tG K H' ι' it J->R J H'|_=>False
def Su(K:Yb)(g:I3):TI:=λσ H R=>∃ι M env,aB K H ι M/\bJ K H ι env σ/\CJ K H ι R (g env M)
def CI(X:Cx)(tg e:Expr)(g:I3):Prop:=PI X tg e (Su X.K g)
theorem PI.imp{tg:Expr}{t t':TI}(h:PI X tg e t)(i:∀σ H Q,t' σ H Q->t σ H Q):PI X tg e t':=λpins s σ H Q I q=>h pins s σ H Q I (i σ H Q q)
theorem PI.or{tg:Expr}{t t':TI}(h:PI X tg e t)(h':PI X tg e t'):PI X tg e (λσ H R=>t σ H R\/t' σ H R):=λpins s σ H Q I q=>q.elim (h pins s σ H Q I) (h' pins s σ H Q I)
theorem CJ.bind{Q:It->Hp->Prop}{r:R3 α}{k:α->Store->R3 fW}(h:CJ K H ι Q (r.bind k)):∃a M,r= .ok a M/\CJ K H ι Q (k a M):=by
 cases r with
 |ok a M=>exact⟨a,M,rfl,h⟩|exc x M=>exact h.elim|bad=>exact h.elim
section
variable {X:Cx} {tg e a b:Expr} {pos p:aP} {f g:E3}
theorem ZwL(h:C3 X e f)(hs:PI X tg e (λσ H R=>mC X.K f σ H λx H1=>∃z:aj,x= .str z/\z.length<=SZ/\∀J,(∀ι,tG X.K H1 ι ⟨z.cps.toList.map λc=>.str [c],Yk⟩ J)->R J H1)):CI X tg e (dI f):=
 PI.imp (PI.or (ZvM h) (PI.or (Ztz h) hs)) λσ H R ak=>by
  obtain⟨ι,M,env,S,E,h⟩:=ak;obtain⟨d,M1,e1,h⟩:=CJ.bind h;cases d with
  |tup ds=>refine .inl ⟨ι,M,env,S,E,?_⟩;rw[e1];intro v H1 ι1 x1 S1 r1;obtain⟨a,vs,rfl,s,r⟩:=r1.je;refine⟨a,rfl,⟨vs,s⟩,h _ H1 ι1 x1 S1 ?_⟩;intro i H2 ι2 M2 x S2 _;refine⟨λd hd=>?_,λhl=>⟨vs,x.tup _ _ s,by rw[r.length,hl];exact Yq _⟩⟩;obtain⟨v,hv,rv⟩:=r.get hd;refine⟨⟨vs,v,x.tup _ _ s,hv⟩,λy H3 hy=>⟨hy.1,?_⟩⟩;have e:=hy.2 vs (x.tup _ _ s);rw[hv]at e;cases e;exact rv.mono x|bM ds=>refine .inr (.inl ⟨ι,M,env,S,E,?_⟩);rw[e1];intro v H1 ι1 x1 S1 r1;obtain⟨a,vs,rfl,s,r⟩:=r1.vK;refine⟨a,rfl,⟨vs,s.sq⟩,h _ H1 ι1 x1 S1 ?_⟩;intro i H2 ι2 M2 x S2 _;refine⟨λd hd=>?_,λhl=>⟨vs,(x.bM _ _ s).sq,by rw[r.length,hl];exact Yq _⟩⟩;obtain⟨v,hv,rv⟩:=r.get hd;refine⟨⟨vs,v,(x.bM _ _ s).sq,hv⟩,λy H3 hy=>⟨hy.1,?_⟩⟩;have e:=hy.2 vs (x.bM _ _ s).sq;rw[hv]at e;cases e;exact rv.mono x|ref n=>
   refine .inr (.inl ⟨ι,M,env,S,E,?_⟩);rw[e1];intro v H1 ι1 x1 S1 r1;cases hm:M1[n]? with
   |none=>simp only[hm]at h;exact h.elim|some o=>
    cases o with
    |dct kvs=>simp only[hm]at h;exact h.elim|cP kvs=>simp only[hm]at h;exact h.elim|ins _ _=>simp only[hm]at h;exact h.elim|lst ds=>simp only[hm]at h;obtain⟨a,ha,rfl⟩:=r1.dN;obtain⟨vs,q,r⟩:=S1.obj n _ a hm ha;refine⟨a,rfl,⟨vs,bK.of q⟩,h _ H1 ι1 x1 S1 ?_⟩;intro i H2 ι2 M2 x S2 lk;have zA:M2[n]?=Ya (.lst ds):=of_decide_eq_true lk;obtain⟨vs2,q2,r2⟩:=S2.obj n _ a zA (x.pre _ _ ha);refine⟨λd hd=>?_,λhl=>⟨vs2,bK.of q2,by rw[r2.length,hl];exact Yq _⟩⟩;obtain⟨v,hv,rv⟩:=r2.get hd;refine⟨⟨vs2,v,bK.of q2,hv⟩,λy H3 hy=>⟨hy.1,?_⟩⟩;have e:=hy.2 vs2 (bK.of q2);rw[hv]at e;cases e;exact rv
  | str z=>
   refine .inr (.inr ⟨ι,M,env,S,E,?_⟩);rw[e1];intro v H1 ι1 x1 S1 r1;have hv:=r1.str_inv;subst hv;by_cases hz:z.length<=SZ
   .simp only[if_pos hz]at h;refine⟨_,rfl,by simpa[lU]using hz,λJ hJ=>h J H1 ι1 x1 S1 ?_⟩;simpa using hJ ι1
   .simp only[if_neg hz]at h;exact h.elim
  |non=>exact h.elim|bl b=>exact h.elim|int i=>exact h.elim
theorem ZrC(lo:Int)(n:Nat):tG K H ι ⟨jJ lo n,Yk⟩ (Lg lo n):=by
 intro i H2 ι2 M2 x S _;refine⟨λd hd=>?_,λhl=>?_⟩
 .unfold jJ at hd;rw[lM]at hd;cases q:(jj n)[i]? with
  |none=>rw[q]at hd;cases hd|some k=>
   rw[q]at hd;obtain⟨hi,e⟩:=Yd.mp q;rw[List.getElem_range]at e;subst e;have hd':D.int (lo+(i:Int))=d:=by simpa using hd
   subst hd';exact⟨(by show i<n;simpa using hi),λy H3 hy=>⟨hy.1,by rw[hy.2];exact Rep.int⟩⟩
 .show n<=i;rw[hl];simp[jJ]
theorem Mr(hm:X.mg "range" =Yk)(h:C3 X a f)(hg:Gl X "range":=by rfl)(hs:Yr [a] X.env=[(false,aF a X.env)]:=by rfl)(hs':Yr (a::[]) X.env=(false,aF a X.env)::Yr [] X.env:=by rfl):CI X tg (.Call (.Name "range" p) [a] [] pos) (wU f):=
 PI.imp (Zqc hg hm (Zc h Zf hs') hs) λσ H R ak=>by
  obtain⟨ι,M,env,S,E,h⟩:=ak;obtain⟨d,M1,e1,h⟩:=CJ.bind h;refine⟨ι,M,env,S,E,?_⟩;have e2:Za f Ze env M= .ok [d] M1:=by unfold Za;rw[e1];rfl
  rw[e2];intro vs H1 ι1 x1 S1 r1;obtain⟨v,ws,rfl,r,q⟩:=r1.cons_inv;have:=q.nil_inv;subst this;cases d with
  | int j=>
   have hv:=r.int_inv;subst hv;by_cases hj:j<=1000000/\ -1000000<=j
   .simp only[if_pos hj]at h;exact⟨j,rfl,by omega,by omega,h _ H1 ι1 x1 S1 (ZrC 0 j.toNat)⟩
   .simp only[if_neg hj]at h;exact h.elim
  |_=>exact h.elim
theorem CK{iter:Expr}{body:List Ydi}{i:I3}{g:G3}{u:S3}(xx:X.xe=λ_ _=>False)(hc:X.calm=true)(hi:CI X tg iter i)(hg:CG X tg g)(hb:mD X body u)(hs:∀x,yp iter X.env x=pure x:=by intro _;rfl):
  CS X (.For tg iter body [] pos) (qM i g u):=(SJ (by rw[xx];exact R5) hc hi hg hb hs).imp λD σ H ak=>by
 obtain⟨ι,M,env,S,E,h⟩:=ak;unfold qM at h;cases q:i env M with
 |exc x M1=>rw[q]at h;exact h.elim|bad=>rw[q]at h;exact h.elim|ok it M1=>
  rw[q]at h;refine⟨ι,M,env,S,E,?_⟩;rw[q];intro J H1 ι1 x1 S1 ok;refine⟨λi m σ2 H2=>m=it.items.length-i/\i<=it.items.length/\∃ι2 M2 gj,Ext X.K H1 ι1 H2 ι2/\aB X.K H2 ι2 M2/\bJ X.K H2 ι2 gj σ2/\jU X.K H2 ι2 D (dg it g u (it.items.drop i) gj M2),
   ⟨_,rfl,fL _,ι1,M1,env,Ext.refl,S1,E.mono x1,jU.up x1 h⟩,?_⟩
  rintro i m σ2 H2 ⟨rfl,hi,ι2,M2,gj,x2,S2,E2,h2⟩;by_cases hlt:i<it.items.length
  .have hd:it.items[i]?=Ya it.items[i]:=by simp[hlt]
   rw[yD hlt]at h2
   first|rw[pU]at h2|rw[pR]at h2
   by_cases lk:locked it M2=true
   .rw[if_pos lk]at h2;obtain⟨go,yl⟩:=(ok i H2 ι2 M2 x2 S2 lk).1 _ hd;cases eg:g it.items[i] gj with
    |none=>rw[eg]at h2;exact h2.elim|some qx=>
     rw[eg]at h2;refine .inr ⟨go,λσ' H'=>∃ι3 M3 jO,Ext X.K H2 ι2 H' ι3/\aB X.K H' ι3 M3/\bJ X.K H' ι3 jO σ'/\jU X.K H' ι3 D (dg it g u (it.items.drop (i+1)) jO M3),
      λσ' H' ⟨ι3,M3,jO,x3,S3,E3,h3⟩=>⟨it.items.length-(i+1),by omega,rfl,hlt,ι3,M3,jO,x2.trans x3,S3,E3,h3⟩,λx H' hy=>?_⟩
     obtain⟨rfl,rx⟩:=yl x H' hy;refine⟨ι2,M2,gj,_,qx,S2,E2,rx,eg,λσ' E'=>⟨ι2,M2,qx,S2,E',?_⟩⟩;cases qu:u qx M2 with
     |nx e' M'=>simp only[qu]at h2;exactλσ' H' ι' x' S' E'=>⟨ι',M',e',x',S',E',h2.up x'⟩|ct e' M'=>simp only[qu]at h2;exactλσ' H' ι' x' S' E'=>⟨ι',M',e',x',S',E',h2.up x'⟩|bk e' M'=>simp only[qu]at h2;exact h2|rt d M'=>simp only[qu]at h2;exact h2
     |exc x' M'=>simp only[qu]at h2;exact h2.elim|bad=>simp only[qu]at h2;exact h2.elim
   .rw[if_neg lk]at h2;exact h2.elim
  .have e0:i=it.items.length:=Y6 hi (ir hlt);subst e0;rw[Gd]at h2
   first|rw[pU]at h2|rw[pR]at h2
   by_cases lk:locked it M2=true
   .rw[if_pos lk]at h2;exact .inl ⟨(ok _ H2 ι2 M2 x2 S2 lk).2 rfl,h2 σ2 H2 ι2 Ext.refl S2 E2⟩
   .rw[if_neg lk]at h2;exact h2.elim
theorem ZrO{c1:Expr}{body:List Ydi}{u:S3}(xx:X.xe=λ_ _=>False)(hc:CT X c1 f)(hb:mD X body u):CS X (.While c1 body [] pos) (Zsk f u):=(Zr7 (by rw[xx];exact R5) hc hb).imp λD σ H ak=>by
 obtain⟨ι,M,env,S,E,h⟩:=ak;refine⟨λm σ2 H2=>∃ι2 M2 gj,aB X.K H2 ι2 M2/\bJ X.K H2 ι2 gj σ2/\jU X.K H2 ι2 D (uX f u m gj M2),⟨1000000,ι,M,env,S,E,h⟩,?_⟩;rintro m σ2 H2 ⟨ι2,M2,gj,S2,E2,h2⟩;cases m with
 |zero=>exact h2.elim|succ m=>
  refine⟨ι2,M2,gj,S2,E2,?_⟩;rw[T6]at h2;cases q:f gj M2 with
  |exc x M1=>rw[q]at h2;exact h2.elim|bad=>rw[q]at h2;exact h2.elim|ok d M1=>
   rw[q]at h2;cases d with
   | bl k=>
    cases k with
    |false=>intro H3 ι3 x3 S3;rw[if_neg (by decide)];exact h2 σ2 H3 ι3 x3 S3 (E2.mono x3)|true=>
     intro H3 ι3 x3 S3;rw[if_pos rfl];refine⟨λσ' H'=>∃ι4 M4 jO,aB X.K H' ι4 M4/\bJ X.K H' ι4 jO σ'/\jU X.K H' ι4 D (uX f u m jO M4),λσ' H' q=>⟨m,Gi _,q⟩,ι3,M1,gj,S3,E2.mono x3,?_⟩;have h3:=jU.up x3 h2;cases qu:u gj M1 with
     |nx e' M'=>simp only[qu]at h3;exactλσ' H' ι' x' S' E'=>⟨ι',M',e',S',E',h3.up x'⟩|ct e' M'=>simp only[qu]at h3;exactλσ' H' ι' x' S' E'=>⟨ι',M',e',S',E',h3.up x'⟩|bk e' M'=>simp only[qu]at h3;exact h3|rt d M'=>simp only[qu]at h3;exact h3
     |exc x' M'=>simp only[qu]at h3;exact h3.elim|bad=>simp only[qu]at h3;exact h3.elim
   |_=>exact h2.elim
end
theorem Rep.Xc(r:Rep K H ι d v):decide (v=V.non)=decide (d=D.non):=by
 cases d with
 |non=>rw[r.jd];rfl|bl b=>rw[r.gF];rfl|int i=>rw[r.int_inv];rfl|str x=>rw[r.str_inv];rfl
 |tup ds=>obtain⟨a,vs,e,_⟩:=r.je;rw[e];rfl|bM ds=>obtain⟨a,vs,e,_⟩:=r.vK;rw[e];rfl|ref n=>obtain⟨a,_,e⟩:=r.dN;rw[e];rfl
theorem ZiL{x y:List Nat}:decide (V.str ⟨x.toArray⟩=V.str ⟨y.toArray⟩)=(x==y):=by
 by_cases h:x=y
 .subst h;simp
 .rw[decide_eq_false (λe=>h (by injection e with e1;injection e1 with e2;simpa using congrArg BJ e2))]
  exact(beq_eq_false_iff_ne.mpr h).symm
section
variable {X:Cx}
theorem ZrI:a_ X (jg .Add) (λx y H Q=>∃a b ys,x= .ref a/\y= .ref b/\cM X.K H a []/\cM X.K H b ys/\Q (.ref b) H):=by
 intro pins s σ H x y v u Q I rx ry h;obtain⟨a,b,ys,rfl,rfl,ha,hb,q⟩:=h;cases rx;cases ry;obtain⟨its,r1,p1,_⟩:=I.tuple ha;obtain⟨its2,r2,p2,_⟩:=I.tuple hb;cases r1;obtain⟨⟨cls,dd,data,sl⟩,ho,hc,n,hd⟩:=id p1;obtain⟨⟨cls2,dd2,data2,sl2⟩,ho2,hc2,n2,hd2⟩:=id p2;simp only at hc hd hc2 hd2;subst hc hd hc2 hd2;exact QM ⟨_,ho,rfl⟩ ⟨_,ho2,rfl⟩ QC QJ RG RB (Rz _ _)
   (tuple_addW0 a b _ its2.toArray n n2 dd dd2 sl sl2 (by simp)) ⟨ho,ho2,⟨.ref b,H,I,rfl,q⟩⟩
theorem Zuk(x y:List Nat):(⟨x.toArray⟩:aj)++⟨y.toArray⟩=⟨(x++y).toArray⟩:=by show Str.append _ _=_;unfold Str.append;simp
noncomputable def zB(o:Option D)(f:D->R3 D):R3 D:=match o with
 |some d=>f d|none=>.bad
theorem HN{Q:VK}{o:Option D}{f:D->R3 D}(h:Zv K H ι Q (zB o f)):∃x,o=Ya x/\Zv K H ι Q (f x):=by
 cases o with
 |none=>exact h.elim|some x=>exact⟨x,rfl,h⟩
noncomputable def onN(o:Option Nat)(f:Nat->R3 D):R3 D:=match o with
 |some d=>f d|none=>.bad
theorem ZtF{Q:VK}{o:Option Nat}{f:Nat->R3 D}(h:Zv K H ι Q (onN o f)):∃x,o=Ya x/\Zv K H ι Q (f x):=by
 cases o with
 |none=>exact h.elim|some x=>exact⟨x,rfl,h⟩
noncomputable def CN(o:Option MO)(f:List D->R3 D):R3 D:=match o with
 |some (.lst x)=>f x|_=>.bad
theorem Ms{Q:VK}{o:Option MO}{f:List D->R3 D}(h:Zv K H ι Q (CN o f)):∃x,o=Ya (.lst x)/\Zv K H ι Q (f x):=by
 cases o with
 |none=>exact h.elim|some o=>cases o with
  |lst x=>exact⟨x,rfl,h⟩|_=>exact h.elim
noncomputable def ZxT(a b:Option MO)(f:List D->List D->R3 D):R3 D:=match a,b with
 |some (.lst x),Ya (.lst y)=>f x y|_,_=>.bad
theorem Zr2{Q:VK}{a b:Option MO}{f:List D->List D->R3 D}(h:Zv K H ι Q (ZxT a b f)):∃x y,a=Ya (.lst x)/\b=Ya (.lst y)/\Zv K H ι Q (f x y):=by
 cases a with
 |none=>exact h.elim|some a=>cases a with
  | lst x=>cases b with
   |none=>exact h.elim|some b=>cases b with
    |lst y=>exact⟨x,y,rfl,rfl,h⟩|_=>exact h.elim
  |_=>exact h.elim
theorem xF{Q:VK}{c:Prop}{_:Decidable c}(h:Zv K H ι Q (if c then r else .bad)):c/\Zv K H ι Q r:=by
 by_cases hc:c
 .rw[if_pos hc]at h;exact⟨hc,h⟩
 .rw[if_neg hc]at h;exact h.elim
theorem Zmh(r:Zw K H ι ds []):ds=[]:=J7 r.length.symm
theorem bZ:a_ X (jg .Add) (r2 X.K Zt):=a_.imp (a_.or Zv3 (a_.or Zng (a_.or Zv1 (a_.or Ztj ZrI)))) λx y H Q ak=>by
 obtain⟨ι,M,a,b,S,ra,rb,h⟩:=ak;cases a with
 |int i=>cases b with
  |int j=>exact .inl ⟨i,j,ra.int_inv,rb.int_inv,Zv.ok h S Rep.int⟩|_=>exact h.elim
 | str x=>cases b with
  |str y=>obtain⟨hz,h⟩:=xF h;exact .inr (.inl ⟨_,_,ra.str_inv,rb.str_inv,Yi hz jK,by rw[Zuk];exact Zv.ok h S Rep.str⟩)|_=>exact h.elim
 | tup x=>cases b with
  | tup y=>
   obtain⟨hz,h⟩:=xF h;obtain⟨p,vs,e,s,r⟩:=ra.je;obtain⟨q,ws,e',s',r'⟩:=rb.je;by_cases hv:vs=[]
   .rw[hv]at r s;rw[Zmh r]at h;exact .inr (.inr (.inr (.inr ⟨p,q,ws,e,e',s,s',Zv.ok h S (Rep.tup s' r')⟩)))
   .refine .inr (.inr (.inr (.inl ⟨p,q,vs,ws,e,e',s,s',hv,by rw[r.length,r'.length];exact Yi hz jK,λhw=>?_,λhw p' hp=>?_⟩)))
    .rw[hw]at r';rw[Zmh r',gQ]at h;exact Zv.ok h S (Rep.tup s r)
    .obtain⟨x2,S2,r2⟩:=S.uo hp (r.append r');exact h _ _ _ x2 S2 r2
  |_=>exact h.elim
 | ref n=>cases b with
  |ref m=>have h:Zv X.K H ι Q (ZxT M[n]? M[m]? λx y=>@ite _ (x.length+y.length<=SZ) (Yy _) (alloc (.lst (x++y)) M) .bad):=h;obtain⟨x,y,hn,hm,h⟩:=Zr2 h;obtain⟨hz,h⟩:=xF h;obtain⟨p,hp,e⟩:=ra.dN;obtain⟨q,hq,e'⟩:=rb.dN;obtain⟨vs,e1,r1⟩:=S.obj n _ p hn hp;obtain⟨ws,e2,r2⟩:=S.obj m _ q hm hq;refine .inr (.inr (.inl ⟨p,q,vs,ws,e,e',e1,e2,by rw[r1.length,r2.length];exact Yi hz jK,λp' hp'=>?_⟩));obtain⟨x2,S2,r3⟩:=S.lst hp' (r1.append r2);exact h _ _ _ x2 S2 r3|_=>exact h.elim
 |_=>cases b<;>exact h.elim
theorem zE:a_ X (jg .Sub) (r2 X.K gR):=a_.imp Zu3 λx y H Q ak=>by obtain⟨ι,M,a,b,S,ra,rb,h⟩:=ak;cases a<;>cases b<;>first|exact h.elim|exact⟨_,_,ra.int_inv,rb.int_inv,Zv.ok h S Rep.int⟩
theorem eQ:a_ X (jg .Mod) (r2 X.K aU):=a_.imp Zvg λx y H Q ak=>by
 obtain⟨ι,M,a,b,S,ra,rb,h⟩:=ak;cases a with
 | int i=>cases b with
  | int j=>
   simp only[Zl0]at h;split at h
   .rename_i hj;exact⟨i,j,ra.int_inv,rb.int_inv,hj,Zv.ok h S Rep.int⟩
   .exact h.elim
  |_=>exact h.elim
 |_=>cases b<;>exact h.elim
theorem jV:a_ X (jg .FloorDiv) (r2 X.K bU):=a_.imp Zui λx y H Q ak=>by
 obtain⟨ι,M,a,b,S,ra,rb,h⟩:=ak;cases a with
 | int i=>cases b with
  | int j=>
   simp only[ZkD]at h;split at h
   .rename_i hj;exact⟨i,j,ra.int_inv,rb.int_inv,hj,Zv.ok h S Rep.int⟩
   .exact h.elim
  |_=>exact h.elim
 |_=>cases b<;>exact h.elim
theorem tH:uR X (J3 .USub) (r1 X.K jn):=uR.imp ZvG λx H Q ak=>by
 obtain⟨ι,M,a,S,ra,h⟩:=ak;cases a with
 |int i=>exact⟨i,ra.int_inv,Zv.ok h S Rep.int⟩|_=>exact h.elim
theorem xG:a_ X (gP .Lt) (r2 X.K iU):=a_.imp ZyE λx y H Q ak=>by obtain⟨ι,M,a,b,S,ra,rb,h⟩:=ak;cases a<;>cases b<;>first|exact h.elim|exact⟨_,_,ra.int_inv,rb.int_inv,Zv.ok h S Rep.bl⟩
theorem Zxx:a_ X (gP .LtE) (r2 X.K Cj):=a_.imp Zxu λx y H Q ak=>by obtain⟨ι,M,a,b,S,ra,rb,h⟩:=ak;cases a<;>cases b<;>first|exact h.elim|exact⟨_,_,ra.int_inv,rb.int_inv,Zv.ok h S Rep.bl⟩
theorem qQ:a_ X (gP .Gt) (r2 X.K dY):=a_.imp Zx1 λx y H Q ak=>by obtain⟨ι,M,a,b,S,ra,rb,h⟩:=ak;cases a<;>cases b<;>first|exact h.elim|exact⟨_,_,ra.int_inv,rb.int_inv,Zv.ok h S Rep.bl⟩
theorem Ui:a_ X (gP .Is) (r2 X.K zc):=a_.imp ZuX λx y H Q ak=>by
 obtain⟨ι,M,a,b,S,ra,rb,h⟩:=ak;cases b with
 |non=>exact⟨rb.jd,by rw[ra.Xc];exact Zv.ok h S Rep.bl⟩|_=>exact h.elim
theorem Zuj:a_ X (gP .IsNot) (r2 X.K TV):=a_.imp Ztl λx y H Q ak=>by
 obtain⟨ι,M,a,b,S,ra,rb,h⟩:=ak;cases b with
 |non=>exact⟨rb.jd,by rw[ra.Xc];exact Zv.ok h S Rep.bl⟩|_=>exact h.elim
end
theorem units_in1(A:bC):A.in1.units=A.units+1:=rfl
variable{A:bC}{es:List D}
section
variable {X:Cx} {pins:List (Yt×aD)} {σ:St} {H:Hp} {s:Yf} {ι:List Yt}
theorem ZlU{e:Nat->Bool}:∀{x y:List D},x.length=y.length->(∀(j:Nat) a b,x[j]?=Ya a->y[j]?=Ya b->e j=dH a b)->(jj x.length).all e=iH x y:=by
 intro x
 induction x generalizing e with
 |nil=>intro y h _;cases y with|nil=>rfl|cons _ _=>simp at h
 | cons a x ih=>
  intro y h he;cases y with
  |nil=>simp at h|cons b y=>rw[Yn,ZC,iM,List.all_map,he 0 a b rfl rfl];rw[Tz];congr 1;exact ih (e:=e ∘ Nat.succ) (by simpa using h) λj a' b' h1 h2=>he (j+1) a' b' (by simpa using h1) (by simpa using h2)
theorem ZmJ:∀{x y:List D},iH x y=true->x.length=y.length
 |[],[],_=>rfl|[],_::_,h=>ft h|_::_,[],h=>ft h|a::x,b::y,h=>congrArg Nat.succ (ZmJ (Ya9.mp (h:(dH a b&&iH x y)=true)).2)
theorem Mt(h:dO 0 d=true):cV d=true:=by cases d<;>first|exact rfl|exact h
theorem CP(h:dO (n+1) d=true):cV d=true\/∃ds,d= .tup ds:=by
 cases d with
 |tup ds=>exact .inr ⟨ds,rfl⟩|bM _=>exact ft h|ref _=>exact ft h|_=>exact .inl rfl
theorem ZkK{a b:D}(fa:cV a=true)(fb:cV b=true)(r:Rep K H ι a v)(q:Rep K H ι b v):dH a b=true:=by
 cases a with
 |non=>have e:=r.jd;cases b with
  |non=>rfl|bl _=>cases e.symm.trans q.gF|int _=>cases e.symm.trans q.int_inv|str _=>cases e.symm.trans q.str_inv
  |_=>exact ft fb
 |bl x=>have e:=r.gF;cases b with
  |non=>cases e.symm.trans q.jd|bl _=>exact beq_iff_eq.mpr (V.bl.inj (e.symm.trans q.gF))|int _=>cases e.symm.trans q.int_inv|str _=>cases e.symm.trans q.str_inv
  |_=>exact ft fb
 |int x=>have e:=r.int_inv;cases b with
  |non=>cases e.symm.trans q.jd|bl _=>cases e.symm.trans q.gF|int _=>exact beq_iff_eq.mpr (V.int.inj (e.symm.trans q.int_inv))|str _=>cases e.symm.trans q.str_inv
  |_=>exact ft fb
 |str x=>have e:=r.str_inv;cases b with
  |non=>cases e.symm.trans q.jd|bl _=>cases e.symm.trans q.gF|int _=>cases e.symm.trans q.int_inv|str _=>exact ZiL.symm.trans (decide_eq_true (e.symm.trans q.str_inv))
  |_=>exact ft fb
 |_=>exact ft fa
theorem Zmj{a:D}{p:Yt}(fa:cV a=true)(r:Rep K H ι a v)(e:v= .ref p):False:=by
 cases a with
 |non=>cases e.symm.trans r.jd|bl x=>cases e.symm.trans r.gF|int x=>cases e.symm.trans r.int_inv|str x=>cases e.symm.trans r.str_inv
 |_=>exact ft fa
theorem Rep.fun1(I:Inv X pins σ H s):∀(n:Nat) (a b:D) (v:V),dO n a=true->dO n b=true->Rep X.K H ι a v->Rep X.K H ι b v->dH a b=true:=by
 intro n
 induction n with
 |zero=>intro a b v ha hb r q;exact ZkK (Mt ha) (Mt hb) r q|succ n ih=>
  intro a b v ha hb r q;rcases CP ha with fa|⟨ds,ea⟩
  .rcases CP hb with fb|⟨es,eb⟩
   .exact ZkK fa fb r q
   .rw[eb]at q;obtain⟨p,vs,e,_⟩:=q.je;exact(Zmj fa r e).elim
  .rw [ea]at r ha ⊢;obtain⟨p,vs,e,s1,r1⟩:=r.je;rcases CP hb with fb|⟨es,eb⟩
   .exact(Zmj fb q e).elim
   .rw[eb]at q hb ⊢;obtain⟨p',ws,e',s2,r2⟩:=q.je;rw[←V.ref.inj (e.symm.trans e')]at s2;rw[←I.Pk s1 s2]at r2;clear s1 s2 e e' q r eb ea;rw[ZuT];revert ha hb r1 r2
    induction ds generalizing es vs with
    |nil=>
     intro _ r1 _ r2;cases es with
     |nil=>rfl|cons _ _=>obtain⟨_,_,e,_⟩:=r2.cons_inv;cases r1.nil_inv.symm.trans e
    | cons d ds ih2=>
     intro h1 r1 h2 r2;obtain⟨v,ws,e,q1,q2⟩:=r1.cons_inv;cases es with
     |nil=>cases r2.nil_inv.symm.trans e|cons e' es=>obtain⟨v',ws',z,q3,q4⟩:=r2.cons_inv;obtain⟨z1,z2⟩:=jR (z.symm.trans e);rw[z1]at q3;rw[z2]at q4;have g1:=Ya9.mp (h1:(dO n d&&ds.all (dO n))=true);have g2:=Ya9.mp (h2:(dO n e'&&es.all (dO n))=true);rw[Tz,ih d e' v g1.1 g2.1 q1 q3];exact ih2 ws es g1.2 q2 g2.2 q4
theorem CQ{x:V}(r:Rep K H ι .non x)(e:RelV x u):u= .none:=by rw[r.jd]at e;cases e;rfl
theorem xH{b:Bool}{x:V}(r:Rep K H ι (.bl b) x)(e:RelV x u):u= .bool b:=by rw[r.gF]at e;cases e;rfl
theorem xJ{i:Int}{x:V}(r:Rep K H ι (.int i) x)(e:RelV x u):∃t,u= .int i t:=by rw[r.int_inv]at e;exact e
theorem xK{i:List Nat}{x:V}(r:Rep K H ι (.str i) x)(e:RelV x u):∃t,u= .str ⟨i.toArray⟩ t:=by rw[r.str_inv]at e;exact e
inductive Uj(X:Cx)(H:Hp)(ι:List Yt)(T:Yt->Array Ye->Prop)(ds:List D)(x:V)(u:Ye):Prop
 |mk (p:Yt) (vs:List V) (its:List Ye):x= .ref p->u= .ref p->T p its.toArray->Zw X.K H ι ds vs->Vals vs its->Uj X H ι T ds x u
theorem CV(I:Inv X pins σ H s){x:V}(r:Rep X.K H ι (.tup ds) x)(e:RelV x u):Uj X H ι s.heap.IsTuple ds x u:=by obtain⟨p,vs,ex,s1,r1⟩:=r.je;obtain⟨its,rvs,ht,_⟩:=I.tuple s1;rw[ex]at e;exact⟨p,vs,its,ex,e,ht,r1,rvs⟩
theorem S8{i k:List Nat}:decide (i=k)=((⟨i.toArray⟩:aj)==⟨k.toArray⟩):=by
 rw[←Kr,←ZiL];by_cases h:(⟨i.toArray⟩:aj)=⟨k.toArray⟩
 .rw[h,beq_self_eq_true];exact decide_eq_true rfl
 .rw[beq_eq_false_iff_ne.mpr h];exact decide_eq_false λe=>h (V.str.inj e)
theorem Ztu{i k:List Nat}:dH (.str i) (.str k)=((⟨i.toArray⟩:aj)==⟨k.toArray⟩):=wI (show(i==k)=decide (i=k)from Kr i k) S8
theorem Uk(A:bC)(a b:D)(x y:V)(u v:Ye)(ha:cV a=true)(hb:cV b=true)(ra:Rep X.K H ι a x)(rb:Rep X.K H ι b y)(ru:RelV x u)(rv:RelV y v):uJ A s u v (dH a b):=by
 cases a with
 |non=>rw[CQ ra ru];cases b with
  |non=>rw[CQ rb rv];exact RW _|bl k=>rw[xH rb rv];exact Yi9 _|int k=>obtain⟨t,e⟩:=xJ rb rv;rw[e];exact Yjv _ _|str k=>obtain⟨t,e⟩:=xK rb rv;rw[e];exact Yjw _ _
  |_=>exact ft hb
 |bl i=>rw[xH ra ru];cases b with
  |non=>rw[CQ rb rv];exact Yja _|bl k=>rw[xH rb rv];exact Yjb _ _|int k=>obtain⟨t,e⟩:=xJ rb rv;rw[e];exact Yjx _ _ _|str k=>obtain⟨t,e⟩:=xK rb rv;rw[e];exact Yjy _ _ _
  |_=>exact ft hb
 |int i=>obtain⟨t0,e0⟩:=xJ ra ru;rw[e0];cases b with
  |non=>rw[CQ rb rv];exact Yjz _ _|bl k=>rw[xH rb rv];exact Yj0 _ _ _|int k=>obtain⟨t,e⟩:=xJ rb rv;rw[e];exact Ykn _ _ _ _|str k=>obtain⟨t,e⟩:=xK rb rv;rw[e];exact RV _ _ _ _
  |_=>exact ft hb
 |str i=>obtain⟨t0,e0⟩:=xK ra ru;rw[e0];cases b with
  |non=>rw[CQ rb rv];exact Yj1 _ _|bl k=>rw[xH rb rv];exact Yj2 _ _ _|int k=>obtain⟨t,e⟩:=xJ rb rv;rw[e];exact K4 _ _ _ _|str k=>obtain⟨t,e⟩:=xK rb rv;rw[e,Ztu];exact Yko _ _ _ _
  |_=>exact ft hb
 |_=>exact ft ha
noncomputable def HS(ds es:List D)(j:Nat):Bool:=match ds[j]?,es[j]? with|some a,Ya b=>dH a b|_,_=>false
theorem Zo8(hl:ds.length≠es.length):iH ds es=false:=by
 cases q:iH ds es with
 |false=>rfl|true=>exact absurd (ZmJ q) hl
theorem Zpg(hn:n=ds.length)(hl:ds.length=es.length):(jj n).all (HS ds es)=iH ds es:=by rw[hn];exact ZlU hl λj a b h1 h2=>by unfold HS;rw[h1,h2]
theorem ZoP{m:Nat}(hn:n=ds.length)(hm:m=es.length):((jj (jk n m)).all (HS ds es)&&n==m)=iH ds es:=by
 by_cases hl:ds.length=es.length
 .have e:n=m:=hn.trans (hl.trans hm.symm);rw[←e,Nat.min_self,beq_self_eq_true,Bv];exact Zpg hn hl
 .rw[Zo8 hl,beq_eq_false_iff_ne.mpr λe=>hl (hn.symm.trans (e.trans hm)),yO]
theorem qR{its:List Ye}(r:Zw X.K H ι ds vs)(v:Vals vs its):its.toArray.size=ds.length:=Yo.trans (v.length.symm.trans r.length)
theorem Ul{ws:List V}{its its2:List Ye}(ih:∀(a b:D) (x y:V) (u v:Ye),dO n a=true->dO n b=true->Rep X.K H ι a x->Rep X.K H ι b y->RelV x u->RelV y v->uJ A s u v (dH a b))(p1:ds.all (dO n)=true)(p2:es.all (dO n)=true)(r1:Zw X.K H ι ds vs)(r2:Zw X.K H ι es ws)(v1:Vals vs its)(v2:Vals ws its2)(j:Nat)(h1:j<its.toArray.size)(h2:j<its2.toArray.size):uJ A s its.toArray[j] its2.toArray[j] (HS ds es j):=by
 have k1:j<ds.length:=by rw[←qR r1 v1];exact h1
 have k2:j<es.length:=by rw[←qR r2 v2];exact h2
 have q1:=j7 k1;have q2:=j7 k2;obtain⟨x,g1,z1⟩:=r1.get q1;obtain⟨y,g2,z2⟩:=r2.get q2;obtain⟨u,e1,l1⟩:=v1.get g1;obtain⟨v,e2,l2⟩:=v2.get g2;unfold HS;rw[q1,q2];obtain⟨_,e1⟩:=Yd.mp e1;obtain⟨_,e2⟩:=Yd.mp e2;exact ih _ _ x y _ _ (ig.mp p1 _ (wg k1)) (ig.mp p2 _ (wg k2)) z1 z2 (e1▸l1) (e2▸l2)
theorem ZlX(A:bC)(hu1:A.units<j6){a:D}{x:V}{p:Yt}{its:Array Ye}(ha:cV a=true)(ra:Rep X.K H ι a x)(ru:RelV x u)(it:s.heap.IsTuple p its):uJ A s u (.ref p) (dH a (.tup es))/\uJ A s (.ref p) u (dH (.tup es) a):=by
 cases a with
 |non=>rw[CQ ra ru];exact⟨SeqAt.EqAt.none_tuple it hu1,SeqAt.EqAt.tuple_none it hu1⟩|bl k=>rw[xH ra ru];exact⟨SeqAt.EqAt.bool_tuple _ it hu1,SeqAt.EqAt.tuple_bool _ it hu1⟩|int k=>obtain⟨t,e⟩:=xJ ra ru;rw[e];exact⟨SeqAt.EqAt.int_tuple _ _ it hu1,SeqAt.EqAt.tuple_int _ _ it hu1⟩|str k=>obtain⟨t,e⟩:=xK ra ru;rw[e];exact⟨SeqAt.EqAt.str_tuple _ _ it hu1,SeqAt.EqAt.tuple_str _ _ it hu1⟩
 |_=>exact ft ha
theorem Zrf(I:Inv X pins σ H s):∀(n:Nat) (A:bC) (_:A.units+n+1<j6) (a b:D) (x y:V) (u v:Ye),dO n a=true->dO n b=true->Rep X.K H ι a x->Rep X.K H ι b y->RelV x u->RelV y v->uJ A s u v (dH a b):=by
 intro n
 induction n with
 |zero=>intro A hu a b x y u v ha hb ra rb ru rv;exact Uk A a b x y u v (Mt ha) (Mt hb) ra rb ru rv|succ n ih=>
  intro A hu a b x y u v ha hb ra rb ru rv;have hu0:A.units+0+1<j6:=by omega
  have hu1:A.units<j6:=by omega
  rcases CP ha with fa|⟨ds,ea⟩
  .rcases CP hb with fb|⟨es,eb⟩
   .exact Uk A a b x y u v fa fb ra rb ru rv
   .rw[eb]at rb ⊢;obtain⟨p,vs,its,ex,eu,t,_⟩:=CV I rb rv;rw[eu];exact(ZlX A hu1 fa ra ru t).1
  .rw[ea]at ra ha ⊢;obtain⟨p,vs,its,ex,eu,t,r1,v1⟩:=CV I ra ru;rw[eu];rcases CP hb with fb|⟨es,eb⟩
   .exact(ZlX A hu1 fb rb rv t).2
   .rw[eb]at rb hb ⊢;obtain⟨q,ws,its2,ey,ev,t',r2,v2⟩:=CV I rb rv;rw[ev];by_cases hp:p=q
    .rw[ey,←hp,←ex]at rb;rw[Rep.fun1 I (n+1) _ _ _ ha hb ra rb,hp];exact RW _
    .refine SeqAt.EqAt.of_refs hp ?_;rw[ZuT,←ZoP (qR r1 v1) (qR r2 v2)];exact Yk6 t t' hu1 (Ul (ih A.in1 (by rw[units_in1];omega)) ha hb r1 r2 v1 v2)
end
section
variable {X:Cx}
section
variable {pins:List (Yt×aD)} {σ:St} {H:Hp} {s:Yf} {ι:List Yt}
theorem ZuB(I:Inv X pins σ H s)(S:aB X.K H ι M){x:V}(h:M[n]?=Ya (.lst ds))(r:Rep X.K H ι (.ref n) x)(e:RelV x u):Uj X H ι s.heap.IsList ds x u:=by obtain⟨p,hp1,ex⟩:=r.dN;obtain⟨vs,e1,r1⟩:=S.obj n _ p h hp1;obtain⟨its,rvs,pl1,_⟩:=I.list (bK.of e1);rw[ex]at e;exact⟨p,vs,its,ex,e,pl1.isList,r1,rvs⟩
inductive zF(M:Store)(a b:D)(k:Bool):Prop
 |ref {n m:Nat} (ds es:List D):a= .ref n->b= .ref m->iH ds es=k->M[n]?=Ya (.lst ds)->M[m]?=Ya (.lst es)->ds.all (dO DEEP)=true/\es.all (dO DEEP)=true->zF M a b k
 |int (i j:Int):a= .int i->b= .int j->decide (i=j)=k->zF M a b k
 |str (i j:List Nat):a= .str i->b= .str j->decide (i=j)=k->zF M a b k
 |bl (i j:Bool):a= .bl i->b= .bl j->decide (i=j)=k->zF M a b k
 |tup {ds es:List D}:a= .tup ds->b= .tup es->iH ds es=k->ds.all (dO DEEP)=true/\es.all (dO DEEP)=true->zF M a b k
theorem Um{c d:Bool}{a k:α}(h:(if c&&d then Ya a else Yk)=Ya k):a=k/\c=true/\d=true:=by
 cases c with
 |false=>exact iR h|true=>cases d with
  |false=>exact iR h|true=>exact⟨eZ h,rfl,rfl⟩
noncomputable def Zzl(a b:Option MO):Option Bool:=match a,b with
 |some (.lst x),Ya (.lst y)=>if x.all (dO DEEP)&&y.all (dO DEEP)then Ya (iH x y)else Yk|_,_=>Yk
theorem Ztx{m:Nat}{k:Bool}(h:Zzl M[n]? M[m]?=Ya k):zF M (.ref n) (.ref m) k:=by
 cases e1:M[n]? with
 |none=>rw[e1]at h;exact iR h|some o=>cases o with
  | lst x=>cases e2:M[m]? with
   |none=>rw[e1,e2]at h;exact iR h|some o=>cases o with
    |lst y=>rw[e1,e2]at h;exact have w:=Um h;.ref x y rfl rfl w.1 e1 e2 w.2|_=>rw[e1,e2]at h;exact iR h
  |_=>rw[e1]at h;exact iR h
theorem eqK{a b:D}{k:Bool}(h:qK a b M=Ya k):zF M a b k:=by
 cases a with
 |ref n=>cases b with
  |ref m=>exact Ztx h|_=>exact iR h
 |int i=>cases b with
  |int j=>exact .int i j rfl rfl (eZ h)|_=>exact iR h
 |str i=>cases b with
  |str j=>exact .str i j rfl rfl (eZ h)|_=>exact iR h
 |bl i=>cases b with
  |bl j=>exact .bl i j rfl rfl (eZ h)|_=>exact iR h
 |tup ds=>cases b with
  |tup es=>exact have w:=Um h;.tup rfl rfl w.1 w.2|_=>exact iR h
 |_=>cases b<;>exact iR h
theorem Zph{a b:D}{x y:V}{v:Ye}{k:Bool}(hu:X.A.units+80<j6)(I:Inv X pins σ H s)(S:aB X.K H ι M)(ra:Rep X.K H ι a x)(rb:Rep X.K H ι b y)(ru:RelV x u)(rv:RelV y v)(h:qK a b M=Ya k):SeqAt.RcAt X.A s u v k/\SeqAt.RcNeAt X.A s u v (!k):=by
 have hu1:X.A.units<j6:=by omega
 have hu2:X.A.in1.units+DEEP+1<j6:=by rw[units_in1];exact(show X.A.units+1+60+1<j6 from by omega)
 rcases eqK h with⟨ds,es,ea,eb,ek,e1,e2,p1,p2⟩|⟨i,j,ea,eb,ek⟩|⟨i,j,ea,eb,ek⟩|⟨i,j,ea,eb,ek⟩|⟨ea,eb,ek,p1,p2⟩
 .rw[ea]at ra;rw[eb]at rb;rw[←ek];obtain⟨p,vs,its,_,eu,t,r1,v1⟩:=ZuB I S e1 ra ru;obtain⟨q,ws,its2,_,ev,t',r2,v2⟩:=ZuB I S e2 rb rv;rw[eu,ev];by_cases hl:ds.length=es.length
  .rw[←Zpg (qR r1 v1) hl];have hz:=(qR r1 v1).trans (hl.trans (qR r2 v2).symm);have w:=Ul (Zrf I DEEP X.A.in1 hu2) p1 p2 r1 r2 v1 v2;exact⟨SeqAt.RcAt.lists t t' hz hu1 w,SeqAt.RcNeAt.lists t t' hz hu1 w⟩
  .rw[Zo8 hl];have hz:(its.toArray.size !=its2.toArray.size)=true:=bne_iff_ne.mpr λe=>hl ((qR r1 v1).symm.trans (e.trans (qR r2 v2)));exact⟨SeqAt.RcAt.lists_lengths t t' hz hu1,SeqAt.RcNeAt.lists_lengths t t' hz hu1⟩
 .rw[ea]at ra;rw[eb]at rb;obtain⟨t,e⟩:=xJ ra ru;obtain⟨t',e'⟩:=xJ rb rv;rw[e,e',←ek,←Kr];exact⟨SeqAt.RcAt.int_int _ _ _ _,SeqAt.RcNeAt.int_int _ _ _ _⟩
 .rw[ea]at ra;rw[eb]at rb;obtain⟨t,e⟩:=xK ra ru;obtain⟨t',e'⟩:=xK rb rv;rw[e,e',←ek,S8];exact⟨SeqAt.RcAt.str_str _ _ _ _,SeqAt.RcNeAt.str_str _ _ _ _⟩
 .rw[ea]at ra;rw[eb]at rb;rw[xH ra ru,xH rb rv,←ek,←Kr];exact⟨SeqAt.RcAt.bool_bool _ _,SeqAt.RcNeAt.bool_bool _ _⟩
 .rw[ea]at ra;rw[eb]at rb;obtain⟨p,vs,its,_,eu,t,r1,v1⟩:=CV I ra ru;obtain⟨q,ws,its2,_,ev,t',r2,v2⟩:=CV I rb rv;rw[eu,ev,←ek,←ZoP (qR r1 v1) (qR r2 v2)];have w:=Ul (Zrf I DEEP X.A.in1 hu2) p1 p2 r1 r2 v1 v2;exact⟨Yk6 t t' hu1 w,SeqAt.RcNeAt.tuples t t' hu1 w⟩
end
theorem d9(hu:X.A.units+80<j6):a_ X (gP .Eq) (r2 X.K aY):=by
 intro pins s σ H x y v u Q I rx ry h;obtain⟨ι,M,a,b,S,ra,rb,h⟩:=h;unfold aY at h;cases q:qK a b M with
 |none=>rw[q]at h;exact h.elim|some k=>rw[q]at h;exact(Zph hu I S ra rb rx ry q).1 X.prog X.w X.xe _ ⟨.bl k,H,I,rfl,Zv.ok h S Rep.bl⟩
theorem Uo{i:Int}(r:Zw K H ι ds vs)(h:gw ds i=Ya d):∃v,za vs i=Ya v/\Rep K H ι d v:=by
 unfold gw at h;unfold za;have e:Cd vs.length i=kJ ds.length i:=by rw[r.length];rfl
 rw[e];cases q:kJ ds.length i with
 |none=>rw[q]at h;cases h|some j=>rw[q]at h;exact r.get h
theorem bx:lY X (r2 X.K Zm):=lY.imp ZwG λx y H Q ak=>by
 obtain⟨ι,M,a,b,S,ra,rb,h⟩:=ak;cases a with
 | tup ds=>cases b with
  |int i=>have h:Zv X.K H ι Q (zB (gw ds i) (λd=>.ok d M)):=h;obtain⟨d,q,h⟩:=HN h;obtain⟨p,vs,e',s1,r1⟩:=ra.je;obtain⟨v,e,rv⟩:=Uo r1 q;exact .inr (.inl ⟨p,vs,i,v,e',rb.int_inv,s1,e,Zv.ok h S rv⟩)|_=>exact h.elim
 | bM ds=>cases b with
  |int i=>have h:Zv X.K H ι Q (zB (gw ds i) (λd=>.ok d M)):=h;obtain⟨d,q,h⟩:=HN h;obtain⟨p,vs,e',s1,r1⟩:=ra.vK;obtain⟨v,e,rv⟩:=Uo r1 q;exact .inl ⟨p,vs,i,v,e',rb.int_inv,s1.sq,e,Zv.ok h S rv⟩|_=>exact h.elim
 | str z=>cases b with
  |int i=>have h:Zv X.K H ι Q (onN (gw z i) (λc=>@ite _ (z.length<=SZ) (Yy _) (.ok (.str [c]) M) .bad)):=h;obtain⟨c,q,h⟩:=ZtF h;obtain⟨hz,h⟩:=xF h;exact .inr (.inr ⟨_,i,c,ra.str_inv,rb.int_inv,Yi hz jK,q,Zv.ok h S Rep.str⟩)|_=>exact h.elim
 | ref n=>cases b with
  |int i=>have h:Zv X.K H ι Q (CN (M[n]?) (λds=>zB (gw ds i) λd=>.ok d M)):=h;obtain⟨ds,hn,h⟩:=Ms h;obtain⟨d,q,h⟩:=HN h;obtain⟨p,hp,e'⟩:=ra.dN;obtain⟨vs,e1,r1⟩:=S.obj n _ p hn hp;obtain⟨v,e,rv⟩:=Uo r1 q;exact .inl ⟨p,vs,i,v,e',rb.int_inv,bK.of e1,e,Zv.ok h S rv⟩|_=>exact h.elim
 |_=>cases b<;>exact h.elim
theorem Uq(r:Zw K H ι ds vs)(lo hi:Option Int):Zw K H ι (cutD ds lo hi) (wN vs lo hi):=by
 have e:∀n d o,HT.aG n d o=aG n d o:=λn d o=>by cases o<;>rfl
 unfold cutD wN;rw[e,e,r.length];exact(r.drop _).take _
end
noncomputable def fX(cells:List (aj×Yt)):List (aj×NameKind)->List (aj×Yt)->List (aj×Yt)
 |[],cs=>cs|(n,k)::r,cs=>fX cells r (if k== .free then(n,(cells.lookup n).getD 0)::cs else cs)
theorem HW{cells:List (aj×Yt)}{n:aj}{k:NameKind}{r:List (aj×NameKind)}{cs:List (aj×Yt)}:fX cells ((n,k)::r) cs=fX cells r (if k== .free then(n,(cells.lookup n).getD 0)::cs else cs):=rfl
theorem Ur{scope:Scope}{env:cH}(h:∀y∈scope.names,y.2= .free->∃c,env.cells.lookup y.1=Ya c):closureFor scope env=pure (fX env.cells scope.names []):=by
 unfold closureFor;have key:∀(names:List (aj×NameKind)) (cs:List (aj×Yt)),(∀y∈names,y.2= .free->∃c,env.cells.lookup y.1=Ya c) ->
   (forIn names cs λx r=>match x with|(name,kind)=>if(kind==NameKind.free)=true then do let c ←cellOf env name;pure (ForInStep.yield ((name,c)::r))else pure (ForInStep.yield r):lK (List (aj×Yt)))=pure (fX env.cells names cs):=by
  intro names
  induction names with
  |nil=>intro cs _;rfl|cons y r ih=>
   intro cs hy;obtain⟨n,k⟩:=y;rw[List.forIn_cons];by_cases hk:k= .free
   .subst hk;obtain⟨c,hc⟩:=hy (n,.free) Yl rfl;have e1:cellOf env n=pure c:=by unfold cellOf;rw[hc]
    simp only[beq_self_eq_true,if_true,e1,pure_bind];rw[ih _ λz hz=>hy z (Yg _ hz)];rw[HW,hc];rfl
   .have hb:(k==NameKind.free)=false:=by simpa using hk
    simp only[hb,Gk,if_false,pure_bind];rw[ih _ λz hz=>hy z (Yg _ hz)];rw[HW,hb];rfl
 have:=key scope.names [] h
 first
  |exact this
  |(simp only[bind_pure];exact this)
theorem ZpA{cells:List (aj×Yt)}{x:aj}{c:Yt}:∀(names:List (aj×NameKind)) (cs:List (aj×Yt)),(∀y∈names,y.2= .free->∃c,cells.lookup y.1=Ya c)->(fX cells names cs).lookup x=Ya c->cs.lookup x=Ya c\/cells.lookup x=Ya c:=by
 intro names
 induction names with
 |nil=>intro cs _ h;exact .inl h|cons y r ih=>
  intro cs hy h;obtain⟨n,k⟩:=y;rw[HW]at h;rcases ih _ (λz hz=>hy z (Yg _ hz)) h with q|q
  .by_cases hk:k= .free
   .subst hk;obtain⟨c0,hc⟩:=hy (n,.free) Yl rfl;simp only[beq_self_eq_true,if_true,hc,Option.getD_some,jh]at q;cases hx:x==n with
    |true=>
     simp only[hx]at q;cases q;have:x=n:=by simpa using hx
     subst this;exact .inr hc
    |false=>simp only[hx]at q;exact .inl q
   .have hb:(k==NameKind.free)=false:=by simpa using hk
    simp only[hb,Gk,if_false]at q;exact .inl q
  .exact .inr q
theorem Znr{cells:List (aj×Yt)}{x:aj}:∀(names:List (aj×NameKind)) (cs:List (aj×Yt)),(cs.lookup x).isSome=true->((fX cells names cs).lookup x).isSome=true:=by
 intro names
 induction names with
 |nil=>intro cs h;exact h|cons y r ih=>
  intro cs h;obtain⟨n,k⟩:=y;rw[HW];refine ih _ ?_;split
  .rw[jh];split
   .rfl
   .exact h
  .exact h
theorem Zkr{cells:List (aj×Yt)}{x:aj}:∀(names:List (aj×NameKind)) (cs:List (aj×Yt)),(x,NameKind.free)∈names->((fX cells names cs).lookup x).isSome=true:=by
 intro names
 induction names with
 |nil=>intro cs h;cases h|cons y r ih=>
  intro cs h;obtain⟨n,k⟩:=y;rw[HW];rcases Yv.mp h with e|h
  .cases e
   refine Znr _ _ ?_;simp
  .exact ih _ h
noncomputable def fP(X:Cx)(scope:Scope)(N':List aj)(C:Yt)(cl:List (aj×Yt))(s:Yf)(H:Hp)(ex:List Yt):Cx:={X with N:=N',s₀:=s,H₀:=H,env:=FW scope cl C X.env,outer:=X.stack,stack:=X.stack,ex:=ex,fn:=λ_=>false,pn:=[],xe:=λ_ _=>False}
noncomputable def Us(N N':List aj)(scope:Scope):Bool:=(jj N.length).all λi=>match N'[i]? with
 |some x=>(scope.names.lookup x).isNone|| (decide (N[i]?=Ya x)&&decide (scope.names.lookup x=Ya .free))|none=>false
def qT(X:Cx)(ifs:List Expr)(ts:List E3):Prop:=∀(pins:List (Yt×aD)) (s:Yf) (σ:St) (H:Hp) (Q:Bool->Hp->Prop),Inv X pins σ H s ->
 (∃ι M env,aB X.K H ι M/\bJ X.K H ι env σ/\match uY ts env M with| .ok b M'=>∀H' ι',Ext X.K H ι H' ι'->aB X.K H' ι' M'->Q b H'|_=>False) ->
 ao (aq X.prog X.w) X.A (forIn ifs true λc r=>if r=true then do let ok ←isTrue c X.env (aF c X.env);pure (ForInStep.yield ok)else pure (ForInStep.yield r)) (TP X pins σ Q) X.xe s
theorem oZ:qT X [] []:=λpins s σ H Q I ⟨ι,M,env,S,E,h⟩=>wpAny_tests_nil ⟨H,I,h H ι Ext.refl S⟩
theorem Ztw{c:Expr}(hc:CT X c f):qT X [c] [f]:=λpins s σ H Q I ak=>by
 obtain⟨ι,M,env,S,E,h⟩:=ak;refine wpAny_tests_one (hc pins s σ H Q I ⟨ι,M,env,S,E,?_⟩);rw[Hr]at h;cases q:f env M with
 | ok d M1=>
  rw[q]at h;cases d with
  |bl b=>cases b with
   |true=>exact h|false=>exact h
  |_=>exact h.elim
 |exc x M1=>rw[q]at h;exact h.elim|bad=>rw[q]at h;exact h.elim
section
variable {prog:Y8} {w:aO} {A:bC} {R:pF->Yf->Prop} {s:Yf}
theorem Zhw{elt target iter:Expr}{ifs:List Expr}{scope:Scope}{pos:aP}{it acc:Ye}{env:cH}(I:Nat->Yf->Prop)(turn:∀n s,I n s->ao (aq prog w) A (vZ it) (λr s₁=>match r with
   |none=>R (.ok .next) s₁|some v=>ao (aq prog w) A (Fy target it v) (λ_ s₁'=>ao (aq prog w) A (n6 target env v) (λ_ s₂=>
     ao (aq prog w) A (forIn ifs true λc r=>if r=true then do let ok ←isTrue c env (aF c env);pure (ForInStep.yield ok)else pure (ForInStep.yield r)) (λok s₃=>
      if ok=true then ao (aq prog w) A (aF elt env) (λx s₄=>ao (aq prog w) A (call (.builtin "list.append") [acc,x]) (λ_ s₅=>∃m,m<n/\I m s₅) (λ_ _=>False) s₄) (λ_ _=>False) s₃
      else∃m,m<n/\I m s₃) (λ_ _=>False) s₂) (λ_ _=>False) s₁') (λ_ _=>False) s₁) (λ_ _=>False) s)(n:Nat)(h:I n s):jP (aq prog w) A (.compLoop (.ListComp elt [⟨target,iter,ifs,0⟩] scope pos) 0 it acc env) R s:=by
 refine codeAny_loop rfl I (λn s hI=>?_) n h;show ao _ A ((compTurn (.ListComp elt [⟨target,iter,ifs,0⟩] scope pos) 0 it acc env).onRaise (λx=>do FT x env;theTreesLotGoes x)) _ _ s;refine wpAny_noted ?_;rw[compTurn_list];refine Yc (uD (Yc (eY (turn n s hI) (λr s₁ h₁=>?_) λ_ _ h'=>dX h')));cases r with
 |none=>exact Yp h₁|some v=>
  refine Yc (eY h₁ (λ_ s₁' h₁'=>?_) λ_ _ h'=>dX h');refine Yc (eY h₁' (λ_ s₂ h₂=>Yc (eY h₂ (λok s₃ h₃=>?_) λ_ _ h'=>dX h')) λ_ _ h'=>dX h');cases ok with
  |false=>exact Yp ⟨rfl,h₃⟩|true=>exact Yc (Yc (eY h₃ (λx s₄ h₄=>Yc (eY h₄ (λ_ s₅ h₅=>Yp (Yp ⟨rfl,h₅⟩)) λ_ _ h'=>dX h')) λ_ _ h'=>dX h'))
end
theorem Ut{env:cH}{x:aj}{k:NameKind}:∀{names:List (aj×NameKind)},(names.map λ(n,k)=>if(k==NameKind.free&&env.scope.kind== .function&&env.kindOf n==Ya .cell)then(n,NameKind.cell)else(n,k)).lookup x=Ya k ->
  ∃k0,names.lookup x=Ya k0/\(k0=k\/(k0= .free/\k= .cell)):=by
 intro names
 induction names with
 |nil=>intro h;simp at h|cons y r ih=>
  intro h;obtain⟨n,k1⟩:=y;rw[Yw]at h;cases hx:x==n with
  | true=>
   refine⟨k1,by simp[jh,hx],?_⟩;by_cases hc:(k1==NameKind.free&&env.scope.kind== .function&&env.kindOf n==Ya .cell)=true
   .simp only[if_pos hc,jh,hx]at h;cases h;simp only[Y3,beq_iff_eq]at hc;exact .inr ⟨hc.1.1,rfl⟩
   .simp only[if_neg hc,jh,hx]at h;cases h;exact .inl rfl
  | false=>
   have h':(r.map λ(n,k)=>if(k==NameKind.free&&env.scope.kind== .function&&env.kindOf n==Ya .cell)then(n,NameKind.cell)else(n,k)).lookup x=Ya k:=by
    by_cases hc:(k1==NameKind.free&&env.scope.kind== .function&&env.kindOf n==Ya .cell)=true
    .simp only[if_pos hc,jh,hx]at h;exact h
    .simp only[if_neg hc,jh,hx]at h;exact h
   obtain⟨k0,e,q⟩:=ih h';exact⟨k0,by simp[jh,hx,e],q⟩
theorem ZlQ{env:cH}{x:aj}:∀{names:List (aj×NameKind)},names.lookup x=Ya .free ->
  (names.map λ(n,k)=>if(k==NameKind.free&&env.scope.kind== .function&&env.kindOf n==Ya .cell)then(n,NameKind.cell)else(n,k)).lookup x=Ya .free\/
  (names.map λ(n,k)=>if(k==NameKind.free&&env.scope.kind== .function&&env.kindOf n==Ya .cell)then(n,NameKind.cell)else(n,k)).lookup x=Ya .cell:=by
 intro names
 induction names with
 |nil=>intro h;simp at h|cons y r ih=>
  intro h;obtain⟨n,k1⟩:=y;rw[Yw];cases hx:x==n with
  |true=>
   simp only[jh,hx]at h;cases h;by_cases hc:(NameKind.free==NameKind.free&&env.scope.kind== .function&&env.kindOf n==Ya .cell)=true
   .simp only[if_pos hc,jh,hx];exact .inr trivial
   .simp only[if_neg hc,jh,hx];exact .inl trivial
  |false=>
   simp only[jh,hx]at h;by_cases hc:(k1==NameKind.free&&env.scope.kind== .function&&env.kindOf n==Ya .cell)=true
   .simp only[if_pos hc,jh,hx];exact ih h
   .simp only[if_neg hc,jh,hx];exact ih h
section
variable {X:Cx} {pins:List (Yt×aD)} {σ:St} {H:Hp} {s:Yf} {scope:Scope} {N':List aj} {own:Nat} {fp:List Yt}
theorem Zl4(I:Inv X pins σ H s)(hk:scope.kind= .function)(hcell:∀y∈scope.names,y.2≠ .cell)(hfree:∀y∈scope.names,y.2= .free->X.env.kindOf y.1=Ya .cell\/X.env.kindOf y.1=Ya .free)(hN:N'.length=X.N.length+own)(hv:Us X.N N' scope=true)(hfp:∀b∈fp,iu X pins H b)(hlt:∀b∈fp,b<s.heap.objs.size){h1:aC}{tk:Nat}(hns:h1.Ns s.heap.objs.size λ_=>Yk)(keep:∀b o,s.heap.get? b=Ya o->h1.get? b=Ya o):
  Inv (fP X scope N' s.heap.objs.size (fX X.env.cells scope.names []) s H fp) [] (σ++Ym own Yk) H {s with heap:=h1,toks:=tk}:=by
 have hc0:∀y∈scope.names,y.2= .free->∃c,X.env.cells.lookup y.1=Ya c:=λy hy e=>I.ok.has y.1 (hfree y hy e);have sub:∀x c,(fX X.env.cells scope.names []).lookup x=Ya c->X.env.cells.lookup x=Ya c:=λx c h=>by
  rcases ZpA scope.names [] hc0 h with q|q
  .simp at q
  .exact q
 have cellK:∀{c:Yt} {v:Option Ye},s.heap.IsCell c v->h1.IsCell c v:=λ⟨o,ho,hd⟩=>⟨o,keep _ o ho,hd⟩;refine⟨⟨I.ok.mod,hk,I.ok.glob,I.ok.blt,Yq _,λx y c h1 h2=>I.ok.inj x y c (sub x c h1) (sub y c h2),λx hx=>?_,λx c h=>?_,I.ok.hd,I.ok.frames,.inl rfl,λb hb=>⟨dG (hlt b hb),λx c h=>(hfp b hb).2.2.2.2.1 x c (sub x c h)⟩,
   I.bs,Yi I.ok.oJ I.sz,λb o e hb=>?_,λb hb hz=>?_,I.stack,I.Pu⟩,rfl,I.bare,Un.kept keep,⟨_,hns,λi x v h1 h2 h3=>?_⟩,λx c h=>?_,I.hok.fresh (Yq _),λx c h=>I.jY x c (sub x c h),
  λp hp=>absurd (show p∈([]:List (Yt×aD))from hp) (by simp),I.hok.kept keep,?_⟩
 .have hx':(vX scope X.env).names.lookup x=Ya .cell\/(vX scope X.env).names.lookup x=Ya .free:=hx;have:scope.names.lookup x=Ya .free:=by
   rcases hx' with hx'|hx'
   .obtain⟨k0,e,q⟩:=Ut (names:=scope.names) hx';rcases q with q|⟨q,_⟩
    .subst q;exact absurd rfl (hcell _ (uy e))
    .rw[e,q]
   .obtain⟨k0,e,q⟩:=Ut (names:=scope.names) hx';rcases q with q|⟨_,q⟩
    .rw[e,q]
    .cases q
  exact Qh.mp (Zkr scope.names [] (uy this))
 .cases h
 .obtain⟨_,_,_,q,_⟩:=hfp b hb;rcases q with q|q
  .exact I.ok.ye b o e q
  .exact absurd (Y7 (Y2 e) (Yi I.ok.oJ q)) (wA _)
 .have hz':b∈frs X.stack:=hz;obtain⟨_,q1,q2,_⟩:=hfp b hb;rcases Yv.mp (I.A_ b hz')with e|e
  .exact q1 e
  .exact q2 e
 .have hi:i<σ.length:=by
   by_cases hi:i<σ.length
   .exact hi
   .rw[yC (ir hi),J9]at h2;split at h2<;>cases h2
  rw[Yx hi]at h2;have Gx:i<X.N.length:=by rw[←I.len];exact hi
  have hN':N'[i]?=Ya x:=h1;have vq:=ig.mp hv i (Rc.mpr Gx);rw[hN']at vq;have h3':(vX scope X.env).names.lookup x=Ya .local\/(vX scope X.env).names.lookup x=Ya .cell\/(vX scope X.env).names.lookup x=Ya .free:=h3;have some_of:∃k0,scope.names.lookup x=Ya k0:=by rcases h3' with q|q|q<;>(obtain⟨k0,e,_⟩:=Ut (names:=scope.names) q;exact⟨k0,e⟩)
  obtain⟨k0,ek⟩:=some_of;simp only[ek,Option.isNone_some,Ynb,Y3,decide_eq_true_eq]at vq;obtain⟨vq1,vq2⟩:=vq;cases vq2;have hkind:=hfree (x,.free) (uy ek) rfl;obtain⟨m,hn,hl⟩:=I.loc;have AcQ:Lb X.env.scope x:=by
   rcases hkind with q|q
   .exact .inr (.inl q)
   .exact .inr (.inr q)
  obtain⟨u,ru,lk⟩:=hl i x v vq1 h2 AcQ;refine⟨u,ru,?_⟩;rcases lk with⟨kl,_⟩|⟨_,c,ec,ic⟩
  .rcases hkind with q|q<;>(rw[q]at kl;cases kl)
  .have hkk:(FW scope (fX X.env.cells scope.names []) s.heap.objs.size X.env).kindOf x=Ya .cell\/(FW scope (fX X.env.cells scope.names []) s.heap.objs.size X.env).kindOf x=Ya .free:=by
    rcases ZlQ (env:=X.env) ek with q|q
    .exact .inr q
    .exact .inl q
   obtain⟨c',ec'⟩:=Qh.mp (Zkr (cells:=X.env.cells) scope.names [] (uy ek));have e2:=sub x c' ec';rw[ec]at e2;cases e2;exact .inr ⟨hkk,c,ec',cellK ic⟩
 .obtain⟨v,ic⟩:=I.cell x c (sub x c h);exact⟨v,cellK ic⟩
 .show(σ++Ym own Yk).length=N'.length;rw[Yj,mV,I.len,hN]
theorem bJ.grow{H:Hp}{σ:St}(E:bJ K H ι env σ)(n:Nat):bJ K H ι (env++Ym n Yk) (σ++Ym n Yk):=by
 refine⟨by simp[E.1],λi d h=>?_⟩;by_cases hi:i<env.length
 .rw[Yx hi]at h;obtain⟨v,e,r⟩:=E.2 i d h;exact⟨v,by rw[Yx (by rw[←E.1];exact hi)];exact e,r⟩
 .rw[yC (ir hi),J9]at h;split at h<;>cases h
end
section
structure Cb where
 Y:Cx
 fp:List Yt
 tn:Nat->aC->Prop
 aW:fW
 H2:Hp
 ι2:List Yt
 Q:VK
 g:G3
 ts:List E3
 f:E3
 nM:Nat
 acc:Yt
inductive Uu(P:Cb)(n:Nat)(s':Yf):Prop
 | mk (k:Nat) (σ5:St) (H5:Hp) (ι5:List Yt) (M5:Store) (uq:Zz) (I5:Inv P.Y [] σ5 H5 s') (lW:P.tn k s'.heap) (pJ:∀b∈P.fp,H5 b=Yk) (hn:P.aW.items.length-k=n) (hk:k<=P.aW.items.length)
   (x5:Ext P.Y.K P.H2 P.ι2 H5 ι5) (S5:aB P.Y.K H5 ι5 M5) (E5:bJ P.Y.K H5 ι5 uq σ5) (hι:ι5[P.nM]?=Ya P.acc) (h5:Zv P.Y.K H5 ι5 P.Q (iV P.aW P.g P.ts P.f P.nM (P.aW.items.drop k) uq M5))
def Mu(P:Cb)(n:Nat)(s':Yf):Prop:=∃m,m<n/\Uu P m s'
section
noncomputable local instance (priority:=100000) Ada (p:Prop):Decidable p:=Acz p
noncomputable def Mv(P:Cb)(k:Nat)(env:Zz)(e:D)(M2:Store):R3 D:=match M2[P.nM]? with
 |some (.lst x)=>if x.length<SZ then iV P.aW P.g P.ts P.f P.nM (P.aW.items.drop (k+1)) env (M2.set P.nM (.lst (x++[e])))else .bad|_=>.bad
noncomputable def Uv(P:Cb)(k:Nat)(env:Zz)(b:Bool)(M1:Store):R3 D:=if b then(P.f env M1).bind (Mv P k env)else iV P.aW P.g P.ts P.f P.nM (P.aW.items.drop (k+1)) env M1
end
def cbF(P:Cb)(n:Nat)(xv:Ye)(s:Yf):Prop:=ao (aq P.Y.prog P.Y.w) P.Y.A (call (.builtin "list.append") [.ref P.acc,xv]) (λ_ s'=>Mu P n s') P.Y.xe s
def cbO(P:Cb)(elt:Expr)(n:Nat)(ok:Bool)(s:Yf):Prop:=if ok=true then ao (aq P.Y.prog P.Y.w) P.Y.A (aF elt P.Y.env) (cbF P n) P.Y.xe s else Mu P n s
def cbS(P:Cb)(elt:Expr)(ifs:List Expr)(n:Nat)(s:Yf):Prop:=ao (aq P.Y.prog P.Y.w) P.Y.A (forIn ifs true λc r=>if r=true then do let ok ←isTrue c P.Y.env (aF c P.Y.env);pure (ForInStep.yield ok)else pure (ForInStep.yield r)) (cbO P elt n) P.Y.xe s
def cbA(P:Cb)(tg elt:Expr)(ifs:List Expr)(n:Nat)(u:Ye)(s:Yf):Prop:=ao (aq P.Y.prog P.Y.w) P.Y.A (n6 tg P.Y.env u) (λ_=>cbS P elt ifs n) P.Y.xe s
def cbN(P:Cb)(tg elt:Expr)(ifs:List Expr)(it:Yt)(n:Nat)(F:Yf->Prop)(r:Option Ye)(s:Yf):Prop:=match r with
 |none=>F s|some v=>ao (aq P.Y.prog P.Y.w) P.Y.A (Fy tg (.ref it) v) (λ_=>cbA P tg elt ifs n v) P.Y.xe s
variable {P:Cb} {tg elt:Expr} {ifs:List Expr} {J:It} {it:Yt} {k:Nat} {h7:aC} {σ:St} {H H':Hp} {s:Yf} {ι:List Yt} {M M1:Store} {env:Zz}
theorem Zo6(T:Turn P.Y.prog P.Y.w P.Y.K tg J P.fp it P.tn)(k_:P.tn (k+1) h7)(hlt:k<P.aW.items.length)(I':Inv P.Y ([]++uQ P.fp h7) σ H s)(x:Ext P.Y.K P.H2 P.ι2 H ι)(S:aB P.Y.K H ι M)(E:bJ P.Y.K H ι env σ)(hι:ι[P.nM]?=Ya P.acc)(h:Zv P.Y.K H ι P.Q (iV P.aW P.g P.ts P.f P.nM (P.aW.items.drop (k+1)) env M)):Mu P (P.aW.items.length-k) s:=⟨P.aW.items.length-(k+1),by omega,⟨k+1,σ,H,ι,M,env,I'.Fg,T.keep _ _ _ k_ λb hb o e=>(I'.pin (b,o) (Y5 _ (Y5 _ (BX hb e)))).1,λb hb=>(T.obj _ _ k_ b hb).elim λo e=>(I'.pin (b,o) (Y5 _ (Y5 _ (BX hb e.1)))).2.1,rfl,hlt,x,S,E,hι,h⟩⟩
theorem ZxX:Uv P k env true M=(P.f env M).bind (Mv P k env):=if_pos rfl
theorem ZyK:Uv P k env false M=iV P.aW P.g P.ts P.f P.nM (P.aW.items.drop (k+1)) env M:=if_neg (by decide)
theorem Zv.iff{H:Hp}{ι:List Yt}{Q:VK}{c:Prop}{dc:Decidable c}(h:Zv K H ι Q (if c then r else .bad)):c/\Zv K H ι Q r:=by
 by_cases hc:c
 .rw[if_pos hc]at h;exact⟨hc,h⟩
 .rw[if_neg hc]at h;exact h.elim
theorem ZvT{xv:Ye}(T:Turn P.Y.prog P.Y.w P.Y.K tg J P.fp it P.tn)(k_:P.tn (k+1) h7)(hlt:k<P.aW.items.length)(I':Inv P.Y ([]++uQ P.fp h7) σ H s)(r:RelV v xv)(x:Ext P.Y.K P.H2 P.ι2 H ι)(S:aB P.Y.K H ι M)(E:bJ P.Y.K H ι env σ)(rd:Rep P.Y.K H ι d v)(hι:ι[P.nM]?=Ya P.acc)(hm:M[P.nM]?=Ya (.lst xs))(hz:xs.length<SZ)(h:Zv P.Y.K H ι P.Q (iV P.aW P.g P.ts P.f P.nM (P.aW.items.drop (k+1)) env (M.set P.nM (.lst (xs++[d]))))):
  cbF P (P.aW.items.length-k) xv s:=by
 obtain⟨vs,ev,rvs⟩:=S.obj _ _ _ hm hι;obtain⟨x11,Uw⟩:=S.vN (.inr (.inl ⟨_,ev⟩)) hι (rvs.append (Zw.cons rd Zw.nil));refine aH (Q':=λ_ s'=>Mu P (P.aW.items.length-k) s') (Tu _ s σ H (.ref P.acc) [v] (.ref P.acc) [xv] (λ_ H'=>H'=upd H P.acc (.lst (vs++[v]))) I' rfl (.cons r .nil) ⟨_,vs,v,rfl,rfl,ev,by rw[rvs.length];exact Y7 hz jK,rfl⟩) λ_ Mw ak=>?_;obtain⟨_,H11,Mx,_,eH⟩:=ak;rw[eH]at Mx;exact Zo6 T k_ hlt Mx (x.trans x11) Uw (E.mono x11) (x11.pre _ _ hι) (h.up x11)
theorem Zwu(T:Turn P.Y.prog P.Y.w P.Y.K tg J P.fp it P.tn)(helt:C3 P.Y elt P.f)(k_:P.tn (k+1) h7)(hlt:k<P.aW.items.length)(I':Inv P.Y ([]++uQ P.fp h7) σ H s)(x:Ext P.Y.K P.H2 P.ι2 H ι)(S:aB P.Y.K H ι M)(E:bJ P.Y.K H ι env σ)(hι:ι[P.nM]?=Ya P.acc)(h:Zv P.Y.K H ι P.Q ((P.f env M).bind (Mv P k env))):
  ao (aq P.Y.prog P.Y.w) P.Y.A (aF elt P.Y.env) (cbF P (P.aW.items.length-k)) P.Y.xe s:=by
 obtain⟨d,HX,e10,h10⟩:=Zv.bind h;refine aH (Q':=cbF P (P.aW.items.length-k)) (helt _ s σ H (λv H'=>∃qU,Ext P.Y.K H ι H' qU/\aB P.Y.K H' qU HX/\Rep P.Y.K H' qU d v) I' ⟨ι,M,env,S,E,by rw[e10];exactλv H' ι' x' S' r'=>⟨ι',x',S',r'⟩⟩) λxv Mz ak=>?_;obtain⟨v,Ux,Uy,r10,qU,x10,MF,rd⟩:=ak;unfold Mv at h10;cases hm:HX[P.nM]? with
 |none=>rw[hm]at h10;exact h10.elim|some o=>
  rw[hm]at h10;cases o with
  |dct _=>exact h10.elim|cP _=>exact h10.elim|ins _ _=>exact h10.elim|lst xs=>exact ZvT T k_ hlt Uy r10 (x.trans x10) MF (E.mono x10) rd (x10.pre _ _ hι) hm (Zv.iff h10).1 ((Zv.iff h10).2.up x10)
theorem ZvC(T:Turn P.Y.prog P.Y.w P.Y.K tg J P.fp it P.tn)(hts:qT P.Y ifs P.ts)(helt:C3 P.Y elt P.f)(k_:P.tn (k+1) h7)(hlt:k<P.aW.items.length)(I':Inv P.Y ([]++uQ P.fp h7) σ H s)(x:Ext P.Y.K P.H2 P.ι2 H ι)(S:aB P.Y.K H ι M)(E:bJ P.Y.K H ι env σ)(hι:ι[P.nM]?=Ya P.acc)(h:Zv P.Y.K H ι P.Q ((uY P.ts env M).bind (Uv P k env))):
  cbS P elt ifs (P.aW.items.length-k) s:=by
 obtain⟨b,M9,e9,h9⟩:=Zv.bind h;refine aH (Q':=cbO P elt (P.aW.items.length-k)) (hts _ s σ H (λb' H'=>b'=b/\∃ι9,Ext P.Y.K H ι H' ι9/\aB P.Y.K H' ι9 M9) I' ⟨ι,M,env,S,E,by rw[e9];exactλH' ι' x' S'=>⟨rfl,ι',x',S'⟩⟩) λb' s9 ak=>?_;obtain⟨H9,I9,eb,ι9,x9,S9⟩:=ak;rw[←eb]at h9;cases b' with
 |false=>exact Zo6 T k_ hlt I9 (x.trans x9) S9 (E.mono x9) (x9.pre _ _ hι) (Zv.up x9 (ZyK▸h9))|true=>exact Zwu T helt k_ hlt I9 (x.trans x9) S9 (E.mono x9) (x9.pre _ _ hι) (Zv.up x9 (ZxX▸h9))
theorem Zyj(T:Turn P.Y.prog P.Y.w P.Y.K tg J P.fp it P.tn)(hc:P.Y.calm=true)(hfp:∀{H':Hp},(∀b∈P.fp,H' b=Yk)->∀b∈P.fp,iu P.Y [] H' b)(hg:CG P.Y tg P.g)(hts:qT P.Y ifs P.ts)(helt:C3 P.Y elt P.f)(hlt:k<P.aW.items.length)(I5:Inv P.Y [] σ H s)(lW:P.tn k s.heap)(pJ:∀b∈P.fp,H b=Yk)(x:Ext P.Y.K P.H2 P.ι2 H ι)(S:aB P.Y.K H ι M)(E:bJ P.Y.K H ι env σ)(hι:ι[P.nM]?=Ya P.acc)(ok:tG P.Y.K P.H2 P.ι2 P.aW J)(h:Zv P.Y.K H ι P.Q (iV P.aW P.g P.ts P.f P.nM (P.aW.items[k]::P.aW.items.drop (k+1)) env M))(F:Yf->Prop):
  ao (aq P.Y.prog P.Y.w) P.Y.A (vZ (.ref it)) (cbN P tg elt ifs it (P.aW.items.length-k) F) P.Y.xe s:=by
 obtain⟨lk,h⟩:=Zv.iff h;obtain⟨go,yl⟩:=(ok k H ι M x S lk).1 _ (j7 hlt);cases eg:P.g P.aW.items[k] env with
 |none=>rw[eg]at h;exact h.elim|some ur=>rw[eg]at h;refine aH (T.item P.Y rfl rfl rfl hc k [] s σ H P.Y.xe I5 (hfp pJ) lW go) λr s6 ak=>?_;obtain⟨u,hr,h6⟩:=ak;rw[hr];refine aH (Q':=λ_=>cbA P tg elt ifs (P.aW.items.length-k) u) h6 λ_ s7 ak=>?_;obtain⟨y,H7,I7,r7,y7,k_,MJ⟩:=ak;obtain⟨e7,rx⟩:=yl y H7 y7;rw[e7]at I7 MJ;refine aH (Q':=λ_=>cbS P elt ifs (P.aW.items.length-k)) (hg _ s7 σ H y u (λσ' H'=>H'=H/\bJ P.Y.K H ι ur σ') (I7.pinned (hfp MJ) (T.obj _ _ k_)) r7 ⟨ι,M,env,_,ur,S,E,rx,eg,λσ' E'=>⟨rfl,E'⟩⟩) λ_ s8 ak=>?_;obtain⟨σ8,H8,I8,e8,E8⟩:=ak;rw[e8]at I8;exact ZvC T hts helt k_ hlt I8 x S E8 hι h
theorem Zuo(T:Turn P.Y.prog P.Y.w P.Y.K tg J P.fp it P.tn)(hc:P.Y.calm=true)(hfp:∀{H':Hp},(∀b∈P.fp,H' b=Yk)->∀b∈P.fp,iu P.Y [] H' b)(I5:Inv P.Y [] σ H s)(lW:P.tn P.aW.items.length s.heap)(pJ:∀b∈P.fp,H b=Yk)(x:Ext P.Y.K P.H2 P.ι2 H ι)(S:aB P.Y.K H ι M)(hι:ι[P.nM]?=Ya P.acc)(ok:tG P.Y.K P.H2 P.ι2 P.aW J)(h:Zv P.Y.K H ι P.Q (iV P.aW P.g P.ts P.f P.nM [] env M)){F:Yf->Prop}(hF:∀s6,Inv P.Y [] σ H s6->P.Q (.ref P.acc) H->F s6):
  ao (aq P.Y.prog P.Y.w) P.Y.A (vZ (.ref it)) (cbN P tg elt ifs it n F) P.Y.xe s:=by
 obtain⟨lk,h⟩:=Zv.iff h;refine aH (T.done P.Y rfl rfl rfl hc _ [] s σ H P.Y.xe I5 (hfp pJ) lW ((ok _ H ι M x S lk).2 rfl)) λr s6 ak=>?_;rw[ak.1];exact hF s6 ak.2 (h _ H ι Ext.refl S (Rep.ref hι))
end
variable{it:Yt}{pins:List (Yt×aD)}{E:Ye->Yf->Prop}{fp:List Yt}{s:Yf}
section
variable {X:Cx} {elt tg iter:Expr} {ifs:List Expr} {scope:Scope} {pos:aP} {i:I3} {own:Nat} {g:G3} {ts:List E3} {f:E3} {N':List aj}
structure zG(X:Cx)(scope:Scope)(N':List aj)(own:Nat):Prop where
 kind:scope.kind= .function
 cell:∀y∈scope.names,y.2≠ .cell
 free:∀y∈scope.names,y.2= .free->X.env.kindOf y.1=Ya .cell\/X.env.kindOf y.1=Ya .free
 names:∀y∈scope.names,y.2= .local->scope.names.lookup y.1=Ya .local
 len:N'.length=X.N.length+own
 vis:Us X.N N' scope=true
theorem ZtN{P:Cb}{J:It}{F:Yf->Prop}(T:Turn P.Y.prog P.Y.w P.Y.K tg J P.fp it P.tn)(hc:P.Y.calm=true)(hfp:∀{H':Hp},(∀b∈P.fp,H' b=Yk)->∀b∈P.fp,iu P.Y [] H' b)(hb:CG P.Y tg P.g/\qT P.Y ifs P.ts/\C3 P.Y elt P.f)(ok:tG P.Y.K P.H2 P.ι2 P.aW J)(z:Uu P n s)(fin:∀σ H s',Inv P.Y [] σ H s'->P.Q (.ref P.acc) H->F s'):ao (aq P.Y.prog P.Y.w) P.Y.A (vZ (.ref it)) (cbN P tg elt ifs it n F) P.Y.xe s:=by
 obtain⟨k,σ5,H5,ι5,M5,uq,I5,lW,pJ,hn,hk,x5,S5,E5,hι,h5⟩:=z;by_cases hlt:k<P.aW.items.length
 .rw[yD hlt]at h5;exact hn▸Zyj T hc hfp hb.1 hb.2.1 hb.2.2 hlt I5 lW pJ x5 S5 E5 hι ok h5 _
 .rw[Y6 hk (ir hlt)]at lW h5;rw[Gd]at h5;exact Zuo T hc hfp I5 lW pJ x5 S5 hι ok h5 λs6 I6 q=>fin σ5 H5 s6 I6 q
theorem ZmH{s3:Yf}{H2 H3:Hp}{ι2 ι3:List Yt}{M3:Store}{nM:Nat}{D:Yt}{tn:Nat->aC->Prop}{J:It}{aW:fW}{Q:VK}(O:zG X scope N' own)(hc:X.calm=true)(hb:∀C cl s H ex,CG (fP X scope N' C cl s H ex) tg g/\qT (fP X scope N' C cl s H ex) ifs ts/\C3 (fP X scope N' C cl s H ex) elt f)(T:Turn X.prog X.w X.K tg J fp it tn)(st3:tn 0 s3.heap)(vO:∀b∈fp,b<s3.heap.objs.size)(I3:Inv X pins σ H3 s3)(mQ:∀b∈fp,iu X pins H3 b)(x3:Ext X.K H2 ι2 H3 ι3)(S3:aB X.K H3 ι3 M3)(E2:bJ X.K H3 ι3 env σ)(ok:tG X.K H2 ι2 aW J)(h:Zv X.K H3 ι3 Q (iV aW g ts f nM aW.items (env++Ym own Yk) M3))(hι:ι3[nM]?=Ya D)(RR:Ye->Yt->pF->Yf->Prop)(fin:∀(acc C:Yt) (s':Yf) (m:aj->Option Ye) (H':Hp),s'.heap.Ns C m->iu X pins H' C->Inv X pins σ H' s'->Q (.ref acc) H'->RR (.ref acc) C (.ok .next) s'):
  ao (aq X.prog X.w) X.A (QH scope X.env.globals (fX X.env.cells scope.names []) [] X.env.qual Yk .none (Ya X.env)) (λcenv s₄=>jP (aq X.prog X.w) X.A (.compStart (.ListComp elt [⟨tg,iter,ifs,0⟩] scope pos) 0 (.ref it) (.ref D) {cenv with scope:=vX scope X.env}) (RR (.ref D) cenv.locals) s₄) E s3:=by
 refine X6 O.cell (by intro y hy;cases hy) (λh4 hns hsb=>?_) O.kind;have Fi:∀b o,s3.heap.get? b=Ya o->h4.get? b=Ya o:=λb o e=>hsb.extBut b o (dG (Y2 e)) (Yh _ e);have I4:=Zl4 (own:=own) (N':=N') (tk:=s3.toks+([]:List (aj×Ye)).length) I3 O.kind O.cell O.free O.len O.vis mQ vO hns Fi;have HY:tn 0 h4:=T.keep _ _ _ st3 λb hb o e=>Fi b o e;have L:=Zhw (prog:=X.prog) (w:=X.w) (A:=X.A) (R:=RR (.ref D) s3.heap.objs.size) (scope:=scope) (pos:=pos) (iter:=iter) (elt:=elt) (target:=tg) (ifs:=ifs) (env:=FW scope (fX X.env.cells scope.names []) s3.heap.objs.size X.env) (Uu ⟨fP X scope N' s3.heap.objs.size (fX X.env.cells scope.names []) s3 H3 fp,fp,tn,aW,H2,ι2,Q,g,ts,f,nM,D⟩) (λn s5 z=>ZtN (P:=⟨fP X scope N' s3.heap.objs.size (fX X.env.cells scope.names []) s3 H3 fp,fp,tn,aW,H2,ι2,Q,g,ts,f,nM,D⟩) T hc
  (λhn b hb=>⟨hn b hb,dG (vO b hb),λhz=>I4.ok.vM b hb hz,.inl hb,λx c hx=>(I4.ok.BV b hb).2 x c hx,λp hp=>absurd (show p∈([]:List (Yt×aD))from hp) (by simp)⟩)
  (hb _ _ _ _ _) ok z
  λσ' H' s6 I6 q=>I6.loc.elim λm6 Uz=>fin _ _ s6 m6 H' Uz.1 (I3.ul (Yq _) I6.free) (I3.call' (ch:=fp) I6.os I6.base I6.hok I6.bare λb hb=>⟨(mQ b hb).2.2.2.1,(mQ b hb).2.1,(mQ b hb).2.2.2.2.1,(mQ b hb).2.2.2.2.2⟩) q) _
  ⟨0,_,_,_,_,_,I4,HY,λb hb=>(mQ b hb).1,rfl,fL _,x3,S3,E2.grow own,hι,h⟩
 exact XX L (T.self _ 0 _ _ _ HY L)
theorem Zns{s2:Yf}{H2:Hp}{ι2:List Yt}{M2:Store}{tn:Nat->aC->Prop}{J:It}{aW:fW}{Q:VK}(O:zG X scope N' own)(hc:X.calm=true)(hb:∀C cl s H ex,CG (fP X scope N' C cl s H ex) tg g/\qT (fP X scope N' C cl s H ex) ifs ts/\C3 (fP X scope N' C cl s H ex) elt f)(I2:Inv X pins σ H2 s2)(T:Turn X.prog X.w X.K tg J fp it tn)(st0:tn 0 s2.heap)(hfp:∀b∈fp,iu X pins H2 b)(S2:aB X.K H2 ι2 M2)(E2:bJ X.K H2 ι2 env σ)(ok:tG X.K H2 ι2 aW J)(h:Zv X.K H2 ι2 Q (iV aW g ts f M2.length aW.items (env++Ym own Yk) (M2++[.lst []])))(RR:Ye->Yt->pF->Yf->Prop)(fin:∀(acc C:Yt) (s':Yf) (m:aj->Option Ye) (H':Hp),s'.heap.Ns C m->iu X pins H' C->Inv X pins σ H' s'->Q (.ref acc) H'->RR (.ref acc) C (.ok .next) s'):
  ao (aq X.prog X.w) X.A (newList []) (λacc s₃=>ao (aq X.prog X.w) X.A (QH scope X.env.globals (fX X.env.cells scope.names []) [] X.env.qual Yk .none (Ya X.env)) (λcenv s₄=>jP (aq X.prog X.w) X.A (.compStart (.ListComp elt [⟨tg,iter,ifs,0⟩] scope pos) 0 (.ref it) acc {cenv with scope:=vX scope X.env}) (RR acc cenv.locals) s₄) E s₃) E s2:=by
 refine rR ?_;have hD:H2 s2.heap.objs.size=Yk:=I2.hok.fresh (Yq _);obtain⟨x3,S3,r3⟩:=S2.lst hD (Zw.nil (K:=X.K) (H:=H2) (ι:=ι2));have I3:Inv X pins σ (upd H2 s2.heap.objs.size (.lst [])) {s2 with heap:=s2.heap.push {cls:=.type "list",data:=.seq ([]:List Ye).toArray}}:=I2.laid (t':=s2.toks) (λb u e=>Yh _ e) (Yq _) ⟨fL _,[],0,.nil,Y1 _ rfl⟩;have yd:∀b o,s2.heap.get? b=Ya o->(s2.heap.push {cls:=.type "list",data:=.seq ([]:List Ye).toArray}).get? b=Ya o:=λb o e=>Yh _ e;generalize hs3:({s2 with heap:=s2.heap.push {cls:=.type "list",data:=.seq ([]:List Ye).toArray}}:Yf)=s3 at I3 ⊢;have yd:∀b o,s2.heap.get? b=Ya o->s3.heap.get? b=Ya o:=by rw[←hs3];exact yd
 have lt2:∀b∈fp,b<s2.heap.objs.size:=λb hb=>(T.obj _ _ st0 b hb).elim λo e=>Y2 e.1;have vO:∀b∈fp,b<s3.heap.objs.size:=λb hb=>(T.obj _ _ st0 b hb).elim λo e=>Y2 (yd b o e.1);exact ZmH O hc hb (T:=T) (st3:=T.keep _ _ _ st0 λb hb o e=>yd b o e) (vO:=vO) (I3:=I3) (mQ:=λb hb=>⟨(bh (dG (lt2 b hb))).trans (hfp b hb).1,(hfp b hb).2⟩) (x3:=x3) (S3:=S3) (E2:=E2.mono x3) (ok:=ok) (h:=h.up x3) (hι:=by rw[←S2.len];simp) RR fin
theorem qW(O:zG X scope N' own)(xx:X.xe=λ_ _=>False)(hc:X.calm=true)(hi:CI X tg iter i)(hb:∀C cl s H ex,CG (fP X scope N' C cl s H ex) tg g/\qT (fP X scope N' C cl s H ex) ifs ts/\C3 (fP X scope N' C cl s H ex) elt f)(hs:∀x,yp iter X.env x=pure x:=by intro _;rfl):C3 X (.ListComp elt [⟨tg,iter,ifs,0⟩] scope pos) (jo i own g ts f):=by intro pins s σ H Q I h;obtain⟨ι,M,env,S,E,h⟩:=h;obtain⟨aW,M1,e1,h⟩:=Zv.bind h;have hc0:∀y∈scope.names,y.2= .free->∃c,X.env.cells.lookup y.1=Ya c:=λy hy e=>I.ok.has y.1 (O.free y hy e);rw[eval_ListComp];refine Qz (use:=Yk) rfl hs (Ur hc0) O.kind O.names ?_;refine aH (hi pins s σ H (λJ H'=>∃ι',Ext X.K H ι H' ι'/\aB X.K H' ι' M1/\tG X.K H' ι' aW J) I ⟨ι,M,env,S,E,by rw[e1];exactλJ H' ι' x S' o=>⟨ι',x,S',o⟩⟩) λv s1 h1=>aH h1 λitv s2 h2=>?_;obtain⟨it,fp,tn,J,H2,rfl,I2,T,st2,f2,ι2,x2,S2,ok⟩:=h2;refine Zns (own:=own) (g:=g) (ts:=ts) (f:=f) O hc hb I2 T st2 f2 S2 (E.mono x2) ok (h.up x2) (λacc C=>compPost (aq X.prog X.w) X.A X.xe Yk (EP X pins σ Q) acc C) ?_;intro acc C s' m H' hn hf I' hq;obtain⟨f0,f1,f2',f3,f4,f5⟩:=hf;exact⟨m,hn,λh' sb=>⟨.ref acc,H',I'.turned (t':=s'.toks) (λb o hb e=>(sb.2 b hb).trans e) f0 f1 f3 f4 f5,rfl,hq⟩⟩
end
theorem eU{k:Nat}(r:cJ k A):A.units+80<j6:=by have:=r.un;omega
noncomputable def Its(x:aj):It:=⟨λi _=>i<x.cps.size,λi H y H'=>H'=H/\∃c,x.cps[i]?=Ya c/\y= .str ⟨#[c]⟩,λi _=>i=x.cps.size⟩
variable{w:aO}
theorem ZqB{P:Y8}{tg:Expr}{x:aj}{t:eO}{ty:String}(W:∀A':bC,A'.handled=Yk->Walks P w A' it [it] [it] x.cps.size (SignAt x) (λi h=>h.IsStrIter it ty x t i))(hs:∀(A:bC) (i:Nat) (s:Yf) (Q:Ye->Yf->Prop) (E:Ye->Yf->Prop),s.heap.IsStrIter it ty x t i->Q (.ref it) s->ao (aq P w) A (Bp (.ref it)) Q E s)(hty:["enumerate","zip","dict_itemiterator","dict_reverseitemiterator","odict_iterator","itertools.zip_longest","itertools.pairwise"].contains ty=false):Turn P w K tg (Its x) [it] it (λi h=>h.IsStrIter it ty x t i)where
 mem:=by simp
 obj:=λi h st b hb=>by
  have e:b=it:=by simpa using hb
  subst e;obtain⟨o,e,c,d⟩:=st;exact⟨o,e,λv z=>by rw[d]at z;cases z⟩
 keep:=λi h h' st k=>let⟨o,e,r⟩:=st;⟨o,k it (by simp) o e,r⟩
 item:=by intro X hP hw hK hc i pins s σ H E I hf st hg;subst hP hw hK;obtain⟨f0,f1,f2,f3,f4,f5⟩:=hf it (by simp);refine(W X.A (I.ok.hd hc)).item i s _ _ hg st λv h' tk hv st' kk=>?_;obtain⟨c,u,hx,rfl⟩:=hv;have I1:Inv X pins σ H {s with heap:=h',toks:=tk}:=I.turned (λb o hb e=>kk b o (by simpa using hb) e) f0 f1 f3 f4 f5;obtain⟨o,e,cc,d⟩:=id st';exact⟨_,rfl,GK (s:={s with heap:=h',toks:=tk}) e cc d hty ⟨.str ⟨#[c]⟩,H,I1,⟨u,rfl⟩,⟨rfl,c,hx,rfl⟩,st',λb hb=>(hf b hb).1⟩⟩
 done:=by intro X hP hw hK hc i pins s σ H E I hf st hg;subst hP hw hK;obtain⟨f0,f1,f2,f3,f4,f5⟩:=hf it (by simp);have e:i=x.cps.size:=hg;subst e;exact(W X.A (I.ok.hd hc)).done s _ _ st λh' tk kk=>⟨rfl,I.turned (λb o hb e=>kk b o (by simpa using hb) e) f0 f1 f3 f4 f5⟩
 self:=hs
section
variable {X:Cx} {tg e o:Expr} {es:List Expr} {pos p apos cpos:aP} {f:E3} {gl:cY}
theorem ZwD(h:C3 X e f):PI X tg e (λσ H R=>mC X.K f σ H λx H1=>∃z:aj,x= .str z/\z.length<=SZ/\∀J,(∀ι,tG X.K H1 ι ⟨z.cps.toList.map λc=>.str [c],Yk⟩ J)->R J H1):=by
 intro pins s σ H R I hw;refine aH (h pins s σ H _ I hw) λv s1 ak=>?_;obtain⟨x,H1,I1,r1,z,ex,hz,q⟩:=ak;subst ex;obtain⟨t,rfl⟩:=r1;have key:∀(ty:String) (o:aD),(∀A':bC,A'.handled=Yk->Walks X.prog X.w A' s1.heap.objs.size [s1.heap.objs.size] [s1.heap.objs.size] z.cps.size (SignAt z) (λi h=>h.IsStrIter s1.heap.objs.size ty z t i)) ->
   (∀(A:bC) (i:Nat) (s:Yf) (Q:Ye->Yf->Prop) (E:Ye->Yf->Prop),s.heap.IsStrIter s1.heap.objs.size ty z t i->Q (.ref s1.heap.objs.size) s->ao (aq X.prog X.w) A (Bp (.ref s1.heap.objs.size)) Q E s) ->
   ["enumerate","zip","dict_itemiterator","dict_reverseitemiterator","odict_iterator","itertools.zip_longest","itertools.pairwise"].contains ty=false->(s1.heap.push o).IsStrIter s1.heap.objs.size ty z t 0 ->
   PIE X pins σ tg R (.ref s1.heap.objs.size) {s1 with heap:=s1.heap.push o}:=by
  intro ty o W hs hty st;refine⟨s1.heap.objs.size,[s1.heap.objs.size],_,_,H1,rfl,I1.kept (t':=s1.toks) λb o e=>Yh _ e,ZqB W hs hty,st,λb hb=>?_,q _ λι=>?_⟩
  .have e:b=s1.heap.objs.size:=by simpa using hb
   subst e;exact I1.ul (Yq _) (I1.hok.fresh (Yq _))
  .intro i H2 ι2 M2 x S _;refine⟨λd hd=>?_,λhl=>?_⟩
   .rw[lM]at hd;cases hq:z.cps.toList[i]? with
    |none=>rw[hq]at hd;cases hd|some c=>
     rw[hq]at hd;have hd':D.str [c]=d:=by simpa using hd
     subst hd';have hi:i<z.cps.size:=by have:=(Yd.mp hq).1;simpa using this
     refine⟨hi,λy H3 hy=>⟨hy.1,?_⟩⟩;obtain⟨_,c',hc',rfl⟩:=hy;have:c'=c:=by rw[←Ry,hq]at hc';exact(eZ hc').symm
     subst this;exact Rep.str
   .show i=z.cps.size;rw[hl];simp
 cases ha:z.cps.all (· <128)
 .exact wpAny_pyIter_wide ha (key "str_iterator" _ (λA' hA=>Walks.strWide hA _ z t) (λ_ _ _ _ _ st h=>wpAny_pyIter_striter_wide st h) (by decide) ⟨_,Y1 _ rfl,rfl,rfl⟩)
 .exact wpAny_pyIter_ascii ha (key "str_ascii_iterator" _ (λA' hA=>Walks.strAscii hA _ z t) (λ_ _ _ _ _ st h=>wpAny_pyIter_striter_ascii st h) (by decide) ⟨_,Y1 _ rfl,rfl,rfl⟩)
theorem nu(h:C3 X e f):CI X tg e (dI f):=ZwL h (ZwD h)
theorem H_{T:String}{ty:D->Store->Bool}{m:D->List D->Store->R3 D}(hty:∀H ι M a x,aB K H ι M->Rep K H ι a x->ty a M=true->zb K T x H)(σ:St)(H:Hp)(Q:VK)(h:mC K (aQ ty m f gl) σ H Q):tBM K T (rM K m) (mC K f) (Ud K gl) σ H Q:=by
 obtain⟨ι,M,env,S,E,h⟩:=h;obtain⟨a,M1,e1,h⟩:=Zv.bind h;refine⟨ι,M,env,S,E,?_⟩;rw[e1];intro v H1 ι1 x1 S1 r1;by_cases ht:ty a M1=true
 .rw[if_pos ht]at h;obtain⟨ds,M2,e2,h⟩:=Zv.bind h;refine⟨hty _ _ _ _ _ S1 r1 ht,ι1,M1,env,S1,E.mono x1,?_⟩;rw[e2];intro vs H2 ι2 x2 S2 r2;exact⟨ι2,M2,a,ds,S2,r1.mono x2,r2,(h.up x1).up x2⟩
 .rw[if_neg ht]at h;exact h.elim
theorem UG(H:Hp)(ι:List Yt)(M:Store)(a:D)(x:V)(_:aB K H ι M)(r:Rep K H ι a x)(h:iz a M=true):zb K "str" x H:=by
 cases a with
 |str z=>rw[r.str_inv];rfl|_=>exact ft h
theorem UJ(H:Hp)(ι:List Yt)(M:Store)(a:D)(x:V)(S:aB K H ι M)(r:Rep K H ι a x)(h:bI a M=true):zb K "list" x H:=by
 cases a with
 | ref n=>
  rw[zm]at h;cases hn:M[n]? with
  |none=>rw[hn]at h;exact ft h|some o=>
   cases o with
   |dct _=>rw[hn]at h;exact ft h|cP _=>rw[hn]at h;exact ft h|ins _ _=>rw[hn]at h;exact ft h|lst xs=>obtain⟨p,hp,rfl⟩:=r.dN;obtain⟨vs,e,_⟩:=S.obj n _ p hn hp;exact .inl ⟨rfl,vs,bK.of e⟩
 |_=>exact ft h
theorem _root_.L2.kh.imp{id:String}{r r':V->List V->Hp->VK->Prop}(h:kh X id r)(i:∀x xs H Q,r' x xs H Q->r x xs H Q):kh X id r':=λpins s σ H x xs v us Q I rx rs q=>h pins s σ H x xs v us Q I rx rs (i x xs H Q q)
theorem ZrK:kh X "list.append" (rM X.K cQ):=kh.imp (r:=ZoM) Tu λx xs H Q ak=>by
 obtain⟨ι,M,a,ds,S,ra,rd,h⟩:=ak;cases a with
 | ref n=>
  cases ds with
  |nil=>exact h.elim|cons d ds=>
   cases ds with
   |cons _ _=>exact h.elim|nil=>
    simp only[LK]at h;cases hn:M[n]? with
    |none=>simp only[hn]at h;exact h.elim|some o=>
     cases o with
     |dct _=>simp only[hn]at h;exact h.elim|cP _=>simp only[hn]at h;exact h.elim|ins _ _=>simp only[hn]at h;exact h.elim|lst z=>
      simp only[hn]at h;split at h
      .rename_i hz;obtain⟨p,hp,rfl⟩:=ra.dN;obtain⟨v,ws,rfl,r1,r2⟩:=rd.cons_inv;have:=r2.nil_inv;subst this;obtain⟨vs,e,rv⟩:=S.obj n _ p hn hp;obtain⟨x2,S2⟩:=S.vN (.inr (.inl ⟨_,e⟩)) hp (rv.append (Zw.cons r1 Zw.nil));exact⟨p,vs,v,rfl,rfl,e,by rw[rv.length];exact Y7 hz jK,h _ _ _ x2 S2 Rep.non⟩
      .exact h.elim
 |_=>exact h.elim
theorem lz(ho:C3 X o f)(ha:CA X (e::es) gl)(hbase:mR o "append" X.env (aF o X.env)=aF o X.env:=by rfl)(hfew:((bO cpos (Yr (e::es) X.env)).all (λx=>!x.1)&&(iC cpos (iB [] X.env)).all (λx=>x.1.isSome)
   &&decide ((e::es).length+([]:List Keyword).length+(if([]:List Keyword).isEmpty then 0 else 1)<30))=true:=by rfl)(hline:(apos.endLine==cpos.line)=true:=by rfl)(hs:Yr (e::es) X.env=(false,aF e X.env)::Yr es X.env:=by rfl)(hplain:(bO cpos (Yr es X.env)).any (·.1)=false:=by rfl):
  C3 X (.Call (.Attribute o "append" apos) (e::es) [] cpos) (aQ bI cQ f gl):=
 (G4 RD PySem.F.slot_list_append PySem.F.type_list_append ZrK ho ha hbase hfew hline hs hplain).imp (H_ UJ)
theorem Zt8(x y:List Nat):Ymt (⟨x.toArray⟩:aj) ⟨y.toArray⟩=y.isPrefixOf x:=by
 unfold Ymt Builtin.Str.subAt;simp only[lU,Yo,wB];rw[Ro];simp only[Y3,decide_eq_true_eq,beq_iff_eq,List.isPrefixOf_iff_prefix];constructor
 .rintro⟨_,h⟩;have h':=congrArg BJ h;simp at h';rw[YX];exact h'.symm
 .intro h;refine⟨h.length_le,?_⟩;rw[YX]at h;apply Array.toList_inj.mp;simp;exact h.symm
theorem m_startswith:kh X "str.startswith" (rM X.K sX):=by
 intro pins s σ H x xs v us Q I rx rs h;obtain⟨ι,M,a,ds,S,ra,rd,h⟩:=h;cases a with
 | str z=>
  cases ds with
  |nil=>exact h.elim|cons d ds=>
   cases ds with
   |cons _ _=>cases d<;>exact h.elim|nil=>
    cases d with
    | str y=>
     simp only[Hh]at h;split at h
     .have:=ra.str_inv;subst this;obtain⟨w',ws,rfl,r1,r2⟩:=rd.cons_inv;have:=r2.nil_inv;subst this;have:=r1.str_inv;subst this;obtain⟨t,rfl⟩:=rx;obtain⟨u,rfl,ru⟩:=vals1 rs;obtain⟨t',rfl⟩:=ru;refine SC.startswith ?_;rw[Zt8];exact⟨.bl _,H,I,rfl,Zv.ok h S Rep.bl⟩
     .exact h.elim
    |_=>exact h.elim
 |_=>exact h.elim
theorem ZeM(ho:C3 X o f)(ha:CA X (e::es) gl)(hbase:mR o "startswith" X.env (aF o X.env)=aF o X.env:=by rfl)(hfew:((bO cpos (Yr (e::es) X.env)).all (λx=>!x.1)&&(iC cpos (iB [] X.env)).all (λx=>x.1.isSome)
   &&decide ((e::es).length+([]:List Keyword).length+(if([]:List Keyword).isEmpty then 0 else 1)<30))=true:=by rfl)(hline:(apos.endLine==cpos.line)=true:=by rfl)(hs:Yr (e::es) X.env=(false,aF e X.env)::Yr es X.env:=by rfl)(hplain:(bO cpos (Yr es X.env)).any (·.1)=false:=by rfl):
  C3 X (.Call (.Attribute o "startswith" apos) (e::es) [] cpos) (aQ iz sX f gl):=
 (G4 RJ PySem.F.slot_str_startswith PySem.F.type_str_startswith m_startswith ho ha hbase hfew hline hs hplain).imp (H_ UG)
theorem Zx3:a_ X (gP .In) (r2 X.K λa b M=>match a,b with| .str [c],.str y=>.ok (.bl (decide (c∈y))) M|_,_=>.bad):=a_.imp ZpC λx y H Q ak=>by
 obtain⟨ι,M,a,b,S,ra,rb,h⟩:=ak;cases a with
 | str z=>
  cases z with
  |nil=>cases b<;>exact h.elim|cons c z=>
   cases z with
   |cons _ _=>cases b<;>exact h.elim|nil=>
    cases b with
    |str y=>refine⟨_,_,ra.str_inv,rb.str_inv,?_⟩;have e:=StrLaws.found_one (⟨y.toArray⟩:aj) c;rw[show(⟨[c].toArray⟩:aj)=⟨#[c]⟩from rfl,e];exact Zv.ok h S Rep.bl|_=>exact h.elim
 |_=>cases b<;>exact h.elim
end
variable{Q:Ye->Yf->Prop}{items:Array Ye}
section
variable {X:Cx}
theorem zH(hu:X.A.units+80<j6):a_ X (gP .NotEq) (r2 X.K fj):=by
 intro pins s σ H x y v u Q I rx ry h;obtain⟨ι,M,a,b,S,ra,rb,h⟩:=h;unfold fj at h;cases q:qK a b M with
 |none=>rw[q]at h;exact h.elim|some k=>rw[q]at h;exact(Zph hu I S ra rb rx ry q).2 X.prog X.w X.xe _ ⟨.bl (!k),H,I,rfl,Zv.ok h S Rep.bl⟩
theorem Zmp(r:Rep K H ι d v)(h:cV d=true):sU v=true:=by
 cases d with
 |non=>rw[r.jd];rfl|bl b=>rw[r.gF];rfl|int i=>rw[r.int_inv];rfl|str x=>rw[r.str_inv];rfl
 |_=>exact ft h
theorem Ztp(x y:List Nat):((⟨x.toArray⟩:aj)==⟨y.toArray⟩)=(x==y):=by rw[Ro];simp
theorem Zur{e:D}{w:V}(r:Rep K H ι d v)(q:Rep K H ι e w)(h:cV d=true)(h':cV e=true):uT v w=dH d e:=by
 cases d with
 |non=>rw[r.jd];cases e with
  |non=>rw[q.jd];rfl|bl _=>rw[q.gF];rfl|int _=>rw[q.int_inv];rfl|str _=>rw[q.str_inv];rfl
  |_=>exact ft h'
 |bl _=>rw[r.gF];cases e with
  |non=>rw[q.jd];rfl|bl _=>rw[q.gF];rfl|int _=>rw[q.int_inv];rfl|str _=>rw[q.str_inv];rfl
  |_=>exact ft h'
 |int _=>rw[r.int_inv];cases e with
  |non=>rw[q.jd];rfl|bl _=>rw[q.gF];rfl|int _=>rw[q.int_inv];rfl|str _=>rw[q.str_inv];rfl
  |_=>exact ft h'
 |str _=>rw[r.str_inv];cases e with
  |non=>rw[q.jd];rfl|bl _=>rw[q.gF];rfl|int _=>rw[q.int_inv];rfl|str _=>rw[q.str_inv];exact Ztp _ _
  |_=>exact ft h'
 |_=>exact ft h
theorem Zo1{K:Yb}{H:Hp}{ι:List Yt}{d:D}{v:V}(r:Rep K H ι d v)(h:cV d=true):∀{ds:List D} {vs:List V},Zw K H ι ds vs->ds.all cV=true->vs.all sU=true/\inV v vs=ds.any λy=>dH y d
 |[],_,q,_=>by rw[q.nil_inv];exact⟨rfl,rfl⟩|e::ds,_,q,hd=>by obtain⟨w,ws,rfl,r1,r2⟩:=q.cons_inv;rw[iM,Y3]at hd;obtain⟨h1,h2⟩:=Zo1 r h r2 hd.2;refine⟨by rw[iM,Zmp r1 hd.1,h1];rfl,?_⟩;unfold inV at h2 ⊢;rw[j9,j9,h2,Zur r1 r hd.1 h]
inductive InK(a b:D)(k:Bool):Prop
 |tup (ys:List D):b= .tup ys->(ys.any λy=>dH y a)=k->cV a=true->ys.all cV=true->InK a b k
 |str (c:Nat) (y:List Nat):a= .str [c]->b= .str y->decide (c∈y)=k->InK a b k
theorem inK{a b:D}{k:Bool}(h:inD a b=Ya k):InK a b k:=by
 cases b with
 |tup ys=>exact have w:=Um h;.tup ys rfl w.1 w.2.1 w.2.2|str y=>
  cases a with
  | str z=>cases z with
   |nil=>exact iR h|cons c z=>cases z with
    |nil=>exact .str c y rfl rfl (eZ h)|cons _ _=>exact iR h
  |_=>exact iR h
 |_=>exact iR h
theorem Zvw{Q:VK}{a:D}{ys:List D}{x y:V}(n:Bool)(ra:Rep K H ι a x)(rb:Rep K H ι (.tup ys) y)(fa:cV a=true)(fs:ys.all cV=true)(q:Q (.bl (if n then !(ys.any λy=>dH y a)else ys.any λy=>dH y a)) H):rIn K n x y H Q:=by obtain⟨p,vs,e,s,r⟩:=rb.je;obtain⟨h1,h2⟩:=Zo1 ra fa r fs;exact⟨p,vs,e,.inr s,Zmp ra fa,h1,by rw[h2];exact q⟩
theorem MK(hu:X.A.units+80<j6):a_ X (gP .In) (r2 X.K jG):=a_.imp (a_.or Zx3 Zp2) λx y H Q ak=>by
 obtain⟨ι,M,a,b,S,ra,rb,h⟩:=ak;unfold jG at h;cases q:inD a b with
 |none=>rw[q]at h;exact h.elim|some k=>
  rw[q]at h;rcases inK q with⟨ys,eb,ek,fa,fs⟩|⟨c,z,ea,eb,ek⟩
  .rw[eb]at rb;rw[←ek]at h;exact .inr (Zvw false ra rb fa fs (Zv.ok h S Rep.bl))
  .rw[ea]at ra;rw[eb]at rb;rw[←ek]at h;exact .inl ⟨ι,M,_,_,S,ra,rb,h⟩
theorem Zr1(x:List Nat)(n:Nat)(a:List Nat):(Ym n x.toArray).foldl (· ++ ·) a.toArray=(a++(Ym n x).flatten).toArray:=by
 induction n generalizing a with
 |zero=>simp|succ n ih=>rw[uG,sy,uG,qG];have:=ih (a++x);simp only[List.append_toArray]at this ⊢;rw[this];simp
theorem Zw0(x:List Nat)(k:Int):Txt.mul (⟨x.toArray⟩:aj) k=⟨(Ym k.toNat x).flatten.toArray⟩:=by
 unfold Txt.mul;split
 .rename_i h;have:k.toNat=0:=Y6 (oE (Int.toNat_of_nonpos (by omega))) (fL _);rw[this];rfl
 .split
  .rename_i h1 h2;simp only[wF,beq_iff_eq,lU,Yo]at h2;rcases h2 with h2|h2
   .subst h2;simp
   .have:x=[]:=J7 h2;subst this;simp
  .have:=Zr1 x k.toNat [];rw[jE]at this;exact congrArg Str.mk this
theorem Zw.repl(r:Zw K H ι ds vs):∀k:Nat,Zw K H ι (Ym k ds).flatten (Ym k vs).flatten
 |0=>Zw.nil|k+1=>by rw[uG,uG,qG,qG];exact r.append (Zw.repl r k)
theorem zJ:a_ X (jg .Mult) (r2 X.K iy):=by
 have hs:a_ X (jg .Mult) (λx y H Q=>∃(z:List Nat) (k:Int),x= .str ⟨z.toArray⟩/\y= .int k/\z.length*k.toNat<=1000000/\k<1000000/\ -1000000<k/\Q (.str ⟨(Ym k.toNat z).flatten.toArray⟩) H):=by
  intro pins s σ H x y v u Q I rx ry h;obtain⟨z,k,rfl,rfl,h1,h2,h3,q⟩:=h;obtain⟨t,rfl⟩:=rx;obtain⟨t',rfl⟩:=ry;refine SB.mul ⟨?_,λh4 h5=>?_,λh4 h5=>?_⟩ λt'' tk=>?_
  .simp;omega
  .simp only[lU,Yo];simp at h4 h5;have hk:2<=k:=by
    simp only[lU,Yo]at h5;omega
   have e:(k.toNat:Int)=k:=yP (Gn (Gm (by omega))) ((Kv _));have hm:(z.length:Int)*k<=1000000:=by have h1':((z.length*k.toNat:Nat):Int)<=1000000:=Rq.mpr h1;rw[Int.natCast_mul,e]at h1';exact h1'
   have hd:(z.length:Int)<=9223372036854775807 / k:=Int.le_ediv_of_mul_le (by omega) (by omega);show¬((z.length:Int)>(2^63-1) / k);have e3:((2:Int)^63-1)=9223372036854775807:=by decide
   rw[e3];exactλz=>by omega
  .unfold Yj6;simp only[lU,Yo,decide_eq_false_iff_not];have hsz:(1000000:Nat)<=bB:=jK;exactλz=>by omega
  .rw[Zw0];exact⟨.str _,H,I.tok _,⟨_,rfl⟩,q⟩
 refine a_.imp (a_.or Zu1 (a_.or hs Zvp)) λx y H Q ak=>?_;obtain⟨ι,M,a,b,S,ra,rb,h⟩:=ak;cases a with
 | int i=>cases b with
  |int j=>obtain⟨hm,h⟩:=xF h;refine .inl ⟨i,j,ra.int_inv,rb.int_inv,?_,Zv.ok h S Rep.int⟩;simp only[l_,wF,Y3,decide_eq_true_eq]at hm;exact hm|_=>exact h.elim
 | str z=>cases b with
  |int k=>obtain⟨hz,h⟩:=xF h;exact .inr (.inl ⟨z,k,ra.str_inv,rb.int_inv,hz.1,hz.2.1,hz.2.2,Zv.ok h S Rep.str⟩)|_=>exact h.elim
 | ref n=>cases b with
  |int k=>
   have h:Zv X.K H ι Q (CN M[n]? λx=>@ite _ (x.length*k.toNat<=SZ/\k<1000000/\ -1000000<k) (Yy _) (alloc (.lst (Ym k.toNat x).flatten) M) .bad):=h;obtain⟨z,hn,h⟩:=Ms h;obtain⟨hz,h⟩:=xF h;obtain⟨p,hp,e'⟩:=ra.dN;obtain⟨vs,e,r⟩:=S.obj n _ p hn hp;refine .inr (.inr ⟨p,k,vs,e',rb.int_inv,e,?_,?_,by rw[r.length];exact Yi hz.1 jK,λq hq=>?_⟩)
   .exact Int.le_trans (by decide) (Kw hz.2.2)
   .exact Ykh hz.2.1 (by decide)
   obtain⟨x2,S2,r2⟩:=S.lst hq (Zw.repl r k.toNat);exact h _ _ _ x2 S2 r2
  |_=>exact h.elim
 |_=>cases b<;>exact h.elim
theorem Zo3(n d:Nat)(hd:d<=n)(o:Option Int):(match o with|none=>(d:Int)|some i=>max 0 (jk (if i<0 then i+(n:Int)else i) (n:Int)))=((aG n d o:Nat):Int):=by
 cases o with
 |none=>rfl|some v=>
  show max 0 (jk (if v<0 then v+(n:Int)else v) (n:Int))=(((if v<0 then(v+(n:Int)).toNat else jk v.toNat n):Nat):Int);by_cases h:v<0
  .rw[if_pos h,if_pos h];exact R9 v n h
  .rw[if_neg h,if_neg h];exact R_ v n h
theorem Zh4(lo hi:Option Int)(n:Nat):KD lo hi 1 n=(jj (aG n n hi-aG n 0 lo)).map (λk=>aG n 0 lo+k):=by
 have e1:=Zo3 n 0 (fL _) lo;have e2:=Zo3 n n (Yq _) hi;have key:KD lo hi 1 n=sliceRange ((aG n 0 lo:Nat):Int) ((aG n n hi:Nat):Int) 1:=by rw[←e1,←e2];simp only[KD,show((1:Int)>0)=True from by simp,if_true];cases lo<;>cases hi<;>rfl
 rw[key];generalize aG n 0 lo=a;generalize aG n n hi=b;simp only[sliceRange,show((1:Int)>0)=True from by simp,if_true];by_cases hlt:(a:Int)<b
 .have e3:(((b:Int)-a+1-1) / 1).toNat=b-a:=by first|exact Y6 (by omega) (by omega)|(simp;done)|(simp;omega)
  simp only[hlt,if_true,e3];refine Kd λk _=>?_;exact Y6 (by omega) (by omega)
 .have:b-a=0:=Y6 (oE (Z2 (by omega))) (fL _);simp[hlt,this]
theorem Lj(n d:Nat)(hd:d<=n)(o:Option Int):aG n d o<=n:=by
 cases o with
 |none=>exact hd|some v=>simp only[aG];split <;>omega
theorem Zni(z:List Nat)(lo hi:Option Int)(l u:Option (Int×eO))(hl:l.map (·.1)=lo)(hu:u.map (·.1)=hi):
  (if((1:Int)==1&&(yw ⟨z.toArray⟩ l u Yk).length==(⟨z.toArray⟩:aj).length)=true then(⟨z.toArray⟩:aj)else⟨((yw ⟨z.toArray⟩ l u Yk).filterMap ((⟨z.toArray⟩:aj).cps[·]?)).toArray⟩)=⟨(cutD z lo hi).toArray⟩:=by
 have e0:yw ⟨z.toArray⟩ l u Yk=(jj (aG z.length z.length hi-aG z.length 0 lo)).map (λk=>aG z.length 0 lo+k):=by unfold yw;rw[hl,hu];simp only[lU,Yo];exact Zh4 lo hi z.length
 have hb:=Lj z.length z.length (Yq _) hi;rw[e0];have pick:((jj (aG z.length z.length hi-aG z.length 0 lo)).map (λk=>aG z.length 0 lo+k)).filterMap ((⟨z.toArray⟩:aj).cps[·]?)=cutD z lo hi:=by
  unfold cutD;by_cases hab:aG z.length 0 lo<=aG z.length z.length hi
  .have h:=StrLaws.picks z (aG z.length z.length hi-aG z.length 0 lo) (aG z.length 0 lo) (by omega);simpa using h
  .have:aG z.length z.length hi-aG z.length 0 lo=0:=Y6 (oE (Z2 (by omega))) (fL _);rw[this];simp
 rw[pick];split
 .rename_i hc;simp only[Ys,Q_,lU,Yo,Y3,beq_iff_eq]at hc;have hc2:=hc.2;have h0:aG z.length 0 lo=0\/z.length=0:=by omega
  have:cutD z lo hi=z:=by
   unfold cutD;rcases h0 with h0|h0
   .rw[h0,Rf,uF (by omega)]
   .have:z=[]:=J7 h0;subst this;simp
  rw[this]
 .rfl
theorem ZuZ:jF X (λx lo hi H Q=>∃z:List Nat,x= .str ⟨z.toArray⟩/\z.length<=SZ/\Q (.str ⟨(cutD z lo hi).toArray⟩) H):=by
 intro pins s σ H x v vl vu lo hi sl Q I rx hs pl pu h;obtain⟨z,rfl,hz,q⟩:=h;obtain⟨t,rfl⟩:=rx;have part:∀{v:Ye} {o:Option Int},IsPart v o->∃p:Option (Int×eO),v=partValue p/\p.map (·.1)=o:=by
  intro v o h;cases h with
  |none=>exact⟨Yk,rfl,rfl⟩|int i t=>exact⟨Ya (i,t),rfl,rfl⟩
 obtain⟨l,rfl,hl⟩:=part pl;obtain⟨u,rfl,hu⟩:=part pu;refine⟨"str",_,PySem.F.slot_str_getitem.lookup,Bh _ _ _,?_⟩;refine wpAny_getItem_str_slice (l:=l) (u:=u) (st:=Yk) hs rfl ?_;unfold sliceMade;refine post_val_or_made (λ_=>?_) λt' k=>?_
 .show((yw ⟨z.toArray⟩ l u Yk).filterMap ((⟨z.toArray⟩:aj).cps[·]?)).toArray.size<=bB;rw[Yo];refine Yi (List.length_filterMap_le _ _) ?_;show(KD (l.map (·.1)) (u.map (·.1)) 1 (⟨z.toArray⟩:aj).length).length<=bB;rw[Zh4];simp only[Ys,Q_,lU,Yo];have:=Lj z.length z.length (Yq _) (u.map (·.1));have:=jK;omega
 .have e:=Zni z lo hi l u hl hu;have e':(if(((Yk:Option (Int×eO)).map (·.1)).getD 1==1&&(yw ⟨z.toArray⟩ l u Yk).length==(⟨z.toArray⟩:aj).length)=true then(⟨z.toArray⟩:aj)else⟨((yw ⟨z.toArray⟩ l u Yk).filterMap ((⟨z.toArray⟩:aj).cps[·]?)).toArray⟩)=⟨(cutD z lo hi).toArray⟩:=e;rw[e'];exact⟨.str _,H,I.tok _,⟨_,rfl⟩,q⟩
theorem Zgv{prog:Y8}{t sl:Yt}{vl vu:Ye}{lo hi:Option Int}(ht:IsTup s.heap t items)(hs:s.heap.IsSliceOf sl vl vu .none)(pl:IsPart vl lo)(pu:IsPart vu hi)(hw:HT.aG items.size 0 lo=0/\HT.aG items.size items.size hi=items.size)(h:Q (.ref t) s):ao (aq prog w) A (qF (.ref t) (.ref sl)) Q E s:=by
 obtain⟨os,hos,hcs,hds⟩:=id hs;have hTs:s.TypeIs (.ref sl) "slice":=⟨os,hos,hcs⟩;unfold qF
 try with_reducible refine gG ?_
 first|refine Yc (Yp ?_)|skip
 refine Yc (QB ht.typeIs (by decide) ?_);refine Yc (yg (name:=mY "__getitem__") ht.typeIs Ky
  (vU Ky ht.typeIs Yjt ?_ (Ykl _ _)))
 show ao _ _ (Ygr (.ref t)>>=_) _ _ s;refine Yc (tupleItemsOf_ ht ?_);refine Yc (JW hTs ?_);rw[if_pos (by decide)];refine Yc (HT.WT hs pl pu ?_);have AcR:(((HT.aG items.size 0 lo:Nat):Int)==0&&(1:Int)==1&&(HT.aG items.size items.size hi-HT.aG items.size 0 lo)==items.size)=true:=by rw[hw.1,hw.2];simp
 show ao _ _ (if(((HT.aG items.size 0 lo:Nat):Int)==0&&(1:Int)==1&&(HT.aG items.size items.size hi-HT.aG items.size 0 lo)==items.size)=true then _ else _) _ _ s;rw[if_pos AcR];unfold Builtin.Tuple.tupleIsExact;refine Yc (Yc (JW ht.typeIs (Yp ?_)));rw[if_pos (by decide)];exact Yc (J1 (Yp ⟨_,rfl,Yp h⟩))
theorem Zt6:jF X (λx lo hi H Q=>∃a xs,x= .ref a/\cM X.K H a xs/\(HT.aG xs.length 0 lo=0/\HT.aG xs.length xs.length hi=xs.length)/\Q (.ref a) H):=by
 intro pins s σ H x v vl vu lo hi sl Q I rx hs pl pu h;obtain⟨a,xs,rfl,hx,hw,q⟩:=h;cases rx;obtain⟨its,r,ht,hz⟩:=I.tuple hx;have hlen:its.toArray.size=xs.length:=by rw[Yo];exact r.length.symm
 refine⟨"tuple",_,PyProof.Rows.slot_tuple_getitem.lookup,ht.typeIs,?_⟩;exact Zgv ht hs pl pu (by rw[hlen];exact hw) ⟨.ref a,H,I,rfl,q⟩
theorem qb:jF X (rS X.K):=jF.imp (jF.or (jF.or ZvI Zt6) (jF.or ZsW ZuZ)) λx lo hi H Q ak=>by
 obtain⟨ι,M,a,S,ra,h⟩:=ak;have ex:∀n d o,HT.aG n d o=aG n d o:=λn d o=>by cases o<;>rfl
 cases a with
 | tup ds=>
  simp only[G8,G9,Ck,Cm]at h;obtain⟨p,vs,rfl,s,r⟩:=ra.je;by_cases hw:aG ds.length 0 lo=0/\aG ds.length ds.length hi=ds.length
  .refine .inl (.inr ⟨p,vs,rfl,s,by rw[ex,ex,r.length];exact hw,?_⟩);have e:cutD ds lo hi=ds:=by unfold cutD;rw[hw.1,hw.2];simp
   rw[e]at h;exact Zv.ok h S (Rep.tup s r)
  .refine .inl (.inl ⟨p,vs,rfl,s,by rw[ex,ex,r.length];exact hw,λq hq=>?_⟩);obtain⟨x2,S2,r2⟩:=S.uo hq (Uq r lo hi);exact h _ _ _ x2 S2 r2
 |bM ds=>simp only[G8,G9,Ck,Cm]at h;obtain⟨p,vs,rfl,s,r⟩:=ra.vK;refine .inr (.inl ⟨p,vs,rfl,s.sq,λq hq=>?_⟩);obtain⟨x2,S2,r2⟩:=S.lst hq (Uq r lo hi);exact h _ _ _ x2 S2 r2|str z=>
  simp only[G8,G9,Ck,Cm]at h;split at h
  .rename_i hz;exact .inr (.inr ⟨z,ra.str_inv,hz,Zv.ok h S Rep.str⟩)
  .exact h.elim
 | ref n=>
  simp only[G8,G9,Ck,Cm]at h;cases hn:M[n]? with
  |none=>simp only[hn]at h;exact h.elim|some o=>
   cases o with
   |dct _=>simp only[hn]at h;exact h.elim|cP _=>simp only[hn]at h;exact h.elim|ins _ _=>simp only[hn]at h;exact h.elim|lst ds=>simp only[hn]at h;obtain⟨p,hp,rfl⟩:=ra.dN;obtain⟨vs,e,r⟩:=S.obj n _ p hn hp;refine .inr (.inl ⟨p,vs,rfl,bK.of e,λq hq=>?_⟩);obtain⟨x2,S2,r2⟩:=S.lst hq (Uq r lo hi);exact h _ _ _ x2 S2 r2
 |_=>exact h.elim
theorem CZ{xs:List V}(r:Zw K H ι [d] xs):∃x,xs=[x]/\Rep K H ι d x:=by obtain⟨v,ws,rfl,r1,r2⟩:=r.cons_inv;have:=r2.nil_inv;subst this;exact⟨v,rfl,r1⟩
theorem gK:cT X (.builtin "len") (rB X.K bG):=cT.imp ZrQ λxs H Q ak=>by
 obtain⟨ι,M,ds,S,rd,h⟩:=ak;cases ds with
 |nil=>exact h.elim|cons d ds=>
  cases ds with
  |cons _ _=>cases d<;>exact h.elim|nil=>
   obtain⟨x,rfl,r⟩:=CZ rd;cases d with
   |tup z=>obtain⟨p,vs,rfl,s,r'⟩:=r.je;exact⟨_,vs.length,rfl,.inr ⟨vs,s,rfl⟩,by rw[r'.length];exact Zv.ok h S Rep.int⟩|bM z=>obtain⟨p,vs,rfl,s,r'⟩:=r.vK;exact⟨_,vs.length,rfl,.inl ⟨vs,s.sq,rfl⟩,by rw[r'.length];exact Zv.ok h S Rep.int⟩|str z=>
    simp only[G_,Hf,Hg,uW]at h;split at h
    .rename_i hz;have:=r.str_inv;subst this;refine⟨_,z.length,rfl,⟨?_,?_⟩,Zv.ok h S Rep.int⟩
     .show z.toArray.size<=bB;rw[Yo];exact Yi hz jK
     .show z.length=z.toArray.size;rw[Yo]
    .exact h.elim
   | ref n=>
    cases hn:M[n]? with
    |none=>rw[uW,hn]at h;exact h.elim|some o=>
     cases o with
     |dct _=>rw[uW,hn]at h;exact h.elim|cP _=>rw[uW,hn]at h;exact h.elim|ins _ _=>rw[uW,hn]at h;exact h.elim|lst z=>simp only[G_,Hf,Hg,uW,hn]at h;obtain⟨p,hp,rfl⟩:=r.dN;obtain⟨vs,e,r'⟩:=S.obj n _ p hn hp;exact⟨_,vs.length,rfl,.inl ⟨vs,bK.of e,rfl⟩,by rw[r'.length];exact Zv.ok h S Rep.int⟩
   |_=>exact h.elim
theorem zK:cT X (.type "tuple") (rB X.K kO):=cT.imp Zj4 λxs H Q ak=>by
 obtain⟨ι,M,ds,S,rd,h⟩:=ak;cases ds with
 |nil=>exact h.elim|cons d ds=>
  cases ds with
  |cons _ _=>cases d<;>exact h.elim|nil=>
   obtain⟨x,rfl,r⟩:=CZ rd;cases d with
   |tup z=>obtain⟨p,vs,rfl,s,r'⟩:=r.je;exact⟨p,vs,rfl,.inr ⟨s,Zv.ok h S (Rep.tup s r')⟩⟩|bM z=>obtain⟨p,vs,rfl,s,r'⟩:=r.vK;refine⟨p,vs,rfl,.inl ⟨s.sq,λq hq=>?_⟩⟩;obtain⟨x2,S2,r2⟩:=S.uo hq r';exact h _ _ _ x2 S2 r2|ref n=>
    cases hn:M[n]? with
    |none=>rw[Cp,hn]at h;exact h.elim|some o=>
     cases o with
     |dct _=>rw[Cp,hn]at h;exact h.elim|cP _=>rw[Cp,hn]at h;exact h.elim|ins _ _=>rw[Cp,hn]at h;exact h.elim|lst z=>simp only[Zkm,Zki,Cp,hn]at h;obtain⟨p,hp,rfl⟩:=r.dN;obtain⟨vs,e,r'⟩:=S.obj n _ p hn hp;refine⟨p,vs,rfl,.inl ⟨bK.of e,λq hq=>?_⟩⟩;obtain⟨x2,S2,r2⟩:=S.uo hq r';exact h _ _ _ x2 S2 r2
   |_=>exact h.elim
end
theorem gA:jA "len" =Ya (.builtin "len"):=by decide +kernel
theorem C_:jA "all" =Ya (.builtin "all"):=by decide +kernel
theorem Zgk:jA "isinstance" =Ya (.builtin "isinstance"):=by decide +kernel
theorem ZrJ:jA "int" =Ya (.type "int"):=by decide +kernel
theorem UL:jA "str" =Ya (.type "str"):=by decide +kernel
theorem zL:jA "tuple" =Ya (.type "tuple"):=by decide +kernel
section
variable {X:Cx} {a:Expr} {pos p p2:aP} {f:E3}
noncomputable def eV:oN->String
 | .int=>"int" | .bool=>"bool" | .str=>"str" | .list=>"list" | .tuple=>"tuple"
theorem zM(K:Yb)(t:String)(T:oN)(ht:t∈["NoneType","bool","int","str","list","tuple","dict"]):
  XJ K (.type t) (.type (eV T))=Ya (t==eV T|| (t== "bool" &&eV T== "int")):=by
 simp only[Yv,ou,or_false]at ht;rcases ht with rfl|rfl|rfl|rfl|rfl|rfl|rfl <;>cases T<;>kernel_rfl
theorem UT(T:oN):jA (eV T)=Ya (.type (eV T)):=by cases T<;>decide +kernel
noncomputable def Zxy(T:oN)(o:Option MO):Option Bool:=match o with
 |some (.lst _)=>Ya (T== .list)|some (.dct _)=>Ya false|some (.cP _)=>Yk|some (.ins _ _)=>Yk
 |none=>Yk
theorem ZsY{T:oN}{x:V}{b:Bool}(I:Inv X pins σ H s)(S:aB X.K H ι M)(r:Rep X.K H ι d x)(ru:RelV x u)(e:jT T d M=Ya b)(h:∀tk,Q (.bool b) {s with toks:=tk}):ao (aq X.prog X.w) A (call (.builtin "isinstance") [u,.type (eV T)]) Q E s:=by
 cases d with
 |non=>rw[r.jd]at ru;exact Ca I ru .non ((zM X.K "NoneType" T (by decide)).trans (wI (by cases T<;>rfl) e)) h|bl c=>rw[r.gF]at ru;exact Ca I ru (.bl c) ((zM X.K "bool" T (by decide)).trans (wI (by cases T<;>rfl) e)) h|int i=>rw[r.int_inv]at ru;exact Ca I ru (.int i) ((zM X.K "int" T (by decide)).trans (wI (by cases T<;>rfl) e)) h|str z=>rw[r.str_inv]at ru;exact Ca I ru (.str _) ((zM X.K "str" T (by decide)).trans (wI (by cases T<;>rfl) e)) h
 |tup ds=>obtain⟨p,vs,its,_,eu,⟨o,h1,h2,_⟩,_⟩:=CV I r ru;rw[eu];exact pC Qj I.bW ⟨o,h1,h2⟩ ((zM X.K "tuple" T (by decide)).trans (wI (by cases T<;>rfl) e)) (λz=>nomatch z) h|bM ds=>exact iR e|ref n=>
  have e:Zxy T M[n]?=Ya b:=e;obtain⟨a,ha,ex⟩:=r.dN;rw[ex]at ru;cases hn:M[n]? with
  |none=>rw[hn]at e;exact iR e|some o=>
   rw[hn]at e;cases o with
   |lst z=>obtain⟨vs,ev,_⟩:=S.obj n _ a hn ha;exact Ca I ru (.lst ev) ((zM X.K "list" T (by decide)).trans (wI (by cases T<;>rfl) e)) h|dct z=>obtain⟨vs,ev,_⟩:=S.obj n _ a hn ha;exact Ca I ru (.dK ev) ((zM X.K "dict" T (by decide)).trans (wI (by cases T<;>rfl) e)) h|cP z=>exact iR e|ins _ _=>exact iR e
theorem xM(T:oN){x:aj}(hm:X.mg "isinstance" =Yk)(hm2:X.mg x=Yk)(h:C3 X a f)(hx:x=(mY (eV T)):=by rfl)(hg:Gl X "isinstance":=by rfl)(hg2:Gl X x:=by rfl)(hn:x≠ "__name__":=by decide)(hd:(x==("__debug__":aj))=false:=by decide)(hs:Yr (a::[.Name x p2]) X.env=(false,aF a X.env)::Yr [.Name x p2] X.env:=by rfl)(hs2:Yr (.Name x p2::[]) X.env=(false,aF (.Name x p2) X.env)::Yr [] X.env:=by rfl)(hpl:(bO pos (Yr [.Name x p2] X.env)).any (·.1)=false:=by rfl):C3 X (.Call (.Name "isinstance" p) [a,.Name x p2] [] pos) (e1 (qL T) f):=by
 subst hx;have hc:cT X (.builtin "isinstance") (λxs H Q=>∃ι M d x,xs=[x,.ty (eV T)]/\aB X.K H ι M/\Rep X.K H ι d x/\Zv X.K H ι Q (qL T d M)):=by
  intro pins s σ H xs us Q I r q;obtain⟨ι,M,d,x,rfl,S,rd,q⟩:=q;obtain⟨u,w',rfl,ru,kj⟩:=vals2 r;cases kj;unfold qL at q;cases e:jT T d M with
  |none=>rw[e]at q;exact q.elim|some b=>rw[e]at q;exact ZsY I S rd ru e λtk=>⟨.bl b,H,I.tok _,rfl,Zv.ok q S Rep.bl⟩
 refine(Li hc hg hm Zgk (pM h (pM (Ss hg2 hm2 (UT T) (v:=.ty (eV T)) rfl hn hd) y_ hs2) hs) (by decide) (by decide) hs hpl).imp λσ H Q ak=>?_;obtain⟨ι,M,env,S,E,h⟩:=ak;obtain⟨d,M1,e1,h⟩:=Zv.bind h;refine⟨ι,M,env,S,E,?_⟩;rw[e1];intro v H1 ι1 x1 S1 r1;exact⟨ι1,M1,d,v,rfl,S1,r1,h.up x1⟩
theorem Zgp{p:D->Bool}:∀{l:List D} {e:Nat->Bool},(∀(j:Nat) d,l[j]?=Ya d->e j=p d)->(jj l.length).all e=l.all p
 |[],_,_=>rfl|d::l,e,h=>by rw[Yn,ZC,iM,List.all_map,h 0 d rfl,iM];congr 1;exact Zgp λj d' hj=>h (j+1) d' (by simpa using hj)
theorem Dc(hc:X.calm=true):cT X (.builtin "all") (rB X.K sW):=by
 intro pins s σ H xs us Q I rs h;obtain⟨ι,M,ds,S,rd,h⟩:=h;cases ds with
 |nil=>exact h.elim|cons d ds=>
  cases ds with
  |cons _ _=>cases d<;>exact h.elim|nil=>
   obtain⟨x,rfl,r⟩:=CZ rd;obtain⟨u,rfl,ru⟩:=vals1 rs;cases d with
   | ref n=>
    cases hn:M[n]? with
    |none=>rw[Cr,hn]at h;exact h.elim|some o=>
     cases o with
     |dct _=>rw[Cr,hn]at h;exact h.elim|cP _=>rw[Cr,hn]at h;exact h.elim|ins _ _=>rw[Cr,hn]at h;exact h.elim|lst z=>
      simp only[Cr,hn]at h;cases q:allB z with
      |none=>rw[q]at h;exact h.elim|some b=>
       rw[q]at h;obtain⟨a,ha,rfl⟩:=r.dN;cases ru;obtain⟨vs,ev,rv⟩:=S.obj n _ a hn ha;obtain⟨its,rr,pl,_⟩:=I.list (bK.of ev);have hz:z.all Cq=true/\z.all zj=b:=by
        unfold allB at q;split at q
        .rename_i hz;exact⟨hz,eZ q⟩
        .cases q
       have hlen:its.toArray.size=z.length:=by rw[Yo,←rr.length,rv.length]
       have hhd:X.A.in1.handled=Yk:=I.ok.hd hc;refine call_all_walk (yo pl.isList ⟨s.heap.objs.size,_,_,_,_,_,(λj=>match z[j]? with|some d=>zj d|none=>true),rfl,K6 hhd s.heap.objs.size a (dG (I.hok.lt ev)) its.toArray,⟨⟨_,Y1 _ rfl,rfl,rfl⟩,pl.isList.at λo e=>Yh _ e⟩,?_,?_⟩)
       .intro j v s' Q' E' hv hq;have hv':its[j]?=Ya v:=by simpa using hv
        have hj:j<z.length:=by have:=(Yd.mp hv').1;rw[←Yo,hlen]at this;exact this
        have e1:z[j]?=Ya z[j]:=by simp[hj]
        have hb:=ig.mp hz.1 _ (wg hj);obtain⟨w,g1,g2⟩:=rv.get e1;obtain⟨u',k1,k2⟩:=rr.get g1;rw[hv']at k1;cases k1;have hq':Q' (zj z[j]) s':=by have:=hq;simp only[e1]at this;exact this
        generalize z[j]=dj at hb g2 hq';cases dj with
        |bl c=>have:=g2.gF;subst this;cases k2;exact uz hq'|_=>simp[Cq]at hb
       .intro h' tk kk;rw[hlen,Zgp (p:=zj) (λj d hd=>by rw[hd]),hz.2];exact⟨.bl b,H,I.kept (λc o e=>kk c o (by simp;exact dG (Y2 e)) (Yh _ e)),rfl,Zv.ok h S Rep.bl⟩
   |_=>exact h.elim
end
noncomputable def ZuG(outer:List (aj×NameKind))(N:List aj)(scope:Scope)(N':List aj)(own:Nat):Bool:=
 (scope.names.all λy=>decide (y.2≠ .cell)&&(decide (y.2≠ .free)|| decide (outer.lookup y.1=Ya .cell)|| decide (outer.lookup y.1=Ya .free))&&(decide (y.2≠ .local)|| decide (scope.names.lookup y.1=Ya .local)))&&
  decide (N'.length=N.length+own)&&Us N N' scope
theorem nA{scope:Scope}{N':List aj}{own:Nat}(hk:scope.kind= .function)(h:ZuG X.env.scope.names X.N scope N' own=true):zG X scope N' own:=by
 simp only[ZuG,Y3,decide_eq_true_eq,ig,wF]at h;obtain⟨⟨h1,h2⟩,h3⟩:=h;refine⟨hk,λy hy=>(h1 y hy).1.1,λy hy e=>?_,λy hy e=>?_,h2,h3⟩
 .rcases(h1 y hy).1.2 with(q|q)|q
  .exact absurd e q
  .exact .inl q
  .exact .inr q
 .rcases(h1 y hy).2 with q|q
  .exact absurd e q
  .exact q
theorem fQ{h:aC}{mg:aj->Option Ye}(KX:K.In h)(G:h.Ns b7 mg){x:aj}{f:Yt}{oc:Ye}{od an:Option Yt}{osl:Array (Option Ye)}{dV kV doc pm cdv ct:Ye}(a:PySem.W.nsIn K b7 x=Ya (Ya (.ref f)))(l:K.lookup f=Ya ⟨oc,od,.func (pD x x (m_ st) (iG st) (Zn st) dV kV doc pm an cdv ct),osl⟩)(c:Bc K cdv x=true)(k:qy K (.ref f)=true)(b:Binds K (pD x x (m_ st) (iG st) (Zn st) dV kV doc pm an cdv ct) ps []):bL K mg x st ps:=⟨f,_,ZrX l c k,XQ KX G a,b⟩
theorem Zx6{l:PySem.W.OpenLaw}{k:Nat}{q:Y8}{loose:List aj}{XP:(aj->Option Ye)->aC->Prop}{YP:aO->aC->Prop}{d:DefRec}{K:Params->Yb}{F:F3}(hn:l.most=Ya 63)(hdf:d.params.defaults=[])(hr:cJ k vW)(hY:∀(w:aO) (h:aC),YP w h->(K w.params).In h)(G:∀(w:aO) (mg:aj->Option Ye) (fa:Yt) (h:aC),(K w.params).In h->h.Ns b7 mg->mg d.name=Ya (.ref fa) ->
   ∃fd:jB,(∀(s:Yf) (u:Ye),Bm s fd ⟨[u],[]⟩ [("script",u)])/\∀base:aC,(K w.params).In base->base.Ns b7 mg->fM l.prog w (K w.params) mg base kI k fa fd ["script"] (tE (K w.params) 1 F))(hF:∀ns:List Int,ns.length<=63->∃M',F [.bM (ns.map D.int)] []= .ok (.bl true) M'):
  XM q loose XP YP l.row.toRowW d [] (λf vs=>QX f vs):=
 L2.Zpd (n:=63) (k:=k) (x:="script") (CX:=λ_=>kI) (sp:=λw=>tE (K w.params) 1 F) hn (by decide) hdf hr hY G (λw H a ns hl hO hS=>by
  obtain⟨M',e⟩:=hF ns hl;refine⟨[],[],[.bM (ns.map D.int)],⟨rfl,ZW,λn o a h=>by simp at h⟩,Zw.cons ?_ Zw.nil,rfl,?_⟩
  .refine⟨a,ns.map V.int,rfl,?_,Zw.ints ns⟩;rcases hS with(h|⟨o,h⟩)|h
   .rcases hO a with z|⟨ob,xs,z⟩
    .rw[h]at z;cases z
    .rw[h]at z;cases z
   .exact .inl ⟨o,h⟩
   .exact .inr h
  .rw[e]
   exactλv H' ι' _ _ r=>r.gF) λ_ _ _ _ _ z=>z
theorem UV{a b:iw}(h:dk a=dk b):a=b:=by
 cases a with
 |inl i=>cases b with
  |inl j=>simp only[dk,Sum.inl.injEq]at h;rw[h]|inr y=>simp[dk]at h
 | inr x=>cases b with
  |inl j=>simp[dk]at h|inr y=>simp only[dk,Sum.inr.injEq,Str.mk.injEq]at h;have:=congrArg BJ h;simp at this;rw[this]
variable{ws:List (Key×V)}{kvs:List (iw×D)}
section
variable {K:Yb} {H H':Hp} {ι ι':List Yt} {M:Store} {p:Yt}
theorem dz.nil:dz K H ι [] []:=⟨rfl,Zw.nil⟩
theorem dz.cons{k:iw}{d:D}{v:V}{kvs:List (iw×D)}{ws:List (Key×V)}(h:Rep K H ι d v)(r:dz K H ι kvs ws):dz K H ι ((k,d)::kvs) ((dk k,v)::ws):=⟨by simp[r.1],Zw.cons h r.2⟩
theorem dz.cons_inv{q:iw×D}(r:dz K H ι (q::kvs) ws):∃v ws',ws=(dk q.1,v)::ws'/\Rep K H ι q.2 v/\dz K H ι kvs ws':=by
 obtain⟨h1,h2⟩:=r;cases ws with
 |nil=>simp at h1|cons w ws=>simp only[Yw,Ymj]at h1;obtain⟨v,us,e,r1,r2⟩:=Zw.cons_inv h2;simp only[Yw,Ymj]at e;exact⟨w.2,ws,by rw[←h1.1],e.1▸r1,h1.2,e.2▸r2⟩
theorem dz.nil_inv(r:dz K H ι [] ws):ws=[]:=by simpa using r.1
theorem dz.mono(r:dz K H ι kvs ws)(e:Ext K H ι H' ι'):dz K H' ι' kvs ws:=⟨r.1,r.2.mono e⟩
theorem dz.length(r:dz K H ι kvs ws):ws.length=kvs.length:=by have:=congrArg yK r.1;simpa using this
theorem dz.val(k:iw):∀{ws:List (Key×V)},dz K H ι kvs ws->match G6 kvs k with|some d=>∃v,lZ ws (dk k)=Ya v/\Rep K H ι d v|none=>lZ ws (dk k)=Yk:=by
 induction kvs with
 |nil=>intro ws r;rw[r.nil_inv];exact Zre|cons q kvs ih=>
  intro ws r;obtain⟨v,ws',rfl,r1,r2⟩:=r.cons_inv;obtain⟨k',d⟩:=q;unfold G6;by_cases e:k'=k
  .rw[if_pos e];exact⟨v,Lp (by rw[e]),r1⟩
  .rw[if_neg e,Lq λz=>e (UV z)];exact ih r2
theorem dz.append{k1 k2:List (iw×D)}{w1 w2:List (Key×V)}(a:dz K H ι k1 w1)(b:dz K H ι k2 w2):dz K H ι (k1++k2) (w1++w2):=⟨by simp[a.1,b.1],by rw[oA,oA];exact a.2.append b.2⟩
theorem dz.any(k:iw):∀{ws:List (Key×V)},dz K H ι kvs ws->(ws.any λkv=>decide (kv.1=dk k))=(kvs.any λq=>decide (q.1=k)):=by
 induction kvs with
 |nil=>intro ws r;rw[r.nil_inv];rfl|cons q kvs ih=>
  intro ws r;obtain⟨v,ws',rfl,r1,r2⟩:=r.cons_inv;rw[j9,j9,ih r2];congr 1;by_cases e:q.1=k
  .simp[e]
  .simp[e];exactλz=>e (UV z)
theorem dz.put{k:iw}(r:dz K H ι kvs ws)(rd:Rep K H ι d v):dz K H ι (putD k d kvs) (putK ws (dk k) v):=by
 unfold putD putK;rw[r.any k];by_cases c:(kvs.any λq=>decide (q.1=k))=true
 .rw[if_pos c,if_pos c];clear c
  induction kvs generalizing ws with
  |nil=>rw[r.nil_inv];exact dz.nil|cons q kvs ih=>
   obtain⟨u,ws',rfl,r1,r2⟩:=r.cons_inv;rw[Yw,Yw];by_cases e:q.1=k
   .rw[if_pos e,if_pos (by rw[e])];exact dz.cons rd (ih r2)
   .rw[if_neg e,if_neg λz=>e (UV z)];exact dz.cons r1 (ih r2)
 .rw[if_neg c,if_neg c];exact r.append (dz.cons rd dz.nil)
theorem aB.dct(S:aB K H ι M)(hp:H p=Yk)(r:dz K H ι kvs ws):Ext K H ι (upd H p (.dK ws)) (ι++[p])/\aB K (upd H p (.dK ws)) (ι++[p]) (M++[.dct kvs])/\Rep K (upd H p (.dK ws)) (ι++[p]) (.ref M.length) (.ref p):=by have e:Ext K H ι (upd H p (.dK ws)) (ι++[p]):=Loose.Fp (.inl hp);exact⟨e,S.new hp ⟨ws,fV,r.mono e⟩,Rep.ref (by rw[←S.len];simp)⟩
end
section
variable {X:Cx} {a b c e o:Expr} {es:List Expr} {pos p pos' apos cpos:aP} {f g h:E3} {gl:cY}
def UW(K:Yb)(H:Hp)(ι:List Yt)(Q:List (V×V)->Hp->Prop)(r:R3 (List (iw×D))):Prop:=match r with
 | .ok l M'=>∀ws H' ι',Ext K H ι H' ι'->aB K H' ι' M'->dz K H' ι' l ws->Q (ws.map λkv=>(kV kv.1,kv.2)) H'|_=>False
theorem UW.bind{Q:List (V×V)->Hp->Prop}{r:R3 α}{k:α->Store->R3 (List (iw×D))}(h:UW K H ι Q (r.bind k)):∃a M,r= .ok a M/\UW K H ι Q (k a M):=by
 cases r with
 |ok a M=>exact⟨a,M,rfl,h⟩|exc x M=>exact h.elim|bad=>exact h.elim
theorem hu1(hu:X.A.units+80<j6):X.A.units+1<j6:=by omega
theorem Zs9{op:D->D->D->Store->R3 D}{Q:VK}(h':Zv K H ι Q (e3 op f g h env M)):
  ∃a M1 b M2 c M3,f env M= .ok a M1/\g env M1= .ok b M2/\h env M2= .ok c M3/\Zv K H ι Q (op a b c M3):=by
 obtain⟨a,M1,e1,h'⟩:=Zv.bind h';obtain⟨b,M2,e2,h'⟩:=Zv.bind h';obtain⟨c,M3,e3,h'⟩:=Zv.bind h';exact⟨a,M1,b,M2,c,M3,e1,e2,e3,h'⟩
theorem Zmc{D':Ends}(E:bJ K H ι env σ)(h':jU K H ι D' (bj f env M)):Zv K H ι (λ_ H'=>D'.nx σ H') (f env M):=by
 unfold bj at h';cases q:f env M with
 |ok d M1=>rw[q]at h';exactλv H1 ι1 x1 S1 r1=>h' σ H1 ι1 x1 S1 (E.mono x1)|exc x M1=>rw[q]at h';exact h'.elim|bad=>rw[q]at h';exact h'.elim
theorem ZtQ{i:Expr}{spos:aP}(ho:C3 X o f)(hi:C3 X i g)(hv:C3 X e h)(ha:∀v,n6 (.Subscript o i spos) X.env v=(do
   let ov ←uE [v] (aF o X.env)
   let iv ←uE [v,ov] (aF i X.env)
   Bl spos
   uE [v,ov,iv] (setItem ov iv v)
   release [v,ov,iv] []):=by intro _;rfl)(hs:swapsWithSole [.Subscript o i spos] e pos.line X.env=pure false:=by rfl)(hw:swappedStores [.Subscript o i spos] e X.env=pure Yk:=by rfl)(h1:(qC [.Subscript o i spos] X.env).map (·.2)=[n6 (.Subscript o i spos) X.env]:=by rfl):CS X (.Assign [.Subscript o i spos] e pos) (Hl f g h):=(ZvX hv (ZuV ho hi set_list ha) hs hw h1).imp λD' σ H ak=>by
 obtain⟨ι,M,env,S,E,hh⟩:=ak;obtain⟨d,M1,b,M2,k,M3,e1,e2,e3,hh⟩:=Zs9 (Zmc E hh);refine⟨ι,M,env,S,E,?_⟩;rw[e1];intro v H1 ι1 x1 S1 r1;refine⟨ι1,M1,env,S1,E.mono x1,?_⟩;rw[e2];intro x H2 ι2 x2 S2 r2;refine⟨ι2,M2,env,S2,(E.mono x1).mono x2,?_⟩;rw[e3];intro y H3 ι3 x3 S3 r3;cases b with
 | ref n=>
  cases k with
  | int j=>
   simp only[Zpp]at hh;cases hn:M3[n]? with
   |none=>simp only[hn]at hh;exact hh.elim|some ob=>
    cases ob with
    |dct _=>simp only[hn]at hh;exact hh.elim|cP _=>simp only[hn]at hh;exact hh.elim|ins _ _=>simp only[hn]at hh;exact hh.elim|lst xs=>
     simp only[hn]at hh;cases hj:kJ xs.length j with
     |none=>simp only[hj]at hh;exact hh.elim|some q=>simp only[hj]at hh;obtain⟨ad,ha,rfl⟩:=(r2.mono x3).dN;obtain⟨ws,hw,kr⟩:=S3.obj n _ ad hn ha;obtain⟨x4,S4⟩:=S3.vN (.inr (.inl ⟨_,hw⟩)) ha (kr.set q ((r1.mono x2).mono x3));exact⟨ad,ws,j,q,rfl,r3.int_inv,hw,by rw[kr.length];exact hj,hh .non _ _ (((x1.trans x2).trans x3).trans x4) S4 Rep.non⟩
  |_=>exact hh.elim
 |_=>exact hh.elim
end
section
variable {X:Cx} {a b c e o:Expr} {es:List Expr} {pos p apos cpos:aP} {f g h:E3} {gl:cY}
theorem Zx7:cT X (.type "int") (rB X.K Hi):=cT.imp ZpV λxs H Q ak=>by
 obtain⟨ι,M,ds,S,rd,h⟩:=ak;cases ds with
 |nil=>exact h.elim|cons d ds=>
  cases ds with
  |cons _ _=>cases d<;>exact h.elim|nil=>
   obtain⟨x,rfl,r⟩:=CZ rd;cases d with
   |int i=>exact .inl ⟨i,by rw[r.int_inv],Zv.ok h S Rep.int⟩|bl k=>exact .inr ⟨k,by rw[r.gF],Zv.ok h S Rep.int⟩|_=>exact h.elim
theorem ZkA{K:Yb}{H:Hp}{ι:List Yt}:∀{x:List D} {ns:List Int} {vs:List V} {us:List Ye},mj x=Ya ns->Zw K H ι x vs->Vals vs us->IntsAre us ns
 |[],ns,vs,us,h,r,v=>by
  have e:=r.nil_inv;subst e;cases v;have:ns=[]:=by simpa[mj]using h.symm
  subst this;exact .nil
 | .int i::x,ns,vs,us,h,r,v=>by
  obtain⟨u,vs',rfl,r1,r2⟩:=r.cons_inv;have e:=r1.int_inv;subst e;cases v with
  | @cons _ z _ us' rz U0=>
  obtain⟨t,rfl⟩:=rz;simp only[mj]at h;cases hx:mj x with
  |none=>rw[hx]at h;cases h|some ms=>
   rw[hx]at h;have:ns=i::ms:=by simpa using h.symm
   subst this;exact .cons i t (ZkA hx r2 U0)
 | .non::_,_,_,_,h,_,_=>by simp[mj]at h|.bl _::_,_,_,_,h,_,_=>by simp[mj]at h|.str _::_,_,_,_,h,_,_=>by simp[mj]at h|.tup _::_,_,_,_,h,_,_=>by simp[mj]at h
 | .bM _::_,_,_,_,h,_,_=>by simp[mj]at h|.ref _::_,_,_,_,h,_,_=>by simp[mj]at h
end
theorem MN{sts:List Ydi}:mD X sts Hj:=λ_ _ _ _ _ _ ⟨_,_,_,_,_,h⟩=>h.elim
section
variable {X:Cx} {o e:Expr} {es:List Expr} {apos cpos:aP} {f:E3} {gl:cY}
theorem Zw.erase:∀{ds:List D} {vs:List V} (i:Nat),Zw K H ι ds vs->Zw K H ι (ds.eraseIdx i) (vs.eraseIdx i)
 |[],_,_,h=>by rw[h.nil_inv];exact Zw.nil|d::ds,_,0,h=>by obtain⟨v,us,rfl,r,t⟩:=h.cons_inv;exact t|d::ds,_,i+1,h=>by obtain⟨v,us,rfl,r,t⟩:=h.cons_inv;exact Zw.cons r (t.erase i)
theorem Zw.dropLast(r:Zw K H ι ds vs):Zw K H ι ds.dropLast vs.dropLast:=by rw[ZF,ZF,r.length];exact r.take _
theorem ZxP:kh X "list.pop" (rM X.K kW):=kh.imp (r:=λx xs H Q=>ZrA x xs H Q\/Zym x xs H Q) (λpins s σ H x xs v us Q I rx rs q=>q.elim (ZqV pins s σ H x xs v us Q I rx rs) (ZvO pins s σ H x xs v us Q I rx rs)) λx xs H Q ak=>by
 obtain⟨ι,M,a,ds,S,ra,rd,h⟩:=ak;cases a with
 | ref n=>
  cases ds with
  | nil=>
   simp only[ZoC,T5]at h;cases hn:M[n]? with
   |none=>simp only[hn]at h;exact h.elim|some ob=>
    cases ob with
    |dct _=>simp only[hn]at h;exact h.elim|cP _=>simp only[hn]at h;exact h.elim|ins _ _=>simp only[hn]at h;exact h.elim|lst z=>
     simp only[hn]at h;cases hx:z[z.length-1]? with
     |none=>simp only[hx]at h;exact h.elim|some d=>simp only[hx]at h;obtain⟨p,hp,rfl⟩:=ra.dN;have:=rd.nil_inv;subst this;obtain⟨vs,e,rv⟩:=S.obj n _ p hn hp;obtain⟨y,hy,ry⟩:=rv.get hx;obtain⟨x2,S2⟩:=S.vN (.inr (.inl ⟨_,e⟩)) hp rv.dropLast;exact .inr ⟨p,vs,y,rfl,rfl,e,by rw[rv.length];exact hy,h _ _ _ x2 S2 (ry.mono x2)⟩
  | cons d ds=>
   cases ds with
   |cons _ _=>cases d<;>exact h.elim|nil=>
    cases d with
    | int i=>
     simp only[ZoC,T5]at h;cases hn:M[n]? with
     |none=>simp only[hn]at h;exact h.elim|some ob=>
      cases ob with
      |dct _=>simp only[hn]at h;exact h.elim|cP _=>simp only[hn]at h;exact h.elim|ins _ _=>simp only[hn]at h;exact h.elim|lst z=>
       simp only[hn]at h;by_cases hb:-1000000<=i/\i<=1000000
       .rw[if_pos hb]at h;cases hk:kJ z.length i with
        |none=>simp only[hk]at h;exact h.elim|some k=>
         simp only[hk]at h;cases hx:z[k]? with
         |none=>simp only[hx]at h;exact h.elim|some d=>simp only[hx]at h;obtain⟨p,hp,rfl⟩:=ra.dN;obtain⟨v,ws,rfl,r1,r2⟩:=rd.cons_inv;have:=r2.nil_inv;subst this;have:=r1.int_inv;subst this;obtain⟨vs,e,rv⟩:=S.obj n _ p hn hp;obtain⟨y,hy,ry⟩:=rv.get hx;obtain⟨x2,S2⟩:=S.vN (.inr (.inl ⟨_,e⟩)) hp (rv.erase k);obtain⟨q1,q2,q3,q4⟩:=Tn (n:=z.length) (i:=i) (j:=k) hk;exact .inl ⟨p,vs,i,k,y,rfl,rfl,e,by omega,by omega,by rw[rv.length];exact q1,hy,h _ _ _ x2 S2 (ry.mono x2)⟩
       .rw[if_neg hb]at h;exact h.elim
    |_=>exact h.elim
 |_=>cases ds<;>exact h.elim
end
section
variable {X:Cx} {a b c e o:Expr} {es:List Expr} {pos p apos cpos:aP} {f g h:E3} {gl:cY}
theorem Zpv:cT X (.type "str") (λxs H Q=>(∃i,xs=[.int i]/\i.natAbs.log2<1920/\Q (.str (wH i)) H)\/∃x,xs=[.str x]/\Q (.str x) H):=by
 intro pins s σ H xs us Q I r h;rcases h with h|⟨x,rfl,q⟩
 .exact ZlK pins s σ H xs us Q I r h
 .obtain⟨u,rfl,t,rfl⟩:=vals1 r;exact PySem.P.str_of_str ⟨.str x,H,I,⟨t,rfl⟩,q⟩
theorem U3:cT X (.type "str") (rB X.K oR):=cT.imp Zpv λxs H Q ak=>by
 obtain⟨ι,M,ds,S,rd,h⟩:=ak;cases ds with
 |nil=>exact h.elim|cons d ds=>
  cases ds with
  |cons _ _=>cases d<;>exact h.elim|nil=>
   obtain⟨x,rfl,r⟩:=CZ rd;cases d with
   | int i=>
    simp only[Zov,Zum]at h;split at h
    .rename_i hz;refine .inl ⟨i,by rw[r.int_inv],hz,Zv.ok h S ?_⟩;have:=Rep.str (K:=X.K) (H:=H) (ι:=ι) (x:=fO i);exact this
    .exact h.elim
   |str z=>exact .inr ⟨_,by rw[r.str_inv],Zv.ok h S Rep.str⟩|_=>exact h.elim
theorem U4{K:Yb}{H:Hp}{ι:List Yt}:∀{x:List D} {ts:List (List Nat)} {vs:List V} {us:List Ye},jt x=Ya ts->Zw K H ι x vs->Vals vs us->∃l:List (aj×eO),us=lH l/\l.map (·.1)=ts.map λt=>(⟨t.toArray⟩:aj)
 |[],ns,vs,us,h,r,v=>by
  have e:=r.nil_inv;subst e;cases v;have:ns=[]:=by simpa[jt]using h.symm
  subst this;exact⟨[],rfl,rfl⟩
 | .str i::x,ns,vs,us,h,r,v=>by
  obtain⟨u,vs',rfl,r1,r2⟩:=r.cons_inv;have e:=r1.str_inv;subst e;cases v with
  | @cons _ z _ us' rz U0=>
  obtain⟨t,rfl⟩:=rz;simp only[jt]at h;cases hx:jt x with
  |none=>rw[hx]at h;cases h|some ms=>
   rw[hx]at h;have:ns=i::ms:=by simpa using h.symm
   subst this;obtain⟨l,rfl,e⟩:=U4 hx r2 U0;exact⟨(_,t)::l,rfl,by simp[e]⟩
 | .non::_,_,_,_,h,_,_=>by simp[jt]at h|.bl _::_,_,_,_,h,_,_=>by simp[jt]at h|.int _::_,_,_,_,h,_,_=>by simp[jt]at h|.tup _::_,_,_,_,h,_,_=>by simp[jt]at h
 | .bM _::_,_,_,_,h,_,_=>by simp[jt]at h|.ref _::_,_,_,_,h,_,_=>by simp[jt]at h
theorem U5(sep:List Nat):∀ts:List (List Nat),Str.join (⟨sep.toArray⟩:aj) (ts.map λt=>(⟨t.toArray⟩:aj))=⟨(glue sep ts).toArray⟩
 |[]=>rfl|[x]=>rfl|x::y::xs=>by have ih:=U5 sep (y::xs);simp only[Yw]at ih ⊢;simp only[Str.join,glue]at ih ⊢;rw[ih];show(⟨(x.toArray++sep.toArray)++(glue sep (y::xs)).toArray⟩:aj)=_;simp
theorem ZwZ{sep:List Nat}{ts:List (List Nat)}(h:oU sep ts<=SZ):JoinOk (⟨sep.toArray⟩:aj) (ts.map λt=>(⟨t.toArray⟩:aj))=true:=by
 have gen:∀(ts:List (List Nat)) (k:Nat),Kg (λx1 (x2:aj)=>x1+x2.length+(⟨sep.toArray⟩:aj).length) k (ts.map λt=>(⟨t.toArray⟩:aj))=k+oU sep ts:=by
  intro ts
  induction ts with
  |nil=>intro k;simp[oU]|cons t ts ih=>intro k;simp only[Yw,sy,ih];simp[oU,lU];exact Y6 (by omega) (by omega)
 unfold JoinOk Yj6;rw[List.foldl_toArray,gen];have:bB>=SZ:=jK;simp only[wB,Bool.not_eq_true',decide_eq_false_iff_not];exactλz=>by omega
theorem Zv8:kh X "str.join" (rM X.K u5):=by
 intro pins s σ H x xs v us Q I rx rs h;obtain⟨ι,M,a,ds,S,ra,rd,h⟩:=h;cases a with
 | str sep=>
  cases ds with
  |nil=>exact h.elim|cons d ds=>
   cases ds with
   |cons _ _=>cases d<;>exact h.elim|nil=>
    cases d with
    | ref n=>
     simp only[Zl9]at h;cases hn:M[n]? with
     |none=>simp only[hn]at h;exact h.elim|some ob=>
      cases ob with
      |dct _=>simp only[hn]at h;exact h.elim|cP _=>simp only[hn]at h;exact h.elim|ins _ _=>simp only[hn]at h;exact h.elim|lst z=>
       simp only[hn]at h;cases hs:jt z with
       |none=>simp only[hs]at h;exact h.elim|some ts=>
        simp only[hs]at h;split at h
        .rename_i hz;have:=ra.str_inv;subst this;obtain⟨w',ws,rfl,r1,r2⟩:=rd.cons_inv;have:=r2.nil_inv;subst this;obtain⟨p,hp,rfl⟩:=r1.dN;obtain⟨t,rfl⟩:=rx;obtain⟨u,rfl,ru⟩:=vals1 rs;cases ru;obtain⟨vs,e,rv⟩:=S.obj n _ p hn hp;obtain⟨its,rr,pl,zl⟩:=I.list (bK.of e);obtain⟨l,rfl,el⟩:=U4 hs rv rr;refine SC.join pl.isList el (ZwZ hz) λt' k=>⟨.str _,H,I.tok _,⟨t',rfl⟩,?_⟩;rw[Txt.join,StrLaws.glued_eq_join,U5];exact Zv.ok h S Rep.str
        .exact h.elim
    |_=>exact h.elim
 |_=>exact h.elim
theorem U6(ho:C3 X o f)(ha:CA X (e::es) gl)(hbase:mR o "join" X.env (aF o X.env)=aF o X.env:=by rfl)(hfew:((bO cpos (Yr (e::es) X.env)).all (λx=>!x.1)&&(iC cpos (iB [] X.env)).all (λx=>x.1.isSome)
   &&decide ((e::es).length+([]:List Keyword).length+(if([]:List Keyword).isEmpty then 0 else 1)<30))=true:=by rfl)(hline:(apos.endLine==cpos.line)=true:=by rfl)(hs:Yr (e::es) X.env=(false,aF e X.env)::Yr es X.env:=by rfl)(hplain:(bO cpos (Yr es X.env)).any (·.1)=false:=by rfl):
  C3 X (.Call (.Attribute o "join" apos) (e::es) [] cpos) (aQ iz u5 f gl):=
 (G4 RJ PySem.F.slot_str_join PySem.F.type_str_join Zv8 ho ha hbase hfew hline hs hplain).imp (H_ UG)
end
section
variable {X:Cx} {a b c e o:Expr} {es:List Expr} {pos p apos cpos:aP} {f g h:E3} {gl:cY}
theorem Zp4{prog:Y8}{x:aj}{t:eO}{y:aj}{u:eO}(hy:(y.length==0)=false)(hz:x.length+2<=bB)(h:∀(l:List (aj×eO)) (k:Nat),l.map (·.1)=Txt.split x y->l.length<=x.length+2->Q (.ref s.heap.objs.size) {s with heap:=s.heap.push {cls:=.type "list",data:=.seq (lH l).toArray},toks:=k}):
  ao (aq prog w) A (call (.builtin "str.split") [.str x t,.str y u]) Q E s:=by
 have e1:=StrLaws.occ_length_le x y 0 x.length (x.length+1);have e2:=length_partsBetween x (Gp x y 0 x.length (x.length+1)) y.length;have hn:(Yhk x (Gp x y 0 x.length (x.length+1)) y.length).length<=bB:=by omega
 cases h1:(decide (x.length<y.length)|| decide (Yj7 x<Yj7 y))with
 | true=>
  exact rW RN (Bh s x t) RM (RL (.str x t) (.str y u)) (meets_str_split_cannot_occur x y t u h1)
   (h [(x,t)] s.toks (if_pos h1).symm (by simp))
 | false=>
  cases hf:(Gp x y 0 x.length (x.length+1)).isEmpty with
  | true=>
   exact rW RN (Bh s x t) RM (RL (.str x t) (.str y u)) (meets_str_split_not_found x y t u h1 hy hf)
    (h [(x,t)] s.toks ((if_neg (ne_true_of_eq_false h1)).trans (if_pos hf)).symm (by simp))
  |false=>refine rW RN (Bh s x t) RM (RL (.str x t) (.str y u)) (meets_str_split_sep x y t u h1 hy hf (by omega) hn) ?_;rw[strsFrom_eq];refine h (numbered s.toks _) _ ((numbered_texts s.toks _).trans ((if_neg (ne_true_of_eq_false h1)).trans (if_neg (ne_true_of_eq_false hf))).symm) ?_;have e3:=congrArg yK (numbered_texts s.toks (Yhk x (Gp x y 0 x.length (x.length+1)) y.length));rw[Ys]at e3;omega
theorem Zj2:cT X (.type "int") (λxs H Q=>∃x n,xs=[.str x]/\intText? x=Ya n/\x.length<=640/\Q (.int n) H):=by intro pins s σ H xs us Q I r h;obtain⟨x,n,rfl,hn,hz,q⟩:=h;obtain⟨u,rfl,t,rfl⟩:=vals1 r;exact PySem.W.KIN.call_text hn hz ⟨.int n,H,I.tok _,⟨_,rfl⟩,q⟩
theorem Zrz:cT X (.type "int") (rB X.K nj):=cT.imp (cT.or Zx7 Zj2) λxs H Q ak=>by
 obtain⟨ι,M,ds,S,rd,h⟩:=ak
 match ds,rd,h with
 | [.str x],rd,h=>
  obtain⟨v,rfl,r⟩:=CZ rd;simp only[Zru,Zqz]at h;cases hn:JV ⟨x.toArray⟩with
  |none=>rw[hn]at h;exact h.elim|some n=>
   rw[hn]at h;dsimp only at h;split at h
   .rename_i hz;exact .inr ⟨_,n,by rw[r.str_inv],hn,by simpa[lU]using hz,Zv.ok h S Rep.int⟩
   .exact h.elim
 |[],rd,h=>exact h.elim|[.int i],rd,h=>exact .inl ⟨ι,M,_,S,rd,h⟩|[.bl i],rd,h=>exact .inl ⟨ι,M,_,S,rd,h⟩|[.non],rd,h=>exact h.elim
 |[.tup _],rd,h=>exact h.elim|[.bM _],rd,h=>exact h.elim|[.ref _],rd,h=>exact h.elim|.str _::_::_,rd,h=>exact h.elim
 | .int _::_::_,rd,h=>exact h.elim|.bl _::_::_,rd,h=>exact h.elim|.non::_::_,rd,h=>exact h.elim|.tup _::_::_,rd,h=>exact h.elim
 | .bM _::_::_,rd,h=>exact h.elim|.ref _::_::_,rd,h=>exact h.elim
theorem U7{K:Yb}{H:Hp}{ι:List Yt}:∀(l:List (aj×eO)),Vals (l.map λp=>V.str p.1) (lH l)/\Zw K H ι ((l.map λp=>p.1.cps.toList).map D.str) (l.map λp=>V.str p.1)
 |[]=>⟨.nil,Zw.nil⟩|p::l=>⟨.cons ⟨p.2,rfl⟩ (U7 (K:=K) (H:=H) (ι:=ι) l).1,Zw.cons (Rep.str (x:=p.1.cps.toList)) (U7 l).2⟩
theorem m_split:kh X "str.split" (rM X.K wZ):=by
 intro pins s σ H x xs v us Q I rx rs h;obtain⟨ι,M,a,ds,S,ra,rd,h⟩:=h;cases a with
 | str z=>
  cases ds with
  |nil=>exact h.elim|cons d ds=>
   cases ds with
   |cons _ _=>cases d<;>exact h.elim|nil=>
    cases d with
    | str y=>
     simp only[Zkq]at h;split at h
     .rename_i hz;have:=ra.str_inv;subst this;obtain⟨w',ws,rfl,r1,r2⟩:=rd.cons_inv;have:=r2.nil_inv;subst this;have:=r1.str_inv;subst this;obtain⟨t,rfl⟩:=rx;obtain⟨u,rfl,ru⟩:=vals1 rs;obtain⟨t',rfl⟩:=ru;have zl:=jK;refine Zp4 ?_ ?_ λl k hl hn=>?_
      .have:=hz.1;simp[lU];intro e;subst e;simp at this
      .simp only[lU,Yo];exact Yi hz.2 zl
      .have hq:=I.fresh;obtain⟨v1,r'⟩:=U7 (K:=X.K) (H:=H) (ι:=ι) l;have e1:(l.map λp=>p.1.cps.toList)=oV z y:=by
        rw[oV,←hl,lO];rfl
       rw[e1]at r';obtain⟨x2,S2,r2⟩:=S.lst hq r';refine⟨.ref s.heap.objs.size,_,I.laid (λb o' e=>Yh _ e) (Yq _) (show cX X.prog X.w _ _ _ (.lst (l.map λp=>V.str p.1))from⟨?_,lH l,_,v1,Y1 _ rfl⟩),rfl,h _ _ _ x2 S2 r2⟩;simp only[Ys,lU,Yo]at hn ⊢;omega
     .exact h.elim
    |_=>exact h.elim
 |_=>exact h.elim
theorem Zh9(ho:C3 X o f)(ha:CA X (e::es) gl)(hbase:mR o "split" X.env (aF o X.env)=aF o X.env:=by rfl)(hfew:((bO cpos (Yr (e::es) X.env)).all (λx=>!x.1)&&(iC cpos (iB [] X.env)).all (λx=>x.1.isSome)
   &&decide ((e::es).length+([]:List Keyword).length+(if([]:List Keyword).isEmpty then 0 else 1)<30))=true:=by rfl)(hline:(apos.endLine==cpos.line)=true:=by rfl)(hs:Yr (e::es) X.env=(false,aF e X.env)::Yr es X.env:=by rfl)(hplain:(bO cpos (Yr es X.env)).any (·.1)=false:=by rfl):
  C3 X (.Call (.Attribute o "split" apos) (e::es) [] cpos) (aQ iz wZ f gl):=
 (G4 RJ PySem.F.slot_str_split PySem.F.type_str_split m_split ho ha hbase hfew hline hs hplain).imp (H_ UG)
end
section
variable {X:Cx} {a b c e o:Expr} {es:List Expr} {pos p p1 p2 p3 pt apos cpos:aP} {f g h:E3} {gl:cY}
theorem Zts(K:Yb)(t:String)(T1 T2:oN)(ht:t∈["NoneType","bool","int","str","list","tuple","dict"]):
  PySem.W.kitAny K (.type t) [.type (eV T1),.type (eV T2)]=Ya ((t==eV T1|| (t== "bool" &&eV T1== "int"))|| (t==eV T2|| (t== "bool" &&eV T2== "int"))):=by
 simp only[Yv,ou,or_false]at ht;rcases ht with rfl|rfl|rfl|rfl|rfl|rfl|rfl <;>cases T1<;>cases T2<;>kernel_rfl
theorem Ztg{x:V}(I:Inv X pins σ H s)(S:aB X.K H ι M)(r:Rep X.K H ι d x)(ru:RelV x u)(hd:jT .int d M≠Yk):
  ∃(t:String) (Hc:aC->Prop),PySem.W.KitX X.K u (.type t) Hc/\Hc s.heap/\u≠ .builtin "__main__.__loader__#opaque" /\t∈["NoneType","bool","int","str","list","tuple","dict"]/\∀T b,jT T d M=Ya b->b=(t==eV T|| (t== "bool" &&eV T== "int")):=by
 cases d with
 | non=>
  have:=r.jd;subst this;cases(show u=Value.none from ru);exact⟨"NoneType",_,Xy,True.intro,(λz=>nomatch z),by simp,λT b e=>by
   have hb:b=false:=by simpa  using e.symm
   subst hb;cases T<;>rfl⟩
 | bl c=>
  have:=r.gF;subst this;cases(show u=Value.bool c from ru);exact⟨"bool",_,Xz,True.intro,(λz=>nomatch z),by simp,λT b e=>by
   have hb:b=(T== .bool|| T== .int):=by simpa  using e.symm
   subst hb;cases T<;>rfl⟩
 | int i=>
  have:=r.int_inv;subst this;obtain⟨t,q⟩:=(show∃t,u=Value.int i t from ru);cases q;exact⟨"int",_,XD,True.intro,(λz=>nomatch z),by simp,λT b e=>by
   have hb:b=(T== .int):=by simpa  using e.symm
   subst hb;cases T<;>rfl⟩
 | str z=>
  have:=r.str_inv;subst this;obtain⟨t,q⟩:=(show∃t,u=Value.str _ t from ru);cases q;exact⟨"str",_,XF,True.intro,(λz=>nomatch z),by simp,λT b e=>by
   have hb:b=(T== .str):=by simpa  using e.symm
   subst hb;cases T<;>rfl⟩
 | tup ds=>
  obtain⟨a,vs,rfl,st,rr⟩:=r.je;cases ru;obtain⟨its,_,pt,_⟩:=I.tuple st;obtain⟨o,h1,h2,_⟩:=pt;exact⟨"tuple",_,Qj,⟨o,h1,h2⟩,(λz=>nomatch z),by simp,λT b e=>by
   have hb:b=(T== .tuple):=by simpa  using e.symm
   subst hb;cases T<;>rfl⟩
 |bM ds=>exact absurd (by simp) hd|ref n=>
  simp only[Zoy,Zo9,Zoh,ZoL,Zom,Zo2,Zou]at hd;cases hn:M[n]? with
  |none=>exact absurd (by simp[hn]) hd|some o=>
   obtain⟨a,ha,rfl⟩:=r.dN;cases o with
   | lst z=>
    obtain⟨vs,ev,_⟩:=S.obj n _ a hn ha;cases(show u=Value.ref a from ru);obtain⟨_,_,n',_,h1⟩:=(show cX X.prog X.w H s.heap a (.lst vs)from I.hok a _ ev);exact⟨"list",_,Qn,⟨_,h1,rfl⟩,(λz=>nomatch z),by simp,λT b e=>by
     have hb:b=(T== .list):=by simpa[hn]using e.symm
     subst hb;cases T<;>rfl⟩
   | dct z=>
    obtain⟨vs,ev,_⟩:=S.obj n _ a hn ha;cases(show u=Value.ref a from ru);obtain⟨_,_,vs',_,q⟩:=(show cX X.prog X.w H s.heap a (.dK vs)from I.hok a _ ev);obtain⟨o,es,ep,h1,h2,_⟩:=q;exact⟨"dict",_,Qo,⟨o,h1,h2.1⟩,(λz=>nomatch z),by simp,λT b e=>by
     have hb:b=false:=by simpa[hn]using e.symm
     subst hb;cases T<;>rfl⟩
   |cP z=>exact absurd (by simp[hn]) hd|ins _ _=>exact absurd (by simp[hn]) hd
theorem ZoD(T1 T2:oN){x y:aj}{k}(hm:X.mg "isinstance" =Yk)(hm1:X.mg x=Yk)(hm2:X.mg y=Yk)(h:C3 X a f)(hx:x=(mY (eV T1)):=by rfl)(hy:y=(mY (eV T2)):=by rfl)(hg:Gl X "isinstance":=by rfl)(hg1:Gl X x:=by rfl)(hg2:Gl X y:=by rfl)(hn:x≠ "__name__":=by decide)(hd:(x==("__debug__":aj))=false:=by decide)(hn':y≠ "__name__":=by decide)(hd':(y==("__debug__":aj))=false:=by decide)(hs:Yr (a::[.Tuple [.Name x p1,.Name y p2] k pt]) X.env=(false,aF a X.env)::Yr [.Tuple [.Name x p1,.Name y p2] k pt] X.env:=by rfl)(hs1:Yr (.Tuple [.Name x p1,.Name y p2] k pt::[]) X.env=(false,aF (.Tuple [.Name x p1,.Name y p2] k pt) X.env)::Yr [] X.env:=by rfl)(hs2:Yr (.Name x p1::[.Name y p2]) X.env=(false,aF (.Name x p1) X.env)::Yr [.Name y p2] X.env:=by rfl)(hs3:Yr (.Name y p2::[]) X.env=(false,aF (.Name y p2) X.env)::Yr [] X.env:=by rfl)(hpl:(bO pos (Yr [.Tuple [.Name x p1,.Name y p2] k pt] X.env)).any (·.1)=false:=by rfl):C3 X (.Call (.Name "isinstance" p) [a,.Tuple [.Name x p1,.Name y p2] k pt] [] pos) (e1 (Hx T1 T2) f):=by
 subst hx hy;have hc:cT X (.builtin "isinstance") (λxs H Q=>∃ι M d x q,xs=[x,.ref q]/\H q=Ya (.tup [.ty (eV T1),.ty (eV T2)])/\aB X.K H ι M/\Rep X.K H ι d x/\Zv X.K H ι Q (Hx T1 T2 d M)):=by
  intro pins s σ H xs us Q I r q;obtain⟨ι,M,d,x,tp,rfl,et,S,rd,q⟩:=q;obtain⟨u,w',rfl,ru,kj⟩:=vals2 r;cases kj;unfold Hx at q;cases e1:jT T1 d M with
  |none=>rw[e1]at q;exact q.elim|some b1=>
   cases e2:jT T2 d M with
   |none=>rw[e1,e2]at q;exact q.elim|some b2=>
    rw[e1,e2]at q;have hd:jT .int d M≠Yk:=λz=>by
     cases d with
     |ref n=>
      simp only[Zoy,Zo9,Zoh,ZoL,Zom,Zo2,Zou]at z e1;cases hn:M[n]? with
      |none=>simp[hn]at e1|some o=>cases o<;>simp[hn]at z e1
     |bM _=>simp  at e1|_=>simp  at z
    obtain⟨t,Hc,kx,hh,hl,ht,hb⟩:=Ztg I S rd ru hd;obtain⟨_,its,rt,pt⟩:=(show cX X.prog X.w H s.heap tp (.tup [.ty (eV T1),.ty (eV T2)])from I.hok tp _ et);obtain⟨v1,v2,rfl,q1,q2⟩:=vals2 rt;cases q1;cases q2;obtain⟨ob,g1,⟨g2,g3⟩,n,g4⟩:=pt;have ho:ob={cls:=.type "tuple",dict:=ob.dict,data:=.seq [.type (eV T1),.type (eV T2)].toArray n,slots:=ob.slots}:=by cases ob;simp only at g2 g4;subst g2 g4;rfl
    rw[ho]at g1;refine PySem.W.kia_tup kx I.bW hh g1 ((Zts X.K t T1 T2 ht).trans ?_) hl λtk=>⟨.bl (b1|| b2),H,I.tok _,rfl,Zv.ok q S Rep.bl⟩;rw[hb T1 b1 e1,hb T2 b2 e2]
 refine(Li hc hg hm Zgk (pM h (pM (Th (pM (Ss hg1 hm1 (UT T1) (v:=.ty (eV T1)) rfl hn hd) (pM (Ss hg2 hm2 (UT T2) (v:=.ty (eV T2)) rfl hn' hd') y_ hs3) hs2)) y_ hs1) hs) (by decide) (by decide) hs hpl).imp λσ H Q ak=>?_;obtain⟨ι,M,env,S,E,h⟩:=ak;obtain⟨d,M1,e1,h⟩:=Zv.bind h;refine⟨ι,M,env,S,E,?_⟩;rw[e1];intro v H1 ι1 x1 S1 r1;refine⟨by simp;exact Yi (by decide) jK,λq hq=>?_⟩;have x2:Ext X.K H1 ι1 (upd H1 q (.tup [.ty (eV T1),.ty (eV T2)])) ι1:=Loose.ext (.inl hq);exact⟨ι1,M1,d,v,q,rfl,fV,S1.other (.inl hq) (S1.fresh hq),r1.mono x2,h.up (x1.trans x2)⟩
end
def MP(K:Yb)(H:Hp)(ι:List Yt)(it:Hy)(J:It):Prop:=∀(i:Nat) H2 ι2 M2,Ext K H ι H2 ι2->aB K H2 ι2 M2->d_ it.lk M2=true ->
 (∀d,it.items[i]?=Ya d->J.go i H2/\∀x H3,J.Lf i H2 x H3->Ext K H2 ι2 H3 ι2/\aB K H3 ι2 M2/\Rep K H3 ι2 d x)/\(i=it.items.length->J.stop i H2)
def zN(K:Yb)(H:Hp)(ι:List Yt)(R:It->Hp->Prop)(r:R3 Hy):Prop:=match r with
 | .ok it M'=>∀J H' ι',Ext K H ι H' ι'->aB K H' ι' M'->MP K H' ι' it J->R J H'|_=>False
def tIL(K:Yb)(g:sZ):TI:=λσ H R=>∃ι M env,aB K H ι M/\bJ K H ι env σ/\zN K H ι R (g env M)
def CIL(X:Cx)(tg e:Expr)(g:sZ):Prop:=PI X tg e (tIL X.K g)
theorem zN.bind{Q:It->Hp->Prop}{r:R3 α}{k:α->Store->R3 Hy}(h:zN K H ι Q (r.bind k)):∃a M,r= .ok a M/\zN K H ι Q (k a M):=by
 cases r with
 |ok a M=>exact⟨a,M,rfl,h⟩|exc x M=>exact h.elim|bad=>exact h.elim
section
variable {X:Cx} {tg:Expr} {pos:aP}
theorem ZtZ{iter:Expr}{body:List Ydi}{i:sZ}{g:G3}{u:S3}(xx:X.xe=λ_ _=>False)(hc:X.calm=true)(hi:CIL X tg iter i)(hg:CG X tg g)(hb:mD X body u)(hs:∀x,yp iter X.env x=pure x:=by intro _;rfl):
  CS X (.For tg iter body [] pos) (Hz i g u):=(SJ (by rw[xx];exact R5) hc hi hg hb hs).imp λD σ H ak=>by
 obtain⟨ι,M,env,S,E,h⟩:=ak;unfold Hz at h;cases q:i env M with
 |exc x M1=>rw[q]at h;exact h.elim|bad=>rw[q]at h;exact h.elim|ok it M1=>
  rw[q]at h;refine⟨ι,M,env,S,E,?_⟩;rw[q];intro J H1 ι1 x1 S1 ok;refine⟨λi m σ2 H2=>m=it.items.length-i/\i<=it.items.length/\∃ι2 M2 gj,Ext X.K H1 ι1 H2 ι2/\aB X.K H2 ι2 M2/\bJ X.K H2 ι2 gj σ2/\jU X.K H2 ι2 D (oW it.lk g u (it.items.drop i) gj M2),
   ⟨_,rfl,fL _,ι1,M1,env,Ext.refl,S1,E.mono x1,jU.up x1 h⟩,?_⟩
  rintro i m σ2 H2 ⟨rfl,hi,ι2,M2,gj,x2,S2,E2,h2⟩;by_cases hlt:i<it.items.length
  .have hd:it.items[i]?=Ya it.items[i]:=by simp[hlt]
   rw[yD hlt]at h2
   first|rw[T_]at h2|rw[T9]at h2
   by_cases lk:d_ it.lk M2=true
   .rw[if_pos lk]at h2;obtain⟨go,yl⟩:=(ok i H2 ι2 M2 x2 S2 lk).1 _ hd;cases eg:g it.items[i] gj with
    |none=>rw[eg]at h2;exact h2.elim|some qx=>
     rw[eg]at h2;refine .inr ⟨go,λσ' H'=>∃ι3 M3 jO,Ext X.K H2 ι2 H' ι3/\aB X.K H' ι3 M3/\bJ X.K H' ι3 jO σ'/\jU X.K H' ι3 D (oW it.lk g u (it.items.drop (i+1)) jO M3),
      λσ' H' ⟨ι3,M3,jO,x3,S3,E3,h3⟩=>⟨it.items.length-(i+1),by omega,rfl,hlt,ι3,M3,jO,x2.trans x3,S3,E3,h3⟩,λx H' hy=>?_⟩
     obtain⟨x7,S7,rx⟩:=yl x H' hy;refine⟨ι2,M2,gj,_,qx,S7,E2.mono x7,rx,eg,λσ' E'=>⟨ι2,M2,qx,S7,E',?_⟩⟩;have h2':=jU.up x7 h2;cases qu:u qx M2 with
     |nx e' M'=>simp only[qu]at h2';exactλσ' H' ι' x' S' E'=>⟨ι',M',e',x7.trans x',S',E',h2'.up x'⟩|ct e' M'=>simp only[qu]at h2';exactλσ' H' ι' x' S' E'=>⟨ι',M',e',x7.trans x',S',E',h2'.up x'⟩|bk e' M'=>simp only[qu]at h2';exact h2'|rt d M'=>simp only[qu]at h2';exact h2'
     |exc x' M'=>simp only[qu]at h2';exact h2'.elim|bad=>simp only[qu]at h2';exact h2'.elim
   .rw[if_neg lk]at h2;exact h2.elim
  .have e0:i=it.items.length:=Y6 hi (ir hlt);subst e0;rw[Gd]at h2
   first|rw[T_]at h2|rw[T9]at h2
   by_cases lk:d_ it.lk M2=true
   .rw[if_pos lk]at h2;exact .inl ⟨(ok _ H2 ι2 M2 x2 S2 lk).2 rfl,h2 σ2 H2 ι2 Ext.refl S2 E2⟩
   .rw[if_neg lk]at h2;exact h2.elim
end
theorem _root_.L2.Inv.JC{h':aC}{t':Nat}(I:Inv X pins σ H s)(k:∀b o,b∉fp->s.heap.get? b=Ya o->h'.get? b=Ya o)(hf:∀b∈fp,iu X pins H b):
  Inv X pins σ H {s with heap:=h',toks:=t'}:=by
 have GD:∀b u,H b=Ya u->b∉fp:=λb u e z=>by rw[(hf b z).1]at e;cases e
 refine I.step (g':=s.gens) (d':=s.drawn) (ch:=fp) (λb hb=>⟨(hf b hb).2.2.2.1,(hf b hb).2.1,(hf b hb).2.2.2.2.1,(hf b hb).2.2.2.2.2⟩) (λb o _ _ hc e _=>k b o hc e) (λb o _ _ hc e _=>⟨o.slots,k b o hc e⟩) (λ_ _ _ _ n=>n)
  (λb o hc e=>⟨o,k b o hc e⟩) (λ_ _ e=>e) (λ_ _ _ e=>e) (λb ps e=>⟨#[],by rw[e];simp⟩) (λm hm=>?_) (λb u e=>?_) I.bare
 .obtain⟨o,es,ep,ho,r⟩:=hm;exact⟨o,es,ep,k _ o (λz=>(hf _ z).2.1 rfl) ho,r⟩
 .refine(I.hok b u e).stay (λc v hc q=>k c v ?_ q) (λ_ q=>q) λ_ _ q=>q;rcases hc with z|z
  .rw[z];exact GD b u e
  .exact GD c _ z
noncomputable def Ite(S:Hp->List V->Prop):It:=⟨λi H=>∃xs x,S H xs/\xs[i]?=Ya x,λi H x H'=>∃T y,x= .ref T/\H T=Yk/\H'=upd H T (.tup [.int i,y])/\∀xs,S H xs->xs[i]?=Ya y,λi H=>∃xs,S H xs/\xs.length<=i⟩
theorem U8{h' h'':aC}{e:Yt}{x:V}{tk tk':Nat}(I:Inv X pins σ H s)(hf:∀b∈[e,it],iu X pins H b)(he:e<s.heap.objs.size)(hi:it<s.heap.objs.size)(ru:RelV x u)(hT:h'.get? s.heap.objs.size=Ya {cls:=.type "tuple",data:=.seq #[.int i tk,u]})(hk:∀b o,b≠e->b≠it->s.heap.get? b=Ya o->h'.get? b=Ya o)(hs:Gh e h' h''):
  Inv X pins σ (upd H s.heap.objs.size (.tup [.int i,x])) {s with heap:=h'',toks:=tk'}/\∀b∈[e,it],upd H s.heap.objs.size (.tup [.int i,x]) b=Yk:=by
 have hn:∀b∈[e,it],upd H s.heap.objs.size (.tup [.int i,x]) b=Yk:=λb hb=>by
  have:b≠s.heap.objs.size:=by
   simp only[Yv,ou,or_false]at hb;rcases hb with rfl|rfl
   .exact dG he
   .exact dG hi
  rw[bh this];exact(hf b hb).1
 refine⟨?_,hn⟩;have I1:Inv X pins σ (upd H s.heap.objs.size (.tup [.int i,x])) {s with heap:=s.heap.push {cls:=.type "tuple",data:=.seq ([.int i tk,u]:List Ye).toArray},toks:=s.toks}:=I.laid (t':=s.toks) (λb o e=>Yh _ e) (Yq _) (show cX X.prog X.w _ _ _ (.tup [.int i,x])from⟨by rw[rT];show 2<=_;decide,[.int i tk,u],.cons ⟨tk,rfl⟩ (.cons ru .nil),sI.new _ _⟩);have I3:=I1.JC (t':=tk') (h':=h'') (fp:=[e,it]) (λb o hb q=>by
  have hbe:b≠e:=λz=>hb (by simp[z]);have hbi:b≠it:=λz=>hb (by simp[z]);rcases Heap.get?_push_cases q with⟨rfl,rfl⟩|q
  .exact(hs.2 _ (Bu he)).trans hT
  .exact(hs.2 _ hbe).trans (hk b o hbe hbi q)) λb hb=>⟨hn b hb,(hf b hb).2⟩
 exact I3
theorem Zno{P:Y8}{es:List Expr}{k:Nat}{pos:aP}(a e it:Yt)(hne:e≠it):
  Turn P w K (.Tuple es k pos) (Ite λH xs=>bK K H a xs) [e,it] e (λi h=>(∃old,yx h e it i old)/\h.IsListIter it a i)where
 mem:=by simp
 obj:=λi h st b hb=>by
  obtain⟨⟨old,he⟩,o,ho,c,d⟩:=st;simp only[Yv,ou,or_false]at hb;rcases hb with rfl|rfl
  .exact⟨_,he,λv z=>by cases z⟩
  .exact⟨o,ho,λv z=>by rw[d]at z;cases z⟩
 keep:=λi h h' st k=>by obtain⟨⟨old,he⟩,hit⟩:=st;exact⟨⟨old,k e (by simp) _ he⟩,hit.at λo q=>k it (by simp) o q⟩
 item:=by
  intro X hP hw hK hc i pins s σ H E I hf st hg;subst hP hw hK;obtain⟨xs,x,hq,hx⟩:=hg;obtain⟨its,rv,p,hz⟩:=I.list hq;obtain⟨u,hu,ru⟩:=rv.get hx;obtain⟨⟨old,he⟩,hit⟩:=st;have hel:=Y2 he;have hil:it<s.heap.objs.size:=by obtain⟨o,ho,_⟩:=id hit;exact Y2 ho
  refine wpAny_pyNext_enum_item he hit p.isList (x:=u) (by simpa using hu) hne λh' ho hit' hT hsz hk=>?_;refine⟨_,rfl,Qy (s:={s with heap:=h',toks:=s.toks+1}) ho λh'' Fq hs''=>?_⟩;obtain⟨I2,n2⟩:=U8 (x:=x) (tk':=s.toks+1) I hf hel hil ru hT hk hs'';exact⟨.ref s.heap.objs.size,_,I2,rfl,⟨_,x,rfl,I.hok.fresh (Yq _),rfl,λys hy=>by rw[I.JB hy hq];exact hx⟩,⟨⟨_,by simpa using Fq⟩,hit'.extBut hs''.extBut (bV hne)⟩,n2⟩
 done:=by intro X hP hw hK hc i pins s σ H E I hf st hg;subst hP hw hK;obtain⟨xs,hq,hx⟩:=hg;obtain⟨its,rv,p,hz⟩:=I.list hq;obtain⟨⟨old,he⟩,hit⟩:=st;have hl:=rv.length;exact wpAny_pyNext_enum_end (I.ok.hd hc) he hit p.isList (by simp;omega) λh' eb=>⟨rfl,I.JC (t':=s.toks) (λb o hb q=>eb b o (λz=>hb (by simp[z])) q) hf⟩
 self:=λ_ _ _ _ _ st h=>by obtain⟨⟨old,he⟩,_⟩:=st;exact Bd he h
theorem boot_enumerate:jA "enumerate" =Ya (.type "enumerate"):=by decide +kernel
open AutoSeq1 (wpAny_loadPart')
set_option maxRecDepth 100000
section
variable {prog:Y8} {w:aO} {A:bC} {E:Ye->Yf->Prop} {s:Yf}
theorem ZgY{it t:Yt}{x:Ye}(hit:s.heap.IsTupleIter it t i)(ht:s.heap.IsTuple t items)(hx:items[i]?=Ya x)(hQ:∀h',h'.IsTupleIter it t (i+1)->Gh it s.heap h'->Q x {s with heap:=h'}):ao (aq prog w) A (KY (.ref it)) Q E s:=by
 obtain⟨o,ho,hc,hd⟩:=id hit;obtain⟨ol,hol,_,nl,hdl⟩:=ht;unfold KY;refine Yc (yg (name:=mY "__next__") hit.typeIs KC
  (vU KC hit.typeIs Yje ?_ (Yj8 _)))
 show ao _ _ (field (.ref it) 0>>=_) _ _ s;refine Yc (mU ho hd (x:=.ref t) rfl ?_);show ao _ _ (if(Value.ref t==Value.none)=true then _ else _) _ _ s;rw[if_neg (show¬((Value.ref t==Value.none)=true)from j_)];show ao _ _ (field (.ref it) 1>>=_) _ _ s;refine Yc (mU ho hd (x:=.int i 0) rfl ?_);show ao _ _ (seqItems? (.ref t)>>=_) _ _ s;refine Yc (Fz hol hdl ?_);simp only[uI,hx];refine Yc (FJ ho hd (by simp) (Yp ⟨x,rfl,Yp (hQ _ ?_ (Yj9 ..))⟩));exact⟨_,wu _ ho (RT (Gs hd _)),(Yk9 ..).trans hc,by rw[Gs hd];simp[lJ]⟩
theorem ZeR{it t:Yt}(hh:A.handled=Yk)(hit:s.heap.IsTupleIter it t i)(ht:s.heap.IsTuple t items)(hx:items[i]?=Yk)(hE:∀h' e,Heap.ExtBut it s.heap h'->(∃o,h'.get? e=Ya o/\o.cls= .type "StopIteration")->E (.ref e) {s with heap:=h'}):ao (aq prog w) A (KY (.ref it)) Q E s:=by
 obtain⟨o,ho,hc,hd⟩:=id hit;obtain⟨ol,hol,_,nl,hdl⟩:=ht;unfold KY;refine Yc (yg (name:=mY "__next__") hit.typeIs KC
  (vU KC hit.typeIs Yje ?_ (Yj8 _)))
 show ao _ _ (field (.ref it) 0>>=_) _ _ s;refine Yc (mU ho hd (x:=.ref t) rfl ?_);show ao _ _ (if(Value.ref t==Value.none)=true then _ else _) _ _ s;rw[if_neg (show¬((Value.ref t==Value.none)=true)from j_)];show ao _ _ (field (.ref it) 1>>=_) _ _ s;refine Yc (mU ho hd (x:=.int i 0) rfl ?_);show ao _ _ (seqItems? (.ref t)>>=_) _ _ s;refine Yc (Fz hol hdl ?_);simp only[uI,hx];refine Yc (J1 (Yc (FJ ho hd (by simp) ?_)));show ao _ _ (newExc (.type "StopIteration") []>>=_) _ _ _;refine Yc ?_;simp only[newExc,newTuple];refine Yc (rR ?_ (by size_fits));refine Yc (m:=firstArgMember _ _) (JZ (a:=Value.none) (by first|rfl|(simp only[firstArgMember];rfl)) ?_);refine rR ?_ (by size_fits);simp only[raiseNew];refine Yc (wpAny_handled ?_)
 first|rw[show A.in1.handled=Yk from hh]|rw[hh]
 refine Yc (Yp (wpAny_throw ?_));exact hE _ _ (((Yj9 ..).extBut.push _).push _) ⟨_,Y1 _ rfl,rfl⟩
end
theorem Zl1{prog:Y8}(hh:A.handled=Yk)(it l:Yt)(hne:l≠it)(items:Array Ye):
  Draws prog w A it [it,l] items.size (λi v=>items[i]?=Ya v) (λi h=>h.IsTupleIter it l i/\h.IsTuple l items)where
 live:=λ_ _ st=>let⟨o,ho,_⟩:=st.1;⟨o,ho⟩
 frame:=λ_ _ _ st hk=>⟨st.1.at λo e=>hk it (by simp) o e,st.2.at λo e=>hk l (by simp) o e⟩
 item:=λi s Q E hi st hQ=>by refine ZgY st.1 st.2 (x:=items[i]) (by simp[hi]) λh' hit' hs'=>?_;exact hQ _ h' s.toks (by simp[hi]) ⟨hit',st.2.extBut hs'.extBut hne⟩ hs'
 done:=λs Q E st hE=>ZeR hh st.1 st.2 (by simp) hE
theorem ZfG(l:Yt)(items:Array Ye)(n:Nat)(dct:Option Yt)(sl:Array (Option Ye)):
  Meets (Builtin.«enumerate.__new__» ⟨[.type "enumerate",.ref l],[]⟩) (λ_ R s=>s.heap.get? l=Ya {cls:=.type "tuple",dict:=dct,data:=.seq items n,slots:=sl}/\
   R (.ok (.ret (.ref (s.heap.push {cls:=.type "tuple_iterator",data:=.fields #[.ref l,.int 0 0]}).objs.size)))
    {s with heap:=(s.heap.push {cls:=.type "tuple_iterator",data:=.fields #[.ref l,.int 0 0]}).push {cls:=.type "enumerate",data:=.fields #[.none,.bool false,.ref s.heap.objs.size,lJ 0,.none,.none]}}):=
 .of_wp λprog w A R s h=>by
  obtain⟨hp,g,d,tk,os⟩:=s;obtain⟨hl,h⟩:=h;have hsub:=sub_enumerate;have hL:Heap.IsTuple (Shared.heap ⟨hp,g,d,tk,os⟩) l items:=⟨_,hl,rfl,n,rfl⟩
  wp_walk using rQ hl
  refine YQ λst=>Yp ?_;split
  .rename_i c _ _ _ _ _;cases(c==Value.type "enumerate")
   .wp_walk using rQ hl,JT hL
    exact⟨_,rfl,h⟩
   .wp_walk using rQ hl,JT hL
    exact⟨_,rfl,h⟩
  .wp_walk using rQ hl,JT hL
   exact⟨_,rfl,h⟩
theorem ZfE{prog:Y8}{l:Yt}(hL:s.heap.IsTuple l items)(h:∀h',yx h' (s.heap.objs.size+1) s.heap.objs.size 0 .none->h'.IsTupleIter s.heap.objs.size l 0->h'.objs.size=s.heap.objs.size+2 ->
   (∀b o,s.heap.get? b=Ya o->h'.get? b=Ya o)->Q (.ref (s.heap.objs.size+1)) {s with heap:=h'}):
  ao (aq prog w) A (call (.type "enumerate") [.ref l]) Q E s:=by
 obtain⟨⟨c,dct,dt,sl⟩,hl,hc,n,hd⟩:=hL;replace hc:c= .type "tuple":=hc;replace hd:dt= .seq items n:=hd;subst hc hd;refine callType_new Yks (by decide) (F.typeCall_enumerate_1 _) (F.newCall_enumerate_1 _) (λobj=>F.args_object_init_2 obj _) Yiv
  (ZfG l items n dct sl) ⟨hl,?_⟩
 have hz:(s.heap.push {cls:=.type "tuple_iterator",data:=.fields #[.ref l,.int 0 0]}).objs.size=s.heap.objs.size+1:=wz ..;show _/\_;rw[hz];have he:yx ((s.heap.push {cls:=.type "tuple_iterator",data:=.fields #[.ref l,.int 0 0]}).push
   {cls:=.type "enumerate",data:=.fields #[.none,.bool false,.ref s.heap.objs.size,lJ 0,.none,.none]}) (s.heap.objs.size+1) s.heap.objs.size 0 .none:=by
  have:=Y1 (s.heap.push {cls:=.type "tuple_iterator",data:=.fields #[.ref l,.int 0 0]})
   (o:={cls:=.type "enumerate",data:=.fields #[.none,.bool false,.ref s.heap.objs.size,lJ 0,.none,.none]}) rfl
  rw[hz]at this;exact this
 refine⟨⟨_,he,rfl⟩,h _ he ⟨_,Yh _ (Y1 _ rfl),rfl,rfl⟩ (by rw[wz,hz]) λb o x=>Yh _ (Yh _ x)⟩
theorem Znp{P:Y8}{es:List Expr}{k:Nat}{pos:aP}(a e it:Yt)(hne:e≠it):
  Turn P w K (.Tuple es k pos) (Ite λH xs=>cM K H a xs) [e,it] e (λi h=>(∃old,yx h e it i old)/\h.IsTupleIter it a i)where
 mem:=by simp
 obj:=λi h st b hb=>by
  obtain⟨⟨old,he⟩,o,ho,c,d⟩:=st;simp only[Yv,ou,or_false]at hb;rcases hb with rfl|rfl
  .exact⟨_,he,λv z=>by cases z⟩
  .exact⟨o,ho,λv z=>by rw[d]at z;cases z⟩
 keep:=λi h h' st k=>by obtain⟨⟨old,he⟩,hit⟩:=st;exact⟨⟨old,k e (by simp) _ he⟩,hit.at λo q=>k it (by simp) o q⟩
 item:=by
  intro X hP hw hK hc i pins s σ H E I hf st hg;subst hP hw hK;obtain⟨xs,x,hq,hx⟩:=hg;obtain⟨its,rv,p,hz⟩:=I.tuple hq;obtain⟨u,hu,ru⟩:=rv.get hx;obtain⟨⟨old,he⟩,hit⟩:=st;have hel:=Y2 he;have hil:it<s.heap.objs.size:=by obtain⟨o,ho,_⟩:=id hit;exact Y2 ho
  have pt:s.heap.IsTuple a its.toArray:=p;have U9:e≠a:=by rintro rfl;obtain⟨o,ho,hc,_⟩:=pt;rw[he]at ho;cases ho;exact absurd hc (by simp)
  have hai:a≠it:=by rintro rfl;obtain⟨o,ho,hc,_⟩:=pt;obtain⟨o',ho',hc',_⟩:=hit;rw[ho']at ho;cases ho;rw[hc']at hc;exact absurd hc (by simp)
  have D:=Zl1 (prog:=X.prog) (w:=X.w) (A:=X.A.in1) (I.ok.hd hc) it a hai its.toArray;refine XS D he ⟨hit,pt⟩ (by simpa using(Yd.mp hu).1) hne (by simp[hne,U9]) λy h' tk hy ho hst hT hsz hk=>?_;have ey:y=u:=by
   have:its.toArray[i]?=Ya u:=by simpa using hu
   rw[this]at hy;cases hy;rfl
  subst ey;refine⟨_,rfl,Qy (s:={s with heap:=h',toks:=tk+1}) ho λh'' Fq hs''=>?_⟩;obtain⟨I2,n2⟩:=U8 (x:=x) (tk':=tk+1) I hf hel hil ru hT hk hs'';exact⟨.ref s.heap.objs.size,_,I2,rfl,⟨_,x,rfl,I.hok.fresh (Yq _),rfl,λys hy=>by rw[I.Pk hy hq];exact hx⟩,⟨⟨_,by simpa using Fq⟩,hst.1.extBut hs''.extBut (bV hne)⟩,n2⟩
 done:=by
  intro X hP hw hK hc i pins s σ H E I hf st hg;subst hP hw hK;obtain⟨xs,hq,hx⟩:=hg;obtain⟨its,rv,p,hz⟩:=I.tuple hq;obtain⟨⟨old,he⟩,hit⟩:=st;have hl:=rv.length;have pt:s.heap.IsTuple a its.toArray:=p;have hT:s.TypeIs (.ref e) "enumerate":=⟨_,he,rfl⟩;unfold vZ;refine Yc (QK (yg (name:=mY "__next__") hT KN
   (vU KN hT Yic ?_ (Yhv _))))
  show ao _ _ (field (.ref e) 2>>=_) _ _ _;refine Yc (mU he rfl (x:=.ref it) rfl ?_);refine Yc (ZeR (I.ok.hd hc) hit pt (by simp;omega) λh' x he' hx'=>?_);obtain⟨o,ho,hc⟩:=hx';refine Yc (YL (T:="StopIteration") (b:=true) ⟨o,ho,hc⟩ isSubtype_stop ?_);exact Yp ⟨rfl,I.JC (t':=s.toks) (λb o hb q=>he' b o (λz=>hb (by simp[z])) q) hf⟩
 self:=λ_ _ _ _ _ st h=>by obtain⟨⟨old,he⟩,_⟩:=st;exact Bd he h
section
variable {X:Cx} {es:List Expr} {k:Nat} {a:Expr} {p pos tpos:aP} {f:E3}
def Zu6(K:Yb)(ta:TA):TI:=λσ H R=>ta σ H λvs H1=>∃b,vs=[.ref b]/\((∃xs,bK K H1 b xs/\R (Ite λH xs=>bK K H b xs) H1)\/∃xs,cM K H1 b xs/\R (Ite λH xs=>cM K H b xs) H1)
theorem Ztn{ta:TA}(hg:Gl X "enumerate")(hm:X.mg "enumerate" =Yk)(ha:PA X [a] ta)(hs:Yr [a] X.env=[(false,aF a X.env)]:=by rfl):PI X (.Tuple es k tpos) (.Call (.Name "enumerate" p) [a] [] pos) (Zu6 X.K ta):=by
 intro pins s σ H R I h;refine Call_ (wL I hg hm boot_enumerate (Kz (aH (ha pos pins s σ H _ I h) λus s1 ⟨vs,H1,I1,r1,q1⟩=>?_) hs rfl));obtain⟨b,e,q⟩:=q1;subst e;cases r1 with
 | cons r rr=>
  cases rr
  cases r
  have fp:∀{h':aC} {s2:Yf},∀c∈[s1.heap.objs.size+1,s1.heap.objs.size],iu X pins H1 c:=λ{h' s2} c hc=>by
   have hc':s1.heap.objs.size<=c:=by simp only[Yv,ou,or_false]at hc;rcases hc with rfl|rfl <;>omega
   exact I1.ul hc' (I1.hok.fresh hc')
  rcases q with⟨xs,hq,q⟩|⟨xs,hq,q⟩
  .obtain⟨its,rv,pl,hz⟩:=I1.list hq;refine call_enumerate_list pl.isList λh' hE hI hsz hk=>?_;have I2:Inv X pins σ H1 {s1 with heap:=h'}:=I1.kept (t':=s1.toks) hk;exact Bd (s:={s1 with heap:=h'}) hE ⟨_,[s1.heap.objs.size+1,s1.heap.objs.size],_,_,H1,rfl,I2,Zno b _ _ (Rk _),⟨⟨_,hE⟩,hI⟩,fp (h':=h') (s2:=s1),q⟩
  .obtain⟨its,rv,pl,hz⟩:=I1.tuple hq;refine ZfE (show s1.heap.IsTuple b its.toArray from pl) λh' hE hI hsz hk=>?_;have I2:Inv X pins σ H1 {s1 with heap:=h'}:=I1.kept (t':=s1.toks) hk;exact Bd (s:={s1 with heap:=h'}) hE ⟨_,[s1.heap.objs.size+1,s1.heap.objs.size],_,_,H1,rfl,I2,Znp b _ _ (Rk _),⟨⟨_,hE⟩,hI⟩,fp (h':=h') (s2:=s1),q⟩
theorem ZoR(hm:X.mg "enumerate" =Yk)(h:C3 X a f)(hg:Gl X "enumerate":=by rfl)(hs:Yr [a] X.env=[(false,aF a X.env)]:=by rfl)(hs':Yr (a::[]) X.env=(false,aF a X.env)::Yr [] X.env:=by rfl):CIL X (.Tuple es k tpos) (.Call (.Name "enumerate" p) [a] [] pos) (Ua f):=
 PI.imp (Ztn hg hm (Zc h Zf hs') hs) λσ H R ak=>by
  obtain⟨ι,M,env,S,E,h⟩:=ak;obtain⟨d,M1,e1,h⟩:=zN.bind h;refine⟨ι,M,env,S,E,?_⟩;have e2:Za f Ze env M= .ok [d] M1:=by unfold Za;rw[e1];rfl
  rw[e2];intro vs H1 ι1 x1 S1 r1;obtain⟨v,ws,rfl,r,q⟩:=r1.cons_inv;have:=q.nil_inv;subst this;cases d with
  | tup ds=>
   obtain⟨b,vs,rfl,s,r⟩:=r.je;refine⟨b,rfl,.inr ⟨vs,s,h _ H1 ι1 x1 S1 ?_⟩⟩;intro i H2 ι2 M2 x S2 _;refine⟨λd hd=>?_,λhl=>⟨vs,x.tup _ _ s,by rw[r.length,hl,Mf];exact Yq _⟩⟩;rw[Ma]at hd;cases hq:ds[i]? with
   |none=>rw[hq]at hd;cases hd|some d0=>rw[hq]at hd;simp only[Qi,wB,Yla]at hd;subst hd;obtain⟨v,hv,rv⟩:=r.get hq;refine⟨⟨vs,v,x.tup _ _ s,hv⟩,λy H3 hy=>?_⟩;obtain⟨T,y',rfl,hT,rfl,hall⟩:=hy;have e:=hall vs (x.tup _ _ s);rw[hv]at e;cases e;exact S2.uo hT (Zw.cons Rep.int (Zw.cons (rv.mono x) Zw.nil))
  | ref n=>
   cases hm:M1[n]? with
   |none=>simp only[hm]at h;exact h.elim|some o=>
    cases o with
    |dct kvs=>simp only[hm]at h;exact h.elim|cP kvs=>simp only[hm]at h;exact h.elim|ins _ _=>simp only[hm]at h;exact h.elim|lst ds=>
     simp only[hm]at h;obtain⟨b,ha,rfl⟩:=r.dN;obtain⟨vs,q,r⟩:=S1.obj n _ b hm ha;refine⟨b,rfl,.inl ⟨vs,bK.of q,h _ H1 ι1 x1 S1 ?_⟩⟩;intro i H2 ι2 M2 x S2 lk;have zA:M2[n]?=Ya (.lst ds):=by simpa[d_]using lk
     obtain⟨vs2,q2,r2⟩:=S2.obj n _ b zA (x.pre _ _ ha);refine⟨λd hd=>?_,λhl=>⟨vs2,bK.of q2,by rw[r2.length,hl,Mf];exact Yq _⟩⟩;rw[Ma]at hd;cases hq:ds[i]? with
     |none=>rw[hq]at hd;cases hd|some d0=>rw[hq]at hd;simp only[Qi,wB,Yla]at hd;subst hd;obtain⟨v,hv,rv⟩:=r2.get hq;refine⟨⟨vs2,v,bK.of q2,hv⟩,λy H3 hy=>?_⟩;obtain⟨T,y',rfl,hT,rfl,hall⟩:=hy;have e:=hall vs2 (bK.of q2);rw[hv]at e;cases e;exact S2.uo hT (Zw.cons Rep.int (Zw.cons rv Zw.nil))
  |_=>exact h.elim
end
end L3
namespace L3
open PySem PySem.Spec PyProof.Rows L2
section
variable {X:Cx}
theorem ZvN:jA "max" =Ya (.builtin "max"):=by decide +kernel
theorem Zt9{K:Yb}{H:Hp}{ι:List Yt}{i j:Int}{xs:List V}(r:Zw K H ι [.int i,.int j] xs):xs=[.int i,.int j]:=by obtain⟨v1,vs1,rfl,q1,r⟩:=r.cons_inv;obtain⟨v2,vs2,rfl,q2,r⟩:=r.cons_inv;have:=r.nil_inv;subst this;have e1:=q1.int_inv;have e2:=q2.int_inv;subst e1 e2;rfl
theorem Zwo(hc:X.calm=true):cT X (.builtin "max") (rB X.K Cv):=cT.imp (ZpQ hc) λxs H Q ak=>by
 obtain⟨ι,M,ds,S,rd,h⟩:=ak;unfold Cv at h;split at h
 .exact⟨_,_,Zt9 rd,h _ H ι Ext.refl S Rep.int⟩
 .exact h.elim
noncomputable def MT:Ye->D
 | .int i _=>.int i|.bool b=>.bl b|.str x _=>.str x.cps.toList|_=>.non
theorem Zo5{K:Yb}{H:Hp}{ι:List Yt}{d:D}{v:V}{y:Ye}(hf:cV d=true)(r:Rep K H ι d v)(rv:RelV v y):MT y=d:=by
 cases d with
 |non=>have:=r.jd;subst this;cases rv;rfl|bl b=>have:=r.gF;subst this;cases rv;rfl|int i=>have:=r.int_inv;subst this;obtain⟨t,rfl⟩:=rv;rfl|str x=>have:=r.str_inv;subst this;obtain⟨t,rfl⟩:=rv;rfl
 |_=>simp[cV]at hf
theorem ZoJ{K:Yb}{H:Hp}{ι:List Yt}{a:D}:∀{ds:List D} {vs:List V} {its:List Ye},Zw K H ι ds vs->Vals vs its->ds.all cV=true->(ds.any λy=>dH y a)=its.any λy=>dH (MT y) a
 |[],vs,its,r,rv,_=>by have:=r.nil_inv;subst this;cases rv;rfl|d::ds,vs,its,r,rv,hf=>by
  obtain⟨v,ws,rfl,r1,r2⟩:=r.cons_inv;cases rv with
  |cons q rv=>simp only[iM,Y3]at hf;simp only[j9,ZoJ r2 rv hf.2,Zo5 hf.1 r1 q]
theorem ZuE:a_ X (gP .In) (r2 X.K qN):=by
 intro pins s σ H x y v u Q I rx ry ⟨ι,M,a,b,S,ra,rb,h⟩;unfold qN at h;cases b with
 | ref n=>
  cases hn:M[n]? with
  |none=>simp only[hn]at h;exact h.elim|some ob=>
   cases ob with
   |dct _=>simp only[hn]at h;exact h.elim|cP _=>simp only[hn]at h;exact h.elim|ins _ _=>simp only[hn]at h;exact h.elim|lst ds=>
    simp only[hn]at h;by_cases hf:(cV a&&ds.all cV)=true
    .rw[if_pos hf]at h;rw[Y3]at hf;obtain⟨p,hp,rfl⟩:=rb.dN;cases ry;obtain⟨vs,e1,r1⟩:=S.obj n _ p hn hp;obtain⟨its,rvs,pl,_⟩:=I.list (bK.of e1);have he:∀y,y∈its.toArray->uJ X.A.in1 s y v (dH (MT y) a):=λy hy=>by
      have hy:y∈its:=by simpa using hy
      obtain⟨j,hj⟩:=Q6 hy;have hjl:j<vs.length:=by rw[rvs.length];exact(Yd.mp hj).1
      obtain⟨w,hw,kj⟩:=rvs.get (j7 hjl);rw[hj]at hw;cases hw;have hjd:j<ds.length:=by rw[←r1.length];exact hjl
      obtain⟨z,hz,rz⟩:=r1.get (j7 hjd);rw[j7 hjl]at hz;cases hz;have hfl:=ig.mp hf.2 _ (wg hjd);rw[Zo5 hfl rz kj];exact Uk X.A.in1 ds[j] a _ x y v hfl hf.1 rz ra kj rx
     refine Ymc (λy=>dH (MT y) a) pl.isList he ⟨.bl (ds.any λy=>dH y a),H,I,?_,h _ H ι Ext.refl S Rep.bl⟩;show(.bool _:Ye)= .bool _;rw[ZoJ r1 rvs hf.2];simp
    .rw[if_neg hf]at h;exact h.elim
 |_=>exact h.elim
end
open AutoSeq1 (wpAny_loadPart')
set_option maxRecDepth 100000
theorem ZgG(l:Yt)(items:Array Ye)(n:Nat)(b:Yt)(items2:Array Ye)(n2:Nat)(sl:Array (Option Ye))(hl:¬(!items.isEmpty&&Bx (items.size+items2.size))=true)(hz:items.size<=bB)(hz2:items.size+items2.size<=bB+1):
  Meets (Builtin.«list.extend» ⟨[.ref l,.ref b],[]⟩) (λ_ R s=>s.heap.get? l=Ya {cls:=.type "list",data:=.seq items n}/\s.heap.get? b=Ya {cls:=.type "tuple",data:=.seq items2 n2,slots:=sl}/\
   R (.ok (.ret .none)) {s with heap:=s.heap.update l (yU λx=>x++items2)}):=
 .of_wp λprog w A R s h=>by
  obtain⟨hp,g,d,tk,os⟩:=s;obtain⟨h1,h2,h⟩:=h
  wp_walk using rQ h1,rQ h2
  rw[show(yU (λx=>x++items2) {cls:=Value.type "list",data:=Data.seq items n}).data.pastItsLine=Yk by show(if(items++items2).size>bB+1 then Ya "sequence:memory" else Yk)=Yk;rw[if_neg (by rw[Array.size_append];exactλz=>by omega)]];exact Yp (Yp ⟨_,rfl,h⟩)
section
variable {X:Cx} {o e:Expr} {es:List Expr} {apos cpos:aP} {f:E3} {gl:cY}
noncomputable def ZmE(K:Yb):V->List V->Hp->VK->Prop:=λx vs H Q=>∃l b xs zs,x= .ref l/\vs=[.ref b]/\H l=Ya (.lst xs)/\cM K H b zs/\xs.length+zs.length<=bB/\Q .non (upd H l (.lst (xs++zs)))
theorem ZnY:kh X "list.extend" (ZmE X.K):=by
 intro pins s σ H x vs v us Q I rx rv h;obtain⟨l,b,xs,zs,rfl,rfl,hH,hB,hz,q⟩:=h;cases rx;obtain⟨u,rfl,ru⟩:=rv.one;cases ru;obtain⟨z,its,n,r,hl,e⟩:=I.um hH;obtain⟨its2,r2,⟨⟨c,dc,dt,sl⟩,e2,⟨hc,hd⟩,n2,hs⟩,z2⟩:=I.Acn hB;replace hc:c= .type "tuple":=hc;replace hd:dc=Yk:=hd;replace hs:dt= .seq its2.toArray n2:=hs;subst hc hd hs;have hl2:=r2.length;have hsz:its.toArray.size+its2.toArray.size<=bB:=by rw[Yo,Yo];omega
 have Fj:¬(!its.toArray.isEmpty&&Bx (its.toArray.size+its2.toArray.size))=true:=by rw[Tt hsz,yO];exact j_
 refine rW Ykp ⟨_,e,rfl⟩ Yj3 (Yjc _ _)
  (ZgG l its.toArray n b its2.toArray n2 sl Fj (by rw[Yo];omega) (by omega)) ⟨e,e2,?_⟩
 refine⟨.non,_,I.Fo (its':=its++its2) hH e (by simp) (r.append r2) ?_,rfl,q⟩;rw[Yj];exact hz
theorem ZrL:kh X "list.extend" (rM X.K pW):=kh.imp (r:=λx xs H Q=>Zpi x xs H Q\/ZmE X.K x xs H Q) (λpins s σ H x xs v us Q I rx rs q=>q.elim (ZpH pins s σ H x xs v us Q I rx rs) (ZnY pins s σ H x xs v us Q I rx rs)) λx xs H Q ak=>by
 obtain⟨ι,M,a,ds,S,ra,rd,h⟩:=ak;cases a with
 | ref n=>
  cases ds with
  |nil=>exact h.elim|cons d ds=>
   cases ds with
   |cons _ _=>cases d<;>exact h.elim|nil=>
    obtain⟨v,ws,rfl,r1,r2⟩:=rd.cons_inv;have:=r2.nil_inv;subst this;obtain⟨p,hp,rfl⟩:=ra.dN;cases hn:M[n]? with
    |none=>cases d<;>first|exact h.elim|(rw[zu,hn]at h;exact h.elim)|(rw[Cw,hn]at h;exact h.elim)
    | some o=>
     cases o with
     |dct _=>cases d<;>first|exact h.elim|(rw[zu,hn]at h;exact h.elim)|(rw[Cw,hn]at h;exact h.elim)
     |cP _=>cases d<;>first|exact h.elim|(rw[zu,hn]at h;exact h.elim)|(rw[Cw,hn]at h;exact h.elim)
     |ins _ _=>cases d<;>first|exact h.elim|(rw[zu,hn]at h;exact h.elim)|(rw[Cw,hn]at h;exact h.elim)
     | lst z=>
      obtain⟨vs,e,rv⟩:=S.obj n _ p hn hp;cases d with
      | tup y=>
       simp only[zu,Cw,hn]at h;split at h
       .rename_i hz;obtain⟨b,ys,rfl,sb,ry⟩:=r1.je;obtain⟨x2,S2⟩:=S.vN (.inr (.inl ⟨_,e⟩)) hp (rv.append ry);exact .inr ⟨p,b,vs,ys,rfl,rfl,e,sb,by rw[rv.length,ry.length];exact Yi hz (Z6 (Kl jK)),h _ _ _ x2 S2 Rep.non⟩
       .exact h.elim
      | ref m=>
       simp only[zu,Cw,hn]at h;cases hm:M[m]? with
       |none=>simp only[hm]at h;exact h.elim|some o2=>
        cases o2 with
        |dct _=>simp only[hm]at h;exact h.elim|cP _=>simp only[hm]at h;exact h.elim|ins _ _=>simp only[hm]at h;exact h.elim|lst y=>
         simp only[hm]at h;split at h
         .rename_i hz;obtain⟨b,hb,rfl⟩:=r1.dN;obtain⟨ys,eb,ry⟩:=S.obj m _ b hm hb;obtain⟨x2,S2⟩:=S.vN (.inr (.inl ⟨_,e⟩)) hp (rv.append ry);exact .inl ⟨p,b,vs,ys,rfl,rfl,e,eb,by rw[rv.length,ry.length];exact Yi hz.2 (Z6 (Kl jK)),h _ _ _ x2 S2 Rep.non⟩
         .exact h.elim
      |_=>exact h.elim
 |_=>cases ds<;>exact h.elim
theorem Zhs(ho:C3 X o f)(ha:CA X (e::es) gl)(hbase:mR o "extend" X.env (aF o X.env)=aF o X.env:=by rfl)(hfew:((bO cpos (Yr (e::es) X.env)).all (λx=>!x.1)&&(iC cpos (iB [] X.env)).all (λx=>x.1.isSome)
   &&decide ((e::es).length+([]:List Keyword).length+(if([]:List Keyword).isEmpty then 0 else 1)<30))=true:=by rfl)(hline:(apos.endLine==cpos.line)=true:=by rfl)(hs:Yr (e::es) X.env=(false,aF e X.env)::Yr es X.env:=by rfl)(hplain:(bO cpos (Yr es X.env)).any (·.1)=false:=by rfl):
  C3 X (.Call (.Attribute o "extend" apos) (e::es) [] cpos) (aQ bI pW f gl):=
 (G4 RD PySem.F.slot_list_extend PySem.F.type_list_extend ZrL ho ha hbase hfew hline hs hplain).imp (H_ UJ)
theorem Zud{K:Yb}{T:String}{ty:D->Store->Bool}{m:D->List D->Store->R3 D}(hty:∀H ι M a x,aB K H ι M->Rep K H ι a x->ty a M=true->zb K T x H)(σ:St)(H:Hp)(Q:VK)(h:mC K (aQ ty m f Ze) σ H Q):Zyv K T (rM K m) (mC K f) σ H Q:=by
 obtain⟨ι,M,env,S,E,h⟩:=h;obtain⟨a,M1,e1,h⟩:=Zv.bind h;refine⟨ι,M,env,S,E,?_⟩;rw[e1];intro v H1 ι1 x1 S1 r1;by_cases ht:ty a M1=true
 .rw[if_pos ht]at h;exact⟨hty _ _ _ _ _ S1 r1 ht,ι1,M1,a,[],S1,r1,Zw.nil,h.up x1⟩
 .rw[if_neg ht]at h;exact h.elim
theorem M7(ho:C3 X o f)(hbase:mR o "pop" X.env (aF o X.env)=aF o X.env:=by rfl)(hline:(apos.endLine==cpos.line)=true:=by rfl):C3 X (.Call (.Attribute o "pop" apos) [] [] cpos) (aQ bI kW f Ze):=(Zvu RD PySem.F.slot_list_pop PySem.F.type_list_pop ZxP ho hbase hline).imp (Zud UJ)
end
end L3
namespace L3
open PySem PySem.Spec PyProof.Rows L2
set_option maxRecDepth 100000
section
variable {X:Cx} {elt tg iter:Expr} {ifs:List Expr} {scope:Scope} {pos:aP} {i:sZ} {own:Nat} {g:G3} {ts:List E3} {f:E3} {N':List aj}
theorem Zih{pins:List (Yt×aD)}{σ:St}{s2:Yf}{H2:Hp}{ι2:List Yt}{M2:Store}{env:Zz}{it:Yt}{fp:List Yt}{tn:Nat->aC->Prop}{J:It}{aW:Hy}{Q:VK}{E:Ye->Yf->Prop}(O:zG X scope N' own)(hc:X.calm=true)(hb:∀C cl s H ex,CG (fP X scope N' C cl s H ex) tg g/\qT (fP X scope N' C cl s H ex) ifs ts/\C3 (fP X scope N' C cl s H ex) elt f)(I2:Inv X pins σ H2 s2)(T:Turn X.prog X.w X.K tg J fp it tn)(st0:tn 0 s2.heap)(hfp:∀b∈fp,iu X pins H2 b)(S2:aB X.K H2 ι2 M2)(E2:bJ X.K H2 ι2 env σ)(ok:MP X.K H2 ι2 aW J)(h:Zv X.K H2 ι2 Q (ju aW.lk g ts f M2.length aW.items (env++Ym own Yk) (M2++[.lst []])))(RR:Ye->Yt->pF->Yf->Prop)(fin:∀(acc C:Yt) (s':Yf) (m:aj->Option Ye) (H':Hp),s'.heap.Ns C m->iu X pins H' C->Inv X pins σ H' s'->Q (.ref acc) H'->RR (.ref acc) C (.ok .next) s'):
  ao (aq X.prog X.w) X.A (newList []) (λacc s₃=>ao (aq X.prog X.w) X.A (QH scope X.env.globals (fX X.env.cells scope.names []) [] X.env.qual Yk .none (Ya X.env)) (λcenv s₄=>jP (aq X.prog X.w) X.A (.compStart (.ListComp elt [⟨tg,iter,ifs,0⟩] scope pos) 0 (.ref it) acc {cenv with scope:=vX scope X.env}) (RR acc cenv.locals) s₄) E s₃) E s2:=by
 refine rR ?_;have hD:H2 s2.heap.objs.size=Yk:=I2.hok.fresh (Yq _);obtain⟨x3,S3,r3⟩:=S2.lst hD (Zw.nil (K:=X.K) (H:=H2) (ι:=ι2));have I3:Inv X pins σ (upd H2 s2.heap.objs.size (.lst [])) {s2 with heap:=s2.heap.push {cls:=.type "list",data:=.seq ([]:List Ye).toArray}}:=I2.laid (t':=s2.toks) (λb u e=>Yh _ e) (Yq _) ⟨fL _,[],0,.nil,Y1 _ rfl⟩;generalize hs3:({s2 with heap:=s2.heap.push {cls:=.type "list",data:=.seq ([]:List Ye).toArray}}:Yf)=s3 at I3 ⊢;have yd:∀b o,s2.heap.get? b=Ya o->s3.heap.get? b=Ya o:=λb o e=>by rw[←hs3];exact Yh _ e
 have mQ:∀b∈fp,iu X pins (upd H2 s2.heap.objs.size (.lst [])) b:=λb hb=>by refine⟨?_,(hfp b hb).2⟩;obtain⟨o,e,_⟩:=T.obj _ _ st0 b hb;rw[bh (dG (Y2 e))];exact(hfp b hb).1
 have vO:∀b∈fp,b<s3.heap.objs.size:=λb hb=>by obtain⟨o,e,_⟩:=T.obj _ _ st0 b hb;exact Y2 (yd b o e)
 have st3:tn 0 s3.heap:=T.keep _ _ _ st0 λb hb o e=>yd b o e;refine X6 O.cell (by intro y hy;cases hy) (λh4 hns hsb=>?_) O.kind;have Fi:∀b o,s3.heap.get? b=Ya o->h4.get? b=Ya o:=λb o e=>hsb.extBut b o (dG (Y2 e)) (Yh _ e);have I4:=Zl4 (own:=own) (N':=N') (tk:=s3.toks+([]:List (aj×Ye)).length) I3 O.kind O.cell O.free O.len O.vis mQ vO hns Fi;have HY:tn 0 h4:=T.keep _ _ _ st3 λb hb o e=>Fi b o e;have P0:∀{H':Hp},(∀b∈fp,H' b=Yk)->∀b∈fp,iu (fP X scope N' s3.heap.objs.size (fX X.env.cells scope.names []) s3 (upd H2 s2.heap.objs.size (.lst [])) fp) [] H' b:=λhn b hb=>by have hc0:∀y∈scope.names,y.2= .free->∃c,X.env.cells.lookup y.1=Ya c:=λy hy e=>I2.ok.has y.1 (O.free y hy e);refine⟨hn b hb,dG (vO b hb),λhz=>I4.ok.vM b hb hz,.inl hb,λx c hx=>(I4.ok.BV b hb).2 x c hx,λp hp=>absurd (show p∈([]:List (Yt×aD))from hp) (by simp)⟩
 obtain ⟨hg,hts,helt⟩:=hb s3.heap.objs.size (fX X.env.cells scope.names []) s3 (upd H2 s2.heap.objs.size (.lst [])) fp;have loop:∀s₄:Yf,s₄={s3 with heap:=h4,toks:=s3.toks+([]:List (aj×Ye)).length} ->
   jP (aq X.prog X.w) X.A (.compLoop (.ListComp elt [⟨tg,iter,ifs,0⟩] scope pos) 0 (.ref it) (.ref s2.heap.objs.size) (FW scope (fX X.env.cells scope.names []) s3.heap.objs.size X.env)) (RR (.ref s2.heap.objs.size) s3.heap.objs.size) s₄:=by
  rintro s₄ rfl;obtain⟨W,hW⟩:∃W:Nat->Yf->Prop,∀n s',W n s'↔∀G:Prop,(∀k σ5 H5 ι5 M5 uq,Inv (fP X scope N' s3.heap.objs.size (fX X.env.cells scope.names []) s3 (upd H2 s2.heap.objs.size (.lst [])) fp) [] σ5 H5 s'->tn k s'.heap->(∀b∈fp,H5 b=Yk)->n=aW.items.length-k->k<=aW.items.length ->
   Ext X.K H2 ι2 H5 ι5->aB X.K H5 ι5 M5->bJ X.K H5 ι5 uq σ5->ι5[M2.length]?=Ya s2.heap.objs.size->Zv X.K H5 ι5 Q (ju aW.lk g ts f M2.length (aW.items.drop k) uq M5)->G)->G:=⟨_,λ_ _=>Iff.rfl⟩
  refine Zhw W ?_ aW.items.length
   ((hW _ _).2 λ_ c=>c 0 _ _ _ _ _ I4 HY (λb hb=>(mQ b hb).1) rfl (fL _) x3 S3 ((E2.mono x3).grow own) ?_ (h.up x3))
  .intro n s5 hn5;refine(hW _ _).1 hn5 _ λk σ5 H5 ι5 M5 uq I5 lW pJ e hk x5 S5 E5 hι h5=>?_;subst e;by_cases hlt:k<aW.items.length
   .have hd:aW.items[k]?=Ya aW.items[k]:=by simp[hlt]
    rw[yD hlt]at h5;unfold ju at h5;by_cases lk:d_ aW.lk M5=true
    .rw [if_pos lk]at h5;obtain⟨go,yl⟩:=(ok k H5 ι5 M5 x5 S5 lk).1 _ hd;cases eg:g aW.items[k] uq with
     |none=>rw[eg]at h5;exact h5.elim|some ur=>
      rw[eg]at h5;refine aH (T.item (fP X scope N' s3.heap.objs.size (fX X.env.cells scope.names []) s3 (upd H2 s2.heap.objs.size (.lst [])) fp) rfl rfl rfl hc k [] s5 σ5 H5 (λ_ _=>False) I5 (P0 pJ) lW go) λr s6 ak=>?_;obtain⟨u,hr,h6⟩:=ak;subst hr;refine aH h6 λ_ s7 ak=>?_;obtain⟨x,H7,I7,r7,y7,k_,MJ⟩:=ak;obtain⟨y8,S7,rx⟩:=yl x H7 y7;have I7':=I7.pinned (P0 MJ) (T.obj _ _ k_);refine aH (hg _ s7 σ5 H7 x u (λσ' H'=>H'=H7/\bJ X.K H7 ι5 ur σ') I7' r7 ⟨ι5,M5,uq,_,ur,S7,E5.mono y8,rx,eg,λσ' E'=>⟨rfl,E'⟩⟩) λ_ s8 ak=>?_;obtain⟨σ8,H8,I8,e8,E8⟩:=ak;subst e8;replace h5:=Zv.up y8 h5;replace x5:=x5.trans y8;replace S5:=S7;have back:∀{σ':St} {H':Hp} {s':Yf},Inv (fP X scope N' s3.heap.objs.size (fX X.env.cells scope.names []) s3 (upd H2 s2.heap.objs.size (.lst [])) fp) ([]++uQ fp s7.heap) σ' H' s' ->
        Inv (fP X scope N' s3.heap.objs.size (fX X.env.cells scope.names []) s3 (upd H2 s2.heap.objs.size (.lst [])) fp) [] σ' H' s'/\tn (k+1) s'.heap/\∀b∈fp,H' b=Yk:=λ{σ' H' s'} I'=>by
       refine⟨I'.Fg,T.keep _ _ _ k_ λb hb o e=>(I'.pin (b,o) (Y5 _ (Y5 _ (BX hb e)))).1,λb hb=>?_⟩;obtain⟨o,e,d⟩:=T.obj _ _ k_ b hb;exact(I'.pin (b,o) (Y5 _ (Y5 _ (BX hb e)))).2.1
      obtain⟨b,M9,e9,h9⟩:=Zv.bind h5;refine aH (hts _ s8 σ8 H8 (λb' H'=>b'=b/\∃ι9,Ext X.K H8 ι5 H' ι9/\aB X.K H' ι9 M9) I8 ⟨ι5,M5,ur,S5,E8,by rw[e9];exactλH' ι' x' S'=>⟨rfl,ι',x',S'⟩⟩) λb' s9 ak=>?_;obtain⟨H9,I9,eb,ι9,x9,S9⟩:=ak;subst eb;cases b' with
      |false=>rw[if_neg (by decide)]at h9 ⊢;obtain⟨I9',st9,fr9⟩:=back I9;exact⟨aW.items.length-(k+1),by omega,(hW _ _).2 λ_ c=>c (k+1) σ8 H9 ι9 M9 ur I9' st9 fr9 rfl hlt (x5.trans x9) S9 (E8.mono x9) (x9.pre _ _ hι) (h9.up x9)⟩|true=>
       rw[if_pos rfl]at h9 ⊢;obtain⟨d,HX,e10,h10⟩:=Zv.bind h9;refine aH (helt _ s9 σ8 H9 (λv H'=>∃qU,Ext X.K H9 ι9 H' qU/\aB X.K H' qU HX/\Rep X.K H' qU d v) I9 ⟨ι9,M9,ur,S9,E8.mono x9,by rw[e10];exactλv H' ι' x' S' r'=>⟨ι',x',S',r'⟩⟩) λxv Mz ak=>?_;obtain⟨v,Ux,Uy,r10,qU,x10,MF,rd⟩:=ak;have P_:qU[M2.length]?=Ya s2.heap.objs.size:=x10.pre _ _ (x9.pre _ _ hι);cases hm:HX[M2.length]? with
       |none=>rw[hm]at h10;exact h10.elim|some o=>
        cases o with
        |dct _=>rw[hm]at h10;exact h10.elim|cP _=>rw[hm]at h10;exact h10.elim|ins _ _=>rw[hm]at h10;exact h10.elim|lst xs=>
         rw[hm]at h10;by_cases hz:xs.length<SZ
         .simp only[if_pos hz]at h10;obtain⟨vs,ev,rvs⟩:=MF.obj _ _ _ hm P_;obtain⟨x11,Uw⟩:=MF.vN (.inr (.inl ⟨_,ev⟩)) P_ (rvs.append (Zw.cons rd Zw.nil));refine aH (Tu _ Mz σ8 Ux (.ref s2.heap.objs.size) [v] (.ref s2.heap.objs.size) [xv] (λ_ H'=>H'=upd Ux s2.heap.objs.size (.lst (vs++[v]))) Uy rfl (.cons r10 .nil) ⟨_,vs,v,rfl,rfl,ev,by rw[rvs.length];exact Y7 hz jK,rfl⟩) λ_ Mw ak=>?_;obtain⟨_,H11,Mx,_,eH⟩:=ak;subst eH;obtain⟨AcS,AcT,AcU⟩:=back Mx;exact⟨aW.items.length-(k+1),by omega,(hW _ _).2 λ_ c=>c (k+1) σ8 _ qU _ ur AcS AcT AcU rfl hlt (((x5.trans x9).trans x10).trans x11) Uw (((E8.mono x9).mono x10).mono x11) P_ (((h10.up x9).up x10).up x11)⟩
         .simp only[if_neg hz]at h10;exact h10.elim
    .rw[if_neg lk]at h5;exact h5.elim
   .have e0:k=aW.items.length:=Y6 hk (ir hlt);subst e0;rw[Gd]at h5;unfold ju at h5;by_cases lk:d_ aW.lk M5=true
    .rw[if_pos lk]at h5;refine aH (T.done (fP X scope N' s3.heap.objs.size (fX X.env.cells scope.names []) s3 (upd H2 s2.heap.objs.size (.lst [])) fp) rfl rfl rfl hc _ [] s5 σ5 H5 (λ_ _=>False) I5 (P0 pJ) lW ((ok _ H5 ι5 M5 x5 S5 lk).2 rfl)) λr s6 ak=>?_;obtain⟨hr,I6⟩:=ak;subst hr;obtain⟨m6,Uz,_⟩:=I6.loc;have I7:Inv X pins σ H5 s6:=I3.call' (ch:=fp) I6.os I6.base I6.hok I6.bare λb hb=>⟨(mQ b hb).2.2.2.1,(mQ b hb).2.1,(mQ b hb).2.2.2.2.1,(mQ b hb).2.2.2.2.2⟩;exact fin _ _ s6 m6 H5 Uz (I3.ul (Yq _) I6.free) I7 (h5 _ H5 ι5 Ext.refl S5 (Rep.ref hι))
    .rw[if_neg lk]at h5;exact h5.elim
  .rw[←S2.len];simp
 exact XX (loop _ rfl) (T.self _ 0 _ _ _ HY (loop _ rfl))
theorem ZyM(O:zG X scope N' own)(xx:X.xe=λ_ _=>False)(hc:X.calm=true)(hi:CIL X tg iter i)(hb:∀C cl s H ex,CG (fP X scope N' C cl s H ex) tg g/\qT (fP X scope N' C cl s H ex) ifs ts/\C3 (fP X scope N' C cl s H ex) elt f)(hs:∀x,yp iter X.env x=pure x:=by intro _;rfl):C3 X (.ListComp elt [⟨tg,iter,ifs,0⟩] scope pos) (w5 i own g ts f):=by intro pins s σ H Q I h;obtain⟨ι,M,env,S,E,h⟩:=h;obtain⟨aW,M1,e1,h⟩:=Zv.bind h;have hc0:∀y∈scope.names,y.2= .free->∃c,X.env.cells.lookup y.1=Ya c:=λy hy e=>I.ok.has y.1 (O.free y hy e);rw[eval_ListComp];refine Qz (use:=Yk) rfl hs (Ur hc0) O.kind O.names ?_;refine aH (hi pins s σ H (λJ H'=>∃ι',Ext X.K H ι H' ι'/\aB X.K H' ι' M1/\MP X.K H' ι' aW J) I ⟨ι,M,env,S,E,by rw[e1];exactλJ H' ι' x S' o=>⟨ι',x,S',o⟩⟩) λv s1 h1=>aH h1 λitv s2 h2=>?_;obtain⟨it,fp,tn,J,H2,rfl,I2,T,st2,f2,ι2,x2,S2,ok⟩:=h2;refine Zih (own:=own) (g:=g) (ts:=ts) (f:=f) O hc hb I2 T st2 f2 S2 (E.mono x2) ok (h.up x2) (λacc C=>compPost (aq X.prog X.w) X.A X.xe Yk (EP X pins σ Q) acc C) ?_;intro acc C s' m H' hn hf I' hq;obtain⟨f0,f1,f2',f3,f4,f5⟩:=hf;exact⟨m,hn,λh' sb=>⟨.ref acc,H',I'.turned (t':=s'.toks) (λb o hb e=>(sb.2 b hb).trans e) f0 f1 f3 f4 f5,rfl,hq⟩⟩
theorem ZkC(j:Nat){x:aj}{pos' spos:aP}(O:zG X scope N' own)(xx:X.xe=λ_ _=>False)(hc:X.calm=true)(hN:X.N.Nodup)(hi:CIL X tg iter i)(hb:∀C cl s H ex,CG (fP X scope N' C cl s H ex) tg g/\qT (fP X scope N' C cl s H ex) ifs ts/\C3 (fP X scope N' C cl s H ex) elt f)(hj:X.N[j]?=Ya x:=by rfl)(hx:Loc X.env.scope x:=by first|exact Or.inl rfl|exact Or.inr rfl)(hf:X.fn x=true\/X.env.scope.names.lookup x=Ya .local:=by first|exact .inl rfl|exact .inr rfl)(hsw:rY (.ListComp elt [⟨tg,iter,ifs,0⟩] scope pos) (Ya (.Name x pos')) spos.line X.env=pure true:=by rfl)(hs:∀x,yp iter X.env x=pure x:=by intro _;rfl):CS X (.Assign [.Name x pos'] (.ListComp elt [⟨tg,iter,ifs,0⟩] scope pos) spos) (aA j (w5 i own g ts f)):=by
 intro pins s σ H D I h;obtain⟨ι,M,env,S,E,h⟩:=h;have h0:Zv X.K H ι (λv H'=>D.nx (σ.set j (Ya v)) H') (w5 i own g ts f env M):=by
  unfold aA at h;cases q:w5 i own g ts f env M with
  |ok d M1=>rw[q]at h;exactλv H1 ι1 x1 S1 r1=>h _ H1 ι1 x1 S1 ((E.mono x1).set j r1)|exc _ _=>rw[q]at h;exact h.elim|bad=>rw[q]at h;exact h.elim
 obtain⟨aW,M1,e1,h1⟩:=Zv.bind h0;have hc0:∀y∈scope.names,y.2= .free->∃c,X.env.cells.lookup y.1=Ya c:=λy hy e=>I.ok.has y.1 (O.free y hy e);rw[exec_Assign_Name_used _ _ _ _ hsw];refine Yc (uD (Yc ?_));show ao _ X.A (do let _ ←comprehension (.ListComp elt [⟨tg,iter,ifs,0⟩] scope pos) scope X.env _ (newList []) false (aF iter X.env) (Ya (n6 (.Name x pos') X.env))) _ _ s;refine Yc (eY (Qz (use:=Ya (n6 (.Name x pos') X.env)) (Q:=λ_ s'=>SP X pins D .next s') rfl hs (Ur hc0) O.kind O.names ?_) (λ_ s' hq=>Yp (Yp hq)) λ_ _ e=>e);refine aH (hi pins s σ H (λJ H'=>∃ι',Ext X.K H ι H' ι'/\aB X.K H' ι' M1/\MP X.K H' ι' aW J) I ⟨ι,M,env,S,E,by rw[e1];exactλJ H' ι' x S' o=>⟨ι',x,S',o⟩⟩) λv s1 h1'=>aH h1' λitv s2 h2=>?_;obtain⟨it,fp,tn,J,H2,rfl,I2,T,st2,f2,ι2,x2,S2,ok⟩:=h2;refine Zih (own:=own) (g:=g) (ts:=ts) (f:=f) O hc hb I2 T st2 f2 S2 (E.mono x2) ok (h1.up x2) (λacc C=>compPost (aq X.prog X.w) X.A X.xe (Ya (n6 (.Name x pos') X.env)) (λ_ s'=>SP X pins D .next s') acc C) ?_;intro acc C s' m H' hn hfC I' hq;obtain⟨f0,f1,f2',f3,f4,f5⟩:=hfC;show ao _ X.A (n6 (.Name x pos') X.env (.ref acc)) _ _ s';refine YC (Zkz I' hN hj hx (show RelV (.ref acc) (.ref acc)from rfl) (λs'' I'' ⟨a,sb,ha⟩=>?_) hf);have hCa:C≠a:=by
  rcases ha with rfl|ha
  .exact f1
  .exact bV (f4 x a ha)
 exact⟨m,hn.sameBut sb hCa,λh' sb'=>⟨_,H',I''.turned (t':=s''.toks) (λb o hb e=>(sb'.2 b hb).trans e) f0 f1 f3 f4 f5,hq⟩⟩
end
open PySem PySem.W PyProof.Rows
section
variable {M:Model} {A:bC} {E:Ye->Yf->Prop} {G:Yf->Prop}
def TT(M:Model)(A:bC)(E:Ye->Yf->Prop)(G:Yf->Prop){α:Type}(m:StateT SortSt lK α)(Q:α->SortSt->Prop)(st:SortSt):Prop:=∀s,G s->kasC M A E m (λa st' s'=>Q a st'/\G s') st s
end
end L3
namespace L3
open PySem PySem.Spec PyProof.Rows L2
noncomputable abbrev nm(f:List Nat):aj:=⟨f.toArray⟩
variable{f:List Nat}
theorem Zqm{g:List Nat}(h:nm f=nm g):f=g:=by have:=congrArg (λs:aj=>s.cps.toList) h;simpa using this
section
variable {K:Yb} {H H':Hp} {ι ι':List Yt} {fs:List (List Nat×D)} {gs:List (aj×V)}
theorem fG.mono(e:Ext K H ι H' ι')(h:fG K H ι fs gs):fG K H' ι' fs gs:=⟨h.1,h.2.mono e⟩
theorem fG.nil:fG K H ι [] []:=⟨rfl,Zw.nil⟩
theorem fG.nil_inv(h:fG K H ι [] gs):gs=[]:=Bs.mp h.1
theorem fG.cons_inv{d:D}(h:fG K H ι ((f,d)::fs) gs):∃v gs',gs=(nm f,v)::gs'/\Rep K H ι d v/\fG K H ι fs gs':=by
 cases gs with
 |nil=>cases h.1|cons p gs'=>obtain⟨g,v⟩:=p;obtain⟨h1,h2⟩:=h;rw[Yw,Yw]at h1 h2;obtain⟨e1,e2⟩:=jR h1;obtain⟨v',ws,e,r,q⟩:=h2.cons_inv;obtain⟨rfl,rfl⟩:=jR e;exact⟨v,gs',by rw[show g=nm f from e1],r,e2,q⟩
theorem fG.cons{f:List Nat}{d:D}{v:V}(r:Rep K H ι d v)(h:fG K H ι fs gs):fG K H ι ((f,d)::fs) ((nm f,v)::gs):=⟨by rw[Yw,Yw,h.1],Zw.cons r h.2⟩
theorem fG.length(h:fG K H ι fs gs):gs.length=fs.length:=by have:=congrArg yK h.1;simpa using this
theorem fG.look:∀{fs:List (List Nat×D)} {gs:List (aj×V)},fG K H ι fs gs->(fs.lookup f=Yk->gs.lookup (nm f)=Yk)/\∀d,fs.lookup f=Ya d->∃v,gs.lookup (nm f)=Ya v/\Rep K H ι d v
 |[],_,h=>by rw[h.nil_inv];exact⟨λ_=>rfl,λd e=>by cases e⟩|(g,x)::fs,_,h=>by
  obtain⟨v,gs',rfl,r,t⟩:=h.cons_inv;rw[jh,jh];by_cases e:f=g
  .subst e;rw[beq_self_eq_true,beq_self_eq_true];exact⟨λq=>(by cases q),λd q=>(by cases q;exact⟨v,rfl,r⟩)⟩
  .rw[beq_false_of_ne e,beq_false_of_ne λq=>e (Zqm q)];exact t.look
theorem fG.put{d:D}{v:V}(r:Rep K H ι d v):∀{fs:List (List Nat×D)} {gs:List (aj×V)},fG K H ι fs gs->fG K H ι (w6 f d fs) (iQ (nm f) v gs)
 |[],_,h=>by rw[h.nil_inv];exact fG.cons r fG.nil|(g,x)::fs,_,h=>by
  obtain⟨w,gs',rfl,r',t⟩:=h.cons_inv;unfold w6 iQ;by_cases e:g=f
  .subst e;rw[if_pos rfl,if_pos rfl];exact fG.cons r t
  .rw[if_neg e,if_neg λq=>e (Zqm q)];exact fG.cons r' (t.put r)
end
structure zO(K:Yb)(c:List Nat)(C:Yt):Prop where
 au:ClsAt K c C
 cls:wM K C
 nz:c.head?≠Ya 0
variable{C:Yt}
theorem zO.same{K:Yb}{c:List Nat}{C':Yt}(h:zO K c C)(q:ClsAt K c C'):C'=C:=by have:=q.symm.trans h.au;cases this;rfl
variable{H:Hp}{ps:List aj}{F:F3}{ι:List Yt}{fd:jB}
section
variable {X:Cx} {o e:Expr} {es:List Expr} {f g:E3} {gl:cY} {c m:List Nat} {C:Yt} {fn:aj} {pos pos' apos p:aP} {x:aj}
theorem Zpl{M:Store}{n:Nat}{a:Yt}(kc:zO X.K c C)(S:aB X.K H ι M)(ha:ι[n]?=Ya a){fs:List (List Nat×D)}(hn:M[n]?=Ya (.ins c fs)):∃dx gs,H a=Ya (.ins C dx gs)/\fG X.K H ι fs gs:=by
 rcases S.obj n _ a hn ha with⟨C',dx,gs,q,ca,fr⟩|⟨_,_,_,z,_⟩
 .rw[kc.same ca.1]at q;exact⟨dx,gs,q,fr⟩
 .exact absurd z kc.nz
theorem vf(kc:zO X.K c C)(nf:sO X.K C (nm m))(he:C3 X e f)(hf:fn=nm m:=by decide +kernel)(hb:mR e fn X.env (aF e X.env)=aF e X.env:=by rfl):C3 X (.Attribute e fn pos) (e1 (jw c m) f):=by
 subst hf;refine(Zwe he hb).imp λσ H Q ak=>?_;obtain⟨ι,M,env,S,E,h⟩:=ak;obtain⟨d,M1,e1,hh⟩:=Zv.bind h;refine⟨ι,M,env,S,E,?_⟩;rw[e1];intro v H1 ι1 x1 S1 r1;cases d with
 | ref n=>
  simp only[ZmP]at hh;cases hn:M1[n]? with
  |none=>simp only[hn]at hh;exact hh.elim|some ob=>
   cases ob with
   | ins c' fs=>
    simp only[hn]at hh;split at hh
    .rename_i ec;subst ec;obtain⟨a,ha,rfl⟩:=r1.dN;obtain⟨dx,gs,q,fr⟩:=Zpl kc S1 ha hn;split at hh
     .rename_i d hl;obtain⟨w,lw,kj⟩:=(fr.look (f:=m)).2 d hl;exact⟨a,C,dx,gs,w,rfl,q,kc.cls,nf,lw,hh w H1 ι1 x1 S1 kj⟩
     .exact hh.elim
    .exact hh.elim
   |_=>simp only[hn]at hh;exact hh.elim
 |_=>exact hh.elim
theorem Zrm(kc:zO X.K c C)(nf:sO X.K C (nm m))(ho:C3 X o f)(hv:C3 X e g)(hf:fn=nm m:=by decide +kernel)(hs:rY e (Ya (.Attribute o fn pos')) pos.line X.env=pure false:=by rfl):CS X (.Assign [.Attribute o fn pos'] e pos) (HB c m f g):=by
 subst hf;refine(Zva ho hv hs).imp λD' σ H ak=>?_;obtain⟨ι,M,env,S,E,hh⟩:=ak;have hh:=Zmc E hh;obtain⟨d,M1,e1,hh⟩:=Zv.bind hh;obtain⟨b,M2,e2,hh⟩:=Zv.bind hh;refine⟨ι,M,env,S,E,?_⟩;rw[e1];intro y H1 ι1 x1 S1 r1;refine⟨ι1,M1,env,S1,E.mono x1,?_⟩;rw[e2];intro w H2 ι2 x2 S2 r2;cases b with
 | ref n=>
  simp only[Ub]at hh;cases hn:M2[n]? with
  |none=>simp only[hn]at hh;exact hh.elim|some ob=>
   cases ob with
   | ins c' fs=>
    simp only[hn]at hh;split at hh
    .rename_i ec;obtain⟨ec,lf⟩:=ec;subst ec;obtain⟨a,ha,rfl⟩:=r2.dN;obtain⟨dx,gs,q,fr⟩:=Zpl kc S2 ha hn;have l0:Loose H2 a:=.inr (.inr (.inr ⟨C,dx,gs,q⟩));have x3:Ext X.K H2 ι2 (upd H2 a (.ins C dx (iQ (nm m) y gs))) ι2:=l0.ext;have S3:aB X.K (upd H2 a (.ins C dx (iQ (nm m) y gs))) ι2 (M2.set n (.ins c' (w6 m d fs))):=S2.put l0 ha (.inl ⟨C,dx,_,fV,⟨kc.au,kc.nz⟩,(fr.put (r1.mono x2)).mono x3⟩);exact⟨a,C,dx,gs,rfl,q,kc.cls,nf,by rw[fr.length];exact lf,hh .non _ _ ((x1.trans x2).trans x3) S3 Rep.non⟩
    .exact hh.elim
   |_=>simp only[hn]at hh;exact hh.elim
 |_=>exact hh.elim
def U_(P:Y8)(w:aO)(K:Yb)(mg:aj->Option Ye)(base:aC)(k:Nat)(C:Yt)(m:aj)(ps:List aj)(F:F3):Prop:=(∀ds M,ds.length≠ps.length->F ds M= .bad)/\∃f fd,Meth K C m f/\Binds K fd ps []/\fM P w K mg base kI k f fd ps (tE K ps.length F)
theorem U_.mono{P:Y8}{w:aO}{K:Yb}{mg:aj->Option Ye}{base:aC}{C:Yt}{j k:Nat}{x:aj}(h:U_ P w K mg base j C x ps F)(l:j<=k):U_ P w K mg base k C x ps F:=let⟨n,f,fd,a,b,d⟩:=h;⟨n,f,fd,a,b,d.mono l⟩
theorem Zv9{k:Nat}{fa:Yt}(au:ClsAt X.K c C/\c.head?≠Ya 0)(Mc:Mk X.K C fa)(hF:∀ds M,ds.length≠ps.length->F ds M= .bad)(ok:fM X.prog X.w X.K X.mg X.base kI k fa fd ps (tE X.K ps.length F))(bi:Binds X.K fd ps [])(hm:X.mg x=Ya (.ref C))(hr:cJ (k+1) X.A)(ha:CA X (e::es) gl)(hg:Gl X x:=by rfl)(hdb:(x==("__debug__":aj))=false:=by decide)(he:Yr (e::es) X.env=(false,aF e X.env)::Yr es X.env:=by rfl)(hpl:(bO pos (Yr es X.env)).any (·.1)=false:=by rfl):C3 X (.Call (.Name x p) (e::es) [] pos) (xg c F gl):=by
 refine(Ztv Mc ok hr hg hm bi .nil ZuJ ha hdb he hpl).imp λσ H Q ak=>?_;obtain⟨ι,M,env,S,E,h⟩:=ak;obtain⟨ds,M1,e1,h⟩:=Zv.bind h;refine⟨ι,M,env,S,E,?_⟩;rw[e1];intro vs H1 ι1 x1 S1 r1 y dx hy hd ne;have y2:upd H1 dx (.own y) y=Yk:=by rw[bh (bV ne)];exact hy
 have x2:Ext X.K H1 ι1 (upd H1 dx (.own y)) ι1:=Loose.ext (.inl hd);have S2:aB X.K (upd H1 dx (.own y)) ι1 M1:=S1.other (.inl hd) (S1.fresh hd);have x3:Ext X.K (upd H1 dx (.own y)) ι1 (upd (upd H1 dx (.own y)) y (.ins C dx [])) (ι1++[y]):=Loose.Fp (.inl y2);have S3:aB X.K (upd (upd H1 dx (.own y)) y (.ins C dx [])) (ι1++[y]) (M1++[.ins c []]):=S2.new y2 (.inl ⟨C,dx,[],fV,au,fG.nil⟩);have hy':(ι1++[y])[M1.length]?=Ya y:=by rw[←S1.len];simp
 have rr:Rep X.K (upd (upd H1 dx (.own y)) y (.ins C dx [])) (ι1++[y]) (.ref M1.length) (.ref y):=Rep.ref hy';cases q:F (.ref M1.length::ds) (M1++[.ins c []])with
 |bad=>simp only[q]at h;exact h.elim|exc _ _=>simp only[q]at h;exact h.elim|ok d M2=>
  have hl:(D.ref M1.length::ds).length=ps.length:=by refine KR λz=>?_;rw[hF _ _ z]at q;cases q
  refine⟨ι1++[y],M1++[.ins c []],.ref M1.length::ds,S3,by rw[gQ];exact Zw.cons rr ((r1.mono x2).mono x3),hl,?_⟩;rw[q];simp only[q]at h;cases d with
  |non=>intro v H4 ι4 x4 S4 r4;exact⟨r4.jd,h _ H4 ι4 (((x1.trans x2).trans x3).trans x4) S4 (rr.mono x4)⟩|_=>exact h.elim
end
noncomputable def Zoz(s:Ydi):List Ydi:=match s with
 | .ClassDef _ _ _ b _ _ _ _ _ _ _=>b|_=>[]
def M8(K:Yb)(C:Yt)(qual:aj)(st:Ydi)(ps:List aj):Prop:=∃f fd,pN K "__init__" qual st f fd/\Mk K C f/\Binds K fd ps []
def zP(P:Y8)(w:aO)(K:Yb)(mg:aj->Option Ye)(base:aC)(k:Nat)(C:Yt)(ps:List aj)(F:F3):Prop:=(∀ds M,ds.length≠ps.length->F ds M= .bad)/\∃f fd,Mk K C f/\Binds K fd ps []/\fM P w K mg base kI k f fd ps (tE K ps.length F)
section
variable {P:Y8} {w:aO} {K:Yb} {mg:aj->Option Ye} {base:aC} {C f:Yt} {m qual:aj} {st:Ydi} {N ps:List aj} {k:Nat} {body:S3} {oc:Ye} {od an:Option Yt} {osl:Array (Option Ye)} {dV kV doc pm cdv ct:Ye}
theorem Zth(mk:JP K C=true)(kc:qy K (.ref C)=true)(a:Y9 K (.ref C) "__init__" =Ya (Ya (.ref f)))(i:JR K (.ref f)=true)(l:K.lookup f=Ya ⟨oc,od,.func (pD "__init__" qual (m_ st) (iG st) (Zn st) dV kV doc pm an cdv ct),osl⟩)(c:Bc K cdv qual=true)(kp:qy K (.ref f)=true)(b:Binds K (pD "__init__" qual (m_ st) (iG st) (Zn st) dV kV doc pm an cdv ct) ps []):M8 K C qual st ps:=⟨f,_,⟨⟨oc,od,dV,kV,doc,pm,an,cdv,ct,osl,rfl,l,c⟩,kp⟩,⟨mk,a,i,kc⟩,b⟩
theorem zP.of(d:M8 K C qual st ps)(S:cL N ps (Zn st))(hb:∀(f:Yt) (cdv:Ye) (A:bC) (outer:List cH) (s:Yf) (H:Hp) (E:XK),cJ k (A.deeper (lV qual (Zn st) s.heap.objs.size f cdv))->mD (oM kI P w K mg base N qual (Zn st) f cdv A outer s H E).iD (iG st) body):
  zP P w K mg base (k+1) C ps (bF ps.length N.length body):=by
 obtain⟨f,fd,F,mk,bi⟩:=d;exact⟨λds M h=>if_neg h,f,fd,mk,bi,Uh F S (hb f)⟩
end
theorem ZxV{X:Cx}{e:Expr}{es:List Expr}{gl:cY}{c:List Nat}{pos p:aP}{x:aj}{k:Nat}(kc:zO X.K c C)(G:zP X.prog X.w X.K X.mg X.base k C ps F)(hm:X.mg x=Ya (.ref C))(hr:cJ (k+1) X.A)(ha:CA X (e::es) gl)(hg:Gl X x:=by rfl)(hdb:(x==("__debug__":aj))=false:=by decide)(he:Yr (e::es) X.env=(false,aF e X.env)::Yr es X.env:=by rfl)(hpl:(bO pos (Yr es X.env)).any (·.1)=false:=by rfl):C3 X (.Call (.Name x p) (e::es) [] pos) (xg c F gl):=by obtain⟨hF,f,fd,mk,bi,ok⟩:=G;exact Zv9 ⟨kc.au,kc.nz⟩ mk hF ok bi hm hr ha hg hdb he hpl
theorem Zrs{P:Y8}{w:aO}{h:aC}{e:Yt}{dd:Option Yt}(x:zx e C dd h):cX P w H h e (u9 e C dd):=⟨x,(let⟨o,_,q,_⟩:=x;⟨o,q⟩),λ_ _ z k=>let⟨o,vs,a,b,c⟩:=z;⟨o,vs,k o a,b,c⟩⟩
theorem Tc{P:Y8}{w:aO}{h:aC}{a:Yt}{o:HO}(x:cX P w H h a o):∃u,h.get? a=Ya u:=by
 cases o with
 |lst xs=>obtain⟨_,_,_,_,e⟩:=x;exact⟨_,e⟩|tup xs=>obtain⟨_,_,_,o,e,_⟩:=x;exact⟨o,e⟩|dK kvs=>obtain⟨_,_,_,_,o,_,_,e,_⟩:=x;exact⟨o,e⟩|dT kvs=>obtain⟨_,_,_,_,o,_,_,e,_⟩:=x;exact⟨o,e⟩
 |set S n=>obtain⟨o,_,_,_,e,_⟩:=x;exact⟨o,e⟩|ins C dx fs=>obtain⟨_,_,_,e,_⟩:=x;exact⟨_,e⟩|own y=>exact x|xd fs=>obtain⟨_,⟨o,_,_,e,_⟩,_⟩:=x;exact⟨o,e⟩
 |K_ lo hi=>obtain⟨_,_,_,e⟩:=x;exact⟨_,e⟩|cD ob u=>obtain⟨e,_⟩:=x;exact⟨_,e⟩|wJ ps=>exact⟨_,x⟩|met f y=>exact⟨_,x⟩
 |ext φ=>exact x.2.1
def Dct(e:Yt)(dd:Option Yt)(h:aC):Prop:=∃o,h.get? e=Ya o/\o.dict=dd
def tK(B:aC)(l:List cH)(e C:Yt)(dd:Option Yt)(a0:Ye)(h:aC):Prop:=B.StaysIn h/\B.get? e=Yk/\h.FunFrames B l/\Dct e dd h/\∃fl,h.TracedAtW B e (.ref C) a0 fl
def tL(B:aC)(l:List cH)(e C:Yt)(dd:Option Yt)(h:aC):Prop:=∃a0,tK B l e C dd a0 h\/(B.StaysIn h/\B.get? e=Yk/\h.FunFrames B l/\∃oe vs,h.get? e=Ya oe/\oe.cls= .ref C/\oe.data= .fields vs/\vs[0]?=Ya a0/\vs[1]?=Ya .none/\oe.dict=dd)
section
variable {B h h':aC} {l:List cH} {e C:Yt} {dd:Option Yt}
theorem tK.Dd{a0:Ye}(f:tK B l e C dd a0 h):zx e C dd h:=by obtain⟨_,_,_,⟨o',a',d'⟩,_,o,vs,_,_,_,a,b,c,_⟩:=f;rw[a]at a';cases a';exact⟨_,vs,a,b.1,c,d'⟩
theorem tK.tail{a0:Ye}{env:cH}(f:tK B (env::l) e C dd a0 h):tK B l e C dd a0 h:=let⟨a,b,⟨_,_,c⟩,d⟩:=f;⟨a,b,c,d⟩
theorem tL.stays(f:tL B l e C dd h):B.StaysIn h:=by
 obtain⟨a0,f|f⟩:=f
 .exact f.1
 .exact f.1
theorem tL.Dd(f:tL B l e C dd h):zx e C dd h:=by
 obtain⟨a0,f|⟨_,_,_,oe,vs,a,b,c,_,_,d⟩⟩:=f
 .exact f.Dd
 .exact⟨oe,vs,a,b,c,d⟩
end
section
variable {M:Model} {A:bC} {E:Ye->Yf->Prop} {s:Yf} {B:aC} {env:cH} {outer l:List cH} {L e C:Yt} {dd:Option Yt} {Q:Unit->Yf->Prop}
theorem ZrN(f:Array Ye->Array Ye)(o:aD):(yS f o).dict=o.dict:=by obtain⟨c,d,da,sl⟩:=o;cases da<;>rfl
theorem Zol{oe:aD}{vs:Array Ye}{head a0:Ye}{hadNext:Bool}(hfr:A.frames=Ya (env::outer))(hl:s.heap.FunFrames B (env::outer))(hf:env.frame=Ya L)(he:s.heap.get? e=Ya oe)(hkb:B.StaysIn s.heap)(hen:B.get? e=Yk)(hc:oe.cls= .ref C)(hd:oe.data= .fields vs)(hsz:1<vs.size)(h0:vs[0]?=Ya a0)(hdd:oe.dict=dd)(hQ:∀h',tK B (env::outer) e C dd a0 h'->s.heap.UpToSlots h'->Q () {s with heap:=h'}):
  ao M A (do let a ←frameOf env;let pl ←entryPlaceOf L hadNext;let b ←Ykb head a .none (lJ L) .none pl;setField (.ref e) 1 b) Q E s:=by
 have AcA:e∉(env::outer).filterMap (·.frame):=λz=>by obtain⟨_,o,q,nf⟩:=hl.mem z;rw[he]at q;cases q;exact nf vs hd
 refine Yc (wpAny_frameOf_fun hfr hl hf λk only=>Yc (wpAny_entryPlaceOf λpl hpl=>?_));unfold Ykb newFields;refine Yc (rR ?_ (hpl.sizeOk5 _ _ _ _ _));have ke:k.get? e=Ya oe:=(only.2.1 e AcA).trans he;have kB:B.StaysIn k:=λb o q=>(only.2.1 b λz=>by rw[(hl.mem z).1]at q;cases q).trans (hkb b o q);generalize hT:({cls:=.type "traceback",dict:=Yk,data:=.fields ([head,.ref L,.none,lJ L,.none]++(if pl.isEmpty then Ym 6 Value.none else pl)).toArray}:aD)=tb;have ke2:=Yh (h:=k) tb ke;have ne:k.objs.size≠e:=Bu (Y2 ke);have tbd:tb.data= .fields ([head,.ref L,.none,lJ L,.none]++(if pl.isEmpty then Ym 6 Value.none else pl)).toArray:=by rw[←hT]
 have fr:tb.isFreed=false:=by rw[←hT];rfl
 have d3:=Gs hd (·.setIfInBounds 1 (Value.ref k.objs.size));have e3:=wu (yS (·.setIfInBounds 1 (Value.ref k.objs.size))) ke2 (RT d3);have t3:=(mX (k.push tb) (yS (·.setIfInBounds 1 (Value.ref k.objs.size))) (bV ne)).trans (Y1 k fr);have stay:∀b o,b≠e->k.get? b=Ya o->((k.push tb).update e (yS (·.setIfInBounds 1 (Value.ref k.objs.size)))).get? b=Ya o:=λb o hb q=>(mX _ _ (bV hb)).trans (Yh _ q);have nr:∀b o,s.heap.get? b=Ya o->(∀vs,o.data≠ .fields vs)->b≠e:=λb o q nf z=>by rw[z,he]at q;cases q;exact nf vs hd
 refine FJ ke2 hd hsz (hQ _ ⟨λb o q=>stay b o (λz=>by rw[z,hen]at q;cases q) (kB b o q),hen,hl.of_keeps λb o q nf=>?_,⟨_,e3,?_⟩,lJ L,_,_,k.objs.size,_,_,e3,⟨(Yk9 _ _).trans hc,?_⟩,d3,?_,kB.fresh,ne,t3,tbd,?_⟩ λb o q nf=>?_)
 .obtain⟨sl,z⟩:=only.2.2 b o q;exact⟨_,stay b _ (nr b o q nf) z,rfl⟩
 .exact(ZrN _ _).trans hdd
 .rw[Yf2 (by decide)];exact h0
 .simp[hsz]
 .first
   |(simp;done)
   |(rcases hpl with rfl|⟨_,_,_,_,_,_,_,rfl⟩<;>simp)
 .obtain⟨sl,z⟩:=only.2.2 b o q;exact⟨sl,stay b _ (nr b o q nf) z⟩
theorem Zrd(hfr:A.frames=Ya (env::outer))(hf:env.frame=Ya L)(f:tL B (env::outer) e C dd s.heap)(hQ:∀h' a0,tK B (env::outer) e C dd a0 h'->s.heap.UpToSlots h'->Q () {s with heap:=h'}):ao M A (FT (.ref e) env) Q E s:=by
 obtain⟨a0,f|⟨f1,f2,f3,oe,vs,he,hc,hd,h0,h1,hdd⟩⟩:=f
 .have f0:=f;obtain⟨f1,f2,f3,dc,fl,ht⟩:=f;by_cases q:fl=lJ L
  .rw[q]at ht;exact wpAny_noteFrame_againW hf ht (hQ s.heap a0 f0 (Heap.UpToSlots.refl _))
  .obtain⟨oe,vs,T,oT,ts,he,⟨hcls,h0⟩,hd,h1,hnT,hTe,hT,hdT,h3⟩:=ht;obtain⟨o',ho',hdd⟩:=dc;rw[he]at ho';cases ho';unfold FT;simp only[hf];refine Yc (mU he hd h1 ?_);rw[if_pos (show(Value.ref T !=Value.none)=true from by simp)];refine Yc (mU hT hdT h3 ?_);rw[if_neg (show¬((fl==lJ L)=true)from by simpa using q)];refine Yc (FJ hT hdT (KH.mp h3).1 ?_);have other:∀b,b≠T->(s.heap.update T (yS (·.setIfInBounds 3 Value.none))).get? b=s.heap.get? b:=λb hb=>mX _ _ (bV hb);have nr:∀b o,s.heap.get? b=Ya o->(∀vs,o.data≠ .fields vs)->b≠T:=λb o hb hnf q=>by
    rw[q,hT]at hb;injection hb with hb;subst hb;exact hnf ts hdT
   exact Zol hfr (f3.of_keeps λb o hb hnf=>⟨o,(other b (nr b o hb hnf)).trans hb,rfl⟩) hf ((other e (bV hTe)).trans he)
    (λb o hbo=>(other b λq=>by rw[q,hnT]at hbo;cases hbo).trans (f1 b o hbo)) f2 hcls hd (KH.mp h1).1 h0 hdd λh' Df sl=>hQ h' a0 Df λb o hb hnf=>sl b o ((other b (nr b o hb hnf)).trans hb) hnf
 .unfold FT;simp only[hf];refine Yc (mU he hd h1 ?_);rw[if_neg (by decide)];exact Zol hfr f3 hf he f1 f2 hc hd (KH.mp h1).1 h0 hdd λh' x y=>hQ h' a0 x y
theorem Va{a0:Ye}{fo:Option Yt}(f:tK B l e C dd a0 s.heap)(hQ:∀h',tK B l e C dd a0 h'->s.heap.UpToSlots h'->Q () {s with heap:=h'}):ao M A (setFlight (.ref e) fo) Q E s:=by
 obtain⟨f1,f2,f3,⟨o',ho',hdd⟩,fl,oe,vs,T,oT,ts,he,hcls,hd,h1,hnT,hTe,hT,hdT,h3⟩:=f;rw[he]at ho';cases ho';have hsz:3<ts.size:=(KH.mp h3).1;unfold setFlight;refine Yc (mU he hd h1 ?_);rw[if_pos (show(Value.ref T !=Value.none)=true from by simp)];generalize hv:(fo.elim Value.none λf=>lJ f)=fv;have other:∀b,b≠T->(s.heap.update T (yS (·.setIfInBounds 3 fv))).get? b=s.heap.get? b:=λb hb=>mX _ _ (bV hb);have nr:∀b o,s.heap.get? b=Ya o->(∀vs,o.data≠ .fields vs)->b≠T:=λb o hb hnf q=>by rw[q,hT]at hb;injection hb with hb;subst hb;exact hnf ts hdT
 exact FJ hT hdT hsz (hQ _ ⟨λb o hbo=>(other b λq=>by rw[q,hnT]at hbo;cases hbo).trans (f1 b o hbo),f2,f3.of_keeps λb o hb hnf=>⟨o,(other b (nr b o hb hnf)).trans hb,rfl⟩,⟨_,(other e (bV hTe)).trans he,hdd⟩,fv,_,vs,T,_,_,(other e (bV hTe)).trans he,hcls,hd,h1,hnT,hTe,
  wu _ hT (RT (Gs hdT _)),Gs hdT _,by simp[hsz]⟩ λb o hb hnf=>⟨o.slots,(other b (nr b o hb hnf)).trans hb⟩)
theorem ZsG(hfr:A.frames=Ya (env::outer))(hf:env.frame=Ya L)(f:tL B (env::outer) e C dd s.heap)(hQ:∀h',tL B outer e C dd h'->s.heap.UpToSlots h'->Q () {s with heap:=h'}):ao M A (J6 env (.ref e)) Q E s:=by unfold J6;exact Yc (Zrd hfr hf f λh1 a0 x y=>Va x λh' z y'=>hQ h' ⟨a0,.inl z.tail⟩ (y.trans y'))
end
structure zQ(B:aC)(fs ex:List Yt)(H₀:Hp)(h₀:aC)(H:Hp)(e:Yt):Prop where
 yV:∀b,H b≠Yk->b≠e->∃o,B.get? b=Ya o
 old:∀b o,h₀.get? b=Ya o->H₀ b=Yk->b∉fs->b∉ex->B.get? b=Ya o
 there:∀b o,h₀.get? b=Ya o->b∉fs->b∉ex->∃o',B.get? b=Ya o'
section
variable {B h h' h₀:aC} {fs ex:List Yt} {H H₀:Hp} {e C:Yt} {dd:Option Yt} {P:Y8} {w:aO}
theorem zQ.hok(c:zQ B fs ex H₀ h₀ H e)(ok:e_ P w H h)(he:H e=Ya (u9 e C dd))(s1:B.StaysIn h)(s2:B.StaysIn h')(x:zx e C dd h'):e_ P w H h':=λb u q=>by
 by_cases hb:b=e
 .subst hb;rw[he]at q;cases q;exact Zrs x
 .refine(ok b u q).stay (λd v hd z=>?_) (λ_ z=>z) λ_ _ z=>z;have hd':H d≠Yk/\d≠e:=by
   rcases hd with rfl|hd
   .exact⟨by rw[q];simp,hb⟩
   .exact⟨by rw[hd];simp,by rintro rfl;rw[he]at hd;cases hd⟩
  obtain⟨o,ho⟩:=c.yV d hd'.1 hd'.2;have:=(s1 d o ho).symm.trans z;cases this;exact s2 d _ ho
theorem zQ.un(c:zQ B fs ex H₀ h₀ H e)(u:Un fs ex H₀ H h₀ h)(s2:B.StaysIn h')(sl:h.UpToSlots h')(nf:∀b∈fs,H₀ b=Yk/\∀o,h₀.get? b=Ya o->∀vs,o.data≠ .fields vs):Un fs ex H₀ H h₀ h' where
 keep:=λb o q n hb hx=>s2 b o (c.old b o q n hb hx)
 slot:=λb o q n hb hx=>by obtain⟨s,e1⟩:=u.slot b o q n hb hx;obtain⟨s',e2⟩:=sl b _ e1 ((nf b hb).2 o q);exact⟨s',e2⟩
 free:=u.free
 there:=λb o q hx=>by
  by_cases hb:b∈fs
  .obtain⟨s,e1⟩:=u.slot b o q (nf b hb).1 hb hx;obtain⟨s',e2⟩:=sl b _ e1 ((nf b hb).2 o q);exact⟨_,e2⟩
  .exact let⟨o',z⟩:=c.there b o q hb hx;⟨o',s2 b o' z⟩
 tups:=u.tups
 jZ:=u.jZ
 lG:=u.lG
end
noncomputable def qd(P:Y8)(w:aO):oK:=λouter H s E ev s'=>∃e C dd H' B,ev= .ref e/\s'.os=s.os/\sG s'.gens/\Un (frs outer) [] H H' s.heap s'.heap/\e_ P w H' s'.heap/\H' e=Ya (u9 e C dd)/\
 tL B outer e C dd s'.heap/\zQ B (frs outer) [] H s.heap H' e/\E (.ref C) (Ya e) H'
def Vb(X:Cx)(e C:Yt)(H':Hp)(s':Yf):Prop:=∃dd,H' e=Ya (u9 e C dd)/\∃B,tL B X.stack e C dd s'.heap/\zQ B X.fs X.ex X.H₀ X.s₀.heap H' e/\∀p∈X.pn,B.get? p.1=Ya p.2
def XW(X:Cx)(σ:St)(e C:Yt)(H':Hp):Prop:=∀pins s',Inv X pins σ H' s'->Vb X e C H' s'->X.xe (.ref e) s'
noncomputable def EX(X:Cx)(σ:St):XK:=λcv oe H'=>∀e C,cv= .ref C->oe=Ya e->XW X σ e C H'
section
variable {X:Cx} {pins:List (Yt×aD)} {σ:St} {H:Hp} {s s':Yf}
theorem Vc(I:Inv X pins σ H s){b:Yt}{o:aD}(q:X.s₀.heap.get? b=Ya o)(hb:b∉X.fs):b∉frs X.stack:=λz=>by
 rcases Yv.mp (I.A_ b z)with e|e
 .exact absurd (Y7 (Y2 q) I.ok.above) (by rw[e];exact wA _)
 .exact hb e
theorem ZqQ(I:Inv X pins σ H s):∀b∈X.fs,X.H₀ b=Yk/\∀o,X.s₀.heap.get? b=Ya o->∀vs,o.data≠ .fields vs:=λb hb=>⟨I.ok.qJ b hb,λo q=>by obtain⟨_,o',ho,hd⟩:=I.ok.j4.mem hb;rw[ho]at q;cases q;exact hd⟩
theorem ZyL(I:Inv X pins σ H s){E:XK}{ev:Ye}(h:qd X.prog X.w X.stack H s E ev s'):∃e C H',ev= .ref e/\Inv X pins σ H' s'/\Vb X e C H' s'/\E (.ref C) (Ya e) H':=by
 obtain⟨e,C,dd,H',B,rfl,os,bare,un,hok,he,fl,cv,hE⟩:=h;refine⟨e,C,H',rfl,I.call' os un hok bare (λb z=>nomatch z),⟨dd,he,B,fl,⟨cv.yV,λb o q n hb hx=>?_,λb o q hb hx=>?_⟩,λp hp=>?_⟩,hE⟩
 .exact cv.old b o (I.base.keep b o q n hb hx) (I.base.free b o q n hx) (Vc I q hb) (λz=>nomatch z)
 .obtain⟨o1,q1⟩:=I.base.there b o q hx;exact cv.there b o1 q1 (Vc I q hb) (λz=>nomatch z)
 .obtain⟨e,n,ne,nf,_⟩:=I.pin p (pG _ hp);exact cv.old p.1 p.2 e n (λz=>(Yv.mp (I.A_ p.1 z)).elim ne nf) (λz=>nomatch z)
end
def xN(K:Yb)(H:Hp)(ι:List Yt)(Q:VK)(E:XK)(r:R3 D):Prop:=match r with
 | .ok d M'=>∀v H' ι',Ext K H ι H' ι'->aB K H' ι' M'->Rep K H' ι' d v->Q v H'|.exc x M'=>∀e C H' ι',Ext K H ι H' ι'->aB K H' ι' M'->Rep K H' ι' x.arg (.ref e)->ClsAt K x.cls C->E (.ref C) (Ya e) H'|.bad=>False
theorem xN.up{K:Yb}{H1:Hp}{ι1:List Yt}{Q:VK}{E:XK}{r:R3 D}(e:Ext K H ι H1 ι1)(h:xN K H ι Q E r):xN K H1 ι1 Q E r:=by
 cases r with
 |ok d M=>exactλv H' ι' e' S r=>h v H' ι' (e.trans e') S r|exc x M=>exactλa C H' ι' e' S r=>h a C H' ι' (e.trans e') S r|bad=>exact h
theorem Zv.x{K:Yb}{H:Hp}{ι:List Yt}{Q:VK}{E:XK}{r:R3 D}(h:Zv K H ι Q r):xN K H ι Q E r:=by
 cases r with
 |ok d M=>exact h|exc x M=>exact h.elim|bad=>exact h
noncomputable def Vd(K:Yb)(n:Nat)(F:F3):Sp:=λvs H Q E=>∃ι M ds,aB K H ι M/\Zw K H ι ds vs/\ds.length=n/\xN K H ι Q E (F ds M)
def ZzA(X:Cx)(f:E3):TE:=λσ H Q=>∃ι M env,aB X.K H ι M/\bJ X.K H ι env σ/\xN X.K H ι Q (EX X σ) (f env M)
def qX(X:Cx)(any:Bool)(σ:St)(H:Hp)(ι:List Yt)(E:Ends)(r:O3):Prop:=match r with
 | .nx env' M'=>∀σ' H' ι',Ext X.K H ι H' ι'->aB X.K H' ι' M'->bJ X.K H' ι' env' σ'->E.nx σ' H'|.bk env' M'=>∀σ' H' ι',Ext X.K H ι H' ι'->aB X.K H' ι' M'->bJ X.K H' ι' env' σ'->E.bk σ' H'|.ct env' M'=>∀σ' H' ι',Ext X.K H ι H' ι'->aB X.K H' ι' M'->bJ X.K H' ι' env' σ'->E.ct σ' H'|.rt d M'=>∀v H' ι',Ext X.K H ι H' ι'->aB X.K H' ι' M'->Rep X.K H' ι' d v->E.rt v H'
 | .exc x M'=>∀σ' e C H' ι',(any=false->σ'=σ)->Ext X.K H ι H' ι'->aB X.K H' ι' M'->Rep X.K H' ι' x.arg (.ref e)->ClsAt X.K x.cls C->XW X σ' e C H'|.bad=>False
def ZxJ(X:Cx)(any:Bool)(f:S3):TS:=λE σ H=>∃ι M env,aB X.K H ι M/\bJ X.K H ι env σ/\qX X any σ H ι E (f env M)
def Dg(X:Cx)(e:Expr)(f:E3):Prop:=PE X e (ZzA X f)
def tM(X:Cx)(any:Bool)(st:Ydi)(f:S3):Prop:=PS X st (ZxJ X any f)
def tO(X:Cx)(any:Bool)(st:List Ydi)(f:S3):Prop:=jl X st (ZxJ X any f)
variable{σ:St}
theorem qX.up{X:Cx}{any:Bool}{σ1:St}{H1:Hp}{ι1:List Yt}{Q:Ends}{r:O3}(e:Ext X.K H ι H1 ι1)(hs:any=false->σ1=σ)(h:qX X any σ H ι Q r):qX X any σ1 H1 ι1 Q r:=by
 cases r with
 |nx d M=>exactλv H' ι' e' S r=>h v H' ι' (e.trans e') S r|bk d M=>exactλv H' ι' e' S r=>h v H' ι' (e.trans e') S r|ct d M=>exactλv H' ι' e' S r=>h v H' ι' (e.trans e') S r|rt d M=>exactλv H' ι' e' S r=>h v H' ι' (e.trans e') S r
 |exc x M=>exactλσ' a C H' ι' z e' S r=>h σ' a C H' ι' (λq=>(z q).trans (hs q)) (e.trans e') S r|bad=>exact h
theorem ZqW{f:S3}{X:Cx}{any:Bool}{env:Zz}{M:Store}{E:Ends}(h:qX X any σ H ι E (fD f env M)):jU X.K H ι E (f env M):=by
 unfold fD at h;cases q:f env M with
 |exc x M1=>rw[q]at h;exact h.elim|bad=>rw[q]at h;exact h.elim|nx e M1=>rw[q]at h;exact h|rt e M1=>rw[q]at h;exact h
 |bk e M1=>rw[q]at h;exact h|ct e M1=>rw[q]at h;exact h
section
variable {X:Cx} {any:Bool} {st:Ydi} {sts:List Ydi} {e c1:Expr} {f:E3} {u w:S3} {pos:aP}
theorem tQ(h:CS X.iD st u):tM X any st (fD u):=λpins s σ H D I z=>by obtain⟨ι,M,env,S,E,hf⟩:=z;exact eY (h pins s σ H D (I.wish _) ⟨ι,M,env,S,E,ZqW (X:=X) hf⟩) (λ_ _ q=>q.nW) λ_ _ z=>dX z
theorem Ia(h:mD X.iD sts u):tO X any sts (fD u):=λpins s σ H D I z=>by obtain⟨ι,M,env,S,E,hf⟩:=z;exact eY (h pins s σ H D (I.wish _) ⟨ι,M,env,S,E,ZqW (X:=X) hf⟩) (λ_ _ q=>q.nW) λ_ _ z=>dX z
theorem tR(h:tM X any st u):tO X any [st] u:=Sw h
theorem o4(h1:tM X true st u)(h2:tO X true sts w):tO X true (st::sts) (Zq u w):=(Sv h1 h2).imp λD σ H ak=>by
 obtain⟨ι,M,env,S,E,h⟩:=ak;refine⟨ι,M,env,S,E,?_⟩;unfold Zq at h;cases q:u env M with
 |nx e M1=>rw[q]at h;exactλσ' H' ι' x S' E'=>⟨ι',M1,e,S',E',qX.up x (λz=>nomatch z) h⟩|rt e M1=>rw[q]at h;exact h|bk e M1=>rw[q]at h;exact h|ct e M1=>rw[q]at h;exact h
 |exc x M1=>rw[q]at h;exact h|bad=>rw[q]at h;exact h
theorem Ib{x y:List Ydi}(hc:CT X.iD c1 f)(ha:tO X any x u)(hb:tO X any y w):tM X any (.If c1 x y pos) (aK (pY f) u w):=(ZuR (PT.iD hc) ha hb).imp λD σ H ak=>by
 obtain⟨ι,M,env,S,E,h⟩:=ak;refine⟨ι,M,env,S,E,?_⟩;unfold aK pY at h;cases q:f env M with
 | ok d M1=>
  rw[q]at h;cases d with
  |bl k=>
   intro H1 ι1 x1 S1;cases k with
   |true=>rw[if_pos rfl];exact⟨ι1,M1,env,S1,E.mono x1,qX.up x1 (λ_=>rfl) h⟩|false=>rw[if_neg (by decide)];exact⟨ι1,M1,env,S1,E.mono x1,qX.up x1 (λ_=>rfl) h⟩
  |_=>exact h.elim
 |exc x M1=>rw[q]at h;exact h.elim|bad=>rw[q]at h;exact h.elim
theorem Zty(h:Dg X e f):tM X any (.Return (Ya e) pos) (aR f):=(ZqL h).imp λD σ H ak=>by
 obtain⟨ι,M,env,S,E,h⟩:=ak;refine⟨ι,M,env,S,E,?_⟩;unfold aR at h;cases q:f env M with
 |ok d M1=>rw[q]at h;exact h|exc x M1=>rw[q]at h;exactλa C H' ι' x1 S1 r1 c1 a' C' e1 e2=>by cases e1;cases e2;exact h σ a C H' ι' (λ_=>rfl) x1 S1 r1 c1|bad=>rw[q]at h;exact h.elim
theorem Zrq(h:Dg X e f)(hs:rY e Yk pos.line X.env=pure false:=by rfl):tM X any (.Expr e pos) (bj f):=(Sx h hs).imp λD σ H ak=>by
 obtain⟨ι,M,env,S,E,h⟩:=ak;refine⟨ι,M,env,S,E,?_⟩;unfold bj at h;cases q:f env M with
 |ok d M1=>rw[q]at h;exactλv H1 ι1 x1 S1 r1=>h σ H1 ι1 x1 S1 (E.mono x1)|exc x M1=>rw[q]at h;exactλa C H' ι' x1 S1 r1 c1 a' C' e1 e2=>by cases e1;cases e2;exact h σ a C H' ι' (λ_=>rfl) x1 S1 r1 c1|bad=>rw[q]at h;exact h.elim
theorem Zs3(i:Nat){x:aj}{pos':aP}(hN:X.N.Nodup)(he:Dg X e f)(hi:X.N[i]?=Ya x:=by rfl)(hx:Loc X.env.scope x:=by first|exact Or.inl rfl|exact Or.inr rfl)(hs:rY e (Ya (.Name x pos')) pos.line X.env=pure false:=by rfl)(hf:X.fn x=true\/X.env.scope.names.lookup x=Ya .local:=by first|exact .inl rfl|exact .inr rfl):tM X any (.Assign [.Name x pos'] e pos) (aA i f):=(Zsg hN hi hx he hs hf).imp λD σ H ak=>by
 obtain⟨ι,M,env,S,E,h⟩:=ak;refine⟨ι,M,env,S,E,?_⟩;unfold aA at h;cases q:f env M with
 |ok d M1=>rw[q]at h;exactλv H1 ι1 x1 S1 r1=>h _ H1 ι1 x1 S1 ((E.mono x1).set i r1)|exc x M1=>rw[q]at h;exactλa C H' ι' x1 S1 r1 c1 a' C' e1 e2=>by cases e1;cases e2;exact h σ a C H' ι' (λ_=>rfl) x1 S1 r1 c1|bad=>rw[q]at h;exact h.elim
end
variable{N:List aj}
section
variable {P:Y8} {w:aO} {K:Yb} {mg:aj->Option Ye} {base:aC}
theorem Zsv{qual:aj}{scope:Scope}{f:Yt}{cd:Ye}{A:bC}{outer:List cH}{s:Yf}{E:XK}{e:Yt}{H':Hp}(hE:E (.ref C) (Ya e) H'):
  XW (oM (qd P w) P w K mg base N qual scope f cd A outer s H E) σ e C H':=λpins s' I x=>by
 obtain⟨dd,he,B,fl,cv,_⟩:=x;show ao _ _ (J6 _ (.ref e)) _ _ s';refine ZsG I.ok.frames rfl fl λh' Df sl=>?_;exact⟨e,C,dd,H',B,rfl,I.os,I.bare,cv.un I.base Df.stays sl (ZqQ I),cv.hok I.hok he fl.stays Df.stays Df.Dd,he,Df,cv,hE⟩
theorem Zmb{H':Hp}{ι':List Yt}{M M':Store}{Q:VK}{E:XK}{d:D}{v:V}(S:aB K H ι M)(x:Ext K H ι H' ι')(S':aB K H' ι' M')(r:Rep K H' ι' d v)(h:xN K H ι Q E (dh M d M')):Q v H':=Ug S x S' r (by unfold dh at h ⊢;split at h<;>(rename_i c;first|rw[if_pos c]|rw[if_neg c])<;>exact h)
theorem ZzF{x qual:aj}{st:Ydi}{f:Yt}{k:Nat}{body:S3}(F:pN K x qual st f fd)(S:cL N ps (Zn st))(hb:∀(cdv:Ye) (A:bC) (outer:List cH) (s:Yf) (H:Hp) (E:XK),cJ k (A.deeper (lV qual (Zn st) s.heap.objs.size f cdv))->tO (oM (qd P w) P w K mg base N qual (Zn st) f cdv A outer s H E) true (iG st) body):
  fM P w K mg base (qd P w) (k+1) f fd ps (Vd K ps.length (bF ps.length N.length body)):=by
 obtain⟨oc,od,dV,kV,doc,pm,an,cdv,ct,osl,rfl,lk,hcd⟩:=F.ex;refine Ti lk hcd S (λvs H Q E ⟨ι,M,ds,_,r,l,_⟩=>by rw[r.length,l]) λA outer s H vs Q E hr ak=>?_;obtain⟨ι,M,ds,SR,r,l,h⟩:=ak;refine⟨_,hb cdv A outer s H E hr,ι,M,ds.map Ya++Ym (N.length-ps.length) Yk,SR,?_,?_⟩
 .have e:L2.start N vs=vs.map Ya++Ym (N.length-ps.length) Yk:=by unfold L2.start;rw[r.length,l]
  rw[e];exact bJ.start r _
 .unfold bF at h;rw[if_pos l]at h;cases q:body (ds.map Ya++Ym (N.length-ps.length) Yk) M with
  |nx env' M'=>rw[q]at h;exactλσ' H' ι' x S' E'=>Zmb SR x S' Rep.non h|rt d M'=>rw[q]at h;exactλv H' ι' x S' r'=>Zmb SR x S' r' h|bk _ _=>rw[q]at h;exact h.elim|ct _ _=>rw[q]at h;exact h.elim
  |exc _ _=>rw[q]at h;exactλσ' a C H' ι' _ x S' r' c'=>Zsv (h a C H' ι' x S' r' c')|bad=>rw[q]at h;exact h.elim
end
section
variable {P:Y8} {w:aO} {K:Yb} {mg:aj->Option Ye} {base:aC}
theorem ZtA{k n:Nat}{f:Yt}(G:fM P w K mg base (qd P w) k f fd ps (Vd K n F)):fM P w K mg base kI k f fd ps (tE K n F):=
 ⟨λvs H Q E z=>let⟨ι,M,ds,S,r,l,h⟩:=z;G.len vs H Q E0 ⟨ι,M,ds,S,r,l,h.x⟩,λA outer s H args us vs Q E hr he hb hv z=>let⟨ι,M,ds,S,r,l,h⟩:=z;qz (G.run A outer s H args us vs Q E0 hr he hb hv ⟨ι,M,ds,S,r,l,h.x⟩) λr s' z=>by
  cases r with
  |error e=>exfalso;obtain⟨_,_,_,_,_,_,_,_,_,_,_,_,_,z⟩:=z;exact z|ok fl=>cases fl<;>exact z⟩
def nC(P:Y8)(w:aO)(K:Yb)(mg:aj->Option Ye)(base:aC)(k:Nat)(x:aj)(ps:List aj)(F:F3):Prop:=(∀ds M,ds.length≠ps.length->F ds M= .bad)/\∃f fd,mg x=Ya (.ref f)/\qy K (.ref f)=true/\Binds K fd ps []/\fM P w K mg base (qd P w) k f fd ps (Vd K ps.length F)
theorem nC.fn{k:Nat}{x:aj}(h:nC P w K mg base k x ps F):aM P w K mg base k x ps F:=let⟨n,f,fd,a,b,c,d⟩:=h;⟨n,f,fd,a,b,c,ZtA d⟩
theorem nC.of{x:aj}{st:Ydi}{k:Nat}{body:S3}(d:bL K mg x st ps)(S:cL N ps (Zn st))(hb:∀(f:Yt) (cdv:Ye) (A:bC) (outer:List cH) (s:Yf) (H:Hp) (E:XK),cJ k (A.deeper (lV x (Zn st) s.heap.objs.size f cdv))->tO (oM (qd P w) P w K mg base N x (Zn st) f cdv A outer s H E) true (iG st) body):
  nC P w K mg base (k+1) x ps (bF ps.length N.length body):=by
 obtain⟨f,fd,F,m,bi⟩:=d;exact⟨λds M h=>if_neg h,f,fd,m,F.kp,bi,ZzF F S (hb f)⟩
end
section
variable {X:Cx} {o e:Expr} {es:List Expr} {f:E3} {gl:cY} {c m:List Nat} {C:Yt} {fn x:aj} {pos pos' apos p:aP} {k:Nat} {ps:List aj} {F:F3}
theorem ZxR{fa:Yt}{sp:Sp}{pins:List (Yt×aD)}{s:Yf}{Q:VK}{us:List Ye}{vs:List V}(G:fM X.prog X.w X.K X.mg X.base (qd X.prog X.w) k fa fd ps sp)(hr:cJ k X.A)(hb:Binds X.K fd ps [])(I:Inv X pins σ H s)(r:Vals vs us)(h:sp vs H Q (EX X σ)):ao (aq X.prog X.w) X.A (call (.ref fa) us) (EP X pins σ Q) X.xe s:=by
 have hl:(us++[]).length=ps.length:=by rw[gQ,←r.length];exact G.len _ _ _ _ h
 have hb':=hb s us I.bW hl;rw[gQ]at hb';refine qD (qz (G.run X.A X.stack s H ⟨us,[]⟩ us vs Q (EX X σ) hr I.env0 hb' r h) λr s' hq=>?_);cases r with
 |error e=>obtain⟨e,C,H',rfl,I',x,hE⟩:=ZyL I hq;exact hE e C rfl rfl pins s' I' x|ok fl=>
  cases fl with
  |ret u=>exact I.after hq|next=>exact dX hq|brk=>exact dX hq|cont=>exact dX hq
theorem Zq8{es:List Expr}{pins:List (Yt×aD)}{s:Yf}{M M1:Store}{env:Zz}{ds:List D}{R:List Ye->Yf->Prop}(ha:CA X.iD es gl)(I:Inv X pins σ H s)(S:aB X.K H ι M)(E:bJ X.K H ι env σ)(q:gl env M= .ok ds M1)(h:∀us s1 vs H1 ι1,Inv X pins σ H1 s1->Vals vs us->Ext X.K H ι H1 ι1->aB X.K H1 ι1 M1->Zw X.K H1 ι1 ds vs->R us s1):ao (aq X.prog X.w) X.A (FZ (bO pos (Yr es X.env))) R X.xe s:=by
 refine eY (ha pos pins s σ H (λvs H1=>∃ι1,Ext X.K H ι H1 ι1/\aB X.K H1 ι1 M1/\Zw X.K H1 ι1 ds vs) (I.wish _) ⟨ι,M,env,S,E,?_⟩) (λus s1 z=>?_) λ_ _ z=>dX z
 .rw[q];exactλvs H1 ι1 x1 S1 r1=>⟨ι1,x1,S1,r1⟩
 .obtain⟨vs,H1,I1,r,ι1,x1,S1,r1⟩:=z;exact h us s1 vs H1 ι1 I1.nW r x1 S1 r1
theorem Ve(G:nC X.prog X.w X.K X.mg X.base k x ps F)(hr:cJ k X.A)(ha:CA X.iD (e::es) gl)(hg:Gl X x:=by rfl)(hdb:(x==("__debug__":aj))=false:=by decide)(he:Yr (e::es) X.env=(false,aF e X.env)::Yr es X.env:=by rfl)(hpl:(bO pos (Yr es X.env)).any (·.1)=false:=by rfl):Dg X (.Call (.Name x p) (e::es) [] pos) (Zx F (oX gl)):=by
 obtain⟨hn,fa,fd,hm,kp,bi,ok⟩:=G;intro pins s σ H Q I h;obtain⟨ι,M,env,S,E,h⟩:=h;refine yj (yX I hg hm ?_ hdb);unfold Zx oX at h;cases q:gl env M with
 |exc _ _=>rw[q]at h;exact h.elim|bad=>rw[q]at h;exact h.elim|ok ds M1=>
  rw[q]at h;have h:xN X.K H ι Q (EX X σ) (F ds M1):=h;have hl:ds.length=ps.length:=by refine KR λz=>?_;rw[hn ds M1 z]at h;exact h.elim
  exact Qk (h₀:=X.base) I.ok.mod.yW kp (Zq8 ha I S E q λus s1 vs H1 ι1 I1 r x1 S1 r1=>⟨I1.bW,ZxR ok hr bi I1 r ⟨ι1,M1,ds,S1,r1,hl,h.up x1⟩⟩) he hpl
end
noncomputable abbrev inX(X:Cx)(A':bC)(E':Ye->Yf->Prop):Cx:={X with A:=A',calm:=false,xe:=E'}
noncomputable abbrev M_(X:Cx)(Nb:List (Yt×aD))(E':Ye->Yf->Prop):Cx:={X with pn:=Nb,xe:=E'}
variable{vL:List (Yt×aD)}{E':Ye->Yf->Prop}
section
variable {X:Cx} {pins:List (Yt×aD)} {σ:St} {H:Hp} {s:Yf}
theorem Zpb(I:Inv X pins σ H s)(A':bC)(E':Ye->Yf->Prop)(hf:A'.frames=X.A.frames):Inv (inX X A' E') pins σ H s:=
 let ok:=I.ok
 ⟨⟨ok.mod,ok.kind,ok.glob,ok.blt,ok.above,ok.inj,ok.has,ok.cab,(λz=>nomatch z),hf.trans ok.frames,ok.BR,ok.BV,ok.bs,ok.oJ,ok.ye,ok.vM,ok.j4,ok.qJ⟩,I.os,I.bare,I.base,I.loc,I.cell,I.free,I.jY,I.pin,I.hok,I.len⟩
theorem Zqy{σ':St}{H':Hp}{s':Yf}{A':bC}(I:Inv X pins σ H s)(J:Inv (inX X A' E') vL σ' H' s'):Inv X vL σ' H' s':=⟨I.ok,J.os,J.bare,J.base,J.loc,J.cell,J.free,J.jY,J.pin,J.hok,J.len⟩
theorem Zt4(I:Inv X pins σ H s)(E':Ye->Yf->Prop):Inv (M_ X (X.pn++pins) E') [] σ H s:=
 let ok:=I.ok
 ⟨⟨ok.mod,ok.kind,ok.glob,ok.blt,ok.above,ok.inj,ok.has,ok.cab,ok.hd,ok.frames,ok.BR,ok.BV,ok.bs,ok.oJ,ok.ye,ok.vM,ok.j4,ok.qJ⟩,I.os,I.bare,I.base,I.loc,I.cell,I.free,I.jY,λp hp=>I.pin p (by simpa using hp),I.hok,I.len⟩
theorem Ie{σ':St}{H':Hp}{s':Yf}(I:Inv X pins σ H s)(J:Inv (M_ X (X.pn++pins) E') vL σ' H' s'):Inv X pins σ' H' s':=⟨I.ok,J.os,J.bare,J.base,J.loc,J.cell,J.free,J.jY,λp hp=>J.pin p (pG _ hp),J.hok,J.len⟩
theorem ZsV{D:Ends}{f:Flow}{s':Yf}(I:Inv X pins σ H s)(h:SP (M_ X (X.pn++pins) E') vL D f s'):SP X pins D f s':=by
 cases f with
 |next=>obtain⟨σ',H',J,q⟩:=h;exact⟨σ',H',Ie I J,q⟩|brk=>obtain⟨σ',H',J,q⟩:=h;exact⟨σ',H',Ie I J,q⟩|cont=>obtain⟨σ',H',J,q⟩:=h;exact⟨σ',H',Ie I J,q⟩|ret u=>obtain⟨v,σ',H',J,r,q⟩:=h;exact⟨v,σ',H',Ie I J,r,q⟩
theorem Zsx{B h':aC}{e:Yt}{dd:Option Yt}(I:Inv X pins σ H s)(he:H e=Ya (u9 e C dd))(s1:B.StaysIn s.heap)(cv:zQ B X.fs X.ex X.H₀ X.s₀.heap H e)(hp:∀p∈X.pn++pins,B.get? p.1=Ya p.2)(s2:B.StaysIn h')(sl:s.heap.UpToSlots h')(xo:zx e C dd h'):Inv X pins σ H {s with heap:=h'}:=by
 have cellK:∀c v,s.heap.IsCell c v->h'.IsCell c v:=λc v z=>by
  obtain⟨o,ho,hd⟩:=z;obtain⟨s3,e3⟩:=sl c o ho λvs q=>by rw[hd]at q;cases q
  exact⟨_,e3,hd⟩
 refine⟨I.ok,I.os,I.bare,cv.un I.base s2 sl (ZqQ I),?_,λx c z=>?_,I.free,I.jY,λp hq=>⟨s2 _ _ (hp p hq),(I.pin p hq).2⟩,cv.hok I.hok he s1 s2 xo,I.len⟩
 .obtain⟨m,hn,hl⟩:=I.loc;refine⟨m,sl.ns hn,λi x v e1 e2 e3=>?_⟩;obtain⟨u,r,l⟩:=hl i x v e1 e2 e3;refine⟨u,r,?_⟩;rcases l with l|⟨k,c,e,z⟩
  .exact .inl l
  .exact .inr ⟨k,c,e,cellK _ _ z⟩
 .obtain⟨v,q⟩:=I.cell x c z;exact⟨v,cellK _ _ q⟩
theorem Zwx{M:Model}{A:bC}{E:Ye->Yf->Prop}{Q:Unit->Yf->Prop}{j:Nat}{n:aj}{pos:aP}(I:Inv X pins σ H s)(hN:X.N.Nodup)(hj:X.N[j]?=Ya n)(hl:X.env.scope.names.lookup n=Ya .local)(h:∀s',Inv X pins (σ.set j Yk) H s'->Q () s'):ao M A (do bindName X.env n .none;X7 X.env n pos) Q E s:=by
 have hl':X.env.kindOf n=Ya .local:=hl;have hp:(X.env.scope.kind== .class|| (X.env.scope.kind== .module&&X.env.locals !=X.env.globals))=false:=by rw[I.ok.kind];rfl
 obtain⟨m,hn,hv⟩:=id I.loc;refine Yc (wpAny_bindName (X4 hl' hn (λh₁ hn₁ hs₁=>?_) hp));unfold X7 unbindName deleteName;refine wpAny_onRaise (Yc (FQ (Yc ?_)));simp only[hp,hl'];rw[if_neg (by decide)];refine Yc (wpAny_nsDel_keeps hn₁ λh₂ v hn₂ hs₂=>?_);simp only[Xq,if_true,if_false,Gk,Bool.not_true];refine Yp (FQ (h _ ?_));have sb:=hs₁.trans hs₂;have ne:∀b o,X.s₀.heap.get? b=Ya o->b≠X.env.locals:=λb o q=>dG (Y7 (Y2 q) I.ok.above);have nt:∀b,H b≠Yk->b≠X.env.locals:=λb q z=>q (by rw[z];exact I.free);have cellK:∀x c,X.env.cells.lookup x=Ya c->∀v,s.heap.IsCell c v->h₂.IsCell c v:=λx c z v q=>by obtain⟨o,ho,hd⟩:=q;exact⟨o,(sb.2 c (I.wK x c z)).trans ho,hd⟩
 refine⟨I.ok,I.os,I.bare,⟨λb o q n hb hx=>?_,λb o q n hb hx=>?_,I.base.free,λb o q hx=>?_,I.base.tups,I.base.jZ,I.base.lG⟩,⟨_,hn₂,λi x v' e1 e2 e3=>?_⟩,λx c z=>?_,I.free,I.jY,λp hp=>?_,λb u q=>?_,by rw[yI];exact I.len⟩
 .exact(sb.2 b (ne b o q)).trans (I.base.keep b o q n hb hx)
 .obtain⟨sl,z⟩:=I.base.slot b o q n hb hx;exact⟨sl,(sb.2 b (ne b o q)).trans z⟩
 .obtain⟨o',z⟩:=I.base.there b o q hx;exact⟨o',(sb.2 b (ne b o q)).trans z⟩
 .have hij:i≠j:=λz=>by
   subst z;rw[YZ]at e2;cases q:σ[i]? with
   |none=>rw[q]at e2;simp at e2|some _=>rw[q]at e2;simp at e2
  rw[Yu (bV hij)]at e2;obtain⟨u,r,l⟩:=hv i x v' e1 e2 e3;have hxn:x≠n:=λz=>hij (Sd hN e1 (by rw[z];exact hj));refine⟨u,r,?_⟩;rcases l with⟨k,l⟩|⟨k,c,e,z⟩
  .refine .inl ⟨k,?_⟩;show(if x=n then _ else _)=_;rw[if_neg hxn];show(if x=n then _ else _)=_;rw[if_neg hxn];exact l
  .exact .inr ⟨k,c,e,cellK x c e _ z⟩
 .obtain⟨v,q⟩:=I.cell x c z;exact⟨v,cellK x c z v q⟩
 .obtain⟨e,n,ne',r⟩:=I.pin p hp;exact⟨(sb.2 _ ne').trans e,n,ne',r⟩
 .refine(I.hok b u q).stay (λc v hc z=>(sb.2 c (nt c ?_)).trans z) (λ_ z=>z) λ_ _ z=>z;rcases hc with rfl|hc
  .rw[q];simp
  .rw[hc];simp
end
theorem bJ.unset{K:Yb}{env:Zz}(r:bJ K H ι env σ)(j:Nat):bJ K H ι (env.set j Yk) (σ.set j Yk):=by
 refine⟨by simp[r.1],λi d h=>?_⟩;by_cases hij:i=j
 .subst hij;rw[YZ]at h;cases q:env[i]? with
  |none=>rw[q]at h;simp at h|some _=>rw[q]at h;simp at h
 .rw[Yu (bV hij)]at h;obtain⟨w,q,z⟩:=r.2 i d h;exact⟨w,by rw[Yu (bV hij)];exact q,z⟩
theorem ZvS{X:Cx}{x n:aj}{np pos pos2:aP}{body suite:List Ydi}{b0:Ydi}{cs:List (List Nat)}(j:Nat){b h:S3}{CE:Yt}(hN:X.N.Nodup)(hm:X.mg x=Ya (.ref CE))(hsub:∀c C,cs.contains c=true->ClsAt X.K c C->Qw X.K (.ref C) (.ref CE)=Ya true)(hb:∀Nb E',tO (M_ X Nb E') false body b)(hs:∀A' E',mD (inX X A' E') (b0::suite) h)(hst:X.stack=X.env::X.outer:=by rfl)(hfr:X.env.frame=Ya X.env.locals:=by rfl)(hj:X.N[j]?=Ya n:=by rfl)(hl:X.env.scope.names.lookup n=Ya .local:=by rfl)(hg:Gl X x:=by rfl)(hdb:(x==("__debug__":aj))=false:=by decide):CS X (.Try body [.ExceptHandler (Ya (.Name x np)) (Ya n) (b0::suite) pos] [] [] pos2) (HD cs j b h):=by
 intro pins s σ H D I z;obtain⟨ι,M,env,S,E,hf⟩:=z;refine wpAny_Try_except (eY (hb (X.pn++pins) _ [] s σ H D (Zt4 I _) ⟨ι,M,env,S,E,?_⟩) (λf s1 q=>?_) (λ_ _ z=>z))
 rotate_left
 .have q:=ZsV I q;cases f with
  |next=>obtain⟨σ',H',J,q⟩:=q;exact Fx ⟨σ',H',J,q⟩|brk=>exact q|cont=>exact q|ret u=>exact q
 unfold HD at hf;cases q:b env M with
 |nx e M1=>rw[q]at hf;exact hf|rt e M1=>rw[q]at hf;exact hf|bk e M1=>rw[q]at hf;exact hf|ct e M1=>rw[q]at hf;exact hf
 |bad=>rw[q]at hf;exact hf|exc x1 M1=>
  rw[q]at hf;dsimp only at hf;have hc:cs.contains x1.cls=true:=KR λz=>by rw[if_neg z]at hf;exact hf
  rw[if_pos hc]at hf;intro σ' e C H' ι' hσ xt S1 r1 c1 vL s' J Nf;obtain rfl:=hσ rfl;obtain⟨dd,he,B,fl,cv,hpn⟩:=Nf;have I1:Inv X pins σ' H' s':=Ie I J;have fl0:tL B (X.env::X.outer) e C dd s'.heap:=by rw[←hst];exact fl
  have AcV:X.A.frames=Ya (X.env::X.outer):=by rw[←hst];exact I1.ok.frames
  show ao (aq X.prog X.w) X.A (FT (.ref e) X.env) _ _ s';refine Zrd AcV hfr fl0 λh₄ a0 held sl4=>?_;refine Va held λh₅ Ft sl5=>?_;have I5:Inv X pins σ' H' {s' with heap:=h₅}:=Zsx I1 he fl.stays cv hpn Ft.1 (sl4.trans sl5) Ft.Dd;have SM:=Zpb I5 (X.A.mark (Ya (.ref e))) (λ_ _=>False) rfl;refine wpAny_handleBy_cons (codeAny_handlers_test (yX SM hg hm ?_ hdb)) (by intro q;cases q);have LT:PySem.W.Looks (aq X.prog X.w) h₅ (typeOf (.ref e)) (.ref C):=by obtain⟨o,vs,a,b,_⟩:=Ft.Dd;exact b▸(PySem.W.Looks.ld a).andThen .now
  refine PySem.W.exm_one (K:=X.K) (cls:=.ref C) I5.bW LT (hsub _ _ hc c1) _ _ _ _ (λ_ _ q=>q) ?_;refine codeAny_handlers_suite_as ?_;refine Va Ft λh₆ Xn sl6=>?_;have I6:Inv X pins σ' H' {s' with heap:=h₆}:=Zsx (s:={s' with heap:=h₅}) I5 he Ft.1 cv hpn Xn.1 sl6 Xn.Dd;have I6':=Zpb I6 (X.A.mark (Ya (.ref e))) (λ_ _=>False) rfl;refine Sg (X:=inX X (X.A.mark (Ya (.ref e))) λ_ _=>False) (v:=.ref e) I6' hN hj (.inl hl) rfl (λs7 I7=>?_) (.inr hl);refine eY (hs (X.A.mark (Ya (.ref e))) (λ_ _=>False) pins s7 (σ'.set j (Ya (.ref e))) H' {nx:=λσ2 H2=>D.nx (σ2.set j Yk) H2,rt:=λ_ _=>False} I7 ⟨ι',M1,env.set j (Ya x1.arg),S1,(E.mono xt).set j r1,?_⟩) (λf s8 q=>?_) (λ_ _ z=>dX z)
  .cases qh:h (env.set j (Ya x1.arg)) M1 with
   |nx e' M2=>rw[qh]at hf;exactλσ2 H2 ι2 x2 S2 E2=>hf _ H2 ι2 (xt.trans x2) S2 (E2.unset j)|rt _ _=>rw[qh]at hf;exact hf.elim|bk _ _=>rw[qh]at hf;exact hf.elim|ct _ _=>rw[qh]at hf;exact hf.elim
   |exc _ _=>rw[qh]at hf;exact hf.elim|bad=>rw[qh]at hf;exact hf.elim
  .cases f with
   |next=>obtain⟨σ2,H2,I8,q⟩:=q;exact Zwx (Zqy I I8) hN hj hl λs9 I9=>⟨σ2.set j Yk,H2,I9,q⟩|brk=>exfalso;obtain⟨_,_,_,q⟩:=q;exact q|cont=>exfalso;obtain⟨_,_,_,q⟩:=q;exact q
   |ret u=>exfalso;obtain⟨_,_,_,_,_,q⟩:=q;exact q
end L3
namespace PySem.W
open PySem PySem.Spec PySem.Calls PyProof.Rows Builtin Builtin.ObjectAttr Builtin.Getset_descriptor
section
variable {prog:Y8} {w:aO} {K:Frag} {x D:Yt}
def zR(x D:Yt)(h:aC):Prop:=∃o,h.get? x=Ya o/\o.cls= .ref D
theorem zR.ty{h:aC}(p:zR x D h)(M:Model):Looks M h (typeOf (.ref x)) (.ref D):=by obtain⟨o,a,b⟩:=p;exact b▸(Looks.ld a).andThen .now
theorem AcW{C CE:Yt}{cd:ClassData}(cl:clsIn K CE=Ya cd)(ty:typeIn K (.ref CE)=Ya (.type "type"))(bs:subIn K (.ref CE) (.type "BaseException")=Ya true)(sb:subIn K (.ref C) (.ref CE)=Ya true):exmOne K (.ref C) (.ref CE)=Ya true:=by unfold exmOne;rw[bs,if_pos (by rfl)];show(if((clsIn K CE).isSome&&typeIn K (.ref CE)==Ya (.type "type"))=true then subIn K (.ref C) (.ref CE)else Yk)=Ya true;rw[cl,ty,if_pos (by rfl)];exact sb
end
end PySem.W
namespace L3
open PySem PySem.Spec PyProof.Rows L2
structure ZvK(K:Yb)(C:Yt):Prop where
 ga:Y9 K (.ref C) "__getattribute__" =Ya (Ya (.builtin "BaseException.__getattribute__"))
 gh:Y9 K (.ref C) "__getattr__" =Ya Yk
 be:uw K C (.type "BaseException")=Ya true
 cl:(ux K C).isSome=true
 fa:Y9 K (.ref C) "__class__" =Ya (Ya (.builtin "object.__class__"))
 sp:Bb K (.builtin "object.__class__") "__get__" =Ya (Ya (.builtin "getset_descriptor.__get__"))
 tk:Qq K (.builtin "object.__class__")=Ya true
 mo:uw K C (.type "object")=Ya true
noncomputable def Ng(es:Array DictEntry):Bool:=es.toList.all λe=>match e.key with
 | .str _ _=>true|_=>false
theorem Ztd{es:Array DictEntry}(h:Ng es=true):StrKeys es:=λe he=>by
 have:=ig.mp h e (Yi8.mpr he);split at this
 .rename_i n t q;exact⟨n,t,q⟩
 .cases this
section
variable {K:Yb} {h:aC} {a:Yt} {oc:Ye} {od:Option Yt} {es:Array DictEntry} {ep:Nat} {sl:Array (Option Ye)}
theorem ZuM(X:K.In h)(l:K.lookup a=Ya ⟨oc,od,.dict es ep,sl⟩)(sk:Ng es=true):h.Ns a (nsFind es):=⟨_,es,ep,X _ _ l,rfl,Ztd sk,λ_=>rfl⟩
theorem Zps{c:List Nat}{C C':Yt}(x:ClsAt K c C)(y:ClsAt K c C'):C'=C:=by have:=y.symm.trans x;cases this;rfl
theorem Zuc{P:Yt->Prop}:∀c C,([]:List (List Nat)).contains c=true->ClsAt K c C->P C:=λc C z=>by cases z
theorem ZsF{P:Yt->Prop}{k:List Nat}{ks:List (List Nat)}{C1:Yt}(x:ClsAt K k C1)(p:P C1)(t:∀c C,ks.contains c=true->ClsAt K c C->P C):∀c C,(k::ks).contains c=true->ClsAt K c C->P C:=λc C z au=>by
 rw[Q8,wF]at z;rcases z with z|z
 .rw[beq_iff_eq.mp z]at au;rw[Zps x au];exact p
 .exact t c C z au
end
section
variable {X:Cx} {tg:Expr} {pos:aP}
theorem ZtX{iter:Expr}{body:List Ydi}{i:I3}{g:G3}{u:S3}(hp:Q0 (aq X.prog X.w) X.A X.env X.xe)(hc:X.calm=true)(hi:CI X tg iter i)(hg:CG X tg g)(hb:tO X true body u)(hs:∀x,yp iter X.env x=pure x:=by intro _;rfl):
  tM X true (.For tg iter body [] pos) (HF i g u):=(SJ hp hc hi hg hb hs).imp λD σ H ak=>by
 obtain⟨ι,M,env,S,E,h⟩:=ak;unfold HF at h;cases q:i env M with
 |exc x M1=>rw[q]at h;exact h.elim|bad=>rw[q]at h;exact h.elim|ok it M1=>
  rw[q]at h;refine⟨ι,M,env,S,E,?_⟩;rw[q];intro J H1 ι1 x1 S1 ok;refine⟨λi m σ2 H2=>m=it.items.length-i/\i<=it.items.length/\∃ι2 M2 gj,Ext X.K H1 ι1 H2 ι2/\aB X.K H2 ι2 M2/\bJ X.K H2 ι2 gj σ2/\qX X true σ2 H2 ι2 D (dg it g u (it.items.drop i) gj M2),
   ⟨_,rfl,fL _,ι1,M1,env,Ext.refl,S1,E.mono x1,qX.up x1 (λz=>nomatch z) h⟩,?_⟩
  rintro i m σ2 H2 ⟨rfl,hi,ι2,M2,gj,x2,S2,E2,h2⟩;by_cases hlt:i<it.items.length
  .have hd:it.items[i]?=Ya it.items[i]:=by simp[hlt]
   rw[yD hlt]at h2
   first|rw[pU]at h2|rw[pR]at h2
   by_cases lk:locked it M2=true
   .rw[if_pos lk]at h2;obtain⟨go,yl⟩:=(ok i H2 ι2 M2 x2 S2 lk).1 _ hd;cases eg:g it.items[i] gj with
    |none=>rw[eg]at h2;exact h2.elim|some qx=>
     rw[eg]at h2;refine .inr ⟨go,λσ' H'=>∃ι3 M3 jO,Ext X.K H2 ι2 H' ι3/\aB X.K H' ι3 M3/\bJ X.K H' ι3 jO σ'/\qX X true σ' H' ι3 D (dg it g u (it.items.drop (i+1)) jO M3),
      λσ' H' ⟨ι3,M3,jO,x3,S3,E3,h3⟩=>⟨it.items.length-(i+1),by omega,rfl,hlt,ι3,M3,jO,x2.trans x3,S3,E3,h3⟩,λx H' hy=>?_⟩
     obtain⟨rfl,rx⟩:=yl x H' hy;refine⟨ι2,M2,gj,_,qx,S2,E2,rx,eg,λσ' E'=>⟨ι2,M2,qx,S2,E',?_⟩⟩;cases qu:u qx M2 with
     |nx e' M'=>simp only[qu]at h2;exactλσ' H' ι' x' S' E'=>⟨ι',M',e',x',S',E',h2.up x' (λz=>nomatch z)⟩|ct e' M'=>simp only[qu]at h2;exactλσ' H' ι' x' S' E'=>⟨ι',M',e',x',S',E',h2.up x' (λz=>nomatch z)⟩|bk e' M'=>simp only[qu]at h2;exact h2|rt d M'=>simp only[qu]at h2;exact h2
     |exc x' M'=>simp only[qu]at h2;exactλσ'' a C H' ι' _=>h2 σ'' a C H' ι' (λz=>nomatch z)|bad=>simp only[qu]at h2;exact h2.elim
   .rw[if_neg lk]at h2;exact h2.elim
  .have e0:i=it.items.length:=Y6 hi (ir hlt);subst e0;rw[Gd]at h2
   first|rw[pU]at h2|rw[pR]at h2
   by_cases lk:locked it M2=true
   .rw[if_pos lk]at h2;exact .inl ⟨(ok _ H2 ι2 M2 x2 S2 lk).2 rfl,h2 σ2 H2 ι2 Ext.refl S2 E2⟩
   .rw[if_neg lk]at h2;exact h2.elim
end
noncomputable def Dh(K:Yb)(d:List aj)(v:Ye):Bool:=match v with
 | .ref a=>(match K.lookup a with
  |some o=>o.cls== .type "tuple" &&o.dict.isNone&&(match o.data with| .seq vs _=>decide (vs.size<=1000)&&KTD.strsLook vs.toList d|_=>false)
  |none=>false)
 |_=>false
noncomputable def ZyN(t:Mg):List (aj×List aj):=t.map λp=>(⟨p.1.toArray⟩,p.2.map λy=>⟨y.toArray⟩)
def Zyu(K:Yb)(d:List aj)(v:Ye):Prop:=∃a,v= .ref a/\∀H,cM K H a (d.map V.str)
theorem Zpq:∀{vs:List Ye} {d:List aj},StrsAre vs d->Vals (d.map V.str) vs:=by
 intro vs d h
 induction h with
 |nil=>exact .nil|cons _ _ _ ih=>exact .cons ⟨_,rfl⟩ ih
theorem ZoF{K:Yb}{d:List aj}{v:Ye}(h:Dh K d v=true):Zyu K d v:=by
 unfold Dh at h;split at h
 .rename_i a;refine⟨a,rfl,λH=>?_⟩;split at h
  .rename_i o ho;simp only[Y3]at h;obtain⟨⟨h1,h2⟩,h3⟩:=h;split at h3
   .rename_i vs n hd;simp only[Y3,decide_eq_true_eq]at h3;exact .inr ⟨o,vs,n,ho,⟨beq_iff_eq.mp h1,by simpa using h2⟩,hd,Yi h3.1 (by rw[rT];decide),Zpq (KTD.strs_of_look h3.2)⟩
   .cases h3
  .cases h
 .cases h
abbrev ZxQ(K:Yb)(a:Yt)(t:Mg):Prop:=KTD.tabLook (Dh K) (λb=>K.lookup b) a (ZyN t)=true
theorem ZxQ.at{K:Yb}{a:Yt}{t:Mg}{h:aC}(T:ZxQ K a t)(X:K.In h):qI (Zyu K) h a (ZyN t):=Yml (λ_ _ q=>ZoF q) X T
theorem Zmo{K:Yb}{H:Hp}{ι:List Yt}:∀ds:List (List Nat),Zw K H ι (ds.map D.str) ((ds.map λy=>(⟨y.toArray⟩:aj)).map V.str)
 |[]=>Zw.nil|_::ds=>Zw.cons Rep.str (Zmo ds)
section
variable {prog:Y8} {w:aO} {A:bC} {E:Ye->Yf->Prop} {s:Yf} {a:Yt} {K:Yb} {t:Mg} {x:List Nat} {tk:eO}
theorem tU{δ:Type}{R:δ->Ye->Prop}{T:List (aj×δ)}(h:qI R s.heap a T):s.TypeIs (.ref a) "dict":=let⟨_,o,_,_,ho,hc,_⟩:=h;⟨o,ho,hc.1⟩
theorem Vf{δ:Type}{R:δ->Ye->Prop}{T:List (aj×δ)}{k:aj}{Q:Option Ye->Yf->Prop}(h:qI R s.heap a T)(hs:∀d v,oG k T=Ya d->R d v->Q (Ya v) {s with toks:=s.toks+1})(hn:oG k T=Yk->Q Yk {s with toks:=s.toks+1}):ao (aq prog w) A (vY a (.str k tk)) Q E s:=by
 obtain⟨_,o,es,ep,ho,hc,hd,hr⟩:=h;unfold vY
 try with_reducible refine gG ?_
 refine Yc (YG (Yc (KTD.kt_dictFind_strs (s:={s with toks:=s.toks+1}) ho hd (by obtain⟨es⟩:=es;simpa using hr.exact) ?_)));have key:Q (findBy (λq v=>v.isStr q) es k) {s with toks:=s.toks+1}:=by
  rw[show findBy (λq v=>v.isStr q) es k=(es.toList.find? λz=>z.key.isStr k).map (·.val)by obtain⟨es⟩:=es;simp[findBy]];cases e:oG k T with
  |none=>rw[hr.find_none e];exact hn e|some d=>obtain⟨v,hv,r⟩:=hr.find_some e;rw[hv];exact hs d v e r
 rw[findBy_of_findIdx?]at key;cases e:es.findIdx? λz=>z.key.isStr k with
 |none=>rw[e]at key;exact Yp key|some j=>rw[e]at key;exact Yc (YD (s:={s with toks:=s.toks+1}) ho hd (Yp key))
end
open AutoSeq1 (wpAny_loadPart')
set_option maxRecDepth 100000
theorem ZlW{prog:Y8}{w:aO}{A:bC}{it:Yt}{fp:List Yt}{n:Nat}{P:Nat->Ye->Prop}{St:Nat->aC->Prop}(D:Draws prog w A it fp n P St):
  Draws prog w A it fp (n+1) (λi v=>P (i-1) v) (λi h=>∃j,i=j+1/\St j h)where
 live:=λi h ⟨j,_,st⟩=>D.live j h st
 frame:=λi h h' ⟨j,e,st⟩ hk=>⟨j,e,D.frame j h h' st hk⟩
 item:=λi s Q E hi st hQ=>by obtain⟨j,rfl,st⟩:=st;exact D.item j s Q E (Nat.lt_of_succ_lt_succ hi) st λx h' tk hp st' hs=>hQ x h' tk hp ⟨j+1,rfl,st'⟩ hs
 done:=λs Q E st hE=>by obtain⟨j,e,st⟩:=st;cases R6 e;exact D.done s Q E st hE
theorem ZmL(l:Yt)(items:Array Ye)(n:Nat)(dct:Option Yt)(sl:Array (Option Ye))(t:eO):
  Meets (Builtin.«enumerate.__new__» ⟨[.type "enumerate",.ref l],[("start",.int 1 t)]⟩) (λ_ R s=>s.heap.get? l=Ya {cls:=.type "list",dict:=dct,data:=.seq items n,slots:=sl}/\
   R (.ok (.ret (.ref (s.heap.push {cls:=.type "list_iterator",data:=.fields #[.ref l,.int 0 0]}).objs.size)))
    {s with heap:=(s.heap.push {cls:=.type "list_iterator",data:=.fields #[.ref l,.int 0 0]}).push {cls:=.type "enumerate",data:=.fields #[.none,.bool false,.ref s.heap.objs.size,lJ 1,.none,.none]}}):=
 .of_wp λprog w A R s h=>by
  obtain⟨hp,g,d,tk,os⟩:=s;obtain⟨hl,h⟩:=h;have hsub:=sub_enumerate;have hL:Heap.IsList (Shared.heap ⟨hp,g,d,tk,os⟩) l items:=⟨_,hl,rfl,n,rfl⟩
  wp_walk using rQ hl
  refine YQ λst=>Yp ?_;split
  .rename_i c _ _ _ _ _;cases(c==Value.type "enumerate")
   .wp_walk using rQ hl,yo hL
    exact⟨_,rfl,h⟩
   .wp_walk using rQ hl,yo hL
    exact⟨_,rfl,h⟩
  .wp_walk using rQ hl,yo hL
   exact⟨_,rfl,h⟩
theorem Zne(a b:Ye):checkTypeCall "enumerate" ⟨[a],[("start",b)]⟩=pure ():=by kernel_rfl
theorem ZpF(a b:Ye):Fw "enumerate.__new__" ⟨[.type "enumerate",a],[("start",b)]⟩=pure ():=by kernel_rfl
theorem Zn6(o a b:Ye):argsOk "object.__init__" ⟨[o,a],[("start",b)]⟩:=by unfold argsOk;rw[signature?_of (id:="object.__init__") (n:=['_','_','t','i','n','i','_','_']) (o:=['t','c','e','j','b','o']) (by kernel_rfl) F.owner_object];kernel_rfl
theorem Zmt{self a b:Ye}:Meets (Builtin.«object.__init__» ⟨[self,a],[("start",b)]⟩) (λ_ R s=>s.TypeIs self "enumerate" /\R (.ok (.ret .none)) s):=by
 have hl:=F.called_enumerate.init.lookup;have hm:=F.called_enumerate.made;refine Meets.of_wp λprog w A R s hs=>?_;obtain⟨hT,hq⟩:=hs
 repeat(any_goals(first|assumption|wp_step))
 exact⟨_,rfl,hq⟩
theorem ZnR{prog:Y8}{w:aO}{A:bC}{E:Ye->Yf->Prop}{s:Yf}{l:Yt}{items:Array Ye}{t:eO}{Q:Ye->Yf->Prop}(hL:s.heap.IsList l items)(h:∀h',yx h' (s.heap.objs.size+1) s.heap.objs.size 1 .none->h'.IsListIter s.heap.objs.size l 0->(∀b o,s.heap.get? b=Ya o->h'.get? b=Ya o)->Q (.ref (s.heap.objs.size+1)) {s with heap:=h'}):
  ao (aq prog w) A (call (.type "enumerate") [.ref l] [("start",.int 1 t)]) Q E s:=by
 obtain⟨⟨c,dct,dt,sl⟩,hl,hc,n,hd⟩:=hL;replace hc:c= .type "list":=hc;replace hd:dt= .seq items n:=hd;subst hc hd;have ft:=Yks;obtain⟨c,tl,hmro⟩:=ft.mro;have hmade:=ft.made;have hsub:=ft.sub;have hct:=Zne (.ref l) (.int 1 t);have hcn:=ZpF (.ref l) (.int 1 t);refine qD (QD (show ao _ _ (callAny (.type "enumerate") _) _ _ _ from ?_));refine Yp ⟨K5 _ (by decide +kernel),yr F.entry_type_call (?_)⟩;rw[Yku (X5 _ _ _) (units_type_call_type _ _ _)];have h1:=ft.notType;have h2:=ft.canCreate
 repeat(any_goals(first|assumption|wp_step))
 have hz:(s.heap.push {cls:=.type "list_iterator",data:=.fields #[.ref l,.int 0 0]}).objs.size=s.heap.objs.size+1:=wz ..;have g0:=ZmL l items n dct sl t prog w A.in1 (wants (λobj s₁=>s₁.TypeIs obj "enumerate" /\Q obj s₁) E) s ⟨hl,by
  show _/\_;rw[hz];have he:yx ((s.heap.push {cls:=.type "list_iterator",data:=.fields #[.ref l,.int 0 0]}).push {cls:=.type "enumerate",data:=.fields #[.none,.bool false,.ref s.heap.objs.size,lJ 1,.none,.none]}) (s.heap.objs.size+1) s.heap.objs.size 1 .none:=by have q:=Y1 (s.heap.push {cls:=.type "list_iterator",data:=.fields #[.ref l,.int 0 0]}) (o:={cls:=.type "enumerate",data:=.fields #[.none,.bool false,.ref s.heap.objs.size,lJ 1,.none,.none]}) rfl;rw[hz]at q;exact q
  exact⟨⟨_,he,rfl⟩,h _ he ⟨_,Yh _ (Y1 _ rfl),rfl,rfl⟩ λb o x=>Yh _ (Yh _ x)⟩⟩
 refine qz (yh ft.plain Yiv (JZ hcn g0)) λr s₁ hr=>?_;cases r with
 |error e=>exact hr|ok fl=>
  cases fl with
  | ret obj=>
   obtain⟨hT,hq⟩:=hr;have hli:=ft.init.lookup;have hbi:=ft.init.bind obj
   repeat(any_goals(first|assumption|wp_step))
   refine qz (yh ft.init.plain F.entry_object_init (ft.init.check _ _ _ _ _ _ _ _ hT (Zn6 obj _ _) (Zmt prog w A.in1 (wants (λr s₂=>r= .none/\Q obj s₂) E) s₁ ⟨hT,rfl,hq⟩))) λr₂ s₂ Vg=>?_;cases r₂ with
   |error e=>exact Vg|ok fl₂=>
    cases fl₂ with
    |ret r=>
     obtain⟨rfl,hq⟩:=Vg
     repeat(any_goals(first|assumption|wp_step))
    |_=>exact Vg.elim
  |_=>exact hr.elim
noncomputable def Zyd(S:Hp->List V->Prop):It:=⟨λi H=>∃xs x,S H xs/\xs[i]?=Ya x,λi H x H'=>∃A a,x= .ref A/\H A=Yk/\H'=upd H A (.tup [.int ((i+1:Nat):Int),a])/\∀xs,S H xs->xs[i]?=Ya a,
 λi H=>∃xs,S H xs/\xs.length<=i⟩
theorem Zm0{P:Y8}{w:aO}{K:Yb}{es:List Expr}{k:Nat}{pos:aP}(a e it:Yt)(hne:e≠it):
  Turn P w K (.Tuple es k pos) (Zyd λH xs=>bK K H a xs) [e,it] e (λi h=>(∃old,yx h e it ((i+1:Nat):Int) old)/\h.IsListIter it a i)where
 mem:=by simp
 obj:=λi h st b hb=>by
  obtain⟨⟨old,he⟩,o,ho,c,d⟩:=st;simp only[Yv,ou,or_false]at hb;rcases hb with rfl|rfl
  .exact⟨_,he,λv z=>by cases z⟩
  .exact⟨o,ho,λv z=>by rw[d]at z;cases z⟩
 keep:=λi h h' st k=>by obtain⟨⟨old,he⟩,hit⟩:=st;exact⟨⟨old,k e (by simp) _ he⟩,hit.at λo q=>k it (by simp) o q⟩
 item:=by
  intro X hP hw hK hc i pins s σ H E I hf st hg;subst hP hw hK;obtain⟨xs,x,hq,hx⟩:=hg;obtain⟨its,rv,p,hz⟩:=I.list hq;obtain⟨u,hu,ru⟩:=rv.get hx;obtain⟨⟨old,he⟩,hit⟩:=st;have hel:=Y2 he;have hil:it<s.heap.objs.size:=by obtain⟨o,ho,_⟩:=id hit;exact Y2 ho
  have U9:e≠a:=by rintro rfl;obtain⟨o,ho,hc,_⟩:=p.isList;rw[he]at ho;cases ho;exact absurd hc (by simp)
  have hai:a≠it:=by rintro rfl;obtain⟨o,ho,hc,_⟩:=p.isList;obtain⟨o',ho',hc',_⟩:=hit;rw[ho']at ho;cases ho;rw[hc']at hc;exact absurd hc (by simp)
  have D:=ZlW (Draws.list (prog:=X.prog) (w:=X.w) (A:=X.A.in1) (I.ok.hd hc) it a hai its.toArray);refine XS (i:=i+1) D he ⟨i,rfl,hit,p.isList⟩ (by simpa using(Yd.mp hu).1) hne (by simp[hne,U9]) λy h' tk hy ho hst hT hsz hk=>?_;have ey:y=u:=by
   have q:its.toArray[i]?=Ya u:=by simpa using hu
   have hy':its.toArray[i]?=Ya y:=hy;rw[q]at hy';cases hy';rfl
  subst ey;refine⟨_,rfl,Qy (s:={s with heap:=h',toks:=tk+1}) ho λh'' Fq hs''=>?_⟩;obtain⟨I2,n2⟩:=U8 (i:=i+1) (x:=x) (tk':=tk+1) I hf hel hil ru hT hk hs'';obtain⟨j,ej,hst,_⟩:=hst;cases R6 ej;exact⟨.ref s.heap.objs.size,_,I2,rfl,⟨_,x,rfl,I.hok.fresh (Yq _),rfl,λys hy=>by rw[I.JB hy hq];exact hx⟩,⟨⟨_,by simpa using Fq⟩,hst.extBut hs''.extBut (bV hne)⟩,n2⟩
 done:=by
  intro X hP hw hK hc i pins s σ H E I hf st hg;subst hP hw hK;obtain⟨xs,hq,hx⟩:=hg;obtain⟨its,rv,p,hz⟩:=I.list hq;obtain⟨⟨old,he⟩,hit⟩:=st;have hl:=rv.length;have hT:s.TypeIs (.ref e) "enumerate":=⟨_,he,rfl⟩;unfold vZ;refine Yc (QK (yg (name:=mY "__next__") hT KN
   (vU KN hT Yic (show ao _ _ (field (.ref e) 2>>=λo=>_) _ _ _ from ?_) (Yhv _))))
  refine Yc (mU he rfl (x:=.ref it) rfl (Yc ?_));refine wpAny_nextOf_list_end (I.ok.hd hc) hit p.isList (by simp;omega) λh' x he' hx'=>?_;obtain⟨o,ho,hc⟩:=hx';refine Yc (YL (T:="StopIteration") (b:=true) ⟨o,ho,hc⟩ isSubtype_stop (Yp ?_));exact⟨rfl,I.JC (t':=s.toks) (λb o hb q=>he' b o (λz=>hb (by simp[z])) q) hf⟩
 self:=λ_ _ _ _ _ st h=>by obtain⟨⟨old,he⟩,_⟩:=st;exact Bd he h
section
variable {X:Cx} {es:List Expr} {k:Nat} {a:Expr} {p pos tpos kp cp:aP} {f:E3}
def ZtI(K:Yb)(ta:TA):TI:=λσ H R=>ta σ H λvs H1=>∃b,vs=[.ref b]/\∃xs,bK K H1 b xs/\R (Zyd λH xs=>bK K H b xs) H1
theorem ZkQ{M:Model}{A:bC}{E:Ye->Yf->Prop}{s:Yf}{env:cH}{T:String}{e:Expr}{kws:List Keyword}{Q:Ye->Yf->Prop}(h:ao M A (FZ (bO pos (Yr [e] env))) (λvs s₁=>ao M A (J5 ((iC pos (iB kws env)).map (·.2)))
   (λkvs s₂=>ao M A (call (.type T) vs (((iC pos (iB kws env)).filterMap (·.1)).zip kvs)) Q E s₂) E s₁) E s)(he:bO pos (Yr [e] env)=[(false,aF e env)])(hall:(iC pos (iB kws env)).all (·.1.isSome)=true)(hkw:(iC pos (iB kws env)).any (·.1.isNone)=false):
  ao M A (Bj pos (.type T) [] (bO pos (Yr [e] env)) (iC pos (iB kws env))) Q E s:=by
 rw[he]at h ⊢;unfold Bj;refine Yc (gG (eY (Yg9 (Q:=λa s₁=>ao M A (call (.type T) a.pos a.kw) Q E s₁) hall h) (λa s₁ h₁=>Yc (uD ?_)) λ_ _ x=>x));simp only[hkw,j9,List.any_nil,Ks];refine Yc (Yp (Yc ?_));exact eY h₁ (λr s₂ hr=>Yc (gG (FQ (Yp hr)))) λ_ _ x=>x
theorem ZqT{ta:TA}{j}(hg:Gl X "enumerate")(hm:X.mg "enumerate" =Yk)(ha:PA X [a] ta)(he:bO pos (Yr [a] X.env)=[(false,aF a X.env)]):
  PI X (.Tuple es k tpos) (.Call (.Name "enumerate" p) [a] [⟨Ya "start",.Constant (.int 1) j cp,kp⟩] pos) (ZtI X.K ta):=by
 intro pins s σ H R I h;refine yj (wL I hg hm boot_enumerate (ZkQ (aH (ha pos pins s σ H _ I h) λus s1 ak=>?_) he rfl rfl));obtain⟨vs,H1,I1,r1,q1⟩:=ak;refine aH ((ZoQ (nm:=Ya "start") (kpos:=kp) (Sh (j:=j) (pos:=cp) (i:=1)) ZrD) pos pins s1 σ H1 (λzs H'=>zs=[.int 1]/\H'=H1) I1 ⟨rfl,rfl⟩) λws s2 Ig=>?_;obtain⟨zs,H2,I2,rz,rfl,rfl⟩:=Ig;obtain⟨b,e,xs,hq,q⟩:=q1;subst e;cases r1 with
 | cons r rr=>
  cases rr
  cases r
  cases rz with
  | cons r' rr=>
   cases rr
   obtain⟨t,rfl⟩:=r';have fp:∀c∈[s2.heap.objs.size+1,s2.heap.objs.size],iu X pins H2 c:=λc hc=>by
    have hc':s2.heap.objs.size<=c:=by simp only[Yv,ou,or_false]at hc;rcases hc with rfl|rfl <;>omega
    exact I2.ul hc' (I2.hok.fresh hc')
   obtain⟨its,rv,pl,hz⟩:=I2.list hq;refine ZnR (t:=t) pl.isList λh' hE hI hk=>?_;have I3:Inv X pins σ H2 {s2 with heap:=h'}:=I2.kept (t':=s2.toks) hk;exact Bd (s:={s2 with heap:=h'}) hE ⟨_,[s2.heap.objs.size+1,s2.heap.objs.size],_,_,H2,rfl,I3,Zm0 b _ _ (Rk _),⟨⟨_,hE⟩,hI⟩,fp,q⟩
theorem Zqq{j}(hm:X.mg "enumerate" =Yk)(h:C3 X a f)(hg:Gl X "enumerate":=by rfl)(he:bO pos (Yr [a] X.env)=[(false,aF a X.env)]:=by rfl)(hs':Yr (a::[]) X.env=(false,aF a X.env)::Yr [] X.env:=by rfl):
  CIL X (.Tuple es k tpos) (.Call (.Name "enumerate" p) [a] [⟨Ya "start",.Constant (.int 1) j cp,kp⟩] pos) (Uc f):=
 PI.imp (ZqT hg hm (Zc h Zf hs') he) λσ H R ak=>by
  obtain⟨ι,M,env,S,E,h⟩:=ak;obtain⟨d,M1,e1,h⟩:=zN.bind h;refine⟨ι,M,env,S,E,?_⟩;have e2:Za f Ze env M= .ok [d] M1:=by unfold Za;rw[e1];rfl
  rw[e2];intro vs H1 ι1 x1 S1 r1;obtain⟨v,ws,rfl,r,q⟩:=r1.cons_inv;have:=q.nil_inv;subst this;cases d with
  | ref n=>
   cases hm:M1[n]? with
   |none=>simp only[hm]at h;exact h.elim|some o=>
    cases o with
    | lst ds=>
     simp only[hm]at h;obtain⟨b,ha,rfl⟩:=r.dN;obtain⟨vs,q,r⟩:=S1.obj n _ b hm ha;refine⟨b,rfl,vs,bK.of q,h _ H1 ι1 x1 S1 ?_⟩;intro i H2 ι2 M2 x S2 lk;have zA:M2[n]?=Ya (.lst ds):=by simpa[d_]using lk
     obtain⟨vs2,q2,r2⟩:=S2.obj n _ b zA (x.pre _ _ ha);refine⟨λd hd=>?_,λhl=>⟨vs2,bK.of q2,by rw[r2.length,hl,Mf];exact Yq _⟩⟩;rw[Ma,pI 1 i]at hd;cases hq:ds[i]? with
     |none=>rw[hq]at hd;cases hd|some d0=>rw[hq]at hd;cases hd;obtain⟨v,hv,rv⟩:=r2.get hq;refine⟨⟨vs2,v,bK.of q2,hv⟩,λy H3 hy=>?_⟩;obtain⟨T,y',rfl,hT,rfl,hall⟩:=hy;have e:=hall vs2 (bK.of q2);rw[hv]at e;cases e;exact S2.uo hT (Zw.cons Rep.int (Zw.cons rv Zw.nil))
    |_=>simp only[hm]at h;exact h.elim
  |_=>exact h.elim
end
end L3
namespace L3
open PySem PySem.Spec PyProof.Rows L2
noncomputable def Zyq(i:Int)(v:Ye):Bool:=match v with
 | .int j _=>decide (j=i)|_=>false
def ZxU(i:Int)(v:Ye):Prop:=∃t,v= .int i t
variable{i:Int}
theorem ZsX{v:Ye}(h:Zyq i v=true):ZxU i v:=by
 cases v with
 |int j t=>exact⟨t,by rw[of_decide_eq_true (show decide (j=i)=true from h)]⟩|_=>exact ft h
noncomputable def Di(t:kZ):List (aj×Int):=t.map λp=>(⟨p.1.toArray⟩,p.2)
abbrev mG(K:Yb)(a:Yt)(t:kZ):Prop:=KTD.tabLook Zyq (λb=>K.lookup b) a (Di t)=true
theorem mG.at{K:Yb}{a:Yt}{t:kZ}{h:aC}(T:mG K a t)(X:K.In h):qI ZxU h a (Di t):=Yml (λ_ _ q=>ZsX q) X T
theorem Dj(x:List Nat):∀t:kZ,oG (⟨x.toArray⟩:aj) (Di t)=cN x t
 |[]=>rfl|(k,v)::r=>by
  show(if decide ((⟨x.toArray⟩:aj)=⟨k.toArray⟩)=true then Ya v else oG ⟨x.toArray⟩ (Di r))=(if x=k then Ya v else cN x r);by_cases e:x=k
  .subst e;rw[if_pos rfl,if_pos (decide_eq_true rfl)]
  .rw[if_neg e,if_neg (by simp[e]),Dj x r]
variable{δ:Type}{Q:Ye->Yf->Prop}
section
variable {prog:Y8} {w:aO} {A:bC} {E:Ye->Yf->Prop} {s:Yf} {a:Yt} {K:Yb} {tk:eO}
theorem ZrM{R:δ->Ye->Prop}{l:List DictEntry}{T:List (aj×δ)}(h:KTD.Rows R l T):∀e∈l,∃x t,e.key= .str x t:=by
 induction h with
 |nil=>intro e he;cases he|cons hk _ _ ih=>
  intro e he;rcases Yv.mp he with q|q
  .rw[q];exact⟨_,_,hk⟩
  .exact ih e q
theorem Zpx{R:δ->Ye->Prop}{T:List (aj×δ)}{Q:Option Ye->Yf->Prop}(h:qI R s.heap a T)(hn:Q Yk {s with toks:=s.toks+1}):ao (aq prog w) A (vY a (.int i tk)) Q E s:=by
 obtain⟨_,o,es,ep,ho,hc,hd,hr⟩:=h;have hs:∀e∈es,∃x t,e.key= .str x t:=λe he=>ZrM hr e (by simpa using he);unfold vY
 try with_reducible refine gG ?_
 refine Yc (YF (Yc ?_));unfold dictFind
 try with_reducible refine gG ?_
 refine Yc (YD (s:={s with toks:=s.toks+1}) ho hd ?_);dsimp only;rw[if_pos]
 .unfold dictWalkPlain;refine Yc ?_;refine wpAny_forIn_list _ (λ_ b s'=>s'={s with toks:=s.toks+1}/\b=(Yk,())) _ ?_ ?_ _ _ ⟨rfl,rfl⟩
  .rintro x rest b s' ⟨rfl,rfl⟩;cases he:es[x]? with
   |none=>exact Yp ⟨rfl,rfl⟩|some e=>
    obtain⟨y,t,ek⟩:=hs e (Yiz he);dsimp only;by_cases hh:(e.hash==hashInt i)=true
    .rw[if_pos hh,ek];refine Yc (YS (s:={s with toks:=s.toks+1}) ho hd (Yc (K4 y t i tk prog w E _ (Yc (YS (s:={s with toks:=s.toks+1}) ho hd ?_)))));show ao _ _ (if(ep !=ep)=true then _ else _) _ E _;rw[if_neg (by simp)];exact Yc (J1 (Yp ⟨rfl,rfl⟩))
    .rw[if_neg hh];exact Yp ⟨rfl,rfl⟩
  .rintro b s' ⟨rfl,rfl⟩;exact Yp (Yp hn)
 .rw[iM];refine Ya9.mpr ⟨rfl,ig.mpr λv hv=>?_⟩;obtain⟨j,_,hj⟩:=Kf.mp hv;cases he:es[j]? with
  |none=>rw[he]at hj;cases hj|some e=>
   rw[he]at hj;obtain rfl:e.key=v:=by simpa using hj
   obtain⟨y,t,ek⟩:=hs e (Yiz he);rw[ek];rfl
theorem ZnZ{R:δ->Ye->Prop}{T:List (aj×δ)}{k:aj}{z:Ye}:
  MeetsIn prog w (Builtin.«dict.get» ⟨[.ref a,.str k tk,z],[]⟩) λ_ Z s=>qI R s.heap a T/\(∀d v,oG k T=Ya d->R d v->Z (.ok (.ret v)) {s with toks:=s.toks+1})/\(oG k T=Yk->Z (.ok (.ret z)) {s with toks:=s.toks+1}):=
 .of_wp λA Z s zz=>by obtain⟨h,h1,h2⟩:=zz;show ao _ _ (vY a (.str k tk)>>=λo=>_) _ _ s;refine Yc (Vf h (λd v e r=>Yp ⟨v,rfl,h1 d v e r⟩) λe=>?_);show ao _ _ (Ykd a (.str k tk)>>=λo=>_) _ _ _;exact Yc (YB h.1 (Yp ⟨z,rfl,h2 e⟩))
theorem ZmR{R:δ->Ye->Prop}{T:List (aj×δ)}{z:Ye}:
  MeetsIn prog w (Builtin.«dict.get» ⟨[.ref a,.int i tk,z],[]⟩) λ_ Z s=>qI R s.heap a T/\Z (.ok (.ret z)) {s with toks:=s.toks+1}:=
 .of_wp λA Z s zz=>by obtain⟨h,h2⟩:=zz;show ao _ _ (vY a (.int i tk)>>=λo=>_) _ _ s;refine Yc (Zpx h ?_);show ao _ _ (Ykd a (.int i tk)>>=λo=>_) _ _ _;exact Yc (YB h.1 (Yp ⟨z,rfl,h2⟩))
theorem Zr4{R:δ->Ye->Prop}{T:List (aj×δ)}{k:aj}{z:Ye}(h:qI R s.heap a T)(h1:∀d v,oG k T=Ya d->R d v->Q v {s with toks:=s.toks+1})(h2:oG k T=Yk->Q z {s with toks:=s.toks+1}):ao (aq prog w) A (call (.builtin "dict.get") [.ref a,.str k tk,z]) Q E s:=call_meetsIn RK (tU h) Yid (Yhy _ _ _) (ZnZ (R:=R) (T:=T)) ⟨h,h1,h2⟩
theorem Zqd{R:δ->Ye->Prop}{T:List (aj×δ)}{z:Ye}(h:qI R s.heap a T)(h2:Q z {s with toks:=s.toks+1}):ao (aq prog w) A (call (.builtin "dict.get") [.ref a,.int i tk,z]) Q E s:=call_meetsIn RK (tU h) Yid (Yhy _ _ _) (ZmR (R:=R) (T:=T)) ⟨h,h2⟩
end
section
variable {X:Cx} {e e':Expr} {x:aj} {a:Yt} {t:kZ} {npos apos cpos pos:aP} {g g':E3}
inductive Zzv(t:kZ)(y z:V)(H1:Hp)(Q:VK):Prop
 |str (k:List Nat) (e:y= .str ⟨k.toArray⟩) (s:∀i,cN k t=Ya i->Q (.int i) H1) (n:cN k t=Yk->Q z H1)
 |int (i:Int) (e:y= .int i) (n:Q z H1)
theorem ZqN{te te':TE}(hm:X.mg x=Ya (.ref a))(ht:mG X.K a t)(he:PE X e te)(he':PE X e' te')(m:M2 X (.Name x npos) "get" apos e e' cpos)(hg:Gl X x)(hd:(x==("__debug__":aj))=false):
  PE X (.Call (.Attribute (.Name x npos) "get" apos) [e,e'] [] cpos) (λσ H Q=>te σ H λy H1=>te' σ H1 λz H2=>Zzv t y z H2 Q):=by
 intro pins s σ H Q I h;refine wpAny_Call_method m.base m.few m.line PySem.F.plainAttrs_dict RK PySem.F.type_dict_get (aH (BW (v:=.ref a) (u:=.ref a) hg hm rfl hd pins s σ H (λv H'=>v= .ref a/\H'=H) I ⟨rfl,rfl⟩) λu s1 ak=>?_);obtain⟨v,H1,I1,r1,rfl,rfl⟩:=ak;obtain rfl:u=Value.ref a:=r1;have T1:=ht.at I1.bW;refine⟨tU T1,λb q=>?_,?_⟩
 .cases q
  obtain⟨_,ob,_,_,h1,h2,_⟩:=T1;exact⟨ob,h1,h2.2.1⟩
 rw[m.trees];refine RZ rfl (R0 (R4 (aH (he pins s1 σ H1 _ I1 h) λiv s2 ⟨y,H2,I2,ry,q2⟩=>R4 (aH (he' pins s2 σ H2 _ I2 q2) λfv s3 ⟨z,H3,I3,rz,q3⟩=>Yk3 ?_))));cases q3 with
 | str k ey hs hn=>
  rw[ey]at ry;obtain⟨tk,rfl⟩:=ry;refine Zr4 (ht.at I3.bW) (λd v ed rv=>?_) λed=>?_
  .rw[Dj]at ed;obtain⟨t',rfl⟩:=rv;exact⟨.int d,H3,I3.tok _,⟨t',rfl⟩,hs d ed⟩
  .rw[Dj]at ed;exact⟨z,H3,I3.tok _,rz,hn ed⟩
 |int i ey hn=>rw[ey]at ry;obtain⟨tk,rfl⟩:=ry;exact Zqd (ht.at I3.bW) ⟨z,H3,I3.tok _,rz,hn⟩
theorem Zop(hm:X.mg x=Ya (.ref a))(ht:mG X.K a t)(he:C3 X e g)(he':C3 X e' g')(m:M2 X (.Name x npos) "get" apos e e' cpos:=by exact⟨rfl,rfl,rfl,rfl⟩)(hg:Gl X x:=by rfl)(hd:(x==("__debug__":aj))=false:=by decide):
  C3 X (.Call (.Attribute (.Name x npos) "get" apos) [e,e'] [] cpos) (e2 (u6 t) g g'):=(ZqN hm ht he he' m hg hd).imp λσ H Q ak=>by
 obtain⟨ι,M,env,S,E,h⟩:=ak;obtain⟨d,M1,e1,h⟩:=Zv.bind h;obtain⟨d2,M2,e2,h⟩:=Zv.bind h;refine⟨ι,M,env,S,E,?_⟩;rw[e1];intro y H1 ι1 x1 S1 r1;refine⟨ι1,M1,env,S1,E.mono x1,?_⟩;rw[e2];intro z H2 ι2 x2 S2 r2;have h:=(h.up x1).up x2;cases d with
 | str k=>
  cases r1.str_inv
  refine .str k rfl (λi ei=>?_) λen=>?_
  .have h:Zv X.K H2 ι2 Q (match cN k t with|some i=>.ok (.int i) M2|none=>.ok d2 M2):=h
   rw[ei]at h;exact Zv.ok h S2 Rep.int
  .have h:Zv X.K H2 ι2 Q (match cN k t with|some i=>.ok (.int i) M2|none=>.ok d2 M2):=h
   rw[en]at h;exact Zv.ok h S2 r2
 |int i=>
  cases r1.int_inv
  exact .int i rfl (Zv.ok h S2 r2)
 |_=>exact h.elim
end
section
variable {X:Cx} {pos:aP}
theorem Zs5{x:aj}{a:Yt}{ds:List (List Nat)}(hm:X.mg x=Ya (.ref a))(ht:Dh X.K (ds.map λy=>(⟨y.toArray⟩:aj)) (.ref a)=true)(hg:Gl X x:=by rfl)(hd:(x==("__debug__":aj))=false:=by decide):C3 X (.Name x pos) (eC (.tup (ds.map D.str))):=by obtain⟨b,eb,sq⟩:=ZoF ht;cases eb;exact u_ (v:=.ref a) hm rfl (λH ι=>Rep.tup (sq H) (Zmo ds)) hg hd
end
noncomputable section
theorem ZpG(is:List Int):mj (is.map D.int)=Ya is:=by
 induction is with
 |nil=>rfl|cons i is ih=>show(mj (is.map D.int)).map _=_;rw[ih];rfl
noncomputable def mH(k:Int):List Int->Int
 |[]=>k|a::r=>r.foldl (λm x=>if x>m then x else m) a
noncomputable def zT(k:Int)(ds:List D)(M:Store):R3 D:=match ds with
 |[.ref n]=>CN M[n]? λxs=>zB ((mj xs).map λis=>D.int (mH k is)) λd=>.ok d M|_=>.bad
theorem Vh{k:Int}{n:Nat}{M:Store}{is:List Int}(h:M[n]?=Ya (.lst (is.map D.int))):zT k [.ref n] M= .ok (.int (mH k is)) M:=by show CN M[n]? _=_;rw[h];show zB ((mj (is.map D.int)).map λis=>D.int (mH k is)) _=_;rw[ZpG];rfl
noncomputable def unlike:List (List Nat)->List (List Nat)->List (List Nat)
 |acc,[]=>acc|acc,x::r=>unlike (if acc.contains x then acc else acc++[x]) r
noncomputable def Zpf(ds:List D)(M:Store):R3 D:=match ds with
 |[.ref n]=>CN M[n]? λxs=>zB ((jt xs).map λss=>D.int ((unlike [] ss).length:Int)) λd=>if xs.length<=20 then .ok d M else .bad|_=>.bad
end
noncomputable section
noncomputable def vg(t:kZ)(d:D)(M:Store):R3 D:=match d with
 | .str x=>.ok (.bl (cN x t).isSome) M|_=>.bad
noncomputable def Ih(t:kZ)(d:D)(M:Store):R3 D:=match d with
 | .str x=>.ok (.bl (!(cN x t).isSome)) M|_=>.bad
noncomputable def Dk(t:kZ)(d:D)(M:Store):R3 D:=match d with
 | .str x=>(match cN x t with
  |some i=>.ok (.int i) M|none=>.bad)
 |_=>.bad
end
noncomputable section
end
noncomputable section
end
set_option maxRecDepth 100000
theorem Zn2(a d:Ye):Fw "max" ⟨[a],[("default",d)]⟩=pure ():=by kernel_rfl
theorem Nh:(wH "max" ++wH ".loop":String)= "max.loop":=by decide
variable{E:Ye->Yf->Prop}
theorem ZtV{prog:Y8}{w:aO}{A:bC}{s:Yf}{a b:Int}{t u:eO}(h:Q (.bool (decide (a>b))) s):ao (aq prog w) A (richCompare .Gt (.int a t) (.int b u)) Q E s:=
 CmpOf.ints_gt (P:=λi v=>if i=0 then v= .int a t else v= .int b u) (λi=>if i=0 then a else b) (λi v hv=>by
  by_cases c:i=0
  .rw[if_pos c]at hv ⊢;exact⟨t,hv⟩
  .rw[if_neg c]at hv ⊢;exact⟨u,hv⟩) 0 1 _ _ s Q E rfl rfl h
theorem ZqE{vs:List Ye}{ns:List Int}(h:IntsAre vs ns):vs.length=ns.length:=by
 induction h with
 |nil=>rfl|cons n t _ ih=>rw[Yn,Yn,ih]
section
variable {prog:Y8} {w:aO} {A:bC} {R:pF->Yf->Prop} {I L S:Yt} {vs:List Ye} {ns:List Int} {dv:Ye}
theorem Zti(hh:A.in1.handled=Yk)(hLI:L≠I)(hSI:S≠I)(Dl:S≠L)(hi:IntsAre vs ns):∀(k j:Nat) (m:Int) (s:Yf) (tb:eO) (c:Nat),vs.length-(j+1)=k->j+1<=vs.length->s.heap.IsListIter I L (j+1)->s.heap.IsList L vs.toArray ->
  s.heap.get? S=Ya {cls:=.type "list",dict:=Yk,data:=.seq #[.int m tb,.int m tb] c,slots:=#[]} ->
  (∀h' t tk,(∀b o,b≠I->b≠S->s.heap.get? b=Ya o->h'.get? b=Ya o)->R (.ok (.ret (.int ((ns.drop (j+1)).foldl (λm x=>if x>m then x else m) m) t))) {s with heap:=h',toks:=tk}) ->
  jP (aq prog w) A (.builtin "max.loop" ⟨[.ref I,.none,.ref S],[("default",dv)]⟩) R s:=by
 have W:=K6 (prog:=prog) (w:=w) (A:=A.in1) hh I L hLI vs.toArray;have len:ns.length=vs.length:=(ZqE hi).symm;intro k
 induction k with
 |zero=>
  intro j m s tb c hk hj hst hL hS hR;have hin:vs.toArray.size=j+1:=by rw[Yo];omega
  refine yr RP ?_;rw[Gr yR _];refine Yc (Fz hS rfl ?_);refine Yc (FN (W.done s _ _ (hin▸⟨hst,hL⟩) λh' tk hk'=>?_));have hS':=hk' S _ (by simp[hSI]) hS;refine Yc ?_;refine QF hS' rfl (Yc (J0 (Yp ?_)));have e:ns.drop (j+1)=[]:=Kc (by omega);rw[e]at hR;exact hR _ tb _ λb o h1 h2 q=>(mX _ _ (bV h2)).trans (hk' b o (by simp[h1]) q)
 | succ k ih=>
  intro j m s tb c hk hj hst hL hS hR;have hlt:j+1<vs.length:=by omega
  refine yr RP ?_;rw[Gr yR _];refine Yc (Fz hS rfl ?_);refine Yc (FN (W.item (j+1) s _ _ (by rw[Yo];exact hlt) ⟨hst,hL⟩ λv h' tk hP hst' hk'=>?_));have hS':=hk' S _ (by simp[hSI]) hS;obtain⟨x,t,hx,rfl⟩:∃x t,ns[j+1]?=Ya x/\v= .int x t:=by rw[ZG]at hP;obtain⟨x,t,e,hx⟩:=hi.at (j+1) v hP;exact⟨x,t,hx,e⟩
  have ed:ns.drop (j+1)=x::ns.drop (j+1+1):=by have hl:j+1<ns.length:=(Yd.mp hx).1;rw[yD hl,(Yd.mp hx).2]
  rw[ed,sy]at hR;refine Yc (Yp ?_);refine Yc (FN (gG (Yc (ZtV ?_))));refine Yc (gG (uz ?_));refine Yc (J0 (Yp ?_));by_cases hb:x>m
  .rw[if_pos hb]at hR;rw[decide_eq_true hb];simp only[if_true];refine Yc ?_;refine QF hS' rfl (Yc (J0 ?_));rw[Nh];refine Yp ⟨FP yR _,ih (j+1) x _ t _ (by omega) hlt (hst'.1.at λo e=>(mX _ _ hSI).trans e) (hst'.2.at λo e=>(mX _ _ Dl).trans e) (wu _ hS' rfl) λh'' t' tk' hk''=>?_⟩;exact hR h'' t' tk' λb o h1 h2 q=>hk'' b o h1 h2 ((mX _ _ (bV h2)).trans (hk' b o (by simp[h1]) q))
  .rw[if_neg hb]at hR;rw[decide_eq_false hb];simp only[Gk,if_false];refine Yc (J0 ?_);rw[Nh];refine Yp ⟨FP yR _,ih (j+1) m _ tb c (by omega) hlt hst'.1 hst'.2 hS' λh'' t' tk' hk''=>?_⟩;exact hR h'' t' tk' λb o h1 h2 q=>hk'' b o h1 h2 (hk' b o (by simp[h1]) q)
end
section
variable {prog:Y8} {w:aO} {A:bC} {E:Ye->Yf->Prop} {s:Yf} {L:Yt} {vs:List Ye} {ns:List Int} {k:Int} {td:eO}
theorem ZpI(hh:A.handled=Yk)(hL:s.heap.IsList L vs.toArray)(hi:IntsAre vs ns)(h:∀h' t tk,(∀b o,s.heap.get? b=Ya o->h'.get? b=Ya o)->Q (.int (mH k ns) t) {s with heap:=h',toks:=tk}):ao (aq prog w) A (call (.builtin "max") [.ref L] [("default",.int k td)]) Q E s:=by
 have hh1:A.in1.handled=Yk:=hh;have hlt:L<s.heap.objs.size:=by obtain⟨_,e,_⟩:=hL;exact Y2 e
 refine qD (yh F.plain_max F.entry_max (JZ (Zn2 _ _) ?_));refine Yc (JZ (show Builtin.Builtins.bindParams "max" ["key","default"] 0 ⟨[],[("default",.int k td)]⟩=pure [Yk,Ya (.int k td)]from rfl) ?_);refine Yc (Yp ?_);refine Yc (yo hL ?_);refine Yc (rR ?_);rw[Nh]
 let h1:=s.heap.push {cls:=.type "list_iterator",data:=.fields #[.ref L,.int 0 0]}
 let h2:=h1.push {cls:=.type "list",data:=.seq #[]}
 have e1:h1.objs.size=s.heap.objs.size+1:=wz ..;have up:∀b o,s.heap.get? b=Ya o->h2.get? b=Ya o:=λb o q=>Yh _ (Yh _ q);have hI:h2.IsListIter s.heap.objs.size L 0:=⟨_,Yh _ (Y1 _ rfl),rfl,rfl⟩;have hL2:h2.IsList L vs.toArray:=(hL.push _).push _;have hS:h2.get? h1.objs.size=Ya {cls:=.type "list",dict:=Yk,data:=.seq #[] 0,slots:=#[]}:=Y1 _ rfl;have hLI:L≠s.heap.objs.size:=dG hlt;have ls:s.heap.objs.size<h1.objs.size:=e1▸Gi _;have hSI:h1.objs.size≠s.heap.objs.size:=Bu ls;have Dl:h1.objs.size≠L:=Bu (lR hlt ls);have W:=K6 (prog:=prog) (w:=w) (A:=A.in1) hh1 s.heap.objs.size L hLI vs.toArray;have old:∀{h':aC},(∀b o,b≠s.heap.objs.size->b≠h1.objs.size->h2.get? b=Ya o->h'.get? b=Ya o)->∀b o,s.heap.get? b=Ya o->h'.get? b=Ya o:=λhk b o q=>by exact hk b o (dG (Y2 q)) (dG (lR (Y2 q) ls)) (up b o q)
 refine Yp ⟨FP yR _,yr RP ?_⟩;rw[Gr yR _];refine Yc (Fz hS rfl ?_);cases hi with
 |nil=>refine Yc (FN (W.done _ _ _ ⟨hI,hL2⟩ λh' tk hk=>?_));refine Yc (J1 (Yp ?_));exact h h' td tk (old λb o h1 h2 q=>hk b o (by simp[h1]) q)|cons n t hr=>
  refine Yc (FN (W.item 0 _ _ _ (by simp) ⟨hI,hL2⟩ λv h' tk hP hst hk=>?_));have hS':=hk _ _ (by simp[hSI]) hS;obtain rfl:v= .int n t:=by simpa using hP.symm
  refine Yc (Yp ?_);refine Yc ?_;refine QF hS' rfl ?_;rw[Nh];refine Yp ⟨FP yR _,Zti hh1 hLI hSI Dl (.cons n t hr) _ 0 n _ t _ rfl (by simp) (hst.1.at λo e=>(mX _ _ hSI).trans e) (hst.2.at λo e=>(mX _ _ Dl).trans e) (wu _ hS' rfl) λh'' t' tk' hk''=>?_⟩;exact h h'' t' tk' (old λb o h1 h2 q=>hk'' b o h1 h2 ((mX _ _ (bV h2)).trans (hk b o (by simp[h1]) q)))
end
section
variable {X:Cx} {a:Expr} {p pos kp cp:aP} {f:E3} {k:Int}
def ZxD(K:Yb)(k:Int)(ta:TA):TE:=λσ H Q=>ta σ H λvs H1=>∃b xs ns,vs=[.ref b]/\bK K H1 b xs/\(∀us,Vals xs us->IntsAre us ns)/\Q (.int (mH k ns)) H1
theorem ZlS{M:Model}{A:bC}{s:Yf}{env:cH}{T:String}{e:Expr}{kws:List Keyword}(h:ao M A (FZ (bO pos (Yr [e] env))) (λvs s₁=>ao M A (J5 ((iC pos (iB kws env)).map (·.2)))
   (λkvs s₂=>ao M A (call (.builtin T) vs (((iC pos (iB kws env)).filterMap (·.1)).zip kvs)) Q E s₂) E s₁) E s)(he:bO pos (Yr [e] env)=[(false,aF e env)])(hall:(iC pos (iB kws env)).all (·.1.isSome)=true)(hkw:(iC pos (iB kws env)).any (·.1.isNone)=false):
  ao M A (Bj pos (.builtin T) [] (bO pos (Yr [e] env)) (iC pos (iB kws env))) Q E s:=by
 rw[he]at h ⊢;unfold Bj;refine Yc (gG (eY (Yg9 (Q:=λa s₁=>ao M A (call (.builtin T) a.pos a.kw) Q E s₁) hall h) (λa s₁ h₁=>Yc (uD ?_)) λ_ _ x=>x));simp only[hkw,j9,List.any_nil,Ks];refine Yc (Yp (Yc ?_));exact eY h₁ (λr s₂ hr=>Yc (gG (FQ (Yp hr)))) λ_ _ x=>x
theorem ZtG{ta:TA}{j}(hg:Gl X "max")(hm:X.mg "max" =Yk)(hc:X.calm=true)(ha:PA X [a] ta)(he:bO pos (Yr [a] X.env)=[(false,aF a X.env)]):
  PE X (.Call (.Name "max" p) [a] [⟨Ya "default",.Constant (.int k) j cp,kp⟩] pos) (ZxD X.K k ta):=by
 intro pins s σ H R I h;refine yj (wL I hg hm boot_max (ZlS (aH (ha pos pins s σ H _ I h) λus s1 ak=>?_) he rfl rfl));obtain⟨vs,H1,I1,r1,q1⟩:=ak;refine aH ((ZoQ (nm:=Ya "default") (kpos:=kp) (Sh (j:=j) (pos:=cp) (i:=k)) ZrD) pos pins s1 σ H1 (λzs H'=>zs=[.int k]/\H'=H1) I1 ⟨rfl,rfl⟩) λws s2 Ig=>?_;obtain⟨zs,H2,I2,rz,rfl,rfl⟩:=Ig;obtain⟨b,xs,ns,e,hq,hi,q⟩:=q1;subst e;cases r1 with
 | cons r rr=>
  cases rr
  cases r
  cases rz with
  |cons r' rr=>
   cases rr
   obtain⟨t,rfl⟩:=r';obtain⟨its,rv,pl,hz⟩:=I2.list hq;refine ZpI (td:=t) (I2.ok.hd hc) pl.isList (hi its rv) λh' t' tk hk=>?_;exact⟨.int (mH k ns),H2,I2.kept (t':=tk) hk,⟨t',rfl⟩,q⟩
theorem ZqI{j}(hm:X.mg "max" =Yk)(h:C3 X a f)(hg:Gl X "max":=by rfl)(hc:X.calm=true:=by rfl)(he:bO pos (Yr [a] X.env)=[(false,aF a X.env)]:=by rfl)(hs':Yr (a::[]) X.env=(false,aF a X.env)::Yr [] X.env:=by rfl):
  C3 X (.Call (.Name "max" p) [a] [⟨Ya "default",.Constant (.int k) j cp,kp⟩] pos) (aJ (zT k) (Za f Ze)):=
 (ZtG hg hm hc (Zc h Zf hs') he).imp λσ H Q ak=>by
  obtain⟨ι,M,env,S,E,h⟩:=ak;refine⟨ι,M,env,S,E,?_⟩;have h:Zv X.K H ι Q ((Za f Ze env M).bind λds M'=>zT k ds M'):=h;cases q:Za f Ze env M with
  |exc _ _=>rw[q]at h;exact h.elim|bad=>rw[q]at h;exact h.elim|ok ds M1=>
   rw[q]at h;intro vs H1 ι1 x1 S1 r1;have h:Zv X.K H ι Q (zT k ds M1):=h
   match ds,h,r1 with
   |[],h,_=>exact h.elim|d1::d2::r,h,_=>cases d1<;>exact h.elim|[d],h,r1=>
    cases d with
    |ref n=>obtain⟨xs,hn,h⟩:=Ms h;obtain⟨d,hd,h⟩:=HN h;obtain⟨ns,hns,rfl⟩:=JL.mp hd;obtain⟨v,ws,rfl,rv,Vi⟩:=r1;obtain⟨p,hp,rfl⟩:=rv.dN;obtain⟨us,e1,r2⟩:=S1.obj n _ p hn hp;rw[show ws=[]from Vi];exact⟨p,us,ns,rfl,.inl (.inl e1),λits rr=>ZkA hns r2 rr,Zv.ok (h.up x1) S1 Rep.int⟩|_=>exact h.elim
end
set_option maxRecDepth 100000
noncomputable def nD:List aj->List aj->List aj
 |acc,[]=>acc|acc,x::r=>nD (if acc.any (· ==x)then acc else acc++[x]) r
theorem any_put(acc:List aj)(x k:aj):(if acc.any (· ==x)=true then acc else acc++[x]).any (· ==k)=(acc.any (· ==k)|| decide (k=x)):=by
 by_cases c:acc.any (· ==x)=true
 .rw[if_pos c];by_cases e:k=x
  .rw[e,c];rfl
  .rw[decide_eq_false e,Ks]
 .rw[if_neg c,List.any_append];congr 1;by_cases e:k=x
  .subst e;simp
  .rw[decide_eq_false e];simp[bV e]
section
variable {prog:Y8} {w:aO} {A:bC} {R:pF->Yf->Prop} {I L S:Yt} {l:List (aj×eO)}
theorem Zua(hh:A.in1.handled=Yk)(hLI:L≠I)(hSI:S≠I)(Dl:S≠L)(hb:l.length<=20):∀(k i:Nat) (acc:List aj) (s:Yf),l.length-i=k->i<=l.length->acc.length<=i->s.heap.IsListIter I L i->s.heap.IsList L (lH l).toArray->s.heap.SetOf (strKind prog w) S (λk=>acc.any (· ==k)) acc.length ->
  (∀h' tk,(∀b o,b≠I->b≠S->s.heap.get? b=Ya o->h'.get? b=Ya o)->h'.SetOf (strKind prog w) S (λk=>(nD acc ((l.drop i).map (·.1))).any (· ==k)) (nD acc ((l.drop i).map (·.1))).length->R (.ok (.ret .none)) {s with heap:=h',toks:=tk}) ->
  jP (aq prog w) A (.builtin "set.update.loop" ⟨[.ref S,.ref I],[]⟩) R s:=by
 have W:=K6 (prog:=prog) (w:=w) (A:=A.in1) hh I L hLI (lH l).toArray;have sz:(lH l).toArray.size=l.length:=by simp[lH]
 intro k
 induction k with
 |zero=>
  intro i acc s hk hi ha hst hL hS hR;have hin:(lH l).toArray.size=i:=by omega
  refine yr Yex ?_;rw[Gr Rx _];refine Yc (W.done s _ _ (hin▸⟨hst,hL⟩) λh' tk hk'=>?_);have e:l.drop i=[]:=Kc (by omega);rw[e]at hR;obtain⟨o,es,ep,t,ho,rest⟩:=hS;exact Yp (hR h' tk (λb o h1 _ q=>hk' b o (by simp[h1]) q) ⟨o,es,ep,t,hk' S _ (by simp[hSI]) ho,rest⟩)
 | succ k ih=>
  intro i acc s hk hi ha hst hL hS hR;have hlt:i<l.length:=by omega
  refine yr Yex ?_;rw[Gr Rx _];refine Yc (W.item i s _ _ (by omega) ⟨hst,hL⟩ λv h' tk hP hst' hk'=>?_);have hv:v= .str (l[i]'hlt).1 (l[i]'hlt).2:=by rw[ZG]at hP;simp only[lH,lM,j7 hlt,Qi]at hP;exact(eZ hP).symm
  have ed:l.drop i=l[i]'hlt::l.drop (i+1):=yD hlt;rw[ed,Yw]at hR;generalize l[i]'hlt=q at hv hR;obtain⟨x,t⟩:=q;subst hv;have hS':h'.SetOf (strKind prog w) S (λk=>acc.any (· ==k)) acc.length:=by obtain⟨o,es,ep,tb,ho,rest⟩:=hS;exact⟨o,es,ep,tb,hk' S _ (by simp[hSI]) ho,rest⟩
  have hx:(strKind prog w).is x (.str x t)=true:=beq_self_eq_true x;have room:acc.length+1<Q5:=by have:Q5=4096:=rfl;omega
  refine Yc (gG ?_);unfold setAdd;refine gG ?_;refine Yc ((strKind prog w).pyHash (k:=x) hx ?_);refine wpAny_setAddHashed_of (knd:=strKind prog w) hx rfl hS' room λh'' sb hS2=>?_;refine Yp ⟨FP Rx _,ih (i+1) (if acc.any (· ==x)=true then acc else acc++[x]) _ (by omega) hlt ?_ (hst'.1.at λo e=>(sb.2 I (bV hSI)).trans e) (hst'.2.at λo e=>(sb.2 L (bV Dl)).trans e) ?_ λh3 tk3 hk3 hS3=>?_⟩
  .by_cases c:acc.any (· ==x)=true
   .rw[if_pos c];omega
   .rw[if_neg c,Yj,Y0];omega
  .refine SetOf_congr hS2 (λk=>(any_put acc x k).symm) ?_;by_cases c:acc.any (· ==x)=true
   .rw[if_pos c,if_pos c]
   .rw[if_neg c,if_neg c,Yj,Y0]
  .exact hR h3 tk3 (λb o h1 h2 q=>hk3 b o h1 h2 ((sb.2 b h2).trans (hk' b o (by simp[h1]) q))) hS3
end
noncomputable abbrev qY(led:Bool):aD:={cls:=.type "set",dict:=Yk,data:=.set #[] 0 (.fresh 0 0 led)}
section
variable {prog:Y8} {w:aO} {A:bC} {E:Ye->Yf->Prop} {s:Yf} {L:Yt} {l:List (aj×eO)}
theorem ZpK(hh:A.handled=Yk)(hl:s.heap.IsList L (lH l).toArray)(hb:l.length<=20)(led:Bool){R:pF->Yf->Prop}(h:∀h' tk,h'.SetOf (strKind prog w) s.heap.objs.size (λk=>(nD [] (l.map (·.1))).any (· ==k)) (nD [] (l.map (·.1))).length->(∀b o,s.heap.get? b=Ya o->h'.get? b=Ya o)->R (.ok (.ret .none)) {s with heap:=h',toks:=tk}):
  ao (aq prog w) A.in1 (Builtin.«set.__init__» ⟨[.ref s.heap.objs.size,.ref L],[]⟩) (λfin s'=>match fin with| .done f=>R (.ok f) s'| .again c'=>c'.quiet=true/\jP (aq prog w) A c' R s') (λe s'=>R (.error e) s') {s with heap:=s.heap.push (qY led)}:=by
 have hS:(s.heap.push (qY led)).get? s.heap.objs.size=Ya (qY led):=Y1 _ rfl;obtain⟨ol,hol,hcl,nl,hdl⟩:=hl;obtain⟨ocls,odict,odata,oslots⟩:=ol;simp only at hcl hdl;subst hcl hdl;have hol':(s.heap.push (qY led)).get? L=Ya {cls:=.type "list",dict:=odict,data:=.seq (lH l).toArray nl,slots:=oslots}:=Yh _ hol;have f1:=PySem.F.sub_list_set;have f2:=PySem.F.sub_list_frozenset;have f3:(Value.type "list" ==Value.type "dict")=false:=by decide
 have hl1:(s.heap.push (qY led)).IsList L (lH l).toArray:=⟨_,hol',rfl,nl,rfl⟩;have hlS:L<s.heap.objs.size:=Y2 hol;have e1:(s.heap.push (qY led)).objs.size=s.heap.objs.size+1:=wz ..;have ls:s.heap.objs.size<(s.heap.push (qY led)).objs.size:=e1▸Gi _;unfold Builtin.«set.__init__» noKeywords Builtin.Frozenset.updateFrom;generalize hPI:Bp=PI
 wp_walk
 subst hPI;refine yo hl1 ?_;refine Yc (wpAny_runValue ?_);refine Zua (by simp[hh]) (dG (lR hlS ls)) (dG ls) (Bu hlS) hb _ 0 [] _ rfl (fL _) (Yq _) ⟨_,Y1 _ rfl,rfl,rfl⟩ (hl1.push _) ?_ λh' tk hk hS'=>?_
 .exact SetOf_congr ((setObjOf_fresh (knd:=strKind prog w) led).setOf (Yh _ hS) (by unfold Q5;omega)) (λ_=>rfl) rfl
 .refine Yp ?_;refine Yp (h h' tk hS' λb o q=>?_);have lb:=Y2 q;exact hk b o (dG (lR lb ls)) (dG lb) (Yh _ (Yh _ q))
end
set_option maxHeartbeats 1600000 in
theorem Zp1{prog:Y8}{w:aO}{A:bC}{s:Yf}{L:Yt}{l:List (aj×eO)}(hh:A.handled=Yk)(hl:s.heap.IsList L (lH l).toArray)(hb:l.length<=20)(h:∀h' tk,h'.SetOf (strKind prog w) s.heap.objs.size (λk=>(nD [] (l.map (·.1))).any (· ==k)) (nD [] (l.map (·.1))).length->(∀b o,s.heap.get? b=Ya o->h'.get? b=Ya o)->Q (.ref s.heap.objs.size) {s with heap:=h',toks:=tk}):
  ao (aq prog w) A (call (.type "set") [.ref L]) Q E s:=by
 obtain⟨c,tl,hmro⟩:=PySem.F.called_set.mro;have g1:=PySem.F.called_set.made;have g2:=PySem.F.called_set.sub;have g3:=PySem.F.called_set.notType;have g4:=PySem.F.called_set.canCreate;have g5:=PySem.F.typeCall_set_1 (.ref L);refine qD (QD (Yp ⟨K5 _ (by decide +kernel),yr PySem.F.entry_type_call ?_⟩));rw[Yku (X5 "set" [.ref L] []) rfl]
 repeat(any_goals(first|assumption|wp_step))
 refine qz (code_set_new_1 (.ref L) (E:=E) (Q₁:=λo s1=>∃led,o= .ref s.heap.objs.size/\s1={s with heap:=s.heap.push (qY led)}) λled=>⟨led,rfl,rfl⟩) λr s1 hr=>?_;cases r with
 |error e=>exact hr|ok fl=>cases fl with
  | ret o=>
   obtain⟨led,rfl,rfl⟩:=hr;have hS:(s.heap.push (qY led)).get? s.heap.objs.size=Ya (qY led):=Y1 _ rfl;have hT:Shared.TypeIs {s with heap:=s.heap.push (qY led)} (.ref s.heap.objs.size) "set":=⟨_,hS,rfl⟩;have k1:=PySem.F.called_set.init.lookup;have k2:=PySem.F.called_set.init.bind (.ref s.heap.objs.size)
   repeat(any_goals(first|assumption|wp_step))
   refine qz (yh (R:=wants (λr s2=>r= .none/\∃h' tk,s2={s with heap:=h',toks:=tk}/\h'.SetOf (strKind prog w) s.heap.objs.size (λk=>(nD [] (l.map (·.1))).any (· ==k)) (nD [] (l.map (·.1))).length/\∀b o,s.heap.get? b=Ya o->h'.get? b=Ya o) E) PySem.F.called_set.init.plain PySem.F.entry_set_init (check_set_init_1 hT ?_)) λr2 s2 hr2=>?_
   .exact ZpK (by simp[hh]) hl hb led λh' tk a b=>⟨rfl,h',tk,rfl,a,b⟩
   .cases r2 with
    |error e=>exact hr2|ok f2=>cases f2 with
     |ret r=>
      obtain⟨rfl,h',tk,rfl,a,b⟩:=hr2
      repeat(any_goals(first|assumption|wp_step))
      exact h _ _ a b
     |_=>exact hr2.elim
  |_=>exact hr.elim
noncomputable def Ni(X:Cx)(p:Yt)(n:Nat):HO:=.ext λh=>∃S,h.SetOf (strKind X.prog X.w) p S n
section
variable {X:Cx} {a:Expr} {p p2 q pos:aP} {f:E3}
theorem Zkb:∀{x:List D} {ts:List (List Nat)},jt x=Ya ts->ts.length=x.length
 |[],ts,h=>by cases h;rfl|.str y::x,ts,h=>by have h:(jt x).map (y:: ·)=Ya ts:=h;obtain⟨r,hr,rfl⟩:=JL.mp h;rw[Yn,Yn,Zkb hr]
 | .non::_,_,h=>nomatch h|.bl _::_,_,h=>nomatch h|.int _::_,_,h=>nomatch h|.tup _::_,_,h=>nomatch h
 | .bM _::_,_,h=>nomatch h|.ref _::_,_,h=>nomatch h
theorem ZpJ(hc:X.calm=true):L2.cT X (.type "set") (λxs H Q=>∃b ys sts,xs=[.ref b]/\bK X.K H b ys/\(∀us,Vals ys us->∃l:List (aj×eO),us=lH l/\l.map (·.1)=sts)/\sts.length<=20/\∀p,H p=Yk->Q (.ref p) (upd H p (Ni X p (nD [] sts).length))):=by
 intro pins s σ H xs us Q I r h;obtain⟨b,ys,sts,rfl,hq,hi,hl,q⟩:=h;obtain⟨u,rfl,ru⟩:=vals1 r;cases ru;obtain⟨its,rv,pl,hz⟩:=I.list hq;obtain⟨l,rfl,rfl⟩:=hi its rv;rw[Ys]at hl;refine Zp1 (I.ok.hd hc) pl.isList hl λh' tk hS hk=>?_;refine⟨.ref s.heap.objs.size,_,I.laid (t':=tk) (o:=Ni X s.heap.objs.size (nD [] (l.map (·.1))).length) hk (Yq _) ⟨⟨_,hS⟩,?_,?_⟩,rfl,q _ (I.hok.fresh (Yq _))⟩
 .obtain⟨o,_,_,_,ho,_⟩:=hS;exact⟨o,ho⟩
 .intro _ _ z kk;obtain⟨S,o,es,ep,t,ho,rest⟩:=z;exact⟨S,o,es,ep,t,kk o ho,rest⟩
theorem Zp8:L2.cT X (.builtin "len") (λxs H Q=>∃p n,xs=[.ref p]/\H p=Ya (Ni X p n)/\n<=20/\Q (.int (n:Int)) H):=by intro pins s σ H xs us Q I r h;obtain⟨p,n,rfl,hp,hn,q⟩:=h;obtain⟨u,rfl,ru⟩:=vals1 r;cases ru;obtain⟨⟨S,o,es,ep,t,ho,hex,hd,_,_,_,hf,hsz⟩,_⟩:=I.hok p _ hp;subst hsz;refine call_len_set ho hex hd hf (by omega) ?_;exact⟨.int (es.size:Int),H,(I.tok _).tok _,⟨_,rfl⟩,q⟩
theorem Vj:∀(xs acc:List (List Nat)),(nD (acc.map λt=>(⟨t.toArray⟩:aj)) (xs.map λt=>(⟨t.toArray⟩:aj))).length=(unlike acc xs).length
 |[],acc=>Ys ..|x ::r,acc=>by
  have e:(acc.map λt=>(⟨t.toArray⟩:aj)).any (· ==(⟨x.toArray⟩:aj))=acc.contains x:=by
   induction acc with
   |nil=>rfl|cons y acc ih=>
    rw[Yw,j9,Q8,ih];congr 1;by_cases c:y=x
    .subst c;simp
    .have:(⟨y.toArray⟩:aj)≠⟨x.toArray⟩:=λz=>c (by injection z with z;simpa using congrArg BJ z)
     rw[beq_eq_false_iff_ne.mpr this,beq_eq_false_iff_ne.mpr (bV c)]
  show(nD (if(acc.map λt=>(⟨t.toArray⟩:aj)).any (· ==(⟨x.toArray⟩:aj))then _ else _) _).length=(unlike (if acc.contains x then acc else acc++[x]) r).length;rw[e];by_cases c:acc.contains x=true
  .rw[if_pos c,if_pos c];exact Vj r acc
  .rw[if_neg c,if_neg c];have:=Vj r (acc++[x]);rw[oA]at this;exact this
theorem ZiW:∀(xs acc:List (List Nat)),(unlike acc xs).length<=acc.length+xs.length
 |[],acc=>lQ _ _|x::r,acc=>by
  show(unlike (if acc.contains x then acc else acc++[x]) r).length<=_;have h:=ZiW r (if acc.contains x then acc else acc++[x]);have k:(if acc.contains x then acc else acc++[x]).length<=acc.length+1:=by
   by_cases c:acc.contains x=true
   .rw[if_pos c];omega
   .rw[if_neg c,Yj,Y0];exact Yq _
  rw[Yn];omega
theorem Zqu(hm:X.mg "len" =Yk)(hm2:X.mg "set" =Yk)(h:C3 X a f)(hc:X.calm=true:=by rfl)(hg:Gl X "len":=by rfl)(hg2:Gl X "set":=by rfl)(hs:Yr [a] X.env=(false,aF a X.env)::Yr [] X.env:=by rfl)(hs2:Yr [.Call (.Name "set" p2) [a] [] q] X.env=(false,aF (.Call (.Name "set" p2) [a] [] q) X.env)::Yr [] X.env:=by rfl)(h1:(bO q (Yr [] X.env)).any (·.1)=false:=by rfl)(h2:(bO pos (Yr [] X.env)).any (·.1)=false:=by rfl):
  C3 X (.Call (.Name "len" p) [.Call (.Name "set" p2) [a] [] q] [] pos) (aJ Zpf (Za f Ze)):=
 (Li (r:=λxs H Q=>∃p n,xs=[.ref p]/\H p=Ya (Ni X p n)/\n<=20/\Q (.int (n:Int)) H) Zp8 hg hm gA (pM (ZkB (ZpJ hc) hg2 hm2 (by decide +kernel) (Zc h Zf hs) (by decide) (by decide) hs h1) y_ hs2) (by decide) (by decide) hs2 h2).imp λσ H Q ak=>by
  obtain⟨ι,M,env,S,E,h⟩:=ak;obtain⟨ds,M1,e1,h⟩:=Zv.bind h;refine⟨ι,M,env,S,E,?_⟩;rw[e1];intro vs H1 ι1 x1 S1 r1
  match ds,h,r1 with
  |[],h,_=>exact h.elim|d1::d2::r,h,_=>cases d1<;>exact h.elim|[d],h,r1=>
   cases d with
   |ref n=>
    obtain⟨xs,hn,h⟩:=Ms h;obtain⟨d,hd,h⟩:=HN h;obtain⟨hl,h⟩:=xF h;obtain⟨ts,hts,rfl⟩:=JL.mp hd;obtain⟨v,ws,rfl,rv,Vi⟩:=r1;obtain⟨p,hp,rfl⟩:=rv.dN;obtain⟨us,e2,r2⟩:=S1.obj n _ p hn hp;rw[show ws=[]from Vi];have tl:ts.length<=20:=by rw[Zkb hts];exact hl
    refine⟨p,us,ts.map λt=>(⟨t.toArray⟩:aj),rfl,.inl (.inl e2),λits rr=>U4 hts r2 rr,by rw[Ys];exact tl,λz hz=>?_⟩;have e3:(nD [] (ts.map λt=>(⟨t.toArray⟩:aj))).length=(unlike [] ts).length:=Vj ts [];have l3:(unlike [] ts).length<=20:=Yi (ZiW ts []) (by rw[Ge,wB];exact tl);refine⟨z,_,rfl,fV,by rw[e3];exact l3,?_⟩;rw[e3];exact h _ _ ι1 (x1.trans (Loose.ext (.inl hz))) (S1.other (.inl hz) (S1.fresh hz)) Rep.int
   |_=>exact h.elim
end
section
variable {prog:Y8} {w:aO} {A:bC} {E:Ye->Yf->Prop} {s:Yf} {a:Yt} {tk:eO}
theorem Zpe{R:δ->Ye->Prop}{T:List (aj×δ)}{k:aj}{Q:Bool->Yf->Prop}(h:qI R s.heap a T)(q:Q (oG k T).isSome {s with toks:=s.toks+1}):ao (aq prog w) A (J2 (.ref a) (.str k tk)) Q E s:=by
 unfold J2
 try with_reducible refine gG ?_
 refine Yc (YM (tU h) PySem.F.slot_dict_contains.lookup ?_);show ao _ _ (if(Ya (Value.builtin "dict.__contains__")==Ya Value.none)=true then _ else _) _ E s;rw[if_neg (by rw[beq_builtin_none];exact j_)];refine Yc (wpAny_callSpecialUnlessNone?_slot (name:=mY "__contains__") (tU h) Ygs
  (vU Ygs (tU h) PySem.F.entry_dict_contains ?_ (args_dict_contains _ _)))
 show ao _ _ (vY a (.str k tk)>>=_) _ _ s;refine Yc (Vf h (λd v e _=>?_) λe=>?_)
 .rw[e]at q;show ao _ _ (ret (.bool true)) _ _ _;exact Yp ⟨_,rfl,uz q⟩
 .rw[e]at q;show ao _ _ (Builtin.Dict.pendingKey? a (.str k tk)>>=_) _ _ _;exact Yc (wpAny_pendingKey_other h.1 (Yp ⟨_,rfl,uz q⟩))
theorem Zqh{R:δ->Ye->Prop}{T:List (aj×δ)}{k:aj}{d:δ}(h:qI R s.heap a T)(e:oG k T=Ya d)(h1:∀v,R d v->Q v {s with toks:=s.toks+1}):ao (aq prog w) A (qF (.ref a) (.str k tk)) Q E s:=by
 unfold qF
 try with_reducible refine gG ?_
 refine Yc (QB (tU h) (by decide) ?_);refine Yc (yg (name:=mY "__getitem__") (tU h) Yha
  (vU Yha (tU h) PySem.F.entry_dict_getitem ?_ (PySem.F.args_dict_getitem_2 _ _)))
 show ao _ _ (vY a (.str k tk)>>=λo=>_) _ _ s;refine Yc (Vf h (λd' v e' r=>?_) λe'=>by rw[e]at e';cases e');rw[e]at e';cases e';exact Yp ⟨v,rfl,Yp (h1 v r)⟩
end
section
variable {X:Cx} {e:Expr} {x:aj} {a:Yt} {t:kZ} {npos pos:aP} {g:E3}
def Vk(t:kZ)(a:Yt)(p:Bool->Bool):R2:=λx y H Q=>y= .ref a/\∃k,x= .str ⟨k.toArray⟩/\Q (.bl (p (cN k t).isSome)) H
theorem ZoT(ht:mG X.K a t):a_ X (gP .In) (Vk t a λb=>b):=by intro pins s σ H x y v u Q I rx ry h;obtain⟨rfl,k,rfl,q⟩:=h;obtain⟨tk,rfl⟩:=rx;obtain rfl:u= .ref a:=ry;show ao _ _ ((do return Value.bool (←J2 (.ref a) (.str ⟨k.toArray⟩ tk))):lK Ye) _ _ _;refine Yc (Zpe (ht.at I.bW) (Yp ⟨.bl (oG (⟨k.toArray⟩:aj) (Di t)).isSome,H,I.tok _,rfl,?_⟩));rw[Dj];exact q
theorem Znf(ht:mG X.K a t):a_ X (gP .NotIn) (Vk t a λb=>!b):=by intro pins s σ H x y v u Q I rx ry h;obtain⟨rfl,k,rfl,q⟩:=h;obtain⟨tk,rfl⟩:=rx;obtain rfl:u= .ref a:=ry;show ao _ _ ((do return Value.bool (!(←J2 (.ref a) (.str ⟨k.toArray⟩ tk)))):lK Ye) _ _ _;refine Yc (Zpe (ht.at I.bW) (Yp ⟨.bl (!(oG (⟨k.toArray⟩:aj) (Di t)).isSome),H,I.tok _,rfl,?_⟩));rw[Dj];exact q
theorem Vl{p:Bool->Bool}{q:D->Store->R3 D}(hq:∀d M,q d M=(match d with| .str k=>.ok (.bl (p (cN k t).isSome)) M|_=>.bad))(σ:St)(H:Hp)(Q:VK)(h:mC X.K (e1 q g) σ H Q):BZ (Vk t a p) (mC X.K g) (tC (.ref a)) σ H Q:=by
 obtain⟨ι,M,env,S,E,h⟩:=h;obtain⟨d,M1,e1,h⟩:=Zv.bind h;refine⟨ι,M,env,S,E,?_⟩;rw[e1];intro y H1 ι1 x1 S1 r1;rw[hq]at h;cases d with
 |str k=>
  cases r1.str_inv
  exact⟨rfl,k,rfl,h _ H1 ι1 x1 S1 Rep.bl⟩
 |_=>exact h.elim
section
variable (hm:X.mg x=Ya (.ref a)) (ht:mG X.K a t) (he:C3 X e g)
include hm ht he
theorem Zul(hg:Gl X x:=by rfl)(hd:(x==("__debug__":aj))=false:=by decide)(hb:yt .In (.Name x npos)=false:=by rfl):C3 X (.Compare e [.In] [.Name x npos] pos) (e1 (vg t) g):=(ZoZ (ZoT ht) he (BW (v:=.ref a) hg hm rfl hd) hb).imp (Vl λd _=>by cases d<;>rfl)
theorem Zsm(hg:Gl X x:=by rfl)(hd:(x==("__debug__":aj))=false:=by decide)(hb:yt .In (.Name x npos)=false:=by rfl):CT X (.Compare e [.In] [.Name x npos] pos) (e1 (vg t) g):=(Td (ZoT ht) he (BW (v:=.ref a) hg hm rfl hd) hb).imp λσ H Q ak=>by obtain⟨ι,M,env,S,E,h⟩:=ak;exact Vl (λd _=>by cases d<;>rfl) σ H _ ⟨ι,M,env,S,E,Mj h⟩
theorem Zl7(hg:Gl X x:=by rfl)(hd:(x==("__debug__":aj))=false:=by decide)(hb:yt .NotIn (.Name x npos)=false:=by rfl):CT X (.Compare e [.NotIn] [.Name x npos] pos) (e1 (Ih t) g):=(Td (Znf ht) he (BW (v:=.ref a) hg hm rfl hd) hb).imp λσ H Q ak=>by obtain⟨ι,M,env,S,E,h⟩:=ak;exact Vl (λd _=>by cases d<;>rfl) σ H _ ⟨ι,M,env,S,E,Mj h⟩
end
theorem Zsy{te:TE}(hm:X.mg x=Ya (.ref a))(ht:mG X.K a t)(he:PE X e te)(hs:Lx e)(hg:Gl X x)(hd:(x==("__debug__":aj))=false):
  PE X (.Subscript (.Name x npos) e pos) (λσ H Q=>te σ H λy H1=>∃k i,y= .str ⟨k.toArray⟩/\cN k t=Ya i/\Q (.int i) H1):=by
 intro pins s σ H Q I h;refine Zuh PySem.F.slot_dict_getitem.lookup hs (aH (BW (v:=.ref a) (u:=.ref a) hg hm rfl hd pins s σ H (λv H'=>v= .ref a/\H'=H) I ⟨rfl,rfl⟩) λu s1 ak=>?_);obtain⟨v,H1,I1,r1,rfl,rfl⟩:=ak;obtain rfl:u=Value.ref a:=r1;refine aH (he pins s1 σ H1 _ I1 h) λiv s2 Ig=>?_;obtain⟨y,H2,I2,ry,k,i,rfl,et,q⟩:=Ig;obtain⟨tk,rfl⟩:=ry;have T2:=ht.at I2.bW;refine⟨tU T2,Zqh T2 (d:=i) (by rw[Dj,et]) λv rv=>?_⟩;obtain⟨t',rfl⟩:=rv;exact⟨.int i,H2,I2.tok _,⟨t',rfl⟩,q⟩
theorem Ztt(hm:X.mg x=Ya (.ref a))(ht:mG X.K a t)(he:C3 X e g)(hs:Lx e:=by exactλ_ _=>rfl)(hg:Gl X x:=by rfl)(hd:(x==("__debug__":aj))=false:=by decide):
  C3 X (.Subscript (.Name x npos) e pos) (e1 (Dk t) g):=(Zsy hm ht he hs hg hd).imp λσ H Q ak=>by
 obtain⟨ι,M,env,S,E,h⟩:=ak;obtain⟨d,M1,e1,h⟩:=Zv.bind h;refine⟨ι,M,env,S,E,?_⟩;rw[e1];intro y H1 ι1 x1 S1 r1;cases d with
 | str k=>
  cases r1.str_inv
  cases et:cN k t with
  |none=>have h:Zv X.K H ι Q (match cN k t with|some i=>.ok (.int i) M1|none=>.bad):=h;rw[et]at h;exact h.elim
  |some i=>have h:Zv X.K H ι Q (match cN k t with|some i=>.ok (.int i) M1|none=>.bad):=h;rw[et]at h;exact⟨k,i,rfl,et,h _ H1 ι1 x1 S1 Rep.int⟩
 |_=>exact h.elim
end
end L3
namespace PySem.W
open PySem PySem.Spec PySem.Calls PyProof.Rows Builtin Builtin.ObjectAttr
section
variable {prog:Y8} {w:aO} {K:Frag} {x D:Yt} {name:aj} {v:Ye}
theorem Zyp{A:bC}{R:pF->Yf->Prop}{s:Yf}{tk:eO}(hb:mroIn K D (.type "BaseException")=Ya true)(X:K.In s.heap)(p:zR x D s.heap)(L3:Looks (aq prog w) s.heap (find (.ref x) (.ref D) name) (.value v))(hq:R (.ok (.ret v)) s):jP (aq prog w) A (.call (.builtin "BaseException.__getattribute__") ⟨[.ref x,.str name tk],[]⟩) R s:=by
 obtain⟨hh,gg,dd,tt,oo⟩:=s;have L0:=p.ty (aq prog w);have L1:=looks_mroIn (M:=aq prog w) X hb;have hk:builtinKind "BaseException.__getattribute__" =Ya .slot:=by decide +kernel
 have hs:splitId "BaseException.__getattribute__" =Ya ("BaseException","__getattribute__"):=by decide +kernel
 have hz:=F.args_bexc_ga (.ref x) (.str name tk);refine yh F.excAttr_ValueError.ga.plain F.entry_bexc_ga ?_;simp only[Fw,hk,hs];refine Yc ?_;unfold QZ
 repeat lk
 exact hq
theorem Acs{A:bC}{E:Ye->Yf->Prop}{s:Yf}{Q:Ye->Yf->Prop}{b:Bool}(hg:findIn K (.ref D) "__getattribute__" =Ya (Ya (.builtin "BaseException.__getattribute__")))(hg2:findIn K (.ref D) "__getattr__" =Ya Yk)(hb:mroIn K D (.type "BaseException")=Ya true)(X:K.In s.heap)(p:zR x D s.heap)(L:Looks (aq prog w) s.heap (find (.ref x) (.ref D) name) (.value v))(hv:handedIn v=true)(hq:Q v {s with toks:=s.toks+1}):ao (aq prog w) A (F_ (.ref x) name b) Q E s:=by obtain⟨hh,gg,dd,tt,oo⟩:=s;have L0:=p.ty (aq prog w);have L1:=looks_findIn (M:=aq prog w) X hg;have L2:=looks_findIn (M:=aq prog w) X hg2;have f3:=F.excAttr_ValueError.ga.bind (.ref x);unfold F_ getAttrBy;refine Yc (wpAny_mkText (gG (Yc (L0.at (Yc (L1.at ?_))))));show ao _ _ (YT _ _ _ _ _ _) _ _ _;unfold YT hookBefore callGetattribute;refine Yc (L2.at (Yc (QK (gG ?_))));rw[show(b&&onTheHeap (.builtin "BaseException.__getattribute__"))=false from by cases b<;>rfl,if_neg (by decide)];show ao _ _ (boundAndCalled _ _ _) _ _ _;unfold boundAndCalled;rw[f3];refine Yc (Yp ?_);refine qD (Zyp hb X p L ?_);exact handed_on hv hq
theorem Acb{M:Model}{h:aC}{o:aD}{vs:Array Ye}{dx:Yt}{m:aj->Option Ye}{cd:ClassData}(X:K.In h)(hx:h.get? x=Ya o)(hc:o.cls= .ref D)(hd:o.data= .fields vs)(hdx:o.dict=Ya dx)(hn:h.Ns1 dx m)(hm:m name=Ya v)(cl:clsIn K D=Ya cd)(hh:cd.hasDict=true)(hf:findIn K (.ref D) name=Ya Yk):Looks M h (find (.ref x) (.ref D) name) (.value v):=by
 refine(looks_findIn (M:=M) X hf).andThen ((show Looks M h (getOf Yk) Yk from .now).andThen ((show Looks M h (dataDescriptor? Yk Yk) Yk from .now).andThen ?_));have L:=looks_clsIn (M:=M) X cl;have own:Looks M h (inOwnDict name (.ref x)) (Ya v):=by intro A Q E s k q;obtain⟨o2,es,ep,e1,e2,e3,e4,e5⟩:=hn;refine Yc (Yc (QG (k _ _ hx) ?_));rw[hd];unfold instanceDict;refine Yc (QG (k _ _ hx) ?_);rw[hc];refine Yc (L A _ E s k ?_);rw[hh,hdx];refine Yp (a:=Ya dx) ?_;refine wpAny_nsGet ⟨o2,es,ep,k _ _ e1,e2,e3,λ_=>rfl⟩ ?_;rw[e5 name,hm];exact q
 exact own.andThen (Looks.tag .now)
end
end PySem.W
namespace PySem.W
open PySem PySem.Spec PySem.Calls PyProof.Rows Builtin Builtin.ObjectAttr
section
variable {prog:Y8} {w:aO} {K:Frag} {x D CL:Yt} {name:aj} {v:Ye} {cd:ClassData}
noncomputable abbrev qZ:List Ye:=[.type "ValueError",.type "Exception",.type "BaseException",.type "object"]
theorem Zv0{M:Model}{A:bC}{E:Ye->Yf->Prop}{Q:Unit->Yf->Prop}{s:Yf}{a b:Ye}(X:K.In s.heap)(p:zR x D s.heap)(ho:mroIn K D (.type "object")=Ya true)(hq:Q () s):
  ao M A (Fw "object.__setattr__" ⟨[.ref x,a,b],[]⟩) Q E s:=by
 obtain⟨h,g,d,t,os⟩:=s;have L0:=p.ty M;have L3:=looks_mroIn (M:=M) X ho;have hz:=F.store_ValueError.args (.ref x) a b;simp only[Fw,F.store_ValueError.kind,F.store_ValueError.split];refine Yc ?_;unfold QZ
 repeat lk
 exact hq
theorem ZyJ{A:bC}{R:pF->Yf->Prop}{s:Yf}{tk:eO}{o:aD}{vs:Array Ye}(X:K.In s.heap)(hx:s.heap.get? x=Ya o)(hc:o.cls= .ref D)(hd:o.data= .fields vs)(hdn:o.dict=Yk)(cl:clsIn K D=Ya cd)(hh:cd.hasDict=true)(hm:cd.mro= .ref D:: .ref CL::qZ)(hf:findIn K (.ref D) name=Ya Yk)(ho:mroIn K D (.type "object")=Ya true)(hq:∀h' tk',h'.get? x=Ya {o with dict:=Ya s.heap.objs.size}->h'.Ns1 s.heap.objs.size (λy=>if y=name then Ya v else Yk)->(∀b ob,b≠x->s.heap.get? b=Ya ob->h'.get? b=Ya ob)->R (.ok (.ret .none)) {s with heap:=h',toks:=tk'}):
  jP (aq prog w) A (.call (.builtin "object.__setattr__") ⟨[.ref x,.str name tk,v],[]⟩) R s:=by
 have p:zR x D s.heap:=⟨o,hx,hc⟩;refine yh F.store_ValueError.slot.plain F.store_ValueError.entry (Zv0 X p ho ?_);obtain⟨h,g,d,t,os⟩:=s;have L0:=p.ty (aq prog w);have L2:=looks_findIn (M:=aq prog w) X hf;have L5:=looks_clsIn (M:=aq prog w) X cl;have L4:Looks (aq prog w) h (mroOf (.ref D)) cd.mro:=L5.andThen .now;have pass:refuseLoop (.ref x) "__setattr__" cd.mro=pure ():=by rw[hm,refuseLoop_ref,refuseLoop_ref];exact F.store_ValueError.passes _
 unfold Builtin.«object.__setattr__»;refine Yc ?_;rw[refuse_eq];refine Yc (L0.at (Yc (L4.at ?_)));rw[pass];refine Yp (Yc (Yp (Yc (L0.at (Yc (L2.at (Yc (Yp ?_))))))));show ao _ _ (storeInOwnDict _ _ _ _ _ _) _ _ _;unfold storeInOwnDict ownDictForStores instanceDict
 repeat(first|(with_reducible refine Be hx ?_;rw[hc])|with_reducible refine Looks.at (by assumption) ?_|wp_step)
 rw[hdn,hd];have hx1:(h.push {cls:=.type "dict",data:=.dict #[]}).get? x=Ya o:=Yh _ hx;have hxs:x≠h.objs.size:=dG (Y2 hx);refine Yc (wpAny_alloc' (Yc (wpAny_update' hx1 (Yp ?_))));have g1:((h.push {cls:=.type "dict",data:=.dict #[]}).update x λo=>{cls:=o.cls,dict:=Ya h.objs.size,data:=o.data,slots:=o.slots}).get? h.objs.size=Ya {cls:=.type "dict",data:=.dict #[]}:=(Z0 _ _ _ _ hxs.symm).trans (Rg rfl rfl);have fr:=(Heap.get?_some_iff.mp hx).2;have g2:((h.push {cls:=.type "dict",data:=.dict #[]}).update x λo=>{cls:=o.cls,dict:=Ya h.objs.size,data:=o.data,slots:=o.slots}).get? x=Ya {o with dict:=Ya h.objs.size}:=by refine wu _ hx1 ?_;obtain⟨oc,od,oa,osl⟩:=o;cases oa<;>first|rfl|exact fr
 show ao _ _ (storeInDict h.objs.size (.str name tk) name v) _ _ _;unfold storeInDict newKeyGuard;refine Yc (Yp (Yc (wpAny_nsSet1 (Yk0 ⟨_,#[],_,g1,rfl,λe he=>absurd he (by simp),λ_=>rfl⟩) λh' hn' hs=>?_)));obtain⟨oD,esD,epD,hoD,hdD,hcD⟩:=hn'.count (Within.cons name v Within.nil);refine Yc (YJ hoD (by rw[hdD];exact YK (Yi hcD (by rw[Yn,Ge,rT];omega))) ?_)
 wp_walk
 exact hq h' _ ((hs.2 x hxs).trans g2) hn' λb ob hb q=>(hs.2 b (dG (Y2 q))).trans ((Z0 _ _ _ _ hb).trans (Yh _ q))
theorem Acu{A:bC}{E:Ye->Yf->Prop}{s:Yf}{Q:Unit->Yf->Prop}{o:aD}{vs:Array Ye}(X:K.In s.heap)(hx:s.heap.get? x=Ya o)(hc:o.cls= .ref D)(hd:o.data= .fields vs)(hdn:o.dict=Yk)(cl:clsIn K D=Ya cd)(hh:cd.hasDict=true)(hm:cd.mro= .ref D:: .ref CL::qZ)(hsa:findIn K (.ref D) "__setattr__" =Ya (Ya (.builtin "object.__setattr__")))(hf:findIn K (.ref D) name=Ya Yk)(ho:mroIn K D (.type "object")=Ya true)(hq:∀h' tk',h'.get? x=Ya {o with dict:=Ya s.heap.objs.size}->h'.Ns1 s.heap.objs.size (λy=>if y=name then Ya v else Yk)->(∀b ob,b≠x->s.heap.get? b=Ya ob->h'.get? b=Ya ob)->Q () {s with heap:=h',toks:=tk'}):
  ao (aq prog w) A (J4 (.ref x) name v) Q E s:=by
 obtain⟨h,g,d,t,os⟩:=s;have p:zR x D h:=⟨o,hx,hc⟩;have L0:=p.ty (aq prog w);have L1:=looks_findIn (M:=aq prog w) X hsa;have f3:=F.store_ValueError.slot.bind (.ref x);unfold J4 callSpecial? specialOf;refine Yc (wpAny_mkText (Yc (Yc (Yc (L0.at (L1.at ?_))))));refine gG (Yc ?_);rw[f3];refine Yp (Yc (qD (ZyJ X hx hc hd hdn cl hh hm hf ho λh' tk' a b c=>?_)));exact Yp (Yp (hq h' tk' a b c))
end
end PySem.W
namespace PySem.W
open PySem PySem.Spec PySem.Calls PyProof.Rows
section
variable {prog:Y8} {w:aO} {A:bC} {E:Ye->Yf->Prop} {h:aC} {g:Array GenState} {d:Drawn} {t:Nat} {os:OsState}
variable {nm q:aj} {C N:Yt} {bs bm:List Ye} {hdct:Bool} {sn:List aj} {sub:List Ye} {ab:Bool} {col:Option Bool} {dd:Option Yt} {k0 k1 k2 k3 k5:Option Ye}
theorem ZyC(T:OwnTail h qZ bm){mN:aj->Option Ye}{rest:List Ye}{fI:Yt}{oI:aD}{Q:Fin->Yf->Prop}(hC:h.get? C=Ya (vV nm q C N bs bm hdct sn sub ab col dd k0 k1 k2 k3 k5 "ValueError.__new__"))(hn:h.Ns N mN)(hi:mN "__init__" =Ya (.ref fI))(hfI:h.get? fI=Ya oI)(hfc:oI.cls= .type "function")(hrest:rest.length<=bB)(hq:∀h' e,Heap.MadeExcOf h h' e (.ref C) rest->ao (aq prog w) A (call (.ref fI) (.ref e::rest)) (λr s'=>r= .none/\Q (.done (.ret (.ref e))) s') E ⟨h',g,d,t,os⟩):
  ao (aq prog w) A (Builtin.«type.__call__» ⟨.ref C::rest,[]⟩) Q E ⟨h,g,d,t,os⟩:=by
 have Fb:=Ygt;have hB:qZ.contains (.type "ValueError")=true:=by decide
 repeat(first
  |with_reducible refine Be hC ?_
  |with_reducible refine wpAny_madeBy_exc hC ?_
  |wp_step)
 refine codeAny_call_builtin_code (K5 _ Fb.quiet) (wpAny_check_new_subU Fb hB T hC (codeAny_exc_new_subU Fb hB Fb T hC ?_ hrest));show ao _ _ _ _ _ _;generalize ht:({cls:=.type "tuple",data:=.seq rest.toArray}:aD)=tup;generalize he:({cls:=.ref C,data:=.fields #[.ref h.objs.size,.none,.none,.none,.bool false,.none]}:aD)=ex;have up:∀b o,h.get? b=Ya o->((h.push tup).push ex).get? b=Ya o:=λb o z=>Yh _ (Yh _ z);have C1:=up _ _ hC;have ge:((h.push tup).push ex).get? (h.objs.size+1)=Ya ex:=by refine Rg (by rw[wz]) ?_;rw[←he];rfl
 have ec:ex.cls= .ref C:=by rw[←he]
 have cC:(Value.ref C::bm).contains (.ref C)=true:=by simp
 unfold QZ
 repeat(first
  |(with_reducible refine Be ge ?_;rw[ec])
  |(with_reducible refine X_ C1 ?_;rw[cC])
  |wp_step)
 show ao _ _ (QV (.ref C) _) _ _ _;refine wpAny_typeLookup_tail C1 (hn.keeps up) (T.keeps up) Fb.mroIs Fb.init.lookup ?_;rw[hi];refine gG (Yc ?_);unfold bindSpecial;refine Yc (JW (T:="function") ⟨_,up _ _ hfI,hfc⟩ ?_);rw[if_pos (by decide)];refine Yp (Yc (eY (hq _ (h.objs.size+1) ⟨up,Yes (wD _),h.objs.size,?_,Yes (Yq _),?_⟩) (λr s' z=>?_) λ_ _ z=>z))
 .rw[ge,←he]
 .rw[ht];exact Yh _ (Rg rfl (by rw[←ht];rfl))
 .obtain⟨rfl,z⟩:=z
  wp_walk
  exact z
theorem Acd(T:OwnTail h qZ bm){mN:aj->Option Ye}{rest:List Ye}{fI:Yt}{oI:aD}{Q:Ye->Yf->Prop}(hC:h.get? C=Ya (vV nm q C N bs bm hdct sn sub ab col dd k0 k1 k2 k3 k5 "ValueError.__new__"))(hn:h.Ns N mN)(hi:mN "__init__" =Ya (.ref fI))(hfI:h.get? fI=Ya oI)(hfc:oI.cls= .type "function")(hrest:rest.length<=bB)(hq:∀h' e,Heap.MadeExcOf h h' e (.ref C) rest->ao (aq prog w) (A.under (.builtin "type.__call__" ⟨.ref C::rest,[]⟩)) (call (.ref fI) (.ref e::rest)) (λr s'=>r= .none/\Q (.ref e) s') E ⟨h',g,d,t,os⟩):
  ao (aq prog w) A (call (.ref C) rest) Q E ⟨h,g,d,t,os⟩:=by
 have f1:=tc_lookup;have f2:=tc_bind (.ref C);have hT:(⟨h,g,d,t,os⟩:Yf).TypeIs (.ref C) "type":=⟨_,hC,rfl⟩;refine qD (QD ?_);show ao _ _ (callAny (.ref C) _) _ _ _
 repeat(any_goals(first
  |assumption
  |with_reducible refine Be hC ?_
  |wp_step))
 exact⟨rfl,codeAny_call_builtin_at (K5 _ (by decide +kernel)) entry_typeCall (wpAny_check_type_call_sub hC (ZyC T hC hn hi hfI hfc hrest hq))⟩
theorem Ab7{M:Model}{s:Yf}{env:cH}{x:lK Ye}{Q:Flow->Yf->Prop}(hbase:bm.contains (.type "BaseException")=true)(hh:A.handled=Yk)(hx:ao M A x (λv s₁=>∃e dx vs sl,v= .ref e/\s₁.heap.get? C=Ya (vV nm q C N bs bm hdct sn sub ab col dd k0 k1 k2 k3 k5 "ValueError.__new__")/\
   s₁.heap.get? e=Ya {cls:=.ref C,dict:=dx,data:=.fields vs,slots:=sl}/\vs[1]?=Ya .none/\E (.ref e) s₁) E s):ao M A (raiseStmt env (Ya x) Yk) Q E s:=by
 have cB:(Value.ref C::bm).contains (.type "BaseException")=true:=by rw[Q8,hbase,Bool.or_true]
 unfold raiseStmt;refine Yc (eY hx (λv s₁ z=>?_) λ_ _ z=>z);obtain⟨e,dx,vs,sl,rfl,hC,he,h1,hE⟩:=z;obtain⟨hp,g,d,tk,os⟩:=s₁
 repeat(first
  |with_reducible refine Be he ?_
  |with_reducible refine Be hC ?_
  |(with_reducible refine X_ hC ?_;rw[cB])
  |with_reducible refine mU he rfl h1 ?_
  |wp_step)
 exact wpAny_raiseNew_none hh hE
end
end PySem.W
namespace PySem.W
open PySem PySem.Spec PySem.Calls PyProof.Rows
section
variable {prog:Y8} {w:aO} {A:bC} {E:Ye->Yf->Prop} {h:aC} {g:Array GenState} {d:Drawn} {t:Nat} {os:OsState}
variable {nm q:aj} {C N:Yt} {bs bm:List Ye} {hdct:Bool} {sn:List aj} {sub:List Ye} {ab:Bool} {col:Option Bool} {dd:Option Yt} {k0 k1 k2 k3 k5:Option Ye}
theorem Ace(T:OwnTail h qZ bm)(hC:h.get? C=Ya (vV nm q C N bs bm hdct sn sub ab col dd k0 k1 k2 k3 k5 "ValueError.__new__")){e:Yt}{dx:Option Yt}{vs:Array Ye}{sl:Array (Option Ye)}{a:Ye}{R:pF->Yf->Prop}(he:h.get? e=Ya {cls:=.ref C,dict:=dx,data:=.fields vs,slots:=sl})(hs:1<vs.size){tv:Yt}(h0:vs[0]?=Ya (.ref tv))(hq:∀h' t0,h'.get? e=Ya {cls:=.ref C,dict:=dx,data:=.fields (vs.setIfInBounds 0 (.ref t0)),slots:=sl}->(∀b o,b≠e->h.get? b=Ya o->h'.get? b=Ya o)->R (.ok (.ret .none)) ⟨h',g,d,t,os⟩):
  jP (aq prog w) A (.call (.builtin "ValueError.__init__") ⟨[.ref e,a],[]⟩) R ⟨h,g,d,t,os⟩:=by
 have Fb:=Ygt;refine yh Fb.init.plain Fb.initEntry (wpAny_check_init_subU Fb T hC he rfl ?_)
 wp_walk
 rw[h0]
 wp_walk
 rw[if_pos (lR Z9 hs)]
 wp_walk
 have g2:=wu (yS (·.setIfInBounds 0 (Value.ref h.objs.size))) (Yh {cls:=.type "tuple",data:=.seq [a].toArray} he) rfl;exact hq _ h.objs.size g2 λb o hb z=>(mX _ _ (bV hb)).trans (Yh _ z)
theorem Acf{K:Frag}{CL:Yt}{pl:lK Bool}{Q:Ye×List Ye->Yf->Prop}{s:Yf}(X:K.In s.heap)(hg:specialIn K (.ref CL) "__getattribute__" =Ya (Ya (.builtin "type.__getattribute__")))(hr:readsIn K CL (.type "type")=true)(hf:findCls K (.ref CL) (.type "type") "__init__" =Ya (.val (.builtin "ValueError.__init__")))(hq:Q (.builtin "ValueError.__init__",[]) {s with toks:=s.toks+1}):ao (aq prog w) A (getMethod (.ref CL) "__init__" pl) Q E s:=method_cls X hg (cls_value X hr hf (by decide +kernel) hq)
end
end PySem.W
namespace L3
open PySem PySem.Spec PyProof.Rows L2
def Ii(e C:Yt)(dd:Option Yt)(h:aC):Prop:=∃vs sl tv,h.get? e=Ya {cls:=.ref C,dict:=dd,data:=.fields vs,slots:=sl}/\1<vs.size/\vs[0]?=Ya (.ref tv)/\vs[1]?=Ya .none
noncomputable abbrev fH(e C:Yt)(dd:Option Yt):HO:=.ext (Ii e C dd)
theorem Vm{P:Y8}{w:aO}{H:Hp}{h:aC}{e C:Yt}{dd:Option Yt}(x:Ii e C dd h):cX P w H h e (fH e C dd):=⟨x,(let⟨_,_,_,q,_⟩:=x;⟨_,q⟩),λ_ _ z k=>let⟨vs,sl,tv,a,b⟩:=z;⟨vs,sl,tv,k _ a,b⟩⟩
section
variable {X:Cx} {pins:List (Yt×aD)} {σ:St} {H:Hp} {s:Yf} {e:Yt} {φ φ':aC->Prop} {h':aC} {t':Nat}
theorem Vn(I:Inv X pins σ H s){b:Yt}(q:s.heap.get? b=Yk):H b=Yk:=by
 cases z:H b with
 |none=>rfl|some u=>obtain⟨o,ho⟩:=Tc (I.hok b u z);rw[q]at ho;cases ho
theorem ZoE(I:Inv X pins σ H s)(he:H e=Ya (.ext φ))(keep:∀b u,b≠e->s.heap.get? b=Ya u->h'.get? b=Ya u)(ok:∀H',cX X.prog X.w H' h' e (.ext φ')):Inv X pins σ (upd H e (.ext φ')) {s with heap:=h',toks:=t'}:=by
 have nb:∀{b u},H b=Ya u->(∀ψ,u≠ .ext ψ)->b≠e:=λ{b u} q n z=>by rw[z,he]at q;cases q;exact n _ rfl
 have n0:∀{b},H b=Yk->b≠e:=λ{b} q z=>by rw[z,he]at q;cases q
 refine I.un ⟨λb u q n _ _=>keep b u (n0 n) q,λb u q n _ _=>⟨u.slots,keep b u (n0 n) q⟩,λb u q n _=>by rw[bh (n0 n)];exact n,λb u q _=>?_,λb xs q=>by rw[bh (nb q (λ_ z=>nomatch z))];exact q,
  λb u xs q=>by rw[bh (nb q (λ_ z=>nomatch z))];exact q,λb ps q=>⟨#[],by rw[bh (nb q (λ_ z=>nomatch z)),q];simp⟩⟩ λb u q=>?_
 .by_cases hb:b=e
  .rw[hb];exact(ok H).2.1
  .exact⟨u,keep b u hb q⟩
 .by_cases hb:b=e
  .subst hb;rw[fV]at q;cases q;exact ok _
  .rw[bh hb]at q;refine(I.hok b u q).stay (λc v hc z=>keep c v ?_ z) (λc z=>by rw[bh (nb z (λ_ z=>nomatch z))];exact z) λc xs z=>by rw[bh (nb z (λ_ z=>nomatch z))];exact z
   rcases hc with rfl|hc
   .exact hb
   .exact nb hc (λ_ z=>nomatch z)
theorem ZqX{dx:Yt}{o2:HO}(I:Inv X pins σ H s)(he:H e=Ya (.ext φ))(hdx:s.heap.get? dx=Yk)(keep:∀b u,b≠e->s.heap.get? b=Ya u->h'.get? b=Ya u)(ok:∀H',cX X.prog X.w H' h' e (.ext φ'))(ok2:∀H',cX X.prog X.w H' h' dx o2):
  Inv X pins σ (upd (upd H e (.ext φ')) dx o2) {s with heap:=h',toks:=t'}:=by
 have hd0:=Vn I hdx;have nb:∀{b u},H b=Ya u->(∀ψ,u≠ .ext ψ)->b≠e:=λ{b u} q n z=>by rw[z,he]at q;cases q;exact n _ rfl
 have n0:∀{b},H b=Yk->b≠e:=λ{b} q z=>by rw[z,he]at q;cases q
 have nd:∀{b u},H b=Ya u->b≠dx:=λ{b u} q z=>by rw[z,hd0]at q;cases q
 have nh:∀{b u},s.heap.get? b=Ya u->b≠dx:=λ{b u} q z=>by rw[z,hdx]at q;cases q
 refine I.un ⟨λb u q n _ _=>keep b u (n0 n) q,λb u q n _ _=>⟨u.slots,keep b u (n0 n) q⟩,λb u q n _=>by rw[bh (nh q),bh (n0 n)];exact n,λb u q _=>?_,λb xs q=>by rw[bh (nd q),bh (nb q (λ_ z=>nomatch z))];exact q,
  λb u xs q=>by rw[bh (nd q),bh (nb q (λ_ z=>nomatch z))];exact q,λb ps q=>⟨#[],by rw[bh (nd q),bh (nb q (λ_ z=>nomatch z)),q];simp⟩⟩ λb u q=>?_
 .by_cases hb:b=e
  .rw[hb];exact(ok H).2.1
  .exact⟨u,keep b u hb q⟩
 .by_cases hd:b=dx
  .subst hd;rw[fV]at q;cases q;exact ok2 _
  .rw[bh hd]at q;by_cases hb:b=e
   .subst hb;rw[fV]at q;cases q;exact ok _
   .rw[bh hb]at q;refine(I.hok b u q).stay (λc v hc z=>keep c v ?_ z) (λc z=>by rw[bh (nd z),bh (nb z (λ_ z=>nomatch z))];exact z) λc xs z=>by rw[bh (nd z),bh (nb z (λ_ z=>nomatch z))];exact z
    rcases hc with rfl|hc
    .exact hb
    .exact nb hc (λ_ z=>nomatch z)
end
structure Ij(K:Yb)(C CL fI:Yt)(f:aj):Prop where
 obj:∃(na q:aj) (N:Yt) (bs bm:List Ye) (hdct:Bool) (sn:List aj) (sub:List Ye) (ab:Bool) (col:Option Bool) (dd:Option Yt) (k0 k1 k2 k3 k5:Option Ye),
  K.lookup C=Ya (vV na q C N bs bm hdct sn sub ab col dd k0 k1 k2 k3 k5 "ValueError.__new__")/\(∀h:aC,K.In h->∃mN,h.Ns N mN/\mN "__init__" =Ya (.ref fI))/\∀h:aC,K.In h->OwnTail h PySem.W.qZ bm
 cls:∃cd,ux K C=Ya cd/\cd.hasDict=true/\cd.mro= .ref C:: .ref CL::PySem.W.qZ
 sa:Y9 K (.ref C) "__setattr__" =Ya (Ya (.builtin "object.__setattr__"))
 nf:Y9 K (.ref C) f=Ya Yk
 mo:uw K C (.type "object")=Ya true
 ga:Bb K (.ref CL) "__getattribute__" =Ya (Ya (.builtin "type.__getattribute__"))
 rd:Qs K CL (.type "type")=true
 fc:Qt K (.ref CL) (.type "type") "__init__" =Ya (.val (.builtin "ValueError.__init__"))
section
variable {X:Cx} {a b o value:Expr} {f x:aj} {p1 p2 p3 pos pos' apos:aP} {C CL fI:Yt} {ta tv:TE}
theorem Zvc{H:Hp}{e:Yt}{u:HO}(h:H e=Ya u):upd H e u=H:=by
 funext z;by_cases q:z=e
 .rw[q,fV,h]
 .rw[bh q]
theorem ZpZ(O:Ij X.K C CL fI f):cT X (.builtin "ValueError.__init__") (λxs H Q=>∃e y,xs=[.ref e,.str y]/\H e=Ya (fH e C Yk)/\Q .non H):=by intro pins s σ H xs us Q I r z;obtain⟨e,y,rfl,he,hq⟩:=z;obtain⟨u,v,rfl,ru,rv⟩:=vals2 r;cases ru;obtain⟨na,q,N,bs,bm,hdct,sn,sub,ab,col,dd,k0,k1,k2,k3,k5,lk,_,hT⟩:=O.obj;obtain⟨⟨vs,sl,tv,h1,h2,h3,h4⟩,_⟩:=(show cX X.prog X.w H s.heap e (fH e C Yk)from I.hok e _ he);obtain⟨h,g,d,t,os⟩:=s;refine qD (PySem.W.Ace (hT _ I.bW) (I.bW _ _ lk) h1 h2 h3 λh' t0 g1 k1=>?_);have I2:=ZoE (φ':=Ii e C Yk) (t':=t) I he (λb u hb z=>k1 b u hb z) λH'=>Vm ⟨_,sl,t0,g1,by simpa using h2,by simp[lR Z9 h2],by rw[Yf2 (by decide)];exact h4⟩;rw[Zvc he]at I2;exact⟨.non,H,I2,rfl,hq⟩
theorem ZsQ(O:Ij X.K C CL fI f){es:List Expr}{e:Expr}{t:TA}(hm:X.mg x=Ya (.ref CL))(ha:PA X (e::es) t)(hg:Gl X x:=by rfl)(hdb:(x==("__debug__":aj))=false:=by decide){pl:lK Bool}(he:Yr (e::es) X.env=(false,aF e X.env)::Yr es X.env:=by rfl)(hpl:(bO pos (Yr es X.env)).any (·.1)=false:=by rfl)(ht:aF (.Call (.Attribute (.Name x p1) "__init__" apos) (e::es) [] pos) X.env=(do
   let ov ←aF (.Name x p1) X.env
   Bl apos.atName
   let(f,first) ←uE [ov] (getMethod ov "__init__" pl)
   Bj pos f first (bO pos (Yr (e::es) X.env)) (iC pos (iB [] X.env))):=by rfl):
  PE X (.Call (.Attribute (.Name x p1) "__init__" apos) (e::es) [] pos) (GX (λxs H Q=>∃e y,xs=[.ref e,.str y]/\H e=Ya (fH e C Yk)/\Q .non H) t):=by
 intro pins s σ H Q I h;refine PySem.W.methodCall_KW (pl:=pl) (yX I hg hm (PySem.W.Acf I.bW O.ga O.rd O.fc ?_) hdb) ht;exact Yf9 (aH (ha pos pins _ σ H _ (I.tok _) h) λus s1 z=>let⟨vs,H1,I1,r1,q1⟩:=z;ZpZ O pins s1 σ H1 vs us Q I1 r1 q1) he hpl
theorem Zsi{i:Int}(h:i.natAbs.log2<1000):(mY (wH i)).length<=10000:=by have e:=int_text_length_le (k:=1000) (by decide) h;rw[PySem.ofString_length];omega
theorem ZsT{ca cb:aj}{kk1 kk3}(hv:PE X value tv)(hl:ca.length+cb.length<=100:=by decide +kernel):
  PE X (.JoinedStr [.Constant (.str ca) kk1 p1,.FormattedValue value (-1) Yk p2,.Constant (.str cb) kk3 p3] pos) (λσ H Q=>tv σ H λy H1=>∃i,y= .int i/\i.natAbs.log2<1000/\∀z,Q (.str z) H1):=by
 intro pins s σ H Q I h;have z0:(Bw++ca).length<=bB:=by rw[Bg,rT];have:Str.empty.length=0:=rfl;omega
 refine wpAny_JoinedStr ?_;show ao _ _ (aF (.Constant (.str ca) kk1 p1) X.env) _ _ s;refine aH (Sq pins s σ H (λv H'=>v= .str ca/\H'=H) I ⟨rfl,rfl⟩) λu s1 z=>?_;obtain⟨v,H1,I1,r1,e1,e2⟩:=z;subst e1 e2;obtain⟨t1,rfl⟩:=r1;refine⟨ca,t1,rfl,z0,?_⟩;show ao _ _ (aF (.FormattedValue value (-1) Yk p2) X.env) _ _ s1;refine wpAny_FormattedValue_plain (aH (hv pins s1 σ _ _ I1 h) λu2 s2 z=>?_);obtain⟨y,H2,I2,r2,i,e1,hi,hq⟩:=z;subst e1;obtain⟨t2,rfl⟩:=r2;have zi:=Zsi hi;have z1:(Bw++ca++mY (wH i)).length<=bB:=by rw[Bg,Bg,rT];have:Str.empty.length=0:=rfl;omega
 have z2:(Bw++ca++mY (wH i)++cb).length<=bB:=by rw[Bg,Bg,Bg,rT];have:Str.empty.length=0:=rfl;omega
 refine wpAny_formatField_int (lR hi (by decide)) ⟨_,_,rfl,z1,?_⟩;show ao _ _ (aF (.Constant (.str cb) kk3 p3) X.env) _ _ _;refine aH (Sq pins _ σ H2 (λv H'=>v= .str cb/\H'=H2) (I2.tok _) ⟨rfl,rfl⟩) λu3 s3 z=>?_;obtain⟨v,H3,I3,r3,e1,e2⟩:=z;subst e1 e2;obtain⟨t3,rfl⟩:=r3;exact⟨cb,t3,rfl,z2,z2,⟨.str _,_,I3.tok _,⟨_,rfl⟩,hq _⟩⟩
theorem ZtJ(O:Ij X.K C CL fI f)(ha:PE X o ta)(hv:PE X value tv)(hs:rY value (Ya (.Attribute o f pos')) pos.line X.env=pure false:=by rfl):
  PS X (.Assign [.Attribute o f pos'] value pos) (λD σ H=>tv σ H λy H1=>ta σ H1 λx H2=>∃e i,x= .ref e/\y= .int i/\H2 e=Ya (fH e C Yk)/\∀dx od,H2 dx=Yk->D.nx σ (upd (upd H2 e (fH e C (Ya dx))) dx (.cD od (.xd [(f,.int i)])))):=by
 intro pins s σ H D I h;refine XR (aH (hv pins s σ H _ I h) λu s1 z=>?_) hs;obtain⟨y,H1,I1,ry,q⟩:=z;refine aH (ha pins s1 σ H1 _ I1 q) λov s2 z=>?_;obtain⟨x,H2,I2,rx,e,i,ex,ey,he,q2⟩:=z;subst ex ey;obtain rfl:ov=Value.ref e:=rx;obtain⟨ti,rfl⟩:=ry;obtain⟨cd,c1,c2,c3⟩:=O.cls;obtain⟨⟨vs,sl,tv,h1,h2,h3,h4⟩,_⟩:=(show cX X.prog X.w H2 s2.heap e (fH e C Yk)from I2.hok e _ he);refine PySem.W.Acu I2.bW h1 rfl rfl rfl c1 c2 c3 O.sa O.nf O.mo λh' tk' g1 g2 k1=>?_;have hdx:s2.heap.get? s2.heap.objs.size=Yk:=Yes (Yq _);obtain⟨od,es,ep,e1,e2,e3,e4,e5⟩:=id g2;refine⟨σ,_,ZqX (φ':=Ii e C (Ya s2.heap.objs.size)) (o2:=.cD od (.xd [(f,.int i)])) I2 he hdx k1 (λH'=>Vm ⟨vs,sl,tv,g1,h2,h3,h4⟩) (λH'=>⟨e1,_,g2,λn=>?_⟩),q2 _ od (Vn I2 hdx)⟩;by_cases hn:n=f
 .rw[hn,if_pos rfl,jh,beq_self_eq_true];exact⟨ti,rfl⟩
 .rw[if_neg hn,jh,beq_eq_false_iff_ne.mpr hn];exact trivial
end
end L3
set_option linter.all false
namespace L3
noncomputable section
noncomputable def tV(c f:List Nat)(g:cY):S3:=λenv M=>match g env M with
 | .ok [.int i] M1=>if i.natAbs.log2<1000 then .exc ⟨c,.ref M1.length⟩ (M1++[.ins (0::c) [(f,.int i)]])else .bad|_=>.bad
noncomputable def Ik(c f:List Nat)(d:D)(M:Store):R3 D:=match d with
 | .ref n=>(match M[n]? with
  |some (.ins c' fs)=>if c'=0::c then(match fs with
   |[(g,.int i)]=>if g=f then .ok (.int i) M else .bad|_=>.bad)else .bad
  |_=>.bad)
 |_=>.bad
noncomputable def xO(a e:E3):E3:=λenv M=>match pY a env M with
 | .ok x M1=>(match e env M1 with
  | .ok y M2=>.ok (.tup [x,y]) M2|.exc q M2=>.exc q M2|.bad=>.bad)
 |_=>.bad
end
end L3
set_option Elab.async false
set_option linter.all false
set_option maxRecDepth 100000
namespace L3
open PySem PySem.Spec PyProof.Rows L2
noncomputable def Nj(C:Yt)(f:aj):Sp:=λvs H Q _=>∃e i,vs=[.ref e,.int i]/\i.natAbs.log2<1000/\H e=Ya (fH e C Yk)/\∀dx od,H dx=Yk->Q .non (upd (upd H e (fH e C (Ya dx))) dx (.cD od (.xd [(f,.int i)])))
variable{C:Yt}
section
variable {P:Y8} {w:aO} {K:Yb} {mg:aj->Option Ye} {base:aC}
theorem fnI{k:Nat}{fI:Yt}{f x qual:aj}{st:Ydi}{fd:jB}{N ps:List aj}(F:pN K x qual st fI fd)(S:cL N ps (Zn st))(hl:ps.length=2)(hb:∀(cdv:Ye) (A:bC) (outer:List cH) (s:Yf) (H:Hp) (E:XK),cJ k (A.deeper (lV qual (Zn st) s.heap.objs.size fI cdv))->∃t,jl (oM (qd P w) P w K mg base N qual (Zn st) fI cdv A outer s H E) (iG st) t/\
   ∀D e i,i.natAbs.log2<1000->H e=Ya (fH e C Yk)->(∀dx od,H dx=Yk->D.nx (L2.start N [.ref e,.int i]) (upd (upd H e (fH e C (Ya dx))) dx (.cD od (.xd [(f,.int i)]))))->t D (L2.start N [.ref e,.int i]) H):
  fM P w K mg base (qd P w) (k+1) fI fd ps (Nj C f):=by
 obtain⟨oc,od,dV,kV,doc,pm,an,cdv,ct,osl,rfl,lk,hcd⟩:=F.ex;refine Ti lk hcd S (λvs H Q E ⟨e,i,r,_⟩=>by rw[r,hl];rfl) λA outer s H vs Q E hr ak=>?_;obtain⟨e,i,rfl,hi,he,hq⟩:=ak;obtain⟨t,ht,q⟩:=hb cdv A outer s H E hr;exact⟨t,ht,q _ e i hi he hq⟩
end
section
variable {X:Cx} {pins:List (Yt×aD)} {σ:St} {H:Hp} {s s':Yf}
theorem Zwr(I:Inv X pins σ H s){h':aC}{e:Yt}{vs:List Ye}(m:Heap.MadeExcOf s.heap h' e (.ref C) vs):H e=Yk/\Inv X pins σ (upd H e (fH e C Yk)) {s with heap:=h'}:=by
 have hn:H e=Yk:=Vn I m.new;obtain⟨t,ht,_,_⟩:=m.there;have xo:Ii e C Yk h':=⟨_,_,t,ht,by simp,rfl,rfl⟩;have ne:∀b o,s.heap.get? b=Ya o->b≠e:=λb o q z=>by subst z;rw[m.new]at q;cases q
 have un:Un X.fs [] H (upd H e (fH e C Yk)) s.heap h':=
  ⟨λb u q _ _ _=>m.keeps b u q,
   λb u q _ _ _=>⟨u.slots,m.keeps b u q⟩,
   λb u q n _=>by rw[bh (ne b u q)];exact n,
   λb u q _=>⟨u,m.keeps b u q⟩,
   λb xs q=>by rw[bh (sH q hn)];exact q,
   λb u xs q=>by rw[bh (sH q hn)];exact q,
   λb ps q=>⟨#[],by rw[bh (sH q hn),q];simp⟩⟩
 have hok:e_ X.prog X.w (upd H e (fH e C Yk)) h':=λb u q=>by
  by_cases hb:b=e
  .subst hb;rw[fV]at q;cases q;exact Vm xo
  .rw[bh hb]at q;exact(I.hok b u q).stay (λc v _ z=>m.keeps c v z) (λc z=>by rw[bh (sH z hn)];exact z) λc xs z=>by rw[bh (sH z hn)];exact z
 exact⟨hn,I.un (t':=s.toks) un hok⟩
theorem ZyI{σ':St}{H':Hp}(I:Inv X pins σ H s){e:Yt}{dd:Option Yt}(hnew:s.heap.get? e=Yk)(I':Inv X pins σ' H' s')(he:H' e=Ya (fH e C dd)):
  Inv X pins σ' (upd H' e (u9 e C dd)) s'/\Vb X e C (upd H' e (u9 e C dd)) s':=by
 obtain⟨⟨vs,sl,tv,h1,h2,h3,h4⟩,_⟩:=(show cX X.prog X.w H' s'.heap e (fH e C dd)from I'.hok e _ he);have xo:zx e C dd s'.heap:=⟨_,_,h1,rfl,rfl,rfl⟩;have ne:∀b o,s.heap.get? b=Ya o->b≠e:=λb o q z=>by subst z;rw[hnew]at q;cases q
 have old:∀{b o},X.s₀.heap.get? b=Ya o->b∉X.fs->b∉X.ex->b∉e::frs X.stack:=λ{b o} q hb hx z=>by
  rcases Yv.mp z with z|z
  .obtain⟨o1,q1⟩:=I.base.there b o q hx;exact ne b o1 q1 z
  .exact Vc I' q hb z
 refine⟨ZoE (t':=s'.toks) (h':=s'.heap) I' he (λb u _ q=>q) λ_=>Zrs xo,dd,fV,XH s'.heap (e::frs X.stack),⟨.ref tv,.inr ⟨λb o q=>Xx _ q,Xw _ (.head _),?_,_,_,h1,rfl,rfl,h3,h4,rfl⟩⟩,⟨λb hb hne=>?_,λb o q n hb hx=>?_,λb o q hb hx=>?_⟩,λp hp=>?_⟩
 .exact PySem.W.funFrames_hide I'.stack λenv he a ha=>.tail _ (Kf.mpr ⟨env,he,ha⟩)
 .rw[bh hne]at hb;obtain⟨u,q⟩:=Option.ne_none_iff_exists'.mp hb;obtain⟨o,ho⟩:=Tc (I'.hok b u q);exact⟨o,Fv _ ho λz=>(Yv.mp z).elim hne λz=>hb (I'.Pu b z)⟩
 .exact Fv _ (I'.base.keep b o q n hb hx) (old q hb hx)
 .obtain⟨o1,q1⟩:=I'.base.there b o q hx;exact⟨o1,Fv _ q1 (old q hb hx)⟩
 .obtain⟨q,n,n2,nf,_⟩:=I'.pin p (pG _ hp);obtain⟨q0,_⟩:=I.pin p (pG _ hp);exact Fv _ q λz=>(Yv.mp z).elim (ne _ _ q0) λz=>(Yv.mp (I'.A_ p.1 z)).elim n2 nf
end
section
variable {X:Cx}
theorem Ztr{H:Hp}{e dx:Yt}{u1 u2 u3 v:HO}(h:dx≠e):upd (upd (upd (upd H e u1) e u2) dx v) e u3=upd (upd H dx v) e u3:=by
 funext z;by_cases q:z=e
 .rw[q,fV,fV]
 .rw[bh q,bh q];by_cases q2:z=dx
  .rw[q2,fV,fV]
  .rw[bh q2,bh q2,bh q,bh q]
theorem ZnA{any:Bool}{c f:List Nat}{CL fI:Yt}{k:Nat}{fd:jB}{ps:List aj}{x:aj}{np cpos pos:aP}{a:Expr}{as:List Expr}{gl:cY}(O:Ij X.K C CL fI (nm f))(au:ClsAt X.K c C)(hfn:(X.K.lookup fI).map (·.cls)=Ya (.type "function"))(G:fM X.prog X.w X.K X.mg X.base (qd X.prog X.w) k fI fd ps (Nj C (nm f)))(bi:Binds X.K fd ps [])(hr:cJ (k+1) X.A)(hm:X.mg x=Ya (.ref C))(ha:CA X.iD (a::as) gl)(hc:X.calm=true:=by rfl)(hg:Gl X x:=by rfl)(hdb:(x==("__debug__":aj))=false:=by decide)(he:Yr (a::as) X.env=(false,aF a X.env)::Yr as X.env:=by rfl)(hpl:(bO cpos (Yr as X.env)).any (·.1)=false:=by rfl):tM X any (.Raise (Ya (.Call (.Name x np) (a::as) [] cpos)) Yk pos) (tV c f gl):=by
 obtain⟨na,q,N,bs,bm,hdct,sn,sub,ab,col,dd,k0,k1,k2,k3,k5,lk,hN,hT⟩:=O.obj;obtain⟨oI,lI,cI⟩:∃oI,X.K.lookup fI=Ya oI/\oI.cls= .type "function":=by
  cases z:X.K.lookup fI with
  |none=>rw[z]at hfn;cases hfn|some oI=>rw[z]at hfn;exact⟨oI,rfl,eZ hfn⟩
 intro pins s σ H D I z;obtain⟨ι,M,env,S,E,h⟩:=z;unfold tV at h;split at h
 .rename_i i M1 qg;split at h
  .rename_i hi;have hplain:(bO cpos (Yr (a::as) X.env)).any (·.1)=false:=by rw[he];show(false|| (bO cpos (Yr as X.env)).any (·.1))=false;rw[hpl];rfl
   rw[arm_exec_Raise];refine Yc (uD (PySem.W.Ab7 (C:=C) (nm:=na) (q:=q) (N:=N) (bs:=bs) (bm:=bm) (hdct:=hdct) (sn:=sn) (sub:=sub) (ab:=ab) (col:=col) (dd:=dd) (k0:=k0) (k1:=k1) (k2:=k2) (k3:=k3) (k5:=k5)
    ((hT X.base I.ok.mod.yW).hasType (by decide)) (I.ok.hd hc) ?_))
   refine Yc (eY (wpAny_Call_ofName (yX I hg hm ?_ hdb)) (λv s₃ h₃=>Yc (uD (Yp h₃))) λ_ _ x=>x);unfold Bj;refine Yc (gG ?_);have key:=Zq8 (pos:=cpos) (R:=λus s2=>∃vs H1 ι1,Inv X pins σ H1 s2/\Vals vs us/\Ext X.K H ι H1 ι1/\aB X.K H1 ι1 M1/\Zw X.K H1 ι1 [.int i] vs) ha I S E qg (λus s1 vs H1 ι1 I1 r x1 S1 r1=>⟨vs,H1,ι1,I1,r,x1,S1,r1⟩);rw[hplain];rw[he]at key ⊢;refine R0 (eY key (λus s2 zz=>?_) λ_ _ y=>y);obtain⟨vs,H1,ι1,I1,r,x1,S1,r1⟩:=zz;obtain⟨hp,g,d,tk,os⟩:=s2;refine Yc (uD ?_);refine Yc (wpAny_keeperOf_exc (I1.bW _ _ lk) ?_);obtain⟨mN,hns,hni⟩:=hN _ I1.bW;have l1:us.length=1:=by rw[←r.length,r1.length];rfl
   refine Yc (PySem.W.Acd (hT _ I1.bW) (I1.bW _ _ lk) hns hni (I1.bW _ _ lI) cI (by show us.length<=_;rw[l1];decide) λh' e mk=>?_);obtain⟨hn,I2⟩:=Zwr I1 mk;obtain rfl:vs=[.int i]:=by obtain⟨v,ws,rfl,rv,kj⟩:=Zw.cons_inv r1;obtain rfl:=Zw.nil_inv kj;obtain rfl:v= .int i:=rv;rfl
   have r2:Vals (V.ref e::[V.int i]) (Value.ref e::us):=.cons rfl r;have hsp:Nj C (nm f) (V.ref e::[V.int i]) (upd H1 e (fH e C Yk)) (λv H2=>v= .non/\∃dx od,H1 dx=Yk/\dx≠e/\H2=upd (upd (upd H1 e (fH e C Yk)) e (fH e C (Ya dx))) dx (.cD od (.xd [(nm f,.int i)]))) E0:=
    ⟨e,i,rfl,hi,fV,λdx od hd=>by
     have hde:dx≠e:=by rintro rfl;rw[fV]at hd;cases hd
     rw[bh hde]at hd;exact⟨rfl,dx,od,hd,hde,rfl⟩⟩
   have hl:(Value.ref e::us++[]).length=ps.length:=by have z:=r2.length;rw[G.len _ _ _ _ hsp]at z;rw[gQ];exact z.symm
   have hb':=bi _ (Value.ref e::us) I2.bW hl;rw[gQ]at hb';refine qD (qz (G.run _ X.stack _ _ ⟨Value.ref e::us,[]⟩ (Value.ref e::us) _ _ E0 (hr.make C us []) (I2.env0.make C us []) hb' r2 hsp) λr s' hq'=>?_);cases r with
   |error e=>exfalso;obtain⟨_,_,_,_,_,_,_,_,_,_,_,_,_,z⟩:=hq';exact z|ok fl=>
    cases fl with
    |next=>exact dX hq'|brk=>exact dX hq'|cont=>exact dX hq'|ret u=>
     obtain⟨v,H',I3,rv,ev,dx,od,hdx,hde,eH⟩:=I2.after hq';subst ev eH;have h3:(upd (upd (upd H1 e (fH e C Yk)) e (fH e C (Ya dx))) dx (.cD od (.xd [(nm f,.int i)]))) e=Ya (fH e C (Ya dx)):=by rw[bh (bV hde),fV]
     obtain⟨I4,Nf⟩:=ZyI I1 mk.new I3 h3;obtain⟨⟨vs',sl,tv,g1,g2,g3,g4⟩,_⟩:=(show cX X.prog X.w _ s'.heap e (fH e C (Ya dx))from I3.hok e _ h3);refine⟨rv,Yc (gG (FQ (Yp ⟨e,Ya dx,vs',sl,rfl,I3.bW _ _ lk,g1,g4,?_⟩)))⟩;rw[Ztr hde]at I4 Nf;have L1:Loose H1 dx:=.inl hdx;have S2:aB X.K (upd H1 dx (.cD od (.xd [(nm f,.int i)]))) ι1 M1:=S1.other L1 (S1.fresh hdx);have hn2:upd H1 dx (.cD od (.xd [(nm f,.int i)])) e=Yk:=by rw[bh (bV hde)];exact hn
     refine h σ e C _ (ι1++[e]) (λ_=>rfl) (x1.trans (L1.ext.trans (Loose.Fp (.inl hn2)))) (S2.new hn2 (.inr ⟨C,Ya dx,fV,rfl,au,.inr ⟨dx,od,[(nm f,.int i)],rfl,?_,rfl,?_⟩⟩)) (Rep.ref (by rw[←S2.len];simp)) au pins _ I4 Nf
     .rw[bh hde,fV]
     .exact Zw.cons rfl Zw.nil
  .exact h.elim
 .exact h.elim
structure Vo(K:Yb)(c:List Nat)(C:Yt)(f:aj):Prop where
 au:ClsAt K c C
 ga:Y9 K (.ref C) "__getattribute__" =Ya (Ya (.builtin "BaseException.__getattribute__"))
 gt:Y9 K (.ref C) "__getattr__" =Ya Yk
 mb:uw K C (.type "BaseException")=Ya true
 cd:(ux K C).map (·.hasDict)=Ya true
 nf:Y9 K (.ref C) f=Ya Yk
theorem Zv7{c m:List Nat}{e:Expr}{f:E3}{fn:aj}{pos:aP}(G:Vo X.K c C (nm m))(he:C3 X e f)(hf:fn=nm m:=by decide +kernel)(hb:mR e fn X.env (aF e X.env)=aF e X.env:=by rfl):C3 X (.Attribute e fn pos) (e1 (Ik c m) f):=by
 subst hf;intro pins s σ H Q I h;obtain⟨ι,M,env,S,E,h⟩:=h;obtain⟨d,M1,e1,hh⟩:=Zv.bind h;refine Zpa hb (aH (he pins s σ H (λv H1=>∃ι1,Ext X.K H ι H1 ι1/\aB X.K H1 ι1 M1/\Rep X.K H1 ι1 d v) I ⟨ι,M,env,S,E,by rw[e1];exactλv H1 ι1 x1 S1 r1=>⟨ι1,x1,S1,r1⟩⟩) λu s1 z=>?_);obtain⟨v,H1,I1,rv,ι1,x1,S1,r1⟩:=z;unfold Ik at hh;split at hh
 .rename_i n;split at hh
  .rename_i c' fs hn;split at hh
   .rename_i ec;subst ec;split at hh
    .rename_i g i;split at hh
     .rename_i eg;subst eg;obtain⟨a,ha,rfl⟩:=r1.dN;obtain rfl:u=Value.ref a:=rv;rcases S1.obj n _ a hn ha with⟨_,_,_,_,⟨_,z⟩,_⟩|⟨C',dd,q,_,ca,z⟩
      .exact absurd rfl z
      obtain rfl:C'=C:=by have z1:=ca.symm.trans G.au;injection z1 with z1;injection z1 with z1;injection z1
      rcases z with z|⟨dx,od,gs,rfl,hdx,Nk,fr2⟩
      .cases z
      obtain⟨⟨o,vs,h1,h2,h3,h4⟩,_⟩:=(show cX X.prog X.w H1 s1.heap a (u9 a C' (Ya dx))from I1.hok a _ q);obtain⟨_,mA,hns,hm⟩:=(show cX X.prog X.w H1 s1.heap dx (.cD od (.xd gs))from I1.hok dx _ hdx);obtain⟨cd,c1,c2⟩:∃cd,ux X.K C'=Ya cd/\cd.hasDict=true:=by
       cases z:ux X.K C' with
       |none=>have:=G.cd;rw[z]at this;cases this|some cd=>have:=G.cd;rw[z]at this;exact⟨cd,rfl,eZ this⟩
      have lg:gs.lookup (nm g)=Ya (.int i):=by
       obtain⟨v,ws,e2,r3,r4⟩:=Zw.cons_inv fr2;obtain rfl:=Zw.nil_inv r4;obtain rfl:v= .int i:=r3
       match gs,Nk,e2 with
       |[(a,b)],Nk,e2=>simp at Nk e2;subst Nk e2;rw[jh,beq_self_eq_true]
      have hm:=hm (nm g);rw[lg]at hm;cases hv:mA (nm g)with
      |none=>rw[hv]at hm;exact hm.elim|some uv=>rw[hv]at hm;obtain⟨ti,rfl⟩:∃t,uv=Value.int i t:=hm;exact PySem.W.Acs G.ga G.gt G.mb I1.bW ⟨o,h1,h2⟩ (PySem.W.Acb I1.bW h1 h2 h3 h4 hns hv c1 c2 G.nf) rfl ⟨.int i,H1,I1.tok _,⟨ti,rfl⟩,hh _ _ ι1 x1 S1 rfl⟩
     .exact hh.elim
    .exact hh.elim
   .exact hh.elim
  .exact hh.elim
 .exact hh.elim
end
end L3
set_option Elab.async false
set_option linter.all false
set_option maxRecDepth 100000
namespace L3
open PySem PySem.Spec PyProof.Rows L2
structure Vp(K:Yb)(c:List Nat)(C CL fI:Yt)(f qual:aj)(st:Ydi)(ps:List aj):Prop where
 own:Ij K C CL fI f
 au:ClsAt K c C
 fn:∃fd,pN K "__init__" qual st fI fd/\Binds K fd ps []
 fc:(K.lookup fI).map (·.cls)=Ya (.type "function")
def Zqw(P:Y8)(w:aO)(K:Yb)(mg:aj->Option Ye)(base:aC)(C fI:Yt)(f:aj)(ps:List aj):Prop:=∃fd,Binds K fd ps []/\fM P w K mg base (qd P w) 1 fI fd ps (Nj C f)
theorem ZxK{C:Yt}{f:aj}{e:Yt}{i:Int}{H:Hp}{D:Ends}{N:List aj}(hN:N.length=2)(hi:i.natAbs.log2<1000)(he:H e=Ya (fH e C Yk))(hq:∀dx od,H dx=Yk->D.nx (L2.start N [.ref e,.int i]) (upd (upd H e (fH e C (Ya dx))) dx (.cD od (.xd [(f,.int i)])))):
  ZxI (ZuK (GX (λxs H Q=>∃e y,xs=[.ref e,.str y]/\H e=Ya (fH e C Yk)/\Q .non H) (Lh (GF 0) (Lh (λσ H Q=>GF 1 σ H λy H1=>∃i,y= .int i/\i.natAbs.log2<1000/\∀z,Q (.str z) H1) Tg))))
   (λD σ H=>GF 1 σ H λy H1=>GF 0 σ H1 λx H2=>∃e i,x= .ref e/\y= .int i/\H2 e=Ya (fH e C Yk)/\∀dx od,H2 dx=Yk->D.nx σ (upd (upd H2 e (fH e C (Ya dx))) dx (.cD od (.xd [(f,.int i)])))) D (L2.start N [.ref e,.int i]) H:=by
 have h0:(L2.start N [.ref e,.int i])[0]?=Ya (Ya (.ref e)):=rfl;have h1:(L2.start N [.ref e,.int i])[1]?=Ya (Ya (.int i)):=rfl;exact⟨_,h0,_,h1,i,rfl,hi,λz=>⟨e,z,rfl,he,_,h1,_,h0,e,i,rfl,rfl,he,hq⟩⟩
theorem Nm{X:Cx}{any:Bool}{c f:List Nat}{C CL fI:Yt}{qual fn:aj}{st:Ydi}{ps:List aj}{x:aj}{np cpos pos:aP}{a:Expr}{as:List Expr}{gl:cY}(R:Vp X.K c C CL fI fn qual st ps)(G:Zqw X.prog X.w X.K X.mg X.base C fI fn ps)(hr:cJ 2 X.A)(hm:X.mg x=Ya (.ref C))(ha:CA X.iD (a::as) gl)(hf:fn=nm f:=by decide +kernel)(hc:X.calm=true:=by rfl)(hg:Gl X x:=by rfl)(hdb:(x==("__debug__":aj))=false:=by decide)(he:Yr (a::as) X.env=(false,aF a X.env)::Yr as X.env:=by rfl)(hpl:(bO cpos (Yr as X.env)).any (·.1)=false:=by rfl):tM X any (.Raise (Ya (.Call (.Name x np) (a::as) [] cpos)) Yk pos) (tV c f gl):=by subst hf;obtain⟨fd,b,G⟩:=G;exact ZnA (CL:=CL) R.own R.au R.fc G b hr hm ha hc hg hdb he hpl
section
variable {K:Yb} {c:List Nat} {C CL fI:Yt} {f qual:aj} {st:Ydi} {ps:List aj}
theorem Zw3{na q:aj}{N:Yt}{bs bm:List Ye}{hdct:Bool}{sn:List aj}{sub:List Ye}{ab:Bool}{col:Option Bool}{dd:Option Yt}{k0 k1 k2 k3 k5:Option Ye}{cd:PySem.ClassData}{oc dV kV doc pm cdv ct:Ye}{od an:Option Yt}{osl:Array (Option Ye)}(au:ClsAt K c C)(lk:K.lookup C=Ya (vV na q C N bs bm hdct sn sub ab col dd k0 k1 k2 k3 k5 "ValueError.__new__"))(hN:∀h:aC,K.In h->∃mN,h.Ns N mN/\mN "__init__" =Ya (.ref fI))(hT:∀h:aC,K.In h->OwnTail h PySem.W.qZ bm)(cl:ux K C=Ya cd)(c2:cd.hasDict=true)(c3:cd.mro= .ref C:: .ref CL::PySem.W.qZ)(sa:Y9 K (.ref C) "__setattr__" =Ya (Ya (.builtin "object.__setattr__")))(nf:Y9 K (.ref C) f=Ya Yk)(mo:uw K C (.type "object")=Ya true)(ga:Bb K (.ref CL) "__getattribute__" =Ya (Ya (.builtin "type.__getattribute__")))(rd:Qs K CL (.type "type")=true)(fc:Qt K (.ref CL) (.type "type") "__init__" =Ya (.val (.builtin "ValueError.__init__")))(l:K.lookup fI=Ya ⟨oc,od,.func (pD "__init__" qual (m_ st) (iG st) (Zn st) dV kV doc pm an cdv ct),osl⟩)(ci:Bc K cdv qual=true)(kp:qy K (.ref fI)=true)(ho:oc= .type "function")(b:Binds K (pD "__init__" qual (m_ st) (iG st) (Zn st) dV kV doc pm an cdv ct) ps []):Vp K c C CL fI f qual st ps:=⟨⟨⟨na,q,N,bs,bm,hdct,sn,sub,ab,col,dd,k0,k1,k2,k3,k5,lk,hN,hT⟩,⟨cd,cl,c2,c3⟩,sa,nf,mo,ga,rd,fc⟩,au,⟨_,⟨⟨oc,od,dV,kV,doc,pm,an,cdv,ct,osl,rfl,l,ci⟩,kp⟩,b⟩,by rw[l,ho];rfl⟩
theorem Zpn{cd:PySem.ClassData}(au:ClsAt K c C)(ga:Y9 K (.ref C) "__getattribute__" =Ya (Ya (.builtin "BaseException.__getattribute__")))(gt:Y9 K (.ref C) "__getattr__" =Ya Yk)(mb:uw K C (.type "BaseException")=Ya true)(cl:ux K C=Ya cd)(c2:cd.hasDict=true)(nf:Y9 K (.ref C) f=Ya Yk){m:List Nat}(hf:f=nm m:=by decide +kernel):Vo K c C (nm m):=by subst hf;exact⟨au,ga,gt,mb,by rw[cl,←c2];rfl,nf⟩
end
section
variable {X:Cx} {a e:Expr} {f h:E3} {pos:aP}
theorem Zww{x1}(ho:C3 X.iD a f)(he:Dg X e h)(hs1:Yr [a,e] X.env=(false,aF a X.env)::Yr [e] X.env:=by rfl)(hs:Yr [e] X.env=(false,aF e X.env)::Yr [] X.env:=by rfl):Dg X (.Tuple [a,e] x1 pos) (xO f h):=
 (Th (pM (PE.iD ho) (pM he y_ hs) hs1)).imp λσ H Q ak=>by
 obtain⟨ι,M,env,S,E,hh⟩:=ak;refine⟨ι,M,env,S,E,?_⟩;unfold xO pY at hh;cases q:f env M with
 |bad=>rw[q]at hh;exact hh.elim|exc x M1=>rw[q]at hh;exact hh.elim|ok a M1=>
  rw[q]at hh;intro v H1 ι1 x1 S1 r1;refine⟨ι1,M1,env,S1,E.mono x1,?_⟩;dsimp only at hh;cases q2:h env M1 with
  |bad=>rw[q2]at hh;exact hh.elim|exc x M2=>rw[q2]at hh;exactλa C H' ι' x2 S1 r1 c1=>hh a C H' ι' (x1.trans x2) S1 r1 c1|ok d M2=>rw[q2]at hh;intro v2 H2 ι2 x2 S2 r2;refine⟨by show 2<=bB;decide,λp hp=>?_⟩;obtain⟨x3,S3,r3⟩:=S2.uo hp (Zw.cons (r1.mono x2) (Zw.cons r2 Zw.nil));exact hh _ _ _ ((x1.trans x2).trans x3) S3 r3
end
open PySem
noncomputable section
noncomputable def Vq(f:E3):sZ:=λenv M=>(f env M).bind λa M1=>match a with
 | .ref n=>match M1[n]? with
  |some (.lst ds)=>.ok ⟨ds.reverse,[(n,ds)]⟩ M1|_=>.bad
 |_=>.bad
end
end L3
namespace L3
open PySem PySem.Spec PyProof.Rows L2
set_option maxRecDepth 100000
noncomputable def Itv(K:Yb)(a:Yt)(n:Nat):It:=⟨λi H=>i<n/\∃xs,bK K H a xs/\xs.length=n,λi H x H'=>H'=H/\∀xs,bK K H a xs->xs[n-1-i]?=Ya x,λi _=>i=n⟩
theorem ZqF{P:Y8}{w:aO}{K:Yb}{tg:Expr}(a it:Yt)(n:Nat):Turn P w K tg (Itv K a n) [it] it (λi h=>h.IsRevIter it a ((n:Int)-1-(i:Int)))where
 mem:=by simp
 obj:=λi h st b hb=>by
  have e:b=it:=by simpa using hb
  subst e;obtain⟨o,e,c,d⟩:=st;exact⟨o,e,λv z=>by rw[d]at z;cases z⟩
 keep:=λi h h' st k=>st.at λo e=>k it (by simp) o e
 item:=by
  intro X hP hw hK hc i pins s σ H E I hf st hg;subst hP hw hK;obtain⟨hi,xs,hq,hl⟩:=hg;obtain⟨its,rv,p,hz⟩:=I.list hq;have hlt:n-1-i<xs.length:=by omega
  have hx:xs[n-1-i]?=Ya xs[n-1-i]:=by simp[hlt]
  obtain⟨u,hu,ru⟩:=rv.get hx;obtain⟨f0,f1,f2,f3,f4,f5⟩:=hf it (by simp);rw[show(n:Int)-1-(i:Int)=((n-1-i:Nat):Int)by omega]at st;refine wpAny_pyNext_rev_item st p.isList (x:=u) (by simpa using hu) λh' st' sb=>?_;have I1:Inv X pins σ H {s with heap:=h'}:=I.turned (t':=s.toks) (λb o hb e=>(sb.2 b hb).trans e) f0 f1 f3 f4 f5;rw[show((n-1-i:Nat):Int)-1=(n:Int)-1-((i+1:Nat):Int)by omega]at st';obtain⟨o,e,c,d⟩:=id st';exact⟨u,rfl,GK (s:={s with heap:=h'}) e c d (by decide) ⟨xs[n-1-i],H,I1,ru,⟨rfl,λys hy=>by rw[I.JB hy hq];exact hx⟩,st',λb hb=>(hf b hb).1⟩⟩
 done:=by intro X hP hw hK hc i pins s σ H E I hf st hg;subst hP hw hK;have hg:i=n:=hg;subst hg;obtain⟨f0,f1,f2,f3,f4,f5⟩:=hf it (by simp);rw[show(i:Int)-1-(i:Int)= -1 by omega]at st;exact wpAny_pyNext_rev_end (I.ok.hd hc) st λh' eb=>⟨rfl,I.turned (t':=s.toks) (λb o hb e=>eb b o hb e) f0 f1 f3 f4 f5⟩
 self:=λ_ _ _ _ _ st h=>X8 st h
theorem boot_reversed:jA "reversed" =Ya (.type "reversed"):=by decide +kernel
section
variable {X:Cx} {tg a:Expr} {p pos:aP} {f:E3}
def ZxY(K:Yb)(ta:TA):TI:=λσ H R=>ta σ H λvs H1=>∃b xs,vs=[.ref b]/\bK K H1 b xs/\R (Itv K b xs.length) H1
theorem Zu0{ta:TA}(hg:Gl X "reversed")(hm:X.mg "reversed" =Yk)(ha:PA X [a] ta)(hs:Yr [a] X.env=[(false,aF a X.env)]:=by rfl):PI X tg (.Call (.Name "reversed" p) [a] [] pos) (ZxY X.K ta):=by
 intro pins s σ H R I h;refine Call_ (wL I hg hm boot_reversed (Kz (aH (ha pos pins s σ H _ I h) λus s1 ⟨vs,H1,I1,r1,q1⟩=>?_) hs rfl));obtain⟨b,xs,e,hq,q⟩:=q1;subst e;cases r1 with
 | cons r rr=>
  cases rr
  cases r
  obtain⟨its,rv,pl,hz⟩:=I1.list hq;refine call_reversed_list pl.isList ?_;have I2:Inv X pins σ H1 {s1 with heap:=s1.heap.push (revObj b ((its.toArray.size:Int)-1))}:=I1.kept (t':=s1.toks) λb o e=>Yh _ e;have st:(s1.heap.push (revObj b ((its.toArray.size:Int)-1))).IsRevIter s1.heap.objs.size b ((xs.length:Int)-1-((0:Nat):Int)):=by refine⟨_,Y1 _ rfl,rfl,?_⟩;rw[show(xs.length:Int)-1-((0:Nat):Int)=(its.toArray.size:Int)-1 by have:=rv.length;simp;omega];rfl
  refine X8 (s:={s1 with heap:=s1.heap.push (revObj b ((its.toArray.size:Int)-1))}) st ⟨s1.heap.objs.size,[s1.heap.objs.size],_,_,H1,rfl,I2,ZqF b _ xs.length,st,λc hc=>?_,q⟩;have e:c=s1.heap.objs.size:=by simpa using hc
  subst e;exact I1.ul (Yq _) (I1.hok.fresh (Yq _))
theorem Zyx{α:Type}{l:List α}{i:Nat}{d:α}(h:l.reverse[i]?=Ya d):i<l.length/\l[l.length-1-i]?=Ya d:=by
 have hi:i<l.length:=by have:=(Yd.mp h).1;simpa using this
 rw[List.getElem?_reverse hi]at h;exact⟨hi,h⟩
theorem Zwj(hm:X.mg "reversed" =Yk)(h:C3 X a f)(hg:Gl X "reversed":=by rfl)(hs:Yr [a] X.env=[(false,aF a X.env)]:=by rfl)(hs':Yr (a::[]) X.env=(false,aF a X.env)::Yr [] X.env:=by rfl):CIL X tg (.Call (.Name "reversed" p) [a] [] pos) (Vq f):=
 PI.imp (Zu0 hg hm (Zc h Zf hs') hs) λσ H R ak=>by
  obtain⟨ι,M,env,S,E,h⟩:=ak;obtain⟨d,M1,e1,h⟩:=zN.bind h;refine⟨ι,M,env,S,E,?_⟩;have e2:Za f Ze env M= .ok [d] M1:=by unfold Za;rw[e1];rfl
  rw[e2];intro vs H1 ι1 x1 S1 r1;obtain⟨v,ws,rfl,r,q⟩:=r1.cons_inv;have:=q.nil_inv;subst this;cases d with
  | ref n=>
   cases hm:M1[n]? with
   |none=>simp only[hm]at h;exact h.elim|some o=>
    cases o with
    |dct kvs=>simp only[hm]at h;exact h.elim|cP kvs=>simp only[hm]at h;exact h.elim|ins _ _=>simp only[hm]at h;exact h.elim|lst ds=>
     simp only[hm]at h;obtain⟨b,ha,rfl⟩:=r.dN;obtain⟨vs,q,r⟩:=S1.obj n _ b hm ha;refine⟨b,vs,rfl,bK.of q,h _ H1 ι1 x1 S1 ?_⟩;intro i H2 ι2 M2 x S2 lk;have zA:M2[n]?=Ya (.lst ds):=by simpa[d_]using lk
     obtain⟨vs2,q2,r2⟩:=S2.obj n _ b zA (x.pre _ _ ha);have hl:vs.length=ds.length:=r.length;have hl2:vs2.length=ds.length:=r2.length;refine⟨λd hd=>?_,λhi=>by rw[hi,yE];exact hl.symm⟩;obtain⟨hi,hd⟩:=Zyx hd;obtain⟨v,hv,rv⟩:=r2.get hd;refine⟨⟨by rw[hl];exact hi,vs2,bK.of q2,hl2.trans hl.symm⟩,λy H3 hy=>?_⟩;obtain⟨rfl,hall⟩:=hy;have e:=hall vs2 (bK.of q2);rw[hl]at e;rw[hv]at e;cases e;exact⟨Ext.refl,S2,rv⟩
  |_=>exact h.elim
end
open PySem
noncomputable section
local instance (priority:=100000) Adx (p:Prop):Decidable p:=Yy p
end
end L3
namespace L3
open PySem
noncomputable section
end
end L3
namespace L3
open PySem PySem.W PyProof.Rows PySem.Calls
variable{w:aO}{ann:Option Ye}{p:Y8}{L:List aj}{X:Yf->Bool}
theorem Ztb{q:Y8}{α:Type}{Y:Yf->α}{a:α}{N:Nat}{g0:Bool}{H:aC}{gs:Array GenState}{d:Drawn}{k m M:Nat}(ho:(fencedOpening nZ p w N).map (λs=>(s.heap,s.gens,s.drawn,s.toks))=Ya (H,gs,d,k))(hz:(H.isNs b7&&gs.size==0,H.objs.size,H.nsMap b7 "__annotations__")=(true,m,ann))(hr:∀os,∃s,topRun nZ p w m ann M ⟨H,gs,d,k,os⟩ (topStub p)=Ya s/\(staticsOk (Bf p.main.body) H s.heap&&namesBound p s.heap&&gensDone s&&laidKept H s.heap)=true/\openSeen q L (Bf p.main.body) X g0 s=openGood q L/\Y s=a)(hl:oF M N=true):(openEnds nZ p w N).map (λs=>(openSeen q L (Bf p.main.body) X g0 s,Y s))=Ya (openGood q L,a):=by
 obtain⟨⟨h,gs',d',k',os⟩,e,e'⟩:=JL.mp ho;obtain⟨rfl,rfl,rfl,rfl⟩:h=H/\gs'=gs/\d'=d/\k'=k:=by cases e';exact⟨rfl,rfl,rfl,rfl⟩
 have z1:=congrArg (·.1) hz;have z2:=congrArg (·.2.1) hz;have z3:=congrArg (·.2.2) hz;dsimp only at z1 z2 z3;obtain⟨s,r,l1,l2,l3⟩:=hr os;have r:=topRun_mono (N-M) _ _ _ _ r;rw[show M+(N-M)=N from Nat.add_sub_cancel' (Rh hl)]at r;have t:topFrom nZ p w N ⟨h,gs',d',k',os⟩=Ya s:=by unfold topFrom;dsimp only;rw[z1,z2,z3,r];show(match staticsOk (Bf p.main.body) h s.heap&&namesBound p s.heap&&gensDone s&&laidKept h s.heap with|true=>_|false=>_)=_;rw[l1]
 unfold openEnds;rw[e];show(topFrom nZ p w N _).map _=_;rw[t];exact congrArg Ya (Prod.ext l2 l3)
theorem Zv4{m:Nat}{s:Yf}{c:Code}{pos q:aP}:topRun nZ p w m ann 2 s ⟨doneF .next,c,pos,[topFrame q]⟩=Ya s:=by obtain⟨a,b,d,e,f⟩:=s;rfl
theorem Zvr{m:Nat}{n0 n1 n:Nat}{S Sa:Yf}{T T':SharedT}{b:List Ydi}{env:cH}{q pos pos1 pos2:aP}(ha:topGo nZ p w m ann n0 S (topStub p)=Ya (Sa,⟨denote nZ (.body b env),.body b env,pos,[topFrame q]⟩))(hb:segRun nZ p w m ann 1 n1 Sa (blockOf b env (.body b env) pos [topFrame q])=Ya (.next,T.abs,.body b env,pos1))(hr:segRunT nZ p w m ann 1 n T (piecesOf b env (.body b env) pos1 [topFrame q])=Ya (.next,T',.body b env,pos2)):
  topRun nZ p w m ann (n0+(n1+(n+2))) S (topStub p)=Ya T'.abs:=by
 have h:=piece_app (rest:=[]) (segRun_of hr) (piece_nil Zv4);rw[gQ]at h;exact go_top ha (piece_block hb h)
theorem Zwl{A B C D E F:Type}{a a':A}{b b':B}{c c':C}{d d':D}{e e':E}{f f':F}(h:(a,b,c,d,e,f)=(a',b',c',d',e',f')):a=a'/\b=b'/\c=c'/\d=d'/\e=e'/\f=f':=by cases h;exact⟨rfl,rfl,rfl,rfl,rfl,rfl⟩
noncomputable def Vr:List aD->List aD
 |a::_::l=>a::Vr l|l=>l
noncomputable def Vs:Nat->List aD->BT
 |n+1,o::l=>.node o (Vs n (Vr l)) (Vs n (Vr l.tail))|_,_=>.nil
noncomputable abbrev hV(p:Y8):cH:={scope:=p.main.scope,locals:=mainNs,globals:=mainNs,cells:=[],code:=.ref 13,frame:=Ya 14}
noncomputable abbrev hO:aP:=⟨0,0,0,0⟩
noncomputable abbrev hK(p:Y8):Code:=.body (behindTheImports p) (hV p)
noncomputable abbrev hF:List Frame:=[topFrame hO]
noncomputable abbrev hS(w:aO)(os:OsState):Yf:=⟨boot_heap w.params,⟨[]⟩,boot_drawn,boot_toks,os⟩
noncomputable def hT(s:Yf):SharedT:=⟨Vs 8 s.heap.objs.toList,s.heap.objs.size,s.heap.life,s.gens,s.drawn,s.toks,s.os⟩
noncomputable abbrev hU:=Fast.tw14364793385576792824
noncomputable abbrev hW(w:aO)(b:Bool):aO:=w.withFollow "special-get-raises" b
noncomputable def Vt(p:Y8)(w:aO)(os:OsState):=Fast.tw15667345088766844465 hU p w 11 (Ya (.ref 6)) 12 (hS w os) (topStub p)
noncomputable def hSa(p:Y8)(w:aO)(os:OsState):Yf:=match Vt p w os with|some x=>x.1|none=>hS w os
noncomputable def Vu(p:Y8)(w:aO)(os:OsState):=Fast.tw14374325043358763698 hU p w 11 (Ya (.ref 6)) 1 1 (hSa p w os) (blockOf (behindTheImports p) (hV p) (hK p) hO hF)
noncomputable def Vv(p:Y8)(w:aO)(os:OsState):SharedT:=match Vu p w os with|some x=>hT x.2.1|none=>hT (hS w os)
noncomputable def Vw(p:Y8)(n:Nat)(w:aO)(os:OsState):=Fast.tw10110043849684766642 hU p w 11 (Ya (.ref 6)) 1 n (Vv p w os) (piecesOf (behindTheImports p) (hV p) (hK p) hO hF)
noncomputable def zU(p:Y8)(n:Nat)(w:aO)(os:OsState):SharedT:=match Vw p n w os with|some x=>x.2.1|none=>Vv p w os
noncomputable abbrev hSt(p q:Y8)(L:List aj)(X:Yf->Bool)(A:List Yt)(K:Params->Frag)(n:Nat)(z:aP)(w:aO):Prop:=∀os,(Vt p w os,Vu p w os,Vw p n w os,
  (staticsOk (Fast.tw5923862056798008813 p.main.body) (boot_heap w.params) (zU p n w os).abs.heap&&namesBound p (zU p n w os).abs.heap&&gensDone (zU p n w os).abs&&laidKept (boot_heap w.params) (zU p n w os).abs.heap),
  Fast.tw4187177175401517315 q L (Fast.tw5923862056798008813 p.main.body) X true (zU p n w os).abs,A.map (zU p n w os).abs.heap.get?)=
 (Ya (hSa p w os,⟨Fast.tw11892475500146522536 hU (hK p),hK p,hO,hF⟩),Ya (.next,(Vv p w os).abs,hK p,hO),Ya (.next,zU p n w os,hK p,z),true,openGood q L,(K w.params).map λp=>Ya p.2)
theorem Zqt{q:Y8}{A:List Yt}{K:Params->Frag}{n N:Nat}{z:aP}(e:opening p=plainProg p.main.scope.names)(f:∀s,fenceModules? p s=Ya s)(hN:oF 600 N=true)(hl:oF (12+(1+(n+2))) N=true)(h:hSt p q L X A K n z w):
  (openEnds nZ p w N).map (λs=>(openSeen q L (Bf p.main.body) X true s,A.map s.heap.get?))=Ya (openGood q L,(K w.params).map λp=>Ya p.2):=by
 refine Ztb (boot_open e hN f _) (m:=11) (ann:=Ya (.ref 6)) (M:=12+(1+(n+2))) (by kernel_rfl) (λos=>?_) hl;have h:=h os;unfold Vt Vu Vw hU at h;rw[←Fast.te15667345088766844465,←Fast.te14374325043358763698,←Fast.te10110043849684766642,←Fast.te14364793385576792824,←Fast.te5923862056798008813,←Fast.te4187177175401517315,←Fast.te11892475500146522536]at h;obtain⟨h1,h2,h3,h4,h5,h6⟩:=Zwl h;exact⟨_,Zvr h1 h2 h3,h4,h5,h6⟩
theorem ZvQ{q:Y8}{A:List Yt}{K:Params->Frag}{n N:Nat}{z:aP}(e:opening p=plainProg p.main.scope.names)(f:∀s,fenceModules? p s=Ya s)(hN:oF 600 N=true)(hl:oF (12+(1+(n+2))) N=true)(h0:∀w,hSt p q L X A K n z (hW w false))(h1:∀w,hSt p q L X A K n z (hW w true)):
  LeftO p q L X (λs=>A.map s.heap.get?) (λw=>(K w.params).map λp=>Ya p.2) N:=λw=>
 byRow2 "special-get-raises" (P:=λw=>(openEnds nZ p w N).map (λs=>(openSeen q L (Bf p.main.body) X true s,A.map s.heap.get?))=Ya (openGood q L,(K w.params).map λp=>Ya p.2)) (λw=>Zqt e f hN hl (h0 w)) (λw=>Zqt e f hN hl (h1 w)) w
end L3
set_option maxHeartbeats 4000000
namespace Law
open PySem L3
noncomputable section
def vJ:E3:=eC (.str [48,49,50,51,52,53,54,55,56,57])
def xZ:E3:=eC (.str [97,98,99,100,101,102,103,104,105,106,107,108,109,110,111,112,113,114,115,116,117,118,119,120,121,122])
def o5:kZ:=[([119,104,101,110],2),([119,104,105,108,101],1)]
def xY:E3:=eC (.int 12)
def ug:E3:=eC (.int 6)
def rJ:E3:=eC (.int 60)
def rK:E3:=eC (.int 8)
def Av:E3:=eC (.int 6)
def rN:E3:=eC (.int 60)
def o6:kZ:=[([97,100,100],2),([115,117,98],2),([109,111,114,101],2),([99,101,108,108],1)]
def gB:kZ:=[([115,101,116],1),([112,117,116],2),([116,101,108,108],1),([119,104,101,110],1),([101,108,115,101],0),([119,104,105,108,101],1),([101,110,100],0)]
def cZ:List (List Nat):=[[116,97,107,101],[115,101,116],[112,117,116],[116,101,108,108],[119,104,101,110],[101,108,115,101],[119,104,105,108,101],[101,110,100],[97,100,100],[115,117,98],[109,111,114,101],[99,101,108,108]]
def vh:E3:=eC (.tup (cZ.map D.str))
def Il:S3:=Zq (aA 1 (jm (aQ iz sX (Zb 0) (Za (eC (.str [45])) (Ze))) (c7 (Zb 0) (cW (eC (.int 1))) (dZ)) (Zb 0))) (Zq (aK (cU (e2 iU (aJ bG (Za (Zb 1) (Ze))) (eC (.int 1))) (e2 dY (aJ bG (Za (Zb 1) (Ze))) (rJ))) (aR (eC (.bl false))) (aZ)) (Zq (aK (aQ iz sX (Zb 1) (Za (eC (.str [48])) (Ze))) (aR (e2 aY (Zb 0) (eC (.str [48])))) (aZ)) (aR (aJ sW (Za (jo (dI (Zb 1)) 1 (b_ 2) [] (e2 jG (Zb 2) (vJ))) (Ze))))))
def q_:F3:=bF 1 2 Il
def Vx:S3:=aR (aQ iz u5 (eC (.str [32])) (Za (jo (dI (Zb 0)) 1 (b_ 1) [] (aJ oR (Za (Zb 1) (Ze)))) (Ze)))
def Im:F3:=bF 1 1 Vx
def Vy:S3:=Zq (aA 1 (aV (Ze))) (Zq (aA 2 (eC (.int 0))) (Zq (qM (dI (Zb 0)) (b_ 3) (Zq (aK (e2 aY (Zb 2) (eC (.int 0))) (Zq (bj (aQ bI cQ (Zb 1) (Za (aV (Ze)) (Ze)))) (aA 2 (eC (.int 1)))) (aZ)) (Zq (bj (aQ bI cQ (e2 Zm (Zb 1) (e1 jn (eC (.int 1)))) (Za (Zb 3) (Ze)))) (aA 2 (e2 Zt (e2 gR (Zb 2) (eC (.int 1))) (e2 (u6 o6) (Zb 3) (eC (.int 0)))))))) (aR (jm (e2 aY (Zb 2) (eC (.int 0))) (jo (dI (Zb 1)) 1 (b_ 4) [] (aJ kO (Za (Zb 4) (Ze)))) (eC .non)))))
def xP:F3:=bF 1 4 Vy
def Zhq:S3:=aR (e1 (vg o6) (Zb 0))
def Dm:F3:=bF 1 1 Zhq
def Vz:S3:=aR (Zx xP (Za (c7 (Zb 0) (cW (eC (.int 1))) (dZ)) (Ze)))
def Np:F3:=bF 1 1 Vz
def VB(rec:F3):S3:=Zq (aA 1 (Zx Np (Za (Zb 0) (Ze)))) (aR (aJ (zT 1) (Za (w5 (Ua (Zb 1)) 2 (jH [2,3]) [] (e2 Zt (Zx rec (Za (Zb 3) (Ze))) (Zb 2))) (Ze))))
def zV:Nat->F3
 |0=>bF 1 2 Hj|n+1=>bF 1 2 (VB (zV n))
def Io:F3:=zV 61
def Nq:S3:=Zq (aK (cU (e2 iU (aJ bG (Za (Zb 0) (Ze))) (eC (.int 1))) (cU (e2 dY (aJ bG (Za (Zb 0) (Ze))) (rK)) (e2 jG (Zb 0) (vh)))) (aR (eC (.bl false))) (aZ)) (aR (aJ sW (Za (jo (dI (Zb 0)) 1 (b_ 1) [] (e2 jG (Zb 1) (xZ))) (Ze))))
def o7:F3:=bF 1 1 Nq
def Zhp:S3:=Zq (fD (aA 1 (c7 (e2 Zm (Zb 0) (eC (.int 1))) (cW (eC (.int 1))) (dZ)))) (Zq (aK (pY (cU (e2 iU (aJ bG (Za (Zb 1) (Ze))) (eC (.int 1))) (cU (e2 dY (aJ bG (Za (Zb 1) (Ze))) (Av)) (e2 fj (aJ Zpf (Za (Zb 1) (Ze))) (aJ bG (Za (Zb 1) (Ze))))))) (tV [66,97,100,82,111,119] [114,111,119] (Za (e2 Zm (Zb 0) (eC (.int 0))) (Ze))) (fD (aZ))) (Zq (aK (pY (e1 iT (aJ sW (Za (jo (dI (Zb 1)) 1 (b_ 2) [] (Zx o7 (Za (Zb 2) (Ze)))) (Ze))))) (tV [66,97,100,82,111,119] [114,111,119] (Za (e2 Zm (Zb 0) (eC (.int 0))) (Ze))) (fD (aZ))) (fD (aR (aJ kO (Za (Zb 1) (Ze)))))))
def VD:F3:=bF 1 2 Zhp
def ZeN:S3:=Zq (HB [66,108,111,99,107] [104,101,97,100] (Zb 0) (Zb 1)) (HB [66,108,111,99,107] [108,105,115,116,115] (Zb 0) (aV (Za (aV (Ze)) (Ze))))
def vm:F3:=bF 2 2 ZeN
def Nr:S3:=Zq (aK (e1 iT (aJ sW (Za (jo (dI (Zb 0)) 1 (b_ 3) [] (cU (Zx Dm (Za (Zb 3) (Ze))) (cU (Zx o7 (Za (Zb 3) (Ze))) (Zx q_ (Za (Zb 3) (Ze)))))) (Ze)))) (aR (eC .non)) (aZ)) (Zq (aA 1 (Zx xP (Za (jo (dI (Zb 0)) 1 (b_ 3) [] (jm (Zx q_ (Za (Zb 3) (Ze))) (aJ nj (Za (Zb 3) (Ze))) (Zb 3))) (Ze)))) (Zq (aK (e2 zc (Zb 1) (eC .non)) (aR (eC .non)) (aZ)) (Zq (aA 2 (w5 (Ua (Zb 1)) 2 (jH [3,4]) [] (e2 Zt (Zx Io (Za (Zb 4) (Ze))) (Zb 3)))) (aR (jm (e2 Cj (aJ (zT 0) (Za (Zb 2) (Ze))) (ug)) (Zb 1) (eC .non))))))
def Dn:F3:=bF 1 3 Nr
def Ip:S3:=Zq (aK (cU (e1 (Ih gB) (e2 Zm (Zb 0) (eC (.int 0)))) (e2 dY (aJ bG (Za (Zb 0) (Ze))) (rN))) (aR (eC .non)) (aZ)) (Zq (aA 1 (jm (e2 aY (e2 Zm (Zb 0) (eC (.int 0))) (eC (.str [115,101,116]))) (eC (.int 2)) (eC (.int 1)))) (Zq (aK (e1 iT (aJ sW (Za (jo (dI (c7 (Zb 0) (cW (eC (.int 1))) (cW (Zb 1)))) 1 (b_ 3) [] (Zx o7 (Za (Zb 3) (Ze)))) (Ze)))) (aR (eC .non)) (aZ)) (Zq (aA 2 (Zx Dn (Za (c7 (Zb 0) (cW (Zb 1)) (dZ)) (Ze)))) (Zq (aK (cU (e2 zc (Zb 2) (eC .non)) (e2 fj (aJ bG (Za (Zb 2) (Ze))) (e1 (Dk gB) (e2 Zm (Zb 0) (eC (.int 0)))))) (aR (eC .non)) (aZ)) (aR (aJ kO (Za (e2 Zt (c7 (Zb 0) (dZ) (cW (Zb 1))) (Zb 2)) (Ze))))))))
def vo:F3:=bF 1 3 Ip
def VF:S3:=Zq (aA 2 (e2 Zm (Zb 0) (e1 jn (eC (.int 1))))) (Zq (aA 3 (e2 aY (e2 (u6 o5) (e2 Zm (e1 (jw [66,108,111,99,107] [104,101,97,100]) (Zb 2)) (eC (.int 0))) (eC (.int 0))) (aJ bG (Za (e1 (jw [66,108,111,99,107] [108,105,115,116,115]) (Zb 2)) (Ze))))) (Zq (aK (e1 (vg o5) (Zb 1)) (aR (e2 Cj (aJ bG (Za (Zb 0) (Ze))) (xY))) (aZ)) (Zq (aK (e2 aY (Zb 1) (eC (.str [101,108,115,101]))) (aR (gq (e2 aY (e2 Zm (e1 (jw [66,108,111,99,107] [104,101,97,100]) (Zb 2)) (eC (.int 0))) (eC (.str [119,104,101,110]))) (e1 iT (Zb 3)))) (aZ)) (Zq (aK (e2 aY (Zb 1) (eC (.str [101,110,100]))) (aR (Zb 3)) (aZ)) (aR (eC (.bl true)))))))
def zW:F3:=bF 2 4 VF
def zX:S3:=Zq (aA 2 (e2 Zm (Zb 0) (e1 jn (eC (.int 1))))) (aK (e1 (vg o5) (e2 Zm (Zb 1) (eC (.int 0)))) (bj (aQ bI cQ (Zb 0) (Za (xg [66,108,111,99,107] vm (Za (Zb 1) (Ze))) (Ze)))) (aK (e2 aY (e2 Zm (Zb 1) (eC (.int 0))) (eC (.str [101,108,115,101]))) (bj (aQ bI cQ (e1 (jw [66,108,111,99,107] [108,105,115,116,115]) (Zb 2)) (Za (aV (Ze)) (Ze)))) (aK (e2 aY (e2 Zm (Zb 1) (eC (.int 0))) (eC (.str [101,110,100]))) (Zq (bj (aQ bI kW (Zb 0) (Ze))) (Zq (aA 3 (e2 Zt (e1 (jw [66,108,111,99,107] [104,101,97,100]) (Zb 2)) (aJ kO (Za (jo (dI (e1 (jw [66,108,111,99,107] [108,105,115,116,115]) (Zb 2))) 1 (b_ 4) [] (aJ kO (Za (Zb 4) (Ze)))) (Ze))))) (bj (aQ bI cQ (e2 Zm (e1 (jw [66,108,111,99,107] [108,105,115,116,115]) (e2 Zm (Zb 0) (e1 jn (eC (.int 1))))) (e1 jn (eC (.int 1)))) (Za (Zb 3) (Ze)))))) (bj (aQ bI cQ (e2 Zm (e1 (jw [66,108,111,99,107] [108,105,115,116,115]) (Zb 2)) (e1 jn (eC (.int 1)))) (Za (Zb 1) (Ze)))))))
def vp:F3:=bF 2 4 zX
def Dp:S3:=Zq (fD (aA 2 (aV (Za (xg [66,108,111,99,107] vm (Za (bD (Za (eC (.str [112,114,111,103,114,97,109])) (Ze))) (Ze))) (Ze))))) (Zq (HF (dI (Zb 0)) (jH [3,4]) (Zq (fD (aA 5 (Zx vo (Za (Zb 4) (Ze))))) (Zq (aK (pY (cU (e2 zc (Zb 5) (eC .non)) (e1 iT (Zx zW (Za (Zb 2) (Za (e2 Zm (Zb 5) (eC (.int 0))) (Ze))))))) (tV [66,97,100,82,111,119] [114,111,119] (Za (Zb 3) (Ze))) (fD (aZ))) (fD (bj (Zx vp (Za (Zb 2) (Za (Zb 5) (Ze))))))))) (Zq (aK (pY (e2 dY (aJ bG (Za (Zb 2) (Ze))) (eC (.int 1)))) (tV [66,97,100,82,111,119] [114,111,119] (Za (Zb 1) (Ze))) (fD (aZ))) (fD (aR (aJ kO (Za (e2 Zm (e1 (jw [66,108,111,99,107] [108,105,115,116,115]) (e2 Zm (Zb 2) (eC (.int 0)))) (eC (.int 0))) (Ze)))))))
def nF:F3:=bF 2 6 Dp
def Dq:S3:=Zq (fD (aA 1 (aQ iz wZ (Zb 0) (Za (eC (.str [10])) (Ze))))) (Zq (fD (aA 2 (w5 (Uc (Zb 1)) 2 (jH [4,5]) [e2 fj (Zb 5) (eC (.str []))] (bD (Za (Zb 4) (Za (aQ iz wZ (Zb 5) (Za (eC (.str [32])) (Ze))) (Ze))))))) (Zq (fD (aA 3 (bD (Ze)))) (Zq (aK (pY (gq (e2 dY (aJ bG (Za (Zb 2) (Ze))) (eC (.int 0))) (e2 aY (e2 Zm (e2 Zm (e2 Zm (Zb 2) (eC (.int 0))) (eC (.int 1))) (eC (.int 0))) (eC (.str [116,97,107,101]))))) (Zq (aA 3 (Zx VD (oX (Za (e2 Zm (Zb 2) (eC (.int 0))) (Ze))))) (fD (aA 2 (c7 (Zb 2) (cW (eC (.int 1))) (dZ))))) (fD (aZ))) (aR (xO (Zb 3) (Zx nF (oX (Za (Zb 2) (Za (e2 Zt (aJ bG (Za (Zb 1) (Ze))) (eC (.int 1))) (Ze))))))))))
def nG:F3:=bF 1 4 Dq
def qe(rec:Nat->F3):S3:=Zq (aK (e2 aY (e2 Zm (Zb 0) (eC (.int 0))) (eC (.str [119,104,101,110]))) (Zq (aA 1 (Zx (rec 0) (Za (e2 Zm (Zb 0) (eC (.int 2))) (Ze)))) (Zq (aA 2 (Zx (rec 0) (Za (e2 Zm (Zb 0) (eC (.int 3))) (Ze)))) (aR (e2 Zt (e2 Zt (e2 Zt (e2 Zt (aV (Za (e2 Zt (bD (Za (eC (.str [119,104,101,110])) (Ze))) (e2 Zm (Zb 0) (eC (.int 1)))) (Ze))) (Zb 1)) (aV (Za (bD (Za (eC (.str [101,108,115,101])) (Ze))) (Ze)))) (Zb 2)) (aV (Za (bD (Za (eC (.str [101,110,100])) (Ze))) (Ze))))))) (aZ)) (Zq (aK (e2 aY (e2 Zm (Zb 0) (eC (.int 0))) (eC (.str [119,104,105,108,101]))) (aR (e2 Zt (e2 Zt (aV (Za (e2 Zt (bD (Za (eC (.str [119,104,105,108,101])) (Ze))) (e2 Zm (Zb 0) (eC (.int 1)))) (Ze))) (Zx (rec 0) (Za (e2 Zm (Zb 0) (eC (.int 2))) (Ze)))) (aV (Za (bD (Za (eC (.str [101,110,100])) (Ze))) (Ze))))) (aZ)) (Zq (aK (e2 aY (e2 Zm (Zb 0) (eC (.int 0))) (eC (.str [112,117,116]))) (aR (aV (Za (e2 Zt (e2 Zt (bD (Za (eC (.str [112,117,116])) (Ze))) (e2 Zm (Zb 0) (eC (.int 1)))) (e2 Zm (Zb 0) (eC (.int 2)))) (Ze)))) (aZ)) (aR (aV (Za (e2 Zt (c7 (Zb 0) (dZ) (cW (e1 jn (eC (.int 1))))) (e2 Zm (Zb 0) (e1 jn (eC (.int 1))))) (Ze))))))
def ZdE(rec:Nat->F3):S3:=Zq (aA 1 (aV (Ze))) (Zq (qM (dI (Zb 0)) (b_ 2) (bj (aQ bI pW (Zb 1) (Za (Zx (rec 1) (Za (Zb 2) (Ze))) (Ze))))) (aR (Zb 1)))
def rm:Nat->Nat->F3
 |0,0=>bF 1 3 Hj|0,1=>bF 1 3 Hj|n+1,0=>bF 1 3 (ZdE (rm n))|n+1,1=>bF 1 3 (qe (rm n))
 |_,_=>λ_ _=>.bad
def Nt:F3:=rm 28 0
def VG:S3:=Zq (aA 1 (jm (e2 dY (aJ bG (Za (e2 Zm (Zb 0) (eC (.int 0))) (Ze))) (eC (.int 0))) (aV (Za (e2 Zt (bD (Za (eC (.str [116,97,107,101])) (Ze))) (e2 Zm (Zb 0) (eC (.int 0)))) (Ze))) (aV (Ze)))) (aR (e2 Zt (Zb 1) (Zx Nt (Za (e2 Zm (Zb 0) (eC (.int 1))) (Ze)))))
def zY:F3:=bF 1 2 VG
def VH:S3:=aR (aQ iz u5 (eC (.str [10])) (Za (jo (dI (Zx zY (Za (Zb 0) (Ze)))) 1 (b_ 1) [] (Zx Im (Za (Zb 1) (Ze)))) (Ze)))
def xQ:F3:=bF 1 1 VH
def Dr:S3:=Zq (aA 1 (e2 Zm (Zb 0) (eC (.int 0)))) (Zq (aA 2 (e2 Zm (Zb 0) (eC (.int 1)))) (Zq (Hl (Zb 0) (eC (.int 1)) (e2 Zt (Zb 2) (eC (.int 1)))) (Zq (aK (e2 iU (Zb 2) (aJ bG (Za (Zb 1) (Ze)))) (aR (e2 Zm (Zb 1) (Zb 2))) (aZ)) (Zq (aK (e2 aY (aJ bG (Za (Zb 1) (Ze))) (eC (.int 0))) (aR (e2 Zt (e2 iy (e2 iy (Zb 2) (Zb 2)) (eC (.int 3))) (Zb 2))) (aZ)) (aR (e2 Zt (e2 bU (e2 Zm (Zb 1) (e2 aU (Zb 2) (aJ bG (Za (Zb 1) (Ze))))) (eC (.int 2))) (e2 iy (Zb 2) (Zb 2))))))))
def jM:F3:=bF 1 3 Dr
def tW(rec:F3):S3:=Zq (aK (e1 (Hx .tuple .list) (Zb 1)) (Zq (aK (cU (e2 fj (e1 (qL .tuple) (Zb 0)) (e1 (qL .tuple) (Zb 1))) (e1 iT (e1 (Hx .tuple .list) (Zb 0)))) (aR (eC (.bl false))) (aZ)) (aR (gq (e2 aY (aJ bG (Za (Zb 0) (Ze))) (aJ bG (Za (Zb 1) (Ze)))) (aJ sW (Za (jo (wU (aJ bG (Za (Zb 1) (Ze)))) 1 (b_ 2) [] (Zx rec (Za (e2 Zm (Zb 0) (Zb 2)) (Za (e2 Zm (Zb 1) (Zb 2)) (Ze))))) (Ze)))))) (aZ)) (Zq (aK (e1 (qL .str) (Zb 1)) (aR (gq (e1 (qL .str) (Zb 0)) (e2 aY (Zb 0) (Zb 1)))) (aZ)) (Zq (aK (e1 (qL .bool) (Zb 1)) (aR (gq (e1 (qL .bool) (Zb 0)) (e2 aY (Zb 0) (Zb 1)))) (aZ)) (aR (gq (e1 (qL .int) (Zb 0)) (gq (e1 iT (e1 (qL .bool) (Zb 0))) (e2 aY (Zb 0) (Zb 1)))))))
def qi:Nat->F3
 |0=>bF 2 2 Hj|n+1=>bF 2 2 (tW (qi n))
def zZ:F3:=qi 31
def VJ:S3:=Zq (aA 1 (aV (Za (eC (.str [116,97,107,101])) (Za (eC (.str [115,101,116])) (Za (eC (.str [112,117,116])) (Za (eC (.str [116,101,108,108])) (Za (eC (.str [119,104,101,110])) (Za (eC (.str [101,108,115,101])) (Za (eC (.str [119,104,105,108,101])) (Za (eC (.str [101,110,100])) (Za (eC (.str [97,100,100])) (Za (eC (.str [115,117,98])) (Za (eC (.str [109,111,114,101])) (Za (eC (.str [99,101,108,108])) (Ze))))))))))))))) (Zq (aA 2 (eC (.str [97,98,99,100,101,102,103,104,105,106,107,108,109,110,111,112,113,114,115,116,117,118,119,120,121,122]))) (Zq (aA 3 (Zx jM (Za (Zb 0) (Ze)))) (Zq (aA 4 (e2 bU (Zb 3) (eC (.int 4)))) (Zq (aA 5 (e2 Zm (Zb 2) (e2 aU (Zb 4) (eC (.int 26))))) (Zq (aA 6 (e2 Zm (Zb 2) (e2 aU (e2 bU (Zb 4) (eC (.int 26))) (eC (.int 26))))) (Zq (aA 7 (aV (Ze))) (Zq (qM (wU (eC (.int 12))) (b_ 8) (Zq (aA 9 (e2 Zm (Zb 2) (e2 aU (e2 Zt (Zb 4) (Zb 8)) (eC (.int 26))))) (Zq (aA 10 (e2 iy (Zb 9) (e2 Zt (eC (.int 1)) (e2 aU (e2 bU (Zb 4) (eC (.int 26))) (eC (.int 8)))))) (Zq (aK (e2 aY (e2 aU (Zb 3) (eC (.int 4))) (eC (.int 1))) (aA 10 (e2 Zt (e2 Zm (Zb 1) (e2 aU (e2 Zt (Zb 8) (Zb 4)) (eC (.int 12)))) (Zb 6))) (aZ)) (Zq (aK (e2 aY (e2 aU (Zb 3) (eC (.int 4))) (eC (.int 2))) (Zq (aA 10 (e2 Zt (e2 iy (Zb 5) (e2 Zt (eC (.int 1)) (e2 aU (Zb 8) (eC (.int 8))))) (e2 iy (e2 Zm (Zb 2) (e2 aU (e2 Zt (Zb 4) (eC (.int 1))) (eC (.int 26)))) (e2 bU (Zb 8) (eC (.int 8)))))) (aA 10 (c7 (Zb 10) (dZ) (cW (eC (.int 8)))))) (aZ)) (Zq (aK (e2 aY (e2 aU (Zb 3) (eC (.int 4))) (eC (.int 3))) (aA 10 (e2 Zt (e2 Zt (Zb 6) (Zb 9)) (e2 iy (e2 Zm (Zb 2) (e2 aU (e2 bU (Zb 4) (eC (.int 7))) (eC (.int 26)))) (e2 aU (e2 bU (Zb 4) (eC (.int 676))) (eC (.int 7)))))) (aZ)) (Zq (aK (e2 qN (Zb 10) (Zb 1)) (aA 10 (e2 Zt (Zb 10) (eC (.str [120])))) (aZ)) (bj (aQ bI cQ (Zb 7) (Za (Zb 10) (Ze))))))))))) (aR (Zb 7)))))))))
def Nu:F3:=bF 1 11 VJ
def VL:S3:=Zq (aA 4 (aV (Ze))) (Zq (qM (wU (Zb 2)) (b_ 5) (Zq (aA 6 (Zx jM (Za (Zb 0) (Ze)))) (aK (e2 aY (Zb 3) (eC (.int 0))) (aA 4 (e2 Zt (e2 Zt (aV (Za (e2 Zm (aV (Za (eC (.str [97,100,100])) (Za (eC (.str [115,117,98])) (Za (eC (.str [109,111,114,101])) (Ze))))) (e2 aU (Zb 6) (eC (.int 3)))) (Ze))) (Zb 4)) (aV (Za (e2 Zm (Zb 1) (e2 aU (e2 bU (Zb 6) (eC (.int 3))) (eC (.int 12)))) (Ze))))) (aK (e2 aY (Zb 3) (eC (.int 1))) (aA 4 (e2 Zt (Zb 4) (aV (Za (e2 Zm (aV (Za (eC (.str [97,100,100])) (Za (eC (.str [115,117,98])) (Za (eC (.str [109,111,114,101])) (Ze))))) (e2 aU (Zb 6) (eC (.int 3)))) (Za (e2 Zm (Zb 1) (e2 aU (e2 bU (Zb 6) (eC (.int 3))) (eC (.int 12)))) (Ze)))))) (bj (aQ bI cQ (Zb 4) (Za (eC (.str [99,101,108,108])) (Ze)))))))) (Zq (aK (e2 aY (Zb 3) (eC (.int 0))) (aR (e2 Zt (e2 Zt (c7 (Zb 4) (dZ) (cW (Zb 2))) (aV (Za (e2 Zm (Zb 1) (eC (.int 0))) (Ze)))) (c7 (Zb 4) (cW (Zb 2)) (dZ)))) (aZ)) (aR (e2 Zt (Zb 4) (aV (Za (aJ oR (Za (e2 gR (Zb 2) (eC (.int 3))) (Ze))) (Ze)))))))
def Ds:F3:=bF 4 7 VL
def VN:S3:=Zq (aA 5 (aV (Ze))) (Zq (aA 6 (aV (Za (Zb 2) (Ze)))) (Zq (Zsk (e2 fj (Zb 6) (aV (Ze))) (Zq (aA 7 (aQ bI kW (Zb 6) (Ze))) (Zq (aA 8 (Zx jM (Za (Zb 0) (Ze)))) (Zq (aA 9 (e2 gR (e2 gR (e2 gR (Zb 3) (aJ bG (Za (Zb 5) (Ze)))) (aJ bG (Za (Zb 6) (Ze)))) (eC (.int 1)))) (Zq (aA 10 (e2 aU (Zb 8) (eC (.int 9)))) (aK (gq (cU (e2 iU (Zb 10) (eC (.int 3))) (Zb 4)) (gq (e2 dY (Zb 7) (eC (.int 1))) (e2 dY (Zb 9) (eC (.int 1))))) (Zq (bj (aQ bI cQ (Zb 5) (Za (e2 Zm (aV (Za (eC (.str [97,100,100])) (Za (eC (.str [115,117,98])) (Za (eC (.str [109,111,114,101])) (Ze))))) (e2 aU (e2 bU (Zb 8) (eC (.int 9))) (eC (.int 3)))) (Ze)))) (bj (aQ bI pW (Zb 6) (Za (aV (Za (e2 gR (Zb 7) (eC (.int 1))) (Za (Zb 7) (Ze)))) (Ze))))) (aK (gq (e2 aY (Zb 10) (eC (.int 3))) (e2 dY (Zb 9) (eC (.int 0)))) (Zq (bj (aQ bI cQ (Zb 5) (Za (eC (.str [99,101,108,108])) (Ze)))) (bj (aQ bI cQ (Zb 6) (Za (Zb 7) (Ze))))) (bj (aQ bI cQ (Zb 5) (Za (e2 Zm (aV (Za (e2 Zm (Zb 1) (e2 aU (e2 bU (Zb 8) (eC (.int 9))) (eC (.int 12)))) (Za (aJ oR (Za (e2 gR (e2 aU (e2 bU (Zb 8) (eC (.int 9))) (eC (.int 100))) (eC (.int 50))) (Ze))) (Ze)))) (e2 aU (Zb 8) (eC (.int 2)))) (Ze))))))))))) (aR (Zb 5))))
def Ir:F3:=bF 5 11 VN
def Nv:S3:=Zq (aA 2 (Zx jM (Za (Zb 0) (Ze)))) (Zq (aA 3 (e2 aU (Zb 2) (eC (.int 6)))) (Zq (aK (e2 iU (Zb 3) (eC (.int 3))) (aR (Zx Ds (Za (Zb 0) (Za (Zb 1) (Za (e2 Zm (aV (Za (e2 aU (e2 bU (Zb 2) (eC (.int 6))) (eC (.int 8))) (Za (e2 aU (e2 bU (Zb 2) (eC (.int 6))) (eC (.int 62))) (Ze)))) (e2 aU (e2 bU (Zb 2) (eC (.int 54))) (eC (.int 2)))) (Za (Zb 3) (Ze))))))) (aZ)) (Zq (aA 4 (e2 Zm (aV (Za (eC (.int 9)) (Za (eC (.int 20)) (Za (eC (.int 40)) (Za (eC (.int 65)) (Ze)))))) (e2 aU (e2 bU (Zb 2) (eC (.int 6))) (eC (.int 4))))) (aR (Zx Ir (Za (Zb 0) (Za (Zb 1) (Za (e2 Zt (eC (.int 1)) (e2 aU (e2 bU (Zb 2) (eC (.int 24))) (eC (.int 9)))) (Za (Zb 4) (Za (e2 aY (Zb 3) (eC (.int 3))) (Ze)))))))))))
def xR:F3:=bF 2 5 Nv
def VP:S3:=Zq (aA 1 (aV (Ze))) (Zq (Hz (Vq (Zb 0)) (b_ 2) (aK (e2 qN (Zb 2) (aV (Za (eC (.str [97,100,100])) (Za (eC (.str [115,117,98])) (Za (eC (.str [109,111,114,101])) (Ze)))))) (Zq (aA 3 (aQ bI kW (Zb 1) (Ze))) (bj (aQ bI cQ (Zb 1) (Za (aJ Cv (Za (Zb 3) (Za (e2 Zt (aQ bI kW (Zb 1) (Ze)) (eC (.int 1))) (Ze)))) (Ze))))) (aK (e2 fj (Zb 2) (eC (.str [99,101,108,108]))) (bj (aQ bI cQ (Zb 1) (Za (eC (.int 1)) (Ze)))) (aZ)))) (aR (e2 Zm (Zb 1) (e1 jn (eC (.int 1))))))
def tX:F3:=bF 1 4 VP
def VR:S3:=Zq (aA 1 (aV (Ze))) (Zq (qM (dI (Zb 0)) (b_ 2) (aK (e2 jG (e2 Zm (Zb 2) (e1 jn (eC (.int 1)))) (eC (.str [48,49,50,51,52,53,54,55,56,57]))) (bj (aQ bI cQ (Zb 1) (Za (aJ nj (Za (Zb 2) (Ze))) (Ze)))) (bj (aQ bI cQ (Zb 1) (Za (Zb 2) (Ze)))))) (aR (aJ kO (Za (Zb 1) (Ze)))))
def o8:F3:=bF 1 3 VR
def VV:S3:=Zq (aA 1 (eC .non)) (Zq (HD [[66,97,100,82,111,119]] 2 (bj (Zx nG (oX (Za (Zb 0) (Ze))))) (aA 1 (Zb 2))) (aR (gq (e2 TV (Zb 1) (eC .non)) (Zx zZ (Za (e1 (Ik [66,97,100,82,111,119] [114,111,119]) (Zb 1)) (Za (eC (.int 1)) (Ze)))))))
def Iu:F3:=bF 1 3 VV
def V0:S3:=Zq (aA 1 (aV (Za (c7 (Zb 0) (dZ) (cW (eC (.int 120)))) (Za (eC (.int 0)) (Ze))))) (Zq (aA 2 (Zx jM (Za (Zb 1) (Ze)))) (Zq (aA 3 (Zx Nu (Za (Zb 1) (Ze)))) (Zq (qM (wU (eC (.int 4))) (b_ 4) (Zq (aA 5 (e2 aU (e2 Zt (Zb 2) (Zb 4)) (eC (.int 5)))) (Zq (aA 6 (Zx xR (Za (Zb 1) (Za (Zb 3) (Ze))))) (Zq (aA 7 (Zx xR (Za (Zb 1) (Za (Zb 3) (Ze))))) (Zq (aA 8 (e2 Zt (aV (Za (e2 Zm (aV (Za (eC (.str [116,101,108,108])) (Za (eC (.str [119,104,101,110])) (Za (eC (.str [119,104,105,108,101])) (Za (eC (.str [115,101,116])) (Za (eC (.str [112,117,116])) (Ze))))))) (Zb 5)) (Ze))) (Zb 6))) (Zq (aA 9 (bD (Za (e2 Zm (Zb 8) (eC (.int 0))) (Za (Zx o8 (Za (Zb 6) (Ze))) (Ze))))) (Zq (aA 10 (e2 iU (Zx tX (Za (Zb 6) (Ze))) (eC (.int 7)))) (Zq (aK (e2 aY (Zb 5) (eC (.int 3))) (Zq (aA 8 (e2 Zt (aV (Za (eC (.str [115,101,116])) (Za (e2 Zm (Zb 3) (Zb 4)) (Ze)))) (Zb 6))) (aA 9 (bD (Za (eC (.str [115,101,116])) (Za (e2 Zm (Zb 3) (Zb 4)) (Za (Zx o8 (Za (Zb 6) (Ze))) (Ze))))))) (aZ)) (Zq (aK (e2 aY (Zb 5) (eC (.int 4))) (Zq (aA 8 (e2 Zt (Zb 8) (Zb 7))) (Zq (aA 9 (bD (Za (eC (.str [112,117,116])) (Za (Zx o8 (Za (Zb 6) (Ze))) (Za (Zx o8 (Za (Zb 7) (Ze))) (Ze)))))) (aA 10 (gq (Zb 10) (e2 iU (Zx tX (Za (Zb 7) (Ze))) (eC (.int 6))))))) (aZ)) (Zq (aA 11 (e2 Zt (aQ iz u5 (eC (.str [32])) (Za (Zb 8) (Ze))) (e2 Zm (aV (Za (eC (.str [])) (Za (eC (.str [10,101,108,115,101,10,101,110,100])) (Za (eC (.str [10,101,110,100])) (Za (eC (.str [])) (Za (eC (.str [])) (Ze))))))) (Zb 5)))) (Zq (aK (e2 aY (Zb 5) (eC (.int 1))) (aA 9 (e2 Zt (Zb 9) (bD (Za (bD (Ze)) (Za (bD (Ze)) (Ze)))))) (aZ)) (Zq (aK (e2 aY (Zb 5) (eC (.int 2))) (aA 9 (e2 Zt (Zb 9) (bD (Za (bD (Ze)) (Ze))))) (aZ)) (aK (cU (e1 iT (Zb 10)) (e2 dY (aJ bG (Za (Zb 8) (Ze))) (eC (.int 60)))) (aK (e1 iT (Zx Iu (Za (Zb 11) (Ze)))) (aR (eC (.bl false))) (aZ)) (aK (cU (e1 iT (Zx zZ (Za (Zx nG (Za (Zb 11) (Ze))) (Za (bD (Za (bD (Ze)) (Za (bD (Za (Zb 9) (Ze))) (Ze)))) (Ze))))) (e2 fj (Zx xQ (Za (bD (Za (bD (Ze)) (Za (bD (Za (Zb 9) (Ze))) (Ze)))) (Ze))) (Zb 11))) (aR (eC (.bl false))) (aZ))))))))))))))) (aR (eC (.bl true))))))
def ZoK:F3:=bF 1 12 V0
end
end Law
namespace Law
open PySem PySem.Spec PyProof.Rows L2 L3
theorem eG{N P:List aj}{sc:Scope}(a:sc.kind= .function:=by rfl)(b:sc.isCoroutine=false:=by rfl)(c:sc.isGenerator=false:=by rfl)(d:N.Nodup:=by decide +kernel)(e:N.take P.length=P:=by rfl)(f:∀x∈P,sc.names.lookup x=Ya .local\/sc.names.lookup x=Ya .cell:=by decide +kernel)(g:∀y∈sc.names,y.2≠ .free:=by decide +kernel):cL N P sc:=⟨a,b,c,d,e,f,g⟩
noncomputable def top(i:Nat):Ydi:=PySem.Challenge.pw_stepledger_k65_deep_sums.main.body.getD i (.Pass ⟨0,0,0,0⟩)
noncomputable abbrev Dt:Ydi:=top 6
noncomputable abbrev Du:Ydi:=top 7
noncomputable abbrev Dv:Ydi:=top 10
noncomputable abbrev Dw:Ydi:=top 11
noncomputable abbrev Dy:Ydi:=top 12
noncomputable abbrev Dz:Ydi:=top 13
noncomputable abbrev DG:Ydi:=top 25
noncomputable abbrev DK:Ydi:=top 26
noncomputable abbrev DN:Ydi:=top 27
noncomputable abbrev DP:Ydi:=top 28
noncomputable abbrev DQ:Ydi:=top 29
noncomputable abbrev DR:Ydi:=top 30
noncomputable abbrev DW:Ydi:=top 31
noncomputable abbrev DX:Ydi:=top 32
noncomputable abbrev DY:Ydi:=top 33
noncomputable abbrev D_:Ydi:=top 34
noncomputable abbrev Ea:Ydi:=top 35
noncomputable abbrev Eb:Ydi:=top 36
noncomputable abbrev Ec:Ydi:=top 38
noncomputable abbrev Ed:Ydi:=top 39
noncomputable abbrev Ef:Ydi:=top 40
noncomputable abbrev Eg:Ydi:=top 41
noncomputable abbrev Eh:Ydi:=top 42
noncomputable abbrev Ei:Ydi:=top 43
noncomputable abbrev Ej:Ydi:=top 44
noncomputable abbrev Ek:Ydi:=top 45
noncomputable abbrev El:Ydi:=top 46
noncomputable abbrev vy:Ydi:=top 47
noncomputable abbrev z_:Ydi:=(Zoz (top 24)).getD 0 (.Pass ⟨0,0,0,0⟩)
structure Iv(K:vR)(mg:aj->Option Ye)(C:Yt):Prop where
  ok:zO K [66,108,111,99,107] C
  mg:mg "Block" =Ya (.ref C)
  JF:sO K C (nm [104,101,97,100])
  yc:sO K C (nm [108,105,115,116,115])
noncomputable abbrev tY:Ydi:=(Zoz (top 2)).getD 0 (.Pass ⟨0,0,0,0⟩)
structure Iw(K:vR)(mg:aj->Option Ye)(eX cu iK:Yt):Prop where
  Aan:mg "LedgerError" =Ya (.ref eX)
  Ff:mg "BadRow" =Ya (.ref cu)
  x_:Vp K [66,97,100,82,111,119] cu eX iK "row" "BadRow.__init__" tY ["self","row"]
  Ab8:Vo K [66,97,100,82,111,119] cu (nm [114,111,119])
  Ab9:∀c C,([[66,97,100,82,111,119]]:List (List Nat)).contains c=true->ClsAt K c C->Qw K (.ref C) (.ref cu)=Ya true
theorem ZgA:cL ["self","row"] ["self","row"] (Zn tY):=eG
theorem Nx{P:Y8}{w:aO}{K:vR}{mg:aj->Option Ye}{base:aC}{eX cu iK:Yt}(XO:Iw K mg eX cu iK):Zqw P w K mg base cu iK "row" ["self","row"]:=by obtain⟨fd,F,b⟩:=XO.x_.fn;exact⟨fd,b,fnI (k:=0) F ZgA rfl λcdv A outer s H E hr=>⟨_,Sv (Sx (ZsQ XO.x_.own XO.Aan (pM (GJ (i:=0) rfl (Or.inl rfl)) (pM (ZsT (GJ (i:=1) rfl (Or.inl rfl))) y_)))) (Sw (ZtJ XO.x_.own (GJ (i:=0) rfl (Or.inl rfl)) (GJ (i:=1) rfl (Or.inl rfl)))),λD e i hi he hq=>ZxK rfl hi he hq⟩⟩
structure Txt(K:vR)(mg:aj->Option Ye):Prop where
  yW:True
  Ba:mg "all" =Yk
  PB:mg "bool" =Yk
  O8:mg "enumerate" =Yk
  PN:mg "int" =Yk
  rO:mg "isinstance" =Yk
  fZ:mg "len" =Yk
  Xi:mg "list" =Yk
  PQ:mg "max" =Yk
  JD:mg "range" =Yk
  Abs:mg "reversed" =Yk
  AcB:mg "set" =Yk
  Fl:mg "str" =Yk
  qw:mg "tuple" =Yk
  vJ:∃t,mg "FIGURES" =Ya (.str "0123456789" t)
  xZ:∃t,mg "LETTERS" =Ya (.str "abcdefghijklmnopqrstuvwxyz" t)
  Xd:∃a,mg "LISTS" =Ya (.ref a)/\mG K a o5
  xY:∃t,mg "MOST_BLOCKS" =Ya (.int 12 t)
  ug:∃t,mg "MOST_DEPTH" =Ya (.int 6 t)
  rJ:∃t,mg "MOST_FIGURES" =Ya (.int 60 t)
  rK:∃t,mg "MOST_LETTERS" =Ya (.int 8 t)
  Av:∃t,mg "MOST_TAKEN" =Ya (.int 6 t)
  rN:∃t,mg "MOST_WORDS" =Ya (.int 60 t)
  Xe:∃a,mg "PARTS" =Ya (.ref a)/\mG K a o6
  Xj:∃a,mg "SUMS" =Ya (.ref a)/\mG K a gB
  Acg:∃a,mg "WORDS" =Ya (.ref a)/\Dh K (cZ.map λy=>(⟨y.toArray⟩:aj)) (.ref a)=true
variable{X:Cx}{pos:aP}
theorem Zny(T:Txt X.K X.mg)(hg:Gl X "FIGURES":=by rfl):C3 X (.Name "FIGURES" pos) vJ:=by obtain⟨t,e⟩:=T.vJ;refine u_ (v:=.str ⟨([48,49,50,51,52,53,54,55,56,57]:List Nat).toArray⟩) e ⟨t,?_⟩ (λ_ _=>Rep.str) hg;exact congrArg (λz=>Value.str z t) (by decide +kernel)
theorem Zm4(T:Txt X.K X.mg)(hg:Gl X "LETTERS":=by rfl):C3 X (.Name "LETTERS" pos) xZ:=by obtain⟨t,e⟩:=T.xZ;refine u_ (v:=.str ⟨([97,98,99,100,101,102,103,104,105,106,107,108,109,110,111,112,113,114,115,116,117,118,119,120,121,122]:List Nat).toArray⟩) e ⟨t,?_⟩ (λ_ _=>Rep.str) hg;exact congrArg (λz=>Value.str z t) (by decide +kernel)
variable{e:Expr}{g:E3}{npos:aP}
theorem ZnT{e':Expr}{apos cpos:aP}{g':E3}(T:Txt X.K X.mg)(he:C3 X e g)(he':C3 X e' g')(m:M2 X (.Name "LISTS" npos) "get" apos e e' cpos:=by exact⟨rfl,rfl,rfl,rfl⟩)(hg:Gl X "LISTS":=by rfl):C3 X (.Call (.Attribute (.Name "LISTS" npos) "get" apos) [e,e'] [] cpos) (e2 (u6 o5) g g'):=by obtain⟨a,hm,ht⟩:=T.Xd;exact Zop hm ht he he' m hg
theorem Zia(T:Txt X.K X.mg)(he:C3 X e g)(hg:Gl X "LISTS":=by rfl):CT X (.Compare e [.In] [.Name "LISTS" npos] pos) (e1 (vg o5) g):=by obtain⟨a,hm,ht⟩:=T.Xd;exact Zsm hm ht he hg
theorem Zjg(T:Txt X.K X.mg)(hg:Gl X "MOST_BLOCKS":=by rfl):C3 X (.Name "MOST_BLOCKS" pos) xY:=by obtain⟨t,e⟩:=T.xY;exact u_ (v:=.int 12) e ⟨t,rfl⟩ (λ_ _=>Rep.int) hg
theorem ZjN(T:Txt X.K X.mg)(hg:Gl X "MOST_DEPTH":=by rfl):C3 X (.Name "MOST_DEPTH" pos) ug:=by obtain⟨t,e⟩:=T.ug;exact u_ (v:=.int 6) e ⟨t,rfl⟩ (λ_ _=>Rep.int) hg
theorem Zio(T:Txt X.K X.mg)(hg:Gl X "MOST_FIGURES":=by rfl):C3 X (.Name "MOST_FIGURES" pos) rJ:=by obtain⟨t,e⟩:=T.rJ;exact u_ (v:=.int 60) e ⟨t,rfl⟩ (λ_ _=>Rep.int) hg
theorem Ziv(T:Txt X.K X.mg)(hg:Gl X "MOST_LETTERS":=by rfl):C3 X (.Name "MOST_LETTERS" pos) rK:=by obtain⟨t,e⟩:=T.rK;exact u_ (v:=.int 8) e ⟨t,rfl⟩ (λ_ _=>Rep.int) hg
theorem ZjU(T:Txt X.K X.mg)(hg:Gl X "MOST_TAKEN":=by rfl):C3 X (.Name "MOST_TAKEN" pos) Av:=by obtain⟨t,e⟩:=T.Av;exact u_ (v:=.int 6) e ⟨t,rfl⟩ (λ_ _=>Rep.int) hg
theorem ZjY(T:Txt X.K X.mg)(hg:Gl X "MOST_WORDS":=by rfl):C3 X (.Name "MOST_WORDS" pos) rN:=by obtain⟨t,e⟩:=T.rN;exact u_ (v:=.int 60) e ⟨t,rfl⟩ (λ_ _=>Rep.int) hg
theorem Znm{e':Expr}{apos cpos:aP}{g':E3}(T:Txt X.K X.mg)(he:C3 X e g)(he':C3 X e' g')(m:M2 X (.Name "PARTS" npos) "get" apos e e' cpos:=by exact⟨rfl,rfl,rfl,rfl⟩)(hg:Gl X "PARTS":=by rfl):C3 X (.Call (.Attribute (.Name "PARTS" npos) "get" apos) [e,e'] [] cpos) (e2 (u6 o6) g g'):=by obtain⟨a,hm,ht⟩:=T.Xe;exact Zop hm ht he he' m hg
theorem Znt(T:Txt X.K X.mg)(he:C3 X e g)(hg:Gl X "PARTS":=by rfl):C3 X (.Compare e [.In] [.Name "PARTS" npos] pos) (e1 (vg o6) g):=by obtain⟨a,hm,ht⟩:=T.Xe;exact Zul hm ht he hg
theorem ZjV(T:Txt X.K X.mg)(he:C3 X e g)(hg:Gl X "SUMS":=by rfl):CT X (.Compare e [.NotIn] [.Name "SUMS" npos] pos) (e1 (Ih gB) g):=by obtain⟨a,hm,ht⟩:=T.Xj;exact Zl7 hm ht he hg
theorem ZpR(T:Txt X.K X.mg)(he:C3 X e g)(hs:Lx e:=by exactλ_ _=>rfl)(hg:Gl X "SUMS":=by rfl):C3 X (.Subscript (.Name "SUMS" npos) e pos) (e1 (Dk gB) g):=by obtain⟨a,hm,ht⟩:=T.Xj;exact Ztt hm ht he hs hg
theorem Zqs(T:Txt X.K X.mg)(hg:Gl X "WORDS":=by rfl):C3 X (.Name "WORDS" pos) vh:=by obtain⟨a,hm,ht⟩:=T.Acg;exact Zs5 hm ht hg
section
variable {P:Y8} {w:aO} {K:vR} {mg:aj->Option Ye} {base:aC}
theorem Zg2:cL ["word","figures"] ["word"] (Zn Dt):=eG
theorem Zlq(A:bL K mg "is_number" Dt ["word"])(T:Txt K mg):aM P w K mg base 1 "is_number" ["word"] q_:=aM.of (N:=["word","figures"]) (k:=0) A Zg2 λf cdv A outer s H E hr=>by have hu:=eU hr;unfold Il;exact Zg (Zy 1 Zg2.nd (Cz (mF (ZeM (Zd 0) (Zc bf Zf))) (p_ qb (Zd 0) (oY Zj) qP) (Zd 0))) (Zg (cg (CW.ct (p7 (bN xG (d8 (id:="len") gK T.fZ gA (Zc (Zd 1) Zf)) Zj) (tD (bN qQ (d8 (id:="len") gK T.fZ gA (Zc (Zd 1) Zf)) (Zio T))))) (Zk (bQ zy)) cO) (Zg (cg (mF (ZeM (Zd 1) (Zc bf Zf))) (Zk (bQ (nq ((d9 hu)) (Zd 0) bf))) cO) (Zk (bQ (d8 (id:="all") ((Dc rfl)) T.Ba C_ (Zc (qW (N':=["word","figures","figure"]) (nA rfl (by kernel_rfl)) rfl rfl (nu (Zd 1)) (λC cl s H ex=>⟨(jL 2 ((show jQ (["word","figures","figure"]:List aj)by decide +kernel))),oZ,(nq ((MK hu)) (Zd 2) (Zny T))⟩)) Zf))))))
theorem Zk4:cL ["row"] ["row"] (Zn Du):=eG
theorem Zlc(A:bL K mg "shown_row" Du ["row"])(T:Txt K mg):aM P w K mg base 1 "shown_row" ["row"] Im:=aM.of (N:=["row"]) (k:=0) A Zk4 λf cdv A outer s H E hr=>by have hu:=eU hr;unfold Vx;exact Zk (bQ (U6 bf (Zc (qW (N':=["row","word"]) (nA rfl (by kernel_rfl)) rfl rfl (nu (Zd 0)) (λC cl s H ex=>⟨(jL 1 ((show jQ (["row","word"]:List aj)by decide +kernel))),oZ,(p8 (T:="str") U3 T.Fl UL (Zc (Zd 1) Zf))⟩)) Zf)))
theorem Em:cL ["words","sums","lacking","word"] ["words"] (Zn Dv):=eG
theorem ZnB(A:bL K mg "sums_in" Dv ["words"])(T:Txt K mg):aM P w K mg base 1 "sums_in" ["words"] xP:=aM.of (N:=["words","sums","lacking","word"]) (k:=0) A Em λf cdv A outer s H E hr=>by have hu:=eU hr;unfold Vy;exact Zg (Zy 1 Em.nd (cF Zf)) (Zg (Zy 2 Em.nd Zj) (Zg (CK rfl rfl (nu (Zd 0)) (jL 3 Em.nd) (Zg (cg (bN ((d9 hu)) (Zd 2) Zj) (Zg (iW (lz (Zd 1) (Zc (cF Zf) Zf))) (Zk (Zy 2 Em.nd Zj))) cO) (Zg (iW (lz (bw bx (Zd 1) (tu tH Zj)) (Zc (Zd 3) Zf))) (Zk (Zy 2 Em.nd (Zu bZ (Zu zE (Zd 2) Zj) (Znm T (Zd 3) Zj))))))) (Zk (bQ (Cz (bN ((d9 hu)) (Zd 2) Zj) (qW (N':=["words","sums","lacking","word","one"]) (nA rfl (by kernel_rfl)) rfl rfl (nu (Zd 1)) (λC cl s H ex=>⟨(jL 4 ((show jQ (["words","sums","lacking","word","one"]:List aj)by decide +kernel))),oZ,(p8 (T:="tuple") zK T.qw zL (Zc (Zd 4) Zf))⟩)) p6)))))
theorem Zj7:cL ["word"] ["word"] (Zn Dw):=eG
theorem ZjX(A:bL K mg "needs_sums" Dw ["word"])(T:Txt K mg):aM P w K mg base 1 "needs_sums" ["word"] Dm:=aM.of (N:=["word"]) (k:=0) A Zj7 λf cdv A outer s H E hr=>by have hu:=eU hr;unfold Zhq;exact Zk (bQ (Znt T (Zd 0)))
theorem ZmI:cL ["words"] ["words"] (Zn Dy):=eG
theorem Zmu(A:bL K mg "parts_of" Dy ["words"])(T:Txt K mg)(Ay:aM P w K mg base 1 "sums_in" ["words"] xP):aM P w K mg base 2 "parts_of" ["words"] Np:=aM.of (N:=["words"]) (k:=1) A ZmI λf cdv A outer s H E hr=>by have hu:=eU hr;unfold Vz;exact Zk (bQ (cj (k:=1) (ps:=["words"]) Ay (hr.mono (by decide)) (Zc (p_ qb (Zd 0) (oY Zj) qP) Zf)))
theorem V1:cL ["words","parts"] ["words"] (Zn Dz):=eG
theorem Zq2(A:bL K mg "depth" Dz ["words"])(T:Txt K mg)(Ph:aM P w K mg base 2 "parts_of" ["words"] Np):aM P w K mg base 64 "depth" ["words"] Io:=by
  have all:∀n:Nat,aM P w K mg base (n+3) "depth" ["words"] (zV n):=by
    intro n
    induction n with
    |zero=>exact aM.of (N:=["words","parts"]) (k:=2) A V1 λf cdv A outer s H E hr=>MN|succ n IH=>refine(aM.of (N:=["words","parts"]) (k:=n+3) A V1 λf cdv A outer s H E hr=>?_).mono (by omega);have hu:=eU hr;unfold VB;exact Zg (Zy 1 V1.nd (cj (k:=2) (ps:=["words"]) Ph (hr.mono (by omega)) (Zc (Zd 0) Zf))) (Zk (bQ (ZqI T.PQ (ZyM (N':=["words","parts","deeper","part"]) (nA rfl (by kernel_rfl)) rfl rfl (ZoR T.O8 (Zd 1)) (λC cl s H ex=>⟨(Mq rfl (xu 2 ((show jQ (["words","parts","deeper","part"]:List aj)by decide +kernel)) (xu 3 ((show jQ (["words","parts","deeper","part"]:List aj)by decide +kernel)) Mp))),oZ,(Zu bZ (cj (k:=n+3) (ps:=["words"]) IH hr (Zc (Zd 3) Zf)) (Zd 2))⟩)))))
  exact all 61
theorem ZnX:cL ["word"] ["word"] (Zn DN):=eG
theorem Zm7(A:bL K mg "is_name" DN ["word"])(T:Txt K mg):aM P w K mg base 1 "is_name" ["word"] o7:=aM.of (N:=["word"]) (k:=0) A ZnX λf cdv A outer s H E hr=>by have hu:=eU hr;unfold Nq;exact Zg (cg (CW.ct (p7 (bN xG (d8 (id:="len") gK T.fZ gA (Zc (Zd 0) Zf)) Zj) (p7 (bN qQ (d8 (id:="len") gK T.fZ gA (Zc (Zd 0) Zf)) (Ziv T)) (tD (bN ((MK hu)) (Zd 0) (Zqs T)))))) (Zk (bQ zy)) cO) (Zk (bQ (d8 (id:="all") ((Dc rfl)) T.Ba C_ (Zc (qW (N':=["word","letter"]) (nA rfl (by kernel_rfl)) rfl rfl (nu (Zd 0)) (λC cl s H ex=>⟨(jL 1 ((show jQ (["word","letter"]:List aj)by decide +kernel))),oZ,(nq ((MK hu)) (Zd 1) (Zm4 T))⟩)) Zf))))
theorem Zgn:cL ["row","names"] ["row"] (Zn DK):=eG
theorem Zka(A:bL K mg "read_taken" DK ["row"])(T:Txt K mg){eX cu iK:Yt}(XO:Iw K mg eX cu iK)(uh:aM P w K mg base 1 "is_name" ["word"] o7):nC P w K mg base 3 "read_taken" ["row"] VD:=nC.of (N:=["row","names"]) (k:=2) A Zgn λf cdv A outer s H E hr=>by have hu:=eU hr;unfold Zhp;exact o4 (tQ (Zy 1 Zgn.nd (p_ qb (bw bx (Zd 0) Zj) (oY Zj) qP))) (o4 (Ib (CW.ct (p7 (bN xG (d8 (id:="len") gK T.fZ gA (Zc (Zd 1) Zf)) Zj) (p7 (bN qQ (d8 (id:="len") gK T.fZ gA (Zc (Zd 1) Zf)) (ZjU T)) (tD (bN ((zH hu)) (Zqu T.fZ T.AcB (Zd 1)) (d8 (id:="len") gK T.fZ gA (Zc (Zd 1) Zf))))))) (tR (Nm (C:=cu) (fI:=iK) (fn:="row") (CL:=eX) (qual:="BadRow.__init__") (st:=tY) (ps:=["self","row"]) XO.x_ (Nx XO) (hr.mono (by decide)) XO.Ff (Zc (bw bx (Zd 0) Zj) Zf))) (Ia cO)) (o4 (Ib (xr (mF (d8 (id:="all") ((Dc rfl)) T.Ba C_ (Zc (qW (N':=["row","names","name"]) (nA rfl (by kernel_rfl)) rfl rfl (nu (Zd 1)) (λC cl s H ex=>⟨(jL 2 ((show jQ (["row","names","name"]:List aj)by decide +kernel))),oZ,(cj (k:=1) (ps:=["word"]) uh (hr.mono (by decide)) (Zc (Zd 2) Zf))⟩)) Zf)))) (tR (Nm (C:=cu) (fI:=iK) (fn:="row") (CL:=eX) (qual:="BadRow.__init__") (st:=tY) (ps:=["self","row"]) XO.x_ (Nx XO) (hr.mono (by decide)) XO.Ff (Zc (bw bx (Zd 0) Zj) Zf))) (Ia cO)) (tR (tQ (bQ (p8 (T:="tuple") zK T.qw zL (Zc (Zd 1) Zf)))))))
theorem Zg7:cL ["self","head"] ["self","head"] (Zn z_):=eG
theorem ZgP{cR:Yt}(dB:Iv K mg cR)(A:M8 K cR "Block.__init__" z_ ["self","head"])(T:Txt K mg):zP P w K mg base 1 cR ["self","head"] vm:=zP.of (N:=["self","head"]) (k:=0) A Zg7 λf cdv A outer s H E hr=>by have hu:=eU hr;unfold ZeN;exact Zg (Zrm (C:=cR) (c:=[66,108,111,99,107]) (m:=[104,101,97,100]) dB.ok dB.JF (Zd 0) (Zd 1)) (Zk (Zrm (C:=cR) (c:=[66,108,111,99,107]) (m:=[108,105,115,116,115]) dB.ok dB.yc (Zd 0) (cF (Zc (cF Zf) Zf))))
theorem V2:cL ["words","sums","depths"] ["words"] (Zn DR):=eG
theorem Zk7(A:bL K mg "read_sums" DR ["words"])(T:Txt K mg)(Jy:aM P w K mg base 1 "is_number" ["word"] q_)(Ay:aM P w K mg base 1 "sums_in" ["words"] xP)(O5:aM P w K mg base 1 "needs_sums" ["word"] Dm)(Py:aM P w K mg base 64 "depth" ["words"] Io)(uh:aM P w K mg base 1 "is_name" ["word"] o7):aM P w K mg base 65 "read_sums" ["words"] Dn:=aM.of (N:=["words","sums","depths"]) (k:=64) A V2 λf cdv A outer s H E hr=>by have hu:=eU hr;unfold Nr;exact Zg (cg (xr (mF (d8 (id:="all") ((Dc rfl)) T.Ba C_ (Zc (qW (N':=["words","sums","depths","word"]) (nA rfl (by kernel_rfl)) rfl rfl (nu (Zd 0)) (λC cl s H ex=>⟨(jL 3 ((show jQ (["words","sums","depths","word"]:List aj)by decide +kernel))),oZ,(Zx9 (cj (k:=1) (ps:=["word"]) O5 (hr.mono (by decide)) (Zc (Zd 3) Zf)) (Zx9 (cj (k:=1) (ps:=["word"]) uh (hr.mono (by decide)) (Zc (Zd 3) Zf)) (xj (cj (k:=1) (ps:=["word"]) Jy (hr.mono (by decide)) (Zc (Zd 3) Zf)))))⟩)) Zf)))) (Zk (bQ p6)) cO) (Zg (Zy 1 V2.nd (cj (k:=1) (ps:=["words"]) Ay (hr.mono (by decide)) (Zc (qW (N':=["words","sums","depths","word"]) (nA rfl (by kernel_rfl)) rfl rfl (nu (Zd 0)) (λC cl s H ex=>⟨(jL 3 ((show jQ (["words","sums","depths","word"]:List aj)by decide +kernel))),oZ,(Cz (mF (cj (k:=1) (ps:=["word"]) Jy (hr.mono (by decide)) (Zc (Zd 3) Zf))) (p8 (T:="int") Zrz T.PN ZrJ (Zc (Zd 3) Zf)) (Zd 3))⟩)) Zf))) (Zg (cg (bN Ui (Zd 1) p6) (Zk (bQ p6)) cO) (Zg (ZkC (N':=["words","sums","depths","deeper","one"]) 2 (nA rfl (by kernel_rfl)) rfl rfl V2.nd (ZoR T.O8 (Zd 1)) (λC cl s H ex=>⟨(Mq rfl (xu 3 ((show jQ (["words","sums","depths","deeper","one"]:List aj)by decide +kernel)) (xu 4 ((show jQ (["words","sums","depths","deeper","one"]:List aj)by decide +kernel)) Mp))),oZ,(Zu bZ (cj (k:=64) (ps:=["words"]) Py (hr.mono (by decide)) (Zc (Zd 4) Zf)) (Zd 3))⟩)) (Zk (bQ (Cz (bN Zxx (ZqI T.PQ (Zd 2)) (ZjN T)) (Zd 1) p6))))))
theorem V3:cL ["words","begin","sums"] ["words"] (Zn DQ):=eG
theorem ZkL(A:bL K mg "read_deed" DQ ["words"])(T:Txt K mg)(uh:aM P w K mg base 1 "is_name" ["word"] o7)(O9:aM P w K mg base 65 "read_sums" ["words"] Dn):aM P w K mg base 66 "read_deed" ["words"] vo:=aM.of (N:=["words","begin","sums"]) (k:=65) A V3 λf cdv A outer s H E hr=>by have hu:=eU hr;unfold Ip;exact Zg (cg (CW.ct (p7 (ZjV T (bw bx (Zd 0) Zj)) (tD (bN qQ (d8 (id:="len") gK T.fZ gA (Zc (Zd 0) Zf)) (ZjY T))))) (Zk (bQ p6)) cO) (Zg (Zy 1 V3.nd (Cz (bN ((d9 hu)) (bw bx (Zd 0) Zj) bf) Zj Zj)) (Zg (cg (xr (mF (d8 (id:="all") ((Dc rfl)) T.Ba C_ (Zc (qW (N':=["words","begin","sums","word"]) (nA rfl (by kernel_rfl)) rfl rfl (nu (p_ qb (Zd 0) (oY Zj) (oY (Zd 1)))) (λC cl s H ex=>⟨(jL 3 ((show jQ (["words","begin","sums","word"]:List aj)by decide +kernel))),oZ,(cj (k:=1) (ps:=["word"]) uh (hr.mono (by decide)) (Zc (Zd 3) Zf))⟩)) Zf)))) (Zk (bQ p6)) cO) (Zg (Zy 2 V3.nd (cj (k:=65) (ps:=["words"]) O9 (hr.mono (by decide)) (Zc (p_ qb (Zd 0) (oY (Zd 1)) qP) Zf))) (Zg (cg (CW.ct (p7 (bN Ui (Zd 2) p6) (tD (bN ((zH hu)) (d8 (id:="len") gK T.fZ gA (Zc (Zd 2) Zf)) (ZpR T (bw bx (Zd 0) Zj)))))) (Zk (bQ p6)) cO) (Zk (bQ (p8 (T:="tuple") zK T.qw zL (Zc (Zu bZ (p_ qb (Zd 0) qP (oY (Zd 1))) (Zd 2)) Zf))))))))
theorem V4:cL ["blocks","word","inner","full"] ["blocks","word"] (Zn DW):=eG
theorem Zld(A:bL K mg "can_stand" DW ["blocks","word"])(T:Txt K mg){cR:Yt}(dB:Iv K mg cR):aM P w K mg base 1 "can_stand" ["blocks","word"] zW:=aM.of (N:=["blocks","word","inner","full"]) (k:=0) A V4 λf cdv A outer s H E hr=>by have hu:=eU hr;unfold VF;exact Zg (Zy 2 V4.nd (bw bx (Zd 0) (tu tH Zj))) (Zg (Zy 3 V4.nd (nq ((d9 hu)) (ZnT T (bw bx (vf (C:=cR) (c:=[66,108,111,99,107]) (m:=[104,101,97,100]) dB.ok dB.JF (Zd 2)) Zj) Zj) (d8 (id:="len") gK T.fZ gA (Zc (vf (C:=cR) (c:=[66,108,111,99,107]) (m:=[108,105,115,116,115]) dB.ok dB.yc (Zd 2)) Zf)))) (Zg (cg (Zia T (Zd 1)) (Zk (bQ (nq Zxx (d8 (id:="len") gK T.fZ gA (Zc (Zd 0) Zf)) (Zjg T)))) cO) (Zg (cg (bN ((d9 hu)) (Zd 1) bf) (Zk (bQ (xq (nq ((d9 hu)) (bw bx (vf (C:=cR) (c:=[66,108,111,99,107]) (m:=[104,101,97,100]) dB.ok dB.JF (Zd 2)) Zj) bf) (xj (ZuU (Zd 3)))))) cO) (Zg (cg (bN ((d9 hu)) (Zd 1) bf) (Zk (bQ (Zd 3))) cO) (Zk (bQ zy))))))
theorem V5:cL ["blocks","deed","inner","whole"] ["blocks","deed"] (Zn DX):=eG
theorem Zj5(A:bL K mg "place_deed" DX ["blocks","deed"])(T:Txt K mg){cR:Yt}(dB:Iv K mg cR)(Ar:zP P w K mg base 1 cR ["self","head"] vm):aM P w K mg base 3 "place_deed" ["blocks","deed"] vp:=aM.of (N:=["blocks","deed","inner","whole"]) (k:=2) A V5 λf cdv A outer s H E hr=>by have hu:=eU hr;unfold zX;exact Zg (Zy 2 V5.nd (bw bx (Zd 0) (tu tH Zj))) (Zk (cg (Zia T (bw bx (Zd 1) Zj)) (Zk (iW (lz (Zd 0) (Zc (ZxV (C:=cR) (c:=[66,108,111,99,107]) (k:=1) (ps:=["self","head"]) dB.ok Ar dB.mg (hr.mono (by decide)) (Zc (Zd 1) Zf)) Zf)))) (Zk (cg (bN ((d9 hu)) (bw bx (Zd 1) Zj) bf) (Zk (iW (lz (vf (C:=cR) (c:=[66,108,111,99,107]) (m:=[108,105,115,116,115]) dB.ok dB.yc (Zd 2)) (Zc (cF Zf) Zf)))) (Zk (cg (bN ((d9 hu)) (bw bx (Zd 1) Zj) bf) (Zg (iW (M7 (Zd 0))) (Zg (Zy 3 V5.nd (Zu bZ (vf (C:=cR) (c:=[66,108,111,99,107]) (m:=[104,101,97,100]) dB.ok dB.JF (Zd 2)) (p8 (T:="tuple") zK T.qw zL (Zc (qW (N':=["blocks","deed","inner","whole","deeds"]) (nA rfl (by kernel_rfl)) rfl rfl (nu (vf (C:=cR) (c:=[66,108,111,99,107]) (m:=[108,105,115,116,115]) dB.ok dB.yc (Zd 2))) (λC cl s H ex=>⟨(jL 4 ((show jQ (["blocks","deed","inner","whole","deeds"]:List aj)by decide +kernel))),oZ,(p8 (T:="tuple") zK T.qw zL (Zc (Zd 4) Zf))⟩)) Zf)))) (Zk (iW (lz (bw bx (vf (C:=cR) (c:=[66,108,111,99,107]) (m:=[108,105,115,116,115]) dB.ok dB.yc (bw bx (Zd 0) (tu tH Zj))) (tu tH Zj)) (Zc (Zd 3) Zf)))))) (Zk (iW (lz (bw bx (vf (C:=cR) (c:=[66,108,111,99,107]) (m:=[108,105,115,116,115]) dB.ok dB.yc (Zd 2)) (tu tH Zj)) (Zc (Zd 1) Zf))))))))))
theorem Iz:cL ["rows","behind","blocks","number","words","deed"] ["rows","behind"] (Zn DP):=eG
theorem ZjP(A:bL K mg "read_deeds" DP ["rows","behind"])(T:Txt K mg){cR:Yt}(dB:Iv K mg cR){eX cu iK:Yt}(XO:Iw K mg eX cu iK)(Ar:zP P w K mg base 1 cR ["self","head"] vm)(O_:aM P w K mg base 66 "read_deed" ["words"] vo)(Pa:aM P w K mg base 1 "can_stand" ["blocks","word"] zW)(O6:aM P w K mg base 3 "place_deed" ["blocks","deed"] vp):nC P w K mg base 67 "read_deeds" ["rows","behind"] nF:=nC.of (N:=["rows","behind","blocks","number","words","deed"]) (k:=66) A Iz λf cdv A outer s H E hr=>by have hu:=eU hr;unfold Dp;exact o4 (tQ (Zy 2 Iz.nd (cF (Zc (ZxV (C:=cR) (c:=[66,108,111,99,107]) (k:=1) (ps:=["self","head"]) dB.ok Ar dB.mg (hr.mono (by decide)) (Zc (gJ (Zc bf Zf)) Zf)) Zf)))) (o4 (ZtX PassesOwn.leaving rfl (nu (Zd 0)) (Mq rfl (xu 3 Iz.nd (xu 4 Iz.nd Mp))) (o4 (tQ (Zy 5 Iz.nd (cj (k:=66) (ps:=["words"]) O_ (hr.mono (by decide)) (Zc (Zd 4) Zf)))) (o4 (Ib (CW.ct (p7 (bN Ui (Zd 5) p6) (tD (xr (mF (cj (k:=1) (ps:=["blocks","word"]) Pa (hr.mono (by decide)) (Zc (Zd 2) (Zc (bw bx (Zd 5) Zj) Zf)))))))) (tR (Nm (C:=cu) (fI:=iK) (fn:="row") (CL:=eX) (qual:="BadRow.__init__") (st:=tY) (ps:=["self","row"]) XO.x_ (Nx XO) (hr.mono (by decide)) XO.Ff (Zc (Zd 3) Zf))) (Ia cO)) (tR (tQ (iW (cj (k:=3) (ps:=["blocks","deed"]) O6 (hr.mono (by decide)) (Zc (Zd 2) (Zc (Zd 5) Zf))))))))) (o4 (Ib (bN qQ (d8 (id:="len") gK T.fZ gA (Zc (Zd 2) Zf)) Zj) (tR (Nm (C:=cu) (fI:=iK) (fn:="row") (CL:=eX) (qual:="BadRow.__init__") (st:=tY) (ps:=["self","row"]) XO.x_ (Nx XO) (hr.mono (by decide)) XO.Ff (Zc (Zd 1) Zf))) (Ia cO)) (tR (tQ (bQ (p8 (T:="tuple") zK T.qw zL (Zc (bw bx (vf (C:=cR) (c:=[66,108,111,99,107]) (m:=[108,105,115,116,115]) dB.ok dB.yc (bw bx (Zd 2) Zj)) Zj) Zf)))))))
theorem Eo:cL ["text","lines","rows","taken"] ["text"] (Zn DG):=eG
theorem ZsI(A:bL K mg "read" DG ["text"])(T:Txt K mg)(Jv:nC P w K mg base 3 "read_taken" ["row"] VD)(Jw:nC P w K mg base 67 "read_deeds" ["rows","behind"] nF):nC P w K mg base 68 "read" ["text"] nG:=nC.of (N:=["text","lines","rows","taken"]) (k:=67) A Eo λf cdv A outer s H E hr=>by have hu:=eU hr;unfold Dq;exact o4 (tQ (Zy 1 Eo.nd (Zh9 (Zd 0) (Zc bf Zf)))) (o4 (tQ (ZkC (N':=["text","lines","rows","taken","number","line"]) 2 (nA rfl (by kernel_rfl)) rfl rfl Eo.nd (Zqq T.O8 (Zd 1)) (λC cl s H ex=>⟨(Mq rfl (xu 4 ((show jQ (["text","lines","rows","taken","number","line"]:List aj)by decide +kernel)) (xu 5 ((show jQ (["text","lines","rows","taken","number","line"]:List aj)by decide +kernel)) Mp))),(Ztw (bN ((zH hu)) (Zd 5) bf)),(gJ (Zc (Zd 4) (Zc (Zh9 (Zd 5) (Zc bf Zf)) Zf)))⟩))) (o4 (tQ (Zy 3 Eo.nd (gJ Zf))) (o4 (Ib (CW.ct (Ml (bN qQ (d8 (id:="len") gK T.fZ gA (Zc (Zd 2) Zf)) Zj) (Ue (bN ((d9 hu)) (bw bx (bw bx (bw bx (Zd 2) Zj) Zj) Zj) bf)))) (o4 (Zs3 3 Eo.nd (Ve (k:=3) (ps:=["row"]) Jv (hr.mono (by decide)) (Zc (bw bx (Zd 2) Zj) Zf))) (tR (tQ (Zy 2 Eo.nd (p_ qb (Zd 2) (oY Zj) qP))))) (Ia cO)) (tR (Zty (Zww (Zd 3) (Ve (k:=67) (ps:=["rows","behind"]) Jw (hr.mono (by decide)) (Zc (Zd 2) (Zc (Zu bZ (d8 (id:="len") gK T.fZ gA (Zc (Zd 1) Zf)) Zj) Zf)))))))))
theorem Ny:cL ["deed","first","second"] ["deed"] (Zn Eb):=eG
theorem Nz:cL ["deeds","rows","deed"] ["deeds"] (Zn Ea):=eG
theorem ZeU(WQ:bL K mg "text_rows_of_deeds" Ea ["deeds"])(WR:bL K mg "text_rows_of_deed" Eb ["deed"])(T:Txt K mg):∀n:Nat,aM P w K mg base (n+1) "text_rows_of_deeds" ["deeds"] (rm n 0)/\aM P w K mg base (n+1) "text_rows_of_deed" ["deed"] (rm n 1):=by
  intro n
  induction n with
  |zero=>exact⟨aM.of (N:=["deeds","rows","deed"]) (k:=0) WQ Nz λf cdv A outer s H E hr=>MN,aM.of (N:=["deed","first","second"]) (k:=0) WR Ny λf cdv A outer s H E hr=>MN⟩
  | succ n IH=>
    obtain⟨OD,Aab⟩:=IH;refine⟨?_,?_⟩
    · refine(aM.of (N:=["deeds","rows","deed"]) (k:=n+1) WQ Nz λf cdv A outer s H E hr=>?_).mono (by omega)
      have hu:=eU hr;unfold ZdE;refine Zg ?_ ?_
      .exact Zy 1 Nz.nd (cF Zf)
      .refine Zg ?_ ?_
       .refine CK ?_ ?_ ?_ ?_ ?_
        .exact rfl
        .exact rfl
        .exact nu (Zd 0)
        .exact jL 2 Nz.nd
        .exact Zk (iW (Zhs (Zd 1) (Zc (cj (k:=n+1) (ps:=["deed"]) Aab hr (Zc (Zd 2) Zf)) Zf)))
       .exact Zk (bQ (Zd 1))
    · refine(aM.of (N:=["deed","first","second"]) (k:=n+1) WR Ny λf cdv A outer s H E hr=>?_).mono (by omega)
      have hu:=eU hr;unfold qe;refine Zg ?_ ?_
      .refine cg ?_ ?_ ?_
       .exact bN ((d9 hu)) (bw bx (Zd 0) Zj) bf
       .refine Zg ?_ ?_
        .exact Zy 1 Ny.nd (cj (k:=n+1) (ps:=["deeds"]) OD hr (Zc (bw bx (Zd 0) Zj) Zf))
        .refine Zg ?_ ?_
         .exact Zy 2 Ny.nd (cj (k:=n+1) (ps:=["deeds"]) OD hr (Zc (bw bx (Zd 0) Zj) Zf))
         .refine Zk ?_;refine bQ ?_;refine Zu ?_ ?_ ?_
          .exact bZ
          .refine Zu ?_ ?_ ?_
           .exact bZ
           .refine Zu ?_ ?_ ?_
            .exact bZ
            .exact Zu bZ (cF (Zc (Zu bZ (gJ (Zc bf Zf)) (bw bx (Zd 0) Zj)) Zf)) (Zd 1)
            .exact cF (Zc (gJ (Zc bf Zf)) Zf)
           .exact Zd 2
          .exact cF (Zc (gJ (Zc bf Zf)) Zf)
       .exact cO
      .refine Zg ?_ ?_
       .refine cg ?_ ?_ ?_
        .exact bN ((d9 hu)) (bw bx (Zd 0) Zj) bf
        .refine Zk ?_;refine bQ ?_;refine Zu ?_ ?_ ?_
         .exact bZ
         .refine Zu ?_ ?_ ?_
          .exact bZ
          .exact cF (Zc (Zu bZ (gJ (Zc bf Zf)) (bw bx (Zd 0) Zj)) Zf)
          .exact cj (k:=n+1) (ps:=["deeds"]) OD hr (Zc (bw bx (Zd 0) Zj) Zf)
         .exact cF (Zc (gJ (Zc bf Zf)) Zf)
        .exact cO
       .refine Zg ?_ ?_
        .refine cg ?_ ?_ ?_
         .exact bN ((d9 hu)) (bw bx (Zd 0) Zj) bf
         .refine Zk ?_;refine bQ ?_;refine cF ?_;refine Zc ?_ ?_
          .exact Zu bZ (Zu bZ (gJ (Zc bf Zf)) (bw bx (Zd 0) Zj)) (bw bx (Zd 0) Zj)
          .exact Zf
         .exact cO
        .refine Zk ?_;refine bQ ?_;refine cF ?_;refine Zc ?_ ?_
         .exact Zu bZ (p_ qb (Zd 0) qP (oY (tu tH Zj))) (bw bx (Zd 0) (tu tH Zj))
         .exact Zf
theorem ZgV:cL ["program","rows"] ["program"] (Zn D_):=eG
theorem ZlC(A:bL K mg "text_rows" D_ ["program"])(T:Txt K mg)(OJ:aM P w K mg base 29 "text_rows_of_deeds" ["deeds"] Nt):aM P w K mg base 30 "text_rows" ["program"] zY:=aM.of (N:=["program","rows"]) (k:=29) A ZgV λf cdv A outer s H E hr=>by have hu:=eU hr;unfold VG;exact Zg (Zy 1 ZgV.nd (Cz (bN qQ (d8 (id:="len") gK T.fZ gA (Zc (bw bx (Zd 0) Zj) Zf)) Zj) (cF (Zc (Zu bZ (gJ (Zc bf Zf)) (bw bx (Zd 0) Zj)) Zf)) (cF Zf))) (Zk (bQ (Zu bZ (Zd 1) (cj (k:=29) (ps:=["deeds"]) OJ (hr.mono (by decide)) (Zc (bw bx (Zd 0) Zj) Zf)))))
theorem Zr3:cL ["program"] ["program"] (Zn DY):=eG
theorem Zqr(A:bL K mg "shown" DY ["program"])(T:Txt K mg)(Pb:aM P w K mg base 1 "shown_row" ["row"] Im)(Pg:aM P w K mg base 30 "text_rows" ["program"] zY):aM P w K mg base 31 "shown" ["program"] xQ:=aM.of (N:=["program"]) (k:=30) A Zr3 λf cdv A outer s H E hr=>by have hu:=eU hr;unfold VH;exact Zk (bQ (U6 bf (Zc (qW (N':=["program","row"]) (nA rfl (by kernel_rfl)) rfl rfl (nu (cj (k:=30) (ps:=["program"]) Pg (hr.mono (by decide)) (Zc (Zd 0) Zf))) (λC cl s H ex=>⟨(jL 1 ((show jQ (["program","row"]:List aj)by decide +kernel))),oZ,(cj (k:=1) (ps:=["row"]) Pb (hr.mono (by decide)) (Zc (Zd 1) Zf))⟩)) Zf)))
theorem V6:cL ["deck","cells","at"] ["deck"] (Zn Ec):=eG
theorem ZkP(A:bL K mg "_law_next" Ec ["deck"])(T:Txt K mg):aM P w K mg base 1 "_law_next" ["deck"] jM:=aM.of (N:=["deck","cells","at"]) (k:=0) A V6 λf cdv A outer s H E hr=>by have hu:=eU hr;unfold Dr;exact Zg (Zy 1 V6.nd (bw bx (Zd 0) Zj)) (Zg (Zy 2 V6.nd (bw bx (Zd 0) Zj)) (Zg (ZtQ (Zd 0) Zj (Zu bZ (Zd 2) Zj)) (Zg (cg (bN xG (Zd 2) (d8 (id:="len") gK T.fZ gA (Zc (Zd 1) Zf))) (Zk (bQ (bw bx (Zd 1) (Zd 2)))) cO) (Zg (cg (bN ((d9 hu)) (d8 (id:="len") gK T.fZ gA (Zc (Zd 1) Zf)) Zj) (Zk (bQ (Zu bZ (Zu zJ (Zu zJ (Zd 2) (Zd 2)) Zj) (Zd 2)))) cO) (Zk (bQ (Zu bZ (Zu jV (bw bx (Zd 1) (Zu eQ (Zd 2) (d8 (id:="len") gK T.fZ gA (Zc (Zd 1) Zf)))) Zj) (Zu zJ (Zd 2) (Zd 2)))))))))
theorem Zhx:cL ["found","due"] ["found","due"] (Zn Ed):=eG
theorem ZkT(A:bL K mg "_law_same" Ed ["found","due"])(T:Txt K mg):aM P w K mg base 32 "_law_same" ["found","due"] zZ:=by
  have all:∀n:Nat,aM P w K mg base (n+1) "_law_same" ["found","due"] (qi n):=by
    intro n
    induction n with
    |zero=>exact aM.of (N:=["found","due"]) (k:=0) A Zhx λf cdv A outer s H E hr=>MN|succ n IH=>refine(aM.of (N:=["found","due"]) (k:=n+1) A Zhx λf cdv A outer s H E hr=>?_).mono (by omega);have hu:=eU hr;unfold tW;exact Zg (cg (mF (ZoD .tuple .list T.rO T.qw T.Xi (Zd 1))) (Zg (cg (CW.ct (p7 (bN ((zH hu)) (xM .tuple T.rO T.qw (Zd 0)) (xM .tuple T.rO T.qw (Zd 1))) (tD (xr (mF (ZoD .tuple .list T.rO T.qw T.Xi (Zd 0))))))) (Zk (bQ zy)) cO) (Zk (bQ (xq (nq ((d9 hu)) (d8 (id:="len") gK T.fZ gA (Zc (Zd 0) Zf)) (d8 (id:="len") gK T.fZ gA (Zc (Zd 1) Zf))) (xj (d8 (id:="all") ((Dc rfl)) T.Ba C_ (Zc (qW (N':=["found","due","k"]) (nA rfl (by kernel_rfl)) rfl rfl (Mr T.JD (d8 (id:="len") gK T.fZ gA (Zc (Zd 1) Zf))) (λC cl s H ex=>⟨(jL 2 ((show jQ (["found","due","k"]:List aj)by decide +kernel))),oZ,(cj (k:=n+1) (ps:=["found","due"]) IH hr (Zc (bw bx (Zd 0) (Zd 2)) (Zc (bw bx (Zd 1) (Zd 2)) Zf)))⟩)) Zf))))))) cO) (Zg (cg (mF (xM .str T.rO T.Fl (Zd 1))) (Zk (bQ (xq (xM .str T.rO T.Fl (Zd 0)) (xj (nq ((d9 hu)) (Zd 0) (Zd 1)))))) cO) (Zg (cg (mF (xM .bool T.rO T.PB (Zd 1))) (Zk (bQ (xq (xM .bool T.rO T.PB (Zd 0)) (xj (nq ((d9 hu)) (Zd 0) (Zd 1)))))) cO) (Zk (bQ (xq (xM .int T.rO T.PN (Zd 0)) (xq (ZuU (xM .bool T.rO T.PB (Zd 0))) (xj (nq ((d9 hu)) (Zd 0) (Zd 1)))))))))
  exact all 31
theorem lB:cL ["deck","own","letters","cell","more","first","other","names","k","sign","name"] ["deck"] (Zn Ef):=eG
theorem ZjZ(A:bL K mg "_law_names" Ef ["deck"])(T:Txt K mg)(lF:aM P w K mg base 1 "_law_next" ["deck"] jM):aM P w K mg base 2 "_law_names" ["deck"] Nu:=
  aM.of (N:=["deck","own","letters","cell","more","first","other","names","k","sign","name"]) (k:=1) A lB λf cdv A outer s H E hr=>by
    have hu:=eU hr;unfold VJ;refine Zg ?_ ?_
    .refine Zy 1 ?_ ?_
     .exact lB.nd
     .refine cF ?_;refine Zc ?_ ?_
      .exact bf
      .refine Zc ?_ ?_
       .exact bf
       .refine Zc ?_ ?_
        .exact bf
        .refine Zc ?_ ?_
         .exact bf
         .refine Zc ?_ ?_
          .exact bf
          .exact Zc bf (Zc bf (Zc bf (Zc bf (Zc bf (Zc bf (Zc bf Zf))))))
    .refine Zg ?_ ?_
     .exact Zy 2 lB.nd bf
     .refine Zg ?_ ?_
      .exact Zy 3 lB.nd (cj (k:=1) (ps:=["deck"]) lF (hr.mono (by decide)) (Zc (Zd 0) Zf))
      .refine Zg ?_ ?_
       .exact Zy 4 lB.nd (Zu jV (Zd 3) Zj)
       .refine Zg ?_ ?_
        .exact Zy 5 lB.nd (bw bx (Zd 2) (Zu eQ (Zd 4) Zj))
        .refine Zg ?_ ?_
         .exact Zy 6 lB.nd (bw bx (Zd 2) (Zu eQ (Zu jV (Zd 4) Zj) Zj))
         .refine Zg ?_ ?_
          .exact Zy 7 lB.nd (cF Zf)
          .refine Zg ?_ ?_
           .refine CK ?_ ?_ ?_ ?_ ?_
            .exact rfl
            .exact rfl
            .exact Mr T.JD Zj
            .exact jL 8 lB.nd
            .refine Zg ?_ ?_
             .exact Zy 9 lB.nd (bw bx (Zd 2) (Zu eQ (Zu bZ (Zd 4) (Zd 8)) Zj))
             .refine Zg ?_ ?_
              .exact Zy 10 lB.nd (Zu zJ (Zd 9) (Zu bZ Zj (Zu eQ (Zu jV (Zd 4) Zj) Zj)))
              .refine Zg ?_ ?_
               .refine cg ?_ ?_ ?_
                .exact bN ((d9 hu)) (Zu eQ (Zd 3) Zj) Zj
                .exact Zk (Zy 10 lB.nd (Zu bZ (bw bx (Zd 1) (Zu eQ (Zu bZ (Zd 8) (Zd 4)) Zj)) (Zd 6)))
                .exact cO
               .refine Zg ?_ ?_
                .refine cg ?_ ?_ ?_
                 .exact bN ((d9 hu)) (Zu eQ (Zd 3) Zj) Zj
                 .refine Zg ?_ ?_
                  .refine Zy 10 ?_ ?_
                   .exact lB.nd
                   .refine Zu ?_ ?_ ?_
                    .exact bZ
                    .exact Zu zJ (Zd 5) (Zu bZ Zj (Zu eQ (Zd 8) Zj))
                    .exact Zu zJ (bw bx (Zd 2) (Zu eQ (Zu bZ (Zd 4) Zj) Zj)) (Zu jV (Zd 8) Zj)
                  .exact Zk (Zy 10 lB.nd (p_ qb (Zd 10) qP (oY Zj)))
                 .exact cO
                .refine Zg ?_ ?_
                 .refine cg ?_ ?_ ?_
                  .exact bN ((d9 hu)) (Zu eQ (Zd 3) Zj) Zj
                  .refine Zk ?_;refine Zy 10 ?_ ?_
                   .exact lB.nd
                   .refine Zu ?_ ?_ ?_
                    .exact bZ
                    .exact Zu bZ (Zd 6) (Zd 9)
                    .refine Zu ?_ ?_ ?_
                     .exact zJ
                     .exact bw bx (Zd 2) (Zu eQ (Zu jV (Zd 4) Zj) Zj)
                     .exact Zu eQ (Zu jV (Zd 4) Zj) Zj
                  .exact cO
                 .refine Zg ?_ ?_
                  .exact cg (bN ZuE (Zd 10) (Zd 1)) (Zk (Zy 10 lB.nd (Zu bZ (Zd 10) bf))) cO
                  .exact Zk (iW (lz (Zd 7) (Zc (Zd 10) Zf)))
           .exact Zk (bQ (Zd 7))
theorem Ep:cL ["deck","names","many","way","words","k","cell"] ["deck","names","many","way"] (Zn Eg):=eG
theorem Ziu(A:bL K mg "_law_leaning" Eg ["deck","names","many","way"])(T:Txt K mg)(lF:aM P w K mg base 1 "_law_next" ["deck"] jM):aM P w K mg base 2 "_law_leaning" ["deck","names","many","way"] Ds:=aM.of (N:=["deck","names","many","way","words","k","cell"]) (k:=1) A Ep λf cdv A outer s H E hr=>by have hu:=eU hr;unfold VL;exact Zg (Zy 4 Ep.nd (cF Zf)) (Zg (CK rfl rfl (Mr T.JD (Zd 2)) (jL 5 Ep.nd) (Zg (Zy 6 Ep.nd (cj (k:=1) (ps:=["deck"]) lF (hr.mono (by decide)) (Zc (Zd 0) Zf))) (Zk (cg (bN ((d9 hu)) (Zd 3) Zj) (Zk (Zy 4 Ep.nd (Zu bZ (Zu bZ (cF (Zc (bw bx (cF (Zc bf (Zc bf (Zc bf Zf)))) (Zu eQ (Zd 6) Zj)) Zf)) (Zd 4)) (cF (Zc (bw bx (Zd 1) (Zu eQ (Zu jV (Zd 6) Zj) Zj)) Zf))))) (Zk (cg (bN ((d9 hu)) (Zd 3) Zj) (Zk (Zy 4 Ep.nd (Zu bZ (Zd 4) (cF (Zc (bw bx (cF (Zc bf (Zc bf (Zc bf Zf)))) (Zu eQ (Zd 6) Zj)) (Zc (bw bx (Zd 1) (Zu eQ (Zu jV (Zd 6) Zj) Zj)) Zf)))))) (Zk (iW (lz (Zd 4) (Zc bf Zf)))))))))) (Zg (cg (bN ((d9 hu)) (Zd 3) Zj) (Zk (bQ (Zu bZ (Zu bZ (p_ qb (Zd 4) qP (oY (Zd 2))) (cF (Zc (bw bx (Zd 1) Zj) Zf))) (p_ qb (Zd 4) (oY (Zd 2)) qP)))) cO) (Zk (bQ (Zu bZ (Zd 4) (cF (Zc (p8 (T:="str") U3 T.Fl UL (Zc (Zu zE (Zd 2) Zj) Zf)) Zf)))))))
theorem Aa:cL ["deck","names","deep","most","full","words","due","d","cell","room","way"] ["deck","names","deep","most","full"] (Zn Eh):=eG
theorem ZmN(A:bL K mg "_law_sum" Eh ["deck","names","deep","most","full"])(T:Txt K mg)(lF:aM P w K mg base 1 "_law_next" ["deck"] jM):aM P w K mg base 2 "_law_sum" ["deck","names","deep","most","full"] Ir:=aM.of (N:=["deck","names","deep","most","full","words","due","d","cell","room","way"]) (k:=1) A Aa λf cdv A outer s H E hr=>by have hu:=eU hr;unfold VN;exact Zg (Zy 5 Aa.nd (cF Zf)) (Zg (Zy 6 Aa.nd (cF (Zc (Zd 2) Zf))) (Zg (ZrO rfl (bN ((zH hu)) (Zd 6) (cF Zf)) (Zg (Zy 7 Aa.nd (M7 (Zd 6))) (Zg (Zy 8 Aa.nd (cj (k:=1) (ps:=["deck"]) lF (hr.mono (by decide)) (Zc (Zd 0) Zf))) (Zg (Zy 9 Aa.nd (Zu zE (Zu zE (Zu zE (Zd 3) (d8 (id:="len") gK T.fZ gA (Zc (Zd 5) Zf))) (d8 (id:="len") gK T.fZ gA (Zc (Zd 6) Zf))) Zj)) (Zg (Zy 10 Aa.nd (Zu eQ (Zd 8) Zj)) (Zk (cg (CW.ct (Ml (CW.ct (p7 (bN xG (Zd 10) Zj) (tD (mF (Zd 4))))) (Ml (bN qQ (Zd 7) Zj) (Ue (bN qQ (Zd 9) Zj))))) (Zg (iW (lz (Zd 5) (Zc (bw bx (cF (Zc bf (Zc bf (Zc bf Zf)))) (Zu eQ (Zu jV (Zd 8) Zj) Zj)) Zf))) (Zk (iW (Zhs (Zd 6) (Zc (cF (Zc (Zu zE (Zd 7) Zj) (Zc (Zd 7) Zf))) Zf))))) (Zk (cg (CW.ct (Ml (bN ((d9 hu)) (Zd 10) Zj) (Ue (bN qQ (Zd 9) Zj)))) (Zg (iW (lz (Zd 5) (Zc bf Zf))) (Zk (iW (lz (Zd 6) (Zc (Zd 7) Zf))))) (Zk (iW (lz (Zd 5) (Zc (bw bx (cF (Zc (bw bx (Zd 1) (Zu eQ (Zu jV (Zd 8) Zj) Zj)) (Zc (p8 (T:="str") U3 T.Fl UL (Zc (Zu zE (Zu eQ (Zu jV (Zd 8) Zj) Zj) Zj) Zf)) Zf))) (Zu eQ (Zd 8) Zj)) Zf))))))))))))) (Zk (bQ (Zd 5)))))
theorem NK:cL ["deck","names","cell","way","most"] ["deck","names"] (Zn Ei):=eG
theorem Ziq(A:bL K mg "_law_any_sum" Ei ["deck","names"])(T:Txt K mg)(lF:aM P w K mg base 1 "_law_next" ["deck"] jM)(O1:aM P w K mg base 2 "_law_leaning" ["deck","names","many","way"] Ds)(Pj:aM P w K mg base 2 "_law_sum" ["deck","names","deep","most","full"] Ir):aM P w K mg base 3 "_law_any_sum" ["deck","names"] xR:=aM.of (N:=["deck","names","cell","way","most"]) (k:=2) A NK λf cdv A outer s H E hr=>by have hu:=eU hr;unfold Nv;exact Zg (Zy 2 NK.nd (cj (k:=1) (ps:=["deck"]) lF (hr.mono (by decide)) (Zc (Zd 0) Zf))) (Zg (Zy 3 NK.nd (Zu eQ (Zd 2) Zj)) (Zg (cg (bN xG (Zd 3) Zj) (Zk (bQ (cj (k:=2) (ps:=["deck","names","many","way"]) O1 (hr.mono (by decide)) (Zc (Zd 0) (Zc (Zd 1) (Zc (bw bx (cF (Zc (Zu eQ (Zu jV (Zd 2) Zj) Zj) (Zc (Zu eQ (Zu jV (Zd 2) Zj) Zj) Zf))) (Zu eQ (Zu jV (Zd 2) Zj) Zj)) (Zc (Zd 3) Zf))))))) cO) (Zg (Zy 4 NK.nd (bw bx (cF (Zc Zj (Zc Zj (Zc Zj (Zc Zj Zf))))) (Zu eQ (Zu jV (Zd 2) Zj) Zj))) (Zk (bQ (cj (k:=2) (ps:=["deck","names","deep","most","full"]) Pj (hr.mono (by decide)) (Zc (Zd 0) (Zc (Zd 1) (Zc (Zu bZ Zj (Zu eQ (Zu jV (Zd 2) Zj) Zj)) (Zc (Zd 4) (Zc (nq ((d9 hu)) (Zd 3) Zj) Zf)))))))))))
theorem NP:cL ["words","depths","word","first"] ["words"] (Zn Ej):=eG
theorem ZjR(A:bL K mg "_law_depth" Ej ["words"])(T:Txt K mg):aM P w K mg base 1 "_law_depth" ["words"] tX:=aM.of (N:=["words","depths","word","first"]) (k:=0) A NP λf cdv A outer s H E hr=>by have hu:=eU hr;unfold VP;exact Zg (Zy 1 NP.nd (cF Zf)) (Zg (ZtZ rfl rfl (Zwj T.Abs (Zd 0)) (jL 2 NP.nd) (Zk (cg (bN ZuE (Zd 2) (cF (Zc bf (Zc bf (Zc bf Zf))))) (Zg (Zy 3 NP.nd (M7 (Zd 1))) (Zk (iW (lz (Zd 1) (Zc (d8 (id:="max") ((Zwo rfl)) T.PQ ZvN (Zc (Zd 3) (Zc (Zu bZ (M7 (Zd 1)) Zj) Zf))) Zf))))) (Zk (cg (bN ((zH hu)) (Zd 2) bf) (Zk (iW (lz (Zd 1) (Zc Zj Zf)))) cO))))) (Zk (bQ (bw bx (Zd 1) (tu tH Zj)))))
theorem V7:cL ["words","found","word"] ["words"] (Zn Ek):=eG
theorem ZjO(A:bL K mg "_law_words" Ek ["words"])(T:Txt K mg):aM P w K mg base 1 "_law_words" ["words"] o8:=aM.of (N:=["words","found","word"]) (k:=0) A V7 λf cdv A outer s H E hr=>by have hu:=eU hr;unfold VR;exact Zg (Zy 1 V7.nd (cF Zf)) (Zg (CK rfl rfl (nu (Zd 0)) (jL 2 V7.nd) (Zk (cg (bN ((MK hu)) (bw bx (Zd 2) (tu tH Zj)) bf) (Zk (iW (lz (Zd 1) (Zc (p8 (T:="int") Zrz T.PN ZrJ (Zc (Zd 2) Zf)) Zf)))) (Zk (iW (lz (Zd 1) (Zc (Zd 2) Zf))))))) (Zk (bQ (p8 (T:="tuple") zK T.qw zL (Zc (Zd 1) Zf)))))
theorem NQ:cL ["text","caught","e"] ["text"] (Zn El):=eG
theorem Zip(A:bL K mg "_law_refused" El ["text"])(T:Txt K mg){eX cu iK:Yt}(XO:Iw K mg eX cu iK)(JG:nC P w K mg base 68 "read" ["text"] nG)(Ax:aM P w K mg base 32 "_law_same" ["found","due"] zZ):aM P w K mg base 69 "_law_refused" ["text"] Iu:=aM.of (N:=["text","caught","e"]) (k:=68) A NQ λf cdv A outer s H E hr=>by have hu:=eU hr;unfold VV;exact Zg (Zy 1 NQ.nd p6) (Zg (ZvS (cs:=[[66,97,100,82,111,119]]) (CE:=cu) 2 NQ.nd XO.Ff XO.Ab9 (λNb E'=>(tR (Zrq (Ve (k:=68) (ps:=["text"]) JG (hr.mono (by decide)) (Zc (Zd 0) Zf))))) (λA' E'=>(Zk (Zy 1 NQ.nd (Zd 2))))) (Zk (bQ (xq (nq Zuj (Zd 1) p6) (xj (cj (k:=32) (ps:=["found","due"]) Ax (hr.mono (by decide)) (Zc (Zv7 (C:=cu) (c:=[66,97,100,82,111,119]) (m:=[114,111,119]) XO.Ab8 (Zd 1)) (Zc Zj Zf))))))))
theorem jx:cL ["script","deck","cell","names","k","way","one","other","words","deed","good","text"] ["script"] (Zn vy):=eG
theorem Zvt{f:Yt}{fd:jB}(F:pN K "law" "law" vy f fd)(T:Txt K mg)(PJ:aM P w K mg base 68 "read" ["text"] nG)(Pz:aM P w K mg base 31 "shown" ["program"] xQ)(lF:aM P w K mg base 1 "_law_next" ["deck"] jM)(Ax:aM P w K mg base 32 "_law_same" ["found","due"] zZ)(O7:aM P w K mg base 2 "_law_names" ["deck"] Nu)(Ju:aM P w K mg base 3 "_law_any_sum" ["deck","names"] xR)(Jx:aM P w K mg base 1 "_law_depth" ["words"] tX)(Aw:aM P w K mg base 1 "_law_words" ["words"] o8)(O2:aM P w K mg base 69 "_law_refused" ["text"] Iu):fM P w K mg base kI 70 f fd ["script"] (tE K 1 ZoK):=
  Uh (N:=["script","deck","cell","names","k","way","one","other","words","deed","good","text"]) (k:=69) F jx λcdv A outer s H E hr=>by
    have hu:=eU hr;unfold V0;refine Zg ?_ ?_
    .exact Zy 1 jx.nd (cF (Zc (p_ qb (Zd 0) qP (oY Zj)) (Zc Zj Zf)))
    .refine Zg ?_ ?_
     .exact Zy 2 jx.nd (cj (k:=1) (ps:=["deck"]) lF (hr.mono (by decide)) (Zc (Zd 1) Zf))
     .refine Zg ?_ ?_
      .exact Zy 3 jx.nd (cj (k:=2) (ps:=["deck"]) O7 (hr.mono (by decide)) (Zc (Zd 1) Zf))
      .refine Zg ?_ ?_
       .refine CK ?_ ?_ ?_ ?_ ?_
        .exact rfl
        .exact rfl
        .exact Mr T.JD Zj
        .exact jL 4 jx.nd
        .refine Zg ?_ ?_
         .exact Zy 5 jx.nd (Zu eQ (Zu bZ (Zd 2) (Zd 4)) Zj)
         .refine Zg ?_ ?_
          .exact Zy 6 jx.nd (cj (k:=3) (ps:=["deck","names"]) Ju (hr.mono (by decide)) (Zc (Zd 1) (Zc (Zd 3) Zf)))
          .refine Zg ?_ ?_
           .exact Zy 7 jx.nd (cj (k:=3) (ps:=["deck","names"]) Ju (hr.mono (by decide)) (Zc (Zd 1) (Zc (Zd 3) Zf)))
           .refine Zg ?_ ?_
            .refine Zy 8 ?_ ?_
             .exact jx.nd
             .refine Zu ?_ ?_ ?_
              .exact bZ
              .refine cF ?_;refine Zc ?_ ?_
               .exact bw bx (cF (Zc bf (Zc bf (Zc bf (Zc bf (Zc bf Zf)))))) (Zd 5)
               .exact Zf
              .exact Zd 6
            .refine Zg ?_ ?_
             .exact Zy 9 jx.nd (gJ (Zc (bw bx (Zd 8) Zj) (Zc (cj (k:=1) (ps:=["words"]) Aw (hr.mono (by decide)) (Zc (Zd 6) Zf)) Zf)))
             .refine Zg ?_ ?_
              .exact Zy 10 jx.nd (nq xG (cj (k:=1) (ps:=["words"]) Jx (hr.mono (by decide)) (Zc (Zd 6) Zf)) Zj)
              .refine Zg ?_ ?_
               .refine cg ?_ ?_ ?_
                .exact bN ((d9 hu)) (Zd 5) Zj
                .refine Zg ?_ ?_
                 .exact Zy 8 jx.nd (Zu bZ (cF (Zc bf (Zc (bw bx (Zd 3) (Zd 4)) Zf))) (Zd 6))
                 .refine Zk ?_;refine Zy 9 ?_ ?_
                  .exact jx.nd
                  .exact gJ (Zc bf (Zc (bw bx (Zd 3) (Zd 4)) (Zc (cj (k:=1) (ps:=["words"]) Aw (hr.mono (by decide)) (Zc (Zd 6) Zf)) Zf)))
                .exact cO
               .refine Zg ?_ ?_
                .refine cg ?_ ?_ ?_
                 .exact bN ((d9 hu)) (Zd 5) Zj
                 .refine Zg ?_ ?_
                  .exact Zy 8 jx.nd (Zu bZ (Zd 8) (Zd 7))
                  .refine Zg ?_ ?_
                   .refine Zy 9 ?_ ?_
                    .exact jx.nd
                    .refine gJ ?_;refine Zc ?_ ?_
                     .exact bf
                     .exact Zc (cj (k:=1) (ps:=["words"]) Aw (hr.mono (by decide)) (Zc (Zd 6) Zf)) (Zc (cj (k:=1) (ps:=["words"]) Aw (hr.mono (by decide)) (Zc (Zd 7) Zf)) Zf)
                   .exact Zk (Zy 10 jx.nd (xq (Zd 10) (xj (nq xG (cj (k:=1) (ps:=["words"]) Jx (hr.mono (by decide)) (Zc (Zd 7) Zf)) Zj))))
                 .exact cO
                .refine Zg ?_ ?_
                 .refine Zy 11 ?_ ?_
                  .exact jx.nd
                  .refine Zu ?_ ?_ ?_
                   .exact bZ
                   .exact U6 bf (Zc (Zd 8) Zf)
                   .exact bw bx (cF (Zc bf (Zc bf (Zc bf (Zc bf (Zc bf Zf)))))) (Zd 5)
                 .refine Zg ?_ ?_
                  .refine cg ?_ ?_ ?_
                   .exact bN ((d9 hu)) (Zd 5) Zj
                   .exact Zk (Zy 9 jx.nd (Zu bZ (Zd 9) (gJ (Zc (gJ Zf) (Zc (gJ Zf) Zf)))))
                   .exact cO
                  .refine Zg ?_ ?_
                   .refine cg ?_ ?_ ?_
                    .exact bN ((d9 hu)) (Zd 5) Zj
                    .exact Zk (Zy 9 jx.nd (Zu bZ (Zd 9) (gJ (Zc (gJ Zf) Zf))))
                    .exact cO
                   .refine Zk ?_;refine cg ?_ ?_ ?_
                    .exact CW.ct (p7 (xr (mF (Zd 10))) (tD (bN qQ (d8 (id:="len") gK T.fZ gA (Zc (Zd 8) Zf)) Zj)))
                    .exact Zk (cg (xr (mF (cj (k:=69) (ps:=["text"]) O2 (hr.mono (by decide)) (Zc (Zd 11) Zf)))) (Zk (bQ zy)) cO)
                    .refine Zk ?_;refine cg ?_ ?_ ?_
                     .refine CW.ct ?_;refine p7 ?_ ?_
                      .refine xr ?_;refine mF ?_;refine cj (k:=32) (ps:=["found","due"]) ?_ ?_ ?_
                       .exact Ax
                       .exact hr.mono (by decide)
                       .refine Zc ?_ ?_
                        .exact cj (k:=68) (ps:=["text"]) PJ (hr.mono (by decide)) (Zc (Zd 11) Zf)
                        .exact Zc (gJ (Zc (gJ Zf) (Zc (gJ (Zc (Zd 9) Zf)) Zf))) Zf
                      .refine tD ?_;refine bN ?_ ?_ ?_
                       .exact(zH hu)
                       .exact cj (k:=31) (ps:=["program"]) Pz (hr.mono (by decide)) (Zc (gJ (Zc (gJ Zf) (Zc (gJ (Zc (Zd 9) Zf)) Zf))) Zf)
                       .exact Zd 11
                     .exact Zk (bQ zy)
                     .exact cO
       .exact Zk (bQ zy)
end
end Law
set_option maxHeartbeats 200000
namespace Law
open L3
theorem Zwb(c:Nat):∀(x y a b:List Nat),c∉x->c∉y->x++c::a=y++c::b->x=y/\a=b:=by
 intro x
 induction x with
 |nil=>
  intro y a b _ hy h;cases y with
  |nil=>exact⟨rfl,(jR h).2⟩|cons q y=>exact absurd (jR h).1 λe=>hy (e▸Yl ..)
 | cons p x ih=>
  intro y a b hx hy h;cases y with
  |nil=>exact absurd (jR h).1 λe=>hx (e▸Yl ..)|cons q y=>obtain⟨e1,e2⟩:=ih y a b (λz=>hx (Yg _ z)) (λz=>hy (Yg _ z)) (jR h).2;exact⟨by rw[(jR h).1,e1],e2⟩
theorem tZ(s x y:List Nat)(r:List (List Nat)):glue s (x::y::r)=x++(s++glue s (y::r)):=by show x++s++glue s (y::r)=_;rw[mW]
theorem Zsf(c:Nat):∀(ts us:List (List Nat)),ts≠[]->us≠[]->(∀t∈ts,c∉t)->(∀t∈us,c∉t)->glue [c] ts=glue [c] us->ts=us:=by
 intro ts
 induction ts with
 |nil=>intro us h;exact absurd rfl h|cons t ts ih=>
  intro us _ hu ft fu h;cases us with
  |nil=>exact absurd rfl hu|cons u us=>
   have ht:=ft t (Yl ..);have hu':=fu u (Yl ..);cases ts with
   | nil=>
    cases us with
    |nil=>rw[show t=u from h]|cons v us=>rw[tZ]at h;refine absurd (show c∈t from ?_) ht;rw[show t=_ from h];exact Y5 _ (Yl ..)
   | cons w ts=>
    cases us with
    |nil=>rw[tZ]at h;refine absurd (show c∈u from ?_) hu';rw[show u=_ from h.symm];exact Y5 _ (Yl ..)|cons v us=>rw[tZ,tZ]at h;obtain⟨e1,e2⟩:=Zwb c t u _ _ ht hu' h;rw[e1,ih (v::us) (λz=>nomatch z) (λz=>nomatch z) (λq hq=>ft q (Yg _ hq)) (λq hq=>fu q (Yg _ hq)) e2]
theorem ZiX(x:List Nat)(c:Nat):glue [c] (oV x [c])=x:=by
 have h:=PySem.StrLaws.join_split (⟨x.toArray⟩:PySem.Str) (⟨([c]:List Nat).toArray⟩);have e:(Ymh (⟨x.toArray⟩:PySem.Str) ⟨([c]:List Nat).toArray⟩)=(oV x [c]).map λt=>(⟨t.toArray⟩:PySem.Str):=by unfold oV;rw[lO];exact(List.map_id _).symm.trans (Kd λt _=>rfl)
 rw[e,U5]at h;have q:=congrArg (λs:PySem.Str=>s.cps.toList) h;simpa using q
theorem Zig(c:Nat)(ts:List (List Nat))(h:ts≠[])(hf:∀t∈ts,c∉t):oV (glue [c] ts) [c]=ts:=by
 have hs:∀t∈oV (glue [c] ts) [c],c∉t:=by intro t ht;obtain⟨p,hp,rfl⟩:=ji.mp ht;exact PySem.StrLaws.split_free _ c p hp
 refine Zsf c _ _ (λz=>?_) h hs hf (ZiX _ c);have q:=ZiX (glue [c] ts) c;unfold oV at z;have z1:=Bs.mp z;have z2:=PyProof.Rows.split_pos (⟨(glue [c] ts).toArray⟩:PySem.Str) ⟨([c]:List Nat).toArray⟩;rw[z1]at z2;exact absurd z2 (by decide)
noncomputable def b8(n:Nat):List Nat:=(Kq 10 n).map R7
theorem Zmy:∀d:Nat,d<10->(Nat.digitChar d).toNat=48+d:=by decide
variable{n:Nat}
theorem Ab(h:n<10):b8 n=[48+n]:=by unfold b8;rw[Z1 h,Yw,wk,Zmy n h]
theorem IK(h:10<=n):b8 n=b8 (n / 10)++[48+n % 10]:=by have hm:n % 10<10:=Nat.mod_lt n (by decide);have t:Kq 10 (n / 10)++Kq 10 (n % 10)=Kq 10 (10*(n / 10)+n % 10):=Nat.toDigits_append_toDigits (by decide) (by omega) hm;rw[Nat.div_add_mod]at t;unfold b8;rw[←t,oA,Z1 hm,Yw,wk,Zmy _ hm]
theorem t6(n:Nat):∀c∈b8 n,48<=c/\c<=57:=by
 induction n using Rm with
 | _ n ih=>
  by_cases h:n<10
  .rw[Ab h];intro c hc;rw[Yz.mp hc];exact⟨lQ _ _,by omega⟩
  .rw[IK (ir h)];intro c hc;rcases jD.mp hc with hc|hc
   .exact ih (n / 10) (Km λz=>by omega) c hc
   .rw[Yz.mp hc];exact⟨lQ _ _,by omega⟩
theorem Ac(n:Nat):b8 n≠[]:=by
 by_cases h:n<10
 .rw[Ab h];exactλz=>nomatch z
 .rw[IK (ir h)];exactλz=>absurd (ZD.mp z).2 (λz=>nomatch z)
theorem IV(k:Nat):∀n:Nat,n<10^(k+1)->(b8 n).length<=k+1:=by
 induction k with
 |zero=>intro n h;rw[Ab (by simpa using h)];exact Yq _|succ k ih=>
  intro n h;by_cases q:n<10
  .rw[Ab q];exact yM 1 _
  .rw[IK (ir q),Yj,Y0];have:=ih (n / 10) (by rw[Nat.pow_succ]at h;omega);omega
theorem Zp7(n:Nat)(h:0<n):∀r,b8 n≠48::r:=by
 induction n using Rm with
 | _ n ih=>
  intro r z;by_cases q:n<10
  .rw[Ab q]at z;have:=(jR z).1;omega
  .rw[IK (ir q)]at z;cases e:b8 (n / 10)with
   |nil=>exact Ac _ e|cons c l=>rw[e]at z;have:=(jR z).1;subst this;exact ih (n / 10) (Km λz=>by omega) (by omega) l e
theorem ZlZ(n:Nat):Gq (b8 n)=n:=by
 induction n using Rm with
 | _ n ih=>
  by_cases q:n<10
  .rw[Ab q];show 0*10+(48+n-48)=n;exact Y6 (by omega) (by omega)
  .rw[IK (ir q)];have e:Gq (b8 (n / 10)++[48+n % 10])=Gq (b8 (n / 10))*10+(48+n % 10-48):=by
    unfold Gq;rw[List.foldl_append];rfl
   rw[e,ih (n / 10) (Km λz=>by omega)];omega
theorem IW(n:Nat):fO (n:Int)=b8 n:=by unfold fO b8;rw[Ygo];show(Nat.repr n).toList.map R7=_;rw[Z_]
theorem I_(n:Nat):fO (Int.negSucc n)=45::b8 (n+1):=by unfold fO b8;rw[Ygo];show("-" ++Nat.repr (n+1)).toList.map R7=_;rw[String.toList_append,oA,Z_];rfl
theorem NT(i:Int)(h:i.natAbs<10^60):JV ⟨(fO i).toArray⟩=Ya i/\(fO i).length<=61/\∀c∈fO i,45<=c:=by
 cases i with
 |ofNat n=>have hl:=IV 59 n h;have e:fO (Int.ofNat n)=b8 n:=IW n;rw[e];refine⟨?_,Ri hl,λc hc=>Yi (by decide) (t6 n c hc).1⟩;have q:=PySem.intText_digits (x:=⟨(b8 n).toArray⟩) (t6 n) (Ac n) (Yi (show(b8 n).toArray.size<=60 by simpa using hl) (by decide));rw[q];show Ya ((Gq (b8 n):Nat):Int)=_;rw[ZlZ];rfl|negSucc n=>
  have hl:=IV 59 (n+1) h;rw[I_];refine⟨?_,yL hl,λc hc=>?_⟩
  .have q:=PySem.intText_neg (x:=⟨(45::b8 (n+1)).toArray⟩) (cs:=b8 (n+1)) rfl (t6 _) (Ac _) (Yi (show(45::b8 (n+1)).toArray.size<=61 by simpa using hl) (by decide));rw[q,ZlZ];rfl
  .rcases Yv.mp hc with e|hc
   .exact oE e.symm
   .exact Yi (by decide) (t6 _ c hc).1
variable{M M':Store}{d:D}
theorem Zq1(h:M'.length=M.length):dh M d M'= .ok d M':=by unfold dh;rw[uF (oE h)];split <;>rfl
theorem Tj(n d:Nat):aG n d Yk=d:=rfl
theorem GZ(n d k:Nat):aG n d (Ya (k:Int))=jk k n:=by have h:¬((k:Int)<0):=(λz=>by omega);simp only[aG,if_neg h,uI]
variable{α:Type}
theorem NZ(w:List α)(k:Nat):cutD w (Ya (k:Int)) Yk=w.drop k:=by
 unfold cutD;rw[GZ,Tj];by_cases h:k<=w.length
 .rw[Gj h,uF (by simp)]
 .rw[Rj (by omega),Kc (Yq _),Kc (by omega)];simp
theorem V8(w:List α)(k:Nat):cutD w Yk (Ya (k:Int))=w.take k:=by
 unfold cutD;rw[GZ,Tj];by_cases h:k<=w.length
 .rw[Gj h];simp
 .rw[Rj (by omega),Nat.sub_zero,Rf,uF (Yq _),uF (by omega)]
variable{i:Int}
theorem ZyP{j:Int}(h:-(2^64)<i/\i<2^64):l_ i j=true:=by unfold l_;rw[wF];left;simp only[Y3,decide_eq_true_eq];exact h
theorem mul_r{j:Int}(h:-(2^64)<j/\j<2^64):l_ i j=true:=by unfold l_;rw[wF];right;simp only[Y3,decide_eq_true_eq];exact h
theorem nH(x:Int)(m:Nat)(h:0<m):∃a:Nat,x % (m:Int)=a/\a<m:=by have h1:=sE x (b:=(m:Int)) (by exactλz=>by omega);have h2:=wG x (b:=(m:Int)) (by omega);exact⟨(x % (m:Int)).toNat,(Gm h1).symm,by omega⟩
theorem mJ{j:Int}(h:0<j/\j<1073741824):bU (.int i) (.int j) M= .ok (.int (i / j)) M:=by simp only[ZkD,if_pos h]
variable{env:Zz}{g:cY}{ds:List D}
theorem fY(h:g env M= .ok ds M')(hl:decide (ds.length<=100)=true):aV g env M= .ok (.ref M'.length) (M'++[.lst ds]):=by have z:ds.length<=SZ:=Yi (of_decide_eq_true hl) (by decide);simp only[aV,h,R3.bind,if_pos z,alloc]
variable{xs:List D}
theorem Zqx{o t:E3}(ho:o env M= .ok (.ref n) M)(hM:M[n]?=Ya (.lst xs))(ht:t env M= .ok d M')(hM':M'[n]?=Ya (.lst xs))(hl:xs.length<SZ):
  bj (aQ bI cQ o (Za t (Ze))) env M= .nx env (M'.set n (.lst (xs++[d]))):=by
 have e:aQ bI cQ o (Za t (Ze)) env M= .ok .non (M'.set n (.lst (xs++[d]))):=by simp only[aQ,ho,R3.bind,zm,hM,Za,ht,Ze,LK,hM',if_pos hl,if_true]
 rw[bj,e]
noncomputable def mK(x:List Nat):Bool:=decide (x=[97,100,100]\/x=[115,117,98]\/x=[109,111,114,101]\/x=[99,101,108,108])
theorem N5(s:Nat)(b:Nat):∀ts:List (List Nat),(∀t∈ts,t.length<=b)->oU [s] ts<=ts.length*(b+1)/\(glue [s] ts).length<=ts.length*(b+1):=by
 intro ts
 induction ts with
 |nil=>intro _;exact⟨by simp[oU],by simp[glue]⟩|cons t ts ih=>
  intro h;have ht:=h t (Yl ..);obtain⟨i1,i2⟩:=ih λq hq=>h q (Yg _ hq);have e1:oU [s] (t::ts)=t.length+1+oU [s] ts:=by simp[oU]
  have e3:(ts.length+1)*(b+1)=ts.length*(b+1)+(b+1):=Nat.succ_mul ..;rw[e1,Yn,e3];refine⟨by omega,?_⟩;cases ts with
  |nil=>show t.length<=_;omega|cons u ts=>rw[tZ,Yj,Yj];show t.length+(1+_)<=_;omega
theorem strs_map:∀ts:List (List Nat),jt (ts.map D.str)=Ya ts
 |[]=>rfl|t::ts=>by show(jt (ts.map D.str)).map _=_;rw[strs_map ts];rfl
theorem V9{s:Nat}{ts:List (List Nat)}(h:M[n]?=Ya (.lst (ts.map D.str)))(hz:oU [s] ts<=SZ):u5 (.str [s]) [.ref n] M= .ok (.str (glue [s] ts)) M:=by simp only[Zl9,h,strs_map,if_pos hz]
theorem Ad{m:D->List D->Store->R3 D}{o g:E3}{M M1 M2:Store}{x:List Nat}{r:D}(h1:o env M= .ok (.str x) M)(h2:g env M= .ok d M1)(h3:m (.str x) [d] M1= .ok r M2):aQ iz m o (Za g Ze) env M= .ok r M2:=by simp only[aQ,h1,R3.bind,ZwX,if_true,Za,h2,Ze,h3]
theorem Zod(h:i.natAbs<10^60):(fO i).length<=61:=(NT i h).2.1
theorem Zvm(h:i.natAbs<10^60):i.natAbs.log2<1920:=by
 by_cases z:i.natAbs=0
 .rw[z];decide
 .exact(Nat.log2_lt z).mpr (lR h (by decide +kernel))
noncomputable abbrev o9:List Nat:=[48,49,50,51,52,53,54,55,56,57]
theorem in_str(c:Nat)(y:List Nat)(M:Store):jG (.str [c]) (.str y) M= .ok (.bl (decide (c∈y))) M:=rfl
theorem all_map{p:α->Bool}{l:List α}(h:M[n]?=Ya (.lst (l.map λc=>D.bl (p c)))):sW [.ref n] M= .ok (.bl (l.all p)) M:=by
 have a:∀l:List α,(l.map λc=>D.bl (p c)).all Cq=true/\(l.map λc=>D.bl (p c)).all zj=l.all p:=by
  intro l
  induction l with
  |nil=>exact⟨rfl,rfl⟩|cons x l ih=>exact⟨by simp only[Yw,iM,Cq,ih.1,Bool.and_self],by rw[Yw,iM,iM,ih.2];cases p x<;>rfl⟩
 simp only[Cr,h,allB,(a l).1,(a l).2,if_true]
theorem Zi3{w fs:List Nat}(h1:1<=fs.length)(h2:fs.length<=60)(h3:∀r,fs≠48::r):
  (Zq (aK (cU (e2 iU (aJ bG (Za (Zb 1) (Ze))) (eC (.int 1))) (e2 dY (aJ bG (Za (Zb 1) (Ze))) (rJ))) (aR (eC (.bl false))) (aZ)) (Zq (aK (aQ iz sX (Zb 1) (Za (eC (.str [48])) (Ze))) (aR (e2 aY (Zb 0) (eC (.str [48])))) (aZ)) (aR (aJ sW (Za (jo (dI (Zb 1)) 1 (b_ 2) [] (e2 jG (Zb 2) (vJ))) (Ze)))))) [Ya (.str w),Ya (.str fs)] M= .rt (.bl (fs.all λc=>decide (c∈o9))) (M++[.lst (fs.map λc=>D.bl (decide (c∈o9)))]):=by
 have hz:fs.length<=SZ:=Yi h2 (by decide);have ln:(aJ bG (Za (Zb 1) (Ze))) [Ya (.str w),Ya (.str fs)] M= .ok (.int fs.length) M:=dm (a:=.str fs) rfl (by simp only[G_,Hf,Hg,uW,if_pos hz]);have c1:(cU (e2 iU (aJ bG (Za (Zb 1) (Ze))) (eC (.int 1))) (e2 dY (aJ bG (Za (Zb 1) (Ze))) (rJ))) [Ya (.str w),Ya (.str fs)] M= .ok (.bl false) M:=by rw[ni (M1:=M) (Zh ln rfl (by simp only[uV];rw[decide_eq_false (by exactλz=>by omega)]))];exact Zh ln (g:=rJ) (b:=.int 60) rfl (by simp only[pO];rw[decide_eq_false (by exactλz=>by omega)])
 have c2:(aQ iz sX (Zb 1) (Za (eC (.str [48])) (Ze))) [Ya (.str w),Ya (.str fs)] M= .ok (.bl false) M:=by
  refine Ad (d:=.str [48]) rfl rfl ?_;cases fs with
  |nil=>exact absurd h1 (by decide)|cons c r=>
   have q:¬48=c:=λe=>h3 r (by rw[e]);have e:([48]:List Nat).isPrefixOf (c::r)=false:=by show((48==c)&&Rb [] r)=false;rw[beq_eq_false_iff_ne.mpr q];rfl
   simp only[Hh];rw[if_pos ⟨hz,by decide⟩,e]
 rw[Zi (fC c1),Zi (fC c2)];have hi:(dI (Zb 1)) [Ya (.str w),Ya (.str fs)] M= .ok ⟨fs.map (λc=>D.str [c]),Yk⟩ M:=by simp only[dI,Zb,J_,Ka,R3.bind,if_pos hz]
 have lc:=wY (h:=λc=>D.bl (decide (c∈o9))) (own:=1) (i:=2) (elt:=(e2 jG (Zb 2) (vJ))) hi (λn z=>nomatch z)
  (λc hc M'=>Zh (a:=.str [c]) (b:=.str o9) rfl rfl (in_str c o9 M')) (Yi h2 (by decide))
 exact dF (dm lc (all_map (bY _ _ _)))
variable{c:Nat}
theorem Zsr(h:48<=c/\c<=57):c∈o9:=(ZM:c∈uH 48 10↔_).mpr ⟨h.1,Kl h.2⟩
theorem ZmD(h:i.natAbs<10^60)(M:Store):q_ [.str (fO i)] M= .ok (.bl true) M:=by
 have go:∀(n:Nat) (w:List Nat),0<n->n<10^60->(jm (aQ iz sX (Zb 0) (Za (eC (.str [45])) (Ze))) (c7 (Zb 0) (cW (eC (.int 1))) (dZ)) (Zb 0)) [Ya (.str w),Yk] M= .ok (.str (b8 n)) M->q_ [.str w] M= .ok (.bl true) M:=λn w h0 h1 hf=>by
  refine Rt.pure (G:=[.lst ((b8 n).map λc=>D.bl (decide (c∈o9)))]) (env:=[Ya (.str w),Yk]) ?_ rfl;unfold Il;rw[Zi (Zo hf)];refine(Zi3 ?_ (IV 59 n h1) (Zp7 n h0)).trans (by rw[ig.mpr λc hc=>decide_eq_true (Zsr (t6 n c hc))]);cases e:b8 n with
  |nil=>exact absurd e (Ac n)|cons _ _=>exact yM 1 _
 cases i with
 | ofNat n=>
  have e:fO (Int.ofNat n)=b8 n:=IW n;have hp:(jm (aQ iz sX (Zb 0) (Za (eC (.str [45])) (Ze))) (c7 (Zb 0) (cW (eC (.int 1))) (dZ)) (Zb 0)) [Ya (.str (b8 n)),Yk] M= .ok (.str (b8 n)) M:=by
   rw[zr (M1:=M)]
   .rfl
   .refine Ad (d:=.str [45]) rfl rfl ?_;have hl:=IV 59 n h;have e:([45]:List Nat).isPrefixOf (b8 n)=false:=by
     cases q:b8 n with
     |nil=>rfl|cons c r=>have qc:=t6 n c (by rw[q];exact Yl ..);show((45==c)&&Rb [] r)=false;rw[beq_eq_false_iff_ne.mpr (by exactλz=>by omega)];rfl
    simp only[Hh];rw[if_pos ⟨Yi hl (by decide),by decide⟩,e]
  rw[e];by_cases z:n=0
  .subst z;refine Rt.pure (G:=[]) (env:=[Ya (.str (b8 0)),Yk]) ?_ rfl;rw[gQ];unfold Il;rw[Zi (Zo hp),Ab (by decide)];simp[Zq,aK,aR,aZ,rJ]
  .exact go n _ (Nat.pos_of_ne_zero z) h hp
 | negSucc n=>
  rw[I_];have hl:=IV 59 (n+1) h;refine go (n+1) _ (Nat.succ_pos n) h ?_;rw[Hw (M1:=M)]
  .have e:cutD (45::b8 (n+1)) (Ya 1) Yk=b8 (n+1):=NZ (45::b8 (n+1)) 1;have hz:(45::b8 (n+1)).length<=SZ:=Yi (yL hl) (by decide);simp only[c7,Zb,cW,dZ,eC,R3.bind,Ka,G8,G9,Ck,Cm,if_pos hz,e]
  .refine Ad (d:=.str [45]) rfl rfl ?_;have hz:(45::b8 (n+1)).length<=SZ:=Yi (yL hl) (by decide);simp only[Hh];rw[if_pos ⟨hz,by decide⟩];rfl
theorem Zmf{x:List Nat}(h1:1<=x.length)(h2:x.length<=60)(h3:∀c∈x,97<=c)(M:Store):q_ [.str x] M= .ok (.bl false) M:=by
 have hz:x.length<=SZ:=Yi h2 (by decide);obtain⟨c,r,rfl⟩:∃c r,x=c::r:=by
  cases x with
  |nil=>exact absurd h1 (by decide)|cons c r=>exact⟨c,r,rfl⟩
 have hc:97<=c:=h3 c Yl;have hp:(jm (aQ iz sX (Zb 0) (Za (eC (.str [45])) (Ze))) (c7 (Zb 0) (cW (eC (.int 1))) (dZ)) (Zb 0)) [Ya (.str (c::r)),Yk] M= .ok (.str (c::r)) M:=by
  rw[zr (M1:=M)]
  .rfl
  .refine Ad (d:=.str [45]) rfl rfl ?_;have e:([45]:List Nat).isPrefixOf (c::r)=false:=by
    show((45==c)&&Rb [] r)=false;rw[beq_eq_false_iff_ne.mpr (by exactλz=>by omega)];rfl
   simp only[Hh];rw[if_pos ⟨hz,by decide⟩,e]
 refine Rt.pure (G:=[.lst ((c::r).map λc=>D.bl (decide (c∈o9)))]) (env:=[Ya (.str (c::r)),Yk]) ?_ rfl;unfold Il;rw[Zi (Zo hp)];refine(Zi3 h1 h2 (λq e=>by have:=(jR e).1;omega)).trans ?_;have hn:decide (c∈o9)=false:=decide_eq_false λz=>by simp only[Yv,ou,or_false]at z;omega
 rw[iM,hn,Rp]
inductive Sm where
 |num (i:Int)|fJ (x:List Nat)|gW (a:Sm)|two (o:Nat) (a b:Sm)
noncomputable abbrev gY:List Nat:=[99,101,108,108]
noncomputable def iY:Nat->List Nat
 |0=>[97,100,100]|1=>[115,117,98]|_=>[109,111,114,101]
noncomputable def Sm.flat:Sm->List D
 | .num i=>[.int i]|.fJ x=>[.str x]|.gW a=>.str gY::a.flat|.two o a b=>.str (iY o)::(a.flat++b.flat)
noncomputable def Sm.good:Sm->Prop
 | .num _=>True|.fJ x=>mK x=false|.gW a=>a.good|.two _ a b=>a.good/\b.good
noncomputable def Sm.all(Q:List Nat->Prop):Sm->Prop
 | .num _=>True|.fJ x=>Q x|.gW a=>a.all Q|.two _ a b=>a.all Q/\b.all Q
noncomputable def Sm.parts:Sm->List Sm
 | .num _=>[]|.fJ _=>[]|.gW a=>[a]|.two _ a b=>[a,b]
noncomputable def Sm.head:Sm->D
 | .num i=>.int i|.fJ x=>.str x|.gW _=>.str gY|.two o _ _=>.str (iY o)
theorem Sm.Az(t:Sm):t.flat=t.head::(t.parts.map Sm.flat).flatten:=by cases t<;>simp[Sm.flat,Sm.head,Sm.parts]
noncomputable def ar:D->Nat
 | .str x=>if x=gY then 1 else if mK x=true then 2 else 0|_=>0
inductive rn:D->Prop
 |int (i:Int):rn (.int i)
 |str (x:List Nat):rn (.str x)
theorem Ae:∀(t:Sm),∀d∈t.flat,rn d
 | .num i,d,h=>by rw[Yz.mp h];exact .int i|.fJ x,d,h=>by rw[Yz.mp h];exact .str x|.gW a,d,h=>by
  rcases Yv.mp h with h|h
  .rw[h];exact .str _
  .exact Ae a d h
 | .two o a b,d,h=>by
  rcases Yv.mp h with h|h
  .rw[h];exact .str _
  .rcases jD.mp h with h|h
   .exact Ae a d h
   .exact Ae b d h
theorem Zq6(x:List Nat):cN x o6=if x=[97,100,100]then Ya 2 else if x=[115,117,98]then Ya 2 else if x=[109,111,114,101]then Ya 2 else if x=gY then Ya 1 else Yk:=rfl
variable{w:D}
theorem Zwf(h:rn w)(M:Store):u6 o6 w (.int 0) M= .ok (.int (ar w:Nat)) M:=by
 cases h with
 |int i=>rfl|str x=>
  show(match cN x o6 with|some i=>R3.ok (D.int i) M|none=>R3.ok (D.int 0) M)=_;rw[Zq6];by_cases h1:x=[97,100,100]
  .subst h1;rfl
  by_cases h2:x=[115,117,98]
  .subst h2;rfl
  by_cases h3:x=[109,111,114,101]
  .subst h3;rfl
  by_cases h4:x=gY
  .subst h4;rfl
  have:mK x=false:=decide_eq_false λz=>z.elim h1 λz=>z.elim h2 λz=>z.elim h3 h4;simp only[if_neg h1,if_neg h2,if_neg h3,if_neg h4,ar,this];rfl
noncomputable def stp(s:List (List D)×Nat)(w:D):List (List D)×Nat:=
 let s:=if s.2=0 then(s.1++[[]],1)else s
 (s.1.dropLast++[s.1.getLastD []++[w]],s.2-1+ar w)
theorem Er(ds:List (List D))(cur:List D)(l:Nat)(w:D):stp (ds++[cur],l+1) w=(ds++[cur++[w]],l+ar w):=by simp[stp]
theorem Zpk(ds:List (List D))(w:D):stp (ds,0) w=stp (ds++[[]],0+1) w:=by simp[stp]
theorem N6:∀(t:Sm),t.good->∀(ds:List (List D)) (cur:List D) (l:Nat) (r:List D),(t.flat++r).foldl stp (ds++[cur],l+1)=r.foldl stp (ds++[cur++t.flat],l)
 | .num i,_,ds,cur,l,r=>by simp only[Sm.flat,yH,jE,sy,Er];rfl|.fJ x,h,ds,cur,l,r=>by
  have e:ar (.str x)=0:=by
   have h:mK x=false:=h;have h':x≠gY:=λz=>by subst z;exact absurd h (by decide)
   simp only[ar,if_neg h',h];rfl
  simp only[Sm.flat,yH,jE,sy,Er,e,Rn]
 | .gW a,h,ds,cur,l,r=>by have e:ar (.str gY)=1:=rfl;simp only[Sm.flat,yH,sy,Er,e,N6 a h,mW,jE]|.two o a b,h,ds,cur,l,r=>by
  have e:ar (.str (iY o))=2:=by
   match o with
   |0=>rfl|1=>rfl|_+2=>rfl
  have e2:l+2=l+1+1:=rfl;simp only[Sm.flat,yH,sy,Er,e,mW,e2,N6 a h.1,N6 b h.2,jE]
theorem V_(t:Sm):∃w r,t.flat=w::r:=⟨_,_,t.Az⟩
theorem ZsS(t:Sm)(h:t.good)(ds:List (List D))(r:List D):(t.flat++r).foldl stp (ds,0)=r.foldl stp (ds++[t.flat],0):=by obtain⟨w,q,e⟩:=V_ t;have h1:=N6 t h ds [] 0 r;rw[jE]at h1;rw[←h1,e,yH,sy,sy,Zpk]
theorem Zpc:∀(ts:List Sm),(∀t∈ts,t.good)->∀ds,(ts.map Sm.flat).flatten.foldl stp (ds,0)=(ds++ts.map Sm.flat,0)
 |[],_,ds=>by simp|t::ts,h,ds=>by rw[Yw,qG,ZsS t (h t Yl),Zpc ts λt ht=>h t (Yg _ ht)];simp
noncomputable def mL(n j:Nat):List D:=(jj j).map λk=>D.ref (n+1+k)
noncomputable def dJ(M:Store)(done:List (List D)):Store:=M++ .lst (mL M.length done.length)::done.map MO.lst
theorem Zox(M:Store)(done:List (List D)):(dJ M done).length=M.length+1+done.length:=by simp only[dJ,Yj,Yn,Ys];exact Y6 (by omega) (by omega)
theorem Ja(M:Store)(done:List (List D)):(dJ M done)[M.length]?=Ya (.lst (mL M.length done.length)):=bY _ _ _
theorem Zrw(M:Store)(done:List (List D))(k:Nat):(dJ M done)[M.length+1+k]?=(done[k]?).map MO.lst:=by rw[dJ,yN,u0,pI 1 k,J_,lM]
theorem ZjF(n j:Nat):mL n (j+1)=mL n j++[D.ref (n+1+j)]:=by simp[mL,List.range_succ]
theorem Zuq(M:Store)(done:List (List D)):(dJ M done++[MO.lst []]).set M.length (MO.lst (mL M.length done.length++[D.ref (dJ M done).length]))=dJ M (done++[[]]):=by have h:=Ht M (MO.lst (mL M.length done.length)::done.map MO.lst++[MO.lst []]) 0 (MO.lst (mL M.length done.length++[D.ref (dJ M done).length]));rw[Rn]at h;rw[Zox]at h ⊢;rw[dJ,mW,h,dJ,Yj,Y0,ZjF];simp
theorem ZsH(M:Store)(ds:List (List D))(cur:List D)(w:D):(dJ M (ds++[cur])).set (M.length+1+ds.length) (MO.lst (cur++[w]))=dJ M (ds++[cur++[w]]):=by rw[dJ,yN,Ht,dJ];simp[pI 1]
theorem Zkl{α:Type}{enc h:α->D}{it:fW}{g:G3}{n:Nat}{elt:E3}{I:Zz->Prop}{M:Store}:∀(as:List α) (acc:List D) (env:Zz),I env ->
  (∀a∈as,∀env,I env->∃dD,g (enc a) env=Ya dD/\I dD/\∀x,elt dD (M.set n (.lst x))= .ok (h a) (M.set n (.lst x)))->(∀x,locked it (M.set n (.lst x))=true)->n<M.length->acc.length+as.length<=SZ ->
  iV it g [] elt n (as.map enc) env (M.set n (.lst acc))= .ok (.ref n) (M.set n (.lst (acc++as.map h)))
 |[],acc,env,_,_,hl,_,_=>by simp only[wk,Zo7,hl,if_true,gQ]|a::as,acc,env,hI,hf,hl,hn,hz=>by
  obtain⟨dD,hg,hI1,he⟩:=hf a Yl env hI;have gt:(M.set n (.lst acc))[n]?=Ya (.lst acc):=by simp[hn]
  have lt:acc.length<SZ:=by simp only[Yn]at hz;omega
  have ih:=Zkl as (acc++[h a]) dD hI1 (λb hb=>hf b (Yg _ hb)) hl hn (by simp only[Yj,Yn,Ge]at hz ⊢;omega);simp only[Yw,T7,hl,if_true,hg,LQ,Hr,R3.bind,he,gt,lt,Gf];rw[ih];simp
theorem ZqK{enc h:α->D}{own:Nat}{i:I3}{g:G3}{elt:E3}{M M1:Store}{lock:Option Nat}{as:List α}(I:Zz->Prop)(hi:i env M= .ok ⟨as.map enc,lock⟩ M1)(PL:∀n,lock=Ya n->M1[n]?=Ya (.lst (as.map enc)))(hI:I (env++Ym own Yk))(hf:∀a∈as,∀env,I env->∃dD,g (enc a) env=Ya dD/\I dD/\∀x,elt dD (M1++[.lst x])= .ok (h a) (M1++[.lst x]))(hz:as.length<=100000):
  jo i own g [] elt env M= .ok (.ref M1.length) (M1++[.lst (as.map h)]):=by
 have st:∀x:List D,(M1++[MO.lst []]).set M1.length (.lst x)=M1++[.lst x]:=λx=>by simp
 rw [Zra hi];have:=Zkl (enc:=enc) (h:=h) (it:=⟨as.map enc,lock⟩) (g:=g) (n:=M1.length) (elt:=elt) (I:=I) (M:=M1++[.lst []]) as [] (env++Ym own Yk) hI
  (λa ha e he=>by obtain⟨e1,h1,h2,h3⟩:=hf a ha e he;exact⟨e1,h1,h2,λx=>by rw[st];exact h3 x⟩)
  (λx=>by
   rw[st];cases lock with
   |none=>rfl|some n=>simp only[locked,decide_eq_true_eq];exact dR (PL n rfl) _) (by simp) (by simp;omega)
 rw[st,st]at this;simpa using this
theorem ZnI{x:List D}(h:M[n]?=Ya (.lst x)):kO [.ref n] M= .ok (.tup x) M:=by simp[h]
noncomputable abbrev Wa:S3:=Zq (aK (e2 aY (Zb 2) (eC (.int 0))) (Zq (bj (aQ bI cQ (Zb 1) (Za (aV (Ze)) (Ze)))) (aA 2 (eC (.int 1)))) (aZ)) (Zq (bj (aQ bI cQ (e2 Zm (Zb 1) (e1 jn (eC (.int 1)))) (Za (Zb 3) (Ze)))) (aA 2 (e2 Zt (e2 gR (Zb 2) (eC (.int 1))) (e2 (u6 o6) (Zb 3) (eC (.int 0))))))
theorem Zpy(n j:Nat):(mL n j).length=j:=by simp[mL]
theorem o_{M M' M2:Store}{o t:E3}(ho:o env M= .ok (.ref n) M')(hM:M'[n]?=Ya (.lst xs))(ht:t env M'= .ok d M2)(hM':M2[n]?=Ya (.lst xs))(hl:xs.length<SZ):
  bj (aQ bI cQ o (Za t (Ze))) env M= .nx env (M2.set n (.lst (xs++[d]))):=by
 have e:aQ bI cQ o (Za t (Ze)) env M= .ok .non (M2.set n (.lst (xs++[d]))):=by simp only[aQ,ho,R3.bind,zm,hM,Za,ht,Ze,LK,hM',if_pos hl,if_true]
 rw[bj,e]
theorem Zms(M:Store)(ds:List (List D))(cur:List D)(l:Nat)(w W:D)(hw:rn w)(h1:ds.length<1000)(h2:cur.length<1000):
  (Zq (bj (aQ bI cQ (e2 Zm (Zb 1) (e1 jn (eC (.int 1)))) (Za (Zb 3) (Ze)))) (aA 2 (e2 Zt (e2 gR (Zb 2) (eC (.int 1))) (e2 (u6 o6) (Zb 3) (eC (.int 0)))))) [Ya W,Ya (.ref M.length),Ya (.int ((l+1:Nat):Int)),Ya w] (dJ M (ds++[cur]))
   = .nx [Ya W,Ya (.ref M.length),Ya (.int ((l+ar w:Nat):Int)),Ya w] (dJ M (ds++[cur++[w]])):=by
 have hr:mL M.length (ds++[cur]).length=mL M.length ds.length++[.ref (M.length+1+ds.length)]:=by rw[Yj,Y0,ZjF]
 have hat:(dJ M (ds++[cur]))[M.length+1+ds.length]?=Ya (.lst cur):=by rw[Zrw];simp
 refine(Zi (o_ (M':=dJ M (ds++[cur])) (Zh rfl (dU rfl (Ci 1)) (jr (Ja M _) (by rw[hr];exact getD_last _ _))) hat rfl hat (lR h2 (by decide)))).trans ?_;rw[ZsH];refine Zo (Zh (Zh rfl rfl rfl) (Zh rfl rfl (Zwf hw _)) ?_);rw[Cg];congr 2;exact yP (by omega) (by omega)
theorem ZpE(M:Store)(done:List (List D))(l:Nat)(w W:D)(hw:rn w)(h1:done.length<900)(h2:∀c∈done,c.length<900)(hn:l≠0->done≠[]):
  Wa [Ya W,Ya (.ref M.length),Ya (.int (l:Int)),Ya w] (dJ M done)= .nx [Ya W,Ya (.ref M.length),Ya (.int ((stp (done,l) w).2:Nat)),Ya w] (dJ M (stp (done,l) w).1):=by
 cases l with
 |zero=>
  rw[Zpk,Er];have hz:(mL M.length done.length).length<SZ:=by rw[Zpy];exact lR h1 (by decide)
  show Zq _ _ _ _=_;refine(Zi ((d7 (Zh rfl rfl (LR rfl))).trans ((Zi (Zqx rfl (Ja M done) (fY rfl rfl) (dR (Ja M done) _) hz)).trans (Zo (d:=.int 1) rfl)))).trans ?_;rw[Zuq];exact Zms M done [] 0 w W hw (by omega) (by simp)
 |succ l=>have hd:=hn (λz=>by omega);have e:done=done.dropLast++[done.getLast hd]:=(List.dropLast_concat_getLast hd).symm;generalize done.dropLast=ds at e;generalize done.getLast hd=cur at e;subst e;rw[Er];show Zq _ _ _ _=_;refine(Zi (fC (Zh rfl rfl (T8 (λz=>by omega))))).trans ?_;exact Zms M ds cur l w W hw (by simp at h1;omega) (by have:=h2 cur (by simp);omega)
theorem Zoq(s:List (List D)×Nat)(w:D):(stp s w).1.length<=s.1.length+1/\(stp s w).1≠[]:=by
 unfold stp;by_cases h:s.2=0
 .simp[h]
 .simp[h]
theorem ZtP(s:List (List D)×Nat)(w:D)(k:Nat)(h:∀c∈s.1,c.length<=k):∀c∈(stp s w).1,c.length<=k+1:=by
 have key:∀x:List (List D),(∀c∈x,c.length<=k)->∀c∈x.dropLast++[x.getLastD []++[w]],c.length<=k+1:=by
  intro x hx c hc;rcases jD.mp hc with hc|hc
  .exact Ri (hx c (List.dropLast_subset _ hc))
  .rw[Yz.mp hc,Yj,Y0];refine yL ?_;cases x with
   |nil=>exact fL _|cons a x=>exact hx _ (by rw[List.getLastD_cons];exact(show(x.getLastD a)∈a::x by rw[List.getLastD_eq_getLast?];cases hx':x.getLast? with|none=>simp|some y=>exact Yg _ (ZJ hx')))
 unfold stp;by_cases hs:s.2=0
 .simp only[hs,if_true];exact key _ λc hc=>by
   rcases jD.mp hc with hc|hc
   .exact h c hc
   .rw[Yz.mp hc];exact fL _
 .simp only[hs,if_false];exact key _ h
theorem Zpw(M:Store)(W:D)(ws:List D)(hw:∀w∈ws,rn w)(hl:ws.length<=500)(x0:Option D)(it:fW)(hi:∀done,locked it (dJ M done)=true):
  ∃x,dg it (b_ 3) Wa ws [Ya W,Ya (.ref M.length),Ya (.int 0),x0] (dJ M [])= .nx [Ya W,Ya (.ref M.length),Ya (.int ((ws.foldl stp ([],0)).2:Nat)),x] (dJ M (ws.foldl stp ([],0)).1):=by
 have main:∀(ws:List D) (done:List (List D)) (l k:Nat) (x0:Option D),(∀w∈ws,rn w)->k+ws.length<=500->done.length<=k->(∀c∈done,c.length<=k)->(l≠0->done≠[]) ->
   ∃x,dg it (b_ 3) Wa ws [Ya W,Ya (.ref M.length),Ya (.int (l:Int)),x0] (dJ M done)= .nx [Ya W,Ya (.ref M.length),Ya (.int ((ws.foldl stp (done,l)).2:Nat)),x] (dJ M (ws.foldl stp (done,l)).1):=by
  intro ws
  induction ws with
  |nil=>intro done l k x0 _ _ _ _ _;exact⟨x0,by rw[pR,if_pos (hi _)];rfl⟩|cons w ws ih=>intro done l k x0 hw hk h1 h2 hn;rw[Yn]at hk;obtain⟨x,hx⟩:=ih (stp (done,l) w).1 (stp (done,l) w).2 (k+1) (Ya w) (λy hy=>hw y (Yg _ hy)) (by omega) (by have:=(Zoq (done,l) w).1;simp only at this;omega) (ZtP (done,l) w k h2) (λ_=>(Zoq (done,l) w).2);refine⟨x,?_⟩;rw[pU,if_pos (hi _)];have:=ZpE M done l w W (hw w Yl) (by omega) (λc hc=>by have:=h2 c hc;omega) hn;simp only[b_,n8,n_,this];exact hx
 exact main ws [] 0 0 x0 hw (by omega) (fL _) (λc hc=>by cases hc) (λh=>absurd rfl h)
theorem Zid(M:Store)(ts:List Sm)(hg:∀t∈ts,t.good)(hl:(ts.map Sm.flat).flatten.length<=500){W:D}{it:fW}(hit:it.items=(ts.map Sm.flat).flatten)(hi:∀done,locked it (dJ M done)=true)(hv:dI (Zb 0) [Ya W,Ya (.ref M.length),Ya (.int 0),Yk] (dJ M [])= .ok it (dJ M [])):∃G k,xP [W] M= .ok (.ref (M.length+k)) (M++G)/\G[k]?=Ya (.lst (ts.map λt=>.tup t.flat)):=by
 have hws:∀w∈(ts.map Sm.flat).flatten,rn w:=λw hw=>by obtain⟨l,h1,h2⟩:=ZR.mp hw;obtain⟨t,_,rfl⟩:=ji.mp h1;exact Ae t w h2
 obtain⟨x,hx⟩:=Zpw M W _ hws hl Yk it hi;rw[Zpc ts hg]at hx;simp only[jE]at hx;have hn:(ts.map Sm.flat).length<=100000:=by
  have:∀l:List Sm,(l.map Sm.flat).length<=(l.map Sm.flat).flatten.length:=by
   intro l
   induction l with
   |nil=>exact Yq _|cons t l ih=>rw[Yw,qG,Yj,Yn];obtain⟨w,r,e⟩:=V_ t;rw[e,Yn];omega
  have:=this ts;omega
 let S:=dJ M (ts.map Sm.flat)
 have lc:jo (dI (Zb 1)) 1 (b_ 4) [] (aJ kO (Za (Zb 4) (Ze))) [Ya W,Ya (.ref M.length),Ya (.int ((0:Nat):Int)),x] S= .ok (.ref S.length) (S++[.lst ((jj (ts.map Sm.flat).length).map λk=>D.tup ((ts.map Sm.flat).getD k []))]):=by
  refine ZqK (enc:=λk=>D.ref (M.length+1+k)) (h:=λk=>D.tup ((ts.map Sm.flat).getD k [])) (as:=jj (ts.map Sm.flat).length) (M1:=S) (lock:=Ya M.length) (λe=>∃a b c d y,e=[a,b,c,d,y]) ?_ ?_ ⟨_,_,_,_,_,rfl⟩ ?_ (by rw[Q_];exact hn)
  .show(R3.ok (D.ref M.length) S).bind _=_;simp only[R3.bind];rw[show S[M.length]?=_ from Ja M _];rfl
  .intro n hn';cases hn';exact Ja M _
  .intro k hk env ⟨a,b,c,d,y,e⟩;subst e;have hk:=Rc.mp hk;refine⟨_,rfl,⟨_,_,_,_,_,rfl⟩,λz=>?_⟩;refine dm rfl ?_;refine(ZnI (x:=(ts.map Sm.flat).getD k []) (dR ?_ _));rw[Zrw,j7 hk,J8,j7 hk];rfl
 have hlist:((jj (ts.map Sm.flat).length).map λk=>D.tup ((ts.map Sm.flat).getD k []))=ts.map λt=>D.tup t.flat:=by
  apply yF;intro j;rw[lM,lM];by_cases hj:j<ts.length
  .rw[List.getElem?_range (by simpa using hj),j7 hj];simp[J8,lM,j7 hj]
  .rw[Bq (by simpa using hj),Bq (by simpa using hj)];rfl
 rw[hlist]at lc;have hS:S=M++(.lst (mL M.length (ts.map Sm.flat).length)::(ts.map Sm.flat).map MO.lst):=rfl;refine⟨(.lst (mL M.length (ts.map Sm.flat).length)::(ts.map Sm.flat).map MO.lst)++[.lst (ts.map λt=>.tup t.flat)],1+(ts.map Sm.flat).length,?_,?_⟩
 .have hlen:S.length=M.length+(1+(ts.map Sm.flat).length):=by rw[Zox,yN]
  refine(kY (M':=S++[.lst (ts.map λt=>.tup t.flat)]) (d:=.ref S.length) (env:=[Ya W,Yk,Yk,Yk]) ?_).trans ?_
  .unfold Vy;rw[Zi (Zo (d:=.ref M.length) (M':=dJ M []) (fY rfl rfl)),Zi (Zo (d:=.int 0) rfl),Zi ((wW (it:=it) hv).trans (by rw[hit];exact hx))];exact dF ((Hw (Zh rfl rfl (LR rfl))).trans lc)
  .have hb:below M.length (.ref S.length)=false:=by show decide (S.length<M.length)=false;rw[hlen];exact decide_eq_false (λz=>by omega)
   rw[dh,hb,hlen,hS,mW];rfl
 .simp[pI 1]
theorem Zn3(M:Store)(ts:List Sm)(hg:∀t∈ts,t.good)(hl:(ts.map Sm.flat).flatten.length<=500):∃G k,xP [.tup (ts.map Sm.flat).flatten] M= .ok (.ref (M.length+k)) (M++G)/\G[k]?=Ya (.lst (ts.map λt=>.tup t.flat)):=Zid M ts hg hl (it:=⟨(ts.map Sm.flat).flatten,Yk⟩) rfl (λ_=>rfl) rfl
theorem ZmB(M:Store)(ts:List Sm)(hg:∀t∈ts,t.good)(hl:(ts.map Sm.flat).flatten.length<=500)(hn:M[n]?=Ya (.lst (ts.map Sm.flat).flatten)):∃G k,xP [.ref n] M= .ok (.ref (M.length+k)) (M++G)/\G[k]?=Ya (.lst (ts.map λt=>.tup t.flat)):=by have hS:∀done,(dJ M done)[n]?=Ya (.lst (ts.map Sm.flat).flatten):=λdone=>dR hn _;refine Zid M ts hg hl (it:=⟨(ts.map Sm.flat).flatten,Ya n⟩) rfl (λdone=>decide_eq_true (hS done)) ?_;show(R3.ok (D.ref n) (dJ M [])).bind _=_;simp only[R3.bind];rw[hS []]
theorem Zr6(M:Store)(t:Sm)(hg:t.good)(hl:t.flat.length<=500):∃G k,Np [.tup t.flat] M= .ok (.ref (M.length+k)) (M++G)/\G[k]?=Ya (.lst (t.parts.map λt=>.tup t.flat)):=by
 have hgp:∀s∈t.parts,s.good:=by
  cases t with
  |num _=>intro s h;cases h|fJ _=>intro s h;cases h|gW a=>intro s h;rw[Yz.mp h];exact hg|two o a b=>
   intro s h;rcases Yv.mp h with h|h
   .rw[h];exact hg.1
   .rw[Yz.mp h];exact hg.2
 have e:=t.Az;have hl':(t.parts.map Sm.flat).flatten.length<=500:=by rw[e,Yn]at hl;omega
 obtain⟨G,k,h1,h2⟩:=Zn3 M t.parts hgp hl';refine⟨G,k,?_,h2⟩;refine(kY (M':=M++G) (d:=.ref (M.length+k)) (env:=[Ya (.tup t.flat)]) ?_).trans ?_
 .unfold Vz;refine dF (di (M1:=M) (a:=.tup (t.parts.map Sm.flat).flatten) ?_ h1);show R3.ok (D.tup (cutD t.flat (Ya ((1:Nat):Int)) Yk)) M=_;rw[NZ,e];rfl
 .have hb:below M.length (.ref (M.length+k))=false:=decide_eq_false (λz=>by omega);rw[dh,hb];rfl
noncomputable def Sm.dp:Sm->Nat
 | .num _=>1|.fJ _=>1|.gW a=>a.dp|.two _ a b=>max a.dp (b.dp+1)
noncomputable def iJ:Nat->List Sm->List Int
 |_,[]=>[]|k,t::r=>((t.dp+k:Nat):Int)::iJ (k+1) r
theorem Jb{lk:List (Nat×List D)}(h:d_ lk M=true)(G:Store):d_ lk (M++G)=true:=by simp only[d_,ig,decide_eq_true_eq]at h ⊢;exactλq hq=>dR (h q hq) G
theorem Wb{F:F3}{M:Store}{lk:List (Nat×List D)}(hlk:d_ lk M=true){i j:Nat}(I:Zz->Prop)(hI:∀env,I env->∀a b:D,I ((env.set i (Ya a)).set j (Ya b))/\∀M:Store,Zb j ((env.set i (Ya a)).set j (Ya b)) M= .ok b M/\Zb i ((env.set i (Ya a)).set j (Ya b)) M= .ok a M):
  ∀(ts:List Sm) (k:Nat) (acc:List D) (env:Zz),I env->(∀t∈ts,∀M,F [.tup t.flat] M= .ok (.int (t.dp:Int)) M)->acc.length+ts.length<=1000 ->
  ju lk (jH [i,j]) [] (e2 Zt (Zx F (Za (Zb j) (Ze))) (Zb i)) M.length (mq k (ts.map λt=>D.tup t.flat)) env (M++[.lst acc])= .ok (.ref M.length) (M++[.lst (acc++(iJ k ts).map D.int)])
 |[],k,acc,env,_,_,_=>by show ju _ _ _ _ _ [] _ _=_;simp only[ju,Jb hlk,if_true,iJ,wk,gQ]|t::ts,k,acc,env,hE,hF,hl=>by
  rw[Yn]at hl;obtain⟨hE',hv⟩:=hI env hE (.int (k:Int)) (.tup t.flat);have ih:=Wb hlk I hI ts (k+1) (acc++[.int ((t.dp+k:Nat):Int)]) _ hE' (λt ht=>hF t (Yg _ ht)) (by simp;omega);have he:e2 Zt (Zx F (Za (Zb j) (Ze))) (Zb i) ((env.set i (Ya (.int (k:Int)))).set j (Ya (.tup t.flat))) (M++[.lst acc])= .ok (.int ((t.dp+k:Nat):Int)) (M++[.lst acc]):=by refine Zh (di (hv _).1 (hF t Yl _)) (hv _).2 ?_;rw[Cg];rfl
  have gt:(M++[MO.lst acc])[M.length]?=Ya (.lst acc):=bY _ _ _;have lt:acc.length<SZ:=pH (show acc.length<=1000 by omega) (by decide);have st:(M++[MO.lst acc]).set M.length (.lst (acc++[.int ((t.dp+k:Nat):Int)]))=M++[.lst (acc++[.int ((t.dp+k:Nat):Int)])]:=by simpa using Ht M [.lst acc] 0 _
  show ju _ _ _ _ _ (.tup [.int (k:Int),.tup t.flat]::mq (k+1) (ts.map λt=>D.tup t.flat)) _ _=_;simp only[ju,Jb hlk,if_true,jH,Hq,Ho,LQ,R3.bind,he,gt,lt,st];rw[ih];simp[iJ]
theorem ZqO(t:Sm):mH 1 (iJ 0 t.parts)=(t.dp:Int):=by
 cases t with
 |num _=>rfl|fJ _=>rfl|gW a=>rfl|two o a b=>show(if((b.dp+(0+1):Nat):Int)>((a.dp+0:Nat):Int)then((b.dp+(0+1):Nat):Int)else((a.dp+0:Nat):Int))=((max a.dp (b.dp+1):Nat):Int);split <;>omega
theorem Zsc{t s:Sm}(h:s∈t.parts):s.flat.length<t.flat.length:=by
 have e:=t.Az;have:s.flat.length<=(t.parts.map Sm.flat).flatten.length:=by
  cases t with
  |num _=>cases h|fJ _=>cases h|gW a=>rw[Yz.mp h];simp[Sm.parts]|two o a b=>
   rcases Yv.mp h with h|h
   .rw[h];simp[Sm.parts]
   .rw[Yz.mp h];simp[Sm.parts]
 rw[e,Yn];omega
theorem Zn0{t:Sm}(hg:t.good):∀s∈t.parts,s.good:=by
 cases t with
 |num _=>intro s h;cases h|fJ _=>intro s h;cases h|gW a=>intro s h;rw[Yz.mp h];exact hg|two o a b=>
  intro s h;rcases Yv.mp h with h|h
  .rw[h];exact hg.1
  .rw[Yz.mp h];exact hg.2
theorem Zrh(t:Sm):t.parts.length<=2:=by cases t<;>simp[Sm.parts]
theorem Zkw:∀(n:Nat) (t:Sm),t.good->t.flat.length<=n->n<=500->∀M:Store,zV n [.tup t.flat] M= .ok (.int (t.dp:Int)) M
 |0,t,_,hl,_,M=>by rw[t.Az,Yn]at hl;exact(lA 1 116001793 T1 hl).elim|n+1,t,hg,hl,hn,M=>by
  have hlp:=Zrh t;have ih:∀s∈t.parts,∀M,zV n [.tup s.flat] M= .ok (.int (s.dp:Int)) M:=λs hs=>Zkw n s (Zn0 hg s hs) (by have:=Zsc hs;omega) (by omega);obtain⟨G,k,h1,h2⟩:=Zr6 M t hg (Yi hl hn);have h3:(M++G)[M.length+k]?=Ya (.lst (t.parts.map λt=>.tup t.flat)):=by rw[u0];exact h2
  refine Rt.pure (env:=[Ya (.tup t.flat),Yk]) (G:=G++[.lst ((iJ 0 t.parts).map D.int)]) ?_ rfl;unfold VB;refine(Zi (Zo (di rfl h1))).trans ?_;have lk:d_ [(M.length+k,t.parts.map λt=>D.tup t.flat)] (M++G)=true:=by simp only[d_,iM,Gg,Bv];exact decide_eq_true h3
  have lp:=Wb (F:=zV n) lk (i:=2) (j:=3) (λe=>∃a b c d,e=[a,b,c,d]) (λenv ⟨a,b,c,d,e⟩ x y=>by subst e;exact⟨⟨_,_,_,_,rfl⟩,λM=>⟨rfl,rfl⟩⟩) t.parts 0 [] [Ya (.tup t.flat),Ya (.ref (M.length+k)),Yk,Yk] ⟨_,_,_,_,rfl⟩ ih (by simp;omega);rw[jE]at lp;rw[←mW];refine dF (dm (M1:=M++G++[.lst ((iJ 0 t.parts).map D.int)]) (a:=.ref (M++G).length) ?_ ?_)
  .show(R3.bind (R3.bind (R3.ok (D.ref (M.length+k)) (M++G)) _) _)=_;simp only[R3.bind,h3];exact lp
  .rw[Vh (bY _ _ []),ZqO]
theorem ZrS{t:Sm}(hg:t.good)(hl:t.flat.length<=61)(M:Store):Io [.tup t.flat] M= .ok (.int (t.dp:Int)) M:=by have key:∀n,t.flat.length<=n->n<=500->∀M,zV n [.tup t.flat] M= .ok (.int (t.dp:Int)) M:=λn h1 h2=>Zkw n t hg h1 h2;exact key 61 hl (by decide) M
noncomputable abbrev LET:List Nat:=[97,98,99,100,101,102,103,104,105,106,107,108,109,110,111,112,113,114,115,116,117,118,119,120,121,122]
structure dW(x:List Nat):Prop where
 pos:1<=x.length
 le:x.length<=8
 own:x∉cZ
 low:∀c∈x,97<=c/\c<=122
theorem ZvZ(h:97<=c/\c<=122):c∈LET:=(ZM:c∈uH 97 26↔_).mpr ⟨h.1,Kl h.2⟩
theorem in_words(x:List Nat)(M:Store):jG (.str x) (.tup (cZ.map D.str)) M= .ok (.bl (decide (x∈cZ))) M:=by
 have hf:(cV (.str x)&&(cZ.map D.str).all cV)=true:=rfl;have he:∀l:List (List Nat),(l.map D.str).any (λy=>dH y (.str x))=decide (x∈l):=by
  intro l
  induction l with
  |nil=>rfl|cons y l ih=>
   rw[Yw,j9,ih,Tw];by_cases h:y=x
   .subst h;simp
   .have h':x≠y:=λe=>h e.symm;simp[h,h']
 simp only[jG,ZwF,hf,if_true,he]
theorem len_str{x:List Nat}(h:x.length<=1000){i:Nat}(hv:Zb i env M= .ok (.str x) M):aJ bG (Za (Zb i) (Ze)) env M= .ok (.int (x.length:Int)) M:=dm hv (by simp only[G_,Hf,Hg,uW,if_pos (show x.length<=SZ from Yi h (by decide))])
noncomputable def nameB(x:List Nat):Bool:=decide (1<=x.length)&&(decide (x.length<=8)&&(!decide (x∈cZ)&&x.all λc=>decide (c∈LET)))
theorem Zku{x:List Nat}(h:x.length<=1000)(M:Store):o7 [.str x] M= .ok (.bl (nameB x)) M:=by
 have hz:x.length<=SZ:=Yi h (by decide);have ln:aJ bG (Za (Zb 0) (Ze)) [Ya (.str x)] M= .ok (.int (x.length:Int)) M:=len_str h rfl;have no:∀(hb:nameB x=false),cU (e2 iU (aJ bG (Za (Zb 0) (Ze))) (eC (.int 1))) (cU (e2 dY (aJ bG (Za (Zb 0) (Ze))) (rK)) (e2 jG (Zb 0) (vh))) [Ya (.str x)] M= .ok (.bl true) M->o7 [.str x] M= .ok (.bl (nameB x)) M:=λhb hc=>by rw[hb];refine Rt.pure (G:=[]) (env:=[Ya (.str x)]) ?_ rfl;rw[gQ];unfold Nq;exact sY ((d7 hc).trans (dF rfl))
 by_cases h1:x.length<1
 .exact no (by simp[nameB];omega) (wX (Zh ln rfl (by rw[uV,decide_eq_true (by omega)])))
 have c1:=ni (g:=cU (e2 dY (aJ bG (Za (Zb 0) (Ze))) (rK)) (e2 jG (Zb 0) (vh))) (Zh (op:=iU) (g:=eC (.int 1)) ln rfl (by rw[uV,decide_eq_false (by exactλz=>by omega)]));by_cases h2:8<x.length
 .exact no (by simp[nameB];omega) (c1.trans (wX (Zh ln (g:=rK) (b:=.int 8) rfl (by rw[pO,decide_eq_true (by omega)]))))
 have c2:=c1.trans (ni (g:=e2 jG (Zb 0) (vh)) (Zh (op:=dY) ln (g:=rK) (b:=.int 8) rfl (by rw[pO,decide_eq_false (by exactλz=>by omega)])));have c3:e2 jG (Zb 0) (vh) [Ya (.str x)] M= .ok (.bl (decide (x∈cZ))) M:=Zh rfl (g:=vh) (b:=.tup (cZ.map D.str)) rfl (in_words x M);by_cases h3:x∈cZ
 .exact no (by simp[nameB,h3]) (c2.trans (c3.trans (by rw[decide_eq_true h3])))
 have hb:nameB x=x.all λc=>decide (c∈LET):=by unfold nameB;rw[decide_eq_true (show 1<=x.length by exact ir h1),decide_eq_true (show x.length<=8 by exact ir h2),decide_eq_false h3];rfl
 rw[hb];refine Rt.pure (G:=[.lst (x.map λc=>D.bl (decide (c∈LET)))]) (env:=[Ya (.str x)]) ?_ rfl;unfold Nq;refine(Zi (fC (c2.trans (c3.trans (by rw[decide_eq_false h3]))))).trans ?_;have hi:(dI (Zb 0)) [Ya (.str x)] M= .ok ⟨x.map (λc=>D.str [c]),Yk⟩ M:=by simp only[dI,Zb,Ka,R3.bind,if_pos hz]
 have lc:=wY (h:=λc=>D.bl (decide (c∈LET))) (own:=1) (i:=1) (elt:=(e2 jG (Zb 1) (xZ))) hi (λn z=>nomatch z)
  (λc hc M'=>Zh (a:=.str [c]) (b:=.str LET) rfl rfl (in_str c LET M')) (Yi h (by decide))
 exact dF (dm lc (all_map (bY _ _ _)))
theorem dW.b{x:List Nat}(h:dW x):nameB x=true:=by unfold nameB;rw[decide_eq_true h.pos,decide_eq_true h.le,decide_eq_false h.own,ig.mpr λc hc=>decide_eq_true (ZvZ (h.low c hc))];rfl
theorem dW.is{x:List Nat}(h:dW x)(M:Store):o7 [.str x] M= .ok (.bl true) M:=by rw[Zku (Yi h.le (by decide)),h.b]
theorem dW.Es{x:List Nat}(h:dW x):mK x=false:=decide_eq_false λz=>h.own (by rcases z with rfl|rfl|rfl|rfl <;>decide)
theorem Zsj{x:List Nat}(h:mK x=true):(x=[97,100,100]\/x=[115,117,98]\/x=[109,111,114,101]\/x=[99,101,108,108]):=of_decide_eq_true h
theorem Zwg(x:List Nat)(M:Store):vg o6 (.str x) M= .ok (.bl (mK x)) M:=by
 show R3.ok (D.bl (cN x o6).isSome) M=_;rw[Zq6];by_cases h1:x=[97,100,100]
 .subst h1;rfl
 by_cases h2:x=[115,117,98]
 .subst h2;rfl
 by_cases h3:x=[109,111,114,101]
 .subst h3;rfl
 by_cases h4:x=gY
 .subst h4;rfl
 have:mK x=false:=decide_eq_false λz=>z.elim h1 λz=>z.elim h2 λz=>z.elim h3 h4;rw[if_neg h1,if_neg h2,if_neg h3,if_neg h4,this];rfl
theorem Wc(x:List Nat)(M:Store):Dm [.str x] M= .ok (.bl (mK x)) M:=(kY (M':=M) (env:=[Ya (.str x)]) (dF (dU rfl (Zwg x M)))).trans (Zkt rfl)
noncomputable def aX:D->List Nat
 | .int i=>fO i|.str x=>x|_=>[]
inductive nJ:D->Prop
 |int (i:Int) (h:i.natAbs<10^60):nJ (.int i)
 |fJ (x:List Nat) (h:dW x):nJ (.str x)
 |op (x:List Nat) (h:mK x=true):nJ (.str x)
noncomputable def Sm.fit:Sm->Prop
 | .num i=>i.natAbs<10^60|.fJ x=>dW x|.gW a=>a.fit|.two _ a b=>a.fit/\b.fit
theorem Jc:∀t:Sm,t.fit->t.good
 | .num _,_=>trivial|.fJ _,h=>h.Es|.gW a,h=>Jc a h|.two _ a b,h=>⟨Jc a h.1,Jc b h.2⟩
theorem ZwN(o:Nat):mK (iY o)=true:=by
 match o with
 |0=>rfl|1=>rfl|_+2=>rfl
theorem Jd:∀(t:Sm),t.fit->∀w∈t.flat,nJ w
 | .num i,h,w,hw=>by rw[Yz.mp hw];exact .int i h|.fJ x,h,w,hw=>by rw[Yz.mp hw];exact .fJ x h|.gW a,h,w,hw=>by
  rcases Yv.mp hw with hw|hw
  .rw[hw];exact .op _ rfl
  .exact Jd a h w hw
 | .two o a b,h,w,hw=>by
  rcases Yv.mp hw with hw|hw
  .rw[hw];exact .op _ (ZwN o)
  .rcases jD.mp hw with hw|hw
   .exact Jd a h.1 w hw
   .exact Jd b h.2 w hw
theorem Zl6(hc:c∈fO i):c<=57:=by
 cases i with
 |ofNat n=>rw[show fO (Int.ofNat n)=b8 n from IW n]at hc;exact(t6 n c hc).2|negSucc n=>
  rw[I_]at hc;rcases Yv.mp hc with h|h
  .omega
  .exact(t6 _ c h).2
theorem Zos(i:Int):∃c r,fO i=c::r:=by
 cases i with
 |ofNat n=>
  rw[show fO (Int.ofNat n)=b8 n from IW n];cases e:b8 n with
  |nil=>exact absurd e (Ac n)|cons c r=>exact⟨c,r,rfl⟩
 |negSucc n=>exact⟨_,_,I_ n⟩
theorem Zmq(i:Int):mK (fO i)=false:=by obtain⟨c,r,e⟩:=Zos i;have hc:c<=57:=Zl6 (i:=i) (by rw[e];exact Yl);refine decide_eq_false λz=>?_;rw[e]at z;rcases z with z|z|z|z<;>(have:=(jR z).1;omega)
theorem ZrY(i:Int):nameB (fO i)=false:=by
 obtain⟨c,r,e⟩:=Zos i;have hc:c<=57:=Zl6 (i:=i) (by rw[e];exact Yl);have:decide (c∈LET)=false:=decide_eq_false λz=>by simp only[Yv,ou,or_false]at z;omega
 unfold nameB;rw[e,iM,this,Rp,yO,yO,yO]
theorem Je{x:List Nat}(h:mK x=true):1<=x.length/\x.length<=60/\∀c∈x,97<=c:=by rcases Zsj h with rfl|rfl|rfl|rfl <;>decide
theorem ZwB(h:nJ w)(hv:∀M,Zb 3 env M= .ok (.str (aX w)) M):
  cU (Zx Dm (Za (Zb 3) (Ze))) (cU (Zx o7 (Za (Zb 3) (Ze))) (Zx q_ (Za (Zb 3) (Ze)))) env M= .ok (.bl true) M:=by
 cases h with
 |int i hi=>rw[ni ((di (hv M) (Wc _ M)).trans (by rw[show aX (.int i)=fO i from rfl,Zmq])),ni ((di (hv M) (Zku (x:=fO i) (Yi (Zod hi) (by decide)) M)).trans (by rw[ZrY]))];exact di (hv M) (ZmD hi M)|fJ x hx=>rw[ni ((di (hv M) (Wc _ M)).trans (by rw[show aX (.str x)=x from rfl,hx.Es]))];exact wX (di (hv M) (hx.is M))|op x hx=>exact wX ((di (hv M) (Wc _ M)).trans (by rw[show aX (.str x)=x from rfl,hx]))
theorem ZvB(h:nJ w)(hv:∀M,Zb 3 env M= .ok (.str (aX w)) M):
  jm (Zx q_ (Za (Zb 3) (Ze))) (aJ nj (Za (Zb 3) (Ze))) (Zb 3) env M= .ok w M:=by
 cases h with
 |int i hi=>rw[Hw (di (hv M) (ZmD hi M))];have r:=NT i hi;refine dm (hv M) ?_;show nj [.str (fO i)] M=_;simp only[nj,r.1];exact if_pos (Yi r.2.1 (by decide))|fJ x hx=>rw[zr (di (hv M) (Zmf hx.pos (Yi hx.le (by decide)) (λc hc=>(hx.low c hc).1) M))];exact hv M|op x hx=>have q:=Je hx;rw[zr (di (hv M) (Zmf q.1 q.2.1 q.2.2 M))];exact hv M
structure Wd(ts:List Sm):Prop where
 fit:∀t∈ts,t.fit
 len:(ts.map Sm.flat).flatten.length<=60
 dep:mH 0 (iJ 0 ts)<=6
noncomputable abbrev aN(ts:List Sm):List D:=(ts.map Sm.flat).flatten
variable{ts:List Sm}
theorem Wf(h:∀t∈ts,t.fit):∀w∈aN ts,nJ w:=λw hw=>by obtain⟨l,h1,h2⟩:=ZR.mp hw;obtain⟨t,ht,rfl⟩:=ji.mp h1;exact Jd t (h t ht) w h2
theorem ZtU{t:Sm}(h:t∈ts):t.flat.length<=(aN ts).length:=by
 induction ts with
 |nil=>cases h|cons a ts ih=>
  rw[aN,Yw,qG,Yj];rcases Yv.mp h with e|e
  .rw[e];exact lQ _ _
  .have:=ih e;rw[aN]at this;omega
theorem Zme(ts:List Sm):ts.length<=(aN ts).length:=by
 induction ts with
 |nil=>exact Yq _|cons t l ih=>rw[aN,Yw,qG,Yj,Yn];obtain⟨w,r,e⟩:=V_ t;rw[e,Yn];rw[aN]at ih;omega
noncomputable abbrev rsE:S3:=aR (jm (e2 Cj (aJ (zT 0) (Za (Zb 2) (Ze))) (ug)) (Zb 1) (eC .non))
theorem Zht(Af:∀t∈ts,t.fit)(JK:(aN ts).length<=60)(hn:M[n]?=Ya (.lst ((aN ts).map λw=>D.str (aX w)))):∃(G:Store) (k:Nat),G[k]?=Ya (.lst (ts.map λt=>.tup t.flat))/\(M++G)[(M++G).length-1]?=Ya (.lst ((iJ 0 ts).map D.int))/\
  Nr [Ya (.ref n),Yk,Yk] M=rsE [Ya (.ref n),Ya (.ref (M.length+k)),Ya (.ref ((M++G).length-1))] (M++G):=by
 have hfit:=Wf Af;have hz:(aN ts).length<=100000:=Yi JK (by decide)
 let M1:=M++[MO.lst ((aN ts).map λ_=>D.bl true)]
 let M2:=M1++[MO.lst ((aN ts).map λw=>w)]
 have hn1:M1[n]?=Ya (.lst ((aN ts).map λw=>D.str (aX w))):=dR hn _;have hi:∀{S:Store} (_:S[n]?=Ya (.lst ((aN ts).map λw=>D.str (aX w)))),(dI (Zb 0)) [Ya (.ref n),Yk,Yk] S= .ok ⟨(aN ts).map (λw=>D.str (aX w)),Ya n⟩ S:=λh=>by show(R3.ok (D.ref n) _).bind _=_;simp only[R3.bind];rw[h]
 have l1:=wY (h:=λ_=>D.bl true) (own:=1) (i:=3) (elt:=cU (Zx Dm (Za (Zb 3) (Ze))) (cU (Zx o7 (Za (Zb 3) (Ze))) (Zx q_ (Za (Zb 3) (Ze))))) (hi hn) (λm e=>by cases e;exact hn)
  (λw hw M'=>ZwB (hfit w hw) λ_=>rfl) hz
 have l2:=wY (h:=λw=>w) (own:=1) (i:=3) (elt:=jm (Zx q_ (Za (Zb 3) (Ze))) (aJ nj (Za (Zb 3) (Ze))) (Zb 3)) (hi hn1) (λm e=>by cases e;exact hn1)
  (λw hw M'=>ZvB (hfit w hw) λ_=>rfl) hz
 have nO:M2[M1.length]?=Ya (.lst (aN ts)):=(bY M1 (MO.lst ((aN ts).map λw=>w)) []).trans (by rw[List.map_id']);obtain⟨G,k,h1,h2⟩:=ZmB M2 ts (λt ht=>Jc t (Af t ht)) (Yi JK (by decide)) nO;have h3:(M2++G)[M2.length+k]?=Ya (.lst (ts.map λt=>.tup t.flat)):=by rw[u0];exact h2
 have lk:d_ [(M2.length+k,ts.map λt=>D.tup t.flat)] (M2++G)=true:=by simp only[d_,iM,Gg,Bv];exact decide_eq_true h3
 have hfew:=Zme ts;have lp:=Wb (F:=Io) lk (i:=3) (j:=4) (λe=>∃a b c d f,e=[a,b,c,d,f]) (λenv ⟨a,b,c,d,f,e⟩ x y=>by subst e;exact⟨⟨_,_,_,_,_,rfl⟩,λM=>⟨rfl,rfl⟩⟩) ts 0 [] [Ya (.ref n),Ya (.ref (M2.length+k)),Yk,Yk,Yk] ⟨_,_,_,_,_,rfl⟩ (λt ht M=>ZrS (Jc t (Af t ht)) (by have:=ZtU ht;omega) M) (by simp;omega);rw[jE]at lp;have hlen:M2.length=M.length+2:=by simp[M2,M1]
 let G0:Store:=[MO.lst ((aN ts).map λ_=>D.bl true),MO.lst ((aN ts).map λw=>w)]
 have eM:M++(G0++G++[.lst ((iJ 0 ts).map D.int)])=M2++G++[.lst ((iJ 0 ts).map D.int)]:=by simp[G0,M2,M1]
 refine⟨G0++G++[.lst ((iJ 0 ts).map D.int)],2+k,?_,?_,?_⟩
 .rw[mW,pI 2 k];show(G++[MO.lst ((iJ 0 ts).map D.int)])[k]?=_;exact dR h2 _
 .rw[eM,Yj,Y0,Z4];exact bY _ _ _
 .rw[eM,←yN,←hlen,Yj (bs:=[MO.lst ((iJ 0 ts).map D.int)]),Y0,Z4];unfold Nr;have t1:=all_map (p:=λ_=>true) (l:=aN ts) (bY M (MO.lst ((aN ts).map λ_=>D.bl true)) []);rw[show((aN ts).all λ_=>true)=true from ig.mpr λ_ _=>rfl]at t1;refine(Zi (fC (M':=M1) (dU (dm l1 t1) rfl))).trans ?_;refine(Zi (Zo (d:=.ref (M2.length+k)) (M':=M2++G) (di l2 h1))).trans ?_;refine(Zi (fC (M':=M2++G) (Zh rfl rfl rfl))).trans ?_;refine(Zi (Zo (d:=.ref (M2++G).length) (M':=M2++G++[.lst ((iJ 0 ts).map D.int)]) ?_)).trans rfl;show(R3.bind (R3.bind (R3.ok (D.ref (M2.length+k)) (M2++G)) _) _)=_;simp only[R3.bind,h3];exact lp
theorem ZlT(H:Wd ts)(hn:M[n]?=Ya (.lst ((aN ts).map λw=>D.str (aX w)))):∃G k,Dn [.ref n] M= .ok (.ref (M.length+k)) (M++G)/\G[k]?=Ya (.lst (ts.map λt=>.tup t.flat)):=by
 obtain⟨G,k,g1,g2,e⟩:=Zht H.fit H.len hn;refine⟨G,k,(kY (M':=M++G) (d:=.ref (M.length+k)) (env:=[Ya (.ref n),Yk,Yk]) ?_).trans ?_,g1⟩
 .rw[e];exact dF ((Hw (M1:=M++G) (Zh (dm rfl (Vh g2)) (g:=ug) (b:=.int 6) rfl (Zzq H.dep))).trans rfl)
 .have hb:below M.length (.ref (M.length+k))=false:=decide_eq_false (Nat.not_lt.mpr (lQ _ _));rw[dh,hb];rfl
theorem ZkS(Af:∀t∈ts,t.fit)(JK:(aN ts).length<=60)(hd:6<mH 0 (iJ 0 ts))(hn:M[n]?=Ya (.lst ((aN ts).map λw=>D.str (aX w)))):Dn [.ref n] M= .ok .non M:=by obtain⟨G,k,g1,g2,e⟩:=Zht Af JK hn;refine Rt.pure (G:=G) (env:=[Ya (.ref n),Yk,Yk]) ?_ rfl;rw[e];exact dF ((zr (M1:=M++G) (Zh (dm rfl (Vh g2)) (g:=ug) (b:=.int 6) rfl (by rw[TQ,decide_eq_false (yQ.mpr hd)]))).trans rfl)
noncomputable abbrev gM:List Nat:=[115,101,116]
noncomputable abbrev lC:List Nat:=[112,117,116]
noncomputable abbrev nP:List Nat:=[116,101,108,108]
noncomputable abbrev gZ:List Nat:=[119,104,101,110]
noncomputable abbrev lD:List Nat:=[119,104,105,108,101]
noncomputable abbrev jN:List Nat:=[101,108,115,101]
noncomputable abbrev g_:List Nat:=[101,110,100]
structure Rw where
 h:List Nat
 xs:List (List Nat)
 ts:List Sm
noncomputable def Rw.words(r:Rw):List (List Nat):=r.h::(r.xs++(aN r.ts).map aX)
noncomputable def Rw.deed(r:Rw):List D:=.str r.h::(r.xs.map D.str++r.ts.map λt=>D.tup t.flat)
structure vz(r:Rw):Prop where
 sm:cN r.h gB=Ya (r.ts.length:Int)
 nx:r.xs.length=if r.h=gM then 1 else 0
 nm:∀x∈r.xs,dW x
 ok:Wd r.ts
 le:r.xs.length+(aN r.ts).length<=59
theorem N7{o:E3}{lo hi:wR}{a b:Option Int}(ho:o env M= .ok (.ref n) M)(hl:lo env M= .ok a M)(hh:hi env M= .ok b M)(h:M[n]?=Ya (.lst ds)):c7 o lo hi env M= .ok (.ref M.length) (M++[.lst (cutD ds a b)]):=by simp only[c7,ho,hl,hh,R3.bind,Cm,h];rfl
theorem Zs4(a:α)(x y:List α):cutD (a::(x++y)) (Ya ((1:Nat):Int)) (Ya ((1+x.length:Nat):Int))=x:=by unfold cutD;rw[GZ,GZ,Gj (show 1+x.length<=(a::(x++y)).length by simp only[Yn,Yj];omega),Gj (show 1<=(a::(x++y)).length by simp),Nat.add_sub_cancel_left];simp
variable{m:Nat}
theorem Zrk{x y:List D}(h1:M[n]?=Ya (.lst x))(h2:M[m]?=Ya (.lst y))(hz:x.length+y.length<=900000):Zt (.ref n) (.ref m) M= .ok (.ref M.length) (M++[.lst (x++y)]):=by rw[Zsh,h1,h2];exact if_pos (Yi hz (by decide))
theorem Wg{n:Nat}:∀{l:List D},(∀w∈l,rn w)->bT n l=true
 |[],_=>rfl|w::l,h=>by
  have h1:below n w=true:=by cases h w Yl<;>rfl
  show(below n w&&bT n l)=true;rw[h1,Wg λx hx=>h x (Yg _ hx)];rfl
theorem Zjv{n:Nat}:∀{x y:List D},bT n x=true->bT n y=true->bT n (x++y)=true
 |[],_,_,h=>h|a::x,y,h,k=>by have h:(below n a&&bT n x)=true:=h;rw[Y3]at h;show(below n a&&bT n (x++y))=true;rw[h.1,Zjv h.2 k];rfl
theorem ZiJ{n:Nat}:∀ts:List Sm,bT n (ts.map λt=>D.tup t.flat)=true
 |[]=>rfl|t::ts=>by show(bT n t.flat&&bT n (ts.map λt=>D.tup t.flat))=true;rw[Wg (Ae t),ZiJ ts];rfl
theorem Zjc{n:Nat}:∀xs:List (List Nat),bT n (xs.map D.str)=true
 |[]=>rfl|_::xs=>Zjc xs
theorem Rw.below{n:Nat}(r:Rw):below n (.tup r.deed)=true:=by show bT n (.str r.h::(r.xs.map D.str++r.ts.map λt=>D.tup t.flat))=true;show bT n (r.xs.map D.str++r.ts.map λt=>D.tup t.flat)=true;exact Zjv (Zjc _) (ZiJ _)
structure Wh(r:Rw):Prop where
 sm:cN r.h gB=Ya (r.ts.length:Int)
 nx:r.xs.length=if r.h=gM then 1 else 0
 nm:∀x∈r.xs,dW x
 le:r.xs.length+(aN r.ts).length<=59
variable{r:Rw}
theorem vz.pre(H:vz r):Wh r:=⟨H.sm,H.nx,H.nm,H.le⟩
noncomputable abbrev vA(r:Rw):Store:=[MO.lst (r.xs.map D.str),MO.lst (r.xs.map λ_=>D.bl true),MO.lst ((aN r.ts).map λw=>D.str (aX w))]
noncomputable abbrev rdZ:S3:=(Zq (aK (cU (e2 zc (Zb 2) (eC .non)) (e2 fj (aJ bG (Za (Zb 2) (Ze))) (e1 (Dk gB) (e2 Zm (Zb 0) (eC (.int 0)))))) (aR (eC .non)) (aZ)) (aR (aJ kO (Za (e2 Zt (c7 (Zb 0) (dZ) (cW (Zb 1))) (Zb 2)) (Ze)))))
variable{S:Store}
theorem Zho(H:Wh r)(hn:M[n]?=Ya (.lst (r.words.map D.str)))(hs:Dn [.ref (M.length+2)] (M++vA r)= .ok d S):Ip [Ya (.ref n),Yk,Yk] M=rdZ [Ya (.ref n),Ya (.int ((1+r.xs.length:Nat):Int)),Ya d] S:=by
 have hlen:r.words.length=1+r.xs.length+(aN r.ts).length:=by simp only[Rw.words,Yn,Yj,Ys];exact Y6 (by omega) (by omega)
 have hle:=H.le;have e0:∀{S:Store} {a b:Option D},S[n]?=Ya (.lst (r.words.map D.str))->e2 Zm (Zb 0) (eC (.int 0)) [Ya (.ref n),a,b] S= .ok (.str r.h) S:=λh=>Zh rfl rfl (jr h (gU _ 0))
 let B:Int:=((1+r.xs.length:Nat):Int)
 have hB:jm (e2 aY (e2 Zm (Zb 0) (eC (.int 0))) (eC (.str [115,101,116]))) (eC (.int 2)) (eC (.int 1)) [Ya (.ref n),Yk,Yk] M= .ok (.int B) M:=by
  by_cases h:r.h=gM
  .have e:B=2:=by show((1+r.xs.length:Nat):Int)=2;rw[H.nx,if_pos h];rfl
   rw[Hw (M1:=M) (Zh (e0 hn) rfl (by simp only[aY,wQ,decide_eq_true h])),e];rfl
  .have e:B=1:=by show((1+r.xs.length:Nat):Int)=1;rw[H.nx,if_neg h];rfl
   rw[zr (M1:=M) (Zh (e0 hn) rfl (by simp only[aY,wQ,decide_eq_false h])),e];rfl
 let M1:=M++[MO.lst (r.xs.map D.str)]
 let M2:=M1++[MO.lst (r.xs.map λ_=>D.bl true)]
 let M3:=M2++[MO.lst ((aN r.ts).map λw=>D.str (aX w))]
 have hn2:M2[n]?=Ya (.lst (r.words.map D.str)):=dR (dR hn _) _;have ew:r.words.map D.str=D.str r.h::(r.xs.map D.str++(aN r.ts).map λw=>D.str (aX w)):=by show D.str r.h::(r.xs++(aN r.ts).map aX).map D.str=_;rw[oA,lO];rfl
 have hx:(r.xs.map D.str).length=r.xs.length:=Ys _;have c1:cutD (r.words.map D.str) (Ya ((1:Nat):Int)) (Ya B)=r.xs.map D.str:=by have:=Zs4 (D.str r.h) (r.xs.map D.str) ((aN r.ts).map λw=>D.str (aX w));rw[hx]at this;rw[ew];exact this
 have c2:cutD (r.words.map D.str) (Ya B) Yk=(aN r.ts).map λw=>D.str (aX w):=by rw[NZ,ew,pI,List.drop_succ_cons,←hx,ZX]
 have s1:dI (c7 (Zb 0) (cW (eC (.int 1))) (cW (Zb 1))) [Ya (.ref n),Ya (.int B),Yk] M= .ok ⟨r.xs.map D.str,Ya M.length⟩ M1:=by have:=N7 (env:=[Ya (.ref n),Ya (.int B),Yk]) (o:=Zb 0) (lo:=cW (eC (.int 1))) (hi:=cW (Zb 1)) (a:=Ya ((1:Nat):Int)) (b:=Ya B) rfl rfl rfl hn;rw[c1]at this;show(c7 _ _ _ _ _).bind _=_;rw[this];simp only[R3.bind,bY];rfl
 have l1:=wY (h:=λ_=>D.bl true) (own:=1) (i:=3) (elt:=Zx o7 (Za (Zb 3) (Ze))) s1 (λm e=>by cases e;exact bY M _ [])
  (λx hx M'=>di rfl ((H.nm x hx).is M')) (by omega)
 have t1:=all_map (p:=λ_=>true) (l:=r.xs) (bY M1 (MO.lst (r.xs.map λ_=>D.bl true)) []);rw[show(r.xs.all λ_=>true)=true from ig.mpr λ_ _=>rfl]at t1;have s2:c7 (Zb 0) (cW (Zb 1)) (dZ) [Ya (.ref n),Ya (.int B),Yk] M2= .ok (.ref M2.length) M3:=by have:=N7 (env:=[Ya (.ref n),Ya (.int B),Yk]) (o:=Zb 0) (lo:=cW (Zb 1)) (hi:=dZ) (a:=Ya B) (b:=Yk) rfl rfl rfl hn2;rw[c2]at this;exact this
 have nO:M2.length=M.length+2:=by simp[M2,M1]
 rw[←nO,show M++vA r=M3 by simp[M3,M2,M1]]at hs;unfold Ip;have q1:e1 (Ih gB) (e2 Zm (Zb 0) (eC (.int 0))) [Ya (.ref n),Yk,Yk] M= .ok (.bl false) M:=dU (e0 hn) (by show R3.ok (D.bl (!(cN r.h gB).isSome)) M=_;rw[H.sm];rfl);have q2:e2 dY (aJ bG (Za (Zb 0) (Ze))) (rN) [Ya (.ref n),Yk,Yk] M= .ok (.bl false) M:=Zh (dm rfl (oO hn)) (g:=rN) (b:=.int 60) rfl (by rw[pO,decide_eq_false (by rw[Ys,hlen];exactλz=>by omega)]);refine(Zi (fC ((ni q1).trans q2))).trans ?_;refine(Zi (Zo hB)).trans ?_;refine(Zi (fC (M':=M2) (dU (dm l1 t1) rfl))).trans ?_;exact Zi (Zo (di s2 hs))
theorem Zhu(H:vz r)(hn:M[n]?=Ya (.lst (r.words.map D.str))):vo [.ref n] M= .ok (.tup r.deed) M:=by
 let B:Int:=((1+r.xs.length:Nat):Int)
 have ew:r.words.map D.str=D.str r.h::(r.xs.map D.str++(aN r.ts).map λw=>D.str (aX w)):=by show D.str r.h::(r.xs++(aN r.ts).map aX).map D.str=_;rw[oA,lO];rfl
 have hx:(r.xs.map D.str).length=r.xs.length:=Ys _;have c3:cutD (r.words.map D.str) Yk (Ya B)=D.str r.h::r.xs.map D.str:=by rw[V8,ew,pI,List.take_succ_cons,←hx,ZZ]
 let M3:=M++vA r
 obtain⟨G,k,h1,h2⟩:=ZlT H.ok (n:=M.length+2) (M:=M3) (by show(M++vA r)[M.length+2]?=_;rw[u0];rfl)
 let M4:=M3++G
 have hk:M4[M3.length+k]?=Ya (.lst (r.ts.map λt=>.tup t.flat)):=by show(M3++G)[_]?=_;rw[u0];exact h2
 have hn4:M4[n]?=Ya (.lst (r.words.map D.str)):=dR (dR hn _) _
 let M5:=M4++[MO.lst (D.str r.h::r.xs.map D.str)]
 let M6:=M5++[MO.lst r.deed]
 have s3:c7 (Zb 0) (dZ) (cW (Zb 1)) [Ya (.ref n),Ya (.int B),Ya (.ref (M3.length+k))] M4= .ok (.ref M4.length) M5:=by have:=N7 (env:=[Ya (.ref n),Ya (.int B),Ya (.ref (M3.length+k))]) (o:=Zb 0) (lo:=dZ) (hi:=cW (Zb 1)) (a:=Yk) (b:=Ya B) rfl rfl rfl hn4;rw[c3]at this;exact this
 have hfew:=Zme r.ts;have hle:=H.le;have s4:e2 Zt (c7 (Zb 0) (dZ) (cW (Zb 1))) (Zb 2) [Ya (.ref n),Ya (.int B),Ya (.ref (M3.length+k))] M4= .ok (.ref M5.length) M6:=Zh s3 rfl (Zrk (bY M4 _ []) (dR hk _) (by simp;omega));have hM6:M6=M++(vA r++G++[MO.lst (D.str r.h::r.xs.map D.str),MO.lst r.deed]):=by simp[M6,M5,M4,M3]
 refine Rt.pure (G:=vA r++G++[MO.lst (D.str r.h::r.xs.map D.str),MO.lst r.deed]) (env:=[Ya (.ref n),Yk,Yk]) ?_ r.below;rw[←hM6,Zho H.pre hn h1];have q3:e2 fj (aJ bG (Za (Zb 2) (Ze))) (e1 (Dk gB) (e2 Zm (Zb 0) (eC (.int 0)))) [Ya (.ref n),Ya (.int B),Ya (.ref (M3.length+k))] M4= .ok (.bl false) M4:=by
  refine Zh (M2:=M4) (dm rfl (oO hk)) (dU (M2:=M4) (Zh rfl rfl (jr hn4 (d:=.str r.h) (gU _ 0))) (d:=.int (r.ts.length:Int)) ?_) ?_
  .simp only[Dk,H.sm]
  .simp only[fj,sV,Ys,decide_eq_true (rfl:(r.ts.length:Int)=r.ts.length)];rfl
 refine(Zi (fC ((ni (M1:=M4) (Zh rfl rfl rfl)).trans q3))).trans ?_;exact dF (dm s4 (Hu (bY M5 _ [])))
noncomputable abbrev gO:List Nat:=[66,108,111,99,107]
noncomputable abbrev nQ:List Nat:=[104,101,97,100]
noncomputable abbrev vB:List Nat:=[108,105,115,116,115]
structure Bk where
 r:Nat
 l:Nat
 h:List Nat
 hd:List D
 cl:List (Nat×List D)
 cn:Nat
 cur:List D
noncomputable def Bk.ads(k:Bk):List Nat:=k.r::k.l::k.cn::k.cl.map (·.1)
structure qj(S:Store)(k:Bk):Prop where
 hr:S[k.r]?=Ya (.ins gO [(nQ,.tup (.str k.h::k.hd)),(vB,.ref k.l)])
 hl:S[k.l]?=Ya (.lst ((k.cl.map λp=>D.ref p.1)++[.ref k.cn]))
 hc:∀p∈k.cl,S[p.1]?=Ya (.lst p.2)
 hn:S[k.cn]?=Ya (.lst k.cur)
variable{S':Store}
theorem qj.congr{k:Bk}(H:qj S k)(h:∀a∈k.ads,S'[a]?=S[a]?):qj S' k:=⟨by rw[h _ (by simp[Bk.ads])];exact H.hr,by rw[h _ (by simp[Bk.ads])];exact H.hl,λp hp=>by rw[h _ (by simp only[Bk.ads];exact Yg _ (Yg _ (Yg _ (Ke hp))))];exact H.hc p hp,by rw[h _ (by simp[Bk.ads])];exact H.hn⟩
noncomputable abbrev gC(ks:List Bk):List Nat:=ks.flatMap Bk.ads
structure cG(S:Store)(b:Nat)(ks:List Bk):Prop where
 hb:S[b]?=Ya (.lst (ks.map λk=>D.ref k.r).reverse)
 hk:∀k∈ks,qj S k
 nb:b∉gC ks
 nd:(gC ks).Nodup
theorem qj.lt{k:Bk}(H:qj S k):∀a∈k.ads,a<S.length:=λa ha=>by
 have q:∀{i:Nat} {o:MO},S[i]?=Ya o->i<S.length:=λh=>(Yd.mp h).1;simp only[Bk.ads,Yv,ji]at ha;rcases ha with rfl|rfl|rfl|⟨p,hp,rfl⟩
 .exact q H.hr
 .exact q H.hl
 .exact q H.hn
 .exact q (H.hc p hp)
variable{ks:List Bk}
theorem cG.lt{b:Nat}(H:cG S b ks):∀a∈gC ks,a<S.length:=λa ha=>by obtain⟨k,hk,h⟩:=wj.mp ha;exact(H.hk k hk).lt a h
theorem cG.Ag{b:Nat}(H:cG S b ks):b<S.length:=(Yd.mp H.hb).1
theorem cG.frame{b:Nat}(H:cG S b ks)(h:∀a∈b::gC ks,S'[a]?=S[a]?):cG S' b ks:=⟨by rw[h b Yl];exact H.hb,λk hk=>(H.hk k hk).congr λa ha=>h a (Yg _ (wj.mpr ⟨k,hk,ha⟩)),H.nb,H.nd⟩
theorem cG.app{b:Nat}(H:cG S b ks)(G:Store):cG (S++G) b ks:=
 H.frame λa ha=>Yx (by
  rcases Yv.mp ha with e|e
  .rw[e];exact H.Ag
  .exact H.lt a e)
theorem rA(k:Bk)(ks:List Bk):gC (k::ks)=k.ads++gC ks:=rfl
theorem cG.rest{b:Nat}{k:Bk}(H:cG S b (k::ks)):(∀j∈ks,qj S j)/\b∉k.ads/\b∉gC ks/\k.ads.Nodup/\(gC ks).Nodup/\∀a∈k.ads,a∉gC ks:=by have nb:=H.nb;have nd:=H.nd;rw[rA]at nb nd;rw[jD]at nb;obtain⟨n1,n2,n3⟩:=Q9.mp nd;exact⟨λj hj=>H.hk j (Yg _ hj),λz=>nb (.inl z),λz=>nb (.inr z),n1,n2,λa ha hb=>n3 a ha a hb rfl⟩
theorem cG.more{b:Nat}{k:Bk}(H:cG S b (k::ks))(d:D):cG (S.set k.cn (.lst (k.cur++[d]))) b ({k with cur:=k.cur++[d]}::ks):=by
 obtain⟨h1,h2,h3,h4,h5,h6⟩:=H.rest;have hk:=H.hk k Yl;have hcn:k.cn∈k.ads:=by simp[Bk.ads]
 have Ah:k.r≠k.cn/\k.l≠k.cn/\k.cn∉k.cl.map (·.1):=by simp only[Bk.ads,su,Yv,not_or]at h4;exact⟨h4.1.2.1,h4.2.1.1,h4.2.2.1⟩
 have o:∀a,a≠k.cn->(S.set k.cn (.lst (k.cur++[d])))[a]?=S[a]?:=λa ha=>Yu (bV ha);refine⟨?_,?_,H.nb,H.nd⟩
 .rw[o b λe=>h2 (e▸hcn)];exact H.hb
 .intro j hj;rcases Yv.mp hj with e|e
  .rw[e];refine⟨by rw[o _ Ah.1];exact hk.hr,by rw[o _ Ah.2.1];exact hk.hl,λp hp=>by rw[o _ λe=>Ah.2.2 (e▸Ke hp)];exact hk.hc p hp,?_⟩;exact Y4 (Yd.mp hk.hn).1
  .exact(h1 j e).congr λa ha=>o a λz=>h6 k.cn hcn (wj.mpr ⟨j,e,z▸ha⟩)
theorem cG.els{b:Nat}{k:Bk}(H:cG S b (k::ks)):cG ((S++[MO.lst []]).set k.l (MO.lst ((k.cl.map λp=>D.ref p.1)++[D.ref k.cn]++[D.ref S.length]))) b ({k with cl:=k.cl++[(k.cn,k.cur)],cn:=S.length,cur:=[]}::ks):=by
 obtain⟨h1,h2,h3,h4,h5,h6⟩:=H.rest;have hk:=H.hk k Yl;have hl:k.l∈k.ads:=by simp[Bk.ads]
 have Ah:k.r≠k.l/\k.cn≠k.l/\k.l∉k.cl.map (·.1):=by simp only[Bk.ads,su,Yv,not_or]at h4;exact⟨h4.1.1,bV h4.2.1.1,h4.2.1.2⟩
 have o:∀a,a≠k.l->a<S.length->((S++[MO.lst []]).set k.l (MO.lst ((k.cl.map λp=>D.ref p.1)++[D.ref k.cn]++[D.ref S.length])))[a]?=S[a]?:=λa ha hlt=>by rw[Yu (bV ha),Yx hlt]
 have hsz:∀a∈k.ads,a<S.length:=hk.lt;have hll:k.l<S.length:=hsz _ hl;have fresh:S.length∉gC (k::ks):=λz=>wA _ (H.lt _ z);have perm:(gC ({k with cl:=k.cl++[(k.cn,k.cur)],cn:=S.length,cur:=[]}::ks)).Perm (S.length::gC (k::ks)):=by rw[rA,rA];refine List.Perm.append_right (gC ks) (l₂:=S.length::k.ads) ?_;simp only[Bk.ads,oA,Yw,wk];have p1:(k.r::k.l::S.length::(k.cl.map (·.1)++[k.cn])).Perm (k.r::S.length::k.l::(k.cl.map (·.1)++[k.cn])):=List.Perm.cons _ (List.Perm.swap _ _ _);refine p1.trans ((List.Perm.swap _ _ _).trans (List.Perm.cons _ (List.Perm.cons _ (List.Perm.cons _ ?_))));exact List.perm_append_comm
 refine⟨?_,?_,?_,?_⟩
 .rw[o b (λe=>h2 (e▸hl)) H.Ag];exact H.hb
 .intro j hj;rcases Yv.mp hj with e|e
  .rw[e];refine⟨by rw[o _ Ah.1 (hsz _ (by simp[Bk.ads]))];exact hk.hr,?_,?_,?_⟩
   .rw[Y4 (by rw[Yj];exact Ko _ hll)];simp
   .intro p hp;rcases jD.mp hp with q|q
    .rw[o _ (λe=>Ah.2.2 (e▸Ke q)) (hsz _ (by simp only[Bk.ads];exact Yg _ (Yg _ (Yg _ (Ke q)))))];exact hk.hc p q
    .rw[Yz.mp q,o _ Ah.2.1 (hsz _ (by simp[Bk.ads]))];exact hk.hn
   .show _[S.length]?=_;rw[Yu (by exactλz=>by omega)];exact bY _ _ _
  .exact(h1 j e).congr λa ha=>o a (λz=>h6 k.l hl (wj.mpr ⟨j,e,z▸ha⟩)) (H.lt a (wj.mpr ⟨j,Yg _ e,ha⟩))
 .intro z;rcases Yv.mp (perm.mem_iff.mp z)with e|e
  .have:=H.Ag;omega
  .exact H.nb e
 .exact perm.nodup_iff.mpr (su.mpr ⟨fresh,H.nd⟩)
noncomputable abbrev Jf(n:Nat)(h:List Nat)(hd:List D):Bk:=⟨n,n+2,h,hd,[],n+1,[]⟩
noncomputable abbrev nObj(n:Nat)(h:List Nat)(hd:List D):Store:=[.ins gO [(nQ,.tup (.str h::hd)),(vB,.ref (n+2))],.lst [],.lst [.ref (n+1)]]
theorem cG.push{b:Nat}(H:cG S b ks)(h:List Nat)(hd:List D):cG ((S++nObj S.length h hd).set b (.lst ((ks.map λk=>D.ref k.r).reverse++[.ref S.length]))) b (Jf S.length h hd::ks):=by
 have hb:=H.Ag;have o:∀a,a≠b->a<S.length->((S++nObj S.length h hd).set b (.lst ((ks.map λk=>D.ref k.r).reverse++[.ref S.length])))[a]?=S[a]?:=λa ha hlt=>by rw[Yu (bV ha),Yx hlt]
 have n:∀j,((S++nObj S.length h hd).set b (.lst ((ks.map λk=>D.ref k.r).reverse++[.ref S.length])))[S.length+j]?=(nObj S.length h hd)[j]?:=λj=>by rw[Yu (by exactλz=>by omega),u0]
 refine⟨?_,?_,?_,?_⟩
 .rw[Y4 (by rw[Yj];exact Ko _ hb)];simp
 .intro j hj;rcases Yv.mp hj with e|e
  .rw[e];exact⟨(n 0).trans rfl,(n 2).trans rfl,(λp hp=>nomatch hp),(n 1).trans rfl⟩
  .exact(H.hk j e).congr λa ha=>o a (λz=>H.nb (wj.mpr ⟨j,e,z▸ha⟩)) (H.lt a (wj.mpr ⟨j,e,ha⟩))
 .rw[rA];intro z;rcases jD.mp z with z|z
  .simp[Bk.ads]at z;omega
  .exact H.nb z
 .rw[rA];refine Q9.mpr ⟨by simp[Bk.ads],H.nd,λa ha c hc e=>?_⟩;have:=H.lt c hc;simp[Bk.ads]at ha;omega
theorem cG.pop{b:Nat}{k:Bk}(H:cG S b (k::ks)):cG (S.set b (.lst (ks.map λk=>D.ref k.r).reverse)) b ks:=by obtain⟨h1,h2,h3,h4,h5,h6⟩:=H.rest;exact⟨Y4 H.Ag,λj hj=>(h1 j hj).congr λa ha=>Yu λ(e:b=a)=>h3 (wj.mpr ⟨j,hj,by rw[e];exact ha⟩),h3,h5⟩
theorem N8{i:Nat}(hv:Zb i env M= .ok (.ref n) M)(h:M[n]?=Ya (.lst (xs++[d]))):aQ bI kW (Zb i) (Ze) env M= .ok d (M.set n (.lst xs)):=by simp only[aQ,hv,R3.bind,zm,h,Ze,if_true];rw[T5,h];simp
theorem ZrE{c f:List Nat}{fs:List (List Nat×D)}(h:M[n]?=Ya (.ins c fs))(hf:fs.lookup f=Ya d):jw c f (.ref n) M= .ok d M:=by rw[ZmP,h];simp only[if_true,hf]
theorem qj.head{k:Bk}(H:qj S k):jw gO nQ (.ref k.r) S= .ok (.tup (.str k.h::k.hd)) S:=ZrE H.hr rfl
theorem qj.lists{k:Bk}(H:qj S k):jw gO vB (.ref k.r) S= .ok (.ref k.l) S:=ZrE H.hr rfl
theorem cG.last{b:Nat}{k:Bk}(H:cG S b (k::ks)){i:Nat}(hv:Zb i env S= .ok (.ref b) S):e2 Zm (Zb i) (e1 jn (eC (.int 1))) env S= .ok (.ref k.r) S:=by refine Zh hv (dU rfl (Ci 1)) (jr H.hb ?_);rw[Yw,Gb];exact getD_last _ _
noncomputable def Ai(h:List Nat):Int:=(cN h o5).getD 0
noncomputable def Bk.full(k:Bk):Bool:=decide (Ai k.h=((k.cl.length+1:Nat):Int))
noncomputable def t7(w:List Nat):Bool:=(cN w o5).isSome
noncomputable def N_(k:Bk)(n:Nat)(w:List Nat):Bool:=if t7 w then decide (n<=12)else if w=jN then decide (k.h=gZ)&&!k.full else if w=g_ then k.full else true
theorem nR{a b:List Nat}:aY (.str a) (.str b) M= .ok (.bl (decide (a=b))) M:=by simp only[aY,wQ]
theorem Zg5{b:Nat}{k:Bk}(H:cG S b (k::ks))(w:List Nat):zW [.ref b,.str w] S= .ok (.bl (N_ k (ks.length+1) w)) S:=by
 have hk:=H.hk k Yl;refine(kY (M':=S) (env:=[Ya (.ref b),Ya (.str w),Yk,Yk]) ?_).trans (Zkt rfl);unfold VF;refine(Zi (Zo (H.last rfl))).trans ?_;have h0:∀{a:Option D},e2 Zm (e1 (jw gO nQ) (Zb 2)) (eC (.int 0)) [Ya (.ref b),Ya (.str w),Ya (.ref k.r),a] S= .ok (.str k.h) S:=Zh (dU rfl hk.head) rfl (Hv (gU _ 0));have AcC:e2 aY (e2 (u6 o5) (e2 Zm (e1 (jw gO nQ) (Zb 2)) (eC (.int 0))) (eC (.int 0))) (aJ bG (Za (e1 (jw gO vB) (Zb 2)) (Ze))) [Ya (.ref b),Ya (.str w),Ya (.ref k.r),Yk] S= .ok (.bl k.full) S:=by
  refine Zh (Zh h0 rfl (d:=.int (Ai k.h)) (M3:=S) ?_) (dm (dU rfl hk.lists) (oO hk.hl)) ?_
  .show(match cN k.h o5 with|some i=>R3.ok (D.int i) S|none=>R3.ok (D.int 0) S)=_
   unfold Ai;cases cN k.h o5<;>rfl
  .simp only[aY,sV,Yj,Ys,Y0];rfl
 refine(Zi (Zo AcC)).trans ?_;have hin:e1 (vg o5) (Zb 1) [Ya (.ref b),Ya (.str w),Ya (.ref k.r),Ya (.bl k.full)] S= .ok (.bl (t7 w)) S:=dU rfl rfl;unfold N_;by_cases h1:t7 w=true
 .rw[if_pos h1];rw[h1]at hin;refine sY ((d7 hin).trans (dF (Zh (dm rfl (oO H.hb)) (g:=xY) (b:=.int 12) rfl ?_)));rw[TQ];congr 3;simp only[yE,Ys,Yn];exact propext ⟨λz=>by omega,λz=>by omega⟩
 rw[if_neg h1];rw[Yl2]at h1;rw[h1]at hin;refine(Zi (fC hin)).trans ?_;by_cases h2:w=jN
 .rw[if_pos h2];refine sY ((d7 (M':=S) (Zh rfl rfl (nR.trans (by rw[decide_eq_true h2])))).trans (dF ?_));by_cases h3:k.h=gZ
  .rw[Cu (M1:=S) (Zh h0 rfl (nR.trans (by rw[decide_eq_true h3]))),decide_eq_true h3];rfl
  .rw[L_ (M1:=S) (Zh h0 rfl (nR.trans (by rw[decide_eq_false h3]))),decide_eq_false h3];rfl
 rw[if_neg h2];refine(Zi (fC (M':=S) (Zh rfl rfl (nR.trans (by rw[decide_eq_false h2]))))).trans ?_;by_cases h3:w=g_
 .rw[if_pos h3];exact sY ((d7 (M':=S) (Zh rfl rfl (nR.trans (by rw[decide_eq_true h3])))).trans (dF rfl))
 .rw[if_neg h3];exact(Zi (fC (M':=S) (Zh rfl rfl (nR.trans (by rw[decide_eq_false h3]))))).trans (dF rfl)
variable{j:Nat}{o:MO}
theorem Wi(hj:j<M.length)(ho:M'[j]?=Ya o)(hb:wV M.length o=false)(hne:M[j]?≠Ya o):dh M d M'= .ok d M':=by
 have ht:(M'.take M.length)[j]?=Ya o:=by rw[v_ hj];exact ho
 have h1:decide (M'.take M.length=M)=false:=decide_eq_false λe=>hne (by rw[e]at ht;exact ht);have h2:(M'.take M.length).all (wV M.length)=false:=by rw[Bool.eq_false_iff];intro z;have:=ig.mp z o (Br ht);rw[hb]at this;cases this
 unfold dh;rw[h1,h2];simp
theorem Zrj(hl:M.length<=M'.length):∃S,dh M d M'= .ok d S/\M.length<=S.length/\∀a,a<M.length->S[a]?=M'[a]?:=by
 unfold dh;split
 .exact⟨_,rfl,by rw[yG];omega,λa ha=>v_ ha⟩
 .exact⟨_,rfl,hl,λa _=>rfl⟩
structure ql(S S':Store)(b:Nat)(ks:List Bk):Prop where
 len:S.length<=S'.length
 old:∀a,a<S.length->a∉b::gC ks->S'[a]?=S[a]?
theorem Oa{n m:Nat}(h:n<=m):∀{l:List D},D.ref m∈l->bT n l=false
 |d::l,hm=>by
  show(below n d&&bT n l)=false;rcases Yv.mp hm with e|e
  .rw[←e,show below n (.ref m)=decide (m<n)from rfl,decide_eq_false (by exactλz=>by omega)];rfl
  .rw[Oa h e,yO]
variable{h:List Nat}
theorem Wj{e:E3}{hd:List D}(he:e env S= .ok (.tup (.str h::hd)) S):xg gO vm (Za e (Ze)) env S= .ok (.ref S.length) (S++nObj S.length h hd):=by
 have hg:(Za e Ze) env S= .ok [.tup (.str h::hd)] S:=Zr he rfl;have hF:vm [.ref S.length,.tup (.str h::hd)] (S++[.ins gO []])= .ok .non (S++nObj S.length h hd):=by
  have s1:HB gO nQ (Zb 0) (Zb 1) [Ya (.ref S.length),Ya (.tup (.str h::hd))] (S++[.ins gO []])= .nx [Ya (.ref S.length),Ya (.tup (.str h::hd))] (S++[.ins gO [(nQ,.tup (.str h::hd))]]):=by refine zp (d:=.non) (Zh rfl rfl ?_);rw[Ub,bY];simp[w6]
  have s2:HB gO vB (Zb 0) (aV (Za (aV (Ze)) (Ze))) [Ya (.ref S.length),Ya (.tup (.str h::hd))] (S++[.ins gO [(nQ,.tup (.str h::hd))]])= .nx [Ya (.ref S.length),Ya (.tup (.str h::hd))] (S++nObj S.length h hd):=by
   have l1:aV (Za (aV (Ze)) (Ze)) [Ya (.ref S.length),Ya (.tup (.str h::hd))] (S++[.ins gO [(nQ,.tup (.str h::hd))]])= .ok (.ref (S.length+2)) (S++[.ins gO [(nQ,.tup (.str h::hd))],.lst [],.lst [.ref (S.length+1)]]):=by
    refine(fY (M':=S++[.ins gO [(nQ,.tup (.str h::hd))],.lst []]) (ds:=[.ref (S.length+1)]) (Zr ((fY rfl rfl).trans ?_) rfl) rfl).trans ?_
    .simp
    .simp
   refine zp (d:=.non) (Zh l1 rfl ?_);rw[Ub,bY];have:=Ht S [MO.ins gO [(nQ,.tup (.str h::hd))],.lst [],.lst [.ref (S.length+1)]] 0 (.ins gO [(nQ,.tup (.str h::hd)),(vB,.ref (S.length+2))]);rw[Rn]at this;simp[w6,this]
  refine(Hs (M':=S++nObj S.length h hd) (env:=[Ya (.ref S.length),Ya (.tup (.str h::hd))]) ((Zi s1).trans s2)).trans ?_;refine Wi (j:=S.length) (o:=.ins gO [(nQ,.tup (.str h::hd)),(vB,.ref (S.length+2))]) (by simp) (bY _ _ _) ?_ ?_
  .show bT _ [.tup (.str h::hd),.ref (S.length+2)]=false;exact Oa (m:=S.length+2) (by simp) (by simp)
  .rw[bY];simp
 simp only[xg,hg,R3.bind,hF]
section
variable {S:Store} {b:Nat} {k:Bk} {ks:List Bk} {w:List Nat} {d:List D}
theorem vC{v:Option D}{x:Option D}:e2 Zm (Zb 1) (eC (.int 0)) [Ya (.ref b),Ya (.tup (.str w::d)),v,x] S= .ok (.str w) S:=Zh rfl rfl (Hv (gU _ 0))
theorem ql.AcX(h:n∈b::gC ks):ql S (S.set n o) b ks:=⟨by rw[yI];exact Yq _,λa _ ha=>Yu λ(e:n=a)=>ha (e▸h)⟩
theorem ql.setG{G:Store}(h:n∈b::gC ks):ql S ((S++G).set n o) b ks:=⟨by rw[yI,Yj];exact lQ _ _,λa hl ha=>by rw[Yu λ(e:n=a)=>ha (e▸h),Yx hl]⟩
theorem Zyw:k.cn∈b::gC (k::ks):=Yg _ (pG _ (by simp[Bk.ads]))
theorem ZzH:k.l∈b::gC (k::ks):=Yg _ (pG _ (by simp[Bk.ads]))
theorem ZlY(H:cG S b (k::ks))(h1:t7 w=false)(h2:w≠jN)(h3:w≠g_)(hz:k.cur.length<1000):
  ∃S',vp [.ref b,.tup (.str w::d)] S= .ok .non S'/\cG S' b ({k with cur:=k.cur++[.tup (.str w::d)]}::ks)/\ql S S' b (k::ks):=by
 have hk:=H.hk k Yl;refine⟨_,(Hs (M':=S.set k.cn (.lst (k.cur++[.tup (.str w::d)]))) (env:=[Ya (.ref b),Ya (.tup (.str w::d)),Yk,Yk]) (env':=[Ya (.ref b),Ya (.tup (.str w::d)),Ya (.ref k.r),Yk]) ?_).trans (Zq1 (yI ..)),H.more _,ql.AcX Zyw⟩;unfold zX;refine(Zi (Zo (H.last rfl))).trans ?_;refine(jq (M':=S) (dU vC (by show R3.ok (D.bl (t7 w)) S=_;rw[h1]))).trans ?_;refine(jq (M':=S) (Zh vC rfl (nR.trans (by rw[decide_eq_false h2])))).trans ?_;refine(jq (M':=S) (Zh vC rfl (nR.trans (by rw[decide_eq_false h3])))).trans ?_;exact o_ (M':=S) (Zh (dU rfl hk.lists) (dU rfl (Ci 1)) (jr hk.hl (getD_last _ _))) hk.hn rfl hk.hn (lR hz (by decide))
theorem ZpX(H:cG S b (k::ks))(h1:t7 w=true)(hz:ks.length<100):
  ∃S',vp [.ref b,.tup (.str w::d)] S= .ok .non S'/\cG S' b (Jf S.length w d::k::ks)/\ql S S' b (k::ks):=by
 have hlt:=H.Ag;refine⟨_,(Hs (M':=(S++nObj S.length w d).set b (.lst (((k::ks).map λk=>D.ref k.r).reverse++[.ref S.length]))) (env:=[Ya (.ref b),Ya (.tup (.str w::d)),Yk,Yk]) (env':=[Ya (.ref b),Ya (.tup (.str w::d)),Ya (.ref k.r),Yk]) ?_).trans (Wi (j:=b) hlt (Y4 (by rw[Yj];exact Ko _ hlt)) (Oa (m:=S.length) (Yq _) (Y5 _ Yl)) ?_),H.push w d,ql.setG Yl⟩
 .unfold zX;refine(Zi (Zo (H.last rfl))).trans ?_;refine(d7 (M':=S) (dU vC (by show R3.ok (D.bl (t7 w)) S=_;rw[h1]))).trans ?_;exact o_ (M':=S) rfl H.hb (Wj (h:=w) (hd:=d) rfl) (dR H.hb _) (by simp only[yE,Ys,Yn];exact lR (show ks.length+1<1000 by omega) (by decide))
 .rw[H.hb];intro e;have:=congrArg (λo:Option MO=>match o with|some (.lst x)=>x.length|_=>0) e;simp at this
theorem Zpz(H:cG S b (k::ks))(hz:k.cl.length<100):
  ∃S',vp [.ref b,.tup (.str jN::d)] S= .ok .non S'/\cG S' b ({k with cl:=k.cl++[(k.cn,k.cur)],cn:=S.length,cur:=[]}::ks)/\ql S S' b (k::ks):=by
 have hk:=H.hk k Yl;have hlt:k.l<S.length:=hk.lt _ (by simp[Bk.ads]);refine⟨_,(Hs (M':=(S++[MO.lst []]).set k.l (MO.lst ((k.cl.map λp=>D.ref p.1)++[D.ref k.cn]++[D.ref S.length]))) (env:=[Ya (.ref b),Ya (.tup (.str jN::d)),Yk,Yk]) (env':=[Ya (.ref b),Ya (.tup (.str jN::d)),Ya (.ref k.r),Yk]) ?_).trans (Wi (j:=k.l) hlt (Y4 (by rw[Yj];exact Ko _ hlt)) (Oa (m:=S.length) (Yq _) (Y5 _ Yl)) ?_),H.els,ql.setG ZzH⟩
 .unfold zX;refine(Zi (Zo (H.last rfl))).trans ?_;refine(jq (M':=S) (dU vC rfl)).trans ?_;refine(d7 (M':=S) (Zh vC rfl (nR.trans (by rw[decide_eq_true rfl])))).trans ?_;exact o_ (M':=S) (dU rfl hk.lists) hk.hl (fY rfl rfl) (dR hk.hl _) (by simp only[Yj,Ys,Y0];exact lR (show k.cl.length+1<1000 by omega) (by decide))
 .rw[hk.hl];intro e;have:=congrArg (λo:Option MO=>match o with|some (.lst x)=>x.length|_=>0) e;simp at this
noncomputable def Bk.whole(k:Bk):D:=.tup (.str k.h::k.hd++(k.cl++[(k.cn,k.cur)]).map λp=>D.tup p.2)
theorem Zqf{k2:Bk}(H:cG S b (k::k2::ks))(hz:k.cl.length<100)(hd:k.hd.length<100)(hc:k2.cur.length<1000):
  ∃S',vp [.ref b,.tup (.str g_::d)] S= .ok .non S'/\cG S' b ({k2 with cur:=k2.cur++[k.whole]}::ks)/\ql S S' b (k::k2::ks):=by
 have hk:=H.hk k Yl
 let S1:=S.set b (.lst ((k2::ks).map λk=>D.ref k.r).reverse)
 have H1:cG S1 b (k2::ks):=H.pop;have hk1:qj S1 k:=hk.congr λa ha=>Yu λ(e:b=a)=>H.rest.2.1 (by rw[e];exact ha)
 let S2:=S1++[MO.lst ((k.cl++[(k.cn,k.cur)]).map λp=>D.tup p.2)]
 have H2:cG S2 b (k2::ks):=H1.app _;have hk2:=H2.hk k2 Yl
 let S3:=S2.set k2.cn (.lst (k2.cur++[k.whole]))
 have H3:cG S3 b ({k2 with cur:=k2.cur++[k.whole]}::ks):=H2.more _;have hl3:S.length<=S3.length:=by simp[S3,S2,S1]
 have lc:jo (dI (e1 (jw gO vB) (Zb 2))) 1 (b_ 4) [] (aJ kO (Za (Zb 4) (Ze))) [Ya (.ref b),Ya (.tup (.str g_::d)),Ya (.ref k.r),Yk] S1= .ok (.ref S1.length) S2:=by
  refine ZqK (enc:=λp:Nat×List D=>D.ref p.1) (h:=λp=>D.tup p.2) (as:=k.cl++[(k.cn,k.cur)]) (M1:=S1) (lock:=Ya k.l) (λe=>∃a1 a2 a3 a4 a5,e=[a1,a2,a3,a4,a5]) ?_ ?_ ⟨_,_,_,_,_,rfl⟩ ?_ (by simp;omega)
  .show(e1 (jw gO vB) (Zb 2) _ _).bind _=_;rw[dU (d:=.ref k.l) rfl hk1.lists];simp only[R3.bind,hk1.hl,oA];rfl
  .intro n hn;cases hn;rw[oA];exact hk1.hl
  .intro p hp env ⟨a1,a2,a3,a4,a5,e⟩;subst e;refine⟨_,rfl,⟨_,_,_,_,_,rfl⟩,λx=>dm rfl (Hu (dR ?_ _))⟩;rcases jD.mp hp with q|q
   .exact hk1.hc p q
   .rw[Yz.mp q];exact hk1.hn
 have main:zX [Ya (.ref b),Ya (.tup (.str g_::d)),Yk,Yk] S= .nx [Ya (.ref b),Ya (.tup (.str g_::d)),Ya (.ref k.r),Ya k.whole] S3:=by
  unfold zX;refine(Zi (Zo (H.last rfl))).trans ?_;refine(jq (M':=S) (dU vC rfl)).trans ?_;refine(jq (M':=S) (Zh vC rfl (nR.trans (by rw[decide_eq_false (by decide)])))).trans ?_;refine(d7 (M':=S) (Zh vC rfl (nR.trans (by rw[decide_eq_true rfl])))).trans ?_;have hb:S[b]?=Ya (.lst (((k2::ks).map λk=>D.ref k.r).reverse++[D.ref k.r])):=by rw[H.hb,Yw,Gb]
  refine(Zi (zp (N8 rfl hb))).trans ?_;refine(Zi (Zo (d:=k.whole) (M':=S2) (Zh (dU rfl hk1.head) (dm lc (Hu (bY S1 _ []))) ?_))).trans ?_
  .rw[Zmk];refine if_pos ?_;simp only[Yn,Ys,Yj,Ge];exact Yi (show _<=1000 by omega) (by decide)
  .exact o_ (M':=S2) (Zh (dU (H2.last rfl) hk2.lists) (dU rfl (Ci 1)) (jr hk2.hl (getD_last _ _))) hk2.hn rfl hk2.hn (lR hc (by decide))
 obtain⟨S',e,l1,o1⟩:=Zrj (M:=S) (M':=S3) (d:=.non) hl3;have old:∀a,a<S.length->a∉b::gC (k::k2::ks)->S3[a]?=S[a]?:=λa hlt ha=>by have n1:k2.cn≠a:=λz=>ha (Yg _ (by rw[rA,rA,←z];exact Y5 _ (pG _ (by simp[Bk.ads]))));have n2:b≠a:=λz=>ha (by rw[z];exact Yl);show(S2.set k2.cn _)[a]?=_;rw[Yu n1];show(S1++_)[a]?=_;rw[Yx (by simp[S1];exact hlt)];exact Yu n2
 refine⟨S',(Hs main).trans e,H3.frame λa ha=>o1 a ?_,l1,λa hl ha=>(o1 a hl).trans (old a hl ha)⟩;rcases Yv.mp ha with z|z
 .rw[z];exact H.Ag
 .refine H.lt a ?_;rw[rA];exact Y5 _ z
end
variable{f:E3}
theorem xT(h:f env M= .ok d M'):pY f env M= .ok d M':=by simp only[pY,h]
theorem ZsK{f:cY}{d:List D}(h:f env M= .ok d M'):oX f env M= .ok d M':=by simp only[oX,h]
theorem qm{f:S3}{e:Zz}(h:f env M= .nx e M'):fD f env M= .nx e M':=by rw[fD,h]
theorem Zwz{f:S3}(h:f env M= .rt d M'):fD f env M= .rt d M':=by rw[fD,h]
theorem Jg{f g:S3}{x:X3}(h:f env M= .exc x M'):Zq f g env M= .exc x M':=by rw[Zq,h]
theorem Ob{ps:Nat}{body:S3}{x:X3}(h:body env M= .exc x M')(hl:ds.length=ps:=by rfl)(he:ds.map Ya++Ym (n-ps) Yk=env:=by rfl):bF ps n body ds M= .exc x M':=by subst he;rw[bF,if_pos hl,h]
theorem Zp5{x:X3}(h:f env M= .exc x M'):bj f env M= .exc x M':=by rw[bj,h]
theorem ZqG{cs:List (List Nat)}{b g:S3}{env e1 e2:Zz}{M M' M2:Store}{x:X3}(h:b env M= .exc x M')(hc:cs.contains x.cls=true)(hg:g (env.set j (Ya x.arg)) M'= .nx e1 M2)(he:e1.set j Yk=e2):HD cs j b g env M= .nx e2 M2:=by rw[HD,h];simp only[hc,if_true,hg,he]
structure Pf where
 h:List Nat
 hd:List D
 cl:List (List D)
 cur:List D
noncomputable def Bk.pf(k:Bk):Pf:=⟨k.h,k.hd,k.cl.map (·.2),k.cur⟩
noncomputable def Pf.whole(k:Pf):D:=.tup (.str k.h::k.hd++(k.cl++[k.cur]).map D.tup)
theorem ZrF(k:Bk):k.whole=k.pf.whole:=by simp[Bk.whole,Pf.whole,Bk.pf]
noncomputable def Rw.tl(r:Rw):List D:=r.xs.map D.str++r.ts.map λt=>D.tup t.flat
theorem Zot(r:Rw):r.deed= .str r.h::r.tl:=rfl
noncomputable def stepK(r:Rw)(k:Pf)(fs:List Pf):Option (List Pf):=if t7 r.h=true then(if fs.length+1<=12 then Ya (⟨r.h,r.tl,[],[]⟩::k::fs)else Yk)
  else if r.h=jN then(if k.h=gZ/\k.cl=[]then Ya (⟨k.h,k.hd,[k.cur],[]⟩::fs)else Yk)
  else if r.h=g_ then(match fs with
   |[]=>Yk|k2::fs=>if Ai k.h=((k.cl.length+1:Nat):Int)/\k.hd.length<100/\k.cl.length<100/\k2.cur.length<1000 then Ya (⟨k2.h,k2.hd,k2.cl,k2.cur++[k.whole]⟩::fs)else Yk)
  else if k.cur.length<1000 then Ya (⟨k.h,k.hd,k.cl,k.cur++[.tup r.deed]⟩::fs)else Yk
noncomputable def Et(r:Rw):List Pf->Option (List Pf)
 |[]=>Yk|k::fs=>stepK r k fs
structure xU(M S:Store)(b:Nat)(ks:List Bk):Prop where
 bk:cG S b ks
 len:M.length<=S.length
 pre:∀a,a<M.length->S[a]?=M[a]?
 hi:∀a∈b::gC ks,M.length<=a
theorem xU.next{b:Nat}{ks':List Bk}(I:xU M S b ks)(h:cG S' b ks')(st:ql S S' b ks)(ha:∀a∈gC ks',a∈gC ks\/S.length<=a):xU M S' b ks':=
 ⟨h,Yi I.len st.len,λa hl=>(st.old a (Y7 hl I.len) λz=>by have:=I.hi a z;omega).trans (I.pre a hl),λa z=>by
  rcases Yv.mp z with e|e
  .exact I.hi a (by rw[e];exact Yl)
  .rcases ha a e with q|q
   .exact I.hi a (Yg _ q)
   .exact Yi I.len q⟩
theorem ZnG{b:Nat}(I:xU M S b ks){fs:List Pf}(hp:Et r (ks.map Bk.pf)=Ya fs):
  zW [.ref b,.str r.h] S= .ok (.bl true) S/\∃S' ks',vp [.ref b,.tup r.deed] S= .ok .non S'/\xU M S' b ks'/\ks'.map Bk.pf=fs:=by
 cases ks with
 |nil=>cases hp|cons k ks=>
  rw[Zg5 I.bk r.h];rw[Yw]at hp;have hp:stepK r k.pf (ks.map Bk.pf)=Ya fs:=hp;unfold stepK at hp;unfold N_;by_cases h1:t7 r.h=true
  .rw[if_pos h1]at hp ⊢;by_cases hl:(ks.map Bk.pf).length+1<=12
   .rw[if_pos hl]at hp;rw[Ys]at hl;obtain⟨S',e,q1,q2⟩:=ZpX (d:=r.tl) I.bk h1 (by omega);refine⟨by rw[decide_eq_true hl],S',_,e,I.next q1 q2 λa ha=>?_,eZ hp⟩;rw[rA]at ha;rcases jD.mp ha with z|z
    .right;simp[Bk.ads]at z;omega
    .exact .inl z
   .rw[if_neg hl]at hp;cases hp
  rw[if_neg h1]at hp ⊢;rw[Yl2]at h1;by_cases h2:r.h=jN
  .rw [if_pos h2]at hp ⊢;by_cases hc:k.pf.h=gZ/\k.pf.cl=[]
   .rw[if_pos hc]at hp;have hcl:k.cl=[]:=Bs.mp hc.2;have hh:k.h=gZ:=hc.1;obtain⟨S',e,q1,q2⟩:=Zpz (d:=r.tl) I.bk (by rw[hcl];decide);have hf:k.full=false:=by unfold Bk.full;rw[hh,hcl];rfl
    refine⟨by rw[decide_eq_true hh,hf];rfl,S',_,by rw[Zot,h2];exact e,I.next q1 q2 λa ha=>?_,?_⟩
    .rw[rA]at ha ⊢;rcases jD.mp ha with z|z
     .simp only[Bk.ads,hcl,jE,Yw,wk,Yv,ou,or_false]at z;rcases z with z|z|z|z
      .exact .inl (pG _ (by simp[Bk.ads,z]))
      .exact .inl (pG _ (by simp[Bk.ads,z]))
      .exact .inr (oE z.symm)
      .exact .inl (pG _ (by simp[Bk.ads,z]))
     .exact .inl (Y5 _ z)
    .rw[←eZ hp,Yw];simp[Bk.pf,hcl]
   .rw[if_neg hc]at hp;cases hp
  rw[if_neg h2]at hp ⊢;by_cases h3:r.h=g_
  .rw [if_pos h3]at hp ⊢;cases ks with
   |nil=>cases hp|cons k2 ks=>
    simp only[Yw]at hp;by_cases hc:Ai k.pf.h=((k.pf.cl.length+1:Nat):Int)/\k.pf.hd.length<100/\k.pf.cl.length<100/\k2.pf.cur.length<1000
    .rw[if_pos hc]at hp;have hcl:k.pf.cl.length=k.cl.length:=Ys _;obtain⟨c1,c2,c3,c4⟩:=hc;rw[hcl]at c1 c3;obtain⟨S',e,q1,q2⟩:=Zqf (d:=r.tl) I.bk c3 c2 c4;refine⟨by rw[show k.full=true from decide_eq_true c1],S',_,by rw[Zot,h3];exact e,I.next q1 q2 λa ha=>?_,?_⟩
     .left;rw[rA];exact Y5 _ ha
     .rw[←eZ hp,Yw,ZrF];rfl
    .rw[if_neg hc]at hp;cases hp
  rw[if_neg h3]at hp ⊢;by_cases hc:k.pf.cur.length<1000
  .rw[if_pos hc]at hp;obtain⟨S',e,q1,q2⟩:=ZlY (d:=r.tl) I.bk h1 h2 h3 hc;exact⟨rfl,S',_,e,I.next q1 q2 λa ha=>.inl ha,eZ hp⟩
  .rw[if_neg hc]at hp;cases hp
noncomputable abbrev rC:List Nat:=[66,97,100,82,111,119]
noncomputable abbrev Eu:List Nat:=[114,111,119]
theorem Wk{c f:List Nat}{M M1:Store}(h:g env M= .ok [.int i] M1)(hi:i.natAbs.log2<1000):tV c f g env M= .exc ⟨c,.ref M1.length⟩ (M1++[.ins (0::c) [(f,.int i)]]):=by simp only[tV,h,if_pos hi]
variable{u:S3}
theorem Oc{i:I3}{g:G3}{it:fW}(h:i env M= .ok it M'):HF i g u env M=dg it g u it.items env M':=by rw[HF,h]
noncomputable abbrev xV:S3:=Zq (fD (aA 5 (Zx vo (Za (Zb 4) (Ze))))) (Zq (aK (pY (cU (e2 zc (Zb 5) (eC .non)) (e1 iT (Zx zW (Za (Zb 2) (Za (e2 Zm (Zb 5) (eC (.int 0))) (Ze))))))) (tV rC Eu (Za (Zb 3) (Ze))) (fD (aZ))) (fD (bj (Zx vp (Za (Zb 2) (Za (Zb 5) (Ze)))))))
noncomputable abbrev fU:List Nat:=[112,114,111,103,114,97,109]
noncomputable abbrev qp(q:Int×Nat×Rw):D:=.tup [.int q.1,.ref q.2.1]
structure Lt(n:Nat)(fs:List Pf):Prop where
 ea:∀k∈fs,k.cur.length<=n/\k.hd.length<100/\k.cl.length<=1
 lo:∃gs k,fs=gs++[k]/\k.h=fU/\k.cl=[]
theorem Lt.one:Lt 0 [⟨fU,[],[],[]⟩]:=⟨λk hk=>by rw[Yz.mp hk];exact⟨Yq _,(by decide:(0:Nat)<100),fL _⟩,[],_,rfl,rfl,rfl⟩
theorem Lt.ne{fs:List Pf}(h:Lt n fs):fs≠[]:=by obtain⟨gs,k,e,_⟩:=h.lo;rw[e];simp
theorem Lt.end_{k:Pf}(h:Lt n [k]):k.h=fU/\k.cl=[]:=by
 obtain⟨gs,j,e,q⟩:=h.lo;cases gs with
 |nil=>rw[show k=j from(jR e).1];exact q|cons a gs=>exact absurd (congrArg yK e) (by simp)
theorem Lt.tail{k k2:Pf}{fs:List Pf}(h:Lt n (k::k2::fs)):Lt n (k2::fs):=by
 refine⟨λj hj=>h.ea j (Yg _ hj),?_⟩;obtain⟨gs,j,e,q⟩:=h.lo;cases gs with
 |nil=>exact absurd (congrArg yK e) (by simp)|cons a gs=>exact⟨gs,j,(jR e).2,q⟩
theorem Lt.up{fs:List Pf}(h:Lt n fs)(l:n<=m):Lt m fs:=⟨λk hk=>⟨Yi (h.ea k hk).1 l,(h.ea k hk).2⟩,h.lo⟩
theorem Lt.swap{k k':Pf}{fs:List Pf}(h:Lt n (k::fs))(l:n<=m)(e:k'.h=k.h)(ec:k.h=fU->k.cl=[]->k'.cl=[])(q:k'.cur.length<=m/\k'.hd.length<100/\k'.cl.length<=1):Lt m (k'::fs):=by
 refine⟨λj hj=>?_,?_⟩
 .rcases Yv.mp hj with rfl|hj
  .exact q
  .exact⟨Yi (h.ea j (Yg _ hj)).1 l,(h.ea j (Yg _ hj)).2⟩
 .obtain⟨gs,j,e2,q2⟩:=h.lo;cases gs with
  |nil=>obtain⟨e3,e4⟩:=jR e2;exact⟨[],k',by rw[e4];rfl,by rw[e,e3];exact q2.1,ec (by rw[e3];exact q2.1) (by rw[e3];exact q2.2)⟩|cons a gs=>exact⟨k'::gs,j,by rw[(jR e2).2];rfl,q2⟩
theorem Lt.step{fs gs:List Pf}(h:Lt n fs)(hr:r.tl.length<100)(hs:Et r fs=Ya gs):Lt (n+1) gs:=by
 cases fs with
 |nil=>cases hs|cons k fs=>
  have hs:stepK r k fs=Ya gs:=hs;have hk:=h.ea k Yl;unfold stepK at hs;split at hs
  .split at hs
   .cases hs
    obtain⟨g2,j,e2,q2⟩:=h.lo;refine⟨λj hj=>?_,_::g2,j,by rw[e2];rfl,q2⟩;rcases Yv.mp hj with rfl|hj
    .exact⟨fL _,hr,fL _⟩
    .exact(h.up (wD n)).ea j hj
   .cases hs
  .split at hs
   .split at hs
    .rename_i hc;cases hs;exact h.swap (wD n) rfl (λz=>absurd (hc.1.symm.trans z) (by decide)) ⟨fL _,hk.2.1,Yq _⟩
    .cases hs
   .split at hs
    .split at hs
     .cases hs
     .split at hs
      .cases hs
       have h2:=h.tail;have hj:=h2.ea _ Yl;refine h2.swap (wD n) rfl (λ_ z=>z) ⟨?_,hj.2⟩;rw[Yj];exact Kh hj.1 1
      .cases hs
    .split at hs
     .cases hs
      refine h.swap (wD n) rfl (λ_ z=>z) ⟨?_,hk.2⟩;rw[Yj];exact Kh hk.1 1
     .cases hs
theorem Znd{b n:Nat}(H:cG S b ks)(l:Lt n (ks.map Bk.pf))(hn:n<1000)(hs:Et r (ks.map Bk.pf)=Yk):zW [.ref b,.str r.h] S= .ok (.bl false) S:=by
 cases ks with
 |nil=>exact absurd rfl l.ne|cons k ks=>
  rw[Zg5 H r.h];rw[Yw]at hs l;have hk:=l.ea k.pf Yl;have hs:stepK r k.pf (ks.map Bk.pf)=Yk:=hs;have lc:k.pf.cl.length=k.cl.length:=Ys _;unfold stepK at hs;unfold N_;by_cases h1:t7 r.h=true
  .rw[if_pos h1]at hs ⊢;rw[Ys]at hs;by_cases hl:ks.length+1<=12
   .rw[if_pos hl]at hs;cases hs
   .rw[decide_eq_false hl]
  rw[if_neg h1]at hs ⊢;by_cases h2:r.h=jN
  .rw[if_pos h2]at hs ⊢;by_cases hc:k.pf.h=gZ/\k.pf.cl=[]
   .rw[if_pos hc]at hs;cases hs
   .by_cases hw:k.h=gZ
    .have hne:k.cl≠[]:=λz=>hc ⟨hw,by show k.cl.map _=[];rw[z];rfl⟩;have l1:k.cl.length=1:=Y6 (by rw[←lc];exact hk.2.2) (List.length_pos_iff.mpr hne);have:k.full=true:=by unfold Bk.full;rw[l1,hw];decide +kernel
     rw[this,decide_eq_true hw];rfl
    .rw[decide_eq_false hw];rfl
  rw[if_neg h2]at hs ⊢;by_cases h3:r.h=g_
  .rw[if_pos h3]at hs ⊢;cases ks with
   | nil=>
    have e:k.h=fU:=l.end_.1;have:k.full=false:=by unfold Bk.full;rw[e,show Ai fU=0 by decide +kernel];exact decide_eq_false (λz=>by omega)
    rw[this]
   | cons k2 ks=>
    rw[Yw]at hs l;have h2k:=l.ea k2.pf (Yg _ Yl);dsimp only at hs;by_cases hc:Ai k.h=((k.cl.length+1:Nat):Int)
    .rw[if_pos ⟨by rw[lc];exact hc,hk.2.1,pH hk.2.2 (by decide),pH h2k.1 hn⟩]at hs;cases hs
    .have:k.full=false:=decide_eq_false hc;rw[this]
  rw[if_neg h3]at hs;rw[if_pos (pH hk.1 hn)]at hs;cases hs
noncomputable def t8:List (Int×Rw)->List Pf->Sum Int (List Pf)
 |[],fs=>.inr fs|q::L,fs=>match Et q.2 fs with
  |some gs=>t8 L gs|none=>.inl q.1
theorem ZmS{M:Store}{b:Nat}{it:fW}(hit:∀S,(∀a,a<M.length->S[a]?=M[a]?)->locked it S=true){v0 v1:Option D}:
  ∀(L:List (Int×Nat×Rw)) (S:Store) (ks:List Bk) (n:Nat) (x3 x4 x5:Option D),xU M S b ks->Lt n (ks.map Bk.pf)->n+L.length<1000->(∀q∈L,M[q.2.1]?=Ya (.lst (q.2.2.words.map D.str))/\vz q.2.2/\q.2.2.tl.length<100/\q.1.natAbs.log2<1000) ->
  match t8 (L.map λq=>(q.1,q.2.2)) (ks.map Bk.pf)with
  | .inr fs=>∃S' ks' y3 y4 y5,dg it (jH [3,4]) xV (L.map qp) [v0,v1,Ya (.ref b),x3,x4,x5] S= .nx [v0,v1,Ya (.ref b),y3,y4,y5] S'/\xU M S' b ks'/\ks'.map Bk.pf=fs|.inl z=>∃S':Store,dg it (jH [3,4]) xV (L.map qp) [v0,v1,Ya (.ref b),x3,x4,x5] S= .exc ⟨rC,.ref S'.length⟩ (S'++[.ins (0::rC) [(Eu,.int z)]])/\M.length<=S'.length/\∀a,a<M.length->S'[a]?=M[a]?
 |[],S,ks,n,x3,x4,x5,I,_,_,_=>⟨S,ks,x3,x4,x5,by show dg _ _ _ [] _ _=_;rw[pR,if_pos (hit S I.pre)],I,rfl⟩|q::L,S,ks,n,x3,x4,x5,I,l,hz,hL=>by
  obtain⟨hw,ok,ht,hq⟩:=hL q Yl;rw[Yw];have hwS:S[q.2.1]?=Ya (.lst (q.2.2.words.map D.str)):=(I.pre _ (Yd.mp hw).1).trans hw;have hn:n<1000:=by rw[Yn]at hz;omega
  have step:∀o:O3,xV [v0,v1,Ya (.ref b),Ya (.int q.1),Ya (.ref q.2.1),x5] S=o->dg it (jH [3,4]) xV ((q::L).map qp) [v0,v1,Ya (.ref b),x3,x4,x5] S=(match o with
    | .nx e M'=>dg it (jH [3,4]) xV (L.map qp) e M'|.ct e M'=>dg it (jH [3,4]) xV (L.map qp) e M'|.bk e M'=>.nx e M'|o=>o):=λo ho=>by
   rw[Yw,pU,if_pos (hit S I.pre)];simp only[jH,Hq,Ho,n8,n_,ho]
   try(cases o<;>rfl)
  unfold t8;cases hs:Et q.2.2 (ks.map Bk.pf)with
  |none=>have c1:=Znd I.bk l hn hs;refine⟨S,?_,I.len,I.pre⟩;rw[step (.exc ⟨rC,.ref S.length⟩ (S++[.ins (0::rC) [(Eu,.int q.1)]])) ?_];refine(Zi (qm (Zo (di rfl (Zhu ok hwS))))).trans ?_;exact Jg ((d7 (M':=S) (xT ((ni (M1:=S) (Zh rfl rfl rfl)).trans (dU (zq rfl (Zh rfl rfl (Hv (gU _ 0))) c1) rfl)))).trans (Wk rfl hq))|some f1=>
   obtain⟨c1,S1,k1,p1,I1,e1⟩:=ZnG I hs;have l1:Lt (n+1) (k1.map Bk.pf):=by rw[e1];exact l.step ht hs
   have IH:=ZmS (v0:=v0) (v1:=v1) hit L S1 k1 (n+1) (Ya (.int q.1)) (Ya (.ref q.2.1)) (Ya (.tup q.2.2.deed)) I1 l1 (by rw[Yn]at hz;omega) (λp hp=>hL p (Yg _ hp));rw[e1]at IH;rw[step (.nx [v0,v1,Ya (.ref b),Ya (.int q.1),Ya (.ref q.2.1),Ya (.tup q.2.2.deed)] S1) ?_]
   .exact IH
   refine(Zi (qm (Zo (di rfl (Zhu ok hwS))))).trans ?_;refine(Zi ((jq (M':=S) (xT ((ni (M1:=S) (Zh rfl rfl rfl)).trans (dU (zq rfl (Zh rfl rfl (Hv (gU _ 0))) c1) rfl)))).trans (qm rfl))).trans ?_;exact qm (zp (zq rfl rfl p1))
theorem ZoX:∀{L:List (Int×Rw)} {n:Nat} {fs gs:List Pf},Lt n fs->(∀q∈L,q.2.tl.length<100)->t8 L fs= .inr gs->Lt (n+L.length) gs
 |[],n,fs,gs,l,_,e=>by cases e;exact l|q::L,n,fs,gs,l,h,e=>by
  unfold t8 at e;cases hs:Et q.2 fs with
  |none=>rw[hs]at e;cases e|some f1=>rw[hs]at e;have:=ZoX (l.step (h q Yl) hs) (λp hp=>h p (Yg _ hp)) e;rw[Yn,show n+(L.length+1)=n+1+L.length by exact Y6 (by omega) (by omega)];exact this
theorem Wl(M:Store):xU M (M++nObj M.length fU []++[.lst [.ref M.length]]) (M.length+3) [Jf M.length fU []]:=by
 have n:∀j,(M++nObj M.length fU []++[.lst [.ref M.length]])[M.length+j]?=(nObj M.length fU []++[.lst [.ref M.length]])[j]?:=λj=>by rw[mW,u0]
 refine⟨⟨(n 3).trans rfl,λk hk=>?_,?_,?_⟩,by simp,λa ha=>by rw[mW,Yx ha],λa ha=>?_⟩
 .rw[Yz.mp hk];exact⟨(n 0).trans rfl,(n 2).trans rfl,(λp hp=>nomatch hp),(n 1).trans rfl⟩
 .simp[gC,Bk.ads]
 .simp[gC,Bk.ads]
 .simp[gC,Bk.ads]at ha;omega
def lE(M:Store)(z:Int)(o:R3 D):Prop:=∃S':Store,o= .exc ⟨rC,.ref S'.length⟩ (S'++[.ins (0::rC) [(Eu,.int z)]])/\M.length<=S'.length/\∀a,a<M.length->S'[a]?=M[a]?
def Wm(M:Store)(z:Int)(r:Sum Int (List Pf))(o:R3 D):Prop:=match r with
 | .inl i=>lE M i o|.inr [k]=>bT M.length k.cur=true->o= .ok (.tup k.cur) M|.inr _=>lE M z o
variable{z:Int}
theorem Zk8{L:List (Int×Nat×Rw)}(hn:M[n]?=Ya (.lst (L.map qp)))(hz:z.natAbs.log2<1000)(hl:L.length<1000)(hL:∀q∈L,M[q.2.1]?=Ya (.lst (q.2.2.words.map D.str))/\vz q.2.2/\q.2.2.tl.length<100/\q.1.natAbs.log2<1000):
  Wm M z (t8 (L.map λq=>(q.1,q.2.2)) [⟨fU,[],[],[]⟩]) (nF [.ref n,.int z] M):=by
 let S0:=M++nObj M.length fU []++[MO.lst [.ref M.length]]
 have hnl:=(Yd.mp hn).1;have lt:=λgs=>ZoX (L:=L.map λq=>(q.1,q.2.2)) (gs:=gs) Lt.one (λp hp=>by obtain⟨q,hq,rfl⟩:=ji.mp hp;exact(hL q hq).2.2.1);have key:=ZmS (M:=M) (it:=⟨L.map qp,Ya n⟩) (λS hS=>decide_eq_true ((hS n hnl).trans hn)) (v0:=Ya (.ref n)) (v1:=Ya (.int z)) L S0 [Jf M.length fU []] 0 Yk Yk Yk (Wl M) Lt.one (by omega) hL;have m1:=Wj (env:=[Ya (.ref n),Ya (.int z),Yk,Yk,Yk,Yk]) (S:=M) (e:=bD (Za (eC (.str fU)) (Ze))) (h:=fU) (hd:=[]) (iI rfl rfl);have h0:fD (aA 2 (aV (Za (xg gO vm (Za (bD (Za (eC (.str fU)) (Ze))) (Ze))) (Ze)))) [Ya (.ref n),Ya (.int z),Yk,Yk,Yk,Yk] M= .nx [Ya (.ref n),Ya (.int z),Ya (.ref (M.length+3)),Yk,Yk,Yk] S0:=qm (Zo (d:=.ref (M.length+3)) (M':=S0) ((fY (Zr m1 rfl) rfl).trans (by simp[S0])));have hi0:dI (Zb 0) [Ya (.ref n),Ya (.int z),Ya (.ref (M.length+3)),Yk,Yk,Yk] S0= .ok ⟨L.map qp,Ya n⟩ S0:=by show(R3.ok (D.ref n) S0).bind _=_;simp only[R3.bind];rw[show S0[n]?=Ya (.lst (L.map qp))from((Wl M).pre n hnl).trans hn]
 have ek:[Jf M.length fU []].map Bk.pf=[(⟨fU,[],[],[]⟩:Pf)]:=rfl;rw[ek]at key;unfold Wm;cases hr:t8 (L.map λq=>(q.1,q.2.2)) [⟨fU,[],[],[]⟩]with
 |inl i=>rw[hr]at key;obtain⟨S',h,h1,h2⟩:=key;refine⟨S',Ob (env:=[Ya (.ref n),Ya (.int z),Yk,Yk,Yk,Yk]) ?_,h1,h2⟩;unfold Dp;exact(Zi h0).trans (Jg ((Oc hi0).trans h))|inr fs=>
  have lt:=lt fs hr;rw[hr]at key;obtain⟨S',ks',y3,y4,y5,h,I,e⟩:=key;have e2:ks'.length=fs.length:=by rw[←e,Ys]
  match fs,ks',e,e2,I,lt with
  |[],_,_,_,_,lt=>exact absurd rfl lt.ne|[f],[k],e,_,I,lt=>
   intro hbl;have e:=(jR e).1;have hcl:k.cl=[]:=Bs.mp ((congrArg Pf.cl e).trans lt.end_.2);have hcur:k.cur=f.cur:=congrArg Pf.cur e;have hk:=I.bk.hk k Yl;refine(kY (M':=S') (d:=.tup f.cur) (env:=[Ya (.ref n),Ya (.int z),Yk,Yk,Yk,Yk]) ?_).trans ?_
   .unfold Dp;refine(Zi h0).trans ((Zi ((Oc hi0).trans h)).trans ?_);refine(Zi ((jq (M':=S') (xT (Zh (dm rfl (oO I.bk.hb)) rfl (by rw[pO];rfl)))).trans (qm rfl))).trans ?_;refine Zwz (dF (dm (Zh (dU (Zh rfl rfl (jr I.bk.hb (gU _ 0))) hk.lists) rfl (jr hk.hl (d:=.ref k.cn) (by rw[hcl];exact gU _ 0))) ((Hu hk.hn).trans (by rw[hcur]))))
   .have ht:S'.take M.length=M:=by
     apply yF;intro a;by_cases ha:a<M.length
     .rw[v_ ha];exact I.pre a ha
     .rw[Bq (by rw[yG];omega),Bq (ir ha)]
    unfold dh;rw[show below M.length (.tup f.cur)=true from hbl,ht,decide_eq_true rfl];rfl
  |f::f2::fs,k::k2::ks,e,_,I,lt=>refine⟨S',Ob (env:=[Ya (.ref n),Ya (.int z),Yk,Yk,Yk,Yk]) ?_,I.len,I.pre⟩;unfold Dp;refine(Zi h0).trans ((Zi ((Oc hi0).trans h)).trans ?_);refine Jg ((d7 (M':=S') (xT (Zh (dm rfl (oO I.bk.hb)) rfl ?_))).trans (Wk rfl hz));rw[pO];simp;omega
noncomputable def gD:Option (List (List Nat))->List Nat
 |none=>[]|some ws=>glue [32] ws
structure rD(ws:List (List Nat)):Prop where
 ne:ws≠[]
 fr:∀w∈ws,32∉w/\10∉w
 tx:glue [32] ws≠[]
 le:(glue [32] ws).length<=20000
noncomputable def rowsOf:Nat->List (Option (List (List Nat)))->List (Int×List (List Nat))
 |_,[]=>[]|k,Yk::r=>rowsOf (k+1) r|k,Ya ws::r=>((k:Nat),ws)::rowsOf (k+1) r
noncomputable def rE(n:Nat):List (Int×List (List Nat))->List D
 |[]=>[]|q::r=>.tup [.int q.1,.ref n]::rE (n+1) r
noncomputable abbrev t_(L:List (Int×List (List Nat))):Store:=L.map λq=>MO.lst (q.2.map D.str)
noncomputable abbrev cA:E3:=bD (Za (Zb 4) (Za (aQ iz wZ (Zb 5) (Za (eC (.str [32])) (Ze))) (Ze)))
theorem Od{ty:D->Store->Bool}{me:D->List D->Store->R3 D}{o:E3}{M M1 M2 M3:Store}{a:D}(h1:o env M= .ok a M1)(hi:ty a M1=true)(h2:g env M1= .ok ds M2)(h3:me a ds M2= .ok d M3):aQ ty me o g env M= .ok d M3:=by simp only[aQ,h1,R3.bind,hi,if_true,h2,h3]
theorem ZmM{x:List Nat}(h:x.length<=900000):wZ (.str x) [.str [c]] M= .ok (.ref M.length) (M++[.lst ((oV x [c]).map D.str)]):=by rw[Zkq,if_pos ⟨by simp,Yi (show x.length+2<=1000000 by omega) (by decide)⟩];rfl
theorem Wn{M:Store}{lk:List (Nat×List D)}(hlk:d_ lk M=true):∀(Ls:List (Option (List (List Nat)))) (k:Nat) (acc:List D) (W:Store) (v0 v1 v2 v3 x y:Option D),(∀ws,Ya ws∈Ls->rD ws)->acc.length+Ls.length<=10000 ->
  ju lk (jH [4,5]) [e2 fj (Zb 5) (eC (.str []))] cA M.length (mq k (Ls.map λl=>D.str (gD l))) [v0,v1,v2,v3,x,y] (M++ .lst acc::W)
   = .ok (.ref M.length) (M++ .lst (acc++rE (M.length+1+W.length) (rowsOf k Ls))::(W++t_ (rowsOf k Ls)))
 |[],k,acc,W,v0,v1,v2,v3,x,y,_,_=>by show ju _ _ _ _ _ [] _ _=_;simp only[ju,Jb hlk,if_true,rowsOf,rE,t_,wk,gQ]|none::Ls,k,acc,W,v0,v1,v2,v3,x,y,hL,hl=>by rw[Yn]at hl;have ih:=Wn hlk Ls (k+1) acc W v0 v1 v2 v3 (Ya (.int (k:Nat))) (Ya (.str [])) (λws hw=>hL ws (Yg _ hw)) (by omega);have ht:e2 fj (Zb 5) (eC (.str [])) [v0,v1,v2,v3,Ya (.int (k:Nat)),Ya (.str [])] (M++ .lst acc::W)= .ok (.bl false) (M++ .lst acc::W):=Zh rfl rfl (ZyR rfl);show ju _ _ _ _ _ (.tup [.int (k:Nat),.str []]::mq (k+1) (Ls.map λl=>D.str (gD l))) _ _=_;simp only[ju,Jb hlk,if_true,jH,Hq,Ho,n8,n_,Hr,ht,R3.bind,Gk,if_false];exact ih|some ws::Ls,k,acc,W,v0,v1,v2,v3,x,y,hL,hl=>by
  rw[Yn]at hl;have ok:=hL ws Yl
  let S:=M++ .lst acc::W
  have hS:S.length=M.length+1+W.length:=by simp[S];exact Y6 (by omega) (by omega)
  have ih:=Wn hlk Ls (k+1) (acc++[.tup [.int (k:Nat),.ref S.length]]) (W++[.lst (ws.map D.str)]) v0 v1 v2 v3 (Ya (.int (k:Nat))) (Ya (.str (glue [32] ws))) (λws hw=>hL ws (Yg _ hw)) (by simp;omega);have ht:e2 fj (Zb 5) (eC (.str [])) [v0,v1,v2,v3,Ya (.int (k:Nat)),Ya (.str (glue [32] ws))] S= .ok (.bl true) S:=Zh rfl rfl (ZzG ok.tx);have hsp:oV (glue [32] ws) [32]=ws:=Zig 32 ws ok.ne λw hw=>(ok.fr w hw).1;have he:cA [v0,v1,v2,v3,Ya (.int (k:Nat)),Ya (.str (glue [32] ws))] S= .ok (.tup [.int (k:Nat),.ref S.length]) (S++[.lst (ws.map D.str)]):=by refine iI (Zr rfl (Zr (Od rfl rfl (Zr rfl rfl) ((ZmM (Yi ok.le (by decide))).trans (by rw[hsp]))) rfl)) rfl
  have gt:(S++[MO.lst (ws.map D.str)])[M.length]?=Ya (.lst acc):=dR (bY _ _ _) _;have lt:acc.length<SZ:=pH (show acc.length<=10000 by omega) (by decide);have st:(S++[MO.lst (ws.map D.str)]).set M.length (.lst (acc++[.tup [.int (k:Nat),.ref S.length]]))=M++ .lst (acc++[.tup [.int (k:Nat),.ref S.length]])::(W++[.lst (ws.map D.str)]):=by simp[S]
  show ju _ _ _ _ _ (.tup [.int (k:Nat),.str (glue [32] ws)]::mq (k+1) (Ls.map λl=>D.str (gD l))) _ S=_;have hlS:d_ lk S=true:=Jb hlk _;simp only[ju,hlS,if_true,jH,Hq,Ho,n8,n_,Hr,LQ,ht,R3.bind,he,gt,lt,st];rw[ih];simp only[rowsOf,rE,t_,Yw,mW,yH,jE,Yj,Y0,hS,yN]
variable{Ls:List (Option (List (List Nat)))}
theorem ZnK(hne:Ls≠[])(hLs:∀ws,Ya ws∈Ls->rD ws):(oV (glue [10] (Ls.map gD)) [10]).map D.str=Ls.map λl=>D.str (gD l):=by
 have hfree:∀t∈Ls.map gD,10∉t:=by
  intro t hm;obtain⟨l,hl,rfl⟩:=ji.mp hm;cases l with
  |none=>intro z;cases z|some ws=>
   have ok:=hLs ws hl;have key:∀vs:List (List Nat),(∀w∈vs,10∉w)->10∉glue [32] vs:=by
    intro vs
    induction vs with
    |nil=>intro _ z;cases z|cons v vs ih=>
     intro hv;cases vs with
     |nil=>exact hv v Yl|cons u us=>
      rw[tZ];intro z;rcases jD.mp z with z|z
      .exact hv v Yl z
      .rcases jD.mp z with z|z
       .cases Yz.mp z
       .exact ih (λw hw=>hv w (Yg _ hw)) z
   exact key ws λw hw=>(ok.fr w hw).2
 rw[Zig 10 _ (λe=>hne (Bs.mp e)) hfree,lO];rfl
noncomputable def qt:Nat->List (Option Rw)->List (Int×Rw)
 |_,[]=>[]|k,Yk::r=>qt (k+1) r|k,Ya w::r=>((k:Nat),w)::qt (k+1) r
noncomputable abbrev jy(Ls:List (Option Rw)):List (Option (List (List Nat))):=Ls.map λl=>l.map Rw.words
theorem Oe:∀(k:Nat) (Ls:List (Option Rw)),rowsOf k (jy Ls)=(qt k Ls).map λq=>(q.1,q.2.words)
 |_,[]=>rfl|k,Yk::r=>Oe (k+1) r|k,Ya w::r=>by show(((k:Nat):Int),w.words)::rowsOf (k+1) (jy r)=_;rw[Oe (k+1) r];rfl
theorem Wo:∀(k:Nat) (Ls:List (Option Rw)),(qt k Ls).length<=Ls.length
 |_,[]=>Yq _|k,Yk::r=>Ri (Wo (k+1) r)|k,Ya _::r=>yL (Wo (k+1) r)
theorem Og:∀{k:Nat} {Ls:List (Option Rw)} {q:Int×Rw},q∈qt k Ls->Ya q.2∈Ls/\q.1.natAbs<k+Ls.length
 |_,[],_,h=>nomatch h|k,Yk::r,q,h=>by obtain⟨a,b⟩:=Og (k:=k+1) (Ls:=r) h;exact⟨Yg _ a,by rw[Yn];omega⟩
 | k,Ya w::r,q,h=>by
  rcases Yv.mp h with e|h
  .rw[e];exact⟨Yl,by rw[Yn];show(k:Int).natAbs<_;omega⟩
  .obtain⟨a,b⟩:=Og (k:=k+1) (Ls:=r) h;exact⟨Yg _ a,by rw[Yn];omega⟩
noncomputable def Aj(n:Nat):List (Int×Rw)->List (Int×Nat×Rw)
 |[]=>[]|q::L=>(q.1,n,q.2)::Aj (n+1) L
theorem ZmQ:∀(n:Nat) (L:List (Int×Rw)),(Aj n L).map qp=rE n (L.map λq=>(q.1,q.2.words))/\((Aj n L).map λq=>(q.1,q.2.2))=L/\(Aj n L).length=L.length
 |_,[]=>⟨rfl,rfl,rfl⟩|n,q::L=>by obtain⟨h1,h2,h3⟩:=ZmQ (n+1) L;exact⟨by show qp (q.1,n,q.2)::(Aj (n+1) L).map qp=_;rw[h1];rfl,by show(q.1,q.2)::_=_;rw[h2],congrArg (· +1) h3⟩
theorem ZoO{S:Store}:∀(n:Nat) (L:List (Int×Rw)),(∀j,j<L.length->S[n+j]?=(t_ (L.map λq=>(q.1,q.2.words)))[j]?)->∀q∈Aj n L,S[q.2.1]?=Ya (.lst (q.2.2.words.map D.str))/\(q.1,q.2.2)∈L
 |_,[],_,q,hq=>nomatch hq|n,p::L,hS,q,hq=>by
  rcases Yv.mp hq with e|e
  .rw[e];exact⟨(hS 0 (by simp)).trans rfl,Yl⟩
  .obtain⟨a,b⟩:=ZoO (n+1) L (λj hj=>by have:=hS (j+1) (by simpa using hj);rw[yN,pI 1 j];exact this) q e;exact⟨a,Yg _ b⟩
structure Wq(r:Rw):Prop where
 ok:vz r
 ln:rD r.words
 tl:r.tl.length<100
 nt:r.h≠[116,97,107,101]
def Zuy(M:Store)(z:Int)(r:Sum Int (List Pf))(o:R3 D):Prop:=match r with
 | .inl i=>lE M i o|.inr [k]=>(∀n,bT n k.cur=true)->o= .ok (.tup [.tup [],.tup k.cur]) M|.inr _=>lE M z o
theorem ZqZ{a e:E3}{M M1 M2:Store}{x y:D}(h1:a env M= .ok x M1)(h2:e env M1= .ok y M2):xO a e env M= .ok (.tup [x,y]) M2:=by simp only[xO,xT h1,h2]
theorem Zqe{a e:E3}{M M1 M2:Store}{x:D}{q:X3}(h1:a env M= .ok x M1)(h2:e env M1= .exc q M2):xO a e env M= .exc q M2:=by simp only[xO,xT h1,h2]
theorem ZrV{x:X3}(h:f env M= .exc x M'):aR f env M= .exc x M':=by rw[aR,h]
theorem Zq3{F:F3}{M M1:Store}(h:g env M= .ok ds M1):Zx F (oX g) env M=F ds M1:=by show(oX g env M).bind F=_;rw[ZsK h];rfl
theorem lE.up{o:R3 D}(h:lE M' z o)(l:M.length<=M'.length)(e:∀a,a<M.length->M'[a]?=M[a]?):lE M z o:=by obtain⟨S',q,q1,q2⟩:=h;exact⟨S',q,Yi l q1,λa ha=>(q2 a (Y7 ha l)).trans (e a ha)⟩
noncomputable abbrev Wr:S3:=aR (xO (Zb 3) (Zx nF (oX (Za (Zb 2) (Za (e2 Zt (aJ bG (Za (Zb 1) (Ze))) (eC (.int 1))) (Ze))))))
noncomputable abbrev mO(M:Store)(Ls:List (Option (List (List Nat)))):Store:=M++([MO.lst (Ls.map λl=>D.str (gD l)),.lst (rE (M.length+2) (rowsOf 1 Ls))]++t_ (rowsOf 1 Ls))
theorem Zoi(hne:Ls≠[])(hLs:∀ws,Ya ws∈Ls->rD ws)(hn:Ls.length<900)(ht:(glue [10] (Ls.map gD)).length<=900000)(hnt:∀q L,rowsOf 1 Ls=q::L->∃h r,q.2=h::r/\h≠[116,97,107,101]):
  Dq [Ya (.str (glue [10] (Ls.map gD))),Yk,Yk,Yk] M=Wr [Ya (.str (glue [10] (Ls.map gD))),Ya (.ref M.length),Ya (.ref (M.length+1)),Ya (.tup [])] (mO M Ls)/\(mO M Ls)[M.length+1]?=Ya (.lst (rE (M.length+2) (rowsOf 1 Ls)))/\(∀j,(mO M Ls)[M.length+2+j]?=(t_ (rowsOf 1 Ls))[j]?)/\
  Zx nF (oX (Za (Zb 2) (Za (e2 Zt (aJ bG (Za (Zb 1) (Ze))) (eC (.int 1))) (Ze)))) [Ya (.str (glue [10] (Ls.map gD))),Ya (.ref M.length),Ya (.ref (M.length+1)),Ya (.tup [])] (mO M Ls)=nF [.ref (M.length+1),.int ((Ls.length:Int)+1)] (mO M Ls):=by
 let T:=glue [10] (Ls.map gD)
 let M1:=M++[MO.lst (Ls.map λl=>D.str (gD l))]
 let L:=rowsOf 1 Ls
 let M2:=M1++MO.lst (rE (M1.length+1) L)::t_ L
 have h1l:M1.length=M.length+1:=by simp[M1]
 have s1:aQ iz wZ (Zb 0) (Za (eC (.str [10])) (Ze)) [Ya (.str T),Yk,Yk,Yk] M= .ok (.ref M.length) M1:=Od rfl rfl (Zr rfl rfl) ((ZmM ht).trans (by rw[ZnK hne hLs]));have h1:M1[M.length]?=Ya (.lst (Ls.map λl=>D.str (gD l))):=bY _ _ _;have lk:d_ [(M.length,Ls.map λl=>D.str (gD l))] M1=true:=by simp only[d_,iM,Gg,Bv];exact decide_eq_true h1
 have lp:=Wn lk Ls 1 [] [] (Ya (.str T)) (Ya (.ref M.length)) Yk Yk Yk Yk hLs (by simp;omega);have s2:w5 (Uc (Zb 1)) 2 (jH [4,5]) [e2 fj (Zb 5) (eC (.str []))] cA [Ya (.str T),Ya (.ref M.length),Yk,Yk] M1= .ok (.ref M1.length) M2:=by show(R3.bind (R3.bind (R3.ok (D.ref M.length) M1) _) _)=_;simp only[R3.bind,h1];exact lp
 have nO:M2[M1.length]?=Ya (.lst (rE (M1.length+1) L)):=bY _ _ _;have hobj:∀j,M2[M1.length+1+j]?=(t_ L)[j]?:=λj=>by show(M1++MO.lst _::t_ L)[_]?=_;rw[yN,u0,pI 1 j];rfl
 have h12:M2[M.length]?=Ya (.lst (Ls.map λl=>D.str (gD l))):=dR h1 _;have hlen:e2 Zt (aJ bG (Za (Zb 1) (Ze))) (eC (.int 1)) [Ya (.str T),Ya (.ref M.length),Ya (.ref M1.length),Ya (.tup [])] M2= .ok (.int ((Ls.length:Int)+1)) M2:=Zh (dm rfl (oO h12)) rfl (by rw[Ys];rfl);have cond:gq (e2 dY (aJ bG (Za (Zb 2) (Ze))) (eC (.int 0))) (e2 aY (e2 Zm (e2 Zm (e2 Zm (Zb 2) (eC (.int 0))) (eC (.int 1))) (eC (.int 0))) (eC (.str [116,97,107,101]))) [Ya (.str T),Ya (.ref M.length),Ya (.ref M1.length),Ya (.tup [])] M2= .ok (.bl false) M2:=by
  cases hL:rowsOf 1 Ls with
  |nil=>exact L_ (Zh (dm rfl (oO nO)) rfl (by simp only[L,hL];rfl))|cons q L'=>obtain⟨h,r,eq,hq⟩:=hnt q L' hL;have hLc:L=q::L':=hL;rw[Cu (M1:=M2) (Zh (dm rfl (oO nO)) rfl (by rw[hLc,pO,decide_eq_true (by show(0:Int)<((rE _ _).length+1:Nat);omega)]))];have o0:M2[M1.length+1]?=Ya (.lst (q.2.map D.str)):=(hobj 0).trans (by rw[hLc];rfl);refine Zh (Zh (Zh (Zh rfl rfl (jr nO (d:=.tup [.int q.1,.ref (M1.length+1)]) (by rw[hLc];exact gU _ 0))) rfl (Hv (gU _ 1))) rfl (jr o0 (d:=.str h) (by rw[eq];exact gU _ 0))) rfl (nR.trans (by rw[decide_eq_false hq]))
 have eM:mO M Ls=M2:=by simp[mO,M2,M1,L]
 have g1:Dq [Ya (.str T),Yk,Yk,Yk] M=Wr [Ya (.str T),Ya (.ref M.length),Ya (.ref M1.length),Ya (.tup [])] M2:=by unfold Dq;exact(Zi (qm (Zo s1))).trans ((Zi (qm (Zo s2))).trans ((Zi (qm (Zo (d:=.tup []) (M':=M2) (iI rfl rfl)))).trans (Zi ((jq (xT cond)).trans (qm rfl)))))
 have hc:Zx nF (oX (Za (Zb 2) (Za (e2 Zt (aJ bG (Za (Zb 1) (Ze))) (eC (.int 1))) (Ze)))) [Ya (.str T),Ya (.ref M.length),Ya (.ref M1.length),Ya (.tup [])] M2=nF [.ref M1.length,.int ((Ls.length:Int)+1)] M2:=Zq3 (Zr rfl (Zr hlen rfl));rw[h1l]at g1 hc nO hobj;rw[eM];exact⟨g1,nO,hobj,hc⟩
theorem Zmm{T:List Nat}{y:Int}(go:Dq [Ya (.str T),Yk,Yk,Yk] M=Wr env (mO M Ls))(hc:Zx nF (oX (Za (Zb 2) (Za (e2 Zt (aJ bG (Za (Zb 1) (Ze))) (eC (.int 1))) (Ze)))) env (mO M Ls)=nF [.ref n,.int y] (mO M Ls))(h:lE (mO M Ls) z (nF [.ref n,.int y] (mO M Ls)))(h3:∃d,∀S,Zb 3 env S= .ok d S:=by exact⟨_,λ_=>rfl⟩):lE M z (nG [.str T] M):=by obtain⟨S',q,q1,q2⟩:=h;obtain⟨d,h3⟩:=h3;refine lE.up ⟨S',Ob (env:=[Ya (.str T),Yk,Yk,Yk]) ?_,q1,q2⟩ (by rw[mO,Yj];exact lQ _ _) (λa ha=>Yx ha);rw[go];exact ZrV (Zqe (h3 _) (hc.trans q))
theorem Zve{Ls:List (Option Rw)}(hne:Ls≠[])(hok:∀r,Ya r∈Ls->Wq r)(hn:Ls.length<900)(ht:(glue [10] ((jy Ls).map gD)).length<=900000):
  Zuy M ((Ls.length:Int)+1) (t8 (qt 1 Ls) [⟨fU,[],[],[]⟩]) (nG [.str (glue [10] ((jy Ls).map gD))] M):=by
 let T:=glue [10] ((jy Ls).map gD)
 have hLs:∀ws,Ya ws∈jy Ls->rD ws:=λws hw=>by
  obtain⟨l,hl,e⟩:=ji.mp hw;cases l with
  |none=>cases e|some r=>cases e;exact(hok r hl).ln
 have wl:(jy Ls).length=Ls.length:=Ys _;obtain⟨go,nO,hobj,hc⟩:=Zoi (M:=M) (Ls:=jy Ls) (λe=>hne (Bs.mp e)) hLs (by rw[wl];exact hn) ht (λq L e=>by
  rw[Oe]at e;cases hL:qt 1 Ls with
  |nil=>rw[hL]at e;cases e|cons p L'=>rw[hL]at e;cases e;exact⟨p.2.h,_,rfl,(hok p.2 (Og (by rw[hL];exact Yl)).1).nt⟩)
 let M2:=mO M (jy Ls)
 rw[wl]at hc;rw[Oe]at nO hobj;obtain⟨p1,p2,p3⟩:=ZmQ (M.length+2) (qt 1 Ls);have pa:=ZoO (S:=M2) (M.length+2) (qt 1 Ls) (λj _=>hobj j);have small:∀i:Int,i.natAbs<1000->i.natAbs.log2<1000:=λi hi=>pH (Nat.log2_le_self _) hi;have rd:=Zk8 (M:=M2) (n:=M.length+1) (L:=Aj (M.length+2) (qt 1 Ls)) (z:=(Ls.length:Int)+1) (by rw[p1];exact nO) (small _ (by omega)) (by rw[p3];have:=Wo 1 Ls;omega) (λq hq=>by obtain⟨a,b⟩:=pa q hq;obtain⟨c,d⟩:=Og b;exact⟨a,(hok _ c).ok,(hok _ c).tl,small _ (by have:q.1.natAbs<1+Ls.length:=d;omega)⟩);rw[p2]at rd;have bad:∀z,lE M2 z (nF [.ref (M.length+1),.int ((Ls.length:Int)+1)] M2)->lE M z (nG [.str T] M):=λz h=>Zmm go hc h;unfold Wm at rd;unfold Zuy;cases hr:t8 (qt 1 Ls) [⟨fU,[],[],[]⟩]with
 |inl i=>rw[hr]at rd;exact bad _ rd|inr fs=>
  rw[hr]at rd
  match fs,rd with
  |[],rd=>exact bad _ rd|[k],rd=>
   intro hb;refine Rt.pure (G:=[MO.lst ((jy Ls).map λl=>D.str (gD l)),.lst (rE (M.length+2) (rowsOf 1 (jy Ls)))]++t_ (rowsOf 1 (jy Ls))) (env:=[Ya (.str T),Yk,Yk,Yk]) ?_ ?_
   .rw[go];exact dF (ZqZ rfl (hc.trans (rd (hb _))))
   .show(bT M.length []&&(bT M.length k.cur&&true))=true;rw[hb];rfl
  |_::_::_,rd=>exact bad _ rd
theorem Zs7(cs:List Int)(c d:Nat)(au:Nat)(M:Store)(hd:M[d]?=Ya (.lst [.ref c,.int (au:Int)]))(hc:M[c]?=Ya (.lst (cs.map D.int)))(ha:au<1000000)(hne:c≠d):
  ∃v:Int,jM [.ref d] M= .ok (.int v) (M.set d (.lst [.ref c,.int ((au+1:Nat):Int)])):=by
 have hdl:=(Yd.mp hd).1;have hc2:(M.set d (.lst [.ref c,.int ((au:Int)+1)]))[c]?=Ya (.lst (cs.map D.int)):=by rw[Yu (bV hne)];exact hc
 have fin:∀v:Int,Dr [Ya (.ref d),Yk,Yk] M= .rt (.int v) (M.set d (.lst [.ref c,.int ((au:Int)+1)]))->∃v:Int,jM [.ref d] M= .ok (.int v) (M.set d (.lst [.ref c,.int ((au+1:Nat):Int)])):=λv h=>by refine⟨v,(kY h).trans ?_⟩;unfold dh;rw[uF (by simp)];split <;>first|exact rfl|simp
 have m1:l_ (au:Int) (au:Int)=true:=ZyP (by omega);have m2:l_ ((au:Int)*au) 3=true:=mul_r (by omega);by_cases h1:au<cs.length
 .exact fin cs[au] (by simp[Dr,Zq,aA,aR,aK,aZ,bj,Hl,hd,hc2,h1])
 .by_cases h2:cs.length=0
  .have n0:¬((au:Int)<0):=(λz=>by omega);exact fin ((au:Int)*au*3+au) (by simp[Dr,Zq,aA,aR,aK,aZ,bj,Hl,hd,hc2,h2,m1,m2,n0])
  .obtain⟨a,ha',la⟩:=nH (au:Int) cs.length ((Nat.lt_of_le_of_ne (fL _) (bV h2)));have p0:0<cs.length:=by omega
   exact fin (cs[a] / 2+(au:Int)*au) (by simp[Dr,Zq,aA,aR,aK,aZ,bj,Hl,hd,hc2,h1,h2,m1,p0,ha',la])
structure dM(cs:List Int)(c d:Nat)(au:Nat)(M:Store):Prop where
 hd:M[d]?=Ya (.lst [.ref c,.int (au:Int)])
 hc:M[c]?=Ya (.lst (cs.map D.int))
 ne:c≠d
variable{cs:List Int}{au:Nat}
theorem dM.next{d:Nat}(K:dM cs c d au M)(ha:au<1000000):∃(v:Int) (M':Store),jM [.ref d] M= .ok (.int v) M'/\dM cs c d (au+1) M'/\M'.length=M.length/\∀j,j≠d->M'[j]?=M[j]?:=by obtain⟨v,h⟩:=Zs7 cs c d au M K.hd K.hc ha K.ne;have hdl:=(Yd.mp K.hd).1;exact⟨v,_,h,⟨Y4 hdl,by rw[Yu (bV K.ne)];exact K.hc,K.ne⟩,by simp,λj hj=>Yu (bV hj)⟩
structure Kp(d:Nat)(M M':Store):Prop where
 len:M.length<=M'.length
 old:∀j,j<M.length->j≠d->M'[j]?=M[j]?
theorem Kp.trans{d:Nat}{M M1 M2:Store}(a:Kp d M M1)(b:Kp d M1 M2):Kp d M M2:=⟨Yi a.len b.len,λj h1 h2=>(b.old j (Y7 h1 a.len) h2).trans (a.old j h1 h2)⟩
theorem Kp.app(d:Nat)(M G:Store):Kp d M (M++G):=⟨by simp,λj h _=>Yx h⟩
theorem Kp.get{d:Nat}(k:Kp d M M')(h:M[j]?=Ya o)(hj:j≠d):M'[j]?=Ya o:=(k.old j (Yd.mp h).1 hj).trans h
theorem Kp.put{d:Nat}(k:Kp d M M')(hj:M.length<=j)(o:MO):Kp d M (M'.set j o):=⟨by rw[yI];exact k.len,λi h1 h2=>by rw[Yu (by exactλz=>by omega)];exact k.old i h1 h2⟩
theorem dM.app{d:Nat}(K:dM cs c d au M)(G:Store):dM cs c d au (M++G):=⟨dR K.hd G,dR K.hc G,K.ne⟩
theorem dM.put{d:Nat}(K:dM cs c d au M)(h1:j≠d)(h2:j≠c)(o:MO):dM cs c d au (M.set j o):=⟨by rw[Yu h1];exact K.hd,by rw[Yu h2];exact K.hc,K.ne⟩
theorem dM.lt{d:Nat}(K:dM cs c d au M):c<M.length/\d<M.length:=⟨(Yd.mp K.hc).1,(Yd.mp K.hd).1⟩
theorem dM.draw{d:Nat}(K:dM cs c d au M)(ha:au<1000000):∃(v:Int) (M':Store),jM [.ref d] M= .ok (.int v) M'/\dM cs c d (au+1) M'/\Kp d M M'/\M'.length=M.length:=by obtain⟨v,M',h,K',l,o⟩:=K.next ha;exact⟨v,M',h,K',⟨oE l.symm,λj _ hj=>o j hj⟩,l⟩
theorem iZ(h:M<+:S)(e:M[n]?=Ya o):S[n]?=Ya o:=by obtain⟨G,rfl⟩:=h;exact dR e G
theorem Zun{r:Nat}(h:M<+:S)(hr:M.length<=r):M<+:S.set r o:=by obtain⟨G,rfl⟩:=h;obtain⟨k,rfl⟩:=Nat.le.dest hr;rw[Ht];exact⟨_,rfl⟩
def LE(f:E3)(env:Zz)(M:Store)(xs:List D):Prop:=∃n S,f env M= .ok (.ref n) S/\M<+:S/\S[n]?=Ya (.lst xs)
def LF(f:E3)(env:Zz)(M:Store)(xs:List D):Prop:=∃n S,f env M= .ok (.ref n) S/\M<+:S/\S[n]?=Ya (.lst xs)/\M.length<=n
def FL(F:F3)(ds:List D)(M:Store)(xs:List D):Prop:=∃n S,F ds M= .ok (.ref n) S/\M<+:S/\S[n]?=Ya (.lst xs)/\M.length<=n
def BL(M0:Store)(u:S3)(env:Zz)(M:Store)(xs:List D):Prop:=∃n S,u env M= .rt (.ref n) S/\M0<+:S/\S[n]?=Ya (.lst xs)/\M0.length<=n
theorem LF.le(h:LF f env M xs):LE f env M xs:=let⟨n,S,a,b,c,_⟩:=h;⟨n,S,a,b,c⟩
theorem LE.add{g:E3}{x y:List D}(hf:LE f env M x)(hg:∀S,M<+:S->LE g env S y)(hz:x.length+y.length<=900000):LF (e2 Zt f g) env M (x++y):=by obtain⟨n,S,h1,p1,g1⟩:=hf;obtain⟨m,S2,h2,p2,g2⟩:=hg S p1;exact⟨S2.length,S2++[.lst (x++y)],Zh h1 h2 (Zrk (iZ p2 g1) g2 hz),(p1.trans p2).trans (j8 _ _),bY _ _ _,(p1.trans p2).length_le⟩
theorem LE.var{i:Nat}{x:List D}(h:Zb i env M= .ok (.ref n) M)(hx:M[n]?=Ya (.lst x)):LE (Zb i) env M x:=⟨n,M,h,rZ _,hx⟩
theorem LF.lst{g:cY}{env:Zz}{M:Store}{ds:List D}(h:g env M= .ok ds M)(hl:decide (ds.length<=100)=true):LF (aV g) env M ds:=⟨M.length,M++[.lst ds],fY h hl,j8 _ _,bY _ _ _,Yq _⟩
theorem LF.call{F:F3}{x:List D}(h:g env M= .ok ds M)(hF:FL F ds M x):LF (Zx F g) env M x:=by obtain⟨n,S,h1,p1,g1⟩:=hF;exact⟨n,S,by simp only[Zx,h,R3.bind,h1],p1,g1⟩
variable{M0:Store}
theorem BL.set{i:Nat}{x xs:List D}(hf:LE f env M x)(hu:∀n S,M<+:S->S[n]?=Ya (.lst x)->BL M0 u (env.set i (Ya (.ref n))) S xs):BL M0 (Zq (aA i f) u) env M xs:=by obtain⟨n,S,h1,p1,g1⟩:=hf;obtain⟨m,S2,h2,r⟩:=hu n S p1 g1;exact⟨m,S2,(Zi (Zo h1 rfl)).trans h2,r⟩
theorem BL.ret(hf:LF f env M xs)(p:M0<+:M):BL M0 (aR f) env M xs:=by obtain⟨n,S,h1,p1,g1,l1⟩:=hf;exact⟨n,S,dF h1,p.trans p1,g1,Yi p.length_le l1⟩
theorem BL.skip{c:E3}{v:S3}(hc:c env M= .ok (.bl false) M)(hv:BL M0 v env M xs):BL M0 (Zq (aK c u aZ) v) env M xs:=by obtain⟨n,S,h1,r⟩:=hv;exact⟨n,S,(Zi (fC hc)).trans h1,r⟩
theorem BL.take{c:E3}{v w:S3}(hc:c env M= .ok (.bl true) M)(hu:BL M0 u env M xs):BL M0 (Zq (aK c u w) v) env M xs:=by obtain⟨n,S,h1,r⟩:=hu;exact⟨n,S,sY ((d7 hc).trans h1),r⟩
theorem BL.step{v:S3}{env':Zz}(hu:u env M= .nx env' S)(hv:BL M0 v env' S xs):BL M0 (Zq u v) env M xs:=by obtain⟨n,S2,h1,r⟩:=hv;exact⟨n,S2,(Zi hu).trans h1,r⟩
theorem FL.of{ps:Nat}{body:S3}(h:BL M body env M xs)(hl:ds.length=ps)(he:ds.map Ya++Ym (n-ps) Yk=env):FL (bF ps n body) ds M xs:=by obtain⟨k,S,h1,p1,g1,l1⟩:=h;refine⟨k,S,(kY (n:=n) h1 hl he).trans ?_,p1,g1,l1⟩;have hb:below M.length (.ref k)=false:=decide_eq_false (λz=>by omega);rw[dh,hb];rfl
theorem ZuW{o t:E3}{r:Nat}{ys:List D}(ho:o env M= .ok (.ref r) M)(hr:M[r]?=Ya (.lst xs))(ht:LF t env M ys)(hz:xs.length+ys.length<=900000):
  ∃S,bj (aQ bI pW o (Za t Ze)) env M= .nx env (S.set r (.lst (xs++ys)))/\M<+:S:=by
 obtain⟨n,S,h1,p1,g1,l1⟩:=ht;refine⟨S,zp (d:=.non) (Od ho (by rw[zm,hr]) (Zr h1 rfl) ?_),p1⟩;have hlt:=(Yd.mp hr).1;rw[zu,iZ p1 hr,g1];exact if_pos ⟨(λz=>by omega),Yi hz (by decide)⟩
theorem Ws(h:nJ w)(M:Store):oR [w] M= .ok (.str (aX w)) M:=by
 cases h with
 |int i hi=>rw[Zov,if_pos (Zvm hi)];rfl|fJ x _=>rfl|op x _=>rfl
theorem Wt(h:nJ w):(aX w).length<=61:=by
 cases h with
 |int i hi=>exact Zod hi|fJ x hx=>exact Yi hx.le (by decide)|op x hx=>exact Yi (Je hx).2.1 (by decide)
theorem Zsq(H:vz r):cN r.h gB≠Yk:=by rw[H.sm];exactλz=>nomatch z
theorem ZtY(k:cN h gB≠Yk):h=gM\/h=lC\/h=nP\/h=gZ\/h=jN\/h=lD\/h=g_:=by
 by_cases h1:h=gM
 .exact .inl h1
 by_cases h2:h=lC
 .exact .inr (.inl h2)
 by_cases h3:h=nP
 .exact .inr (.inr (.inl h3))
 by_cases h4:h=gZ
 .exact .inr (.inr (.inr (.inl h4)))
 by_cases h5:h=jN
 .exact .inr (.inr (.inr (.inr (.inl h5))))
 by_cases h6:h=lD
 .exact .inr (.inr (.inr (.inr (.inr (.inl h6)))))
 by_cases h7:h=g_
 .exact .inr (.inr (.inr (.inr (.inr (.inr h7)))))
 .exact absurd (show cN h gB=Yk by simp only[gB,cN,if_neg h1,if_neg h2,if_neg h3,if_neg h4,if_neg h5,if_neg h6,if_neg h7]) k
theorem Wu(k:cN h gB≠Yk):1<=h.length/\h.length<=5/\∀c∈h,97<=c:=by rcases ZtY k with rfl|rfl|rfl|rfl|rfl|rfl|rfl <;>decide
theorem Zke(hk:cN r.h gB≠Yk)(nm:∀x∈r.xs,dW x)(ft:∀t∈r.ts,t.fit):∀w∈r.words,w.length<=61/\32∉w/\10∉w:=λw hw=>by
 have low:∀{c:Nat} {l:List Nat},(∀x∈l,45<=x)->c<45->c∉l:=λh hc z=>by have:=h _ z;omega
 rcases Yv.mp hw with e|e
 .have q:=Wu hk;rw[e];exact⟨by omega,low (λx hx=>Yi (by decide) (q.2.2 x hx)) (by decide),low (λx hx=>Yi (by decide) (q.2.2 x hx)) (by decide)⟩
 .rcases jD.mp e with e|e
  .have q:=nm w e;exact⟨Yi q.le (by decide),low (λx hx=>Yi (by decide) (q.low x hx).1) (by decide),low (λx hx=>Yi (by decide) (q.low x hx).1) (by decide)⟩
  .obtain⟨v,hv,rfl⟩:=ji.mp e;have hf:=Wf ft v hv;have key:∀x∈aX v,45<=x:=by
    cases hf with
    |int i hi=>exact(NT i hi).2.2|fJ x hx=>exactλc hc=>Yi (by decide) (hx.low c hc).1|op x hx=>exactλc hc=>Yi (by decide) ((Je hx).2.2 c hc)
   exact⟨Wt hf,low key (by decide),low key (by decide)⟩
theorem Zq5(hk:cN r.h gB≠Yk)(nm:∀x∈r.xs,dW x)(ft:∀t∈r.ts,t.fit)(hc:r.words.length<=300):rD r.words:=by
 have hw:=Zke hk nm ft;have hl:=(N5 32 61 r.words λw h=>(hw w h).1).2;refine⟨(λz=>nomatch z),λw h=>(hw w h).2,λz=>?_,by omega⟩;have q:=(Wu hk).1;have:r.h≠[]:=λe=>by rw[e]at q;exact absurd q (by decide)
 unfold Rw.words at z;cases e:r.xs++(aN r.ts).map aX with
 |nil=>rw[e]at z;exact this z|cons y ys=>rw[e,tZ]at z;exact this (ZD.mp z).1
theorem len_app(M G:Store):M.length<=(M++G).length:=by rw[Yj];exact lQ _ _
theorem Oh(h:M.length<=n):dh M (.ref n) M'= .ok (.ref n) M':=by
 have hb:below M.length (.ref n)=false:=by show decide (n<M.length)=false;exact decide_eq_false (λz=>by omega)
 unfold dh;rw[hb];rfl
theorem Zvb{x y:List D}(h1:M[n]?=Ya (.lst x))(h2:M[m]?=Ya (.lst y))(hne:n≠m)(hz:x.length+y.length<=900000):pW (.ref n) [.ref m] M= .ok .non (M.set n (.lst (x++y))):=by simp only[pW,h1,h2];exact if_pos ⟨hne,Yi hz (by decide)⟩
structure LS(cs:List Int)(c d:Nat)(M S:Store)(p q:Nat)(W:List D)(es:List Nat)(au:Nat):Prop where
 hp:S[p]?=Ya (.lst W)
 hq:S[q]?=Ya (.lst (es.reverse.map λ(e:Nat)=>D.int (e:Int)))
 dk:dM cs c d au S
 kp:Kp d M S
 lp:M.length<=p
 lq:M.length<=q
 ne:p≠q
 ld:c<M.length/\d<M.length
section
variable {cs:List Int} {c d:Nat} {M S:Store} {p q:Nat} {W:List D} {es:List Nat} {au:Nat}
theorem LS.app(L:LS cs c d M S p q W es au)(G:Store):LS cs c d M (S++G) p q W es au:=⟨dR L.hp G,dR L.hq G,L.dk.app G,L.kp.trans (Kp.app d S G),L.lp,L.lq,L.ne,L.ld⟩
theorem LS.Qa(L:LS cs c d M S p q W es au)(W':List D):LS cs c d M (S.set p (.lst W')) p q W' es au:=⟨Y4 (Yd.mp L.hp).1,by rw[Yu L.ne];exact L.hq,L.dk.put (by have:=L.lp;have:=L.ld;omega) (by have:=L.lp;have:=L.ld;omega) _,L.kp.put L.lp _,L.lp,L.lq,L.ne,L.ld⟩
theorem LS.Qc(L:LS cs c d M S p q W es au)(es':List Nat):LS cs c d M (S.set q (.lst (es'.reverse.map λ(e:Nat)=>D.int (e:Int)))) p q W es' au:=⟨by rw[Yu (bV L.ne)];exact L.hp,Y4 (Yd.mp L.hq).1,L.dk.put (by have:=L.lq;have:=L.ld;omega) (by have:=L.lq;have:=L.ld;omega) _,L.kp.put L.lq _,L.lp,L.lq,L.ne,L.ld⟩
theorem LS.draw(L:LS cs c d M S p q W es au)(ha:au<1000000):∃v S',jM [.ref d] S= .ok (.int v) S'/\LS cs c d M S' p q W es (au+1):=by obtain⟨v,S',h,K,kp,l⟩:=L.dk.draw ha;have hd:=L.ld;exact⟨v,S',h,kp.get L.hp (by have:=L.lp;exactλz=>by omega),kp.get L.hq (by have:=L.lq;exactλz=>by omega),K,L.kp.trans kp,L.lp,L.lq,L.ne,L.ld⟩
end
theorem Zsn{q:Nat}{X:List Int}{i:Nat}(hv:Zb i env S= .ok (.ref q) S)(hq:S[q]?=Ya (.lst (X.map D.int))):e2 fj (Zb i) (aV (Ze)) env S= .ok (.bl (!X.isEmpty)) (S++[.lst []]):=by
 refine Zh hv (fY rfl rfl) ?_;have hp:(X.map D.int).all (dO DEEP)=true:=ig.mpr λd hd=>by obtain⟨x,_,rfl⟩:=ji.mp hd;rfl
 simp only[fj,G5,dR hq,bY,hp];cases X with
 |nil=>rfl|cons a X=>rfl
theorem Zqn(es:List Nat):es.reverse.map (λ(e:Nat)=>D.int (e:Int))=(es.reverse.map λ(e:Nat)=>(e:Int)).map D.int:=by rw[lO];rfl
noncomputable def bA(l:List D):List D:=l.map λw=>D.str (aX w)
theorem Ak(a b:List D):bA (a++b)=bA a++bA b:=oA
theorem xW(a:List D):(bA a).length=a.length:=Ys _
def rF(A B:List D):Prop:=∀t:Sm,t.fit->∃u:Sm,u.fit/\u.flat=A++t.flat++B
theorem ZxS:rF [] []:=λt h=>⟨t,h,by simp⟩
variable{A:List D}
theorem Zwa{B:List D}{o:Nat}{x:List Nat}(h:rF A B)(hx:dW x):rF (.str (iY o)::A) (B++[.str x]):=λt ht=>by obtain⟨u,h1,h2⟩:=h t ht;exact⟨.two o u (.fJ x),⟨h1,hx⟩,by simp[Sm.flat,h2]⟩
theorem ZvJ{o:Nat}{x:List Nat}(h:rF A [])(hx:dW x):rF (A++[.str (iY o),.str x]) []:=λt ht=>by obtain⟨u,h1,h2⟩:=h (.two o (.fJ x) t) ⟨hx,ht⟩;exact⟨u,h1,by rw[h2];simp[Sm.flat]⟩
theorem Zu8(h:rF A []):rF (A++[.str gY]) []:=λt ht=>by obtain⟨u,h1,h2⟩:=h (.gW t) ht;exact⟨u,h1,by rw[h2];simp[Sm.flat]⟩
theorem dM.pre{d:Nat}(K:dM cs c d au M)(p:M<+:S):dM cs c d au S:=by obtain⟨G,rfl⟩:=p;exact K.app G
theorem Kp.pre{d:Nat}(k:Kp d M S)(p:S<+:S'):Kp d M S':=by obtain⟨G,rfl⟩:=p;exact k.trans (Kp.app d S G)
theorem Al{i:E3}(hg:g env M= .ok ds M)(hl:decide (ds.length<=100)=true)(hi:i env (M++[.lst ds])= .ok (.int (j:Int)) (M++[.lst ds]))(hd:ds[j]?=Ya d):e2 Zm (aV g) i env M= .ok d (M++[.lst ds]):=Zh (fY hg hl) hi (jr (bY _ _ _) (by rw[gU];exact hd))
theorem ZuP{o:Nat}(h:o<3):([.str [97,100,100],.str [115,117,98],.str [109,111,114,101]]:List D)[o]?=Ya (.str (iY o)):=by
 match o,h with
 |0,_=>rfl|1,_=>rfl|2,_=>rfl
variable{names:List (List Nat)}
theorem ZqU(hn:names.length=12)(v:Int):∃(a:Nat) (x:List Nat),v % 12=(a:Int)/\names[a]?=Ya x/\x∈names:=by
 obtain⟨a,ea,ha⟩:=nH v 12 (by decide);have hl:a<names.length:=by omega
 exact⟨a,names[a],ea,j7 hl,wg hl⟩
noncomputable abbrev vD:E3:=aV (Za (eC (.str [97,100,100])) (Za (eC (.str [115,117,98])) (Za (eC (.str [109,111,114,101])) (Ze))))
noncomputable abbrev leI:S3:=(aK (e2 aY (Zb 3) (eC (.int 0))) (aA 4 (e2 Zt (e2 Zt (aV (Za (e2 Zm vD (e2 aU (Zb 6) (eC (.int 3)))) (Ze))) (Zb 4)) (aV (Za (e2 Zm (Zb 1) (e2 aU (e2 bU (Zb 6) (eC (.int 3))) (eC (.int 12)))) (Ze))))) (aK (e2 aY (Zb 3) (eC (.int 1))) (aA 4 (e2 Zt (Zb 4) (aV (Za (e2 Zm vD (e2 aU (Zb 6) (eC (.int 3)))) (Za (e2 Zm (Zb 1) (e2 aU (e2 bU (Zb 6) (eC (.int 3))) (eC (.int 12)))) (Ze)))))) (bj (aQ bI cQ (Zb 4) (Za (eC (.str [99,101,108,108])) (Ze))))))
noncomputable abbrev leB:S3:=Zq (aA 6 (Zx jM (Za (Zb 0) (Ze)))) leI
theorem Wv{a b:Int}(h:a=b):aY (.int a) (.int b) M= .ok (.bl true) M:=LR h
variable{nr way:Nat}
section
variable {cs:List Int} {c d:Nat} {M:Store}
theorem Zue{p:Nat}{B:List D}(dk:dM cs c d au S)(kp:Kp d M S)(ld:c<M.length/\d<M.length)(hp:S[p]?=Ya (.lst (bA (A++B))))(lp:M.length<=p)(ha:au<1000000)(hnr:M[nr]?=Ya (.lst (names.map D.str)))(nd:nr≠d)(hn:names.length=12)(hnm:∀x∈names,dW x)(hw:way<3)(hl:A.length+B.length<=500)(hB:way≠0->B=[]){v2 x5 x6:Option D}:
  ∃(A' B':List D) (S':Store) (p':Nat) (y6:Option D),leB [Ya (.ref d),Ya (.ref nr),v2,Ya (.int (way:Int)),Ya (.ref p),x5,x6] S= .nx [Ya (.ref d),Ya (.ref nr),v2,Ya (.int (way:Int)),Ya (.ref p'),x5,y6] S'/\S'[p']?=Ya (.lst (bA (A'++B')))/\M.length<=p'/\dM cs c d (au+1) S'/\Kp d M S'/\
   (rF A B->rF A' B')/\A'.length+B'.length<=A.length+B.length+2/\(way≠0->B'=[])/\(way=0->A'.length=A.length+1):=by
 obtain⟨v,S2,hv,D2,kp2,l2⟩:=dk.draw ha;have hp2:S2[p]?=Ya (.lst (bA (A++B))):=kp2.get hp (λz=>by omega);have Ew:=kp.trans kp2;have hn2:S2[nr]?=Ya (.lst (names.map D.str)):=Ew.get hnr nd;obtain⟨o,eo,ho⟩:=nH v 3 (by decide);have eo:v % 3=(o:Int):=eo;obtain⟨a,x,ea,hx,Oi⟩:=ZqU hn (v / 3);have Ww:(bA (A++B)).length<=500:=by rw[xW,Yj];exact hl
 let E:Zz:=[Ya (.ref d),Ya (.ref nr),v2,Ya (.int (way:Int)),Ya (.ref p),x5,Ya (.int v)]
 let ops:MO:=.lst [.str [97,100,100],.str [115,117,98],.str [109,111,114,101]]
 have pk:∀S,e2 Zm vD (e2 aU (Zb 6) (eC (.int 3))) E S= .ok (.str (iY o)) (S++[ops]):=λS=>Al (ds:=[.str [97,100,100],.str [115,117,98],.str [109,111,114,101]]) (j:=o) rfl rfl (Zh rfl rfl ((gH (by decide)).trans (by rw[eo]))) (ZuP ho);have nm:∀S,S2<+:S->e2 Zm (Zb 1) (e2 aU (e2 bU (Zb 6) (eC (.int 3))) (eC (.int 12))) E S= .ok (.str x) S:=λS hS=>Zh rfl (Zh (Zh rfl rfl (mJ (by decide))) rfl (gH (by decide))) (jr (iZ hS hn2) (d:=.str x) (by rw[ea,gU,lM,hx];rfl));have go:∀o:O3,leI E S2=o->leB [Ya (.ref d),Ya (.ref nr),v2,Ya (.int (way:Int)),Ya (.ref p),x5,x6] S=o:=λ_ h=>(Zi (Zo (di rfl hv))).trans h;rcases(show way=0\/way=1\/way=2 by omega)with hq|hq|hq
 .subst hq;have l1:LE (aV (Za (e2 Zm vD (e2 aU (Zb 6) (eC (.int 3)))) (Ze))) E S2 [.str (iY o)]:=⟨_,_,fY (Zr (pk S2) rfl) rfl,(j8 _ _).trans (j8 _ _),bY _ _ _⟩;have l3:=LE.add (LE.add l1 (λT pT=>LE.var (i:=4) rfl (iZ pT hp2)) (by rw[Y0];omega)).le (λT pT=>(LF.lst (ds:=[.str x]) (g:=Za (e2 Zm (Zb 1) (e2 aU (e2 bU (Zb 6) (eC (.int 3))) (eC (.int 12)))) (Ze)) (Zr (nm T pT) rfl) rfl).le) (by simp only[Yj,Y0];omega);obtain⟨n,S3,e3,p3,g3,n3⟩:=l3;refine⟨.str (iY o)::A,B++[.str x],S3,n,Ya (.int v),go _ ((d7 (M':=S2) (Zh rfl rfl (Wv rfl))).trans (Zo e3)),?_,Yi Ew.len n3,D2.pre p3,Ew.pre p3,λh=>Zwa h (hnm x Oi),by simp;omega,λz=>absurd rfl z,λ_=>rfl⟩;rw[g3];simp[bA,aX]
 .subst hq;have hB:=hB (by decide);subst hB;have l3:=LE.add (env:=E) (M:=S2) (LE.var (i:=4) rfl hp2) (λT pT=>(⟨_,_,fY (Zr (pk T) (Zr (nm (T++[ops]) (pT.trans (j8 _ _))) rfl)) rfl,(j8 _ _).trans (j8 _ _),bY _ _ _⟩:LE (aV (Za (e2 Zm vD (e2 aU (Zb 6) (eC (.int 3)))) (Za (e2 Zm (Zb 1) (e2 aU (e2 bU (Zb 6) (eC (.int 3))) (eC (.int 12)))) (Ze)))) E T [.str (iY o),.str x])) (by simp only[Yn,Ge];omega);obtain⟨n,S3,e3,p3,g3,n3⟩:=l3;refine⟨A++[.str (iY o),.str x],[],S3,n,Ya (.int v),go _ ((jq (M':=S2) (Zh rfl rfl rfl)).trans ((d7 (M':=S2) (Zh rfl rfl (Wv rfl))).trans (Zo e3))),?_,Yi Ew.len n3,D2.pre p3,Ew.pre p3,λh=>ZvJ h (hnm x Oi),by simp,λ_=>rfl,λz=>nomatch z⟩;rw[g3];simp[bA,aX]
 .subst hq;have hB:=hB (by decide);subst hB;have a1:=o_ (env:=E) (M:=S2) (M':=S2) (o:=Zb 4) (t:=eC (.str [99,101,108,108])) (M2:=S2) rfl hp2 rfl hp2 (pH Ww (by decide));refine⟨A++[.str gY],[],_,p,Ya (.int v),go _ ((jq (M':=S2) (Zh rfl rfl rfl)).trans ((jq (M':=S2) (Zh rfl rfl rfl)).trans a1)),?_,lp,D2.put (by exactλz=>by omega) (by omega) _,Ew.put lp _,λh=>Zu8 h,by simp,λ_=>rfl,λz=>nomatch z⟩;rw[Y4 (Yd.mp hp2).1];simp[bA,aX]
theorem ZoA{nr way:Nat}{names:List (List Nat)}(ld:c<M.length/\d<M.length)(hnr:M[nr]?=Ya (.lst (names.map D.str)))(nd:nr≠d)(hn:names.length=12)(hnm:∀x∈names,dW x)(hw:way<3){it:fW}(hit:it.lock=Yk){v2:Option D}:
  ∀(ds:List D) (A B:List D) (S:Store) (p au:Nat) (x5 x6:Option D),dM cs c d au S->Kp d M S->S[p]?=Ya (.lst (bA (A++B)))->M.length<=p->au+ds.length<1000000->A.length+B.length+2*ds.length<=500->(way≠0->B=[])->rF A B ->
  ∃(A' B':List D) (S':Store) (p':Nat) (y5 y6:Option D),dg it (b_ 5) leB ds [Ya (.ref d),Ya (.ref nr),v2,Ya (.int (way:Int)),Ya (.ref p),x5,x6] S= .nx [Ya (.ref d),Ya (.ref nr),v2,Ya (.int (way:Int)),Ya (.ref p'),y5,y6] S'/\S'[p']?=Ya (.lst (bA (A'++B')))/\M.length<=p'/\dM cs c d (au+ds.length) S'/\Kp d M S'/\
   rF A' B'/\A'.length+B'.length<=A.length+B.length+2*ds.length/\(way≠0->B'=[])/\(way=0->A'.length=A.length+ds.length)
 |[],A,B,S,p,au,x5,x6,dk,kp,hp,lp,ha,hl,hB,H=>⟨A,B,S,p,x5,x6,by rw[pR,if_pos (by unfold locked;rw[hit])],hp,lp,dk,kp,H,lQ _ _,hB,λ_=>rfl⟩|e::ds,A,B,S,p,au,x5,x6,dk,kp,hp,lp,ha,hl,hB,H=>by rw[Yn]at ha hl;obtain⟨A1,B1,S1,p1,y6,q,hp1,lp1,D1,K1,H1,L1,B1',A1'⟩:=Zue dk kp ld hp lp (by omega) hnr nd hn hnm hw (by omega) hB (v2:=v2) (x5:=Ya e) (x6:=x6);obtain⟨A2,B2,S2,p2,z5,z6,q2,hp2,lp2,D2,K2,H2,L2,B2',A2'⟩:=ZoA ld hnr nd hn hnm hw hit ds A1 B1 S1 p1 (au+1) (Ya e) y6 D1 K1 hp1 lp1 (by omega) (by omega) B1' (H1 H) (v2:=v2);refine⟨A2,B2,S2,p2,z5,z6,?_,hp2,lp2,by rw[Yn,show au+(ds.length+1)=au+1+ds.length by exact Y6 (by omega) (by omega)];exact D2,K2,H2,by rw[Yn];omega,B2',λz=>by rw[A2' z,A1' z,Yn];exact Y6 (by omega) (by omega)⟩;rw[pU,if_pos (by unfold locked;rw[hit])];simp only[b_,n8,n_];rw[q];exact q2
theorem LF.sl{M:Store}{o:E3}{lo hi:wR}{a b:Option Int}(ho:o env M= .ok (.ref n) M)(hl:lo env M= .ok a M)(hh:hi env M= .ok b M)(h:M[n]?=Ya (.lst ds)):LF (c7 o lo hi) env M (cutD ds a b):=⟨_,_,N7 ho hl hh h,j8 _ _,bY _ _ _,Yq _⟩
noncomputable abbrev leE:S3:=(Zq (aK (e2 aY (Zb 3) (eC (.int 0))) (aR (e2 Zt (e2 Zt (c7 (Zb 4) (dZ) (cW (Zb 2))) (aV (Za (e2 Zm (Zb 1) (eC (.int 0))) (Ze)))) (c7 (Zb 4) (cW (Zb 2)) (dZ)))) (aZ)) (aR (e2 Zt (Zb 4) (aV (Za (aJ oR (Za (e2 gR (Zb 2) (eC (.int 3))) (Ze))) (Ze))))))
def Got(cs:List Int)(c d:Nat)(M:Store)(au k:Nat)(r:R3 D):Prop:=∃(t:Sm) (S:Store) (n at':Nat),t.fit/\t.flat.length<=125/\r= .ok (.ref n) S/\S[n]?=Ya (.lst (bA t.flat))/\M.length<=n/\dM cs c d at' S/\Kp d M S/\at'<=au+k
theorem ZnJ{many:Nat}(dk:dM cs c d au M)(hnr:M[nr]?=Ya (.lst (names.map D.str)))(nd:nr≠d)(hn:names.length=12)(hnm:∀x∈names,dW x)(hw:way<3)(hm:many<=62)(ha:au+100<1000000):
  Got cs c d M au 70 (Ds [.ref d,.ref nr,.int (many:Int),.int (way:Int)] M):=by
 have ld:=dk.lt
 let M1:=M++[MO.lst []]
 have hr:(jJ 0 ((many:Nat):Int).toNat).length=many:=by simp[jJ]
 obtain⟨A,B,S1,p,y5,y6,q,hp,lp,D1,K1,H,L,hB,hA⟩:=ZoA (M:=M) (way:=way) (it:=⟨jJ 0 ((many:Nat):Int).toNat,Yk⟩) ld hnr nd hn hnm hw rfl (v2:=Ya (.int (many:Int))) (jJ 0 ((many:Nat):Int).toNat) [] [] M1 M.length au Yk Yk (dk.app _) (Kp.app d M _) (bY _ _ _) (Yq _) (by rw[hr];omega) (by rw[hr];simp;omega) (λ_=>rfl) ZxS;rw[hr]at D1 L hA;have hn1:S1[nr]?=Ya (.lst (names.map D.str)):=K1.get hnr nd;have hi:wU (Zb 2) [Ya (.ref d),Ya (.ref nr),Ya (.int (many:Int)),Ya (.int (way:Int)),Ya (.ref M.length),Yk,Yk] M1= .ok ⟨jJ 0 ((many:Nat):Int).toNat,Yk⟩ M1:=by have:(many:Int)<=1000000/\ -1000000<=(many:Int):=⟨by omega,by omega⟩;simp[this]
 have fin:∀(t:Sm) (n:Nat) (S:Store),t.fit->t.flat.length<=125->leE [Ya (.ref d),Ya (.ref nr),Ya (.int (many:Int)),Ya (.int (way:Int)),Ya (.ref p),y5,y6] S1= .rt (.ref n) S->S1<+:S->S[n]?=Ya (.lst (bA t.flat))->S1.length<=n ->
   Got cs c d M au 70 (Ds [.ref d,.ref nr,.int (many:Int),.int (way:Int)] M):=λt n S f1 f2 h pS hS ln=>by
  have l:=Yi K1.len ln;refine⟨t,S,n,au+many,f1,f2,(kY (M':=S) (env:=[Ya (.ref d),Ya (.ref nr),Ya (.int (many:Int)),Ya (.int (way:Int)),Yk,Yk,Yk]) ?_).trans (Oh l),hS,l,D1.pre pS,K1.pre pS,by omega⟩;unfold VL;exact(Zi (Zo (fY rfl rfl))).trans ((Zi ((wW hi).trans q)).trans h)
 have Ww:(bA (A++B)).length<=500:=by rw[xW,Yj];simp at L;omega
 by_cases h0:way=0
 .subst h0;have hA:A.length=many:=by have:=hA rfl;simpa using this
  obtain⟨x,r,ex⟩:∃x r,names=x::r:=by cases names with
   |nil=>cases hn|cons x r=>exact⟨x,r,rfl⟩
  have hxo:dW x:=hnm x (by rw[ex];exact Yl);obtain⟨t,t1,t2⟩:=H (.fJ x) hxo
  let E:Zz:=[Ya (.ref d),Ya (.ref nr),Ya (.int (many:Int)),Ya (.int ((0:Nat):Int)),Ya (.ref p),y5,y6]
  have c1:cutD (bA (A++B)) Yk (Ya ((many:Nat):Int))=bA A:=by rw[V8,Ak,←hA,←xW,ZZ]
  have c2:cutD (bA (A++B)) (Ya ((many:Nat):Int)) Yk=bA B:=by rw[NZ,Ak,←hA,←xW,ZX]
  have s1:∀T,S1<+:T->LF (c7 (Zb 4) (dZ) (cW (Zb 2))) E T (bA A):=λT pT=>c1▸LF.sl (a:=Yk) (b:=Ya ((many:Nat):Int)) rfl rfl rfl (iZ pT hp);have s2:∀T,S1<+:T->LF (c7 (Zb 4) (cW (Zb 2)) (dZ)) E T (bA B):=λT pT=>c2▸LF.sl (a:=Ya ((many:Nat):Int)) (b:=Yk) rfl rfl rfl (iZ pT hp);rw[Ak,Yj]at Ww;have l3:=LE.add (LE.add (s1 S1 (rZ _)).le (λT pT=>(LF.lst (ds:=[.str x]) (g:=Za (e2 Zm (Zb 1) (eC (.int 0))) (Ze)) (Zr (Zh rfl rfl (jr (iZ pT hn1) (d:=.str x) (by rw[ex];exact gU _ 0))) rfl) rfl).le) (by rw[Y0];omega)).le (λT pT=>(s2 T pT).le) (by simp only[Yj,Y0];omega);obtain⟨n,S3,e3,p3,g3,n3⟩:=l3;refine fin t n S3 t1 ?_ (sY ((d7 (M':=S1) (Zh rfl rfl (Wv rfl))).trans (dF e3))) p3 ?_ n3
  .rw[t2];simp[Sm.flat]at L ⊢;omega
  .rw[g3,t2];simp[bA,Sm.flat,aX]
 .have hB:=hB h0;subst hB;have hi:((many:Int)-3).natAbs<10^60:=by omega
  obtain⟨t,t1,t2⟩:=H (.num ((many:Int)-3)) hi;have l3:=LE.add (env:=[Ya (.ref d),Ya (.ref nr),Ya (.int (many:Int)),Ya (.int (way:Int)),Ya (.ref p),y5,y6]) (M:=S1) (LE.var (i:=4) rfl hp) (λT pT=>(LF.lst (ds:=[.str (aX (.int ((many:Int)-3)))]) (g:=Za (aJ oR (Za (e2 gR (Zb 2) (eC (.int 3))) (Ze))) (Ze)) (Zr (dm (Zh rfl rfl (Ly _ _)) (Ws (nJ.int _ hi) T)) rfl) rfl).le) (by rw[Y0];omega);obtain⟨n,S3,e3,p3,g3,n3⟩:=l3;refine fin t n S3 t1 ?_ ((Zi (fC (M':=S1) (Zh rfl rfl (T8 (λz=>by omega))))).trans (dF e3)) p3 ?_ n3
  .rw[t2];simp[Sm.flat]at L ⊢;omega
  .rw[g3,t2];simp[bA,Sm.flat,aX]
end
theorem Zrc{F:F3}{M M1:Store}(h:g env M= .ok ds M1):Zx F g env M=F ds M1:=by show(g env M).bind F=_;rw[h];rfl
noncomputable abbrev lsI:S3:=(aK (gq (cU (e2 iU (Zb 10) (eC (.int 3))) (Zb 4)) (gq (e2 dY (Zb 7) (eC (.int 1))) (e2 dY (Zb 9) (eC (.int 1))))) (Zq (bj (aQ bI cQ (Zb 5) (Za (e2 Zm vD (e2 aU (e2 bU (Zb 8) (eC (.int 9))) (eC (.int 3)))) (Ze)))) (bj (aQ bI pW (Zb 6) (Za (aV (Za (e2 gR (Zb 7) (eC (.int 1))) (Za (Zb 7) (Ze)))) (Ze))))) (aK (gq (e2 aY (Zb 10) (eC (.int 3))) (e2 dY (Zb 9) (eC (.int 0)))) (Zq (bj (aQ bI cQ (Zb 5) (Za (eC (.str [99,101,108,108])) (Ze)))) (bj (aQ bI cQ (Zb 6) (Za (Zb 7) (Ze))))) (bj (aQ bI cQ (Zb 5) (Za (e2 Zm (aV (Za (e2 Zm (Zb 1) (e2 aU (e2 bU (Zb 8) (eC (.int 9))) (eC (.int 12)))) (Za (aJ oR (Za (e2 gR (e2 aU (e2 bU (Zb 8) (eC (.int 9))) (eC (.int 100))) (eC (.int 50))) (Ze))) (Ze)))) (e2 aU (Zb 8) (eC (.int 2)))) (Ze))))))
noncomputable abbrev Oj:S3:=(Zq (aA 7 (aQ bI kW (Zb 6) (Ze))) (Zq (aA 8 (Zx jM (Za (Zb 0) (Ze)))) (Zq (aA 9 (e2 gR (e2 gR (e2 gR (Zb 3) (aJ bG (Za (Zb 5) (Ze)))) (aJ bG (Za (Zb 6) (Ze)))) (eC (.int 1)))) (Zq (aA 10 (e2 aU (Zb 8) (eC (.int 9)))) lsI))))
def Jh(W:List D)(n:Nat):Prop:=∀ts:List Sm,ts.length=n->(∀t∈ts,t.fit)->∃t:Sm,t.fit/\t.flat=W++aN ts
inductive Ji:D->Nat->Nat->Prop
 |leaf (t:Sm) (w:D) (h:t.fit) (e:t.flat=[w]) (n:Nat):Ji w n n
 |gW (n:Nat):Ji (.str gY) n (n+1)
 |two (o n:Nat):Ji (.str (iY o)) n (n+2)
theorem Zs1:Jh [] 1:=λts h f=>by
 match ts,h with
 |[t],_=>exact⟨t,f t Yl,by simp[aN]⟩
theorem Zm1{W:List D}(h:Jh W (n+1))(t:Ji w n m):Jh (W++[w]) m:=by
 intro ts hl hf;cases t with
 |leaf t _ ht e=>obtain⟨u,u1,u2⟩:=h (t::ts) (by rw[Yn,hl]) (jC.mpr ⟨ht,hf⟩);exact⟨u,u1,by rw[u2];simp[aN,e]⟩|gW=>
  match ts,hl,hf with
  |a::r,hl,hf=>obtain⟨u,u1,u2⟩:=h (.gW a::r) (by simpa using hl) (jC.mpr ⟨(jC.mp hf).1,(jC.mp hf).2⟩);exact⟨u,u1,by rw[u2];simp[aN,Sm.flat]⟩
 | two o=>
  match ts,hl,hf with
  |a::b::r,hl,hf=>obtain⟨u,u1,u2⟩:=h (.two o a b::r) (by simpa using hl) (jC.mpr ⟨⟨hf a Yl,hf b (Yg _ Yl)⟩,λs z=>hf s (Yg _ (Yg _ z))⟩);exact⟨u,u1,by rw[u2];simp[aN,Sm.flat]⟩|[_],hl,_=>simp at hl|[],hl,_=>simp at hl
section
variable {cs:List Int} {c d:Nat} {M S:Store} {p q:Nat} {W:List D} {es:List Nat} {au:Nat}
theorem ZtL{most e:Nat}(L:LS cs c d M S p q (bA W) (e::es) au)(ha:au<1000000)(hnr:M[nr]?=Ya (.lst (names.map D.str)))(nd:nr≠d)(hn:names.length=12)(hnm:∀x∈names,dW x)(hm:most<=65)(hl:W.length+es.length+1<=most){deep:Option D}{full:Bool}(x7 x8 x9 x10:Option D):
  ∃w es' S' y7 y8 y9 y10,Oj [Ya (.ref d),Ya (.ref nr),deep,Ya (.int (most:Int)),Ya (.bl full),Ya (.ref p),Ya (.ref q),x7,x8,x9,x10] S= .nx [Ya (.ref d),Ya (.ref nr),deep,Ya (.int (most:Int)),Ya (.bl full),Ya (.ref p),Ya (.ref q),y7,y8,y9,y10] S'/\LS cs c d M S' p q (bA (W++[w])) es' (au+1)/\Ji w es.length es'.length/\W.length+1+es'.length<=most:=by
 have Wx:(bA W).length<SZ:=by rw[xW];exact pH (show W.length<=65 by omega) (by decide)
 have hq0:S[q]?=Ya (.lst (es.reverse.map (λ(e:Nat)=>D.int (e:Int))++[D.int (e:Int)])):=by rw[L.hq,Gb,oA];rfl
 have L1:LS cs c d M (S.set q (.lst (es.reverse.map λ(e:Nat)=>D.int (e:Int)))) p q (bA W) es au:=L.Qc es;obtain⟨v,S2,hv,L2⟩:=L1.draw ha;obtain⟨way,ew,hw⟩:=nH v 9 (by decide);have ew:v % 9=(way:Int):=ew;obtain⟨o,eo,ho⟩:=nH (v / 9) 3 (by decide);have eo:v / 9 % 3=(o:Int):=eo
 let room:Int:=(most:Int)-(W.length:Int)-(es.length:Int)-1
 let E:Zz:=[Ya (.ref d),Ya (.ref nr),deep,Ya (.int (most:Int)),Ya (.bl full),Ya (.ref p),Ya (.ref q),Ya (.int (e:Int)),Ya (.int v),Ya (.int room),Ya (.int (way:Int))]
 have s8:∀{a b:Option D},e2 gR (e2 gR (e2 gR (Zb 3) (aJ bG (Za (Zb 5) (Ze)))) (aJ bG (Za (Zb 6) (Ze)))) (eC (.int 1)) [Ya (.ref d),Ya (.ref nr),deep,Ya (.int (most:Int)),Ya (.bl full),Ya (.ref p),Ya (.ref q),Ya (.int (e:Int)),Ya (.int v),a,b] S2= .ok (.int room) S2:=by intro a b;refine Zh (Zh (Zh rfl (dm rfl (oO L2.hp)) rfl) (dm rfl (oO L2.hq)) rfl) rfl ?_;rw[Ys,yE,xW,Ly]
 have start:∀o:O3,lsI E S2=o->Oj [Ya (.ref d),Ya (.ref nr),deep,Ya (.int (most:Int)),Ya (.bl full),Ya (.ref p),Ya (.ref q),x7,x8,x9,x10] S=o:=λ_ h=>(Zi (Zo (N8 rfl hq0))).trans ((Zi (Zo (di rfl hv))).trans ((Zi (Zo s8)).trans ((Zi (Zo (d:=.int (way:Int)) (Zh rfl rfl ((gH (by decide)).trans (by rw[ew]))))).trans h)));have b1:cU (e2 iU (Zb 10) (eC (.int 3))) (Zb 4) E S2= .ok (.bl (decide (way<3)|| full)) S2:=by
  by_cases h:way<3
  .rw[decide_eq_true h,wX (M1:=S2) (Zh rfl rfl (by rw[uV,decide_eq_true (by omega)]))];rfl
  .rw[decide_eq_false h,ni (M1:=S2) (Zh rfl rfl (by rw[uV,decide_eq_false (by omega)]))];rfl
 have b2:e2 dY (Zb 7) (eC (.int 1)) E S2= .ok (.bl (decide (1<e))) S2:=Zh rfl rfl (by rw[pO];congr 2;exact decide_eq_decide.mpr (by omega));have b3:e2 dY (Zb 9) (eC (.int 1)) E S2= .ok (.bl (decide ((1:Int)<room))) S2:=Zh rfl rfl (by rw[pO]);have b4:e2 aY (Zb 10) (eC (.int 3)) E S2= .ok (.bl (decide (way=3))) S2:=by
  by_cases h:way=3
  .rw[decide_eq_true h];exact Zh rfl rfl (LR (yP (by omega) (by omega)))
  .rw[decide_eq_false h];exact Zh rfl rfl (T8 (λz=>by omega))
 have b5:e2 dY (Zb 9) (eC (.int 0)) E S2= .ok (.bl (decide ((0:Int)<room))) S2:=Zh rfl rfl (by rw[pO]);have Qd:∀{f g:E3} {x y:Bool},f E S2= .ok (.bl x) S2->g E S2= .ok (.bl y) S2->gq f g E S2= .ok (.bl (x&&y)) S2:=λ{f g x y} hf hg=>by
  cases x with
  |true=>rw[Cu (M1:=S2) hf,hg,Bool.true_and]|false=>exact L_ hf
 have c1:=Qd b1 (Qd b2 b3);have c2:=Qd b4 b5;cases h1:((decide (way<3)|| full)&&(decide (1<e)&&decide ((1:Int)<room)))with
 | true=>
  rw[h1]at c1;rw[Y3,Y3,decide_eq_true_eq,decide_eq_true_eq]at h1;obtain⟨_,he,hr⟩:=h1
  let S3:=S2++[MO.lst [.str [97,100,100],.str [115,117,98],.str [109,111,114,101]]]
  have L3:LS cs c d M S3 p q (bA W) es (au+1):=L2.app _;have a1:=o_ (env:=E) (M:=S2) (M':=S2) (o:=Zb 5) (t:=e2 Zm vD (e2 aU (e2 bU (Zb 8) (eC (.int 9))) (eC (.int 3)))) (M2:=S3) rfl L2.hp (Al (ds:=[.str [97,100,100],.str [115,117,98],.str [109,111,114,101]]) (j:=o) rfl rfl (Zh (Zh rfl rfl (mJ (by decide))) rfl ((gH (by decide)).trans (by rw[eo]))) (ZuP ho)) L3.hp Wx;have L4:=L3.Qa (bA W++[.str (iY o)])
  let S4:=S3.set p (.lst (bA W++[.str (iY o)]))
  have L5:=L4.app [MO.lst [.int ((e-1:Nat):Int),.int (e:Int)]]
  let S5:=S4++[MO.lst [.int ((e-1:Nat):Int),.int (e:Int)]]
  have hql:q<S4.length:=(Yd.mp L4.hq).1;have L6:=L5.Qc (e::(e-1)::es);have a2:bj (aQ bI pW (Zb 6) (Za (aV (Za (e2 gR (Zb 7) (eC (.int 1))) (Za (Zb 7) (Ze)))) (Ze))) E S4= .nx E (S5.set q (.lst ((e::(e-1)::es).reverse.map λ(e:Nat)=>D.int (e:Int)))):=by refine zp (d:=.non) (Od rfl (by rw[zm,L4.hq]) (Zr (fY (ds:=[.int ((e-1:Nat):Int),.int (e:Int)]) (Zr (Zh rfl rfl (by rw[Ly];congr 2;exact yP (by omega) (by omega))) rfl) rfl) rfl) ((Zvb L5.hq (bY _ _ _) (dG hql) (by simp;omega)).trans ?_));simp;rfl
  refine⟨.str (iY o),e::(e-1)::es,_,_,_,_,_,start _ ((d7 c1).trans ((Zi a1).trans a2)),?_,.two o _,by simp;omega⟩;rw[Ak];exact L6
 | false=>
  rw[h1]at c1;cases h2:(decide (way=3)&&decide ((0:Int)<room))with
  |true=>
   rw[h2]at c2;rw[Y3,decide_eq_true_eq,decide_eq_true_eq]at h2;have a1:=o_ (env:=E) (M:=S2) (M':=S2) (o:=Zb 5) (t:=eC (.str gY)) (M2:=S2) rfl L2.hp rfl L2.hp Wx;have L4:=L2.Qa (bA W++[.str gY]);have hz:(es.reverse.map λ(e:Nat)=>D.int (e:Int)).length<SZ:=by rw[Ys,yE];exact pH (show es.length<=65 by omega) (by decide)
   have a2:=o_ (env:=E) (M:=S2.set p (.lst (bA W++[.str gY]))) (M':=S2.set p (.lst (bA W++[.str gY]))) (o:=Zb 6) (t:=Zb 7) (M2:=S2.set p (.lst (bA W++[.str gY]))) rfl L4.hq rfl L4.hq hz;have L6:=L4.Qc (e::es);have e6:(es.reverse.map λ(e:Nat)=>D.int (e:Int))++[D.int (e:Int)]=(e::es).reverse.map λ(e:Nat)=>D.int (e:Int):=by simp
   rw[e6]at a2;refine⟨.str gY,e::es,_,_,_,_,_,start _ ((jq c1).trans ((d7 c2).trans ((Zi a1).trans a2))),?_,.gW _,by simp;omega⟩;rw[Ak];exact L6
  | false=>
   rw[h2]at c2;obtain⟨a,x,ea,hx,Oi⟩:=ZqU hn (v / 9);obtain⟨j,ej,hj⟩:=nH v 2 (by decide);have ej:v % 2=(j:Int):=ej
   let z:Int:=v / 9 % 100-50
   have hz:z.natAbs<10^60:=by have:=sE (v / 9) (b:=100) (by decide);have:=wG (v / 9) (b:=100) (by decide);omega
   have hnS:S2[nr]?=Ya (.lst (names.map D.str)):=L2.kp.get hnr nd;obtain⟨t,w,ht,hw1,hwj⟩:∃(t:Sm) (w:D),t.fit/\t.flat=[w]/\([.str x,.str (aX (.int z))]:List D)[j]?=Ya (.str (aX w)):=by
    match j,hj with
    |0,_=>exact⟨.fJ x,.str x,hnm x Oi,rfl,rfl⟩|1,_=>exact⟨.num z,.int z,hz,rfl,rfl⟩
   let S3:=S2++[MO.lst [.str x,.str (aX (.int z))]]
   have L3:LS cs c d M S3 p q (bA W) es (au+1):=L2.app _;have pk:e2 Zm (aV (Za (e2 Zm (Zb 1) (e2 aU (e2 bU (Zb 8) (eC (.int 9))) (eC (.int 12)))) (Za (aJ oR (Za (e2 gR (e2 aU (e2 bU (Zb 8) (eC (.int 9))) (eC (.int 100))) (eC (.int 50))) (Ze))) (Ze)))) (e2 aU (Zb 8) (eC (.int 2))) E S2= .ok (.str (aX w)) S3:=Al (ds:=[.str x,.str (aX (.int z))]) (j:=j) (Zr (Zh rfl (Zh (Zh rfl rfl (mJ (by decide))) rfl (gH (by decide))) (jr hnS (d:=.str x) (by rw[ea,gU,lM,hx];rfl))) (Zr (dm (Zh (Zh (Zh rfl rfl (mJ (by decide))) rfl (gH (by decide))) rfl (Ly _ _)) (Ws (nJ.int z hz) S2)) rfl)) rfl (Zh rfl rfl ((gH (by decide)).trans (by rw[ej]))) hwj;have a1:=o_ (env:=E) (M:=S2) (M':=S2) (o:=Zb 5) (M2:=S3) rfl L2.hp pk L3.hp Wx;refine⟨w,es,_,_,_,_,_,start _ ((jq c1).trans ((jq c2).trans a1)),?_,.leaf t w ht hw1 _,by omega⟩;rw[Ak];exact L3.Qa _
def LsR(cs:List Int)(c d:Nat)(M:Store)(p q nr most au m fuel:Nat)(full:Bool)(vd x7 x8 x9 x10:Option D)(S:Store):Prop:=∃(t:Sm) (S':Store) (at':Nat) (y7 y8 y9 y10:Option D),t.fit/\t.flat.length<=most/\at'<=au+m/\uX (e2 fj (Zb 6) (aV (Ze))) Oj fuel [Ya (.ref d),Ya (.ref nr),vd,Ya (.int (most:Int)),Ya (.bl full),Ya (.ref p),Ya (.ref q),x7,x8,x9,x10] S= .nx [Ya (.ref d),Ya (.ref nr),vd,Ya (.int (most:Int)),Ya (.bl full),Ya (.ref p),Ya (.ref q),y7,y8,y9,y10] S'/\LS cs c d M S' p q (bA t.flat) [] at'
theorem Zrp{most:Nat}(hnr:M[nr]?=Ya (.lst (names.map D.str)))(nd:nr≠d)(hn:names.length=12)(hnm:∀x∈names,dW x)(hm:most<=65){vd:Option D}{full:Bool}:
  ∀(m fuel:Nat) (S:Store) (W:List D) (es:List Nat) (au:Nat) (x7 x8 x9 x10:Option D),LS cs c d M S p q (bA W) es au->W.length+m=most->m<fuel->W.length+es.length<=most->au+m<1000000->Jh W es.length ->
  LsR cs c d M p q nr most au m fuel full vd x7 x8 x9 x10 S:=by
 have stop:∀(f:Nat) (S:Store) (W:List D) (au m:Nat) (x7 x8 x9 x10:Option D),LS cs c d M S p q (bA W) [] au->W.length<=most->Jh W 0->LsR cs c d M p q nr most au m (f+1) full vd x7 x8 x9 x10 S:=λf S W au m x7 x8 x9 x10 L h3 hd=>by
  obtain⟨t,f1,f3⟩:=hd [] rfl (λt z=>nomatch z);have f3:t.flat=W:=by simpa[aN]using f3
  refine⟨t,_,au,x7,x8,x9,x10,f1,by rw[f3];exact h3,lQ _ _,?_,by rw[f3];exact L.app [.lst []]⟩;rw[T6,Zsn (X:=[]) rfl L.hq];rfl
 intro m
 induction m with
 |zero=>intro fuel S W es au x7 x8 x9 x10 L h1 h2 h3 h4 hd;have:es=[]:=List.length_eq_zero_iff.mp (Y6 (by omega) (fL _));subst this;obtain⟨f,rfl⟩:∃f,fuel=f+1:=⟨fuel-1,Y6 ((sbA _ _)) (oE (Z5 (by omega)))⟩;exact stop f S W au 0 x7 x8 x9 x10 L (by omega) hd|succ m ih=>
  intro fuel S W es au x7 x8 x9 x10 L h1 h2 h3 h4 hd;obtain⟨f,rfl⟩:∃f,fuel=f+1:=⟨fuel-1,Y6 ((sbA _ _)) (oE (Z5 (by omega)))⟩;cases es with
  |nil=>exact stop f S W au (m+1) x7 x8 x9 x10 L (by omega) hd|cons e es=>
   rw[Yn]at h3 hd;obtain⟨w,es',S1,y7,y8,y9,y10,hb,L1,tt,hl⟩:=ZtL (most:=most) (L.app [.lst []]) (by omega) hnr nd hn hnm hm (by omega) (deep:=vd) (full:=full) x7 x8 x9 x10;obtain⟨t,S',at',z7,z8,z9,Jj,f1,f3,f4,f5,f6⟩:=ih f S1 (W++[w]) es' (au+1) y7 y8 y9 y10 L1 (by simp;exact Y6 (by omega) (by omega)) (by omega) (by simp;exact hl) (by omega) (Zm1 hd tt);refine⟨t,S',at',z7,z8,z9,Jj,f1,f3,by omega,?_,f6⟩;have hq:S[q]?=Ya (.lst (((e::es).reverse.map λ(e:Nat)=>(e:Int)).map D.int)):=by rw[←Zqn];exact L.hq
   have hc:=Zsn (env:=[Ya (.ref d),Ya (.ref nr),vd,Ya (.int (most:Int)),Ya (.bl full),Ya (.ref p),Ya (.ref q),x7,x8,x9,x10]) (i:=6) rfl hq;have hx:(!((e::es).reverse.map λ(e:Nat)=>(e:Int)).isEmpty)=true:=by simp
   rw[hx]at hc;rw[T6,hc];show(match Oj _ _ with| .nx e M'=>_| .ct e M'=>_| .bk e M'=>_|o=>o)=_;rw[hb];exact f5
theorem Zt7{most deep:Nat}{full:Bool}(dk:dM cs c d au M)(hnr:M[nr]?=Ya (.lst (names.map D.str)))(nd:nr≠d)(hn:names.length=12)(hnm:∀x∈names,dW x)(hm:most<=65)(h1:1<=most)(ha:au+100<1000000):
  Got cs c d M au 70 (Ir [.ref d,.ref nr,.int (deep:Int),.int (most:Int),.bl full] M):=by
 have ld:=dk.lt
 let M1:=M++[MO.lst []]++[MO.lst [.int (deep:Int)]]
 have L0:LS cs c d M M1 M.length (M.length+1) (bA []) [deep] au:=⟨dR (bY _ _ _) _,by have:=bY (M++[MO.lst []]) (MO.lst [.int (deep:Int)]) [];rw[Yj]at this;exact this,(dk.app _).app _,(Kp.app d M _).trans (Kp.app d _ _),Yq _,wD _,(λz=>by omega),ld⟩;obtain⟨t,S',at',y7,y8,y9,y10,f1,f3,f4,f5,f6⟩:=Zrp hnr nd hn hnm hm (vd:=Ya (.int (deep:Int))) (full:=full) most 1000000 M1 [] [deep] au Yk Yk Yk Yk L0 (by simp) (by omega) (by simp;exact h1) (by omega) Zs1;refine⟨t,S',M.length,at',f1,by omega,(kY (M':=S') (env:=[Ya (.ref d),Ya (.ref nr),Ya (.int (deep:Int)),Ya (.int (most:Int)),Ya (.bl full),Yk,Yk,Yk,Yk,Yk,Yk]) ?_).trans (Oh (Yq _)),f6.hp,Yq _,f6.dk,f6.kp,by omega⟩;unfold VN;refine(Zi (Zo (d:=.ref M.length) (M':=M++[.lst []]) (fY rfl rfl))).trans ?_;refine(Zi (Zo (d:=.ref (M.length+1)) (M':=M1) ((fY (ds:=[.int (deep:Int)]) rfl rfl).trans (by rw[Yj];rfl)))).trans ?_;exact(Zi f5).trans (dF rfl)
theorem Got.up{at':Nat}{r:R3 D}(h:Got cs c d M' at' 70 r)(k:Kp d M M')(la:at'<=au+1):Got cs c d M au 71 r:=by obtain⟨t,S,n,at2,f1,f2,f3,f4,f5,f6,f7,f8⟩:=h;exact⟨t,S,n,at2,f1,f2,f3,f4,Yi k.len f5,f6,k.trans f7,by omega⟩
theorem Zko(dk:dM cs c d au M)(hnr:M[nr]?=Ya (.lst (names.map D.str)))(nd:nr≠d)(hn:names.length=12)(hnm:∀x∈names,dW x)(ha:au+200<1000000):
  Got cs c d M au 71 (xR [.ref d,.ref nr] M):=by
 have ld:=dk.lt;obtain⟨v,S1,hv,D1,Jk,l1⟩:=dk.draw (by omega);obtain⟨way,ew,hw⟩:=nH v 6 (by decide);have ew:v % 6=(way:Int):=ew;have hn1:S1[nr]?=Ya (.lst (names.map D.str)):=Jk.get hnr nd
 let E:Zz:=[Ya (.ref d),Ya (.ref nr),Ya (.int v),Ya (.int (way:Int)),Yk]
 have fin:∀{r:R3 D} {T:Store},S1<+:T->Got cs c d T (au+1) 70 r->(∀x S,r= .ok x S->Nv [Ya (.ref d),Ya (.ref nr),Yk,Yk,Yk] M= .rt x S)->Got cs c d M au 71 (xR [.ref d,.ref nr] M):=λ{r T} hT h hb=>by obtain⟨t,S,n,at2,f1,f2,f3,f4,f5,f6,f7,f8⟩:=h.up (M:=M) (au:=au) (Jk.pre hT) (Yq _);exact⟨t,S,n,at2,f1,f2,(kY (M':=S) (env:=[Ya (.ref d),Ya (.ref nr),Yk,Yk,Yk]) (hb _ _ f3)).trans (Oh f5),f4,f5,f6,f7,f8⟩
 have go:∀o:O3,(Zq (aK (e2 iU (Zb 3) (eC (.int 3))) (aR (Zx Ds (Za (Zb 0) (Za (Zb 1) (Za (e2 Zm (aV (Za (e2 aU (e2 bU (Zb 2) (eC (.int 6))) (eC (.int 8))) (Za (e2 aU (e2 bU (Zb 2) (eC (.int 6))) (eC (.int 62))) (Ze)))) (e2 aU (e2 bU (Zb 2) (eC (.int 54))) (eC (.int 2)))) (Za (Zb 3) (Ze))))))) (aZ)) (Zq (aA 4 (e2 Zm (aV (Za (eC (.int 9)) (Za (eC (.int 20)) (Za (eC (.int 40)) (Za (eC (.int 65)) (Ze)))))) (e2 aU (e2 bU (Zb 2) (eC (.int 6))) (eC (.int 4))))) (aR (Zx Ir (Za (Zb 0) (Za (Zb 1) (Za (e2 Zt (eC (.int 1)) (e2 aU (e2 bU (Zb 2) (eC (.int 24))) (eC (.int 9)))) (Za (Zb 4) (Za (e2 aY (Zb 3) (eC (.int 3))) (Ze)))))))))) E S1=o->Nv [Ya (.ref d),Ya (.ref nr),Yk,Yk,Yk] M=o:=λ_ h=>(Zi (Zo (di rfl hv))).trans ((Zi (Zo (d:=.int (way:Int)) (Zh rfl rfl ((gH (by decide)).trans (by rw[ew]))))).trans h);by_cases h3:way<3
 .obtain⟨a,ea,ha8⟩:=nH (v / 6) 8 (by decide);have ea:v / 6 % 8=(a:Int):=ea;obtain⟨b,eb,AcY⟩:=nH (v / 6) 62 (by decide);have eb:v / 6 % 62=(b:Int):=eb;obtain⟨j,ej,hj⟩:=nH (v / 54) 2 (by decide);have ej:v / 54 % 2=(j:Int):=ej;obtain⟨many,hm,Wy⟩:∃many:Nat,many<=62/\([.int (a:Int),.int (b:Int)]:List D)[j]?=Ya (.int (many:Int)):=by
   match j,hj with
   |0,_=>exact⟨a,by omega,rfl⟩|1,_=>exact⟨b,wC AcY,rfl⟩
  let T:=S1++[MO.lst [.int (a:Int),.int (b:Int)]]
  have pT:S1<+:T:=j8 _ _;refine fin pT (ZnJ (M:=T) (many:=many) (way:=way) (D1.app _) (dR hn1 _) nd hn hnm h3 hm (by omega)) (λx S' hx=>go _ (sY ((d7 (M':=S1) (Zh rfl rfl (by rw[uV,decide_eq_true (by omega)]))).trans (dF ?_))));have pk:e2 Zm (aV (Za (e2 aU (e2 bU (Zb 2) (eC (.int 6))) (eC (.int 8))) (Za (e2 aU (e2 bU (Zb 2) (eC (.int 6))) (eC (.int 62))) (Ze)))) (e2 aU (e2 bU (Zb 2) (eC (.int 54))) (eC (.int 2))) E S1= .ok (.int (many:Int)) T:=Al (ds:=[.int (a:Int),.int (b:Int)]) (j:=j) (Zr (Zh (Zh rfl rfl (mJ (by decide))) rfl ((gH (by decide)).trans (by rw[ea]))) (Zr (Zh (Zh rfl rfl (mJ (by decide))) rfl ((gH (by decide)).trans (by rw[eb]))) rfl)) rfl (Zh (Zh rfl rfl (mJ (by decide))) rfl ((gH (by decide)).trans (by rw[ej]))) Wy;exact(Zrc (Zr (ds:=[.ref nr,.int (many:Int),.int (way:Int)]) rfl (Zr rfl (Zr pk (Zr rfl rfl))))).trans hx
 .obtain⟨j,ej,hj⟩:=nH (v / 6) 4 (by decide);have ej:v / 6 % 4=(j:Int):=ej;obtain⟨most,hm1,hm,Wy⟩:∃most:Nat,1<=most/\most<=65/\([.int 9,.int 20,.int 40,.int 65]:List D)[j]?=Ya (.int (most:Int)):=by
   match j,hj with
   |0,_=>exact⟨9,by decide,by decide,rfl⟩|1,_=>exact⟨20,by decide,by decide,rfl⟩|2,_=>exact⟨40,by decide,by decide,rfl⟩|3,_=>exact⟨65,by decide,by decide,rfl⟩
  obtain⟨e,ee,he⟩:=nH (v / 24) 9 (by decide);have ee:v / 24 % 9=(e:Int):=ee
  let T:=S1++[MO.lst [.int 9,.int 20,.int 40,.int 65]]
  have pT:S1<+:T:=j8 _ _;have r:=Zt7 (M:=T) (most:=most) (deep:=1+e) (full:=decide ((way:Int)=3)) (D1.app _) (dR hn1 _) nd hn hnm hm hm1 (by omega);refine fin pT r (λx S' hx=>go _ ((Zi (fC (M':=S1) (Zh rfl rfl (by rw[uV,decide_eq_false (by omega)])))).trans ((Zi (Zo (d:=.int (most:Int)) (M':=T) (Al (ds:=[.int 9,.int 20,.int 40,.int 65]) (j:=j) rfl rfl (Zh (Zh rfl rfl (mJ (by decide))) rfl ((gH (by decide)).trans (by rw[ej]))) Wy))).trans (dF ?_))));have k1:e2 Zt (eC (.int 1)) (e2 aU (e2 bU (Zb 2) (eC (.int 24))) (eC (.int 9))) [Ya (.ref d),Ya (.ref nr),Ya (.int v),Ya (.int (way:Int)),Ya (.int (most:Int))] T= .ok (.int ((1+e:Nat):Int)) T:=Zh rfl (Zh (Zh rfl rfl (mJ (by decide))) rfl ((gH (by decide)).trans (by rw[ee]))) (by rw[Cg];congr 2);have k2:e2 aY (Zb 3) (eC (.int 3)) [Ya (.ref d),Ya (.ref nr),Ya (.int v),Ya (.int (way:Int)),Ya (.int (most:Int))] T= .ok (.bl (decide ((way:Int)=3))) T:=Zh rfl rfl (by simp only[aY,sV]);exact(Zrc (Zr (ds:=[.ref nr,.int ((1+e:Nat):Int),.int (most:Int),.bl (decide ((way:Int)=3))]) rfl (Zr rfl (Zr k1 (Zr rfl (Zr k2 rfl)))))).trans hx
end
structure Pre(M S:Store):Prop where
 len:M.length<=S.length
 pre:∀a,a<M.length->S[a]?=M[a]?
theorem Pre.app(p:Pre M S)(G:Store):Pre M (S++G):=⟨by rw[Yj];exact Nat.le_add_right_of_le p.len,λa ha=>by rw[Yx (Y7 ha p.len)];exact p.pre a ha⟩
theorem Pre.set(p:Pre M S)(h:M.length<=n)(o:MO):Pre M (S.set n o):=⟨by rw[yI];exact p.len,λa ha=>by rw[Yu (by exactλz=>by omega)];exact p.pre a ha⟩
theorem Zmg(p:Pre M S)(h:below M.length d=true):dh M d S= .ok d M:=by
 have ht:S.take M.length=M:=by
  apply yF;intro a;by_cases ha:a<M.length
  .rw[v_ ha];exact p.pre a ha
  .rw[Bq (by rw[yG];omega),Bq (ir ha)]
 unfold dh;rw[h,ht,decide_eq_true rfl];rfl
theorem Zmi{i:Nat}(hv:Zb i env S= .ok (.ref n) S)(h:S[n]?=Ya (.lst xs)):dI (Zb i) env S= .ok ⟨xs,Ya n⟩ S:=by unfold dI;rw[hv];simp only[R3.bind,h]
theorem ZtO{c f:List Nat}:Ik c f (.ref S.length) (S++[.ins (0::c) [(f,.int i)]])= .ok (.int i) (S++[.ins (0::c) [(f,.int i)]]):=by unfold Ik;simp
theorem ZlD(H:Wh r)(Af:∀t∈r.ts,t.fit)(hd:6<mH 0 (iJ 0 r.ts))(hn:M[n]?=Ya (.lst (r.words.map D.str))):vo [.ref n] M= .ok .non M:=by have hs:=ZkS Af (Yi (yM _ _) (Yi H.le (by decide))) hd (n:=M.length+2) (M:=M++vA r) (by rw[u0];rfl);refine Rt.pure (G:=vA r) (env:=[Ya (.ref n),Yk,Yk]) ?_ rfl;rw[Zho H hn hs];exact sY ((d7 (M':=M++vA r) (wX (Zh rfl rfl rfl))).trans (dF rfl))
theorem ZiU{ws:List (List Nat)}(hk:cN h gB≠Yk)(hl:60<=ws.length)(hn:M[n]?=Ya (.lst ((h::ws).map D.str))):vo [.ref n] M= .ok .non M:=by
 refine Rt.pure (G:=[]) (env:=[Ya (.ref n),Yk,Yk]) ?_ rfl;rw[gQ];unfold Ip;have e0:e2 Zm (Zb 0) (eC (.int 0)) [Ya (.ref n),Yk,Yk] M= .ok (.str h) M:=Zh rfl rfl (jr hn (gU _ 0));have q1:e1 (Ih gB) (e2 Zm (Zb 0) (eC (.int 0))) [Ya (.ref n),Yk,Yk] M= .ok (.bl false) M:=dU e0 (by
  show R3.ok (D.bl (!(cN h gB).isSome)) M=_;cases e:cN h gB with
  |none=>exact absurd e hk|some _=>rfl)
 have q2:e2 dY (aJ bG (Za (Zb 0) (Ze))) (rN) [Ya (.ref n),Yk,Yk] M= .ok (.bl true) M:=Zh (dm rfl (oO hn)) (g:=rN) (b:=.int 60) rfl (by rw[pO,decide_eq_true (by rw[Ys,Yn];omega)]);exact sY ((d7 ((ni q1).trans q2)).trans (dF rfl))
theorem Zj0{a:Nat}{rest:List D}(hn:M[n]?=Ya (.lst (.tup [.int i,.ref a]::rest)))(hi:i.natAbs.log2<1000)(ha:a<M.length)(hb:∀S:Store,S[a]?=M[a]?->vo [.ref a] S= .ok .non S):lE M i (nF [.ref n,.int z] M):=by
 let S0:=M++nObj M.length fU []++[MO.lst [.ref M.length]]
 have hnl:=(Yd.mp hn).1;have I:=Wl M;have m1:=Wj (env:=[Ya (.ref n),Ya (.int z),Yk,Yk,Yk,Yk]) (S:=M) (e:=bD (Za (eC (.str fU)) (Ze))) (h:=fU) (hd:=[]) (iI rfl rfl);have h0:fD (aA 2 (aV (Za (xg gO vm (Za (bD (Za (eC (.str fU)) (Ze))) (Ze))) (Ze)))) [Ya (.ref n),Ya (.int z),Yk,Yk,Yk,Yk] M= .nx [Ya (.ref n),Ya (.int z),Ya (.ref (M.length+3)),Yk,Yk,Yk] S0:=qm (Zo (d:=.ref (M.length+3)) (M':=S0) ((fY (Zr m1 rfl) rfl).trans (by simp[S0])));have hn0:S0[n]?=Ya (.lst (.tup [.int i,.ref a]::rest)):=(I.pre n hnl).trans hn;have hi0:dI (Zb 0) [Ya (.ref n),Ya (.int z),Ya (.ref (M.length+3)),Yk,Yk,Yk] S0= .ok ⟨.tup [.int i,.ref a]::rest,Ya n⟩ S0:=Zmi rfl hn0;refine⟨S0,Ob (env:=[Ya (.ref n),Ya (.int z),Yk,Yk,Yk,Yk]) ?_,I.len,I.pre⟩;unfold Dp;refine(Zi h0).trans (Jg ((Oc hi0).trans ?_));rw[pU,if_pos (show locked ⟨.tup [.int i,.ref a]::rest,Ya n⟩ S0=true from decide_eq_true hn0)];simp only[jH,Hq,Ho,n8,n_];have hx:xV [Ya (.ref n),Ya (.int z),Ya (.ref (M.length+3)),Ya (.int i),Ya (.ref a),Yk] S0= .exc ⟨rC,.ref S0.length⟩ (S0++[.ins (0::rC) [(Eu,.int i)]]):=(Zi (qm (Zo (di rfl (hb S0 (I.pre a ha)))))).trans (Jg ((d7 (M':=S0) (xT (wX (Zh rfl rfl rfl)))).trans (Wk rfl hi)));show(match xV _ S0 with| .nx e M'=>_| .ct e M'=>_| .bk e M'=>_|o=>o)=_;rw[hx]
theorem ZsO{ws:List (List Nat)}(hLs:∀vs,Ya vs∈Ya ws::Ls->rD vs)(hn:Ls.length<800)(ht:(glue [10] ((Ya ws::Ls).map gD)).length<=900000)(hh:∃h r,ws=h::r/\h≠[116,97,107,101])(hb:∀(S:Store) (a:Nat),S[a]?=Ya (.lst (ws.map D.str))->vo [.ref a] S= .ok .non S):lE M 1 (nG [.str (glue [10] ((Ya ws::Ls).map gD))] M):=by obtain⟨go,nO,hobj,hc⟩:=Zoi (M:=M) (Ls:=Ya ws::Ls) (λz=>nomatch z) hLs (by rw[Yn];omega) ht (λq L e=>by cases e;exact hh);have h2:(mO M (Ya ws::Ls))[M.length+2]?=Ya (.lst (ws.map D.str)):=(hobj 0).trans rfl;refine Zmm go hc (Zj0 (a:=M.length+2) (i:=1) nO (by decide) (Yd.mp h2).1 λS hS=>hb S _ (hS.trans h2))
theorem Zte{M M' M2:Store}{ys:List D}{o t:E3}(ho:o env M= .ok (.ref n) M')(hM:M'[n]?=Ya (.lst ys))(ht:t env M'= .ok d M2)(hM':M2[n]?=Ya (.lst xs))(hl:xs.length<SZ):
  bj (aQ bI cQ o (Za t (Ze))) env M= .nx env (M2.set n (.lst (xs++[d]))):=by
 have e:aQ bI cQ o (Za t (Ze)) env M= .ok .non (M2.set n (.lst (xs++[d]))):=by simp only[aQ,ho,R3.bind,zm,hM,Za,ht,Ze,LK,hM',if_pos hl,if_true]
 rw[bj,e]
theorem ZtT{l:List (List Nat)}(h:M[n]?=Ya (.lst (l.map D.str)))(x:List Nat):qN (.str x) (.ref n) M= .ok (.bl (decide (x∈l))) M:=by
 have he:∀l:List (List Nat),(l.map D.str).any (λy=>dH y (.str x))=decide (x∈l)/\(l.map D.str).all cV=true:=by
  intro l
  induction l with
  |nil=>exact⟨rfl,rfl⟩|cons y l ih=>
   refine⟨?_,by rw[Yw,iM,ih.2];rfl⟩;rw[Yw,j9,ih.1,Tw];by_cases h:y=x
   .subst h;simp
   .have h':x≠y:=λe=>h e.symm;simp[h,h']
 have hf:(cV (.str x)&&(l.map D.str).all cV)=true:=by rw[(he l).2];rfl
 rw[Zmw,h];simp only[hf,if_true,(he l).1]
theorem Wz{a b:List Nat}:fj (.str a) (.str b) M= .ok (.bl (!decide (a=b))) M:=by simp only[fj,wQ]
noncomputable abbrev nT:List (List Nat):=[[97,100,100],[115,117,98],[109,111,114,101]]
noncomputable abbrev xX:S3:=(aK (e2 qN (Zb 2) vD) (Zq (aA 3 (aQ bI kW (Zb 1) (Ze))) (bj (aQ bI cQ (Zb 1) (Za (aJ Cv (Za (Zb 3) (Za (e2 Zt (aQ bI kW (Zb 1) (Ze)) (eC (.int 1))) (Ze)))) (Ze))))) (aK (e2 fj (Zb 2) (eC (.str [99,101,108,108]))) (bj (aQ bI cQ (Zb 1) (Za (eC (.int 1)) (Ze)))) (aZ)))
structure i_(M S:Store)(st:List Nat):Prop where
 pre:∀a,a<M.length->S[a]?=M[a]?
 hq:S[M.length]?=Ya (.lst (st.reverse.map λ(e:Nat)=>D.int (e:Int)))
variable{st:List Nat}
theorem i_.app(h:i_ M S st)(G:Store)(hl:M.length<=S.length):i_ M (S++G) st:=⟨λa ha=>(Yx (Y7 ha hl)).trans (h.pre a ha),dR h.hq G⟩
theorem i_.lt(h:i_ M S st):M.length<S.length:=(Yd.mp h.hq).1
theorem i_.put(h:i_ M S st)(st':List Nat):i_ M (S.set M.length (.lst (st'.reverse.map λ(e:Nat)=>D.int (e:Int)))) st':=⟨λa ha=>(Yu (λz=>by omega)).trans (h.pre a ha),Y4 h.lt⟩
theorem Ol(e:Nat)(st:List Nat):(e::st).reverse.map (λ(e:Nat)=>D.int (e:Int))=st.reverse.map (λ(e:Nat)=>D.int (e:Int))++[.int (e:Int)]:=by simp
variable{x3:Option D}
section
variable {M:Store} {v0:Option D}
theorem WD{x:List Nat}:e2 qN (Zb 2) vD [v0,Ya (.ref M.length),Ya (.str x),x3] S= .ok (.bl (decide (x∈nT))) (S++[.lst (nT.map D.str)]):=Zh rfl (fY (ds:=nT.map D.str) rfl rfl) (ZtT (bY _ _ _) x)
theorem Zo0{x:List Nat}(I:i_ M S st)(hl:st.length<=1000)(h1:x∉nT)(h2:x≠gY):∃S',xX [v0,Ya (.ref M.length),Ya (.str x),x3] S= .nx [v0,Ya (.ref M.length),Ya (.str x),x3] S'/\i_ M S' (1::st):=by have I1:=I.app [.lst (nT.map D.str)] (wC I.lt);have a1:=o_ (env:=[v0,Ya (.ref M.length),Ya (.str x),x3]) (M:=S++[.lst (nT.map D.str)]) (M':=S++[.lst (nT.map D.str)]) (o:=Zb 1) (t:=eC (.int 1)) (M2:=S++[.lst (nT.map D.str)]) rfl I1.hq rfl I1.hq (by rw[Ys,yE];exact pH hl (by decide));have e1:st.reverse.map (λ(e:Nat)=>D.int (e:Int))++[.int 1]=(1::st).reverse.map (λ(e:Nat)=>D.int (e:Int)):=(Ol 1 st).symm;rw[e1]at a1;exact⟨_,(jq (WD.trans (by rw[decide_eq_false h1]))).trans ((d7 (M':=S++[.lst (nT.map D.str)]) (Zh rfl rfl (Wz.trans (by rw[decide_eq_false h2];rfl)))).trans a1),I1.put _⟩
theorem Zwq(I:i_ M S st):∃S',xX [v0,Ya (.ref M.length),Ya (.str gY),x3] S= .nx [v0,Ya (.ref M.length),Ya (.str gY),x3] S'/\i_ M S' st:=⟨_,(jq (WD.trans (by rw[decide_eq_false (by decide)]))).trans (fC (M':=S++[.lst (nT.map D.str)]) (Zh rfl rfl (Wz.trans (by rw[decide_eq_true rfl];rfl)))),I.app _ (wC I.lt)⟩
theorem Zw5{x:List Nat}{a b:Nat}(I:i_ M S (a::b::st))(hl:st.length<=1000)(h1:x∈nT):∃S' y3,xX [v0,Ya (.ref M.length),Ya (.str x),x3] S= .nx [v0,Ya (.ref M.length),Ya (.str x),y3] S'/\i_ M S' (max a (b+1)::st):=by
 let S1:=S++[MO.lst (nT.map D.str)]
 have I1:i_ M S1 (a::b::st):=I.app _ (wC I.lt);have I2:=I1.put (b::st);have I3:=I2.put st;have q1:=I1.hq;rw[Ol]at q1;have q2:(S1.set M.length (.lst ((b::st).reverse.map λ(e:Nat)=>D.int (e:Int))))[M.length]?=Ya (.lst (st.reverse.map (λ(e:Nat)=>D.int (e:Int))++[.int (b:Int)])):=I2.hq.trans (by rw[Ol])
 let S2:=S1.set M.length (.lst ((b::st).reverse.map λ(e:Nat)=>D.int (e:Int)))
 let S3:=S2.set M.length (.lst (st.reverse.map λ(e:Nat)=>D.int (e:Int)))
 have p1:aQ bI kW (Zb 1) (Ze) [v0,Ya (.ref M.length),Ya (.str x),x3] S1= .ok (.int (a:Int)) S2:=N8 rfl q1;have p2:aQ bI kW (Zb 1) (Ze) [v0,Ya (.ref M.length),Ya (.str x),Ya (.int (a:Int))] S2= .ok (.int (b:Int)) S3:=N8 rfl q2;have mx:aJ Cv (Za (Zb 3) (Za (e2 Zt (aQ bI kW (Zb 1) (Ze)) (eC (.int 1))) (Ze))) [v0,Ya (.ref M.length),Ya (.str x),Ya (.int (a:Int))] S2= .ok (.int ((max a (b+1):Nat):Int)) S3:=by have hg:Za (Zb 3) (Za (e2 Zt (aQ bI kW (Zb 1) (Ze)) (eC (.int 1))) (Ze)) [v0,Ya (.ref M.length),Ya (.str x),Ya (.int (a:Int))] S2= .ok [.int (a:Int),.int ((b:Int)+1)] S3:=Zr rfl (Zr (Zh p2 rfl (Cg _ _)) rfl);show(Za _ _ _ _).bind _=_;rw[hg,R3.Xb,Zrt];congr 2;split <;>omega
 have a1:=Zte (env:=[v0,Ya (.ref M.length),Ya (.str x),Ya (.int (a:Int))]) (M:=S2) (M':=S2) (o:=Zb 1) (M2:=S3) rfl I2.hq mx I3.hq (by rw[Ys,yE];exact pH hl (by decide));rw[←Ol]at a1;exact⟨_,_,(d7 (WD.trans (by rw[decide_eq_true h1]))).trans ((Zi (Zo p1)).trans a1),I3.put _⟩
variable {n:Nat} {ds:List D}
theorem Zs6(hn:M[n]?=Ya (.lst ds)):∀(t:Sm),t.fit->∀(rest:List D) (S:Store) (st:List Nat) (x2 x3:Option D),i_ M S st->st.length+t.flat.length<=900 ->
  ∃S' y2 y3,oW [(n,ds)] (b_ 2) xX ((bA t.flat).reverse++rest) [v0,Ya (.ref M.length),x2,x3] S=oW [(n,ds)] (b_ 2) xX rest [v0,Ya (.ref M.length),y2,y3] S'/\i_ M S' (t.dp::st):=by
 have hnl:=(Yd.mp hn).1;have lk:∀{S:Store} {st:List Nat},i_ M S st->d_ [(n,ds)] S=true:=λI=>by simp only[d_,iM,Gg,Bv];exact decide_eq_true ((I.pre n hnl).trans hn)
 have one:∀{S S':Store} {st:List Nat} {x:List Nat} {x2 x3 y3:Option D} (rest:List D),i_ M S st->xX [v0,Ya (.ref M.length),Ya (.str x),x3] S= .nx [v0,Ya (.ref M.length),Ya (.str x),y3] S'->oW [(n,ds)] (b_ 2) xX (.str x::rest) [v0,Ya (.ref M.length),x2,x3] S=oW [(n,ds)] (b_ 2) xX rest [v0,Ya (.ref M.length),Ya (.str x),y3] S':=λrest I h=>by rw[T_,if_pos (lk I)];simp only[b_,n8,n_];rw[h]
 have Es:∀{x:List Nat},mK x=false->x∉nT/\x≠gY:=λ{x} h=>by
  refine⟨λz=>?_,λz=>?_⟩
  .have:mK x=true:=by
    simp only[Yv,ou,or_false]at z;rcases z with rfl|rfl|rfl <;>rfl
   rw[h]at this;cases this
  .rw[z]at h;cases h
 intro t
 induction t with
 |num i=>intro hf rest S st x2 x3 I hl;have q:=Es (Zmq i);obtain⟨S',e,I'⟩:=Zo0 (v0:=v0) (x3:=x3) I (by omega) q.1 q.2;exact⟨S',_,_,one rest I e,I'⟩|fJ x=>intro hf rest S st x2 x3 I hl;have q:=Es (dW.Es hf);obtain⟨S',e,I'⟩:=Zo0 (v0:=v0) (x3:=x3) I (by omega) q.1 q.2;exact⟨S',_,_,one rest I e,I'⟩|gW a ih=>
  intro hf rest S st x2 x3 I hl;have ef:(bA (Sm.gW a).flat).reverse++rest=(bA a.flat).reverse++(.str gY::rest):=by simp[bA,Sm.flat,aX]
  have el:(Sm.gW a).flat.length=a.flat.length+1:=rfl;obtain⟨S1,y2,y3,e1,I1⟩:=ih hf (.str gY::rest) S st x2 x3 I (by omega);obtain⟨S',e,I'⟩:=Zwq (v0:=v0) (x3:=y3) I1;exact⟨S',_,_,by rw[ef,e1];exact one rest I1 e,I'⟩
 | two o a b iha ihb=>
  intro hf rest S st x2 x3 I hl;have ef:(bA (Sm.two o a b).flat).reverse++rest=(bA b.flat).reverse++((bA a.flat).reverse++(.str (iY o)::rest)):=by simp[bA,Sm.flat,aX]
  have el:(Sm.two o a b).flat.length=a.flat.length+b.flat.length+1:=by simp[Sm.flat]
  have ea:=a.Az;have eb:=b.Az;have la:1<=a.flat.length:=by rw[ea,Yn];exact yM _ _
  have lb:1<=b.flat.length:=by rw[eb,Yn];exact yM _ _
  obtain⟨S1,y2,y3,e1,I1⟩:=ihb hf.2 ((bA a.flat).reverse++(.str (iY o)::rest)) S st x2 x3 I (by omega);obtain⟨S2,z2,z3,e2,I2⟩:=iha hf.1 (.str (iY o)::rest) S1 (b.dp::st) y2 y3 I1 (by rw[Yn];omega);have ho:iY o∈nT:=by
   match o with
   |0=>decide|1=>decide|_+2=>exact Yg _ (Yg _ Yl)
  obtain⟨S',w3,e,I'⟩:=Zw5 (v0:=v0) (x3:=z3) I2 (by omega) ho;exact⟨S',_,_,by rw[ef,e1,e2];exact one rest I2 e,I'⟩
end
theorem Zon{t:Sm}(hf:t.fit)(hl:t.flat.length<=800)(hn:M[n]?=Ya (.lst (bA t.flat))):tX [.ref n] M= .ok (.int (t.dp:Int)) M:=by
 let M1:=M++[MO.lst []]
 have I0:i_ M M1 []:=⟨λa ha=>Yx ha,bY _ _ _⟩;obtain⟨S',y2,y3,e,I⟩:=Zs6 (v0:=Ya (.ref n)) hn t hf [] M1 [] Yk Yk I0 (by simp;omega);have hnl:=(Yd.mp hn).1;have lk:d_ [(n,bA t.flat)] S'=true:=by simp only[d_,iM,Gg,Bv];exact decide_eq_true ((I.pre n hnl).trans hn)
 rw[gQ,T9,if_pos lk]at e;have hi:Vq (Zb 0) [Ya (.ref n),Ya (.ref M.length),Yk,Yk] M1= .ok ⟨(bA t.flat).reverse,[(n,bA t.flat)]⟩ M1:=by show(R3.ok (D.ref n) M1).bind _=_;simp only[R3.bind,M1,dR hn]
 refine(kY (M':=S') (d:=.int (t.dp:Int)) (env:=[Ya (.ref n),Yk,Yk,Yk]) ?_).trans (Zmg ⟨wC I.lt,I.pre⟩ rfl);unfold VP;refine(Zi (Zo (fY rfl rfl))).trans ((Zi (env':=[Ya (.ref n),Ya (.ref M.length),y2,y3]) (M':=S') ?_).trans (dF (Zh rfl (dU rfl (Ci 1)) (jr I.hq (by rw[ZkE];rfl)))))
 .show Hz _ _ _ _ _=_;unfold Hz;rw[hi];exact e
noncomputable abbrev wdB:S3:=(aK (e2 jG (e2 Zm (Zb 2) (e1 jn (eC (.int 1)))) (eC (.str [48,49,50,51,52,53,54,55,56,57]))) (bj (aQ bI cQ (Zb 1) (Za (aJ nj (Za (Zb 2) (Ze))) (Ze)))) (bj (aQ bI cQ (Zb 1) (Za (Zb 2) (Ze)))))
theorem Om{x:List Nat}{P:Nat->Prop}(h1:1<=x.length)(h:∀c∈x,P c):∃c,x.getLast?=Ya c/\P c:=by
 cases e:x.getLast? with
 |none=>rw[List.getLast?_eq_none_iff]at e;rw[e]at h1;exact absurd h1 (by decide)|some c=>exact⟨c,rfl,h c (ZJ e)⟩
theorem ZpB(i:Int):∃c,(fO i).getLast?=Ya c/\48<=c/\c<=57:=by
 cases i with
 |ofNat n=>rw[show fO (Int.ofNat n)=b8 n from IW n];exact Om (by have:=Ac n;cases h:b8 n with|nil=>exact absurd h this|cons a r=>simp) (t6 n)
 |negSucc n=>rw[I_];obtain⟨c,e,h⟩:=Om (P:=λc=>48<=c/\c<=57) (x:=b8 (n+1)) (by have:=Ac (n+1);cases h:b8 (n+1)with|nil=>exact absurd h this|cons a r=>simp) (t6 (n+1));refine⟨c,?_,h⟩;rw[List.getLast?_cons,e];rfl
theorem Zvj(h:nJ w):(∃i,w= .int i/\i.natAbs<10^60/\∃c,(aX w).getLast?=Ya c/\c∈o9)\/((∃x,w= .str x)/\∃c,(aX w).getLast?=Ya c/\c∉o9):=by
 have nf:∀{c:Nat},97<=c->c∉o9:=λh z=>by simp only[Yv,ou,or_false]at z;omega
 cases h with
 |int i hi=>obtain⟨c,e,h⟩:=ZpB i;exact .inl ⟨i,rfl,hi,c,e,Zsr h⟩|fJ x hx=>obtain⟨c,e,h⟩:=Om (P:=λc=>97<=c) hx.pos (λc hc=>(hx.low c hc).1);exact .inr ⟨⟨x,rfl⟩,c,e,nf h⟩|op x hx=>obtain⟨c,e,h⟩:=Om (P:=λc=>97<=c) (Je hx).1 (Je hx).2.2;exact .inr ⟨⟨x,rfl⟩,c,e,nf h⟩
variable{acc:List D}{v0:Option D}
theorem ZtB(h:nJ w)(hl:acc.length<=1000):wdB [v0,Ya (.ref M.length),Ya (.str (aX w))] (M++[.lst acc])= .nx [v0,Ya (.ref M.length),Ya (.str (aX w))] (M++[.lst (acc++[w])]):=by
 have hz:(aX w).length<=SZ:=Yi (Wt h) (by decide);have gt:(M++[MO.lst acc])[M.length]?=Ya (.lst acc):=bY _ _ _;have lt:acc.length<SZ:=pH hl (by decide);have cond:∀{c:Nat},(aX w).getLast?=Ya c->e2 jG (e2 Zm (Zb 2) (e1 jn (eC (.int 1)))) (eC (.str [48,49,50,51,52,53,54,55,56,57])) [v0,Ya (.ref M.length),Ya (.str (aX w))] (M++[.lst acc])= .ok (.bl (decide (c∈o9))) (M++[.lst acc]):=λe=>Zh (Zh rfl (dU rfl (Ci 1)) (by rw[G7,ZkE,e];exact if_pos hz)) rfl (in_str _ _ _);have fin:∀d:D,(M++[MO.lst acc]).set M.length (.lst (acc++[d]))=M++[.lst (acc++[d])]:=λd=>by simp
 rcases Zvj h with⟨i,rfl,hi,c,e,hc⟩|⟨⟨x,rfl⟩,c,e,hc⟩
 .have r:=NT i hi;have hb:aJ nj (Za (Zb 2) (Ze)) [v0,Ya (.ref M.length),Ya (.str (aX (.int i)))] (M++[.lst acc])= .ok (.int i) (M++[.lst acc]):=dm rfl (by
   show nj [.str (fO i)] _=_;simp only[nj,r.1];exact if_pos (Yi r.2.1 (by decide)))
  rw[←fin];exact(d7 ((cond e).trans (by rw[decide_eq_true hc]))).trans (o_ rfl gt hb gt lt)
 .rw[←fin];exact(jq ((cond e).trans (by rw[decide_eq_false hc]))).trans (o_ rfl gt rfl gt lt)
theorem Zof{M:Store}{it:fW}(hit:∀acc,locked it (M++[.lst acc])=true){v0:Option D}:∀(ws:List D) (acc:List D) (x:Option D),(∀w∈ws,nJ w)->acc.length+ws.length<=1000->∃y,dg it (b_ 2) wdB (bA ws) [v0,Ya (.ref M.length),x] (M++[.lst acc])= .nx [v0,Ya (.ref M.length),y] (M++[.lst (acc++ws)])
 |[],acc,x,_,_=>⟨x,by show dg _ _ _ [] _ _=_;rw[pR,if_pos (hit acc),gQ]⟩|w::ws,acc,x,h,hl=>by rw[Yn]at hl;obtain⟨y,e⟩:=Zof hit ws (acc++[w]) (Ya (.str (aX w))) (λv hv=>h v (Yg _ hv)) (by rw[Yj,Y0];omega) (v0:=v0);refine⟨y,?_⟩;show dg _ _ _ (.str (aX w)::bA ws) _ _=_;rw[pU,if_pos (hit acc)];simp only[b_,n8,n_];rw[ZtB (h w Yl) (by omega)];show dg _ _ _ _ _ _=_;rw[e,mW];rfl
theorem ZoV{t:Sm}(hf:t.fit)(hl:t.flat.length<=800)(hn:M[n]?=Ya (.lst (bA t.flat))):o8 [.ref n] M= .ok (.tup t.flat) M:=by obtain⟨y,e⟩:=Zof (M:=M) (it:=⟨bA t.flat,Ya n⟩) (λacc=>decide_eq_true (dR hn _)) (v0:=Ya (.ref n)) t.flat [] Yk (Jd t hf) (by simp;omega);refine Rt.pure (G:=[.lst t.flat]) (env:=[Ya (.ref n),Yk,Yk]) ?_ (Wg (Ae t));unfold VR;exact(Zi (Zo (fY rfl rfl))).trans ((Zi ((wW (Zmi rfl (dR hn _))).trans e)).trans (dF (dm rfl (Hu (bY _ _ _)))))
noncomputable def h_:Nat->D->Bool
 |_,.int _=>true|_,.str _=>true|_,.bl _=>true|n+1,.tup ds=>decide (ds.length<=1000)&&ds.all (h_ n)
 |_,_=>false
theorem ZmA:∀(n:Nat) (d:D) (M:Store),h_ n d=true->qi (n+1) [d,d] M= .ok (.bl true) M:=by
 intro n
 induction n with
 |zero=>
  intro d M h;cases d with
  |str x=>simp[qi,tW,Zq,aA,aR,aK,aZ,bj,bF,dh,below,bT,l_]|int i=>simp[qi,tW,Zq,aA,aR,aK,aZ,bj,bF,dh,below,bT,l_]|bl b=>simp[qi,tW,Zq,aA,aR,aK,aZ,bj,bF,dh,below,bT,l_]|_=>simp[h_]at h
 | succ n ih=>
  intro d M h;cases d with
  |str x=>simp[qi,tW,Zq,aA,aR,aK,aZ,bj,bF,dh,below,bT,l_]|int i=>simp[qi,tW,Zq,aA,aR,aK,aZ,bj,bF,dh,below,bT,l_]|bl b=>simp[qi,tW,Zq,aA,aR,aK,aZ,bj,bF,dh,below,bT,l_]|tup ds=>
   simp only[h_,Y3,decide_eq_true_eq,ig]at h;obtain⟨hl,hd⟩:=h;show bF 2 2 (tW (qi (n+1))) [.tup ds,.tup ds] M=_;generalize qi (n+1)=F at ih;have lc:=wY (α:=Nat) (enc:=λk=>D.int (0+(k:Int))) (h:=λ_=>D.bl true) (own:=1) (i:=2) (it:=wU (aJ bG (Za (Zb 1) (Ze)))) (elt:=Zx F (Za (e2 Zm (Zb 0) (Zb 2)) (Za (e2 Zm (Zb 1) (Zb 2)) (Ze)))) (env:=[Ya (.tup ds),Ya (.tup ds)]) (M:=M) (M1:=M) (lock:=Yk) (as:=jj ds.length)
    (by have:(ds.length:Int)<=1000000/\ -1000000<=(ds.length:Int):=⟨by omega,by omega⟩;simp[this,jJ]) (λ_ h=>by cases h)
    (λk hk M=>by
     have hk':k<ds.length:=by simpa using hk
     have hg:ds[k]?=Ya ds[k]:=by simp[hk']
     have:=ih ds[k] M (hd _ (wg hk'));have gk:gw ds (0+(k:Int))=Ya ds[k]:=by rw[Int.zero_add,gU,hg]
     simp only[Zx,Za,e2,Zb,Ze,yH,jE,Ym,List.set,Ka,J_,R3.bind,TY,T3,G7,T4,gk,this]) (by simp;omega)
   refine Rt.pure (G:=[.lst ((jj ds.length).map λ_=>D.bl true)]) (env:=[Ya (.tup ds),Ya (.tup ds)]) ?_ rfl;unfold tW;refine sY ((d7 (M':=M) (by exact rfl)).trans ((Zi (fC (M':=M) (by exact rfl))).trans (dF ((Cu (M1:=M) (by simp)).trans (dm lc ?_)))));simp[allB,Cq,zj]
  |_=>simp[h_]at h
theorem Zh8:∀(n:Nat) (d:D),h_ n d=true->h_ (n+1) d=true
 |0,.int _,_=>rfl|0,.str _,_=>rfl|0,.bl _,_=>rfl|n+1,.int _,_=>rfl
 |n+1,.str _,_=>rfl|n+1,.bl _,_=>rfl|n+1,.tup ds,h=>by have h:(decide (ds.length<=1000)&&ds.all (h_ n))=true:=h;show(decide (ds.length<=1000)&&ds.all (h_ (n+1)))=true;rw[Y3,ig]at h ⊢;exact⟨h.1,λx hx=>Zh8 n x (h.2 x hx)⟩
theorem Zp6(h:n<=m)(p:h_ n d=true):h_ m d=true:=by
 induction h with
 |refl=>exact p|step _ ih=>exact Zh8 _ _ ih
theorem Jl(l:ds.length<=1000)(h:∀x∈ds,h_ n x=true):h_ (n+1) (.tup ds)=true:=by show(decide (ds.length<=1000)&&ds.all (h_ n))=true;rw[Y3,ig];exact⟨decide_eq_true l,h⟩
theorem Ey(n:Nat)(x:List Nat):h_ n (.str x)=true:=by cases n<;>rfl
theorem ZiM{m:Nat}:∀{l:List D},(∀x∈l,below m x=true)->bT m l=true
 |[],_=>rfl|d::l,h=>by show(below m d&&bT m l)=true;rw[h d Yl,ZiM λx hx=>h x (Yg _ hx)];rfl
theorem Zic(m:Nat):∀(n:Nat) (d:D),h_ n d=true->below m d=true
 |0,.int _,_=>rfl|0,.str _,_=>rfl|0,.bl _,_=>rfl|n+1,.int _,_=>rfl
 |n+1,.str _,_=>rfl|n+1,.bl _,_=>rfl|n+1,.tup ds,h=>by have h:(decide (ds.length<=1000)&&ds.all (h_ n))=true:=h;rw[Y3,ig]at h;show bT m ds=true;exact ZiM λx hx=>Zic m n x (h.2 x hx)
theorem Zt3(h:rn w):h_ n w=true:=by cases h<;>cases n<;>rfl
noncomputable def Rw.vP(r:Rw):List D:=.str r.h::(r.xs.map D.str++aN r.ts)
noncomputable abbrev headD(w:List Nat)(t:Sm):List D:=.str w::t.flat
def jW(F:F3)(d:D)(h:List (List D)):Prop:=∀(M:Store),FL F [d] M (h.map D.tup)
abbrev Ez(F:F3)(ds:List D)(R:List (List D)):Prop:=jW F (.tup ds) R
theorem WK{a b:List Nat}(h:a=b):aY (.str a) (.str b) M= .ok (.bl true) M:=nR.trans (by rw[decide_eq_true h])
theorem vG{a b:List Nat}(h:¬a=b):aY (.str a) (.str b) M= .ok (.bl false) M:=nR.trans (by rw[decide_eq_false h])
theorem Am{x y:List D}(h:x.length+y.length<=1000)(M:Store):Zt (.tup x) (.tup y) M= .ok (.tup (x++y)) M:=by rw[Zmk];exact if_pos (Yi h (by decide))
theorem Zu5(rec:Nat->F3){x:List Nat}{t:Sm}(hl:t.flat.length<=60):jW (bF 1 3 (qe rec)) (.tup [.str gM,.str x,.tup t.flat]) [.str gM:: .str x::t.flat]:=by intro M;refine FL.of (env:=[Ya (.tup [.str gM,.str x,.tup t.flat]),Yk,Yk]) ?_ rfl rfl;unfold qe;have hsl:c7 (Zb 0) (dZ) (cW (e1 jn (eC (.int 1)))) [Ya (.tup [.str gM,.str x,.tup t.flat]),Yk,Yk] M= .ok (.tup [.str gM,.str x]) M:=rfl;exact BL.skip (Zh rfl rfl (vG (by decide))) (BL.skip (Zh rfl rfl (vG (by decide))) (BL.skip (Zh rfl rfl (vG (by decide))) (BL.ret (LF.lst (Zr (Zh hsl (Zh rfl rfl rfl) (Am (x:=[.str gM,.str x]) (y:=t.flat) (by simp;omega) M)) rfl) rfl) (rZ _))))
theorem Zus(rec:Nat->F3){t:Sm}(hl:t.flat.length<=60):jW (bF 1 3 (qe rec)) (.tup [.str nP,.tup t.flat]) [.str nP::t.flat]:=by intro M;refine FL.of (env:=[Ya (.tup [.str nP,.tup t.flat]),Yk,Yk]) ?_ rfl rfl;unfold qe;have hsl:c7 (Zb 0) (dZ) (cW (e1 jn (eC (.int 1)))) [Ya (.tup [.str nP,.tup t.flat]),Yk,Yk] M= .ok (.tup [.str nP]) M:=rfl;exact BL.skip (Zh rfl rfl (vG (by decide))) (BL.skip (Zh rfl rfl (vG (by decide))) (BL.skip (Zh rfl rfl (vG (by decide))) (BL.ret (LF.lst (Zr (Zh hsl (Zh rfl rfl rfl) (Am (x:=[.str nP]) (y:=t.flat) (by simp;omega) M)) rfl) rfl) (rZ _))))
theorem ZwS(rec:Nat->F3){t u:Sm}(hl:t.flat.length<=60)(hl2:u.flat.length<=60):jW (bF 1 3 (qe rec)) (.tup [.str lC,.tup t.flat,.tup u.flat]) [.str lC::(t.flat++u.flat)]:=by intro M;refine FL.of (env:=[Ya (.tup [.str lC,.tup t.flat,.tup u.flat]),Yk,Yk]) ?_ rfl rfl;unfold qe;exact BL.skip (Zh rfl rfl (vG (by decide))) (BL.skip (Zh rfl rfl (vG (by decide))) (BL.take (Zh rfl rfl (WK rfl)) (BL.ret (LF.lst (Zr (Zh (Zh (iI rfl rfl) rfl (Am (x:=[.str lC]) (y:=t.flat) (by simp;omega) M)) rfl (Am (x:=.str lC::t.flat) (y:=u.flat) (by simp;omega) M)) rfl) rfl) (rZ _))))
theorem Zv5{rec:Nat->F3}{t:Sm}{a b:List D}{A B:List (List D)}(hl:t.flat.length<=60)(ha:Ez (rec 0) a A)(hb:Ez (rec 0) b B)(hw:A.length+B.length<=700000):jW (bF 1 3 (qe rec)) (.tup [.str gZ,.tup t.flat,.tup a,.tup b]) (headD gZ t::(A++[.str jN]::(B++[[.str g_]]))):=by
 intro M;refine FL.of (env:=[Ya (.tup [.str gZ,.tup t.flat,.tup a,.tup b]),Yk,Yk]) ?_ rfl rfl;unfold qe;refine BL.take (Zh rfl rfl (WK rfl)) (BL.set (LF.call (ds:=[.tup a]) rfl (ha M)).le λn1 S1 p1 g1=>BL.set (LF.call (ds:=[.tup b]) rfl (hb S1)).le λn2 S2 p2 g2=>?_);have h:=LE.add (LE.add (LE.add (LE.add (env:=[Ya (.tup [.str gZ,.tup t.flat,.tup a,.tup b]),Ya (.ref n1),Ya (.ref n2)]) (M:=S2) (LF.lst (ds:=[.tup (.str gZ::t.flat)]) (g:=Za (e2 Zt (bD (Za (eC (.str [119,104,101,110])) (Ze))) (e2 Zm (Zb 0) (eC (.int 1)))) (Ze)) (Zr (Zh (iI rfl rfl) rfl (Am (x:=[.str gZ]) (y:=t.flat) (by simp;omega) S2)) rfl) rfl).le (λT pT=>LE.var (i:=1) rfl (iZ (p2.trans pT) g1)) (by simp;omega)).le (λT pT=>(LF.lst (ds:=[.tup [.str [101,108,115,101]]]) (g:=Za (bD (Za (eC (.str [101,108,115,101])) (Ze))) (Ze)) (Zr (iI rfl rfl) rfl) rfl).le) (by simp;omega)).le (λT pT=>LE.var (i:=2) rfl (iZ pT g2)) (by simp;omega)).le (λT pT=>(LF.lst (ds:=[.tup [.str [101,110,100]]]) (g:=Za (bD (Za (eC (.str [101,110,100])) (Ze))) (Ze)) (Zr (iI rfl rfl) rfl) rfl).le) (by simp;omega);have e:[D.tup (.str gZ::t.flat)]++A.map D.tup++[.tup [.str [101,108,115,101]]]++B.map D.tup++[.tup [.str [101,110,100]]]=(headD gZ t::(A++[.str jN]::(B++[[.str g_]]))).map D.tup:=by simp
 rw[e]at h;exact BL.ret h (p1.trans p2)
theorem Zu4{rec:Nat->F3}{t:Sm}{a:List D}{A:List (List D)}(hl:t.flat.length<=60)(ha:Ez (rec 0) a A)(hw:A.length<=700000):jW (bF 1 3 (qe rec)) (.tup [.str lD,.tup t.flat,.tup a]) (headD lD t::(A++[[.str g_]])):=by
 intro M;refine FL.of (env:=[Ya (.tup [.str lD,.tup t.flat,.tup a]),Yk,Yk]) ?_ rfl rfl;unfold qe;have h:=LE.add (LE.add (env:=[Ya (.tup [.str lD,.tup t.flat,.tup a]),Yk,Yk]) (M:=M) (LF.lst (ds:=[.tup (.str lD::t.flat)]) (g:=Za (e2 Zt (bD (Za (eC (.str [119,104,105,108,101])) (Ze))) (e2 Zm (Zb 0) (eC (.int 1)))) (Ze)) (Zr (Zh (iI rfl rfl) rfl (Am (x:=[.str lD]) (y:=t.flat) (by simp;omega) M)) rfl) rfl).le (λT pT=>(LF.call (F:=rec 0) (ds:=[.tup a]) (g:=Za (e2 Zm (Zb 0) (eC (.int 2))) (Ze)) rfl (ha T)).le) (by simp;omega)).le (λT pT=>(LF.lst (ds:=[.tup [.str [101,110,100]]]) (g:=Za (bD (Za (eC (.str [101,110,100])) (Ze))) (Ze)) (Zr (iI rfl rfl) rfl) rfl).le) (by simp;omega);have e:[D.tup (.str lD::t.flat)]++A.map D.tup++[.tup [.str [101,110,100]]]=(headD lD t::(A++[[.str g_]])).map D.tup:=by simp
 rw[e]at h;exact BL.skip (Zh rfl rfl (vG (by decide))) (BL.take (Zh rfl rfl (WK rfl)) (BL.ret h (rZ _)))
noncomputable abbrev trB(F:F3):S3:=bj (aQ bI pW (Zb 1) (Za (Zx F (Za (Zb 2) (Ze))) (Ze)))
theorem ZsJ{F:F3}{it:fW}(hi:it.lock=Yk){W:Option D}{r:Nat}{h:List (List D)}{x:Option D}(H:jW F d h)(hp:M0<+:M)(hr:M[r]?=Ya (.lst acc))(hl:M0.length<=r)(hz:acc.length+h.length<=800000)(ds:List D):
  ∃S,dg it (b_ 2) (trB F) (d::ds) [W,Ya (.ref r),x] M=dg it (b_ 2) (trB F) ds [W,Ya (.ref r),Ya d] S/\M0<+:S/\S[r]?=Ya (.lst (acc++h.map D.tup)):=by
 obtain⟨S,e,p1⟩:=ZuW (o:=Zb 1) (t:=Zx F (Za (Zb 2) (Ze))) (env:=[W,Ya (.ref r),Ya d]) (ys:=h.map D.tup) rfl hr (LF.call (ds:=[d]) rfl (H M)) (by simp;omega);refine⟨_,?_,Zun (hp.trans p1) hl,Y4 (Yd.mp (iZ p1 hr)).1⟩;rw[pU,if_pos (by unfold locked;rw[hi])];simp only[b_,n8,n_,e]
theorem WL(n:Nat):Ez (rm (n+1) 0) [] []:=λM=>by refine FL.of (env:=[Ya (.tup []),Yk,Yk]) ?_ rfl rfl;refine BL.step (env':=[Ya (.tup []),Ya (.ref M.length),Yk]) (S:=M++[.lst []]) (Zo (fY rfl rfl)) (BL.step (env':=[Ya (.tup []),Ya (.ref M.length),Yk]) (S:=M++[.lst []]) ((wW (it:=⟨[],Yk⟩) rfl).trans (by show dg _ _ _ [] _ _=_;rw[pR,if_pos (by rfl)])) ?_);exact⟨M.length,_,dF rfl,j8 _ _,bY _ _ _,Yq _⟩
variable{R:List (List D)}
theorem ZvE(H:jW (rm n 1) d R)(hw:R.length<=1000):Ez (rm (n+1) 0) [d] R:=λM=>by refine FL.of (env:=[Ya (.tup [d]),Yk,Yk]) ?_ rfl rfl;obtain⟨S,e,q1,q2⟩:=ZsJ (F:=rm n 1) (it:=⟨[d],Yk⟩) rfl (W:=Ya (.tup [d])) (M0:=M) (M:=M++[.lst []]) (r:=M.length) (acc:=[]) (x:=Yk) H (j8 _ _) (bY M _ []) (Yq _) (by simp;omega) [];rw[pR,if_pos (by rfl)]at e;refine BL.step (env':=[Ya (.tup [d]),Ya (.ref M.length),Yk]) (S:=M++[.lst []]) (Zo (fY rfl rfl)) (BL.step ((wW (it:=⟨[d],Yk⟩) rfl).trans e) ?_);exact⟨M.length,S,dF rfl,q1,q2,Yq _⟩
theorem ZlB(H:jW (rm 27 1) d R)(hw:R.length<=1000):jW zY (.tup [.tup (([]:List (List Nat)).map D.str),.tup [d]]) R:=λM=>by have tr:Ez Nt [d] R:=ZvE H hw;refine FL.of (env:=[Ya (.tup [.tup [],.tup [d]]),Yk]) ?_ rfl rfl;unfold VG;have first:LE (jm (e2 dY (aJ bG (Za (e2 Zm (Zb 0) (eC (.int 0))) (Ze))) (eC (.int 0))) (aV (Za (e2 Zt (bD (Za (eC (.str [116,97,107,101])) (Ze))) (e2 Zm (Zb 0) (eC (.int 0)))) (Ze))) (aV (Ze))) [Ya (.tup [.tup [],.tup [d]]),Yk] M []:=⟨M.length,M++[.lst []],by rw[zr (M1:=M) (Zh (dm (Zh rfl rfl rfl) rfl) rfl rfl)];exact fY rfl rfl,j8 _ _,bY _ _ _⟩;refine BL.set first λn S p g=>?_;have h:=LE.add (env:=[Ya (.tup [.tup [],.tup [d]]),Ya (.ref n)]) (M:=S) (LE.var (i:=1) rfl g) (λT pT=>(LF.call (F:=Nt) (ds:=[.tup [d]]) (g:=Za (e2 Zm (Zb 0) (eC (.int 1))) (Ze)) rfl (tr T)).le) (by simp;omega);exact BL.ret h p
def EY(w:D):Prop:=(∀M,oR [w] M= .ok (.str (aX w)) M)/\(aX w).length<=61
theorem Zut(H:vz r):∀w∈r.vP,EY w:=λw hw=>by
 rcases Yv.mp hw with e|e
 .rw[e];exact⟨λ_=>rfl,by have:=(Wu (Zsq H)).2.1;show r.h.length<=61;omega⟩
 .rcases jD.mp e with e|e
  .obtain⟨x,hx,rfl⟩:=ji.mp e;exact⟨λ_=>rfl,by have:=(H.nm x hx).le;show x.length<=61;omega⟩
  .have hf:=Wf H.ok.fit w e;exact⟨Ws hf,Wt hf⟩
theorem WM(r:Rw):r.vP.map aX=r.words:=by unfold Rw.vP Rw.words;rw[Yw,oA,lO];have:∀l:List (List Nat),l.map (aX ∘ D.str)=l:=λl=>(Kd λ_ _=>rfl).trans (List.map_id l);rw[this];rfl
theorem ZlN{ws:List D}(h:∀w∈ws,EY w)(hl:ws.length<=1000)(M:Store):Im [.tup ws] M= .ok (.str (glue [32] (ws.map aX))) M:=by
 have lc:=wY (h:=λw=>D.str (aX w)) (enc:=λw=>w) (own:=1) (i:=1) (it:=dI (Zb 0)) (elt:=aJ oR (Za (Zb 1) (Ze))) (env:=[Ya (.tup ws)]) (M:=M) (M1:=M) (lock:=Yk) (as:=ws) (by rw[List.map_id'];rfl) (λn z=>nomatch z)
  (λw hw M'=>dm rfl ((h w hw).1 M')) (by omega)
 have e:ws.map (λw=>D.str (aX w))=(ws.map aX).map D.str:=by rw[lO];rfl
 rw[e]at lc;have hz:=(N5 32 61 (ws.map aX) λw hw=>by obtain⟨v,hv,rfl⟩:=ji.mp hw;exact(h v hv).2).1;rw[Ys]at hz;refine Rt.pure (G:=[.lst ((ws.map aX).map D.str)]) (env:=[Ya (.tup ws)]) ?_ rfl;unfold Vx;exact dF (Ad rfl lc (V9 (bY _ _ _) (Yi (show _<=100000 by omega) (by decide))))
theorem Zrg{tk:List (List Nat)}(tr:jW zY (.tup [.tup (tk.map D.str),.tup ds]) R)(hR:∀ws∈R,ws.length<=1000/\∀w∈ws,EY w)(hl:R.length<=10000)(hg:oU [10] (R.map λws=>glue [32] (ws.map aX))<=100000)(M:Store):
  xQ [.tup [.tup (tk.map D.str),.tup ds]] M= .ok (.str (glue [10] (R.map λws=>glue [32] (ws.map aX)))) M:=by
 obtain⟨n,S,e,p,g,_⟩:=tr M;obtain⟨G,rfl⟩:=p;have hi:dI (Zx zY (Za (Zb 0) (Ze))) [Ya (.tup [.tup (tk.map D.str),.tup ds])] M= .ok ⟨R.map D.tup,Ya n⟩ (M++G):=by have:Zx zY (Za (Zb 0) (Ze)) [Ya (.tup [.tup (tk.map D.str),.tup ds])] M= .ok (.ref n) (M++G):=di rfl e;simp only[dI,this,R3.bind,g]
 have lc:=wY (h:=λws=>D.str (glue [32] (ws.map aX))) (enc:=D.tup) (own:=1) (i:=1) (elt:=Zx Im (Za (Zb 1) (Ze))) (as:=R) hi (λk hk=>by cases hk;exact g)
  (λws hw M'=>di rfl (ZlN (hR ws hw).2 (hR ws hw).1 M')) (by omega)
 have e2:R.map (λws=>D.str (glue [32] (ws.map aX)))=(R.map λws=>glue [32] (ws.map aX)).map D.str:=by rw[lO];rfl
 rw[e2]at lc;refine Rt.pure (G:=G++[.lst ((R.map λws=>glue [32] (ws.map aX)).map D.str)]) (env:=[Ya (.tup [.tup (tk.map D.str),.tup ds])]) ?_ rfl;unfold VH;rw[←mW];exact dF (Ad rfl lc (V9 (bY _ _ _) (Yi hg (by decide))))
noncomputable def bH(way:Nat)(x:List Nat)(t u:Sm):Rw:=match way with
 |0=>⟨nP,[],[t]⟩|1=>⟨gZ,[],[t]⟩|2=>⟨lD,[],[t]⟩|3=>⟨gM,[x],[t]⟩
 |_=>⟨lC,[],[t,u]⟩
noncomputable abbrev E_:Rw:=⟨jN,[],[]⟩
noncomputable abbrev Ao:Rw:=⟨g_,[],[]⟩
noncomputable def ph:Nat->List Rw
 |1=>[E_,Ao]|2=>[Ao]|_=>[]
noncomputable def jX(way:Nat)(x:List Nat)(t u:Sm):List D:=match way with
 |0=>[.str nP,.tup t.flat]|1=>[.str gZ,.tup t.flat,.tup [],.tup []]|2=>[.str lD,.tup t.flat,.tup []]|3=>[.str gM,.str x,.tup t.flat]
 |_=>[.str lC,.tup t.flat,.tup u.flat]
noncomputable def Oo:Nat->List Nat
 |1=>[10,101,108,115,101,10,101,110,100]|2=>[10,101,110,100]|_=>[]
noncomputable def nU(way:Nat)(x:List Nat)(t u:Sm):List Nat:=glue [32] (bH way x t u).words++Oo way
def rG(way:Nat)(t u:Sm):Prop:=t.dp<7/\(way=4->u.dp<6)
theorem five{P:Nat->Prop}(h0:P 0)(h1:P 1)(h2:P 2)(h3:P 3)(h4:P 4)(hw:way<5):P way:=by
 match way,hw with
 |0,_=>exact h0|1,_=>exact h1|2,_=>exact h2|3,_=>exact h3
 |4,_=>exact h4
section
variable {x:List Nat} {t u:Sm}
theorem Oq(hw:way<5):nU way x t u=glue [10] ((jy (Ya (bH way x t u)::(ph way).map Ya)).map gD):=by
 refine five (P:=λway=>nU way x t u=glue [10] ((jy (Ya (bH way x t u)::(ph way).map Ya)).map gD)) ?_ ?_ ?_ ?_ ?_ hw
 .exact gQ _
 .show _=glue [10] [glue [32] (bH 1 x t u).words,jN,g_];rw[tZ,tZ];rfl
 .show _=glue [10] [glue [32] (bH 2 x t u).words,g_];rw[tZ];rfl
 .exact gQ _
 .exact gQ _
structure uc(way:Nat)(x:List Nat)(t u:Sm):Prop where
 sm:cN (bH way x t u).h gB=Ya ((bH way x t u).ts.length:Int)
 nx:(bH way x t u).xs.length=if(bH way x t u).h=gM then 1 else 0
 nm:∀y∈(bH way x t u).xs,dW y
 ft:∀s∈(bH way x t u).ts,s.fit
 nt:(bH way x t u).h≠[116,97,107,101]
 ln:rD (bH way x t u).words
 wl:(bH way x t u).words.length=1+(bH way x t u).xs.length+(aN (bH way x t u).ts).length
 tl:(bH way x t u).tl.length<100
 dp:mH 0 (iJ 0 (bH way x t u).ts)<=6↔rG way t u
theorem Ot(t u:Sm)(h:way≠4):mH 0 (iJ 0 [t])<=6↔rG way t u:=by show((t.dp+0:Nat):Int)<=6↔_;exact⟨λh'=>⟨by omega,λz=>absurd z h⟩,λh'=>by have:=h'.1;omega⟩
theorem Zwc(t u:Sm):mH 0 (iJ 0 [t,u])<=6↔rG 4 t u:=by
 show(if((u.dp+(0+1):Nat):Int)>((t.dp+0:Nat):Int)then((u.dp+(0+1):Nat):Int)else((t.dp+0:Nat):Int))<=6↔_;refine⟨λh=>⟨?_,λ_=>?_⟩,λh=>?_⟩
 .split at h<;>omega
 .split at h<;>omega
 .have h1:=h.1;have h2:=h.2 rfl;split <;>omega
theorem r65(hw:way<5)(hx:dW x)(ht:t.fit)(hu:u.fit)(lt:t.flat.length<=125)(lu:u.flat.length<=125):uc way x t u:=by
 have o1:∀s∈[t],s.fit:=λs hs=>by rw[Yz.mp hs];exact ht
 have l1:(aN [t]).length=t.flat.length:=by simp[aN]
 have l2:(aN [t,u]).length=t.flat.length+u.flat.length:=by simp[aN]
 have nn:∀y∈([]:List (List Nat)),dW y:=λy z=>nomatch z;have mk:∀r:Rw,bH way x t u=r->cN r.h gB=Ya (r.ts.length:Int)->r.xs.length=(if r.h=gM then 1 else 0)->(∀y∈r.xs,dW y)->(∀s∈r.ts,s.fit)->r.h≠[116,97,107,101]->r.xs.length+(aN r.ts).length<=260->r.tl.length<100->(mH 0 (iJ 0 r.ts)<=6↔rG way t u)->uc way x t u:=λr e a b c d f g h i=>by
  subst e;have wl:(bH way x t u).words.length=1+(bH way x t u).xs.length+(aN (bH way x t u).ts).length:=by simp only[Rw.words,Yn,Yj,Ys];exact Y6 (by omega) (by omega)
  exact⟨a,b,c,d,f,Zq5 (by rw[a];exactλz=>nomatch z) c d (by omega),wl,h,i⟩
 match way,hw,mk with
 |0,_,mk=>exact mk _ rfl rfl rfl nn o1 (show nP≠[116,97,107,101]by decide) (by show 0+(aN [t]).length<=260;omega) (show 1<100 by decide) (Ot t u (by decide))|1,_,mk=>exact mk _ rfl rfl rfl nn o1 (show gZ≠[116,97,107,101]by decide) (by show 0+(aN [t]).length<=260;omega) (show 1<100 by decide) (Ot t u (by decide))|2,_,mk=>exact mk _ rfl rfl rfl nn o1 (show lD≠[116,97,107,101]by decide) (by show 0+(aN [t]).length<=260;omega) (show 1<100 by decide) (Ot t u (by decide))|3,_,mk=>exact mk _ rfl rfl rfl (λy hy=>by rw[Yz.mp hy];exact hx) o1 (show gM≠[116,97,107,101]by decide) (by show 1+(aN [t]).length<=260;omega) (show 2<100 by decide) (Ot t u (by decide))
 |4,_,mk=>exact mk _ rfl rfl rfl nn (jC.mpr ⟨ht,λs hs=>by rw[Yz.mp hs];exact hu⟩) (show lC≠[116,97,107,101]by decide) (by show 0+(aN [t,u]).length<=260;omega) (show 2<100 by decide) (Zwc t u)
theorem Ou:rD E_.words/\rD Ao.words:=⟨⟨by decide,by decide,by decide,by decide⟩,⟨by decide,by decide,by decide,by decide⟩⟩
theorem ZoH(R:uc way x t u):∀vs,Ya vs∈jy (Ya (bH way x t u)::(ph way).map Ya)->rD vs:=λvs hv=>by
 obtain⟨l,hl,e⟩:=ji.mp hv;rcases Yv.mp hl with z|z
 .subst z;cases e;exact R.ln
 .obtain⟨r,hr,rfl⟩:=ji.mp z;cases e;have:r=E_\/r=Ao:=by
   unfold ph at hr;split at hr
   .simpa using hr
   .exact .inr (by simpa using hr)
   .exact nomatch hr
  rcases this with rfl|rfl
  .exact Ou.1
  .exact Ou.2
theorem Jm:(ph way).length<=2:=by unfold ph;split <;>decide
theorem Ov(hw:way<5)(R:uc way x t u):(nU way x t u).length<=20020:=by
 have:(Oo way).length<=9:=by unfold Oo;split <;>decide
 have:=R.ln.le;rw[nU,Yj];omega
theorem ZyO(hw:way<5)(R:uc way x t u)(h:¬rG way t u\/60<(bH way x t u).words.length)(M:Store):lE M 1 (nG [.str (nU way x t u)] M):=by
 rw[Oq hw];have tl:=Ov hw R;rw[Oq hw]at tl;refine ZsO (ws:=(bH way x t u).words) (Ls:=jy ((ph way).map Ya)) (ZoH R) (by rw[Ys,Ys];have:=Jm (way:=way);omega) (Yi tl (by decide)) ⟨_,_,rfl,R.nt⟩ λS a hS=>?_;by_cases hl:60<(bH way x t u).words.length
 .exact ZiU (h:=(bH way x t u).h) (ws:=(bH way x t u).xs++(aN (bH way x t u).ts).map aX) (by rw[R.sm];exactλz=>nomatch z) (by have:(bH way x t u).words.length=((bH way x t u).xs++(aN (bH way x t u).ts).map aX).length+1:=rfl;omega) hS
 .have hg:=h.resolve_right hl;have wl:=R.wl;refine ZlD ⟨R.sm,R.nx,R.nm,by omega⟩ R.ft ?_ hS;exact yQ.mp λz=>hg (R.dp.mp z)
theorem Zok:Wq E_/\Wq Ao:=by have nl:Wd []:=⟨(λt ht=>nomatch ht),(by decide:0<=60),by show mH 0 []<=6;decide⟩;exact⟨⟨⟨rfl,rfl,(λy z=>nomatch z),nl,by decide⟩,Ou.1,by decide,by decide⟩,⟨⟨rfl,rfl,(λy z=>nomatch z),nl,by decide⟩,Ou.2,by decide,by decide⟩⟩
theorem Zse(R:uc way x t u)(hg:rG way t u)(hl:(bH way x t u).words.length<=60):vz (bH way x t u):=by have wl:=R.wl;exact⟨R.sm,R.nx,R.nm,⟨R.ft,by show(aN _).length<=60;omega,R.dp.mpr hg⟩,by omega⟩
theorem ZxC(hw:way<5):t8 (qt 1 (Ya (bH way x t u)::(ph way).map Ya)) [⟨fU,[],[],[]⟩]= .inr [⟨fU,[],[],[.tup (jX way x t u)]⟩]:=by
 match way,hw with
 |0,_=>rfl|1,_=>rfl|2,_=>rfl|3,_=>rfl
 |4,_=>rfl
theorem Zta(hw:way<5)(lt:t.flat.length<=125)(lu:u.flat.length<=125):h_ 30 (.tup [.tup [],.tup [.tup (jX way x t u)]])=true:=by
 have pf:∀s:Sm,s.flat.length<=125->∀n,h_ (n+1) (.tup s.flat)=true:=λs hs n=>Jl (Yi hs (by decide)) λw h=>Zt3 (Ae s w h);have pe:∀n,h_ (n+1) (.tup [])=true:=λn=>Jl (fL _) λy hy=>nomatch hy;have pd:h_ 27 (.tup (jX way x t u))=true:=by
  refine Jl (n:=26) ?_ ?_
  .unfold jX;split <;>simp
  .match way,hw with
   |0,_=>exact jC.mpr ⟨Ey _ _,λy hy=>by rw[Yz.mp hy];exact pf t lt _⟩|1,_=>exact jC.mpr ⟨Ey _ _,jC.mpr ⟨pf t lt _,jC.mpr ⟨pe _,λy hy=>by rw[Yz.mp hy];exact pe _⟩⟩⟩|2,_=>exact jC.mpr ⟨Ey _ _,jC.mpr ⟨pf t lt _,λy hy=>by rw[Yz.mp hy];exact pe _⟩⟩|3,_=>exact jC.mpr ⟨Ey _ _,jC.mpr ⟨Ey _ _,λy hy=>by rw[Yz.mp hy];exact pf t lt _⟩⟩
   |4,_=>exact jC.mpr ⟨Ey _ _,jC.mpr ⟨pf t lt _,λy hy=>by rw[Yz.mp hy];exact pf u lu _⟩⟩
 refine Zp6 (n:=29) (by decide) (Jl (n:=28) (show 2<=1000 by decide) (jC.mpr ⟨pe _,λy hy=>?_⟩));rw[Yz.mp hy];exact Jl (n:=27) (show 1<=1000 by decide) λy hy=>by rw[Yz.mp hy];exact pd
theorem ZpS(hw:way<5)(R:uc way x t u)(hg:rG way t u)(hl:(bH way x t u).words.length<=60)(pl:h_ 30 (.tup [.tup [],.tup [.tup (jX way x t u)]])=true)(M:Store):nG [.str (nU way x t u)] M= .ok (.tup [.tup [],.tup [.tup (jX way x t u)]]) M:=by
 have tl:=Ov hw R;rw[Oq hw]at tl ⊢;have rd:=Zve (M:=M) (Ls:=Ya (bH way x t u)::(ph way).map Ya) (λz=>nomatch z) (λr hr=>by
  rcases Yv.mp hr with z|z
  .cases z;exact⟨Zse R hg hl,R.ln,R.tl,R.nt⟩
  .obtain⟨q,hq,e⟩:=ji.mp z;cases e;have:r=E_\/r=Ao:=by
    unfold ph at hq;split at hq
    .simpa using hq
    .exact .inr (by simpa using hq)
    .exact nomatch hq
   rcases this with rfl|rfl
   .exact Zok.1
   .exact Zok.2) (by rw[Yn,Ys];have:=Jm (way:=way);omega) (Yi tl (by decide))
 rw[ZxC hw]at rd;refine rd λn=>?_;have q:=Zic n 30 _ pl;have q:(below n (.tup [])&&((bT n [.tup (jX way x t u)])&&true))=true:=q;rw[Y3,Y3]at q;exact q.2.1
theorem ZnO(hw:way<5)(R:uc way x t u)(hg:rG way t u)(hl:(bH way x t u).words.length<=60)(M:Store):xQ [.tup [.tup [],.tup [.tup (jX way x t u)]]] M= .ok (.str (nU way x t u)) M:=by
 have ok:=Zse R hg hl;have eE:EY (.str jN)/\EY (.str g_):=⟨⟨λ_=>rfl,by decide⟩,⟨λ_=>rfl,by decide⟩⟩;have key:∀(A:List (List D)),jW (rm 27 1) (.tup (jX way x t u)) ((bH way x t u).vP::A)->A=(ph way).map Rw.vP->xQ [.tup [.tup [],.tup [.tup (jX way x t u)]]] M= .ok (.str (nU way x t u)) M:=λA h hA=>by
  have tr:=ZlB h (by rw[hA,Yn,Ys];have:=Jm (way:=way);omega);have hR:∀ws∈(bH way x t u).vP::A,ws.length<=1000/\∀w∈ws,EY w:=by
   refine jC.mpr ⟨⟨?_,Zut ok⟩,λws hws=>?_⟩
   .have e:(bH way x t u).vP.length=(bH way x t u).words.length:=by rw[←WM,Ys]
    omega
   .rw[hA]at hws;obtain⟨q,hq,rfl⟩:=ji.mp hws;have:q=E_\/q=Ao:=by
     unfold ph at hq;split at hq
     .simpa using hq
     .exact .inr (by simpa using hq)
     .exact nomatch hq
    rcases this with rfl|rfl
    .exact⟨by decide,λw hw'=>by rw[Yz.mp (show w∈[D.str jN]from hw')];exact eE.1⟩
    .exact⟨by decide,λw hw'=>by rw[Yz.mp (show w∈[D.str g_]from hw')];exact eE.2⟩
  have eR:((bH way x t u).vP::A).map (λws=>glue [32] (ws.map aX))=(jy (Ya (bH way x t u)::(ph way).map Ya)).map gD:=by rw[hA,Yw,WM,jy,Yw,Yw,lO,lO,lO];show _::_=_::_;congr 1;exact Kd λq _=>congrArg (glue [32]) (WM q)
  have tl:=Ov hw R;have sh:=Zrg tr hR (by rw[hA,Yn,Ys];have:=Jm (way:=way);omega) (by
   rw[eR];refine Yi (N5 10 20020 _ λs hs=>?_).1 (by rw[Ys,jy,Ys,Yn,Ys];have:=Jm (way:=way);omega);obtain⟨l,hl',rfl⟩:=ji.mp hs;cases l with
   |none=>exact fL _|some vs=>exact Yi (ZoH R vs hl').le (by decide)) M
  rw[eR,←Oq hw]at sh;exact sh
 have e1:aN [t]=t.flat:=by simp[aN]
 have e2':aN [t,u]=t.flat++u.flat:=by simp[aN]
 have lt:(aN (bH way x t u).ts).length<=60:=ok.ok.len
 match way,hw,lt,key with
 |0,_,lt,key=>exact key [] (by show jW _ _ [.str nP::([]++aN [t])];rw[e1];exact Zus _ (e1▸lt)) rfl|1,_,lt,key=>exact key [[.str jN],[.str g_]] (by show jW _ _ [.str gZ::([]++aN [t]),_,_];rw[e1];exact Zv5 (A:=[]) (B:=[]) (e1▸lt) (WL 25) (WL 25) (by decide)) rfl|2,_,lt,key=>exact key [[.str g_]] (by show jW _ _ [.str lD::([]++aN [t]),_];rw[e1];exact Zu4 (A:=[]) (e1▸lt) (WL 25) (by decide)) rfl|3,_,lt,key=>exact key [] (by show jW _ _ [.str gM:: .str x::aN [t]];rw[e1];exact Zu5 _ (e1▸lt)) rfl
 |4,_,lt,key=>have l2:(t.flat++u.flat).length<=60:=e2'▸lt;rw[Yj]at l2;exact key [] (by show jW _ _ [.str lC::([]++aN [t,u])];rw[e2'];exact ZwS _ (by omega) (by omega)) rfl
end
theorem Zqg{T:List Nat}(h:lE M 1 (nG [.str T] M)):Iu [.str T] M= .ok (.bl true) M:=by
 obtain⟨S',q,q1,q2⟩:=h
 let S1:=S'++[MO.ins (0::rC) [(Eu,.int 1)]]
 have p:Pre M S1:=Pre.app ⟨q1,q2⟩ _;refine(kY (M':=S1) (d:=.bl true) (env:=[Ya (.str T),Yk,Yk]) ?_).trans (Zmg p rfl);unfold VV;refine(Zi (Zo rfl)).trans ?_;refine(Zi (ZqG (x:=⟨rC,.ref S'.length⟩) (M':=S1) (e2:=[Ya (.str T),Ya (.ref S'.length),Yk]) (Zp5 ((Zq3 (ds:=[.str T]) (Zr rfl rfl)).trans q)) rfl (Zo rfl) rfl)).trans ?_;exact dF ((Cu (M1:=S1) (Zh rfl rfl rfl)).trans (zq (dU rfl ZtO) rfl (ZmA 30 _ S1 rfl)))
noncomputable abbrev lnB:S3:=(Zq (aA 9 (e2 Zm (Zb 2) (e2 aU (e2 Zt (Zb 4) (Zb 8)) (eC (.int 26))))) (Zq (aA 10 (e2 iy (Zb 9) (e2 Zt (eC (.int 1)) (e2 aU (e2 bU (Zb 4) (eC (.int 26))) (eC (.int 8)))))) (Zq (aK (e2 aY (e2 aU (Zb 3) (eC (.int 4))) (eC (.int 1))) (aA 10 (e2 Zt (e2 Zm (Zb 1) (e2 aU (e2 Zt (Zb 8) (Zb 4)) (eC (.int 12)))) (Zb 6))) (aZ)) (Zq (aK (e2 aY (e2 aU (Zb 3) (eC (.int 4))) (eC (.int 2))) (Zq (aA 10 (e2 Zt (e2 iy (Zb 5) (e2 Zt (eC (.int 1)) (e2 aU (Zb 8) (eC (.int 8))))) (e2 iy (e2 Zm (Zb 2) (e2 aU (e2 Zt (Zb 4) (eC (.int 1))) (eC (.int 26)))) (e2 bU (Zb 8) (eC (.int 8)))))) (aA 10 (c7 (Zb 10) (dZ) (cW (eC (.int 8)))))) (aZ)) (Zq (aK (e2 aY (e2 aU (Zb 3) (eC (.int 4))) (eC (.int 3))) (aA 10 (e2 Zt (e2 Zt (Zb 6) (Zb 9)) (e2 iy (e2 Zm (Zb 2) (e2 aU (e2 bU (Zb 4) (eC (.int 7))) (eC (.int 26)))) (e2 aU (e2 bU (Zb 4) (eC (.int 676))) (eC (.int 7)))))) (aZ)) (Zq (aK (e2 qN (Zb 10) (Zb 1)) (aA 10 (e2 Zt (Zb 10) (eC (.str [120])))) (aZ)) (bj (aQ bI cQ (Zb 7) (Za (Zb 10) (Ze))))))))))
noncomputable def bR(x:Int):Nat:=97+(x % 26).toNat
theorem Aq(x:Int):97<=bR x/\bR x<=122:=by have a:=sE x (b:=26) (by decide);have b:=wG x (b:=26) (by decide);unfold bR;exact⟨lQ _ _,by omega⟩
theorem Jo(x:Int)(M:Store):Zm (.str LET) (.int (x % 26)) M= .ok (.str [bR x]) M:=by
 have a:=sE x (b:=26) (by decide);have b:=wG x (b:=26) (by decide);obtain⟨n,hn⟩:∃n:Nat,x % 26=(n:Int):=⟨(x % 26).toNat,yP ((Kv _)) (Gn (Gm a))⟩;have hlt:n<26:=by omega
 have key:∀n:Nat,n<26->LET[n]?=Ya (97+n):=by decide
 unfold bR;rw[hn,G7,gU,key n hlt,uI];exact if_pos (by decide)
theorem mul_str(c n:Nat)(hn:n<1000)(M:Store):iy (.str [c]) (.int (n:Int)) M= .ok (.str (Ym n c)) M:=by rw[Zq4,if_pos ⟨by show 1*n<=1000000;omega,by omega,by omega⟩];simp
theorem add_str{x y:List Nat}(h:x.length+y.length<=1000)(M:Store):Zt (.str x) (.str y) M= .ok (.str (x++y)) M:=by rw[ZmT,if_pos (Yi h (by decide))]
noncomputable def rH(mo:Int)(k:Nat):List Nat:=Ym (1+(mo / 26 % 8).toNat) (bR (mo+k))
noncomputable def vH(mo:Int)(k:Nat):List Nat:=cZ.getD (((k:Int)+mo) % 12).toNat []++[bR (mo / 26)]
noncomputable def pq(mo:Int)(k:Nat):List Nat:=(Ym (1+k % 8) (bR mo)++Ym (k / 8) (bR (mo+1))).take 8
noncomputable def vI(mo:Int)(k:Nat):List Nat:=[bR (mo / 26)]++[bR (mo+k)]++Ym (mo / 676 % 7).toNat (bR (mo / 7))
noncomputable def jz(q:Int)(mo:Int)(k:Nat):List Nat:=if q=3 then vI mo k else if q=2 then pq mo k else if q=1 then vH mo k else rH mo k
noncomputable def jb(q mo:Int)(k:Nat):List Nat:=if jz q mo k∈cZ then jz q mo k++[120]else jz q mo k
theorem Fd:∀w∈cZ,3<=w.length/\w.length<=5/\(∀c∈w,97<=c/\c<=122)/\w.dropLast∉cZ/\w.getLast?≠Ya 120/\w[0]?≠w[1]?:=by decide
theorem Jp(mo:Int)(k:Nat):∃j:Nat,((k:Int)+mo) % 12=(j:Int)/\j<12/\cZ.getD (((k:Int)+mo) % 12).toNat []∈cZ/\cZ[j]?=Ya (cZ.getD (((k:Int)+mo) % 12).toNat []):=by
 obtain⟨j,ej,hj⟩:=nH ((k:Int)+mo) 12 (by decide);have ej:((k:Int)+mo) % 12=(j:Int):=ej;have hj':j<cZ.length:=hj;refine⟨j,ej,hj,?_,?_⟩
 .rw[ej,uI,J8,j7 hj'];exact wg _
 .rw[ej,uI,J8,j7 hj'];rfl
theorem Ow(h:97<=c/\c<=122):∀x∈Ym n c,97<=x/\x<=122:=λx hx=>by rw[List.eq_of_mem_replicate hx];exact h
theorem Jq{x y:List Nat}(h:∀c∈x,97<=c/\c<=122)(k:∀c∈y,97<=c/\c<=122):∀c∈x++y,97<=c/\c<=122:=λc hc=>(jD.mp hc).elim (h c) (k c)
theorem Ox{a:Nat}(h:97<=a/\a<=122):∀c∈[a],97<=c/\c<=122:=λc hc=>by rw[Yz.mp hc];exact h
theorem Zob(q mo:Int)(k:Nat):1<=(jz q mo k).length/\(jz q mo k).length<=8/\∀c∈jz q mo k,97<=c/\c<=122:=by
 have m8:0<=mo / 26 % 8/\mo / 26 % 8<8:=⟨sE _ (by decide),wG _ (by decide)⟩;have m7:0<=mo / 676 % 7/\mo / 676 % 7<7:=⟨sE _ (by decide),wG _ (by decide)⟩;unfold jz;by_cases h3:q=3
 .rw[if_pos h3];refine⟨by simp[vI],by simp[vI];omega,Jq (Jq (Ox (Aq _)) (Ox (Aq _))) (Ow (Aq _))⟩
 rw[if_neg h3];by_cases h2:q=2
 .rw[if_pos h2];refine⟨by simp[pq];omega,by simp[pq];exact(Z8 _ _),λc hc=>Jq (Ow (Aq _)) (Ow (Aq _)) c (List.take_subset _ _ hc)⟩
 rw[if_neg h2];by_cases h1:q=1
 .rw[if_pos h1];obtain⟨j,_,_,hm,_⟩:=Jp mo k;have w:=Fd _ hm;exact⟨by rw[vH,Yj];exact yM _ _,by rw[vH,Yj,Y0];omega,Jq w.2.2.1 (Ox (Aq _))⟩
 .rw[if_neg h1];exact⟨by rw[rH,mV];exact lQ _ _,by rw[rH,mV];omega,Ow (Aq _)⟩
theorem Zv6(q mo:Int)(k:Nat):dW (jb q mo k):=by
 have f:=Zob q mo k;unfold jb;by_cases h:jz q mo k∈cZ
 .rw[if_pos h];have w:=Fd _ h;exact⟨by rw[Yj];exact yM _ _,by rw[Yj,Y0];omega,λz=>(Fd _ z).2.2.2.2.1 (by simp),Jq f.2.2 (Ox (by decide))⟩
 .rw[if_neg h];exact⟨f.1,f.2.1,h,f.2.2⟩
theorem Zor{mo:Int}{i:Nat}(hi:i<12)(hj:j<12)(h:bR (mo+i)=bR (mo+j)):i=j:=by have a1:=sE (mo+i) (b:=26) (by decide);have a2:=sE (mo+j) (b:=26) (by decide);unfold bR at h;omega
theorem Zo4{q mo:Int}{k m:Nat}(h:m<(jz q mo k).length):(jb q mo k)[m]?=(jz q mo k)[m]?:=by
 unfold jb;split
 .exact Yx h
 .rfl
theorem ZsU{q mo:Int}{i:Nat}(hi:i<12)(hj:j<12)(h:jb q mo i=jb q mo j):i=j:=by
 by_cases h3:q=3
 .have e:∀k:Nat,jz q mo k=vI mo k:=λk=>by unfold jz;rw[if_pos h3]
  have g:∀k:Nat,(jb q mo k)[1]?=Ya (bR (mo+k)):=λk=>by rw[Zo4 (by rw[e];simp[vI]),e];rfl
  have:=g i;rw[h,g j]at this;exact(Zor hj hi (eZ this)).symm
 by_cases h2:q=2
 .have e:∀k:Nat,jz q mo k=pq mo k:=λk=>by unfold jz;rw[if_neg h3,if_pos h2]
  have ne:bR mo≠bR (mo+1):=λz=>by unfold bR at z;omega
  have form:∀k:Nat,k<12->(k<8/\pq mo k=Ym (k+1) (bR mo))\/(8<=k/\pq mo k=Ym (k-7) (bR mo)++[bR (mo+1)]):=λk hk=>by
   by_cases z:k<8
   .left;refine⟨z,?_⟩;rw[pq,Nat.mod_eq_of_lt z,Nat.div_eq_of_lt z,pI 1 k,List.replicate_zero,gQ,uF (by rw[mV];omega)]
   .right;refine⟨ir z,?_⟩;have d1:k / 8=1:=by omega
    have d2:1+k % 8=k-7:=by omega
    rw[pq,d1,d2,uF (by rw[Yj,mV,mV];omega)];rfl
  have nw:∀k:Nat,k<12->jb q mo k=pq mo k:=λk hk=>by
   unfold jb;rw[e,if_neg λz=>?_];have w:=Fd _ z;rcases form k hk with⟨z1,f⟩|⟨z1,f⟩
   .rw[f,mV]at w;apply w.2.2.2.2.2;rw[Ga (by omega),Ga (by omega)]
   .rw[f,Yj,mV,Y0]at w;apply w.2.2.2.2.2;rw[Yx (by rw[mV];omega),Yx (by rw[mV];omega),Ga (by omega),Ga (by omega)]
  rw[nw i hi,nw j hj]at h;have hl:=congrArg yK h;have hg:=congrArg List.getLast? h;rcases form i hi with⟨z1,f1⟩|⟨z1,f1⟩<;>rcases form j hj with⟨z2,f2⟩|⟨z2,f2⟩<;>rw[f1,f2]at hl hg
  .simp at hl;exact hl
  .simp[Y_]at hg;exact absurd hg ne
  .simp[Y_]at hg;exact absurd hg.symm ne
  .simp at hl;exact Y6 (by omega) (by omega)
 by_cases h1:q=1
 .have e:∀k:Nat,jz q mo k=vH mo k:=λk=>by unfold jz;rw[if_neg h3,if_neg h2,if_pos h1]
  have nw:∀k:Nat,jb q mo k=vH mo k:=λk=>by unfold jb;rw[e,if_neg λz=>?_];obtain⟨_,_,_,hm,_⟩:=Jp mo k;have w:=(Fd _ z).2.2.2.1;rw[vH,List.dropLast_concat]at w;exact w hm
  rw[nw,nw]at h;have h:=List.append_cancel_right h;obtain⟨a,ea,ha,_,ga⟩:=Jp mo i;obtain⟨b,eb,hb,_,gb⟩:=Jp mo j;rw[h]at ga;have hn:cZ.Nodup:=by decide
  have:=(List.getElem?_inj (show a<cZ.length from ha) hn).mp (ga.trans gb.symm);omega
 .have e:∀k:Nat,jz q mo k=rH mo k:=λk=>by unfold jz;rw[if_neg h3,if_neg h2,if_neg h1]
  have g:∀k:Nat,(jb q mo k)[0]?=Ya (bR (mo+k)):=λk=>by rw[Zo4 (by rw[e,rH,mV];omega),e,rH,Ga (by omega)]
  have:=g i;rw[h,g j]at this;exact(Zor hj hi (eZ this)).symm
theorem Zvh(h:M[n]?=Ya (.lst (cZ.map D.str)))(x:List Nat):qN (.str x) (.ref n) M= .ok (.bl (decide (x∈cZ))) M:=by
 have he:∀l:List (List Nat),(l.map D.str).any (λy=>dH y (.str x))=decide (x∈l):=by
  intro l
  induction l with
  |nil=>rfl|cons y l ih=>
   rw[Yw,j9,ih,Tw];by_cases h:y=x
   .subst h;simp
   .have h':x≠y:=λe=>h e.symm;simp[h,h']
 have hf:(cV (.str x)&&(cZ.map D.str).all cV)=true:=rfl;rw[Zmw,h];simp only[hf,if_true,he]
theorem WN{c:E3}{p:Prop}[Decidable p]{x y:D}{i:Nat}(hc:c env M= .ok (.bl (decide p)) M)(hf:f env M= .ok x M)(hi:env[i]?=Ya (Ya y)):aK c (aA i f) aZ env M= .nx (env.set i (Ya (if p then x else y))) M:=by
 by_cases h:p
 .rw[decide_eq_true h]at hc;rw[if_pos h];exact(d7 hc).trans (Zo hf rfl)
 .rw[decide_eq_false h]at hc;rw[if_neg h];refine(fC hc).trans ?_;congr 1;apply yF;intro j;by_cases e:j=i
  .subst e;rw[Y4 (Yd.mp hi).1,hi]
  .rw[Yu (bV e)]
theorem ZtE{on:Nat}{v:Int}{k:Nat}(ho:M[on]?=Ya (.lst (cZ.map D.str)))(hk:k<12)(hl:acc.length<100){x9 x10:Option D}:
  ∃y9 y10,lnB [v0,Ya (.ref on),Ya (.str LET),Ya (.int v),Ya (.int (v / 4)),Ya (.str [bR (v / 4)]),Ya (.str [bR (v / 4 / 26)]),Ya (.ref M.length),Ya (.int (k:Int)),x9,x10] (M++[.lst acc])= .nx [v0,Ya (.ref on),Ya (.str LET),Ya (.int v),Ya (.int (v / 4)),Ya (.str [bR (v / 4)]),Ya (.str [bR (v / 4 / 26)]),Ya (.ref M.length),Ya (.int (k:Int)),y9,y10] (M++[.lst (acc++[.str (jb (v % 4) (v / 4) k)])]):=by
 let mo:=v / 4
 let S:=M++[MO.lst acc]
 have hoS:S[on]?=Ya (.lst (cZ.map D.str)):=dR ho _;have m8:0<=mo / 26 % 8/\mo / 26 % 8<8:=⟨sE _ (by decide),wG _ (by decide)⟩;have m7:0<=mo / 676 % 7/\mo / 676 % 7<7:=⟨sE _ (by decide),wG _ (by decide)⟩
 let En (n:List Nat):Zz:=[v0,Ya (.ref on),Ya (.str LET),Ya (.int v),Ya (.int mo),Ya (.str [bR mo]),Ya (.str [bR (mo / 26)]),Ya (.ref M.length),Ya (.int (k:Int)),Ya (.str [bR (mo+k)]),Ya (.str n)]
 have q4:∀(n:List Nat) (c:Int),e2 aY (e2 aU (Zb 3) (eC (.int 4))) (eC (.int c)) (En n) S= .ok (.bl (decide (v % 4=c))) S:=λn c=>Zh (Zh rfl rfl (gH (by decide))) rfl (by simp only[aY,sV]);have s9:aA 9 (e2 Zm (Zb 2) (e2 aU (e2 Zt (Zb 4) (Zb 8)) (eC (.int 26)))) [v0,Ya (.ref on),Ya (.str LET),Ya (.int v),Ya (.int mo),Ya (.str [bR mo]),Ya (.str [bR (mo / 26)]),Ya (.ref M.length),Ya (.int (k:Int)),x9,x10] S= .nx [v0,Ya (.ref on),Ya (.str LET),Ya (.int v),Ya (.int mo),Ya (.str [bR mo]),Ya (.str [bR (mo / 26)]),Ya (.ref M.length),Ya (.int (k:Int)),Ya (.str [bR (mo+k)]),x10] S:=Zo (Zh rfl (Zh (Zh rfl rfl rfl) rfl (gH (by decide))) (Jo _ _));obtain⟨e8,he8⟩:∃n:Nat,mo / 26 % 8=(n:Int):=⟨(mo / 26 % 8).toNat,by exact yP ((Kv _)) (Gn (Gm m8.1))⟩;obtain⟨e7,he7⟩:∃n:Nat,mo / 676 % 7=(n:Int):=⟨(mo / 676 % 7).toNat,yP ((Kv _)) (Gn (Gm m7.1))⟩;have Mz:aA 10 (e2 iy (Zb 9) (e2 Zt (eC (.int 1)) (e2 aU (e2 bU (Zb 4) (eC (.int 26))) (eC (.int 8))))) [v0,Ya (.ref on),Ya (.str LET),Ya (.int v),Ya (.int mo),Ya (.str [bR mo]),Ya (.str [bR (mo / 26)]),Ya (.ref M.length),Ya (.int (k:Int)),Ya (.str [bR (mo+k)]),x10] S= .nx (En (rH mo k)) S:=by
  refine Zo (d:=.str (rH mo k)) (Zh (M2:=S) rfl (b:=.int ((1+e8:Nat):Int)) (Zh rfl (Zh (Zh rfl rfl (mJ (by decide))) rfl (gH (by decide))) ?_) ?_)
  .rw[Cg,he8];congr 2
  .rw[mul_str _ _ (by omega),rH,he8,uI]
 obtain⟨j,ej,hj,hm,hg⟩:=Jp mo k;have w1:=Fd _ hm
 let n1:=rH mo k
 let n2:=if v % 4=1 then vH mo k else n1
 let n3:=if v % 4=2 then pq mo k else n2
 let n4:=if v % 4=3 then vI mo k else n3
 have f1:e2 Zt (e2 Zm (Zb 1) (e2 aU (e2 Zt (Zb 8) (Zb 4)) (eC (.int 12)))) (Zb 6) (En n1) S= .ok (.str (vH mo k)) S:=by refine Zh (Zh rfl (Zh (Zh rfl rfl rfl) rfl (gH (by decide))) (jr hoS (d:=.str (cZ.getD (((k:Int)+mo) % 12).toNat [])) ?_)) rfl (add_str (by simp only[Y0];omega) S);rw[ej,gU,lM,hg,ej];rfl
 have Mw:=WN (i:=10) (q4 n1 1) f1 (y:=.str n1) rfl;have k8:((k:Int)) % 8=((k % 8:Nat):Int):=by omega
 have k8d:((k:Int)) / 8=((k / 8:Nat):Int):=by omega
 have t1:e2 Zt (e2 iy (Zb 5) (e2 Zt (eC (.int 1)) (e2 aU (Zb 8) (eC (.int 8))))) (e2 iy (e2 Zm (Zb 2) (e2 aU (e2 Zt (Zb 4) (eC (.int 1))) (eC (.int 26)))) (e2 bU (Zb 8) (eC (.int 8)))) (En n2) S= .ok (.str (Ym (1+k % 8) (bR mo)++Ym (k / 8) (bR (mo+1)))) S:=by refine Zh (Zh rfl (b:=.int ((1+k % 8:Nat):Int)) (Zh rfl (Zh rfl rfl (gH (by decide))) (by rw[Cg,k8];congr 2)) (mul_str _ _ (by omega) S)) (Zh (Zh rfl (Zh (Zh rfl rfl rfl) rfl (gH (by decide))) (Jo _ _)) (b:=.int ((k / 8:Nat):Int)) (Zh rfl rfl ((mJ (by decide)).trans (by rw[k8d]))) (mul_str _ _ (by omega) S)) (add_str (by simp;omega) S)
 have s12:aK (e2 aY (e2 aU (Zb 3) (eC (.int 4))) (eC (.int 2))) (Zq (aA 10 (e2 Zt (e2 iy (Zb 5) (e2 Zt (eC (.int 1)) (e2 aU (Zb 8) (eC (.int 8))))) (e2 iy (e2 Zm (Zb 2) (e2 aU (e2 Zt (Zb 4) (eC (.int 1))) (eC (.int 26)))) (e2 bU (Zb 8) (eC (.int 8)))))) (aA 10 (c7 (Zb 10) (dZ) (cW (eC (.int 8)))))) (aZ) (En n2) S= .nx (En n3) S:=by
  by_cases h:v % 4=2
  .have c:=q4 n2 2;rw[decide_eq_true h]at c;have e3:n3=pq mo k:=if_pos h;rw[e3];refine(d7 c).trans ((Zi (Zo (env':=En (Ym (1+k % 8) (bR mo)++Ym (k / 8) (bR (mo+1)))) t1 rfl)).trans (Zo (d:=.str (pq mo k)) ?_ rfl));show zf (.str _) Yk (Ya ((8:Nat):Int)) S=_;rw[Ck,if_pos (by rw[Yj,mV,mV];exact Yi (show _<=100 by omega) (by decide)),V8];rfl
  .have c:=q4 n2 2;rw[decide_eq_false h]at c;have e3:n3=n2:=if_neg h;rw[e3];exact fC c
 have f3:e2 Zt (e2 Zt (Zb 6) (Zb 9)) (e2 iy (e2 Zm (Zb 2) (e2 aU (e2 bU (Zb 4) (eC (.int 7))) (eC (.int 26)))) (e2 aU (e2 bU (Zb 4) (eC (.int 676))) (eC (.int 7)))) (En n3) S= .ok (.str (vI mo k)) S:=by refine(Zh (Zh rfl rfl (add_str (x:=[bR (mo / 26)]) (y:=[bR (mo+k)]) (show 1+1<=1000 by decide) S)) (Zh (Zh rfl (Zh (Zh rfl rfl (mJ (by decide))) rfl (gH (by decide))) (Jo _ _)) (b:=.int (e7:Int)) (Zh (Zh rfl rfl (mJ (by decide))) rfl ((gH (by decide)).trans (by rw[he7]))) (mul_str _ _ (by omega) S)) (add_str (by simp;omega) S)).trans ?_;rw[vI,he7,uI]
 have s13:=WN (i:=10) (q4 n3 3) f3 (y:=.str n3) rfl;have eB:n4=jz (v % 4) mo k:=by show(if v % 4=3 then vI mo k else if v % 4=2 then pq mo k else if v % 4=1 then vH mo k else rH mo k)=_;rfl
 have fB:=Zob (v % 4) mo k;have c5:e2 qN (Zb 10) (Zb 1) (En n4) S= .ok (.bl (decide (n4∈cZ))) S:=Zh rfl rfl (Zvh hoS n4);have f5:e2 Zt (Zb 10) (eC (.str [120])) (En n4) S= .ok (.str (n4++[120])) S:=Zh rfl rfl (add_str (by rw[eB,Y0];omega) S);have s14:=WN (i:=10) c5 f5 (y:=.str n4) rfl;have en:∀(p:Prop) [Decidable p] (a b c:List Nat),(En c).set 10 (Ya (if p then D.str a else D.str b))=En (if p then a else b):=λp _ a b c=>by by_cases h:p<;>simp[h,En]
 rw[en]at Mw s13 s14;refine⟨_,_,(Zi s9).trans ((Zi Mz).trans ((Zi Mw).trans ((Zi s12).trans ((Zi s13).trans ((Zi s14).trans (?_:_=O3.nx (En (jb (v % 4) mo k)) _))))))⟩;have eF:(if n4∈cZ then n4++[120]else n4)=jb (v % 4) mo k:=by rw[eB];rfl
 rw[eF];refine(Zqx rfl (bY M _ []) rfl (bY M _ []) (lR hl (by decide))).trans ?_;simp[mo]
theorem Zoo{M:Store}{on:Nat}{v:Int}(ho:M[on]?=Ya (.lst (cZ.map D.str))){it:fW}(hi:it.lock=Yk){v0:Option D}:
  ∀(m k:Nat) (acc:List D) (x8 x9 x10:Option D),k+m=12->acc.length<=k->∃y8 y9 y10,dg it (b_ 8) lnB ((uH k m).map λ(i:Nat)=>D.int (i:Int)) [v0,Ya (.ref on),Ya (.str LET),Ya (.int v),Ya (.int (v / 4)),Ya (.str [bR (v / 4)]),Ya (.str [bR (v / 4 / 26)]),Ya (.ref M.length),x8,x9,x10] (M++[.lst acc])= .nx [v0,Ya (.ref on),Ya (.str LET),Ya (.int v),Ya (.int (v / 4)),Ya (.str [bR (v / 4)]),Ya (.str [bR (v / 4 / 26)]),Ya (.ref M.length),y8,y9,y10] (M++[.lst (acc++(uH k m).map λi=>D.str (jb (v % 4) (v / 4) i))])
 |0,k,acc,x8,x9,x10,_,_=>⟨x8,x9,x10,by show dg _ _ _ [] _ _=_;rw[pR,if_pos (by unfold locked;rw[hi])];simp⟩|m+1,k,acc,x8,x9,x10,h1,h2=>by obtain⟨y9,y10,hb⟩:=ZtE (v:=v) (acc:=acc) (k:=k) ho (by omega) (by omega) (v0:=v0) (x9:=x9) (x10:=x10);obtain⟨z8,z9,Jj,hl⟩:=Zoo ho hi m (k+1) (acc++[.str (jb (v % 4) (v / 4) k)]) (Ya (.int (k:Int))) y9 y10 (Y6 (by omega) (by omega)) (by rw[Yj];exact yL h2);refine⟨z8,z9,Jj,?_⟩;rw[ZS,Yw,Yw,pU,if_pos (by unfold locked;rw[hi])];simp only[b_,n8,n_];rw[hb];simp only;rw[hl,mW];rfl
section
variable {cs:List Int} {c d au:Nat} {M:Store}
theorem Zrr(dk:dM cs c d au M)(ha:au<900000):∃(S:Store) (n:Nat) (names:List (List Nat)),Nu [.ref d] M= .ok (.ref n) S/\S[n]?=Ya (.lst (names.map D.str))/\M.length<=n/\names.length=12/\(∀x∈names,dW x)/\names.Nodup/\dM cs c d (au+1) S/\Kp d M S:=by
 have ld:=dk.lt
 let M1:=M++[MO.lst (cZ.map D.str)]
 obtain⟨v,S1,hv,D1,Jk,l1⟩:=(dk.app [MO.lst (cZ.map D.str)]).draw (by omega);have ho:S1[M.length]?=Ya (.lst (cZ.map D.str)):=Jk.get (bY M _ []) (λz=>by omega);obtain⟨y8,y9,y10,hl⟩:=Zoo (v:=v) ho (it:=⟨jJ 0 12,Yk⟩) rfl (v0:=Ya (.ref d)) 12 0 [] Yk Yk Yk rfl (Yq _)
 let names:=(uH 0 12).map λi=>jb (v % 4) (v / 4) i
 have en:(uH 0 12).map (λi=>D.str (jb (v % 4) (v / 4) i))=names.map D.str:=by rw[lO];rfl
 have er:(uH 0 12).map (λ(i:Nat)=>D.int (i:Int))=jJ 0 12:=by simp[jJ,ZK]
 rw[jE,en,er]at hl;have hML:M.length<=S1.length:=by rw[l1];exact len_app M _
 refine⟨S1++[.lst (names.map D.str)],S1.length,names,?_,bY _ _ _,hML,rfl,λx hx=>by obtain⟨i,_,rfl⟩:=ji.mp hx;exact Zv6 _ _ i,?_,D1.app _,((Kp.app d M _).trans Jk).trans (Kp.app d S1 _)⟩
 .refine(kY (M':=S1++[.lst (names.map D.str)]) (env:=[Ya (.ref d),Yk,Yk,Yk,Yk,Yk,Yk,Yk,Yk,Yk,Yk]) ?_).trans (Oh hML);unfold VJ;refine(Zi (Zo (d:=.ref M.length) (M':=M1) (fY (ds:=cZ.map D.str) rfl rfl))).trans ((Zi (Zo (d:=.str LET) rfl)).trans ((Zi (Zo (di rfl hv))).trans ((Zi (Zo (d:=.int (v / 4)) (Zh rfl rfl (mJ (by decide))))).trans ((Zi (Zo (Zh rfl (Zh rfl rfl (gH (by decide))) (Jo _ _)))).trans ((Zi (Zo (Zh rfl (Zh (Zh rfl rfl (mJ (by decide))) rfl (gH (by decide))) (Jo _ _)))).trans ((Zi (Zo (d:=.ref S1.length) (M':=S1++[.lst []]) (fY rfl rfl))).trans ?_))))));have hr:wU (eC (.int 12)) [Ya (.ref d),Ya (.ref M.length),Ya (.str LET),Ya (.int v),Ya (.int (v / 4)),Ya (.str [bR (v / 4)]),Ya (.str [bR (v / 4 / 26)]),Ya (.ref S1.length),Yk,Yk,Yk] (S1++[.lst []])= .ok ⟨jJ 0 12,Yk⟩ (S1++[.lst []]):=by simp
  exact(Zi ((wW hr).trans hl)).trans (dF rfl)
 .have key:∀l:List Nat,l.Nodup->(∀i∈l,i<12)->(l.map λi=>jb (v % 4) (v / 4) i).Nodup:=by
   intro l
   induction l with
   |nil=>intro _ _;exact ZW|cons i l ih=>intro hn Qe;rw[Yw,su];refine⟨λhm=>?_,ih (su.mp hn).2 λj hj=>Qe j (Yg _ hj)⟩;obtain⟨j,hj,e⟩:=ji.mp hm;have:=ZsU (Qe j (Yg _ hj)) (Qe i Yl) e;exact(su.mp hn).1 (this▸hj)
  exact key _ (by decide) (by decide)
end
noncomputable abbrev lwI:S3:=(aK (cU (e1 iT (Zb 10)) (e2 dY (aJ bG (Za (Zb 8) (Ze))) (eC (.int 60)))) (aK (e1 iT (Zx Iu (Za (Zb 11) (Ze)))) (aR (eC (.bl false))) (aZ)) (aK (cU (e1 iT (Zx zZ (Za (Zx nG (Za (Zb 11) (Ze))) (Za (bD (Za (bD (Ze)) (Za (bD (Za (Zb 9) (Ze))) (Ze)))) (Ze))))) (e2 fj (Zx xQ (Za (bD (Za (bD (Ze)) (Za (bD (Za (Zb 9) (Ze))) (Ze)))) (Ze))) (Zb 11))) (aR (eC (.bl false))) (aZ)))
noncomputable abbrev lwC:S3:=(Zq (aA 11 (e2 Zt (aQ iz u5 (eC (.str [32])) (Za (Zb 8) (Ze))) (e2 Zm (aV (Za (eC (.str [])) (Za (eC (.str [10,101,108,115,101,10,101,110,100])) (Za (eC (.str [10,101,110,100])) (Za (eC (.str [])) (Za (eC (.str [])) (Ze))))))) (Zb 5)))) (Zq (aK (e2 aY (Zb 5) (eC (.int 1))) (aA 9 (e2 Zt (Zb 9) (bD (Za (bD (Ze)) (Za (bD (Ze)) (Ze)))))) (aZ)) (Zq (aK (e2 aY (Zb 5) (eC (.int 2))) (aA 9 (e2 Zt (Zb 9) (bD (Za (bD (Ze)) (Ze))))) (aZ)) lwI)))
noncomputable abbrev lwD:S3:=(Zq (aK (e2 aY (Zb 5) (eC (.int 3))) (Zq (aA 8 (e2 Zt (aV (Za (eC (.str [115,101,116])) (Za (e2 Zm (Zb 3) (Zb 4)) (Ze)))) (Zb 6))) (aA 9 (bD (Za (eC (.str [115,101,116])) (Za (e2 Zm (Zb 3) (Zb 4)) (Za (Zx o8 (Za (Zb 6) (Ze))) (Ze))))))) (aZ)) (Zq (aK (e2 aY (Zb 5) (eC (.int 4))) (Zq (aA 8 (e2 Zt (Zb 8) (Zb 7))) (Zq (aA 9 (bD (Za (eC (.str [112,117,116])) (Za (Zx o8 (Za (Zb 6) (Ze))) (Za (Zx o8 (Za (Zb 7) (Ze))) (Ze)))))) (aA 10 (gq (Zb 10) (e2 iU (Zx tX (Za (Zb 7) (Ze))) (eC (.int 6))))))) (aZ)) lwC))
noncomputable abbrev Jr:S3:=(Zq (aA 5 (e2 aU (e2 Zt (Zb 2) (Zb 4)) (eC (.int 5)))) (Zq (aA 6 (Zx xR (Za (Zb 1) (Za (Zb 3) (Ze))))) (Zq (aA 7 (Zx xR (Za (Zb 1) (Za (Zb 3) (Ze))))) (Zq (aA 8 (e2 Zt (aV (Za (e2 Zm (aV (Za (eC (.str [116,101,108,108])) (Za (eC (.str [119,104,101,110])) (Za (eC (.str [119,104,105,108,101])) (Za (eC (.str [115,101,116])) (Za (eC (.str [112,117,116])) (Ze))))))) (Zb 5)) (Ze))) (Zb 6))) (Zq (aA 9 (bD (Za (e2 Zm (Zb 8) (eC (.int 0))) (Za (Zx o8 (Za (Zb 6) (Ze))) (Ze))))) (Zq (aA 10 (e2 iU (Zx tX (Za (Zb 6) (Ze))) (eC (.int 7)))) lwD))))))
section
variable {x:List Nat} {t u:Sm} {v0 v1 v2 v3 v4 v6 v7:Option D}
theorem WP{wr:Nat}{de:List D}{b:Bool}(hw:way<5)(R:uc way x t u)(lt:t.flat.length<=125)(lu:u.flat.length<=125)(hwr:S[wr]?=Ya (.lst ((bH way x t u).words.map D.str)))(hb:b=true↔rG way t u)(hde:de++(if way=1 then[.tup [],.tup []]else if way=2 then[.tup []]else[])=jX way x t u)(hdl:de.length<=5){x11:Option D}:
  ∃S':Store,lwC [v0,v1,v2,v3,v4,Ya (.int (way:Int)),v6,v7,Ya (.ref wr),Ya (.tup de),Ya (.bl b),x11] S= .nx [v0,v1,v2,v3,v4,Ya (.int (way:Int)),v6,v7,Ya (.ref wr),Ya (.tup (jX way x t u)),Ya (.bl b),Ya (.str (nU way x t u))] S'/\S<+:S':=by
 let E:Zz:=[v0,v1,v2,v3,v4,Ya (.int (way:Int)),v6,v7,Ya (.ref wr),Ya (.tup (jX way x t u)),Ya (.bl b),Ya (.str (nU way x t u))]
 let E0:Zz:=[v0,v1,v2,v3,v4,Ya (.int (way:Int)),v6,v7,Ya (.ref wr),Ya (.tup de),Ya (.bl b),Ya (.str (nU way x t u))]
 let S1:=S++[MO.lst [.str [],.str [10,101,108,115,101,10,101,110,100],.str [10,101,110,100],.str [],.str []]]
 have hT:=Ov hw R;have h1:aA 11 (e2 Zt (aQ iz u5 (eC (.str [32])) (Za (Zb 8) (Ze))) (e2 Zm (aV (Za (eC (.str [])) (Za (eC (.str [10,101,108,115,101,10,101,110,100])) (Za (eC (.str [10,101,110,100])) (Za (eC (.str [])) (Za (eC (.str [])) (Ze))))))) (Zb 5))) [v0,v1,v2,v3,v4,Ya (.int (way:Int)),v6,v7,Ya (.ref wr),Ya (.tup de),Ya (.bl b),x11] S= .nx E0 S1:=by
  have hg:=N5 32 61 (bH way x t u).words λw h=>((Zke (by rw[R.sm];exactλz=>nomatch z) R.nm R.ft) w h).1;have hwl:(bH way x t u).words.length<=300:=by
   have:=R.wl;have:(bH way x t u).xs.length+(aN (bH way x t u).ts).length<=260:=by
    match way,hw with
    |0,_=>show 0+(aN [t]).length<=260;simp[aN];omega|1,_=>show 0+(aN [t]).length<=260;simp[aN];omega|2,_=>show 0+(aN [t]).length<=260;simp[aN];omega|3,_=>show 1+(aN [t]).length<=260;simp[aN];omega
    |4,_=>show 0+(aN [t,u]).length<=260;simp[aN];omega
   omega
  refine Zo (Zh (Ad rfl rfl (V9 hwr (Yi (show _<=100000 by omega) (by decide)))) (Al (ds:=[.str [],.str [10,101,108,115,101,10,101,110,100],.str [10,101,110,100],.str [],.str []]) (j:=way) (d:=.str (Oo way)) rfl rfl rfl ?_) ?_)
  .match way,hw with
   |0,_=>rfl|1,_=>rfl|2,_=>rfl|3,_=>rfl
   |4,_=>rfl
  .rw[ZmT,if_pos (by rw[nU,Yj]at hT;exact Yi hT (by decide))];rfl
 have ud:∀(k:Nat) (dd:List D),e2 aY (Zb 5) (eC (.int (k:Int))) [v0,v1,v2,v3,v4,Ya (.int (way:Int)),v6,v7,Ya (.ref wr),Ya (.tup dd),Ya (.bl b),Ya (.str (nU way x t u))] S1= .ok (.bl (decide (way=k))) S1:=λk dd=>Zh rfl rfl (by simp only[aY,sV];congr 2;exact decide_eq_decide.mpr (by omega));have done:lwI E S1= .nx E S1:=by
  have AcZ:S1[wr]?=Ya (.lst ((bH way x t u).words.map D.str)):=dR hwr _;have hlen:e2 dY (aJ bG (Za (Zb 8) (Ze))) (eC (.int 60)) E S1= .ok (.bl (decide (60<(bH way x t u).words.length))) S1:=Zh (dm rfl (oO AcZ)) rfl (by rw[pO,Ys];congr 2;exact decide_eq_decide.mpr (by omega));have c:cU (e1 iT (Zb 10)) (e2 dY (aJ bG (Za (Zb 8) (Ze))) (eC (.int 60))) E S1= .ok (.bl (!b|| decide (60<(bH way x t u).words.length))) S1:=by
   cases b with
   |false=>exact wX (dU rfl rfl)|true=>have h0:e1 iT (Zb 10) [v0,v1,v2,v3,v4,Ya (.int (way:Int)),v6,v7,Ya (.ref wr),Ya (.tup (jX way x t u)),Ya (.bl true),Ya (.str (nU way x t u))] S1= .ok (.bl false) S1:=dU rfl rfl;exact(ni h0).trans hlen
  cases hc:(!b|| decide (60<(bH way x t u).words.length))with
  | true=>
   rw[hc]at c;have hbad:¬rG way t u\/60<(bH way x t u).words.length:=by
    rw[wF,decide_eq_true_eq]at hc;rcases hc with z|z
    .exact .inl λg=>by rw[hb.mpr g]at z;cases z
    .exact .inr z
   exact(d7 c).trans (fC (M':=S1) (dU (di rfl (Zqg (ZyO hw R hbad S1))) rfl))
  | false=>rw[hc]at c;rw[Bool.or_eq_false_iff,decide_eq_false_iff_not]at hc;have hg:rG way t u:=hb.mp (by have:=hc.1;cases b<;>simp_all);have hl:(bH way x t u).words.length<=60:=ir hc.2;have pl:=Zta (x:=x) hw lt lu;have Xo:bD (Za (bD (Ze)) (Za (bD (Za (Zb 9) (Ze))) (Ze))) E S1= .ok (.tup [.tup [],.tup [.tup (jX way x t u)]]) S1:=iI (Zr (iI rfl rfl) (Zr (iI rfl rfl) rfl)) rfl;have c2:cU (e1 iT (Zx zZ (Za (Zx nG (Za (Zb 11) (Ze))) (Za (bD (Za (bD (Ze)) (Za (bD (Za (Zb 9) (Ze))) (Ze)))) (Ze))))) (e2 fj (Zx xQ (Za (bD (Za (bD (Ze)) (Za (bD (Za (Zb 9) (Ze))) (Ze)))) (Ze))) (Zb 11)) E S1= .ok (.bl false) S1:=(ni (M1:=S1) (dU (zq (di rfl (ZpS hw R hg hl pl S1)) Xo (ZmA 30 _ S1 pl)) rfl)).trans (Zh (di Xo (ZnO hw R hg hl S1)) rfl (Wz.trans (by rw[decide_eq_true rfl];rfl)));exact(jq c).trans (fC c2)
 have Xp:∀y:List D,y.length<=5->Zt (.tup de) (.tup y) S1= .ok (.tup (de++y)) S1:=λy hy=>Am (by omega) S1;refine⟨S1,(Zi h1).trans ?_,j8 _ _⟩;by_cases w1:way=1
 .rw[if_pos w1]at hde;have e1:=ud 1 de;rw[decide_eq_true w1]at e1;have e2':=ud 2 (jX way x t u);rw[decide_eq_false (by omega)]at e2';refine(Zi ((d7 e1).trans (Zo (Zh rfl (iI (Zr (iI rfl rfl) (Zr (iI rfl rfl) rfl)) rfl) (Xp [.tup [],.tup []] (by decide)))))).trans ?_;rw[hde];exact(Zi (fC e2')).trans done
 .rw[if_neg w1]at hde;have e1:=ud 1 de;rw[decide_eq_false w1]at e1;refine(Zi (fC e1)).trans ?_;by_cases w2:way=2
  .rw[if_pos w2]at hde;have e2':=ud 2 de;rw[decide_eq_true w2]at e2';refine(Zi ((d7 e2').trans (Zo (Zh rfl (iI (Zr (iI rfl rfl) rfl) rfl) (Xp [.tup []] (by decide)))))).trans ?_;rw[hde];exact done
  .rw[if_neg w2,gQ]at hde;have e2':=ud 2 de;rw[decide_eq_false w2]at e2';refine(Zi (fC e2')).trans ?_;rw[hde];exact done
end
noncomputable def Js:Nat->List Nat
 |0=>nP|1=>gZ|2=>lD|3=>gM
 |_=>lC
theorem Zx0(hw:way<5):([.str [116,101,108,108],.str [119,104,101,110],.str [119,104,105,108,101],.str [115,101,116],.str [112,117,116]]:List D)[way]?=Ya (.str (Js way)):=by
 match way,hw with
 |0,_=>rfl|1,_=>rfl|2,_=>rfl|3,_=>rfl
 |4,_=>rfl
theorem wm(l:List D):(l.map aX).map D.str=bA l:=by rw[lO];rfl
theorem ZrH(hw:way<5)(w3:way≠3)(w4:way≠4)(x:List Nat)(t u:Sm):[D.str (Js way)]++bA t.flat=(bH way x t u).words.map D.str/\[D.str (Js way),.tup t.flat]++(if way=1 then[.tup [],.tup []]else if way=2 then[.tup []]else[])=jX way x t u:=by
 have e:aN [t]=t.flat:=by simp[aN]
 match way,hw,w3,w4 with
 |0,_,_,_=>exact⟨by show _= .str nP::([]++(aN [t]).map aX).map D.str;rw[e,jE,wm];rfl,rfl⟩|1,_,_,_=>exact⟨by show _= .str gZ::([]++(aN [t]).map aX).map D.str;rw[e,jE,wm];rfl,rfl⟩|2,_,_,_=>exact⟨by show _= .str lD::([]++(aN [t]).map aX).map D.str;rw[e,jE,wm];rfl,rfl⟩|3,_,w3,_=>exact absurd rfl w3
 |4,_,_,w4=>exact absurd rfl w4
theorem ZvA(x:List Nat)(t u:Sm):[D.str gM,.str x]++bA t.flat=(bH 3 x t u).words.map D.str:=by
 have e:aN [t]=t.flat:=by simp[aN]
 show _= .str gM:: .str x::((aN [t]).map aX).map D.str;rw[e,wm];rfl
theorem Zu9(x:List Nat)(t u:Sm):[D.str (Js 4)]++bA t.flat++bA u.flat=(bH 4 x t u).words.map D.str:=by
 have e:aN [t,u]=t.flat++u.flat:=by simp[aN]
 show _= .str lC::([]++(aN [t,u]).map aX).map D.str;rw[e,jE,wm,Ak];rfl
section
variable {cs:List Int} {c d:Nat} {M:Store}
theorem ZsP{nr au k:Nat}{cell:Int}(dk:dM cs c d au S)(hnr:S[nr]?=Ya (.lst (names.map D.str)))(nd:nr≠d)(hn:names.length=12)(hnm:∀x∈names,dW x)(hk:k<4)(ha:au+500<1000000){x5 x6 x7 x8 x9 x10 x11:Option D}:
  ∃(S':Store) (at':Nat) (y5 y6 y7 y8 y9 y10 y11:Option D),Jr [v0,Ya (.ref d),Ya (.int cell),Ya (.ref nr),Ya (.int (k:Int)),x5,x6,x7,x8,x9,x10,x11] S= .nx [v0,Ya (.ref d),Ya (.int cell),Ya (.ref nr),Ya (.int (k:Int)),y5,y6,y7,y8,y9,y10,y11] S'/\dM cs c d at' S'/\Kp d S S'/\at'<=au+142:=by
 obtain⟨way,ew,hw⟩:=nH (cell+k) 5 (by decide);have ew:(cell+k) % 5=(way:Int):=ew;obtain⟨t,S1,n1,a1,ht,lt,q1,g1,l1,D1,K1,b1⟩:=Zko dk hnr nd hn hnm (by omega);have hn1:=K1.get hnr nd;obtain⟨u,S2,n2,a2,hu,lu,q2,g2,l2,D2,K2,b2⟩:=Zko D1 hn1 nd hn hnm (by omega);have hn2:=K2.get hn1 nd;have hd1:n1≠d:=λz=>by have:=dk.lt.2;omega
 have g1':S2[n1]?=Ya (.lst (bA t.flat)):=K2.get g1 hd1;have hkl:k<names.length:=by omega
 let x:=names[k]
 have hx:dW x:=hnm x (wg hkl);have hxk:names[k]?=Ya x:=j7 hkl;have R:uc way x t u:=r65 hw hx ht hu lt lu;have lw1:(bA t.flat).length<=125:=by rw[xW];exact lt
 have lw2:(bA u.flat).length<=125:=by rw[xW];exact lu
 have wt:(t.flat.map aX).map D.str=bA t.flat:=by rw[lO];rfl
 let E:Zz:=[v0,Ya (.ref d),Ya (.int cell),Ya (.ref nr),Ya (.int (k:Int)),Ya (.int (way:Int)),Ya (.ref n1),Ya (.ref n2),x8,x9,x10,x11]
 let hdw:List Nat:=Js way
 have hdk:=Zx0 hw;have w8:LF (e2 Zt (aV (Za (e2 Zm (aV (Za (eC (.str [116,101,108,108])) (Za (eC (.str [119,104,101,110])) (Za (eC (.str [119,104,105,108,101])) (Za (eC (.str [115,101,116])) (Za (eC (.str [112,117,116])) (Ze))))))) (Zb 5)) (Ze))) (Zb 6)) E S2 ([.str hdw]++bA t.flat):=LE.add ⟨_,_,fY (Zr (Al (ds:=[.str [116,101,108,108],.str [119,104,101,110],.str [119,104,105,108,101],.str [115,101,116],.str [112,117,116]]) (j:=way) rfl rfl rfl hdk) rfl) rfl,(j8 _ _).trans (j8 _ _),bY _ _ _⟩ (λT pT=>LE.var (i:=6) rfl (iZ pT g1')) (by rw[Y0];omega);obtain⟨wr,S3,q8,p3,g8,_⟩:=w8;have Qf:=iZ p3 g1';have Qg:=iZ p3 g2;have dw:∀T,S3<+:T->o8 [.ref n1] T= .ok (.tup t.flat) T:=λT pT=>ZoV ht (Yi lt (by decide)) (iZ pT Qf);have dw2:∀T,S3<+:T->o8 [.ref n2] T= .ok (.tup u.flat) T:=λT pT=>ZoV hu (Yi lu (by decide)) (iZ pT Qg);have dd:∀T,S3<+:T->tX [.ref n1] T= .ok (.int (t.dp:Int)) T:=λT pT=>Zon ht (Yi lt (by decide)) (iZ pT Qf);have dd2:∀T,S3<+:T->tX [.ref n2] T= .ok (.int (u.dp:Int)) T:=λT pT=>Zon hu (Yi lu (by decide)) (iZ pT Qg)
 let b0:Bool:=decide ((t.dp:Int)<7)
 let E9:Zz:=[v0,Ya (.ref d),Ya (.int cell),Ya (.ref nr),Ya (.int (k:Int)),Ya (.int (way:Int)),Ya (.ref n1),Ya (.ref n2),Ya (.ref wr),Ya (.tup [.str hdw,.tup t.flat]),Ya (.bl b0),x11]
 have start:∀o:O3,lwD E9 S3=o->Jr [v0,Ya (.ref d),Ya (.int cell),Ya (.ref nr),Ya (.int (k:Int)),x5,x6,x7,x8,x9,x10,x11] S=o:=λo h=>by refine(Zi (Zo (d:=.int (way:Int)) (Zh (Zh rfl rfl rfl) rfl ((gH (by decide)).trans (by rw[ew]))))).trans ?_;refine(Zi (Zo (zq rfl rfl q1))).trans ((Zi (Zo (zq rfl rfl q2))).trans ?_);refine(Zi (Zo q8)).trans ?_;refine(Zi (Zo (d:=.tup [.str hdw,.tup t.flat]) (M':=S3) (iI (Zr (Zh rfl rfl (jr g8 (gU _ 0))) (Zr (di rfl (dw S3 (rZ _))) rfl)) rfl))).trans ?_;exact(Zi (Zo (d:=.bl b0) (M':=S3) (Zh (di rfl (dd S3 (rZ _))) rfl (uV _ _)))).trans h
 have ud:∀(j:Nat) (a b c:Option D) (T:Store),e2 aY (Zb 5) (eC (.int (j:Int))) [v0,Ya (.ref d),Ya (.int cell),Ya (.ref nr),Ya (.int (k:Int)),Ya (.int (way:Int)),Ya (.ref n1),Ya (.ref n2),a,b,c,x11] T= .ok (.bl (decide (way=j))) T:=λj a b c T=>Zh rfl rfl (by simp only[aY,sV];congr 2;exact decide_eq_decide.mpr (by omega));have fin:∀{T S':Store} {y8 y9 y10 y11:Option D} {o:O3},S3<+:T->T<+:S'->o= .nx [v0,Ya (.ref d),Ya (.int cell),Ya (.ref nr),Ya (.int (k:Int)),Ya (.int (way:Int)),Ya (.ref n1),Ya (.ref n2),y8,y9,y10,y11] S'->Jr [v0,Ya (.ref d),Ya (.int cell),Ya (.ref nr),Ya (.int (k:Int)),x5,x6,x7,x8,x9,x10,x11] S=o->∃(S':Store) (at':Nat) (y5 y6 y7 y8 y9 y10 y11:Option D),Jr [v0,Ya (.ref d),Ya (.int cell),Ya (.ref nr),Ya (.int (k:Int)),x5,x6,x7,x8,x9,x10,x11] S= .nx [v0,Ya (.ref d),Ya (.int cell),Ya (.ref nr),Ya (.int (k:Int)),y5,y6,y7,y8,y9,y10,y11] S'/\dM cs c d at' S'/\Kp d S S'/\at'<=au+142:=λ{T S' y8 y9 y10 y11 o} pT pS e h=>
  have p:=(p3.trans pT).trans pS
  ⟨S',a2,_,_,_,y8,y9,y10,y11,h.trans e,D2.pre p,(K1.trans K2).pre p,by omega⟩
 by_cases w3:way=3
 .have c3:=ud 3 (Ya (.ref wr)) (Ya (.tup [.str hdw,.tup t.flat])) (Ya (.bl b0)) S3;rw[decide_eq_true w3]at c3;have nmx:∀T,S3<+:T->∀{a b c:Option D},e2 Zm (Zb 3) (Zb 4) [v0,Ya (.ref d),Ya (.int cell),Ya (.ref nr),Ya (.int (k:Int)),Ya (.int (way:Int)),Ya (.ref n1),Ya (.ref n2),a,b,c,x11] T= .ok (.str x) T:=λT pT {a b c}=>Zh rfl rfl (jr (iZ (p3.trans pT) hn2) (d:=.str x) (by rw[gU,lM,hxk];rfl));obtain⟨Jt,S4,q9,p4,g9,_⟩:=LE.add (env:=E9) (M:=S3) (LF.lst (ds:=[.str gM,.str x]) (g:=Za (eC (.str [115,101,116])) (Za (e2 Zm (Zb 3) (Zb 4)) (Ze))) (Zr rfl (Zr (nmx S3 (rZ _)) rfl)) rfl).le (λT pT=>LE.var (i:=6) rfl (iZ pT Qf)) (by show 2+_<=_;omega);have c4:=ud 4 (Ya (.ref Jt)) (Ya (.tup [.str gM,.str x,.tup t.flat])) (Ya (.bl b0)) S4;rw[decide_eq_false (by omega)]at c4;obtain⟨S',e,pS⟩:=WP (v0:=v0) (v1:=Ya (.ref d)) (v2:=Ya (.int cell)) (v3:=Ya (.ref nr)) (v4:=Ya (.int (k:Int))) (v6:=Ya (.ref n1)) (v7:=Ya (.ref n2)) (wr:=Jt) (S:=S4) (de:=[.str gM,.str x,.tup t.flat]) (b:=b0) hw R lt lu (by rw[g9];subst w3;rw[ZvA x t u]) (by
   subst w3;exact⟨λh=>⟨by have:=of_decide_eq_true h;omega,λz=>nomatch z⟩,λh=>decide_eq_true (by have:=h.1;omega)⟩) (by subst w3;rfl) (show 3<=5 by decide) (x11:=x11)
  refine fin p4 pS e (start _ ((Zi ((d7 c3).trans ((Zi (Zo q9)).trans (Zo (d:=.tup [.str gM,.str x,.tup t.flat]) (M':=S4) (iI (Zr rfl (Zr (nmx S4 p4) (Zr (di rfl (dw S4 p4)) rfl))) rfl))))).trans (Zi (fC c4))))
 .have c3:=ud 3 (Ya (.ref wr)) (Ya (.tup [.str hdw,.tup t.flat])) (Ya (.bl b0)) S3;rw[decide_eq_false w3]at c3;have c4:=ud 4 (Ya (.ref wr)) (Ya (.tup [.str hdw,.tup t.flat])) (Ya (.bl b0)) S3;by_cases w4:way=4
  .rw[decide_eq_true w4]at c4;obtain⟨Jt,S4,q9,p4,g9,_⟩:=LE.add (env:=E9) (M:=S3) (LE.var (i:=8) rfl g8) (λT pT=>LE.var (i:=7) rfl (iZ pT Qg)) (by rw[Yj,Y0];omega)
   let b1:Bool:=b0&&decide ((u.dp:Int)<6)
   have hb1:gq (Zb 10) (e2 iU (Zx tX (Za (Zb 7) (Ze))) (eC (.int 6))) [v0,Ya (.ref d),Ya (.int cell),Ya (.ref nr),Ya (.int (k:Int)),Ya (.int (way:Int)),Ya (.ref n1),Ya (.ref n2),Ya (.ref Jt),Ya (.tup [.str lC,.tup t.flat,.tup u.flat]),Ya (.bl b0),x11] S4= .ok (.bl b1) S4:=by
    cases hb:b0 with
    |true=>rw[Cu (M1:=S4) rfl,show b1=decide ((u.dp:Int)<6)by simp[b1,hb]];exact Zh (di rfl (dd2 S4 p4)) rfl (uV _ _)|false=>rw[show b1=false by simp[b1,hb]];exact L_ rfl
   obtain⟨S',e,pS⟩:=WP (v0:=v0) (v1:=Ya (.ref d)) (v2:=Ya (.int cell)) (v3:=Ya (.ref nr)) (v4:=Ya (.int (k:Int))) (v6:=Ya (.ref n1)) (v7:=Ya (.ref n2)) (wr:=Jt) (S:=S4) (de:=[.str lC,.tup t.flat,.tup u.flat]) (b:=b1) hw R lt lu (by rw[g9];subst w4;rw[←Zu9 x t u]) (by subst w4;show(decide ((t.dp:Int)<7)&&decide ((u.dp:Int)<6))=true↔_;rw[Y3,decide_eq_true_eq,decide_eq_true_eq];exact⟨λh=>⟨by omega,λ_=>by omega⟩,λh=>⟨by have:=h.1;omega,by have:=h.2 rfl;omega⟩⟩) (by subst w4;rfl) (show 3<=5 by decide) (x11:=x11);exact fin p4 pS e (start _ ((Zi (fC c3)).trans (Zi ((d7 c4).trans ((Zi (Zo q9)).trans ((Zi (Zo (d:=.tup [.str lC,.tup t.flat,.tup u.flat]) (M':=S4) (iI (Zr rfl (Zr (di rfl (dw S4 p4)) (Zr (di rfl (dw2 S4 p4)) rfl))) rfl))).trans (Zo hb1)))))))
  .rw[decide_eq_false w4]at c4;obtain⟨S',e,pS⟩:=WP (v0:=v0) (v1:=Ya (.ref d)) (v2:=Ya (.int cell)) (v3:=Ya (.ref nr)) (v4:=Ya (.int (k:Int))) (v6:=Ya (.ref n1)) (v7:=Ya (.ref n2)) (wr:=wr) (S:=S3) (de:=[.str hdw,.tup t.flat]) (b:=b0) hw R lt lu (by rw[g8,←(ZrH hw w3 w4 x t u).1]) ⟨λh=>⟨by have:=of_decide_eq_true h;omega,λz=>absurd z w4⟩,λh=>decide_eq_true (by have:=h.1;omega)⟩ (ZrH hw w3 w4 x t u).2 (show 2<=5 by decide) (x11:=x11);exact fin (rZ _) pS e (start _ ((Zi (fC c3)).trans (Zi (fC c4))))
theorem Zoc{nr:Nat}{names:List (List Nat)}{cell:Int}(nd:nr≠d)(hn:names.length=12)(hnm:∀x∈names,dW x){it:fW}(hit:it.lock=Yk){v0:Option D}:
  ∀(m k:Nat) (S:Store) (au:Nat) (x4 x5 x6 x7 x8 x9 x10 x11:Option D),k+m=4->dM cs c d au S->S[nr]?=Ya (.lst (names.map D.str))->au+150*m+500<1000000 ->
  ∃(S':Store) (y4 y5 y6 y7 y8 y9 y10 y11:Option D),dg it (b_ 4) Jr ((uH k m).map λ(i:Nat)=>D.int (i:Int)) [v0,Ya (.ref d),Ya (.int cell),Ya (.ref nr),x4,x5,x6,x7,x8,x9,x10,x11] S= .nx [v0,Ya (.ref d),Ya (.int cell),Ya (.ref nr),y4,y5,y6,y7,y8,y9,y10,y11] S'
 |0,k,S,au,x4,x5,x6,x7,x8,x9,x10,x11,_,_,_,_=>⟨S,x4,x5,x6,x7,x8,x9,x10,x11,by show dg _ _ _ [] _ _=_;rw[pR,if_pos (by unfold locked;rw[hit])]⟩|m+1,k,S,au,x4,x5,x6,x7,x8,x9,x10,x11,h1,dk,hnr,ha=>by obtain⟨S1,a1,y5,y6,y7,y8,y9,y10,y11,hb,D1,K1,l1⟩:=ZsP (cell:=cell) dk hnr nd hn hnm (k:=k) (by omega) (by omega) (v0:=v0) (x5:=x5) (x6:=x6) (x7:=x7) (x8:=x8) (x9:=x9) (x10:=x10) (x11:=x11);obtain⟨S2,z4,z5,z6,z7,z8,z9,Jj,z11,hl⟩:=Zoc (cell:=cell) nd hn hnm hit m (k+1) S1 a1 (Ya (.int (k:Int))) y5 y6 y7 y8 y9 y10 y11 (Y6 (by omega) (by omega)) D1 (K1.get hnr nd) (by omega) (v0:=v0);refine⟨S2,z4,z5,z6,z7,z8,z9,Jj,z11,?_⟩;rw[ZS,Yw,pU,if_pos (by unfold locked;rw[hit])];simp only[b_,n8,n_];rw[hb];exact hl
end
theorem law_holds:∀ns:List Int,ns.length<=63->∃M',ZoK [.bM (ns.map D.int)] []= .ok (.bl true) M':=by
 intro ns hns
 let sc:=ns.map D.int
 refine Rt.law (env:=[Ya (.bM sc),Yk,Yk,Yk,Yk,Yk,Yk,Yk,Yk,Yk,Yk,Yk]) ?_;unfold V0;have Ac0:cutD sc Yk (Ya ((120:Nat):Int))=sc:=Zuf _ _ (by show(ns.map D.int).length<=120;rw[Ys];omega)
 let S0:Store:=[.lst sc,.lst [.ref 0,.int 0]]
 have h1:aV (Za (c7 (Zb 0) (dZ) (cW (eC (.int 120)))) (Za (eC (.int 0)) (Ze))) [Ya (.bM sc),Yk,Yk,Yk,Yk,Yk,Yk,Yk,Yk,Yk,Yk,Yk] []= .ok (.ref 1) S0:=by refine fY (M':=[.lst sc]) (ds:=[.ref 0,.int 0]) (Zr ?_ rfl) rfl;show alloc (.lst (cutD sc Yk (Ya ((120:Nat):Int)))) []=_;rw[Ac0];rfl
 have dk:dM ns 0 1 0 S0:=⟨rfl,rfl,by decide⟩;obtain⟨v,S1,hv,D1,K1,_⟩:=dk.draw (by decide);obtain⟨S2,nr,names,hnm,gn,ln,h12,ok,_,D2,K2⟩:=Zrr D1 (by decide);have nd:nr≠1:=λz=>by have:=D1.lt.2;omega
 obtain⟨S3,y4,y5,y6,y7,y8,y9,y10,y11,hl⟩:=Zoc (cell:=v) nd h12 ok (it:=⟨jJ 0 4,Yk⟩) rfl (v0:=Ya (.bM sc)) 4 0 S2 (0+1+1) Yk Yk Yk Yk Yk Yk Yk Yk rfl D2 gn (by decide);have er:(uH 0 4).map (λ(i:Nat)=>D.int (i:Int))=jJ 0 4:=by simp[jJ,ZK]
 rw[er]at hl;refine Rt.step (Zo h1) (Rt.step (Zo (di rfl hv)) (Rt.step (Zo (di rfl hnm)) (Rt.step ((wW (it:=⟨jJ 0 4,Yk⟩) (M':=S2) (by simp)).trans hl) ?_)));exact Rt.ret rfl
end Law
set_option maxHeartbeats 400000
namespace Law
open PySem PySem.Spec PyProof.Rows L2 L3
variable{P:List Ye->Prop}
theorem uZ(h:P []):∀us:List Ye,us.length=0->P us:=λus e=>(J7 e)▸h
theorem uS{n:Nat}(h:∀a us,us.length=n->P (a::us))(us:List Ye)(e:us.length=n+1):P us:=by
 cases us with
 |nil=>exact absurd e (Nat.succ_ne_zero n).symm|cons a us=>exact h a us (R6 e)
variable{xa:aj}
theorem jc(h:∀a,P [a]):∀us:List Ye,us.length=[xa].length->P us:=uS λa=>uZ (h a)
theorem Fe{xb:aj}(h:∀a b,P [a,b]):∀us:List Ye,us.length=[xa,xb].length->P us:=uS λa=>uS λb=>uZ (h a b)
theorem ub4{xb xc xd:aj}(h:∀a b c d,P [a,b,c,d]):∀us:List Ye,us.length=[xa,xb,xc,xd].length->P us:=uS λa=>uS λb=>uS λc=>uS λd=>uZ (h a b c d)
theorem ub5{xb xc xd xe:aj}(h:∀a b c d e,P [a,b,c,d,e]):∀us:List Ye,us.length=[xa,xb,xc,xd,xe].length->P us:=uS λa=>uS λb=>uS λc=>uS λd=>uS λe=>uZ (h a b c d e)
noncomputable def kN(s:Ydi):aj:=match s with
 | .FunctionDef n _ _ _ _ _ _ _ _ _=>n|_=>Bw
noncomputable def kE(P:Params)(x:aj)(t:Nat)(v:Ye):DictEntry:=⟨PyData.keyHash P x,.str x t,v⟩
noncomputable def kC(n q:aj)(r t l k u:Nat):aD:=⟨.type "code",Yk,.fields #[.str n t,.str q (t+1),.str "/claim/cut.py" (t+2),.int l 0,.int k 0,.int 0 0,.int 0 0,.int 3 0,.ref r,.bool true,.int 181 0,.ref (r+1),.none,.ref (r+2),.ref (r+3),.ref (r+4),.int u 0,.int l 0,.str "/claim/cut.py" (u+1)],#[]⟩
noncomputable def kD(n q:aj)(r t l k u:Nat):aD:=⟨.type "code",Yk,.fields #[.str n t,.str q (t+1),.str "/claim/cut.py" (t+2),.int l 0,.int k 0,.int 0 0,.int 0 0,.int 3 0,.ref r,.bool true,.int 181 0,.ref (r+1),.none,.none,.none,.ref (r+2),.int u 0,.int l 0,.str "/claim/cut.py" (u+1)],#[]⟩
noncomputable def kF(s:Ydi)(n q:aj)(v m:Ye)(c:Nat):aD:=⟨.type "function",Yk,.func (W.fnOf n q (m_ s) (iG s) (Zn s) v .none .none m Yk (.ref c) .none),#[]⟩
noncomputable def kU(s:Ydi)(r t l k u:Nat):aD:=kC (kN s) (kN s) r t l k u
noncomputable def kV(s:Ydi)(r t l k u:Nat):aD:=kD (kN s) (kN s) r t l k u
noncomputable def kG(s:Ydi)(m:Ye)(c:Nat):aD:=kF s (kN s) (kN s) .none m c
def fK(K:vR)(f c:Nat)(s:Ydi)(n:aj)(m:Ye):Prop:=eN K b7 n=Ya (Ya (.ref f))/\K.lookup f=Ya (kF s n n .none m c)/\Qx K (.ref c) n=true/\JS K (.ref f)=true
noncomputable def kM0:Ye:=.str "stepledger.errors" 187
noncomputable def kM1:Ye:=.str "stepledger.rolls" 232
noncomputable def Oz:Ye:=.str "stepledger.sums" 250
noncomputable def pB:Ye:=.str "stepledger.texts" 291
noncomputable def uf:Ye:=.str "law_stepledger_k65_deep_sums" 467
noncomputable def k3(P:Params):aD:=⟨.type "dict",Yk,.dict #[kE P "__name__" 165 (.str "law_stepledger_k65_deep_sums" 467),kE P "__doc__" 166 .none,kE P "__package__" 167 .none,kE P "__loader__" 168 (.builtin "__main__.__loader__#opaque"),kE P "__spec__" 169 .none,kE P "__annotations__" 170 (.ref 6),kE P "__builtins__" 171 (.ref 4),kE P "__file__" 173 (.str "/claim/cut.py" 172),kE P "__cached__" 174 .none,kE P "LedgerError" 206 (.ref 24),kE P "BadRow" 231 (.ref 44),kE P "FIGURES" 235 (.str "0123456789" 234),kE P "MOST_FIGURES" 237 (.int 60 236),kE P "is_number" 243 (.ref 51),kE P "shown_row" 249 (.ref 56),kE P "PARTS" 264 (.ref 57),kE P "sums_in" 270 (.ref 62),kE P "needs_sums" 277 (.ref 69),kE P "parts_of" 284 (.ref 76),kE P "depth" 290 (.ref 81),kE P "LETTERS" 294 (.str "abcdefghijklmnopqrstuvwxyz" 293),kE P "MOST_LETTERS" 296 (.int 8 295),kE P "MOST_TAKEN" 298 (.int 6 297),kE P "MOST_WORDS" 300 (.int 60 299),kE P "MOST_DEPTH" 302 (.int 6 301),kE P "MOST_BLOCKS" 304 (.int 12 303),kE P "WORDS" 317 (.ref 82),kE P "SUMS" 339 (.ref 83),kE P "LISTS" 346 (.ref 84),kE P "Block" 376 (.ref 101),kE P "read" 382 (.ref 110),kE P "read_taken" 388 (.ref 115),kE P "is_name" 394 (.ref 120),kE P "read_deeds" 406 (.ref 127),kE P "read_deed" 412 (.ref 132),kE P "read_sums" 418 (.ref 137),kE P "can_stand" 428 (.ref 144),kE P "place_deed" 434 (.ref 149),kE P "shown" 440 (.ref 154),kE P "text_rows" 448 (.ref 161),kE P "text_rows_of_deeds" 457 (.ref 168),kE P "text_rows_of_deed" 466 (.ref 175),kE P "_law_next" 477 (.ref 182),kE P "_law_same" 483 (.ref 187),kE P "_law_names" 500 (.ref 194),kE P "_law_leaning" 513 (.ref 201),kE P "_law_sum" 530 (.ref 208),kE P "_law_any_sum" 541 (.ref 215),kE P "_law_depth" 551 (.ref 222),kE P "_law_words" 560 (.ref 229),kE P "_law_refused" 569 (.ref 236),kE P "law" 587 (.ref 243)] 52,#[]⟩
theorem ZvR{l:PySem.W.OpenLaw}{w:aO}{K:vR}{h:aC}{mg:aj->Option Ye}{fa f0 f1 f2 f3 f4 f5 f6 f7 f8 f9 f10 f11 f12 f13 f14 f15 f16 f17 f18 f19 f20 f21 f22 f23 f24 f25 f26 f27 f28:Yt}(X:K.In h)(G:h.Ns b7 mg)(hfa:mg "law" =Ya (.ref fa)){od8 an8:Option Yt}{sl8:Array (Option Ye)}{oc8 kV8 dc8 pm8 cd8 ct8:Ye}{AbE AbF AaN AaO Aao Aap AaP AaQ:eO}{cR:Yt}{Xf:Yt}{Xg:Yt}{Xk:Yt}{Xh:Yt}{eX cu iK:Yt}{Aaq Pn:ClassData}{Aar Aas:aj}{WW:Yt}{Aat Aau:List Ye}{Aav Aaw:Bool}{Aax:List aj}{Aay:Option Bool}{Aaz AaA:Option Yt}{AaB AaC AaD AaE AaF:Option Ye}{AaG:Ye}{O4:Array DictEntry}{AaH:Nat}{AaI:Array (Option Ye)}{AbG AbH:aj}{W9:Yt}{AbI AbJ:List Ye}{AbK AbL:Bool}{AbM:List aj}{AbN:Option Bool}{AbO AbP:Option Yt}{AbQ AbR AbS AbT AbU:Option Ye}{AbV:Ye}{Pq:Array DictEntry}{AbW:Nat}{AbX:Array (Option Ye)}{W6 AbY AbZ Ab0 W7 Ab1:Ye}{Ab2 Ab3:Option Yt}{Ab4:Array (Option Ye)}{g0 g1 g2 g3 g4 g5 g6 g7 g9 g10 g11 g12 g13 g14 g15 g16 g17 g18 g19 g20 g21 g22 g23 g24 g25 g26 g27 g28:Nat}{m0 m1 m2 m3 m4 m5 m6 m7 m9 m10 m11 m12 m13 m14 m15 m16 m17 m18 m19 m20 m21 m22 m23 m24 m25 m26 m27 m28:Ye}(W8:eN K b7 "Block" =Ya (Ya (.ref cR)))(Abt:JN K cR Bw=true)(Abu:JM K cR=true)(Abv:Qm K cR=true)(Abw:Y9 K (.ref cR) "__setattr__" =Ya (Ya (.builtin "object.__setattr__")))(Abx:JP K cR=true)(Aby:JS K (.ref cR)=true)(AaJ:Y9 K (.ref cR) "head" =Ya Yk)(Aak:Y9 K (.ref cR) "lists" =Ya Yk)(a0:fK K f0 g0 Dt "is_number" m0)(a1:fK K f1 g1 Du "shown_row" m1)(a2:fK K f2 g2 Dv "sums_in" m2)(a3:fK K f3 g3 Dw "needs_sums" m3)(a4:fK K f4 g4 Dy "parts_of" m4)(a5:fK K f5 g5 Dz "depth" m5)(a6:fK K f6 g6 DN "is_name" m6)(a7:fK K f7 g7 DK "read_taken" m7)(a8:Y9 K (.ref cR) "__init__" =Ya (Ya (.ref f8)))(i8:JR K (.ref f8)=true)(l8:K.lookup f8=Ya ⟨oc8,od8,.func (W.fnOf "__init__" "Block.__init__" (m_ z_) (iG z_) (Zn z_) .none kV8 dc8 pm8 an8 cd8 ct8),sl8⟩)(c8:Qx K cd8 "Block.__init__" =true)(k8:JS K (.ref f8)=true)(a9:fK K f9 g9 DR "read_sums" m9)(a10:fK K f10 g10 DQ "read_deed" m10)(a11:fK K f11 g11 DW "can_stand" m11)(a12:fK K f12 g12 DX "place_deed" m12)(a13:fK K f13 g13 DP "read_deeds" m13)(a14:fK K f14 g14 DG "read" m14)(a15:fK K f15 g15 Eb "text_rows_of_deed" m15)(a16:fK K f16 g16 Ea "text_rows_of_deeds" m16)(a17:fK K f17 g17 D_ "text_rows" m17)(a18:fK K f18 g18 DY "shown" m18)(a19:fK K f19 g19 Ec "_law_next" m19)(a20:fK K f20 g20 Ed "_law_same" m20)(a21:fK K f21 g21 Ef "_law_names" m21)(a22:fK K f22 g22 Eg "_law_leaning" m22)(a23:fK K f23 g23 Eh "_law_sum" m23)(a24:fK K f24 g24 Ei "_law_any_sum" m24)(a25:fK K f25 g25 Ej "_law_depth" m25)(a26:fK K f26 g26 Ek "_law_words" m26)(a27:fK K f27 g27 El "_law_refused" m27)(a28:fK K f28 g28 vy "law" m28)(AcD:eN K b7 "all" =Ya Yk)(Acv:eN K b7 "bool" =Ya Yk)(Aa0:eN K b7 "enumerate" =Ya Yk)(AcE:eN K b7 "int" =Ya Yk)(AaR:eN K b7 "isinstance" =Ya Yk)(AcF:eN K b7 "len" =Ya Yk)(Acw:eN K b7 "list" =Ya Yk)(AcG:eN K b7 "max" =Ya Yk)(Ach:eN K b7 "range" =Ya Yk)(Abz:eN K b7 "reversed" =Ya Yk)(AcH:eN K b7 "set" =Ya Yk)(AcI:eN K b7 "str" =Ya Yk)(Aci:eN K b7 "tuple" =Ya Yk)(vJ:eN K b7 "FIGURES" =Ya (Ya (.str "0123456789" AbE)))(xZ:eN K b7 "LETTERS" =Ya (Ya (.str "abcdefghijklmnopqrstuvwxyz" AbF)))(Acj:eN K b7 "LISTS" =Ya (Ya (.ref Xf)))(Aa1:mG K Xf o5)(xY:eN K b7 "MOST_BLOCKS" =Ya (Ya (.int 12 AaN)))(ug:eN K b7 "MOST_DEPTH" =Ya (Ya (.int 6 AaO)))(rJ:eN K b7 "MOST_FIGURES" =Ya (Ya (.int 60 Aao)))(rK:eN K b7 "MOST_LETTERS" =Ya (Ya (.int 8 Aap)))(Av:eN K b7 "MOST_TAKEN" =Ya (Ya (.int 6 AaP)))(rN:eN K b7 "MOST_WORDS" =Ya (Ya (.int 60 AaQ)))(Ack:eN K b7 "PARTS" =Ya (Ya (.ref Xg)))(Aa2:mG K Xg o6)(Acx:eN K b7 "SUMS" =Ya (Ya (.ref Xk)))(AbA:mG K Xk gB)(vh:eN K b7 "WORDS" =Ya (Ya (.ref Xh)))(Aa3:Dh K (cZ.map λy=>(⟨y.toArray⟩:aj)) (.ref Xh)=true)(Aal:eN K b7 "LedgerError" =Ya (Ya (.ref eX)))(W5:eN K b7 "BadRow" =Ya (Ya (.ref cu)))(Ac2:ux K eX=Ya Aaq)(Ac3:Qv K (.ref eX)=Ya (.type "type"))(Ac4:JQ K (.ref eX) (.ref eX)=Ya true)(Jz:ux K cu=Ya Pn)(Aa4:Qv K (.ref cu)=Ya (.type "type"))(Ac7:JQ K (.ref cu) (.ref cu)=Ya true)(Aaf:K.lookup eX=Ya (vV Aar Aas eX WW Aat [.type "ValueError",.type "Exception",.type "BaseException",.type "object"] Aav Aax Aau Aaw Aay Aaz AaB AaC AaD AaE AaF "ValueError.__new__"))(Aag:K.lookup WW=Ya ⟨AaG,AaA,.dict O4 AaH,AaI⟩)(Aah:Ng O4=true)(Aai:nsFind O4 "__init__" =Yk)(Aa5:K.lookup cu=Ya (vV AbG AbH cu W9 AbI [.ref eX,.type "ValueError",.type "Exception",.type "BaseException",.type "object"] AbK AbM AbJ AbL AbN AbO AbQ AbR AbS AbT AbU "ValueError.__new__"))(Aa6:K.lookup W9=Ya ⟨AbV,AbP,.dict Pq AbW,AbX⟩)(Aa7:Ng Pq=true)(Aa8:nsFind Pq "__init__" =Ya (.ref iK))(Ac8:Y9 K (.ref cu) "__init__" =Ya (Ya (.ref iK)))(Aa9:K.lookup iK=Ya ⟨W6,Ab2,.func (W.fnOf "__init__" "BadRow.__init__" (m_ tY) (iG tY) (Zn tY) .none AbY AbZ Ab0 Ab3 W7 Ab1),Ab4⟩)(Aba:Qx K W7 "BadRow.__init__" =true)(Abb:JS K (.ref iK)=true)(Abd:W6= .type "function")(WX:Pn.hasDict=true)(Abe:Pn.mro= .ref cu:: .ref eX::PySem.W.qZ)(Abf:Y9 K (.ref cu) "__setattr__" =Ya (Ya (.builtin "object.__setattr__")))(WY:Y9 K (.ref cu) "row" =Ya Yk)(Abg:Bb K (.ref eX) "__getattribute__" =Ya (Ya (.builtin "type.__getattribute__")))(Abh:Qs K eX (.type "type")=true)(Abi:Qt K (.ref eX) (.type "type") "__init__" =Ya (.val (.builtin "ValueError.__init__")))(W0:Y9 K (.ref cu) "__getattribute__" =Ya (Ya (.builtin "BaseException.__getattribute__")))(W2:Y9 K (.ref cu) "__getattr__" =Ya Yk)(W3:uw K cu (.type "BaseException")=Ya true)(Abj:Y9 K (.ref cu) "__class__" =Ya (Ya (.builtin "object.__class__")))(W4:uw K cu (.type "object")=Ya true)(AcJ:Bb K (.builtin "object.__class__") "__get__" =Ya (Ya (.builtin "getset_descriptor.__get__")))(AcK:Qq K (.builtin "object.__class__")=Ya true)(Aaa:JQ K (.ref cu) (.type "BaseException")=Ya true)(Aam:JQ K (.ref cu) (.ref cu)=Ya true):
  ∃fd:jB,(∀(s:Yf) (v:Ye),Bm s fd ⟨[v],[]⟩ [("script",v)])/\∀base:aC,K.In base->base.Ns b7 mg->fM l.prog w K mg base kI 70 fa fd ["script"] (tE K 1 ZoK):=by
 have e:=hfa.symm.trans (j5 X G a28.1);cases e;have T:Txt K mg:=⟨trivial,nY X G AcD,nY X G Acv,nY X G Aa0,nY X G AcE,nY X G AaR,nY X G AcF,nY X G Acw,nY X G AcG,nY X G Ach,nY X G Abz,nY X G AcH,nY X G AcI,nY X G Aci,⟨_,j5 X G vJ⟩,⟨_,j5 X G xZ⟩,⟨_,j5 X G Acj,Aa1⟩,⟨_,j5 X G xY⟩,⟨_,j5 X G ug⟩,⟨_,j5 X G rJ⟩,⟨_,j5 X G rK⟩,⟨_,j5 X G Av⟩,⟨_,j5 X G rN⟩,⟨_,j5 X G Ack,Aa2⟩,⟨_,j5 X G Acx,AbA⟩,⟨_,j5 X G vh,Aa3⟩⟩;have dB:Iv K mg cR:=⟨⟨by unfold L3.ClsAt;rw[show(⟨([66,108,111,99,107]:List Nat).toArray⟩:aj)= "Block" by decide +kernel];exact W8,⟨Abt,Abu,Abv,Abw⟩,by decide⟩,j5 X G W8,by rw[show nm [104,101,97,100]= "head" by decide +kernel];exact AaJ,by rw[show nm [108,105,115,116,115]= "lists" by decide +kernel];exact Aak⟩;have Pr:ClsAt K [66,97,100,82,111,119] cu:=by unfold L3.ClsAt;rw[show(⟨([66,97,100,82,111,119]:List Nat).toArray⟩:aj)= "BadRow" by decide +kernel];exact W5
 have Ac9:ZvK K cu:=⟨W0,W2,W3,by rw[Jz];rfl,Abj,AcJ,AcK,W4⟩;have XO:Iw K mg eX cu iK:=⟨j5 X G Aal,j5 X G W5,Zw3 Pr Aa5 (λh Y=>⟨_,ZuM Y Aa6 Aa7,Aa8⟩) (λh Y=>.own (Y _ _ Aaf) (ZuM Y Aag Aah) Aai (.base)) Jz WX Abe Abf WY W4 Abg Abh Abi Aa9 Aba Abb Abd (Binds.all λus hl=>match us,hl with|[_,_],_=>rfl),Zpn Pr W0 W2 W3 Jz WX WY,(ZsF (P:=λC=>Qw K (.ref C) (.ref cu)=Ya true) Pr (PySem.W.AcW Jz Aa4 Aaa Aam) Zuc)⟩;have Abk:bL K mg "is_number" Dt ["word"]:=fQ X G a0.1 a0.2.1 a0.2.2.1 a0.2.2.2 (Binds.all (jc λ_=>rfl));have Abl:bL K mg "shown_row" Du ["row"]:=fQ X G a1.1 a1.2.1 a1.2.2.1 a1.2.2.2 (Binds.all (jc λ_=>rfl));have Ab5:bL K mg "sums_in" Dv ["words"]:=fQ X G a2.1 a2.2.1 a2.2.2.1 a2.2.2.2 (Binds.all (jc λ_=>rfl));have AaS:bL K mg "needs_sums" Dw ["word"]:=fQ X G a3.1 a3.2.1 a3.2.2.1 a3.2.2.2 (Binds.all (jc λ_=>rfl));have AbB:bL K mg "parts_of" Dy ["words"]:=fQ X G a4.1 a4.2.1 a4.2.2.1 a4.2.2.2 (Binds.all (jc λ_=>rfl));have Acl:bL K mg "depth" Dz ["words"]:=fQ X G a5.1 a5.2.1 a5.2.2.1 a5.2.2.2 (Binds.all (jc λ_=>rfl));have Ab6:bL K mg "is_name" DN ["word"]:=fQ X G a6.1 a6.2.1 a6.2.2.1 a6.2.2.2 (Binds.all (jc λ_=>rfl));have AaT:bL K mg "read_taken" DK ["row"]:=fQ X G a7.1 a7.2.1 a7.2.2.1 a7.2.2.2 (Binds.all (jc λ_=>rfl));have Aaj:M8 K cR "Block.__init__" z_ ["self","head"]:=Zth Abx Aby a8 i8 l8 c8 k8 (Binds.all (Fe λ_ _=>rfl));have Abm:bL K mg "read_sums" DR ["words"]:=fQ X G a9.1 a9.2.1 a9.2.2.1 a9.2.2.2 (Binds.all (jc λ_=>rfl));have Abn:bL K mg "read_deed" DQ ["words"]:=fQ X G a10.1 a10.2.1 a10.2.2.1 a10.2.2.2 (Binds.all (jc λ_=>rfl));have Abo:bL K mg "can_stand" DW ["blocks","word"]:=fQ X G a11.1 a11.2.1 a11.2.2.1 a11.2.2.2 (Binds.all (Fe λ_ _=>rfl));have AaU:bL K mg "place_deed" DX ["blocks","deed"]:=fQ X G a12.1 a12.2.1 a12.2.2.1 a12.2.2.2 (Binds.all (Fe λ_ _=>rfl));have AaV:bL K mg "read_deeds" DP ["rows","behind"]:=fQ X G a13.1 a13.2.1 a13.2.2.1 a13.2.2.2 (Binds.all (Fe λ_ _=>rfl));have Acy:bL K mg "read" DG ["text"]:=fQ X G a14.1 a14.2.1 a14.2.2.1 a14.2.2.2 (Binds.all (jc λ_=>rfl));have Aad:bL K mg "text_rows_of_deed" Eb ["deed"]:=fQ X G a15.1 a15.2.1 a15.2.2.1 a15.2.2.2 (Binds.all (jc λ_=>rfl));have Aac:bL K mg "text_rows_of_deeds" Ea ["deeds"]:=fQ X G a16.1 a16.2.1 a16.2.2.1 a16.2.2.2 (Binds.all (jc λ_=>rfl))
 have Abp:bL K mg "text_rows" D_ ["program"]:=fQ X G a17.1 a17.2.1 a17.2.2.1 a17.2.2.2 (Binds.all (jc λ_=>rfl));have Acm:bL K mg "shown" DY ["program"]:=fQ X G a18.1 a18.2.1 a18.2.2.1 a18.2.2.2 (Binds.all (jc λ_=>rfl));have Abq:bL K mg "_law_next" Ec ["deck"]:=fQ X G a19.1 a19.2.1 a19.2.2.1 a19.2.2.2 (Binds.all (jc λ_=>rfl));have Abr:bL K mg "_law_same" Ed ["found","due"]:=fQ X G a20.1 a20.2.1 a20.2.2.1 a20.2.2.2 (Binds.all (Fe λ_ _=>rfl));have AaW:bL K mg "_law_names" Ef ["deck"]:=fQ X G a21.1 a21.2.1 a21.2.2.1 a21.2.2.2 (Binds.all (jc λ_=>rfl));have AaK:bL K mg "_law_leaning" Eg ["deck","names","many","way"]:=fQ X G a22.1 a22.2.1 a22.2.2.1 a22.2.2.2 (Binds.all (ub4 λ_ _ _ _=>rfl));have AbC:bL K mg "_law_sum" Eh ["deck","names","deep","most","full"]:=fQ X G a23.1 a23.2.1 a23.2.2.1 a23.2.2.2 (Binds.all (ub5 λ_ _ _ _ _=>rfl));have AaL:bL K mg "_law_any_sum" Ei ["deck","names"]:=fQ X G a24.1 a24.2.1 a24.2.2.1 a24.2.2.2 (Binds.all (Fe λ_ _=>rfl));have AaX:bL K mg "_law_depth" Ej ["words"]:=fQ X G a25.1 a25.2.1 a25.2.2.1 a25.2.2.2 (Binds.all (jc λ_=>rfl));have AaY:bL K mg "_law_words" Ek ["words"]:=fQ X G a26.1 a26.2.1 a26.2.2.1 a26.2.2.2 (Binds.all (jc λ_=>rfl));have AaM:bL K mg "_law_refused" El ["text"]:=fQ X G a27.1 a27.2.1 a27.2.2.1 a27.2.2.2 (Binds.all (jc λ_=>rfl));refine⟨W.fnOf "law" "law" (m_ vy) (iG vy) (Zn vy) .none .none .none m28 Yk (.ref g28) .none,λs v=>.of_eq rfl,λbase _ _=>?_⟩;have Jy:=Zlq (P:=l.prog) (w:=w) (base:=base) Abk T;have Pb:=Zlc (P:=l.prog) (w:=w) (base:=base) Abl T;have Ay:=ZnB (P:=l.prog) (w:=w) (base:=base) Ab5 T;have O5:=ZjX (P:=l.prog) (w:=w) (base:=base) AaS T;have Ph:=Zmu (P:=l.prog) (w:=w) (base:=base) AbB T Ay;have Py:=Zq2 (P:=l.prog) (w:=w) (base:=base) Acl T Ph;have uh:=Zm7 (P:=l.prog) (w:=w) (base:=base) Ab6 T;have Jv:=Zka (P:=l.prog) (w:=w) (base:=base) AaT T XO uh;have Ac5:=Jv.fn;have Ar:=ZgP (P:=l.prog) (w:=w) (base:=base) dB Aaj T;have O9:=Zk7 (P:=l.prog) (w:=w) (base:=base) Abm T Jy Ay O5 Py uh;have O_:=ZkL (P:=l.prog) (w:=w) (base:=base) Abn T uh O9;have Pa:=Zld (P:=l.prog) (w:=w) (base:=base) Abo T dB;have O6:=Zj5 (P:=l.prog) (w:=w) (base:=base) AaU T dB Ar;have Jw:=ZjP (P:=l.prog) (w:=w) (base:=base) AaV T dB XO Ar O_ Pa O6;have Ac6:=Jw.fn;have JG:=ZsI (P:=l.prog) (w:=w) (base:=base) Acy T Jv Jw;have PJ:=JG.fn
 have GG:=ZeU (P:=l.prog) (w:=w) (base:=base) Aac Aad T 28;obtain⟨OJ,Ac1⟩:=GG;have Pg:=ZlC (P:=l.prog) (w:=w) (base:=base) Abp T OJ;have Pz:=Zqr (P:=l.prog) (w:=w) (base:=base) Acm T Pb Pg;have lF:=ZkP (P:=l.prog) (w:=w) (base:=base) Abq T;have Ax:=ZkT (P:=l.prog) (w:=w) (base:=base) Abr T;have O7:=ZjZ (P:=l.prog) (w:=w) (base:=base) AaW T lF;have O1:=Ziu (P:=l.prog) (w:=w) (base:=base) AaK T lF;have Pj:=ZmN (P:=l.prog) (w:=w) (base:=base) AbC T lF;have Ju:=Ziq (P:=l.prog) (w:=w) (base:=base) AaL T lF O1 Pj;have Jx:=ZjR (P:=l.prog) (w:=w) (base:=base) AaX T;have Aw:=ZjO (P:=l.prog) (w:=w) (base:=base) AaY T;have O2:=Zip (P:=l.prog) (w:=w) (base:=base) AaM T XO JG Ax;exact Zvt (ZrX (st:=vy) a28.2.1 a28.2.2.1 a28.2.2.2) T PJ Pz lF Ax O7 Ju Jx Aw O2
noncomputable def kK:Params->vR:=λP=>(nat_lit 2,⟨.none,Yk,.dict #[] 0,#[]⟩)::
 (nat_lit 3,k3 P)::
 (nat_lit 23,⟨.type "dict",Yk,.dict #[kE P "__module__" 196 (.str "stepledger.errors" 187),kE P "__firstlineno__" 200 (.int 2 199),kE P "__static_attributes__" 201 (.ref 22),kE P "__weakref__" 203 (.ref 25),kE P "__doc__" 204 .none] 3,#[]⟩)::
 (nat_lit 24,⟨.type "type",Yk,.cls ⟨"LedgerError",[.type "ValueError"],[.ref 24,.type "ValueError",.type "Exception",.type "BaseException",.type "object"],23,"LedgerError",true,[],[.ref 44],false,Yk,false⟩,#[Ya (.ref 15),Yk,Ya (.str "LedgerError" 189),Ya (.str "LedgerError" 197),Ya (.builtin "ValueError.__new__"),Ya (.bool true)]⟩)::
 (nat_lit 40,kC "__init__" "BadRow.__init__" 35 219 6 2 224)::
 (nat_lit 41,kF tY "__init__" "BadRow.__init__" .none kM0 40)::
 (nat_lit 43,⟨.type "dict",Yk,.dict #[kE P "__module__" 214 (.str "stepledger.errors" 187),kE P "__firstlineno__" 218 (.int 4 217),kE P "__init__" 226 (.ref 41),kE P "__static_attributes__" 228 (.ref 42),kE P "__doc__" 229 .none] 2,#[]⟩)::
 (nat_lit 44,⟨.type "type",Yk,.cls ⟨"BadRow",[.ref 24],[.ref 44,.ref 24,.type "ValueError",.type "Exception",.type "BaseException",.type "object"],43,"BadRow",true,[],[],false,Yk,false⟩,#[Ya (.ref 28),Yk,Ya (.str "BadRow" 207),Ya (.str "BadRow" 215),Ya (.builtin "ValueError.__new__"),Ya (.bool true)]⟩)::
 (nat_lit 50,kV Dt 47 238 12 1 241)::
 (nat_lit 51,kG Dt kM1 50)::
 (nat_lit 55,kV Du 52 244 19 1 247)::
 (nat_lit 56,kG Du kM1 55)::
 (nat_lit 57,⟨.type "dict",Yk,.dict #[kE P "add" 252 (.int 2 253),kE P "sub" 254 (.int 2 255),kE P "more" 256 (.int 2 257),kE P "cell" 258 (.int 1 259)] 4,#[]⟩)::
 (nat_lit 61,kV Dv 58 265 23 1 268)::
 (nat_lit 62,kG Dv Oz 61)::
 (nat_lit 68,kU Dw 63 271 33 1 275)::
 (nat_lit 69,kG Dw Oz 68)::
 (nat_lit 75,kU Dy 70 278 35 1 282)::
 (nat_lit 76,kG Dy Oz 75)::
 (nat_lit 80,kV Dz 77 285 37 1 288)::
 (nat_lit 81,kG Dz Oz 80)::
 (nat_lit 82,⟨.type "tuple",Yk,.seq #[.str "take" 305,.str "set" 306,.str "put" 307,.str "tell" 308,.str "when" 309,.str "else" 310,.str "while" 311,.str "end" 312,.str "add" 313,.str "sub" 314,.str "more" 315,.str "cell" 316] 0,#[]⟩)::
 (nat_lit 83,⟨.type "dict",Yk,.dict #[kE P "set" 318 (.int 1 319),kE P "put" 320 (.int 2 321),kE P "tell" 322 (.int 1 323),kE P "when" 324 (.int 1 325),kE P "else" 326 (.int 0 327),kE P "while" 328 (.int 1 329),kE P "end" 330 (.int 0 331)] 7,#[]⟩)::
 (nat_lit 84,⟨.type "dict",Yk,.dict #[kE P "when" 340 (.int 2 341),kE P "while" 342 (.int 1 343)] 2,#[]⟩)::
 (nat_lit 97,kC "__init__" "Block.__init__" 92 359 52 2 364)::
 (nat_lit 98,kF z_ "__init__" "Block.__init__" .none pB 97)::
 (nat_lit 100,⟨.type "dict",Yk,.dict #[kE P "__module__" 354 (.str "stepledger.texts" 291),kE P "__firstlineno__" 358 (.int 50 357),kE P "__init__" 366 (.ref 98),kE P "__static_attributes__" 369 (.ref 99),kE P "__dict__" 371 (.ref 102),kE P "__weakref__" 373 (.ref 103),kE P "__doc__" 374 .none] 4,#[]⟩)::
 (nat_lit 101,⟨.type "type",Yk,.cls ⟨"Block",[.type "object"],[.ref 101,.type "object"],100,"Block",true,[],[],false,Yk,false⟩,#[Yk,Yk,Ya (.str "Block" 347),Ya (.str "Block" 355),Ya (.builtin "object.__new__"),Ya (.bool true)]⟩)::
 (nat_lit 109,kV DG 106 377 55 1 380)::
 (nat_lit 110,kG DG pB 109)::
 (nat_lit 114,kV DK 111 383 63 1 386)::
 (nat_lit 115,kG DK pB 114)::
 (nat_lit 119,kV DN 116 389 70 1 392)::
 (nat_lit 120,kG DN pB 119)::
 (nat_lit 126,kU DP 121 395 74 2 404)::
 (nat_lit 127,kG DP pB 126)::
 (nat_lit 131,kV DQ 128 407 84 1 410)::
 (nat_lit 132,kG DQ pB 131)::
 (nat_lit 136,kV DR 133 413 94 1 416)::
 (nat_lit 137,kG DR pB 136)::
 (nat_lit 143,kU DW 138 419 102 2 426)::
 (nat_lit 144,kG DW pB 143)::
 (nat_lit 148,kV DX 145 429 112 2 432)::
 (nat_lit 149,kG DX pB 148)::
 (nat_lit 153,kV DY 150 435 124 1 438)::
 (nat_lit 154,kG DY pB 153)::
 (nat_lit 160,kU D_ 155 441 126 1 446)::
 (nat_lit 161,kG D_ pB 160)::
 (nat_lit 167,kU Ea 162 449 129 1 455)::
 (nat_lit 168,kG Ea pB 167)::
 (nat_lit 174,kU Eb 169 458 134 1 464)::
 (nat_lit 175,kG Eb pB 174)::
 (nat_lit 181,kU Ec 176 469 145 1 475)::
 (nat_lit 182,kG Ec uf 181)::
 (nat_lit 186,kV Ed 183 478 154 2 481)::
 (nat_lit 187,kG Ed uf 186)::
 (nat_lit 193,kU Ef 188 484 164 1 498)::
 (nat_lit 194,kG Ef uf 193)::
 (nat_lit 200,kU Eg 195 501 186 4 511)::
 (nat_lit 201,kG Eg uf 200)::
 (nat_lit 207,kU Eh 202 514 199 5 528)::
 (nat_lit 208,kG Eh uf 207)::
 (nat_lit 214,kU Ei 209 531 216 2 539)::
 (nat_lit 215,kG Ei uf 214)::
 (nat_lit 221,kU Ej 216 542 223 1 549)::
 (nat_lit 222,kG Ej uf 221)::
 (nat_lit 228,kU Ek 223 552 232 1 558)::
 (nat_lit 229,kG Ek uf 228)::
 (nat_lit 235,kU El 230 561 240 1 567)::
 (nat_lit 236,kG El uf 235)::
 (nat_lit 242,kU vy 237 570 247 1 585)::
 (nat_lit 243,kG vy uf 242)::[]
open PySem.W
noncomputable abbrev pP:Y8:=PySem.Challenge.pw_stepledger_k65_deep_sums
noncomputable def pQ:Y8:=view pP [1,2,4,5,6,7,9,10,11,12,13,15,16,17,18,19,20,21,22,23,24,25,26,27,28,29,30,31,32,33,34,35,36,38,39,40,41,42,43,44,45,46,47]
noncomputable abbrev pL:List aj:=["PARTS","SUMS","LISTS"]
noncomputable abbrev pA:List Yt:=[nat_lit 2,nat_lit 3,nat_lit 23,nat_lit 24,nat_lit 40,nat_lit 41,nat_lit 43,nat_lit 44,nat_lit 50,nat_lit 51,nat_lit 55,nat_lit 56,nat_lit 57,nat_lit 61,nat_lit 62,nat_lit 68,nat_lit 69,nat_lit 75,nat_lit 76,nat_lit 80,nat_lit 81,nat_lit 82,nat_lit 83,nat_lit 84,nat_lit 97,nat_lit 98,nat_lit 100,nat_lit 101,nat_lit 109,nat_lit 110,nat_lit 114,nat_lit 115,nat_lit 119,nat_lit 120,nat_lit 126,nat_lit 127,nat_lit 131,nat_lit 132,nat_lit 136,nat_lit 137,nat_lit 143,nat_lit 144,nat_lit 148,nat_lit 149,nat_lit 153,nat_lit 154,nat_lit 160,nat_lit 161,nat_lit 167,nat_lit 168,nat_lit 174,nat_lit 175,nat_lit 181,nat_lit 182,nat_lit 186,nat_lit 187,nat_lit 193,nat_lit 194,nat_lit 200,nat_lit 201,nat_lit 207,nat_lit 208,nat_lit 214,nat_lit 215,nat_lit 221,nat_lit 222,nat_lit 228,nat_lit 229,nat_lit 235,nat_lit 236,nat_lit 242,nat_lit 243]
noncomputable def pX(s:Yf):Bool:=xlAt pQ [] s&&recOk (RowW.records PySem.Challenge.rw_stepledger_k65_deep_sums.row.toRowW) s
set_option maxHeartbeats 0
theorem hd0(w:aO):hSt pP pQ pL pX pA kK 1858 ⟨247,0,275,15⟩ (hW w false):=λos=>by kernel_rfl
theorem hd1(w:aO):hSt pP pQ pL pX pA kK 1858 ⟨247,0,275,15⟩ (hW w true):=λos=>by kernel_rfl
set_option maxHeartbeats 400000
end Law
open PySem PySem.W PyProof.Rows
set_option maxRecDepth 100000 in
set_option maxHeartbeats 0 in
theorem PySem.Challenge.cw_stepledger_k65_deep_sums_holds : PySem.Challenge.rw_stepledger_k65_deep_sums.Holds := by
 w_on
 refine holds_law (by kernel_rfl) λsaid=>?_;refine holds_open (r:=PySem.Challenge.rw_stepledger_k65_deep_sums.row) (q:=Law.pQ) (loose:=Law.pL) (Xt:=Law.pX) (XP:=XL Law.pQ []) (YP:=Hook.says (kHook Law.kK Law.pA (λ_=>by kernel_rfl))) (L3.ZvQ (N:=3840) rfl (λ_=>rfl) rfl rfl Law.hd0 Law.hd1) (Hook.of (kHook Law.kK Law.pA (λ_=>by kernel_rfl))) (Hook.keeps _) (λs e=>xl_of s (Ya9.mp e).1) XL.keeps (by rfl) (by rfl) (by rfl) (λs e=>recFacts_of (Ya9.mp e).2) (by rfl) said (by kernel_rfl) ⟨rfl,rfl,rfl,rfl,rfl,by decide +kernel⟩ ?hw ?hc
 case hw=>w_witness2
 k_fill
 refine L3.Zx6 (l:=PySem.Challenge.rw_stepledger_k65_deep_sums) (k:=70) (F:=Law.ZoK) rfl rfl ⟨rfl,by decide,by decide,rfl⟩ (λw h Y=>W.kIn_of Y) ?G Law.law_holds
 case G=>
  intro w mg fa h KX G hmg;refine' Law.ZvR KX G hmg ?_ ?_ ?_ ?_ ?_ ?_ ?_ ?_ ?_ ?_ ?_ ?_ ?_ ?_ ?_ ?_ ?_ ?_ ?_ ?_ ?_ ?_ ?_ ?_ ?_ ?_ ?_ ?_ ?_ ?_ ?_ ?_ ?_ ?_ ?_ ?_ ?_ ?_ ?_ ?_ ?_ ?_ ?_ ?_ ?_ ?_ ?_ ?_ ?_ ?_ ?_ ?_ ?_ ?_ ?_ ?_ ?_ ?_ ?_ ?_ ?_ ?_ ?_ ?_ ?_ ?_ ?_ ?_ ?_ ?_ ?_ ?_ ?_ ?_ ?_ ?_ ?_ ?_ ?_ ?_ ?_ ?_ ?_ ?_ ?_ ?_ ?_ ?_ ?_ ?_ ?_ ?_ ?_ ?_ ?_ ?_ ?_ ?_ ?_ ?_ ?_ ?_ ?_ ?_ ?_ ?_ ?_ ?_
  all_goals try first|k_is|(refine⟨?_,?_,?_,?_⟩<;>k_is)
  all_goals first|rfl|decide +kernel
