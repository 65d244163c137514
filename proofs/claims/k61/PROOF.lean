import PyProof.Rows.All
import Wide.All
import OpenK.AllK
import Wide.FinOn
import Lean
import PyProof.EqAt
import PyProof.EqKinds
import PyProof.TupleCall
import PySem.Challenge.RW_stepledger_k61_read
open Option renaming some->Ya,none->Yn,isSome_iff_exists->GR,map_eq_some_iff->Mx,map_some->Mz,getD_none->VP,bind_some->VR
open PySem.W renaming Frag->Yb,findIn->lY,nsIn->bI,kia_one->oE,keepIn->fj,codeIn->fP,emptyDict->rQ,mg_none_of->oF,keepIn->rR,instObj->uH,fnOf->qH,fnOf->fC,hasDictIn->GX,mg_of->lZ,codeIn->Cz,plainGet->GZ,makesIn->G4,kitx_tuple->MF,methodObj->MJ,plainOver->MK,kitx_list->MN,kitx_dict->MP,cellsFrom_some->VV,takerIn->MT,isFn->G5,lookIn->M7,callWith_K->V0,kitx_none->V1,kitx_bool->V2,handedIn->V3,kitx_int->V4,kitx_str->V5,kitOne->V6,WalkO->V7,mg_of->V8
open List renaming mem_cons_of_mem->Yc,mem_cons_self->Yd,length_append->Ye,getElem?_eq_some_iff->Yf,getElem?_append_left->Yi,mem_cons->Ym,size_toArray->Yo,length_cons->Yp,replicate->Yq,getElem?_set_ne->Yr,map_cons->Yu,length_map->Yv,mem_singleton->Yz,getElem?_set_self->Y0,mem_append_right->Y5,getElem?_eq_getElem->Y7,length_singleton->Y8,mem_append->fQ,all_eq_true->gQ,append_assoc->jg,nodup_cons->iJ,length_replicate->l_,getElem?_map->jO,mem_map->gH,lookup_cons->jP,nil_append->jB,append_nil->jQ,map_append->jR,take_of_length_le->qI,set_cons_succ->oG,set_cons_zero->oH,mem_map_of_mem->pI,all_cons->jC,not_mem_nil->mZ,flatten_cons->oJ,range->gU,getElem?_append_right->wJ,any_cons->kh,getElem?_take_of_lt->wK,replicate_succ->rT,mem_append_left->uI,drop_eq_getElem_cons->yU,getElem?_replicate_of_lt->CJ,Nodup->jt,foldl_cons->qJ,mem_of_getElem?->wL,getD_eq_getElem?_getD->CK,reverse_cons->uJ,length_set->rW,eq_nil_of_length_eq_zero->G6,getElem_mem->uK,mem_flatMap->uM,getElem?_cons_succ->CN,cons_append->wM,map_map->qK,ext_getElem?->yV,map_nil->rY,getElem?_replicate->G7,map_eq_nil_iff->CP,getElem?_cons_zero->G8,length_reverse->CQ,length_take->yW,drop_eq_nil_of_le->G9,find?_cons->yX,length_nil->yZ,getElem?_eq_none->G_,map_reverse->CV,length->Yes,append_eq_nil_iff->M8,lookup->wN,eraseIdxIfInBounds_toArray->V9,nodup_append->Hf,length_range->Hg,getElem?_of_mem->M_,filterMap_cons->Nb,range'->y_,mem_filterMap->Nf,set_set->CZ,mem_range->Hh,drop_zero->Hi,flatMap_cons->Ng,prefix_iff_eq_take->V_,length_eq_zero_iff->Wa,getLast?_replicate->Wb,drop_length->Nh,mem_reverse->Ni,range_succ_eq_map->Wc,of_mem_zip->Nj,dropLast_eq_take->Wd,getElem?_toArray->Wf,isPrefixOf->Nk,reverse_reverse->Wg,nodup_nil->Nm,map_congr_left->Wh,take_succ_cons->Wi,prefix_append->Wj,take_sublist->Wk,foldl->Hj,getElem?_inj->Wl,all_nil->Np,getElem_inj->Wm,length_drop->Wn,mem_flatten->Wo,range'_succ->Wq,mem_filter->Wr
open PySem renaming wpAny_bind->Yg,Value->Yh,Shared->Yj,wpAny_pure->Yt,starEach->Yw,mainGlobals->Yy,Addr->Y1,wpAny->ao,sizeLine->bj,Program->bD,model->au,wpAny_holding->gW,Around->bJ,compareOp->eU,keywordEach->iK,wpAny_loadPart'->qL,wpAny_truthy_bool->pJ,bootBuiltins->jD,World->bw,mem_of_lookup->rZ,attributeBase->mj,wpAny_callSpecial?_slot->wO,assignEach->jh,backTo->bZ,wpAny_mono->ju,wpAny_newObj_type->su,wpAny_pyIter_list->uN,binaryOp->iM,backToKw->iQ,wpAny_call_entry->uO,eval->aF,wpAny_Call_Name_kw->za,strValues->kj,Heap->aN,wpAny_passesOwn->wQ,foldedSetIterable->zb,wpAny_comprehension_free->Hl,wpAny_pyIter_enum->zc,codeAny_builtin->wR,wpAny_standAt->uP,FuncData->jT,call_meets->pK,codeAny_mono->uQ,wpAny_field->sy,behindInMarks->wU,wpAny_letOwnedTupleGo_enum->Nq,codeAny_call_builtin->Ho,Stmt->Yep,letOwnedTupleGo->C_,wpAny_pyIter_tuple->Hq,assign->ji,codeAny->mq,sliceBounds->wV,slicePicked->wW,wpAny_seqItems->Dc,wpAny_tryCatch->Dd,plainId_quiet->Df,typeIs_str->wX,wpAny_execs_nil->Hr,swapsWith->uR,sizeLine_eq->zf,getItem->pM,intText?->Hs,wpAny_assign_Name->Nr,wpAny_sequenceKey->Nt,wpAny_pyNext_enum_itemD->Ws,noFill_tuple_add->Nu,wpAny_pyNext_list_item->Wt,codeAny_compStart_list->Wu,wpAny_pyNext_list_end->Wv,cLine->jw,wpAny_specialOf->Nv,exec_Assign_Name_used->Ww,weight_type_call_type->Wx,wpAny_updateSeq->Nx,wpAny_call->Dg,wpAny_newFunctionEnv->Wy,newFunctionEnv->Ny,holding->uT,subscripted->Ht,callerA->uU,relabel->uV,wpAny_of_eq->Hu,dictGet->uW,wpAny_letGo->Hv,swapsWithSole->Nz,swappedStores->NK,seq_tuple_add->NP,wpAny_missed_other->Wz,wpAny_rule->Hw,wpAny_dictEntries->WD,Within->NQ,pyNext->sE,Result->sG,concat_meets->NT,wpAny_typeOf->NZ,seqIndex_neg->N5,wpAny_pyHash_int->WK,wpAny_pyHash_str->WL,wpAny_execs_cons->WM,wpAny_isInstance->WN,checkBuiltinCall->WP,compEnvC->Dh,rawInt->uX,BindsTo->zj,seqIndex_of->N6,valueAt->zm,wpAny_stack_any->WQ,codeAny_of_tree->WR,wpAny_dictEpoch->WT,builtinsNs->N7,wpAny_Name->N8,typeIs_int->N_,call->Oa,IsEnum->wY,standAt->Di,compPost->Hx,callWith->Hy,contains->Hz,pyIter->zp,cellsFrom->Ob,seqIndex?->Oc,scanBound->Od,spliced->HB,unaryOp->HD,evalAll->HF,bindL->uY,bindC->u0,atKey->u5,newList->HJ,Str->aj,Obj->aK,run->jj,Env->eV,Sem->oK,Pos->aU,Tok->fD
open Nat renaming le_trans->Yk,le_refl->Ys,lt_of_lt_of_le->Y9,ne_of_lt->dw,le_antisymm->iR,zero_le->fG,sub_add_cancel->m5,le_of_not_lt->mz,le_add_right->m9,succ_le_succ->oM,le_succ_of_le->qM,add_comm->kE,lt_of_le_of_lt->sH,lt_trans->m_,add_assoc->pN,eq_of_beq_eq_true->zq,beq->iu,le_of_eq->sI,lt_irrefl->u6,zero_add->u9,lt_succ_self->Dj,lt_add_right->Dk,le_succ->u_,min_eq_left->Dl,lt_of_not_le->HN,le_add_left->HS,ne_of_gt->Dm,toDigits_of_lt_base->WW,min_eq_right->Oe,min_le_right->Og,succ_ne_self->Oh,ble->sJ,le_of_ble_eq_true->WX,sub_eq_zero_of_le->WY,toDigits->HW,strongRecOn->Oi,add_zero->HX,sub_le->Dn,add_le_add_right->W2,mul_div_le->Oj,mul_le_mul_left->W3,pos_of_ne_zero->W4,le_of_lt_succ->W5,lt_succ_of_le->W6,le_of_lt->Ol,toList_repr->W7,add_le_add->W8
open PySem.Heap renaming get?_push_of_some->Yl,get?_push_size->Y2,lt_size->Y3,get?_update_other->sO,size_push->wZ,get?_update_self->HY,SameBut->zr,ExtBut->Om
open Classical renaming propDecidable->Yx
open Bool renaming and_eq_true->Y4,false_ne_true->kI,and_eq_true_iff->vf,false_eq_true->zu,or_eq_true->w5,and_false->w6,beq_eq_decide_eq->H_,or_false->Ia,and_true->Ib,eq_iff_iff->Oo,false_and->Oq,not_eq_true'->W9,not_eq_true->W_,false_or->Xa
open Option.some renaming inj->Y6,injEq->Xb
open List.cons renaming inj->iT,injEq->Xc
open Ne renaming symm->cO
open Int renaming toNat_of_nonneg->sS,toNat_natCast->qN,emod_lt_of_pos->sU,emod_nonneg->pO,natCast_nonneg->Dp,self_le_toNat->Dq,ofNat_le->zx,zero_add->zy,add_zero->zA,le_of_eq->Ds,not_le->zB,lt_mul_ediv_self_add->Xd,le_of_lt->Ie,natCast_add->Ot,mul_zero->Ig,natCast_mul->Ou,ofNat_lt->Ih,lt_of_lt_of_le->Xe,sub_zero->Ov,min_eq_left->Xf,mul_add->Ow,add_le_add->Xg,not_lt->Ox
open False renaming elim->jk
open PySem.Builtin.List renaming listTooLong->zE
open PyProof.Rows renaming slot_tuple_getitem->Ii,callWith_type1->Oz,slot_tupleiter_next->Ij,signs_ofString->Xh,evalArgs_kwB->Xi,kindOf->mC,subscriptTail_builtinR->Xj,AllBare->sV,envOfC->oN,entry_tupleiter_next->Xk,entry_tuple_getitem->Xl,args_tupleiter_next->Xm,args_tuple_getitem->Xn,subscriptTail->OD,Subscript_->OJ
open PySem.Str renaming length->kJ,ofString->pP
open PyProof.Rows.KTD renaming datumAt->ni,TabOf->pQ,tab_of_look->Xo
open PySem.Builtin.Str renaming occurrences->Dt,strSliceIndices->Ik,partsBetween->Xp,tooLong->Xq,strKind->Xr
open PySem.NumText renaming digitsVal->Du
open PyProof.Rows.F renaming plain_set_update_loop->O1,entry_set_update_loop->Xu
open PySem.F renaming plain_max_loop->xg,plainAttrs_str->Il,slot_enumerate_next->Im,args_tuple_add_2->O2,entry_tuple_add->O4,plainAttrs_list->O5,slot_tuple_add->O6,slot_str_join->O7,slot_dict_get->O8,slot_dict_contains->Xv,args_str_split_2->O9,slot_dict_getitem->Xw,entry_str_split->O_,args_enumerate_next_1->Xx,args_dict_get_3->Xy,slot_str_split->Pa,entry_max_loop->Pb,entry_enumerate_next->Xz,entry_dict_get->XC,type_str_join->XD,entry_enumerate_new->XF,args_list_extend_2->XH,entry_list_extend->XJ,slot_list_extend->XM,called_enumerate->XQ,entry_list_pop->XR,slot_list_pop->XS,slot_int_rmul->XX
open PySem.Builtin.Slice renaming slicePlaces->Io,sliceAdjust->Pg,sliceApplied->X4
open PySem.Builtin.SmallTypes renaming nextOf->Ip
open PySem.Around renaming under_plainId->Dv,under_plain->X5,under->Ph
open PySem.Builtin.Tuple renaming tupleExact->Ir,tupleItemsOf->X6
open Array renaming length_toList->Iu,toList->zF,getElem?_toList->Pj,mem_of_getElem?->X7,append_assoc->X8
open PySem.SeqAt renaming EqAt->sW,in_listAt->X_
open PySem.SeqAt.EqAt renaming str_int->Iv,int_str->Pk,same->Pn,none_bool->YB,bool_none->YC,bool_bool->YD,none_int->YF,none_str->YG,bool_int->YH,bool_str->YJ,int_none->YK,int_bool->YL,str_none->YM,str_bool->YQ,int_int->YS,str_str->YT
open PySem.Calls renaming callWith_builtin->Pq,Name_function_global->YW,spliced_cons->Pr,evalArgs_plain->YX,spliced_nil->YZ
open PySem.Obj renaming mapSeq->xj,data_mapFields->Y_
open PySem.SeqAt.RcNeAt renaming lists_lengths->ZC
open Decidable renaming byContradiction->ZD
open OfNat renaming ofNat->Dw
open Eq renaming trans->vg
open PySem.StrLaws renaming glued_eq_join->ZF
open PySem.Heap.SameBut renaming update->ZG
open PySem.Builtin.Dict renaming missed->ZJ
open PySem.Code renaming quiet_builtin->ZK,isFrame->Pu
open Prod.mk renaming injEq->Px
open PySem.SeqAt.RcAt renaming tuples->ZL
open PySem.Walks renaming list->Iw
open Nat.succ renaming inj->Py
open ToString renaming toString->Dy
open PySem.Txt renaming split->ZM,startswith->ZP
open PySem.PassesOwn renaming never->ZQ
open Char renaming toNat->Pz
open PySem.Paired renaming length->ZR
open Min renaming min->jl
namespace L3
set_option compiler.extract_closed false
set_option genSizeOf false in
set_option genInjectivity false in
inductive AE where
 |v (i:Nat)
 |k (n:Nat)
 |a (x y:AE)
 |m (n:Nat) (x:AE)
noncomputable def Iz:List Nat->Nat->Nat
 |[],_=>0|x::_,0=>x|_::l,n+1=>Iz l n
noncomputable def AE.ev(c:List Nat):AE->Nat
 | .v i=>Iz c i|.k n=>n|.a x y=>x.ev c+y.ev c|.m n x=>n*x.ev c
noncomputable def aL:List Nat->List Nat->List Nat
 |[],r=>r|x::l,[]=>x::l|x::l,y::r=>(x+y)::aL l r
noncomputable def sL(n:Nat):List Nat->List Nat
 |[]=>[]|x::l=>(n*x)::sL n l
noncomputable def uL:Nat->List Nat
 |0=>[1]|n+1=>0::uL n
noncomputable def AE.li:AE->List Nat
 | .v i=>0::uL i|.k n=>[n]|.a x y=>aL x.li y.li|.m n x=>sL n x.li
noncomputable def dt:List Nat->List Nat->Nat
 |x::c,y::l=>x*y+dt c l|[],_=>0|_,[]=>0
noncomputable def xq:List Nat->List Nat->Bool
 |[],_=>true|x::l,[]=>sJ x 0&&xq l []|x::l,y::r=>sJ x y&&xq l r
theorem oO:∀c,dt c []=0
 |[]=>rfl|_::_=>rfl
theorem qO:∀c l r,dt c (aL l r)=dt c l+dt c r
 |c,[],r=>by rw[oO,u9];rfl|c,x::l,[]=>by rw[oO];rfl|[],x::l,y::r=>rfl|z::c,x::l,y::r=>by show z*(x+y)+dt c (aL l r)=_;rw[qO c l r,Nat.mul_add];exact Nat.add_add_add_comm _ _ _ _
theorem Dz(n:Nat):∀c l,dt c (sL n l)=n*dt c l
 |c,[]=>by rw[oO];exact oO c|[],x::l=>rfl|z::c,x::l=>by show z*(n*x)+dt c (sL n l)=n*(z*x+dt c l);rw[Dz n c l,Nat.mul_add,Nat.mul_left_comm]
theorem ZS:∀c i,dt c (uL i)=Iz c i
 |[],0=>rfl|[],_+1=>rfl|x::c,0=>by show x*1+dt c []=x;rw[oO,Nat.mul_one];rfl|x::c,n+1=>by show x*0+dt c (uL n)=Iz c n;rw[ZS c n,Nat.mul_zero,u9]
theorem zG:∀c l r,xq l r=true->dt c l<=dt c r
 |c,[],r,_=>by rw[oO];exact fG _|[],x::l,r,_=>fG _|z::c,x::l,[],h=>by have h:=(Y4 _ _).mp h;have e:x=0:=Nat.le_zero.1 (WX h.1);have i:=zG c l [] h.2;rw[oO]at i;show z*x+dt c l<=0;rw[e,Nat.le_zero.1 i];exact Ys 0|z::c,x::l,y::r,h=>
  have h:=(Y4 _ _).mp h
  W8 (W3 z (WX h.1)) (zG c l r h.2)
theorem AE.d7(c:List Nat):∀e:AE,dt (1::c) e.li=e.ev c
 | .v i=>(u9 _).trans (ZS c i)|.k n=>by show 1*n+dt c []=n;rw[oO,Nat.one_mul];rfl|.a x y=>(qO _ _ _).trans (congr (congrArg _ (x.d7 c)) (y.d7 c))|.m n x=>(Dz n _ _).trans (congrArg _ (x.d7 c))
noncomputable def bN:Nat->Nat->AE×Nat
 |0,s=>(.k 0,s)|f+1,s=>bif sJ (s % 16) 9 then(.v (s % 16),s / 16)else bif iu (s % 16) 10 then(.k 1,s / 16)
  else bif iu (s % 16) 11 then(.k (s / 256 % 16^(s / 16 % 16)),s / 256 / 16^(s / 16 % 16))
  else bif iu (s % 16) 12 then(.a (bN f (s / 16)).1 (bN f (bN f (s / 16)).2).1,(bN f (bN f (s / 16)).2).2)
  else bif iu (s % 16) 13 then(.m (s / 16 % 256) (bN f (s / 4096)).1,(bN f (s / 4096)).2)
  else(.k 0,s / 16)
noncomputable def DG:Nat->Nat->Nat->Prop
 |0,x,y=>x<=y|1,x,y=>x<y|2,x,y=>x=y|3,x,y=>x=y
 |4,x,y=>¬x<=y|5,x,y=>¬x<y|_,_,_=>False
noncomputable def PB:Nat->AE->AE->List Nat
 |0,x,_=>x.li|1,x,_=>aL [1] x.li|2,x,_=>x.li|4,_,y=>aL [1] y.li
 |_,_,y=>y.li
noncomputable def DK:Nat->AE->AE->List Nat
 |0,_,y=>y.li|1,_,y=>y.li|2,_,y=>y.li|_,x,_=>x.li
noncomputable def vh(c:List Nat):Nat->Nat->Prop
 |0,s=>DG (s % 16) ((bN 9 (s / 16)).1.ev c) ((bN 9 (bN 9 (s / 16)).2).1.ev c)|n+1,s=>DG (s / 16 % 16) ((bN 9 (s / 256)).1.ev c) ((bN 9 (bN 9 (s / 256)).2).1.ev c)->vh c n (bN 9 (bN 9 (s / 256)).2).2
noncomputable def gN:Nat->AE->AE->List Nat->List Nat->Bool
 |0,x,y,L,R=>xq (aL R x.li) (aL L y.li)|1,x,y,L,R=>xq (aL [1] (aL R x.li)) (aL L y.li)|_,_,_,L,R=>xq (aL [1] R) L
noncomputable def vm:Nat->Nat->List Nat->List Nat->Bool
 |0,s,L,R=>gN (s % 16) (bN 9 (s / 16)).1 (bN 9 (bN 9 (s / 16)).2).1 L R|n+1,s,L,R=>vm n (bN 9 (bN 9 (s / 256)).2).2 (aL L (sL (s % 16) (PB (s / 16 % 16) (bN 9 (s / 256)).1 (bN 9 (bN 9 (s / 256)).2).1))) (aL R (sL (s % 16) (DK (s / 16 % 16) (bN 9 (s / 256)).1 (bN 9 (bN 9 (s / 256)).2).1)))
theorem DN(c l:List Nat):dt (1::c) (aL [1] l)=dt (1::c) l+1:=by rw[qO];show 1*1+dt c []+_=_;rw[oO];exact kE _ _
theorem ZV(c:List Nat)(x y:AE):∀r,DG r (x.ev c) (y.ev c)->dt (1::c) (PB r x y)<=dt (1::c) (DK r x y)
 |0,h=>by show dt _ x.li<=dt _ y.li;rw[x.d7,y.d7];exact h|1,h=>by show dt _ (aL [1] x.li)<=dt _ y.li;rw[DN,x.d7,y.d7];exact h|2,h=>by show dt _ x.li<=dt _ y.li;rw[x.d7,y.d7];exact sI h|3,h=>by show dt _ y.li<=dt _ x.li;rw[x.d7,y.d7];exact sI h.symm
 |4,h=>by show dt _ (aL [1] y.li)<=dt _ x.li;rw[DN,x.d7,y.d7];exact HN h|5,h=>by show dt _ y.li<=dt _ x.li;rw[x.d7,y.d7];exact mz h|_+6,h=>h.elim
theorem Zwq(c:List Nat)(x y:AE)(L R:List Nat)(h:dt (1::c) L<=dt (1::c) R):∀r,gN r x y L R=true->DG r (x.ev c) (y.ev c)
 |0,k=>by have e:=zG (1::c) _ _ k;rw[qO,qO,x.d7,y.d7]at e;exact Nat.le_of_add_le_add_left (Yk e (W2 h _))|1,k=>by have e:=zG (1::c) _ _ k;rw[DN,qO,qO,x.d7,y.d7]at e;exact Nat.lt_of_add_lt_add_left (Yk e (W2 h _))|r+2,k=>by have e:=zG (1::c) _ _ k;rw[DN]at e;exact absurd (Yk e h) (Nat.not_succ_le_self _)
theorem ZW(c:List Nat):∀(n s:Nat) (L R:List Nat),dt (1::c) L<=dt (1::c) R->vm n s L R=true->vh c n s
 |0,s,L,R,h,k=>Zwq c _ _ L R h _ k|n+1,s,L,R,h,k=>λg=>ZW c n _ _ _ (by rw[qO,qO,Dz,Dz];exact W8 h (W3 _ (ZV c _ _ _ g))) k
end L3
theorem lN(c:List Nat)(n s:Nat)(h:L3.vm n s [] []=true):L3.vh c n s:=L3.ZW c n s [] [] (Ys _) h
theorem nj(a b:Nat):a<=a-b+b:=Nat.le_add_of_sub_le (Ys _)
theorem T1:true=true:=rfl
theorem lA{a:Nat}(n s:Nat)(y:L3.vm n s [] []=true):L3.vh [a] n s:=lN _ n s y
theorem lB{a b:Nat}(n s:Nat)(y:L3.vm n s [] []=true):L3.vh [a,b] n s:=lN _ n s y
theorem lC{a b c:Nat}(n s:Nat)(y:L3.vm n s [] []=true):L3.vh [a,b,c] n s:=lN _ n s y
theorem lD{a b c d:Nat}(n s:Nat)(y:L3.vm n s [] []=true):L3.vh [a,b,c,d] n s:=lN _ n s y
theorem lE{a b c d e:Nat}(n s:Nat)(y:L3.vm n s [] []=true):L3.vh [a,b,c,d,e] n s:=lN _ n s y
theorem ZX(w:Int):max w 0=(w.toNat:Int):=(Int.ofNat_toNat w).symm
theorem ZZ(v:Int)(n:Nat)(h:¬v<0):jl v (n:Int)=((jl v.toNat n:Nat):Int):=by
 obtain⟨k,rfl⟩:=Int.eq_ofNat_of_zero_le (Ox.1 h);rcases Nat.le_total k n with z|z
 .rw[Xf (zx.2 z)];exact congrArg Int.ofNat (Dl z).symm
 .rw[Int.min_eq_right (zx.2 z)];exact congrArg Int.ofNat (Oe z).symm
theorem PJ(v:Int)(n:Nat)(h:v<0):max 0 (jl (v+(n:Int)) (n:Int))=((v+(n:Int)).toNat:Int):=by rw[Xf (Ie (Xe (Int.add_lt_add_right h _) (Ds (zy _)))),Int.max_comm];exact ZX _
theorem PL(v:Int)(n:Nat)(h:¬v<0):max 0 (jl v (n:Int))=((jl v.toNat n:Nat):Int):=by rw[ZZ v n h];exact Int.max_eq_right (Dp _)
namespace L3
set_option genSizeOf false in
set_option genInjectivity false in
inductive AI where
 |v (i:Nat)
 |k (n:Nat)
 |c (e:AE)
 |a (x y:AI)
 |s (x y:AI)
 |g (x:AI)
 |m (n:Nat) (x:AI)
noncomputable def DP:List Int->Nat->Int
 |[],_=>0|x::_,0=>x|_::l,n+1=>DP l n
noncomputable def AI.ev(c:List Nat)(d:List Int):AI->Int
 | .v i=>DP d i|.k n=>Int.ofNat n|.c e=>((e.ev c:Nat):Int)|.a x y=>x.ev c d+y.ev c d
 | .s x y=>x.ev c d-y.ev c d|.g x=>-x.ev c d|.m n x=>Int.ofNat n*x.ev c d
noncomputable def pL(u w:List Nat×List Nat):List Nat×List Nat:=(aL u.1 w.1,aL u.2 w.2)
noncomputable def AI.li:AI->Bool->List Nat×List Nat
 | .v i,b=>bif b then([],uL i)else([],[])|.k n,b=>bif b then([n],[])else([],[])|.c e,b=>bif b then(e.li,[])else([],[])|.a x y,b=>pL (x.li b) (y.li b)
 | .s x y,b=>pL (x.li b) (y.li (!b))|.g x,b=>x.li (!b)|.m n x,b=>(sL n (x.li b).1,sL n (x.li b).2)
noncomputable def dR:List Int->List Nat->Int
 |x::c,y::l=>x*(y:Int)+dR c l|[],_=>0|_,[]=>0
noncomputable def dI(c:List Nat)(d:List Int)(u:List Nat×List Nat):Int:=((dt (1::c) u.1:Nat):Int)+dR d u.2
theorem Z0(p q r s:Int):p+q+(r+s)=p+r+(q+s):=by omega
theorem oR:∀c,dR c []=0
 |[]=>rfl|_::_=>rfl
theorem Z1:∀c l r,dR c (aL l r)=dR c l+dR c r
 |c,[],r=>by rw[oR,zy];rfl|c,x::l,[]=>by rw[oR,zA];rfl|[],x::l,y::r=>rfl|z::c,x::l,y::r=>by show z*((x+y:Nat):Int)+dR c (aL l r)=(z*x+dR c l)+(z*y+dR c r);rw[Z1 c l r,Ot,Ow];exact Z0 _ _ _ _
theorem Z2(n:Nat):∀c l,dR c (sL n l)=Int.ofNat n*dR c l
 |c,[]=>by rw[oR,Ig];exact oR c|[],x::l=>(Ig _).symm|z::c,x::l=>by show z*((n*x:Nat):Int)+dR c (sL n l)=Int.ofNat n*(z*x+dR c l);rw[Z2 n c l,Ow,Ou,Int.mul_left_comm];rfl
theorem Z3:∀c i,dR c (uL i)=DP c i
 |[],0=>rfl|[],_+1=>rfl|x::c,0=>by show x*1+dR c []=x;rw[oR,Int.mul_one,zA]|x::c,n+1=>by show x*0+dR c (uL n)=DP c n;rw[Z3 c n,Ig,zy]
section
variable (c:List Nat) (d:List Int)
theorem jU(u w:List Nat×List Nat):dI c d (pL u w)=dI c d u+dI c d w:=by show((dt (1::c) (aL u.1 w.1):Nat):Int)+dR d (aL u.2 w.2)=_;rw[qO,Z1,Ot];exact Z0 _ _ _ _
theorem IK(n:Nat)(u:List Nat×List Nat):dI c d (sL n u.1,sL n u.2)=Int.ofNat n*dI c d u:=by show((dt (1::c) (sL n u.1):Nat):Int)+dR d (sL n u.2)=_;rw[Dz,Z2,Ou];exact(Ow _ _ _).symm
theorem PN:dI c d ([],[])=0:=by show((dt (1::c) []:Nat):Int)+dR d []=0;rw[oO,oR];rfl
theorem Zto(p q r s:Int):p-q+(r-s)=p+r-(q+s):=by omega
theorem Z4(p q r s:Int):p-q-(r-s)=p+s-(q+r):=by omega
theorem AI.d7:∀e:AI,e.ev c d=dI c d (e.li true)-dI c d (e.li false)
 | .v i=>by show DP d i=dI c d ([],uL i)-dI c d ([],[]);rw[PN,Ov];show _=((dt (1::c) []:Nat):Int)+dR d (uL i);rw[oO,Z3];exact(zy _).symm|.k n=>by show Int.ofNat n=dI c d ([n],[])-dI c d ([],[]);rw[PN,Ov];show _=((dt (1::c) [n]:Nat):Int)+dR d [];rw[oR,zA];show _=((1*n+dt c []:Nat):Int);rw[oO,Nat.one_mul];rfl|.c e=>by show((e.ev c:Nat):Int)=dI c d (e.li,[])-dI c d ([],[]);rw[PN,Ov];show _=((dt (1::c) e.li:Nat):Int)+dR d [];rw[oR,zA,e.d7]|.a x y=>by show x.ev c d+y.ev c d=dI c d (pL (x.li true) (y.li true))-dI c d (pL (x.li false) (y.li false));rw[jU,jU,x.d7,y.d7];exact Zto _ _ _ _
 | .s x y=>by show x.ev c d-y.ev c d=dI c d (pL (x.li true) (y.li false))-dI c d (pL (x.li false) (y.li true));rw[jU,jU,x.d7,y.d7];exact Z4 _ _ _ _|.g x=>by show -x.ev c d=dI c d (x.li false)-dI c d (x.li true);rw[x.d7];exact Int.neg_sub _ _|.m n x=>by show Int.ofNat n*x.ev c d=dI c d (sL n (x.li true).1,sL n (x.li true).2)-dI c d (sL n (x.li false).1,sL n (x.li false).2);rw[IK,IK,x.d7];exact Int.mul_sub _ _ _
noncomputable def cI(x y:AI):List Nat×List Nat:=pL (x.li true) (y.li false)
noncomputable def xr(u:List Nat×List Nat):List Nat×List Nat:=(aL [1] u.1,u.2)
theorem IV(u:List Nat×List Nat):dI c d (xr u)=dI c d u+1:=by show((dt (1::c) (aL [1] u.1):Nat):Int)+dR d u.2=((dt (1::c) u.1:Nat):Int)+dR d u.2+1;rw[DN,Ot,Int.add_right_comm];rfl
theorem IW(x y:AI):dI c d (cI x y)-dI c d (cI y x)=x.ev c d-y.ev c d:=by unfold cI;rw[jU,jU,x.d7,y.d7,Z4,Int.add_comm (dI c d (y.li true))]
theorem I_{x y:AI}(h:x.ev c d<=y.ev c d):dI c d (cI x y)<=dI c d (cI y x):=by have:=IW c d x y;omega
theorem ZwA{x y:AI}(h:dI c d (cI x y)<=dI c d (cI y x)):x.ev c d<=y.ev c d:=by have:=IW c d x y;omega
noncomputable def Z5:Nat->Int->Int->Prop
 |0,x,y=>x<=y|1,x,y=>x<y|2,x,y=>x=y|3,x,y=>x=y
 |4,x,y=>¬x<=y|5,x,y=>¬x<y|_,_,_=>False
noncomputable def Z6:Nat->AI->AI->List Nat×List Nat
 |0,x,y=>cI x y|1,x,y=>xr (cI x y)|2,x,y=>cI x y|4,x,y=>xr (cI y x)
 |_,x,y=>cI y x
noncomputable def Z7:Nat->AI->AI->List Nat×List Nat
 |0,x,y=>cI y x|1,x,y=>cI y x|2,x,y=>cI y x|_,x,y=>cI x y
theorem Z8{x y:AI}(h:x.ev c d<y.ev c d):dI c d (xr (cI x y))<=dI c d (cI y x):=by have:=IW c d x y;rw[IV];omega
theorem Ztv(x y:AI):∀r,Z5 r (x.ev c d) (y.ev c d)->dI c d (Z6 r x y)<=dI c d (Z7 r x y)
 |0,h=>I_ c d h|1,h=>Z8 c d h|2,h=>I_ c d (Ds h)|3,h=>I_ c d (Ds h.symm)
 |4,h=>Z8 c d (zB.1 h)|5,h=>I_ c d (Ox.1 h)|_+6,h=>h.elim
end
noncomputable def b_:Nat->Nat->AI×Nat
 |0,s=>(.k 0,s)|f+1,s=>bif sJ (s % 16) 7 then(.v (s % 16),s / 16)else bif iu (s % 16) 8 then(.c (bN 9 (s / 16)).1,(bN 9 (s / 16)).2)
  else bif iu (s % 16) 9 then(.g (b_ f (s / 16)).1,(b_ f (s / 16)).2)else bif iu (s % 16) 10 then(.k 1,s / 16)
  else bif iu (s % 16) 11 then(.k (s / 256 % 16^(s / 16 % 16)),s / 256 / 16^(s / 16 % 16))
  else bif iu (s % 16) 12 then(.a (b_ f (s / 16)).1 (b_ f (b_ f (s / 16)).2).1,(b_ f (b_ f (s / 16)).2).2)
  else bif iu (s % 16) 13 then(.m (s / 16 % 256) (b_ f (s / 4096)).1,(b_ f (s / 4096)).2)
  else bif iu (s % 16) 14 then(.k 0,s / 16)else(.s (b_ f (s / 16)).1 (b_ f (b_ f (s / 16)).2).1,(b_ f (b_ f (s / 16)).2).2)
def hP(c:List Nat)(d:List Int)(r s:Nat):Prop:=bif sJ 8 r then Z5 (r-8) ((b_ 9 s).1.ev c d) ((b_ 9 (b_ 9 s).2).1.ev c d)else DG r ((bN 9 s).1.ev c) ((bN 9 (bN 9 s).2).1.ev c)
noncomputable def hR(r s:Nat):Nat:=bif sJ 8 r then(b_ 9 (b_ 9 s).2).2 else(bN 9 (bN 9 s).2).2
noncomputable def hL(r s:Nat):List Nat×List Nat:=bif sJ 8 r then Z6 (r-8) (b_ 9 s).1 (b_ 9 (b_ 9 s).2).1 else(PB r (bN 9 s).1 (bN 9 (bN 9 s).2).1,[])
noncomputable def hH(r s:Nat):List Nat×List Nat:=bif sJ 8 r then Z7 (r-8) (b_ 9 s).1 (b_ 9 (b_ 9 s).2).1 else(DK r (bN 9 s).1 (bN 9 (bN 9 s).2).1,[])
theorem ZvW(c:List Nat)(d:List Int)(r s:Nat)(h:hP c d r s):dI c d (hL r s)<=dI c d (hH r s):=by
 unfold hP at h;unfold hL hH;cases e:sJ 8 r<;>rw[e]at h
 .exact Int.add_le_add_right (zx.2 (ZV c _ _ _ h)) _
 .exact Ztv c d _ _ _ h
noncomputable def zL:List Nat->Bool
 |[]=>true|x::l=>iu x 0&&zL l
noncomputable def PQ:List Nat->List Nat->Bool
 |[],r=>zL r|x::l,[]=>iu x 0&&zL l|x::l,y::r=>iu x y&&PQ l r
theorem PX:∀c l,zL l=true->dR c l=0
 |c,[],_=>oR c|[],x::l,_=>rfl|z::c,x::l,h=>by have h:=(Y4 _ _).mp h;show z*(x:Int)+dR c l=0;rw[zq h.1,PX c l h.2,zA];exact Ig z
theorem Z9:∀c l r,PQ l r=true->dR c l=dR c r
 |c,[],r,h=>(oR c).trans (PX c r h).symm|c,x::l,[],h=>(PX c (x::l) h).trans (oR c).symm|[],x::l,y::r,_=>rfl|z::c,x::l,y::r,h=>by have h:=(Y4 _ _).mp h;show z*(x:Int)+dR c l=z*(y:Int)+dR c r;rw[zq h.1,Z9 c l r h.2]
noncomputable def zH(u w:List Nat×List Nat):Bool:=xq u.1 w.1&&PQ u.2 w.2
theorem DQ(c:List Nat)(d:List Int){u w:List Nat×List Nat}(h:zH u w=true):dI c d u<=dI c d w:=by have h:=(Y4 _ _).mp h;exact Xg (zx.2 (zG _ _ _ h.1)) (Ds (Z9 d _ _ h.2))
noncomputable def P_(c:List Nat)(d:List Int):Nat->Nat->Prop
 |0,s=>hP c d (s % 16) (s / 16)|n+1,s=>hP c d (s / 16 % 16) (s / 256)->P_ c d n (hR (s / 16 % 16) (s / 256))
noncomputable def gI(r s:Nat)(L R:List Nat×List Nat):Bool:=bif iu r 0 then zH (pL R ((bN 9 s).1.li,[])) (pL L ((bN 9 (bN 9 s).2).1.li,[]))
 else bif iu r 1 then zH (xr (pL R ((bN 9 s).1.li,[]))) (pL L ((bN 9 (bN 9 s).2).1.li,[]))
 else bif iu r 8 then zH (pL R (cI (b_ 9 s).1 (b_ 9 (b_ 9 s).2).1)) (pL L (cI (b_ 9 (b_ 9 s).2).1 (b_ 9 s).1))
 else bif iu r 9 then zH (xr (pL R (cI (b_ 9 s).1 (b_ 9 (b_ 9 s).2).1))) (pL L (cI (b_ 9 (b_ 9 s).2).1 (b_ 9 s).1))
 else zH (xr R) L
noncomputable def Qa:Nat->Nat->List Nat×List Nat->List Nat×List Nat->Bool
 |0,s,L,R=>gI (s % 16) (s / 16) L R|n+1,s,L,R=>Qa n (hR (s / 16 % 16) (s / 256)) (pL L (sL (s % 16) (hL (s / 16 % 16) (s / 256)).1,sL (s % 16) (hL (s / 16 % 16) (s / 256)).2)) (pL R (sL (s % 16) (hH (s / 16 % 16) (s / 256)).1,sL (s % 16) (hH (s / 16 % 16) (s / 256)).2))
theorem Ja(c:List Nat)(d:List Int)(e:AE):dI c d (e.li,[])=((e.ev c:Nat):Int):=by show((dt (1::c) e.li:Nat):Int)+dR d []=_;rw[oR,zA,e.d7]
theorem Z_{a b l r:Int}(h:l<=r)(e:r+a<=l+b):a<=b:=by omega
theorem Zpz{a b l r:Int}(h:l<=r)(e:r+a+1<=l+b):a<b:=by omega
theorem Ztn{l r:Int}(h:l<=r)(e:r+1<=l):False:=by omega
theorem Zwv(c:List Nat)(d:List Int)(r s:Nat)(L R:List Nat×List Nat)(h:dI c d L<=dI c d R)(k:gI r s L R=true):hP c d r s:=by
 unfold gI at k;cases e0:iu r 0 with
 |true=>rw[zq e0]at k ⊢;have e:=DQ c d k;rw[jU,jU,Ja,Ja]at e;exact zx.1 (Z_ h e)|false=>
  cases e1:iu r 1 with
  |true=>rw[zq e1]at k ⊢;have e:=DQ c d k;rw[IV,jU,jU,Ja,Ja]at e;exact Ih.1 (Zpz h e)|false=>
   cases e8:iu r 8 with
   |true=>rw[zq e8]at k ⊢;have e:=DQ c d k;rw[jU,jU]at e;exact ZwA c d (Z_ h e)|false=>
    cases e9:iu r 9 with
    |true=>rw[zq e9]at k ⊢;have e:=DQ c d k;rw[IV,jU,jU]at e;have z:=Zpz h e;have y:=IW c d (b_ 9 s).1 (b_ 9 (b_ 9 s).2).1;show(b_ 9 s).1.ev c d<(b_ 9 (b_ 9 s).2).1.ev c d;exact Int.lt_of_sub_neg (y▸Int.sub_neg_of_lt z)|false=>rw[e0,e1,e8,e9]at k;have e:=DQ c d k;rw[IV]at e;exact(Ztn h e).elim
theorem arI(c:List Nat)(d:List Int):∀(n s:Nat) (L R:List Nat×List Nat),dI c d L<=dI c d R->Qa n s L R=true->P_ c d n s
 |0,s,L,R,h,k=>Zwv c d _ _ L R h k|n+1,s,L,R,h,k=>λg=>arI c d n _ _ _ (by rw[jU,jU,IK,IK];exact Xg h (Int.mul_le_mul_of_nonneg_left (ZvW c d _ _ g) (Dp _))) k
end L3
theorem iN(c:List Nat)(d:List Int)(n s:Nat)(h:L3.Qa n s ([],[]) ([],[])=true):L3.P_ c d n s:=L3.arI c d n s ([],[]) ([],[]) (Int.le_refl _) h
set_option Elab.async false
set_option linter.all false
set_option maxRecDepth 100000
namespace L2
open PySem PySem.Spec PyProof.Rows
noncomputable abbrev Key:=Sum Int aj
noncomputable def Zs8:Key->Yh->Bool
 | .inl k,v=>Value.isInt k v|.inr x,v=>Value.isStrOf x v
noncomputable def ZxH(w:bw):Key->Int
 | .inl k=>hashInt k|.inr x=>hashStr w x
theorem sX:∀{k:Key} {v:Yh},Zs8 k v=true->(∃i t,k=Sum.inl i/\v=Value.int i t)\/(∃x t,k=Sum.inr x/\v=Value.str x t)
 | .inl i,v,h=>by obtain⟨t,e⟩:=Value.isInt_shape (k:=i) (v:=v) h;exact .inl ⟨i,t,rfl,e⟩|.inr x,v,h=>by obtain⟨t,e⟩:=Value.isStrOf_shape (x:=x) (v:=v) h;exact .inr ⟨x,t,rfl,e⟩
theorem ZuR(a b:Int):decide ((Sum.inl a:Key)=Sum.inl b)=(a==b):=by
 by_cases e:a=b
 .subst e;simp
 .have h:¬(Sum.inl a:Key)=Sum.inl b:=λq=>e (Sum.inl.inj q);rw[decide_eq_false h];exact(beq_eq_false_iff_ne.mpr e).symm
theorem ZuW(a b:aj):decide ((Sum.inr a:Key)=Sum.inr b)=decide (a=b):=by
 by_cases e:a=b
 .subst e;simp
 .have h:¬(Sum.inr a:Key)=Sum.inr b:=λq=>e (Sum.inr.inj q);rw[decide_eq_false h,decide_eq_false e]
theorem ZtN(a:Int)(b:aj):decide ((Sum.inl a:Key)=Sum.inr b)=false:=decide_eq_false (λq=>nomatch q)
theorem ZtT(a:aj)(b:Int):decide ((Sum.inr a:Key)=Sum.inl b)=false:=decide_eq_false (λq=>nomatch q)
noncomputable def ZnP(prog:bD)(w:bw):PySem.KeyKind prog w Key where
 is:=Zs8
 hash:=ZxH w
 inj:=λv a b ha hb=>by
  rcases sX ha with⟨i,t,rfl,rfl⟩|⟨x,t,rfl,rfl⟩
  .rcases sX hb with⟨j,u,rfl,e⟩|⟨y,u,rfl,e⟩
   .injection e with e1 _;rw[e1]
   .exact nomatch e
  .rcases sX hb with⟨j,u,rfl,e⟩|⟨y,u,rfl,e⟩
   .exact nomatch e
   .injection e with e1 _;rw[e1]
 byValue:=λk v h=>by rcases sX h with⟨i,t,rfl,rfl⟩|⟨x,t,rfl,rfl⟩<;>rfl
 pyHash:=λhv h=>by
  rcases sX hv with⟨i,t,rfl,rfl⟩|⟨x,t,rfl,rfl⟩
  .exact WK h
  .exact WL h
 eqBool:=λhu hv h=>by
  rcases sX hu with⟨i,t,rfl,rfl⟩|⟨x,t,rfl,rfl⟩
  .rcases sX hv with⟨j,u,rfl,rfl⟩|⟨y,u,rfl,rfl⟩
   .rw[ZuR]at h;exact wpAny_eqBool_int h
   .rw[ZtN]at h;exact Pk i t y u _ _ _ _ h
  .rcases sX hv with⟨j,u,rfl,rfl⟩|⟨y,u,rfl,rfl⟩
   .rw[ZtT]at h;exact Iv x t j u _ _ _ _ h
   .rw[ZuW]at h;exact wpAny_eqBool_str h
 «strs»:=λk x t v h=>by
  rcases sX h with⟨i,u,rfl,e⟩|⟨y,u,rfl,e⟩
  .exact nomatch e
  .injection e with e1 _
   subst e1;cases v<;>rfl
end L2
namespace L2
open PySem PySem.Spec PyProof.Rows
inductive V where
 |non|bl (b:Bool)|int (i:Int)|str (x:aj)|zJ (b:Array UInt8)|flt (b:UInt64)|ref (a:Y1)|ty (n:String)
 deriving DecidableEq
noncomputable def RelV:V->Yh->Prop
 | .non,u=>u=Value.none|.bl b,u=>u=Value.bool b|.int i,u=>∃t,u=Value.int i t|.str x,u=>∃t,u=Value.str x t
 | .zJ b,u=>∃t,u=Value.bytes b t|.flt b,u=>∃t,u=Value.float b t|.ref a,u=>u=Value.ref a|.ty n,u=>u=Value.type n
noncomputable abbrev Vals:List V->List Yh->Prop:=Paired RelV
theorem Vals.length{xs:List V}{us:List Yh}(r:Vals xs us):xs.length=us.length:=ZR r
theorem Vals.get:∀{xs:List V} {us:List Yh} {i:Nat} {x:V},Vals xs us->xs[i]?=Ya x->∃u,us[i]?=Ya u/\RelV x u
 |_,_,_,_,.nil,e=>by simp at e|_,_,0,_,.cons r _,e=>by simp at e;subst e;exact⟨_,rfl,r⟩|_,_,i+1,x,.cons _ t,e=>by obtain⟨u,h1,h2⟩:=Vals.get (i:=i) (x:=x) t (by simpa using e);exact⟨u,by simpa using h1,h2⟩
theorem Vals.set{x:V}{u:Yh}(r:RelV x u):∀{xs:List V} {us:List Yh} (i:Nat),Vals xs us->Vals (xs.set i x) (us.set i u)
 |_,_,_,.nil=>.nil|_,_,0,.cons _ t=>.cons r t|_,_,i+1,.cons q t=>.cons q (Vals.set r i t)
theorem Vals.append:∀{xs ys:List V} {us ws:List Yh},Vals xs us->Vals ys ws->Vals (xs++ys) (us++ws)
 |_,_,_,_,.nil,s=>s|_,_,_,_,.cons r t,s=>.cons r (Vals.append t s)
theorem Vals.take:∀{xs:List V} {us:List Yh} (n:Nat),Vals xs us->Vals (xs.take n) (us.take n)
 |_,_,0,_=>.nil|_,_,_+1,.nil=>.nil|_,_,n+1,.cons r t=>.cons r (Vals.take n t)
theorem Vals.drop:∀{xs:List V} {us:List Yh} (n:Nat),Vals xs us->Vals (xs.drop n) (us.drop n)
 |_,_,0,r=>r|_,_,_+1,.nil=>.nil|_,_,n+1,.cons _ t=>Vals.drop n t
noncomputable def nq:Option V->Option Yh->Prop
 |some v,Ya u=>RelV v u|none,Yn=>True|_,_=>False
noncomputable def KV{κ:Type}:List (κ×V)->List (κ×Yh)->Prop:=Paired λ(p:κ×V) (q:κ×Yh)=>p.1=q.1/\RelV p.2 q.2
noncomputable def kV:Key->V
 | .inl i=>.int i|.inr x=>.str x
inductive HO where
 /--a list -/
 |lst (xs:List V)
 /--a tuple (never changes) -/
 |tup (xs:List V)
 /--a dict whose keys are ints and texts;one whose keys are tuples of ints and texts (the empty one is both) -/
 |dK (kvs:List (Key×V))|dT (kvs:List (List Key×V))
 /--a set of ints:its members,its size -/
 |set (S:Int->Bool) (n:Nat)
 /--an instance of the class at C,its dict at dx,its attributes -/
 |ins (C dx:Y1) (fs:List (aj×V))
 /--the dict of the instance at x -/
 |own (x:Y1)
 /--the dict of an exception -/
 |xd (fs:List (aj×V))
 /--a bound method,f of x -/
 |met (f x:Y1)
 /--a range object lo,lo+1,.. below hi -/
 |Qc (lo hi:Int)
 /--a thing that is known to the object (the script;a dict while a loop walks it):read,never written while it is so -/
 |fH (o:aK) (u:HO)
 /--a code object's table -/
 |xu (ps:Array Yh)
 /--any other thing,by what is true of its one object (a def of one's own:AdS a S n:=HO.ext λh=>..) -/
 |ext (φ:aN->Prop)
noncomputable abbrev Hp:=Y1->Option HO
noncomputable def upd(H:Hp)(a:Y1)(o:HO):Hp:=λb=>if b=a then Ya o else H b
variable{H:Hp}
theorem pR{a:Y1}{o:HO}:upd H a o a=Ya o:=by unfold upd;rw[if_pos rfl]
theorem fJ{a b:Y1}{o:HO}(h:b≠a):upd H a o b=H b:=by unfold upd;rw[if_neg h]
theorem DR{a b:Y1}{o:HO}(h:H a=Ya o)(h':H b=Yn):a≠b:=by intro e;subst e;rw[h]at h';cases h'
section
variable (P:bD) (w:bw)
def qP(h:aN)(a:Y1)(items:Array Yh):Prop:=∃o,h.get? a=Ya o/\(o.cls= .type "tuple" /\o.dict=Yn)/\∃n,o.data= .seq items n
theorem qP.tup{h:aN}{a:Y1}{items:Array Yh}(x:qP h a items):IsTup h a items:=let⟨o,e,c,d⟩:=x;⟨o,e,c.1,d⟩
theorem qP.new(h:aN)(items:Array Yh):qP (h.push {cls:=.type "tuple",data:=.seq items}) h.objs.size items:=⟨_,Y2 _ rfl,⟨rfl,rfl⟩,0,rfl⟩
noncomputable def gn(H:Hp)(h:aN)(a:Y1):HO->Prop
 | .lst xs=>xs.length<=bj/\∃(its:List Yh) (n:Nat),Vals xs its/\h.get? a=Ya {cls:=.type "list",data:=.seq its.toArray n}|.tup xs=>xs.length<=bj/\∃its:List Yh,Vals xs its/\qP h a its.toArray|.dK kvs=>kvs.length<=bj/\(a==sysModules)=false/\∃vs,KV kvs vs/\h.DictOf (ZnP P w) a vs|.dT kvs=>kvs.length<=bj/\(a==sysModules)=false/\∃xs:List (List Key×Y1×Yh),
   Paired (λ(p:List Key×V) (q:List Key×Y1×Yh)=>p.1=q.1/\H q.2.1=Ya (.tup (p.1.map kV))/\RelV p.2 q.2.2) kvs xs/\
   ∃o es ep,h.get? a=Ya o/\o.ExactDict/\o.data= .dict es ep/\es.toList=xs.map (entryOfKey (tupleKind (ZnP P w)))/\(xs.map (·.1)).Nodup
 | .set S n=>h.SetOf (intKind P w) a S n|.ins C dx fs=>H dx=Ya (.own a)/\fs.length<=1000/\dx≠a/\h.get? a=Ya (uH C dx)/\
   ∃mA,h.Ns1 dx mA/\(∀f,nq (fs.lookup f) (mA f))/\NQ mA (fs.map (·.1))
 | .own _=>∃o,h.get? a=Ya o|.xd fs=>∃mA,h.Ns1 a mA/\∀f,nq (fs.lookup f) (mA f)|.Qc lo hi=>∃t u v,h.get? a=Ya {cls:=.type "range",data:=.fields #[.int lo t,.int hi u,.int 1 v]}|.fH o u=>h.get? a=Ya o/\gn H h a u
 | .xu ps=>h.get? a=Ya {cls:=.none,data:=.fields ps}|.met f x=>h.get? a=Ya (MJ (.ref f) (.ref x))|.ext φ=>φ h/\(∃o,h.get? a=Ya o)/\∀h1 h2:aN,φ h1->(∀o,h1.get? a=Ya o->h2.get? a=Ya o)->φ h2
def gJ(H:Hp)(h:aN):Prop:=∀a o,H a=Ya o->gn P w H h a o
end
section
variable {P:bD} {w:bw} {H H':Hp} {h h':aN} {a:Y1} {o:HO}
theorem gn.lt(x:gn P w H h a o):a<h.objs.size:=by
 cases o with
 |lst xs=>obtain⟨_,_,_,_,e⟩:=x;exact Y3 e|tup xs=>obtain⟨_,_,_,p⟩:=x;exact p.tup.lt|dK kvs=>obtain⟨_,_,_,_,o,_,_,e,_⟩:=x;exact Y3 e|dT kvs=>obtain⟨_,_,_,_,o,_,_,e,_⟩:=x;exact Y3 e
 |set S n=>obtain⟨o,_,_,_,e,_⟩:=x;exact Y3 e|ins C dx fs=>obtain⟨_,_,_,e,_⟩:=x;exact Y3 e|own y=>obtain⟨_,e⟩:=x;exact Y3 e|xd fs=>obtain⟨_,⟨_,_,_,e,_⟩,_⟩:=x;exact Y3 e
 |Qc lo hi=>obtain⟨_,_,_,e⟩:=x;exact Y3 e|fH ob u=>obtain⟨e,_⟩:=x;exact Y3 e|xu ps=>exact Y3 (show h.get? a=Ya _ from x)|met f y=>exact Y3 (show h.get? a=Ya _ from x)
 |ext φ=>obtain⟨_,⟨_,e⟩,_⟩:=x;exact Y3 e
theorem Paired.Ml{α β:Type}{F G:α->β->Prop}:∀{l₁:List α} {l₂:List β},Paired F l₁ l₂->(∀a b,F a b->G a b)->Paired G l₁ l₂
 |_,_,.nil,_=>.nil|_,_,.cons r t,f=>.cons (f _ _ r) (Paired.Ml t f)
theorem gn.stay(x:gn P w H h a o)(k:∀b u,(b=a\/H b=Ya (.own a))->h.get? b=Ya u->h'.get? b=Ya u)(ho:∀b,H b=Ya (.own a)->H' b=Ya (.own a))(ht:∀b xs,H b=Ya (.tup xs)->H' b=Ya (.tup xs)):gn P w H' h' a o:=by
 induction o with
 |lst xs=>obtain⟨z,its,n,r,e⟩:=x;exact⟨z,its,n,r,k _ _ (.inl rfl) e⟩|tup xs=>obtain⟨z,its,r,ob,e,c⟩:=x;exact⟨z,its,r,ob,k _ _ (.inl rfl) e,c⟩|dK kvs=>obtain⟨z,y,vs,r,ob,es,ep,e,c⟩:=x;exact⟨z,y,vs,r,ob,es,ep,k _ _ (.inl rfl) e,c⟩|dT kvs=>obtain⟨z,y,xs,r,ob,es,ep,e,c⟩:=x;exact⟨z,y,xs,Paired.Ml r λp q z=>⟨z.1,ht _ _ z.2.1,z.2.2⟩,ob,es,ep,k _ _ (.inl rfl) e,c⟩
 |set S n=>obtain⟨ob,es,ep,t,e,c⟩:=x;exact⟨ob,es,ep,t,k _ _ (.inl rfl) e,c⟩|ins C dx fs=>obtain⟨d,z,ne,e,mA,⟨od,es,ep,e2,c⟩,r⟩:=x;exact⟨ho _ d,z,ne,k _ _ (.inl rfl) e,mA,⟨od,es,ep,k _ _ (.inr d) e2,c⟩,r⟩
 |own y=>obtain⟨ob,e⟩:=x;exact⟨ob,k _ _ (.inl rfl) e⟩|xd fs=>obtain⟨mA,⟨od,es,ep,e,c⟩,r⟩:=x;exact⟨mA,⟨od,es,ep,k _ _ (.inl rfl) e,c⟩,r⟩|Qc lo hi=>obtain⟨t,u,v,e⟩:=x;exact⟨t,u,v,k _ _ (.inl rfl) e⟩|fH ob u ih=>obtain⟨e,q⟩:=x;exact⟨k _ _ (.inl rfl) e,ih q⟩
 |xu ps=>have e:h.get? a=Ya {cls:=.none,data:=.fields ps}:=x;show h'.get? a=Ya {cls:=.none,data:=.fields ps};exact k a _ (.inl rfl) e|met f y=>have e:h.get? a=Ya (MJ (.ref f) (.ref y)):=x;show h'.get? a=Ya (MJ (.ref f) (.ref y));exact k a _ (.inl rfl) e|ext φ=>obtain⟨p,⟨o,e⟩,st⟩:=x;exact⟨st _ _ p λo q=>k _ _ (.inl rfl) q,⟨o,k _ _ (.inl rfl) e⟩,st⟩
theorem gJ.lt(x:gJ P w H h)(e:H a=Ya o):a<h.objs.size:=(x a o e).lt
theorem gJ.fresh(x:gJ P w H h)(e:h.objs.size<=a):H a=Yn:=by
 cases q:H a with
 |none=>rfl|some u=>exact absurd (Y9 (x.lt q) e) (u6 _)
theorem gJ.kept(x:gJ P w H h)(k:∀b u,h.get? b=Ya u->h'.get? b=Ya u):gJ P w H h':=λa o e=>(x a o e).stay (λb u _ q=>k b u q) (λ_ q=>q) λ_ _ q=>q
theorem gJ.laid(x:gJ P w H h)(k:∀b u,h.get? b=Ya u->h'.get? b=Ya u)(hp:h.objs.size<=a)(new:gn P w (upd H a o) h' a o):gJ P w (upd H a o) h':=λb u e=>by
 have hn:=x.fresh hp;by_cases hb:b=a
 .subst hb;rw[pR]at e;cases e;exact new
 .rw[fJ hb]at e;exact(x b u e).stay (λc v _ q=>k c v q) (λc q=>by rw[fJ (DR q hn)];exact q) λc xs q=>by rw[fJ (DR q hn)];exact q
end
def Rd(H:Hp)(a:Y1)(u:HO):Prop:=H a=Ya u\/∃o,H a=Ya (.fH o u)
theorem Rd.ok{P:bD}{w:bw}{h:aN}{a:Y1}{u:HO}(r:Rd H a u)(x:gJ P w H h):gn P w H h a u:=by
 rcases r with r|⟨o,r⟩
 .exact x a u r
 .obtain⟨_,q⟩:=x a _ r;exact q
noncomputable def Jb:Option HO->Prop
 |some (.lst _)=>True|some (.dK _)=>True|some (.dT _)=>True|some (.set _ _)=>True
 |some (.ins _ _ _)=>True|some (.ext _)=>True|_=>False
section
variable {P:bD} {w:bw} {H:Hp} {h h':aN} {x e:Y1} {o':HO}
theorem gJ.write(ok:gJ P w H h)(mu:Jb (H x))(he:e=x\/H e=Ya (.own x))(k:∀b u,b≠e->h.get? b=Ya u->h'.get? b=Ya u)(heo:∃u,h'.get? e=Ya u)(new:gn P w (upd H x o') h' x o'):gJ P w (upd H x o') h':=λb u q=>by
 have Vi:∀c y,H c=Ya (.own y)->c≠x:=λc y r z=>by subst z;rw[r]at mu;exact mu
 have Abq:∀c xs,H c=Ya (.tup xs)->c≠x:=λc xs r z=>by subst z;rw[r]at mu;exact mu
 by_cases hb:b=x
 .subst hb;rw[pR]at q;cases q;exact new
 .rw[fJ hb]at q;by_cases hbe:b=e
  .have q':H b=Ya (.own x):=by
    rcases he with z|z
    .exact absurd (hbe.trans z) hb
    .rw[hbe];exact z
   rw[q]at q';cases q';obtain⟨v,hv⟩:=heo;exact⟨v,by rw[hbe];exact hv⟩
  .refine(ok b u q).stay (λc v hc r=>k c v ?_ r) (λc r=>by rw[fJ (Vi c b r)];exact r) λc xs r=>by rw[fJ (Abq c xs r)];exact r
   rcases hc with rfl|hc
   .exact hbe
   .rintro rfl;rcases he with z|z
    .exact Vi c b hc z
    .rw[hc]at z;cases z;exact hb rfl
end
structure Un(fs ex:List Y1)(H H':Hp)(h h':aN):Prop where
 keep:∀b o,h.get? b=Ya o->H b=Yn->b∉fs->b∉ex->h'.get? b=Ya o
 slot:∀b o,h.get? b=Ya o->H b=Yn->b∈fs->b∉ex->∃sl,h'.get? b=Ya {o with slots:=sl}
 free:∀b o,h.get? b=Ya o->H b=Yn->b∉ex->H' b=Yn
 there:∀b o,h.get? b=Ya o->b∉ex->∃o',h'.get? b=Ya o'
 tups:∀b xs,H b=Ya (.tup xs)->H' b=Ya (.tup xs)
 mW:∀b o u,H b=Ya (.fH o u)->H' b=Ya (.fH o u)
 oA:∀b ps,H b=Ya (.xu ps)->∃more,H' b=Ya (.xu (ps++more))
section
variable {fs fs' ex ex':List Y1} {H H1 H2:Hp} {h h1 h2 h':aN} {a x e:Y1} {o:HO}
theorem Un.any(u:Un fs ex H H1 h h1){b:Y1}{ob:aK}(q:h.get? b=Ya ob)(n:H b=Yn)(hx:b∉ex):∃sl,h1.get? b=Ya {ob with slots:=sl}:=by
 by_cases hb:b∈fs
 .exact u.slot b ob q n hb hx
 .exact⟨ob.slots,u.keep b ob q n hb hx⟩
theorem Un.trans(a:Un fs ex H H1 h h1)(b:Un fs ex H1 H2 h1 h2):Un fs ex H H2 h h2 where
 keep:=λc ob q n hc hx=>b.keep c ob (a.keep c ob q n hc hx) (a.free c ob q n hx) hc hx
 slot:=λc ob q n hc hx=>by obtain⟨sl,e1⟩:=a.slot c ob q n hc hx;obtain⟨sl',e2⟩:=b.slot c _ e1 (a.free c ob q n hx) hc hx;exact⟨sl',e2⟩
 free:=λc ob q n hx=>by obtain⟨o',e1⟩:=a.there c ob q hx;exact b.free c o' e1 (a.free c ob q n hx) hx
 there:=λc ob q hx=>by obtain⟨o',e1⟩:=a.there c ob q hx;exact b.there c o' e1 hx
 tups:=λc xs q=>b.tups c xs (a.tups c xs q)
 mW:=λc ob xs q=>b.mW c ob xs (a.mW c ob xs q)
 oA:=λc ps q=>by obtain⟨m1,e1⟩:=a.oA c ps q;obtain⟨m2,e2⟩:=b.oA c _ e1;exact⟨m1++m2,by rw[e2,X8]⟩
theorem Un.kept(k:∀b u,h.get? b=Ya u->h'.get? b=Ya u):Un fs ex H H h h':=⟨λb ob q _ _ _=>k b ob q,λb ob q _ _ _=>⟨ob.slots,k b ob q⟩,λ_ _ _ n _=>n,λb ob q _=>⟨ob,k b ob q⟩,λ_ _ q=>q,λ_ _ _ q=>q,λ_ ps q=>⟨#[],by rw[q];simp⟩⟩
theorem Un.refl:Un fs ex H H h h:=Un.kept λ_ _ q=>q
theorem Un.laid(k:∀b u,h.get? b=Ya u->h'.get? b=Ya u)(hp:h.objs.size<=a)(hn:H a=Yn):Un fs ex H (upd H a o) h h' where
 keep:=λb u q _ _ _=>k b u q
 slot:=λb u q _ _ _=>⟨u.slots,k b u q⟩
 free:=λb u q n _=>by rw[fJ (dw (Y9 (Y3 q) hp))];exact n
 there:=λb u q _=>⟨u,k b u q⟩
 tups:=λb xs q=>by rw[fJ (DR q hn)];exact q
 mW:=λb u xs q=>by rw[fJ (DR q hn)];exact q
 oA:=λb ps q=>⟨#[],by rw[fJ (DR q hn),q];simp⟩
theorem Un.write(mu:Jb (H x))(he:e=x\/H e=Ya (.own x))(k:∀b u,b≠e->h.get? b=Ya u->h'.get? b=Ya u)(heo:∃u,h'.get? e=Ya u):Un fs ex H (upd H x o) h h':=by
 have hx:∀b,H b=Yn->b≠x:=λb n z=>by subst z;rw[n]at mu;exact mu
 have hb:∀b,H b=Yn->b≠e:=λb n z=>by
  subst z;rcases he with r|r
  .exact hx b n r
  .rw[n]at r;cases r
 have hm:∀b u,H b=Ya u->¬Jb (Ya u)->b≠x:=λb u q nm z=>by subst z;rw[q]at mu;exact nm mu
 refine⟨λb u q n _ _=>k b u (hb b n) q,λb u q n _ _=>⟨u.slots,k b u (hb b n) q⟩,λb u q n _=>by rw[fJ (hx b n)];exact n,λb u q _=>?_,
  λb xs q=>by rw[fJ (hm b _ q λz=>z)];exact q,λb u xs q=>by rw[fJ (hm b _ q λz=>z)];exact q,λb ps q=>⟨#[],by rw[fJ (hm b _ q λz=>z),q];simp⟩⟩
 by_cases hbe:b=e
 .subst hbe;exact heo
 .exact⟨u,k b u hbe q⟩
theorem Un.mono(u:Un fs ex H H1 h h1)(hs:∀b∈fs,b∈fs')(hx:∀b∈ex,b∈ex'):Un fs' ex' H H1 h h1:=⟨λb ob q n hb he=>u.keep b ob q n (λz=>hb (hs b z)) λz=>he (hx b z),λ_ _ q n _ he=>u.any q n λz=>he (hx _ z),λb ob q n he=>u.free b ob q n λz=>he (hx b z),λb ob q he=>u.there b ob q λz=>he (hx b z),u.tups,u.mW,u.oA⟩
end
noncomputable def Jc(h:aN)(H:Hp):List Y1:=(gU h.objs.size).filter λa=>(H a).isSome
noncomputable def sY(h:aN)(H:Hp):aN:=PySem.W.hideAll h (Jc h H)
theorem Zos(h:aN)(H:Hp):(sY h H).objs.size=h.objs.size:=PySem.W.hideAll_size _ _
theorem Zp9{h:aN}{b:Y1}{o:aK}(e:h.get? b=Ya o)(n:H b=Yn):(sY h H).get? b=Ya o:=PySem.W.hideAll_get _ e λhm=>by have q:(H b).isSome=true:=(Wr.mp hm).2;rw[n]at q;simp at q
theorem ZsR{h:aN}{b:Y1}{o:aK}(e:(sY h H).get? b=Ya o):h.get? b=Ya o/\H b=Yn:=by
 have e':h.get? b=Ya o:=PySem.W.of_hideAll (Jc h H) e;refine⟨e',?_⟩;cases q:H b with
 |none=>rfl|some x=>have hm:b∈Jc h H:=Wr.mpr ⟨Hh.mpr (Y3 e'),by simp[q]⟩;have z:(sY h H).get? b=Yn:=PySem.W.hideAll_none (Jc h H) hm;rw[z]at e;cases e
noncomputable def Zsp(g h:aN)(L:Y1):List (Y1×aK):=(gU h.objs.size).filterMap λa=>if a=L\/(g.get? a).isSome=true then Yn else(h.get? a).map λo=>(a,o)
noncomputable def rest(g h:aN)(L d:Y1):List (Y1×aK):=(Zsp g h L).filter λp=>decide (p.1≠d)
end L2
namespace L2
open PySem PySem.Spec PyProof.Rows
structure Mod(K:Yb)(mg:aj->Option Yh)(base:aN):Prop where
 DW:K.In base
 glob:base.Ns Yy mg
 blt:∃mb,base.Ns N7 mb/\∀x:aj,x≠ "__name__" ->mb x=jD x
 nolimit:base.NoLimit
/--the context:a def's body (or a comprehension's block) running. base:fixed through the whole law;s₀,H₀:the entry;outer:the frames whose slots others may change(a def's callers);stack:all frames that jj;
  ex:iterators that were made ahead of the entry and are walked here (a comprehension's);fn:the names whose cells were made at the entry (a def:all;a comprehension's block:its own);calm:not within an except suite;pn:pins that every state bears;xe:what is wanted of an exception that leaves the code -/
structure Cx where
 prog:bD
 w:bw
 K:Yb
 mg:aj->Option Yh
 base:aN
 A:bJ
 N:List aj
 s₀:Yj
 H₀:Hp
 env:eV
 outer:List eV
 stack:List eV
 ex:List Y1
 fn:aj->Bool
 calm:Bool
 pn:List (Y1×aK)
 xe:Yh->Yj->Prop
noncomputable def frs(l:List eV):List Y1:=l.filterMap (·.frame)
noncomputable abbrev Cx.fs(X:Cx):List Y1:=frs X.outer
def Jd(sc:Scope)(x:aj):Prop:=sc.names.lookup x=Ya .local\/sc.names.lookup x=Ya .cell\/sc.names.lookup x=Ya .free
def Loc(sc:Scope)(x:aj):Prop:=sc.names.lookup x=Ya .local\/sc.names.lookup x=Ya .cell
def Look(env:eV)(h:aN)(m:aj->Option Yh)(x:aj)(u:Yh):Prop:=(env.kindOf x=Ya .local/\m x=Ya u)\/((env.kindOf x=Ya .cell\/env.kindOf x=Ya .free)/\∃c,env.cells.lookup x=Ya c/\h.IsCell c (Ya u))
structure Cx.Ok(X:Cx):Prop where
 mod:Mod X.K X.mg X.base
 kind:X.env.scope.kind= .function
 glob:X.env.globals=Yy
 blt:X.env.builtins=N7
 above:X.s₀.heap.objs.size<=X.env.locals
 inj:∀x y c,X.env.cells.lookup x=Ya c->X.env.cells.lookup y=Ya c->x=y
 has:∀x,(X.env.kindOf x=Ya .cell\/X.env.kindOf x=Ya .free)->∃c,X.env.cells.lookup x=Ya c
 cab:∀x c,X.fn x=true->X.env.cells.lookup x=Ya c->X.s₀.heap.objs.size<=c
 hd:X.calm=true->X.A.handled=Yn
 frames:X.A.frames=Ya X.stack
 gY:X.stack=X.outer\/(X.stack=X.env::X.outer/\X.env.frame=Ya X.env.locals)
 Je:∀b∈X.ex,b≠X.env.locals/\∀x c,X.env.cells.lookup x=Ya c->c≠b
 bs:∀b o,X.base.get? b=Ya o->X.s₀.heap.get? b=Ya o/\X.H₀ b=Yn
 pU:X.base.objs.size<=X.s₀.heap.objs.size
 Cv:∀b o,X.base.get? b=Ya o->b∉X.ex
 yR:∀b∈X.ex,b∉X.fs
 mX:X.s₀.heap.FunFrames X.base X.outer
 vo:∀b∈X.fs,X.H₀ b=Yn
structure Inv(X:Cx)(pins:List (Y1×aK))(σ:List (Option V))(H:Hp)(s:Yj):Prop where
 ok:X.Ok
 os:s.os=X.s₀.os
 bare:sV s.gens
 base:Un X.fs X.ex X.H₀ H X.s₀.heap s.heap
 loc:∃m,s.heap.Ns X.env.locals m/\∀(i:Nat) (x:aj) (v:V),X.N[i]?=Ya x->σ[i]?=Ya (Ya v)->Jd X.env.scope x->∃u,RelV v u/\Look X.env s.heap m x u
 cell:∀x c,X.env.cells.lookup x=Ya c->∃v,s.heap.IsCell c v
 free:H X.env.locals=Yn
 qG:∀x c,X.env.cells.lookup x=Ya c->H c=Yn
 pin:∀p∈X.pn++pins,s.heap.get? p.1=Ya p.2/\H p.1=Yn/\p.1≠X.env.locals/\p.1∉X.fs/\∀v,p.2.data≠ .cell v
 hok:gJ X.prog X.w H s.heap
 len:σ.length=X.N.length
variable{E:Yh->Yj->Prop}{ch:List Y1}{t':Nat}
section
variable {X:Cx} {pins:List (Y1×aK)} {σ:List (Option V)} {H H':Hp} {s:Yj} {h':aN}
theorem Cx.Ok.Abr(ok:X.Ok){b:Y1}{o:aK}(e:X.base.get? b=Ya o):b∉X.fs:=λhb=>by have:=(ok.mX.mem hb).1;rw[e]at this;cases this
theorem Inv.bs(I:Inv X pins σ H s):∀b o,X.base.get? b=Ya o->s.heap.get? b=Ya o/\H b=Yn:=λb o e=>⟨I.base.keep b o (I.ok.bs b o e).1 (I.ok.bs b o e).2 (I.ok.Abr e) (I.ok.Cv b o e),I.base.free b o (I.ok.bs b o e).1 (I.ok.bs b o e).2 (I.ok.Cv b o e)⟩
theorem Inv.bk(I:Inv X pins σ H s):∀b o,X.base.get? b=Ya o->s.heap.get? b=Ya o:=λb o e=>(I.bs b o e).1
theorem Inv.mod(I:Inv X pins σ H s):Mod X.K X.mg X.base:=I.ok.mod
theorem Inv.dU(I:Inv X pins σ H s):X.K.In s.heap:=I.ok.mod.DW.keeps I.bk
theorem Inv.nolimit(I:Inv X pins σ H s):s.heap.NoLimit:=I.ok.mod.nolimit.keeps I.bk
theorem Inv.fr(I:Inv X pins σ H s):∃m,Fr X.base X.env.locals s.heap m:=
 let⟨m,hn,_⟩:=I.loc
 ⟨m,hn,I.bk,Yk I.ok.pU I.ok.above⟩
theorem Inv.lt(I:Inv X pins σ H s):X.env.locals<s.heap.objs.size:=let⟨_,hn,_⟩:=I.loc;hn.lt
theorem Inv.sz(I:Inv X pins σ H s):X.s₀.heap.objs.size<=s.heap.objs.size:=Yk I.ok.above (Ol I.lt)
theorem Inv.Abs(I:Inv X pins σ H s){a:Y1}(h:s.heap.objs.size<=a):a∉X.fs:=λhb=>by obtain⟨_,o,ho,_⟩:=I.ok.mX.mem hb;exact absurd (Y9 (Y3 ho) (Yk I.sz h)) (u6 _)
theorem Inv.xx(I:Inv X pins σ H s):∀x c,X.env.cells.lookup x=Ya c->c≠X.env.locals:=λx c e z=>by obtain⟨v,o,ho,hd⟩:=I.cell x c e;obtain⟨m,⟨o',es,ep,ho',hd',_⟩,_⟩:=I.loc;rw[z,ho']at ho;cases ho;rw[hd']at hd;cases hd
theorem Inv.mX(I:Inv X pins σ H s):s.heap.FunFrames X.base X.outer:=by
 have all:∀(l:List eV),(∀b∈frs l,b∈X.fs)->X.s₀.heap.FunFrames X.base l->s.heap.FunFrames X.base l:=by
  intro l
  induction l with
  |nil=>intro _ _;trivial|cons env r ih=>intro hs hl;obtain⟨hk,⟨L,o,hf,hn,ho,hd⟩,hr⟩:=hl;have hL:L∈X.fs:=hs L (by unfold frs;rw[Nb,hf];exact Yd);obtain⟨sl,e⟩:=I.base.slot L o ho (I.ok.vo L hL) hL λz=>I.ok.yR L z hL;exact⟨hk,⟨L,_,hf,hn,e,hd⟩,ih (λb hb=>hs b (by unfold frs;rw[Nb,hf];exact Yc _ hb)) hr⟩
 exact all X.outer (λ_ hb=>hb) I.ok.mX
theorem Inv.stack(I:Inv X pins σ H s):s.heap.FunFrames X.base X.stack:=by
 rcases I.ok.gY with e|⟨e,hf⟩
 .rw[e];exact I.mX
 .rw[e];obtain⟨m,hn,_⟩:=I.loc;refine .cons (by rw[I.ok.kind];decide) hf hn ?_ I.mX;exact Heap.get?_none_of_le (Yk I.ok.pU I.ok.above)
theorem Inv.Mg(I:Inv X pins σ H s):∀b∈frs X.stack,b∈X.env.locals::X.fs:=λb hb=>by
 rcases I.ok.gY with e|⟨e,hf⟩
 .rw[e]at hb;exact Yc _ hb
 .rw[e]at hb;unfold frs at hb;rw[Nb,hf]at hb;exact hb
theorem Inv.U3(I:Inv X pins σ H s):∀b∈frs X.stack,H b=Yn:=λb hb=>by
 rcases Ym.mp (I.Mg b hb)with e|hb
 .rw[e];exact I.free
 .obtain⟨_,o,ho,_⟩:=I.ok.mX.mem hb;exact I.base.free b o ho (I.ok.vo b hb) λz=>I.ok.yR b z hb
theorem Inv.step{g':Array GenState}{d':Drawn}(I:Inv X pins σ H s)(hch:∀b∈ch,(b∈X.ex\/X.s₀.heap.objs.size<=b)/\b≠X.env.locals/\(∀x c,X.env.cells.lookup x=Ya c->c≠b)/\∀p∈X.pn++pins,p.1≠b)(keep:∀b o,b≠X.env.locals->b∉X.fs->b∉ch->s.heap.get? b=Ya o->H b=Yn->h'.get? b=Ya o)(slot:∀b o,b≠X.env.locals->b∈X.fs->b∉ch->s.heap.get? b=Ya o->H b=Yn->∃sl,h'.get? b=Ya {o with slots:=sl})(free:∀b o,b∉ch->s.heap.get? b=Ya o->H b=Yn->H' b=Yn)(there:∀b o,b∉ch->s.heap.get? b=Ya o->∃o',h'.get? b=Ya o')(tups:∀b xs,H b=Ya (.tup xs)->H' b=Ya (.tup xs))(mW:∀b o u,H b=Ya (.fH o u)->H' b=Ya (.fH o u))(oA:∀b ps,H b=Ya (.xu ps)->∃more,H' b=Ya (.xu (ps++more)))(ns:∀m,s.heap.Ns X.env.locals m->h'.Ns X.env.locals m)(hok:gJ X.prog X.w H' h')(hg:sV g'):
  Inv X pins σ H' {s with heap:=h',gens:=g',drawn:=d',toks:=t'}:=by
 have neL:∀b o,X.s₀.heap.get? b=Ya o->b≠X.env.locals:=λb o e=>dw (Y9 (Y3 e) I.ok.above);have Jf:∀b o,X.s₀.heap.get? b=Ya o->b∉X.ex->b∉ch:=λb o e hx hb=>by
  rcases(hch b hb).1 with z|z
  .exact hx z
  .exact absurd (Y9 (Y3 e) z) (u6 _)
 have cellK:∀x c,X.env.cells.lookup x=Ya c->∀v,s.heap.IsCell c v->h'.IsCell c v:=λx c e v ak=>by
  obtain⟨o,ho,hd⟩:=ak;have DX:c∉ch:=λz=>(hch c z).2.2.1 x c e rfl;by_cases hc:c∈X.fs
  .obtain⟨sl,q⟩:=slot c o (I.xx x c e) hc DX ho (I.qG x c e);exact⟨_,q,hd⟩
  .exact⟨o,keep c o (I.xx x c e) hc DX ho (I.qG x c e),hd⟩
 refine⟨I.ok,I.os,hg,⟨λb o e n hb hx=>?_,λb o e n hb hx=>?_,λb o e n hx=>?_,λb o e hx=>?_,λb xs e=>tups b xs (I.base.tups b xs e),λb o xs e=>mW b o xs (I.base.mW b o xs e),λb ps e=>?_⟩,?_,λx c e=>?_,?_,λx c e=>?_,λp hp=>?_,hok,I.len⟩
 .exact keep b o (neL b o e) hb (Jf b o e hx) (I.base.keep b o e n hb hx) (I.base.free b o e n hx)
 .obtain⟨sl,e1⟩:=I.base.slot b o e n hb hx;obtain⟨sl',e2⟩:=slot b _ (neL b o e) hb (Jf b o e hx) e1 (I.base.free b o e n hx);exact⟨sl',e2⟩
 .obtain⟨o',e1⟩:=I.base.there b o e hx;exact free b o' (Jf b o e hx) e1 (I.base.free b o e n hx)
 .obtain⟨o',e1⟩:=I.base.there b o e hx;exact there b o' (Jf b o e hx) e1
 .obtain⟨m1,e1⟩:=I.base.oA b ps e;obtain⟨m2,e2⟩:=oA b _ e1;exact⟨m1++m2,by rw[e2,X8]⟩
 .obtain⟨m,hn,hl⟩:=I.loc;refine⟨m,ns m hn,λi x v e1 e2 e3=>?_⟩;obtain⟨u,r,l⟩:=hl i x v e1 e2 e3;refine⟨u,r,?_⟩;rcases l with l|⟨k,c,e,z⟩
  .exact .inl l
  .exact .inr ⟨k,c,e,cellK x c e _ z⟩
 .obtain⟨v,z⟩:=I.cell x c e;exact⟨v,cellK x c e v z⟩
 .obtain⟨m,⟨o,_,_,ho,_⟩,_⟩:=I.loc;exact free _ o (λz=>(hch _ z).2.1 rfl) ho I.free
 .obtain⟨v,o,ho,hd⟩:=I.cell x c e;exact free c o (λz=>(hch c z).2.2.1 x c e rfl) ho (I.qG x c e)
 .obtain⟨e,n,ne,nf,d⟩:=I.pin p hp;have DX:p.1∉ch:=λz=>(hch p.1 z).2.2.2 p hp rfl;exact⟨keep p.1 p.2 ne nf DX e n,free p.1 p.2 DX e n,ne,nf,d⟩
theorem Inv.un(I:Inv X pins σ H s)(u:Un X.fs [] H H' s.heap h')(hok:gJ X.prog X.w H' h'):Inv X pins σ H' {s with heap:=h',toks:=t'}:=by obtain⟨m,⟨o,es,ep,ho,r⟩,_⟩:=id I.loc;obtain⟨sl,hL⟩:=u.any ho I.free (by simp);exact I.step (g':=s.gens) (d':=s.drawn) (ch:=[]) (λ_ z=>nomatch z) (λb o _ hb _ e n=>u.keep b o e n hb (by simp)) (λb o _ hb _ e n=>u.slot b o e n hb (by simp)) (λb o _ e n=>u.free b o e n (by simp)) (λb o _ e=>u.there b o e (by simp)) u.tups u.mW u.oA (λm' hm=>by obtain⟨o',es',ep',ho',r'⟩:=hm;rw[ho]at ho';cases ho';exact⟨_,es',ep',hL,r'⟩) hok I.bare
theorem Inv.call{g':Array GenState}{d':Drawn}(I:Inv X pins σ H s)(u:Un (frs X.stack) ch H H' s.heap h')(hok:gJ X.prog X.w H' h')(hg:sV g')(hch:∀b∈ch,(b∈X.ex\/X.s₀.heap.objs.size<=b)/\b≠X.env.locals/\(∀x c,X.env.cells.lookup x=Ya c->c≠b)/\∀p∈X.pn++pins,p.1≠b):
  Inv X pins σ H' {s with heap:=h',gens:=g',drawn:=d',toks:=t'}:=by
 obtain⟨m,⟨o,es,ep,ho,r⟩,_⟩:=id I.loc;obtain⟨sl,hL⟩:=u.any ho I.free λz=>(hch _ z).2.1 rfl;exact I.step (ch:=ch) hch (λb o hL hb hc e n=>u.keep b o e n (λz=>(Ym.mp (I.Mg b z)).elim hL hb) hc) (λb o _ _ hc e n=>u.any e n hc) (λb o hc e n=>u.free b o e n hc) (λb o hc e=>u.there b o e hc) u.tups u.mW u.oA (λm' hm=>by obtain⟨o',es',ep',ho',r'⟩:=hm;rw[ho]at ho';cases ho';exact⟨_,es',ep',hL,r'⟩) hok hg
theorem Inv.turned{it:Y1}(I:Inv X pins σ H s)(k:∀b o,b≠it->s.heap.get? b=Ya o->h'.get? b=Ya o)(hn:H it=Yn)(hL:it≠X.env.locals)(h1:it∈X.ex\/X.s₀.heap.objs.size<=it)(h2:∀x c,X.env.cells.lookup x=Ya c->c≠it)(h3:∀p∈X.pn++pins,p.1≠it):Inv X pins σ H {s with heap:=h',toks:=t'}:=by
 have DY:∀b u,H b=Ya u->b≠it:=λb u e z=>by rw[z,hn]at e;cases e
 refine I.step (g':=s.gens) (d':=s.drawn) (ch:=[it]) (λb hb=>?_) (λb o _ _ hc e _=>k b o (λz=>hc (by simp[z])) e) (λb o _ _ hc e _=>⟨o.slots,k b o (λz=>hc (by simp[z])) e⟩) (λ_ _ _ _ n=>n)
  (λb o hc e=>⟨o,k b o (λz=>hc (by simp[z])) e⟩) (λ_ _ e=>e) (λ_ _ _ e=>e) (λb ps e=>⟨#[],by rw[e];simp⟩) (λm hm=>?_) (λb u e=>?_) I.bare
 .have e:b=it:=by simpa using hb
  subst e;exact⟨h1,hL,h2,h3⟩
 .obtain⟨o,es,ep,ho,r⟩:=hm;exact⟨o,es,ep,k _ o (cO hL) ho,r⟩
 .refine(I.hok b u e).stay (λc v hc q=>k c v ?_ q) (λ_ q=>q) λ_ _ q=>q;rcases hc with z|z
  .rw[z];exact DY b u e
  .exact DY c _ z
theorem Inv.tok(I:Inv X pins σ H s)(t:Nat):Inv X pins σ H {s with toks:=t}:=I.un (h':=s.heap) (t':=t) Un.refl I.hok
theorem Inv.kept(I:Inv X pins σ H s)(k:∀b u,s.heap.get? b=Ya u->h'.get? b=Ya u):Inv X pins σ H {s with heap:=h',toks:=t'}:=I.un (Un.kept k) (I.hok.kept k)
theorem Inv.laid{a:Y1}{o:HO}(I:Inv X pins σ H s)(k:∀b u,s.heap.get? b=Ya u->h'.get? b=Ya u)(hp:s.heap.objs.size<=a)(new:gn X.prog X.w (upd H a o) h' a o):
  Inv X pins σ (upd H a o) {s with heap:=h',toks:=t'}:=I.un (Un.laid k hp (I.hok.fresh hp)) (I.hok.laid k hp new)
theorem Inv.write{x e:Y1}{o:HO}(I:Inv X pins σ H s)(mu:Jb (H x))(he:e=x\/H e=Ya (.own x))(k:∀b u,b≠e->s.heap.get? b=Ya u->h'.get? b=Ya u)(heo:∃u,h'.get? e=Ya u)(new:gn X.prog X.w (upd H x o) h' x o):Inv X pins σ (upd H x o) {s with heap:=h',toks:=t'}:=I.un (Un.write mu he k heo) (I.hok.write mu he k heo new)
theorem Inv.U4{Ve:List (Y1×aK)}(I:Inv X pins σ H s)(h:∀p∈Ve,s.heap.get? p.1=Ya p.2/\H p.1=Yn/\p.1≠X.env.locals/\p.1∉X.fs/\∀v,p.2.data≠ .cell v):Inv X Ve σ H s:=⟨I.ok,I.os,I.bare,I.base,I.loc,I.cell,I.free,I.qG,λp hp=>(fQ.mp hp).elim (λz=>I.pin p (uI _ z)) (h p),I.hok,I.len⟩
theorem Zlf{N:List aj}(hN:N.Nodup){i j:Nat}{x:aj}(a:N[i]?=Ya x)(b:N[j]?=Ya x):i=j:=by obtain⟨h1,e1⟩:=Yf.mp a;obtain⟨h2,e2⟩:=Yf.mp b;exact(Wm hN).mp (e1.trans e2.symm)
theorem Qd{M:Model}{A:bJ}{i:Nat}{x:aj}{v:V}{u:Yh}{Q:Unit->Yj->Prop}(I:Inv X pins σ H s)(hN:X.N.Nodup)(hi:X.N[i]?=Ya x)(hx:Loc X.env.scope x)(r:RelV v u)(h:∀s',Inv X pins (σ.set i (Ya v)) H s'->(∃a,zr a s.heap s'.heap/\(a=X.env.locals\/X.env.cells.lookup x=Ya a))->Q () s')(hf:X.fn x=true\/X.env.scope.names.lookup x=Ya .local:=by first|exact .inl rfl|exact .inr rfl|assumption):ao M A (storeName X.env x u) Q E s:=by
 obtain⟨m,hn,hl⟩:=id I.loc;have hcls:(X.env.scope.kind== .class|| (X.env.scope.kind== .module&&X.env.locals !=X.env.globals))=false:=by rw[I.ok.kind];rfl
 have hiσ:i<σ.length:=by rw[I.len];exact(Yf.mp hi).1
 have xx:=I.xx;have tracked:∀{a:Y1} {h':aN},(∃o,s.heap.get? a=Ya o/\H a=Yn)->zr a s.heap h'->gJ X.prog X.w H h':=λ{a h'} ha hs b ob e=>by
  obtain⟨_,_,hfree⟩:=ha;refine(I.hok b ob e).stay (λc w' hc q=>(hs.2 c ?_).trans q) (λ_ q=>q) λ_ _ q=>q;rintro rfl;rcases hc with rfl|hc
  .rw[hfree]at e;cases e
  .rw[hfree]at hc;cases hc
 rcases hx with hk|hk
 .refine wpAny_storeName_local hk hn (λh' hn' hs=>?_) hcls;obtain⟨oL,_,_,hoL,_⟩:=id hn;refine h _ ⟨I.ok,I.os,I.bare,⟨λb o e n hb hx=>?_,λb o e n hb hx=>?_,I.base.free,λb o e hx=>?_,I.base.tups,I.base.mW,I.base.oA⟩,⟨_,hn',λj y v' e1 e2 e3=>?_⟩,λy c e=>?_,I.free,I.qG,λp hp=>?_,tracked ⟨oL,hoL,I.free⟩ hs,by simpa using I.len⟩ ⟨_,hs,.inl rfl⟩
  .exact(hs.2 b (dw (Y9 (Y3 e) I.ok.above))).trans (I.base.keep b o e n hb hx)
  .obtain⟨sl,e1⟩:=I.base.slot b o e n hb hx;exact⟨sl,(hs.2 b (dw (Y9 (Y3 e) I.ok.above))).trans e1⟩
  .obtain⟨o',e1⟩:=I.base.there b o e hx;exact⟨o',(hs.2 b (dw (Y9 (Y3 e) I.ok.above))).trans e1⟩
  .by_cases hj:j=i
   .subst hj;rw[hi]at e1;cases e1;rw[Y0 hiσ]at e2;cases e2;exact⟨u,r,.inl ⟨hk,by simp⟩⟩
   .rw[Yr (cO hj)]at e2;obtain⟨u',r',q⟩:=hl j y v' e1 e2 e3;refine⟨u',r',?_⟩;rcases q with⟨k,e⟩|⟨k,c,e,z⟩
    .refine .inl ⟨k,?_⟩;have:y≠x:=λe=>hj (Zlf hN e1 (e▸hi));simp[this,e]
    .exact .inr ⟨k,c,e,z.sameBut hs (xx y c e)⟩
  .obtain⟨w',z⟩:=I.cell y c e;exact⟨w',z.sameBut hs (xx y c e)⟩
  .obtain⟨e,n,ne,nf,d⟩:=I.pin p hp;exact⟨(hs.2 p.1 ne).trans e,n,ne,nf,d⟩
 .have hfn:X.fn x=true:=by
   rcases hf with z|z
   .exact z
   .rw[z]at hk;cases hk
  obtain⟨c,hc⟩:=I.ok.has x (.inl hk);obtain⟨w',z⟩:=I.cell x c hc;refine wpAny_storeName_cell I.ok.kind hk hc z (λh' hc' hs=>?_);obtain⟨oc,hoc,Abt⟩:=id z;refine h {s with heap:=h'} ⟨I.ok,I.os,I.bare,⟨λb o e n hb hx=>?_,λb o e n hb hx=>?_,I.base.free,λb o e hx=>?_,I.base.tups,I.base.mW,I.base.oA⟩,⟨m,hn.sameBut hs (cO (xx x c hc)),λj y v' e1 e2 e3=>?_⟩,λy c' e=>?_,I.free,I.qG,λp hp=>?_,tracked ⟨oc,hoc,I.qG x c hc⟩ hs,by simpa using I.len⟩ ⟨c,hs,.inr hc⟩
  .exact(hs.2 b (dw (Y9 (Y3 e) (I.ok.cab x c hfn hc)))).trans (I.base.keep b o e n hb hx)
  .obtain⟨sl,e1⟩:=I.base.slot b o e n hb hx;exact⟨sl,(hs.2 b (dw (Y9 (Y3 e) (I.ok.cab x c hfn hc)))).trans e1⟩
  .obtain⟨o',e1⟩:=I.base.there b o e hx;exact⟨o',(hs.2 b (dw (Y9 (Y3 e) (I.ok.cab x c hfn hc)))).trans e1⟩
  .by_cases hj:j=i
   .subst hj;rw[hi]at e1;cases e1;rw[Y0 hiσ]at e2;cases e2;exact⟨u,r,.inr ⟨.inl hk,c,hc,hc'⟩⟩
   .rw[Yr (cO hj)]at e2;obtain⟨u',r',q⟩:=hl j y v' e1 e2 e3;refine⟨u',r',?_⟩;rcases q with q|⟨k,c',e,z'⟩
    .exact .inl q
    .refine .inr ⟨k,c',e,z'.sameBut hs ?_⟩;rintro rfl;exact hj (Zlf hN e1 (I.ok.inj _ _ _ e hc▸hi))
  .by_cases hcc:c'=c
   .subst hcc;exact⟨_,hc'⟩
   .obtain⟨w2,z2⟩:=I.cell y c' e;exact⟨w2,z2.sameBut hs hcc⟩
  .obtain⟨e,n,ne,nf,d⟩:=I.pin p hp;refine⟨(hs.2 p.1 ?_).trans e,n,ne,nf,d⟩;intro q;rw[q,hoc]at e;have q':oc=p.2:=Y6 e;exact d w' (by rw[←q'];exact Abt)
theorem ZlL{M:Model}{A:bJ}{i:Nat}{x:aj}{v:V}{u:Yh}{Q:Unit->Yj->Prop}(I:Inv X pins σ H s)(hN:X.N.Nodup)(hi:X.N[i]?=Ya x)(hx:Loc X.env.scope x)(r:RelV v u)(h:∀s',Inv X pins (σ.set i (Ya v)) H s'->Q () s')(hf:X.fn x=true\/X.env.scope.names.lookup x=Ya .local:=by first|exact .inl rfl|exact .inr rfl|assumption):ao M A (storeName X.env x u) Q E s:=Qd I hN hi hx r (λs' I' _=>h s' I') hf
theorem Inv.call'{s':Yj}(I:Inv X pins σ H s)(ho:s'.os=s.os)(u:Un (frs X.stack) ch H H' s.heap s'.heap)(hok:gJ X.prog X.w H' s'.heap)(hg:sV s'.gens)(hch:∀b∈ch,(b∈X.ex\/X.s₀.heap.objs.size<=b)/\b≠X.env.locals/\(∀x c,X.env.cells.lookup x=Ya c->c≠b)/\∀p∈X.pn++pins,p.1≠b):Inv X pins σ H' s':=by obtain⟨h',g',d',t',o'⟩:=s';have e:o'=s.os:=ho;subst e;exact I.call (g':=g') (t':=t') (d':=d') u hok hg hch
end
noncomputable abbrev XK:=Yh->Option Y1->Hp->Prop
noncomputable abbrev St:=List (Option V)
noncomputable abbrev VK:=V->Hp->Prop
noncomputable abbrev TE:=St->Hp->VK->Prop
noncomputable abbrev TT:=St->Hp->(Bool->Hp->Prop)->Prop
noncomputable abbrev TA:=St->Hp->(List V->Hp->Prop)->Prop
structure Ends where
 nx:St->Hp->Prop
 rt:VK
 bk:St->Hp->Prop:=λ_ _=>False
 ct:St->Hp->Prop:=λ_ _=>False
noncomputable abbrev TS:=Ends->St->Hp->Prop
inductive EP(X:Cx)(pins:List (Y1×aK))(σ:St)(Q:VK)(u:Yh)(s':Yj):Prop where
 |mk (v:V) (H':Hp) (I:Inv X pins σ H' s') (r:RelV v u) (q:Q v H'):EP X pins σ Q u s'
inductive TP(X:Cx)(pins:List (Y1×aK))(σ:St)(Q:Bool->Hp->Prop)(b:Bool)(s':Yj):Prop where
 |mk (H':Hp) (I:Inv X pins σ H' s') (q:Q b H'):TP X pins σ Q b s'
inductive AP(X:Cx)(pins:List (Y1×aK))(σ:St)(Q:List V->Hp->Prop)(us:List Yh)(s':Yj):Prop where
 |mk (vs:List V) (H':Hp) (I:Inv X pins σ H' s') (r:Vals vs us) (q:Q vs H'):AP X pins σ Q us s'
def SP(X:Cx)(pins:List (Y1×aK))(D:Ends)(f:Flow)(s':Yj):Prop:=
 match f with
 | .next=>∃σ' H',Inv X pins σ' H' s'/\D.nx σ' H'|.brk=>∃σ' H',Inv X pins σ' H' s'/\D.bk σ' H'|.cont=>∃σ' H',Inv X pins σ' H' s'/\D.ct σ' H'|.ret u=>∃v σ' H',Inv X pins σ' H' s'/\RelV v u/\D.rt v H'
def PE(X:Cx)(e:Expr)(t:TE):Prop:=∀(pins:List (Y1×aK)) (s:Yj) (σ:St) (H:Hp) (Q:VK),Inv X pins σ H s->t σ H Q->ao (au X.prog X.w) X.A (aF e X.env) (EP X pins σ Q) X.xe s
def PT(X:Cx)(e:Expr)(t:TT):Prop:=∀(pins:List (Y1×aK)) (s:Yj) (σ:St) (H:Hp) (Q:Bool->Hp->Prop),Inv X pins σ H s->t σ H Q->ao (au X.prog X.w) X.A (isTrue e X.env (aF e X.env)) (TP X pins σ Q) X.xe s
def PW(X:Cx)(e:Expr)(t:TT):Prop:=∀(whole:oK Yh) (pins:List (Y1×aK)) (s:Yj) (σ:St) (H:Hp) (Q:Bool->Hp->Prop),Inv X pins σ H s->t σ H Q->ao (au X.prog X.w) X.A (isTrue e X.env whole) (TP X pins σ Q) X.xe s
theorem PW.pt{X:Cx}{e:Expr}{t:TT}(h:PW X e t):PT X e t:=h _
def PA(X:Cx)(es:List Expr)(t:TA):Prop:=∀(pos:aU) (pins:List (Y1×aK)) (s:Yj) (σ:St) (H:Hp) (Q:List V->Hp->Prop),Inv X pins σ H s->t σ H Q->ao (au X.prog X.w) X.A (HB (bZ pos (Yw es X.env))) (AP X pins σ Q) X.xe s
def PS(X:Cx)(st:Yep)(t:TS):Prop:=∀(pins:List (Y1×aK)) (s:Yj) (σ:St) (H:Hp) (D:Ends),Inv X pins σ H s->t D σ H->ao (au X.prog X.w) X.A (exec st X.env) (SP X pins D) X.xe s
def jE(X:Cx)(st:List Yep)(t:TS):Prop:=∀(pins:List (Y1×aK)) (s:Yj) (σ:St) (H:Hp) (D:Ends),Inv X pins σ H s->t D σ H->ao (au X.prog X.w) X.A (execs st X.env) (SP X pins D) X.xe s
theorem aD{α:Type}{t:oK α}{Q Q':α->Yj->Prop}{M:Model}{A:bJ}{s:Yj}(h:ao M A t Q E s)(hQ:∀a s,Q a s->Q' a s):ao M A t Q' E s:=ju h hQ λ_ _ x=>x
end L2
namespace L2
open PySem PySem.Spec PyProof.Rows
variable{x:aj}
section
variable {X:Cx}
def ZxB(i:Nat):TE:=λσ H Q=>∃v,σ[i]?=Ya (Ya v)/\Q v H
def tC(v:V):TE:=λ_ H Q=>Q v H
theorem Zt1{i:Nat}{pos:aU}(hN:X.N[i]?=Ya x)(hv:Jd X.env.scope x)(hd:(x==("__debug__":aj))=false:=by decide)(hcd:(x==("__classdict__":aj))=false:=by decide):PE X (.Name x pos) (ZxB i):=by
 intro pins s σ H Q I h;obtain⟨v,e,h⟩:=h;obtain⟨m,hn,hl⟩:=I.loc;obtain⟨u,r,l⟩:=hl i x v hN e hv;have fin:EP X pins σ Q u s:=⟨v,H,I,r,h⟩;rcases l with⟨hk,hm⟩|⟨hk,c,hc,hcell⟩
 .exact N8 (wpAny_loadName_local I.ok.kind hk hn hm fin) hd
 .rcases hk with hk|hk
  .exact N8 (wpAny_loadName_cell I.ok.kind hk hc hcell fin) hd
  .exact N8 (wpAny_loadName_free I.ok.kind hk hc hcell fin hcd) hd
theorem Qe{i j pos}:PE X (.Constant (.int i) j pos) (tC (.int i)):=λ_ _ _ H _ I h=>wpAny_Constant_int ⟨.int i,H,I.tok _,⟨_,rfl⟩,h⟩
theorem Zwd{b j pos}:PE X (.Constant (.bool b) j pos) (tC (.bl b)):=λ_ _ _ H _ I h=>Constant_bool ⟨.bl b,H,I,rfl,h⟩
theorem Zuu{j pos}:PE X (.Constant .none j pos) (tC .non):=λ_ _ _ H _ I h=>Constant_none ⟨.non,H,I,rfl,h⟩
theorem Zuf{x j pos}:PE X (.Constant (.str x) j pos) (tC (.str x)):=λ_ _ _ H _ I h=>Calls.Constant_str ⟨.str x,H,I.tok _,⟨_,rfl⟩,h⟩
def Gl(X:Cx)(x:aj):Prop:=X.env.kindOf x=Ya .globalImplicit
theorem Qf{E:Yh->Yj->Prop}{pins:List (Y1×aK)}{s:Yj}{σ:St}{H:Hp}{u:Yh}{pos:aU}{Q:Yh->Yj->Prop}(I:Inv X pins σ H s)(hg:Gl X x)(hm:X.mg x=Ya u)(h:Q u s)(hd:(x==("__debug__":aj))=false:=by decide):ao (au X.prog X.w) X.A (aF (.Name x pos) X.env) Q E s:=YW I.ok.kind hg (Calls.loadGlobal_global (by rw[I.ok.glob];exact I.mod.glob.keeps I.bk) hm h) hd
theorem xF{E:Yh->Yj->Prop}{pins:List (Y1×aK)}{s:Yj}{σ:St}{H:Hp}{u:Yh}{pos:aU}{Q:Yh->Yj->Prop}(I:Inv X pins σ H s)(hg:Gl X x)(hm:X.mg x=Yn)(hv:jD x=Ya u)(h:Q u s)(hn:x≠ "__name__":=by decide)(hd:(x==("__debug__":aj))=false:=by decide):ao (au X.prog X.w) X.A (aF (.Name x pos) X.env) Q E s:=by obtain⟨mb,h1,h2⟩:=I.mod.blt;exact YW I.ok.kind hg (Calls.loadGlobal_builtin (by rw[I.ok.glob];exact I.mod.glob.keeps I.bk) hm (by rw[I.ok.blt];exact h1.keeps I.bk) ((h2 x hn).trans hv) h) hd
theorem zK{v:V}{u:Yh}{pos:aU}(hg:Gl X x)(hm:X.mg x=Ya u)(r:RelV v u)(hd:(x==("__debug__":aj))=false:=by decide):PE X (.Name x pos) (tC v):=λ_ _ _ H _ I h=>Qf I hg hm ⟨v,H,I,r,h⟩ hd
theorem Qg{v:V}{u:Yh}{pos:aU}(hg:Gl X x)(hm:X.mg x=Yn)(hv:jD x=Ya u)(r:RelV v u)(hn:x≠ "__name__":=by decide)(hd:(x==("__debug__":aj))=false:=by decide):PE X (.Name x pos) (tC v):=λ_ _ _ H _ I h=>xF I hg hm hv ⟨v,H,I,r,h⟩ hn hd
variable {a b:Expr} {ta tb:TE} {pos:aU}
def tB(t:TE):TT:=λσ H Q=>t σ H λx H1=>∃c,x= .bl c/\Q c H1
theorem ZuG{e:Expr}{t:TE}(h:PE X e t)(he:∀whole,isTrue e X.env whole=(do let v ←whole;Di e.pos;uT [v] (truthy v)):=by intro _;rfl):PT X e (tB t):=by intro pins s σ H Q I hw;refine isTrue_plain (aD (h pins s σ H _ I hw) λv s1 ak=>?_) (he _);obtain⟨x,H1,I1,r1,q1⟩:=ak;obtain⟨d,rfl,q⟩:=q1;cases r1;exact pJ ⟨H1,I1,q⟩
variable {tA Jg:TT} {rest:List Expr}
def ZwY(t u:TT):TT:=λσ H Q=>t σ H λc H1=>if c=true then u σ H1 Q else Q false H1
def tOr(t u:TT):TT:=λσ H Q=>t σ H λc H1=>if c=true then Q true H1 else u σ H1 Q
def ZxE(t:TT):TT:=λσ H Q=>t σ H λc H1=>Q (!c) H1
theorem Zsm(ha:PT X a tA):PW X (.BoolOp .And [a] pos) tA:=by
 intro wh pins s σ H Q I h;refine isTrue_and (aD (ha pins s σ H Q I h) λc s1 e=>?_);cases c with
 |true=>exact isTrue_and_nil e|false=>exact e
theorem Zt9(ha:PT X a tA):PW X (.BoolOp .Or [a] pos) tA:=by
 intro wh pins s σ H Q I h;refine isTrue_or (aD (ha pins s σ H Q I h) λc s1 e=>?_);cases c with
 |false=>exact isTrue_or_nil e|true=>exact e
theorem Zt8(ha:PT X a tA)(hb:PW X (.BoolOp .And (b::rest) pos) Jg):PW X (.BoolOp .And (a::b::rest) pos) (ZwY tA Jg):=by
 intro wh pins s σ H Q I h;refine isTrue_and (aD (ha pins s σ H _ I h) λc s1 ak=>?_);obtain⟨H1,I1,q1⟩:=ak;cases c with
 |true=>exact hb wh pins s1 σ H1 Q I1 q1|false=>exact⟨H1,I1,q1⟩
theorem Zwf(ha:PT X a tA)(hb:PW X (.BoolOp .Or (b::rest) pos) Jg):PW X (.BoolOp .Or (a::b::rest) pos) (tOr tA Jg):=by
 intro wh pins s σ H Q I h;refine isTrue_or (aD (ha pins s σ H _ I h) λc s1 ak=>?_);obtain⟨H1,I1,q1⟩:=ak;cases c with
 |true=>exact⟨H1,I1,q1⟩|false=>exact hb wh pins s1 σ H1 Q I1 q1
theorem ZtH(ha:PT X a tA):PT X (.UnaryOp .Not a pos) (ZxE tA):=by intro pins s σ H Q I h;exact isTrue_not (aD (ha pins s σ H (λc H1=>Q (!c) H1) I h) λc s' ⟨H',I',q⟩=>⟨H',I',q⟩)
def ZvD(ta tb:TE):TE:=λσ H Q=>ta σ H λx H1=>∃c,x= .bl c/\if c=true then tb σ H1 Q else Q (.bl false) H1
def Zxt(ta tb:TE):TE:=λσ H Q=>ta σ H λx H1=>∃c,x= .bl c/\if c=true then Q (.bl true) H1 else tb σ H1 Q
def Zv6(ta:TE):TE:=λσ H Q=>ta σ H λx H1=>∃c,x= .bl c/\Q (.bl (!c)) H1
theorem ZtW{op}{t:TE}(h:PE X a t):PE X (.BoolOp op [a] pos) t:=λpins s σ H Q I hw=>BoolOp_one (h pins s σ H Q I hw)
theorem Ztj(ha:PE X a ta)(hb:PE X (.BoolOp .And (b::rest) pos) tb):PE X (.BoolOp .And (a::b::rest) pos) (ZvD ta tb):=by
 intro pins s σ H Q I h;refine BoolOp_and (aD (ha pins s σ H _ I h) λv s1 ak=>?_);obtain⟨x,H1,I1,r1,q1⟩:=ak;obtain⟨c,rfl,q1⟩:=q1;cases r1;refine pJ ?_;cases c with
 |true=>exact hb pins s1 σ H1 Q I1 q1|false=>exact⟨.bl false,H1,I1,rfl,q1⟩
theorem Zwi(ha:PE X a ta)(hb:PE X (.BoolOp .Or (b::rest) pos) tb):PE X (.BoolOp .Or (a::b::rest) pos) (Zxt ta tb):=by
 intro pins s σ H Q I h;refine BoolOp_or (aD (ha pins s σ H _ I h) λv s1 ak=>?_);obtain⟨x,H1,I1,r1,q1⟩:=ak;obtain⟨c,rfl,q1⟩:=q1;cases r1;refine pJ ?_;cases c with
 |false=>exact hb pins s1 σ H1 Q I1 q1|true=>exact⟨.bl true,H1,I1,rfl,q1⟩
theorem ZuK(ha:PE X a ta):PE X (.UnaryOp .Not a pos) (Zv6 ta):=by intro pins s σ H Q I h;refine UnaryOp_ (aD (ha pins s σ H _ I h) λv s1 ak=>?_);obtain⟨x,H1,I1,r1,q1⟩:=ak;obtain⟨c,rfl,q1⟩:=q1;cases r1;exact not_of (pJ ⟨.bl (!c),H1,I1,rfl,q1⟩)
def Qh(t:TT)(ta tb:TE):TE:=λσ H Q=>t σ H λc H1=>if c=true then ta σ H1 Q else tb σ H1 Q
theorem Zp4{c:Expr}(hc:PT X c tA)(ha:PE X a ta)(hb:PE X b tb):PE X (.IfExp c a b pos) (Qh tA ta tb):=by
 intro pins s σ H Q I h;refine wpAny_IfExp (aD (hc pins s σ H _ I h) λd s1 ak=>?_);obtain⟨H1,I1,q1⟩:=ak;cases d with
 |true=>exact ha pins s1 σ H1 Q I1 q1|false=>exact hb pins s1 σ H1 Q I1 q1
end
end L2
namespace L2
open PySem PySem.Spec PyProof.Rows
def bB(K:Yb)(H:Hp)(a:Y1)(xs:List V):Prop:=
 Rd H a (.lst xs)\/
  ∃(o:aK) (its:Array Yh) (n:Nat),K.lookup a=Ya o/\o.cls= .type "list" /\o.dict=Yn/\o.data= .seq its n/\its.size<=bj/\Vals xs its.toList
def cF(K:Yb)(H:Hp)(a:Y1)(xs:List V):Prop:=
 Rd H a (.tup xs)\/
  ∃(o:aK) (its:Array Yh) (n:Nat),K.lookup a=Ya o/\(o.cls= .type "tuple" /\o.dict=Yn)/\o.data= .seq its n/\its.size<=bj/\Vals xs its.toList
noncomputable def ZxJ:Yh->Option V
 | .none=>Ya .non|.bool b=>Ya (.bl b)|.int i _=>Ya (.int i)|.str x _=>Ya (.str x)
 | .bytes b _=>Ya (.zJ b)|.float b _=>Ya (.flt b)|.ref a=>Ya (.ref a)|.type n=>Ya (.ty n)
 |_=>Yn
theorem RelV.abs{x:V}{u:Yh}(r:RelV x u):ZxJ u=Ya x:=by
 cases x with
 |non=>cases r;rfl|bl _=>cases r;rfl|int _=>obtain⟨t,rfl⟩:=r;rfl|str _=>obtain⟨t,rfl⟩:=r;rfl
 |zJ _=>obtain⟨t,rfl⟩:=r;rfl|flt _=>obtain⟨t,rfl⟩:=r;rfl|ref _=>cases r;rfl|ty _=>cases r;rfl
theorem RelV.inj{x y:V}{u:Yh}(r:RelV x u)(q:RelV y u):x=y:=Y6 (r.abs.symm.trans q.abs)
theorem Vals.inj:∀{xs ys:List V} {us:List Yh},Vals xs us->Vals ys us->xs=ys
 |_,_,_,.nil,.nil=>rfl|_,_,_,.cons r t,.cons r' t'=>by rw[r.inj r',Vals.inj t t']
variable{K:Yb}
section
variable {X:Cx} {pins:List (Y1×aK)} {σ:St} {H:Hp} {s:Yj} {a:Y1} {xs ys:List V}
theorem bB.of(h:H a=Ya (.lst xs)):bB K H a xs:=.inl (.inl h)
theorem cF.of(h:H a=Ya (.tup xs)):cF K H a xs:=.inl (.inl h)
theorem Inv.list(I:Inv X pins σ H s)(h:bB X.K H a xs):∃its:List Yh,Vals xs its/\PlainL s.heap a its.toArray/\xs.length<=bj:=by
 rcases h with h|⟨o,its,n,hk,hc,hd,hs,hz,r⟩
 .obtain⟨z,its,n,r,e⟩:=h.ok I.hok;exact⟨its,r,⟨_,n,e,rfl,rfl,rfl⟩,z⟩
 .refine⟨its.toList,r,⟨o,n,I.dU a o hk,hc,hd,by simpa using hs⟩,?_⟩;have e:=r.length;simp only[Iu]at e;exact lC 2 2199576973345 T1 e hz
theorem Inv.tuple(I:Inv X pins σ H s)(h:cF X.K H a xs):∃its:List Yh,Vals xs its/\IsTup s.heap a its.toArray/\xs.length<=bj:=by
 rcases h with h|⟨o,its,n,hk,hc,hs,hz,r⟩
 .obtain⟨z,its,r,p⟩:=h.ok I.hok;exact⟨its,r,p.tup,z⟩
 .refine⟨its.toList,r,⟨o,I.dU a o hk,hc.1,n,by simpa using hs⟩,?_⟩;have e:=r.length;simp only[Iu]at e;exact lC 2 2199576973345 T1 e hz
theorem Inv.L_(I:Inv X pins σ H s)(h:bB X.K H a xs)(h':bB X.K H a ys):xs=ys:=by
 obtain⟨its,r,⟨o,n,e,_,_,d⟩,_⟩:=I.list h;obtain⟨its',r',⟨o',n',e',_,_,d'⟩,_⟩:=I.list h';rw[e]at e';cases e';rw[d]at d';injection d' with d1 _;have:its=its':=by simpa using congrArg zF d1
 subst this;exact r.inj r'
theorem Inv.Aa4(I:Inv X pins σ H s)(h:cF X.K H a xs):∃its:List Yh,Vals xs its/\qP s.heap a its.toArray/\xs.length<=bj:=by
 rcases h with h|⟨o,its,n,hk,hc,hs,hz,r⟩
 .obtain⟨z,its,r,p⟩:=h.ok I.hok;exact⟨its,r,p,z⟩
 .refine⟨its.toList,r,⟨o,I.dU a o hk,hc,n,by simpa using hs⟩,?_⟩;have e:=r.length;simp only[Iu]at e;exact lC 2 2199576973345 T1 e hz
theorem Inv.LR(I:Inv X pins σ H s)(h:cF X.K H a xs)(h':cF X.K H a ys):xs=ys:=by
 obtain⟨its,r,⟨o,e,_,n,d⟩,_⟩:=I.tuple h;obtain⟨its',r',⟨o',e',_,n',d'⟩,_⟩:=I.tuple h';rw[e]at e';cases e';rw[d]at d';injection d' with d1 _;have:its=its':=by simpa using congrArg zF d1
 subst this;exact r.inj r'
end
noncomputable abbrev Cx.wish(X:Cx)(E:Yh->Yj->Prop):Cx:={X with xe:=E}
noncomputable abbrev Cx.xG(X:Cx):Cx:=X.wish λ_ _=>False
theorem Cx.Ok.wish{X:Cx}(ok:X.Ok)(E:Yh->Yj->Prop):(X.wish E).Ok:=⟨ok.mod,ok.kind,ok.glob,ok.blt,ok.above,ok.inj,ok.has,ok.cab,ok.hd,ok.frames,ok.gY,ok.Je,ok.bs,ok.pU,ok.Cv,ok.yR,ok.mX,ok.vo⟩
theorem Cx.Ok.uz{X:Cx}{E:Yh->Yj->Prop}(ok:(X.wish E).Ok):X.Ok:=⟨ok.mod,ok.kind,ok.glob,ok.blt,ok.above,ok.inj,ok.has,ok.cab,ok.hd,ok.frames,ok.gY,ok.Je,ok.bs,ok.pU,ok.Cv,ok.yR,ok.mX,ok.vo⟩
section
variable {X:Cx} {pins:List (Y1×aK)} {σ:St} {H:Hp} {s:Yj} {E:Yh->Yj->Prop}
theorem Inv.wish(I:Inv X pins σ H s)(E:Yh->Yj->Prop):Inv (X.wish E) pins σ H s:=⟨I.ok.wish E,I.os,I.bare,I.base,I.loc,I.cell,I.free,I.qG,I.pin,I.hok,I.len⟩
theorem Inv.uz(I:Inv (X.wish E) pins σ H s):Inv X pins σ H s:=⟨I.ok.uz,I.os,I.bare,I.base,I.loc,I.cell,I.free,I.qG,I.pin,I.hok,I.len⟩
theorem SP.uz{D:Ends}{f:Flow}{s':Yj}(h:SP (X.wish E) pins D f s'):SP X pins D f s':=by
 cases f with
 |next=>obtain⟨σ',H',I,q⟩:=h;exact⟨σ',H',I.uz,q⟩|brk=>obtain⟨σ',H',I,q⟩:=h;exact⟨σ',H',I.uz,q⟩|cont=>obtain⟨σ',H',I,q⟩:=h;exact⟨σ',H',I.uz,q⟩|ret u=>obtain⟨v,σ',H',I,r,q⟩:=h;exact⟨v,σ',H',I.uz,r,q⟩
theorem jE.xG{st:List Yep}{t:TS}(h:jE X.xG st t):jE X st t:=λpins s σ H D I hw=>ju (h pins s σ H D (I.wish _) hw) (λ_ _ q=>q.uz) λ_ _ z=>jk z
end
section
variable {X:Cx} {st:Yep} {rest:List Yep} {t u:TS} {e:Expr} {te:TE} {pos:aU}
def ZvP:TS:=λD σ H=>D.nx σ H
def Zxb(t u:TS):TS:=λD σ H=>t {D with nx:=u D} σ H
theorem ZrD:jE X [] ZvP:=λ_ _ σ H _ I h=>Hr ⟨σ,H,I,h⟩
theorem Zpl(h1:PS X st t)(h2:jE X rest u):jE X (st::rest) (Zxb t u):=by
 intro pins s σ H D I h;refine WM (aD (h1 pins s σ H {D with nx:=u D} I h) λf s1 q=>?_);cases f with
 |next=>obtain⟨σ',H',I',q⟩:=q;exact h2 pins s1 σ' H' D I' q|ret v=>exact q|brk=>exact q
 |cont=>exact q
theorem ZrC(h1:PS X st t):jE X [st] t:=by
 intro pins s σ H D I h;refine WM (aD (h1 pins s σ H D I h) λf s1 q=>?_);cases f with
 |next=>exact Hr q|ret v=>exact q|brk=>exact q|cont=>exact q
def Zu8:TS:=λD σ H=>D.bk σ H
theorem ZpS:PS X (.Break pos) Zu8:=λ_ _ σ H _ I h=>wpAny_Break ⟨σ,H,I,h⟩
theorem Inv.quiet{pins:List (Y1×aK)}{σ:St}{H:Hp}{s:Yj}(I:Inv X pins σ H s):interactive X.env=false:=by simp[interactive,I.ok.kind]
def Zwb(te:TE):TS:=λD σ H=>te σ H λ_ H1=>D.nx σ H1
theorem Zsh(he:PE X e te)(hs:uR e Yn pos.line X.env=pure false:=by rfl):PS X (.Expr e pos) (Zwb te):=by intro pins s σ H D I h;exact wpAny_Expr_any (aD (he pins s σ H _ I h) λv s1 ⟨x,H1,I1,r1,q1⟩=>⟨σ,H1,I1,q1⟩) I.quiet hs
def Zxm(te:TE):TS:=λD σ H=>te σ H D.rt
theorem ZtK(he:PE X e te):PS X (.Return (Ya e) pos) (Zxm te):=by intro pins s σ H D I h;exact wpAny_Return_some (aD (he pins s σ H _ I h) λv s1 ⟨x,H1,I1,r1,q1⟩=>⟨x,σ,H1,I1,r1,q1⟩)
def ZxF(c:TT)(t u:TS):TS:=λD σ H=>c σ H λb H1=>if b=true then t D σ H1 else u D σ H1
theorem Zwx{c:Expr}{a b:List Yep}{tc:TT}(hc:PT X c tc)(ha:jE X a t)(hb:jE X b u):PS X (.If c a b pos) (ZxF tc t u):=by
 intro pins s σ H D I h;refine wpAny_If (aD (hc pins s σ H _ I h) λd s1 ak=>?_);obtain⟨H1,I1,q1⟩:=ak;cases d with
 |true=>exact ha pins s1 σ H1 D I1 q1|false=>exact hb pins s1 σ H1 D I1 q1
end
noncomputable abbrev TG:=V->St->Hp->(St->Hp->Prop)->Prop
noncomputable abbrev pW:=List V->St->Hp->(St->Hp->Prop)->Prop
def PG(X:Cx)(target:Expr)(t:TG):Prop:=
 ∀(pins:List (Y1×aK)) (s:Yj) (σ:St) (H:Hp) (v:V) (u:Yh) (Q:St->Hp->Prop),Inv X pins σ H s->RelV v u->t v σ H Q ->
  ao (au X.prog X.w) X.A (ji target X.env u) (λ_ s'=>∃σ' H',Inv X pins σ' H' s'/\Q σ' H') X.xe s
def pX(X:Cx)(ts:List Expr)(t:pW):Prop:=
 ∀(pins:List (Y1×aK)) (s:Yj) (σ:St) (H:Hp) (vs:List V) (us:List Yh) (Q:St->Hp->Prop),Inv X pins σ H s->Vals vs us->t vs σ H Q ->
  ao (au X.prog X.w) X.A (assignInOrder ((jh ts X.env).map (·.2)) us) (λ_ s'=>∃σ' H',Inv X pins σ' H' s'/\Q σ' H') X.xe s
noncomputable abbrev Qi:=V->V->V->Hp->(Hp->Prop)->Prop
def Zwl(X:Cx)(t:Qi):Prop:=
 ∀(pins:List (Y1×aK)) (s:Yj) (σ:St) (H:Hp) (o i v:V) (ov iv u:Yh) (Q:Hp->Prop),Inv X pins σ H s->RelV o ov->RelV i iv->RelV v u->t o i v H Q ->
  ao (au X.prog X.w) X.A (setItem ov iv u) (λ_ s'=>∃H',Inv X pins σ H' s'/\Q H') X.xe s
variable{tg:Expr}
section
variable {X:Cx} {pos:aU}
def ZsU(i:Nat):TG:=λv σ H Q=>Q (σ.set i (Ya v)) H
theorem Zop{i:Nat}{x:aj}(hN:X.N.Nodup)(hi:X.N[i]?=Ya x)(hx:Loc X.env.scope x)(hf:X.fn x=true\/X.env.scope.names.lookup x=Ya .local:=by first|exact .inl rfl|exact .inr rfl|assumption):PG X (.Name x pos) (ZsU i):=by intro pins s σ H v u Q I r h;exact Nr (ZlL I hN hi hx r (λs' I'=>⟨_,H,I',h⟩) hf)
def Zxi:pW:=λvs σ H Q=>vs=[]/\Q σ H
def Zv4(t:TG)(u:pW):pW:=λvs σ H Q=>∃v r,vs=v::r/\t v σ H λσ' H'=>u r σ' H' Q
theorem Zss:pX X [] Zxi:=by intro pins s σ H vs us Q I r h;obtain⟨e,h⟩:=h;subst e;cases r;exact assignInOrder_nil ⟨σ,H,I,h⟩
theorem Zre{e:Expr}{es:List Expr}{t:TG}{u:pW}(h1:PG X e t)(h2:pX X es u)(hs:(jh (e::es) X.env).map (·.2)=ji e X.env::(jh es X.env).map (·.2):=by rfl):pX X (e::es) (Zv4 t u):=by
 intro pins s σ H vs us Q I r h;obtain⟨v,vr,e1,h⟩:=h;subst e1;cases r with
 |cons r rr=>rw[hs];refine assignInOrder_cons (aD (h1 pins s σ H _ _ _ I r h) λ_ s1 ak=>?_);obtain⟨σ1,H1,I1,q1⟩:=ak;exact h2 pins s1 σ1 H1 _ _ Q I1 rr q1
def Zxw(K:Yb)(n:Nat)(t:pW):TG:=λv σ H Q=>∃a xs,v= .ref a/\cF K H a xs/\xs.length=n/\t xs σ H Q
theorem ZuE{es:List Expr}{k:Nat}{t:pW}{n:Nat}(hc:X.calm=true)(h:pX X es t)(hn:(jh es X.env).length=n:=by rfl)(hst:(jh es X.env).findIdx? (·.1)=Yn:=by rfl):PG X (.Tuple es k pos) (Zxw X.K n t):=by intro pins s σ H v u Q I r hw;obtain⟨a,xs,e1,hq,hl,hw⟩:=hw;subst e1;cases r;obtain⟨its,rv,ht,hz⟩:=I.tuple hq;refine assign_Tuple_tuple (I.ok.hd hc) ht (by simp[hn,←hl,rv.length]) hst λh' hx=>?_;have I1:Inv X pins σ H {s with heap:=h'}:=I.kept (t':=s.toks) λb o e=>hx b o (dw (Y3 e)) e;exact h pins _ σ H xs _ Q I1 (by simpa using rv) hw
def ZxA(to ti:TE)(t:Qi):TG:=λv σ H Q=>to σ H λo H1=>ti σ H1 λi H2=>t o i v H2 λH3=>Q σ H3
theorem Ztg{o i:Expr}{to ti:TE}{t:Qi}(ho:PE X o to)(hi:PE X i ti)(hs:Zwl X t)(ha:∀v,ji (.Subscript o i pos) X.env v=(do
   let ov ←uT [v] (aF o X.env)
   let iv ←uT [v,ov] (aF i X.env)
   Di pos
   uT [v,ov,iv] (setItem ov iv v)
   release [v,ov,iv] []):=by intro _;rfl):PG X (.Subscript o i pos) (ZxA to ti t):=by
 intro pins s σ H v u Q I r h;rw[ha];refine Yg (gW (aD (ho pins s σ H _ I h) λov s1 ak=>?_));obtain⟨x,H1,I1,r1,q1⟩:=ak;refine Yg (gW (aD (hi pins s1 σ H1 _ I1 q1) λiv s2 ak=>?_));obtain⟨y,H2,I2,r2,q2⟩:=ak;refine Yg (uP (Yg (gW (aD (hs pins s2 σ H2 x y v ov iv u _ I2 r1 r2 r q2) λ_ s3 ak=>?_))));obtain⟨H3,I3,q3⟩:=ak;exact wpAny_release ⟨σ,H3,I3,q3⟩
def ZvC(te:TE)(g:TG):TS:=λD σ H=>te σ H λx H1=>g x σ H1 D.nx
theorem Zp3{e:Expr}{te:TE}{g:TG}(he:PE X e te)(hg:PG X tg g)(hs:Nz [tg] e pos.line X.env=pure false:=by rfl)(hw:NK [tg] e X.env=pure Yn:=by rfl)(h1:(jh [tg] X.env).map (·.2)=[ji tg X.env]:=by rfl):PS X (.Assign [tg] e pos) (ZvC te g):=by intro pins s σ H D I h;refine wpAny_Assign_stores (aD (he pins s σ H _ I h) λv s1 ak=>?_) hs hw;obtain⟨x,H1,I1,r1,q1⟩:=ak;rw[h1];exact aD (hg pins s1 σ H1 x v _ I1 r1 q1) λ_ s2 q=>q
theorem ZuU{i:Nat}{x:aj}{e:Expr}{te:TE}{pos':aU}(hN:X.N.Nodup)(hi:X.N[i]?=Ya x)(hx:Loc X.env.scope x)(he:PE X e te)(hs:uR e (Ya (.Name x pos')) pos.line X.env=pure false:=by rfl)(hf:X.fn x=true\/X.env.scope.names.lookup x=Ya .local:=by first|exact .inl rfl|exact .inr rfl|assumption):
  PS X (.Assign [.Name x pos'] e pos) (ZvC te (ZsU i)):=by
 intro pins s σ H D I h;refine wpAny_Assign_Name (aD (he pins s σ H _ I h) λv s1 ak=>?_) hs;obtain⟨y,H1,I1,r1,q1⟩:=ak;exact ZlL I1 hN hi hx r1 (λs2 I2=>⟨_,H1,I2,q1⟩) hf
end
section
variable {X:Cx} {pos:aU}
def ZtR(c:TT)(tb:TS):TS:=λD σ H=>∃W:Nat->St->Hp->Prop,(∃m,W m σ H)/\∀m σ H,W m σ H ->
 c σ H λb H1=>if b=true then∃N:St->Hp->Prop,(∀σ' H',N σ' H'->∃m',m'<m/\W m' σ' H')/\tb {D with nx:=N,ct:=N,bk:=D.nx} σ H1 else D.nx σ H1
theorem Zq3{c:Expr}{body:List Yep}{tc:TT}{tb:TS}(hp:PassesOwn (au X.prog X.w) X.A X.env X.xe)(hc:PT X c tc)(hb:jE X body tb):PS X (.While c body [] pos) (ZtR tc tb):=by
 intro pins s σ H D I h;obtain⟨W,⟨m0,w0⟩,turn⟩:=h;refine wpAny_While (codeAny_whileLoop (λn s'=>∃σ' H',Inv X pins σ' H' s'/\W n σ' H') ?_ m0 ⟨σ,H,I,w0⟩);rintro n s1 ⟨σ1,H1,I1,w1⟩;refine wQ hp (aD (hc pins s1 σ1 H1 _ I1 (turn n σ1 H1 w1)) λb s2 ak=>?_);obtain⟨H2,I2,q2⟩:=ak;cases b with
 | true=>
  obtain⟨N,hN,q2⟩:=q2;rw[if_pos rfl];refine wQ hp (aD (hb pins s2 σ1 H2 _ I2 q2) λf s3 q3=>?_);cases f with
  |next=>obtain⟨σ3,H3,I3,n3⟩:=q3;obtain⟨m',hm,w3⟩:=hN σ3 H3 n3;exact⟨m',hm,σ3,H3,I3,w3⟩|cont=>obtain⟨σ3,H3,I3,n3⟩:=q3;obtain⟨m',hm,w3⟩:=hN σ3 H3 n3;exact⟨m',hm,σ3,H3,I3,w3⟩|brk=>exact q3|ret v=>exact q3
 |false=>rw[if_neg kI];exact Hr ⟨σ1,H2,I2,q2⟩
end
structure It where
 go:Nat->Hp->Prop
 Jh:Nat->Hp->V->Hp->Prop
 stop:Nat->Hp->Prop
def iw(X:Cx)(pins:List (Y1×aK))(H:Hp)(b:Y1):Prop:=H b=Yn/\b≠X.env.locals/\b∉X.fs/\(b∈X.ex\/X.s₀.heap.objs.size<=b)/\(∀x c,X.env.cells.lookup x=Ya c->c≠b)/\∀p∈X.pn++pins,p.1≠b
theorem Inv.uD{X:Cx}{pins:List (Y1×aK)}{σ:St}{H H':Hp}{s:Yj}{b:Y1}(I:Inv X pins σ H s)(hb:s.heap.objs.size<=b)(hn:H' b=Yn):iw X pins H' b:=by
 refine⟨hn,Dm (Y9 I.lt hb),I.Abs hb,.inr (Yk I.sz hb),λx c e z=>?_,λp hp z=>?_⟩
 .obtain⟨v,q⟩:=I.cell x c e;exact absurd (Y9 q.lt (by rw[z];exact hb)) (u6 _)
 .exact absurd (Y9 (Y3 (I.pin p hp).1) (by rw[z];exact hb)) (u6 _)
structure Turn(P:bD)(w:bw)(K:Yb)(tg:Expr)(J:It)(fp:List Y1)(it:Y1)(tn:Nat->aN->Prop):Prop where
 mem:it∈fp
 obj:∀i h,tn i h->∀b∈fp,∃o,h.get? b=Ya o/\∀v,o.data≠ .cell v
 keep:∀i h h',tn i h->(∀b∈fp,∀o,h.get? b=Ya o->h'.get? b=Ya o)->tn i h'
 item:∀(X:Cx),X.prog=P->X.w=w->X.K=K->X.calm=true->∀(i:Nat) (pins:List (Y1×aK)) (s:Yj) (σ:St) (H:Hp) (E:Yh->Yj->Prop),Inv X pins σ H s->(∀b∈fp,iw X pins H b)->tn i s.heap->J.go i H ->
  ao (au P w) X.A (sE (.ref it)) (λr s1=>∃u,r=Ya u/\
   ao (au P w) X.A (C_ tg (.ref it) u) (λ_ s2=>∃x H',Inv X pins σ H' s2/\RelV x u/\J.Jh i H x H'/\tn (i+1) s2.heap/\∀b∈fp,H' b=Yn) E s1) E s
 done:∀(X:Cx),X.prog=P->X.w=w->X.K=K->X.calm=true->∀(i:Nat) (pins:List (Y1×aK)) (s:Yj) (σ:St) (H:Hp) (E:Yh->Yj->Prop),Inv X pins σ H s->(∀b∈fp,iw X pins H b)->tn i s.heap->J.stop i H ->
  ao (au P w) X.A (sE (.ref it)) (λr s1=>r=Yn/\Inv X pins σ H s1) E s
 self:∀(A:bJ) (i:Nat) (s:Yj) (Q:Yh->Yj->Prop) (E:Yh->Yj->Prop),tn i s.heap->Q (.ref it) s->ao (au P w) A (zp (.ref it)) Q E s
noncomputable abbrev TI:=St->Hp->(It->Hp->Prop)->Prop
def PIE(X:Cx)(pins:List (Y1×aK))(σ:St)(tg:Expr)(R:It->Hp->Prop)(itv:Yh)(s2:Yj):Prop:=∃(it:Y1) (fp:List Y1) (tn:Nat->aN->Prop) (J:It) (H':Hp),itv= .ref it/\Inv X pins σ H' s2/\Turn X.prog X.w X.K tg J fp it tn/\tn 0 s2.heap/\(∀b∈fp,iw X pins H' b)/\R J H'
def PI(X:Cx)(tg iter:Expr)(wi:TI):Prop:=
 ∀(pins:List (Y1×aK)) (s:Yj) (σ:St) (H:Hp) (R:It->Hp->Prop),Inv X pins σ H s->wi σ H R ->
  ao (au X.prog X.w) X.A (aF iter X.env) (λv s1=>ao (au X.prog X.w) X.A (zp v) (PIE X pins σ tg R) X.xe s1) X.xe s
theorem Ji{M:Model}{A:bJ}{E:Yh->Yj->Prop}{s:Yj}{it:Y1}{u:Yh}{o:aK}{n:String}{vs:Array Yh}{Q:Unit->Yj->Prop}(ho:s.heap.get? it=Ya o)(hc:o.cls= .type n)(hd:o.data= .fields vs)(hn:["enumerate","zip","dict_itemiterator","dict_reverseitemiterator","odict_iterator","itertools.zip_longest","itertools.pairwise"].contains n=false)(hQ:Q () s):ao M A (C_ tg (.ref it) u) Q E s:=by
 unfold C_;cases tg<;>first
  |exact Yt hQ
  | (cases u<;>first
    |exact Yt hQ
    | (refine Yg (wpAny_load ho ?_)
       rw[hc,hd];show ao M A (if(["enumerate","zip","dict_itemiterator","dict_reverseitemiterator","odict_iterator","itertools.zip_longest","itertools.pairwise"].contains n&&vs[0]?==Ya (uX _))=true then _ else _) Q E s;rw[if_neg (by intro h;rw[hn,Oq]at h;cases h)];exact Yt hQ))
noncomputable def Itl(K:Yb)(a:Y1):It:=⟨λi H=>∃xs x,bB K H a xs/\xs[i]?=Ya x,λi H x H'=>H'=H/\∀xs,bB K H a xs->xs[i]?=Ya x,λi H=>∃xs,bB K H a xs/\xs.length<=i⟩
noncomputable def Itt(K:Yb)(a:Y1):It:=⟨λi H=>∃xs x,cF K H a xs/\xs[i]?=Ya x,λi H x H'=>H'=H/\∀xs,cF K H a xs->xs[i]?=Ya x,λi H=>∃xs,cF K H a xs/\xs.length<=i⟩
noncomputable def Jj(lo:Int)(n:Nat):It:=⟨λi _=>i<n,λi H x H'=>H'=H/\x= .int (lo+i),λi _=>n<=i⟩
theorem ZoN{P:bD}{w:bw}(a it:Y1):Turn P w K tg (Itl K a) [it] it (λi h=>h.IsListIter it a i)where
 mem:=by simp
 obj:=λi h st b hb=>by
  have e:b=it:=by simpa using hb
  subst e;obtain⟨o,e,c,d⟩:=st;exact⟨o,e,λv z=>by rw[d]at z;cases z⟩
 keep:=λi h h' st k=>st.at λo e=>k it (by simp) o e
 item:=by intro X hP hw hK hc i pins s σ H E I hf st hg;subst hP hw hK;obtain⟨xs,x,hq,hx⟩:=hg;obtain⟨its,rv,p,hz⟩:=I.list hq;obtain⟨u,hu,ru⟩:=rv.get hx;obtain⟨f0,f1,f2,f3,f4,f5⟩:=hf it (by simp);refine Wt st p.isList (x:=u) (by simpa using hu) λh' st' sb=>?_;have I1:Inv X pins σ H {s with heap:=h'}:=I.turned (t':=s.toks) (λb o hb e=>(sb.2 b hb).trans e) f0 f1 f3 f4 f5;obtain⟨o,e,c,d⟩:=id st';exact⟨u,rfl,Ji (s:={s with heap:=h'}) e c d (by decide) ⟨x,H,I1,ru,⟨rfl,λys hy=>by rw[I.L_ hy hq];exact hx⟩,st',λb hb=>(hf b hb).1⟩⟩
 done:=by intro X hP hw hK hc i pins s σ H E I hf st hg;subst hP hw hK;obtain⟨xs,hq,hx⟩:=hg;obtain⟨its,rv,p,hz⟩:=I.list hq;obtain⟨f0,f1,f2,f3,f4,f5⟩:=hf it (by simp);have hl:=rv.length;exact Wv (I.ok.hd hc) st p.isList (by simp;exact lC 2 2268279672881 T1 hl hx) λh' eb=>⟨rfl,I.turned (t':=s.toks) (λb o hb e=>eb b o hb e) f0 f1 f3 f4 f5⟩
 self:=λ_ _ _ _ _ st h=>wpAny_pyIter_listiter st h
theorem Zm1{P:bD}{w:bw}(a it:Y1):Turn P w K tg (Itt K a) [it] it (λi h=>h.IsTupleIter it a i)where
 mem:=by simp
 obj:=λi h st b hb=>by
  have e:b=it:=by simpa using hb
  subst e;obtain⟨o,e,c,d⟩:=st;exact⟨o,e,λv z=>by rw[d]at z;cases z⟩
 keep:=λi h h' st k=>st.at λo e=>k it (by simp) o e
 item:=by intro X hP hw hK hc i pins s σ H E I hf st hg;subst hP hw hK;obtain⟨xs,x,hq,hx⟩:=hg;obtain⟨its,rv,p,hz⟩:=I.tuple hq;obtain⟨u,hu,ru⟩:=rv.get hx;obtain⟨f0,f1,f2,f3,f4,f5⟩:=hf it (by simp);refine wpAny_pyNext_tuple_item st (show s.heap.IsTuple a its.toArray from p) (x:=u) (by simpa using hu) λh' st' sb=>?_;have I1:Inv X pins σ H {s with heap:=h'}:=I.turned (t':=s.toks) (λb o hb e=>(sb.2 b hb).trans e) f0 f1 f3 f4 f5;obtain⟨o,e,c,d⟩:=id st';exact⟨u,rfl,Ji (s:={s with heap:=h'}) e c d (by decide) ⟨x,H,I1,ru,⟨rfl,λys hy=>by rw[I.LR hy hq];exact hx⟩,st',λb hb=>(hf b hb).1⟩⟩
 done:=by intro X hP hw hK hc i pins s σ H E I hf st hg;subst hP hw hK;obtain⟨xs,hq,hx⟩:=hg;obtain⟨its,rv,p,hz⟩:=I.tuple hq;obtain⟨f0,f1,f2,f3,f4,f5⟩:=hf it (by simp);have hl:=rv.length;exact wpAny_pyNext_tuple_end (I.ok.hd hc) st (show s.heap.IsTuple a its.toArray from p) (by simp;exact lC 2 2268279672881 T1 hl hx) λh' eb=>⟨rfl,I.turned (t':=s.toks) (λb o hb e=>eb b o hb e) f0 f1 f3 f4 f5⟩
 self:=λ_ _ _ _ _ st h=>wpAny_pyIter_tupleiter st h
theorem ZmD{P:bD}{w:bw}(it:Y1)(lo:Int)(n:Nat):Turn P w K tg (Jj lo n) [it] it (λi h=>IsRangeIter h it (lo+(i:Nat)*1) ((n:Int)-(i:Nat)) 1)where
 mem:=by simp
 obj:=λi h st b hb=>by
  have e:b=it:=by simpa using hb
  subst e;exact⟨_,st,λv z=>by have z':Data.fields _=Data.cell v:=z;cases z'⟩
 keep:=λi h h' st k=>k it (by simp) _ st
 item:=by intro X hP hw hK hc i pins s σ H E I hf st hg;subst hP hw hK;obtain⟨f0,f1,f2,f3,f4,f5⟩:=hf it (by simp);have W:=Walks.range (prog:=X.prog) (w:=X.w) (I.ok.hd hc) it lo 1 n;refine W.item i s _ _ hg st λv h' tk hv st' kk=>?_;obtain⟨t,rfl⟩:=hv;have I1:Inv X pins σ H {s with heap:=h',toks:=tk}:=I.turned (λb o hb e=>kk b o (by simpa using hb) e) f0 f1 f3 f4 f5;refine⟨_,rfl,Ji (s:={s with heap:=h',toks:=tk}) (n:="range_iterator") st' rfl rfl (by decide) ⟨.int (lo+i),H,I1,⟨t,?_⟩,⟨rfl,rfl⟩,st',λb hb=>(hf b hb).1⟩⟩;rw[Int.mul_one]
 done:=by intro X hP hw hK hc i pins s σ H E I hf st hg;subst hP hw hK;obtain⟨f0,f1,f2,f3,f4,f5⟩:=hf it (by simp);exact wpAny_pyNext_range_end (I.ok.hd hc) st (by have:n<=i:=hg;exact iN [_,_] [] 1 0xe1808f81001 T1 this) λh' eb=>⟨rfl,I.turned (t':=s.toks) (λb o hb e=>eb b o hb e) f0 f1 f3 f4 f5⟩
 self:=λ_ _ _ _ _ st h=>wpAny_pyIter_rangeiter st h
end L2
namespace L2
open PySem PySem.Spec PyProof.Rows
variable{pins:List (Y1×aK)}{fp:List Y1}
section
variable {X:Cx} {tg:Expr}
def Zv1(K:Yb)(tl:TE):TI:=λσ H R=>tl σ H λx H1=>∃a,x= .ref a/\(∃xs,bB K H1 a xs)/\R (Itl K a) H1
def ZxI(K:Yb)(tl:TE):TI:=λσ H R=>tl σ H λx H1=>∃a,x= .ref a/\(∃xs,cF K H1 a xs)/\R (Itt K a) H1
theorem Zsc{l:Expr}{tl:TE}(hl:PE X l tl):PI X tg l (Zv1 X.K tl):=by
 intro pins s σ H R I h;refine aD (hl pins s σ H _ I h) λv s1 ak=>?_;obtain⟨x,H1,I1,r1,q1⟩:=ak;obtain⟨a,e,⟨xs,hq⟩,q⟩:=q1;subst e;cases r1;obtain⟨its,rv,p,hz⟩:=I1.list hq;refine uN p.isList ?_;refine⟨s1.heap.objs.size,[s1.heap.objs.size],_,_,H1,rfl,I1.kept (t':=s1.toks) λb o e=>Yl _ e,ZoN a _,⟨_,Y2 _ rfl,rfl,rfl⟩,λb hb=>?_,q⟩;have e:b=s1.heap.objs.size:=by simpa using hb
 subst e;exact I1.uD (Ys _) (I1.hok.fresh (Ys _))
theorem Zt0{l:Expr}{tl:TE}(hl:PE X l tl):PI X tg l (ZxI X.K tl):=by
 intro pins s σ H R I h;refine aD (hl pins s σ H _ I h) λv s1 ak=>?_;obtain⟨x,H1,I1,r1,q1⟩:=ak;obtain⟨a,e,⟨xs,hq⟩,q⟩:=q1;subst e;cases r1;obtain⟨its,rv,p,hz⟩:=I1.tuple hq;refine Hq (show s1.heap.IsTuple a its.toArray from p) ?_;refine⟨s1.heap.objs.size,[s1.heap.objs.size],_,_,H1,rfl,I1.kept (t':=s1.toks) λb o e=>Yl _ e,Zm1 a _,⟨_,Y2 _ rfl,rfl,rfl⟩,λb hb=>?_,q⟩;have e:b=s1.heap.objs.size:=by simpa using hb
 subst e;exact I1.uD (Ys _) (I1.hok.fresh (Ys _))
theorem Zpm{σ:St}{H:Hp}{s:Yj}{R:It->Hp->Prop}{E:Yh->Yj->Prop}{lo hi:Int}{t u v:fD}{tk:Nat}(I:Inv X pins σ H s)(h1:-(2^62)<=lo)(h2:lo<2^62)(h3:-(2^62)<=hi)(h4:hi<2^62)(q:R (Jj lo (hi-lo).toNat) H):ao (au X.prog X.w) X.A (zp (.ref s.heap.objs.size)) (PIE X pins σ tg R) E {s with heap:=s.heap.push {cls:=.type "range",data:=.fields #[.int lo t,.int hi u,.int 1 v]},toks:=tk}:=by
 refine wpAny_pyIter_range (IsRange.new ..) (small_one h1 h2 h3 h4) ?_;have I1:Inv X pins σ H {s with heap:=s.heap.push {cls:=.type "range",data:=.fields #[.int lo t,.int hi u,.int 1 v]},toks:=tk}:=I.kept λb o e=>Yl _ e;refine⟨(s.heap.push {cls:=.type "range",data:=.fields #[.int lo t,.int hi u,.int 1 v]}).objs.size,[(s.heap.push {cls:=.type "range",data:=.fields #[.int lo t,.int hi u,.int 1 v]}).objs.size],_,_,H,rfl,
  I1.kept (t':=tk) λb o e=>Yl _ e,ZmD _ lo (hi-lo).toNat,?_,λb hb=>?_,q⟩
 .have e1:lo+((0:Nat):Int)*1=lo:=by simp
  have e2:(((hi-lo).toNat:Nat):Int)-((0:Nat):Int)=Builtin.Range.rangeSize lo hi 1:=by rw[rangeSize_one];split <;>omega
  show IsRangeIter _ _ (lo+((0:Nat):Int)*1) ((((hi-lo).toNat:Nat):Int)-((0:Nat):Int)) 1;rw[e1,e2];exact Y2 _ rfl
 .have e:b=(s.heap.push {cls:=.type "range",data:=.fields #[.int lo t,.int hi u,.int 1 v]}).objs.size:=by simpa using hb
  subst e;exact I1.uD (Ys _) (I1.hok.fresh (Ys _))
def Zvx(ta:TA):TI:=λσ H R=>ta σ H λvs H1=>∃j:Int,vs=[.int j]/\ -(2^62)<=j/\j<2^62/\R (Jj 0 j.toNat) H1
theorem Zo9{a:Expr}{ta:TA}{p pos:aU}(hg:Gl X "range")(hm:X.mg "range" =Yn)(ha:PA X [a] ta)(hs:Yw [a] X.env=[(false,aF a X.env)]:=by rfl):PI X tg (.Call (.Name "range" p) [a] [] pos) (Zvx ta):=by
 intro pins s σ H R I h;refine Call_ (xF I hg hm boot_range (Oz (aD (ha pos pins s σ H _ I h) λus s1 ak=>?_) hs rfl));obtain⟨vs,H1,I1,r1,q1⟩:=ak;obtain⟨j,e,q1,q2,q⟩:=q1;subst e;cases r1 with
 |cons r rr=>
  cases rr
  obtain⟨t,rfl⟩:=r;exact call_range_1 (Zpm I1 (by omega) (by omega) q1 q2 (by simpa using q))
def Zxz(wi:TI)(g:TG)(tb:TS):TS:=λD σ H=>wi σ H λJ H1=>∃W:Nat->Nat->St->Hp->Prop,(∃m,W 0 m σ H1)/\∀i m σ H,W i m σ H ->
 (J.stop i H/\D.nx σ H)\/(J.go i H/\∃N:St->Hp->Prop,(∀σ' H',N σ' H'->∃m',m'<m/\W (i+1) m' σ' H')/\∀x H',J.Jh i H x H'->g x σ H' λσ2 H2=>tb {D with nx:=N,ct:=N,bk:=D.nx} σ2 H2)
noncomputable def sZ(fp:List Y1)(h:aN):List (Y1×aK):=fp.filterMap λb=>(h.get? b).map λo=>(b,o)
theorem zM{h:aN}{b:Y1}{o:aK}(hb:b∈fp)(e:h.get? b=Ya o):(b,o)∈sZ fp h:=Nf.mpr ⟨b,hb,by rw[e];rfl⟩
theorem ZoK{h:aN}{p:Y1×aK}(hp:p∈sZ fp h):p.1∈fp/\h.get? p.1=Ya p.2:=by
 obtain⟨b,hb,e⟩:=Nf.mp hp;cases q:h.get? b with
 |none=>rw[q]at e;cases e|some o=>rw[q]at e;have e':(b,o)=p:=Y6 e;subst e';exact⟨hb,q⟩
theorem Inv.pinned{σ:St}{H:Hp}{s:Yj}(I:Inv X pins σ H s)(hf:∀b∈fp,iw X pins H b)(ho:∀b∈fp,∃o,s.heap.get? b=Ya o/\∀v,o.data≠ .cell v):Inv X (pins++sZ fp s.heap) σ H s:=I.U4 λp hp=>(fQ.mp hp).elim (λz=>I.pin p (Y5 _ z)) λz=>by obtain⟨hb,e⟩:=ZoK z;obtain⟨f0,f1,f2,_⟩:=hf p.1 hb;obtain⟨o,e',d⟩:=ho p.1 hb;rw[e]at e';cases e';exact⟨e,f0,f1,f2,d⟩
theorem Inv.Cq{pl:List (Y1×aK)}{σ:St}{H:Hp}{s:Yj}(I:Inv X (pins++pl) σ H s):Inv X pins σ H s:=I.U4 λp hp=>I.pin p (Y5 _ (uI _ hp))
theorem Zui{iter:Expr}{body:List Yep}{wi:TI}{g:TG}{tb:TS}{pos:aU}(hp:PassesOwn (au X.prog X.w) X.A X.env X.xe)(hc:X.calm=true)(hi:PI X tg iter wi)(hg:PG X tg g)(hb:jE X body tb)(hs:∀x,zb iter X.env x=pure x:=by intro _;rfl):PS X (.For tg iter body [] pos) (Zxz wi g tb):=by
 intro pins s σ H D I h;refine wpAny_For (aD (hi pins s σ H _ I h) λv s1 h1=>aD h1 λitv s2 h2=>?_) hs;obtain⟨it,fp,tn,J,H2,e,I2,T,st2,f2,W,⟨m0,w0⟩,turn⟩:=h2;subst e;have stat:∀{H':Hp},(∀b∈fp,H' b=Yn)->∀b∈fp,iw X pins H' b:=λhn b hb=>⟨hn b hb,(f2 b hb).2⟩;refine codeAny_forLoop_any (λn s'=>∃i σ' H',Inv X pins σ' H' s'/\tn i s'.heap/\(∀b∈fp,H' b=Yn)/\W i n σ' H') ?_ m0 ⟨0,σ,H2,I2,st2,λb hb=>(f2 b hb).1,w0⟩;rintro n s3 ⟨i,σ3,H3,I3,st3,Jk,w3⟩;rcases turn i n σ3 H3 w3 with⟨stop,qn⟩|⟨go,N,hN,step⟩
 .refine wQ hp (aD (T.done X rfl rfl rfl hc i pins s3 σ3 H3 X.xe I3 (stat Jk) st3 stop) λr s4 ⟨hr,I4⟩=>?_);subst hr;exact Hr ⟨σ3,H3,I4,qn⟩
 .refine wQ hp (aD (T.item X rfl rfl rfl hc i pins s3 σ3 H3 X.xe I3 (stat Jk) st3 go) λr s4 ⟨u,hr,h4⟩=>?_);subst hr;refine wQ hp (aD h4 λ_ s5 ak=>?_);obtain⟨x,H5,I5,r5,y5,kO,oU⟩:=ak;have I5':=I5.pinned (stat oU) (T.obj _ _ kO);refine wQ hp (aD (hg _ s5 σ3 H5 x u _ I5' r5 (step x H5 y5)) λ_ s6 ak=>?_);obtain⟨σ6,H6,I6,q6⟩:=ak;refine wQ hp (aD (hb _ s6 σ6 H6 _ I6 q6) λf s7 q7=>?_);have again:∀{σ7:St} {H7:Hp},Inv X (pins++sZ fp s5.heap) σ7 H7 s7->N σ7 H7->∃m,m<n/\∃i σ' H',Inv X pins σ' H' s7/\tn i s7.heap/\(∀b∈fp,H' b=Yn)/\W i m σ' H':=λ{σ7 H7} I7 n7=>by
   obtain⟨m',hm,w7⟩:=hN σ7 H7 n7;refine⟨m',hm,i+1,σ7,H7,I7.Cq,T.keep _ _ _ kO λb hb o e=>(I7.pin (b,o) (Y5 _ (Y5 _ (zM hb e)))).1,λb hb=>?_,w7⟩;obtain⟨o,e,d⟩:=T.obj _ _ kO b hb;exact(I7.pin (b,o) (Y5 _ (Y5 _ (zM hb e)))).2.1
  cases f with
  |next=>obtain⟨σ7,H7,I7,n7⟩:=q7;exact again I7 n7|cont=>obtain⟨σ7,H7,I7,n7⟩:=q7;exact again I7 n7|brk=>obtain⟨σ7,H7,I7,q7⟩:=q7;exact⟨σ7,H7,I7.Cq,q7⟩|ret v=>obtain⟨x7,σ7,H7,I7,r7,q7⟩:=q7;exact⟨x7,σ7,H7,I7.Cq,r7,q7⟩
end
end L2
namespace L2
open PySem PySem.Spec PyProof.Rows
noncomputable abbrev R2:=V->V->Hp->VK->Prop
def aP(X:Cx)(f:Yh->Yh->oK Yh)(r:R2):Prop:=
 ∀(pins:List (Y1×aK)) (s:Yj) (σ:St) (H:Hp) (x y:V) (v u:Yh) (Q:VK),Inv X pins σ H s->RelV x v->RelV y u->r x y H Q ->
  ao (au X.prog X.w) X.A (f v u) (EP X pins σ Q) X.xe s
def tu(X:Cx)(f:Yh->oK Yh)(r:V->Hp->VK->Prop):Prop:=
 ∀(pins:List (Y1×aK)) (s:Yj) (σ:St) (H:Hp) (x:V) (v:Yh) (Q:VK),Inv X pins σ H s->RelV x v->r x H Q ->
  ao (au X.prog X.w) X.A (f v) (EP X pins σ Q) X.xe s
def cQ(X:Cx)(f:Yh)(r:List V->Hp->VK->Prop):Prop:=
 ∀(pins:List (Y1×aK)) (s:Yj) (σ:St) (H:Hp) (xs:List V) (us:List Yh) (Q:VK),Inv X pins σ H s->Vals xs us->r xs H Q ->
  ao (au X.prog X.w) X.A (call f us) (EP X pins σ Q) X.xe s
def zN(r:R2)(ta tb:TE):TE:=λσ H Q=>ta σ H λx H1=>tb σ H1 λy H2=>r x y H2 Q
def tUn(r:V->Hp->VK->Prop)(ta:TE):TE:=λσ H Q=>ta σ H λx H1=>r x H1 Q
def rI(C:Int->Int->Prop)(g:Int->Int->V):R2:=λx y H Q=>∃i j,x= .int i/\y= .int j/\C i j/\Q (g i j) H
def xH(g:Int->Int->V):R2:=λx y H Q=>∃i j,x= .int i/\y= .int j/\Q (g i j) H
noncomputable def rU(g:Int->V):V->Hp->VK->Prop:=λx H Q=>∃i,x= .int i/\Q (g i) H
variable{f:Yh->Yh->oK Yh}{r:R2}
section
variable {X:Cx} {a b c:Expr} {ta tb tc:TE} {pos:aU}
theorem Qj(ha:PE X a ta)(hb:PE X b tb){pins:List (Y1×aK)}{s:Yj}{σ:St}{H:Hp}{R:V->V->Hp->Prop}(I:Inv X pins σ H s)(h:ta σ H λx H1=>tb σ H1 λy H2=>R x y H2){Q:Yh->Yj->Prop}(hf:∀v u s2 x y H2,Inv X pins σ H2 s2->RelV x v->RelV y u->R x y H2->ao (au X.prog X.w) X.A (f v u) Q X.xe s2):
  ao (au X.prog X.w) X.A (aF a X.env) (λv s₁=>ao (au X.prog X.w) X.A (aF b X.env) (λu s₂=>ao (au X.prog X.w) X.A (f v u) Q X.xe s₂) X.xe s₁) X.xe s:=by
 refine aD (ha pins s σ H _ I h) λv s1 ak=>?_;obtain⟨x,H1,I1,r1,q1⟩:=ak;refine aD (hb pins s1 σ H1 _ I1 q1) λu s2 ak=>?_;obtain⟨y,H2,I2,r2,q2⟩:=ak;exact hf v u s2 x y H2 I2 r1 r2 q2
theorem Zvr{op:Operator}(ho:aP X (iM op) r)(ha:PE X a ta)(hb:PE X b tb):PE X (.BinOp a op b pos) (zN r ta tb):=by intro pins s σ H Q I h;exact wpAny_BinOp (Qj ha hb I h λv u s2 x y H2 I2 rx ry q=>ho pins s2 σ H2 x y v u Q I2 rx ry q)
theorem Zwr{op:UnaryOp}{r:V->Hp->VK->Prop}(ho:tu X (HD op) r)(ha:PE X a ta):PE X (.UnaryOp op a pos) (tUn r ta):=by intro pins s σ H Q I h;exact UnaryOp_ (aD (ha pins s σ H _ I h) λv s1 ⟨x,H1,I1,r1,q1⟩=>ho pins s1 σ H1 x v Q I1 r1 q1)
theorem Jl{C:Int->Int->Prop}{g:Int->Int->Int}(rule:∀(i j:Int) (t u:fD) (s:Yj) (Q:Yh->Yj->Prop) (E:Yh->Yj->Prop),C i j->Q (.int (g i j) s.toks) {s with toks:=s.toks+1}->ao (au X.prog X.w) X.A (f (.int i t) (.int j u)) Q E s):
  aP X f (rI C λi j=>.int (g i j)):=by
 intro pins s σ H x y v u Q I rx ry h;obtain⟨i,j,rfl,rfl,hc,q⟩:=h;obtain⟨t,rfl⟩:=rx;obtain⟨t',rfl⟩:=ry;exact rule i j t t' s _ _ hc ⟨.int (g i j),H,I.tok _,⟨_,rfl⟩,q⟩
theorem Zv8{g:Int->Int->Int}(rule:∀(i j:Int) (t u:fD) (s:Yj) (Q:Yh->Yj->Prop) (E:Yh->Yj->Prop),Q (.int (g i j) s.toks) {s with toks:=s.toks+1}->ao (au X.prog X.w) X.A (f (.int i t) (.int j u)) Q E s):
  aP X f (xH λi j=>.int (g i j)):=by
 intro pins s σ H x y v u Q I rx ry h;obtain⟨i,j,rfl,rfl,q⟩:=h;obtain⟨t,rfl⟩:=rx;obtain⟨t',rfl⟩:=ry;exact rule i j t t' s _ _ ⟨.int (g i j),H,I.tok _,⟨_,rfl⟩,q⟩
theorem Qk{g:Int->Int->Bool}(rule:∀(i j:Int) (t u:fD) (s:Yj) (Q:Yh->Yj->Prop) (E:Yh->Yj->Prop),Q (.bool (g i j)) s->ao (au X.prog X.w) X.A (f (.int i t) (.int j u)) Q E s):
  aP X f (xH λi j=>.bl (g i j)):=by
 intro pins s σ H x y v u Q I rx ry h;obtain⟨i,j,rfl,rfl,q⟩:=h;obtain⟨t,rfl⟩:=rx;obtain⟨t',rfl⟩:=ry;exact rule i j t t' s _ _ ⟨.bl (g i j),H,I,rfl,q⟩
def Zxe(i j:Int):Prop:=0<j/\j<1073741824
def Zxj(i j:Int):Prop:=0<=j/\j<=1000000/\i.natAbs<2^64
def Ql(i j:Int):Prop:=(-(2^64)<i/\i<2^64)\/(-(2^64)<j/\j<2^64)
theorem Ql.ok{i j:Int}(h:Ql i j):IntMulOk i j:=by
 rcases h with⟨h1,h2⟩|⟨h1,h2⟩
 .exact .of_left (intBits_le_64 h1 h2)
 .exact .of_right (intBits_le_64 h1 h2)
theorem Zuh:aP X (iM .Add) (xH λi j=>.int (i+j)):=Zv8 λ_ _ _ _ _ _ _ q=>add_int q
theorem Ztq:aP X (iM .Sub) (xH λi j=>.int (i-j)):=Zv8 λ_ _ _ _ _ _ _ q=>sub_int q
theorem Ztm:aP X (iM .Mult) (rI Ql λi j=>.int (i*j)):=Jl λ_ _ _ _ _ _ _ hc q=>mul_int q hc.ok
theorem ZsG:aP X (iM .FloorDiv) (rI Zxe λi j=>.int (i / j)):=Jl λi j _ _ _ _ _ hc q=>by have h1:(0:Int)<j:=hc.1;have h2:j<1073741824:=hc.2;exact floordiv_int (by exactλz=>iN [] [_] 2 26014245025 T1 z h1) (by rw[Int.fdiv_eq_ediv_of_nonneg i (by exact Ie h1)];exact q) (.inl (PyProof.noPylong_small (by omega)))
theorem ZtA:aP X (iM .Mod) (rI (λ_ j=>0<j) λi j=>.int (i % j)):=Jl λi j _ _ _ _ _ hc q=>by have h1:(0:Int)<j:=hc;exact mod_int' (by exactλz=>iN [] [_] 2 26014245025 T1 z h1) (by rw[Int.fmod_eq_emod_of_nonneg i (by exact Ie h1)];exact q)
theorem ZuJ:aP X (iM .Pow) (rI Zxj λi j=>.int (i^j.toNat)):=Jl λ_ _ _ _ _ _ _ hc q=>pow_int_small hc.1 hc.2.1 hc.2.2 q
theorem unI{f:Yh->oK Yh}{g:Int->Int}(rule:∀(i:Int) (t:fD) (s:Yj) (Q:Yh->Yj->Prop) (E:Yh->Yj->Prop),Q (.int (g i) s.toks) {s with toks:=s.toks+1}->ao (au X.prog X.w) X.A (f (.int i t)) Q E s):
  tu X f (rU λi=>.int (g i)):=by
 intro pins s σ H x v Q I rx h;obtain⟨i,rfl,q⟩:=h;obtain⟨t,rfl⟩:=rx;exact rule i t s _ _ ⟨.int (g i),H,I.tok _,⟨_,rfl⟩,q⟩
theorem ZtX:tu X (HD .USub) (rU λi=>.int (-i)):=unI λ_ _ _ _ _ q=>neg_int q
end
theorem Qm{i j:aj}:decide (V.str i=V.str j)=(i==j):=by rw[Oo];simp
section
variable {X:Cx} {a b c:Expr} {ta tb tc:TE} {pos:aU}
theorem Qn{pins:List (Y1×aK)}{σ:St}{H:Hp}{s:Yj}{Q:VK}{k k':Bool}(I:Inv X pins σ H s)(q:Q (.bl k) H)(e:k=k'):EP X pins σ Q (.bool k') s:=by subst e;exact⟨.bl k,H,I,rfl,q⟩
theorem Zws:aP X (eU .Lt) (xH λi j=>.bl (decide (i<j))):=Qk λ_ _ _ _ _ _ _ q=>lt_int q
theorem Zvs:aP X (eU .LtE) (xH λi j=>.bl (decide (i<=j))):=Qk λ_ _ _ _ _ _ _ q=>le_int q
theorem ZvS:aP X (eU .Gt) (xH λi j=>.bl (decide (j<i))):=Qk λ_ _ _ _ _ _ _ q=>gt_int q
theorem ZoB:aP X (eU .In) (λx y H Q=>∃i j,x= .str i/\y= .str j/\Q (.bl (!(Dt j i 0 j.length 1).isEmpty)) H):=by intro pins s σ H x y v u Q I rx ry h;obtain⟨i,j,rfl,rfl,q⟩:=h;obtain⟨t,rfl⟩:=rx;obtain⟨t',rfl⟩:=ry;exact in_str (Qn I q rfl)
theorem Zth:aP X (eU .Is) (λx y H Q=>y= .non/\Q (.bl (decide (x= .non))) H):=by
 intro pins s σ H x y v u Q I rx ry h;obtain⟨rfl,q⟩:=h;cases ry;refine is_none_gen (Qn I q ?_);cases x<;>first
  |(cases rx;rfl)
  |(obtain⟨t,rfl⟩:=rx;rfl)
theorem ZrZ:aP X (eU .IsNot) (λx y H Q=>y= .non/\Q (.bl (!decide (x= .non))) H):=by
 intro pins s σ H x y v u Q I rx ry h;obtain⟨rfl,q⟩:=h;cases ry;refine isnot_none_gen (Qn I q ?_);cases x<;>first
  |(cases rx;rfl)
  |(obtain⟨t,rfl⟩:=rx;rfl)
theorem aP.or{r':R2}(h:aP X f r)(h':aP X f r'):aP X f (λx y H Q=>r x y H Q\/r' x y H Q):=by
 intro pins s σ H x y v u Q I rx ry q;rcases q with q|q
 .exact h pins s σ H x y v u Q I rx ry q
 .exact h' pins s σ H x y v u Q I rx ry q
theorem Zn4{op:CmpOp}(ho:aP X (eU op) r)(ha:PE X a ta)(hb:PE X b tb)(hm:wU op b=false):PE X (.Compare a [op] [b] pos) (zN r ta tb):=by intro pins s σ H Q I h;exact wpAny_Compare1 (Qj ha hb I h λv u s2 x y H2 I2 rx ry q=>ho pins s2 σ H2 x y v u Q I2 rx ry q) hm
def Zs1(t:TE):TT:=λσ H Q=>t σ H λx H'=>∃k,x= .bl k/\Q k H'
theorem Qo{op:CmpOp}(ho:aP X (eU op) r)(ha:PE X a ta)(hb:PE X b tb)(hm:wU op b=false):PT X (.Compare a [op] [b] pos) (Zs1 (zN r ta tb)):=by intro pins s σ H Q I h;refine wpAny_isTrue_Compare1 (aD (ha pins s σ H _ I h) λv s1 ⟨x,H1,I1,r1,q1⟩=>aD (hb pins s1 σ H1 _ I1 q1) λu s2 ⟨y,H2,I2,r2,q2⟩=>aD (ho pins s2 σ H2 x y v u _ I2 r1 r2 q2) λc s3 ⟨z,H3,I3,r3,k,e,q3⟩=>?_) hm;subst e;cases r3;exact pJ ⟨H3,I3,q3⟩
def ZtE(r r':R2)(ta tb tc:TE):TE:=λσ H Q=>ta σ H λx H1=>tb σ H1 λy H2=>r x y H2 λz H3=>∃k,z= .bl k/\
 (if k=true then tc σ H3 λw' H4=>r' y w' H4 Q else Q (.bl false) H3)
theorem ZqI{op op':CmpOp}{r':R2}(ho:aP X (eU op) r)(ho':aP X (eU op') r')(ha:PE X a ta)(hb:PE X b tb)(hc:PE X c tc)(hm:lastMarks [op,op'] [b,c]=false:=by with_unfolding_all rfl):PT X (.Compare a [op,op'] [b,c] pos) (Zs1 (ZtE r r' ta tb tc)):=by
 intro pins s σ H Q I h;refine isTrue_chain (aD (ha pins s σ H _ I h) λv s1 ⟨x,H1,I1,r1,q1⟩=>test_link (aD (hb pins s1 σ H1 _ I1 q1) λu s2 ⟨y,H2,I2,r2,q2⟩=>aD (ho pins s2 σ H2 x y v u _ I2 r1 r2 q2) λd s3 ⟨z,H3,I3,r3,k,e,q3⟩=>?_)) hm;subst e;cases r3;refine pJ ?_;cases k with
 |false=>obtain⟨k',e',q'⟩:=q3;cases e';exact ite_ff ⟨H3,I3,q'⟩|true=>refine ite_tt (test_last (aD (hc pins s3 σ H3 _ I3 q3) λw' s4 ⟨z',H4,I4,r4,q4⟩=>aD (ho' pins s4 σ H4 y z' u w' _ I4 r2 r4 q4) λd' s5 ak=>?_));obtain⟨z2,H5,I5,r5,k2,e2,q5⟩:=ak;subst e2;cases r5;exact pJ ⟨H5,I5,q5⟩
theorem D_:(bj:Nat)<2^63:=by rw[zf];decide
theorem Zmt:aP X (iM .Add) (λx y H Q=>∃i j,x= .str i/\y= .str j/\i.length+j.length<=bj/\Q (.str (i++j)) H):=by intro pins s σ H x y v u Q I rx ry h;obtain⟨i,j,rfl,rfl,hz,q⟩:=h;obtain⟨t,rfl⟩:=rx;obtain⟨t',rfl⟩:=ry;exact add_str (λt' tk=>⟨.str (i++j),H,I.tok _,⟨_,rfl⟩,q⟩) hz
theorem vals1{x:V}{us:List Yh}(r:Vals [x] us):∃u,us=[u]/\RelV x u:=by
 cases r with
 |cons r1 r2=>cases r2;exact⟨_,rfl,r1⟩
theorem vals2{x y:V}{us:List Yh}(r:Vals [x,y] us):∃u w',us=[u,w']/\RelV x u/\RelV y w':=by
 cases r with
 |cons r1 r2=>
  cases r2 with
  |cons r3 r4=>cases r4;exact⟨_,_,rfl,r1,r3⟩
theorem ZoR:cQ X (.type "int") (λxs H Q=>(∃i,xs=[.int i]/\Q (.int i) H)\/∃k,xs=[.bl k]/\Q (.int (if k then 1 else 0)) H):=by
 intro pins s σ H xs us Q I r h;rcases h with⟨i,rfl,q⟩|⟨k,rfl,q⟩
 .obtain⟨u,rfl,t,rfl⟩:=vals1 r;exact call_int_int ⟨.int i,H,I,⟨_,rfl⟩,q⟩
 .obtain⟨u,rfl,r1⟩:=vals1 r;cases r1;exact call_int_bool ⟨.int (if k then 1 else 0),H,I.tok _,⟨_,rfl⟩,q⟩
theorem ZkN:cQ X (.type "str") (λxs H Q=>∃i,xs=[.int i]/\i.natAbs.log2<1920/\Q (.str (Dy i)) H):=by intro pins s σ H xs us Q I r h;obtain⟨i,rfl,hz,q⟩:=h;obtain⟨u,rfl,t,rfl⟩:=vals1 r;exact PySem.P.str_of_int hz ⟨.str _,H,I.tok _,⟨_,rfl⟩,q⟩
def Zxf(K:Yb)(x:V)(H:Hp)(n:Nat):Prop:=
 match x with
 | .str y=>y.length<=bj/\n=y.length|.zJ y=>y.size<=bj/\n=y.size|.ref p=>(∃xs,bB K H p xs/\n=xs.length)\/∃xs,cF K H p xs/\n=xs.length|_=>False
theorem ZqL:cQ X (.builtin "len") (λxs H Q=>∃x n,xs=[x]/\Zxf X.K x H n/\Q (.int n) H):=by
 intro pins s σ H xs us Q I r h;obtain⟨x,n,rfl,e,q⟩:=h;obtain⟨u,rfl,rx⟩:=vals1 r;have hl:=D_;have hs:bj=16777216:=zf;cases x with
 |str y=>obtain⟨t,rfl⟩:=rx;obtain⟨hy,e'⟩:y.length<=bj/\n=y.length:=e;subst e';exact len_str (by omega) ⟨.int _,H,I.tok _,⟨_,rfl⟩,q⟩|zJ y=>obtain⟨t,rfl⟩:=rx;obtain⟨hy,e'⟩:y.size<=bj/\n=y.size:=e;subst e';exact PySem.W.len_bytes (by omega) ⟨.int _,H,I.tok _,⟨_,rfl⟩,q⟩|ref p=>
  cases rx
  have e':(∃xs,bB X.K H p xs/\n=xs.length)\/∃xs,cF X.K H p xs/\n=xs.length:=e;rcases e' with⟨xs,hx,e'⟩|⟨xs,hx,e'⟩
  .subst e';obtain⟨its,r',pl,hz⟩:=I.list hx;have hlen:=r'.length;exact Calls.call_len_list pl.isList (by simp only[Yo];omega) ⟨.int xs.length,H,I.tok _,⟨_,by simp only[Yo];rw[hlen]⟩,q⟩
  .subst e';obtain⟨its,r',pl,hz⟩:=I.tuple hx;have hlen:=r'.length;exact len_tuple pl (by simp only[Yo];omega) ⟨.int xs.length,H,I.tok _,⟨_,by simp only[Yo];rw[hlen]⟩,q⟩
 |_=>exact(show False from e).elim
end
end L2
namespace L2
open PySem PySem.Spec PyProof.Rows
structure zO(h:aN)(x dx C:Y1)(mA:aj->Option Yh):Prop where
 obj:h.get? x=Ya (uH C dx)
 ns:h.Ns1 dx mA
 ne:dx≠x
theorem ZoV{h:aN}{dx:Y1}{mA:aj->Option Yh}(n:h.Ns1 dx mA):∃od,h.get? dx=Ya od/\∀name,M7 name od=Ya (mA name):=by
 obtain⟨o,es,ep,ho,hd,hk,_,hm⟩:=n;refine⟨o,ho,λname=>?_⟩;have e:=hm name;unfold nsFind findBy at e;rw[←Array.find?_toList]at e;unfold M7;rw[hd];dsimp only;split
 .rename_i y q;rw[q]at e;exact congrArg Ya e
 .rename_i q;rw[q]at e;have a:es.toList.any (·.refKey)=false:=by
   rw[List.any_eq_false];intro y hy;obtain⟨z,t,hkey⟩:=hk y (Array.mem_toList_iff.mp hy);simp[DictEntry.refKey,hkey]
  have a':¬es.toList.any (·.refKey)=true:=by rw[a];exact kI
  rw[if_neg a'];exact congrArg Ya e
theorem zO.look{h:aN}{x dx C:Y1}{mA:aj->Option Yh}(I:zO h x dx C mA):∃od,PySem.W.InstAt h x (uH C dx) C (Ya od)/\∀name,M7 name od=Ya (mA name):=
 let⟨od,ho,hl⟩:=ZoV I.ns
 ⟨od,⟨I.obj,rfl,rfl,ho⟩,hl⟩
variable{Q:Yh->Yj->Prop}
section
variable {prog:bD} {w:bw} {A:bJ} {E:Yh->Yj->Prop} {s:Yj} {K:Yb} {x dx C f:Y1} {mA:aj->Option Yh} {name:aj} {v:Yh}
theorem ZrH{expr:Bool}(X:K.In s.heap)(I:zO s.heap x dx C mA)(hg:GZ K C name=true)(hh:GX K C=true)(ha:lY K (.ref C) name=Ya Yn)(hv:mA name=Ya v)(hv':V3 v=true)(h:Q v {s with toks:=s.toks+1}):
  ao (au prog w) A (getAttr (.ref x) name expr) Q E s:=by
 obtain⟨od,J,hl⟩:=I.look;exact PySem.W.get_value X J (PySem.W.plainGet_of hg).1 (PySem.W.findObj_own hh ha rfl (by rw[hl,hv])) hv' h
theorem Zsk{ns:List aj}{Q:Unit->Yj->Prop}(X:K.In s.heap)(I:zO s.heap x dx C mA)(hs:lY K (.ref C) "__setattr__" =Ya (Ya (.builtin "object.__setattr__")))(hp:MK K C=true)(ht:MT K C name=Ya Yn)(hh:GX K C=true)(hw:NQ mA ns)(hsz:ns.length<=bj)(h:∀h',zO h' x dx C (λy=>if y=name then Ya v else mA y)->zr dx s.heap h'->Q () {s with heap:=h',toks:=s.toks+2}):
  ao (au prog w) A (setAttr (.ref x) name v) Q E s:=by
 obtain⟨od,J,hl⟩:=I.look;refine PySem.W.set_plain X J hs (PySem.W.osa_open (s:={s with toks:=s.toks+1}) (r:=Yn) X J hp ht λb=>?_);obtain⟨cd,hc,hd'⟩:=PySem.W.any_some hh;have hx:s.heap.get? x=Ya ⟨.ref C,Ya dx,.plain,#[]⟩:=I.obj;refine Yg (Yt (Yg (Yg (wpAny_loadPart hx (Yg (PySem.W.Looks.here (s:={s with toks:=s.toks+1}) (PySem.W.looks_clsIn X hc) ?_))))));rw[hd'];refine Yt (a:=Ya dx) (Yg (Yt (Yg ?_)));refine wpAny_nsSet1 (s:={s with toks:=s.toks+1}) I.ns λh' hn2 hs2=>?_;obtain⟨oD,esD,epD,hoD,hdD,hcD⟩:=hn2.count (PySem.Within.cons name v hw);refine Yg (wpAny_lookBehind hoD (by rw[hdD];exact pastItsLine_dict (Yk hcD (by rw[Yp];exact lB 1 0xa1ca0c01001 T1 hsz))) ?_);exact Yt (h _ ⟨(hs2.2 _ (cO I.ne)).trans I.obj,hn2,I.ne⟩ hs2)
theorem Zq8{R:sG->Yj->Prop}{vs:List Yh}{kw:List (aj×Yh)}(X:K.In s.heap)(hm:G4 K C=true)(hi:lY K (.ref C) "__init__" =Ya (Ya (.ref f)))(hf:PySem.W.typeIn K (.ref f)=Ya (.type "function"))(h:mq (au prog w) (A.under (.builtin "type.__call__" ⟨.ref C::vs,kw⟩)) (.call (.ref f) ⟨.ref (s.heap.objs.size+1)::vs,kw⟩) (PySem.W.InitBack (s.heap.objs.size+1) R)
   {s with heap:=(s.heap.push rQ).push (uH C s.heap.objs.size)}):
  mq (au prog w) A (.call (.ref C) ⟨vs,kw⟩) R s:=by
 obtain⟨hh,g,d,t,os⟩:=s;exact PySem.W.make_core (PySem.W.makes_of X hm) (PySem.W.looks_findIn X hi) (λself=>PySem.W.bind_fn X self hf) (.inl rfl) h
end
noncomputable def iZ(f:aj)(v:V):List (aj×V)->List (aj×V)
 |[]=>[(f,v)]|(g,x)::r=>if g=f then(g,v)::r else(g,x)::iZ f v r
theorem Zhu(f g:aj)(v:V):∀fs:List (aj×V),(iZ f v fs).lookup g=if g=f then Ya v else fs.lookup g
 | []=>by
  show wN g [(f,v)]=_;by_cases h:g=f
  .have hb:(g==f)=true:=beq_iff_eq.mpr h;simp only[wN,hb,if_pos h]
  .have hb:(g==f)=false:=beq_eq_false_iff_ne.mpr h;simp only[wN,hb,if_neg h]
 | (k,x)::r=>by
  have ih:=Zhu f g v r;rw[show iZ f v ((k,x)::r)=(if k=f then(k,v)::r else(k,x)::iZ f v r)from rfl];by_cases hk:k=f
  .rw[if_pos hk];by_cases h:g=k
   .have hb:(g==k)=true:=beq_iff_eq.mpr h;simp only[wN,hb,if_pos (h.trans hk)]
   .have hb:(g==k)=false:=beq_eq_false_iff_ne.mpr h;simp only[wN,hb,if_neg (λe:g=f=>h (e.trans hk.symm))]
  .rw[if_neg hk];by_cases h:g=k
   .have hb:(g==k)=true:=beq_iff_eq.mpr h;simp only[wN,hb,if_neg (λe:g=f=>hk (h.symm.trans e))]
   .have hb:(g==k)=false:=beq_eq_false_iff_ne.mpr h;simp only[wN,hb];exact ih
theorem Qp(f:aj)(v:V):∀fs:List (aj×V),f∈(iZ f v fs).map (·.1)/\∀g,g∈fs.map (·.1)->g∈(iZ f v fs).map (·.1)
 |[]=>⟨by simp[iZ],λg h=>by simp at h⟩|(k,x)::r=>by
  obtain⟨i1,i2⟩:=Qp f v r;rw[show iZ f v ((k,x)::r)=(if k=f then(k,v)::r else(k,x)::iZ f v r)from rfl];by_cases hk:k=f
  .rw[if_pos hk];subst hk;exact⟨by simp,λg h=>by simpa using h⟩
  .rw[if_neg hk];refine⟨?_,λg h=>?_⟩
   .rw[Yu];exact Yc _ i1
   .rw[Yu]at h ⊢;rcases Ym.mp h with e|e
    .exact Ym.mpr (.inl e)
    .exact Yc _ (i2 g e)
theorem ZhD(f:aj)(v:V):∀fs:List (aj×V),(iZ f v fs).length<=fs.length+1
 |[]=>by simp[iZ]|(k,x)::r=>by
  have ih:=ZhD f v r;rw[show iZ f v ((k,x)::r)=(if k=f then(k,v)::r else(k,x)::iZ f v r)from rfl];by_cases hk:k=f
  .rw[if_pos hk,Yp,Yp];exact m9 _ _
  .rw[if_neg hk,Yp,Yp];exact lB 1 0xaa1cca0c0a1c001 T1 ih
theorem nq.some_of{v:V}{o:Option Yh}(r:nq (Ya v) o):∃u,o=Ya u/\RelV v u:=by
 cases o with
 |none=>exact(show False from r).elim|some u=>exact⟨u,rfl,r⟩
theorem Zo6{v:V}{u:Yh}(r:RelV v u):V3 u=true:=by
 cases v with
 |non=>cases(show u=Value.none from r);rfl|bl b=>cases(show u=Value.bool b from r);rfl|int i=>obtain⟨t,e⟩:=(show∃t,u=Value.int i t from r);cases e;rfl|str x=>obtain⟨t,e⟩:=(show∃t,u=Value.str x t from r);cases e;rfl
 |zJ b=>obtain⟨t,e⟩:=(show∃t,u=Value.bytes b t from r);cases e;rfl|flt b=>obtain⟨t,e⟩:=(show∃t,u=Value.float b t from r);cases e;rfl|ref a=>cases(show u=Value.ref a from r);rfl|ty n=>cases(show u=Value.type n from r);rfl
section
variable {P:bD} {w:bw} {H H':Hp} {h h':aN} {a C dx:Y1} {fs fs':List (aj×V)}
theorem Qq(hok:gJ P w H h)(e:H a=Ya (.ins C dx fs)):∃mA,zO h a dx C mA/\(∀f,nq (fs.lookup f) (mA f))/\NQ mA (fs.map (·.1))/\fs.length<=1000/\H dx=Ya (.own a):=by obtain⟨d,z,ne,ob,mA,n,r,q⟩:=(show gn P w H h a (.ins C dx fs)from hok a _ e);exact⟨mA,⟨ob,n,ne⟩,r,q,z,d⟩
end
structure vp(K:Yb)(C:Y1):Prop where
 pg:GZ K C Str.empty=true
 hd:GX K C=true
 po:MK K C=true
 sa:lY K (.ref C) "__setattr__" =Ya (Ya (.builtin "object.__setattr__"))
theorem vp.get{K:Yb}{C:Y1}(c:vp K C)(f:aj):GZ K C f=true:=c.pg
def qQ(K:Yb)(C:Y1)(f:aj):Prop:=lY K (.ref C) f=Ya Yn
theorem qQ.taker{K:Yb}{C:Y1}{f:aj}(n:qQ K C f):MT K C f=Ya Yn:=by unfold MT;rw[show lY K (.ref C) f=Ya Yn from n];rfl
structure Meth(K:Yb)(C:Y1)(m:aj)(f:Y1):Prop where
 at_:lY K (.ref C) m=Ya (Ya (.ref f))
 fn:G5 K (.ref f)=true
 kp:rR K (.ref f)=true
section
variable {X:Cx} {pins:List (Y1×aK)} {σ:St} {H:Hp} {s:Yj} {a C dx:Y1} {fs:List (aj×V)} {f:aj} {v:V} {A:bJ} {E:Yh->Yj->Prop}
theorem Zm0{b:Bool}(I:Inv X pins σ H s)(e:H a=Ya (.ins C dx fs))(c:vp X.K C)(n:qQ X.K C f)(l:fs.lookup f=Ya v)(h:∀u s',Inv X pins σ H s'->RelV v u->Q u s'):ao (au X.prog X.w) A (getAttr (.ref a) f b) Q E s:=by obtain⟨mA,O,r,_,_,_⟩:=Qq I.hok e;obtain⟨u,hu,ru⟩:=nq.some_of (v:=v) (o:=mA f) (by rw[←l];exact r f);exact ZrH I.dU O (c.get f) c.hd n hu (Zo6 ru) (h u _ (I.tok _) ru)
theorem ZmU{y:V}{u:Yh}{Q:Unit->Yj->Prop}(I:Inv X pins σ H s)(e:H a=Ya (.ins C dx fs))(c:vp X.K C)(n:qQ X.K C f)(hl:fs.length<1000)(ry:RelV y u)(h:∀s',Inv X pins σ (upd H a (.ins C dx (iZ f y fs))) s'->Q () s'):ao (au X.prog X.w) A (setAttr (.ref a) f u) Q E s:=by
 obtain⟨mA,O,r,wi,_,ho⟩:=Qq I.hok e;have hz:(fs.map (·.1)).length<=bj:=by rw[Yv,zf];exact lA 1 0x10000007b003e83b011 T1 hl
 refine Zsk I.dU O c.sa c.po n.taker c.hd wi hz λh' O' sb=>h _ ?_;have hd:∃o,h'.get? dx=Ya o:=let⟨o,_,_,e',_⟩:=O'.ns;⟨o,e'⟩;refine I.write (x:=a) (e:=dx) (by rw[e];exact True.intro) (.inr ho) (λb q hb z=>(sb.2 b hb).trans z) hd ?_;refine⟨by rw[fJ O.ne];exact ho,?_,O.ne,O'.obj,_,O'.ns,λg=>?_,λg hg=>?_⟩
 .have:=ZhD f y fs;exact lB 2 0x3e83b003e83b111a1c001 T1 this hl
 .show nq ((iZ f y fs).lookup g) (if g=f then Ya u else mA g);rw[Zhu];by_cases q:g=f
  .rw[if_pos q,if_pos q];exact ry
  .rw[if_neg q,if_neg q];exact r g
 .by_cases q:g=f
  .rw[q];exact(Qp f y fs).1
  .refine(Qp f y fs).2 g (wi g λz=>hg ?_);show(if g=f then Ya u else mA g)=Yn;rw[if_neg q];exact z
theorem Inv.made(I:Inv X pins σ H s):Inv X pins σ (upd (upd H s.heap.objs.size (.own (s.heap.objs.size+1))) (s.heap.objs.size+1) (.ins C s.heap.objs.size []))
  {s with heap:=(s.heap.push rQ).push (uH C s.heap.objs.size)}:=by
 have e1:(s.heap.push rQ).get? s.heap.objs.size=Ya rQ:=Y2 s.heap rfl;have e2:((s.heap.push rQ).push (uH C s.heap.objs.size)).get? (s.heap.objs.size+1)=Ya (uH C s.heap.objs.size):=by
  have:=Y2 (s.heap.push rQ) (o:=uH C s.heap.objs.size) rfl
  rwa[wZ]at this
 have e3:(s.heap.push rQ).Ns s.heap.objs.size (λ_=>Yn):=⟨rQ,#[],_,e1,rfl,(λe he=>absurd he (by simp)),λ_=>rfl⟩;have I1:=I.laid (a:=s.heap.objs.size) (o:=.own (s.heap.objs.size+1)) (h':=s.heap.push rQ) (t':=s.toks) (λb u q=>Yl _ q) (Ys _) ⟨_,e1⟩;refine I1.laid (a:=s.heap.objs.size+1) (o:=.ins C s.heap.objs.size []) (t':=s.toks) (λb u q=>Yl _ q) (sI (wZ _ _)) ?_;have ne:s.heap.objs.size≠s.heap.objs.size+1:=dw (Dj _);refine⟨by rw[fJ ne,pR],fG _,ne,e2,λ_=>Yn,(Heap.Ns1.of_empty e3).at λo q=>Yl _ q,λ_=>True.intro,λy hy=>absurd rfl hy⟩
theorem ZsC{prog:bD}{w:bw}{env:eV}{e:Expr}{f:aj}{pos:aU}{s:Yj}(hb:mj e f env (aF e env)=aF e env)(h:ao (au prog w) A (aF e env) (λo s₁=>ao (au prog w) A (getAttr o f true) Q E s₁) E s):ao (au prog w) A (aF (.Attribute e f pos) env) Q E s:=Attribute_any_ h (by rw[arm_eval_Attribute,hb])
end
def Zw1(K:Yb)(ta:TE)(f:aj):TE:=λσ H Q=>ta σ H λx H1=>∃a C dx fs v,x= .ref a/\H1 a=Ya (.ins C dx fs)/\vp K C/\qQ K C f/\fs.lookup f=Ya v/\Q v H1
def Zw9(K:Yb)(ta tv:TE)(f:aj):TS:=λD σ H=>tv σ H λy H1=>ta σ H1 λx H2=>∃a C dx fs,x= .ref a/\H2 a=Ya (.ins C dx fs)/\vp K C/\qQ K C f/\fs.length<1000/\
 D.nx σ (upd H2 a (.ins C dx (iZ f y fs)))
section
variable {X:Cx} {o e value:Expr} {f:aj} {pos pos' tpos:aU} {ta tv:TE}
theorem Zuq(he:PE X e ta)(hb:mj e f X.env (aF e X.env)=aF e X.env):PE X (.Attribute e f pos) (Zw1 X.K ta f):=by intro pins s σ H Q I h;refine ZsC hb (aD (he pins s σ H _ I h) λu s1 ak=>?_);obtain⟨x,H1,I1,rx,a,C,dx,fs,v,ex,ea,c,n,l,q⟩:=ak;subst ex;obtain rfl:u=Value.ref a:=rx;exact Zm0 I1 ea c n l λu' s2 I2 ru=>⟨v,H1,I2,ru,q⟩
theorem Ztx(ha:PE X o ta)(hv:PE X value tv)(hs:uR value (Ya (.Attribute o f pos')) pos.line X.env=pure false):PS X (.Assign [.Attribute o f pos'] value pos) (Zw9 X.K ta tv f):=by intro pins s σ H D I h;refine plainObj_wpAny_Assign_Attribute (aD (hv pins s σ H _ I h) λu s1 ⟨y,H1,I1,ry,q⟩=>aD (ha pins s1 σ H1 _ I1 q) λov s2 ak=>?_) hs;obtain⟨x,H2,I2,rx,a,C,dx,fs,ex,ea,c,n,l,q2⟩:=ak;subst ex;obtain rfl:ov=Value.ref a:=rx;exact ZmU I2 ea c n l ry λs3 I3=>⟨σ,_,I3,q2⟩
end
section
variable {X:Cx} {pins:List (Y1×aK)} {σ:St} {H:Hp} {s:Yj} {A:bJ} {E:Yh->Yj->Prop} {Q:Yh->Yj->Prop} {c:Yh} {b:Bool}
inductive oV(K:Yb)(H:Hp):V->Yh->Prop where
 |non:oV K H .non (.type "NoneType")
 |bl (x:Bool):oV K H (.bl x) (.type "bool")
 |int (i:Int):oV K H (.int i) (.type "int")
 |str (x:aj):oV K H (.str x) (.type "str")
 |flt (x:UInt64):oV K H (.flt x) (.type "float")
 |lst {a:Y1} {xs:List V} (e:H a=Ya (.lst xs)):oV K H (.ref a) (.type "list")
 |fH {a:Y1} {o:aK} {xs:List V} (e:H a=Ya (.fH o (.lst xs))):oV K H (.ref a) (.type "list")
 |tup {a:Y1} {xs:List V} (e:H a=Ya (.tup xs)):oV K H (.ref a) (.type "tuple")
 |dK {a:Y1} {kvs:List (Key×V)} (e:H a=Ya (.dK kvs)):oV K H (.ref a) (.type "dict")
 |dT {a:Y1} {kvs:List (List Key×V)} (e:H a=Ya (.dT kvs)):oV K H (.ref a) (.type "dict")
 | ins {a C dx:Y1} {fs:List (aj×V)} (e:H a=Ya (.ins C dx fs)) (cl:vp K C) (ha:lY K (.ref C) "__class__" =Ya (Ya (.builtin "object.__class__")))
   (hn:PySem.W.specialIn K (.builtin "object.__class__") "__get__" =Ya (Ya (.builtin "getset_descriptor.__get__"))) (htk:PySem.W.takesIn K (.builtin "object.__class__")=Ya true)
   (hm:PySem.W.mroIn K C (.type "object")=Ya true):oV K H (.ref a) (.ref C)
theorem zP{x:V}{u t:Yh}(I:Inv X pins σ H s)(rx:RelV x u)(ty:oV X.K H x t)(e:V6 X.K t c=Ya b)(h:∀tk,Q (.bool b) {s with toks:=tk}):
  ao (au X.prog X.w) A (call (.builtin "isinstance") [u,c]) Q E s:=by
 cases ty with
 |non=>cases(show u=Value.none from rx);exact oE V1 I.dU True.intro e (λz=>nomatch z) h|bl y=>cases(show u=Value.bool y from rx);exact oE V2 I.dU True.intro e (λz=>nomatch z) h|int i=>obtain⟨t,q⟩:=(show∃t,u=Value.int i t from rx);cases q;exact oE V4 I.dU True.intro e (λz=>nomatch z) h|str y=>obtain⟨t,q⟩:=(show∃t,u=Value.str y t from rx);cases q;exact oE V5 I.dU True.intro e (λz=>nomatch z) h
 |flt y=>obtain⟨t,q⟩:=(show∃t,u=Value.float y t from rx);cases q;exact oE PySem.W.kitx_float I.dU True.intro e (λz=>nomatch z) h|@lst a xs ea=>
  cases(show u=Value.ref a from rx)
  obtain⟨_,_,n,_,h1⟩:=(show gn X.prog X.w H s.heap a (.lst xs)from I.hok a _ ea);exact oE MN I.dU ⟨_,h1,rfl⟩ e (λz=>nomatch z) h
 | @fH a ob xs ea=>
  cases(show u=Value.ref a from rx)
  obtain⟨_,_,_,n,_,h1⟩:=(show gn X.prog X.w H s.heap a (.fH ob (.lst xs))from I.hok a _ ea);exact oE MN I.dU ⟨_,h1,rfl⟩ e (λz=>nomatch z) h
 | @tup a xs ea=>
  cases(show u=Value.ref a from rx)
  obtain⟨_,_,_,p⟩:=(show gn X.prog X.w H s.heap a (.tup xs)from I.hok a _ ea);obtain⟨o,h1,h2,_⟩:=p;exact oE MF I.dU ⟨o,h1,h2.1⟩ e (λz=>nomatch z) h
 | @dK a kvs ea=>
  cases(show u=Value.ref a from rx)
  obtain⟨_,_,vs,_,p⟩:=(show gn X.prog X.w H s.heap a (.dK kvs)from I.hok a _ ea);obtain⟨o,es,ep,h1,h2,_⟩:=p;exact oE MP I.dU ⟨o,h1,h2.1⟩ e (λz=>nomatch z) h
 | @dT a kvs ea=>
  cases(show u=Value.ref a from rx)
  obtain⟨_,_,xs,_,o,es,ep,h1,h2,_⟩:=(show gn X.prog X.w H s.heap a (.dT kvs)from I.hok a _ ea);exact oE MP I.dU ⟨o,h1,h2.1⟩ e (λz=>nomatch z) h
 | @ins a C dx fs ea cl ha hn htk hm=>
  cases(show u=Value.ref a from rx)
  obtain⟨mA,O,_⟩:=Qq I.hok ea;obtain⟨od,J,_⟩:=O.look;exact oE (PySem.W.kitx_own (cl.get _) cl.hd ha hn htk hm) I.dU J e (λz=>nomatch z) h
end
end L2
namespace L2
open PySem PySem.Spec PyProof.Rows
structure dz(k:Nat)(A:bJ):Prop where
 hd:A.handled=Yn
 dp:A.depth+3*k+5<recursionLimit
 un:A.units+16*k+200<jw
variable{A:bJ}
theorem dz.mono{j k:Nat}(r:dz k A)(h:j<=k):dz j A:=⟨r.hd,by have:=r.dp;exact lD 2 0x251b303d0cc11303251b103d0cc11 T1 this h,by have:=r.un;omega⟩
theorem dz.deeper{k:Nat}(r:dz (k+1) A)(env:eV):dz k (A.deeper env):=⟨r.hd,by have:=r.dp;show A.depth+1+3*k+5<_;exact lC 1 0x251b103da0ccc1251ba1c03d0cc11 T1 this,by have:=r.un;show A.units+3+16*k+200<_;exact lC 1 0x2c82b110d31b0ccc12c82ba1c10d0cc11 T1 this⟩
theorem dz.in1{k:Nat}(r:dz (k+1) A):dz k A.in1:=⟨r.hd,by have:=r.dp;show A.depth+3*k+5<_;exact lC 1 0x251b103d0cc1251ba1c03d0cc11 T1 this,by have:=r.un;show A.units+1+16*k+200<_;exact lC 1 0x2c82b110da0ccc12c82ba1c10d0cc11 T1 this⟩
variable{us:List Yh}
theorem Znf{C:Y1}{kw:List (aj×Yh)}:(A.under (.builtin "type.__call__" ⟨.ref C::us,kw⟩)).depth=A.depth+1:=by first|rfl|simp[Ph,Code.weight,Code.isCreation,Code.isGuard,Code.isCaller,Code.frames,Pu,guardIds]
theorem Zm7{C:Y1}{kw:List (aj×Yh)}:(A.under (.builtin "type.__call__" ⟨.ref C::us,kw⟩)).units=A.units+1:=by first|rfl|simp[Ph,Code.cUnits,Code.frames,Pu]
theorem dz.make{k:Nat}(r:dz (k+1) A)(C:Y1)(us:List Yh)(kw:List (aj×Yh)):dz k (A.under (.builtin "type.__call__" ⟨.ref C::us,kw⟩)):=⟨r.hd,by have:=r.dp;rw[Znf];exact lC 1 0x251b103da0ccc1251ba1c03d0cc11 T1 this,by have:=r.un;rw[Zm7];exact lC 1 0x2c82b110da0ccc12c82ba1c10d0cc11 T1 this⟩
theorem dz.depth{k:Nat}(r:dz k A):A.depth<recursionLimit:=by have:=r.dp;exact lC 1 0x201251b103d0cc11 T1 this
theorem dz.units{k:Nat}(r:dz k A):A.units+64<jw:=by have:=r.un;exact lC 1 0x2402b0c12c82b110d0cc11 T1 this
def ZvL:TA:=λ_ H Q=>Q [] H
def ZsY(ta:TE)(tr:TA):TA:=λσ H Q=>ta σ H λx H1=>tr σ H1 λxs H2=>Q (x::xs) H2
section
variable {X:Cx} {e:Expr} {es:List Expr} {te:TE} {t:TA} {pos:aU}
theorem Ea:PA X [] ZvL:=λ_ _ _ _ H Q I h=>YZ ⟨[],H,I,.nil,h⟩
theorem vy(ha:PE X e te)(hr:PA X es t)(hs:Yw (e::es) X.env=(false,aF e X.env)::Yw es X.env:=by rfl):PA X (e::es) (ZsY te t):=by intro pos pins s σ H Q I h;rw[hs];show ao _ _ (HB ((false,aF e X.env)::bZ pos (Yw es X.env))) _ _ s;refine Pr (aD (ha pins s σ H _ I h) λu s1 ak=>?_);obtain⟨x,H1,I1,r1,q1⟩:=ak;exact aD (hr pos pins s1 σ H1 _ I1 q1) λus s2 ⟨xs,H2,I2,r2,q2⟩=>⟨x::xs,H2,I2,.cons r1 r2,q2⟩
def Zxn(t:TA):TE:=λσ H Q=>t σ H λxs H1=>xs.length<=bj/\∀p,H1 p=Yn->Q (.ref p) (upd H1 p (.tup xs))
def Zw3(t:TA):TE:=λσ H Q=>t σ H λxs H1=>xs.length<=bj/\∀p,H1 p=Yn->Q (.ref p) (upd H1 p (.lst xs))
theorem ZpH{x1}(h:PA X es t):PE X (.Tuple es x1 pos) (Zxn t):=by intro pins s σ H Q I hq;refine wpAny_Tuple_spliced (aD (h pos pins s σ H _ I hq) λus s1 ⟨xs,H1,I1,r,z,q⟩=>⟨by rw[←r.length];exact z,?_⟩);have hf:H1 s1.heap.objs.size=Yn:=I1.hok.fresh (Ys _);refine⟨.ref s1.heap.objs.size,upd H1 s1.heap.objs.size (.tup xs),I1.laid (t':=s1.toks) (λb u e=>Yl _ e) (Ys _) ?_,rfl,q _ hf⟩;exact⟨z,us,r,⟨_,Y2 _ rfl,⟨rfl,rfl⟩,_,rfl⟩⟩
theorem ZuT(h:PA X es t):PE X (.List es pos) (Zw3 t):=by intro pins s σ H Q I hq;refine wpAny_List_spliced (aD (h pos pins s σ H _ I hq) λus s1 ⟨xs,H1,I1,r,z,q⟩=>⟨by rw[←r.length];exact z,?_⟩);have hf:H1 s1.heap.objs.size=Yn:=I1.hok.fresh (Ys _);refine⟨.ref s1.heap.objs.size,upd H1 s1.heap.objs.size (.lst xs),I1.laid (t':=s1.toks) (λb u e=>Yl _ e) (Ys _) ?_,rfl,q _ hf⟩;exact⟨z,us,0,r,Y2 _ rfl⟩
end
noncomputable abbrev Sp:=List V->Hp->VK->XK->Prop
noncomputable abbrev oW:=List eV->Hp->Yj->XK->Yh->Yj->Prop
structure qR(P:bD)(w:bw)(K:Yb)(mg:aj->Option Yh)(base:aN)(A:bJ)(outer:List eV)(s:Yj)(H:Hp):Prop where
 frames:A.frames=Ya outer
 mod:Mod K mg base
 bs:∀b o,base.get? b=Ya o->s.heap.get? b=Ya o/\H b=Yn
 pU:base.objs.size<=s.heap.objs.size
 mX:s.heap.FunFrames base outer
 vo:∀b∈frs outer,H b=Yn
 hok:gJ P w H s.heap
 bare:sV s.gens
def CE(outer:List eV)(P:bD)(w:bw)(H:Hp)(s:Yj)(Q:VK)(u:Yh)(s':Yj):Prop:=∃v H',s'.os=s.os/\sV s'.gens/\Un (frs outer) [] H H' s.heap s'.heap/\gJ P w H' s'.heap/\RelV v u/\Q v H'
def CR(CX:oW)(outer:List eV)(P:bD)(w:bw)(H:Hp)(s:Yj)(Q:VK)(E:XK)(r:sG)(s':Yj):Prop:=
 match r with
 | .ok (.ret u)=>CE outer P w H s Q u s'|.ok _=>False|.error e=>CX outer H s E e s'
structure jm(P:bD)(w:bw)(K:Yb)(mg:aj->Option Yh)(base:aN)(CX:oW)(k:Nat)(f:Y1)(fd:jT)(ps:List aj)(sp:Sp):Prop where
 len:∀vs H Q E,sp vs H Q E->vs.length=ps.length
 jj:∀(A:bJ) (outer:List eV) (s:Yj) (H:Hp) (args:Args) (us:List Yh) (vs:List V) (Q:VK) (E:XK),dz k A->qR P w K mg base A outer s H->zj s fd args (ps.zip us)->Vals vs us->sp vs H Q E ->
  mq (au P w) A (.call (.ref f) args) (CR CX outer P w H s Q E) s
variable{w:bw}{mg:aj->Option Yh}{P:bD}{K:Yb}{base:aN}{ps:List aj}
theorem jm.mono{CX:oW}{j k:Nat}{f:Y1}{fd:jT}{sp:Sp}(F:jm P w K mg base CX j f fd ps sp)(h:j<=k):
  jm P w K mg base CX k f fd ps sp:=⟨F.len,λA outer s H args us vs Q E hr=>F.run A outer s H args us vs Q E (hr.mono h)⟩
variable{s:Yj}{H:Hp}{outer:List eV}
theorem qR.make(e:qR P w K mg base A outer s H)(C:Y1)(us:List Yh)(kw:List (aj×Yh)):
  qR P w K mg base (A.under (.builtin "type.__call__" ⟨.ref C::us,kw⟩)) outer s H:=⟨by first|exact e.frames|(simpa[Ph,Code.envs,Pu,pushEnvs]using e.frames),e.mod,e.bs,e.pU,e.mX,e.vo,e.hok,e.bare⟩
theorem qR.in1(e:qR P w K mg base A outer s H):
  qR P w K mg base A.in1 outer s H:=⟨e.frames,e.mod,e.bs,e.pU,e.mX,e.vo,e.hok,e.bare⟩
section
variable {X:Cx} {pins:List (Y1×aK)} {σ:St} {H:Hp} {s s':Yj}
theorem Inv.env0(I:Inv X pins σ H s):qR X.prog X.w X.K X.mg X.base X.A X.stack s H:=⟨I.ok.frames,I.ok.mod,I.bs,Yk I.ok.pU I.sz,I.stack,I.U3,I.hok,I.bare⟩
theorem Inv.after{Q:VK}{u:Yh}(I:Inv X pins σ H s)(h:CE X.stack X.prog X.w H s Q u s'):EP X pins σ Q u s':=by obtain⟨v,H',os,bare,un,hok,r,q⟩:=h;obtain⟨hh,g,d,t,os'⟩:=s';obtain rfl:os'=s.os:=os;exact⟨v,H',I.call (h':=hh) (g':=g) (d':=d) (t':=t) (ch:=[]) un hok bare (λb z=>absurd z (by simp)),r,q⟩
end
def ZvE(sp:Sp)(kW:List V)(E:XK)(t:TA):TE:=λσ H Q=>t σ H λvs H1=>sp (vs++kW) H1 Q E
def Zwk(C:Y1)(sp:Sp)(kW:List V)(E:XK)(t:TA):TE:=λσ H Q=>t σ H λvs H1=>∀x dx,H1 x=Yn->H1 dx=Yn->dx≠x ->
 sp (.ref x::(vs++kW)) (upd (upd H1 dx (.own x)) x (.ins C dx [])) (λv H2=>v= .non/\Q (.ref x) H2) E
def Binds(K:Yb)(fd:jT)(ps:List aj)(ds:List Yh):Prop:=∀(s:Yj) (us:List Yh),K.In s.heap->(us++ds).length=ps.length->zj s fd ⟨us,[]⟩ (ps.zip (us++ds))
theorem Binds.all{fd:jT}(h:∀us:List Yh,us.length=ps.length->bindArgs fd ⟨us,[]⟩=pure (ps.zip us)):Binds K fd ps []:=λs us _ hl=>by rw[jQ]at hl ⊢;exact .of_eq (h us hl)
def Eb(CX:oW)(X:Cx)(E:XK):Prop:=∀(pins:List (Y1×aK)) (σ:St) (H:Hp) (s:Yj) (e:Yh) (s':Yj),Inv X pins σ H s->CX X.stack H s E e s'->X.xe e s'
variable{vs:List V}
section
variable {X:Cx} {CX:oW} {k:Nat} {f C:Y1} {fd:jT} {ps:List aj} {sp:Sp} {kW:List V} {ds:List Yh} {E:XK} {x m:aj} {p pos apos:aU} {e o:Expr} {es:List Expr} {ta:TE} {t:TA}
theorem Zvb{pins:List (Y1×aK)}{σ:St}{Q:VK}(F:jm X.prog X.w X.K X.mg X.base CX k f fd ps sp)(hr:dz k X.A)(hb:Binds X.K fd ps ds)(hd:Vals kW ds)(hx:Eb CX X E)(I:Inv X pins σ H s)(r:Vals vs us)(h:sp (vs++kW) H Q E):ao (au X.prog X.w) X.A (call (.ref f) us) (EP X pins σ Q) X.xe s:=by
 have r2:Vals (vs++kW) (us++ds):=r.append hd;have hl:(us++ds).length=ps.length:=by rw[←r2.length];exact F.len _ _ _ _ h
 refine Dg (uQ (F.run X.A X.stack s H ⟨us,[]⟩ (us++ds) (vs++kW) Q E hr I.env0 (hb s us I.dU hl) r2 h) λr s' hq=>?_);cases r with
 |error e=>exact hx pins σ H s e s' I hq|ok fl=>
  cases fl with
  |ret u=>exact I.after hq|next=>exact jk hq|brk=>exact jk hq|cont=>exact jk hq
theorem ZrR(F:jm X.prog X.w X.K X.mg X.base CX k f fd ps sp)(hr:dz k X.A)(hg:Gl X x)(hm:X.mg x=Ya (.ref f))(hk:rR X.K (.ref f)=true)(hb:Binds X.K fd ps ds)(hd:Vals kW ds)(hx:Eb CX X E)(ha:PA X (e::es) t)(hdb:(x==("__debug__":aj))=false:=by decide)(he:Yw (e::es) X.env=(false,aF e X.env)::Yw es X.env:=by rfl)(hpl:(bZ pos (Yw es X.env)).any (·.1)=false:=by rfl):
  PE X (.Call (.Name x p) (e::es) [] pos) (ZvE sp kW E t):=by
 intro pins s σ H Q I h;refine za (Qf I hg hm ?_ hdb);refine V0 (h₀:=X.base) I.ok.mod.DW hk (aD (ha pos pins s σ H _ I h) λus s1 ⟨vs,H1,I1,r,q⟩=>⟨I1.dU,?_⟩) he hpl;exact Zvb F hr hb hd hx I1 r q
structure Mk(K:Yb)(C f:Y1):Prop where
 makes:G4 K C=true
 init:lY K (.ref C) "__init__" =Ya (Ya (.ref f))
 fn:G5 K (.ref f)=true
 kp:rR K (.ref C)=true
theorem Zpt{pins:List (Y1×aK)}{σ:St}{Q:VK}(M:Mk X.K C f)(F:jm X.prog X.w X.K X.mg X.base CX k f fd ps sp)(hr:dz (k+1) X.A)(hb:Binds X.K fd ps ds)(hd:Vals kW ds)(hx:Eb CX X E)(I:Inv X pins σ H s)(r:Vals vs us)(h:∀x dx,H x=Yn->H dx=Yn->dx≠x->sp (.ref x::(vs++kW)) (upd (upd H dx (.own x)) x (.ins C dx [])) (λv H2=>v= .non/\Q (.ref x) H2) E):
  ao (au X.prog X.w) X.A (call (.ref C) us) (EP X pins σ Q) X.xe s:=by
 have hq:=h (s.heap.objs.size+1) s.heap.objs.size (I.hok.fresh (u_ _)) (I.hok.fresh (Ys _)) (dw (Dj _));have I2:=Inv.made (C:=C) I;have r2:Vals (V.ref (s.heap.objs.size+1)::(vs++kW)) (Value.ref (s.heap.objs.size+1)::(us++ds)):=.cons rfl (r.append hd);have hl:(Value.ref (s.heap.objs.size+1)::us++ds).length=ps.length:=by have e:=r2.length;rw[F.len _ _ _ _ hq]at e;exact e.symm
 refine Dg (Zq8 (f:=f) I.dU M.makes M.init (beq_iff_eq.mp M.fn) (uQ (F.run _ X.stack _ _ ⟨Value.ref (s.heap.objs.size+1)::us,[]⟩ (Value.ref (s.heap.objs.size+1)::(us++ds)) _ _ E (hr.make C us [])
  (I2.env0.make C us []) (hb _ (Value.ref (s.heap.objs.size+1)::us) I2.dU hl) r2 hq) λr s' hq'=>?_))
 cases r with
 |error e=>exact hx pins σ _ _ e s' I2 hq'|ok fl=>
  cases fl with
  |ret u=>obtain⟨v,H',I3,rv,ev,q3⟩:=I2.after hq';subst ev;exact⟨rv,⟨V.ref (s.heap.objs.size+1),H',I3,rfl,q3⟩⟩|next=>exact jk hq'|brk=>exact jk hq'
  |cont=>exact jk hq'
theorem Zr9(M:Mk X.K C f)(F:jm X.prog X.w X.K X.mg X.base CX k f fd ps sp)(hr:dz (k+1) X.A)(hg:Gl X x)(hm:X.mg x=Ya (.ref C))(hb:Binds X.K fd ps ds)(hd:Vals kW ds)(hx:Eb CX X E)(ha:PA X (e::es) t)(hdb:(x==("__debug__":aj))=false:=by decide)(he:Yw (e::es) X.env=(false,aF e X.env)::Yw es X.env:=by rfl)(hpl:(bZ pos (Yw es X.env)).any (·.1)=false:=by rfl):
  PE X (.Call (.Name x p) (e::es) [] pos) (Zwk C sp kW E t):=by
 intro pins s σ H Q I h;refine za (Qf I hg hm ?_ hdb);refine V0 (h₀:=X.base) I.ok.mod.DW M.kp (aD (ha pos pins s σ H _ I h) λus s1 ⟨vs,H1,I1,r,q⟩=>⟨I1.dU,?_⟩) he hpl;exact Zpt M F hr hb hd hx I1 r q
end
def PK(X:Cx)(kws:List Keyword)(t:TA):Prop:=∀(pos:aU) (pins:List (Y1×aK)) (s:Yj) (σ:St) (H:Hp) (Q:List V->Hp->Prop),Inv X pins σ H s->t σ H Q->ao (au X.prog X.w) X.A (HF ((iQ pos (iK kws X.env)).map (·.2))) (AP X pins σ Q) X.xe s
section
variable {X:Cx} {CX:oW} {k:Nat} {f C:Y1} {fd:jT} {ps ks:List aj} {sp:Sp} {E:XK} {x m:aj} {p pos apos kpos:aU} {e o:Expr} {es:List Expr} {kws:List Keyword} {te ta:TE} {t tk:TA} {nm:Option aj}
theorem Zqv:PK X [] ZvL:=λ_ _ _ _ H Q I h=>wpAny_evalAll_nil ⟨[],H,I,.nil,h⟩
theorem ZnX(ha:PE X e te)(hr:PK X kws t):PK X (⟨nm,e,kpos⟩::kws) (ZsY te t):=by intro pos pins s σ H Q I h;show ao _ _ (HF ((do let v ←aF e X.env;Di pos;pure v)::(iQ pos (iK kws X.env)).map (·.2))) _ _ s;refine wpAny_evalAll_cons (Yg (aD (ha pins s σ H _ I h) λu s1 ⟨x,H1,I1,r1,q1⟩=>Yg (uP (Yt ?_))));exact aD (hr pos pins s1 σ H1 _ I1 q1) λus s2 ⟨xs,H2,I2,r2,q2⟩=>⟨x::xs,H2,I2,.cons r1 r2,q2⟩
variable {g:List Yh->List Yh->List Yh} {gV:List V->List V->List V}
end
structure dJ(N P:List aj)(sc:Scope):Prop where
 kind:sc.kind= .function
 co:sc.isCoroutine=false
 gen:sc.isGenerator=false
 nd:N.Nodup
 pre:N.take P.length=P
 par:∀x∈P,sc.names.lookup x=Ya .local\/sc.names.lookup x=Ya .cell
 Aa5:∀y∈sc.names,y.2≠ .free
theorem ZjL{mC:aj->Option NameKind}{x:aj}:∀{binds:List (aj×Yh)} {m:aj->Option Yh},(∀v,(x,v)∉binds)->uY mC binds m x=m x
 |[],_,_=>rfl|(n,v)::r,m,h=>by
  unfold uY;rw[ZjL λw hw=>h w (Yc _ hw)];split
  .have:x≠n:=by rintro rfl;exact h v Yd
   simp[this]
  .rfl
theorem Zj4{mC:aj->Option NameKind}{x:aj}:∀{binds:List (aj×Yh)} {m:aj->Option Yh},(∀v,(x,v)∉binds)->u0 mC binds m x=m x
 |[],_,_=>rfl|(n,v)::r,m,h=>by
  unfold u0;rw[Zj4 λw hw=>h w (Yc _ hw)];split
  .rfl
  .have:x≠n:=by rintro rfl;exact h v Yd
   simp[this]
theorem Zjy{mC:aj->Option NameKind}{x:aj}{v:Yh}:∀{P:List aj} {vs:List Yh} {i:Nat} {m:aj->Option Yh},P.Nodup->P[i]?=Ya x->vs[i]?=Ya v->mC x=Ya .local ->
  uY mC (P.zip vs) m x=Ya v
 |[],_,_,_,_,h,_,_=>by simp at h|_::_,[],_,_,_,_,h,_=>by simp at h|p::P,w::vs,0,m,nd,h1,h2,hk=>by simp at h1 h2;subst h1;subst h2;show uY mC ((p,w)::P.zip vs) m p=_;unfold uY;rw[ZjL λv hv=>(iJ.mp nd).1 (Nj hv).1,if_pos hk];simp|p::P,w::vs,i+1,m,nd,h1,h2,hk=>by show uY mC ((p,w)::P.zip vs) m x=_;unfold uY;exact Zjy (i:=i) (iJ.mp nd).2 (by simpa using h1) (by simpa using h2) hk
theorem Zj2{mC:aj->Option NameKind}{x:aj}{v:Yh}:∀{P:List aj} {vs:List Yh} {i:Nat} {m:aj->Option Yh},P.Nodup->P[i]?=Ya x->vs[i]?=Ya v->mC x≠Ya .local ->
  u0 mC (P.zip vs) m x=Ya v
 |[],_,_,_,_,h,_,_=>by simp at h|_::_,[],_,_,_,_,h,_=>by simp at h|p::P,w::vs,0,m,nd,h1,h2,hk=>by simp at h1 h2;subst h1;subst h2;show u0 mC ((p,w)::P.zip vs) m p=_;unfold u0;rw[Zj4 λv hv=>(iJ.mp nd).1 (Nj hv).1,if_neg hk];simp|p::P,w::vs,i+1,m,nd,h1,h2,hk=>by show u0 mC ((p,w)::P.zip vs) m x=_;unfold u0;exact Zj2 (i:=i) (iJ.mp nd).2 (by simpa using h1) (by simpa using h2) hk
noncomputable def start(N:List aj)(vs:List V):St:=vs.map Ya++Yq (N.length-vs.length) Yn
noncomputable def tD(CX:oW)(P:bD)(w:bw)(K:Yb)(mg:aj->Option Yh)(base:aN)(N:List aj)(qual:aj)(scope:Scope)(f:Y1)(cd:Yh)(A:bJ)(outer:List eV)(s:Yj)(H:Hp)(E:XK):Cx where
 prog:=P
 w:=w
 K:=K
 mg:=mg
 base:=base
 A:=A.deeper (oN qual scope s.heap.objs.size f cd)
 N:=N
 s₀:=s
 H₀:=H
 env:=oN qual scope s.heap.objs.size f cd
 outer:=outer
 stack:=oN qual scope s.heap.objs.size f cd::outer
 ex:=[]
 calm:=true
 fn:=λ_=>true
 pn:=[]
 xe:=λe s'=>ao (au P w) (A.deeper (oN qual scope s.heap.objs.size f cd)) (leaving (oN qual scope s.heap.objs.size f cd) e) (λ_ s''=>CX outer H s E e s'') (λe' s''=>CX outer H s E e' s'') s'
theorem Zli{sc:Scope}{n:Nat}{x:aj}(h:sc.names.lookup x=Ya .cell):∃c,(Ob n sc.names []).lookup x=Ya c:=by have q:=VV sc.names n [] (.inl h);exact GR.mp q
theorem ZoL{CX:oW}{N:List aj}{qual:aj}{scope:Scope}{f:Y1}{cd:Yh}{s1:Yj}{E:XK}(S:dJ N ps scope)(hd:A.handled=Yn)(e0:qR P w K mg base A outer s H)(hl:vs.length=ps.length)(r:Vals vs us)(x:InCallC s s.heap.objs.size (uY (oN qual scope s.heap.objs.size f cd).kindOf (ps.zip us) λ_=>Yn) (Ob (s.heap.objs.size+1) scope.names []) (u0 (oN qual scope s.heap.objs.size f cd).kindOf (ps.zip us) λ_=>Yn) s1):
  Inv (tD CX P w K mg base N qual scope f cd A outer s H E) [] (start N vs) H s1:=by
 have hpl:ps.length<=N.length:=by have:=congrArg Yes S.pre;rw[yW]at this;omega
 obtain⟨h1,tk,rfl,hk⟩:=x.done;have Ec:∀b:Y1,b∉(tD CX P w K mg base N qual scope f cd A outer s H E).ex:=λb z=>absurd (show b∈([]:List Y1)from z) (by simp);refine⟨⟨e0.mod,S.kind,rfl,rfl,Ys _,λy z c h1 h2=>?_,λy hy=>?_,λy c _ h=>?_,λ_=>hd,Around.frames_deeper e0.frames,.inr ⟨rfl,rfl⟩,λb z=>absurd z (Ec b),e0.bs,e0.pU,λb _ _=>Ec b,λb z=>absurd z (Ec b),e0.mX,e0.vo⟩,
  rfl,e0.bare,Un.kept hk,⟨_,x.toInCall.ns,λi y v h1 h2 h3=>?_⟩,λy c h=>⟨_,x.cell y c h⟩,e0.hok.fresh (Ys _),λy c h=>?_,λp hp=>absurd (show p∈([]:List (Y1×aK))from hp) (by simp),e0.hok.kept hk,?_⟩
 .exact name_of_addr x.apart (rZ h1) (rZ h2)
 .have hy:scope.names.lookup y=Ya .cell\/scope.names.lookup y=Ya .free:=hy;rcases hy with hy|hy
  .exact Zli hy
  .exact absurd rfl (S.Aa5 _ (rZ hy))
 .exact Ol (x.above y c (rZ h))
 .have hi:i<vs.length:=by
   unfold start at h2;by_cases hi:i<vs.length
   .exact hi
   .rw[wJ (by simpa using hi)]at h2;rw[G7]at h2;split at h2<;>cases h2
  have ha:vs[i]?=Ya v:=by
   unfold start at h2;rw[Yi (by simpa using hi),jO]at h2;cases e:vs[i]? with
   |none=>rw[e]at h2;cases h2|some a=>rw[e]at h2;cases h2;rfl
  obtain⟨u,hu,rv⟩:=r.get ha;have hp:ps[i]?=Ya y:=by rw[←S.pre,wK (by exact lC 2 2203874037777 T1 hi hl)];exact h1
  have ndP:ps.Nodup:=by rw[←S.pre];exact S.nd.sublist (Wk _ _)
  refine⟨u,rv,?_⟩;rcases S.par y (wL hp)with k|k
  .exact .inl ⟨k,Zjy ndP hp hu k⟩
  .obtain⟨c,e⟩:=Zli (n:=s.heap.objs.size+1) k;refine .inr ⟨.inl k,c,e,?_⟩;have q:=x.cell y c e;rw[Zj2 ndP hp hu (by show scope.names.lookup y≠_;rw[k];decide)]at q;exact q
 .exact e0.hok.fresh (Ol (x.above y c (rZ h)))
 .unfold start;show _=N.length;rw[Ye,Yv,l_];exact iR (lC 1 2206541614113 T1 (m5 (lC 2 1236986302465 T1 hpl hl))) (lC 1 1288492400641 T1 (nj _ _))
theorem Zvt{CX:oW}{k:Nat}{f:Y1}{name qual:aj}{params:Arguments}{body:List Yep}{scope:Scope}{dV kV doc pm cdv ct oc:Yh}{an od:Option Y1}{osl:Array (Option Yh)}{N:List aj}{sp:Sp}(lk:K.lookup f=Ya ⟨oc,od,.func (qH name qual params body scope dV kV doc pm an cdv ct),osl⟩)(hcd:Cz K cdv qual=true)(S:dJ N ps scope)(len:∀vs H Q E,sp vs H Q E->vs.length=ps.length)(hbody:∀(A:bJ) (outer:List eV) (s:Yj) (H:Hp) (vs:List V) (Q:VK) (E:XK),dz k (A.deeper (oN qual scope s.heap.objs.size f cdv))->sp vs H Q E ->
   ∃t,jE (tD CX P w K mg base N qual scope f cdv A outer s H E) body t/\t {nx:=λ_ H'=>Q .non H',rt:=Q} (start N vs) H):
  jm P w K mg base CX (k+1) f (qH name qual params body scope dV kV doc pm an cdv ct) ps sp:=by
 refine⟨len,λA outer s H args us vs Q E hr e0 hb r hsp=>?_⟩;have hl:=len _ _ _ _ hsp;have KX:K.In s.heap:=e0.mod.DW.keeps λb o e=>(e0.bs b o e).1;have lim:s.heap.NoLimit:=e0.mod.nolimit.keeps λb o e=>(e0.bs b o e).1;have hkind:∀y∈ps.zip us,scope.names.lookup y.1=Ya .local\/(scope.names.lookup y.1=Ya .cell/\((Ob (s.heap.objs.size+1) scope.names []).lookup y.1).isSome=true):=λ⟨n,v⟩ hy=>by
  rcases S.par n (Nj hy).1 with q|q
  .exact .inl q
  .exact .inr ⟨q,VV _ _ _ (.inl q)⟩
 refine codeAny_call_function hr.depth (KX _ _ lk) rfl S.co S.gen rfl (PySem.W.codeRec_of KX hcd) (hb _ _ _ _ ?_);refine wpAny_newFunctionEnv_cells S.kind hkind λenv he s1 x=>?_;subst he;refine⟨lim.keeps x.toInCall.keep,codeAny_func ?_⟩;obtain⟨t,ht,hq⟩:=hbody A outer s H vs Q E (hr.deeper _) hsp;have I:Inv (tD CX P w K mg base N qual scope f cdv A outer s H E) [] (start N vs) H s1:=ZoL S hr.hd e0 hl r x;refine ju (ht [] s1 (start N vs) H _ I hq) (λfl s' hs=>?_) λe s' hs=>hs;have fin:∀{σ':St} {H':Hp} {v:V} {u:Yh},Inv (tD CX P w K mg base N qual scope f cdv A outer s H E) [] σ' H' s'->RelV v u->Q v H'->CE outer P w H s Q u s':=λ{σ' H' v u} J rv q=>⟨v,H',J.os,J.bare,J.base,J.hok,rv,q⟩;cases fl with
 |ret u=>obtain⟨v,σ',H',J,rv,q⟩:=hs;exact fin J rv q|next=>obtain⟨σ',H',J,q⟩:=hs;exact fin (v:=V.non) (u:=Value.none) J rfl q|brk=>obtain⟨_,_,_,q⟩:=hs;exact jk q|cont=>obtain⟨_,_,_,q⟩:=hs;exact jk q
end L2
namespace L2
open PySem PySem.Spec PyProof.Rows
section
variable {X:Cx} {x:aj} {p pos:aU} {e:Expr} {es:List Expr} {t:TA} {id T:String} {r:List V->Hp->VK->Prop}
def Qs(r:List V->Hp->VK->Prop)(t:TA):TE:=λσ H Q=>t σ H λvs H1=>r vs H1 Q
theorem Jm(hc:cQ X (.builtin id) r)(hg:Gl X x)(hm:X.mg x=Yn)(hv:jD x=Ya (.builtin id))(ha:PA X (e::es) t)(hn:x≠ "__name__":=by decide)(hdb:(x==("__debug__":aj))=false:=by decide)(he:Yw (e::es) X.env=(false,aF e X.env)::Yw es X.env:=by rfl)(hpl:(bZ pos (Yw es X.env)).any (·.1)=false:=by rfl):PE X (.Call (.Name x p) (e::es) [] pos) (Qs r t):=by intro pins s σ H Q I h;refine za (xF I hg hm hv ?_ hn hdb);exact PyProof.Rows.callWith_builtin1 (aD (ha pos pins s σ H _ I h) λus s1 ⟨vs,H1,I1,r1,q1⟩=>hc pins s1 σ H1 vs us Q I1 r1 q1) he hpl
theorem ZjU(hc:cQ X (.type T) r)(hg:Gl X x)(hm:X.mg x=Yn)(hv:jD x=Ya (.type T))(ha:PA X (e::es) t)(hn:x≠ "__name__":=by decide)(hdb:(x==("__debug__":aj))=false:=by decide)(he:Yw (e::es) X.env=(false,aF e X.env)::Yw es X.env:=by rfl)(hpl:(bZ pos (Yw es X.env)).any (·.1)=false:=by rfl):PE X (.Call (.Name x p) (e::es) [] pos) (Qs r t):=by intro pins s σ H Q I h;refine za (xF I hg hm hv ?_ hn hdb);exact Oz (aD (ha pos pins s σ H _ I h) λus s1 ⟨vs,H1,I1,r1,q1⟩=>hc pins s1 σ H1 vs us Q I1 r1 q1) he hpl
end
end L2
namespace HT
open PySem PyProof.Rows
section
variable {prog:bD} {w:bw} {A:bJ} {E:Yh->Yj->Prop} {s:Yj}
theorem AaW{t b:Y1}{vs ws:List Yh}{Q:Yh->Yj->Prop}(ht:IsTup s.heap t vs.toArray)(hb:IsTup s.heap b ws.toArray)(hv:vs≠[])(h1:ws=[]->Q (.ref t) s)(h2:ws≠[]->Q (.ref s.heap.objs.size) {s with heap:=s.heap.push {cls:=.type "tuple",data:=.seq (vs++ws).toArray}})(hsz:vs.length+ws.length<=bj):ao (au prog w) A (iM .Add (.ref t) (.ref b)) Q E s:=by
 obtain⟨⟨cls,dd,data,sl⟩,ho,hc,n,hd⟩:=id ht;obtain⟨⟨cls2,dd2,data2,sl2⟩,ho2,hc2,n2,hd2⟩:=id hb;simp only at hc hd hc2 hd2;subst hc hd hc2 hd2;have e:vs.toArray++ws.toArray=(vs++ws).toArray:=by simp
 by_cases hw:ws=[]
 .exact NT ⟨_,ho,rfl⟩ ⟨_,ho2,rfl⟩ Nu NP O6 O4 (O2 _ _)
   (tuple_addW1 t b vs.toArray ws.toArray n n2 dd dd2 sl sl2 (by simpa using hv) (by simp[hw])) ⟨ho,ho2,h1 hw⟩
 .refine NT ⟨_,ho,rfl⟩ ⟨_,ho2,rfl⟩ Nu NP O6 O4 (O2 _ _)
   (tuple_addW2 t b vs.toArray ws.toArray n n2 dd dd2 sl sl2 (by simpa using hv) (by simpa using hw) (by rw[Yo,Yo];exact hsz)) ⟨ho,ho2,?_⟩
  rw[e];exact h2 hw
noncomputable def aB(n d:Nat):Option Int->Nat
 |none=>d|some v=>if v<0 then(v+(n:Int)).toNat else jl v.toNat n
theorem Qt(n d:Nat):aB n d Yn=d:=rfl
theorem Ed(n d k:Nat):aB n d (Ya (k:Int))=jl k n:=by show(if(k:Int)<0 then((k:Int)+(n:Int)).toNat else jl (k:Int).toNat n)=jl k n;rw[if_neg (Ox.2 (Dp _)),qN]
theorem Jo(n d:Nat)(hd:d<=n)(o:Option Int):aB n d o<=n:=by
 cases o with
 |none=>exact hd|some v=>
  show(if v<0 then(v+(n:Int)).toNat else jl v.toNat n)<=n;by_cases hv:v<0
  .rw[if_pos hv];omega
  .rw[if_neg hv];exact Og _ _
theorem Znr(v:Int)(n d:Nat):(if v<0 then max (v+(n:Int)) 0 else jl v (n:Int))=((aB n d (Ya v):Nat):Int):=by
 show(if v<0 then max (v+(n:Int)) 0 else jl v (n:Int))=(((if v<0 then(v+(n:Int)).toNat else jl v.toNat n):Nat):Int);by_cases hv:v<0
 .simp only[if_pos hv];exact ZX _
 .simp only[if_neg hv];exact ZZ _ _ hv
theorem Zmx(lo hi:Option Int)(n:Nat):Pg lo hi 1 (n:Int)=(((aB n 0 lo:Nat):Int),((aB n n hi:Nat):Int)):=by
 have h1:¬((1:Int)<0):=by decide
 unfold Pg;simp only[h1,if_false];refine Prod.ext ?_ ?_
 .cases lo with
  |none=>rfl|some v=>exact Znr v n 0
 .cases hi with
  |none=>rfl|some v=>exact Znr v n n
theorem ZmS(i j:Nat):Io (i:Int) (j:Int) 1=j-i:=by
 unfold Io;have h1:(1:Int)>0:=by decide
 simp only[h1,if_true,Int.ediv_one];split <;>omega
theorem Zi2{v:Yh}{o:Option Int}{Q:Option Int->Yj->Prop}(p:IsPart v o)(h:Q o s):ao (au prog w) A (Builtin.Slice.slicePartIndex v) Q E s:=by
 cases p with
 |none=>exact slicePart_none h|int i t=>exact slicePart_int h
theorem UW{sl:Y1}{vl vu:Yh}{lo hi:Option Int}{n:Nat}{Q:Int×Int×Nat->Yj->Prop}(hs:s.heap.IsSliceOf sl vl vu .none)(pl:IsPart vl lo)(pu:IsPart vu hi)(h:Q (((aB n 0 lo:Nat):Int),1,aB n n hi-aB n 0 lo) s):ao (au prog w) A (X4 (.ref sl) (pure (n:Int))) Q E s:=by obtain⟨os,hos,hcs,hds⟩:=id hs;unfold X4 Builtin.Slice.sliceFields;refine Yg (Yg (sy hos hds (x:=vl) rfl (Yg (sy hos hds (x:=vu) rfl (Yg (sy hos hds (x:=.none) rfl (Yt ?_)))))));refine Yg (slicePart_none ?_);show ao _ _ (if((1:Int)==0)=true then _ else _) _ _ s;rw[if_neg (by decide)];refine Yg (Zi2 pl (Yg (Zi2 pu (Yg (Yt ?_)))));show ao _ _ (match Pg lo hi 1 (n:Int)with|(lo,hi)=>pure (lo,(1:Int),Io lo hi 1)) _ _ s;rw[Zmx lo hi n];show ao _ _ (pure (((aB n 0 lo:Nat):Int),(1:Int),Io ((aB n 0 lo:Nat):Int) ((aB n n hi:Nat):Int) 1)) _ _ s;rw[ZmS];exact Yt h
theorem Zqp(xs:Array Yh)(i k:Nat):((gU k).filterMap λ(m:Nat)=>xs[((i:Int)+(m:Int)*1).toNat]?).toArray=((xs.toList.drop i).take k).toArray:=by
 have e:(λ(m:Nat)=>xs[((i:Int)+(m:Int)*1).toNat]?)=λm=>xs[i+m]?:=by
  funext m;have:((i:Int)+(m:Int)*1).toNat=i+m:=by omega
  rw[this]
 rw[e];have:=pick_run xs i k;rw[List.filterMap_map]at this;have e2:((λx=>xs[x]?) ∘ λx=>i+x)=λm=>xs[i+m]?:=rfl;rw[e2]at this;rw[this]
theorem Aaa{t sl:Y1}{items:Array Yh}{vl vu:Yh}{lo hi:Option Int}{Q:Yh->Yj->Prop}(ht:IsTup s.heap t items)(hs:s.heap.IsSliceOf sl vl vu .none)(pl:IsPart vl lo)(pu:IsPart vu hi)(hw:¬(aB items.size 0 lo=0/\aB items.size items.size hi=items.size))(h:Q (.ref s.heap.objs.size) {s with heap:=s.heap.push {cls:=.type "tuple",data:=.seq ((items.toList.drop (aB items.size 0 lo)).take (aB items.size items.size hi-aB items.size 0 lo)).toArray}})(hsz:items.size<=bj):ao (au prog w) A (pM (.ref t) (.ref sl)) Q E s:=by
 have GF:sizeOk (.seq ((items.toList.drop (aB items.size 0 lo)).take (aB items.size items.size hi-aB items.size 0 lo)).toArray):=by show((items.toList.drop (aB items.size 0 lo)).take (aB items.size items.size hi-aB items.size 0 lo)).toArray.size<=bj;rw[Yo,yW,Wn,Iu];exact lD 3 85606880155602945 T1 hsz (Dn _ _) (Og _ _)
 have hj:aB items.size items.size hi<=items.size:=Jo _ _ (Ys _) hi;obtain⟨os,hos,hcs,hds⟩:=id hs;have hTs:s.TypeIs (.ref sl) "slice":=⟨os,hos,hcs⟩;unfold pM
 try with_reducible refine gW ?_
 first|refine Yg (Yt ?_)|skip
 refine Yg (Nt ht.typeIs (by decide) ?_);refine Yg (wO (name:=pP "__getitem__") ht.typeIs Ii
  (uO Ii ht.typeIs Xl ?_ (Xn _ _)))
 show ao _ _ (X6 (.ref t)>>=_) _ _ s;refine Yg (tupleItemsOf_ ht ?_);refine Yg (NZ hTs ?_);rw[if_pos (by decide)];refine Yg (UW hs pl pu ?_);have hno:¬((((aB items.size 0 lo:Nat):Int)==0&&(1:Int)==1&&(aB items.size items.size hi-aB items.size 0 lo)==items.size)=true):=by intro q;rw[Y4,Y4]at q;have q1:((aB items.size 0 lo:Nat):Int)=0:=eq_of_beq q.1.1;have q2:aB items.size items.size hi-aB items.size 0 lo=items.size:=eq_of_beq q.2;exact hw ⟨by exact iR (iN [_] [] 1 3759016097 T1 q1) (fG _),by exact iR hj (lC 2 2268279672881 T1 q2 (Dn _ _))⟩
 show ao _ _ (if(((aB items.size 0 lo:Nat):Int)==0&&(1:Int)==1&&(aB items.size items.size hi-aB items.size 0 lo)==items.size)=true then _ else _) _ _ s;rw[if_neg hno,Zqp]
 first
  |exact Yg (m:=Ir _) (su (Yt ⟨_,rfl,Yt h⟩) GF)
  |exact Yg (m:=Ir _) (su (Yg (Yt (Yt ⟨_,rfl,Yt h⟩))) GF)
  |exact Yg (Yg (m:=Ir _) (su (Yt (Yt ⟨_,rfl,Yt h⟩)) GF))
  |exact Yg (Yg (m:=Ir _) (su (Yt ⟨_,rfl,Yt h⟩) GF))
end
end HT
namespace L2
open PySem PySem.Spec PyProof.Rows
noncomputable abbrev TO:=St->Hp->(Option Int->Hp->Prop)->Prop
def PO(X:Cx)(e:Option Expr)(t:TO):Prop:=
 ∀(pins:List (Y1×aK)) (s:Yj) (σ:St) (H:Hp) (Q:Option Int->Hp->Prop),Inv X pins σ H s->t σ H Q ->
  ao (au X.prog X.w) X.A (evalPart e X.env) (λu s'=>∃o H',Inv X pins σ H' s'/\IsPart u o/\Q o H') X.xe s
def ZsA:TO:=λ_ H Q=>Q Yn H
def ZvG(t:TE):TO:=λσ H Q=>t σ H λx H1=>∃i,x= .int i/\Q (Ya i) H1
section
variable {X:Cx} {e:Expr} {te:TE} {lo hi:Option Expr} {tl th:TO} {pos p2:aU}
theorem Zr1:PO X Yn ZsA:=by intro pins s σ H Q I h;rw[evalPart_none];exact Yt ⟨Yn,H,I,.none,h⟩
theorem Zsi(h:PE X e te):PO X (Ya e) (ZvG te):=by intro pins s σ H Q I hw;rw[evalPart_some];refine aD (h pins s σ H _ I hw) λu s1 ak=>?_;obtain⟨x,H1,I1,r1,q1⟩:=ak;obtain⟨i,rfl,q⟩:=q1;obtain⟨t,rfl⟩:=r1;exact⟨Ya i,H1,I1,.int i t,q⟩
def jx(X:Cx)(r:V->Option Int->Option Int->Hp->VK->Prop):Prop:=
 ∀(pins:List (Y1×aK)) (s:Yj) (σ:St) (H:Hp) (x:V) (v vl vu:Yh) (lo hi:Option Int) (sl:Y1) (Q:VK),Inv X pins σ H s->RelV x v->s.heap.IsSliceOf sl vl vu .none->IsPart vl lo->IsPart vu hi->r x lo hi H Q ->
  ∃T id,typeLookup (.type T) "__getitem__" =pure (Ya (.builtin id))/\s.TypeIs v T/\ao (au X.prog X.w) X.A (pM v (.ref sl)) (EP X pins σ Q) X.xe s
theorem jx.or{r r':V->Option Int->Option Int->Hp->VK->Prop}(h:jx X r)(h':jx X r'):jx X (λx lo hi H Q=>r x lo hi H Q\/r' x lo hi H Q):=by
 intro pins s σ H x v vl vu lo hi sl Q I rx hs pl pu q;rcases q with q|q
 .exact h pins s σ H x v vl vu lo hi sl Q I rx hs pl pu q
 .exact h' pins s σ H x v vl vu lo hi sl Q I rx hs pl pu q
def tSl(r:V->Option Int->Option Int->Hp->VK->Prop)(te:TE)(tl th:TO):TE:=λσ H Q=>te σ H λx H1=>tl σ H1 λl H2=>th σ H2 λu H3=>r x l u H3 Q
theorem Zqa{r:V->Option Int->Option Int->Hp->VK->Prop}(hr:jx X r)(he:PE X e te)(hl:PO X lo tl)(hu:PO X hi th):PE X (.Subscript e (.Slice lo hi Yn p2) pos) (tSl r te tl th):=by intro pins s σ H Q I h;refine OJ (aD (he pins s σ H _ I h) λv s1 ak=>?_);obtain⟨x,H1,I1,r1,q1⟩:=ak;refine wpAny_Slice (aD (hl pins s1 σ H1 _ I1 q1) λvl s2 ⟨l,H2,I2,pl,q2⟩=>aD (hu pins s2 σ H2 _ I2 q2) λvu s3 ak=>?_);obtain⟨u,H3,I3,pu,q3⟩:=ak;rw[evalPart_none];refine Yt ?_;have I4:Inv X pins σ H3 {s3 with heap:=s3.heap.push {cls:=.type "slice",data:=.fields #[vl,vu,.none]}}:=I3.kept (t':=s3.toks) λb ob q=>Yl _ q;obtain⟨T,id,hT,ht,hg⟩:=hr pins {s3 with heap:=s3.heap.push {cls:=.type "slice",data:=.fields #[vl,vu,.none]}} σ H3 x v vl vu l u s3.heap.objs.size Q I4 r1 (Heap.IsSliceOf.new ..) pl pu q3;show ao (au X.prog X.w) X.A (OD e (.Slice lo hi Yn p2) v (.ref s3.heap.objs.size)) (EP X pins σ Q) X.xe {s3 with heap:=s3.heap.push {cls:=.type "slice",data:=.fields #[vl,vu,.none]}};exact tail_any (ops:=[.ref s3.heap.objs.size,v]) ht hT hg (by with_unfolding_all rfl)
noncomputable def vz(xs:List V)(lo hi:Option Int):List V:=(xs.drop (HT.aB xs.length 0 lo)).take (HT.aB xs.length xs.length hi-HT.aB xs.length 0 lo)
theorem Zhv(xs:List V)(lo hi:Option Int):(vz xs lo hi).length<=xs.length:=by unfold vz;rw[yW,Wn];exact Yk (Og _ _) (Dn _ _)
noncomputable def Zxu(K:Yb):V->Option Int->Option Int->Hp->VK->Prop:=λx lo hi H Q=>∃a xs,x= .ref a/\cF K H a xs/\
 ¬(HT.aB xs.length 0 lo=0/\HT.aB xs.length xs.length hi=xs.length)/\∀p,H p=Yn->Q (.ref p) (upd H p (.tup (vz xs lo hi)))
theorem ZtY:jx X (Zxu X.K):=by
 intro pins s σ H x v vl vu lo hi sl Q I rx hs pl pu h;obtain⟨a,xs,rfl,hx,hw,q⟩:=h;cases rx;obtain⟨its,r,ht,hz⟩:=I.tuple hx;have hlen:its.toArray.size=xs.length:=by rw[Yo];exact r.length.symm
 refine⟨"tuple",_,PyProof.Rows.slot_tuple_getitem.lookup,ht.typeIs,?_⟩;refine HT.Aaa ht hs pl pu (by rw[hlen];exact hw) ?_ (by rw[hlen];exact hz);rw[hlen];refine⟨.ref s.heap.objs.size,_,I.laid (t':=s.toks) (o:=.tup (vz xs lo hi)) (λb ob q=>Yl _ q) (Ys _) ?_,rfl,q _ (I.hok.fresh (Ys _))⟩;exact⟨Yk (Zhv xs lo hi) hz,_,(r.drop (HT.aB xs.length 0 lo)).take (HT.aB xs.length xs.length hi-HT.aB xs.length 0 lo),qP.new _ _⟩
def ZvH(K:Yb):R2:=λx y H Q=>∃a b xs ys,x= .ref a/\y= .ref b/\cF K H a xs/\cF K H b ys/\xs≠[]/\xs.length+ys.length<=bj/\
 (ys=[]->Q (.ref a) H)/\(ys≠[]->∀p,H p=Yn->Q (.ref p) (upd H p (.tup (xs++ys))))
theorem Vals.Ma{xs:List V}{us:List Yh}(r:Vals xs us):us=[]↔xs=[]:=by
 cases r with
 |nil=>simp|cons _ _=>simp
theorem ZrX:aP X (iM .Add) (ZvH X.K):=by intro pins s σ H x y v u Q I rx ry h;obtain⟨a,b,xs,ys,rfl,rfl,ha,hb,hx,hz,q1,q2⟩:=h;cases rx;cases ry;obtain⟨its,r1,p1,_⟩:=I.tuple ha;obtain⟨its2,r2,p2,_⟩:=I.tuple hb;refine HT.AaW p1 p2 (λz=>hx (r1.Ma.mp z)) (λz=>⟨.ref a,H,I,rfl,q1 (r2.Ma.mp z)⟩) (λz=>?_) (by rw[←r1.length,←r2.length];exact hz);refine⟨.ref s.heap.objs.size,_,I.laid (t':=s.toks) (o:=.tup (xs++ys)) (λb ob q=>Yl _ q) (Ys _) ?_,rfl,q2 (λw=>z (r2.Ma.mpr w)) _ (I.hok.fresh (Ys _))⟩;exact⟨by rw[Ye];exact hz,_,r1.append r2,qP.new _ _⟩
end
end L2
namespace L2
open PySem PySem.Spec PyProof.Rows
noncomputable def zQ(n:Nat)(i:Int):Option Nat:=if 0<=i then(if i<n then Ya i.toNat else Yn)else if -(n:Int)<=i then Ya (i+n).toNat else Yn
noncomputable def xJ{α:Type}(xs:List α)(i:Int):Option α:=(zQ xs.length i).bind λj=>xs[j]?
theorem Qu{n:Nat}{i:Int}{j:Nat}(h:zQ n i=Ya j):Oc i n=Ya j/\j<n/\ -(n:Int)<=i/\i<n:=by
 unfold zQ at h;by_cases h0:0<=i
 .rw[if_pos h0]at h;by_cases h1:i<n
  .rw[if_pos h1]at h;have e:i.toNat=j:=Y6 h;exact⟨by rw[N6 h0 h1,e],by exact iN [_,_,_] [_] 3 0x211008a1280911031 T1 e h1 (sS h0),by exact iN [_] [_] 1 144182913 T1 h0,h1⟩
  .rw[if_neg h1]at h;cases h
 .rw[if_neg h0]at h;by_cases h1:-(n:Int)<=i
  .rw[if_pos h1]at h;have e:(i+n).toNat=j:=Y6 h;exact⟨by rw[N5 (by exact zB.1 h0) h1,e],by exact iN [_,_,_] [_] 3 0x211280c08a10ec11031 T1 e h0 (sS (iN [_] [_] 1 8851524979073 T1 h1)),h1,by exact iN [_] [_] 1 134811329 T1 h0⟩
  .rw[if_neg h1]at h;cases h
theorem Qv{α:Type}{xs:List α}{i:Int}{v:α}(h:xJ xs i=Ya v):∃j,Oc i xs.length=Ya j/\xs[j]?=Ya v/\j<xs.length/\ -(xs.length:Int)<=i/\i<xs.length:=by
 unfold xJ at h;cases e:zQ xs.length i with
 |none=>rw[e]at h;cases h|some j=>rw[e]at h;obtain⟨h1,h2,h3,h4⟩:=Qu e;exact⟨j,h1,h,h2,h3,h4⟩
def ZnU(b:Expr):Prop:=∀o i,Ht b false o i=operate [o,i] (pM o i)
def kY(X:Cx)(r:R2):Prop:=
 ∀(value slice:Expr) (pins:List (Y1×aK)) (s:Yj) (σ:St) (H:Hp) (x y:V) (v u:Yh) (Q:VK),Inv X pins σ H s->RelV x v->RelV y u->r x y H Q ->
  Ht slice false v u=operate [v,u] (pM v u)->ao (au X.prog X.w) X.A (OD value slice v u) (EP X pins σ Q) X.xe s
def jF(X:Cx)(id:String)(r:V->List V->Hp->VK->Prop):Prop:=
 ∀(pins:List (Y1×aK)) (s:Yj) (σ:St) (H:Hp) (x:V) (xs:List V) (v:Yh) (us:List Yh) (Q:VK),Inv X pins σ H s->RelV x v->Vals xs us->r x xs H Q ->
  ao (au X.prog X.w) X.A (call (.builtin id) (v::us)) (EP X pins σ Q) X.xe s
section
variable {X:Cx} {a b:Expr} {ta tb:TE} {pos:aU}
theorem kY.or{r r':R2}(h:kY X r)(h':kY X r'):kY X (λx y H Q=>r x y H Q\/r' x y H Q):=by
 intro value slice pins s σ H x y v u Q I rx ry q hs;rcases q with q|q
 .exact h value slice pins s σ H x y v u Q I rx ry q hs
 .exact h' value slice pins s σ H x y v u Q I rx ry q hs
theorem ZvT{r:R2}(hr:kY X r)(ha:PE X a ta)(hb:PE X b tb)(hs:ZnU b):PE X (.Subscript a b pos) (zN r ta tb):=by intro pins s σ H Q I h;exact OJ (Qj ha hb I h λv u s2 x y H2 I2 rx ry q=>hr a b pins s2 σ H2 x y v u Q I2 rx ry q (hs _ _))
def Zwh(K:Yb):R2:=λx y H Q=>∃p xs i v,x= .ref p/\y= .int i/\bB K H p xs/\xJ xs i=Ya v/\Q v H
def Zvu(K:Yb):R2:=λx y H Q=>∃p xs i v,x= .ref p/\y= .int i/\cF K H p xs/\xJ xs i=Ya v/\Q v H
def Zvw:R2:=λx y H Q=>∃z i c,x= .str z/\y= .int i/\z.length<=bj/\xJ z.cps.toList i=Ya c/\Q (.str ⟨#[c]⟩) H
theorem Zr4:kY X (Zwh X.K):=by
 intro value slice pins s σ H x y v u Q I rx ry h hs;obtain⟨p,xs,i,z,rfl,rfl,hq,he,q⟩:=h;cases rx;obtain⟨t,rfl⟩:=ry;obtain⟨its,r,pl,hz⟩:=I.list hq;obtain⟨j,h1,h2,h3,h4,h5⟩:=Qv he;obtain⟨w,ew,mD⟩:=r.get h2;have hl:=r.length;have hn:=D_;have fin:EP X pins σ Q w s:=⟨z,H,I,mD,q⟩;by_cases h0:0<=i
 .have hj:i.toNat=j:=by
   rw[N6 h0 h5]at h1;exact Y6 h1
  exact item_listR pl.isList h0 (by omega) (by rw[hj];simpa using ew) fin hs
 .have hj:(i+(its.toArray.size:Int)).toNat=j:=by
   rw[N5 (by exact zB.1 h0) h4]at h1;rw[Yo,←hl];exact Y6 h1
  exact Xj (x:=w) pl.isList.typeIs slot_list_getitem.lookup
   (wpAny_getItem_list_neg (Q:=λr s'=>r=w/\EP X pins σ Q r s') pl.isList (by exact zB.1 h0) (by rw[Yo]<;>exact iN [_,_] [_] 2 6922527515414561 T1 hl h4) (by omega) (by rw[hj];simpa using ew) ⟨rfl,fin⟩) hs
theorem Zup:kY X (Zvu X.K):=by
 intro value slice pins s σ H x y v u Q I rx ry h hs;obtain⟨p,xs,i,z,rfl,rfl,hq,he,q⟩:=h;cases rx;obtain⟨t,rfl⟩:=ry;obtain⟨its,r,pl,hz⟩:=I.tuple hq;obtain⟨j,h1,h2,h3,h4,h5⟩:=Qv he;obtain⟨w,ew,mD⟩:=r.get h2;have hl:=r.length;have hn:=D_;have fin:EP X pins σ Q w s:=⟨z,H,I,mD,q⟩;exact Xj (x:=w) pl.typeIs slot_tuple_getitem.lookup
  (getItem_tuple (j:=j) (Q:=λr s'=>r=w/\EP X pins σ Q r s') pl (by omega) (by omega) (by rw[Yo,←hl];exact h1) (by simpa using ew) ⟨rfl,fin⟩) hs
theorem Zug:kY X Zvw:=by
 intro value slice pins s σ H x y v u Q I rx ry h hs;obtain⟨z,i,c,rfl,rfl,hz,he,q⟩:=h;obtain⟨t,rfl⟩:=rx;obtain⟨t',rfl⟩:=ry;obtain⟨j,h1,h2,h3,h4,h5⟩:=Qv he;have hl:z.cps.toList.length=z.length:=by simp[kJ]
 rw[hl]at h1 h4 h5;have hn:=D_;exact tail_any (wX s z t) slot_str_getitem.lookup (getItem_str (c:=c) (by have e1:decide (i< -(2^63:Int))=false:=decide_eq_false (by omega);have e2:decide (i>=2^63)=false:=decide_eq_false (by omega);rw[e1,e2,Ia]) (by rw[h1];simpa using h2) ⟨.str ⟨#[c]⟩,H,I.tok _,⟨_,rfl⟩,q⟩) hs
def rIx(K:Yb):R2:=λx y H Q=>Zwh K x y H Q\/Zvu K x y H Q\/Zvw x y H Q
theorem ZuO:kY X (rIx X.K):=Zr4.or (Zup.or Zug)
theorem Zmq(its:List Yh)(n j:Nat)(u:Yh):xj (·.setIfInBounds j u) {cls:=.type "list",data:=.seq its.toArray n}={cls:=.type "list",data:=.seq (its.set j u).toArray n}:=by simp[xj]
theorem Inv.lst{pins:List (Y1×aK)}{σ:St}{H:Hp}{s:Yj}{p:Y1}{xs:List V}(I:Inv X pins σ H s)(h:H p=Ya (.lst xs)):
  ∃(its:List Yh) (n:Nat),Vals xs its/\s.heap.get? p=Ya {cls:=.type "list",data:=.seq its.toArray n}/\xs.length<=bj:=by
 obtain⟨z,its,n,r,e⟩:=I.hok p _ h;exact⟨its,n,r,e,z⟩
theorem Inv.Aa6{pins:List (Y1×aK)}{σ:St}{H:Hp}{s:Yj}{p:Y1}{xs ys:List V}{its its':List Yh}{n n':Nat}{f:aK->aK}(I:Inv X pins σ H s)(h:H p=Ya (.lst xs))(ho:s.heap.get? p=Ya {cls:=.type "list",data:=.seq its.toArray n})(hf:f {cls:=.type "list",data:=.seq its.toArray n}={cls:=.type "list",data:=.seq its'.toArray n'})(r:Vals ys its')(hz:ys.length<=bj)(t:Nat):
  Inv X pins σ (upd H p (.lst ys)) {s with heap:=s.heap.update p f,toks:=t}:=by
 have e:(s.heap.update p f).get? p=Ya {cls:=.type "list",data:=.seq its'.toArray n'}:=by rw[HY f ho (by rw[hf]<;>rfl),hf]
 refine I.write (x:=p) (e:=p) (by rw[h];trivial) (.inl rfl) (λb u hb q=>(sO _ _ (cO hb)).trans q) ⟨_,e⟩ ?_;exact⟨hz,its',n',r,e⟩
noncomputable def Zvy:V->V->V->Hp->(Hp->Prop)->Prop:=λo i v H Q=>∃p xs k j,o= .ref p/\i= .int k/\H p=Ya (.lst xs)/\zQ xs.length k=Ya j/\Q (upd H p (.lst (xs.set j v)))
theorem set_list:Zwl X Zvy:=by
 intro pins s σ H o i v ov iv u Q I ro ri rv h;obtain⟨p,xs,k,j,rfl,rfl,hp,hj,q⟩:=h;cases ro;obtain⟨t,rfl⟩:=ri;obtain⟨its,n,r,ho,hz⟩:=I.lst hp;obtain⟨h1,h2,h3,h4⟩:=Qu hj;have hl:=r.length;have hn:=D_;have I':Inv X pins σ (upd H p (.lst (xs.set j v))) {s with heap:=s.heap.update p (xj (·.setIfInBounds j u))}:=I.Aa6 hp ho (Zmq its n j u) (r.set rv j) (by rw[rW];exact hz) s.toks;by_cases h0:0<=k
 .have hk:k.toNat=j:=by
   rw[N6 h0 h4]at h1;exact Y6 h1
  exact PySem.W.ki_setAt ho h0 (by omega) (by rw[Yo,←hl];exact h4) (by rw[hk];exact⟨_,I',q⟩)
 .have hk:(k+(its.toArray.size:Int)).toNat=j:=by
   rw[N5 (by exact zB.1 h0) h3]at h1;rw[Yo,←hl];exact Y6 h1
  exact PySem.W.ki_setBack ho (by exact zB.1 h0) (by rw[Yo,←hl];exact h3) (by omega) (by rw[hk];exact⟨_,I',q⟩)
theorem ZkG(lo hi:Option Int)(n:Nat):(wV lo hi Yn n).1=((HT.aB n 0 lo:Nat):Int)/\(wV lo hi Yn n).2.1=((HT.aB n n hi:Nat):Int)/\(wV lo hi Yn n).2.2=1:=by
 refine⟨?_,?_,rfl⟩
 .cases lo with
  |none=>simp[wV,HT.aB]|some i=>
   simp only[wV,HT.aB,VP,show(1:Int)>0 by decide,if_true];by_cases h:i<0
   .simp only[h,if_true]<;>exact PJ _ _ h
   .simp only[h,if_false]<;>exact PL _ _ h
 .cases hi with
  |none=>simp[wV,HT.aB]|some i=>
   simp only[wV,HT.aB,VP,show(1:Int)>0 by decide,if_true];by_cases h:i<0
   .simp only[h,if_true]<;>exact PJ _ _ h
   .simp only[h,if_false]<;>exact PL _ _ h
theorem Zja(its:List Yh)(lo hi:Option Int):slicePick its.toArray lo hi Yn=((its.drop (HT.aB its.length 0 lo)).take (HT.aB its.length its.length hi-HT.aB its.length 0 lo)).toArray:=by obtain⟨h1,h2,h3⟩:=ZkG lo hi its.toArray.size;unfold slicePick;rw[h1,h2,h3];simp only[sliceRange_one,pick_run,Yo]<;>rfl
noncomputable def Zxk(K:Yb):V->Option Int->Option Int->Hp->VK->Prop:=λx lo hi H Q=>∃a xs,x= .ref a/\bB K H a xs/\∀p,H p=Yn->Q (.ref p) (upd H p (.lst (vz xs lo hi)))
theorem Zrz:jx X (Zxk X.K):=by intro pins s σ H x v vl vu lo hi sl Q I rx hs pl pu h;obtain⟨a,xs,rfl,hx,q⟩:=h;cases rx;obtain⟨its,r,ht,hz⟩:=I.list hx;have hlen:=r.length;refine⟨"list",_,slot_list_getitem.lookup,ht.isList.typeIs,?_⟩;refine wpAny_getItem_list_slice ht.isList hs pl pu .none (by simp) ?_ (by rw[Yo]<;>exact lC 2 2268279672881 T1 hlen hz);rw[Zja,←hlen];refine⟨.ref s.heap.objs.size,_,I.laid (t':=s.toks) (o:=.lst (vz xs lo hi)) (λb ob q=>Yl _ q) (Ys _) ?_,rfl,q _ (I.hok.fresh (Ys _))⟩;exact⟨Yk (Zhv xs lo hi) hz,_,0,(r.drop (HT.aB xs.length 0 lo)).take (HT.aB xs.length xs.length hi-HT.aB xs.length 0 lo),Y2 _ rfl⟩
noncomputable def qT:V->Bool
 | .non=>true|.bl _=>true|.int _=>true|.str _=>true
 |_=>false
noncomputable def tE:V->V->Bool
 | .non,.non=>true|.bl a,.bl b=>a==b|.bl a,.int b=>(if a then 1 else 0)==b|.int a,.bl b=>a==(if b then 1 else 0)
 | .int a,.int b=>a==b|.str a,.str b=>a==b|_,_=>false
theorem Zt7{A:bJ}{s:Yj}{y x:V}{u v:Yh}(ry:RelV y u)(rx:RelV x v)(fy:qT y=true)(fx:qT x=true):sW A s u v (tE y x):=by
 cases y with
 |non=>
  cases ry
  cases x with
  |non=>cases rx;exact Pn _|bl b=>cases rx;exact YB b|int b=>obtain⟨t,rfl⟩:=rx;exact YF b t|str b=>obtain⟨t,rfl⟩:=rx;exact YG b t
  |_=>exact absurd (show false=true from fx) kI
 |bl a=>
  cases ry
  cases x with
  |non=>cases rx;exact YC a|bl b=>cases rx;exact YD a b|int b=>obtain⟨t,rfl⟩:=rx;exact YH a b t|str b=>obtain⟨t,rfl⟩:=rx;exact YJ a b t
  |_=>exact absurd (show false=true from fx) kI
 |int a=>
  obtain⟨t',rfl⟩:=ry;cases x with
  |non=>cases rx;exact YK a t'|bl b=>cases rx;exact YL a t' b|int b=>obtain⟨t,rfl⟩:=rx;exact YS a t' b t|str b=>obtain⟨t,rfl⟩:=rx;exact Pk a t' b t
  |_=>exact absurd (show false=true from fx) kI
 |str a=>
  obtain⟨t',rfl⟩:=ry;cases x with
  |non=>cases rx;exact YM a t'|bl b=>cases rx;exact YQ a t' b|int b=>obtain⟨t,rfl⟩:=rx;exact Iv a t' b t|str b=>obtain⟨t,rfl⟩:=rx;exact YT a t' b t
  |_=>exact absurd (show false=true from fx) kI
 |_=>exact absurd (show false=true from fy) kI
noncomputable def tG(x:V)(u:Yh):Bool:=match u with
 | .none=>tE .non x|.bool b=>tE (.bl b) x|.int i _=>tE (.int i) x|.str z _=>tE (.str z) x
 |_=>false
theorem ZpM{x y:V}{u:Yh}(r:RelV y u)(f:qT y=true):tG x u=tE y x:=by
 cases y with
 |non=>cases r;rfl|bl b=>cases r;rfl|int i=>obtain⟨t,rfl⟩:=r;rfl|str z=>obtain⟨t,rfl⟩:=r;rfl
 |_=>exact absurd (show false=true from f) kI
theorem Qw{x:V}:∀{xs:List V} {us:List Yh},Vals xs us->xs.all qT=true->us.any (tG x)=xs.any λy=>tE y x
 |_,_,.nil,_=>rfl|y::xs,u::us,.cons r t,f=>by rw[jC,Y4]at f;rw[kh,kh,ZpM r f.1,Qw t f.2]
theorem Qx{A:bJ}{s:Yj}{x:V}{v:Yh}(rx:RelV x v)(fx:qT x=true):∀{xs:List V} {us:List Yh},Vals xs us->xs.all qT=true->∀u∈us,sW A s u v (tG x u)
 |_,_,.nil,_=>λu hu=>by cases hu|y::xs,u::us,.cons r t,f=>λu' hu=>by
  rw[jC,Y4]at f;rcases Ym.mp hu with rfl|hu
  .rw[ZpM r f.1];exact Zt7 r rx f.1 fx
  .exact Qx rx fx t f.2 u' hu
noncomputable def inV(x:V)(xs:List V):Bool:=xs.any λy=>tE y x
def rIn(K:Yb)(neg:Bool):R2:=λx y H Q=>∃p xs,y= .ref p/\(bB K H p xs\/cF K H p xs)/\qT x=true/\xs.all qT=true/\Q (.bl (if neg then !inV x xs else inV x xs)) H
theorem ZoY:aP X (eU .In) (rIn X.K false):=by
 intro pins s σ H x y v u Q I rx ry h;obtain⟨p,xs,rfl,hq,fx,fs,q⟩:=h;cases ry;rcases hq with hq|hq
 .obtain⟨its,r,pl,hz⟩:=I.list hq;refine X_ (tG x) pl.isList (λw hw=>Qx rx fx r fs w (by simpa using hw)) ⟨.bl _,H,I,rfl,?_⟩;rw[show its.toArray.any (tG x)=its.any (tG x)by simp,Qw r fs];exact q
 .obtain⟨its,r,pl,hz⟩:=I.tuple hq;refine SeqAt.in_tupleAt (tG x) pl (λw hw=>Qx rx fx r fs w (by simpa using hw)) ⟨.bl _,H,I,rfl,?_⟩;rw[show its.toArray.any (tG x)=its.any (tG x)by simp,Qw r fs];exact q
theorem cQ.or{f:Yh}{r r':List V->Hp->VK->Prop}(h:cQ X f r)(h':cQ X f r'):cQ X f (λxs H Q=>r xs H Q\/r' xs H Q):=by
 intro pins s σ H xs us Q I rs q;rcases q with q|q
 .exact h pins s σ H xs us Q I rs q
 .exact h' pins s σ H xs us Q I rs q
theorem ZkZ:cQ X (.type "list") (λxs H Q=>∃p ys,xs=[.ref p]/\(bB X.K H p ys\/cF X.K H p ys)/\∀l,H l=Yn->Q (.ref l) (upd H l (.lst ys))):=by
 intro pins s σ H xs us Q I r h;obtain⟨p,ys,rfl,hq,q⟩:=h;obtain⟨u,rfl,rx⟩:=vals1 r;cases rx;have fin:∀(its:List Yh),Vals ys its->ys.length<=bj->∀(h':aN) (c':Nat),(∀b o',s.heap.get? b=Ya o'->h'.get? b=Ya o') ->
   h'.get? s.heap.objs.size=Ya {cls:=.type "list",dict:=Yn,data:=.seq its.toArray c',slots:=#[]}->EP X pins σ Q (.ref s.heap.objs.size) {s with heap:=h'}:=λits r' hz h' c' kp e=>
  ⟨.ref s.heap.objs.size,_,I.laid (t':=s.toks) kp (Ys _) (show gn X.prog X.w _ h' _ (.lst ys)from⟨hz,its,c',r',e⟩),rfl,q _ (I.hok.fresh (Ys _))⟩
 rcases hq with hq|hq
 .obtain⟨its,r',pl,hz⟩:=I.list hq;have hlen:=r'.length;obtain⟨o,ho,hc,n,hd⟩:=pl.isList;exact call_list_seq p (.inl rfl) ho hc hd (λh' c' kp e=>fin its r' hz h' c' kp e) (by simp only[Yo]<;>exact lC 2 2268279672881 T1 hlen hz)
 .obtain⟨its,r',pl,hz⟩:=I.tuple hq;have hlen:=r'.length;obtain⟨o,ho,hc,n,hd⟩:=pl;exact call_list_seq p (.inr rfl) ho hc hd (λh' c' kp e=>fin its r' hz h' c' kp e) (by simp only[Yo]<;>exact lC 2 2268279672881 T1 hlen hz)
theorem Zjk:cQ X (.type "tuple") (λxs H Q=>∃p ys,xs=[.ref p]/\((bB X.K H p ys/\∀l,H l=Yn->Q (.ref l) (upd H l (.tup ys)))\/(cF X.K H p ys/\Q (.ref p) H))):=by
 intro pins s σ H xs us Q I r h;obtain⟨p,ys,rfl,h⟩:=h;obtain⟨u,rfl,rx⟩:=vals1 r;cases rx;rcases h with⟨hq,q⟩|⟨hq,q⟩
 .obtain⟨its,r',pl,hz⟩:=I.list hq;have hlen:=r'.length;refine call_tuple_list pl.isList (λh' kp=>?_) (by simp only[Yo]<;>exact lC 2 2268279672881 T1 hlen hz);have I1:Inv X pins σ H {s with heap:=h'}:=I.kept (t':=s.toks) kp;have I2:Inv X pins σ (upd H h'.objs.size (.tup ys)) {s with heap:=h'.push {cls:=.type "tuple",data:=.seq its.toArray}}:=
   I1.laid (t':=s.toks) (λb o e=>Yl _ e) (Ys _) (show gn X.prog X.w _ _ _ (.tup ys)from⟨hz,its,r',qP.new _ _⟩)
  exact⟨.ref h'.objs.size,_,I2,rfl,q _ (I1.hok.fresh (Ys _))⟩
 .obtain⟨its,r',pl,hz⟩:=I.tuple hq;exact call_tuple_same pl ⟨.ref p,H,I,rfl,q⟩
def xK(K:Yb)(T:String)(x:V)(H:Hp):Prop:=match x with
 | .str _=>T= "str"|.int _=>T= "int"|.ref p=>(T= "list" /\∃xs,bB K H p xs)\/(T= "tuple" /\∃o,K.lookup p=Ya o/\o.cls= .type "tuple" /\o.dict=Yn)\/
   (T= "dict" /\((∃kvs,H p=Ya (.dK kvs))\/∃kvs,H p=Ya (.dT kvs)))\/(T= "set" /\∃S n,H p=Ya (.set S n))
 |_=>False
theorem ZpO{pins:List (Y1×aK)}{σ:St}{H:Hp}{s:Yj}{T:String}{x:V}{v:Yh}(I:Inv X pins σ H s)(r:RelV x v)(ty:xK X.K T x H):
  s.TypeIs v T/\∀a,v= .ref a->∃ob,s.heap.get? a=Ya ob/\ob.dict=Yn:=by
 cases x with
 |str z=>obtain⟨t,rfl⟩:=r;cases(show T= "str" from ty);exact⟨wX s z t,λ_ e=>nomatch e⟩|int i=>obtain⟨t,rfl⟩:=r;cases(show T= "int" from ty);exact⟨N_ s i t,λ_ e=>nomatch e⟩|ref p=>
  cases r
  rcases ty with⟨rfl,xs,hq⟩|⟨rfl,o,hk,hc,hd⟩|⟨rfl,hk⟩|⟨rfl,S,n,hk⟩
  .obtain⟨its,_,pl,_⟩:=I.list hq;refine⟨pl.isList.typeIs,λa e=>?_⟩;cases e;obtain⟨o,n,e,c,hd,_⟩:=pl;exact⟨o,e,hd⟩
  .refine⟨⟨o,I.dU p o hk,hc⟩,λa e=>?_⟩;cases e;exact⟨o,I.dU _ o hk,hd⟩
  .have z:∃o,s.heap.get? p=Ya o/\o.ExactDict:=by
    rcases hk with⟨kvs,hk⟩|⟨kvs,hk⟩
    .obtain⟨_,_,_,_,o,_,_,e,ex,_⟩:=I.hok p _ hk;exact⟨o,e,ex⟩
    .obtain⟨_,_,_,_,o,_,_,e,ex,_⟩:=I.hok p _ hk;exact⟨o,e,ex⟩
   obtain⟨o,e,ex⟩:=z;refine⟨⟨o,e,ex.1⟩,λa e2=>?_⟩;cases e2;exact⟨o,e,ex.2.1⟩
  .obtain⟨o,_,_,_,e,ex,_⟩:=I.hok p _ hk;refine⟨⟨o,e,ex.1⟩,λa e2=>?_⟩;cases e2;exact⟨o,e,ex.2.1⟩
 |_=>exact jk ty
def Zwo(K:Yb)(T:String)(r:V->List V->Hp->VK->Prop)(to:TE):TE:=λσ H Q=>to σ H λx H1=>xK K T x H1/\r x [] H1 Q
def tBM(K:Yb)(T:String)(r:V->List V->Hp->VK->Prop)(to:TE)(t:TA):TE:=λσ H Q=>to σ H λx H1=>xK K T x H1/\t σ H1 λxs H2=>r x xs H2 Q
variable {o e:Expr} {es:List Expr} {to:TE} {t:TA} {name:aj} {apos cpos:aU} {T id:String} {r:V->List V->Hp->VK->Prop}
theorem ZtP(pa:PlainAttrs T)(slot:Slot T name id)(hty:typeOf (.builtin id)=pure (.type "method_descriptor"))(hm:jF X id r)(ho:PE X o to)(hbase:mj o name X.env (aF o X.env)=aF o X.env:=by rfl)(hline:(apos.endLine==cpos.line)=true:=by rfl):PE X (.Call (.Attribute o name apos) [] [] cpos) (Zwo X.K T r to):=by intro pins s σ H Q I h;refine wpAny_Call_method0_late hbase hline (aD (ho pins s σ H _ I h) λv s1 ak=>?_);obtain⟨x,H1,I1,r1,ty,q1⟩:=ak;obtain⟨h1,h2⟩:=ZpO I1 r1 ty;exact⟨T,id,pa,slot,hty,h1,h2,Pq rfl (PySem.evalArgs_none (hm pins s1 σ H1 x [] v [] Q I1 r1 .nil q1))⟩
theorem zR(pa:PlainAttrs T)(slot:Slot T name id)(hty:typeOf (.builtin id)=pure (.type "method_descriptor"))(hm:jF X id r)(ho:PE X o to)(ha:PA X (e::es) t)(hbase:mj o name X.env (aF o X.env)=aF o X.env:=by rfl)(hfew:((bZ cpos (Yw (e::es) X.env)).all (λx=>!x.1)&&(iQ cpos (iK [] X.env)).all (λx=>x.1.isSome)
   &&decide ((e::es).length+([]:List Keyword).length+(if([]:List Keyword).isEmpty then 0 else 1)<30))=true:=by rfl)(hline:(apos.endLine==cpos.line)=true:=by rfl)(hs:Yw (e::es) X.env=(false,aF e X.env)::Yw es X.env:=by rfl)(hplain:(bZ cpos (Yw es X.env)).any (·.1)=false:=by rfl):
  PE X (.Call (.Attribute o name apos) (e::es) [] cpos) (tBM X.K T r to t):=by
 intro pins s σ H Q I h;refine wpAny_Call_method_late hbase hfew hline rfl (aD (ho pins s σ H _ I h) λv s1 ak=>?_);obtain⟨x,H1,I1,r1,ty,q1⟩:=ak;obtain⟨h1,h2⟩:=ZpO I1 r1 ty;refine⟨T,id,pa,slot,hty,h1,h2,?_⟩;have hA:=ha cpos pins s1 σ H1 _ I1 q1;rw[hs]at hA ⊢;refine Pq (by show(false|| (bZ cpos (Yw es X.env)).any (·.1))=false;rw[hplain]<;>rfl) (YX ?_);exact aD hA λus s2 ⟨vs,H2,I2,r2,q2⟩=>hm pins s2 σ H2 x vs v us Q I2 r1 r2 q2
/-xs.append(e),list.index on a module's tuple .. are jF facts of 06m -/
end
end L2
namespace L2
open PySem PySem.Spec PyProof.Rows
def Jp(X:Cx)(id:String)(r:V->List V->Hp->VK->Prop):Prop:=
 ∀(pins:List (Y1×aK)) (s:Yj) (σ:St) (H:Hp) (x:V) (xs:List V) (v:Yh) (us:List Yh) (Q:VK),Inv X pins σ H s->RelV x v->Vals xs us->r x xs H Q ->
  ao (au X.prog X.w) X.A (call (.builtin id) (v::us)) (EP X pins σ Q) X.xe s
theorem Vals.one:∀{x:V} {us:List Yh},Vals [x] us->∃u,us=[u]/\RelV x u
 |_,_,.cons r .nil=>⟨_,rfl,r⟩
theorem Vals.two:∀{x y:V} {us:List Yh},Vals [x,y] us->∃u v,us=[u,v]/\RelV x u/\RelV y v
 |_,_,_,.cons r (.cons q .nil)=>⟨_,_,rfl,r,q⟩
theorem Vals.zero:∀{us:List Yh},Vals [] us->us=[]
 |_,.nil=>rfl
variable{xs:List V}{us:List Yh}
theorem Vals.dropLast(h:Vals xs us):Vals xs.dropLast us.dropLast:=by
 induction h with
 |nil=>exact .nil|cons r t ih=>
  cases t with
  |nil=>exact .nil|cons q t'=>exact .cons r ih
theorem Vals.eraseIdx:∀{xs:List V} {us:List Yh} (i:Nat),Vals xs us->Vals (xs.eraseIdx i) (us.eraseIdx i)
 |_,_,_,.nil=>.nil|_,_,0,.cons _ t=>t|_,_,i+1,.cons r t=>.cons r (Vals.eraseIdx i t)
theorem Vals.reverse(h:Vals xs us):Vals xs.reverse us.reverse:=by
 induction h with
 |nil=>exact .nil|cons r t ih=>rw[uJ,uJ];exact Vals.append ih (.cons r .nil)
theorem Vals.rep(h:Vals xs us):∀k:Nat,Vals (Yq k xs).flatten (Yq k us).flatten
 |0=>.nil|k+1=>by rw[rT,rT,oJ,oJ];exact Vals.append h (Vals.rep h k)
theorem Zmo{α:Type}(l:List α):l.eraseIdx (l.length-1)=l.dropLast:=by
 induction l with
 |nil=>rfl|cons a r ih=>
  cases r with
  |nil=>rfl|cons b r=>
   have e:(a::b::r).length-1=((b::r).length-1)+1:=by have h1:(a::b::r).length=r.length+2:=rfl;have h2:(b::r).length=r.length+1:=rfl;exact iR (lE 4 0xa4c30a4c0012a3c2121b1c221a1c031 T1 h2 h1 (m5 (lB 1 687760064561 T1 h1)) (nj _ _)) (lE 4 0x3a4c00a4c21a3c20121b1c231a1c021 T1 h2 h1 (nj _ _) (m5 (lB 1 2694955057 T1 h2)))
   rw[e,List.eraseIdx_cons_succ,ih]
   all_goals rfl
theorem Zjw{α:Type}:∀(l:List α) (i:Nat),(l.eraseIdx i).length<=l.length
 |[],_=>Ys _|_::_,0=>u_ _|_::r,i+1=>oM (Zjw r i)
theorem foldl_rep(its:List Yh):∀(k:Nat) (acc:List Yh),
  Hj (λx1 x2=>x1++x2) acc.toArray (Yq k its.toArray)=(acc++(Yq k its).flatten).toArray
 |0,acc=>by simp|k+1,acc=>by
  have e:acc.toArray++its.toArray=(acc++its).toArray:=by simp
  have e2:(acc++its)++(Yq k its).flatten=acc++(Yq (k+1) its).flatten:=by rw[rT,oJ,jg]
  rw[←e2,←foldl_rep its k (acc++its),←e,rT,qJ]
section
variable {X:Cx} {pins:List (Y1×aK)} {σ:St} {H:Hp} {s:Yj} {l b:Y1} {xs ys zs:List V}
theorem Inv.Cw{its its':List Yh}{n:Nat}{f:Array Yh->Array Yh}{t':Nat}(I:Inv X pins σ H s)(hH:H l=Ya (.lst xs))(e:s.heap.get? l=Ya {cls:=.type "list",data:=.seq its.toArray n})(hf:f its.toArray=its'.toArray)(hv:Vals ys its')(hz:ys.length<=bj):
  Inv X pins σ (upd H l (.lst ys)) {s with heap:=s.heap.update l (xj f),toks:=t'}:=by
 have q:=PySem.IsL.update e f;rw[hf]at q;refine I.write (x:=l) (e:=l) (by rw[hH];exact trivial) (.inl rfl) (λb' u hb hu=>(sO s.heap (xj f) (cO hb)).trans hu) ⟨_,q⟩ ?_;exact⟨hz,its',_,hv,q⟩
theorem Inv.Vj{its:List Yh}{t':Nat}(I:Inv X pins σ H s)(hv:Vals ys its)(hz:ys.length<=bj):
  Inv X pins σ (upd H s.heap.objs.size (.lst ys)) {s with heap:=s.heap.push {cls:=.type "list",data:=.seq its.toArray},toks:=t'}:=
 I.laid (λ_ _ q=>Yl _ q) (Ys _) ⟨hz,its,0,hv,Y2 _ rfl⟩
theorem Inv.fresh(I:Inv X pins σ H s):H s.heap.objs.size=Yn:=I.hok.fresh (Ys _)
theorem Inv.rN(I:Inv X pins σ H s)(hH:H l=Ya (.lst xs)):xs.length<=bj/\∃(its:List Yh) (n:Nat),Vals xs its/\xs.length=its.length/\s.heap.get? l=Ya {cls:=.type "list",data:=.seq its.toArray n}:=by obtain⟨z,its,n,r,e⟩:=I.hok l _ hH;exact⟨z,its,n,r,r.length,e⟩
theorem Qy{n:Nat}(h:n<=bj):zE n=false:=by unfold zE;exact decide_eq_false (by omega)
end
section
variable {X:Cx}
noncomputable def ZnT:V->List V->Hp->VK->Prop:=λx vs H Q=>∃l xs y,x= .ref l/\vs=[y]/\H l=Ya (.lst xs)/\xs.length<bj/\Q .non (upd H l (.lst (xs++[y])))
theorem Qz:Jp X "list.append" ZnT:=by intro pins s σ H x vs v us Q I rx rv h;obtain⟨l,xs,y,rfl,rfl,hH,hz,q⟩:=h;cases rx;obtain⟨u,rfl,ru⟩:=rv.one;obtain⟨z,its,n,r,hl,e⟩:=I.rN hH;refine pK F.slot_list_append ⟨_,e,rfl⟩ F.entry_list_append (F.args_list_append_2 _ _) (PySem.list_append l its.toArray n u (by rw[Yo];exact lC 2 2268279672881 T1 hl z)) ⟨e,?_⟩;refine⟨.non,_,I.Cw (its':=its++[u]) hH e (by simp) (r.append (.cons ru .nil)) ?_,rfl,q⟩;rw[Ye,Y8];exact lB 1 6991908881 T1 hz
noncomputable def Zoo:V->List V->Hp->VK->Prop:=λx vs H Q=>∃l b xs zs,x= .ref l/\vs=[.ref b]/\H l=Ya (.lst xs)/\H b=Ya (.lst zs)/\xs.length+zs.length<=bj/\Q .non (upd H l (.lst (xs++zs)))
theorem ZoF:Jp X "list.extend" Zoo:=by
 intro pins s σ H x vs v us Q I rx rv h;obtain⟨l,b,xs,zs,rfl,rfl,hH,hB,hz,q⟩:=h;cases rx;obtain⟨u,rfl,ru⟩:=rv.one;cases ru;obtain⟨z,its,n,r,hl,e⟩:=I.rN hH;obtain⟨z2,its2,n2,r2,hl2,e2⟩:=I.rN hB;have hsz:its.toArray.size+its2.toArray.size<=bj:=by rw[Yo,Yo];exact lE 3 0x413c0402c0132311031 T1 hl2 hl hz
 have Cu:¬(!its.toArray.isEmpty&&zE (its.toArray.size+its2.toArray.size))=true:=by rw[Qy hsz,w6];exact kI
 refine pK XM ⟨_,e,rfl⟩ XJ (XH _ _)
  (AutoSeq1.list_extend_list_list_0 l its.toArray n b its2.toArray n2 Cu (by rw[Yo];exact lC 2 2268279672881 T1 hl z) (by exact lC 1 0xa2c10c0210c01 T1 hsz)) ⟨e,e2,?_⟩
 refine⟨.non,_,I.Cw (its':=its++its2) hH e (by simp) (r.append r2) ?_,rfl,q⟩;rw[Ye];exact hz
noncomputable def Zwg:V->List V->Hp->VK->Prop:=λx vs H Q=>∃l xs y,x= .ref l/\vs=[]/\H l=Ya (.lst xs)/\xs[xs.length-1]?=Ya y/\Q y (upd H l (.lst xs.dropLast))
theorem Zt2:Jp X "list.pop" Zwg:=by
 intro pins s σ H x vs v us Q I rx rv h;obtain⟨l,xs,y,rfl,rfl,hH,hy,q⟩:=h;cases rx;have hus:=rv.zero;subst hus;obtain⟨z,its,n,r,hl,e⟩:=I.rN hH;obtain⟨u,hu,ru⟩:=r.get hy;have hy':its.toArray[its.toArray.size-1]?=Ya u:=by show its.toArray[its.length-1]?=Ya u;rw[←Pj,←hl];exact hu
 refine pK XS ⟨_,e,rfl⟩ XR (F.args_list_pop_1 _) (MeetsSeq.list_pop_last l its.toArray n u hy' (by rw[Yo];exact lC 2 2268279672881 T1 hl z)) ⟨e,?_⟩;refine⟨y,_,I.Cw (its':=its.dropLast) hH e ?_ r.dropLast ?_,ru,q⟩
 .show its.toArray.eraseIdxIfInBounds (its.toArray.size-1)=its.dropLast.toArray;rw[Yo,V9,Zmo]
 .rw[List.length_dropLast];exact Yk (Dn _ _) z
noncomputable def Zqq:V->List V->Hp->VK->Prop:=λx vs H Q=>∃l xs i k y,x= .ref l/\vs=[.int i]/\H l=Ya (.lst xs)/\ -(2^63)<=i/\i<2^63/\Oc i xs.length=Ya k/\xs[k]?=Ya y/\Q y (upd H l (.lst (xs.eraseIdx k)))
theorem ZpR:Jp X "list.pop" Zqq:=by
 intro pins s σ H x vs v us Q I rx rv h;obtain⟨l,xs,i,k,y,rfl,rfl,hH,h1,h2,hk,hy,q⟩:=h;cases rx;obtain⟨u,rfl,ru⟩:=rv.one;obtain⟨t,rfl⟩:=ru;obtain⟨z,its,n,r,hl,e⟩:=I.rN hH;obtain⟨w,hw,mD⟩:=r.get hy;refine pK XS ⟨_,e,rfl⟩ XR (F.args_list_pop_2 _ _)
  (MeetsSeq.list_pop_at l its.toArray n i t k w (fitsIndex_both h1 h2) (by rw[Yo,←hl];exact hk) (by rw[←Pj];exact hw) (by rw[Yo];exact lC 2 2268279672881 T1 hl z)) ⟨e,?_⟩
 refine⟨y,_,I.Cw (its':=its.eraseIdx k) hH e ?_ (r.eraseIdx k) ?_,mD,q⟩
 .show its.toArray.eraseIdxIfInBounds k=(its.eraseIdx k).toArray;rw[V9]
 .have:=Zjw xs k;exact Yk this z
def Zxv:R2:=λx y H Q=>∃l b xs zs,x= .ref l/\y= .ref b/\H l=Ya (.lst xs)/\H b=Ya (.lst zs)/\xs.length+zs.length<=bj/\∀p,H p=Yn->Q (.ref p) (upd H p (.lst (xs++zs)))
theorem Zue:aP X (iM .Add) Zxv:=by
 intro pins s σ H x y v u Q I rx ry h;obtain⟨l,b,xs,zs,rfl,rfl,hH,hB,hz,q⟩:=h;cases rx;cases ry;obtain⟨z,its,n,r,hl,e⟩:=I.rN hH;obtain⟨z2,its2,n2,r2,hl2,e2⟩:=I.rN hB;refine PySem.P.add_list e e2 ?_ (by rw[Yo,Yo];exact lE 3 0x413c0402c0132311031 T1 hl2 hl hz);have ea:its.toArray++its2.toArray=(its++its2).toArray:=by simp
 rw[ea];exact⟨.ref _,_,I.Vj (t':=s.toks) (r.append r2) (by rw[Ye];exact hz),rfl,q _ I.fresh⟩
def Zxh:R2:=λx y H Q=>∃l k xs,x= .ref l/\y= .int k/\H l=Ya (.lst xs)/\ -(2^63)<=k/\k<2^63/\xs.length*k.toNat<=bj/\
 ∀p,H p=Yn->Q (.ref p) (upd H p (.lst (Yq k.toNat xs).flatten))
theorem len_rep{α:Type}(xs:List α)(k:Nat):(Yq k xs).flatten.length=k*xs.length:=by
 induction k with
 |zero=>simp|succ k ih=>rw[rT,oJ,Ye,ih,Nat.succ_mul,kE]
theorem ZtL:aP X (iM .Mult) Zxh:=by
 intro pins s σ H x y v u Q I rx ry h;obtain⟨l,k,xs,rfl,rfl,hH,h1,h2,hz,q⟩:=h;cases rx;obtain⟨t,rfl⟩:=ry;obtain⟨z,its,n,r,hl,e⟩:=I.rN hH;have hlen:its.toArray.size*k.toNat<=bj:=by rw[Yo,←hl];exact hz
 have Abu:¬its.toArray.size*k.toNat>(2^63-1) / 8:=by
  have:(bj:Nat)<=(2^63-1) / 8:=by decide
  omega
 have hfit:¬(!Builtin.List.listFitsIndex k)=true:=by rw[fitsIndex_both h1 h2];exact kI
 have Cu:¬zE (its.toArray.size*k.toNat)=true:=by rw[Qy hlen];exact kI
 have hnew:Hj (λx1 x2=>x1++x2) #[] (Yq (if its.toArray.isEmpty=true then 0 else k.toNat) its.toArray)=(Yq k.toNat its).flatten.toArray:=by
  have f0:∀m:Nat,Hj (λx1 x2=>x1++x2) #[] (Yq m its.toArray)=(Yq m its).flatten.toArray:=λm=>by have:=foldl_rep its m [];rw[jB]at this;exact this
  rw[f0];cases its with
  |nil=>simp|cons a r'=>rw[if_neg (by simp)]
 refine wpAny_binaryOp_repeat_ref (T:="list") (U:="int") (by decide) ⟨_,e,rfl⟩ (λs'=>N_ s' k t) noFill_list_mul F.fills_int_mul XX repeat_list F.slot_int_index.lookup
  (pK XX (N_ s k t) F.entry_int_rmul (F.args_int_rmul_2 _ _) (int___rmul___int_list k t l its.toArray n)
   ⟨e,rfl,⟨_,e,rfl⟩,pK F.slot_list_mul ⟨_,e,rfl⟩ F.entry_list_mul (F.args_list_mul_2 _ _) (AutoListH.list___mul___list_int_3 l its.toArray n k t hfit Abu Cu) ⟨e,?_⟩⟩)
 rw[hnew];exact⟨.ref _,_,I.Vj (t':=s.toks) (r.rep k.toNat) (by rw[len_rep,Nat.mul_comm];exact hz),rfl,q _ I.fresh⟩
end
end L2
namespace Att
open PySem PySem.W PySem.Calls PyProof.Rows
theorem ZhS{P:Params}{h:aN}:∀(ns:List Int) (vs:List Yh),WellAll P h vs (ns.map WData.int)->IntsAre vs ns:=by
 intro ns
 induction ns with
 |nil=>intro vs w;rw[rY]at w;cases w;exact .nil|cons n ns ih=>
  intro vs w;rw[Yu]at w;cases w with
  |cons a b=>
   cases a
   exact .cons _ _ (ih _ b)
theorem Zo8{l:OpenLaw}{n:Nat}(hn:l.most=Ya n){P:Params}{h:aN}{args:List WData}{vals:List Yh}(hpre:l.row.toRowW.claim.pre args=true)(hwl:WellAll P h vals args):
  ∃a vs ns,vals=[Value.ref a]/\args=[WData.list (ns.map WData.int)]/\h.get? a=Ya {cls:=.type "list",data:=.seq vs.toArray}/\IntsAre vs ns/\ns.length<=n:=by
 have hsh:WShape.hasAll [] args [.list .int]=true:=(pre_splitW hpre).1;have hc:l.pre.holds [] {args:=args}=true:=(pre_splitW hpre).2;obtain⟨d,r,rfl,h1,h2⟩:=hasAllW_cons hsh;obtain rfl:=hasAllW_nil h2;obtain⟨xs,rfl,h3⟩:=hasW_list h1;obtain⟨ns,rfl⟩:=items_int h3;have hlen:ns.length<=n:=by
  unfold OpenLaw.pre at hc;have h4:(WTm.not (.lt (.lit (.int (n:Int))) (.len (.arg 0)))).holds [] {args:=[.list (ns.map .int)]}=true:=by have h4:=(holds_andW hc).1;rw[hn]at h4;exact h4
  have h5:=condW_of h4 (w_not (w_lt w_lit (w_len_list (w_arg rfl))));rw[Yv]at h5;refine mz λq=>?_;have q':(n:Int)<((ns.length:Nat):Int):=by exact Ih.2 q
  first
   |(rw[decide_eq_true q']at h5;exact absurd h5 (by decide))
   |(simp at h5;omega)
 cases hwl with
 |cons w1 w2=>
  cases w2
  cases w1 with
  |list ho hall=>exact⟨_,_,ns,rfl,rfl,ho,ZhS ns _ hall,hlen⟩
theorem ZoQ(l:OpenLaw)(args:List WData):l.row.toRowW.claim.post args (.bool true) args=true:=
 postW_of (r:=l.row.toRowW) (X:=(true==true))
  (show WShape.has [] (.bool true) .bool=true by first|rfl|decide|simp[WShape.has,WShape.arms,WShape.armsAll])
  (show(WTm.eq .res (.lit (.bool true))).value [] {args:=args,res:=Ya (.bool true),after:=args}=Ya (.bool (true==true))from w_eq_bool (w_res rfl) w_lit) rfl
theorem Aav{l:OpenLaw}{n:Nat}{q:bD}{loose:List aj}{XP:(aj->Option Yh)->aN->Prop}{YP:bw->aN->Prop}{d:DefRec}(hn:l.most=Ya n)(hdf:d.params.defaults=[])(call:∀(w:bw) (s₀ s₁:Yj) (mg mb:aj->Option Yh) (fa:Y1) (o:aK) (pm cd doc:Yh) (a:Y1) (vs:List Yh) (ns:List Int),
   Ground q loose [] XP w s₀ mg mb s₁.heap->YP w s₁.heap ->
   s₁.heap.get? fa=Ya o->o.data= .func (docDef d.name d.params d.body d.scope pm cd doc)->s₁.heap.CodeRec cd d.name->mg d.name=Ya (.ref fa) ->
   s₁.heap.get? a=Ya {cls:=.type "list",data:=.seq vs.toArray}->IntsAre vs ns->ns.length<=n->s₁.gens= #[] ->
   mq (au l.prog w) uU (.call (.ref fa) ⟨[.ref a],[]⟩) (λr s'=>r= .ok (.ret (.bool true))/\OldK s₁.heap s'.heap/\s'.os=s₁.os/\sV s'.gens) s₁):
  WalkO q loose XP YP l.row.toRowW d [] (λf vs=>Oa f vs):=by
 intro w s₀ s₁ mg mb G Y fa o pm cd doc dV kV ho hd hcd hD hmg hg args vals as hpre hlay hrd hwl hlo;obtain rfl:dV= .none:=Dflts.none hD hdf;obtain rfl:kV= .none:=Dflts.noKw hD;obtain⟨a,vs,ns,rfl,rfl,hobj,hints,hlen⟩:=Zo8 hn hpre hwl;refine enter_call (uQ (call w s₀ s₁ mg mb fa o pm cd doc a vs ns G Y ho (fd_plain hd) hcd hmg hobj hints hlen hg) λr s' hq=>?_);obtain⟨rfl,h2,h3,h4⟩:=hq;exact⟨.inl ⟨.bool true,.bool true,[],rfl,λ_=>rfl,.bool true,ZoQ l _,λ_=>⟨List.Pairwise.nil,λ_ hm=>(nomatch hm)⟩⟩,h2,h3,h4⟩
end Att
namespace L2
open PySem PySem.Spec PyProof.Rows
theorem Zjs:∀{vs:List Yh} {ns:List Int},IntsAre vs ns->Vals (ns.map V.int) vs
 |_,_,.nil=>.nil|_,_,.cons n t h=>.cons ⟨t,rfl⟩ (Zjs h)
def Only(H:Hp):Prop:=∀b,H b=Yn\/∃o xs,H b=Ya (.fH o (.lst xs))
theorem Zqm{P:bD}{w:bw}{K:Yb}{mg mb:aj->Option Yh}{CX:oW}{k:Nat}{fa a:Y1}{fd:jT}{x:aj}{sp:Sp}{s₁:Yj}{vs:List Yh}{ns:List Int}(KX:K.In s₁.heap)(hns:s₁.heap.Ns Yy mg)(hb:s₁.heap.Ns N7 mb)(hbb:∀x:aj,x≠ "__name__" ->mb x=jD x)(hlim:s₁.heap.NoLimit)(hg:s₁.gens= #[])(ha:s₁.heap.get? a=Ya {cls:=.type "list",data:=.seq vs.toArray})(hi:IntsAre vs ns)(hl:ns.length<=bj)(hr:dz k uU)(F:∀base:aN,K.In base->base.Ns Yy mg->jm P w K mg base CX k fa fd [x] sp)(hbind:∀(s:Yj) (u:Yh),zj s fd ⟨[u],[]⟩ [(x,u)])(hsp:∀H:Hp,Only H->bB K H a (ns.map V.int)->sp [.ref a] H (λv _=>v= .bl true) λ_ _ _=>False)(QB:∀H e s',CX [] H s₁ (λ_ _ _=>False) e s'->False):
  mq (au P w) uU (.call (.ref fa) ⟨[.ref a],[]⟩) (λr s'=>r= .ok (.ret (.bool true))/\OldK s₁.heap s'.heap/\s'.os=s₁.os/\sV s'.gens) s₁:=by
 have rv:=Zjs hi;have lenV:=hi.length;have core:∀H:Hp,Only H->bB K H a (ns.map V.int)->gJ P w H s₁.heap->(∀b,H b≠Yn->b=a)->(H a≠Yn->K.lookup a=Yn) ->
   mq (au P w) uU (.call (.ref fa) ⟨[.ref a],[]⟩) (λr s'=>r= .ok (.ret (.bool true))/\OldK s₁.heap s'.heap/\s'.os=s₁.os/\sV s'.gens) s₁:=by
  intro H hO hS hok hA hK;have U5:∀{b:Y1} {o:aK},s₁.heap.get? b=Ya o->H b=Yn->(sY s₁.heap H).get? b=Ya o:=λe n=>Zp9 e n;have Ec:∀{b:Y1} {o:aK} {es:Array DictEntry} {ep:Nat},s₁.heap.get? b=Ya o->o.data= .dict es ep->H b=Yn:=λ{b o es ep} e d=>by
   cases q:H b with
   |none=>rfl|some u=>have e':b=a:=hA b (by rw[q];simp);subst e';rw[ha]at e;cases e;have d':Data.seq vs.toArray _=Data.dict es ep:=d;cases d'
  have Jq:∀{b:Y1} {m:aj->Option Yh},s₁.heap.Ns b m->(sY s₁.heap H).Ns b m:=λ{b m} ⟨o,es,ep,e,d,r⟩=>⟨o,es,ep,U5 e (Ec e d),d,r⟩;have hKb:K.In (sY s₁.heap H):=λb o e=>U5 (KX b o e) (by
   cases q:H b with
   |none=>rfl|some u=>have e':b=a:=hA b (by rw[q];simp);subst e';rw[hK (by rw[q];simp)]at e;cases e)
  have hM:Mod K mg (sY s₁.heap H):=⟨hKb,Jq hns,⟨mb,Jq hb,hbb⟩,let⟨mc,h1,h2⟩:=hlim;⟨mc,Jq h1,h2⟩⟩;have e0:qR P w K mg (sY s₁.heap H) uU [] s₁ H:=⟨rfl,hM,λb o e=>ZsR e,sI (Zos _ _),trivial,λb hb=>absurd (show b∈([]:List Y1)from hb) (by simp),hok,.of_eq hg⟩;refine uQ ((F _ hKb (Jq hns)).run uU [] s₁ H ⟨[.ref a],[]⟩ [.ref a] [.ref a] _ _ hr e0 (hbind s₁ (.ref a)) (.cons rfl .nil) (hsp H hO hS)) λr s' h=>?_;cases r with
  |error e=>exact(QB H e s' h).elim|ok fl=>
   cases fl with
   |next=>exact jk h|brk=>exact jk h|cont=>exact jk h|ret u=>
    obtain⟨v,H',os,bare,un,hok',r',q⟩:=h;have q':v= .bl true:=q;subst q';obtain rfl:u=Value.bool true:=r';refine⟨rfl,OldK.of_keep λb o e=>?_,os,bare⟩;cases q:H b with
    |none=>exact un.keep b o e q (by intro z;exact absurd (show b∈([]:List Y1)from z) (by simp)) (by simp)|some u=>
     rcases hO b with z|⟨ob,xs,z⟩
     .rw[q]at z;cases z
     .have z2:=un.mW b ob _ z;obtain⟨e1,_⟩:=hok b _ z;obtain⟨e2,_⟩:=hok' b _ z2;rw[e]at e1;cases e1;exact e2
 cases hk:K.lookup a with
 |some o=>have e:=KX a o hk;rw[ha]at e;cases e;refine core (λ_=>Yn) (λ_=>.inl rfl) (.inr ⟨_,vs.toArray,_,hk,rfl,rfl,rfl,by rw[Yo,lenV];exact hl,by simpa using rv⟩) (λb u z=>by have z':(Yn:Option HO)=Ya u:=z;cases z') (λb z=>absurd rfl z) λz=>absurd rfl z|none=>
  refine core (λb=>if b=a then Ya (.fH {cls:=.type "list",data:=.seq vs.toArray} (.lst (ns.map V.int)))else Yn) (λb=>?_) (.inl (.inr ⟨{cls:=.type "list",data:=.seq vs.toArray},if_pos rfl⟩)) (λb u z=>?_) (λb z=>?_) λ_=>hk
  .by_cases hb:b=a
   .exact .inr ⟨_,_,if_pos hb⟩
   .exact .inl (if_neg hb)
  .by_cases hb:b=a
   .have z':=(if_pos hb).symm.trans z;cases z';subst hb;exact⟨ha,by rw[Yv];exact hl,vs,_,rv,ha⟩
   .have z':=(if_neg hb).symm.trans z;cases z'
  .by_cases hb:b=a
   .exact hb
   .exact absurd (if_neg hb) z
end L2
namespace L2
open PySem PySem.Spec PyProof.Rows
theorem Zoj{l:PySem.W.OpenLaw}{n k:Nat}{q:bD}{loose:List aj}{XP:(aj->Option Yh)->aN->Prop}{YP:bw->aN->Prop}{d:DefRec}{K:Params->Yb}{CX:bw->oW}{sp:bw->Sp}{x:aj}(hn:l.most=Ya n)(hn2:n<=bj)(hdf:d.params.defaults=[])(hr:dz k uU)(hY:∀(w:bw) (h:aN),YP w h->(K w.params).In h)(F:∀(w:bw) (mg:aj->Option Yh) (fa:Y1) (h:aN),(K w.params).In h->h.Ns Yy mg->mg d.name=Ya (.ref fa) ->
   ∃fd:jT,(∀(s:Yj) (u:Yh),zj s fd ⟨[u],[]⟩ [(x,u)])/\
    ∀base:aN,(K w.params).In base->base.Ns Yy mg->jm l.prog w (K w.params) mg base (CX w) k fa fd [x] (sp w))(hsp:∀(w:bw) (H:Hp) (a:Y1) (ns:List Int),ns.length<=n->Only H->bB (K w.params) H a (ns.map V.int)->sp w [.ref a] H (λv _=>v= .bl true) λ_ _ _=>False)(QB:∀(w:bw) (H:Hp) (s:Yj) (e:Yh) (s':Yj),CX w [] H s (λ_ _ _=>False) e s'->False):
  V7 q loose XP YP l.row.toRowW d [] (λf vs=>Oa f vs):=by
 refine Att.Aav hn hdf λw s₀ s₁ mg mb fa o pm cd doc a vs ns G Y ho hd hcd hmg hobj hints hlen hg=>?_;have KX:=hY w _ Y;obtain⟨fd,hb,hF⟩:=F w mg fa _ KX G.T.g hmg;exact Zqm KX G.T.g G.T.b G.T.builtins G.T.nolimit hg hobj hints (Yk hlen hn2) hr hF hb (λH hO hS=>hsp w H a ns hlen hO hS) λH e s'=>QB w H s₁ e s'
end L2
/-THE LAST THEOREM (shape;LID,My.*are AdN):
  My.Adr:a structure of the addresses that your layer names (classes,functions);My.Txt K t:a structure (Prop) of the equations over K;
  My.Aa7:{K} {implicit addresses ..} (e1:nsIn K Yy "law" =Ya (Ya (.ref f))) (e2:K.lookup f=Ya ⟨oc,od,.func (fnOf "law" "law" params body scope dV kV doc pm an cdv ct),sl⟩) (e3:codeIn K cdv "law" =true) ..:∃t,My.Txt K t
set_option maxRecDepth 100000 in
set_option maxHeartbeats 0 in
theorem PySem.Challenge.cw_LID_holds : PySem.Challenge.rw_LID.Holds := by
 w_on;o_law;k_head;(case hw=>w_witness2)
 k_fill
 refine L2.Zoj (l:=PySem.Challenge.rw_LID) (n:=63) (k:=40) (x:="script") (CX:=λw=>..) (sp:=λ_=>My.sp_law) rfl (by decide) rfl ⟨rfl,by decide,by decide⟩ (λw h Y=>PySem.W.kIn_of Y) ?F ?S ?C
 case F=>
  intro w mg fa h KX G hmg;have T:∃t,My.Txt (L2.KOf KX) t:=by
   dsimp only[L2.KOf]                          --K must stand as «<heap const>w.params» for k_is;refine' My.Aa7 ?e1 ?e2 ?e3 ..
   (case e1=>PySem.W.k_is)                    --in the order:a name->its address->its object->its parts
   (case e2=>PySem.W.k_is)
   ..
  obtain⟨t,T⟩:=T;have e0:=hmg.symm.trans (V8 KX G T.law);cases e0                                       --fa is the law's own address;exact⟨_,λs u=>.of_eq rfl,λbase kb nb=>My.Aa8 T kb nb⟩     --if «.of_eq rfl» comes too early:refine'⟨_,?b,λbase kb nb=>My.Aa8 T kb nb⟩;exactλs u=>.of_eq rfl
 case S=>exactλw H a ns hl hO hS=>..
 case C=>exact ..
(the tactic k_is has no namespace:write k_is) -/
namespace L2
open PySem PySem.Spec PyProof.Rows
noncomputable def cU(s:Yep):Arguments:=match s with
 | .FunctionDef _ a _ _ _ _ _ _ _ _=>a|_=>{posonlyargs:=[],args:=[],vararg:=Yn,kwonlyargs:=[],kw_defaults:=[],kwarg:=Yn,defaults:=[]}
noncomputable def cL(s:Yep):List Yep:=match s with
 | .FunctionDef _ _ b _ _ _ _ _ _ _=>b|_=>[]
noncomputable def Zk(s:Yep):Scope:=match s with
 | .FunctionDef _ _ _ _ _ _ sc _ _ _=>sc|_=>{kind:=.function,names:=[],isGenerator:=false,isCoroutine:=false}
noncomputable abbrev kZ:oW:=λ_ _ _ _ _ _=>False
noncomputable abbrev E0:XK:=λ_ _ _=>False
theorem Zs6{X:Cx}:Eb kZ X E0:=λ_ _ _ _ _ _ _ h=>h.elim
structure tH(K:Yb)(x qual:aj)(st:Yep)(f:Y1)(fd:jT):Prop where
 ex:∃(oc:Yh) (od:Option Y1) (dV kV doc pm:Yh) (an:Option Y1) (cdv ct:Yh) (osl:Array (Option Yh)),
  fd=qH x qual (cU st) (cL st) (Zk st) dV kV doc pm an cdv ct/\K.lookup f=Ya ⟨oc,od,.func fd,osl⟩/\Cz K cdv qual=true
 kp:rR K (.ref f)=true
section
variable {P:bD} {w:bw} {K:Yb} {mg:aj->Option Yh} {base:aN}
theorem tH.ok{x qual:aj}{st:Yep}{f:Y1}{fd:jT}{N ps:List aj}{k:Nat}{sp:Sp}(F:tH K x qual st f fd)(S:dJ N ps (Zk st))(len:∀vs H Q E,sp vs H Q E->vs.length=ps.length)(hbody:∀(cdv:Yh) (A:bJ) (outer:List eV) (s:Yj) (H:Hp) (vs:List V) (Q:VK) (E:XK),dz k (A.deeper (oN qual (Zk st) s.heap.objs.size f cdv))->sp vs H Q E ->
   ∃t,jE (tD kZ P w K mg base N qual (Zk st) f cdv A outer s H E).xG (cL st) t/\t {nx:=λ_ H'=>Q .non H',rt:=Q} (start N vs) H):jm P w K mg base kZ (k+1) f fd ps sp:=by
 obtain⟨oc,od,dV,kV,doc,pm,an,cdv,ct,osl,rfl,lk,hcd⟩:=F.ex;refine Zvt lk hcd S len λA outer s H vs Q E hr hsp=>?_;obtain⟨t,h,q⟩:=hbody cdv A outer s H vs Q E hr hsp;exact⟨t,h.xG,q⟩
theorem tH.binds{x qual:aj}{st:Yep}{f:Y1}{fd:jT}{ps:List aj}(F:tH K x qual st f fd)(h:∀(dV kV doc pm:Yh) (an:Option Y1) (cdv ct:Yh) (us:List Yh),us.length=ps.length->bindArgs (qH x qual (cU st) (cL st) (Zk st) dV kV doc pm an cdv ct) ⟨us,[]⟩=pure (ps.zip us)):Binds K fd ps []:=by obtain⟨oc,od,dV,kV,doc,pm,an,cdv,ct,osl,rfl,lk,hcd⟩:=F.ex;exact .all (h dV kV doc pm an cdv ct)
theorem ZqS{x qual:aj}{st:Yep}{f:Y1}{oc:Yh}{od an:Option Y1}{osl:Array (Option Yh)}{dV kV doc pm cdv ct:Yh}(l:K.lookup f=Ya ⟨oc,od,.func (qH x qual (cU st) (cL st) (Zk st) dV kV doc pm an cdv ct),osl⟩)(c:Cz K cdv qual=true)(k:rR K (.ref f)=true):tH K x qual st f (qH x qual (cU st) (cL st) (Zk st) dV kV doc pm an cdv ct):=⟨⟨oc,od,dV,kV,doc,pm,an,cdv,ct,osl,rfl,l,c⟩,k⟩
end
def vA(H H':Hp):Prop:=∀b o,H b=Ya o->H' b=Ya o
theorem vA.trans{H H1 H2:Hp}(a:vA H H1)(b:vA H1 H2):vA H H2:=λc o h=>b c o (a c o h)
theorem vA.free{H H':Hp}(e:vA H H'){l:Y1}(h:H' l=Option.none):H l=Option.none:=by
 cases q:H l with
 |none=>rfl|some o=>rw[e l o q]at h;cases h
theorem vA.seq{K:Yb}{H H':Hp}{a:Y1}{xs:List V}(e:vA H H')(h:bB K H a xs):bB K H' a xs:=by
 rcases h with(h|⟨o,h⟩)|h
 .exact .inl (.inl (e _ _ h))
 .exact .inl (.inr ⟨o,e _ _ h⟩)
 .exact .inr h
end L2
namespace L2
open PySem PySem.Spec PyProof.Rows
section
variable {κ:Type} [DecidableEq κ]
noncomputable def k_(kvs:List (κ×V))(k:κ):Option V:=(kvs.find? λkv=>decide (kv.1=k)).map (·.2)
noncomputable def putK(kvs:List (κ×V))(k:κ)(v:V):List (κ×V):=if(kvs.any λkv=>decide (kv.1=k))=true then kvs.map (λkv=>if kv.1=k then(kv.1,v)else kv)else kvs++[(k,v)]
theorem Zp6{k:κ}:k_ ([]:List (κ×V)) k=Yn:=rfl
theorem Jr{p:κ×V}{r:List (κ×V)}{k:κ}(e:p.1=k):k_ (p::r) k=Ya p.2:=by simp[k_,yX,e]
theorem Js{p:κ×V}{r:List (κ×V)}{k:κ}(e:¬p.1=k):k_ (p::r) k=k_ r k:=by simp[k_,yX,e]
theorem Zlo(k:κ):∀kvs:List (κ×V),(kvs.any λkv=>decide (kv.1=k))=(k_ kvs k).isSome
 |[]=>rfl|p::r=>by
  rw[kh];by_cases e:p.1=k
  .simp only[Jr e,decide_eq_true e,Bool.true_or,Option.isSome_some]
  .rw[Js e,decide_eq_false e,Xa];exact Zlo k r
theorem nq.AaR{o:Option V}{u:Option Yh}(r:nq o u):o.isSome=u.isSome:=by
 cases o with
 |none=>cases u with
  |none=>rfl|some _=>exact(show False from r).elim
 |some _=>cases u with
  |none=>exact(show False from r).elim|some _=>rfl
theorem nq.getD{o:Option V}{u:Option Yh}{d:V}{d':Yh}(r:nq o u)(rd:RelV d d'):RelV (o.getD d) (u.getD d'):=by
 cases o with
 |none=>cases u with
  |none=>exact rd|some _=>exact(show False from r).elim
 |some _=>cases u with
  |none=>exact(show False from r).elim|some _=>exact r
theorem KV.val{kvs:List (κ×V)}{vs:List (κ×Yh)}(r:KV kvs vs)(k:κ):nq (k_ kvs k) (zm vs k):=by
 unfold KV at r
 induction r with
 |nil=>exact True.intro|@cons p q ps qs h t ih=>
  obtain⟨h1,h2⟩:=h;by_cases e:p.1=k
  .have e':q.1=k:=h1.symm.trans e;have b:zm (q::qs) k=Ya q.2:=by simp[zm,yX,e']
   rw[Jr e,b];exact h2
  .have e':¬q.1=k:=λz=>e (h1.trans z);have b:zm (q::qs) k=zm qs k:=by simp[zm,yX,e']
   rw[Js e,b];exact ih
theorem KV.any{kvs:List (κ×V)}{vs:List (κ×Yh)}(r:KV kvs vs)(k:κ):(kvs.any λkv=>decide (kv.1=k))=vs.any λkv=>decide (kv.1=k):=by
 unfold KV at r
 induction r with
 |nil=>rfl|cons h t ih=>rw[kh,kh,ih,h.1]
theorem KV.repl{kvs:List (κ×V)}{vs:List (κ×Yh)}(r:KV kvs vs)(k:κ){y:V}{u:Yh}(ry:RelV y u):
  KV (kvs.map λkv=>if kv.1=k then(kv.1,y)else kv) (vs.map λkv=>if kv.1=k then(kv.1,u)else kv):=by
 unfold KV at r ⊢
 induction r with
 |nil=>exact .nil|@cons p q ps qs h t ih=>
  rw[Yu,Yu];refine .cons ?_ ih;obtain⟨h1,h2⟩:=h;by_cases e:p.1=k
  .rw[if_pos e,if_pos (h1.symm.trans e)];exact⟨h1,ry⟩
  .rw[if_neg e,if_neg (λz=>e (h1.trans z))];exact⟨h1,h2⟩
theorem KV.put{kvs:List (κ×V)}{vs:List (κ×Yh)}(r:KV kvs vs)(k:κ){y:V}{u:Yh}(ry:RelV y u):KV (putK kvs k y) (stored vs k u):=by
 unfold putK stored;rw[r.any k];by_cases e:(vs.any λkv=>decide (kv.1=k))=true
 .rw[if_pos e,if_pos e];exact r.repl k ry
 .rw[if_neg e,if_neg e];exact Paired.snoc r ⟨rfl,ry⟩
theorem KV.length{kvs:List (κ×V)}{vs:List (κ×Yh)}(r:KV kvs vs):kvs.length=vs.length:=ZR r
end
noncomputable abbrev KT(H:Hp):List (List Key×V)->List (List Key×Y1×Yh)->Prop:=Paired λp q=>p.1=q.1/\H q.2.1=Ya (.tup (p.1.map kV))/\RelV p.2 q.2.2
variable{kvs:List (List Key×V)}{H:Hp}{xs:List (List Key×Y1×Yh)}
theorem KT.val(r:KT H kvs xs)(k:List Key):nq (k_ kvs k) ((u5 xs k).map (·.2)):=by
 induction r with
 |nil=>exact True.intro|@cons p q ps qs h t ih=>
  obtain⟨h1,_,h2⟩:=h;by_cases e:p.1=k
  .have e':q.1=k:=h1.symm.trans e;have b:u5 (q::qs) k=Ya q.2:=by simp[u5,yX,e']
   rw[Jr e,b];exact h2
  .have e':¬q.1=k:=λz=>e (h1.trans z);have b:u5 (q::qs) k=u5 qs k:=by simp[u5,yX,e']
   rw[Js e,b];exact ih
theorem KT.repl(r:KT H kvs xs)(k:List Key){y:V}{u:Yh}(ry:RelV y u):
  KT H (kvs.map λkv=>if kv.1=k then(kv.1,y)else kv) (xs.map (putAt k u)):=by
 induction r with
 |nil=>exact .nil|@cons p q ps qs h t ih=>
  rw[Yu,Yu];refine .cons ?_ ih;obtain⟨h1,h2,h3⟩:=h;unfold putAt;by_cases e:p.1=k
  .rw[if_pos e,if_pos (h1.symm.trans e)];exact⟨h1,h2,ry⟩
  .rw[if_neg e,if_neg (λz=>e (h1.trans z))];exact⟨h1,h2,h3⟩
theorem KT.put(r:KT H kvs xs)(k:List Key){b:Y1}{y:V}{u:Yh}(hb:H b=Ya (.tup (k.map kV)))(ry:RelV y u):
  KT H (putK kvs k y) (storedH xs k b u):=by
 have e:(kvs.any λkv=>decide (kv.1=k))=(u5 xs k).isSome:=by rw[Zlo,(r.val k).AaR,Option.isSome_map]
 unfold putK storedH;rw[e];by_cases q:(u5 xs k).isSome=true
 .rw[if_pos q,if_pos q];exact r.repl k ry
 .rw[if_neg q,if_neg q];exact Paired.snoc r ⟨rfl,hb,ry⟩
theorem KT.keeps{H':Hp}(r:KT H kvs xs)(ht:∀b ys,H b=Ya (.tup ys)->H' b=Ya (.tup ys)):KT H' kvs xs:=Paired.Ml r λ_ _ z=>⟨z.1,ht _ _ z.2.1,z.2.2⟩
def Jt(H:Hp)(a:Y1)(y:V)(r:Option V):Prop:=(∃kvs k,Rd H a (.dK kvs)/\y=kV k/\r=k_ kvs k)\/∃kvs k b,Rd H a (.dT kvs)/\y= .ref b/\H b=Ya (.tup (k.map kV))/\r=k_ kvs k
def Ju(H:Hp)(a:Y1)(y v:V)(H':Hp):Prop:=
 (∃kvs k,H a=Ya (.dK kvs)/\y=kV k/\kvs.length<bj/\H'=upd H a (.dK (putK kvs k v)))\/
 ∃kvs k b,H a=Ya (.dT kvs)/\y= .ref b/\H b=Ya (.tup (k.map kV))/\kvs.length<bj/\H'=upd H a (.dT (putK kvs k v))
theorem Jt.k{H:Hp}{a:Y1}{kvs:List (Key×V)}{k:Key}(e:H a=Ya (.dK kvs)):Jt H a (kV k) (k_ kvs k):=.inl ⟨kvs,k,.inl e,rfl,rfl⟩
theorem Jt.t{a b:Y1}{k:List Key}(e:H a=Ya (.dT kvs))(eb:H b=Ya (.tup (k.map kV))):Jt H a (.ref b) (k_ kvs k):=.inr ⟨kvs,k,b,.inl e,rfl,eb,rfl⟩
theorem Ju.k{H:Hp}{a:Y1}{kvs:List (Key×V)}{k:Key}{v:V}(e:H a=Ya (.dK kvs))(hl:kvs.length<bj):Ju H a (kV k) v (upd H a (.dK (putK kvs k v))):=.inl ⟨kvs,k,e,rfl,hl,rfl⟩
theorem Ju.t{a b:Y1}{k:List Key}{v:V}(e:H a=Ya (.dT kvs))(eb:H b=Ya (.tup (k.map kV)))(hl:kvs.length<bj):
  Ju H a (.ref b) v (upd H a (.dT (putK kvs k v))):=.inr ⟨kvs,k,b,e,rfl,eb,hl,rfl⟩
def Jv(i:Expr):Prop:=∀ov iv,Ht i false ov iv=operate [ov,iv] (pM ov iv)
theorem ZsF{prog:bD}{w:bw}{A:bJ}{E:Yh->Yj->Prop}{s:Yj}{env:eV}{value slice:Expr}{pos:aU}{T id:String}{Q:Yh->Yj->Prop}(hl:typeLookup (.type T) "__getitem__" =pure (Ya (.builtin id)))(hs:Jv slice)(h:ao (au prog w) A (aF value env) (λo s₁=>ao (au prog w) A (aF slice env) (λi s₂=>s₂.TypeIs o T/\ao (au prog w) A (pM o i) Q E s₂) E s₁) E s):
  ao (au prog w) A (aF (.Subscript value slice pos) env) Q E s:=by
 refine OJ (ju h (λo s₁ h₁=>ju h₁ (λi s₂ h₂=>?_) λ_ _ x=>x) λ_ _ x=>x);obtain⟨hT,h₂⟩:=h₂;unfold OD;refine Yg ?_;rw[getitemInPython_of_ne hT.not_modules];refine Yg (Nv hT hl ?_);have fin:ao (au prog w) A (Ht slice false o i) (λr s₃=>ao (au prog w) A (letTemporaryGo value o r>>=λ_=>pure r) Q E s₃) E s₂:=by rw[hs o i];exact wpAny_operating (ju h₂ (λr s₃ h₃=>Yg (wpAny_letTemporaryGo (Yt h₃))) λ_ _ x=>x)
 first
  |exact Yt (Yg fin)
  |exact Yg (Yt (Yg fin))
  |exact Yg fin
structure M1(X:Cx)(o:Expr)(m:aj)(apos:aU)(e:Expr)(cpos:aU):Prop where
 base:mj o m X.env (aF o X.env)=aF o X.env
 few:((bZ cpos (Yw [e] X.env)).all (λx=>!x.1)&&(iQ cpos (iK [] X.env)).all (λx=>x.1.isSome)
  &&decide (([e]:List Expr).length+([]:List Keyword).length+(if([]:List Keyword).isEmpty then 0 else 1)<30))=true
 line:(apos.endLine==cpos.line)=true
 trees:bZ cpos (Yw [e] X.env)=[(false,aF e X.env)]
structure M2(X:Cx)(o:Expr)(m:aj)(apos:aU)(e f:Expr)(cpos:aU):Prop where
 base:mj o m X.env (aF o X.env)=aF o X.env
 few:((bZ cpos (Yw [e,f] X.env)).all (λx=>!x.1)&&(iQ cpos (iK [] X.env)).all (λx=>x.1.isSome)
  &&decide (([e,f]:List Expr).length+([]:List Keyword).length+(if([]:List Keyword).isEmpty then 0 else 1)<30))=true
 line:(apos.endLine==cpos.line)=true
 trees:bZ cpos (Yw [e,f] X.env)=[(false,aF e X.env),(false,aF f X.env)]
end L2
namespace L3
open PySem
variable{env:bK}{it:fU}{T:nu}{hi lo:Option Int}{M:Store}
noncomputable section
inductive D where
 |non|bl (b:Bool)|int (i:Int)|str (x:List Nat)|tup (ds:List D)|aY (ds:List D)|ref (n:Nat)
 deriving Inhabited
noncomputable abbrev iy:=Sum Int (List Nat)
inductive MO where
 |lst (xs:List D)|dct (kvs:List (iy×D))|cJ (kvs:List (iy×D))|ins (c:List Nat) (fs:List (List Nat×D))
 deriving Inhabited
noncomputable abbrev Store:=List MO
structure X3 where
 cls:List Nat
 arg:D
inductive R3(α:Type)where
 |ok (a:α) (M:Store)|exc (x:X3) (M:Store)|bad
@[simp] noncomputable def R3.bind{α β:Type}(r:R3 α)(k:α->Store->R3 β):R3 β:=match r with
 | .ok a M=>k a M|.exc x M=>.exc x M|.bad=>.bad
theorem R3.AaX{α β:Type}(a:α)(M:Store)(k:α->Store->R3 β):(R3.ok a M).bind k=k a M:=rfl
theorem ft{C:Prop}(h:false=true):C:=Bool.noConfusion h
theorem i_{α:Type}{C:Prop}{k:α}(h:Yn=Ya k):C:=by cases h
noncomputable def dB:Nat->D->Bool
 |_,.non=>true|_,.bl _=>true|_,.int _=>true|_,.str _=>true
 |n+1,.tup ds=>ds.all (dB n)|_,_=>false
noncomputable abbrev DEEP:Nat:=60
mutual
noncomputable def dM:D->D->Bool
 | .non,.non=>true|.bl a,.bl b=>a==b|.int a,.int b=>a==b|.str a,.str b=>a==b
 | .tup a,.tup b=>iU a b|.bl a,.int b=>(if a then 1 else 0)==b|.int a,.bl b=>a==(if b then 1 else 0)|_,_=>false
noncomputable def iU:List D->List D->Bool
 |[],[]=>true|a::x,b::y=>dM a b&&iU x y|_,_=>false
end
theorem Zs4(a b:List Nat):dM (.str a) (.str b)=(a==b):=rfl
theorem Ztd(a b:List D):dM (.tup a) (.tup b)=iU a b:=rfl
theorem ZtF:iU [] []=true:=rfl
theorem QC(a b:D)(x y:List D):iU (a::x) (b::y)=(dM a b&&iU x y):=rfl
mutual
noncomputable def below(n:Nat):D->Bool
 | .tup ds=>bR n ds|.aY ds=>bR n ds|.ref k=>k<n|.non=>true| .bl _=>true| .int _=>true| .str _=>true
noncomputable def bR(n:Nat):List D->Bool
 |[]=>true|d::ds=>below n d&&bR n ds
end
mutual
noncomputable def same:D->D->Bool
 | .non,.non=>true|.bl a,.bl b=>a==b|.int a,.int b=>a==b|.str a,.str b=>a==b
 | .tup a,.tup b=>zT a b|.aY a,.aY b=>zT a b|.ref a,.ref b=>a==b|_,_=>false
noncomputable def zT:List D->List D->Bool
 |[],[]=>true|a::x,b::y=>same a b&&zT x y|_,_=>false
end
mutual
theorem Zn1:∀{a b:D},same a b=true->a=b
 | .non,b,h=>by cases b<;>first|exact rfl|exact ft h
 | .bl a,b,h=>by cases b<;>first|exact congrArg D.bl (beq_iff_eq.mp h)|exact ft h
 | .int a,b,h=>by cases b<;>first|exact congrArg D.int (beq_iff_eq.mp h)|exact ft h
 | .str a,b,h=>by cases b<;>first|exact congrArg D.str (beq_iff_eq.mp h)|exact ft h
 | .tup a,b,h=>by cases b<;>first|exact congrArg D.tup (QD h)|exact ft h
 | .aY a,b,h=>by cases b<;>first|exact congrArg D.aY (QD h)|exact ft h
 | .ref a,b,h=>by cases b<;>first|exact congrArg D.ref (beq_iff_eq.mp h)|exact ft h
theorem QD:∀{x y:List D},zT x y=true->x=y
 |[],y,h=>by cases y<;>first|exact rfl|exact ft h
 |a::x,y,h=>by
  cases y with
  |nil=>exact ft h|cons b y=>exact have w:=vf.mp (h:(same a b&&zT x y)=true);congr (congrArg _ (Zn1 w.1)) (QD w.2)
end
mutual
theorem Znn:∀(a:D),same a a=true
 | .non=>rfl|.bl a=>beq_self_eq_true a|.int a=>beq_self_eq_true a|.str a=>beq_self_eq_true a
 | .tup a=>QF a|.aY a=>QF a|.ref a=>beq_self_eq_true a
theorem QF:∀(x:List D),zT x x=true
 |[]=>rfl|a::x=>vf.mpr ⟨Znn a,QF x⟩
end
theorem same_iff{a b:D}:same a b=true↔a=b:=⟨Zn1,λh=>h▸Znn a⟩
noncomputable instance:DecidableEq D:=λa b=>decidable_of_iff (same a b=true) same_iff
noncomputable instance:DecidableEq MO:=λa b=>match a,b with
 | .lst x,.lst y=>if h:x=y then isTrue (by rw[h])else isFalse (by intro e;cases e;exact h rfl)|.dct x,.dct y=>if h:x=y then isTrue (by rw[h])else isFalse (by intro e;cases e;exact h rfl)|.cJ x,.cJ y=>if h:x=y then isTrue (by rw[h])else isFalse (by intro e;cases e;exact h rfl)|.ins c x,.ins d y=>if h:c=d/\x=y then isTrue (by rw[h.1,h.2])else isFalse (by intro e;cases e;exact h ⟨rfl,rfl⟩)
 | .ins _ _,.lst _=>isFalse (by intro e;cases e)|.ins _ _,.dct _=>isFalse (by intro e;cases e)|.ins _ _,.cJ _=>isFalse (by intro e;cases e)|.lst _,.ins _ _=>isFalse (by intro e;cases e)
 | .dct _,.ins _ _=>isFalse (by intro e;cases e)|.cJ _,.ins _ _=>isFalse (by intro e;cases e)|.lst _,.dct _=>isFalse (by intro e;cases e)|.lst _,.cJ _=>isFalse (by intro e;cases e)
 | .dct _,.lst _=>isFalse (by intro e;cases e)|.dct _,.cJ _=>isFalse (by intro e;cases e)|.cJ _,.lst _=>isFalse (by intro e;cases e)|.cJ _,.dct _=>isFalse (by intro e;cases e)
@[simp] noncomputable abbrev SZ:Nat:=1000000
noncomputable abbrev bK:=List (Option D)
noncomputable abbrev E3:=bK->Store->R3 D
noncomputable abbrev d8:=bK->Store->R3 (List D)
noncomputable abbrev F3:=List D->Store->R3 D
inductive O3 where
 |nx (env:bK) (M:Store)|rt (d:D) (M:Store)|bk (env:bK) (M:Store)|ct (env:bK) (M:Store)|exc (x:X3) (M:Store)|bad
noncomputable abbrev S3:=bK->Store->O3
@[simp] noncomputable def Za(i:Nat):E3:=λenv M=>match env[i]? with
 |some (Ya d)=>.ok d M|_=>.bad
@[simp] noncomputable def eC(d:D):E3:=λ_ M=>.ok d M
@[simp] noncomputable def e1(op:D->Store->R3 D)(f:E3):E3:=λenv M=>(f env M).bind op
@[simp] noncomputable def e2(op:D->D->Store->R3 D)(f g:E3):E3:=λenv M=>(f env M).bind λa M1=>(g env M1).bind λb M2=>op a b M2
@[simp] noncomputable def Zf:d8:=λ_ M=>.ok [] M
@[simp] noncomputable def Zb(f:E3)(g:d8):d8:=λenv M=>(f env M).bind λa M1=>(g env M1).bind λb M2=>.ok (a::b) M2
@[simp] noncomputable def alloc(o:MO)(M:Store):R3 D:=.ok (.ref M.length) (M++[o])
section
local instance (priority:=100000) AdT (p:Prop):Decidable p:=Yx p
@[simp] noncomputable def fV(g:d8):E3:=λenv M=>(g env M).bind λds M1=>if ds.length<=SZ then .ok (.tup ds) M1 else .bad
end
section
local instance (priority:=100000) AdU (p:Prop):Decidable p:=Yx p
@[simp] noncomputable def bf(g:d8):E3:=λenv M=>(g env M).bind λds M1=>if ds.length<=SZ then alloc (.lst ds) M1 else .bad
end
@[simp] noncomputable def bC(f g:E3):E3:=λenv M=>(f env M).bind λa M1=>match a with
 | .bl true=>g env M1|.bl false=>.ok (.bl false) M1|_=>.bad
@[simp] noncomputable def eG(f g:E3):E3:=λenv M=>(f env M).bind λa M1=>match a with
 | .bl false=>g env M1|.bl true=>.ok (.bl true) M1|_=>.bad
noncomputable def pY(a:D)(M:Store):R3 D:=match a with
 | .bl b=>.ok (.bl (!b)) M|_=>.bad
@[simp] theorem Zwu:∀b,pY (.bl b) M= .ok (.bl (!b)) M:=λ_=>rfl
@[simp] noncomputable def jV(c f g:E3):E3:=λenv M=>(c env M).bind λa M1=>match a with
 | .bl true=>f env M1|.bl false=>g env M1|_=>.bad
@[simp] noncomputable def aM(F:F3)(g:d8):E3:=λenv M=>(g env M).bind λds M1=>F ds M1
section
local instance (priority:=100000) AdV (p:Prop):Decidable p:=Yx p
noncomputable def aQ(a b:D)(M:Store):R3 D:=match a,b with
 | .int i,.int j=>.ok (.int (i+j)) M|.str x,.str y=>if x.length+y.length<=SZ then .ok (.str (x++y)) M else .bad|.tup x,.tup y=>if x.length+y.length<=SZ then .ok (.tup (x++y)) M else .bad|.ref n,.ref m=>match M[n]?,M[m]? with
  |some (.lst x),Ya (.lst y)=>if x.length+y.length<=SZ then alloc (.lst (x++y)) M else .bad|_,_=>.bad
 |_,_=>.bad
@[simp] theorem tK:∀i j,aQ (.int i) (.int j) M= .ok (.int (i+j)) M:=λ_ _=>rfl
@[simp] theorem Zrj:∀x y,aQ (.str x) (.str y) M=(if x.length+y.length<=SZ then .ok (.str (x++y)) M else .bad):=λ_ _=>rfl
@[simp] theorem Zlu:∀x y,aQ (.tup x) (.tup y) M=(if x.length+y.length<=SZ then .ok (.tup (x++y)) M else .bad):=λ_ _=>rfl
@[simp] theorem Zra:∀n m,aQ (.ref n) (.ref m) M=(match M[n]?,M[m]? with
  |some (.lst x),Ya (.lst y)=>if x.length+y.length<=SZ then alloc (.lst (x++y)) M else .bad|_,_=>.bad):=λ_ _=>rfl
end
noncomputable def gZ(a b:D)(M:Store):R3 D:=match a,b with
 | .int i,.int j=>.ok (.int (i-j)) M|_,_=>.bad
@[simp] theorem QG:∀i j,gZ (.int i) (.int j) M= .ok (.int (i-j)) M:=λ_ _=>rfl
section
local instance (priority:=100000) AdW (p:Prop):Decidable p:=Yx p
noncomputable def lg(i j:Int):Bool:=(decide (-(2^64)<i)&&decide (i<2^64))|| (decide (-(2^64)<j)&&decide (j<2^64))
end
section
local instance (priority:=100000) AdX (p:Prop):Decidable p:=Yx p
noncomputable def iz(a b:D)(M:Store):R3 D:=match a,b with
 | .int i,.int j=>if lg i j then .ok (.int (i*j)) M else .bad|.str x,.int k=>if x.length*k.toNat<=SZ/\k<1000000/\ -1000000<k then .ok (.str (Yq k.toNat x).flatten) M else .bad|.ref n,.int k=>match M[n]? with
  |some (.lst x)=>if x.length*k.toNat<=SZ/\k<1000000/\ -1000000<k then alloc (.lst (Yq k.toNat x).flatten) M else .bad|_=>.bad
 |_,_=>.bad
@[simp] theorem ZvF:∀i j,iz (.int i) (.int j) M=(if lg i j then .ok (.int (i*j)) M else .bad):=λ_ _=>rfl
@[simp] theorem ZpW:∀x k,iz (.str x) (.int k) M=(if x.length*k.toNat<=SZ/\k<1000000/\ -1000000<k then .ok (.str (Yq k.toNat x).flatten) M else .bad):=λ_ _=>rfl
@[simp] theorem Zww:∀n k,iz (.ref n) (.int k) M=(match M[n]? with
  |some (.lst x)=>if x.length*k.toNat<=SZ/\k<1000000/\ -1000000<k then alloc (.lst (Yq k.toNat x).flatten) M else .bad|_=>.bad):=λ_ _=>rfl
end
noncomputable def Zy(a b:D)(M:Store):R3 D:=match a,b with
 | .int i,.int j=>if 0<j then .ok (.int (i % j)) M else .bad|_,_=>.bad
@[simp] theorem Zk9:∀i j,Zy (.int i) (.int j) M=(if 0<j then .ok (.int (i % j)) M else .bad):=λ_ _=>rfl
section
local instance (priority:=100000) AdY (p:Prop):Decidable p:=Yx p
noncomputable def bG(a b:D)(M:Store):R3 D:=match a,b with
 | .int i,.int j=>if 0<j/\j<1073741824 then .ok (.int (i / j)) M else .bad|_,_=>.bad
@[simp] theorem ZjW:∀i j,bG (.int i) (.int j) M=(if 0<j/\j<1073741824 then .ok (.int (i / j)) M else .bad):=λ_ _=>rfl
end
noncomputable def Jw(a b:D)(M:Store):R3 D:=match a,b with
 | .int i,.int j=>if 0<=j/\j<=1000/\i.natAbs<1000 then .ok (.int (i^j.toNat)) M else .bad|_,_=>.bad
@[simp] theorem ZlB:∀i j,Jw (.int i) (.int j) M=(if 0<=j/\j<=1000/\i.natAbs<1000 then .ok (.int (i^j.toNat)) M else .bad):=λ_ _=>rfl
noncomputable def cj(a:D)(M:Store):R3 D:=match a with
 | .int i=>.ok (.int (-i)) M|_=>.bad
@[simp] theorem xM:∀i,cj (.int i) M= .ok (.int (-i)) M:=λ_=>rfl
noncomputable def dD(a b:D)(M:Store):R3 D:=match a,b with
 | .int i,.int j=>.ok (.bl (decide (i<j))) M|_,_=>.bad
@[simp] theorem lu:∀i j,dD (.int i) (.int j) M= .ok (.bl (decide (i<j))) M:=λ_ _=>rfl
noncomputable def nA(a b:D)(M:Store):R3 D:=match a,b with
 | .int i,.int j=>.ok (.bl (decide (i<=j))) M|_,_=>.bad
@[simp] theorem QH:∀i j,nA (.int i) (.int j) M= .ok (.bl (decide (i<=j))) M:=λ_ _=>rfl
noncomputable def cu(a b:D)(M:Store):R3 D:=match a,b with
 | .int i,.int j=>.ok (.bl (decide (j<i))) M|_,_=>.bad
@[simp] theorem jb:∀i j,cu (.int i) (.int j) M= .ok (.bl (decide (j<i))) M:=λ_ _=>rfl
noncomputable def pZ(a b:D)(M:Store):Option Bool:=match a,b with
 | .ref n,.ref m=>match M[n]?,M[m]? with
  |some (.lst x),Ya (.lst y)=>if x.all (dB DEEP)&&y.all (dB DEEP)then Ya (iU x y)else Yn|_,_=>Yn
 | .int i,.int j=>Ya (decide (i=j))|.str x,.str y=>Ya (decide (x=y))|.bl x,.bl y=>Ya (decide (x=y))|.tup x,.tup y=>if x.all (dB DEEP)&&y.all (dB DEEP)then Ya (iU x y)else Yn
 |_,_=>Yn
@[simp] theorem zU:∀n m,pZ (.ref n) (.ref m) M=(match M[n]?,M[m]? with
  |some (.lst x),Ya (.lst y)=>if x.all (dB DEEP)&&y.all (dB DEEP)then Ya (iU x y)else Yn|_,_=>Yn):=λ_ _=>rfl
@[simp] theorem xN:∀i j,pZ (.int i) (.int j) M=Ya (decide (i=j)):=λ_ _=>rfl
@[simp] theorem xO:∀x y,pZ (.str x) (.str y) M=Ya (decide (x=y)):=λ_ _=>rfl
@[simp] theorem Jx:∀x y,pZ (.bl x) (.bl y) M=Ya (decide (x=y)):=λ_ _=>rfl
@[simp] theorem Ef:∀x y,pZ (.tup x) (.tup y) M=(if x.all (dB DEEP)&&y.all (dB DEEP)then Ya (iU x y)else Yn):=λ_ _=>rfl
@[simp] noncomputable def aV(a b:D)(M:Store):R3 D:=match pZ a b M with
 |some r=>.ok (.bl r) M|none=>.bad
@[simp] noncomputable def gq(a b:D)(M:Store):R3 D:=match pZ a b M with
 |some r=>.ok (.bl (!r)) M|none=>.bad
noncomputable def nC(a b:D)(M:Store):R3 D:=match b with
 | .non=>.ok (.bl (decide (a= .non))) M|_=>.bad
@[simp] theorem ZwO{a:D}:nC a (.non) M= .ok (.bl (decide (a= .non))) M:=rfl
noncomputable def Eg(a b:D)(M:Store):R3 D:=match b with
 | .non=>.ok (.bl (!decide (a= .non))) M|_=>.bad
@[simp] theorem ZuM{a:D}:Eg a (.non) M= .ok (.bl (!decide (a= .non))) M:=rfl
noncomputable def dg:D->Bool
 | .non=>true| .bl _=>true| .int _=>true| .str _=>true|_=>false
noncomputable def QJ(a:D)(y:List Nat):Option Bool:=match a with
 | .str [c]=>Ya (decide (c∈y))|_=>Yn
@[simp] theorem Zxo{y:List Nat}:∀c,QJ (.str [c]) y=Ya (decide (c∈y)):=λ_=>rfl
noncomputable def inD(a b:D):Option Bool:=match b with
 | .str y=>QJ a y|.tup ys=>if dg a&&ys.all dg then Ya (ys.any λy=>dM y a)else Yn|_=>Yn
@[simp] theorem ZwZ{a:D}:∀y,inD a (.str y)=QJ a y:=λ_=>rfl
@[simp] theorem ZuN{a:D}:∀ys,inD a (.tup ys)=(if dg a&&ys.all dg then Ya (ys.any λy=>dM y a)else Yn):=λ_=>rfl
@[simp] noncomputable def lz(a b:D)(M:Store):R3 D:=match inD a b with
 |some r=>.ok (.bl r) M|none=>.bad
noncomputable def jW(n:Nat)(i:Int):Option Nat:=if 0<=i then(if i<n then Ya i.toNat else Yn)else if -(n:Int)<=i then Ya (i+n).toNat else Yn
noncomputable def gw{α:Type}(xs:List α)(i:Int):Option α:=(jW xs.length i).bind λj=>xs[j]?
noncomputable def Zwt:D->Option iy
 | .int i=>Ya (.inl i)|.str x=>Ya (.inr x)|_=>Yn
noncomputable def Eh:List (iy×D)->iy->Option D
 |[],_=>Yn|(k,v)::r,x=>if k=x then Ya v else Eh r x
section
local instance (priority:=100000) AdZ (p:Prop):Decidable p:=Yx p
noncomputable def Zn(a b:D)(M:Store):R3 D:=match a,b with
 | .tup ds,.int i=>match gw ds i with
  |some d=>.ok d M|none=>.bad
 | .aY ds,.int i=>match gw ds i with
  |some d=>.ok d M|none=>.bad
 | .str x,.int i=>match gw x i with
  |some c=>if x.length<=SZ then .ok (.str [c]) M else .bad|none=>.bad
 | .ref n,.int i=>match M[n]? with
  |some (.lst ds)=>match gw ds i with
   |some d=>.ok d M|none=>.bad
  |_=>.bad
 |_,_=>.bad
@[simp] theorem QK:∀ds i,Zn (.tup ds) (.int i) M=(match gw ds i with
  |some d=>.ok d M|none=>.bad):=λ_ _=>rfl
@[simp] theorem QL:∀ds i,Zn (.aY ds) (.int i) M=(match gw ds i with
  |some d=>.ok d M|none=>.bad):=λ_ _=>rfl
@[simp] theorem Jy:∀x i,Zn (.str x) (.int i) M=(match gw x i with
  |some c=>if x.length<=SZ then .ok (.str [c]) M else .bad|none=>.bad):=λ_ _=>rfl
@[simp] theorem QM:∀n i,Zn (.ref n) (.int i) M=(match M[n]? with
  |some (.lst ds)=>match gw ds i with
   |some d=>.ok d M|none=>.bad
  |_=>.bad):=λ_ _=>rfl
end
noncomputable def Zs0:Option MO->Option (List (iy×D))
 |some (.dct kvs)=>Ya kvs|some (.cJ kvs)=>Ya kvs|_=>Yn
noncomputable def ZuY(a b:D)(M:Store):R3 D:=match a with
 | .ref n=>match Zs0 M[n]?,Zwt b with
  |some kvs,Ya x=>match Eh kvs x with
   |some d=>.ok d M|none=>.bad
  |_,_=>.bad
 |_=>.bad
@[simp] theorem Zvf{b:D}:∀n,ZuY (.ref n) b M=(match Zs0 M[n]?,Zwt b with
  |some kvs,Ya x=>match Eh kvs x with
   |some d=>.ok d M|none=>.bad
  |_,_=>.bad):=λ_=>rfl
noncomputable def aB(n d:Nat):Option Int->Nat
 |none=>d|some v=>if v<0 then(v+(n:Int)).toNat else jl v.toNat n
noncomputable def cutD{α:Type}(xs:List α)(lo hi:Option Int):List α:=(xs.drop (aB xs.length 0 lo)).take (aB xs.length xs.length hi-aB xs.length 0 lo)
noncomputable abbrev xP:=bK->Store->R3 (Option Int)
@[simp] noncomputable def fW:xP:=λ_ M=>.ok Yn M
@[simp] noncomputable def dN(f:E3):xP:=λenv M=>(f env M).bind λa M1=>match a with
 | .int i=>.ok (Ya i) M1|_=>.bad
section
local instance (priority:=100000) Ad0 (p:Prop):Decidable p:=Yx p
noncomputable def xQ(a:D)(lo hi:Option Int)(M:Store):R3 D:=match a with
 | .tup ds=>.ok (.tup (cutD ds lo hi)) M|.aY ds=>alloc (.lst (cutD ds lo hi)) M|.str x=>if x.length<=SZ then .ok (.str (cutD x lo hi)) M else .bad|.ref n=>match M[n]? with
  |some (.lst ds)=>alloc (.lst (cutD ds lo hi)) M|_=>.bad
 |_=>.bad
@[simp] theorem Ei:∀ds,xQ (.tup ds) lo hi M= .ok (.tup (cutD ds lo hi)) M:=λ_=>rfl
@[simp] theorem Ej:∀ds,xQ (.aY ds) lo hi M=alloc (.lst (cutD ds lo hi)) M:=λ_=>rfl
@[simp] theorem zV:∀x,xQ (.str x) lo hi M=(if x.length<=SZ then .ok (.str (cutD x lo hi)) M else .bad):=λ_=>rfl
@[simp] theorem zW:∀n,xQ (.ref n) lo hi M=(match M[n]? with
  |some (.lst ds)=>alloc (.lst (cutD ds lo hi)) M|_=>.bad):=λ_=>rfl
end
@[simp] noncomputable def eN(f:E3)(lo hi:xP):E3:=λenv M=>(f env M).bind λa M1=>(lo env M1).bind λl M2=>(hi env M2).bind λh M3=>xQ a l h M3
section
local instance (priority:=100000) Ad1 (p:Prop):Decidable p:=Yx p
noncomputable def aZ(ds:List D)(M:Store):R3 D:=match ds with
 |[.tup x]=>.ok (.int x.length) M|[.aY x]=>.ok (.int x.length) M|[.str x]=>if x.length<=SZ then .ok (.int x.length) M else .bad|[.ref n]=>match M[n]? with
  |some (.lst x)=>.ok (.int x.length) M|_=>.bad
 |_=>.bad
@[simp] theorem zX:∀x,aZ ([.tup x]) M= .ok (.int x.length) M:=λ_=>rfl
@[simp] theorem zY:∀x,aZ ([.aY x]) M= .ok (.int x.length) M:=λ_=>rfl
@[simp] theorem zZ:∀x,aZ ([.str x]) M=(if x.length<=SZ then .ok (.int x.length) M else .bad):=λ_=>rfl
@[simp] theorem qU:∀n,aZ ([.ref n]) M=(match M[n]? with
  |some (.lst x)=>.ok (.int x.length) M|_=>.bad):=λ_=>rfl
end
noncomputable def gA(ds:List D)(M:Store):R3 D:=match ds with
 |[.tup x]=>.ok (.tup x) M|[.aY x]=>.ok (.tup x) M|[.ref n]=>match M[n]? with
  |some (.lst x)=>.ok (.tup x) M|_=>.bad
 |_=>.bad
@[simp] theorem ZjD:∀x,gA ([.tup x]) M= .ok (.tup x) M:=λ_=>rfl
@[simp] theorem Zjx:∀x,gA ([.aY x]) M= .ok (.tup x) M:=λ_=>rfl
@[simp] theorem z_:∀n,gA ([.ref n]) M=(match M[n]? with
  |some (.lst x)=>.ok (.tup x) M|_=>.bad):=λ_=>rfl
noncomputable def tL(ds:List D)(M:Store):R3 D:=match ds with
 |[.tup x]=>alloc (.lst x) M|[.aY x]=>alloc (.lst x) M|[.ref n]=>match M[n]? with
  |some (.lst x)=>alloc (.lst x) M|_=>.bad
 |_=>.bad
@[simp] theorem ZpG:∀x,tL ([.tup x]) M=alloc (.lst x) M:=λ_=>rfl
@[simp] theorem ZpD:∀x,tL ([.aY x]) M=alloc (.lst x) M:=λ_=>rfl
@[simp] theorem Ek:∀n,tL ([.ref n]) M=(match M[n]? with
  |some (.lst x)=>alloc (.lst x) M|_=>.bad):=λ_=>rfl
inductive nu where
 |int|bool|str|list|tuple
 deriving DecidableEq
noncomputable def jG(T:nu)(d:D)(M:Store):Option Bool:=match d with
 | .non=>Ya false|.bl _=>Ya (T== .bool|| T== .int)|.int _=>Ya (T== .int)|.str _=>Ya (T== .str)
 | .tup _=>Ya (T== .tuple)|.aY _=>Yn|.ref n=>match M[n]? with
  |some (.lst _)=>Ya (T== .list)|some (.dct _)=>Ya false|some (.cJ _)=>Yn|some (.ins _ _)=>Yn
  |none=>Yn
@[simp] theorem ZnG:jG T (.non) M=Ya false:=rfl
@[simp] theorem Zog:∀w0,jG T (.bl w0) M=Ya (T== .bool|| T== .int):=λ_=>rfl
@[simp] theorem Znp:∀w0,jG T (.int w0) M=Ya (T== .int):=λ_=>rfl
@[simp] theorem ZnS:∀w0,jG T (.str w0) M=Ya (T== .str):=λ_=>rfl
@[simp] theorem Zns:∀w0,jG T (.tup w0) M=Ya (T== .tuple):=λ_=>rfl
@[simp] theorem Zn8:∀w0,jG T (.aY w0) M=Yn:=λ_=>rfl
@[simp] theorem ZnC:∀n,jG T (.ref n) M=(match M[n]? with
  |some (.lst _)=>Ya (T== .list)|some (.dct _)=>Ya false|some (.cJ _)=>Yn|some (.ins _ _)=>Yn
  |none=>Yn):=λ_=>rfl
@[simp] noncomputable def nD(T:nu)(d:D)(M:Store):R3 D:=match jG T d M with
 |some b=>.ok (.bl b) M|none=>.bad
noncomputable def Aa:D->Bool
 | .bl _=>true|_=>false
noncomputable def xR:D->Bool
 | .bl b=>b|_=>false
noncomputable def allB(l:List D):Option Bool:=if l.all Aa then Ya (l.all xR)else Yn
noncomputable def qW(ds:List D)(M:Store):R3 D:=match ds with
 | [.ref n]=>match M[n]? with
  |some (.lst x)=>match allB x with
   |some b=>.ok (.bl b) M|none=>.bad
  |_=>.bad
 |_=>.bad
@[simp] theorem Ab:∀n,qW ([.ref n]) M=(match M[n]? with
  |some (.lst x)=>match allB x with
   |some b=>.ok (.bl b) M|none=>.bad
  |_=>.bad):=λ_=>rfl
noncomputable def qX(o:D)(ds:List D)(M:Store):R3 D:=match o,ds with
 | .str x,[.str y]=>if x.length<=SZ/\y.length<=SZ then .ok (.bl (y.isPrefixOf x)) M else .bad|_,_=>.bad
@[simp] theorem El:∀x y,qX (.str x) ([.str y]) M=(if x.length<=SZ/\y.length<=SZ then .ok (.bl (y.isPrefixOf x)) M else .bad):=λ_ _=>rfl
section
local instance (priority:=100000) AdO (p:Prop):Decidable p:=Yx p
noncomputable def Zz(o:D)(ds:List D)(M:Store):R3 D:=match o,ds with
 | .ref n,[d]=>match M[n]? with
  |some (.lst x)=>if x.length<SZ then .ok .non (M.set n (.lst (x++[d])))else .bad|_=>.bad
 |_,_=>.bad
@[simp] theorem QQ:∀n d,Zz (.ref n) ([d]) M=(match M[n]? with
  |some (.lst x)=>if x.length<SZ then .ok .non (M.set n (.lst (x++[d])))else .bad|_=>.bad):=λ_ _=>rfl
end
section
local instance (priority:=100000) Ad2 (p:Prop):Decidable p:=Yx p
noncomputable def oX(o:D)(ds:List D)(M:Store):R3 D:=match o,ds with
 | .ref n,[.int i]=>match M[n]? with
  | some (.lst x)=>if -1000000<=i/\i<=1000000 then match jW x.length i with
   |some k=>match x[k]? with
    |some d=>.ok d (M.set n (.lst (x.eraseIdx k)))|none=>.bad
   |none=>.bad
   else .bad
  |_=>.bad
 | .ref n,[]=>match M[n]? with
  |some (.lst x)=>match x[x.length-1]? with
   |some d=>.ok d (M.set n (.lst x.dropLast))|none=>.bad
  |_=>.bad
 |_,_=>.bad
@[simp] theorem ZnI:∀n i,oX (.ref n) ([.int i]) M=(match M[n]? with
  | some (.lst x)=>if -1000000<=i/\i<=1000000 then match jW x.length i with
   |some k=>match x[k]? with
    |some d=>.ok d (M.set n (.lst (x.eraseIdx k)))|none=>.bad
   |none=>.bad
   else .bad
  |_=>.bad):=λ_ _=>rfl
@[simp] theorem QR:∀n,oX (.ref n) ([]) M=(match M[n]? with
  |some (.lst x)=>match x[x.length-1]? with
   |some d=>.ok d (M.set n (.lst x.dropLast))|none=>.bad
  |_=>.bad):=λ_=>rfl
end
noncomputable def g8(a:D)(_:Store):Bool:=match a with
 | .str _=>true|_=>false
@[simp] theorem Zu3{w_:Store}:∀w0,g8 (.str w0) w_=true:=λ_=>rfl
noncomputable def a_(a:D)(M:Store):Bool:=match a with
 | .ref n=>match M[n]? with
  |some (.lst _)=>true|_=>false
 |_=>false
@[simp] theorem Ac:∀n,a_ (.ref n) M=(match M[n]? with
  |some (.lst _)=>true|_=>false):=λ_=>rfl
@[simp] noncomputable def aG(ty:D->Store->Bool)(m:D->List D->Store->R3 D)(o:E3)(g:d8):E3:=λenv M=>(o env M).bind λa M1=>if ty a M1 then(g env M1).bind λds M2=>m a ds M2 else .bad
@[simp] noncomputable def aA(b:List D->Store->R3 D)(g:d8):E3:=λenv M=>(g env M).bind λds M1=>b ds M1
noncomputable def putD(k:iy)(v:D)(kvs:List (iy×D)):List (iy×D):=if(kvs.any λp=>decide (p.1=k))=true then kvs.map (λp=>if p.1=k then(p.1,v)else p)else kvs++[(k,v)]
@[simp] noncomputable def e3(op:D->D->D->Store->R3 D)(f g h:E3):E3:=λenv M=>(f env M).bind λa M1=>(g env M1).bind λb M2=>(h env M2).bind λc M3=>op a b c M3
noncomputable def QS(v a b:D)(M:Store):R3 D:=match a,b with
 | .ref n,.int i=>match M[n]? with
  |some (.lst xs)=>match jW xs.length i with
   |some j=>.ok .non (M.set n (.lst (xs.set j v)))|none=>.bad
  |_=>.bad
 |_,_=>.bad
@[simp] theorem Zjr{v:D}:∀n i,QS v (.ref n) (.int i) M=(match M[n]? with
  |some (.lst xs)=>match jW xs.length i with
   |some j=>.ok .non (M.set n (.lst (xs.set j v)))|none=>.bad
  |_=>.bad):=λ_ _=>rfl
noncomputable def Em(ds:List D)(M:Store):R3 D:=match ds with
 |[.int i]=>.ok (.int i) M|[.bl b]=>.ok (.int (if b then 1 else 0)) M|_=>.bad
@[simp] theorem ZwV:∀i,Em ([.int i]) M= .ok (.int i) M:=λ_=>rfl
@[simp] theorem ZwL:∀b,Em ([.bl b]) M= .ok (.int (if b then 1 else 0)) M:=λ_=>rfl
noncomputable def lF:List D->Option (List Int)
 |[]=>Ya []|.int i::r=>(lF r).map (i:: ·)|_::_=>Yn
noncomputable def aW:S3:=λenv M=>.nx env M
noncomputable def tM:S3:=λ_ _=>.bad
noncomputable def Zr(f g:S3):S3:=λenv M=>match f env M with
 | .nx env' M'=>g env' M'|o=>o
noncomputable def aJ(c:E3)(f g:S3):S3:=λenv M=>match c env M with
 | .ok (.bl true) M1=>f env M1|.ok (.bl false) M1=>g env M1|.exc x M1=>.exc x M1|_=>.bad
noncomputable def aX(f:E3):S3:=λenv M=>match f env M with
 | .ok d M1=>.rt d M1|.exc x M1=>.exc x M1|.bad=>.bad
noncomputable def aO(f:E3):S3:=λenv M=>match f env M with
 | .ok _ M1=>.nx env M1|.exc x M1=>.exc x M1|.bad=>.bad
noncomputable def aq(i:Nat)(f:E3):S3:=λenv M=>match f env M with
 | .ok d M1=>.nx (env.set i (Ya d)) M1|.exc x M1=>.exc x M1|.bad=>.bad
noncomputable def qY(o i f:E3):S3:=aO (e3 QS f o i)
noncomputable def QT:S3:=λenv M=>.bk env M
noncomputable abbrev G3:=D->bK->Option bK
@[simp] noncomputable def cg(i:Nat):G3:=λd env=>Ya (env.set i (Ya d))
noncomputable def bindAll:List Nat->List D->bK->Option bK
 |[],[],env=>Ya env|i::is,d::ds,env=>bindAll is ds (env.set i (Ya d))|_,_,_=>Yn
@[simp] theorem Jz:∀env,bindAll ([]) ([]) (env)=Ya env:=λ_=>rfl
@[simp] theorem JB:∀i is d ds env,bindAll (i::is) (d::ds) (env)=bindAll is ds (env.set i (Ya d)):=λ_ _ _ _ _=>rfl
@[simp] noncomputable def nF(is:List Nat):G3:=λd env=>match d with
 | .tup ds=>bindAll is ds env|_=>Yn
structure fU where
 items:List D
 lock:Option Nat
noncomputable abbrev I3:=bK->Store->R3 fU
section
local instance (priority:=100000) AdP (p:Prop):Decidable p:=Yx p
@[simp] noncomputable def cV(f:E3):I3:=λenv M=>(f env M).bind λa M1=>match a with
 | .tup ds=>.ok ⟨ds,Yn⟩ M1|.aY ds=>.ok ⟨ds,Yn⟩ M1|.str x=>if x.length<=SZ then .ok ⟨x.map λc=>.str [c],Yn⟩ M1 else .bad|.ref n=>match M1[n]? with
  |some (.lst ds)=>.ok ⟨ds,Ya n⟩ M1|_=>.bad
 |_=>.bad
end
noncomputable def lG(lo:Int)(n:Nat):List D:=(gU n).map λ(k:Nat)=>D.int (lo+(k:Int))
section
local instance (priority:=100000) AdQ (p:Prop):Decidable p:=Yx p
@[simp] noncomputable def qZ(f:E3):I3:=λenv M=>(f env M).bind λa M1=>match a with
 | .int j=>if j<=1000000/\ -1000000<=j then .ok ⟨lG 0 j.toNat,Yn⟩ M1 else .bad|_=>.bad
end
noncomputable def locked(it:fU)(M:Store):Bool:=match it.lock with
 |none=>true|some n=>decide (M[n]?=Ya (.lst it.items))
noncomputable def iV(it:fU)(g:G3)(body:S3):List D->bK->Store->O3
 |[],env,M=>if locked it M then .nx env M else .bad|d::ds,env,M=>if locked it M then match g d env with
  |none=>.bad|some cZ=>match body cZ M with
   | .nx e M'=>iV it g body ds e M'|.ct e M'=>iV it g body ds e M'|.bk e M'=>.nx e M'|o=>o
  else .bad
theorem vB{g:G3}{body:S3}:iV it g body [] env M=if locked it M then .nx env M else .bad:=rfl
theorem tO{g:G3}{body:S3}{d:D}{ds:List D}:iV it g body (d::ds) env M=if locked it M then match g d env with
  |none=>.bad|some cZ=>match body cZ M with
   | .nx e M'=>iV it g body ds e M'|.ct e M'=>iV it g body ds e M'|.bk e M'=>.nx e M'|o=>o
  else .bad:=rfl
noncomputable def p6(i:I3)(g:G3)(body:S3):S3:=λenv M=>match i env M with
 | .ok it M1=>iV it g body it.items env M1|.exc x M1=>.exc x M1|.bad=>.bad
noncomputable def q8(c:E3)(body:S3):Nat->bK->Store->O3
 |0,_,_=>.bad|n+1,env,M=>match c env M with
  | .ok (.bl true) M1=>match body env M1 with
   | .nx e M'=>q8 c body n e M'|.ct e M'=>q8 c body n e M'|.bk e M'=>.nx e M'|o=>o
  | .ok (.bl false) M1=>.nx env M1|.exc x M1=>.exc x M1|_=>.bad
theorem Ad{c:E3}{body:S3}{n:Nat}:q8 c body (n+1) env M=match c env M with
  | .ok (.bl true) M1=>match body env M1 with
   | .nx e M'=>q8 c body n e M'|.ct e M'=>q8 c body n e M'|.bk e M'=>.nx e M'|o=>o
  | .ok (.bl false) M1=>.nx env M1|.exc x M1=>.exc x M1|_=>.bad:=rfl
noncomputable def QV(c:E3)(body:S3):S3:=q8 c body 1000000
noncomputable def tQ:List E3->bK->Store->R3 Bool
 |[],_,M=>.ok true M|c::cs,env,M=>(c env M).bind λa M1=>match a with
  | .bl true=>tQ cs env M1|.bl false=>.ok false M1|_=>.bad
theorem Eo:tQ [] env M= .ok true M:=rfl
theorem Ep{c:E3}{cs:List E3}:tQ (c::cs) env M=(c env M).bind λa M1=>match a with
  | .bl true=>tQ cs env M1|.bl false=>.ok false M1|_=>.bad:=rfl
section
local instance (priority:=100000) Abf (p:Prop):Decidable p:=Yx p
noncomputable def iW(it:fU)(g:G3)(ifs:List E3)(elt:E3)(n:Nat):List D->bK->Store->R3 D
 |[],_,M=>if locked it M then .ok (.ref n) M else .bad|d::ds,env,M=>if locked it M then match g d env with
  |none=>.bad|some cZ=>(tQ ifs cZ M).bind λb M1=>if b then(elt cZ M1).bind λe M2=>match M2[n]? with
    |some (.lst x)=>if x.length<SZ then iW it g ifs elt n ds cZ (M2.set n (.lst (x++[e])))else .bad|_=>.bad
   else iW it g ifs elt n ds cZ M1
  else .bad
theorem QW{g:G3}{ifs:List E3}{elt:E3}{n:Nat}:iW it g ifs elt n [] env M=if locked it M then .ok (.ref n) M else .bad:=rfl
theorem JC{g:G3}{ifs:List E3}{elt:E3}{n:Nat}{d:D}{ds:List D}:iW it g ifs elt n (d::ds) env M=if locked it M then match g d env with
  |none=>.bad|some cZ=>(tQ ifs cZ M).bind λb M1=>if b then(elt cZ M1).bind λe M2=>match M2[n]? with
    |some (.lst x)=>if x.length<SZ then iW it g ifs elt n ds cZ (M2.set n (.lst (x++[e])))else .bad|_=>.bad
   else iW it g ifs elt n ds cZ M1
  else .bad:=rfl
end
noncomputable def fK(i:I3)(own:Nat)(g:G3)(ifs:List E3)(elt:E3):E3:=λenv M=>(i env M).bind λit M1=>iW it g ifs elt M1.length it.items (env++Yq own Yn) (M1++[.lst []])
noncomputable def vC(n:Nat):MO->Bool
 | .lst xs=>bR n xs|.dct kvs=>bR n (kvs.map (·.2))|.cJ kvs=>bR n (kvs.map (·.2))|.ins _ fs=>bR n (fs.map (·.2))
noncomputable def dW(M:Store)(d:D)(M':Store):R3 D:=if below M.length d&&(decide (M'.take M.length=M)|| (M'.take M.length).all (vC M.length))then .ok d (M'.take M.length)else .ok d M'
noncomputable def bY(ps n:Nat)(body:S3):F3:=λds M=>if ds.length=ps then match body (ds.map Ya++Yq (n-ps) Yn) M with
  | .nx _ M'=>dW M .non M'|.rt d M'=>dW M d M'|.exc x M'=>.exc x M'|_=>.bad
 else .bad
end
end L3
namespace L3
variable{i n:Nat}
theorem Zpw{it:fU}{elt:E3}{R:D->D->Prop}{env0:bK}:∀(ds:List D) (acc:List D) (env:bK) (M:Store),(∀d,env.set i (Ya d)=env0.set i (Ya d)) ->
  (∀d∈ds,∀x,∃e,elt (env0.set i (Ya d)) (M.set n (.lst x))= .ok e (M.set n (.lst x))/\R d e)->(∀x,locked it (M.set n (.lst x))=true)->M[n]?=Ya (.lst acc)->acc.length+ds.length<=SZ ->
  ∃es,es.length=ds.length/\(∀(j:Nat) d e,ds[j]?=Ya d->es[j]?=Ya e->R d e)/\iW it (cg i) [] elt n ds env M= .ok (.ref n) (M.set n (.lst (acc++es))):=by
 intro ds
 induction ds with
 | nil=>
  intro acc env M _ _ hl hM _;have e:M.set n (.lst acc)=M:=by
   apply yV;intro j;by_cases hj:j=n
   .subst hj;rw[Y0 (Yf.mp hM).1,hM]
   .rw[Yr (cO hj)]
  have hl':=hl acc;rw[e]at hl';exact⟨[],rfl,λj d e h=>by simp at h,by simp only[QW,JC,hl',if_true,jQ,e]⟩
 | cons d ds ih=>
  intro acc env M he hf hl hM hz;have hn:n<M.length:=(Yf.mp hM).1;have e:M.set n (.lst acc)=M:=by
   apply yV;intro j;by_cases hj:j=n
   .subst hj;rw[Y0 hn,hM]
   .rw[Yr (cO hj)]
  have hl':=hl acc;rw[e]at hl';obtain⟨v,hf',hR⟩:=hf d Yd acc;rw[e]at hf';have hz':acc.length<SZ:=by simp at hz ⊢;exact lB 1 0xf42405b01f42405ba1c0c01 T1 hz
  obtain⟨es,le,re,h⟩:=ih (acc++[v]) (env0.set i (Ya d)) (M.set n (.lst (acc++[v]))) (λd'=>by rw[CZ]) (λd' hd' x=>by rw[CZ];exact hf d' (Yc _ hd') x) (λx=>by rw[CZ];exact hl x) (by rw[Y0 hn]) (by simp at hz ⊢;exact lB 1 0xf42405b1a0cc0f42405ba1c0c01 T1 hz);refine⟨v::es,by simp[le],λj d' e' h1 h2=>?_,?_⟩
  .cases j with
   |zero=>simp at h1 h2;subst h1 h2;exact hR|succ j=>exact re j d' e' (by simpa using h1) (by simpa using h2)
  .simp only[JC,hl',if_true,cg,he d,Eo,Ep,R3.AaX,hf',hM,hz'];rw[h,CZ];simp
variable{env env':bK}{M M':Store}
theorem Zi{f g:S3}(h:f env M= .nx env' M'):Zr f g env M=g env' M':=by rw[Zr,h]
variable{d:D}
theorem q9{f g:S3}(h:f env M= .rt d M'):Zr f g env M= .rt d M':=by rw[Zr,h]
theorem eY{c:E3}{f g:S3}(h:c env M= .ok (.bl true) M'):aJ c f g env M=f env M':=by rw[aJ,h]
theorem nG{c:E3}{f g:S3}(h:c env M= .ok (.bl false) M'):aJ c f g env M=g env M':=by rw[aJ,h]
variable{f:E3}
theorem dh(h:f env M= .ok d M'):aX f env M= .rt d M':=by rw[aX,h]
theorem Zo(h:f env M= .ok d M')(he:env.set i (Ya d)=env':=by first|(dsimp only[oG,oH]<;>exact rfl)|exact rfl):aq i f env M= .nx env' M':=by rw[aq,h];simp only[he]
theorem cR{c:E3}{f:S3}(h:c env M= .ok (.bl false) M'):aJ c f aW env M= .nx env M':=by rw[aJ,h];rfl
theorem p7(h:f env M= .ok d M'):aO f env M= .nx env M':=by rw[aO,h]
theorem xT{i:I3}{g:G3}{u:S3}{it:fU}(h:i env M= .ok it M'):p6 i g u env M=iV it g u it.items env M':=by rw[p6,h]
theorem QX{i:I3}{own:Nat}{g:G3}{ts:List E3}{it:fU}(h:i env M= .ok it M'):fK i own g ts f env M=iW it g ts f M'.length it.items (env++Yq own Yn) (M'++[.lst []]):=by rw[fK,h];rfl
variable{body:S3}{ds:List D}
theorem jy{ps:Nat}(h:body env M= .rt d M')(hl:ds.length=ps:=by rfl)(he:ds.map Ya++Yq (n-ps) Yn=env:=by rfl):bY ps n body ds M=dW M d M':=by rw[bY,if_pos hl,he,h]
theorem Er{ps:Nat}(h:body env M= .nx env' M')(hl:ds.length=ps:=by rfl)(he:ds.map Ya++Yq (n-ps) Yn=env:=by rfl):bY ps n body ds M=dW M .non M':=by rw[bY,if_pos hl,he,h]
theorem ZqO{G:Store}(h:below M.length d=true):dW M d (M++G)= .ok d M:=by simp[dW,h]
theorem ZjI(h:below M.length d=true):dW M d M= .ok d M:=by simp[dW,h]
variable{α:Type}
theorem Zq(M:List α)(x:α)(xs:List α):(M++x::xs)[M.length]?=Ya x:=by simp
theorem q_(M xs:List α)(k:Nat):(M++xs)[M.length+k]?=xs[k]?:=by rw[wJ (m9 _ _)];congr 1;exact iR (lC 1 2199589555233 T1 (m5 (m9 _ _))) (lC 1 2267788938241 T1 (nj _ _))
theorem JD(M xs:List α)(k:Nat)(o:α):(M++xs).set (M.length+k) o=M++xs.set k o:=by rw[List.set_append_right _ _ (m9 _ _)];congr 2;exact iR (lC 1 2199589555233 T1 (m5 (m9 _ _))) (lC 1 2267788938241 T1 (nj _ _))
theorem bO{M:List α}{o:α}(h:M[n]?=Ya o)(xs:List α):(M++xs)[n]?=Ya o:=by rw[Yi (Yf.mp h).1,h]
theorem eZ(xs:List α)(k:Nat):gw xs (k:Int)=xs[k]?:=by
 unfold gw jW;rw[if_pos (Dp k)];by_cases h:k<xs.length
 .rw[if_pos (Ih.2 h)];simp
 .rw[if_neg (by exactλz=>iN [_,_] [] 2 6667149772945 T1 z h)];simp at h ⊢;exact h
@[simp] theorem Zvh(xs:List α)(k:Nat):gw xs (k:Int)=xs[k]?:=eZ xs k
@[simp] theorem Zv7(xs:List α)(n:Nat):gw xs (no_index (Dw n:Int))=xs[(Dw n:Nat)]?:=eZ xs n
@[simp] theorem Zvo(xs:List α):gw xs (-1)=xs.getLast?:=by
 unfold gw jW;rw[if_neg (by decide),List.getLast?_eq_getElem?];by_cases h:0<xs.length
 .rw[if_pos (by exact iN [_] [] 1 725993655825 T1 h)];simp only[VR];congr 1;exact iR (iN [_,_,_] [] 2 0x200a2c10118a9c08a1 T1 (sS (iN [_] [] 1 595337940497 T1 h)) (nj _ _)) (iN [_,_,_] [] 2 0x1200a2c211808a9c81 T1 (Dq _) (m5 (lA 1 10489361 T1 h)))
 .have:xs=[]:=by simpa using h
  subst this;rfl
theorem Znh(n k:Nat):jW n (k:Int)=if k<n then Ya k else Yn:=by
 unfold jW;rw[if_pos (Dp k)];by_cases h:k<n
 .rw[if_pos (Ih.2 h),if_pos h];simp
 .rw[if_neg (by exactλz=>iN [_,_] [] 2 6667149772945 T1 z h),if_neg h]
@[simp] theorem ZvA(n k:Nat):jW n (k:Int)=if k<n then Ya k else Yn:=Znh n k
@[simp] theorem ZwT(m n:Nat):jW m (no_index (Dw n:Int))=if(Dw n:Nat)<m then Ya (Dw n:Nat)else Yn:=Znh m n
theorem getD_last(xs:List α)(x:α):gw (xs++[x]) (-1)=Ya x:=by
 unfold gw jW;rw[if_neg (by decide),if_pos (by simp;exact iN [_] [] 0 10521768 T1)];have:(-1+((xs++[x]).length:Int)).toNat=xs.length:=by simp;exact iR (iN [_,_] [] 1 4514701222086817 T1 (sS (iN [_] [] 0 43097169128 T1))) (iN [_,_] [] 1 4505291991981185 T1 (Dq _))
 simp only[VR,this];simp
theorem ZsE(xs:List α)(k:Nat)(h:xs.length<=k):cutD xs Yn (Ya (k:Int))=xs:=by unfold cutD aB;simp only[Hi];rw[if_neg (by exactλz=>iN [_] [] 1 7211153 T1 z),qI (by simp;omega)]
inductive Row where
 |put (a:Nat) (n:Int)|add (a b c:Nat)|sub (a b c:Nat)|more (a b c:Nat)|get (a b:Nat)|set (a b:Nat)|jump (k:Nat)|when (a k:Nat)|tell (a:Nat)|halt
 deriving Inhabited
noncomputable def Row.ok(many:Nat):Row->Prop
 | .put a _=>a<8|.add a b c=>a<8/\b<8/\c<8|.sub a b c=>a<8/\b<8/\c<8|.more a b c=>a<8/\b<8/\c<8
 | .get a b=>a<8/\b<8|.set a b=>a<8/\b<8|.jump k=>k<many|.when a k=>a<8/\k<many
 | .tell a=>a<8|.halt=>True
noncomputable def Row.tells(bs:List Int):Row->Option Int
 | .tell a=>bs[a]?|_=>Yn
noncomputable def Row.qF:Row->Bool
 | .halt=>true|_=>false
variable{a:Nat}
@[simp] theorem Zvm{n:Int}{bs:List Int}:(Row.put a n).tells bs=Yn:=rfl
@[simp] theorem Zu6{n:Int}:(Row.put a n).qF=false:=rfl
variable{c:Nat}
@[simp] theorem Zvk{b:Nat}{bs:List Int}:(Row.add a b c).tells bs=Yn:=rfl
@[simp] theorem ZuQ{b:Nat}:(Row.add a b c).qF=false:=rfl
@[simp] theorem Zvp{b:Nat}{bs:List Int}:(Row.sub a b c).tells bs=Yn:=rfl
@[simp] theorem Zu1{b:Nat}:(Row.sub a b c).qF=false:=rfl
@[simp] theorem Ztp{b:Nat}{bs:List Int}:(Row.more a b c).tells bs=Yn:=rfl
@[simp] theorem ZsT{b:Nat}:(Row.more a b c).qF=false:=rfl
@[simp] theorem Zvn{b:Nat}{bs:List Int}:(Row.get a b).tells bs=Yn:=rfl
@[simp] theorem Ztz{b:Nat}:(Row.get a b).qF=false:=rfl
@[simp] theorem Zvi{b:Nat}{bs:List Int}:(Row.set a b).tells bs=Yn:=rfl
@[simp] theorem ZuC{b:Nat}:(Row.set a b).qF=false:=rfl
@[simp] theorem ZuA{k:Nat}{bs:List Int}:(Row.jump k).tells bs=Yn:=rfl
@[simp] theorem Zs9{k:Nat}:(Row.jump k).qF=false:=rfl
@[simp] theorem Zuw{k:Nat}{bs:List Int}:(Row.when a k).tells bs=Yn:=rfl
@[simp] theorem ZsW{k:Nat}:(Row.when a k).qF=false:=rfl
@[simp] theorem ZuZ{bs:List Int}:(Row.tell a).tells bs=bs[a]?:=rfl
@[simp] theorem Ztc:(Row.tell a).qF=false:=rfl
@[simp] theorem ZtC{bs:List Int}:(Row.halt).tells bs=Yn:=rfl
@[simp] theorem ZsX :(Row.halt).qF=true:=rfl
mutual
theorem ZoZ:∀(n:Nat) (d:D),dB n d=true->dM d d=true
 |_,.non,_=>rfl|_,.bl b,_=>beq_self_eq_true b|_,.int b,_=>beq_self_eq_true b|_,.str b,_=>beq_self_eq_true b
 |0,.tup _,h=>ft h|n+1,.tup ds,h=>ZiN n ds (gQ.mp h)|n,.aY _,h=>by cases n<;>exact ft h|n,.ref _,h=>by cases n<;>exact ft h
theorem ZiN:∀(n:Nat) (ds:List D),(∀d∈ds,dB n d=true)->iU ds ds=true
 |_,[],_=>rfl|n,d::ds,h=>by simp only[ZtF,QC,Y4];exact⟨ZoZ n d (h d Yd),ZiN n ds λx hx=>h x (Yc _ hx)⟩
end
def Rt(o:O3)(d:D):Prop:=∃M',o= .rt d M'
theorem Rt.set{g:S3}{r:D}(h:f env M= .ok d M')(k:Rt (g env' M') r)(he:env.set i (Ya d)=env':=by first|(dsimp only[oG,oH]<;>exact rfl)|exact rfl):Rt (Zr (aq i f) g env M) r:=by rw[Rt,Zi (Zo h he)];exact k
theorem Rt.expr{g:S3}{r:D}(h:f env M= .ok d M')(k:Rt (g env M') r):Rt (Zr (aO f) g env M) r:=by rw[Rt,Zi (p7 h)];exact k
theorem Rt.skip{c:E3}{u g:S3}{r:D}(h:c env M= .ok (.bl false) M')(k:Rt (g env M') r):Rt (Zr (aJ c u aW) g env M) r:=by rw[Rt,Zi (cR h)];exact k
theorem Rt.loop{i:I3}{t:G3}{u g:S3}{M M' M1:Store}{it:fU}{r:D}(h:i env M= .ok it M1)(hl:iV it t u it.items env M1= .nx env' M')(k:Rt (g env' M') r):Rt (Zr (p6 i t u) g env M) r:=by rw[Rt,Zi ((xT h).trans hl)];exact k
theorem Rt.step{f g:S3}{r:D}(h:f env M= .nx env' M')(k:Rt (g env' M') r):Rt (Zr f g env M) r:=by rw[Rt,Zi h];exact k
theorem Rt.ret(h:f env M= .ok d M'):Rt (aX f env M) d:=⟨M',dh h⟩
theorem Rt.law{ps:Nat}{b:Bool}(h:Rt (body env []) (.bl b))(hl:ds.length=ps:=by rfl)(he:ds.map Ya++Yq (n-ps) Yn=env:=by rfl):∃M',bY ps n body ds []= .ok (.bl b) M':=by obtain⟨M',h⟩:=h;exact⟨_,(jy h hl he).trans (by rw[dW,if_pos (by simp[below])])⟩
theorem Rt.pure{ps:Nat}{G:Store}(h:body env M= .rt d (M++G))(hd:below M.length d=true)(hl:ds.length=ps:=by rfl)(he:ds.map Ya++Yq (n-ps) Yn=env:=by rfl):bY ps n body ds M= .ok d M:=(jy h hl he).trans (ZqO hd)
variable{g:E3}
theorem Zh{op:D->D->Store->R3 D}{M M1 M2 M3:Store}{a b d:D}(h1:f env M= .ok a M1)(h2:g env M1= .ok b M2)(h3:op a b M2= .ok d M3):e2 op f g env M= .ok d M3:=by simp only[e2,h1,h2,h3,R3.bind]
variable{F:F3}
theorem d9{M M1 M2:Store}{a:D}(h1:f env M= .ok a M1)(h2:F [a] M1= .ok d M2):aM F (Zb f Zf) env M= .ok d M2:=by simp only[aM,Zb,Zf,h1,h2,R3.bind]
theorem tR{M M1 M2 M3:Store}{a b d:D}(h1:f env M= .ok a M1)(h2:g env M1= .ok b M2)(h3:F [a,b] M2= .ok d M3):aM F (Zb f (Zb g Zf)) env M= .ok d M3:=by simp only[aM,Zb,Zf,h1,h2,h3,R3.bind]
theorem Zty{h:E3}{M M1 M2 M3 M4:Store}{a b c d:D}(h1:f env M= .ok a M1)(h2:g env M1= .ok b M2)(h3:h env M2= .ok c M3)(h4:F [a,b,c] M3= .ok d M4):aM F (Zb f (Zb g (Zb h Zf))) env M= .ok d M4:=by simp only[aM,Zb,Zf,h1,h2,h3,h4,R3.bind]
@[simp] theorem Zxa(a b:nu):(a==b)=decide (a=b):=by cases a<;>cases b<;>rfl
theorem Es{f g h k:E3}{M M1 M2 M3 M4 M5:Store}{a b c d e:D}(h1:f env M= .ok a M1)(h2:g env M1= .ok b M2)(h3:h env M2= .ok c M3)(h4:k env M3= .ok d M4)(h5:F [a,b,c,d] M4= .ok e M5):aM F (Zb f (Zb g (Zb h (Zb k Zf)))) env M= .ok e M5:=by simp only[aM,Zb,Zf,h1,h2,h3,h4,h5,R3.bind]
theorem b7{b:List D->Store->R3 D}{M M1 M2:Store}{a:D}(h1:f env M= .ok a M1)(h2:b [a] M1= .ok d M2):aA b (Zb f Zf) env M= .ok d M2:=by simp only[aA,Zb,Zf,h1,h2,R3.bind]
theorem fL{op:D->Store->R3 D}{M M1 M2:Store}{a:D}(h1:f env M= .ok a M1)(h2:op a M1= .ok d M2):e1 op f env M= .ok d M2:=by simp only[e1,h1,h2,R3.bind]
theorem Zx{g:d8}{M M1 M2:Store}(h1:f env M= .ok d M1)(h2:g env M1= .ok ds M2):Zb f g env M= .ok (d::ds) M2:=by simp only[Zb,h1,h2,R3.bind]
theorem lH{g:d8}(h:g env M= .ok ds M')(hl:decide (ds.length<=100)=true):fV g env M= .ok (.tup ds) M':=by have:=of_decide_eq_true hl;simp only[fV,h,R3.bind];rw[if_pos (Yk this (by decide))]
variable{xs:List D}
theorem jX(h:M[n]?=Ya (.lst xs)):aZ [.ref n] M= .ok (.int (xs.length:Int)) M:=by simp only[zX,zY,zZ,qU,h]
theorem oY(h:M[n]?=Ya (.lst xs)):gA [.ref n] M= .ok (.tup xs) M:=by simp only[ZjD,Zjx,z_,h]
theorem iB{i:Int}(h:M[n]?=Ya (.lst xs))(hd:gw xs i=Ya d):Zn (.ref n) (.int i) M= .ok d M:=by simp only[QK,QL,Jy,QM,h,hd]
theorem xU{i:Int}(hd:gw xs i=Ya d):Zn (.tup xs) (.int i) M= .ok d M:=by simp only[QK,QL,Jy,QM,hd]
theorem JF{a b:Int}(h:a<=b):nA (.int a) (.int b) M= .ok (.bl true) M:=by simp only[QH,decide_eq_true h]
theorem Zxx{a b:Int}(h:¬a<=b):nA (.int a) (.int b) M= .ok (.bl false) M:=by simp only[QH,decide_eq_false h]
theorem rm{a b:Int}(h:a=b):aV (.int a) (.int b) M= .ok (.bl true) M:=by simp only[aV,zU,xN,xO,Jx,Ef,decide_eq_true h]
theorem vD{a b:Int}(h:¬a=b):aV (.int a) (.int b) M= .ok (.bl false) M:=by simp only[aV,zU,xN,xO,Jx,Ef,decide_eq_false h]
theorem Zxp{a b:List Nat}(h:¬a=b):gq (.str a) (.str b) M= .ok (.bl true) M:=by simp only[gq,zU,xN,xO,Jx,Ef,decide_eq_false h];rfl
theorem ZwE{a b:List Nat}(h:a=b):gq (.str a) (.str b) M= .ok (.bl false) M:=by simp only[gq,zU,xN,xO,Jx,Ef,decide_eq_true h];rfl
theorem dX{i j:Int}(h:0<j):Zy (.int i) (.int j) M= .ok (.int (i % j)) M:=by simp only[Zk9,if_pos h]
theorem oZ{M M1:Store}(h1:f env M= .ok (.bl false) M1):eG f g env M=g env M1:=by simp only[eG,h1,R3.bind]
theorem Et{M M1:Store}(h1:f env M= .ok (.bl true) M1):eG f g env M= .ok (.bl true) M1:=by simp only[eG,h1,R3.bind]
theorem iC{M M1:Store}(h1:f env M= .ok (.bl true) M1):bC f g env M=g env M1:=by simp only[bC,h1,R3.bind]
theorem lJ{M M1:Store}(h1:f env M= .ok (.bl false) M1):bC f g env M= .ok (.bl false) M1:=by simp only[bC,h1,R3.bind]
theorem Eu{c:E3}{M M1:Store}(h1:c env M= .ok (.bl true) M1):jV c f g env M=f env M1:=by simp only[jV,h1,R3.bind]
theorem Ew{c:E3}{M M1:Store}(h1:c env M= .ok (.bl false) M1):jV c f g env M=g env M1:=by simp only[jV,h1,R3.bind]
theorem vG{enc:α->D}{h:α->D}{own:Nat}{it:I3}{elt:E3}{M M1:Store}{lock:Option Nat}{as:List α}(hi:it env M= .ok ⟨as.map enc,lock⟩ M1)(Mj:∀n,lock=Ya n->M1[n]?=Ya (.lst (as.map enc)))(he:∀a∈as,∀M,elt ((env++Yq own Yn).set i (Ya (enc a))) M= .ok (h a) M)(hz:as.length<=100000):fK it own (cg i) [] elt env M= .ok (.ref M1.length) (M1++[.lst (as.map h)]):=by
 rw [QX hi];obtain⟨es,le,re,hh⟩:=Zpw (it:=⟨as.map enc,lock⟩) (i:=i) (n:=M1.length) (elt:=elt) (R:=λd e=>∀a∈as,d=enc a->e=h a) (env0:=env++Yq own Yn) (as.map enc) [] (env++Yq own Yn) (M1++[.lst []]) (λ_=>rfl)
  (λd hd x=>by obtain⟨a,ha,rfl⟩:=gH.mp hd;refine⟨h a,he a ha _,λb hb e=>?_⟩;have h1:=he a ha [];have h2:=he b hb [];rw[e,h2]at h1;injection h1 with h1 _;exact h1.symm)
  (λx=>by
   cases lock with
   |none=>rfl|some n=>have hn:=Mj n rfl;have hlt:=(Yf.mp hn).1;simp only[locked,decide_eq_true_eq];rw[Yr (by exactλz=>lB 2 25787699233 T1 z hlt),Yi hlt,hn]) (by simp) (by simp;exact lA 1 0xf42405b00186a05b001 T1 hz)
 rw [show(⟨as.map enc,lock⟩:fU).items=as.map enc from rfl,hh];have:es=as.map h:=by
  apply yV;intro j;rw[jO];cases ha:as[j]? with
  |none=>
   have:as.length<=j:=by simpa using ha
   simp[le];exact this
  | some a=>
   have hj:j<es.length:=by have:=(Yf.mp ha).1;simpa[le]using this
   have h2:=re j (enc a) es[j] (by simp[ha]) (by simp[hj]) a (wL ha) rfl;rw[Y7 hj,h2];rfl
 rw[this];simp
noncomputable def ZrE(cs:List (Int×Int))(n v:Int):List (Int×Int):=cs.filter (λc=>decide (c.1<n))++(if v≠0 then[(n,v)]else[])++cs.filter (λc=>decide (n<c.1))
noncomputable def Row.cells(bs:List Int)(cs:List (Int×Int)):Row->List (Int×Int)
 | .set a b=>ZrE cs (bs.getD a 0) (bs.getD b 0)|_=>cs
noncomputable def gK(i:Int):List Nat:=(PySem.Str.ofString (Dy i)).cps.toList
noncomputable section
local instance (priority:=100000) Ad3 (p:Prop):Decidable p:=Yx p
noncomputable def xV(ds:List D)(M:Store):R3 D:=match ds with
 |[.int i]=>if i.natAbs.log2<1920 then .ok (.str (gK i)) M else .bad|[.str x]=>.ok (.str x) M|_=>.bad
@[simp] theorem ZnD:∀i,xV ([.int i]) M=(if i.natAbs.log2<1920 then .ok (.str (gK i)) M else .bad):=λ_=>rfl
@[simp] theorem ZsL:∀x,xV ([.str x]) M= .ok (.str x) M:=λ_=>rfl
noncomputable def g_:List D->Option (List (List Nat))
 |[]=>Ya []|.str x::ds=>(g_ ds).map (x:: ·)|_=>Yn
noncomputable def glue(sep:List Nat):List (List Nat)->List Nat
 |[]=>[]|[x]=>x|x::y::xs=>x++sep++glue sep (y::xs)
noncomputable def jY(sep:List Nat)(ts:List (List Nat)):Nat:=(ts.map λt=>t.length+sep.length).sum
noncomputable def Ae(o:D)(ds:List D)(M:Store):R3 D:=match o,ds with
 | .str sep,[.ref n]=>match M[n]? with
  |some (.lst x)=>match g_ x with
   |some ts=>if jY sep ts<=SZ then .ok (.str (glue sep ts)) M else .bad|none=>.bad
  |_=>.bad
 |_,_=>.bad
@[simp] theorem Zlj:∀sep n,Ae (.str sep) ([.ref n]) M=(match M[n]? with
  |some (.lst x)=>match g_ x with
   |some ts=>if jY sep ts<=SZ then .ok (.str (glue sep ts)) M else .bad|none=>.bad
  |_=>.bad):=λ_ _=>rfl
noncomputable def nH(x y:List Nat):List (List Nat):=(ZM ⟨x.toArray⟩ ⟨y.toArray⟩).map λt=>t.cps.toList
noncomputable def vH(o:D)(ds:List D)(M:Store):R3 D:=match o,ds with
 | .str x,[.str y]=>if 0<y.length/\x.length+2<=SZ then alloc (.lst ((nH x y).map D.str)) M else .bad|_,_=>.bad
@[simp] theorem ZjG:∀x y,vH (.str x) ([.str y]) M=(if 0<y.length/\x.length+2<=SZ then alloc (.lst ((nH x y).map D.str)) M else .bad):=λ_ _=>rfl
noncomputable def tU(ds:List D)(M:Store):R3 D:=match ds with
 |[.str x]=>match Hs ⟨x.toArray⟩with
  |some n=>if x.length<=640 then .ok (.int n) M else .bad|none=>.bad
 |ds=>Em ds M
@[simp] theorem Zql:∀x,tU ([.str x]) M=(match Hs ⟨x.toArray⟩with
  |some n=>if x.length<=640 then .ok (.int n) M else .bad|none=>.bad):=λ_=>rfl
@[simp] theorem Zpu:∀i,tU [.int i] M= .ok (.int i) M:=λ_=>rfl
@[simp] theorem Zv9:∀b,tU [.bl b] M=Em [.bl b] M:=λ_=>rfl
@[simp] noncomputable def Ey(T1 T2:nu)(d:D)(M:Store):R3 D:=match jG T1 d M,jG T2 d M with
 |some a,Ya b=>.ok (.bl (a|| b)) M|_,_=>.bad
end
noncomputable section
noncomputable def Zyj(f:E3)(g:G3):S3:=λenv M=>match f env M with
 | .ok d M1=>match g d env with
  |some cZ=>.nx cZ M1|none=>.bad
 | .exc x M1=>.exc x M1|.bad=>.bad
structure Ez where
 items:List D
 lk:List (Nat×List D)
noncomputable def jn(lk:List (Nat×List D))(M:Store):Bool:=lk.all λq=>decide (M[q.1]?=Ya (.lst q.2))
noncomputable abbrev xW:=bK->Store->R3 Ez
noncomputable def lK:Nat->List D->List D
 |_,[]=>[]|k,d::ds=>.tup [.int k,d]::lK (k+1) ds
@[simp] noncomputable def QZ(f:E3):xW:=λenv M=>(f env M).bind λa M1=>match a with
 | .tup ds=>.ok ⟨lK 0 ds,[]⟩ M1|.ref n=>match M1[n]? with
  |some (.lst ds)=>.ok ⟨lK 0 ds,[(n,ds)]⟩ M1|_=>.bad
 |_=>.bad
noncomputable def p8(f:E3)(is:List Nat):S3:=λenv M=>match f env M with
 | .ok (.ref n) M1=>(match M1[n]? with
  |some (.lst ds)=>(match bindAll is ds env with
   |some cZ=>.nx cZ M1|none=>.bad)
  |_=>.bad)
 |_=>.bad
noncomputable def xX(a b:D)(M:Store):R3 D:=match b with
 | .ref n=>match M[n]? with
  |some (.lst ys)=>if dg a&&ys.all dg then .ok (.bl (ys.any λy=>dM y a)) M else .bad|_=>.bad
 |_=>.bad
@[simp] theorem Zqy{a:D}:∀n,xX a (.ref n) M=(match M[n]? with
  |some (.lst ys)=>if dg a&&ys.all dg then .ok (.bl (ys.any λy=>dM y a)) M else .bad|_=>.bad):=λ_=>rfl
theorem JG:∀(k:Nat) (ds:List D) (i:Nat),(lK k ds)[i]?=(ds[i]?).map λd=>.tup [.int ((k+i:Nat):Int),d]
 |_,[],_=>by simp[lK]|k,d::ds,0=>by simp[lK]|k,d::ds,i+1=>by simp only[lK,CN,JG (k+1) ds i];rw[show k+1+i=k+(i+1)by exact iR (lB 0 0xa1c0c1a0cc0 T1) (lB 0 1790139547840 T1)]
theorem JH:∀(k:Nat) (ds:List D),(lK k ds).length=ds.length
 |_,[]=>rfl|k,d::ds=>by simp[lK,JH (k+1) ds]
end
noncomputable section
noncomputable def ZvZ:List D->List D->List D
 |a::x,b::y=>.tup [a,b]::ZvZ x y|_,_=>[]
@[simp] noncomputable def Zya(f g:E3):xW:=λenv M=>(f env M).bind λa M1=>(g env M1).bind λb M2=>match a,b with
 | .ref n,.ref m=>match M2[n]?,M2[m]? with
  |some (.lst x),Ya (.lst y)=>.ok ⟨ZvZ x y,[(n,x),(m,y)]⟩ M2|_,_=>.bad
 |_,_=>.bad
section
local instance (priority:=100000) Ad4 (p:Prop):Decidable p:=Yx p
noncomputable def jo(lk:List (Nat×List D))(g:G3)(ifs:List E3)(elt:E3)(n:Nat):List D->bK->Store->R3 D
 |[],_,M=>if jn lk M then .ok (.ref n) M else .bad|d::ds,env,M=>if jn lk M then match g d env with
  |none=>.bad|some cZ=>(tQ ifs cZ M).bind λb M1=>if b then(elt cZ M1).bind λv M2=>match M2[n]? with
    |some (.lst xs)=>if xs.length<SZ then jo lk g ifs elt n ds cZ (M2.set n (.lst (xs++[v])))else .bad|_=>.bad
   else jo lk g ifs elt n ds cZ M1
  else .bad
end
noncomputable def vI(i:xW)(own:Nat)(g:G3)(ifs:List E3)(elt:E3):E3:=λenv M=>(i env M).bind λit M1=>jo it.lk g ifs elt M1.length it.items (env++Yq own Yn) (M1++[.lst []])
section
local instance (priority:=100000) Ad5 (p:Prop):Decidable p:=Yx p
noncomputable def o4(o:D)(ds:List D)(M:Store):R3 D:=match o,ds with
 | .ref n,[.ref m]=>match M[n]?,M[m]? with
  |some (.lst x),Ya (.lst y)=>if n≠m/\x.length+y.length<=SZ then .ok .non (M.set n (.lst (x++y)))else .bad|_,_=>.bad
 | .ref n,[.tup y]=>match M[n]? with
  |some (.lst x)=>if x.length+y.length<=SZ then .ok .non (M.set n (.lst (x++y)))else .bad|_=>.bad
 |_,_=>.bad
@[simp] theorem Af:∀n m,o4 (.ref n) ([.ref m]) M=(match M[n]?,M[m]? with
  |some (.lst x),Ya (.lst y)=>if n≠m/\x.length+y.length<=SZ then .ok .non (M.set n (.lst (x++y)))else .bad|_,_=>.bad):=λ_ _=>rfl
@[simp] theorem Ag:∀n y,o4 (.ref n) ([.tup y]) M=(match M[n]? with
  |some (.lst x)=>if x.length+y.length<=SZ then .ok .non (M.set n (.lst (x++y)))else .bad|_=>.bad):=λ_ _=>rfl
end
end
noncomputable section
end
noncomputable def vJ(f:List Nat)(d:D):List (List Nat×D)->List (List Nat×D)
 |[]=>[(f,d)]|(g,x)::r=>if g=f then(g,d)::r else(g,x)::vJ f d r
noncomputable def jq(c f:List Nat)(a:D)(M:Store):R3 D:=match a with
 | .ref n=>match M[n]? with
  |some (.ins c' fs)=>if c'=c then(match fs.lookup f with
   |some d=>.ok d M|none=>.bad)else .bad
  |_=>.bad
 |_=>.bad
@[simp] theorem Zl6{c:List Nat}{f:List Nat}:∀n,jq c f (.ref n) M=(match M[n]? with
  |some (.ins c' fs)=>if c'=c then(match fs.lookup f with
   |some d=>.ok d M|none=>.bad)else .bad
  |_=>.bad):=λ_=>rfl
noncomputable def ZqM(c f:List Nat)(v a:D)(M:Store):R3 D:=match a with
 | .ref n=>match M[n]? with
  |some (.ins c' fs)=>if c'=c/\fs.length<1000 then .ok .non (M.set n (.ins c (vJ f v fs)))else .bad|_=>.bad
 |_=>.bad
@[simp] theorem Q0{c:List Nat}{f:List Nat}{v:D}:∀n,ZqM c f v (.ref n) M=(match M[n]? with
  |some (.ins c' fs)=>if c'=c/\fs.length<1000 then .ok .non (M.set n (.ins c (vJ f v fs)))else .bad|_=>.bad):=λ_=>rfl
noncomputable def EY(c f:List Nat)(o v:E3):S3:=aO (e2 (ZqM c f) v o)
@[simp] noncomputable def Ah(c:List Nat)(F:F3)(g:d8):E3:=λenv M=>(g env M).bind λds M1=>match F (.ref M1.length::ds) (M1++[.ins c []])with
 | .ok .non M2=>.ok (.ref M1.length) M2|_=>.bad
noncomputable section
end
noncomputable section
end
noncomputable section
noncomputable abbrev JK:=List (List Nat×List (List Nat))
noncomputable def Q3(f:E3):xW:=λenv M=>(f env M).bind λa M1=>match a with
 | .ref n=>match M1[n]? with
  |some (.lst ds)=>.ok ⟨lK 1 ds,[(n,ds)]⟩ M1|_=>.bad
 |_=>.bad
end
noncomputable section
noncomputable abbrev jZ:=List (List Nat×Int)
noncomputable def dO(x:List Nat):jZ->Option Int
 |[]=>Yn|(k,v)::r=>if x=k then Ya v else dO x r
noncomputable def tV(t:jZ)(d e:D)(M:Store):R3 D:=match d with
 | .str x=>match dO x t with
  |some i=>.ok (.int i) M|none=>.ok e M
 | .int _=>.ok e M|_=>.bad
end
noncomputable section
end
noncomputable section
local instance (priority:=100000) Ad6 (p:Prop):Decidable p:=Yx p
end
noncomputable section
noncomputable def o5(q q':D->D->Store->R3 D)(f g h:E3):E3:=λenv M=>(f env M).bind λa M1=>(g env M1).bind λb M2=>(q a b M2).bind λc M3=>match c with
 | .bl true=>(h env M3).bind λd M4=>q' b d M4|.bl false=>.ok (.bl false) M3|_=>.bad
theorem ZoE(is:List Int):lF (is.map D.int)=Ya is:=by
 induction is with
 |nil=>rfl|cons i is ih=>show(lF (is.map D.int)).map _=_;rw[ih];rfl
noncomputable def vK(k:Int):List Int->Int
 |[]=>k|a::r=>r.foldl (λm x=>if x>m then x else m) a
noncomputable def Ai(k:Int)(ds:List D)(M:Store):R3 D:=match ds with
 |[.ref n]=>xY M[n]? λxs=>vL ((lF xs).map λis=>D.int (vK k is)) λd=>.ok d M|_=>.bad
theorem Zl8{k:Int}{is:List Int}(h:M[n]?=Ya (.lst (is.map D.int))):Ai k [.ref n] M= .ok (.int (vK k is)) M:=by show xY M[n]? _=_;rw[h];show vL ((lF (is.map D.int)).map λis=>D.int (vK k is)) _=_;rw[ZoE];rfl
theorem Zjt(xs:List (List Nat)):g_ (xs.map D.str)=Ya xs:=by
 induction xs with
 |nil=>rfl|cons x xs ih=>show(g_ (xs.map D.str)).map _=_;rw[ih];rfl
noncomputable def unlike:List (List Nat)->List (List Nat)->List (List Nat)
 |acc,[]=>acc|acc,x::r=>unlike (if acc.contains x then acc else acc++[x]) r
noncomputable def JL(ds:List D)(M:Store):R3 D:=match ds with
 |[.ref n]=>xY M[n]? λxs=>vL ((g_ xs).map λss=>D.int ((unlike [] ss).length:Int)) λd=>if xs.length<=20 then .ok d M else .bad|_=>.bad
theorem ZmP{xs:List (List Nat)}(h:M[n]?=Ya (.lst (xs.map D.str)))(hl:xs.length<=20):JL [.ref n] M= .ok (.int ((unlike [] xs).length:Int)) M:=by show xY M[n]? _=_;rw[h];show vL ((g_ (xs.map D.str)).map λss=>D.int ((unlike [] ss).length:Int)) _=_;rw[Zjt];show(if(xs.map D.str).length<=20 then R3.ok _ M else .bad)=_;rw[Yv,if_pos hl]
theorem ZgN:∀{xs acc:List (List Nat)},(acc++xs).Nodup->unlike acc xs=acc++xs
 |[],acc,_=>(jQ acc).symm|x::r,acc,h=>by
  have hx:acc.contains x=false:=by rw[List.contains_eq_mem,decide_eq_false_iff_not];intro hm;exact(Hf.mp h).2.2 x hm x Yd rfl
  show unlike (if acc.contains x then acc else acc++[x]) r=_;rw[hx,if_neg (by decide),ZgN (by rw[jg];exact h),jg];rfl
end
noncomputable section
noncomputable def tW(t:jZ)(d:D)(M:Store):R3 D:=match d with
 | .str x=>.ok (.bl (dO x t).isSome) M|_=>.bad
noncomputable def JM(t:jZ)(d:D)(M:Store):R3 D:=match d with
 | .str x=>.ok (.bl (!(dO x t).isSome)) M|_=>.bad
noncomputable def E_(t:jZ)(d:D)(M:Store):R3 D:=match d with
 | .str x=>(match dO x t with
  |some i=>.ok (.int i) M|none=>.bad)
 |_=>.bad
end
noncomputable section
noncomputable def p_(a b:D)(M:Store):R3 D:=match a,b with
 | .ref n,.ref m=>(match M[n]?,M[m]? with
  |some (.lst x),Ya (.lst [])=>.ok (.bl (!x.isEmpty)) M|_,_=>.bad)
 |_,_=>.bad
theorem Zqb{m:Nat}{x:List D}(h:M[n]?=Ya (.lst x))(k:M[m]?=Ya (.lst [])):p_ (.ref n) (.ref m) M= .ok (.bl (!x.isEmpty)) M:=by simp only[p_,h,k]
end
noncomputable section
noncomputable def vM(o:D)(ds:List D)(M:Store):R3 D:=match o,ds with
 | .str sep,[.tup z]=>(match g_ z with
  |some ts=>if jY sep ts<=SZ then .ok (.str (glue sep ts)) M else .bad|none=>.bad)
 |_,_=>.bad
theorem Zo0{sep:List Nat}{ts:List (List Nat)}(h:jY sep ts<=SZ):vM (.str sep) [.tup (ts.map D.str)] M= .ok (.str (glue sep ts)) M:=by simp only[vM,Zjt,if_pos h]
end
open PySem PySem.Spec PyProof.Rows L2
noncomputable abbrev St:=L2.St
theorem jz:SZ<=bj:=by rw[zf];decide
def o6(K:Yb)(H:Hp)(a:Y1)(xs:List V):Prop:=
 (∃o,H a=Ya (.fH o (.lst xs)))\/
  ∃(o:aK) (its:Array Yh) (n:Nat),K.lookup a=Ya o/\o.cls= .type "list" /\o.dict=Yn/\o.data= .seq its n/\its.size<=bj/\Vals xs its.toList
variable{K:Yb}{H:Hp}
theorem o6.sq{a:Y1}{xs:List V}(h:o6 K H a xs):bB K H a xs:=by
 rcases h with⟨o,h⟩|h
 .exact .inl (.inr ⟨o,h⟩)
 .exact .inr h
mutual
noncomputable def Rep(K:Yb)(H:Hp)(ι:List Y1):D->V->Prop
 | .non,v=>v= .non|.bl b,v=>v= .bl b|.int i,v=>v= .int i|.str x,v=>v= .str ⟨x.toArray⟩
 | .tup ds,v=>∃a vs,v= .ref a/\cF K H a vs/\Zw K H ι ds vs|.aY ds,v=>∃a vs,v= .ref a/\o6 K H a vs/\Zw K H ι ds vs|.ref n,v=>∃a,ι[n]?=Ya a/\v= .ref a
noncomputable def Zw(K:Yb)(H:Hp)(ι:List Y1):List D->List V->Prop
 |[],vs=>vs=[]|d::ds,vs=>∃v ws,vs=v::ws/\Rep K H ι d v/\Zw K H ι ds ws
end
structure Ext(K:Yb)(H:Hp)(ι:List Y1)(H':Hp)(ι':List Y1):Prop where
 tup:∀a xs,cF K H a xs->cF K H' a xs
 aY:∀a xs,o6 K H a xs->o6 K H' a xs
 pre:∀(n:Nat) (a:Y1),ι[n]?=Ya a->ι'[n]?=Ya a
 fH:∀a o u,H a=Ya (.fH o u)->H' a=Ya (.fH o u)
variable{vs:List V}{v:V}
section
variable {K:Yb} {H H' H1 H2:Hp} {ι ι' ι1 ι2:List Y1}
theorem Ext.refl:Ext K H ι H ι:=⟨λ_ _ h=>h,λ_ _ h=>h,λ_ _ h=>h,λ_ _ _ h=>h⟩
theorem Ext.trans(a:Ext K H ι H1 ι1)(b:Ext K H1 ι1 H2 ι2):Ext K H ι H2 ι2:=⟨λx xs h=>b.tup x xs (a.tup x xs h),λx xs h=>b.aY x xs (a.aY x xs h),λn x h=>b.pre n x (a.pre n x h),λx o u h=>b.fH x o u (a.fH x o u h)⟩
mutual
theorem Rep.mono(e:Ext K H ι H' ι'):∀{d:D} {v:V},Rep K H ι d v->Rep K H' ι' d v
 | .non,_,h=>h|.bl _,_,h=>h|.int _,_,h=>h|.str _,_,h=>h
 | .tup ds,_,h=>by obtain⟨a,vs,rfl,s,r⟩:=h;exact⟨a,vs,rfl,e.tup _ _ s,Zw.mono e (ds:=ds) r⟩|.aY ds,_,h=>by obtain⟨a,vs,rfl,s,r⟩:=h;exact⟨a,vs,rfl,e.aY _ _ s,Zw.mono e (ds:=ds) r⟩|.ref n,_,h=>by obtain⟨a,s,rfl⟩:=h;exact⟨a,e.pre _ _ s,rfl⟩
theorem Zw.mono(e:Ext K H ι H' ι'):∀{ds:List D} {vs:List V},Zw K H ι ds vs->Zw K H' ι' ds vs
 |[],_,h=>h|d::ds,_,h=>by obtain⟨v,ws,rfl,r,q⟩:=h;exact⟨v,ws,rfl,Rep.mono e (d:=d) r,Zw.mono e (ds:=ds) q⟩
end
mutual
theorem Rep.keep(ht:∀a xs,cF K H a xs->cF K H' a xs)(hs:∀a xs,o6 K H a xs->o6 K H' a xs):∀{d:D} {v:V},Rep K H ι d v->Rep K H' ι d v
 | .non,_,h=>h|.bl _,_,h=>h|.int _,_,h=>h|.str _,_,h=>h
 | .tup ds,_,h=>by obtain⟨a,vs,rfl,s,r⟩:=h;exact⟨a,vs,rfl,ht _ _ s,Zw.keep ht hs (ds:=ds) r⟩|.aY ds,_,h=>by obtain⟨a,vs,rfl,s,r⟩:=h;exact⟨a,vs,rfl,hs _ _ s,Zw.keep ht hs (ds:=ds) r⟩|.ref n,_,h=>h
theorem Zw.keep(ht:∀a xs,cF K H a xs->cF K H' a xs)(hs:∀a xs,o6 K H a xs->o6 K H' a xs):∀{ds:List D} {vs:List V},Zw K H ι ds vs->Zw K H' ι ds vs
 |[],_,h=>h|d::ds,_,h=>by obtain⟨v,ws,rfl,r,q⟩:=h;exact⟨v,ws,rfl,Rep.keep ht hs (d:=d) r,Zw.keep ht hs (ds:=ds) q⟩
end
theorem Zw.nil:Zw K H ι [] []:=rfl
theorem Zw.cons{d:D}{ds:List D}{v:V}{vs:List V}(h:Rep K H ι d v)(t:Zw K H ι ds vs):Zw K H ι (d::ds) (v::vs):=⟨v,vs,rfl,h,t⟩
theorem Zw.nil_inv(h:Zw K H ι [] vs):vs=[]:=h
theorem Zw.cons_inv(h:Zw K H ι (d::ds) vs):∃v ws,vs=v::ws/\Rep K H ι d v/\Zw K H ι ds ws:=h
theorem Zw.length:∀{ds:List D} {vs:List V},Zw K H ι ds vs->vs.length=ds.length
 |[],_,h=>by rw[h.nil_inv];rfl|d::ds,_,h=>by obtain⟨v,ws,rfl,_,q⟩:=h.cons_inv;exact congrArg Nat.succ q.length
theorem Zw.append:∀{ds es:List D} {vs ws:List V},Zw K H ι ds vs->Zw K H ι es ws->Zw K H ι (ds++es) (vs++ws)
 |[],_,_,_,h,q=>by rw[h.nil_inv];exact q|d::ds,_,_,_,h,q=>by obtain⟨v,us,rfl,r,t⟩:=h.cons_inv;exact Zw.cons r (t.append q)
theorem Zw.drop:∀{ds:List D} {vs:List V} (n:Nat),Zw K H ι ds vs->Zw K H ι (ds.drop n) (vs.drop n)
 |_,_,0,h=>h|[],_,n+1,h=>by rw[h.nil_inv];exact Zw.nil|d::ds,_,n+1,h=>by obtain⟨v,us,rfl,r,t⟩:=h.cons_inv;exact t.drop n
theorem Zw.take:∀{ds:List D} {vs:List V} (n:Nat),Zw K H ι ds vs->Zw K H ι (ds.take n) (vs.take n)
 |_,_,0,h=>Zw.nil|[],_,n+1,h=>by rw[h.nil_inv];exact Zw.nil|d::ds,_,n+1,h=>by obtain⟨v,us,rfl,r,t⟩:=h.cons_inv;exact Zw.cons r (t.take n)
theorem Zw.get:∀{ds:List D} {vs:List V} {i:Nat} {d:D},Zw K H ι ds vs->ds[i]?=Ya d->∃v,vs[i]?=Ya v/\Rep K H ι d v
 |[],_,_,_,_,e=>by simp at e|d::ds,_,0,_,h,e=>by obtain⟨v,us,rfl,r,t⟩:=h.cons_inv;simp at e;subst e;exact⟨v,rfl,r⟩
 |d::ds,_,i+1,_,h,e=>by obtain⟨v,us,rfl,r,t⟩:=h.cons_inv;obtain⟨w,q,z⟩:=t.get (i:=i) (by simpa using e);exact⟨w,by simpa using q,z⟩
theorem Zw.set:∀{ds:List D} {vs:List V} {d:D} {v:V} (i:Nat),Zw K H ι ds vs->Rep K H ι d v->Zw K H ι (ds.set i d) (vs.set i v)
 |[],_,_,_,_,h,_=>by rw[h.nil_inv];exact Zw.nil|d::ds,_,_,_,0,h,q=>by obtain⟨v,us,rfl,r,t⟩:=h.cons_inv;exact Zw.cons q t
 |d::ds,_,_,_,i+1,h,q=>by obtain⟨v,us,rfl,r,t⟩:=h.cons_inv;exact Zw.cons r (t.set i q)
theorem Zw.ints:∀(ns:List Int),Zw K H ι (ns.map D.int) (ns.map V.int)
 |[]=>Zw.nil|n::ns=>Zw.cons rfl (Zw.ints ns)
theorem Rep.jf(h:Rep K H ι .non v):v= .non:=h
theorem Rep.gm{b:Bool}(h:Rep K H ι (.bl b) v):v= .bl b:=h
theorem Rep.int_inv{i:Int}(h:Rep K H ι (.int i) v):v= .int i:=h
theorem Rep.str_inv{x:List Nat}(h:Rep K H ι (.str x) v):v= .str ⟨x.toArray⟩:=h
theorem Rep.iY(h:Rep K H ι (.tup ds) v):∃a vs,v= .ref a/\cF K H a vs/\Zw K H ι ds vs:=h
theorem Rep.rK(h:Rep K H ι (.aY ds) v):∃a vs,v= .ref a/\o6 K H a vs/\Zw K H ι ds vs:=h
theorem Rep.dH(h:Rep K H ι (.ref n) v):∃a,ι[n]?=Ya a/\v= .ref a:=h
theorem Rep.non:Rep K H ι .non .non:=rfl
theorem Rep.bl{b:Bool}:Rep K H ι (.bl b) (.bl b):=rfl
theorem Rep.int{i:Int}:Rep K H ι (.int i) (.int i):=rfl
theorem Rep.str{x:List Nat}:Rep K H ι (.str x) (.str ⟨x.toArray⟩):=rfl
theorem Rep.tup{a:Y1}{vs:List V}{ds:List D}(s:cF K H a vs)(r:Zw K H ι ds vs):Rep K H ι (.tup ds) (.ref a):=⟨a,vs,rfl,s,r⟩
theorem Rep.ref{a:Y1}(s:ι[n]?=Ya a):Rep K H ι (.ref n) (.ref a):=⟨a,s,rfl⟩
end
def ExO(e C:Y1)(h:aN):Prop:=∃o vs,h.get? e=Ya o/\o.cls= .ref C/\o.data= .fields vs
noncomputable abbrev exH(e C:Y1):HO:=.ext (ExO e C)
noncomputable def dk:iy->Key
 | .inl i=>.inl i|.inr x=>.inr ⟨x.toArray⟩
def cW(K:Yb)(H:Hp)(ι:List Y1)(kvs:List (iy×D))(ws:List (Key×V)):Prop:=ws.map (·.1)=kvs.map (λp=>dk p.1)/\Zw K H ι (kvs.map (·.2)) (ws.map (·.2))
def fM(K:Yb)(H:Hp)(ι:List Y1)(fs:List (List Nat×D))(gs:List (aj×V)):Prop:=gs.map (·.1)=fs.map (λp=>(⟨p.1.toArray⟩:aj))/\Zw K H ι (fs.map (·.2)) (gs.map (·.2))
def ClsAt(K:Yb)(c:List Nat)(C:Y1):Prop:=PySem.W.nsIn K Yy ⟨c.toArray⟩=Ya (Ya (.ref C))
noncomputable def lM(K:Yb)(H:Hp)(ι:List Y1):MO->Y1->Prop
 | .lst xs,a=>∃vs,H a=Ya (.lst vs)/\Zw K H ι xs vs|.dct kvs,a=>∃ws,H a=Ya (.dK ws)/\cW K H ι kvs ws|.cJ kvs,a=>∃ws,(∃o,H a=Ya (.fH o (.dK ws)))/\cW K H ι kvs ws|.ins c fs,a=>(∃C dx gs,H a=Ya (.ins C dx gs)/\(ClsAt K c C/\c.head?≠Ya 0)/\fM K H ι fs gs)\/∃C,H a=Ya (exH a C)/\c.head?=Ya 0/\ClsAt K c.tail C/\fs=[]
structure aC(K:Yb)(H:Hp)(ι:List Y1)(M:Store):Prop where
 len:ι.length=M.length
 nd:ι.Nodup
 obj:∀(n:Nat) o a,M[n]?=Ya o->ι[n]?=Ya a->lM K H ι o a
def Loose(H:Hp)(p:Y1):Prop:=H p=Yn\/(∃vs,H p=Ya (.lst vs))\/(∃ws,H p=Ya (.dK ws))\/∃C dx gs,H p=Ya (.ins C dx gs)
variable{m:MO}
section
variable {K:Yb} {H H':Hp} {ι ι':List Y1} {M:Store} {p:Y1} {o:HO}
theorem Loose.ne{a:Y1}{u:HO}(l:Loose H p)(h:H a=Ya u)(h1:∀vs,u≠ .lst vs)(h2:∀ws,u≠ .dK ws)(h3:∀C dx gs,u≠ .ins C dx gs:=by exactλ_ _ _ z=>nomatch z):a≠p:=by
 rintro rfl;rcases l with l|⟨vs,l⟩|⟨ws,l⟩|⟨C,dx,gs,l⟩
 .rw[h]at l;cases l
 .rw[h]at l;exact h1 vs (Y6 l)
 .rw[h]at l;exact h2 ws (Y6 l)
 .rw[h]at l;exact h3 C dx gs (Y6 l)
theorem Loose.tup(l:Loose H p){a:Y1}{xs:List V}(h:cF K H a xs):cF K (upd H p o) a xs:=by
 rcases h with(h|⟨ob,h⟩)|h
 .exact .inl (.inl (by rw[fJ (l.ne h (λ_ z=>nomatch z) (λ_ z=>nomatch z))];exact h))
 .exact .inl (.inr ⟨ob,by rw[fJ (l.ne h (λ_ z=>nomatch z) (λ_ z=>nomatch z))];exact h⟩)
 .exact .inr h
theorem Loose.aY(l:Loose H p){a:Y1}{xs:List V}(h:o6 K H a xs):o6 K (upd H p o) a xs:=by
 rcases h with⟨ob,h⟩|h
 .exact .inl ⟨ob,by rw[fJ (l.ne h (λ_ z=>nomatch z) (λ_ z=>nomatch z))];exact h⟩
 .exact .inr h
theorem Loose.fH(l:Loose H p){a:Y1}{ob:aK}{u:HO}(h:H a=Ya (.fH ob u)):upd H p o a=Ya (.fH ob u):=by rw[fJ (l.ne h (λ_ z=>nomatch z) (λ_ z=>nomatch z))];exact h
theorem Loose.ext(l:Loose H p):Ext K H ι (upd H p o) ι:=⟨λ_ _ h=>l.tup h,λ_ _ h=>l.aY h,λ_ _ h=>h,λ_ _ _ h=>l.fH h⟩
theorem Loose.GK(l:Loose H p):Ext K H ι (upd H p o) (ι++[p]):=⟨λ_ _ h=>l.tup h,λ_ _ h=>l.aY h,λn a h=>by rw[Yi (Yf.mp h).1];exact h,λ_ _ _ h=>l.fH h⟩
theorem lM.mono{a:Y1}(e:Ext K H ι H' ι')(h:lM K H ι m a)(k:H' a=H a):lM K H' ι' m a:=by
 cases m with
 |lst xs=>obtain⟨vs,q,r⟩:=h;exact⟨vs,k.trans q,r.mono e⟩|dct kvs=>obtain⟨ws,q,r1,r2⟩:=h;exact⟨ws,k.trans q,r1,r2.mono e⟩|cJ kvs=>obtain⟨ws,⟨o,q⟩,r1,r2⟩:=h;exact⟨ws,⟨o,k.trans q⟩,r1,r2.mono e⟩|ins c fs=>
  rcases h with⟨C,dx,gs,q,c,r1,r2⟩|⟨C,q,r⟩
  .exact .inl ⟨C,dx,gs,k.trans q,c,r1,r2.mono e⟩
  .exact .inr ⟨C,k.trans q,r⟩
theorem lM.ne{a:Y1}(h:lM K H ι m a):H a≠Yn:=by
 cases m with
 |lst xs=>obtain⟨vs,q,r⟩:=h;rw[q];simp|dct kvs=>obtain⟨ws,q,r⟩:=h;rw[q];simp|cJ kvs=>obtain⟨ws,⟨o,q⟩,r⟩:=h;rw[q];simp|ins c fs=>rcases h with⟨C,dx,gs,q,r⟩|⟨C,q,r⟩<;>(rw[q];simp)
theorem aC.at(S:aC K H ι M)(h:M[n]?=Ya m):∃a,ι[n]?=Ya a/\lM K H ι m a:=by
 have hn:n<ι.length:=by rw[S.len];exact(Yf.mp h).1
 exact⟨ι[n],by simp[hn],S.obj n m _ h (by simp[hn])⟩
theorem aC.there(S:aC K H ι M){a:Y1}(h:ι[n]?=Ya a):∃m,M[n]?=Ya m/\lM K H ι m a:=by
 have hn:n<M.length:=by rw[←S.len];exact(Yf.mp h).1
 exact⟨M[n],by simp[hn],S.obj n _ _ (by simp[hn]) h⟩
theorem aC.fresh(S:aC K H ι M)(hp:H p=Yn):p∉ι:=λh=>by obtain⟨n,hn⟩:=M_ h;obtain⟨m,_,q⟩:=S.there hn;exact q.ne hp
theorem aC.other(S:aC K H ι M)(l:Loose H p)(hp:p∉ι):aC K (upd H p o) ι M:=⟨S.len,S.nd,λn m a h1 h2=>(S.obj n m a h1 h2).mono l.ext (by rw[fJ];rintro rfl;exact hp (wL h2))⟩
theorem aC.new(S:aC K H ι M)(hp:H p=Yn)(h:lM K (upd H p o) (ι++[p]) m p):aC K (upd H p o) (ι++[p]) (M++[m]):=by
 have hf:=S.fresh hp;refine⟨by simp[S.len],?_,λn m' a h1 h2=>?_⟩
 .exact Hf.mpr ⟨S.nd,by simp,λx hx y hy=>by
   have e:y=p:=by simpa using hy
   subst e;rintro rfl;exact hf hx⟩
 .by_cases hn:n<ι.length
  .rw[Yi hn]at h2;rw[Yi (by rw[←S.len];exact hn)]at h1;refine(S.obj n m' a h1 h2).mono (Loose.GK (.inl hp)) ?_;rw[fJ];rintro rfl;exact hf (wL h2)
  .rw[wJ (mz hn)]at h2;rw[wJ (by rw[←S.len];exact mz hn)]at h1;have hlt:n-ι.length<1:=by
    have:=(Yf.mp h2).1;simpa using this
   have e0:n-ι.length=0:=iR (lA 1 234922001 T1 hlt) (fG _);rw[e0]at h2;rw[←S.len,e0]at h1;simp at h1 h2;subst h1 h2;exact h
theorem aC.put(S:aC K H ι M)(l0:Loose H p)(hn:ι[n]?=Ya p)(h:lM K (upd H p o) ι m p):aC K (upd H p o) ι (M.set n m):=by
 obtain⟨m0,hm0,q0⟩:=S.there hn;refine⟨by simp[S.len],S.nd,λk m' a h1 h2=>?_⟩;by_cases hk:k=n
 .subst hk;rw[hn]at h2;cases h2;have hlt:k<M.length:=(Yf.mp hm0).1;rw[Y0 hlt]at h1;cases h1;exact h
 .rw[Yr (cO hk)]at h1;refine(S.obj k m' a h1 h2).mono (Loose.ext l0) ?_;rw[fJ];rintro rfl;have hlt1:=(Yf.mp h2);have hlt2:=(Yf.mp hn);exact hk ((Wm S.nd).mp (hlt1.2.trans hlt2.2.symm))
theorem aC.lst(S:aC K H ι M)(hp:H p=Yn){xs:List D}{vs:List V}(r:Zw K H ι xs vs):Ext K H ι (upd H p (.lst vs)) (ι++[p])/\aC K (upd H p (.lst vs)) (ι++[p]) (M++[.lst xs])/\Rep K (upd H p (.lst vs)) (ι++[p]) (.ref M.length) (.ref p):=by have e:Ext K H ι (upd H p (.lst vs)) (ι++[p]):=Loose.GK (.inl hp);refine⟨e,S.new hp ⟨vs,pR,r.mono e⟩,Rep.ref ?_⟩;rw[←S.len];simp
theorem aC.uE(S:aC K H ι M)(hp:H p=Yn)(r:Zw K H ι xs vs):Ext K H ι (upd H p (.tup vs)) ι/\aC K (upd H p (.tup vs)) ι M/\Rep K (upd H p (.tup vs)) ι (.tup xs) (.ref p):=by have e:Ext K H ι (upd H p (.tup vs)) ι:=Loose.ext (.inl hp);exact⟨e,S.other (.inl hp) (S.fresh hp),Rep.tup (cF.of pR) (r.mono e)⟩
theorem aC.uF(S:aC K H ι M)(l0:Loose H p)(hn:ι[n]?=Ya p)(r:Zw K H ι xs vs):Ext K H ι (upd H p (.lst vs)) ι/\aC K (upd H p (.lst vs)) ι (M.set n (.lst xs)):=by have e:Ext K H ι (upd H p (.lst vs)) ι:=Loose.ext l0;exact⟨e,S.put l0 hn ⟨vs,pR,r.mono e⟩⟩
end
def b8(K:Yb)(H:Hp)(ι:List Y1)(env:bK)(σ:St):Prop:=env.length=σ.length/\∀(i:Nat) d,env[i]?=Ya (Ya d)->∃v,σ[i]?=Ya (Ya v)/\Rep K H ι d v
variable{ι:List Y1}{σ:St}
theorem b8.mono{H':Hp}{ι':List Y1}(r:b8 K H ι env σ)(e:Ext K H ι H' ι'):b8 K H' ι' env σ:=⟨r.1,λi d h=>let⟨v,q,z⟩:=r.2 i d h;⟨v,q,z.mono e⟩⟩
theorem b8.set(r:b8 K H ι env σ)(i:Nat)(h:Rep K H ι d v):b8 K H ι (env.set i (Ya d)) (σ.set i (Ya v)):=by
 refine⟨by simp[r.1],λj e hj=>?_⟩;by_cases hij:j=i
 .subst hij;have hlt:j<env.length:=by
   have:=(Yf.mp hj).1;simpa using this
  rw[Y0 hlt]at hj;cases hj;exact⟨v,by rw[Y0 (by rw[←r.1];exact hlt)],h⟩
 .rw[Yr (cO hij)]at hj;obtain⟨w,q,z⟩:=r.2 j e hj;exact⟨w,by rw[Yr (cO hij)];exact q,z⟩
def Zt(K:Yb)(H:Hp)(ι:List Y1)(Q:VK)(r:R3 D):Prop:=match r with
 | .ok d M'=>∀v H' ι',Ext K H ι H' ι'->aC K H' ι' M'->Rep K H' ι' d v->Q v H'|_=>False
inductive TOf(K:Yb)(f:E3)(σ:St)(H:Hp)(Q:VK):Prop where
 |mk (ι:List Y1) (M:Store) (env:bK) (S:aC K H ι M) (E:b8 K H ι env σ) (h:Zt K H ι Q (f env M)):TOf K f σ H Q
def lO(K:Yb)(f:E3):TE:=λσ H Q=>TOf K f σ H Q
def lQ(K:Yb)(H:Hp)(ι:List Y1)(Q:Bool->Hp->Prop)(r:R3 D):Prop:=match r with
 | .ok (.bl b) M'=>∀H' ι',Ext K H ι H' ι'->aC K H' ι' M'->Q b H'|_=>False
inductive TTf(K:Yb)(f:E3)(σ:St)(H:Hp)(Q:Bool->Hp->Prop):Prop where
 |mk (ι:List Y1) (M:Store) (env:bK) (S:aC K H ι M) (E:b8 K H ι env σ) (h:lQ K H ι Q (f env M)):TTf K f σ H Q
def tTf(K:Yb)(f:E3):TT:=λσ H Q=>TTf K f σ H Q
def Aj(K:Yb)(H:Hp)(ι:List Y1)(Q:List V->Hp->Prop)(r:R3 (List D)):Prop:=match r with
 | .ok ds M'=>∀vs H' ι',Ext K H ι H' ι'->aC K H' ι' M'->Zw K H' ι' ds vs->Q vs H'|_=>False
inductive TAf(K:Yb)(f:d8)(σ:St)(H:Hp)(Q:List V->Hp->Prop):Prop where
 |mk (ι:List Y1) (M:Store) (env:bK) (S:aC K H ι M) (E:b8 K H ι env σ) (h:Aj K H ι Q (f env M)):TAf K f σ H Q
def Q4(K:Yb)(f:d8):TA:=λσ H Q=>TAf K f σ H Q
def Fb(K:Yb)(H:Hp)(ι:List Y1)(Q:Option Int->Hp->Prop)(r:R3 (Option Int)):Prop:=match r with
 | .ok o M'=>∀H' ι',Ext K H ι H' ι'->aC K H' ι' M'->Q o H'|_=>False
def tOo(K:Yb)(f:xP):TO:=λσ H Q=>∃ι M env,aC K H ι M/\b8 K H ι env σ/\Fb K H ι Q (f env M)
def o7(K:Yb)(H:Hp)(ι:List Y1)(E:Ends)(r:O3):Prop:=match r with
 | .nx env' M'=>∀σ' H' ι',Ext K H ι H' ι'->aC K H' ι' M'->b8 K H' ι' env' σ'->E.nx σ' H'|.bk env' M'=>∀σ' H' ι',Ext K H ι H' ι'->aC K H' ι' M'->b8 K H' ι' env' σ'->E.bk σ' H'|.ct env' M'=>∀σ' H' ι',Ext K H ι H' ι'->aC K H' ι' M'->b8 K H' ι' env' σ'->E.ct σ' H'|.rt d M'=>∀v H' ι',Ext K H ι H' ι'->aC K H' ι' M'->Rep K H' ι' d v->E.rt v H'
 |_=>False
inductive TSf(K:Yb)(f:S3)(D:Ends)(σ:St)(H:Hp):Prop where
 |mk (ι:List Y1) (M:Store) (env:bK) (S:aC K H ι M) (E:b8 K H ι env σ) (h:o7 K H ι D (f env M)):TSf K f D σ H
def tSf(K:Yb)(f:S3):TS:=λE σ H=>TSf K f E σ H
def C3(X:Cx)(e:Expr)(f:E3):Prop:=PE X e (lO X.K f)
def CT(X:Cx)(e:Expr)(f:E3):Prop:=PT X e (tTf X.K f)
def CA(X:Cx)(es:List Expr)(f:d8):Prop:=PA X es (Q4 X.K f)
def CO(X:Cx)(e:Option Expr)(f:xP):Prop:=PO X e (tOo X.K f)
def CS(X:Cx)(st:Yep)(f:S3):Prop:=PS X st (tSf X.K f)
def o8(X:Cx)(st:List Yep)(f:S3):Prop:=jE X st (tSf X.K f)
variable{X:Cx}{e:Expr}
theorem _root_.L2.PE.imp{t t':TE}(h:PE X e t)(i:∀σ H Q,t' σ H Q->t σ H Q):PE X e t':=λpins s σ H Q I q=>h pins s σ H Q I (i σ H Q q)
theorem _root_.L2.PT.imp{t t':TT}(h:PT X e t)(i:∀σ H Q,t' σ H Q->t σ H Q):PT X e t':=λpins s σ H Q I q=>h pins s σ H Q I (i σ H Q q)
theorem _root_.L2.PA.imp{e:List Expr}{t t':TA}(h:PA X e t)(i:∀σ H Q,t' σ H Q->t σ H Q):PA X e t':=λpos pins s σ H Q I q=>h pos pins s σ H Q I (i σ H Q q)
theorem _root_.L2.PO.imp{e:Option Expr}{t t':TO}(h:PO X e t)(i:∀σ H Q,t' σ H Q->t σ H Q):PO X e t':=λpins s σ H Q I q=>h pins s σ H Q I (i σ H Q q)
theorem _root_.L2.PS.imp{e:Yep}{t t':TS}(h:PS X e t)(i:∀D σ H,t' D σ H->t D σ H):PS X e t':=λpins s σ H D I q=>h pins s σ H D I (i D σ H q)
theorem _root_.L2.jE.imp{e:List Yep}{t t':TS}(h:jE X e t)(i:∀D σ H,t' D σ H->t D σ H):jE X e t':=λpins s σ H D I q=>h pins s σ H D I (i D σ H q)
theorem _root_.L2.aP.imp{f:Yh->Yh->oK Yh}{r r':R2}(h:aP X f r)(i:∀x y H Q,r' x y H Q->r x y H Q):aP X f r':=λpins s σ H x y v u Q I rx ry q=>h pins s σ H x y v u Q I rx ry (i x y H Q q)
theorem _root_.L2.tu.imp{f:Yh->oK Yh}{r r':V->Hp->VK->Prop}(h:tu X f r)(i:∀x H Q,r' x H Q->r x H Q):tu X f r':=λpins s σ H x v Q I rx q=>h pins s σ H x v Q I rx (i x H Q q)
theorem _root_.L2.cQ.imp{f:Yh}{r r':List V->Hp->VK->Prop}(h:cQ X f r)(i:∀x H Q,r' x H Q->r x H Q):cQ X f r':=λpins s σ H xs us Q I rx q=>h pins s σ H xs us Q I rx (i xs H Q q)
theorem _root_.L2.kY.imp{r r':R2}(h:kY X r)(i:∀x y H Q,r' x y H Q->r x y H Q):kY X r':=λvalue slice pins s σ H x y v u Q I rx ry q hs=>h value slice pins s σ H x y v u Q I rx ry (i x y H Q q) hs
theorem _root_.L2.jx.imp{r r':V->Option Int->Option Int->Hp->VK->Prop}(h:jx X r)(i:∀x lo hi H Q,r' x lo hi H Q->r x lo hi H Q):jx X r':=λpins s σ H x v vl vu lo hi sl Q I rx hs pl pu q=>h pins s σ H x v vl vu lo hi sl Q I rx hs pl pu (i x lo hi H Q q)
variable{r:R3 D}
section
variable {K:Yb} {H H1:Hp} {ι ι1:List Y1}
theorem Zt.up{Q:VK}(e:Ext K H ι H1 ι1)(h:Zt K H ι Q r):Zt K H1 ι1 Q r:=by
 cases r with
 |ok d M=>exactλv H' ι' e' S r=>h v H' ι' (e.trans e') S r|exc x M=>exact h|bad=>exact h
theorem lQ.up{Q:Bool->Hp->Prop}(e:Ext K H ι H1 ι1)(h:lQ K H ι Q r):lQ K H1 ι1 Q r:=by
 cases r with
 |ok d M=>cases d<;>first|exact h|exactλH' ι' e' S=>h H' ι' (e.trans e') S
 |exc x M=>exact h|bad=>exact h
theorem o7.up{Q:Ends}{r:O3}(e:Ext K H ι H1 ι1)(h:o7 K H ι Q r):o7 K H1 ι1 Q r:=by
 cases r with
 |nx d M=>exactλv H' ι' e' S r=>h v H' ι' (e.trans e') S r|bk d M=>exactλv H' ι' e' S r=>h v H' ι' (e.trans e') S r|ct d M=>exactλv H' ι' e' S r=>h v H' ι' (e.trans e') S r|rt d M=>exactλv H' ι' e' S r=>h v H' ι' (e.trans e') S r
 |exc x M=>exact h|bad=>exact h
theorem Zt.ok{Q:VK}(h:Zt K H ι Q (.ok d M))(S:aC K H ι M)(r:Rep K H ι d v):Q v H:=h v H ι Ext.refl S r
theorem Zt.bind{Q:VK}{r:R3 α}{k:α->Store->R3 D}(h:Zt K H ι Q (r.bind k)):∃a M,r= .ok a M/\Zt K H ι Q (k a M):=by
 cases r with
 |ok a M=>exact⟨a,M,rfl,h⟩|exc x M=>exact h.elim|bad=>exact h.elim
theorem Aj.bind{Q:List V->Hp->Prop}{r:R3 α}{k:α->Store->R3 (List D)}(h:Aj K H ι Q (r.bind k)):∃a M,r= .ok a M/\Aj K H ι Q (k a M):=by
 cases r with
 |ok a M=>exact⟨a,M,rfl,h⟩|exc x M=>exact h.elim|bad=>exact h.elim
theorem Fb.bind{Q:Option Int->Hp->Prop}{r:R3 α}{k:α->Store->R3 (Option Int)}(h:Fb K H ι Q (r.bind k)):∃a M,r= .ok a M/\Fb K H ι Q (k a M):=by
 cases r with
 |ok a M=>exact⟨a,M,rfl,h⟩|exc x M=>exact h.elim|bad=>exact h.elim
theorem lQ.bind{Q:Bool->Hp->Prop}{r:R3 α}{k:α->Store->R3 D}(h:lQ K H ι Q (r.bind k)):∃a M,r= .ok a M/\lQ K H ι Q (k a M):=by
 cases r with
 |ok a M=>exact⟨a,M,rfl,h⟩|exc x M=>exact h.elim|bad=>exact h.elim
end
inductive R2I(K:Yb)(op:D->D->Store->R3 D)(x y:V)(H:Hp)(Q:VK):Prop where
 |mk (ι:List Y1) (M:Store) (a b:D) (S:aC K H ι M) (ra:Rep K H ι a x) (rb:Rep K H ι b y) (h:Zt K H ι Q (op a b M)):R2I K op x y H Q
def r2(K:Yb)(op:D->D->Store->R3 D):R2:=λx y H Q=>R2I K op x y H Q
noncomputable def r1(K:Yb)(op:D->Store->R3 D):V->Hp->VK->Prop:=λx H Q=>∃ι M a,aC K H ι M/\Rep K H ι a x/\Zt K H ι Q (op a M)
inductive RBI(K:Yb)(b:List D->Store->R3 D)(xs:List V)(H:Hp)(Q:VK):Prop where
 |mk (ι:List Y1) (M:Store) (ds:List D) (S:aC K H ι M) (r:Zw K H ι ds xs) (h:Zt K H ι Q (b ds M)):RBI K b xs H Q
noncomputable def rB(K:Yb)(b:List D->Store->R3 D):List V->Hp->VK->Prop:=λxs H Q=>RBI K b xs H Q
noncomputable def rM(K:Yb)(m:D->List D->Store->R3 D):V->List V->Hp->VK->Prop:=λx xs H Q=>∃ι M a ds,aC K H ι M/\Rep K H ι a x/\Zw K H ι ds xs/\Zt K H ι Q (m a ds M)
noncomputable def rS(K:Yb):V->Option Int->Option Int->Hp->VK->Prop:=λx lo hi H Q=>∃ι M a,aC K H ι M/\Rep K H ι a x/\Zt K H ι Q (xQ a lo hi M)
theorem JN{op:D->D->Store->R3 D}(σ:St)(H:Hp)(Q:VK)(h:lO K (e2 op f g) σ H Q):zN (r2 K op) (lO K f) (lO K g) σ H Q:=by obtain⟨ι,M,env,S,E,h⟩:=h;obtain⟨a,M1,e1,h⟩:=Zt.bind h;obtain⟨b,M2,e2,h⟩:=Zt.bind h;refine⟨ι,M,env,S,E,?_⟩;rw[e1];intro v H1 ι1 x1 S1 r1;refine⟨ι1,M1,env,S1,E.mono x1,?_⟩;rw[e2];intro u H2 ι2 x2 S2 r2;exact⟨ι2,M2,a,b,S2,r1.mono x2,r2,(h.up x1).up x2⟩
theorem ZuF{op:D->Store->R3 D}(σ:St)(H:Hp)(Q:VK)(h:lO K (e1 op f) σ H Q):tUn (r1 K op) (lO K f) σ H Q:=by obtain⟨ι,M,env,S,E,h⟩:=h;obtain⟨a,M1,e1,h⟩:=Zt.bind h;refine⟨ι,M,env,S,E,?_⟩;rw[e1];intro v H1 ι1 x1 S1 r1;exact⟨ι1,M1,a,S1,r1,h.up x1⟩
variable{x:aj}{u:Yh}
section
variable {X:Cx} {a b c e o:Expr} {es:List Expr} {pos p:aU} {f g h:E3} {gl:d8}
theorem Zd(i:Nat)(hN:X.N[i]?=Ya x:=by rfl)(hv:Jd X.env.scope x:=by first|exact Or.inl rfl|exact Or.inr (Or.inl rfl)|exact Or.inr (Or.inr rfl))(hd:(x==("__debug__":aj))=false:=by decide)(hcd:(x==("__classdict__":aj))=false:=by decide):C3 X (.Name x pos) (Za i):=(Zt1 hN hv hd hcd).imp λσ H Q ak=>by
 obtain⟨ι,M,env,S,E,h⟩:=ak;unfold Za at h;cases q:env[i]? with
 |none=>rw[q]at h;exact h.elim|some od=>
  cases od with
  |none=>rw[q]at h;exact h.elim|some d=>rw[q]at h;obtain⟨v,e1,r⟩:=E.2 i d q;exact⟨v,e1,Zt.ok h S r⟩
theorem Zj{i j}:C3 X (.Constant (.int i) j pos) (eC (.int i)):=Qe.imp λσ H Q ⟨ι,M,env,S,E,h⟩=>Zt.ok h S Rep.int
theorem JP{i j}:C3 X (.Constant (.bool i) j pos) (eC (.bl i)):=Zwd.imp λσ H Q ⟨ι,M,env,S,E,h⟩=>Zt.ok h S Rep.bl
theorem mF{j}:C3 X (.Constant .none j pos) (eC .non):=Zuu.imp λσ H Q ⟨ι,M,env,S,E,h⟩=>Zt.ok h S Rep.non
theorem bF{cs:List Nat}{j}(hx:x=⟨cs.toArray⟩:=by decide +kernel):C3 X (.Constant (.str x) j pos) (eC (.str cs)):=Zuf.imp λσ H Q ak=>by obtain⟨ι,M,env,S,E,h⟩:=ak;subst hx;exact Zt.ok h S Rep.str
theorem tX(hm:X.mg x=Ya u)(r:RelV v u)(hr:∀H ι,Rep X.K H ι d v)(hg:Gl X x:=by rfl)(hd:(x==("__debug__":aj))=false:=by decide):C3 X (.Name x pos) (eC d):=(zK hg hm r hd).imp λσ H Q ⟨ι,M,env,S,E,h⟩=>Zt.ok h S (hr H ι)
theorem Zu{op:Operator}{q:D->D->Store->R3 D}(ho:aP X (iM op) (r2 X.K q))(ha:C3 X a f)(hb:C3 X b g):C3 X (.BinOp a op b pos) (e2 q f g):=(Zvr ho ha hb).imp JN
theorem jH{op:UnaryOp}{q:D->Store->R3 D}(ho:tu X (HD op) (r1 X.K q))(ha:C3 X a f):C3 X (.UnaryOp op a pos) (e1 q f):=(Zwr ho ha).imp ZuF
theorem rn{op:CmpOp}{q:D->D->Store->R3 D}(ho:aP X (eU op) (r2 X.K q))(ha:C3 X a f)(hb:C3 X b g)(hm:wU op b=false:=by rfl):C3 X (.Compare a [op] [b] pos) (e2 q f g):=(Zn4 ho ha hb hm).imp JN
theorem Fd{Q:Bool->Hp->Prop}(h:lQ K H ι Q r):Zt K H ι (λx H'=>∃k,x= .bl k/\Q k H') r:=by
 cases r with
 |ok d M=>
  cases d with
  |bl b=>exactλv H' ι' e S r=>⟨b,r.gm,h H' ι' e S⟩|_=>exact h.elim
 |exc x M=>exact h.elim|bad=>exact h.elim
theorem o9(h:C3 X e f)(he:∀whole,isTrue e X.env whole=(do let v ←whole;Di e.pos;uT [v] (truthy v)):=by intro _;rfl):CT X e f:=(ZuG h he).imp λσ H Q ⟨ι,M,env,S,E,h⟩=>⟨ι,M,env,S,E,Fd h⟩
theorem bh{op:CmpOp}{q:D->D->Store->R3 D}(ho:aP X (eU op) (r2 X.K q))(ha:C3 X a f)(hb:C3 X b g)(hm:wU op b=false:=by rfl):CT X (.Compare a [op] [b] pos) (e2 q f g):=(Qo ho ha hb hm).imp λσ H Q ⟨ι,M,env,S,E,h⟩=>JN σ H _ ⟨ι,M,env,S,E,Fd h⟩
end
variable{st:Yep}{q:List D->Store->R3 D}
section
variable {X:Cx} {a b c e o:Expr} {es rest:List Expr} {pos p:aU} {f g h:E3} {gl:d8}
theorem xZ{op}(h:C3 X a f):C3 X (.BoolOp op [a] pos) f:=ZtW h
theorem x_(ha:C3 X a f)(hb:C3 X (.BoolOp .And (b::rest) pos) g):C3 X (.BoolOp .And (a::b::rest) pos) (bC f g):=(Ztj ha hb).imp λσ H Q ak=>by
 obtain⟨ι,M,env,S,E,h⟩:=ak;obtain⟨d,M1,e1,h⟩:=Zt.bind h;refine⟨ι,M,env,S,E,?_⟩;rw[e1];intro v H1 ι1 x1 S1 r1;cases d with
 |bl k=>
  refine⟨k,r1.gm,?_⟩;cases k with
  |true=>rw[if_pos rfl];exact⟨ι1,M1,env,S1,E.mono x1,h.up x1⟩|false=>rw[if_neg (by decide)];exact Zt.ok (h.up x1) S1 Rep.bl
 |_=>exact h.elim
theorem Zv0(ha:C3 X a f)(hb:C3 X (.BoolOp .Or (b::rest) pos) g):C3 X (.BoolOp .Or (a::b::rest) pos) (eG f g):=(Zwi ha hb).imp λσ H Q ak=>by
 obtain⟨ι,M,env,S,E,h⟩:=ak;obtain⟨d,M1,e1,h⟩:=Zt.bind h;refine⟨ι,M,env,S,E,?_⟩;rw[e1];intro v H1 ι1 x1 S1 r1;cases d with
 |bl k=>
  refine⟨k,r1.gm,?_⟩;cases k with
  |false=>rw[if_neg (by decide)];exact⟨ι1,M1,env,S1,E.mono x1,h.up x1⟩|true=>rw[if_pos rfl];exact Zt.ok (h.up x1) S1 Rep.bl
 |_=>exact h.elim
theorem Ztf(ha:C3 X a f):C3 X (.UnaryOp .Not a pos) (e1 pY f):=(ZuK ha).imp λσ H Q ak=>by
 obtain⟨ι,M,env,S,E,h⟩:=ak;obtain⟨d,M1,e1,h⟩:=Zt.bind h;refine⟨ι,M,env,S,E,?_⟩;rw[e1];intro v H1 ι1 x1 S1 r1;cases d with
 |bl k=>exact⟨k,r1.gm,Zt.ok (h.up x1) S1 Rep.bl⟩|_=>exact h.elim
def CW(X:Cx)(e:Expr)(f:E3):Prop:=PW X e (tTf X.K f)
theorem CW.ct(h:CW X e f):CT X e f:=PW.pt h
theorem PW.imp{t t':TT}(h:PW X e t)(i:∀σ H Q,t' σ H Q->t σ H Q):PW X e t':=λwh pins s σ H Q I q=>h wh pins s σ H Q I (i σ H Q q)
theorem vN(ha:CT X a f):CW X (.BoolOp .And [a] pos) f:=Zsm ha
theorem vO(ha:CT X a f):CW X (.BoolOp .Or [a] pos) f:=Zt9 ha
theorem nJ(ha:CT X a f)(hb:CW X (.BoolOp .And (b::rest) pos) g):CW X (.BoolOp .And (a::b::rest) pos) (bC f g):=PW.imp (Zt8 ha hb) λσ H Q ak=>by
 obtain⟨ι,M,env,S,E,h⟩:=ak;obtain⟨d,M1,e1,h⟩:=lQ.bind h;refine⟨ι,M,env,S,E,?_⟩;rw[e1];cases d with
 |bl k=>
  intro H1 ι1 x1 S1;cases k with
  |true=>rw[if_pos rfl];exact⟨ι1,M1,env,S1,E.mono x1,h.up x1⟩|false=>rw[if_neg (by decide)];exact h H1 ι1 x1 S1
 |_=>exact h.elim
theorem rA(ha:CT X a f)(hb:CW X (.BoolOp .Or (b::rest) pos) g):CW X (.BoolOp .Or (a::b::rest) pos) (eG f g):=PW.imp (Zwf ha hb) λσ H Q ak=>by
 obtain⟨ι,M,env,S,E,h⟩:=ak;obtain⟨d,M1,e1,h⟩:=lQ.bind h;refine⟨ι,M,env,S,E,?_⟩;rw[e1];cases d with
 |bl k=>
  intro H1 ι1 x1 S1;cases k with
  |false=>rw[if_neg (by decide)];exact⟨ι1,M1,env,S1,E.mono x1,h.up x1⟩|true=>rw[if_pos rfl];exact h H1 ι1 x1 S1
 |_=>exact h.elim
theorem Fe(ha:CT X a f):CT X (.UnaryOp .Not a pos) (e1 pY f):=(ZtH ha).imp λσ H Q ak=>by
 obtain⟨ι,M,env,S,E,h⟩:=ak;obtain⟨d,M1,e1,h⟩:=lQ.bind h;refine⟨ι,M,env,S,E,?_⟩;rw[e1];cases d with
 |bl k=>exactλH1 ι1 x1 S1=>h H1 ι1 x1 S1|_=>exact h.elim
theorem Ff(hc:CT X c f)(ha:C3 X a g)(hb:C3 X b h):C3 X (.IfExp c a b pos) (jV f g h):=(Zp4 hc ha hb).imp λσ H Q ak=>by
 obtain⟨ι,M,env,S,E,h⟩:=ak;obtain⟨d,M1,e1,h⟩:=Zt.bind h;refine⟨ι,M,env,S,E,?_⟩;rw[e1];cases d with
 |bl k=>
  intro H1 ι1 x1 S1;cases k with
  |true=>rw[if_pos rfl];exact⟨ι1,M1,env,S1,E.mono x1,h.up x1⟩|false=>rw[if_neg (by decide)];exact⟨ι1,M1,env,S1,E.mono x1,h.up x1⟩
 |_=>exact h.elim
theorem Zg:CA X [] Zf:=Ea.imp λσ H Q ⟨ι,M,env,S,E,h⟩=>h [] H ι Ext.refl S Zw.nil
theorem Zc(ha:C3 X e f)(hr:CA X es gl)(hs:Yw (e::es) X.env=(false,aF e X.env)::Yw es X.env:=by rfl):CA X (e::es) (Zb f gl):=(vy ha hr hs).imp λσ H Q ak=>by obtain⟨ι,M,env,S,E,h⟩:=ak;obtain⟨d,M1,e1,h⟩:=Aj.bind h;obtain⟨ds,M2,e2,h⟩:=Aj.bind h;refine⟨ι,M,env,S,E,?_⟩;rw[e1];intro v H1 ι1 x1 S1 r1;refine⟨ι1,M1,env,S1,E.mono x1,?_⟩;rw[e2];intro vs H2 ι2 x2 S2 r2;exact h (v::vs) H2 ι2 (x1.trans x2) S2 (Zw.cons (r1.mono x2) r2)
theorem nO{x1}(h:CA X es gl):C3 X (.Tuple es x1 pos) (fV gl):=(ZpH h).imp λσ H Q ak=>by
 obtain⟨ι,M,env,S,E,h⟩:=ak;obtain⟨ds,M1,e1,h⟩:=Zt.bind h;refine⟨ι,M,env,S,E,?_⟩;rw[e1];intro vs H1 ι1 x1 S1 r1;by_cases hz:ds.length<=SZ
 .rw[if_pos hz]at h;refine⟨by rw[r1.length];exact Yk hz jz,λp hp=>?_⟩;obtain⟨x2,S2,r2⟩:=S1.uE hp r1;exact h _ _ _ (x1.trans x2) S2 r2
 .rw[if_neg hz]at h;exact h.elim
theorem cP(h:CA X es gl):C3 X (.List es pos) (bf gl):=(ZuT h).imp λσ H Q ak=>by
 obtain⟨ι,M,env,S,E,h⟩:=ak;obtain⟨ds,M1,e1,h⟩:=Zt.bind h;refine⟨ι,M,env,S,E,?_⟩;rw[e1];intro vs H1 ι1 x1 S1 r1;by_cases hz:ds.length<=SZ
 .rw[if_pos hz]at h;refine⟨by rw[r1.length];exact Yk hz jz,λp hp=>?_⟩;obtain⟨x2,S2,r2⟩:=S1.lst hp r1;exact h _ _ _ (x1.trans x2) S2 r2
 .rw[if_neg hz]at h;exact h.elim
theorem Zqr(σ:St)(H:Hp)(Q:VK)(h:lO K (aA q gl) σ H Q):Qs (rB K q) (Q4 K gl) σ H Q:=by obtain⟨ι,M,env,S,E,h⟩:=h;obtain⟨ds,M1,e1,h⟩:=Zt.bind h;refine⟨ι,M,env,S,E,?_⟩;rw[e1];intro vs H1 ι1 x1 S1 r1;exact⟨ι1,M1,ds,S1,r1,h.up x1⟩
theorem dF{id:String}(hc:cQ X (.builtin id) (rB X.K q))(hm:X.mg x=Yn)(hv:jD x=Ya (.builtin id))(ha:CA X (e::es) gl)(hg:Gl X x:=by rfl)(hn:x≠ "__name__":=by decide)(hdb:(x==("__debug__":aj))=false:=by decide)(he:Yw (e::es) X.env=(false,aF e X.env)::Yw es X.env:=by rfl)(hpl:(bZ pos (Yw es X.env)).any (·.1)=false:=by rfl):C3 X (.Call (.Name x p) (e::es) [] pos) (aA q gl):=(Jm hc hg hm hv ha hn hdb he hpl).imp Zqr
theorem j4{T:String}(hc:cQ X (.type T) (rB X.K q))(hm:X.mg x=Yn)(hv:jD x=Ya (.type T))(ha:CA X (e::es) gl)(hg:Gl X x:=by rfl)(hn:x≠ "__name__":=by decide)(hdb:(x==("__debug__":aj))=false:=by decide)(he:Yw (e::es) X.env=(false,aF e X.env)::Yw es X.env:=by rfl)(hpl:(bZ pos (Yw es X.env)).any (·.1)=false:=by rfl):C3 X (.Call (.Name x p) (e::es) [] pos) (aA q gl):=(ZjU hc hg hm hv ha hn hdb he hpl).imp Zqr
theorem bx(hr:kY X (r2 X.K Zn))(ha:C3 X a f)(hb:C3 X b g)(hs:ZnU b:=by exactλ_ _=>rfl):C3 X (.Subscript a b pos) (e2 Zn f g):=(ZvT hr ha hb hs).imp JN
theorem rC:CO X Yn fW:=Zr1.imp λσ H Q ⟨ι,M,env,S,E,h⟩=>h H ι Ext.refl S
theorem o_(h:C3 X e f):CO X (Ya e) (dN f):=(Zsi h).imp λσ H Q ak=>by
 obtain⟨ι,M,env,S,E,h⟩:=ak;obtain⟨d,M1,e1,h⟩:=Fb.bind h;refine⟨ι,M,env,S,E,?_⟩;rw[e1];intro v H1 ι1 x1 S1 r1;cases d with
 |int i=>exact⟨i,r1.int_inv,h H1 ι1 x1 S1⟩|_=>exact h.elim
theorem qd{lo hi:Option Expr}{ol oh:xP}{p2:aU}(hr:jx X (rS X.K))(he:C3 X e f)(hl:CO X lo ol)(hu:CO X hi oh):C3 X (.Subscript e (.Slice lo hi Yn p2) pos) (eN f ol oh):=(Zqa hr he hl hu).imp λσ H Q ak=>by obtain⟨ι,M,env,S,E,h⟩:=ak;obtain⟨d,M1,e1,h⟩:=Zt.bind h;obtain⟨l,M2,e2,h⟩:=Zt.bind h;obtain⟨u,M3,e3,h⟩:=Zt.bind h;refine⟨ι,M,env,S,E,?_⟩;rw[e1];intro v H1 ι1 x1 S1 r1;refine⟨ι1,M1,env,S1,E.mono x1,?_⟩;rw[e2];intro H2 ι2 x2 S2;refine⟨ι2,M2,env,S2,(E.mono x1).mono x2,?_⟩;rw[e3];intro H3 ι3 x3 S3;exact⟨ι3,M3,d,S3,(r1.mono x2).mono x3,((h.up x1).up x2).up x3⟩
theorem cM:o8 X [] aW:=ZrD.imp λD σ H ⟨ι,M,env,S,E,h⟩=>h σ H ι Ext.refl S E
theorem Zm{u:S3}(h:CS X st u):o8 X [st] u:=ZrC h
theorem Ze{sts:List Yep}{u w:S3}(h1:CS X st u)(h2:o8 X sts w):o8 X (st::sts) (Zr u w):=(Zpl h1 h2).imp λD σ H ak=>by
 obtain⟨ι,M,env,S,E,h⟩:=ak;refine⟨ι,M,env,S,E,?_⟩;have h':o7 X.K H ι D (match u env M with| .nx env' M'=>w env' M'|o=>o):=h;cases q:u env M with
 |nx env' M'=>rw[q]at h';exactλσ' H' ι' x S' E'=>⟨ι',M',env',S',E',h'.up x⟩|_=>rw[q]at h';exact h'
theorem bV{c1:Expr}{x y:List Yep}{u w:S3}(hc:CT X c1 f)(ha:o8 X x u)(hb:o8 X y w):CS X (.If c1 x y pos) (aJ f u w):=(Zwx hc ha hb).imp λD σ H ak=>by
 obtain⟨ι,M,env,S,E,h⟩:=ak;refine⟨ι,M,env,S,E,?_⟩;unfold aJ at h;cases q:f env M with
 | ok d M1=>
  rw[q]at h;cases d with
  |bl k=>
   intro H1 ι1 x1 S1;cases k with
   |true=>rw[if_pos rfl];exact⟨ι1,M1,env,S1,E.mono x1,h.up x1⟩|false=>rw[if_neg (by decide)];exact⟨ι1,M1,env,S1,E.mono x1,h.up x1⟩
  |_=>exact h.elim
 |exc x M1=>rw[q]at h;exact h.elim|bad=>rw[q]at h;exact h.elim
theorem bW(h:C3 X e f):CS X (.Return (Ya e) pos) (aX f):=(ZtK h).imp λD σ H ak=>by
 obtain⟨ι,M,env,S,E,h⟩:=ak;refine⟨ι,M,env,S,E,?_⟩;unfold aX at h;cases q:f env M with
 |ok d M1=>rw[q]at h;exact h|exc x M1=>rw[q]at h;exact h.elim|bad=>rw[q]at h;exact h.elim
theorem fX(h:C3 X e f)(hs:uR e Yn pos.line X.env=pure false:=by rfl):CS X (.Expr e pos) (aO f):=(Zsh h hs).imp λD σ H ak=>by
 obtain⟨ι,M,env,S,E,h⟩:=ak;refine⟨ι,M,env,S,E,?_⟩;unfold aO at h;cases q:f env M with
 |ok d M1=>rw[q]at h;exactλv H1 ι1 x1 S1 r1=>h σ H1 ι1 x1 S1 (E.mono x1)|exc x M1=>rw[q]at h;exact h.elim|bad=>rw[q]at h;exact h.elim
theorem Zv(i:Nat){pos':aU}(hN:X.N.Nodup)(he:C3 X e f)(hi:X.N[i]?=Ya x:=by rfl)(hx:Loc X.env.scope x:=by first|exact Or.inl rfl|exact Or.inr rfl)(hs:uR e (Ya (.Name x pos')) pos.line X.env=pure false:=by rfl)(hf:X.fn x=true\/X.env.scope.names.lookup x=Ya .local:=by first|exact .inl rfl|exact .inr rfl):CS X (.Assign [.Name x pos'] e pos) (aq i f):=(ZuU hN hi hx he hs hf).imp λD σ H ak=>by
 obtain⟨ι,M,env,S,E,h⟩:=ak;refine⟨ι,M,env,S,E,?_⟩;unfold aq at h;cases q:f env M with
 |ok d M1=>rw[q]at h;exactλv H1 ι1 x1 S1 r1=>h _ H1 ι1 x1 S1 ((E.mono x1).set i r1)|exc x M1=>rw[q]at h;exact h.elim|bad=>rw[q]at h;exact h.elim
theorem JQ:CS X st tM:=λ_ _ _ _ _ _ ⟨_,_,_,_,_,h⟩=>h.elim
theorem ZpN:CS X (.Break pos) QT:=ZpS.imp λD σ H ⟨ι,M,env,S,E,h⟩=>h σ H ι Ext.refl S E
end
noncomputable def tY(K:Yb)(n:Nat)(F:F3):Sp:=λvs H Q _=>∃ι M ds,aC K H ι M/\Zw K H ι ds vs/\ds.length=n/\Zt K H ι Q (F ds M)
section
variable {K:Yb} {H H':Hp} {ι ι':List Y1} {M M':Store}
mutual
theorem Rep.below:∀{d:D} {v:V},Rep K H ι d v->L3.below ι.length d=true
 | .non,_,_=>rfl|.bl _,_,_=>rfl|.int _,_,_=>rfl|.str _,_,_=>rfl
 | .tup ds,_,h=>by obtain⟨a,vs,_,_,r⟩:=h.iY;exact Zw.bR (ds:=ds) r|.aY ds,_,h=>by obtain⟨a,vs,_,_,r⟩:=h.rK;exact Zw.bR (ds:=ds) r|.ref n,_,h=>by obtain⟨a,q,_⟩:=h.dH;exact decide_eq_true (Yf.mp q).1
theorem Zw.bR:∀{ds:List D} {vs:List V},Zw K H ι ds vs->L3.bR ι.length ds=true
 |[],_,_=>rfl|d::ds,_,h=>by obtain⟨v,ws,_,r,q⟩:=h.cons_inv;exact vf.mpr ⟨Rep.below (d:=d) r,Zw.bR (ds:=ds) q⟩
end
mutual
theorem Rep.cut{n:Nat}:∀{d:D} {v:V},L3.below n d=true->Rep K H ι d v->Rep K H (ι.take n) d v
 | .non,_,_,h=>h|.bl _,_,_,h=>h|.int _,_,_,h=>h|.str _,_,_,h=>h
 | .tup ds,_,hb,h=>by obtain⟨a,vs,rfl,s,r⟩:=h.iY;exact Rep.tup s (Zw.cut (ds:=ds) hb r)|.aY ds,_,hb,h=>by obtain⟨a,vs,rfl,s,r⟩:=h.rK;exact⟨a,vs,rfl,s,Zw.cut (ds:=ds) hb r⟩|.ref k,_,hb,h=>by obtain⟨a,q,rfl⟩:=h.dH;refine Rep.ref ?_;rw[wK (of_decide_eq_true hb)];exact q
theorem Zw.cut{n:Nat}:∀{ds:List D} {vs:List V},L3.bR n ds=true->Zw K H ι ds vs->Zw K H (ι.take n) ds vs
 |[],_,_,h=>h|d::ds,_,hb,h=>by obtain⟨v,ws,rfl,r,q⟩:=h.cons_inv;exact have w:=vf.mp (hb:(L3.below n d&&L3.bR n ds)=true);Zw.cons (Rep.cut (d:=d) w.1 r) (Zw.cut (ds:=ds) w.2 q)
end
theorem lM.below{a:Y1}(h:lM K H ι m a):vC ι.length m=true:=by
 cases m with
 |lst xs=>obtain⟨vs,_,r⟩:=h;exact r.bR|dct kvs=>obtain⟨ws,_,_,r⟩:=h;exact r.bR|cJ kvs=>obtain⟨ws,_,_,r⟩:=h;exact r.bR|ins c fs=>
  rcases h with⟨_,_,gs,_,_,_,r⟩|⟨_,_,_,_,rfl⟩
  .exact r.bR
  .rfl
theorem lM.cut{a:Y1}(hb:vC n m=true)(h:lM K H ι m a):lM K H (ι.take n) m a:=by
 cases m with
 |lst xs=>obtain⟨vs,q,r⟩:=h;exact⟨vs,q,r.cut hb⟩|dct kvs=>obtain⟨ws,q,r1,r2⟩:=h;exact⟨ws,q,r1,r2.cut hb⟩|cJ kvs=>obtain⟨ws,q,r1,r2⟩:=h;exact⟨ws,q,r1,r2.cut hb⟩|ins c fs=>
  rcases h with⟨C,dx,gs,q,c,r1,r2⟩|h
  .exact .inl ⟨C,dx,gs,q,c,r1,r2.cut hb⟩
  .exact .inr h
theorem aC.cut(S:aC K H ι M)(h:(M.take n).all (vC n)=true):aC K H (ι.take n) (M.take n):=by
 refine⟨by simp[S.len],S.nd.sublist (Wk _ _),λk m a h1 h2=>?_⟩;have hk:k<n:=by have:=(Yf.mp h1).1;rw[yW]at this;exact Y9 this (Nat.min_le_left _ _)
 have hb:vC n m=true:=gQ.mp h m (wL h1);rw[wK hk]at h1 h2;exact(S.obj k m a h1 h2).cut hb
theorem Zoe{Q:VK}(S:aC K H ι M)(x:Ext K H ι H' ι')(S':aC K H' ι' M')(r:Rep K H' ι' d v)(h:Zt K H ι Q (dW M d M')):Q v H':=by
 unfold dW at h;split at h
 .rename_i c;simp only[Y4,w5,decide_eq_true_eq]at c;have hall:(M'.take M.length).all (vC M.length)=true:=by
   rcases c.2 with e|e
   .rw[e,gQ];intro m hm;obtain⟨n,hn⟩:=M_ hm;obtain⟨a,q,w⟩:=S.at hn;rw[←S.len];exact w.below
   .exact e
  refine h v H' (ι'.take M.length) ⟨x.tup,x.aY,λn a q=>?_,x.fH⟩ (S'.cut hall) (r.cut c.1);rw[wK (by rw[←S.len];exact(Yf.mp q).1)];exact x.pre n a q
 .exact h v H' ι' x S' r
end
theorem b8.start(r:Zw K H ι ds vs)(n:Nat):b8 K H ι (ds.map Ya++Yq n Yn) (vs.map Ya++Yq n Yn):=by
 refine⟨by simp[r.length],λi d h=>?_⟩;by_cases hi:i<ds.length
 .rw[Yi (by simpa using hi),jO]at h;cases q:ds[i]? with
  |none=>rw[q]at h;simp at h|some d'=>rw[q]at h;simp at h;subst h;obtain⟨v,e,z⟩:=r.get q;refine⟨v,?_,z⟩;rw[Yi (by simpa[r.length]using hi),jO,e];rfl
 .rw[wJ (by simpa using hi),G7]at h;split at h<;>simp at h
variable{ps:List aj}
section
variable {P:bD} {w:bw} {K:Yb} {mg:aj->Option Yh} {base:aN}
theorem Q5{qual:aj}{f:Y1}{fd:jT}{N:List aj}{k:Nat}(F:tH K x qual st f fd)(S:dJ N ps (Zk st))(hb:∀(cdv:Yh) (A:bJ) (outer:List eV) (s:Yj) (H:Hp) (E:XK),dz k (A.deeper (oN qual (Zk st) s.heap.objs.size f cdv))->o8 (tD kZ P w K mg base N qual (Zk st) f cdv A outer s H E).xG (cL st) body):
  jm P w K mg base kZ (k+1) f fd ps (tY K ps.length (bY ps.length N.length body)):=by
 refine F.ok S (λvs H Q E ⟨ι,M,ds,_,r,l,_⟩=>by rw[r.length,l]) λcdv A outer s H vs Q E hr ak=>?_;obtain⟨ι,M,ds,SR,r,l,h⟩:=ak;refine⟨_,hb cdv A outer s H E hr,ι,M,ds.map Ya++Yq (N.length-ps.length) Yn,SR,?_,?_⟩
 .have e:L2.start N vs=vs.map Ya++Yq (N.length-ps.length) Yn:=by unfold L2.start;rw[r.length,l]
  rw[e];exact b8.start r _
 .unfold bY at h;rw[if_pos l]at h;cases q:body (ds.map Ya++Yq (N.length-ps.length) Yn) M with
  |nx env' M'=>rw[q]at h;exactλσ' H' ι' x S' E'=>Zoe SR x S' Rep.non h|rt d M'=>rw[q]at h;exactλv H' ι' x S' r'=>Zoe SR x S' r' h|bk _ _=>rw[q]at h;exact h.elim|ct _ _=>rw[q]at h;exact h.elim
  |exc _ _=>rw[q]at h;exact h.elim|bad=>rw[q]at h;exact h.elim
def aH(P:bD)(w:bw)(K:Yb)(mg:aj->Option Yh)(base:aN)(k:Nat)(x:aj)(ps:List aj)(F:F3):Prop:=(∀ds M,ds.length≠ps.length->F ds M= .bad)/\∃f fd,mg x=Ya (.ref f)/\rR K (.ref f)=true/\Binds K fd ps []/\jm P w K mg base kZ k f fd ps (tY K ps.length F)
def bL(K:Yb)(mg:aj->Option Yh)(x:aj)(st:Yep)(ps:List aj):Prop:=∃f fd,tH K x x st f fd/\mg x=Ya (.ref f)/\Binds K fd ps []
theorem aH.mono{j k:Nat}(h:aH P w K mg base j x ps F)(l:j<=k):aH P w K mg base k x ps F:=let⟨n,f,fd,a,b,c,d⟩:=h;⟨n,f,fd,a,b,c,d.mono l⟩
theorem aH.of{N:List aj}{k:Nat}(d:bL K mg x st ps)(S:dJ N ps (Zk st))(hb:∀(f:Y1) (cdv:Yh) (A:bJ) (outer:List eV) (s:Yj) (H:Hp) (E:XK),dz k (A.deeper (oN x (Zk st) s.heap.objs.size f cdv))->o8 (tD kZ P w K mg base N x (Zk st) f cdv A outer s H E).xG (cL st) body):
  aH P w K mg base (k+1) x ps (bY ps.length N.length body):=by
 obtain⟨f,fd,F,m,bi⟩:=d;exact⟨λds M h=>if_neg h,f,fd,m,F.kp,bi,Q5 F S (hb f)⟩
end
section
variable {X:Cx} {e:Expr} {es:List Expr} {pos p:aU} {gl:d8} {x:aj} {k:Nat} {ps:List aj} {F:F3}
theorem cC(G:aH X.prog X.w X.K X.mg X.base k x ps F)(hr:dz k X.A)(ha:CA X (e::es) gl)(hg:Gl X x:=by rfl)(hdb:(x==("__debug__":aj))=false:=by decide)(he:Yw (e::es) X.env=(false,aF e X.env)::Yw es X.env:=by rfl)(hpl:(bZ pos (Yw es X.env)).any (·.1)=false:=by rfl):C3 X (.Call (.Name x p) (e::es) [] pos) (aM F gl):=by
 obtain⟨hn,f,fd,m,kp,bi,ok⟩:=G;refine(ZrR ok hr hg m kp bi .nil Zs6 ha hdb he hpl).imp λσ H Q ak=>?_;obtain⟨ι,M,env,S,E,h⟩:=ak;obtain⟨ds,M1,e1,h⟩:=Zt.bind h;refine⟨ι,M,env,S,E,?_⟩;rw[e1];intro vs H1 ι1 x1 S1 r1;have hl:ds.length=ps.length:=by refine ZD λq=>?_;rw[hn ds M1 q]at h;exact h.elim
 exact⟨ι1,M1,ds,S1,by rw[jQ];exact r1,hl,h.up x1⟩
end
def tGf(K:Yb)(g:G3):TG:=λv σ H Q=>∃ι M env d env',aC K H ι M/\b8 K H ι env σ/\Rep K H ι d v/\g d env=Ya env'/\∀σ',b8 K H ι env' σ'->Q σ' H
def tGs(K:Yb)(is:List Nat):pW:=λvs σ H Q=>∃ι M env ds env',aC K H ι M/\b8 K H ι env σ/\Zw K H ι ds vs/\bindAll is ds env=Ya env'/\∀σ',b8 K H ι env' σ'->Q σ' H
def CG(X:Cx)(tg:Expr)(g:G3):Prop:=PG X tg (tGf X.K g)
def Fg(X:Cx)(tg:List Expr)(is:List Nat):Prop:=pX X tg (tGs X.K is)
theorem PG.imp{t t':TG}(h:PG X e t)(i:∀v σ H Q,t' v σ H Q->t v σ H Q):PG X e t':=λpins s σ H v u Q I r q=>h pins s σ H v u Q I r (i v σ H Q q)
theorem pX.imp{e:List Expr}{t t':pW}(h:pX X e t)(i:∀v σ H Q,t' v σ H Q->t v σ H Q):pX X e t':=λpins s σ H v u Q I r q=>h pins s σ H v u Q I r (i v σ H Q q)
section
variable {X:Cx} {e:Expr} {es:List Expr} {pos:aU}
theorem jJ(i:Nat)(hN:X.N.Nodup)(hi:X.N[i]?=Ya x:=by rfl)(hx:Loc X.env.scope x:=by first|exact Or.inl rfl|exact Or.inr rfl)(hf:X.fn x=true\/X.env.scope.names.lookup x=Ya .local:=by first|exact .inl rfl|exact .inr rfl):CG X (.Name x pos) (cg i):=PG.imp (Zop hN hi hx hf) λv σ H Q ak=>by obtain⟨ι,M,env,d,env',S,E,r,q,h⟩:=ak;cases q;exact h _ (E.set i r)
theorem yc:Fg X [] []:=pX.imp Zss λv σ H Q ak=>by
 obtain⟨ι,M,env,ds,env',S,E,r,q,h⟩:=ak;cases ds with
 |nil=>cases q;exact⟨r.nil_inv,h σ E⟩|cons d ds=>cases q
theorem j5(i:Nat){is:List Nat}(hN:X.N.Nodup)(ht:Fg X es is)(hi:X.N[i]?=Ya x:=by rfl)(hx:Loc X.env.scope x:=by first|exact Or.inl rfl|exact Or.inr rfl)(hf:X.fn x=true\/X.env.scope.names.lookup x=Ya .local:=by first|exact .inl rfl|exact .inr rfl)(hs:(jh (.Name x pos::es) X.env).map (·.2)=ji (.Name x pos) X.env::(jh es X.env).map (·.2):=by rfl):
  Fg X (.Name x pos::es) (i::is):=pX.imp (Zre (Zop hN hi hx hf) ht hs) λv σ H Q ak=>by
 obtain⟨ι,M,env,ds,env',S,E,r,q,h⟩:=ak;cases ds with
 |nil=>cases q|cons d ds=>obtain⟨v,ws,rfl,r1,r2⟩:=r.cons_inv;exact⟨v,ws,rfl,ι,M,env.set i (Ya d),ds,env',S,E.set i r1,r2,q,h⟩
theorem JR{is:List Nat}{k:Nat}(hc:X.calm=true)(h:Fg X es is)(hl:es.length=is.length:=by rfl)(hn:(jh es X.env).length=is.length:=by rfl)(hst:(jh es X.env).findIdx? (·.1)=Yn:=by rfl):CG X (.Tuple es k pos) (nF is):=
 PG.imp (ZuE (n:=is.length) hc h hn hst) λv σ H Q ak=>by
  obtain⟨ι,M,env,d,env',S,E,r,q,h⟩:=ak;cases d with
  | tup ds=>
   obtain⟨a,vs,rfl,s,r⟩:=r.iY;have hlen:∀(is:List Nat) (ds:List D) (env env':bK),bindAll is ds env=Ya env'->ds.length=is.length:=by
    intro is
    induction is with
    |nil=>intro ds env env' h;cases ds with|nil=>rfl|cons d ds=>cases h
    |cons i is ih=>intro ds env env' h;cases ds with|nil=>cases h|cons d ds=>simp[ih ds _ _ h]
   exact⟨a,vs,rfl,s,by rw[r.length];exact hlen _ _ _ _ q,ι,M,env,ds,env',S,E,r,q,h⟩
  |_=>cases q
end
def qe(K:Yb)(H:Hp)(ι:List Y1)(it:fU)(J:It):Prop:=∀(i:Nat) H2 ι2 M2,Ext K H ι H2 ι2->aC K H2 ι2 M2->locked it M2=true ->
 (∀d,it.items[i]?=Ya d->J.go i H2/\∀x H3,J.Jh i H2 x H3->H3=H2/\Rep K H2 ι2 d x)/\(i=it.items.length->J.stop i H2)
def Ak(K:Yb)(H:Hp)(ι:List Y1)(R:It->Hp->Prop)(r:R3 fU):Prop:=match r with
 | .ok it M'=>∀J H' ι',Ext K H ι H' ι'->aC K H' ι' M'->qe K H' ι' it J->R J H'|_=>False
def Qh(K:Yb)(g:I3):TI:=λσ H R=>∃ι M env,aC K H ι M/\b8 K H ι env σ/\Ak K H ι R (g env M)
def CI(X:Cx)(tg e:Expr)(g:I3):Prop:=PI X tg e (Qh X.K g)
theorem PI.imp{tg:Expr}{t t':TI}(h:PI X tg e t)(i:∀σ H Q,t' σ H Q->t σ H Q):PI X tg e t':=λpins s σ H Q I q=>h pins s σ H Q I (i σ H Q q)
theorem PI.or{tg:Expr}{t t':TI}(h:PI X tg e t)(h':PI X tg e t'):PI X tg e (λσ H R=>t σ H R\/t' σ H R):=λpins s σ H Q I q=>q.elim (h pins s σ H Q I) (h' pins s σ H Q I)
theorem Ak.bind{Q:It->Hp->Prop}{r:R3 α}{k:α->Store->R3 fU}(h:Ak K H ι Q (r.bind k)):∃a M,r= .ok a M/\Ak K H ι Q (k a M):=by
 cases r with
 |ok a M=>exact⟨a,M,rfl,h⟩|exc x M=>exact h.elim|bad=>exact h.elim
section
variable {X:Cx} {tg e a b:Expr} {pos p:aU} {f g:E3}
theorem ZuS(h:C3 X e f)(hs:PI X tg e (λσ H R=>lO X.K f σ H λx H1=>∃z:aj,x= .str z/\z.length<=SZ/\∀J,(∀ι,qe X.K H1 ι ⟨z.cps.toList.map λc=>.str [c],Yn⟩ J)->R J H1)):CI X tg e (cV f):=
 PI.imp (PI.or (Zt0 h) (PI.or (Zsc h) hs)) λσ H R ak=>by
  obtain⟨ι,M,env,S,E,h⟩:=ak;obtain⟨d,M1,e1,h⟩:=Ak.bind h;cases d with
  |tup ds=>refine .inl ⟨ι,M,env,S,E,?_⟩;rw[e1];intro v H1 ι1 x1 S1 r1;obtain⟨a,vs,rfl,s,r⟩:=r1.iY;refine⟨a,rfl,⟨vs,s⟩,h _ H1 ι1 x1 S1 ?_⟩;intro i H2 ι2 M2 x S2 _;refine⟨λd hd=>?_,λhl=>⟨vs,x.tup _ _ s,by rw[r.length,hl];exact Ys _⟩⟩;obtain⟨v,hv,rv⟩:=r.get hd;refine⟨⟨vs,v,x.tup _ _ s,hv⟩,λy H3 hy=>⟨hy.1,?_⟩⟩;have e:=hy.2 vs (x.tup _ _ s);rw[hv]at e;cases e;exact rv.mono x|aY ds=>refine .inr (.inl ⟨ι,M,env,S,E,?_⟩);rw[e1];intro v H1 ι1 x1 S1 r1;obtain⟨a,vs,rfl,s,r⟩:=r1.rK;refine⟨a,rfl,⟨vs,s.sq⟩,h _ H1 ι1 x1 S1 ?_⟩;intro i H2 ι2 M2 x S2 _;refine⟨λd hd=>?_,λhl=>⟨vs,(x.aY _ _ s).sq,by rw[r.length,hl];exact Ys _⟩⟩;obtain⟨v,hv,rv⟩:=r.get hd;refine⟨⟨vs,v,(x.aY _ _ s).sq,hv⟩,λy H3 hy=>⟨hy.1,?_⟩⟩;have e:=hy.2 vs (x.aY _ _ s).sq;rw[hv]at e;cases e;exact rv.mono x|ref n=>
   refine .inr (.inl ⟨ι,M,env,S,E,?_⟩);rw[e1];intro v H1 ι1 x1 S1 r1;cases hm:M1[n]? with
   |none=>simp only[hm]at h;exact h.elim|some o=>
    cases o with
    |dct kvs=>simp only[hm]at h;exact h.elim|cJ kvs=>simp only[hm]at h;exact h.elim|ins _ _=>simp only[hm]at h;exact h.elim|lst ds=>simp only[hm]at h;obtain⟨a,ha,rfl⟩:=r1.dH;obtain⟨vs,q,r⟩:=S1.obj n _ a hm ha;refine⟨a,rfl,⟨vs,bB.of q⟩,h _ H1 ι1 x1 S1 ?_⟩;intro i H2 ι2 M2 x S2 lk;have Fi:M2[n]?=Ya (.lst ds):=of_decide_eq_true lk;obtain⟨vs2,q2,r2⟩:=S2.obj n _ a Fi (x.pre _ _ ha);refine⟨λd hd=>?_,λhl=>⟨vs2,bB.of q2,by rw[r2.length,hl];exact Ys _⟩⟩;obtain⟨v,hv,rv⟩:=r2.get hd;refine⟨⟨vs2,v,bB.of q2,hv⟩,λy H3 hy=>⟨hy.1,?_⟩⟩;have e:=hy.2 vs2 (bB.of q2);rw[hv]at e;cases e;exact rv
  | str z=>
   refine .inr (.inr ⟨ι,M,env,S,E,?_⟩);rw[e1];intro v H1 ι1 x1 S1 r1;have hv:=r1.str_inv;subst hv;by_cases hz:z.length<=SZ
   .simp only[if_pos hz]at h;refine⟨_,rfl,by simpa[kJ]using hz,λJ hJ=>h J H1 ι1 x1 S1 ?_⟩;simpa using hJ ι1
   .simp only[if_neg hz]at h;exact h.elim
  |non=>exact h.elim|bl b=>exact h.elim|int i=>exact h.elim
theorem Zqu(lo:Int)(n:Nat):qe K H ι ⟨lG lo n,Yn⟩ (Jj lo n):=by
 intro i H2 ι2 M2 x S _;refine⟨λd hd=>?_,λhl=>?_⟩
 .unfold lG at hd;rw[jO]at hd;cases q:(gU n)[i]? with
  |none=>rw[q]at hd;cases hd|some k=>
   rw[q]at hd;obtain⟨hi,e⟩:=Yf.mp q;rw[List.getElem_range]at e;subst e;have hd':D.int (lo+(i:Int))=d:=by simpa using hd
   subst hd';exact⟨(by show i<n;simpa using hi),λy H3 hy=>⟨hy.1,by rw[hy.2];exact Rep.int⟩⟩
 .show n<=i;rw[hl];simp[lG]
theorem JS(hm:X.mg "range" =Yn)(h:C3 X a f)(hg:Gl X "range":=by rfl)(hs:Yw [a] X.env=[(false,aF a X.env)]:=by rfl)(hs':Yw (a::[]) X.env=(false,aF a X.env)::Yw [] X.env:=by rfl):CI X tg (.Call (.Name "range" p) [a] [] pos) (qZ f):=
 PI.imp (Zo9 hg hm (Zc h Zg hs') hs) λσ H R ak=>by
  obtain⟨ι,M,env,S,E,h⟩:=ak;obtain⟨d,M1,e1,h⟩:=Ak.bind h;refine⟨ι,M,env,S,E,?_⟩;have e2:Zb f Zf env M= .ok [d] M1:=by unfold Zb;rw[e1];rfl
  rw[e2];intro vs H1 ι1 x1 S1 r1;obtain⟨v,ws,rfl,r,q⟩:=r1.cons_inv;have:=q.nil_inv;subst this;cases d with
  | int j=>
   have hv:=r.int_inv;subst hv;by_cases hj:j<=1000000/\ -1000000<=j
   .simp only[if_pos hj]at h;exact⟨j,rfl,by omega,by omega,h _ H1 ι1 x1 S1 (Zqu 0 j.toNat)⟩
   .simp only[if_neg hj]at h;exact h.elim
  |_=>exact h.elim
theorem Al{iter:Expr}{body:List Yep}{i:I3}{g:G3}{u:S3}(yd:X.xe=λ_ _=>False)(hc:X.calm=true)(hi:CI X tg iter i)(hg:CG X tg g)(hb:o8 X body u)(hs:∀x,zb iter X.env x=pure x:=by intro _;rfl):
  CS X (.For tg iter body [] pos) (p6 i g u):=(Zui (by rw[yd];exact ZQ) hc hi hg hb hs).imp λD σ H ak=>by
 obtain⟨ι,M,env,S,E,h⟩:=ak;unfold p6 at h;cases q:i env M with
 |exc x M1=>rw[q]at h;exact h.elim|bad=>rw[q]at h;exact h.elim|ok it M1=>
  rw[q]at h;refine⟨ι,M,env,S,E,?_⟩;rw[q];intro J H1 ι1 x1 S1 ok;refine⟨λi m σ2 H2=>m=it.items.length-i/\i<=it.items.length/\∃ι2 M2 mY,Ext X.K H1 ι1 H2 ι2/\aC X.K H2 ι2 M2/\b8 X.K H2 ι2 mY σ2/\o7 X.K H2 ι2 D (iV it g u (it.items.drop i) mY M2),
   ⟨_,rfl,fG _,ι1,M1,env,Ext.refl,S1,E.mono x1,o7.up x1 h⟩,?_⟩
  rintro i m σ2 H2 ⟨rfl,hi,ι2,M2,mY,x2,S2,E2,h2⟩;by_cases hlt:i<it.items.length
  .have hd:it.items[i]?=Ya it.items[i]:=by simp[hlt]
   rw[yU hlt]at h2
   first|rw[tO]at h2|rw[vB]at h2
   by_cases lk:locked it M2=true
   .rw[if_pos lk]at h2;obtain⟨go,yl⟩:=(ok i H2 ι2 M2 x2 S2 lk).1 _ hd;cases eg:g it.items[i] mY with
    |none=>rw[eg]at h2;exact h2.elim|some Mm=>
     rw[eg]at h2;refine .inr ⟨go,λσ' H'=>∃ι3 M3 wI,Ext X.K H2 ι2 H' ι3/\aC X.K H' ι3 M3/\b8 X.K H' ι3 wI σ'/\o7 X.K H' ι3 D (iV it g u (it.items.drop (i+1)) wI M3),
      λσ' H' ⟨ι3,M3,wI,x3,S3,E3,h3⟩=>⟨it.items.length-(i+1),lD 2 0x30113c2012a1c0c21 T1 (m5 (lB 1 6991908881 T1 hlt)) (nj _ _),rfl,hlt,ι3,M3,wI,x2.trans x3,S3,E3,h3⟩,λx H' hy=>?_⟩
     obtain⟨rfl,rx⟩:=yl x H' hy;refine⟨ι2,M2,mY,_,Mm,S2,E2,rx,eg,λσ' E'=>⟨ι2,M2,Mm,S2,E',?_⟩⟩;cases qu:u Mm M2 with
     |nx e' M'=>simp only[qu]at h2;exactλσ' H' ι' x' S' E'=>⟨ι',M',e',x',S',E',h2.up x'⟩|ct e' M'=>simp only[qu]at h2;exactλσ' H' ι' x' S' E'=>⟨ι',M',e',x',S',E',h2.up x'⟩|bk e' M'=>simp only[qu]at h2;exact h2|rt d M'=>simp only[qu]at h2;exact h2
     |exc x' M'=>simp only[qu]at h2;exact h2.elim|bad=>simp only[qu]at h2;exact h2.elim
   .rw[if_neg lk]at h2;exact h2.elim
  .have e0:i=it.items.length:=iR hi (mz hlt);subst e0;rw[Nh]at h2
   first|rw[tO]at h2|rw[vB]at h2
   by_cases lk:locked it M2=true
   .rw[if_pos lk]at h2;exact .inl ⟨(ok _ H2 ι2 M2 x2 S2 lk).2 rfl,h2 σ2 H2 ι2 Ext.refl S2 E2⟩
   .rw[if_neg lk]at h2;exact h2.elim
theorem ZlM{c1:Expr}{body:List Yep}{u:S3}(yd:X.xe=λ_ _=>False)(hc:CT X c1 f)(hb:o8 X body u):CS X (.While c1 body [] pos) (QV f u):=(Zq3 (by rw[yd];exact ZQ) hc hb).imp λD σ H ak=>by
 obtain⟨ι,M,env,S,E,h⟩:=ak;refine⟨λm σ2 H2=>∃ι2 M2 mY,aC X.K H2 ι2 M2/\b8 X.K H2 ι2 mY σ2/\o7 X.K H2 ι2 D (q8 f u m mY M2),⟨1000000,ι,M,env,S,E,h⟩,?_⟩;rintro m σ2 H2 ⟨ι2,M2,mY,S2,E2,h2⟩;cases m with
 |zero=>exact h2.elim|succ m=>
  refine⟨ι2,M2,mY,S2,E2,?_⟩;rw[Ad]at h2;cases q:f mY M2 with
  |exc x M1=>rw[q]at h2;exact h2.elim|bad=>rw[q]at h2;exact h2.elim|ok d M1=>
   rw[q]at h2;cases d with
   | bl k=>
    cases k with
    |false=>intro H3 ι3 x3 S3;rw[if_neg (by decide)];exact h2 σ2 H3 ι3 x3 S3 (E2.mono x3)|true=>
     intro H3 ι3 x3 S3;rw[if_pos rfl];refine⟨λσ' H'=>∃ι4 M4 wI,aC X.K H' ι4 M4/\b8 X.K H' ι4 wI σ'/\o7 X.K H' ι4 D (q8 f u m wI M4),λσ' H' q=>⟨m,Dj _,q⟩,ι3,M1,mY,S3,E2.mono x3,?_⟩;have h3:=o7.up x3 h2;cases qu:u mY M1 with
     |nx e' M'=>simp only[qu]at h3;exactλσ' H' ι' x' S' E'=>⟨ι',M',e',S',E',h3.up x'⟩|ct e' M'=>simp only[qu]at h3;exactλσ' H' ι' x' S' E'=>⟨ι',M',e',S',E',h3.up x'⟩|bk e' M'=>simp only[qu]at h3;exact h3|rt d M'=>simp only[qu]at h3;exact h3
     |exc x' M'=>simp only[qu]at h3;exact h3.elim|bad=>simp only[qu]at h3;exact h3.elim
   |_=>exact h2.elim
end
theorem Rep.U6(r:Rep K H ι d v):decide (v=V.non)=decide (d=D.non):=by
 cases d with
 |non=>rw[r.jf];rfl|bl b=>rw[r.gm];rfl|int i=>rw[r.int_inv];rfl|str x=>rw[r.str_inv];rfl
 |tup ds=>obtain⟨a,vs,e,_⟩:=r.iY;rw[e];rfl|aY ds=>obtain⟨a,vs,e,_⟩:=r.rK;rw[e];rfl|ref n=>obtain⟨a,_,e⟩:=r.dH;rw[e];rfl
theorem Zh8{x y:List Nat}:decide (V.str ⟨x.toArray⟩=V.str ⟨y.toArray⟩)=(x==y):=by
 by_cases h:x=y
 .subst h;simp
 .rw[decide_eq_false (λe=>h (by injection e with e1;injection e1 with e2;simpa using congrArg zF e2))]
  exact(beq_eq_false_iff_ne.mpr h).symm
section
variable {X:Cx}
theorem ZqB:aP X (iM .Add) (λx y H Q=>∃a b ys,x= .ref a/\y= .ref b/\cF X.K H a []/\cF X.K H b ys/\Q (.ref b) H):=by
 intro pins s σ H x y v u Q I rx ry h;obtain⟨a,b,ys,rfl,rfl,ha,hb,q⟩:=h;cases rx;cases ry;obtain⟨its,r1,p1,_⟩:=I.tuple ha;obtain⟨its2,r2,p2,_⟩:=I.tuple hb;cases r1;obtain⟨⟨cls,dd,data,sl⟩,ho,hc,n,hd⟩:=id p1;obtain⟨⟨cls2,dd2,data2,sl2⟩,ho2,hc2,n2,hd2⟩:=id p2;simp only at hc hd hc2 hd2;subst hc hd hc2 hd2;exact NT ⟨_,ho,rfl⟩ ⟨_,ho2,rfl⟩ Nu NP O6 O4 (O2 _ _)
   (tuple_addW0 a b _ its2.toArray n n2 dd dd2 sl sl2 (by simp)) ⟨ho,ho2,⟨.ref b,H,I,rfl,q⟩⟩
theorem ZsI(x y:List Nat):(⟨x.toArray⟩:aj)++⟨y.toArray⟩=⟨(x++y).toArray⟩:=by show Str.append _ _=_;unfold Str.append;simp
noncomputable def vL(o:Option D)(f:D->R3 D):R3 D:=match o with
 |some d=>f d|none=>.bad
theorem Fj{Q:VK}{o:Option D}{f:D->R3 D}(h:Zt K H ι Q (vL o f)):∃x,o=Ya x/\Zt K H ι Q (f x):=by
 cases o with
 |none=>exact h.elim|some x=>exact⟨x,rfl,h⟩
noncomputable def onN(o:Option Nat)(f:Nat->R3 D):R3 D:=match o with
 |some d=>f d|none=>.bad
theorem Zsf{Q:VK}{o:Option Nat}{f:Nat->R3 D}(h:Zt K H ι Q (onN o f)):∃x,o=Ya x/\Zt K H ι Q (f x):=by
 cases o with
 |none=>exact h.elim|some x=>exact⟨x,rfl,h⟩
noncomputable def xY(o:Option MO)(f:List D->R3 D):R3 D:=match o with
 |some (.lst x)=>f x|_=>.bad
theorem JT{Q:VK}{o:Option MO}{f:List D->R3 D}(h:Zt K H ι Q (xY o f)):∃x,o=Ya (.lst x)/\Zt K H ι Q (f x):=by
 cases o with
 |none=>exact h.elim|some o=>cases o with
  |lst x=>exact⟨x,rfl,h⟩|_=>exact h.elim
noncomputable def ZvM(a b:Option MO)(f:List D->List D->R3 D):R3 D:=match a,b with
 |some (.lst x),Ya (.lst y)=>f x y|_,_=>.bad
theorem ZqW{Q:VK}{a b:Option MO}{f:List D->List D->R3 D}(h:Zt K H ι Q (ZvM a b f)):∃x y,a=Ya (.lst x)/\b=Ya (.lst y)/\Zt K H ι Q (f x y):=by
 cases a with
 |none=>exact h.elim|some a=>cases a with
  | lst x=>cases b with
   |none=>exact h.elim|some b=>cases b with
    |lst y=>exact⟨x,y,rfl,rfl,h⟩|_=>exact h.elim
  |_=>exact h.elim
theorem vP{Q:VK}{c:Prop}{_:Decidable c}(h:Zt K H ι Q (if c then r else .bad)):c/\Zt K H ι Q r:=by
 by_cases hc:c
 .rw[if_pos hc]at h;exact⟨hc,h⟩
 .rw[if_neg hc]at h;exact h.elim
theorem Zlr(r:Zw K H ι ds []):ds=[]:=G6 r.length.symm
theorem dY:aP X (iM .Add) (r2 X.K aQ):=aP.imp (aP.or Zuh (aP.or Zmt (aP.or Zue (aP.or ZrX ZqB)))) λx y H Q ak=>by
 obtain⟨ι,M,a,b,S,ra,rb,h⟩:=ak;cases a with
 |int i=>cases b with
  |int j=>exact .inl ⟨i,j,ra.int_inv,rb.int_inv,Zt.ok h S Rep.int⟩|_=>exact h.elim
 | str x=>cases b with
  |str y=>obtain⟨hz,h⟩:=vP h;exact .inr (.inl ⟨_,_,ra.str_inv,rb.str_inv,Yk hz jz,by rw[ZsI];exact Zt.ok h S Rep.str⟩)|_=>exact h.elim
 | tup x=>cases b with
  | tup y=>
   obtain⟨hz,h⟩:=vP h;obtain⟨p,vs,e,s,r⟩:=ra.iY;obtain⟨q,ws,e',s',r'⟩:=rb.iY;by_cases hv:vs=[]
   .rw[hv]at r s;rw[Zlr r]at h;exact .inr (.inr (.inr (.inr ⟨p,q,ws,e,e',s,s',Zt.ok h S (Rep.tup s' r')⟩)))
   .refine .inr (.inr (.inr (.inl ⟨p,q,vs,ws,e,e',s,s',hv,by rw[r.length,r'.length];exact Yk hz jz,λhw=>?_,λhw p' hp=>?_⟩)))
    .rw[hw]at r';rw[Zlr r',jQ]at h;exact Zt.ok h S (Rep.tup s r)
    .obtain⟨x2,S2,r2⟩:=S.uE hp (r.append r');exact h _ _ _ x2 S2 r2
  |_=>exact h.elim
 | ref n=>cases b with
  |ref m=>have h:Zt X.K H ι Q (ZvM M[n]? M[m]? λx y=>@ite _ (x.length+y.length<=SZ) (Yx _) (alloc (.lst (x++y)) M) .bad):=h;obtain⟨x,y,hn,hm,h⟩:=ZqW h;obtain⟨hz,h⟩:=vP h;obtain⟨p,hp,e⟩:=ra.dH;obtain⟨q,hq,e'⟩:=rb.dH;obtain⟨vs,e1,r1⟩:=S.obj n _ p hn hp;obtain⟨ws,e2,r2⟩:=S.obj m _ q hm hq;refine .inr (.inr (.inl ⟨p,q,vs,ws,e,e',e1,e2,by rw[r1.length,r2.length];exact Yk hz jz,λp' hp'=>?_⟩));obtain⟨x2,S2,r3⟩:=S.lst hp' (r1.append r2);exact h _ _ _ x2 S2 r3|_=>exact h.elim
 |_=>cases b<;>exact h.elim
theorem vQ:aP X (iM .Sub) (r2 X.K gZ):=aP.imp Ztq λx y H Q ak=>by obtain⟨ι,M,a,b,S,ra,rb,h⟩:=ak;cases a<;>cases b<;>first|exact h.elim|exact⟨_,_,ra.int_inv,rb.int_inv,Zt.ok h S Rep.int⟩
theorem di:aP X (iM .Mod) (r2 X.K Zy):=aP.imp ZtA λx y H Q ak=>by
 obtain⟨ι,M,a,b,S,ra,rb,h⟩:=ak;cases a with
 | int i=>cases b with
  | int j=>
   simp only[Zk9]at h;split at h
   .rename_i hj;exact⟨i,j,ra.int_inv,rb.int_inv,hj,Zt.ok h S Rep.int⟩
   .exact h.elim
  |_=>exact h.elim
 |_=>cases b<;>exact h.elim
theorem iD:aP X (iM .FloorDiv) (r2 X.K bG):=aP.imp ZsG λx y H Q ak=>by
 obtain⟨ι,M,a,b,S,ra,rb,h⟩:=ak;cases a with
 | int i=>cases b with
  | int j=>
   simp only[ZjW]at h;split at h
   .rename_i hj;exact⟨i,j,ra.int_inv,rb.int_inv,hj,Zt.ok h S Rep.int⟩
   .exact h.elim
  |_=>exact h.elim
 |_=>cases b<;>exact h.elim
theorem Zwc:aP X (iM .Pow) (r2 X.K Jw):=aP.imp ZuJ λx y H Q ak=>by
 obtain⟨ι,M,a,b,S,ra,rb,h⟩:=ak;cases a with
 | int i=>cases b with
  | int j=>
   simp only[ZlB]at h;split at h
   .rename_i hj;exact⟨i,j,ra.int_inv,rb.int_inv,⟨hj.1,iN [] [_] 1 0xf42405b083e83b081 T1 hj.2.1,by have:=hj.2.2;omega⟩,Zt.ok h S Rep.int⟩
   .exact h.elim
  |_=>exact h.elim
 |_=>cases b<;>exact h.elim
theorem jK:tu X (HD .USub) (r1 X.K cj):=tu.imp ZtX λx H Q ak=>by
 obtain⟨ι,M,a,S,ra,h⟩:=ak;cases a with
 |int i=>exact⟨i,ra.int_inv,Zt.ok h S Rep.int⟩|_=>exact h.elim
theorem tZ:aP X (eU .Lt) (r2 X.K dD):=aP.imp Zws λx y H Q ak=>by obtain⟨ι,M,a,b,S,ra,rb,h⟩:=ak;cases a<;>cases b<;>first|exact h.elim|exact⟨_,_,ra.int_inv,rb.int_inv,Zt.ok h S Rep.bl⟩
theorem Q6:aP X (eU .LtE) (r2 X.K nA):=aP.imp Zvs λx y H Q ak=>by obtain⟨ι,M,a,b,S,ra,rb,h⟩:=ak;cases a<;>cases b<;>first|exact h.elim|exact⟨_,_,ra.int_inv,rb.int_inv,Zt.ok h S Rep.bl⟩
theorem ph:aP X (eU .Gt) (r2 X.K cu):=aP.imp ZvS λx y H Q ak=>by obtain⟨ι,M,a,b,S,ra,rb,h⟩:=ak;cases a<;>cases b<;>first|exact h.elim|exact⟨_,_,ra.int_inv,rb.int_inv,Zt.ok h S Rep.bl⟩
theorem Fl:aP X (eU .Is) (r2 X.K nC):=aP.imp Zth λx y H Q ak=>by
 obtain⟨ι,M,a,b,S,ra,rb,h⟩:=ak;cases b with
 |non=>exact⟨rb.jf,by rw[ra.U6];exact Zt.ok h S Rep.bl⟩|_=>exact h.elim
theorem ZsH:aP X (eU .IsNot) (r2 X.K Eg):=aP.imp ZrZ λx y H Q ak=>by
 obtain⟨ι,M,a,b,S,ra,rb,h⟩:=ak;cases b with
 |non=>exact⟨rb.jf,by rw[ra.U6];exact Zt.ok h S Rep.bl⟩|_=>exact h.elim
end
theorem units_in1(A:bJ):A.in1.units=A.units+1:=rfl
variable{A:bJ}{es:List D}
section
variable {X:Cx} {pins:List (Y1×aK)} {σ:St} {H:Hp} {s:Yj} {ι:List Y1}
theorem Zk1{e:Nat->Bool}:∀{x y:List D},x.length=y.length->(∀(j:Nat) a b,x[j]?=Ya a->y[j]?=Ya b->e j=dM a b)->(gU x.length).all e=iU x y:=by
 intro x
 induction x generalizing e with
 |nil=>intro y h _;cases y with|nil=>rfl|cons _ _=>simp at h
 | cons a x ih=>
  intro y h he;cases y with
  |nil=>simp at h|cons b y=>rw[Yp,Wc,jC,List.all_map,he 0 a b rfl rfl];rw[QC];congr 1;exact ih (e:=e ∘ Nat.succ) (by simpa using h) λj a' b' h1 h2=>he (j+1) a' b' (by simpa using h1) (by simpa using h2)
theorem ZlZ:∀{x y:List D},iU x y=true->x.length=y.length
 |[],[],_=>rfl|[],_::_,h=>ft h|_::_,[],h=>ft h|a::x,b::y,h=>congrArg Nat.succ (ZlZ (vf.mp (h:(dM a b&&iU x y)=true)).2)
theorem JV(h:dB 0 d=true):dg d=true:=by cases d<;>first|exact rfl|exact h
theorem Am(h:dB (n+1) d=true):dg d=true\/∃ds,d= .tup ds:=by
 cases d with
 |tup ds=>exact .inr ⟨ds,rfl⟩|aY _=>exact ft h|ref _=>exact ft h|_=>exact .inl rfl
theorem Zj5{a b:D}(fa:dg a=true)(fb:dg b=true)(r:Rep K H ι a v)(q:Rep K H ι b v):dM a b=true:=by
 cases a with
 |non=>have e:=r.jf;cases b with
  |non=>rfl|bl _=>cases e.symm.trans q.gm|int _=>cases e.symm.trans q.int_inv|str _=>cases e.symm.trans q.str_inv
  |_=>exact ft fb
 |bl x=>have e:=r.gm;cases b with
  |non=>cases e.symm.trans q.jf|bl _=>exact beq_iff_eq.mpr (V.bl.inj (e.symm.trans q.gm))|int _=>cases e.symm.trans q.int_inv|str _=>cases e.symm.trans q.str_inv
  |_=>exact ft fb
 |int x=>have e:=r.int_inv;cases b with
  |non=>cases e.symm.trans q.jf|bl _=>cases e.symm.trans q.gm|int _=>exact beq_iff_eq.mpr (V.int.inj (e.symm.trans q.int_inv))|str _=>cases e.symm.trans q.str_inv
  |_=>exact ft fb
 |str x=>have e:=r.str_inv;cases b with
  |non=>cases e.symm.trans q.jf|bl _=>cases e.symm.trans q.gm|int _=>cases e.symm.trans q.int_inv|str _=>exact Zh8.symm.trans (decide_eq_true (e.symm.trans q.str_inv))
  |_=>exact ft fb
 |_=>exact ft fa
theorem Zls{a:D}{p:Y1}(fa:dg a=true)(r:Rep K H ι a v)(e:v= .ref p):False:=by
 cases a with
 |non=>cases e.symm.trans r.jf|bl x=>cases e.symm.trans r.gm|int x=>cases e.symm.trans r.int_inv|str x=>cases e.symm.trans r.str_inv
 |_=>exact ft fa
theorem Rep.fun1(I:Inv X pins σ H s):∀(n:Nat) (a b:D) (v:V),dB n a=true->dB n b=true->Rep X.K H ι a v->Rep X.K H ι b v->dM a b=true:=by
 intro n
 induction n with
 |zero=>intro a b v ha hb r q;exact Zj5 (JV ha) (JV hb) r q|succ n ih=>
  intro a b v ha hb r q;rcases Am ha with fa|⟨ds,ea⟩
  .rcases Am hb with fb|⟨es,eb⟩
   .exact Zj5 fa fb r q
   .rw[eb]at q;obtain⟨p,vs,e,_⟩:=q.iY;exact(Zls fa r e).elim
  .rw [ea]at r ha ⊢;obtain⟨p,vs,e,s1,r1⟩:=r.iY;rcases Am hb with fb|⟨es,eb⟩
   .exact(Zls fb q e).elim
   .rw[eb]at q hb ⊢;obtain⟨p',ws,e',s2,r2⟩:=q.iY;rw[←V.ref.inj (e.symm.trans e')]at s2;rw[←I.LR s1 s2]at r2;clear s1 s2 e e' q r eb ea;rw[Ztd];revert ha hb r1 r2
    induction ds generalizing es vs with
    |nil=>
     intro _ r1 _ r2;cases es with
     |nil=>rfl|cons _ _=>obtain⟨_,_,e,_⟩:=r2.cons_inv;cases r1.nil_inv.symm.trans e
    | cons d ds ih2=>
     intro h1 r1 h2 r2;obtain⟨v,ws,e,q1,q2⟩:=r1.cons_inv;cases es with
     |nil=>cases r2.nil_inv.symm.trans e|cons e' es=>obtain⟨v',ws',z,q3,q4⟩:=r2.cons_inv;obtain⟨z1,z2⟩:=iT (z.symm.trans e);rw[z1]at q3;rw[z2]at q4;have g1:=vf.mp (h1:(dB n d&&ds.all (dB n))=true);have g2:=vf.mp (h2:(dB n e'&&es.all (dB n))=true);rw[QC,ih d e' v g1.1 g2.1 q1 q3];exact ih2 ws es g1.2 q2 g2.2 q4
theorem Ao{x:V}(r:Rep K H ι .non x)(e:RelV x u):u= .none:=by rw[r.jf]at e;cases e;rfl
theorem vR{b:Bool}{x:V}(r:Rep K H ι (.bl b) x)(e:RelV x u):u= .bool b:=by rw[r.gm]at e;cases e;rfl
theorem vU{i:Int}{x:V}(r:Rep K H ι (.int i) x)(e:RelV x u):∃t,u= .int i t:=by rw[r.int_inv]at e;exact e
theorem vV{i:List Nat}{x:V}(r:Rep K H ι (.str i) x)(e:RelV x u):∃t,u= .str ⟨i.toArray⟩ t:=by rw[r.str_inv]at e;exact e
inductive Q7(X:Cx)(H:Hp)(ι:List Y1)(T:Y1->Array Yh->Prop)(ds:List D)(x:V)(u:Yh):Prop
 |mk (p:Y1) (vs:List V) (its:List Yh):x= .ref p->u= .ref p->T p its.toArray->Zw X.K H ι ds vs->Vals vs its->Q7 X H ι T ds x u
theorem ye(I:Inv X pins σ H s){x:V}(r:Rep X.K H ι (.tup ds) x)(e:RelV x u):Q7 X H ι s.heap.IsTuple ds x u:=by obtain⟨p,vs,ex,s1,r1⟩:=r.iY;obtain⟨its,rvs,ht,_⟩:=I.tuple s1;rw[ex]at e;exact⟨p,vs,its,ex,e,ht,r1,rvs⟩
theorem Qm{i k:List Nat}:decide (i=k)=((⟨i.toArray⟩:aj)==⟨k.toArray⟩):=by
 rw[←H_,←Zh8];by_cases h:(⟨i.toArray⟩:aj)=⟨k.toArray⟩
 .rw[h,beq_self_eq_true];exact decide_eq_true rfl
 .rw[beq_eq_false_iff_ne.mpr h];exact decide_eq_false λe=>h (V.str.inj e)
theorem Zr8{i k:List Nat}:dM (.str i) (.str k)=((⟨i.toArray⟩:aj)==⟨k.toArray⟩):=vg (show(i==k)=decide (i=k)from H_ i k) Qm
theorem Q8(A:bJ)(a b:D)(x y:V)(u v:Yh)(ha:dg a=true)(hb:dg b=true)(ra:Rep X.K H ι a x)(rb:Rep X.K H ι b y)(ru:RelV x u)(rv:RelV y v):sW A s u v (dM a b):=by
 cases a with
 |non=>rw[Ao ra ru];cases b with
  |non=>rw[Ao rb rv];exact Pn _|bl k=>rw[vR rb rv];exact YB _|int k=>obtain⟨t,e⟩:=vU rb rv;rw[e];exact YF _ _|str k=>obtain⟨t,e⟩:=vV rb rv;rw[e];exact YG _ _
  |_=>exact ft hb
 |bl i=>rw[vR ra ru];cases b with
  |non=>rw[Ao rb rv];exact YC _|bl k=>rw[vR rb rv];exact YD _ _|int k=>obtain⟨t,e⟩:=vU rb rv;rw[e];exact YH _ _ _|str k=>obtain⟨t,e⟩:=vV rb rv;rw[e];exact YJ _ _ _
  |_=>exact ft hb
 |int i=>obtain⟨t0,e0⟩:=vU ra ru;rw[e0];cases b with
  |non=>rw[Ao rb rv];exact YK _ _|bl k=>rw[vR rb rv];exact YL _ _ _|int k=>obtain⟨t,e⟩:=vU rb rv;rw[e];exact YS _ _ _ _|str k=>obtain⟨t,e⟩:=vV rb rv;rw[e];exact Pk _ _ _ _
  |_=>exact ft hb
 |str i=>obtain⟨t0,e0⟩:=vV ra ru;rw[e0];cases b with
  |non=>rw[Ao rb rv];exact YM _ _|bl k=>rw[vR rb rv];exact YQ _ _ _|int k=>obtain⟨t,e⟩:=vU rb rv;rw[e];exact Iv _ _ _ _|str k=>obtain⟨t,e⟩:=vV rb rv;rw[e,Zr8];exact YT _ _ _ _
  |_=>exact ft hb
 |_=>exact ft ha
noncomputable def Fo(ds es:List D)(j:Nat):Bool:=match ds[j]?,es[j]? with|some a,Ya b=>dM a b|_,_=>false
theorem Zof(hl:ds.length≠es.length):iU ds es=false:=by
 cases q:iU ds es with
 |false=>rfl|true=>exact absurd (ZlZ q) hl
theorem Zon(hn:n=ds.length)(hl:ds.length=es.length):(gU n).all (Fo ds es)=iU ds es:=by rw[hn];exact Zk1 hl λj a b h1 h2=>by unfold Fo;rw[h1,h2]
theorem ZnW{m:Nat}(hn:n=ds.length)(hm:m=es.length):((gU (jl n m)).all (Fo ds es)&&n==m)=iU ds es:=by
 by_cases hl:ds.length=es.length
 .have e:n=m:=hn.trans (hl.trans hm.symm);rw[←e,Nat.min_self,beq_self_eq_true,Ib];exact Zon hn hl
 .rw[Zof hl,beq_eq_false_iff_ne.mpr λe=>hl (hn.symm.trans (e.trans hm)),w6]
theorem nP{its:List Yh}(r:Zw X.K H ι ds vs)(v:Vals vs its):its.toArray.size=ds.length:=Yo.trans (v.length.symm.trans r.length)
theorem Q9{ws:List V}{its its2:List Yh}(ih:∀(a b:D) (x y:V) (u v:Yh),dB n a=true->dB n b=true->Rep X.K H ι a x->Rep X.K H ι b y->RelV x u->RelV y v->sW A s u v (dM a b))(p1:ds.all (dB n)=true)(p2:es.all (dB n)=true)(r1:Zw X.K H ι ds vs)(r2:Zw X.K H ι es ws)(v1:Vals vs its)(v2:Vals ws its2)(j:Nat)(h1:j<its.toArray.size)(h2:j<its2.toArray.size):sW A s its.toArray[j] its2.toArray[j] (Fo ds es j):=by
 have k1:j<ds.length:=by rw[←nP r1 v1];exact h1
 have k2:j<es.length:=by rw[←nP r2 v2];exact h2
 have q1:=Y7 k1;have q2:=Y7 k2;obtain⟨x,g1,z1⟩:=r1.get q1;obtain⟨y,g2,z2⟩:=r2.get q2;obtain⟨u,e1,l1⟩:=v1.get g1;obtain⟨v,e2,l2⟩:=v2.get g2;unfold Fo;rw[q1,q2];obtain⟨_,e1⟩:=Yf.mp e1;obtain⟨_,e2⟩:=Yf.mp e2;exact ih _ _ x y _ _ (gQ.mp p1 _ (uK k1)) (gQ.mp p2 _ (uK k2)) z1 z2 (e1▸l1) (e2▸l2)
theorem Zk6(A:bJ)(hu1:A.units<jw){a:D}{x:V}{p:Y1}{its:Array Yh}(ha:dg a=true)(ra:Rep X.K H ι a x)(ru:RelV x u)(it:s.heap.IsTuple p its):sW A s u (.ref p) (dM a (.tup es))/\sW A s (.ref p) u (dM (.tup es) a):=by
 cases a with
 |non=>rw[Ao ra ru];exact⟨SeqAt.EqAt.none_tuple it hu1,SeqAt.EqAt.tuple_none it hu1⟩|bl k=>rw[vR ra ru];exact⟨SeqAt.EqAt.bool_tuple _ it hu1,SeqAt.EqAt.tuple_bool _ it hu1⟩|int k=>obtain⟨t,e⟩:=vU ra ru;rw[e];exact⟨SeqAt.EqAt.int_tuple _ _ it hu1,SeqAt.EqAt.tuple_int _ _ it hu1⟩|str k=>obtain⟨t,e⟩:=vV ra ru;rw[e];exact⟨SeqAt.EqAt.str_tuple _ _ it hu1,SeqAt.EqAt.tuple_str _ _ it hu1⟩
 |_=>exact ft ha
theorem Zp7(I:Inv X pins σ H s):∀(n:Nat) (A:bJ) (_:A.units+n+1<jw) (a b:D) (x y:V) (u v:Yh),dB n a=true->dB n b=true->Rep X.K H ι a x->Rep X.K H ι b y->RelV x u->RelV y v->sW A s u v (dM a b):=by
 intro n
 induction n with
 |zero=>intro A hu a b x y u v ha hb ra rb ru rv;exact Q8 A a b x y u v (JV ha) (JV hb) ra rb ru rv|succ n ih=>
  intro A hu a b x y u v ha hb ra rb ru rv;have hu0:A.units+0+1<jw:=lC 1 0x2ae0cc12aa1c0cc11 T1 hu;have hu1:A.units<jw:=lB 1 1104257534993 T1 hu0;rcases Am ha with fa|⟨ds,ea⟩
  .rcases Am hb with fb|⟨es,eb⟩
   .exact Q8 A a b x y u v fa fb ra rb ru rv
   .rw[eb]at rb ⊢;obtain⟨p,vs,its,ex,eu,t,_⟩:=ye I rb rv;rw[eu];exact(Zk6 A hu1 fa ra ru t).1
  .rw[ea]at ra ha ⊢;obtain⟨p,vs,its,ex,eu,t,r1,v1⟩:=ye I ra ru;rw[eu];rcases Am hb with fb|⟨es,eb⟩
   .exact(Zk6 A hu1 fb rb rv t).2
   .rw[eb]at rb hb ⊢;obtain⟨q,ws,its2,ey,ev,t',r2,v2⟩:=ye I rb rv;rw[ev];by_cases hp:p=q
    .rw[ey,←hp,←ex]at rb;rw[Rep.fun1 I (n+1) _ _ _ ha hb ra rb,hp];exact Pn _
    .refine SeqAt.EqAt.of_refs hp ?_;rw[Ztd,←ZnW (nP r1 v1) (nP r2 v2)];exact ZL t t' hu1 (Q9 (ih A.in1 (by rw[units_in1];exact lC 1 0x2a1a0ccc12aa1c0cc11 T1 hu)) ha hb r1 r2 v1 v2)
end
section
variable {X:Cx}
section
variable {pins:List (Y1×aK)} {σ:St} {H:Hp} {s:Yj} {ι:List Y1}
theorem JW(I:Inv X pins σ H s)(S:aC X.K H ι M){x:V}(h:M[n]?=Ya (.lst ds))(r:Rep X.K H ι (.ref n) x)(e:RelV x u):Q7 X H ι s.heap.IsList ds x u:=by obtain⟨p,hp1,ex⟩:=r.dH;obtain⟨vs,e1,r1⟩:=S.obj n _ p h hp1;obtain⟨its,rvs,pl1,_⟩:=I.list (bB.of e1);rw[ex]at e;exact⟨p,vs,its,ex,e,pl1.isList,r1,rvs⟩
inductive yg(M:Store)(a b:D)(k:Bool):Prop
 |ref {n m:Nat} (ds es:List D):a= .ref n->b= .ref m->iU ds es=k->M[n]?=Ya (.lst ds)->M[m]?=Ya (.lst es)->ds.all (dB DEEP)=true/\es.all (dB DEEP)=true->yg M a b k
 |int (i j:Int):a= .int i->b= .int j->decide (i=j)=k->yg M a b k
 |str (i j:List Nat):a= .str i->b= .str j->decide (i=j)=k->yg M a b k
 |bl (i j:Bool):a= .bl i->b= .bl j->decide (i=j)=k->yg M a b k
 |tup {ds es:List D}:a= .tup ds->b= .tup es->iU ds es=k->ds.all (dB DEEP)=true/\es.all (dB DEEP)=true->yg M a b k
theorem Q_{c d:Bool}{a k:α}(h:(if c&&d then Ya a else Yn)=Ya k):a=k/\c=true/\d=true:=by
 cases c with
 |false=>exact i_ h|true=>cases d with
  |false=>exact i_ h|true=>exact⟨Y6 h,rfl,rfl⟩
noncomputable def Zw8(a b:Option MO):Option Bool:=match a,b with
 |some (.lst x),Ya (.lst y)=>if x.all (dB DEEP)&&y.all (dB DEEP)then Ya (iU x y)else Yn|_,_=>Yn
theorem Zsb{m:Nat}{k:Bool}(h:Zw8 M[n]? M[m]?=Ya k):yg M (.ref n) (.ref m) k:=by
 cases e1:M[n]? with
 |none=>rw[e1]at h;exact i_ h|some o=>cases o with
  | lst x=>cases e2:M[m]? with
   |none=>rw[e1,e2]at h;exact i_ h|some o=>cases o with
    |lst y=>rw[e1,e2]at h;exact have w:=Q_ h;.ref x y rfl rfl w.1 e1 e2 w.2|_=>rw[e1,e2]at h;exact i_ h
  |_=>rw[e1]at h;exact i_ h
theorem eqK{a b:D}{k:Bool}(h:pZ a b M=Ya k):yg M a b k:=by
 cases a with
 |ref n=>cases b with
  |ref m=>exact Zsb h|_=>exact i_ h
 |int i=>cases b with
  |int j=>exact .int i j rfl rfl (Y6 h)|_=>exact i_ h
 |str i=>cases b with
  |str j=>exact .str i j rfl rfl (Y6 h)|_=>exact i_ h
 |bl i=>cases b with
  |bl j=>exact .bl i j rfl rfl (Y6 h)|_=>exact i_ h
 |tup ds=>cases b with
  |tup es=>exact have w:=Q_ h;.tup rfl rfl w.1 w.2|_=>exact i_ h
 |_=>cases b<;>exact i_ h
theorem Ra{a b:D}{x y:V}{v:Yh}{k:Bool}(hu:X.A.units+80<jw)(I:Inv X pins σ H s)(S:aC X.K H ι M)(ra:Rep X.K H ι a x)(rb:Rep X.K H ι b y)(ru:RelV x u)(rv:RelV y v)(h:pZ a b M=Ya k):SeqAt.RcAt X.A s u v k/\SeqAt.RcNeAt X.A s u v (!k):=by
 have hu1:X.A.units<jw:=lB 1 17666545486865 T1 hu;have hu2:X.A.in1.units+DEEP+1<jw:=by rw[units_in1];exact(show X.A.units+1+60+1<jw from lB 1 0x1a3c2ba0ccc11502b0c11 T1 hu)
 rcases eqK h with⟨ds,es,ea,eb,ek,e1,e2,p1,p2⟩|⟨i,j,ea,eb,ek⟩|⟨i,j,ea,eb,ek⟩|⟨i,j,ea,eb,ek⟩|⟨ea,eb,ek,p1,p2⟩
 .rw[ea]at ra;rw[eb]at rb;rw[←ek];obtain⟨p,vs,its,_,eu,t,r1,v1⟩:=JW I S e1 ra ru;obtain⟨q,ws,its2,_,ev,t',r2,v2⟩:=JW I S e2 rb rv;rw[eu,ev];by_cases hl:ds.length=es.length
  .rw[←Zon (nP r1 v1) hl];have hz:=(nP r1 v1).trans (hl.trans (nP r2 v2).symm);have w:=Q9 (Zp7 I DEEP X.A.in1 hu2) p1 p2 r1 r2 v1 v2;exact⟨SeqAt.RcAt.lists t t' hz hu1 w,SeqAt.RcNeAt.lists t t' hz hu1 w⟩
  .rw[Zof hl];have hz:(its.toArray.size !=its2.toArray.size)=true:=bne_iff_ne.mpr λe=>hl ((nP r1 v1).symm.trans (e.trans (nP r2 v2)));exact⟨SeqAt.RcAt.lists_lengths t t' hz hu1,ZC t t' hz hu1⟩
 .rw[ea]at ra;rw[eb]at rb;obtain⟨t,e⟩:=vU ra ru;obtain⟨t',e'⟩:=vU rb rv;rw[e,e',←ek,←H_];exact⟨SeqAt.RcAt.int_int _ _ _ _,SeqAt.RcNeAt.int_int _ _ _ _⟩
 .rw[ea]at ra;rw[eb]at rb;obtain⟨t,e⟩:=vV ra ru;obtain⟨t',e'⟩:=vV rb rv;rw[e,e',←ek,Qm];exact⟨SeqAt.RcAt.str_str _ _ _ _,SeqAt.RcNeAt.str_str _ _ _ _⟩
 .rw[ea]at ra;rw[eb]at rb;rw[vR ra ru,vR rb rv,←ek,←H_];exact⟨SeqAt.RcAt.bool_bool _ _,SeqAt.RcNeAt.bool_bool _ _⟩
 .rw[ea]at ra;rw[eb]at rb;obtain⟨p,vs,its,_,eu,t,r1,v1⟩:=ye I ra ru;obtain⟨q,ws,its2,_,ev,t',r2,v2⟩:=ye I rb rv;rw[eu,ev,←ek,←ZnW (nP r1 v1) (nP r2 v2)];have w:=Q9 (Zp7 I DEEP X.A.in1 hu2) p1 p2 r1 r2 v1 v2;exact⟨ZL t t' hu1 w,SeqAt.RcNeAt.tuples t t' hu1 w⟩
end
theorem d_(hu:X.A.units+80<jw):aP X (eU .Eq) (r2 X.K aV):=by
 intro pins s σ H x y v u Q I rx ry h;obtain⟨ι,M,a,b,S,ra,rb,h⟩:=h;unfold aV at h;cases q:pZ a b M with
 |none=>rw[q]at h;exact h.elim|some k=>rw[q]at h;exact(Ra hu I S ra rb rx ry q).1 X.prog X.w X.xe _ ⟨.bl k,H,I,rfl,Zt.ok h S Rep.bl⟩
theorem Rb{i:Int}(r:Zw K H ι ds vs)(h:gw ds i=Ya d):∃v,xJ vs i=Ya v/\Rep K H ι d v:=by
 unfold gw at h;unfold xJ;have e:zQ vs.length i=jW ds.length i:=by rw[r.length];rfl
 rw[e];cases q:jW ds.length i with
 |none=>rw[q]at h;cases h|some j=>rw[q]at h;exact r.get h
theorem bA:kY X (r2 X.K Zn):=kY.imp ZuO λx y H Q ak=>by
 obtain⟨ι,M,a,b,S,ra,rb,h⟩:=ak;cases a with
 | tup ds=>cases b with
  |int i=>have h:Zt X.K H ι Q (vL (gw ds i) (λd=>.ok d M)):=h;obtain⟨d,q,h⟩:=Fj h;obtain⟨p,vs,e',s1,r1⟩:=ra.iY;obtain⟨v,e,rv⟩:=Rb r1 q;exact .inr (.inl ⟨p,vs,i,v,e',rb.int_inv,s1,e,Zt.ok h S rv⟩)|_=>exact h.elim
 | aY ds=>cases b with
  |int i=>have h:Zt X.K H ι Q (vL (gw ds i) (λd=>.ok d M)):=h;obtain⟨d,q,h⟩:=Fj h;obtain⟨p,vs,e',s1,r1⟩:=ra.rK;obtain⟨v,e,rv⟩:=Rb r1 q;exact .inl ⟨p,vs,i,v,e',rb.int_inv,s1.sq,e,Zt.ok h S rv⟩|_=>exact h.elim
 | str z=>cases b with
  |int i=>have h:Zt X.K H ι Q (onN (gw z i) (λc=>@ite _ (z.length<=SZ) (Yx _) (.ok (.str [c]) M) .bad)):=h;obtain⟨c,q,h⟩:=Zsf h;obtain⟨hz,h⟩:=vP h;exact .inr (.inr ⟨_,i,c,ra.str_inv,rb.int_inv,Yk hz jz,q,Zt.ok h S Rep.str⟩)|_=>exact h.elim
 | ref n=>cases b with
  |int i=>have h:Zt X.K H ι Q (xY (M[n]?) (λds=>vL (gw ds i) λd=>.ok d M)):=h;obtain⟨ds,hn,h⟩:=JT h;obtain⟨d,q,h⟩:=Fj h;obtain⟨p,hp,e'⟩:=ra.dH;obtain⟨vs,e1,r1⟩:=S.obj n _ p hn hp;obtain⟨v,e,rv⟩:=Rb r1 q;exact .inl ⟨p,vs,i,v,e',rb.int_inv,bB.of e1,e,Zt.ok h S rv⟩|_=>exact h.elim
 |_=>cases b<;>exact h.elim
theorem Rc(r:Zw K H ι ds vs)(lo hi:Option Int):Zw K H ι (cutD ds lo hi) (vz vs lo hi):=by
 have e:∀n d o,HT.aB n d o=aB n d o:=λn d o=>by cases o<;>rfl
 unfold cutD vz;rw[e,e,r.length];exact(r.drop _).take _
end
noncomputable def fY(cells:List (aj×Y1)):List (aj×NameKind)->List (aj×Y1)->List (aj×Y1)
 |[],cs=>cs|(n,k)::r,cs=>fY cells r (if k== .free then(n,(cells.lookup n).getD 0)::cs else cs)
theorem Fp{cells:List (aj×Y1)}{n:aj}{k:NameKind}{r:List (aj×NameKind)}{cs:List (aj×Y1)}:fY cells ((n,k)::r) cs=fY cells r (if k== .free then(n,(cells.lookup n).getD 0)::cs else cs):=rfl
theorem JX{scope:Scope}{env:eV}(h:∀y∈scope.names,y.2= .free->∃c,env.cells.lookup y.1=Ya c):closureFor scope env=pure (fY env.cells scope.names []):=by
 unfold closureFor;have key:∀(names:List (aj×NameKind)) (cs:List (aj×Y1)),(∀y∈names,y.2= .free->∃c,env.cells.lookup y.1=Ya c) ->
   (forIn names cs λx r=>match x with|(name,kind)=>if(kind==NameKind.free)=true then do let c ←cellOf env name;pure (ForInStep.yield ((name,c)::r))else pure (ForInStep.yield r):oK (List (aj×Y1)))=pure (fY env.cells names cs):=by
  intro names
  induction names with
  |nil=>intro cs _;rfl|cons y r ih=>
   intro cs hy;obtain⟨n,k⟩:=y;rw[List.forIn_cons];by_cases hk:k= .free
   .subst hk;obtain⟨c,hc⟩:=hy (n,.free) Yd rfl;have e1:cellOf env n=pure c:=by unfold cellOf;rw[hc]
    simp only[beq_self_eq_true,if_true,e1,pure_bind];rw[ih _ λz hz=>hy z (Yc _ hz)];rw[Fp,hc];rfl
   .have hb:(k==NameKind.free)=false:=by simpa using hk
    simp only[hb,zu,if_false,pure_bind];rw[ih _ λz hz=>hy z (Yc _ hz)];rw[Fp,hb];rfl
 have:=key scope.names [] h
 first
  |exact this
  |(simp only[bind_pure];exact this)
theorem ZoA{cells:List (aj×Y1)}{c:Y1}:∀(names:List (aj×NameKind)) (cs:List (aj×Y1)),(∀y∈names,y.2= .free->∃c,cells.lookup y.1=Ya c)->(fY cells names cs).lookup x=Ya c->cs.lookup x=Ya c\/cells.lookup x=Ya c:=by
 intro names
 induction names with
 |nil=>intro cs _ h;exact .inl h|cons y r ih=>
  intro cs hy h;obtain⟨n,k⟩:=y;rw[Fp]at h;rcases ih _ (λz hz=>hy z (Yc _ hz)) h with q|q
  .by_cases hk:k= .free
   .subst hk;obtain⟨c0,hc⟩:=hy (n,.free) Yd rfl;simp only[beq_self_eq_true,if_true,hc,Option.getD_some,jP]at q;cases hx:x==n with
    |true=>
     simp only[hx]at q;cases q;have:x=n:=by simpa using hx
     subst this;exact .inr hc
    |false=>simp only[hx]at q;exact .inl q
   .have hb:(k==NameKind.free)=false:=by simpa using hk
    simp only[hb,zu,if_false]at q;exact .inl q
  .exact .inr q
theorem ZmE{cells:List (aj×Y1)}:∀(names:List (aj×NameKind)) (cs:List (aj×Y1)),(cs.lookup x).isSome=true->((fY cells names cs).lookup x).isSome=true:=by
 intro names
 induction names with
 |nil=>intro cs h;exact h|cons y r ih=>
  intro cs h;obtain⟨n,k⟩:=y;rw[Fp];refine ih _ ?_;split
  .rw[jP];split
   .rfl
   .exact h
  .exact h
theorem ZjH{cells:List (aj×Y1)}:∀(names:List (aj×NameKind)) (cs:List (aj×Y1)),(x,NameKind.free)∈names->((fY cells names cs).lookup x).isSome=true:=by
 intro names
 induction names with
 |nil=>intro cs h;cases h|cons y r ih=>
  intro cs h;obtain⟨n,k⟩:=y;rw[Fp];rcases Ym.mp h with e|h
  .cases e
   refine ZmE _ _ ?_;simp
  .exact ih _ h
noncomputable def eE(X:Cx)(scope:Scope)(N':List aj)(C:Y1)(cl:List (aj×Y1))(s:Yj)(H:Hp)(ex:List Y1):Cx:={X with N:=N',s₀:=s,H₀:=H,env:=Dh scope cl C X.env,outer:=X.stack,stack:=X.stack,ex:=ex,fn:=λ_=>false,pn:=[],xe:=λ_ _=>False}
noncomputable def Rf(N N':List aj)(scope:Scope):Bool:=(gU N.length).all λi=>match N'[i]? with
 |some x=>(scope.names.lookup x).isNone|| (decide (N[i]?=Ya x)&&decide (scope.names.lookup x=Ya .free))|none=>false
def pq(X:Cx)(ifs:List Expr)(ts:List E3):Prop:=∀(pins:List (Y1×aK)) (s:Yj) (σ:St) (H:Hp) (Q:Bool->Hp->Prop),Inv X pins σ H s ->
 (∃ι M env,aC X.K H ι M/\b8 X.K H ι env σ/\match tQ ts env M with| .ok b M'=>∀H' ι',Ext X.K H ι H' ι'->aC X.K H' ι' M'->Q b H'|_=>False) ->
 ao (au X.prog X.w) X.A (forIn ifs true λc r=>if r=true then do let ok ←isTrue c X.env (aF c X.env);pure (ForInStep.yield ok)else pure (ForInStep.yield r)) (TP X pins σ Q) X.xe s
theorem mG:pq X [] []:=λpins s σ H Q I ⟨ι,M,env,S,E,h⟩=>wpAny_tests_nil ⟨H,I,h H ι Ext.refl S⟩
theorem Zsa{c:Expr}(hc:CT X c f):pq X [c] [f]:=λpins s σ H Q I ak=>by
 obtain⟨ι,M,env,S,E,h⟩:=ak;refine wpAny_tests_one (hc pins s σ H Q I ⟨ι,M,env,S,E,?_⟩);rw[Ep]at h;cases q:f env M with
 | ok d M1=>
  rw[q]at h;cases d with
  |bl b=>cases b with
   |true=>exact h|false=>exact h
  |_=>exact h.elim
 |exc x M1=>rw[q]at h;exact h.elim|bad=>rw[q]at h;exact h.elim
section
variable {prog:bD} {w:bw} {A:bJ} {R:sG->Yj->Prop} {s:Yj}
theorem ZgZ{elt target iter:Expr}{ifs:List Expr}{scope:Scope}{pos:aU}{it acc:Yh}{env:eV}(I:Nat->Yj->Prop)(turn:∀n s,I n s->ao (au prog w) A (sE it) (λr s₁=>match r with
   |none=>R (.ok .next) s₁|some v=>ao (au prog w) A (C_ target it v) (λ_ s₁'=>ao (au prog w) A (ji target env v) (λ_ s₂=>
     ao (au prog w) A (forIn ifs true λc r=>if r=true then do let ok ←isTrue c env (aF c env);pure (ForInStep.yield ok)else pure (ForInStep.yield r)) (λok s₃=>
      if ok=true then ao (au prog w) A (aF elt env) (λx s₄=>ao (au prog w) A (call (.builtin "list.append") [acc,x]) (λ_ s₅=>∃m,m<n/\I m s₅) (λ_ _=>False) s₄) (λ_ _=>False) s₃
      else∃m,m<n/\I m s₃) (λ_ _=>False) s₂) (λ_ _=>False) s₁') (λ_ _=>False) s₁) (λ_ _=>False) s)(n:Nat)(h:I n s):mq (au prog w) A (.compLoop (.ListComp elt [⟨target,iter,ifs,0⟩] scope pos) 0 it acc env) R s:=by
 refine codeAny_loop rfl I (λn s hI=>?_) n h;show ao _ A ((compTurn (.ListComp elt [⟨target,iter,ifs,0⟩] scope pos) 0 it acc env).onRaise (λx=>do noteFrame x env;theTreesLotGoes x)) _ _ s;refine wpAny_noted ?_;rw[compTurn_list];refine Yg (uP (Yg (ju (turn n s hI) (λr s₁ h₁=>?_) λ_ _ h'=>jk h')));cases r with
 |none=>exact Yt h₁|some v=>
  refine Yg (ju h₁ (λ_ s₁' h₁'=>?_) λ_ _ h'=>jk h');refine Yg (ju h₁' (λ_ s₂ h₂=>Yg (ju h₂ (λok s₃ h₃=>?_) λ_ _ h'=>jk h')) λ_ _ h'=>jk h');cases ok with
  |false=>exact Yt ⟨rfl,h₃⟩|true=>exact Yg (Yg (ju h₃ (λx s₄ h₄=>Yg (ju h₄ (λ_ s₅ h₅=>Yt (Yt ⟨rfl,h₅⟩)) λ_ _ h'=>jk h')) λ_ _ h'=>jk h'))
end
theorem Rg{env:eV}{k:NameKind}:∀{names:List (aj×NameKind)},(names.map λ(n,k)=>if(k==NameKind.free&&env.scope.kind== .function&&env.kindOf n==Ya .cell)then(n,NameKind.cell)else(n,k)).lookup x=Ya k ->
  ∃k0,names.lookup x=Ya k0/\(k0=k\/(k0= .free/\k= .cell)):=by
 intro names
 induction names with
 |nil=>intro h;simp at h|cons y r ih=>
  intro h;obtain⟨n,k1⟩:=y;rw[Yu]at h;cases hx:x==n with
  | true=>
   refine⟨k1,by simp[jP,hx],?_⟩;by_cases hc:(k1==NameKind.free&&env.scope.kind== .function&&env.kindOf n==Ya .cell)=true
   .simp only[if_pos hc,jP,hx]at h;cases h;simp only[Y4,beq_iff_eq]at hc;exact .inr ⟨hc.1.1,rfl⟩
   .simp only[if_neg hc,jP,hx]at h;cases h;exact .inl rfl
  | false=>
   have h':(r.map λ(n,k)=>if(k==NameKind.free&&env.scope.kind== .function&&env.kindOf n==Ya .cell)then(n,NameKind.cell)else(n,k)).lookup x=Ya k:=by
    by_cases hc:(k1==NameKind.free&&env.scope.kind== .function&&env.kindOf n==Ya .cell)=true
    .simp only[if_pos hc,jP,hx]at h;exact h
    .simp only[if_neg hc,jP,hx]at h;exact h
   obtain⟨k0,e,q⟩:=ih h';exact⟨k0,by simp[jP,hx,e],q⟩
theorem ZkV{env:eV}:∀{names:List (aj×NameKind)},names.lookup x=Ya .free ->
  (names.map λ(n,k)=>if(k==NameKind.free&&env.scope.kind== .function&&env.kindOf n==Ya .cell)then(n,NameKind.cell)else(n,k)).lookup x=Ya .free\/
  (names.map λ(n,k)=>if(k==NameKind.free&&env.scope.kind== .function&&env.kindOf n==Ya .cell)then(n,NameKind.cell)else(n,k)).lookup x=Ya .cell:=by
 intro names
 induction names with
 |nil=>intro h;simp at h|cons y r ih=>
  intro h;obtain⟨n,k1⟩:=y;rw[Yu];cases hx:x==n with
  |true=>
   simp only[jP,hx]at h;cases h;by_cases hc:(NameKind.free==NameKind.free&&env.scope.kind== .function&&env.kindOf n==Ya .cell)=true
   .simp only[if_pos hc,jP,hx];exact .inr trivial
   .simp only[if_neg hc,jP,hx];exact .inl trivial
  |false=>
   simp only[jP,hx]at h;by_cases hc:(k1==NameKind.free&&env.scope.kind== .function&&env.kindOf n==Ya .cell)=true
   .simp only[if_pos hc,jP,hx];exact ih h
   .simp only[if_neg hc,jP,hx];exact ih h
section
variable {X:Cx} {pins:List (Y1×aK)} {σ:St} {H:Hp} {s:Yj} {scope:Scope} {N':List aj} {own:Nat} {fp:List Y1}
theorem Zlc(I:Inv X pins σ H s)(hk:scope.kind= .function)(hcell:∀y∈scope.names,y.2≠ .cell)(hfree:∀y∈scope.names,y.2= .free->X.env.kindOf y.1=Ya .cell\/X.env.kindOf y.1=Ya .free)(hN:N'.length=X.N.length+own)(hv:Rf X.N N' scope=true)(hfp:∀b∈fp,iw X pins H b)(hlt:∀b∈fp,b<s.heap.objs.size){h1:aN}{tk:Nat}(hns:h1.Ns s.heap.objs.size λ_=>Yn)(keep:∀b o,s.heap.get? b=Ya o->h1.get? b=Ya o):
  Inv (eE X scope N' s.heap.objs.size (fY X.env.cells scope.names []) s H fp) [] (σ++Yq own Yn) H {s with heap:=h1,toks:=tk}:=by
 have hc0:∀y∈scope.names,y.2= .free->∃c,X.env.cells.lookup y.1=Ya c:=λy hy e=>I.ok.has y.1 (hfree y hy e);have sub:∀x c,(fY X.env.cells scope.names []).lookup x=Ya c->X.env.cells.lookup x=Ya c:=λx c h=>by
  rcases ZoA scope.names [] hc0 h with q|q
  .simp at q
  .exact q
 have cellK:∀{c:Y1} {v:Option Yh},s.heap.IsCell c v->h1.IsCell c v:=λ⟨o,ho,hd⟩=>⟨o,keep _ o ho,hd⟩;refine⟨⟨I.ok.mod,hk,I.ok.glob,I.ok.blt,Ys _,λx y c h1 h2=>I.ok.inj x y c (sub x c h1) (sub y c h2),λx hx=>?_,λx c h=>?_,I.ok.hd,I.ok.frames,.inl rfl,λb hb=>⟨dw (hlt b hb),λx c h=>(hfp b hb).2.2.2.2.1 x c (sub x c h)⟩,
   I.bs,Yk I.ok.pU I.sz,λb o e hb=>?_,λb hb hz=>?_,I.stack,I.U3⟩,rfl,I.bare,Un.kept keep,⟨_,hns,λi x v h1 h2 h3=>?_⟩,λx c h=>?_,I.hok.fresh (Ys _),λx c h=>I.qG x c (sub x c h),
  λp hp=>absurd (show p∈([]:List (Y1×aK))from hp) (by simp),I.hok.kept keep,?_⟩
 .have hx':(uV scope X.env).names.lookup x=Ya .cell\/(uV scope X.env).names.lookup x=Ya .free:=hx;have:scope.names.lookup x=Ya .free:=by
   rcases hx' with hx'|hx'
   .obtain⟨k0,e,q⟩:=Rg (names:=scope.names) hx';rcases q with q|⟨q,_⟩
    .subst q;exact absurd rfl (hcell _ (rZ e))
    .rw[e,q]
   .obtain⟨k0,e,q⟩:=Rg (names:=scope.names) hx';rcases q with q|⟨_,q⟩
    .rw[e,q]
    .cases q
  exact GR.mp (ZjH scope.names [] (rZ this))
 .cases h
 .obtain⟨_,_,_,q,_⟩:=hfp b hb;rcases q with q|q
  .exact I.ok.Cv b o e q
  .exact absurd (Y9 (Y3 e) (Yk I.ok.pU q)) (u6 _)
 .have hz':b∈frs X.stack:=hz;obtain⟨_,q1,q2,_⟩:=hfp b hb;rcases Ym.mp (I.Mg b hz')with e|e
  .exact q1 e
  .exact q2 e
 .have hi:i<σ.length:=by
   by_cases hi:i<σ.length
   .exact hi
   .rw[wJ (mz hi),G7]at h2;split at h2<;>cases h2
  rw[Yi hi]at h2;have DK:i<X.N.length:=by rw[←I.len];exact hi
  have hN':N'[i]?=Ya x:=h1;have vq:=gQ.mp hv i (Hh.mpr DK);rw[hN']at vq;have h3':(uV scope X.env).names.lookup x=Ya .local\/(uV scope X.env).names.lookup x=Ya .cell\/(uV scope X.env).names.lookup x=Ya .free:=h3;have some_of:∃k0,scope.names.lookup x=Ya k0:=by rcases h3' with q|q|q<;>(obtain⟨k0,e,_⟩:=Rg (names:=scope.names) q;exact⟨k0,e⟩)
  obtain⟨k0,ek⟩:=some_of;simp only[ek,Option.isNone_some,Xa,Y4,decide_eq_true_eq]at vq;obtain⟨vq1,vq2⟩:=vq;cases vq2;have hkind:=hfree (x,.free) (rZ ek) rfl;obtain⟨m,hn,hl⟩:=I.loc;have Abv:Jd X.env.scope x:=by
   rcases hkind with q|q
   .exact .inr (.inl q)
   .exact .inr (.inr q)
  obtain⟨u,ru,lk⟩:=hl i x v vq1 h2 Abv;refine⟨u,ru,?_⟩;rcases lk with⟨kl,_⟩|⟨_,c,ec,ic⟩
  .rcases hkind with q|q<;>(rw[q]at kl;cases kl)
  .have hkk:(Dh scope (fY X.env.cells scope.names []) s.heap.objs.size X.env).kindOf x=Ya .cell\/(Dh scope (fY X.env.cells scope.names []) s.heap.objs.size X.env).kindOf x=Ya .free:=by
    rcases ZkV (env:=X.env) ek with q|q
    .exact .inr q
    .exact .inl q
   obtain⟨c',ec'⟩:=GR.mp (ZjH (cells:=X.env.cells) scope.names [] (rZ ek));have e2:=sub x c' ec';rw[ec]at e2;cases e2;exact .inr ⟨hkk,c,ec',cellK ic⟩
 .obtain⟨v,ic⟩:=I.cell x c (sub x c h);exact⟨v,cellK ic⟩
 .show(σ++Yq own Yn).length=N'.length;rw[Ye,l_,I.len,hN]
theorem b8.grow{H:Hp}{σ:St}(E:b8 K H ι env σ)(n:Nat):b8 K H ι (env++Yq n Yn) (σ++Yq n Yn):=by
 refine⟨by simp[E.1],λi d h=>?_⟩;by_cases hi:i<env.length
 .rw[Yi hi]at h;obtain⟨v,e,r⟩:=E.2 i d h;exact⟨v,by rw[Yi (by rw[←E.1];exact hi)];exact e,r⟩
 .rw[wJ (mz hi),G7]at h;split at h<;>cases h
end
section
structure Cb where
 Y:Cx
 fp:List Y1
 tn:Nat->aN->Prop
 aR:fU
 H2:Hp
 ι2:List Y1
 Q:VK
 g:G3
 ts:List E3
 f:E3
 nM:Nat
 acc:Y1
inductive Rh(P:Cb)(n:Nat)(s':Yj):Prop
 | mk (k:Nat) (σ5:St) (H5:Hp) (ι5:List Y1) (M5:Store) (rO:bK) (I5:Inv P.Y [] σ5 H5 s') (kO:P.tn k s'.heap) (oU:∀b∈P.fp,H5 b=Yn) (hn:P.aR.items.length-k=n) (hk:k<=P.aR.items.length)
   (x5:Ext P.Y.K P.H2 P.ι2 H5 ι5) (S5:aC P.Y.K H5 ι5 M5) (E5:b8 P.Y.K H5 ι5 rO σ5) (hι:ι5[P.nM]?=Ya P.acc) (h5:Zt P.Y.K H5 ι5 P.Q (iW P.aR P.g P.ts P.f P.nM (P.aR.items.drop k) rO M5))
def JZ(P:Cb)(n:Nat)(s':Yj):Prop:=∃m,m<n/\Rh P m s'
section
noncomputable local instance (priority:=100000) AdL (p:Prop):Decidable p:=Abf p
noncomputable def J0(P:Cb)(k:Nat)(env:bK)(e:D)(M2:Store):R3 D:=match M2[P.nM]? with
 |some (.lst x)=>if x.length<SZ then iW P.aR P.g P.ts P.f P.nM (P.aR.items.drop (k+1)) env (M2.set P.nM (.lst (x++[e])))else .bad|_=>.bad
noncomputable def Ri(P:Cb)(k:Nat)(env:bK)(b:Bool)(M1:Store):R3 D:=if b then(P.f env M1).bind (J0 P k env)else iW P.aR P.g P.ts P.f P.nM (P.aR.items.drop (k+1)) env M1
end
def cbF(P:Cb)(n:Nat)(xv:Yh)(s:Yj):Prop:=ao (au P.Y.prog P.Y.w) P.Y.A (call (.builtin "list.append") [.ref P.acc,xv]) (λ_ s'=>JZ P n s') P.Y.xe s
def cbO(P:Cb)(elt:Expr)(n:Nat)(ok:Bool)(s:Yj):Prop:=if ok=true then ao (au P.Y.prog P.Y.w) P.Y.A (aF elt P.Y.env) (cbF P n) P.Y.xe s else JZ P n s
def cbS(P:Cb)(elt:Expr)(ifs:List Expr)(n:Nat)(s:Yj):Prop:=ao (au P.Y.prog P.Y.w) P.Y.A (forIn ifs true λc r=>if r=true then do let ok ←isTrue c P.Y.env (aF c P.Y.env);pure (ForInStep.yield ok)else pure (ForInStep.yield r)) (cbO P elt n) P.Y.xe s
def cbA(P:Cb)(tg elt:Expr)(ifs:List Expr)(n:Nat)(u:Yh)(s:Yj):Prop:=ao (au P.Y.prog P.Y.w) P.Y.A (ji tg P.Y.env u) (λ_=>cbS P elt ifs n) P.Y.xe s
def cbN(P:Cb)(tg elt:Expr)(ifs:List Expr)(it:Y1)(n:Nat)(F:Yj->Prop)(r:Option Yh)(s:Yj):Prop:=match r with
 |none=>F s|some v=>ao (au P.Y.prog P.Y.w) P.Y.A (C_ tg (.ref it) v) (λ_=>cbA P tg elt ifs n v) P.Y.xe s
variable {P:Cb} {tg elt:Expr} {ifs:List Expr} {J:It} {it:Y1} {k:Nat} {h7:aN} {σ:St} {H H':Hp} {s:Yj} {ι:List Y1} {M M1:Store} {env:bK}
theorem Zoc(T:Turn P.Y.prog P.Y.w P.Y.K tg J P.fp it P.tn)(j6:P.tn (k+1) h7)(hlt:k<P.aR.items.length)(I':Inv P.Y ([]++sZ P.fp h7) σ H s)(x:Ext P.Y.K P.H2 P.ι2 H ι)(S:aC P.Y.K H ι M)(E:b8 P.Y.K H ι env σ)(hι:ι[P.nM]?=Ya P.acc)(h:Zt P.Y.K H ι P.Q (iW P.aR P.g P.ts P.f P.nM (P.aR.items.drop (k+1)) env M)):JZ P (P.aR.items.length-k) s:=⟨P.aR.items.length-(k+1),lD 2 0x30113c2012a1c0c21 T1 (m5 (lB 1 6991908881 T1 hlt)) (nj _ _),⟨k+1,σ,H,ι,M,env,I'.Cq,T.keep _ _ _ j6 λb hb o e=>(I'.pin (b,o) (Y5 _ (Y5 _ (zM hb e)))).1,λb hb=>(T.obj _ _ j6 b hb).elim λo e=>(I'.pin (b,o) (Y5 _ (Y5 _ (zM hb e.1)))).2.1,rfl,hlt,x,S,E,hι,h⟩⟩
theorem ZvQ:Ri P k env true M=(P.f env M).bind (J0 P k env):=if_pos rfl
theorem Zwy:Ri P k env false M=iW P.aR P.g P.ts P.f P.nM (P.aR.items.drop (k+1)) env M:=if_neg (by decide)
theorem Zt.iff{H:Hp}{ι:List Y1}{Q:VK}{c:Prop}{dc:Decidable c}(h:Zt K H ι Q (if c then r else .bad)):c/\Zt K H ι Q r:=by
 by_cases hc:c
 .rw[if_pos hc]at h;exact⟨hc,h⟩
 .rw[if_neg hc]at h;exact h.elim
theorem Zt6{xv:Yh}(T:Turn P.Y.prog P.Y.w P.Y.K tg J P.fp it P.tn)(j6:P.tn (k+1) h7)(hlt:k<P.aR.items.length)(I':Inv P.Y ([]++sZ P.fp h7) σ H s)(r:RelV v xv)(x:Ext P.Y.K P.H2 P.ι2 H ι)(S:aC P.Y.K H ι M)(E:b8 P.Y.K H ι env σ)(rd:Rep P.Y.K H ι d v)(hι:ι[P.nM]?=Ya P.acc)(hm:M[P.nM]?=Ya (.lst xs))(hz:xs.length<SZ)(h:Zt P.Y.K H ι P.Q (iW P.aR P.g P.ts P.f P.nM (P.aR.items.drop (k+1)) env (M.set P.nM (.lst (xs++[d]))))):
  cbF P (P.aR.items.length-k) xv s:=by
 obtain⟨vs,ev,rvs⟩:=S.obj _ _ _ hm hι;obtain⟨x11,Rj⟩:=S.uF (.inr (.inl ⟨_,ev⟩)) hι (rvs.append (Zw.cons rd Zw.nil));refine aD (Q':=λ_ s'=>JZ P (P.aR.items.length-k) s') (Qz _ s σ H (.ref P.acc) [v] (.ref P.acc) [xv] (λ_ H'=>H'=upd H P.acc (.lst (vs++[v]))) I' rfl (.cons r .nil) ⟨_,vs,v,rfl,rfl,ev,by rw[rvs.length];exact Y9 hz jz,rfl⟩) λ_ J1 ak=>?_;obtain⟨_,H11,J2,_,eH⟩:=ak;rw[eH]at J2;exact Zoc T j6 hlt J2 (x.trans x11) Rj (E.mono x11) (x11.pre _ _ hι) (h.up x11)
theorem ZuD(T:Turn P.Y.prog P.Y.w P.Y.K tg J P.fp it P.tn)(helt:C3 P.Y elt P.f)(j6:P.tn (k+1) h7)(hlt:k<P.aR.items.length)(I':Inv P.Y ([]++sZ P.fp h7) σ H s)(x:Ext P.Y.K P.H2 P.ι2 H ι)(S:aC P.Y.K H ι M)(E:b8 P.Y.K H ι env σ)(hι:ι[P.nM]?=Ya P.acc)(h:Zt P.Y.K H ι P.Q ((P.f env M).bind (J0 P k env))):
  ao (au P.Y.prog P.Y.w) P.Y.A (aF elt P.Y.env) (cbF P (P.aR.items.length-k)) P.Y.xe s:=by
 obtain⟨d,Fq,e10,h10⟩:=Zt.bind h;refine aD (Q':=cbF P (P.aR.items.length-k)) (helt _ s σ H (λv H'=>∃qg,Ext P.Y.K H ι H' qg/\aC P.Y.K H' qg Fq/\Rep P.Y.K H' qg d v) I' ⟨ι,M,env,S,E,by rw[e10];exactλv H' ι' x' S' r'=>⟨ι',x',S',r'⟩⟩) λxv J3 ak=>?_;obtain⟨v,Rk,Rm,r10,qg,x10,J4,rd⟩:=ak;unfold J0 at h10;cases hm:Fq[P.nM]? with
 |none=>rw[hm]at h10;exact h10.elim|some o=>
  rw[hm]at h10;cases o with
  |dct _=>exact h10.elim|cJ _=>exact h10.elim|ins _ _=>exact h10.elim|lst xs=>exact Zt6 T j6 hlt Rm r10 (x.trans x10) J4 (E.mono x10) rd (x10.pre _ _ hι) hm (Zt.iff h10).1 ((Zt.iff h10).2.up x10)
theorem ZtV(T:Turn P.Y.prog P.Y.w P.Y.K tg J P.fp it P.tn)(hts:pq P.Y ifs P.ts)(helt:C3 P.Y elt P.f)(j6:P.tn (k+1) h7)(hlt:k<P.aR.items.length)(I':Inv P.Y ([]++sZ P.fp h7) σ H s)(x:Ext P.Y.K P.H2 P.ι2 H ι)(S:aC P.Y.K H ι M)(E:b8 P.Y.K H ι env σ)(hι:ι[P.nM]?=Ya P.acc)(h:Zt P.Y.K H ι P.Q ((tQ P.ts env M).bind (Ri P k env))):
  cbS P elt ifs (P.aR.items.length-k) s:=by
 obtain⟨b,M9,e9,h9⟩:=Zt.bind h;refine aD (Q':=cbO P elt (P.aR.items.length-k)) (hts _ s σ H (λb' H'=>b'=b/\∃ι9,Ext P.Y.K H ι H' ι9/\aC P.Y.K H' ι9 M9) I' ⟨ι,M,env,S,E,by rw[e9];exactλH' ι' x' S'=>⟨rfl,ι',x',S'⟩⟩) λb' s9 ak=>?_;obtain⟨H9,I9,eb,ι9,x9,S9⟩:=ak;rw[←eb]at h9;cases b' with
 |false=>exact Zoc T j6 hlt I9 (x.trans x9) S9 (E.mono x9) (x9.pre _ _ hι) (Zt.up x9 (Zwy▸h9))|true=>exact ZuD T helt j6 hlt I9 (x.trans x9) S9 (E.mono x9) (x9.pre _ _ hι) (Zt.up x9 (ZvQ▸h9))
theorem Zwa(T:Turn P.Y.prog P.Y.w P.Y.K tg J P.fp it P.tn)(hc:P.Y.calm=true)(hfp:∀{H':Hp},(∀b∈P.fp,H' b=Yn)->∀b∈P.fp,iw P.Y [] H' b)(hg:CG P.Y tg P.g)(hts:pq P.Y ifs P.ts)(helt:C3 P.Y elt P.f)(hlt:k<P.aR.items.length)(I5:Inv P.Y [] σ H s)(kO:P.tn k s.heap)(oU:∀b∈P.fp,H b=Yn)(x:Ext P.Y.K P.H2 P.ι2 H ι)(S:aC P.Y.K H ι M)(E:b8 P.Y.K H ι env σ)(hι:ι[P.nM]?=Ya P.acc)(ok:qe P.Y.K P.H2 P.ι2 P.aR J)(h:Zt P.Y.K H ι P.Q (iW P.aR P.g P.ts P.f P.nM (P.aR.items[k]::P.aR.items.drop (k+1)) env M))(F:Yj->Prop):
  ao (au P.Y.prog P.Y.w) P.Y.A (sE (.ref it)) (cbN P tg elt ifs it (P.aR.items.length-k) F) P.Y.xe s:=by
 obtain⟨lk,h⟩:=Zt.iff h;obtain⟨go,yl⟩:=(ok k H ι M x S lk).1 _ (Y7 hlt);cases eg:P.g P.aR.items[k] env with
 |none=>rw[eg]at h;exact h.elim|some rP=>rw[eg]at h;refine aD (T.item P.Y rfl rfl rfl hc k [] s σ H P.Y.xe I5 (hfp oU) kO go) λr s6 ak=>?_;obtain⟨u,hr,h6⟩:=ak;rw[hr];refine aD (Q':=λ_=>cbA P tg elt ifs (P.aR.items.length-k) u) h6 λ_ s7 ak=>?_;obtain⟨y,H7,I7,r7,y7,j6,J5⟩:=ak;obtain⟨e7,rx⟩:=yl y H7 y7;rw[e7]at I7 J5;refine aD (Q':=λ_=>cbS P elt ifs (P.aR.items.length-k)) (hg _ s7 σ H y u (λσ' H'=>H'=H/\b8 P.Y.K H ι rP σ') (I7.pinned (hfp J5) (T.obj _ _ j6)) r7 ⟨ι,M,env,_,rP,S,E,rx,eg,λσ' E'=>⟨rfl,E'⟩⟩) λ_ s8 ak=>?_;obtain⟨σ8,H8,I8,e8,E8⟩:=ak;rw[e8]at I8;exact ZtV T hts helt j6 hlt I8 x S E8 hι h
theorem ZsM(T:Turn P.Y.prog P.Y.w P.Y.K tg J P.fp it P.tn)(hc:P.Y.calm=true)(hfp:∀{H':Hp},(∀b∈P.fp,H' b=Yn)->∀b∈P.fp,iw P.Y [] H' b)(I5:Inv P.Y [] σ H s)(kO:P.tn P.aR.items.length s.heap)(oU:∀b∈P.fp,H b=Yn)(x:Ext P.Y.K P.H2 P.ι2 H ι)(S:aC P.Y.K H ι M)(hι:ι[P.nM]?=Ya P.acc)(ok:qe P.Y.K P.H2 P.ι2 P.aR J)(h:Zt P.Y.K H ι P.Q (iW P.aR P.g P.ts P.f P.nM [] env M)){F:Yj->Prop}(hF:∀s6,Inv P.Y [] σ H s6->P.Q (.ref P.acc) H->F s6):
  ao (au P.Y.prog P.Y.w) P.Y.A (sE (.ref it)) (cbN P tg elt ifs it n F) P.Y.xe s:=by
 obtain⟨lk,h⟩:=Zt.iff h;refine aD (T.done P.Y rfl rfl rfl hc _ [] s σ H P.Y.xe I5 (hfp oU) kO ((ok _ H ι M x S lk).2 rfl)) λr s6 ak=>?_;rw[ak.1];exact hF s6 ak.2 (h _ H ι Ext.refl S (Rep.ref hι))
end
variable{fp:List Y1}{s:Yj}{E:Yh->Yj->Prop}{it:Y1}{pins:List (Y1×aK)}
section
variable {X:Cx} {elt tg iter:Expr} {ifs:List Expr} {scope:Scope} {pos:aU} {i:I3} {own:Nat} {g:G3} {ts:List E3} {f:E3} {N':List aj}
structure vW(X:Cx)(scope:Scope)(N':List aj)(own:Nat):Prop where
 kind:scope.kind= .function
 cell:∀y∈scope.names,y.2≠ .cell
 free:∀y∈scope.names,y.2= .free->X.env.kindOf y.1=Ya .cell\/X.env.kindOf y.1=Ya .free
 names:∀y∈scope.names,y.2= .local->scope.names.lookup y.1=Ya .local
 len:N'.length=X.N.length+own
 vis:Rf X.N N' scope=true
theorem Zsn{P:Cb}{J:It}{F:Yj->Prop}(T:Turn P.Y.prog P.Y.w P.Y.K tg J P.fp it P.tn)(hc:P.Y.calm=true)(hfp:∀{H':Hp},(∀b∈P.fp,H' b=Yn)->∀b∈P.fp,iw P.Y [] H' b)(hb:CG P.Y tg P.g/\pq P.Y ifs P.ts/\C3 P.Y elt P.f)(ok:qe P.Y.K P.H2 P.ι2 P.aR J)(z:Rh P n s)(fin:∀σ H s',Inv P.Y [] σ H s'->P.Q (.ref P.acc) H->F s'):ao (au P.Y.prog P.Y.w) P.Y.A (sE (.ref it)) (cbN P tg elt ifs it n F) P.Y.xe s:=by
 obtain⟨k,σ5,H5,ι5,M5,rO,I5,kO,oU,hn,hk,x5,S5,E5,hι,h5⟩:=z;by_cases hlt:k<P.aR.items.length
 .rw[yU hlt]at h5;exact hn▸Zwa T hc hfp hb.1 hb.2.1 hb.2.2 hlt I5 kO oU x5 S5 E5 hι ok h5 _
 .rw[iR hk (mz hlt)]at kO h5;rw[Nh]at h5;exact ZsM T hc hfp I5 kO oU x5 S5 hι ok h5 λs6 I6 q=>fin σ5 H5 s6 I6 q
theorem ZlX{s3:Yj}{H2 H3:Hp}{ι2 ι3:List Y1}{M3:Store}{nM:Nat}{D:Y1}{tn:Nat->aN->Prop}{J:It}{aR:fU}{Q:VK}(O:vW X scope N' own)(hc:X.calm=true)(hb:∀C cl s H ex,CG (eE X scope N' C cl s H ex) tg g/\pq (eE X scope N' C cl s H ex) ifs ts/\C3 (eE X scope N' C cl s H ex) elt f)(T:Turn X.prog X.w X.K tg J fp it tn)(st3:tn 0 s3.heap)(uG:∀b∈fp,b<s3.heap.objs.size)(I3:Inv X pins σ H3 s3)(lX:∀b∈fp,iw X pins H3 b)(x3:Ext X.K H2 ι2 H3 ι3)(S3:aC X.K H3 ι3 M3)(E2:b8 X.K H3 ι3 env σ)(ok:qe X.K H2 ι2 aR J)(h:Zt X.K H3 ι3 Q (iW aR g ts f nM aR.items (env++Yq own Yn) M3))(hι:ι3[nM]?=Ya D)(RR:Yh->Y1->sG->Yj->Prop)(fin:∀(acc C:Y1) (s':Yj) (m:aj->Option Yh) (H':Hp),s'.heap.Ns C m->iw X pins H' C->Inv X pins σ H' s'->Q (.ref acc) H'->RR (.ref acc) C (.ok .next) s'):
  ao (au X.prog X.w) X.A (Ny scope X.env.globals (fY X.env.cells scope.names []) [] X.env.qual Yn .none (Ya X.env)) (λcenv s₄=>mq (au X.prog X.w) X.A (.compStart (.ListComp elt [⟨tg,iter,ifs,0⟩] scope pos) 0 (.ref it) (.ref D) {cenv with scope:=uV scope X.env}) (RR (.ref D) cenv.locals) s₄) E s3:=by
 refine Wy O.cell (by intro y hy;cases hy) (λh4 hns hsb=>?_) O.kind;have Cr:∀b o,s3.heap.get? b=Ya o->h4.get? b=Ya o:=λb o e=>hsb.extBut b o (dw (Y3 e)) (Yl _ e);have I4:=Zlc (own:=own) (N':=N') (tk:=s3.toks+([]:List (aj×Yh)).length) I3 O.kind O.cell O.free O.len O.vis lX uG hns Cr;have Ft:tn 0 h4:=T.keep _ _ _ st3 λb hb o e=>Cr b o e;have L:=ZgZ (prog:=X.prog) (w:=X.w) (A:=X.A) (R:=RR (.ref D) s3.heap.objs.size) (scope:=scope) (pos:=pos) (iter:=iter) (elt:=elt) (target:=tg) (ifs:=ifs) (env:=Dh scope (fY X.env.cells scope.names []) s3.heap.objs.size X.env) (Rh ⟨eE X scope N' s3.heap.objs.size (fY X.env.cells scope.names []) s3 H3 fp,fp,tn,aR,H2,ι2,Q,g,ts,f,nM,D⟩) (λn s5 z=>Zsn (P:=⟨eE X scope N' s3.heap.objs.size (fY X.env.cells scope.names []) s3 H3 fp,fp,tn,aR,H2,ι2,Q,g,ts,f,nM,D⟩) T hc
  (λhn b hb=>⟨hn b hb,dw (uG b hb),λhz=>I4.ok.yR b hb hz,.inl hb,λx c hx=>(I4.ok.Je b hb).2 x c hx,λp hp=>absurd (show p∈([]:List (Y1×aK))from hp) (by simp)⟩)
  (hb _ _ _ _ _) ok z
  λσ' H' s6 I6 q=>I6.loc.elim λm6 Rn=>fin _ _ s6 m6 H' Rn.1 (I3.uD (Ys _) I6.free) (I3.call' (ch:=fp) I6.os I6.base I6.hok I6.bare λb hb=>⟨(lX b hb).2.2.2.1,(lX b hb).2.1,(lX b hb).2.2.2.2.1,(lX b hb).2.2.2.2.2⟩) q) _
  ⟨0,_,_,_,_,_,I4,Ft,λb hb=>(lX b hb).1,rfl,fG _,x3,S3,E2.grow own,hι,h⟩
 exact Wu L (T.self _ 0 _ _ _ Ft L)
theorem ZiE{s2:Yj}{H2:Hp}{ι2:List Y1}{M2:Store}{tn:Nat->aN->Prop}{J:It}{aR:fU}{Q:VK}(O:vW X scope N' own)(hc:X.calm=true)(hb:∀C cl s H ex,CG (eE X scope N' C cl s H ex) tg g/\pq (eE X scope N' C cl s H ex) ifs ts/\C3 (eE X scope N' C cl s H ex) elt f)(I2:Inv X pins σ H2 s2)(T:Turn X.prog X.w X.K tg J fp it tn)(st0:tn 0 s2.heap)(hfp:∀b∈fp,iw X pins H2 b)(S2:aC X.K H2 ι2 M2)(E2:b8 X.K H2 ι2 env σ)(ok:qe X.K H2 ι2 aR J)(h:Zt X.K H2 ι2 Q (iW aR g ts f M2.length aR.items (env++Yq own Yn) (M2++[.lst []])))(RR:Yh->Y1->sG->Yj->Prop)(fin:∀(acc C:Y1) (s':Yj) (m:aj->Option Yh) (H':Hp),s'.heap.Ns C m->iw X pins H' C->Inv X pins σ H' s'->Q (.ref acc) H'->RR (.ref acc) C (.ok .next) s'):
  ao (au X.prog X.w) X.A (HJ []) (λacc s₃=>ao (au X.prog X.w) X.A (Ny scope X.env.globals (fY X.env.cells scope.names []) [] X.env.qual Yn .none (Ya X.env)) (λcenv s₄=>mq (au X.prog X.w) X.A (.compStart (.ListComp elt [⟨tg,iter,ifs,0⟩] scope pos) 0 (.ref it) acc {cenv with scope:=uV scope X.env}) (RR acc cenv.locals) s₄) E s₃) E s2:=by
 refine su ?_;have hD:H2 s2.heap.objs.size=Yn:=I2.hok.fresh (Ys _);obtain⟨x3,S3,r3⟩:=S2.lst hD (Zw.nil (K:=X.K) (H:=H2) (ι:=ι2));have I3:Inv X pins σ (upd H2 s2.heap.objs.size (.lst [])) {s2 with heap:=s2.heap.push {cls:=.type "list",data:=.seq ([]:List Yh).toArray}}:=I2.laid (t':=s2.toks) (λb u e=>Yl _ e) (Ys _) ⟨fG _,[],0,.nil,Y2 _ rfl⟩;have wH:∀b o,s2.heap.get? b=Ya o->(s2.heap.push {cls:=.type "list",data:=.seq ([]:List Yh).toArray}).get? b=Ya o:=λb o e=>Yl _ e;generalize hs3:({s2 with heap:=s2.heap.push {cls:=.type "list",data:=.seq ([]:List Yh).toArray}}:Yj)=s3 at I3 ⊢;have wH:∀b o,s2.heap.get? b=Ya o->s3.heap.get? b=Ya o:=by rw[←hs3];exact wH
 have lt2:∀b∈fp,b<s2.heap.objs.size:=λb hb=>(T.obj _ _ st0 b hb).elim λo e=>Y3 e.1;have uG:∀b∈fp,b<s3.heap.objs.size:=λb hb=>(T.obj _ _ st0 b hb).elim λo e=>Y3 (wH b o e.1);exact ZlX O hc hb (T:=T) (st3:=T.keep _ _ _ st0 λb hb o e=>wH b o e) (uG:=uG) (I3:=I3) (lX:=λb hb=>⟨(fJ (dw (lt2 b hb))).trans (hfp b hb).1,(hfp b hb).2⟩) (x3:=x3) (S3:=S3) (E2:=E2.mono x3) (ok:=ok) (h:=h.up x3) (hι:=by rw[←S2.len];simp) RR fin
theorem qi(O:vW X scope N' own)(yd:X.xe=λ_ _=>False)(hc:X.calm=true)(hi:CI X tg iter i)(hb:∀C cl s H ex,CG (eE X scope N' C cl s H ex) tg g/\pq (eE X scope N' C cl s H ex) ifs ts/\C3 (eE X scope N' C cl s H ex) elt f)(hs:∀x,zb iter X.env x=pure x:=by intro _;rfl):C3 X (.ListComp elt [⟨tg,iter,ifs,0⟩] scope pos) (fK i own g ts f):=by intro pins s σ H Q I h;obtain⟨ι,M,env,S,E,h⟩:=h;obtain⟨aR,M1,e1,h⟩:=Zt.bind h;have hc0:∀y∈scope.names,y.2= .free->∃c,X.env.cells.lookup y.1=Ya c:=λy hy e=>I.ok.has y.1 (O.free y hy e);rw[eval_ListComp];refine Hl (use:=Yn) rfl hs (JX hc0) O.kind O.names ?_;refine aD (hi pins s σ H (λJ H'=>∃ι',Ext X.K H ι H' ι'/\aC X.K H' ι' M1/\qe X.K H' ι' aR J) I ⟨ι,M,env,S,E,by rw[e1];exactλJ H' ι' x S' o=>⟨ι',x,S',o⟩⟩) λv s1 h1=>aD h1 λitv s2 h2=>?_;obtain⟨it,fp,tn,J,H2,rfl,I2,T,st2,f2,ι2,x2,S2,ok⟩:=h2;refine ZiE (own:=own) (g:=g) (ts:=ts) (f:=f) O hc hb I2 T st2 f2 S2 (E.mono x2) ok (h.up x2) (λacc C=>Hx (au X.prog X.w) X.A X.xe Yn (EP X pins σ Q) acc C) ?_;intro acc C s' m H' hn hf I' hq;obtain⟨f0,f1,Ro,f3,f4,f5⟩:=hf;exact⟨m,hn,λh' sb=>⟨.ref acc,H',I'.turned (t':=s'.toks) (λb o hb e=>(sb.2 b hb).trans e) f0 f1 f3 f4 f5,rfl,hq⟩⟩
theorem Zpq(j:Nat){pos' spos:aU}(O:vW X scope N' own)(yd:X.xe=λ_ _=>False)(hc:X.calm=true)(hN:X.N.Nodup)(hi:CI X tg iter i)(hb:∀C cl s H ex,CG (eE X scope N' C cl s H ex) tg g/\pq (eE X scope N' C cl s H ex) ifs ts/\C3 (eE X scope N' C cl s H ex) elt f)(hj:X.N[j]?=Ya x:=by rfl)(hx:Loc X.env.scope x:=by first|exact Or.inl rfl|exact Or.inr rfl)(hf:X.fn x=true\/X.env.scope.names.lookup x=Ya .local:=by first|exact .inl rfl|exact .inr rfl)(hsw:uR (.ListComp elt [⟨tg,iter,ifs,0⟩] scope pos) (Ya (.Name x pos')) spos.line X.env=pure true:=by rfl)(hs:∀x,zb iter X.env x=pure x:=by intro _;rfl):CS X (.Assign [.Name x pos'] (.ListComp elt [⟨tg,iter,ifs,0⟩] scope pos) spos) (aq j (fK i own g ts f)):=by
 intro pins s σ H D I h;obtain⟨ι,M,env,S,E,h⟩:=h;have h0:Zt X.K H ι (λv H'=>D.nx (σ.set j (Ya v)) H') (fK i own g ts f env M):=by
  unfold aq at h;cases q:fK i own g ts f env M with
  |ok d M1=>rw[q]at h;exactλv H1 ι1 x1 S1 r1=>h _ H1 ι1 x1 S1 ((E.mono x1).set j r1)|exc _ _=>rw[q]at h;exact h.elim|bad=>rw[q]at h;exact h.elim
 obtain⟨aR,M1,e1,h1⟩:=Zt.bind h0;have hc0:∀y∈scope.names,y.2= .free->∃c,X.env.cells.lookup y.1=Ya c:=λy hy e=>I.ok.has y.1 (O.free y hy e);rw[Ww _ _ _ _ hsw];refine Yg (uP (Yg ?_));show ao _ X.A (do let _ ←comprehension (.ListComp elt [⟨tg,iter,ifs,0⟩] scope pos) scope X.env _ (HJ []) false (aF iter X.env) (Ya (ji (.Name x pos') X.env))) _ _ s;refine Yg (ju (Hl (use:=Ya (ji (.Name x pos') X.env)) (Q:=λ_ s'=>SP X pins D .next s') rfl hs (JX hc0) O.kind O.names ?_) (λ_ s' hq=>Yt (Yt hq)) λ_ _ e=>e);refine aD (hi pins s σ H (λJ H'=>∃ι',Ext X.K H ι H' ι'/\aC X.K H' ι' M1/\qe X.K H' ι' aR J) I ⟨ι,M,env,S,E,by rw[e1];exactλJ H' ι' x S' o=>⟨ι',x,S',o⟩⟩) λv s1 h1'=>aD h1' λitv s2 h2=>?_;obtain⟨it,fp,tn,J,H2,rfl,I2,T,st2,f2,ι2,x2,S2,ok⟩:=h2;refine ZiE (own:=own) (g:=g) (ts:=ts) (f:=f) O hc hb I2 T st2 f2 S2 (E.mono x2) ok (h1.up x2) (λacc C=>Hx (au X.prog X.w) X.A X.xe (Ya (ji (.Name x pos') X.env)) (λ_ s'=>SP X pins D .next s') acc C) ?_;intro acc C s' m H' hn Rp I' hq;obtain⟨f0,f1,Ro,f3,f4,f5⟩:=Rp;show ao _ X.A (ji (.Name x pos') X.env (.ref acc)) _ _ s';refine Nr (Qd I' hN hj hx (show RelV (.ref acc) (.ref acc)from rfl) (λs'' Rq ⟨a,sb,ha⟩=>?_) hf);have Rr:C≠a:=by
  rcases ha with rfl|ha
  .exact f1
  .exact cO (f4 x a ha)
 exact⟨m,hn.sameBut sb Rr,λh' Ru=>⟨_,H',Rq.turned (t':=s''.toks) (λb o hb e=>(Ru.2 b hb).trans e) f0 f1 f3 f4 f5,hq⟩⟩
end
theorem fZ{k:Nat}(r:dz k A):A.units+80<jw:=by have:=r.un;exact lC 1 0x2502b0c12c82b110d0cc11 T1 this
noncomputable def Its(x:aj):It:=⟨λi _=>i<x.cps.size,λi H y H'=>H'=H/\∃c,x.cps[i]?=Ya c/\y= .str ⟨#[c]⟩,λi _=>i=x.cps.size⟩
variable{w:bw}
theorem Zpv{P:bD}{tg:Expr}{t:fD}{ty:String}(W:∀A':bJ,A'.handled=Yn->Walks P w A' it [it] [it] x.cps.size (SignAt x) (λi h=>h.IsStrIter it ty x t i))(hs:∀(A:bJ) (i:Nat) (s:Yj) (Q:Yh->Yj->Prop) (E:Yh->Yj->Prop),s.heap.IsStrIter it ty x t i->Q (.ref it) s->ao (au P w) A (zp (.ref it)) Q E s)(hty:["enumerate","zip","dict_itemiterator","dict_reverseitemiterator","odict_iterator","itertools.zip_longest","itertools.pairwise"].contains ty=false):Turn P w K tg (Its x) [it] it (λi h=>h.IsStrIter it ty x t i)where
 mem:=by simp
 obj:=λi h st b hb=>by
  have e:b=it:=by simpa using hb
  subst e;obtain⟨o,e,c,d⟩:=st;exact⟨o,e,λv z=>by rw[d]at z;cases z⟩
 keep:=λi h h' st k=>let⟨o,e,r⟩:=st;⟨o,k it (by simp) o e,r⟩
 item:=by intro X hP hw hK hc i pins s σ H E I hf st hg;subst hP hw hK;obtain⟨f0,f1,f2,f3,f4,f5⟩:=hf it (by simp);refine(W X.A (I.ok.hd hc)).item i s _ _ hg st λv h' tk hv st' kk=>?_;obtain⟨c,u,hx,rfl⟩:=hv;have I1:Inv X pins σ H {s with heap:=h',toks:=tk}:=I.turned (λb o hb e=>kk b o (by simpa using hb) e) f0 f1 f3 f4 f5;obtain⟨o,e,cc,d⟩:=id st';exact⟨_,rfl,Ji (s:={s with heap:=h',toks:=tk}) e cc d hty ⟨.str ⟨#[c]⟩,H,I1,⟨u,rfl⟩,⟨rfl,c,hx,rfl⟩,st',λb hb=>(hf b hb).1⟩⟩
 done:=by intro X hP hw hK hc i pins s σ H E I hf st hg;subst hP hw hK;obtain⟨f0,f1,f2,f3,f4,f5⟩:=hf it (by simp);have e:i=x.cps.size:=hg;subst e;exact(W X.A (I.ok.hd hc)).done s _ _ st λh' tk kk=>⟨rfl,I.turned (λb o hb e=>kk b o (by simpa using hb) e) f0 f1 f3 f4 f5⟩
 self:=hs
section
variable {X:Cx} {tg e o:Expr} {es:List Expr} {pos p apos cpos:aU} {f:E3} {gl:d8}
theorem ZuL(h:C3 X e f):PI X tg e (λσ H R=>lO X.K f σ H λx H1=>∃z:aj,x= .str z/\z.length<=SZ/\∀J,(∀ι,qe X.K H1 ι ⟨z.cps.toList.map λc=>.str [c],Yn⟩ J)->R J H1):=by
 intro pins s σ H R I hw;refine aD (h pins s σ H _ I hw) λv s1 ak=>?_;obtain⟨x,H1,I1,r1,z,ex,hz,q⟩:=ak;subst ex;obtain⟨t,rfl⟩:=r1;have key:∀(ty:String) (o:aK),(∀A':bJ,A'.handled=Yn->Walks X.prog X.w A' s1.heap.objs.size [s1.heap.objs.size] [s1.heap.objs.size] z.cps.size (SignAt z) (λi h=>h.IsStrIter s1.heap.objs.size ty z t i)) ->
   (∀(A:bJ) (i:Nat) (s:Yj) (Q:Yh->Yj->Prop) (E:Yh->Yj->Prop),s.heap.IsStrIter s1.heap.objs.size ty z t i->Q (.ref s1.heap.objs.size) s->ao (au X.prog X.w) A (zp (.ref s1.heap.objs.size)) Q E s) ->
   ["enumerate","zip","dict_itemiterator","dict_reverseitemiterator","odict_iterator","itertools.zip_longest","itertools.pairwise"].contains ty=false->(s1.heap.push o).IsStrIter s1.heap.objs.size ty z t 0 ->
   PIE X pins σ tg R (.ref s1.heap.objs.size) {s1 with heap:=s1.heap.push o}:=by
  intro ty o W hs hty st;refine⟨s1.heap.objs.size,[s1.heap.objs.size],_,_,H1,rfl,I1.kept (t':=s1.toks) λb o e=>Yl _ e,Zpv W hs hty,st,λb hb=>?_,q _ λι=>?_⟩
  .have e:b=s1.heap.objs.size:=by simpa using hb
   subst e;exact I1.uD (Ys _) (I1.hok.fresh (Ys _))
  .intro i H2 ι2 M2 x S _;refine⟨λd hd=>?_,λhl=>?_⟩
   .rw[jO]at hd;cases hq:z.cps.toList[i]? with
    |none=>rw[hq]at hd;cases hd|some c=>
     rw[hq]at hd;have hd':D.str [c]=d:=by simpa using hd
     subst hd';have hi:i<z.cps.size:=by have:=(Yf.mp hq).1;simpa using this
     refine⟨hi,λy H3 hy=>⟨hy.1,?_⟩⟩;obtain⟨_,c',hc',rfl⟩:=hy;have:c'=c:=by rw[←Pj,hq]at hc';exact(Y6 hc').symm
     subst this;exact Rep.str
   .show i=z.cps.size;rw[hl];simp
 cases ha:z.cps.all (· <128)
 .exact wpAny_pyIter_wide ha (key "str_iterator" _ (λA' hA=>Walks.strWide hA _ z t) (λ_ _ _ _ _ st h=>wpAny_pyIter_striter_wide st h) (by decide) ⟨_,Y2 _ rfl,rfl,rfl⟩)
 .exact wpAny_pyIter_ascii ha (key "str_ascii_iterator" _ (λA' hA=>Walks.strAscii hA _ z t) (λ_ _ _ _ _ st h=>wpAny_pyIter_striter_ascii st h) (by decide) ⟨_,Y2 _ rfl,rfl,rfl⟩)
theorem mH(h:C3 X e f):CI X tg e (cV f):=ZuS h (ZuL h)
theorem Aq{T:String}{ty:D->Store->Bool}{m:D->List D->Store->R3 D}(hty:∀H ι M a x,aC K H ι M->Rep K H ι a x->ty a M=true->xK K T x H)(σ:St)(H:Hp)(Q:VK)(h:lO K (aG ty m f gl) σ H Q):tBM K T (rM K m) (lO K f) (Q4 K gl) σ H Q:=by
 obtain⟨ι,M,env,S,E,h⟩:=h;obtain⟨a,M1,e1,h⟩:=Zt.bind h;refine⟨ι,M,env,S,E,?_⟩;rw[e1];intro v H1 ι1 x1 S1 r1;by_cases ht:ty a M1=true
 .rw[if_pos ht]at h;obtain⟨ds,M2,e2,h⟩:=Zt.bind h;refine⟨hty _ _ _ _ _ S1 r1 ht,ι1,M1,env,S1,E.mono x1,?_⟩;rw[e2];intro vs H2 ι2 x2 S2 r2;exact⟨ι2,M2,a,ds,S2,r1.mono x2,r2,(h.up x1).up x2⟩
 .rw[if_neg ht]at h;exact h.elim
theorem J6(H:Hp)(ι:List Y1)(M:Store)(a:D)(x:V)(_:aC K H ι M)(r:Rep K H ι a x)(h:g8 a M=true):xK K "str" x H:=by
 cases a with
 |str z=>rw[r.str_inv];rfl|_=>exact ft h
theorem Rv(H:Hp)(ι:List Y1)(M:Store)(a:D)(x:V)(S:aC K H ι M)(r:Rep K H ι a x)(h:a_ a M=true):xK K "list" x H:=by
 cases a with
 | ref n=>
  rw[Ac]at h;cases hn:M[n]? with
  |none=>rw[hn]at h;exact ft h|some o=>
   cases o with
   |dct _=>rw[hn]at h;exact ft h|cJ _=>rw[hn]at h;exact ft h|ins _ _=>rw[hn]at h;exact ft h|lst xs=>obtain⟨p,hp,rfl⟩:=r.dH;obtain⟨vs,e,_⟩:=S.obj n _ p hn hp;exact .inl ⟨rfl,vs,bB.of e⟩
 |_=>exact ft h
theorem _root_.L2.jF.imp{id:String}{r r':V->List V->Hp->VK->Prop}(h:jF X id r)(i:∀x xs H Q,r' x xs H Q->r x xs H Q):jF X id r':=λpins s σ H x xs v us Q I rx rs q=>h pins s σ H x xs v us Q I rx rs (i x xs H Q q)
theorem ZqC:jF X "list.append" (rM X.K Zz):=jF.imp (r:=ZnT) Qz λx xs H Q ak=>by
 obtain⟨ι,M,a,ds,S,ra,rd,h⟩:=ak;cases a with
 | ref n=>
  cases ds with
  |nil=>exact h.elim|cons d ds=>
   cases ds with
   |cons _ _=>exact h.elim|nil=>
    simp only[QQ]at h;cases hn:M[n]? with
    |none=>simp only[hn]at h;exact h.elim|some o=>
     cases o with
     |dct _=>simp only[hn]at h;exact h.elim|cJ _=>simp only[hn]at h;exact h.elim|ins _ _=>simp only[hn]at h;exact h.elim|lst z=>
      simp only[hn]at h;split at h
      .rename_i hz;obtain⟨p,hp,rfl⟩:=ra.dH;obtain⟨v,ws,rfl,r1,r2⟩:=rd.cons_inv;have:=r2.nil_inv;subst this;obtain⟨vs,e,rv⟩:=S.obj n _ p hn hp;obtain⟨x2,S2⟩:=S.uF (.inr (.inl ⟨_,e⟩)) hp (rv.append (Zw.cons r1 Zw.nil));exact⟨p,vs,v,rfl,rfl,e,by rw[rv.length];exact Y9 hz jz,h _ _ _ x2 S2 Rep.non⟩
      .exact h.elim
 |_=>exact h.elim
theorem jc(ho:C3 X o f)(ha:CA X (e::es) gl)(hbase:mj o "append" X.env (aF o X.env)=aF o X.env:=by rfl)(hfew:((bZ cpos (Yw (e::es) X.env)).all (λx=>!x.1)&&(iQ cpos (iK [] X.env)).all (λx=>x.1.isSome)
   &&decide ((e::es).length+([]:List Keyword).length+(if([]:List Keyword).isEmpty then 0 else 1)<30))=true:=by rfl)(hline:(apos.endLine==cpos.line)=true:=by rfl)(hs:Yw (e::es) X.env=(false,aF e X.env)::Yw es X.env:=by rfl)(hplain:(bZ cpos (Yw es X.env)).any (·.1)=false:=by rfl):
  C3 X (.Call (.Attribute o "append" apos) (e::es) [] cpos) (aG a_ Zz f gl):=
 (zR O5 PySem.F.slot_list_append PySem.F.type_list_append ZqC ho ha hbase hfew hline hs hplain).imp (Aq Rv)
theorem Zsy(x y:List Nat):ZP (⟨x.toArray⟩:aj) ⟨y.toArray⟩=y.isPrefixOf x:=by
 unfold ZP Builtin.Str.subAt;simp only[kJ,Yo,u9];rw[Oo];simp only[Y4,decide_eq_true_eq,beq_iff_eq,List.isPrefixOf_iff_prefix];constructor
 .rintro⟨_,h⟩;have h':=congrArg zF h;simp at h';rw[V_];exact h'.symm
 .intro h;refine⟨h.length_le,?_⟩;rw[V_]at h;apply Array.toList_inj.mp;simp;exact h.symm
theorem m_startswith:jF X "str.startswith" (rM X.K qX):=by
 intro pins s σ H x xs v us Q I rx rs h;obtain⟨ι,M,a,ds,S,ra,rd,h⟩:=h;cases a with
 | str z=>
  cases ds with
  |nil=>exact h.elim|cons d ds=>
   cases ds with
   |cons _ _=>cases d<;>exact h.elim|nil=>
    cases d with
    | str y=>
     simp only[El]at h;split at h
     .have:=ra.str_inv;subst this;obtain⟨w',ws,rfl,r1,r2⟩:=rd.cons_inv;have:=r2.nil_inv;subst this;have:=r1.str_inv;subst this;obtain⟨t,rfl⟩:=rx;obtain⟨u,rfl,ru⟩:=vals1 rs;obtain⟨t',rfl⟩:=ru;refine SC.startswith ?_;rw[Zsy];exact⟨.bl _,H,I,rfl,Zt.ok h S Rep.bl⟩
     .exact h.elim
    |_=>exact h.elim
 |_=>exact h.elim
theorem Zey(ho:C3 X o f)(ha:CA X (e::es) gl)(hbase:mj o "startswith" X.env (aF o X.env)=aF o X.env:=by rfl)(hfew:((bZ cpos (Yw (e::es) X.env)).all (λx=>!x.1)&&(iQ cpos (iK [] X.env)).all (λx=>x.1.isSome)
   &&decide ((e::es).length+([]:List Keyword).length+(if([]:List Keyword).isEmpty then 0 else 1)<30))=true:=by rfl)(hline:(apos.endLine==cpos.line)=true:=by rfl)(hs:Yw (e::es) X.env=(false,aF e X.env)::Yw es X.env:=by rfl)(hplain:(bZ cpos (Yw es X.env)).any (·.1)=false:=by rfl):
  C3 X (.Call (.Attribute o "startswith" apos) (e::es) [] cpos) (aG g8 qX f gl):=
 (zR Il PySem.F.slot_str_startswith PySem.F.type_str_startswith m_startswith ho ha hbase hfew hline hs hplain).imp (Aq J6)
theorem ZvV:aP X (eU .In) (r2 X.K λa b M=>match a,b with| .str [c],.str y=>.ok (.bl (decide (c∈y))) M|_,_=>.bad):=aP.imp ZoB λx y H Q ak=>by
 obtain⟨ι,M,a,b,S,ra,rb,h⟩:=ak;cases a with
 | str z=>
  cases z with
  |nil=>cases b<;>exact h.elim|cons c z=>
   cases z with
   |cons _ _=>cases b<;>exact h.elim|nil=>
    cases b with
    |str y=>refine⟨_,_,ra.str_inv,rb.str_inv,?_⟩;have e:=StrLaws.found_one (⟨y.toArray⟩:aj) c;rw[show(⟨[c].toArray⟩:aj)=⟨#[c]⟩from rfl,e];exact Zt.ok h S Rep.bl|_=>exact h.elim
 |_=>cases b<;>exact h.elim
end
variable{Q:Yh->Yj->Prop}{prog:bD}{items:Array Yh}
section
variable {X:Cx}
theorem Ar(hu:X.A.units+80<jw):aP X (eU .NotEq) (r2 X.K gq):=by
 intro pins s σ H x y v u Q I rx ry h;obtain⟨ι,M,a,b,S,ra,rb,h⟩:=h;unfold gq at h;cases q:pZ a b M with
 |none=>rw[q]at h;exact h.elim|some k=>rw[q]at h;exact(Ra hu I S ra rb rx ry q).2 X.prog X.w X.xe _ ⟨.bl (!k),H,I,rfl,Zt.ok h S Rep.bl⟩
theorem Zlz(r:Rep K H ι d v)(h:dg d=true):qT v=true:=by
 cases d with
 |non=>rw[r.jf];rfl|bl b=>rw[r.gm];rfl|int i=>rw[r.int_inv];rfl|str x=>rw[r.str_inv];rfl
 |_=>exact ft h
theorem Zr2(x y:List Nat):((⟨x.toArray⟩:aj)==⟨y.toArray⟩)=(x==y):=by rw[Oo];simp
theorem ZsP{e:D}{w:V}(r:Rep K H ι d v)(q:Rep K H ι e w)(h:dg d=true)(h':dg e=true):tE v w=dM d e:=by
 cases d with
 |non=>rw[r.jf];cases e with
  |non=>rw[q.jf];rfl|bl _=>rw[q.gm];rfl|int _=>rw[q.int_inv];rfl|str _=>rw[q.str_inv];rfl
  |_=>exact ft h'
 |bl _=>rw[r.gm];cases e with
  |non=>rw[q.jf];rfl|bl _=>rw[q.gm];rfl|int _=>rw[q.int_inv];rfl|str _=>rw[q.str_inv];rfl
  |_=>exact ft h'
 |int _=>rw[r.int_inv];cases e with
  |non=>rw[q.jf];rfl|bl _=>rw[q.gm];rfl|int _=>rw[q.int_inv];rfl|str _=>rw[q.str_inv];rfl
  |_=>exact ft h'
 |str _=>rw[r.str_inv];cases e with
  |non=>rw[q.jf];rfl|bl _=>rw[q.gm];rfl|int _=>rw[q.int_inv];rfl|str _=>rw[q.str_inv];exact Zr2 _ _
  |_=>exact ft h'
 |_=>exact ft h
theorem Zn5{K:Yb}{H:Hp}{ι:List Y1}{d:D}{v:V}(r:Rep K H ι d v)(h:dg d=true):∀{ds:List D} {vs:List V},Zw K H ι ds vs->ds.all dg=true->vs.all qT=true/\inV v vs=ds.any λy=>dM y d
 |[],_,q,_=>by rw[q.nil_inv];exact⟨rfl,rfl⟩|e::ds,_,q,hd=>by obtain⟨w,ws,rfl,r1,r2⟩:=q.cons_inv;rw[jC,Y4]at hd;obtain⟨h1,h2⟩:=Zn5 r h r2 hd.2;refine⟨by rw[jC,Zlz r1 hd.1,h1];rfl,?_⟩;unfold inV at h2 ⊢;rw[kh,kh,h2,ZsP r1 r hd.1 h]
inductive InK(a b:D)(k:Bool):Prop
 |tup (ys:List D):b= .tup ys->(ys.any λy=>dM y a)=k->dg a=true->ys.all dg=true->InK a b k
 |str (c:Nat) (y:List Nat):a= .str [c]->b= .str y->decide (c∈y)=k->InK a b k
theorem inK{a b:D}{k:Bool}(h:inD a b=Ya k):InK a b k:=by
 cases b with
 |tup ys=>exact have w:=Q_ h;.tup ys rfl w.1 w.2.1 w.2.2|str y=>
  cases a with
  | str z=>cases z with
   |nil=>exact i_ h|cons c z=>cases z with
    |nil=>exact .str c y rfl rfl (Y6 h)|cons _ _=>exact i_ h
  |_=>exact i_ h
 |_=>exact i_ h
theorem ZtS{Q:VK}{a:D}{ys:List D}{x y:V}(n:Bool)(ra:Rep K H ι a x)(rb:Rep K H ι (.tup ys) y)(fa:dg a=true)(fs:ys.all dg=true)(q:Q (.bl (if n then !(ys.any λy=>dM y a)else ys.any λy=>dM y a)) H):rIn K n x y H Q:=by obtain⟨p,vs,e,s,r⟩:=rb.iY;obtain⟨h1,h2⟩:=Zn5 ra fa r fs;exact⟨p,vs,e,.inr s,Zlz ra fa,h1,by rw[h2];exact q⟩
theorem Rx(hu:X.A.units+80<jw):aP X (eU .In) (r2 X.K lz):=aP.imp (aP.or ZvV ZoY) λx y H Q ak=>by
 obtain⟨ι,M,a,b,S,ra,rb,h⟩:=ak;unfold lz at h;cases q:inD a b with
 |none=>rw[q]at h;exact h.elim|some k=>
  rw[q]at h;rcases inK q with⟨ys,eb,ek,fa,fs⟩|⟨c,z,ea,eb,ek⟩
  .rw[eb]at rb;rw[←ek]at h;exact .inr (ZtS false ra rb fa fs (Zt.ok h S Rep.bl))
  .rw[ea]at ra;rw[eb]at rb;rw[←ek]at h;exact .inl ⟨ι,M,_,_,S,ra,rb,h⟩
theorem ZqV(x:List Nat)(n:Nat)(a:List Nat):(Yq n x.toArray).foldl (· ++ ·) a.toArray=(a++(Yq n x).flatten).toArray:=by
 induction n generalizing a with
 |zero=>simp|succ n ih=>rw[rT,qJ,rT,oJ];have:=ih (a++x);simp only[List.append_toArray]at this ⊢;rw[this];simp
theorem Zu5(x:List Nat)(k:Int):Txt.mul (⟨x.toArray⟩:aj) k=⟨(Yq k.toNat x).flatten.toArray⟩:=by
 unfold Txt.mul;split
 .rename_i h;have:k.toNat=0:=iR (sI (Int.toNat_of_nonpos (iN [] [_] 1 235446417 T1 h))) (fG _);rw[this];rfl
 .split
  .rename_i h1 h2;simp only[w5,beq_iff_eq,kJ,Yo]at h2;rcases h2 with h2|h2
   .subst h2;simp
   .have:x=[]:=G6 h2;subst this;simp
  .have:=ZqV x k.toNat [];rw[jB]at this;exact congrArg Str.mk this
theorem Zw.repl(r:Zw K H ι ds vs):∀k:Nat,Zw K H ι (Yq k ds).flatten (Yq k vs).flatten
 |0=>Zw.nil|k+1=>by rw[rT,rT,oJ,oJ];exact r.append (Zw.repl r k)
theorem yh:aP X (iM .Mult) (r2 X.K iz):=by
 have hs:aP X (iM .Mult) (λx y H Q=>∃(z:List Nat) (k:Int),x= .str ⟨z.toArray⟩/\y= .int k/\z.length*k.toNat<=1000000/\k<1000000/\ -1000000<k/\Q (.str ⟨(Yq k.toNat z).flatten.toArray⟩) H):=by
  intro pins s σ H x y v u Q I rx ry h;obtain⟨z,k,rfl,rfl,h1,h2,h3,q⟩:=h;obtain⟨t,rfl⟩:=rx;obtain⟨t',rfl⟩:=ry;refine SB.mul ⟨?_,λh4 h5=>?_,λh4 h5=>?_⟩ λt'' tk=>?_
  .simp;omega
  .simp only[kJ,Yo];simp at h4 h5;have hk:2<=k:=by
    simp only[kJ,Yo]at h5;omega
   have e:(k.toNat:Int)=k:=Int.le_antisymm (Ds (sS (iN [] [_] 1 3892452225 T1 hk))) ((Dq _));have hm:(z.length:Int)*k<=1000000:=by have h1':((z.length*k.toNat:Nat):Int)<=1000000:=zx.mpr h1;rw[Ou,e]at h1';exact h1'
   have hd:(z.length:Int)<=9223372036854775807 / k:=Int.le_ediv_of_mul_le (iN [] [_] 1 3909229441 T1 hk) (by omega);show¬((z.length:Int)>(2^63-1) / k);have e3:((2:Int)^63-1)=9223372036854775807:=by decide
   rw[e3];exactλz=>iN [_] [_] 2 6599352549521 T1 z hd
  .unfold Xq;simp only[kJ,Yo,decide_eq_false_iff_not];have hsz:(1000000:Nat)<=bj:=jz;exactλz=>lB 3 0x6f42405b1010f42405b011011 T1 z hsz h1
  .rw[Zu5];exact⟨.str _,H,I.tok _,⟨_,rfl⟩,q⟩
 refine aP.imp (aP.or Ztm (aP.or hs ZtL)) λx y H Q ak=>?_;obtain⟨ι,M,a,b,S,ra,rb,h⟩:=ak;cases a with
 | int i=>cases b with
  |int j=>obtain⟨hm,h⟩:=vP h;refine .inl ⟨i,j,ra.int_inv,rb.int_inv,?_,Zt.ok h S Rep.int⟩;simp only[lg,w5,Y4,decide_eq_true_eq]at hm;exact hm|_=>exact h.elim
 | str z=>cases b with
  |int k=>obtain⟨hz,h⟩:=vP h;exact .inr (.inl ⟨z,k,ra.str_inv,rb.int_inv,hz.1,hz.2.1,hz.2.2,Zt.ok h S Rep.str⟩)|_=>exact h.elim
 | ref n=>cases b with
  |int k=>
   have h:Zt X.K H ι Q (xY M[n]? λx=>@ite _ (x.length*k.toNat<=SZ/\k<1000000/\ -1000000<k) (Yx _) (alloc (.lst (Yq k.toNat x).flatten) M) .bad):=h;obtain⟨z,hn,h⟩:=JT h;obtain⟨hz,h⟩:=vP h;obtain⟨p,hp,e'⟩:=ra.dH;obtain⟨vs,e,r⟩:=S.obj n _ p hn hp;refine .inr (.inr ⟨p,k,vs,e',rb.int_inv,e,?_,?_,by rw[r.length];exact Yk hz.1 jz,λq hq=>?_⟩)
   .exact Int.le_trans (by decide) (Ie hz.2.2)
   .exact Xe hz.2.1 (by decide)
   obtain⟨x2,S2,r2⟩:=S.lst hq (Zw.repl r k.toNat);exact h _ _ _ x2 S2 r2
  |_=>exact h.elim
 |_=>cases b<;>exact h.elim
theorem Zn9(n d:Nat)(hd:d<=n)(o:Option Int):(match o with|none=>(d:Int)|some i=>max 0 (jl (if i<0 then i+(n:Int)else i) (n:Int)))=((aB n d o:Nat):Int):=by
 cases o with
 |none=>rfl|some v=>
  show max 0 (jl (if v<0 then v+(n:Int)else v) (n:Int))=(((if v<0 then(v+(n:Int)).toNat else jl v.toNat n):Nat):Int);by_cases h:v<0
  .rw[if_pos h,if_pos h];exact PJ v n h
  .rw[if_neg h,if_neg h];exact PL v n h
theorem Zhw(lo hi:Option Int)(n:Nat):Ik lo hi 1 n=(gU (aB n n hi-aB n 0 lo)).map (λk=>aB n 0 lo+k):=by
 have e1:=Zn9 n 0 (fG _) lo;have e2:=Zn9 n n (Ys _) hi;have key:Ik lo hi 1 n=sliceRange ((aB n 0 lo:Nat):Int) ((aB n n hi:Nat):Int) 1:=by rw[←e1,←e2];simp only[Ik,show((1:Int)>0)=True from by simp,if_true];cases lo<;>cases hi<;>rfl
 rw[key];generalize aB n 0 lo=a;generalize aB n n hi=b;simp only[sliceRange,show((1:Int)>0)=True from by simp,if_true];by_cases hlt:(a:Int)<b
 .have e3:(((b:Int)-a+1-1) / 1).toNat=b-a:=by first|exact iR (iN [_,_,_,_] [_] 3 0x230038a112c001aa1808fcf001d81 T1 (Int.mul_ediv_self_le (by decide)) (nj _ _) (sS (iN [_,_] [_] 2 0xe8a001dcaa0818fcf91180891 T1 hlt (Xd (by decide))))) (iN [_,_,_,_] [_] 3 0x230013c2128081a001dcaa1808fcf91 T1 (Xd (by decide)) (Dq _) (m5 (iN [_,_] [] 1 4296542353 T1 hlt)))|(simp;done)|(simp;omega)
  simp only[hlt,if_true,e3];refine Wh λk _=>?_;exact iR (iN [_,_,_] [] 1 0x21c002801d18c08a1 T1 (sS (iN [_,_] [] 0 103109659880 T1))) (iN [_,_,_] [] 1 0x210c0281801d08c81 T1 (Dq _))
 .have:b-a=0:=iR (sI (WY (iN [_,_] [] 1 270010577 T1 hlt))) (fG _);simp[hlt,this]
theorem Jo(n d:Nat)(hd:d<=n)(o:Option Int):aB n d o<=n:=by
 cases o with
 |none=>exact hd|some v=>simp only[aB];split <;>omega
theorem Zmw(z:List Nat)(lo hi:Option Int)(l u:Option (Int×fD))(hl:l.map (·.1)=lo)(hu:u.map (·.1)=hi):
  (if((1:Int)==1&&(wW ⟨z.toArray⟩ l u Yn).length==(⟨z.toArray⟩:aj).length)=true then(⟨z.toArray⟩:aj)else⟨((wW ⟨z.toArray⟩ l u Yn).filterMap ((⟨z.toArray⟩:aj).cps[·]?)).toArray⟩)=⟨(cutD z lo hi).toArray⟩:=by
 have e0:wW ⟨z.toArray⟩ l u Yn=(gU (aB z.length z.length hi-aB z.length 0 lo)).map (λk=>aB z.length 0 lo+k):=by unfold wW;rw[hl,hu];simp only[kJ,Yo];exact Zhw lo hi z.length
 have hb:=Jo z.length z.length (Ys _) hi;rw[e0];have pick:((gU (aB z.length z.length hi-aB z.length 0 lo)).map (λk=>aB z.length 0 lo+k)).filterMap ((⟨z.toArray⟩:aj).cps[·]?)=cutD z lo hi:=by
  unfold cutD;by_cases hab:aB z.length 0 lo<=aB z.length z.length hi
  .have h:=StrLaws.picks z (aB z.length z.length hi-aB z.length 0 lo) (aB z.length 0 lo) (lD 2 82120338080600065 T1 hb (m5 hab));simpa using h
  .have:aB z.length z.length hi-aB z.length 0 lo=0:=iR (sI (WY (lB 1 1052737 T1 hab))) (fG _);rw[this];simp
 rw[pick];split
 .rename_i hc;simp only[Yv,Hg,kJ,Yo,Y4,beq_iff_eq]at hc;have hc2:=hc.2;have h0:aB z.length 0 lo=0\/z.length=0:=by omega
  have:cutD z lo hi=z:=by
   unfold cutD;rcases h0 with h0|h0
   .rw[h0,Hi,qI (by exact lD 3 0x3102001e3c2011031 T1 hc2 (nj _ _) (Dn _ _))]
   .have:z=[]:=G6 h0;subst this;simp
  rw[this]
 .rfl
theorem Ztl:jx X (λx lo hi H Q=>∃z:List Nat,x= .str ⟨z.toArray⟩/\z.length<=SZ/\Q (.str ⟨(cutD z lo hi).toArray⟩) H):=by
 intro pins s σ H x v vl vu lo hi sl Q I rx hs pl pu h;obtain⟨z,rfl,hz,q⟩:=h;obtain⟨t,rfl⟩:=rx;have part:∀{v:Yh} {o:Option Int},IsPart v o->∃p:Option (Int×fD),v=partValue p/\p.map (·.1)=o:=by
  intro v o h;cases h with
  |none=>exact⟨Yn,rfl,rfl⟩|int i t=>exact⟨Ya (i,t),rfl,rfl⟩
 obtain⟨l,rfl,hl⟩:=part pl;obtain⟨u,rfl,hu⟩:=part pu;refine⟨"str",_,PySem.F.slot_str_getitem.lookup,wX _ _ _,?_⟩;refine wpAny_getItem_str_slice (l:=l) (u:=u) (st:=Yn) hs rfl ?_;unfold sliceMade;refine post_val_or_made (λ_=>?_) λt' k=>?_
 .show((wW ⟨z.toArray⟩ l u Yn).filterMap ((⟨z.toArray⟩:aj).cps[·]?)).toArray.size<=bj;rw[Yo];refine Yk (List.length_filterMap_le _ _) ?_;show(Ik (l.map (·.1)) (u.map (·.1)) 1 (⟨z.toArray⟩:aj).length).length<=bj;rw[Zhw];simp only[Yv,Hg,kJ,Yo];have:=Jo z.length z.length (Ys _) (u.map (·.1));have:=jz;omega
 .have e:=Zmw z lo hi l u hl hu;have e':(if(((Yn:Option (Int×fD)).map (·.1)).getD 1==1&&(wW ⟨z.toArray⟩ l u Yn).length==(⟨z.toArray⟩:aj).length)=true then(⟨z.toArray⟩:aj)else⟨((wW ⟨z.toArray⟩ l u Yn).filterMap ((⟨z.toArray⟩:aj).cps[·]?)).toArray⟩)=⟨(cutD z lo hi).toArray⟩:=e;rw[e'];exact⟨.str _,H,I.tok _,⟨_,rfl⟩,q⟩
theorem Zf5{t sl:Y1}{vl vu:Yh}{lo hi:Option Int}(ht:IsTup s.heap t items)(hs:s.heap.IsSliceOf sl vl vu .none)(pl:IsPart vl lo)(pu:IsPart vu hi)(hw:HT.aB items.size 0 lo=0/\HT.aB items.size items.size hi=items.size)(h:Q (.ref t) s):ao (au prog w) A (pM (.ref t) (.ref sl)) Q E s:=by
 obtain⟨os,hos,hcs,hds⟩:=id hs;have hTs:s.TypeIs (.ref sl) "slice":=⟨os,hos,hcs⟩;unfold pM
 try with_reducible refine gW ?_
 first|refine Yg (Yt ?_)|skip
 refine Yg (Nt ht.typeIs (by decide) ?_);refine Yg (wO (name:=pP "__getitem__") ht.typeIs Ii
  (uO Ii ht.typeIs Xl ?_ (Xn _ _)))
 show ao _ _ (X6 (.ref t)>>=_) _ _ s;refine Yg (tupleItemsOf_ ht ?_);refine Yg (NZ hTs ?_);rw[if_pos (by decide)];refine Yg (HT.UW hs pl pu ?_);have Abw:(((HT.aB items.size 0 lo:Nat):Int)==0&&(1:Int)==1&&(HT.aB items.size items.size hi-HT.aB items.size 0 lo)==items.size)=true:=by rw[hw.1,hw.2];simp
 show ao _ _ (if(((HT.aB items.size 0 lo:Nat):Int)==0&&(1:Int)==1&&(HT.aB items.size items.size hi-HT.aB items.size 0 lo)==items.size)=true then _ else _) _ _ s;rw[if_pos Abw];unfold Builtin.Tuple.tupleIsExact;refine Yg (Yg (NZ ht.typeIs (Yt ?_)));rw[if_pos (by decide)];exact Yg (Hw (Yt ⟨_,rfl,Yt h⟩))
theorem Zsx:jx X (λx lo hi H Q=>∃a xs,x= .ref a/\cF X.K H a xs/\(HT.aB xs.length 0 lo=0/\HT.aB xs.length xs.length hi=xs.length)/\Q (.ref a) H):=by
 intro pins s σ H x v vl vu lo hi sl Q I rx hs pl pu h;obtain⟨a,xs,rfl,hx,hw,q⟩:=h;cases rx;obtain⟨its,r,ht,hz⟩:=I.tuple hx;have hlen:its.toArray.size=xs.length:=by rw[Yo];exact r.length.symm
 refine⟨"tuple",_,PyProof.Rows.slot_tuple_getitem.lookup,ht.typeIs,?_⟩;exact Zf5 ht hs pl pu (by rw[hlen];exact hw) ⟨.ref a,H,I,rfl,q⟩
theorem qj:jx X (rS X.K):=jx.imp (jx.or (jx.or ZtY Zsx) (jx.or Zrz Ztl)) λx lo hi H Q ak=>by
 obtain⟨ι,M,a,S,ra,h⟩:=ak;have ex:∀n d o,HT.aB n d o=aB n d o:=λn d o=>by cases o<;>rfl
 cases a with
 | tup ds=>
  simp only[Ei,Ej,zV,zW]at h;obtain⟨p,vs,rfl,s,r⟩:=ra.iY;by_cases hw:aB ds.length 0 lo=0/\aB ds.length ds.length hi=ds.length
  .refine .inl (.inr ⟨p,vs,rfl,s,by rw[ex,ex,r.length];exact hw,?_⟩);have e:cutD ds lo hi=ds:=by unfold cutD;rw[hw.1,hw.2];simp
   rw[e]at h;exact Zt.ok h S (Rep.tup s r)
  .refine .inl (.inl ⟨p,vs,rfl,s,by rw[ex,ex,r.length];exact hw,λq hq=>?_⟩);obtain⟨x2,S2,r2⟩:=S.uE hq (Rc r lo hi);exact h _ _ _ x2 S2 r2
 |aY ds=>simp only[Ei,Ej,zV,zW]at h;obtain⟨p,vs,rfl,s,r⟩:=ra.rK;refine .inr (.inl ⟨p,vs,rfl,s.sq,λq hq=>?_⟩);obtain⟨x2,S2,r2⟩:=S.lst hq (Rc r lo hi);exact h _ _ _ x2 S2 r2|str z=>
  simp only[Ei,Ej,zV,zW]at h;split at h
  .rename_i hz;exact .inr (.inr ⟨z,ra.str_inv,hz,Zt.ok h S Rep.str⟩)
  .exact h.elim
 | ref n=>
  simp only[Ei,Ej,zV,zW]at h;cases hn:M[n]? with
  |none=>simp only[hn]at h;exact h.elim|some o=>
   cases o with
   |dct _=>simp only[hn]at h;exact h.elim|cJ _=>simp only[hn]at h;exact h.elim|ins _ _=>simp only[hn]at h;exact h.elim|lst ds=>simp only[hn]at h;obtain⟨p,hp,rfl⟩:=ra.dH;obtain⟨vs,e,r⟩:=S.obj n _ p hn hp;refine .inr (.inl ⟨p,vs,rfl,bB.of e,λq hq=>?_⟩);obtain⟨x2,S2,r2⟩:=S.lst hq (Rc r lo hi);exact h _ _ _ x2 S2 r2
 |_=>exact h.elim
theorem yj{xs:List V}(r:Zw K H ι [d] xs):∃x,xs=[x]/\Rep K H ι d x:=by obtain⟨v,ws,rfl,r1,r2⟩:=r.cons_inv;have:=r2.nil_inv;subst this;exact⟨v,rfl,r1⟩
theorem fO:cQ X (.builtin "len") (rB X.K aZ):=cQ.imp ZqL λxs H Q ak=>by
 obtain⟨ι,M,ds,S,rd,h⟩:=ak;cases ds with
 |nil=>exact h.elim|cons d ds=>
  cases ds with
  |cons _ _=>cases d<;>exact h.elim|nil=>
   obtain⟨x,rfl,r⟩:=yj rd;cases d with
   |tup z=>obtain⟨p,vs,rfl,s,r'⟩:=r.iY;exact⟨_,vs.length,rfl,.inr ⟨vs,s,rfl⟩,by rw[r'.length];exact Zt.ok h S Rep.int⟩|aY z=>obtain⟨p,vs,rfl,s,r'⟩:=r.rK;exact⟨_,vs.length,rfl,.inl ⟨vs,s.sq,rfl⟩,by rw[r'.length];exact Zt.ok h S Rep.int⟩|str z=>
    simp only[zX,zY,zZ,qU]at h;split at h
    .rename_i hz;have:=r.str_inv;subst this;refine⟨_,z.length,rfl,⟨?_,?_⟩,Zt.ok h S Rep.int⟩
     .show z.toArray.size<=bj;rw[Yo];exact Yk hz jz
     .show z.length=z.toArray.size;rw[Yo]
    .exact h.elim
   | ref n=>
    cases hn:M[n]? with
    |none=>rw[qU,hn]at h;exact h.elim|some o=>
     cases o with
     |dct _=>rw[qU,hn]at h;exact h.elim|cJ _=>rw[qU,hn]at h;exact h.elim|ins _ _=>rw[qU,hn]at h;exact h.elim|lst z=>simp only[zX,zY,zZ,qU,hn]at h;obtain⟨p,hp,rfl⟩:=r.dH;obtain⟨vs,e,r'⟩:=S.obj n _ p hn hp;exact⟨_,vs.length,rfl,.inl ⟨vs,bB.of e,rfl⟩,by rw[r'.length];exact Zt.ok h S Rep.int⟩
   |_=>exact h.elim
theorem nQ:cQ X (.type "tuple") (rB X.K gA):=cQ.imp Zjk λxs H Q ak=>by
 obtain⟨ι,M,ds,S,rd,h⟩:=ak;cases ds with
 |nil=>exact h.elim|cons d ds=>
  cases ds with
  |cons _ _=>cases d<;>exact h.elim|nil=>
   obtain⟨x,rfl,r⟩:=yj rd;cases d with
   |tup z=>obtain⟨p,vs,rfl,s,r'⟩:=r.iY;exact⟨p,vs,rfl,.inr ⟨s,Zt.ok h S (Rep.tup s r')⟩⟩|aY z=>obtain⟨p,vs,rfl,s,r'⟩:=r.rK;refine⟨p,vs,rfl,.inl ⟨s.sq,λq hq=>?_⟩⟩;obtain⟨x2,S2,r2⟩:=S.uE hq r';exact h _ _ _ x2 S2 r2|ref n=>
    cases hn:M[n]? with
    |none=>rw[z_,hn]at h;exact h.elim|some o=>
     cases o with
     |dct _=>rw[z_,hn]at h;exact h.elim|cJ _=>rw[z_,hn]at h;exact h.elim|ins _ _=>rw[z_,hn]at h;exact h.elim|lst z=>simp only[ZjD,Zjx,z_,hn]at h;obtain⟨p,hp,rfl⟩:=r.dH;obtain⟨vs,e,r'⟩:=S.obj n _ p hn hp;refine⟨p,vs,rfl,.inl ⟨bB.of e,λq hq=>?_⟩⟩;obtain⟨x2,S2,r2⟩:=S.uE hq r';exact h _ _ _ x2 S2 r2
   |_=>exact h.elim
theorem Zux:cQ X (.type "list") (rB X.K tL):=cQ.imp ZkZ λxs H Q ak=>by
 obtain⟨ι,M,ds,S,rd,h⟩:=ak;cases ds with
 |nil=>exact h.elim|cons d ds=>
  cases ds with
  |cons _ _=>cases d<;>exact h.elim|nil=>
   obtain⟨x,rfl,r⟩:=yj rd;cases d with
   |tup z=>obtain⟨p,vs,rfl,s,r'⟩:=r.iY;refine⟨p,vs,rfl,.inr s,λq hq=>?_⟩;obtain⟨x2,S2,r2⟩:=S.lst hq r';exact h _ _ _ x2 S2 r2|aY z=>obtain⟨p,vs,rfl,s,r'⟩:=r.rK;refine⟨p,vs,rfl,.inl s.sq,λq hq=>?_⟩;obtain⟨x2,S2,r2⟩:=S.lst hq r';exact h _ _ _ x2 S2 r2|ref n=>
    cases hn:M[n]? with
    |none=>rw[Ek,hn]at h;exact h.elim|some o=>
     cases o with
     |dct _=>rw[Ek,hn]at h;exact h.elim|cJ _=>rw[Ek,hn]at h;exact h.elim|ins _ _=>rw[Ek,hn]at h;exact h.elim|lst z=>simp only[ZpG,ZpD,Ek,hn]at h;obtain⟨p,hp,rfl⟩:=r.dH;obtain⟨vs,e,r'⟩:=S.obj n _ p hn hp;refine⟨p,vs,rfl,.inl (bB.of e),λq hq=>?_⟩;obtain⟨x2,S2,r2⟩:=S.lst hq r';exact h _ _ _ x2 S2 r2
   |_=>exact h.elim
end
theorem e_:jD "len" =Ya (.builtin "len"):=by decide +kernel
theorem Av:jD "all" =Ya (.builtin "all"):=by decide +kernel
theorem ZfT:jD "isinstance" =Ya (.builtin "isinstance"):=by decide +kernel
theorem Zuv:jD "int" =Ya (.type "int"):=by decide +kernel
theorem Zua:jD "str" =Ya (.type "str"):=by decide +kernel
theorem ZrQ:jD "list" =Ya (.type "list"):=by decide +kernel
theorem nR:jD "tuple" =Ya (.type "tuple"):=by decide +kernel
section
variable {X:Cx} {a:Expr} {pos p p2:aU} {f:E3}
noncomputable def eO:nu->String
 | .int=>"int" | .bool=>"bool" | .str=>"str" | .list=>"list" | .tuple=>"tuple"
theorem yo(K:Yb)(t:String)(T:nu)(ht:t∈["NoneType","bool","int","str","list","tuple","dict"]):
  V6 K (.type t) (.type (eO T))=Ya (t==eO T|| (t== "bool" &&eO T== "int")):=by
 simp only[Ym,mZ,or_false]at ht;rcases ht with rfl|rfl|rfl|rfl|rfl|rfl|rfl <;>cases T<;>kernel_rfl
theorem Ry(T:nu):jD (eO T)=Ya (.type (eO T)):=by cases T<;>decide +kernel
noncomputable def Zvv(T:nu)(o:Option MO):Option Bool:=match o with
 |some (.lst _)=>Ya (T== .list)|some (.dct _)=>Ya false|some (.cJ _)=>Yn|some (.ins _ _)=>Yn
 |none=>Yn
theorem ZrB{T:nu}{x:V}{b:Bool}(I:Inv X pins σ H s)(S:aC X.K H ι M)(r:Rep X.K H ι d x)(ru:RelV x u)(e:jG T d M=Ya b)(h:∀tk,Q (.bool b) {s with toks:=tk}):ao (au X.prog X.w) A (call (.builtin "isinstance") [u,.type (eO T)]) Q E s:=by
 cases d with
 |non=>rw[r.jf]at ru;exact zP I ru .non ((yo X.K "NoneType" T (by decide)).trans (vg (by cases T<;>rfl) e)) h|bl c=>rw[r.gm]at ru;exact zP I ru (.bl c) ((yo X.K "bool" T (by decide)).trans (vg (by cases T<;>rfl) e)) h|int i=>rw[r.int_inv]at ru;exact zP I ru (.int i) ((yo X.K "int" T (by decide)).trans (vg (by cases T<;>rfl) e)) h|str z=>rw[r.str_inv]at ru;exact zP I ru (.str _) ((yo X.K "str" T (by decide)).trans (vg (by cases T<;>rfl) e)) h
 |tup ds=>obtain⟨p,vs,its,_,eu,⟨o,h1,h2,_⟩,_⟩:=ye I r ru;rw[eu];exact oE MF I.dU ⟨o,h1,h2⟩ ((yo X.K "tuple" T (by decide)).trans (vg (by cases T<;>rfl) e)) (λz=>nomatch z) h|aY ds=>exact i_ e|ref n=>
  have e:Zvv T M[n]?=Ya b:=e;obtain⟨a,ha,ex⟩:=r.dH;rw[ex]at ru;cases hn:M[n]? with
  |none=>rw[hn]at e;exact i_ e|some o=>
   rw[hn]at e;cases o with
   |lst z=>obtain⟨vs,ev,_⟩:=S.obj n _ a hn ha;exact zP I ru (.lst ev) ((yo X.K "list" T (by decide)).trans (vg (by cases T<;>rfl) e)) h|dct z=>obtain⟨vs,ev,_⟩:=S.obj n _ a hn ha;exact zP I ru (.dK ev) ((yo X.K "dict" T (by decide)).trans (vg (by cases T<;>rfl) e)) h|cJ z=>exact i_ e|ins _ _=>exact i_ e
theorem t7(T:nu)(hm:X.mg "isinstance" =Yn)(hm2:X.mg x=Yn)(h:C3 X a f)(hx:x=(pP (eO T)):=by rfl)(hg:Gl X "isinstance":=by rfl)(hg2:Gl X x:=by rfl)(hn:x≠ "__name__":=by decide)(hd:(x==("__debug__":aj))=false:=by decide)(hs:Yw (a::[.Name x p2]) X.env=(false,aF a X.env)::Yw [.Name x p2] X.env:=by rfl)(hs2:Yw (.Name x p2::[]) X.env=(false,aF (.Name x p2) X.env)::Yw [] X.env:=by rfl)(hpl:(bZ pos (Yw [.Name x p2] X.env)).any (·.1)=false:=by rfl):C3 X (.Call (.Name "isinstance" p) [a,.Name x p2] [] pos) (e1 (nD T) f):=by
 subst hx;have hc:cQ X (.builtin "isinstance") (λxs H Q=>∃ι M d x,xs=[x,.ty (eO T)]/\aC X.K H ι M/\Rep X.K H ι d x/\Zt X.K H ι Q (nD T d M)):=by
  intro pins s σ H xs us Q I r q;obtain⟨ι,M,d,x,rfl,S,rd,q⟩:=q;obtain⟨u,w',rfl,ru,mD⟩:=vals2 r;cases mD;unfold nD at q;cases e:jG T d M with
  |none=>rw[e]at q;exact q.elim|some b=>rw[e]at q;exact ZrB I S rd ru e λtk=>⟨.bl b,H,I.tok _,rfl,Zt.ok q S Rep.bl⟩
 refine(Jm hc hg hm ZfT (vy h (vy (Qg hg2 hm2 (Ry T) (v:=.ty (eO T)) rfl hn hd) Ea hs2) hs) (by decide) (by decide) hs hpl).imp λσ H Q ak=>?_;obtain⟨ι,M,env,S,E,h⟩:=ak;obtain⟨d,M1,e1,h⟩:=Zt.bind h;refine⟨ι,M,env,S,E,?_⟩;rw[e1];intro v H1 ι1 x1 S1 r1;exact⟨ι1,M1,d,v,rfl,S1,r1,h.up x1⟩
theorem Zf0{p:D->Bool}:∀{l:List D} {e:Nat->Bool},(∀(j:Nat) d,l[j]?=Ya d->e j=p d)->(gU l.length).all e=l.all p
 |[],_,_=>rfl|d::l,e,h=>by rw[Yp,Wc,jC,List.all_map,h 0 d rfl,jC];congr 1;exact Zf0 λj d' hj=>h (j+1) d' (by simpa using hj)
theorem Aw(hc:X.calm=true):cQ X (.builtin "all") (rB X.K qW):=by
 intro pins s σ H xs us Q I rs h;obtain⟨ι,M,ds,S,rd,h⟩:=h;cases ds with
 |nil=>exact h.elim|cons d ds=>
  cases ds with
  |cons _ _=>cases d<;>exact h.elim|nil=>
   obtain⟨x,rfl,r⟩:=yj rd;obtain⟨u,rfl,ru⟩:=vals1 rs;cases d with
   | ref n=>
    cases hn:M[n]? with
    |none=>rw[Ab,hn]at h;exact h.elim|some o=>
     cases o with
     |dct _=>rw[Ab,hn]at h;exact h.elim|cJ _=>rw[Ab,hn]at h;exact h.elim|ins _ _=>rw[Ab,hn]at h;exact h.elim|lst z=>
      simp only[Ab,hn]at h;cases q:allB z with
      |none=>rw[q]at h;exact h.elim|some b=>
       rw[q]at h;obtain⟨a,ha,rfl⟩:=r.dH;cases ru;obtain⟨vs,ev,rv⟩:=S.obj n _ a hn ha;obtain⟨its,rr,pl,_⟩:=I.list (bB.of ev);have hz:z.all Aa=true/\z.all xR=b:=by
        unfold allB at q;split at q
        .rename_i hz;exact⟨hz,Y6 q⟩
        .cases q
       have hlen:its.toArray.size=z.length:=by rw[Yo,←rr.length,rv.length]
       have hhd:X.A.in1.handled=Yn:=I.ok.hd hc;refine call_all_walk (uN pl.isList ⟨s.heap.objs.size,_,_,_,_,_,(λj=>match z[j]? with|some d=>xR d|none=>true),rfl,Iw hhd s.heap.objs.size a (dw (I.hok.lt ev)) its.toArray,⟨⟨_,Y2 _ rfl,rfl,rfl⟩,pl.isList.at λo e=>Yl _ e⟩,?_,?_⟩)
       .intro j v s' Q' E' hv hq;have hv':its[j]?=Ya v:=by simpa using hv
        have hj:j<z.length:=by have:=(Yf.mp hv').1;rw[←Yo,hlen]at this;exact this
        have e1:z[j]?=Ya z[j]:=by simp[hj]
        have hb:=gQ.mp hz.1 _ (uK hj);obtain⟨w,g1,g2⟩:=rv.get e1;obtain⟨u',k1,k2⟩:=rr.get g1;rw[hv']at k1;cases k1;have hq':Q' (xR z[j]) s':=by have:=hq;simp only[e1]at this;exact this
        generalize z[j]=dj at hb g2 hq';cases dj with
        |bl c=>have:=g2.gm;subst this;cases k2;exact pJ hq'|_=>simp[Aa]at hb
       .intro h' tk kk;rw[hlen,Zf0 (p:=xR) (λj d hd=>by rw[hd]),hz.2];exact⟨.bl b,H,I.kept (λc o e=>kk c o (by simp;exact dw (Y3 e)) (Yl _ e)),rfl,Zt.ok h S Rep.bl⟩
   |_=>exact h.elim
end
noncomputable def Zs2(outer:List (aj×NameKind))(N:List aj)(scope:Scope)(N':List aj)(own:Nat):Bool:=
 (scope.names.all λy=>decide (y.2≠ .cell)&&(decide (y.2≠ .free)|| decide (outer.lookup y.1=Ya .cell)|| decide (outer.lookup y.1=Ya .free))&&(decide (y.2≠ .local)|| decide (scope.names.lookup y.1=Ya .local)))&&
  decide (N'.length=N.length+own)&&Rf N N' scope
theorem lR{scope:Scope}{N':List aj}{own:Nat}(hk:scope.kind= .function)(h:Zs2 X.env.scope.names X.N scope N' own=true):vW X scope N' own:=by
 simp only[Zs2,Y4,decide_eq_true_eq,gQ,w5]at h;obtain⟨⟨h1,h2⟩,h3⟩:=h;refine⟨hk,λy hy=>(h1 y hy).1.1,λy hy e=>?_,λy hy e=>?_,h2,h3⟩
 .rcases(h1 y hy).1.2 with(q|q)|q
  .exact absurd e q
  .exact .inl q
  .exact .inr q
 .rcases(h1 y hy).2 with q|q
  .exact absurd e q
  .exact q
theorem gM{h:aN}{mg:aj->Option Yh}(KX:K.In h)(G:h.Ns Yy mg){f:Y1}{oc:Yh}{od an:Option Y1}{osl:Array (Option Yh)}{dV kV doc pm cdv ct:Yh}(a:PySem.W.nsIn K Yy x=Ya (Ya (.ref f)))(l:K.lookup f=Ya ⟨oc,od,.func (qH x x (cU st) (cL st) (Zk st) dV kV doc pm an cdv ct),osl⟩)(c:Cz K cdv x=true)(k:rR K (.ref f)=true)(b:Binds K (qH x x (cU st) (cL st) (Zk st) dV kV doc pm an cdv ct) ps []):bL K mg x st ps:=⟨f,_,ZqS l c k,V8 KX G a,b⟩
theorem ZvX{l:PySem.W.OpenLaw}{k:Nat}{q:bD}{loose:List aj}{XP:(aj->Option Yh)->aN->Prop}{YP:bw->aN->Prop}{d:DefRec}{K:Params->Yb}(hn:l.most=Ya 63)(hdf:d.params.defaults=[])(hr:dz k uU)(hY:∀(w:bw) (h:aN),YP w h->(K w.params).In h)(G:∀(w:bw) (mg:aj->Option Yh) (fa:Y1) (h:aN),(K w.params).In h->h.Ns Yy mg->mg d.name=Ya (.ref fa) ->
   ∃fd:jT,(∀(s:Yj) (u:Yh),zj s fd ⟨[u],[]⟩ [("script",u)])/\∀base:aN,(K w.params).In base->base.Ns Yy mg->jm l.prog w (K w.params) mg base kZ k fa fd ["script"] (tY (K w.params) 1 F))(hF:∀ns:List Int,ns.length<=63->∃M',F [.aY (ns.map D.int)] []= .ok (.bl true) M'):
  V7 q loose XP YP l.row.toRowW d [] (λf vs=>Oa f vs):=
 L2.Zoj (n:=63) (k:=k) (x:="script") (CX:=λ_=>kZ) (sp:=λw=>tY (K w.params) 1 F) hn (by decide) hdf hr hY G (λw H a ns hl hO hS=>by
  obtain⟨M',e⟩:=hF ns hl;refine⟨[],[],[.aY (ns.map D.int)],⟨rfl,Nm,λn o a h=>by simp at h⟩,Zw.cons ?_ Zw.nil,rfl,?_⟩
  .refine⟨a,ns.map V.int,rfl,?_,Zw.ints ns⟩;rcases hS with(h|⟨o,h⟩)|h
   .rcases hO a with z|⟨ob,xs,z⟩
    .rw[h]at z;cases z
    .rw[h]at z;cases z
   .exact .inl ⟨o,h⟩
   .exact .inr h
  .rw[e]
   exactλv H' ι' _ _ r=>r.gm) λ_ _ _ _ _ z=>z
theorem Rz{a b:iy}(h:dk a=dk b):a=b:=by
 cases a with
 |inl i=>cases b with
  |inl j=>simp only[dk,Sum.inl.injEq]at h;rw[h]|inr y=>simp[dk]at h
 | inr x=>cases b with
  |inl j=>simp[dk]at h|inr y=>simp only[dk,Sum.inr.injEq,Str.mk.injEq]at h;have:=congrArg zF h;simp at this;rw[this]
variable{ws:List (Key×V)}{kvs:List (iy×D)}
section
variable {K:Yb} {H H':Hp} {ι ι':List Y1} {M:Store} {p:Y1}
theorem cW.nil:cW K H ι [] []:=⟨rfl,Zw.nil⟩
theorem cW.cons{k:iy}{d:D}{v:V}{kvs:List (iy×D)}{ws:List (Key×V)}(h:Rep K H ι d v)(r:cW K H ι kvs ws):cW K H ι ((k,d)::kvs) ((dk k,v)::ws):=⟨by simp[r.1],Zw.cons h r.2⟩
theorem cW.cons_inv{q:iy×D}(r:cW K H ι (q::kvs) ws):∃v ws',ws=(dk q.1,v)::ws'/\Rep K H ι q.2 v/\cW K H ι kvs ws':=by
 obtain⟨h1,h2⟩:=r;cases ws with
 |nil=>simp at h1|cons w ws=>simp only[Yu,Xc]at h1;obtain⟨v,us,e,r1,r2⟩:=Zw.cons_inv h2;simp only[Yu,Xc]at e;exact⟨w.2,ws,by rw[←h1.1],e.1▸r1,h1.2,e.2▸r2⟩
theorem cW.nil_inv(r:cW K H ι [] ws):ws=[]:=by simpa using r.1
theorem cW.mono(r:cW K H ι kvs ws)(e:Ext K H ι H' ι'):cW K H' ι' kvs ws:=⟨r.1,r.2.mono e⟩
theorem cW.length(r:cW K H ι kvs ws):ws.length=kvs.length:=by have:=congrArg Yes r.1;simpa using this
theorem cW.val(k:iy):∀{ws:List (Key×V)},cW K H ι kvs ws->match Eh kvs k with|some d=>∃v,k_ ws (dk k)=Ya v/\Rep K H ι d v|none=>k_ ws (dk k)=Yn:=by
 induction kvs with
 |nil=>intro ws r;rw[r.nil_inv];exact Zp6|cons q kvs ih=>
  intro ws r;obtain⟨v,ws',rfl,r1,r2⟩:=r.cons_inv;obtain⟨k',d⟩:=q;unfold Eh;by_cases e:k'=k
  .rw[if_pos e];exact⟨v,Jr (by rw[e]),r1⟩
  .rw[if_neg e,Js λz=>e (Rz z)];exact ih r2
theorem cW.append{k1 k2:List (iy×D)}{w1 w2:List (Key×V)}(a:cW K H ι k1 w1)(b:cW K H ι k2 w2):cW K H ι (k1++k2) (w1++w2):=⟨by simp[a.1,b.1],by rw[jR,jR];exact a.2.append b.2⟩
theorem cW.any(k:iy):∀{ws:List (Key×V)},cW K H ι kvs ws->(ws.any λkv=>decide (kv.1=dk k))=(kvs.any λq=>decide (q.1=k)):=by
 induction kvs with
 |nil=>intro ws r;rw[r.nil_inv];rfl|cons q kvs ih=>
  intro ws r;obtain⟨v,ws',rfl,r1,r2⟩:=r.cons_inv;rw[kh,kh,ih r2];congr 1;by_cases e:q.1=k
  .simp[e]
  .simp[e];exactλz=>e (Rz z)
theorem cW.put{k:iy}(r:cW K H ι kvs ws)(rd:Rep K H ι d v):cW K H ι (putD k d kvs) (putK ws (dk k) v):=by
 unfold putD putK;rw[r.any k];by_cases c:(kvs.any λq=>decide (q.1=k))=true
 .rw[if_pos c,if_pos c];clear c
  induction kvs generalizing ws with
  |nil=>rw[r.nil_inv];exact cW.nil|cons q kvs ih=>
   obtain⟨u,ws',rfl,r1,r2⟩:=r.cons_inv;rw[Yu,Yu];by_cases e:q.1=k
   .rw[if_pos e,if_pos (by rw[e])];exact cW.cons rd (ih r2)
   .rw[if_neg e,if_neg λz=>e (Rz z)];exact cW.cons r1 (ih r2)
 .rw[if_neg c,if_neg c];exact r.append (cW.cons rd cW.nil)
theorem aC.dct(S:aC K H ι M)(hp:H p=Yn)(r:cW K H ι kvs ws):Ext K H ι (upd H p (.dK ws)) (ι++[p])/\aC K (upd H p (.dK ws)) (ι++[p]) (M++[.dct kvs])/\Rep K (upd H p (.dK ws)) (ι++[p]) (.ref M.length) (.ref p):=by have e:Ext K H ι (upd H p (.dK ws)) (ι++[p]):=Loose.GK (.inl hp);exact⟨e,S.new hp ⟨ws,pR,r.mono e⟩,Rep.ref (by rw[←S.len];simp)⟩
end
section
variable {X:Cx} {a b c e o:Expr} {es:List Expr} {pos p pos' apos cpos:aU} {f g h:E3} {gl:d8}
def RB(K:Yb)(H:Hp)(ι:List Y1)(Q:List (V×V)->Hp->Prop)(r:R3 (List (iy×D))):Prop:=match r with
 | .ok l M'=>∀ws H' ι',Ext K H ι H' ι'->aC K H' ι' M'->cW K H' ι' l ws->Q (ws.map λkv=>(kV kv.1,kv.2)) H'|_=>False
theorem RB.bind{Q:List (V×V)->Hp->Prop}{r:R3 α}{k:α->Store->R3 (List (iy×D))}(h:RB K H ι Q (r.bind k)):∃a M,r= .ok a M/\RB K H ι Q (k a M):=by
 cases r with
 |ok a M=>exact⟨a,M,rfl,h⟩|exc x M=>exact h.elim|bad=>exact h.elim
theorem hu1(hu:X.A.units+80<jw):X.A.units+1<jw:=lB 1 7331617893452817 T1 hu
theorem ZrO{op:D->D->D->Store->R3 D}{Q:VK}(h':Zt K H ι Q (e3 op f g h env M)):
  ∃a M1 b M2 c M3,f env M= .ok a M1/\g env M1= .ok b M2/\h env M2= .ok c M3/\Zt K H ι Q (op a b c M3):=by
 obtain⟨a,M1,e1,h'⟩:=Zt.bind h';obtain⟨b,M2,e2,h'⟩:=Zt.bind h';obtain⟨c,M3,e3,h'⟩:=Zt.bind h';exact⟨a,M1,b,M2,c,M3,e1,e2,e3,h'⟩
theorem Zln{D':Ends}(E:b8 K H ι env σ)(h':o7 K H ι D' (aO f env M)):Zt K H ι (λ_ H'=>D'.nx σ H') (f env M):=by
 unfold aO at h';cases q:f env M with
 |ok d M1=>rw[q]at h';exactλv H1 ι1 x1 S1 r1=>h' σ H1 ι1 x1 S1 (E.mono x1)|exc x M1=>rw[q]at h';exact h'.elim|bad=>rw[q]at h';exact h'.elim
theorem RD{i:Expr}{spos:aU}(ho:C3 X o f)(hi:C3 X i g)(hv:C3 X e h)(ha:∀v,ji (.Subscript o i spos) X.env v=(do
   let ov ←uT [v] (aF o X.env)
   let iv ←uT [v,ov] (aF i X.env)
   Di spos
   uT [v,ov,iv] (setItem ov iv v)
   release [v,ov,iv] []):=by intro _;rfl)(hs:Nz [.Subscript o i spos] e pos.line X.env=pure false:=by rfl)(hw:NK [.Subscript o i spos] e X.env=pure Yn:=by rfl)(h1:(jh [.Subscript o i spos] X.env).map (·.2)=[ji (.Subscript o i spos) X.env]:=by rfl):CS X (.Assign [.Subscript o i spos] e pos) (qY f g h):=(Zp3 hv (Ztg ho hi set_list ha) hs hw h1).imp λD' σ H ak=>by
 obtain⟨ι,M,env,S,E,hh⟩:=ak;obtain⟨d,M1,b,M2,k,M3,e1,e2,e3,hh⟩:=ZrO (Zln E hh);refine⟨ι,M,env,S,E,?_⟩;rw[e1];intro v H1 ι1 x1 S1 r1;refine⟨ι1,M1,env,S1,E.mono x1,?_⟩;rw[e2];intro x H2 ι2 x2 S2 r2;refine⟨ι2,M2,env,S2,(E.mono x1).mono x2,?_⟩;rw[e3];intro y H3 ι3 x3 S3 r3;cases b with
 | ref n=>
  cases k with
  | int j=>
   simp only[Zjr]at hh;cases hn:M3[n]? with
   |none=>simp only[hn]at hh;exact hh.elim|some ob=>
    cases ob with
    |dct _=>simp only[hn]at hh;exact hh.elim|cJ _=>simp only[hn]at hh;exact hh.elim|ins _ _=>simp only[hn]at hh;exact hh.elim|lst xs=>
     simp only[hn]at hh;cases hj:jW xs.length j with
     |none=>simp only[hj]at hh;exact hh.elim|some q=>simp only[hj]at hh;obtain⟨ad,ha,rfl⟩:=(r2.mono x3).dH;obtain⟨ws,hw,kr⟩:=S3.obj n _ ad hn ha;obtain⟨x4,S4⟩:=S3.uF (.inr (.inl ⟨_,hw⟩)) ha (kr.set q ((r1.mono x2).mono x3));exact⟨ad,ws,j,q,rfl,r3.int_inv,hw,by rw[kr.length];exact hj,hh .non _ _ (((x1.trans x2).trans x3).trans x4) S4 Rep.non⟩
  |_=>exact hh.elim
 |_=>exact hh.elim
end
section
variable {X:Cx} {a b c e o:Expr} {es:List Expr} {pos p apos cpos:aU} {f g h:E3} {gl:d8}
theorem ZvY:cQ X (.type "int") (rB X.K Em):=cQ.imp ZoR λxs H Q ak=>by
 obtain⟨ι,M,ds,S,rd,h⟩:=ak;cases ds with
 |nil=>exact h.elim|cons d ds=>
  cases ds with
  |cons _ _=>cases d<;>exact h.elim|nil=>
   obtain⟨x,rfl,r⟩:=yj rd;cases d with
   |int i=>exact .inl ⟨i,by rw[r.int_inv],Zt.ok h S Rep.int⟩|bl k=>exact .inr ⟨k,by rw[r.gm],Zt.ok h S Rep.int⟩|_=>exact h.elim
theorem ZjT{K:Yb}{H:Hp}{ι:List Y1}:∀{x:List D} {ns:List Int} {vs:List V} {us:List Yh},lF x=Ya ns->Zw K H ι x vs->Vals vs us->IntsAre us ns
 |[],ns,vs,us,h,r,v=>by
  have e:=r.nil_inv;subst e;cases v;have:ns=[]:=by simpa[lF]using h.symm
  subst this;exact .nil
 | .int i::x,ns,vs,us,h,r,v=>by
  obtain⟨u,vs',rfl,r1,r2⟩:=r.cons_inv;have e:=r1.int_inv;subst e;cases v with
  | @cons _ z _ us' rz RG=>
  obtain⟨t,rfl⟩:=rz;simp only[lF]at h;cases hx:lF x with
  |none=>rw[hx]at h;cases h|some ms=>
   rw[hx]at h;have:ns=i::ms:=by simpa using h.symm
   subst this;exact .cons i t (ZjT hx r2 RG)
 | .non::_,_,_,_,h,_,_=>by simp[lF]at h|.bl _::_,_,_,_,h,_,_=>by simp[lF]at h|.str _::_,_,_,_,h,_,_=>by simp[lF]at h|.tup _::_,_,_,_,h,_,_=>by simp[lF]at h
 | .aY _::_,_,_,_,h,_,_=>by simp[lF]at h|.ref _::_,_,_,_,h,_,_=>by simp[lF]at h
end
theorem ZnN{sts:List Yep}:o8 X sts tM:=λ_ _ _ _ _ _ ⟨_,_,_,_,_,h⟩=>h.elim
section
variable {X:Cx} {o e:Expr} {es:List Expr} {apos cpos:aU} {f:E3} {gl:d8}
theorem Zw.erase:∀{ds:List D} {vs:List V} (i:Nat),Zw K H ι ds vs->Zw K H ι (ds.eraseIdx i) (vs.eraseIdx i)
 |[],_,_,h=>by rw[h.nil_inv];exact Zw.nil|d::ds,_,0,h=>by obtain⟨v,us,rfl,r,t⟩:=h.cons_inv;exact t|d::ds,_,i+1,h=>by obtain⟨v,us,rfl,r,t⟩:=h.cons_inv;exact Zw.cons r (t.erase i)
theorem Zw.dropLast(r:Zw K H ι ds vs):Zw K H ι ds.dropLast vs.dropLast:=by rw[Wd,Wd,r.length];exact r.take _
theorem ZvI:jF X "list.pop" (rM X.K oX):=jF.imp (r:=λx xs H Q=>Zqq x xs H Q\/Zwg x xs H Q) (λpins s σ H x xs v us Q I rx rs q=>q.elim (ZpR pins s σ H x xs v us Q I rx rs) (Zt2 pins s σ H x xs v us Q I rx rs)) λx xs H Q ak=>by
 obtain⟨ι,M,a,ds,S,ra,rd,h⟩:=ak;cases a with
 | ref n=>
  cases ds with
  | nil=>
   simp only[ZnI,QR]at h;cases hn:M[n]? with
   |none=>simp only[hn]at h;exact h.elim|some ob=>
    cases ob with
    |dct _=>simp only[hn]at h;exact h.elim|cJ _=>simp only[hn]at h;exact h.elim|ins _ _=>simp only[hn]at h;exact h.elim|lst z=>
     simp only[hn]at h;cases hx:z[z.length-1]? with
     |none=>simp only[hx]at h;exact h.elim|some d=>simp only[hx]at h;obtain⟨p,hp,rfl⟩:=ra.dH;have:=rd.nil_inv;subst this;obtain⟨vs,e,rv⟩:=S.obj n _ p hn hp;obtain⟨y,hy,ry⟩:=rv.get hx;obtain⟨x2,S2⟩:=S.uF (.inr (.inl ⟨_,e⟩)) hp rv.dropLast;exact .inr ⟨p,vs,y,rfl,rfl,e,by rw[rv.length];exact hy,h _ _ _ x2 S2 (ry.mono x2)⟩
  | cons d ds=>
   cases ds with
   |cons _ _=>cases d<;>exact h.elim|nil=>
    cases d with
    | int i=>
     simp only[ZnI,QR]at h;cases hn:M[n]? with
     |none=>simp only[hn]at h;exact h.elim|some ob=>
      cases ob with
      |dct _=>simp only[hn]at h;exact h.elim|cJ _=>simp only[hn]at h;exact h.elim|ins _ _=>simp only[hn]at h;exact h.elim|lst z=>
       simp only[hn]at h;by_cases hb:-1000000<=i/\i<=1000000
       .rw[if_pos hb]at h;cases hk:jW z.length i with
        |none=>simp only[hk]at h;exact h.elim|some k=>
         simp only[hk]at h;cases hx:z[k]? with
         |none=>simp only[hx]at h;exact h.elim|some d=>simp only[hx]at h;obtain⟨p,hp,rfl⟩:=ra.dH;obtain⟨v,ws,rfl,r1,r2⟩:=rd.cons_inv;have:=r2.nil_inv;subst this;have:=r1.int_inv;subst this;obtain⟨vs,e,rv⟩:=S.obj n _ p hn hp;obtain⟨y,hy,ry⟩:=rv.get hx;obtain⟨x2,S2⟩:=S.uF (.inr (.inl ⟨_,e⟩)) hp (rv.erase k);obtain⟨q1,q2,q3,q4⟩:=Qu (n:=z.length) (i:=i) (j:=k) hk;exact .inl ⟨p,vs,i,k,y,rfl,rfl,e,by omega,by omega,by rw[rv.length];exact q1,hy,h _ _ _ x2 S2 (ry.mono x2)⟩
       .rw[if_neg hb]at h;exact h.elim
    |_=>exact h.elim
 |_=>cases ds<;>exact h.elim
end
section
variable {X:Cx} {a b c e o:Expr} {es:List Expr} {pos p apos cpos:aU} {f g h:E3} {gl:d8}
theorem Zov:cQ X (.type "str") (λxs H Q=>(∃i,xs=[.int i]/\i.natAbs.log2<1920/\Q (.str (Dy i)) H)\/∃x,xs=[.str x]/\Q (.str x) H):=by
 intro pins s σ H xs us Q I r h;rcases h with h|⟨x,rfl,q⟩
 .exact ZkN pins s σ H xs us Q I r h
 .obtain⟨u,rfl,t,rfl⟩:=vals1 r;exact PySem.P.str_of_str ⟨.str x,H,I,⟨t,rfl⟩,q⟩
theorem ZwD:cQ X (.type "str") (rB X.K xV):=cQ.imp Zov λxs H Q ak=>by
 obtain⟨ι,M,ds,S,rd,h⟩:=ak;cases ds with
 |nil=>exact h.elim|cons d ds=>
  cases ds with
  |cons _ _=>cases d<;>exact h.elim|nil=>
   obtain⟨x,rfl,r⟩:=yj rd;cases d with
   | int i=>
    simp only[ZnD,ZsL]at h;split at h
    .rename_i hz;refine .inl ⟨i,by rw[r.int_inv],hz,Zt.ok h S ?_⟩;have:=Rep.str (K:=X.K) (H:=H) (ι:=ι) (x:=gK i);exact this
    .exact h.elim
   |str z=>exact .inr ⟨_,by rw[r.str_inv],Zt.ok h S Rep.str⟩|_=>exact h.elim
theorem J7{K:Yb}{H:Hp}{ι:List Y1}:∀{x:List D} {ts:List (List Nat)} {vs:List V} {us:List Yh},g_ x=Ya ts->Zw K H ι x vs->Vals vs us->∃l:List (aj×fD),us=kj l/\l.map (·.1)=ts.map λt=>(⟨t.toArray⟩:aj)
 |[],ns,vs,us,h,r,v=>by
  have e:=r.nil_inv;subst e;cases v;have:ns=[]:=by simpa[g_]using h.symm
  subst this;exact⟨[],rfl,rfl⟩
 | .str i::x,ns,vs,us,h,r,v=>by
  obtain⟨u,vs',rfl,r1,r2⟩:=r.cons_inv;have e:=r1.str_inv;subst e;cases v with
  | @cons _ z _ us' rz RG=>
  obtain⟨t,rfl⟩:=rz;simp only[g_]at h;cases hx:g_ x with
  |none=>rw[hx]at h;cases h|some ms=>
   rw[hx]at h;have:ns=i::ms:=by simpa using h.symm
   subst this;obtain⟨l,rfl,e⟩:=J7 hx r2 RG;exact⟨(_,t)::l,rfl,by simp[e]⟩
 | .non::_,_,_,_,h,_,_=>by simp[g_]at h|.bl _::_,_,_,_,h,_,_=>by simp[g_]at h|.int _::_,_,_,_,h,_,_=>by simp[g_]at h|.tup _::_,_,_,_,h,_,_=>by simp[g_]at h
 | .aY _::_,_,_,_,h,_,_=>by simp[g_]at h|.ref _::_,_,_,_,h,_,_=>by simp[g_]at h
theorem J8(sep:List Nat):∀ts:List (List Nat),Str.join (⟨sep.toArray⟩:aj) (ts.map λt=>(⟨t.toArray⟩:aj))=⟨(glue sep ts).toArray⟩
 |[]=>rfl|[x]=>rfl|x::y::xs=>by have ih:=J8 sep (y::xs);simp only[Yu]at ih ⊢;simp only[Str.join,glue]at ih ⊢;rw[ih];show(⟨(x.toArray++sep.toArray)++(glue sep (y::xs)).toArray⟩:aj)=_;simp
theorem Zrf{sep:List Nat}{ts:List (List Nat)}(h:jY sep ts<=SZ):JoinOk (⟨sep.toArray⟩:aj) (ts.map λt=>(⟨t.toArray⟩:aj))=true:=by
 have gen:∀(ts:List (List Nat)) (k:Nat),Hj (λx1 (x2:aj)=>x1+x2.length+(⟨sep.toArray⟩:aj).length) k (ts.map λt=>(⟨t.toArray⟩:aj))=k+jY sep ts:=by
  intro ts
  induction ts with
  |nil=>intro k;simp[jY]|cons t ts ih=>intro k;simp only[Yu,qJ,ih];simp[jY,kJ];exact iR (lD 0 0x321cc0c3210ccc0 T1) (lD 0 0x3210ccc321cc0c0 T1)
 unfold JoinOk Xq;rw[List.foldl_toArray,gen];have:bj>=SZ:=jz;simp only[u9,W9,decide_eq_false_iff_not];exactλz=>lC 3 0x6210102011011 T1 z this h
theorem Zuk:jF X "str.join" (rM X.K Ae):=by
 intro pins s σ H x xs v us Q I rx rs h;obtain⟨ι,M,a,ds,S,ra,rd,h⟩:=h;cases a with
 | str sep=>
  cases ds with
  |nil=>exact h.elim|cons d ds=>
   cases ds with
   |cons _ _=>cases d<;>exact h.elim|nil=>
    cases d with
    | ref n=>
     simp only[Zlj]at h;cases hn:M[n]? with
     |none=>simp only[hn]at h;exact h.elim|some ob=>
      cases ob with
      |dct _=>simp only[hn]at h;exact h.elim|cJ _=>simp only[hn]at h;exact h.elim|ins _ _=>simp only[hn]at h;exact h.elim|lst z=>
       simp only[hn]at h;cases hs:g_ z with
       |none=>simp only[hs]at h;exact h.elim|some ts=>
        simp only[hs]at h;split at h
        .rename_i hz;have:=ra.str_inv;subst this;obtain⟨w',ws,rfl,r1,r2⟩:=rd.cons_inv;have:=r2.nil_inv;subst this;obtain⟨p,hp,rfl⟩:=r1.dH;obtain⟨t,rfl⟩:=rx;obtain⟨u,rfl,ru⟩:=vals1 rs;cases ru;obtain⟨vs,e,rv⟩:=S.obj n _ p hn hp;obtain⟨its,rr,pl,zl⟩:=I.list (bB.of e);obtain⟨l,rfl,el⟩:=J7 hs rv rr;refine SC.join pl.isList el (Zrf hz) λt' k=>⟨.str _,H,I.tok _,⟨t',rfl⟩,?_⟩;rw[Txt.join,ZF,J8];exact Zt.ok h S Rep.str
        .exact h.elim
    |_=>exact h.elim
 |_=>exact h.elim
theorem ZiF(ho:C3 X o f)(ha:CA X (e::es) gl)(hbase:mj o "join" X.env (aF o X.env)=aF o X.env:=by rfl)(hfew:((bZ cpos (Yw (e::es) X.env)).all (λx=>!x.1)&&(iQ cpos (iK [] X.env)).all (λx=>x.1.isSome)
   &&decide ((e::es).length+([]:List Keyword).length+(if([]:List Keyword).isEmpty then 0 else 1)<30))=true:=by rfl)(hline:(apos.endLine==cpos.line)=true:=by rfl)(hs:Yw (e::es) X.env=(false,aF e X.env)::Yw es X.env:=by rfl)(hplain:(bZ cpos (Yw es X.env)).any (·.1)=false:=by rfl):
  C3 X (.Call (.Attribute o "join" apos) (e::es) [] cpos) (aG g8 Ae f gl):=
 (zR Il O7 XD Zuk ho ha hbase hfew hline hs hplain).imp (Aq J6)
end
section
variable {X:Cx} {a b c e o:Expr} {es:List Expr} {pos p apos cpos:aU} {f g h:E3} {gl:d8}
theorem Zo2{t:fD}{y:aj}{u:fD}(hy:(y.length==0)=false)(hz:x.length+2<=bj)(h:∀(l:List (aj×fD)) (k:Nat),l.map (·.1)=Txt.split x y->l.length<=x.length+2->Q (.ref s.heap.objs.size) {s with heap:=s.heap.push {cls:=.type "list",data:=.seq (kj l).toArray},toks:=k}):
  ao (au prog w) A (call (.builtin "str.split") [.str x t,.str y u]) Q E s:=by
 have e1:=StrLaws.occ_length_le x y 0 x.length (x.length+1);have e2:=length_partsBetween x (Dt x y 0 x.length (x.length+1)) y.length;have hn:(Xp x (Dt x y 0 x.length (x.length+1)) y.length).length<=bj:=lD 3 0x300321b2c01a2c101a1c021 T1 e2 e1 hz;cases h1:(decide (x.length<y.length)|| decide (Xr x<Xr y))with
 | true=>
  exact pK Pa (wX s x t) O_ (O9 (.str x t) (.str y u)) (meets_str_split_cannot_occur x y t u h1)
   (h [(x,t)] s.toks (if_pos h1).symm (by simp))
 | false=>
  cases hf:(Dt x y 0 x.length (x.length+1)).isEmpty with
  | true=>
   exact pK Pa (wX s x t) O_ (O9 (.str x t) (.str y u)) (meets_str_split_not_found x y t u h1 hy hf)
    (h [(x,t)] s.toks ((if_neg (ne_true_of_eq_false h1)).trans (if_pos hf)).symm (by simp))
  |false=>refine pK Pa (wX s x t) O_ (O9 (.str x t) (.str y u)) (meets_str_split_sep x y t u h1 hy hf (lB 1 1099815390209 T1 hz) hn) ?_;rw[strsFrom_eq];refine h (numbered s.toks _) _ ((numbered_texts s.toks _).trans ((if_neg (ne_true_of_eq_false h1)).trans (if_neg (ne_true_of_eq_false hf))).symm) ?_;have e3:=congrArg Yes (numbered_texts s.toks (Xp x (Dt x y 0 x.length (x.length+1)) y.length));rw[Yv]at e3;exact lD 3 0x21b3c00a3c201a2c1211021 T1 e3 e2 e1
theorem Zjj:cQ X (.type "int") (λxs H Q=>∃x n,xs=[.str x]/\intText? x=Ya n/\x.length<=640/\Q (.int n) H):=by intro pins s σ H xs us Q I r h;obtain⟨x,n,rfl,hn,hz,q⟩:=h;obtain⟨u,rfl,t,rfl⟩:=vals1 r;exact PySem.W.KIN.call_text hn hz ⟨.int n,H,I.tok _,⟨_,rfl⟩,q⟩
theorem Zuo:cQ X (.type "int") (rB X.K tU):=cQ.imp (cQ.or ZvY Zjj) λxs H Q ak=>by
 obtain⟨ι,M,ds,S,rd,h⟩:=ak
 match ds,rd,h with
 | [.str x],rd,h=>
  obtain⟨v,rfl,r⟩:=yj rd;simp only[Zql,Zpu]at h;cases hn:Hs ⟨x.toArray⟩with
  |none=>rw[hn]at h;exact h.elim|some n=>
   rw[hn]at h;dsimp only at h;split at h
   .rename_i hz;exact .inr ⟨_,n,by rw[r.str_inv],hn,by simpa[kJ]using hz,Zt.ok h S Rep.int⟩
   .exact h.elim
 |[],rd,h=>exact h.elim|[.int i],rd,h=>exact .inl ⟨ι,M,_,S,rd,h⟩|[.bl i],rd,h=>exact .inl ⟨ι,M,_,S,rd,h⟩|[.non],rd,h=>exact h.elim
 |[.tup _],rd,h=>exact h.elim|[.aY _],rd,h=>exact h.elim|[.ref _],rd,h=>exact h.elim|.str _::_::_,rd,h=>exact h.elim
 | .int _::_::_,rd,h=>exact h.elim|.bl _::_::_,rd,h=>exact h.elim|.non::_::_,rd,h=>exact h.elim|.tup _::_::_,rd,h=>exact h.elim
 | .aY _::_::_,rd,h=>exact h.elim|.ref _::_::_,rd,h=>exact h.elim
theorem RJ{K:Yb}{H:Hp}{ι:List Y1}:∀(l:List (aj×fD)),Vals (l.map λp=>V.str p.1) (kj l)/\Zw K H ι ((l.map λp=>p.1.cps.toList).map D.str) (l.map λp=>V.str p.1)
 |[]=>⟨.nil,Zw.nil⟩|p::l=>⟨.cons ⟨p.2,rfl⟩ (RJ (K:=K) (H:=H) (ι:=ι) l).1,Zw.cons (Rep.str (x:=p.1.cps.toList)) (RJ l).2⟩
theorem m_split:jF X "str.split" (rM X.K vH):=by
 intro pins s σ H x xs v us Q I rx rs h;obtain⟨ι,M,a,ds,S,ra,rd,h⟩:=h;cases a with
 | str z=>
  cases ds with
  |nil=>exact h.elim|cons d ds=>
   cases ds with
   |cons _ _=>cases d<;>exact h.elim|nil=>
    cases d with
    | str y=>
     simp only[ZjG]at h;split at h
     .rename_i hz;have:=ra.str_inv;subst this;obtain⟨w',ws,rfl,r1,r2⟩:=rd.cons_inv;have:=r2.nil_inv;subst this;have:=r1.str_inv;subst this;obtain⟨t,rfl⟩:=rx;obtain⟨u,rfl,ru⟩:=vals1 rs;obtain⟨t',rfl⟩:=ru;have zl:=jz;refine Zo2 ?_ ?_ λl k hl hn=>?_
      .have:=hz.1;simp[kJ];intro e;subst e;simp at this
      .simp only[kJ,Yo];exact Yk hz.2 zl
      .have hq:=I.fresh;obtain⟨v1,r'⟩:=RJ (K:=X.K) (H:=H) (ι:=ι) l;have e1:(l.map λp=>p.1.cps.toList)=nH z y:=by
        rw[nH,←hl,qK];rfl
       rw[e1]at r';obtain⟨x2,S2,r2⟩:=S.lst hq r';refine⟨.ref s.heap.objs.size,_,I.laid (λb o' e=>Yl _ e) (Ys _) (show gn X.prog X.w _ _ _ (.lst (l.map λp=>V.str p.1))from⟨?_,kj l,_,v1,Y2 _ rfl⟩),rfl,h _ _ _ x2 S2 r2⟩;simp only[Yv,kJ,Yo]at hn ⊢;exact lD 3 0x300221b1c01320121b1c001 T1 hn zl hz.2
     .exact h.elim
    |_=>exact h.elim
 |_=>exact h.elim
theorem Zhy(ho:C3 X o f)(ha:CA X (e::es) gl)(hbase:mj o "split" X.env (aF o X.env)=aF o X.env:=by rfl)(hfew:((bZ cpos (Yw (e::es) X.env)).all (λx=>!x.1)&&(iQ cpos (iK [] X.env)).all (λx=>x.1.isSome)
   &&decide ((e::es).length+([]:List Keyword).length+(if([]:List Keyword).isEmpty then 0 else 1)<30))=true:=by rfl)(hline:(apos.endLine==cpos.line)=true:=by rfl)(hs:Yw (e::es) X.env=(false,aF e X.env)::Yw es X.env:=by rfl)(hplain:(bZ cpos (Yw es X.env)).any (·.1)=false:=by rfl):
  C3 X (.Call (.Attribute o "split" apos) (e::es) [] cpos) (aG g8 vH f gl):=
 (zR Il PySem.F.slot_str_split PySem.F.type_str_split m_split ho ha hbase hfew hline hs hplain).imp (Aq J6)
end
section
variable {X:Cx} {a b c e o:Expr} {es:List Expr} {pos p p1 p2 p3 pt apos cpos:aU} {f g h:E3} {gl:d8}
theorem Zr6(K:Yb)(t:String)(T1 T2:nu)(ht:t∈["NoneType","bool","int","str","list","tuple","dict"]):
  PySem.W.kitAny K (.type t) [.type (eO T1),.type (eO T2)]=Ya ((t==eO T1|| (t== "bool" &&eO T1== "int"))|| (t==eO T2|| (t== "bool" &&eO T2== "int"))):=by
 simp only[Ym,mZ,or_false]at ht;rcases ht with rfl|rfl|rfl|rfl|rfl|rfl|rfl <;>cases T1<;>cases T2<;>kernel_rfl
theorem ZrS{x:V}(I:Inv X pins σ H s)(S:aC X.K H ι M)(r:Rep X.K H ι d x)(ru:RelV x u)(hd:jG .int d M≠Yn):
  ∃(t:String) (Hc:aN->Prop),PySem.W.KitX X.K u (.type t) Hc/\Hc s.heap/\u≠ .builtin "__main__.__loader__#opaque" /\t∈["NoneType","bool","int","str","list","tuple","dict"]/\∀T b,jG T d M=Ya b->b=(t==eO T|| (t== "bool" &&eO T== "int")):=by
 cases d with
 | non=>
  have:=r.jf;subst this;cases(show u=Value.none from ru);exact⟨"NoneType",_,V1,True.intro,(λz=>nomatch z),by simp,λT b e=>by
   have hb:b=false:=by simpa  using e.symm
   subst hb;cases T<;>rfl⟩
 | bl c=>
  have:=r.gm;subst this;cases(show u=Value.bool c from ru);exact⟨"bool",_,V2,True.intro,(λz=>nomatch z),by simp,λT b e=>by
   have hb:b=(T== .bool|| T== .int):=by simpa  using e.symm
   subst hb;cases T<;>rfl⟩
 | int i=>
  have:=r.int_inv;subst this;obtain⟨t,q⟩:=(show∃t,u=Value.int i t from ru);cases q;exact⟨"int",_,V4,True.intro,(λz=>nomatch z),by simp,λT b e=>by
   have hb:b=(T== .int):=by simpa  using e.symm
   subst hb;cases T<;>rfl⟩
 | str z=>
  have:=r.str_inv;subst this;obtain⟨t,q⟩:=(show∃t,u=Value.str _ t from ru);cases q;exact⟨"str",_,V5,True.intro,(λz=>nomatch z),by simp,λT b e=>by
   have hb:b=(T== .str):=by simpa  using e.symm
   subst hb;cases T<;>rfl⟩
 | tup ds=>
  obtain⟨a,vs,rfl,st,rr⟩:=r.iY;cases ru;obtain⟨its,_,pt,_⟩:=I.tuple st;obtain⟨o,h1,h2,_⟩:=pt;exact⟨"tuple",_,MF,⟨o,h1,h2⟩,(λz=>nomatch z),by simp,λT b e=>by
   have hb:b=(T== .tuple):=by simpa  using e.symm
   subst hb;cases T<;>rfl⟩
 |aY ds=>exact absurd (by simp) hd|ref n=>
  simp only[ZnG,Zog,Znp,ZnS,Zns,Zn8,ZnC]at hd;cases hn:M[n]? with
  |none=>exact absurd (by simp[hn]) hd|some o=>
   obtain⟨a,ha,rfl⟩:=r.dH;cases o with
   | lst z=>
    obtain⟨vs,ev,_⟩:=S.obj n _ a hn ha;cases(show u=Value.ref a from ru);obtain⟨_,_,n',_,h1⟩:=(show gn X.prog X.w H s.heap a (.lst vs)from I.hok a _ ev);exact⟨"list",_,MN,⟨_,h1,rfl⟩,(λz=>nomatch z),by simp,λT b e=>by
     have hb:b=(T== .list):=by simpa[hn]using e.symm
     subst hb;cases T<;>rfl⟩
   | dct z=>
    obtain⟨vs,ev,_⟩:=S.obj n _ a hn ha;cases(show u=Value.ref a from ru);obtain⟨_,_,vs',_,q⟩:=(show gn X.prog X.w H s.heap a (.dK vs)from I.hok a _ ev);obtain⟨o,es,ep,h1,h2,_⟩:=q;exact⟨"dict",_,MP,⟨o,h1,h2.1⟩,(λz=>nomatch z),by simp,λT b e=>by
     have hb:b=false:=by simpa[hn]using e.symm
     subst hb;cases T<;>rfl⟩
   |cJ z=>exact absurd (by simp[hn]) hd|ins _ _=>exact absurd (by simp[hn]) hd
theorem ZnJ(T1 T2:nu){y:aj}{k}(hm:X.mg "isinstance" =Yn)(hm1:X.mg x=Yn)(hm2:X.mg y=Yn)(h:C3 X a f)(hx:x=(pP (eO T1)):=by rfl)(hy:y=(pP (eO T2)):=by rfl)(hg:Gl X "isinstance":=by rfl)(hg1:Gl X x:=by rfl)(hg2:Gl X y:=by rfl)(hn:x≠ "__name__":=by decide)(hd:(x==("__debug__":aj))=false:=by decide)(hn':y≠ "__name__":=by decide)(hd':(y==("__debug__":aj))=false:=by decide)(hs:Yw (a::[.Tuple [.Name x p1,.Name y p2] k pt]) X.env=(false,aF a X.env)::Yw [.Tuple [.Name x p1,.Name y p2] k pt] X.env:=by rfl)(hs1:Yw (.Tuple [.Name x p1,.Name y p2] k pt::[]) X.env=(false,aF (.Tuple [.Name x p1,.Name y p2] k pt) X.env)::Yw [] X.env:=by rfl)(hs2:Yw (.Name x p1::[.Name y p2]) X.env=(false,aF (.Name x p1) X.env)::Yw [.Name y p2] X.env:=by rfl)(hs3:Yw (.Name y p2::[]) X.env=(false,aF (.Name y p2) X.env)::Yw [] X.env:=by rfl)(hpl:(bZ pos (Yw [.Tuple [.Name x p1,.Name y p2] k pt] X.env)).any (·.1)=false:=by rfl):C3 X (.Call (.Name "isinstance" p) [a,.Tuple [.Name x p1,.Name y p2] k pt] [] pos) (e1 (Ey T1 T2) f):=by
 subst hx hy;have hc:cQ X (.builtin "isinstance") (λxs H Q=>∃ι M d x q,xs=[x,.ref q]/\H q=Ya (.tup [.ty (eO T1),.ty (eO T2)])/\aC X.K H ι M/\Rep X.K H ι d x/\Zt X.K H ι Q (Ey T1 T2 d M)):=by
  intro pins s σ H xs us Q I r q;obtain⟨ι,M,d,x,tp,rfl,et,S,rd,q⟩:=q;obtain⟨u,w',rfl,ru,mD⟩:=vals2 r;cases mD;unfold Ey at q;cases e1:jG T1 d M with
  |none=>rw[e1]at q;exact q.elim|some b1=>
   cases e2:jG T2 d M with
   |none=>rw[e1,e2]at q;exact q.elim|some b2=>
    rw[e1,e2]at q;have hd:jG .int d M≠Yn:=λz=>by
     cases d with
     |ref n=>
      simp only[ZnG,Zog,Znp,ZnS,Zns,Zn8,ZnC]at z e1;cases hn:M[n]? with
      |none=>simp[hn]at e1|some o=>cases o<;>simp[hn]at z e1
     |aY _=>simp  at e1|_=>simp  at z
    obtain⟨t,Hc,kx,hh,hl,ht,hb⟩:=ZrS I S rd ru hd;obtain⟨_,its,rt,pt⟩:=(show gn X.prog X.w H s.heap tp (.tup [.ty (eO T1),.ty (eO T2)])from I.hok tp _ et);obtain⟨v1,v2,rfl,q1,q2⟩:=vals2 rt;cases q1;cases q2;obtain⟨ob,g1,⟨g2,g3⟩,n,g4⟩:=pt;have ho:ob={cls:=.type "tuple",dict:=ob.dict,data:=.seq [.type (eO T1),.type (eO T2)].toArray n,slots:=ob.slots}:=by cases ob;simp only at g2 g4;subst g2 g4;rfl
    rw[ho]at g1;refine PySem.W.kia_tup kx I.dU hh g1 ((Zr6 X.K t T1 T2 ht).trans ?_) hl λtk=>⟨.bl (b1|| b2),H,I.tok _,rfl,Zt.ok q S Rep.bl⟩;rw[hb T1 b1 e1,hb T2 b2 e2]
 refine(Jm hc hg hm ZfT (vy h (vy (ZpH (vy (Qg hg1 hm1 (Ry T1) (v:=.ty (eO T1)) rfl hn hd) (vy (Qg hg2 hm2 (Ry T2) (v:=.ty (eO T2)) rfl hn' hd') Ea hs3) hs2)) Ea hs1) hs) (by decide) (by decide) hs hpl).imp λσ H Q ak=>?_;obtain⟨ι,M,env,S,E,h⟩:=ak;obtain⟨d,M1,e1,h⟩:=Zt.bind h;refine⟨ι,M,env,S,E,?_⟩;rw[e1];intro v H1 ι1 x1 S1 r1;refine⟨by simp;exact Yk (by decide) jz,λq hq=>?_⟩;have x2:Ext X.K H1 ι1 (upd H1 q (.tup [.ty (eO T1),.ty (eO T2)])) ι1:=Loose.ext (.inl hq);exact⟨ι1,M1,d,v,q,rfl,pR,S1.other (.inl hq) (S1.fresh hq),r1.mono x2,h.up (x1.trans x2)⟩
end
def J9(K:Yb)(H:Hp)(ι:List Y1)(it:Ez)(J:It):Prop:=∀(i:Nat) H2 ι2 M2,Ext K H ι H2 ι2->aC K H2 ι2 M2->jn it.lk M2=true ->
 (∀d,it.items[i]?=Ya d->J.go i H2/\∀x H3,J.Jh i H2 x H3->Ext K H2 ι2 H3 ι2/\aC K H3 ι2 M2/\Rep K H3 ι2 d x)/\(i=it.items.length->J.stop i H2)
def Ax(K:Yb)(H:Hp)(ι:List Y1)(R:It->Hp->Prop)(r:R3 Ez):Prop:=match r with
 | .ok it M'=>∀J H' ι',Ext K H ι H' ι'->aC K H' ι' M'->J9 K H' ι' it J->R J H'|_=>False
def tIL(K:Yb)(g:xW):TI:=λσ H R=>∃ι M env,aC K H ι M/\b8 K H ι env σ/\Ax K H ι R (g env M)
def CIL(X:Cx)(tg e:Expr)(g:xW):Prop:=PI X tg e (tIL X.K g)
theorem Ax.bind{Q:It->Hp->Prop}{r:R3 α}{k:α->Store->R3 Ez}(h:Ax K H ι Q (r.bind k)):∃a M,r= .ok a M/\Ax K H ι Q (k a M):=by
 cases r with
 |ok a M=>exact⟨a,M,rfl,h⟩|exc x M=>exact h.elim|bad=>exact h.elim
theorem _root_.L2.Inv.Gw{h':aN}{t':Nat}(I:Inv X pins σ H s)(k:∀b o,b∉fp->s.heap.get? b=Ya o->h'.get? b=Ya o)(hf:∀b∈fp,iw X pins H b):
  Inv X pins σ H {s with heap:=h',toks:=t'}:=by
 have DY:∀b u,H b=Ya u->b∉fp:=λb u e z=>by rw[(hf b z).1]at e;cases e
 refine I.step (g':=s.gens) (d':=s.drawn) (ch:=fp) (λb hb=>⟨(hf b hb).2.2.2.1,(hf b hb).2.1,(hf b hb).2.2.2.2.1,(hf b hb).2.2.2.2.2⟩) (λb o _ _ hc e _=>k b o hc e) (λb o _ _ hc e _=>⟨o.slots,k b o hc e⟩) (λ_ _ _ _ n=>n)
  (λb o hc e=>⟨o,k b o hc e⟩) (λ_ _ e=>e) (λ_ _ _ e=>e) (λb ps e=>⟨#[],by rw[e];simp⟩) (λm hm=>?_) (λb u e=>?_) I.bare
 .obtain⟨o,es,ep,ho,r⟩:=hm;exact⟨o,es,ep,k _ o (λz=>(hf _ z).2.1 rfl) ho,r⟩
 .refine(I.hok b u e).stay (λc v hc q=>k c v ?_ q) (λ_ q=>q) λ_ _ q=>q;rcases hc with z|z
  .rw[z];exact DY b u e
  .exact DY c _ z
noncomputable def Ite(S:Hp->List V->Prop):It:=⟨λi H=>∃xs x,S H xs/\xs[i]?=Ya x,λi H x H'=>∃T y,x= .ref T/\H T=Yn/\H'=upd H T (.tup [.int i,y])/\∀xs,S H xs->xs[i]?=Ya y,λi H=>∃xs,S H xs/\xs.length<=i⟩
theorem RK{h' h'':aN}{e:Y1}{x:V}{tk tk':Nat}(I:Inv X pins σ H s)(hf:∀b∈[e,it],iw X pins H b)(he:e<s.heap.objs.size)(hi:it<s.heap.objs.size)(ru:RelV x u)(hT:h'.get? s.heap.objs.size=Ya {cls:=.type "tuple",data:=.seq #[.int i tk,u]})(hk:∀b o,b≠e->b≠it->s.heap.get? b=Ya o->h'.get? b=Ya o)(hs:zr e h' h''):
  Inv X pins σ (upd H s.heap.objs.size (.tup [.int i,x])) {s with heap:=h'',toks:=tk'}/\∀b∈[e,it],upd H s.heap.objs.size (.tup [.int i,x]) b=Yn:=by
 have hn:∀b∈[e,it],upd H s.heap.objs.size (.tup [.int i,x]) b=Yn:=λb hb=>by
  have:b≠s.heap.objs.size:=by
   simp only[Ym,mZ,or_false]at hb;rcases hb with rfl|rfl
   .exact dw he
   .exact dw hi
  rw[fJ this];exact(hf b hb).1
 refine⟨?_,hn⟩;have I1:Inv X pins σ (upd H s.heap.objs.size (.tup [.int i,x])) {s with heap:=s.heap.push {cls:=.type "tuple",data:=.seq ([.int i tk,u]:List Yh).toArray},toks:=s.toks}:=I.laid (t':=s.toks) (λb o e=>Yl _ e) (Ys _) (show gn X.prog X.w _ _ _ (.tup [.int i,x])from⟨by rw[zf];show 2<=_;decide,[.int i tk,u],.cons ⟨tk,rfl⟩ (.cons ru .nil),qP.new _ _⟩);have I3:=I1.Gw (t':=tk') (h':=h'') (fp:=[e,it]) (λb o hb q=>by
  have hbe:b≠e:=λz=>hb (by simp[z]);have hbi:b≠it:=λz=>hb (by simp[z]);rcases Heap.get?_push_cases q with⟨rfl,rfl⟩|q
  .exact(hs.2 _ (Dm he)).trans hT
  .exact(hs.2 _ hbe).trans (hk b o hbe hbi q)) λb hb=>⟨hn b hb,(hf b hb).2⟩
 exact I3
theorem ZmB{P:bD}{es:List Expr}{k:Nat}{pos:aU}(a e it:Y1)(hne:e≠it):
  Turn P w K (.Tuple es k pos) (Ite λH xs=>bB K H a xs) [e,it] e (λi h=>(∃old,wY h e it i old)/\h.IsListIter it a i)where
 mem:=by simp
 obj:=λi h st b hb=>by
  obtain⟨⟨old,he⟩,o,ho,c,d⟩:=st;simp only[Ym,mZ,or_false]at hb;rcases hb with rfl|rfl
  .exact⟨_,he,λv z=>by cases z⟩
  .exact⟨o,ho,λv z=>by rw[d]at z;cases z⟩
 keep:=λi h h' st k=>by obtain⟨⟨old,he⟩,hit⟩:=st;exact⟨⟨old,k e (by simp) _ he⟩,hit.at λo q=>k it (by simp) o q⟩
 item:=by
  intro X hP hw hK hc i pins s σ H E I hf st hg;subst hP hw hK;obtain⟨xs,x,hq,hx⟩:=hg;obtain⟨its,rv,p,hz⟩:=I.list hq;obtain⟨u,hu,ru⟩:=rv.get hx;obtain⟨⟨old,he⟩,hit⟩:=st;have hel:=Y3 he;have hil:it<s.heap.objs.size:=by obtain⟨o,ho,_⟩:=id hit;exact Y3 ho
  refine wpAny_pyNext_enum_item he hit p.isList (x:=u) (by simpa using hu) hne λh' ho hit' hT hsz hk=>?_;refine⟨_,rfl,Nq (s:={s with heap:=h',toks:=s.toks+1}) ho λh'' Cy hs''=>?_⟩;obtain⟨I2,n2⟩:=RK (x:=x) (tk':=s.toks+1) I hf hel hil ru hT hk hs'';exact⟨.ref s.heap.objs.size,_,I2,rfl,⟨_,x,rfl,I.hok.fresh (Ys _),rfl,λys hy=>by rw[I.L_ hy hq];exact hx⟩,⟨⟨_,by simpa using Cy⟩,hit'.extBut hs''.extBut (cO hne)⟩,n2⟩
 done:=by intro X hP hw hK hc i pins s σ H E I hf st hg;subst hP hw hK;obtain⟨xs,hq,hx⟩:=hg;obtain⟨its,rv,p,hz⟩:=I.list hq;obtain⟨⟨old,he⟩,hit⟩:=st;have hl:=rv.length;exact wpAny_pyNext_enum_end (I.ok.hd hc) he hit p.isList (by simp;exact lC 2 2268279672881 T1 hl hx) λh' eb=>⟨rfl,I.Gw (t':=s.toks) (λb o hb q=>eb b o (λz=>hb (by simp[z])) q) hf⟩
 self:=λ_ _ _ _ _ st h=>by obtain⟨⟨old,he⟩,_⟩:=st;exact zc he h
theorem boot_enumerate:jD "enumerate" =Ya (.type "enumerate"):=by decide +kernel
open AutoSeq1 (wpAny_loadPart')
set_option maxRecDepth 100000
section
variable {prog:bD} {w:bw} {A:bJ} {E:Yh->Yj->Prop} {s:Yj}
theorem Zgx{it t:Y1}{x:Yh}(hit:s.heap.IsTupleIter it t i)(ht:s.heap.IsTuple t items)(hx:items[i]?=Ya x)(hQ:∀h',h'.IsTupleIter it t (i+1)->zr it s.heap h'->Q x {s with heap:=h'}):ao (au prog w) A (Ip (.ref it)) Q E s:=by
 obtain⟨o,ho,hc,hd⟩:=id hit;obtain⟨ol,hol,_,nl,hdl⟩:=ht;unfold Ip;refine Yg (wO (name:=pP "__next__") hit.typeIs Ij
  (uO Ij hit.typeIs Xk ?_ (Xm _)))
 show ao _ _ (field (.ref it) 0>>=_) _ _ s;refine Yg (sy ho hd (x:=.ref t) rfl ?_);show ao _ _ (if(Value.ref t==Value.none)=true then _ else _) _ _ s;rw[if_neg (show¬((Value.ref t==Value.none)=true)from kI)];show ao _ _ (field (.ref it) 1>>=_) _ _ s;refine Yg (sy ho hd (x:=.int i 0) rfl ?_);show ao _ _ (seqItems? (.ref t)>>=_) _ _ s;refine Yg (Dc hol hdl ?_);simp only[qN,hx];refine Yg (wpAny_setField ho hd (by simp) (Yt ⟨x,rfl,Yt (hQ _ ?_ (ZG ..))⟩));exact⟨_,HY _ ho (Obj.isFreed_of_fields (Y_ hd _)),(Obj.cls_mapFields ..).trans hc,by rw[Y_ hd];simp[uX]⟩
theorem ZeC{it t:Y1}(hh:A.handled=Yn)(hit:s.heap.IsTupleIter it t i)(ht:s.heap.IsTuple t items)(hx:items[i]?=Yn)(hE:∀h' e,Om it s.heap h'->(∃o,h'.get? e=Ya o/\o.cls= .type "StopIteration")->E (.ref e) {s with heap:=h'}):ao (au prog w) A (Ip (.ref it)) Q E s:=by
 obtain⟨o,ho,hc,hd⟩:=id hit;obtain⟨ol,hol,_,nl,hdl⟩:=ht;unfold Ip;refine Yg (wO (name:=pP "__next__") hit.typeIs Ij
  (uO Ij hit.typeIs Xk ?_ (Xm _)))
 show ao _ _ (field (.ref it) 0>>=_) _ _ s;refine Yg (sy ho hd (x:=.ref t) rfl ?_);show ao _ _ (if(Value.ref t==Value.none)=true then _ else _) _ _ s;rw[if_neg (show¬((Value.ref t==Value.none)=true)from kI)];show ao _ _ (field (.ref it) 1>>=_) _ _ s;refine Yg (sy ho hd (x:=.int i 0) rfl ?_);show ao _ _ (seqItems? (.ref t)>>=_) _ _ s;refine Yg (Dc hol hdl ?_);simp only[qN,hx];refine Yg (Hw (Yg (wpAny_setField ho hd (by simp) ?_)));show ao _ _ (newExc (.type "StopIteration") []>>=_) _ _ _;refine Yg ?_;simp only[newExc,newTuple];refine Yg (su ?_ (by size_fits));refine Yg (m:=firstArgMember _ _) (Hu (a:=Value.none) (by first|rfl|(simp only[firstArgMember];rfl)) ?_);refine su ?_ (by size_fits);simp only[raiseNew];refine Yg (wpAny_handled ?_)
 first|rw[show A.in1.handled=Yn from hh]|rw[hh]
 refine Yg (Yt (wpAny_throw ?_));exact hE _ _ (((ZG ..).extBut.push _).push _) ⟨_,Y2 _ rfl,rfl⟩
end
theorem Zla(hh:A.handled=Yn)(it l:Y1)(hne:l≠it)(items:Array Yh):
  Draws prog w A it [it,l] items.size (λi v=>items[i]?=Ya v) (λi h=>h.IsTupleIter it l i/\h.IsTuple l items)where
 live:=λ_ _ st=>let⟨o,ho,_⟩:=st.1;⟨o,ho⟩
 frame:=λ_ _ _ st hk=>⟨st.1.at λo e=>hk it (by simp) o e,st.2.at λo e=>hk l (by simp) o e⟩
 item:=λi s Q E hi st hQ=>by refine Zgx st.1 st.2 (x:=items[i]) (by simp[hi]) λh' hit' hs'=>?_;exact hQ _ h' s.toks (by simp[hi]) ⟨hit',st.2.extBut hs'.extBut hne⟩ hs'
 done:=λs Q E st hE=>ZeC hh st.1 st.2 (by simp) hE
theorem Zfm(l:Y1)(items:Array Yh)(n:Nat)(dct:Option Y1)(sl:Array (Option Yh)):
  Meets (Builtin.«enumerate.__new__» ⟨[.type "enumerate",.ref l],[]⟩) (λ_ R s=>s.heap.get? l=Ya {cls:=.type "tuple",dict:=dct,data:=.seq items n,slots:=sl}/\
   R (.ok (.ret (.ref (s.heap.push {cls:=.type "tuple_iterator",data:=.fields #[.ref l,.int 0 0]}).objs.size)))
    {s with heap:=(s.heap.push {cls:=.type "tuple_iterator",data:=.fields #[.ref l,.int 0 0]}).push {cls:=.type "enumerate",data:=.fields #[.none,.bool false,.ref s.heap.objs.size,uX 0,.none,.none]}}):=
 .of_wp λprog w A R s h=>by
  obtain⟨hp,g,d,tk,os⟩:=s;obtain⟨hl,h⟩:=h;have hsub:=sub_enumerate;have hL:Heap.IsTuple (Shared.heap ⟨hp,g,d,tk,os⟩) l items:=⟨_,hl,rfl,n,rfl⟩
  wp_walk using qL hl
  refine WQ λst=>Yt ?_;split
  .rename_i c _ _ _ _ _;cases(c==Value.type "enumerate")
   .wp_walk using qL hl,Hq hL
    exact⟨_,rfl,h⟩
   .wp_walk using qL hl,Hq hL
    exact⟨_,rfl,h⟩
  .wp_walk using qL hl,Hq hL
   exact⟨_,rfl,h⟩
theorem Zfk{l:Y1}(hL:s.heap.IsTuple l items)(h:∀h',wY h' (s.heap.objs.size+1) s.heap.objs.size 0 .none->h'.IsTupleIter s.heap.objs.size l 0->h'.objs.size=s.heap.objs.size+2 ->
   (∀b o,s.heap.get? b=Ya o->h'.get? b=Ya o)->Q (.ref (s.heap.objs.size+1)) {s with heap:=h'}):
  ao (au prog w) A (call (.type "enumerate") [.ref l]) Q E s:=by
 obtain⟨⟨c,dct,dt,sl⟩,hl,hc,n,hd⟩:=hL;replace hc:c= .type "tuple":=hc;replace hd:dt= .seq items n:=hd;subst hc hd;refine callType_new XQ (by decide) (F.typeCall_enumerate_1 _) (F.newCall_enumerate_1 _) (λobj=>F.args_object_init_2 obj _) XF
  (Zfm l items n dct sl) ⟨hl,?_⟩
 have hz:(s.heap.push {cls:=.type "tuple_iterator",data:=.fields #[.ref l,.int 0 0]}).objs.size=s.heap.objs.size+1:=wZ ..;show _/\_;rw[hz];have he:wY ((s.heap.push {cls:=.type "tuple_iterator",data:=.fields #[.ref l,.int 0 0]}).push
   {cls:=.type "enumerate",data:=.fields #[.none,.bool false,.ref s.heap.objs.size,uX 0,.none,.none]}) (s.heap.objs.size+1) s.heap.objs.size 0 .none:=by
  have:=Y2 (s.heap.push {cls:=.type "tuple_iterator",data:=.fields #[.ref l,.int 0 0]})
   (o:={cls:=.type "enumerate",data:=.fields #[.none,.bool false,.ref s.heap.objs.size,uX 0,.none,.none]}) rfl
  rw[hz]at this;exact this
 refine⟨⟨_,he,rfl⟩,h _ he ⟨_,Yl _ (Y2 _ rfl),rfl,rfl⟩ (by rw[wZ,hz]) λb o x=>Yl _ (Yl _ x)⟩
theorem ZmC{P:bD}{es:List Expr}{k:Nat}{pos:aU}(a e it:Y1)(hne:e≠it):
  Turn P w K (.Tuple es k pos) (Ite λH xs=>cF K H a xs) [e,it] e (λi h=>(∃old,wY h e it i old)/\h.IsTupleIter it a i)where
 mem:=by simp
 obj:=λi h st b hb=>by
  obtain⟨⟨old,he⟩,o,ho,c,d⟩:=st;simp only[Ym,mZ,or_false]at hb;rcases hb with rfl|rfl
  .exact⟨_,he,λv z=>by cases z⟩
  .exact⟨o,ho,λv z=>by rw[d]at z;cases z⟩
 keep:=λi h h' st k=>by obtain⟨⟨old,he⟩,hit⟩:=st;exact⟨⟨old,k e (by simp) _ he⟩,hit.at λo q=>k it (by simp) o q⟩
 item:=by
  intro X hP hw hK hc i pins s σ H E I hf st hg;subst hP hw hK;obtain⟨xs,x,hq,hx⟩:=hg;obtain⟨its,rv,p,hz⟩:=I.tuple hq;obtain⟨u,hu,ru⟩:=rv.get hx;obtain⟨⟨old,he⟩,hit⟩:=st;have hel:=Y3 he;have hil:it<s.heap.objs.size:=by obtain⟨o,ho,_⟩:=id hit;exact Y3 ho
  have pt:s.heap.IsTuple a its.toArray:=p;have RL:e≠a:=by rintro rfl;obtain⟨o,ho,hc,_⟩:=pt;rw[he]at ho;cases ho;exact absurd hc (by simp)
  have hai:a≠it:=by rintro rfl;obtain⟨o,ho,hc,_⟩:=pt;obtain⟨o',ho',hc',_⟩:=hit;rw[ho']at ho;cases ho;rw[hc']at hc;exact absurd hc (by simp)
  have D:=Zla (prog:=X.prog) (w:=X.w) (A:=X.A.in1) (I.ok.hd hc) it a hai its.toArray;refine Ws D he ⟨hit,pt⟩ (by simpa using(Yf.mp hu).1) hne (by simp[hne,RL]) λy h' tk hy ho hst hT hsz hk=>?_;have ey:y=u:=by
   have:its.toArray[i]?=Ya u:=by simpa using hu
   rw[this]at hy;cases hy;rfl
  subst ey;refine⟨_,rfl,Nq (s:={s with heap:=h',toks:=tk+1}) ho λh'' Cy hs''=>?_⟩;obtain⟨I2,n2⟩:=RK (x:=x) (tk':=tk+1) I hf hel hil ru hT hk hs'';exact⟨.ref s.heap.objs.size,_,I2,rfl,⟨_,x,rfl,I.hok.fresh (Ys _),rfl,λys hy=>by rw[I.LR hy hq];exact hx⟩,⟨⟨_,by simpa using Cy⟩,hst.1.extBut hs''.extBut (cO hne)⟩,n2⟩
 done:=by
  intro X hP hw hK hc i pins s σ H E I hf st hg;subst hP hw hK;obtain⟨xs,hq,hx⟩:=hg;obtain⟨its,rv,p,hz⟩:=I.tuple hq;obtain⟨⟨old,he⟩,hit⟩:=st;have hl:=rv.length;have pt:s.heap.IsTuple a its.toArray:=p;have hT:s.TypeIs (.ref e) "enumerate":=⟨_,he,rfl⟩;unfold sE;refine Yg (wpAny_attempt (wO (name:=pP "__next__") hT Im
   (uO Im hT Xz ?_ (Xx _))))
  show ao _ _ (field (.ref e) 2>>=_) _ _ _;refine Yg (sy he rfl (x:=.ref it) rfl ?_);refine Yg (ZeC (I.ok.hd hc) hit pt (by simp;exact lC 2 2268279672881 T1 hl hx) λh' x he' hx'=>?_);obtain⟨o,ho,hc⟩:=hx';refine Yg (WN (T:="StopIteration") (b:=true) ⟨o,ho,hc⟩ isSubtype_stop ?_);exact Yt ⟨rfl,I.Gw (t':=s.toks) (λb o hb q=>he' b o (λz=>hb (by simp[z])) q) hf⟩
 self:=λ_ _ _ _ _ st h=>by obtain⟨⟨old,he⟩,_⟩:=st;exact zc he h
section
variable {X:Cx} {es:List Expr} {k:Nat} {a:Expr} {p pos tpos:aU} {f:E3}
def Zts(K:Yb)(ta:TA):TI:=λσ H R=>ta σ H λvs H1=>∃b,vs=[.ref b]/\((∃xs,bB K H1 b xs/\R (Ite λH xs=>bB K H b xs) H1)\/∃xs,cF K H1 b xs/\R (Ite λH xs=>cF K H b xs) H1)
theorem Zr0{ta:TA}(hg:Gl X "enumerate")(hm:X.mg "enumerate" =Yn)(ha:PA X [a] ta)(hs:Yw [a] X.env=[(false,aF a X.env)]:=by rfl):PI X (.Tuple es k tpos) (.Call (.Name "enumerate" p) [a] [] pos) (Zts X.K ta):=by
 intro pins s σ H R I h;refine Call_ (xF I hg hm boot_enumerate (Oz (aD (ha pos pins s σ H _ I h) λus s1 ⟨vs,H1,I1,r1,q1⟩=>?_) hs rfl));obtain⟨b,e,q⟩:=q1;subst e;cases r1 with
 | cons r rr=>
  cases rr
  cases r
  have fp:∀{h':aN} {s2:Yj},∀c∈[s1.heap.objs.size+1,s1.heap.objs.size],iw X pins H1 c:=λ{h' s2} c hc=>by
   have hc':s1.heap.objs.size<=c:=by simp only[Ym,mZ,or_false]at hc;rcases hc with rfl|rfl <;>omega
   exact I1.uD hc' (I1.hok.fresh hc')
  rcases q with⟨xs,hq,q⟩|⟨xs,hq,q⟩
  .obtain⟨its,rv,pl,hz⟩:=I1.list hq;refine call_enumerate_list pl.isList λh' hE hI hsz hk=>?_;have I2:Inv X pins σ H1 {s1 with heap:=h'}:=I1.kept (t':=s1.toks) hk;exact zc (s:={s1 with heap:=h'}) hE ⟨_,[s1.heap.objs.size+1,s1.heap.objs.size],_,_,H1,rfl,I2,ZmB b _ _ (Oh _),⟨⟨_,hE⟩,hI⟩,fp (h':=h') (s2:=s1),q⟩
  .obtain⟨its,rv,pl,hz⟩:=I1.tuple hq;refine Zfk (show s1.heap.IsTuple b its.toArray from pl) λh' hE hI hsz hk=>?_;have I2:Inv X pins σ H1 {s1 with heap:=h'}:=I1.kept (t':=s1.toks) hk;exact zc (s:={s1 with heap:=h'}) hE ⟨_,[s1.heap.objs.size+1,s1.heap.objs.size],_,_,H1,rfl,I2,ZmC b _ _ (Oh _),⟨⟨_,hE⟩,hI⟩,fp (h':=h') (s2:=s1),q⟩
theorem ZnY(hm:X.mg "enumerate" =Yn)(h:C3 X a f)(hg:Gl X "enumerate":=by rfl)(hs:Yw [a] X.env=[(false,aF a X.env)]:=by rfl)(hs':Yw (a::[]) X.env=(false,aF a X.env)::Yw [] X.env:=by rfl):CIL X (.Tuple es k tpos) (.Call (.Name "enumerate" p) [a] [] pos) (QZ f):=
 PI.imp (Zr0 hg hm (Zc h Zg hs') hs) λσ H R ak=>by
  obtain⟨ι,M,env,S,E,h⟩:=ak;obtain⟨d,M1,e1,h⟩:=Ax.bind h;refine⟨ι,M,env,S,E,?_⟩;have e2:Zb f Zf env M= .ok [d] M1:=by unfold Zb;rw[e1];rfl
  rw[e2];intro vs H1 ι1 x1 S1 r1;obtain⟨v,ws,rfl,r,q⟩:=r1.cons_inv;have:=q.nil_inv;subst this;cases d with
  | tup ds=>
   obtain⟨b,vs,rfl,s,r⟩:=r.iY;refine⟨b,rfl,.inr ⟨vs,s,h _ H1 ι1 x1 S1 ?_⟩⟩;intro i H2 ι2 M2 x S2 _;refine⟨λd hd=>?_,λhl=>⟨vs,x.tup _ _ s,by rw[r.length,hl,JH];exact Ys _⟩⟩;rw[JG]at hd;cases hq:ds[i]? with
   |none=>rw[hq]at hd;cases hd|some d0=>rw[hq]at hd;simp only[Mz,u9,Xb]at hd;subst hd;obtain⟨v,hv,rv⟩:=r.get hq;refine⟨⟨vs,v,x.tup _ _ s,hv⟩,λy H3 hy=>?_⟩;obtain⟨T,y',rfl,hT,rfl,hall⟩:=hy;have e:=hall vs (x.tup _ _ s);rw[hv]at e;cases e;exact S2.uE hT (Zw.cons Rep.int (Zw.cons (rv.mono x) Zw.nil))
  | ref n=>
   cases hm:M1[n]? with
   |none=>simp only[hm]at h;exact h.elim|some o=>
    cases o with
    |dct kvs=>simp only[hm]at h;exact h.elim|cJ kvs=>simp only[hm]at h;exact h.elim|ins _ _=>simp only[hm]at h;exact h.elim|lst ds=>
     simp only[hm]at h;obtain⟨b,ha,rfl⟩:=r.dH;obtain⟨vs,q,r⟩:=S1.obj n _ b hm ha;refine⟨b,rfl,.inl ⟨vs,bB.of q,h _ H1 ι1 x1 S1 ?_⟩⟩;intro i H2 ι2 M2 x S2 lk;have Fi:M2[n]?=Ya (.lst ds):=by simpa[jn]using lk
     obtain⟨vs2,q2,r2⟩:=S2.obj n _ b Fi (x.pre _ _ ha);refine⟨λd hd=>?_,λhl=>⟨vs2,bB.of q2,by rw[r2.length,hl,JH];exact Ys _⟩⟩;rw[JG]at hd;cases hq:ds[i]? with
     |none=>rw[hq]at hd;cases hd|some d0=>rw[hq]at hd;simp only[Mz,u9,Xb]at hd;subst hd;obtain⟨v,hv,rv⟩:=r2.get hq;refine⟨⟨vs2,v,bB.of q2,hv⟩,λy H3 hy=>?_⟩;obtain⟨T,y',rfl,hT,rfl,hall⟩:=hy;have e:=hall vs2 (bB.of q2);rw[hv]at e;cases e;exact S2.uE hT (Zw.cons Rep.int (Zw.cons rv Zw.nil))
  |_=>exact h.elim
end
end L3
namespace L3
open PySem PySem.Spec PyProof.Rows L2
section
variable {X:Cx}
noncomputable def J_:Yh->D
 | .int i _=>.int i|.bool b=>.bl b|.str x _=>.str x.cps.toList|_=>.non
theorem Zob{K:Yb}{H:Hp}{ι:List Y1}{d:D}{v:V}{y:Yh}(hf:dg d=true)(r:Rep K H ι d v)(rv:RelV v y):J_ y=d:=by
 cases d with
 |non=>have:=r.jf;subst this;cases rv;rfl|bl b=>have:=r.gm;subst this;cases rv;rfl|int i=>have:=r.int_inv;subst this;obtain⟨t,rfl⟩:=rv;rfl|str x=>have:=r.str_inv;subst this;obtain⟨t,rfl⟩:=rv;rfl
 |_=>simp[dg]at hf
theorem ZnQ{K:Yb}{H:Hp}{ι:List Y1}{a:D}:∀{ds:List D} {vs:List V} {its:List Yh},Zw K H ι ds vs->Vals vs its->ds.all dg=true->(ds.any λy=>dM y a)=its.any λy=>dM (J_ y) a
 |[],vs,its,r,rv,_=>by have:=r.nil_inv;subst this;cases rv;rfl|d::ds,vs,its,r,rv,hf=>by
  obtain⟨v,ws,rfl,r1,r2⟩:=r.cons_inv;cases rv with
  |cons q rv=>simp only[jC,Y4]at hf;simp only[kh,ZnQ r2 rv hf.2,Zob hf.1 r1 q]
theorem ZvK:aP X (eU .In) (r2 X.K xX):=by
 intro pins s σ H x y v u Q I rx ry ⟨ι,M,a,b,S,ra,rb,h⟩;unfold xX at h;cases b with
 | ref n=>
  cases hn:M[n]? with
  |none=>simp only[hn]at h;exact h.elim|some ob=>
   cases ob with
   |dct _=>simp only[hn]at h;exact h.elim|cJ _=>simp only[hn]at h;exact h.elim|ins _ _=>simp only[hn]at h;exact h.elim|lst ds=>
    simp only[hn]at h;by_cases hf:(dg a&&ds.all dg)=true
    .rw[if_pos hf]at h;rw[Y4]at hf;obtain⟨p,hp,rfl⟩:=rb.dH;cases ry;obtain⟨vs,e1,r1⟩:=S.obj n _ p hn hp;obtain⟨its,rvs,pl,_⟩:=I.list (bB.of e1);have he:∀y,y∈its.toArray->sW X.A.in1 s y v (dM (J_ y) a):=λy hy=>by
      have hy:y∈its:=by simpa using hy
      obtain⟨j,hj⟩:=M_ hy;have hjl:j<vs.length:=by rw[rvs.length];exact(Yf.mp hj).1
      obtain⟨w,hw,mD⟩:=rvs.get (Y7 hjl);rw[hj]at hw;cases hw;have hjd:j<ds.length:=by rw[←r1.length];exact hjl
      obtain⟨z,hz,rz⟩:=r1.get (Y7 hjd);rw[Y7 hjl]at hz;cases hz;have hfl:=gQ.mp hf.2 _ (uK hjd);rw[Zob hfl rz mD];exact Q8 X.A.in1 ds[j] a _ x y v hfl hf.1 rz ra mD rx
     refine X_ (λy=>dM (J_ y) a) pl.isList he ⟨.bl (ds.any λy=>dM y a),H,I,?_,h _ H ι Ext.refl S Rep.bl⟩;show(.bool _:Yh)= .bool _;rw[ZnQ r1 rvs hf.2];simp
    .rw[if_neg hf]at h;exact h.elim
 |_=>exact h.elim
end
section
variable {prog:bD} {w:bw} {A:bJ} {E:Yh->Yj->Prop} {s:Yj}
theorem Zj3{it t:Y1}{items:Array Yh}(hne:t≠it):∀(n i:Nat) (s:Yj) (Q:List Yh->Yj->Prop),s.heap.IsListIter it t i->s.heap.IsList t items->i+n<=items.size ->
  (∀h',h'.IsListIter it t (i+n)->zr it s.heap h'->Q ((items.toList.drop i).take n) {s with heap:=h'})->ao (au prog w) A (draw (.ref it) n) Q E s
 |0,i,s,Q,hit,_,_,hQ=>by show ao _ _ (pure []) Q E s;exact Yt (by simpa using hQ s.heap hit (Heap.SameBut.refl ..))|n+1,i,s,Q,hit,ht,hle,hQ=>by
  have hlt:i<items.size:=lC 1 2204024704001 T1 hle;show ao _ _ (sE (.ref it)>>=_) Q E s;refine Yg (Wt hit ht (x:=items[i]) (by simp[hlt]) λh₁ Mp Fv=>?_);refine Yg (gW (Zj3 hne n (i+1) _ _ Mp (ht.extBut Fv.extBut hne) (lC 1 0x21a0cc02a1c0c01 T1 hle) λh₂ Abx hs₂=>Yt ?_));have hd:items.toList.drop i=items[i]::items.toList.drop (i+1):=by simp[yU,hlt]
  have:=hQ h₂ (by rw[show i+(n+1)=i+1+n by exact iR (lB 0 1790139547840 T1) (lB 0 0xa1c0c1a0cc0 T1)];exact Abx) (Fv.trans hs₂);rw[hd,Wi]at this;exact this
theorem Zhg{t:Y1}{items:Array Yh}{Q:List Yh->Yj->Prop}(hh:A.handled=Yn)(ht:s.heap.IsList t items)(hQ:∀h',Om s.heap.objs.size s.heap h'->Q items.toList {s with heap:=h'}):ao (au prog w) A (unpackItems (.ref t) items.size Yn) Q E s:=by
 have hlt:t≠s.heap.objs.size:=by obtain⟨o,ho,_⟩:=ht;exact dw (Y3 ho)
 have hT:s.TypeIs (.ref t) "list":=by obtain⟨o,ho,hc,_⟩:=ht;exact⟨o,ho,hc⟩
 unfold unpackItems;refine Yg ?_
 .unfold notIterableAtAll;refine Yg (Nv hT F.slot_list_iter.lookup ?_);refine Yt ?_;simp only[zu,if_false];refine Yg (gW (uN ht ?_));have htp:(s.heap.push {cls:=.type "list_iterator",data:=.fields #[.ref t,.int 0 0]}).IsList t items:=ht.at λo e=>Yl _ e;refine Yg (gW (Zj3 hlt items.size 0 _ _ ⟨_,Y2 _ rfl,rfl,rfl⟩ htp (lA 0 3776 T1) λh₁ Mp Fv=>?_));have hall:List.take items.size (List.drop 0 items.toList)=items.toList:=by
   rw[Hi];exact qI (by simp)
  rw[hall];rw[if_neg (by simp)];have ht₁:h₁.IsList t items:=htp.extBut Fv.extBut hlt;refine Yg (gW (Wv hh Mp ht₁ (by simp) λh₂ he₂=>?_));simp only[Option.isSome_none,zu,if_false];refine Yt (hQ h₂ λb o hb e=>he₂ b o hb (Fv.extBut b o hb (Yl _ e)))
theorem Zgw{env:eV}{elts:List Expr}{x1}{pos:aU}{t:Y1}{items:Array Yh}{Q:Unit->Yj->Prop}(hh:A.handled=Yn)(ht:s.heap.IsList t items)(hn:(jh elts env).length=items.size)(hstar:(jh elts env).findIdx? (·.1)=Yn)(h:∀h',Om s.heap.objs.size s.heap h'->ao (au prog w) A (assignInOrder ((jh elts env).map (·.2)) items.toList) Q E {s with heap:=h'}):
  ao (au prog w) A (ji (.Tuple elts x1 pos) env (.ref t)) Q E s:=by
 rw[assign_Tuple];refine Yg (uP ?_);unfold unpack;rw[hn,hstar];exact Yg (gW (Zhg hh ht h))
end
section
variable {X:Cx} {e:Expr} {es:List Expr} {pos:aU} {f:E3}
def Zxc(K:Yb)(n:Nat)(t:pW):TG:=λv σ H Q=>∃a xs,v= .ref a/\bB K H a xs/\xs.length=n/\t xs σ H Q
theorem Zti{k:Nat}{t:pW}{n:Nat}(hc:X.calm=true)(h:pX X es t)(hn:(jh es X.env).length=n:=by rfl)(hst:(jh es X.env).findIdx? (·.1)=Yn:=by rfl):PG X (.Tuple es k pos) (Zxc X.K n t):=by intro pins s σ H v u Q I r hw;obtain⟨a,xs,e1,hq,hl,hw⟩:=hw;subst e1;cases r;obtain⟨its,rv,ht,hz⟩:=I.list hq;refine Zgw (I.ok.hd hc) ht.isList (by simp[hn,←hl,rv.length]) hst λh' hx=>?_;have I1:Inv X pins σ H {s with heap:=h'}:=I.kept (t':=s.toks) λb o e=>hx b o (dw (Y3 e)) e;exact h pins _ σ H xs _ Q I1 (by simpa using rv) hw
theorem Zll:∀(is:List Nat) (ds:List D) (env env':bK),bindAll is ds env=Ya env'->ds.length=is.length:=by
 intro is
 induction is with
 |nil=>intro ds env env' h;cases ds with|nil=>rfl|cons d ds=>cases h
 |cons i is ih=>intro ds env env' h;cases ds with|nil=>cases h|cons d ds=>simp[ih ds _ _ h]
theorem RM{is:List Nat}{k:Nat}{tpos:aU}(hc:X.calm=true)(he:C3 X e f)(h:Fg X es is)(hs:Nz [.Tuple es k tpos] e pos.line X.env=pure false:=by rfl)(hw:NK [.Tuple es k tpos] e X.env=pure Yn:=by rfl)(h1:(jh [.Tuple es k tpos] X.env).map (·.2)=[ji (.Tuple es k tpos) X.env]:=by rfl)(hn:(jh es X.env).length=is.length:=by rfl)(hst:(jh es X.env).findIdx? (·.1)=Yn:=by rfl):CS X (.Assign [.Tuple es k tpos] e pos) (p8 f is):=
 (Zp3 he (Zti (n:=is.length) hc h hn hst) hs hw h1).imp λD σ H ak=>by
 obtain⟨ι,M,env,S,E,hh⟩:=ak;refine⟨ι,M,env,S,E,?_⟩;unfold p8 at hh;cases q:f env M with
 |exc x M1=>rw[q]at hh;exact hh.elim|bad=>rw[q]at hh;exact hh.elim|ok d M1=>
  rw[q]at hh;cases d with
  | ref n=>
   simp only at hh;cases hm:M1[n]? with
   |none=>simp only[hm]at hh;exact hh.elim|some o=>
    cases o with
    |dct _=>simp only[hm]at hh;exact hh.elim|cJ _=>simp only[hm]at hh;exact hh.elim|ins _ _=>simp only[hm]at hh;exact hh.elim|lst ds=>
     simp only[hm]at hh;cases qb:bindAll is ds env with
     |none=>simp only[qb]at hh;exact hh.elim|some cZ=>simp only[qb]at hh;intro v H1 ι1 x1 S1 r1;obtain⟨a,ha,rfl⟩:=r1.dH;obtain⟨vs,hv,rv⟩:=S1.obj n _ a hm ha;exact⟨a,vs,rfl,bB.of hv,by rw[rv.length];exact Zll _ _ _ _ qb,ι1,M1,env,ds,cZ,S1,E.mono x1,rv,qb,λσ' E'=>hh σ' H1 ι1 x1 S1 E'⟩
  |_=>exact hh.elim
end
open AutoSeq1 (wpAny_loadPart')
set_option maxRecDepth 100000
theorem Zgg(l:Y1)(items:Array Yh)(n:Nat)(b:Y1)(items2:Array Yh)(n2:Nat)(sl:Array (Option Yh))(hl:¬(!items.isEmpty&&zE (items.size+items2.size))=true)(hz:items.size<=bj)(hz2:items.size+items2.size<=bj+1):
  Meets (Builtin.«list.extend» ⟨[.ref l,.ref b],[]⟩) (λ_ R s=>s.heap.get? l=Ya {cls:=.type "list",data:=.seq items n}/\s.heap.get? b=Ya {cls:=.type "tuple",data:=.seq items2 n2,slots:=sl}/\
   R (.ok (.ret .none)) {s with heap:=s.heap.update l (xj λx=>x++items2)}):=
 .of_wp λprog w A R s h=>by
  obtain⟨hp,g,d,tk,os⟩:=s;obtain⟨h1,h2,h⟩:=h
  wp_walk using qL h1,qL h2
  rw[show(xj (λx=>x++items2) {cls:=Value.type "list",data:=Data.seq items n}).data.pastItsLine=Yn by show(if(items++items2).size>bj+1 then Ya "sequence:memory" else Yn)=Yn;rw[if_neg (by rw[Array.size_append];exactλz=>lC 2 0x6a0c21c0121ca0c11 T1 z hz2)]];exact Yt (Yt ⟨_,rfl,h⟩)
section
variable {X:Cx} {o e:Expr} {es:List Expr} {apos cpos:aU} {f:E3} {gl:d8}
noncomputable def ZlS(K:Yb):V->List V->Hp->VK->Prop:=λx vs H Q=>∃l b xs zs,x= .ref l/\vs=[.ref b]/\H l=Ya (.lst xs)/\cF K H b zs/\xs.length+zs.length<=bj/\Q .non (upd H l (.lst (xs++zs)))
theorem Zm4:jF X "list.extend" (ZlS X.K):=by
 intro pins s σ H x vs v us Q I rx rv h;obtain⟨l,b,xs,zs,rfl,rfl,hH,hB,hz,q⟩:=h;cases rx;obtain⟨u,rfl,ru⟩:=rv.one;cases ru;obtain⟨z,its,n,r,hl,e⟩:=I.rN hH;obtain⟨its2,r2,⟨⟨c,dc,dt,sl⟩,e2,⟨hc,hd⟩,n2,hs⟩,z2⟩:=I.Aa4 hB;replace hc:c= .type "tuple":=hc;replace hd:dc=Yn:=hd;replace hs:dt= .seq its2.toArray n2:=hs;subst hc hd hs;have hl2:=r2.length;have hsz:its.toArray.size+its2.toArray.size<=bj:=by rw[Yo,Yo];exact lE 3 0x413c0402c0132311031 T1 hl2 hl hz
 have Cu:¬(!its.toArray.isEmpty&&zE (its.toArray.size+its2.toArray.size))=true:=by rw[Qy hsz,w6];exact kI
 refine pK XM ⟨_,e,rfl⟩ XJ (XH _ _)
  (Zgg l its.toArray n b its2.toArray n2 sl Cu (by rw[Yo];exact lC 2 2268279672881 T1 hl z) (lC 1 0xa2c10c0210c01 T1 hsz)) ⟨e,e2,?_⟩
 refine⟨.non,_,I.Cw (its':=its++its2) hH e (by simp) (r.append r2) ?_,rfl,q⟩;rw[Ye];exact hz
theorem ZqE:jF X "list.extend" (rM X.K o4):=jF.imp (r:=λx xs H Q=>Zoo x xs H Q\/ZlS X.K x xs H Q) (λpins s σ H x xs v us Q I rx rs q=>q.elim (ZoF pins s σ H x xs v us Q I rx rs) (Zm4 pins s σ H x xs v us Q I rx rs)) λx xs H Q ak=>by
 obtain⟨ι,M,a,ds,S,ra,rd,h⟩:=ak;cases a with
 | ref n=>
  cases ds with
  |nil=>exact h.elim|cons d ds=>
   cases ds with
   |cons _ _=>cases d<;>exact h.elim|nil=>
    obtain⟨v,ws,rfl,r1,r2⟩:=rd.cons_inv;have:=r2.nil_inv;subst this;obtain⟨p,hp,rfl⟩:=ra.dH;cases hn:M[n]? with
    |none=>cases d<;>first|exact h.elim|(rw[Af,hn]at h;exact h.elim)|(rw[Ag,hn]at h;exact h.elim)
    | some o=>
     cases o with
     |dct _=>cases d<;>first|exact h.elim|(rw[Af,hn]at h;exact h.elim)|(rw[Ag,hn]at h;exact h.elim)
     |cJ _=>cases d<;>first|exact h.elim|(rw[Af,hn]at h;exact h.elim)|(rw[Ag,hn]at h;exact h.elim)
     |ins _ _=>cases d<;>first|exact h.elim|(rw[Af,hn]at h;exact h.elim)|(rw[Ag,hn]at h;exact h.elim)
     | lst z=>
      obtain⟨vs,e,rv⟩:=S.obj n _ p hn hp;cases d with
      | tup y=>
       simp only[Af,Ag,hn]at h;split at h
       .rename_i hz;obtain⟨b,ys,rfl,sb,ry⟩:=r1.iY;obtain⟨x2,S2⟩:=S.uF (.inr (.inl ⟨_,e⟩)) hp (rv.append ry);exact .inr ⟨p,b,vs,ys,rfl,rfl,e,sb,by rw[rv.length,ry.length];exact Yk hz (W5 (W6 jz)),h _ _ _ x2 S2 Rep.non⟩
       .exact h.elim
      | ref m=>
       simp only[Af,Ag,hn]at h;cases hm:M[m]? with
       |none=>simp only[hm]at h;exact h.elim|some o2=>
        cases o2 with
        |dct _=>simp only[hm]at h;exact h.elim|cJ _=>simp only[hm]at h;exact h.elim|ins _ _=>simp only[hm]at h;exact h.elim|lst y=>
         simp only[hm]at h;split at h
         .rename_i hz;obtain⟨b,hb,rfl⟩:=r1.dH;obtain⟨ys,eb,ry⟩:=S.obj m _ b hm hb;obtain⟨x2,S2⟩:=S.uF (.inr (.inl ⟨_,e⟩)) hp (rv.append ry);exact .inl ⟨p,b,vs,ys,rfl,rfl,e,eb,by rw[rv.length,ry.length];exact Yk hz.2 (W5 (W6 jz)),h _ _ _ x2 S2 Rep.non⟩
         .exact h.elim
      |_=>exact h.elim
 |_=>cases ds<;>exact h.elim
theorem ZgY(ho:C3 X o f)(ha:CA X (e::es) gl)(hbase:mj o "extend" X.env (aF o X.env)=aF o X.env:=by rfl)(hfew:((bZ cpos (Yw (e::es) X.env)).all (λx=>!x.1)&&(iQ cpos (iK [] X.env)).all (λx=>x.1.isSome)
   &&decide ((e::es).length+([]:List Keyword).length+(if([]:List Keyword).isEmpty then 0 else 1)<30))=true:=by rfl)(hline:(apos.endLine==cpos.line)=true:=by rfl)(hs:Yw (e::es) X.env=(false,aF e X.env)::Yw es X.env:=by rfl)(hplain:(bZ cpos (Yw es X.env)).any (·.1)=false:=by rfl):
  C3 X (.Call (.Attribute o "extend" apos) (e::es) [] cpos) (aG a_ o4 f gl):=
 (zR O5 PySem.F.slot_list_extend PySem.F.type_list_extend ZqE ho ha hbase hfew hline hs hplain).imp (Aq Rv)
theorem ZsB{K:Yb}{T:String}{ty:D->Store->Bool}{m:D->List D->Store->R3 D}(hty:∀H ι M a x,aC K H ι M->Rep K H ι a x->ty a M=true->xK K T x H)(σ:St)(H:Hp)(Q:VK)(h:lO K (aG ty m f Zf) σ H Q):Zwo K T (rM K m) (lO K f) σ H Q:=by
 obtain⟨ι,M,env,S,E,h⟩:=h;obtain⟨a,M1,e1,h⟩:=Zt.bind h;refine⟨ι,M,env,S,E,?_⟩;rw[e1];intro v H1 ι1 x1 S1 r1;by_cases ht:ty a M1=true
 .rw[if_pos ht]at h;exact⟨hty _ _ _ _ _ S1 r1 ht,ι1,M1,a,[],S1,r1,Zw.nil,h.up x1⟩
 .rw[if_neg ht]at h;exact h.elim
theorem Ka(ho:C3 X o f)(hbase:mj o "pop" X.env (aF o X.env)=aF o X.env:=by rfl)(hline:(apos.endLine==cpos.line)=true:=by rfl):C3 X (.Call (.Attribute o "pop" apos) [] [] cpos) (aG a_ oX f Zf):=(ZtP O5 PySem.F.slot_list_pop PySem.F.type_list_pop ZvI ho hbase hline).imp (ZsB Rv)
end
end L3
namespace L3
open PySem PySem.Spec PyProof.Rows L2
set_option maxRecDepth 100000
section
variable {X:Cx} {elt tg iter:Expr} {ifs:List Expr} {scope:Scope} {pos:aU} {i:xW} {own:Nat} {g:G3} {ts:List E3} {f:E3} {N':List aj}
theorem ZhG{pins:List (Y1×aK)}{σ:St}{s2:Yj}{H2:Hp}{ι2:List Y1}{M2:Store}{env:bK}{it:Y1}{fp:List Y1}{tn:Nat->aN->Prop}{J:It}{aR:Ez}{Q:VK}{E:Yh->Yj->Prop}(O:vW X scope N' own)(hc:X.calm=true)(hb:∀C cl s H ex,CG (eE X scope N' C cl s H ex) tg g/\pq (eE X scope N' C cl s H ex) ifs ts/\C3 (eE X scope N' C cl s H ex) elt f)(I2:Inv X pins σ H2 s2)(T:Turn X.prog X.w X.K tg J fp it tn)(st0:tn 0 s2.heap)(hfp:∀b∈fp,iw X pins H2 b)(S2:aC X.K H2 ι2 M2)(E2:b8 X.K H2 ι2 env σ)(ok:J9 X.K H2 ι2 aR J)(h:Zt X.K H2 ι2 Q (jo aR.lk g ts f M2.length aR.items (env++Yq own Yn) (M2++[.lst []])))(RR:Yh->Y1->sG->Yj->Prop)(fin:∀(acc C:Y1) (s':Yj) (m:aj->Option Yh) (H':Hp),s'.heap.Ns C m->iw X pins H' C->Inv X pins σ H' s'->Q (.ref acc) H'->RR (.ref acc) C (.ok .next) s'):
  ao (au X.prog X.w) X.A (HJ []) (λacc s₃=>ao (au X.prog X.w) X.A (Ny scope X.env.globals (fY X.env.cells scope.names []) [] X.env.qual Yn .none (Ya X.env)) (λcenv s₄=>mq (au X.prog X.w) X.A (.compStart (.ListComp elt [⟨tg,iter,ifs,0⟩] scope pos) 0 (.ref it) acc {cenv with scope:=uV scope X.env}) (RR acc cenv.locals) s₄) E s₃) E s2:=by
 refine su ?_;have hD:H2 s2.heap.objs.size=Yn:=I2.hok.fresh (Ys _);obtain⟨x3,S3,r3⟩:=S2.lst hD (Zw.nil (K:=X.K) (H:=H2) (ι:=ι2));have I3:Inv X pins σ (upd H2 s2.heap.objs.size (.lst [])) {s2 with heap:=s2.heap.push {cls:=.type "list",data:=.seq ([]:List Yh).toArray}}:=I2.laid (t':=s2.toks) (λb u e=>Yl _ e) (Ys _) ⟨fG _,[],0,.nil,Y2 _ rfl⟩;generalize hs3:({s2 with heap:=s2.heap.push {cls:=.type "list",data:=.seq ([]:List Yh).toArray}}:Yj)=s3 at I3 ⊢;have wH:∀b o,s2.heap.get? b=Ya o->s3.heap.get? b=Ya o:=λb o e=>by rw[←hs3];exact Yl _ e
 have lX:∀b∈fp,iw X pins (upd H2 s2.heap.objs.size (.lst [])) b:=λb hb=>by refine⟨?_,(hfp b hb).2⟩;obtain⟨o,e,_⟩:=T.obj _ _ st0 b hb;rw[fJ (dw (Y3 e))];exact(hfp b hb).1
 have uG:∀b∈fp,b<s3.heap.objs.size:=λb hb=>by obtain⟨o,e,_⟩:=T.obj _ _ st0 b hb;exact Y3 (wH b o e)
 have st3:tn 0 s3.heap:=T.keep _ _ _ st0 λb hb o e=>wH b o e;refine Wy O.cell (by intro y hy;cases hy) (λh4 hns hsb=>?_) O.kind;have Cr:∀b o,s3.heap.get? b=Ya o->h4.get? b=Ya o:=λb o e=>hsb.extBut b o (dw (Y3 e)) (Yl _ e);have I4:=Zlc (own:=own) (N':=N') (tk:=s3.toks+([]:List (aj×Yh)).length) I3 O.kind O.cell O.free O.len O.vis lX uG hns Cr;have Ft:tn 0 h4:=T.keep _ _ _ st3 λb hb o e=>Cr b o e;have Mq:∀{H':Hp},(∀b∈fp,H' b=Yn)->∀b∈fp,iw (eE X scope N' s3.heap.objs.size (fY X.env.cells scope.names []) s3 (upd H2 s2.heap.objs.size (.lst [])) fp) [] H' b:=λhn b hb=>by have hc0:∀y∈scope.names,y.2= .free->∃c,X.env.cells.lookup y.1=Ya c:=λy hy e=>I2.ok.has y.1 (O.free y hy e);refine⟨hn b hb,dw (uG b hb),λhz=>I4.ok.yR b hb hz,.inl hb,λx c hx=>(I4.ok.Je b hb).2 x c hx,λp hp=>absurd (show p∈([]:List (Y1×aK))from hp) (by simp)⟩
 obtain ⟨hg,hts,helt⟩:=hb s3.heap.objs.size (fY X.env.cells scope.names []) s3 (upd H2 s2.heap.objs.size (.lst [])) fp;have loop:∀s₄:Yj,s₄={s3 with heap:=h4,toks:=s3.toks+([]:List (aj×Yh)).length} ->
   mq (au X.prog X.w) X.A (.compLoop (.ListComp elt [⟨tg,iter,ifs,0⟩] scope pos) 0 (.ref it) (.ref s2.heap.objs.size) (Dh scope (fY X.env.cells scope.names []) s3.heap.objs.size X.env)) (RR (.ref s2.heap.objs.size) s3.heap.objs.size) s₄:=by
  rintro s₄ rfl;refine ZgZ (λn s'=>∃k σ5 H5 ι5 M5 rO,Inv (eE X scope N' s3.heap.objs.size (fY X.env.cells scope.names []) s3 (upd H2 s2.heap.objs.size (.lst [])) fp) [] σ5 H5 s'/\tn k s'.heap/\(∀b∈fp,H5 b=Yn)/\n=aR.items.length-k/\k<=aR.items.length/\
   Ext X.K H2 ι2 H5 ι5/\aC X.K H5 ι5 M5/\b8 X.K H5 ι5 rO σ5/\ι5[M2.length]?=Ya s2.heap.objs.size/\Zt X.K H5 ι5 Q (jo aR.lk g ts f M2.length (aR.items.drop k) rO M5)) ?_ aR.items.length
   ⟨0,_,_,_,_,_,I4,Ft,λb hb=>(lX b hb).1,rfl,fG _,x3,S3,(E2.mono x3).grow own,?_,h.up x3⟩
  .rintro n s5 ⟨k,σ5,H5,ι5,M5,rO,I5,kO,oU,rfl,hk,x5,S5,E5,hι,h5⟩;by_cases hlt:k<aR.items.length
   .have hd:aR.items[k]?=Ya aR.items[k]:=by simp[hlt]
    rw[yU hlt]at h5;unfold jo at h5;by_cases lk:jn aR.lk M5=true
    .rw [if_pos lk]at h5;obtain⟨go,yl⟩:=(ok k H5 ι5 M5 x5 S5 lk).1 _ hd;cases eg:g aR.items[k] rO with
     |none=>rw[eg]at h5;exact h5.elim|some rP=>
      rw[eg]at h5;refine aD (T.item (eE X scope N' s3.heap.objs.size (fY X.env.cells scope.names []) s3 (upd H2 s2.heap.objs.size (.lst [])) fp) rfl rfl rfl hc k [] s5 σ5 H5 (λ_ _=>False) I5 (Mq oU) kO go) λr s6 ak=>?_;obtain⟨u,hr,h6⟩:=ak;subst hr;refine aD h6 λ_ s7 ak=>?_;obtain⟨x,H7,I7,r7,y7,j6,J5⟩:=ak;obtain⟨y8,S7,rx⟩:=yl x H7 y7;have I7':=I7.pinned (Mq J5) (T.obj _ _ j6);refine aD (hg _ s7 σ5 H7 x u (λσ' H'=>H'=H7/\b8 X.K H7 ι5 rP σ') I7' r7 ⟨ι5,M5,rO,_,rP,S7,E5.mono y8,rx,eg,λσ' E'=>⟨rfl,E'⟩⟩) λ_ s8 ak=>?_;obtain⟨σ8,H8,I8,e8,E8⟩:=ak;subst e8;replace h5:=Zt.up y8 h5;replace x5:=x5.trans y8;replace S5:=S7;have back:∀{σ':St} {H':Hp} {s':Yj},Inv (eE X scope N' s3.heap.objs.size (fY X.env.cells scope.names []) s3 (upd H2 s2.heap.objs.size (.lst [])) fp) ([]++sZ fp s7.heap) σ' H' s' ->
        Inv (eE X scope N' s3.heap.objs.size (fY X.env.cells scope.names []) s3 (upd H2 s2.heap.objs.size (.lst [])) fp) [] σ' H' s'/\tn (k+1) s'.heap/\∀b∈fp,H' b=Yn:=λ{σ' H' s'} I'=>by
       refine⟨I'.Cq,T.keep _ _ _ j6 λb hb o e=>(I'.pin (b,o) (Y5 _ (Y5 _ (zM hb e)))).1,λb hb=>?_⟩;obtain⟨o,e,d⟩:=T.obj _ _ j6 b hb;exact(I'.pin (b,o) (Y5 _ (Y5 _ (zM hb e)))).2.1
      obtain⟨b,M9,e9,h9⟩:=Zt.bind h5;refine aD (hts _ s8 σ8 H8 (λb' H'=>b'=b/\∃ι9,Ext X.K H8 ι5 H' ι9/\aC X.K H' ι9 M9) I8 ⟨ι5,M5,rP,S5,E8,by rw[e9];exactλH' ι' x' S'=>⟨rfl,ι',x',S'⟩⟩) λb' s9 ak=>?_;obtain⟨H9,I9,eb,ι9,x9,S9⟩:=ak;subst eb;cases b' with
      |false=>rw[if_neg (by decide)]at h9 ⊢;obtain⟨I9',st9,fr9⟩:=back I9;exact⟨aR.items.length-(k+1),lD 2 0x30113c2012a1c0c21 T1 (m5 (lB 1 6991908881 T1 hlt)) (nj _ _),k+1,σ8,H9,ι9,M9,rP,I9',st9,fr9,rfl,hlt,x5.trans x9,S9,E8.mono x9,x9.pre _ _ hι,h9.up x9⟩|true=>
       rw[if_pos rfl]at h9 ⊢;obtain⟨d,Fq,e10,h10⟩:=Zt.bind h9;refine aD (helt _ s9 σ8 H9 (λv H'=>∃qg,Ext X.K H9 ι9 H' qg/\aC X.K H' qg Fq/\Rep X.K H' qg d v) I9 ⟨ι9,M9,rP,S9,E8.mono x9,by rw[e10];exactλv H' ι' x' S' r'=>⟨ι',x',S',r'⟩⟩) λxv J3 ak=>?_;obtain⟨v,Rk,Rm,r10,qg,x10,J4,rd⟩:=ak;have Mr:qg[M2.length]?=Ya s2.heap.objs.size:=x10.pre _ _ (x9.pre _ _ hι);cases hm:Fq[M2.length]? with
       |none=>rw[hm]at h10;exact h10.elim|some o=>
        cases o with
        |dct _=>rw[hm]at h10;exact h10.elim|cJ _=>rw[hm]at h10;exact h10.elim|ins _ _=>rw[hm]at h10;exact h10.elim|lst xs=>
         rw[hm]at h10;by_cases hz:xs.length<SZ
         .simp only[if_pos hz]at h10;obtain⟨vs,ev,rvs⟩:=J4.obj _ _ _ hm Mr;obtain⟨x11,Rj⟩:=J4.uF (.inr (.inl ⟨_,ev⟩)) Mr (rvs.append (Zw.cons rd Zw.nil));refine aD (Qz _ J3 σ8 Rk (.ref s2.heap.objs.size) [v] (.ref s2.heap.objs.size) [xv] (λ_ H'=>H'=upd Rk s2.heap.objs.size (.lst (vs++[v]))) Rm rfl (.cons r10 .nil) ⟨_,vs,v,rfl,rfl,ev,by rw[rvs.length];exact Y9 hz jz,rfl⟩) λ_ J1 ak=>?_;obtain⟨_,H11,J2,_,eH⟩:=ak;subst eH;obtain⟨Aby,Abz,AbA⟩:=back J2;exact⟨aR.items.length-(k+1),lD 2 0x30113c2012a1c0c21 T1 (m5 (lB 1 6991908881 T1 hlt)) (nj _ _),k+1,σ8,_,qg,_,rP,Aby,Abz,AbA,rfl,hlt,((x5.trans x9).trans x10).trans x11,Rj,((E8.mono x9).mono x10).mono x11,Mr,((h10.up x9).up x10).up x11⟩
         .simp only[if_neg hz]at h10;exact h10.elim
    .rw[if_neg lk]at h5;exact h5.elim
   .have e0:k=aR.items.length:=iR hk (mz hlt);subst e0;rw[Nh]at h5;unfold jo at h5;by_cases lk:jn aR.lk M5=true
    .rw[if_pos lk]at h5;refine aD (T.done (eE X scope N' s3.heap.objs.size (fY X.env.cells scope.names []) s3 (upd H2 s2.heap.objs.size (.lst [])) fp) rfl rfl rfl hc _ [] s5 σ5 H5 (λ_ _=>False) I5 (Mq oU) kO ((ok _ H5 ι5 M5 x5 S5 lk).2 rfl)) λr s6 ak=>?_;obtain⟨hr,I6⟩:=ak;subst hr;obtain⟨m6,Rn,_⟩:=I6.loc;have I7:Inv X pins σ H5 s6:=I3.call' (ch:=fp) I6.os I6.base I6.hok I6.bare λb hb=>⟨(lX b hb).2.2.2.1,(lX b hb).2.1,(lX b hb).2.2.2.2.1,(lX b hb).2.2.2.2.2⟩;exact fin _ _ s6 m6 H5 Rn (I3.uD (Ys _) I6.free) I7 (h5 _ H5 ι5 Ext.refl S5 (Rep.ref hι))
    .rw[if_neg lk]at h5;exact h5.elim
  .rw[←S2.len];simp
 exact Wu (loop _ rfl) (T.self _ 0 _ _ _ Ft (loop _ rfl))
theorem Zwz(O:vW X scope N' own)(yd:X.xe=λ_ _=>False)(hc:X.calm=true)(hi:CIL X tg iter i)(hb:∀C cl s H ex,CG (eE X scope N' C cl s H ex) tg g/\pq (eE X scope N' C cl s H ex) ifs ts/\C3 (eE X scope N' C cl s H ex) elt f)(hs:∀x,zb iter X.env x=pure x:=by intro _;rfl):C3 X (.ListComp elt [⟨tg,iter,ifs,0⟩] scope pos) (vI i own g ts f):=by intro pins s σ H Q I h;obtain⟨ι,M,env,S,E,h⟩:=h;obtain⟨aR,M1,e1,h⟩:=Zt.bind h;have hc0:∀y∈scope.names,y.2= .free->∃c,X.env.cells.lookup y.1=Ya c:=λy hy e=>I.ok.has y.1 (O.free y hy e);rw[eval_ListComp];refine Hl (use:=Yn) rfl hs (JX hc0) O.kind O.names ?_;refine aD (hi pins s σ H (λJ H'=>∃ι',Ext X.K H ι H' ι'/\aC X.K H' ι' M1/\J9 X.K H' ι' aR J) I ⟨ι,M,env,S,E,by rw[e1];exactλJ H' ι' x S' o=>⟨ι',x,S',o⟩⟩) λv s1 h1=>aD h1 λitv s2 h2=>?_;obtain⟨it,fp,tn,J,H2,rfl,I2,T,st2,f2,ι2,x2,S2,ok⟩:=h2;refine ZhG (own:=own) (g:=g) (ts:=ts) (f:=f) O hc hb I2 T st2 f2 S2 (E.mono x2) ok (h.up x2) (λacc C=>Hx (au X.prog X.w) X.A X.xe Yn (EP X pins σ Q) acc C) ?_;intro acc C s' m H' hn hf I' hq;obtain⟨f0,f1,Ro,f3,f4,f5⟩:=hf;exact⟨m,hn,λh' sb=>⟨.ref acc,H',I'.turned (t':=s'.toks) (λb o hb e=>(sb.2 b hb).trans e) f0 f1 f3 f4 f5,rfl,hq⟩⟩
theorem ZjV(j:Nat){x:aj}{pos' spos:aU}(O:vW X scope N' own)(yd:X.xe=λ_ _=>False)(hc:X.calm=true)(hN:X.N.Nodup)(hi:CIL X tg iter i)(hb:∀C cl s H ex,CG (eE X scope N' C cl s H ex) tg g/\pq (eE X scope N' C cl s H ex) ifs ts/\C3 (eE X scope N' C cl s H ex) elt f)(hj:X.N[j]?=Ya x:=by rfl)(hx:Loc X.env.scope x:=by first|exact Or.inl rfl|exact Or.inr rfl)(hf:X.fn x=true\/X.env.scope.names.lookup x=Ya .local:=by first|exact .inl rfl|exact .inr rfl)(hsw:uR (.ListComp elt [⟨tg,iter,ifs,0⟩] scope pos) (Ya (.Name x pos')) spos.line X.env=pure true:=by rfl)(hs:∀x,zb iter X.env x=pure x:=by intro _;rfl):CS X (.Assign [.Name x pos'] (.ListComp elt [⟨tg,iter,ifs,0⟩] scope pos) spos) (aq j (vI i own g ts f)):=by
 intro pins s σ H D I h;obtain⟨ι,M,env,S,E,h⟩:=h;have h0:Zt X.K H ι (λv H'=>D.nx (σ.set j (Ya v)) H') (vI i own g ts f env M):=by
  unfold aq at h;cases q:vI i own g ts f env M with
  |ok d M1=>rw[q]at h;exactλv H1 ι1 x1 S1 r1=>h _ H1 ι1 x1 S1 ((E.mono x1).set j r1)|exc _ _=>rw[q]at h;exact h.elim|bad=>rw[q]at h;exact h.elim
 obtain⟨aR,M1,e1,h1⟩:=Zt.bind h0;have hc0:∀y∈scope.names,y.2= .free->∃c,X.env.cells.lookup y.1=Ya c:=λy hy e=>I.ok.has y.1 (O.free y hy e);rw[Ww _ _ _ _ hsw];refine Yg (uP (Yg ?_));show ao _ X.A (do let _ ←comprehension (.ListComp elt [⟨tg,iter,ifs,0⟩] scope pos) scope X.env _ (HJ []) false (aF iter X.env) (Ya (ji (.Name x pos') X.env))) _ _ s;refine Yg (ju (Hl (use:=Ya (ji (.Name x pos') X.env)) (Q:=λ_ s'=>SP X pins D .next s') rfl hs (JX hc0) O.kind O.names ?_) (λ_ s' hq=>Yt (Yt hq)) λ_ _ e=>e);refine aD (hi pins s σ H (λJ H'=>∃ι',Ext X.K H ι H' ι'/\aC X.K H' ι' M1/\J9 X.K H' ι' aR J) I ⟨ι,M,env,S,E,by rw[e1];exactλJ H' ι' x S' o=>⟨ι',x,S',o⟩⟩) λv s1 h1'=>aD h1' λitv s2 h2=>?_;obtain⟨it,fp,tn,J,H2,rfl,I2,T,st2,f2,ι2,x2,S2,ok⟩:=h2;refine ZhG (own:=own) (g:=g) (ts:=ts) (f:=f) O hc hb I2 T st2 f2 S2 (E.mono x2) ok (h1.up x2) (λacc C=>Hx (au X.prog X.w) X.A X.xe (Ya (ji (.Name x pos') X.env)) (λ_ s'=>SP X pins D .next s') acc C) ?_;intro acc C s' m H' hn Rp I' hq;obtain⟨f0,f1,Ro,f3,f4,f5⟩:=Rp;show ao _ X.A (ji (.Name x pos') X.env (.ref acc)) _ _ s';refine Nr (Qd I' hN hj hx (show RelV (.ref acc) (.ref acc)from rfl) (λs'' Rq ⟨a,sb,ha⟩=>?_) hf);have Rr:C≠a:=by
  rcases ha with rfl|ha
  .exact f1
  .exact cO (f4 x a ha)
 exact⟨m,hn.sameBut sb Rr,λh' Ru=>⟨_,H',Rq.turned (t':=s''.toks) (λb o hb e=>(Ru.2 b hb).trans e) f0 f1 f3 f4 f5,hq⟩⟩
end
open PySem PySem.W PyProof.Rows
section
variable {M:Model} {A:bJ} {E:Yh->Yj->Prop} {G:Yj->Prop}
def TT(M:Model)(A:bJ)(E:Yh->Yj->Prop)(G:Yj->Prop){α:Type}(m:StateT SortSt oK α)(Q:α->SortSt->Prop)(st:SortSt):Prop:=∀s,G s->kasC M A E m (λa st' s'=>Q a st'/\G s') st s
end
end L3
namespace L3
open PySem PySem.Spec PyProof.Rows L2
noncomputable abbrev nm(f:List Nat):aj:=⟨f.toArray⟩
variable{f:List Nat}
theorem Zpi{g:List Nat}(h:nm f=nm g):f=g:=by have:=congrArg (λs:aj=>s.cps.toList) h;simpa using this
section
variable {K:Yb} {H H':Hp} {ι ι':List Y1} {fs:List (List Nat×D)} {gs:List (aj×V)}
theorem fM.mono(e:Ext K H ι H' ι')(h:fM K H ι fs gs):fM K H' ι' fs gs:=⟨h.1,h.2.mono e⟩
theorem fM.nil:fM K H ι [] []:=⟨rfl,Zw.nil⟩
theorem fM.nil_inv(h:fM K H ι [] gs):gs=[]:=CP.mp h.1
theorem fM.cons_inv{d:D}(h:fM K H ι ((f,d)::fs) gs):∃v gs',gs=(nm f,v)::gs'/\Rep K H ι d v/\fM K H ι fs gs':=by
 cases gs with
 |nil=>cases h.1|cons p gs'=>obtain⟨g,v⟩:=p;obtain⟨h1,h2⟩:=h;rw[Yu,Yu]at h1 h2;obtain⟨e1,e2⟩:=iT h1;obtain⟨v',ws,e,r,q⟩:=h2.cons_inv;obtain⟨rfl,rfl⟩:=iT e;exact⟨v,gs',by rw[show g=nm f from e1],r,e2,q⟩
theorem fM.cons{f:List Nat}{d:D}{v:V}(r:Rep K H ι d v)(h:fM K H ι fs gs):fM K H ι ((f,d)::fs) ((nm f,v)::gs):=⟨by rw[Yu,Yu,h.1],Zw.cons r h.2⟩
theorem fM.length(h:fM K H ι fs gs):gs.length=fs.length:=by have:=congrArg Yes h.1;simpa using this
theorem fM.look:∀{fs:List (List Nat×D)} {gs:List (aj×V)},fM K H ι fs gs->(fs.lookup f=Yn->gs.lookup (nm f)=Yn)/\∀d,fs.lookup f=Ya d->∃v,gs.lookup (nm f)=Ya v/\Rep K H ι d v
 |[],_,h=>by rw[h.nil_inv];exact⟨λ_=>rfl,λd e=>by cases e⟩|(g,x)::fs,_,h=>by
  obtain⟨v,gs',rfl,r,t⟩:=h.cons_inv;rw[jP,jP];by_cases e:f=g
  .subst e;rw[beq_self_eq_true,beq_self_eq_true];exact⟨λq=>(by cases q),λd q=>(by cases q;exact⟨v,rfl,r⟩)⟩
  .rw[beq_false_of_ne e,beq_false_of_ne λq=>e (Zpi q)];exact t.look
theorem fM.put{d:D}{v:V}(r:Rep K H ι d v):∀{fs:List (List Nat×D)} {gs:List (aj×V)},fM K H ι fs gs->fM K H ι (vJ f d fs) (iZ (nm f) v gs)
 |[],_,h=>by rw[h.nil_inv];exact fM.cons r fM.nil|(g,x)::fs,_,h=>by
  obtain⟨w,gs',rfl,r',t⟩:=h.cons_inv;unfold vJ iZ;by_cases e:g=f
  .subst e;rw[if_pos rfl,if_pos rfl];exact fM.cons r t
  .rw[if_neg e,if_neg λq=>e (Zpi q)];exact fM.cons r' (t.put r)
end
structure yp(K:Yb)(c:List Nat)(C:Y1):Prop where
 at_:ClsAt K c C
 cls:vp K C
 nz:c.head?≠Ya 0
variable{K:Yb}
theorem yp.same{c:List Nat}{C C':Y1}(h:yp K c C)(q:ClsAt K c C'):C'=C:=by have:=q.symm.trans h.at_;cases this;rfl
variable{w:bw}{ps:List aj}
section
variable {X:Cx} {o e:Expr} {es:List Expr} {f g:E3} {gl:d8} {c m:List Nat} {C:Y1} {fn:aj} {pos pos' apos p:aU} {x:aj}
theorem Zor{M:Store}{n:Nat}{H:Hp}{ι:List Y1}{a:Y1}(kc:yp X.K c C)(S:aC X.K H ι M)(ha:ι[n]?=Ya a){fs:List (List Nat×D)}(hn:M[n]?=Ya (.ins c fs)):∃dx gs,H a=Ya (.ins C dx gs)/\fM X.K H ι fs gs:=by
 rcases S.obj n _ a hn ha with⟨C',dx,gs,q,ca,fr⟩|⟨_,_,z,_⟩
 .rw[kc.same ca.1]at q;exact⟨dx,gs,q,fr⟩
 .exact absurd z kc.nz
theorem t8(kc:yp X.K c C)(nf:qQ X.K C (nm m))(he:C3 X e f)(hf:fn=nm m:=by decide +kernel)(hb:mj e fn X.env (aF e X.env)=aF e X.env:=by rfl):C3 X (.Attribute e fn pos) (e1 (jq c m) f):=by
 subst hf;refine(Zuq he hb).imp λσ H Q ak=>?_;obtain⟨ι,M,env,S,E,h⟩:=ak;obtain⟨d,M1,e1,hh⟩:=Zt.bind h;refine⟨ι,M,env,S,E,?_⟩;rw[e1];intro v H1 ι1 x1 S1 r1;cases d with
 | ref n=>
  simp only[Zl6]at hh;cases hn:M1[n]? with
  |none=>simp only[hn]at hh;exact hh.elim|some ob=>
   cases ob with
   | ins c' fs=>
    simp only[hn]at hh;split at hh
    .rename_i ec;subst ec;obtain⟨a,ha,rfl⟩:=r1.dH;obtain⟨dx,gs,q,fr⟩:=Zor kc S1 ha hn;split at hh
     .rename_i d hl;obtain⟨w,lw,mD⟩:=(fr.look (f:=m)).2 d hl;exact⟨a,C,dx,gs,w,rfl,q,kc.cls,nf,lw,hh w H1 ι1 x1 S1 mD⟩
     .exact hh.elim
    .exact hh.elim
   |_=>simp only[hn]at hh;exact hh.elim
 |_=>exact hh.elim
theorem Zqe(kc:yp X.K c C)(nf:qQ X.K C (nm m))(ho:C3 X o f)(hv:C3 X e g)(hf:fn=nm m:=by decide +kernel)(hs:uR e (Ya (.Attribute o fn pos')) pos.line X.env=pure false:=by rfl):CS X (.Assign [.Attribute o fn pos'] e pos) (EY c m f g):=by
 subst hf;refine(Ztx ho hv hs).imp λD' σ H ak=>?_;obtain⟨ι,M,env,S,E,hh⟩:=ak;have hh:=Zln E hh;obtain⟨d,M1,e1,hh⟩:=Zt.bind hh;obtain⟨b,M2,e2,hh⟩:=Zt.bind hh;refine⟨ι,M,env,S,E,?_⟩;rw[e1];intro y H1 ι1 x1 S1 r1;refine⟨ι1,M1,env,S1,E.mono x1,?_⟩;rw[e2];intro w H2 ι2 x2 S2 r2;cases b with
 | ref n=>
  simp only[Q0]at hh;cases hn:M2[n]? with
  |none=>simp only[hn]at hh;exact hh.elim|some ob=>
   cases ob with
   | ins c' fs=>
    simp only[hn]at hh;split at hh
    .rename_i ec;obtain⟨ec,lf⟩:=ec;subst ec;obtain⟨a,ha,rfl⟩:=r2.dH;obtain⟨dx,gs,q,fr⟩:=Zor kc S2 ha hn;have l0:Loose H2 a:=.inr (.inr (.inr ⟨C,dx,gs,q⟩));have x3:Ext X.K H2 ι2 (upd H2 a (.ins C dx (iZ (nm m) y gs))) ι2:=l0.ext;have S3:aC X.K (upd H2 a (.ins C dx (iZ (nm m) y gs))) ι2 (M2.set n (.ins c' (vJ m d fs))):=S2.put l0 ha (.inl ⟨C,dx,_,pR,⟨kc.at_,kc.nz⟩,(fr.put (r1.mono x2)).mono x3⟩);exact⟨a,C,dx,gs,rfl,q,kc.cls,nf,by rw[fr.length];exact lf,hh .non _ _ ((x1.trans x2).trans x3) S3 Rep.non⟩
    .exact hh.elim
   |_=>simp only[hn]at hh;exact hh.elim
 |_=>exact hh.elim
def RN(P:bD)(w:bw)(K:Yb)(mg:aj->Option Yh)(base:aN)(k:Nat)(C:Y1)(m:aj)(ps:List aj)(F:F3):Prop:=(∀ds M,ds.length≠ps.length->F ds M= .bad)/\∃f fd,Meth K C m f/\Binds K fd ps []/\jm P w K mg base kZ k f fd ps (tY K ps.length F)
theorem RN.mono{P:bD}{mg:aj->Option Yh}{base:aN}{C:Y1}{j k:Nat}{x:aj}{F:F3}(h:RN P w K mg base j C x ps F)(l:j<=k):RN P w K mg base k C x ps F:=let⟨n,f,fd,a,b,d⟩:=h;⟨n,f,fd,a,b,d.mono l⟩
theorem Zul{k:Nat}{F:F3}{fa:Y1}{fd:jT}(at_:ClsAt X.K c C/\c.head?≠Ya 0)(Mc:Mk X.K C fa)(hF:∀ds M,ds.length≠ps.length->F ds M= .bad)(ok:jm X.prog X.w X.K X.mg X.base kZ k fa fd ps (tY X.K ps.length F))(bi:Binds X.K fd ps [])(hm:X.mg x=Ya (.ref C))(hr:dz (k+1) X.A)(ha:CA X (e::es) gl)(hg:Gl X x:=by rfl)(hdb:(x==("__debug__":aj))=false:=by decide)(he:Yw (e::es) X.env=(false,aF e X.env)::Yw es X.env:=by rfl)(hpl:(bZ pos (Yw es X.env)).any (·.1)=false:=by rfl):C3 X (.Call (.Name x p) (e::es) [] pos) (Ah c F gl):=by
 refine(Zr9 Mc ok hr hg hm bi .nil Zs6 ha hdb he hpl).imp λσ H Q ak=>?_;obtain⟨ι,M,env,S,E,h⟩:=ak;obtain⟨ds,M1,e1,h⟩:=Zt.bind h;refine⟨ι,M,env,S,E,?_⟩;rw[e1];intro vs H1 ι1 x1 S1 r1 y dx hy hd ne;have y2:upd H1 dx (.own y) y=Yn:=by rw[fJ (cO ne)];exact hy
 have x2:Ext X.K H1 ι1 (upd H1 dx (.own y)) ι1:=Loose.ext (.inl hd);have S2:aC X.K (upd H1 dx (.own y)) ι1 M1:=S1.other (.inl hd) (S1.fresh hd);have x3:Ext X.K (upd H1 dx (.own y)) ι1 (upd (upd H1 dx (.own y)) y (.ins C dx [])) (ι1++[y]):=Loose.GK (.inl y2);have S3:aC X.K (upd (upd H1 dx (.own y)) y (.ins C dx [])) (ι1++[y]) (M1++[.ins c []]):=S2.new y2 (.inl ⟨C,dx,[],pR,at_,fM.nil⟩);have hy':(ι1++[y])[M1.length]?=Ya y:=by rw[←S1.len];simp
 have rr:Rep X.K (upd (upd H1 dx (.own y)) y (.ins C dx [])) (ι1++[y]) (.ref M1.length) (.ref y):=Rep.ref hy';cases q:F (.ref M1.length::ds) (M1++[.ins c []])with
 |bad=>simp only[q]at h;exact h.elim|exc _ _=>simp only[q]at h;exact h.elim|ok d M2=>
  have hl:(D.ref M1.length::ds).length=ps.length:=by refine ZD λz=>?_;rw[hF _ _ z]at q;cases q
  refine⟨ι1++[y],M1++[.ins c []],.ref M1.length::ds,S3,by rw[jQ];exact Zw.cons rr ((r1.mono x2).mono x3),hl,?_⟩;rw[q];simp only[q]at h;cases d with
  |non=>intro v H4 ι4 x4 S4 r4;exact⟨r4.jf,h _ H4 ι4 (((x1.trans x2).trans x3).trans x4) S4 (rr.mono x4)⟩|_=>exact h.elim
end
noncomputable def ZrY(s:Yep):List Yep:=match s with
 | .ClassDef _ _ _ b _ _ _ _ _ _ _=>b|_=>[]
def Kc(K:Yb)(C:Y1)(qual:aj)(st:Yep)(ps:List aj):Prop:=∃f fd,tH K "__init__" qual st f fd/\Mk K C f/\Binds K fd ps []
def yq(P:bD)(w:bw)(K:Yb)(mg:aj->Option Yh)(base:aN)(k:Nat)(C:Y1)(ps:List aj)(F:F3):Prop:=(∀ds M,ds.length≠ps.length->F ds M= .bad)/\∃f fd,Mk K C f/\Binds K fd ps []/\jm P w K mg base kZ k f fd ps (tY K ps.length F)
section
variable {P:bD} {w:bw} {K:Yb} {mg:aj->Option Yh} {base:aN} {C f:Y1} {m qual:aj} {st:Yep} {N ps:List aj} {k:Nat} {body:S3} {oc:Yh} {od an:Option Y1} {osl:Array (Option Yh)} {dV kV doc pm cdv ct:Yh}
theorem ZrU(mk:G4 K C=true)(kc:rR K (.ref C)=true)(a:lY K (.ref C) "__init__" =Ya (Ya (.ref f)))(i:G5 K (.ref f)=true)(l:K.lookup f=Ya ⟨oc,od,.func (qH "__init__" qual (cU st) (cL st) (Zk st) dV kV doc pm an cdv ct),osl⟩)(c:Cz K cdv qual=true)(kp:rR K (.ref f)=true)(b:Binds K (qH "__init__" qual (cU st) (cL st) (Zk st) dV kV doc pm an cdv ct) ps []):Kc K C qual st ps:=⟨f,_,⟨⟨oc,od,dV,kV,doc,pm,an,cdv,ct,osl,rfl,l,c⟩,kp⟩,⟨mk,a,i,kc⟩,b⟩
theorem yq.of(d:Kc K C qual st ps)(S:dJ N ps (Zk st))(hb:∀(f:Y1) (cdv:Yh) (A:bJ) (outer:List eV) (s:Yj) (H:Hp) (E:XK),dz k (A.deeper (oN qual (Zk st) s.heap.objs.size f cdv))->o8 (tD kZ P w K mg base N qual (Zk st) f cdv A outer s H E).xG (cL st) body):
  yq P w K mg base (k+1) C ps (bY ps.length N.length body):=by
 obtain⟨f,fd,F,mk,bi⟩:=d;exact⟨λds M h=>if_neg h,f,fd,mk,bi,Q5 F S (hb f)⟩
end
theorem ZvO{X:Cx}{e:Expr}{es:List Expr}{gl:d8}{c:List Nat}{C:Y1}{pos p:aU}{x:aj}{k:Nat}{F:F3}(kc:yp X.K c C)(G:yq X.prog X.w X.K X.mg X.base k C ps F)(hm:X.mg x=Ya (.ref C))(hr:dz (k+1) X.A)(ha:CA X (e::es) gl)(hg:Gl X x:=by rfl)(hdb:(x==("__debug__":aj))=false:=by decide)(he:Yw (e::es) X.env=(false,aF e X.env)::Yw es X.env:=by rfl)(hpl:(bZ pos (Yw es X.env)).any (·.1)=false:=by rfl):C3 X (.Call (.Name x p) (e::es) [] pos) (Ah c F gl):=by obtain⟨hF,f,fd,mk,bi,ok⟩:=G;exact Zul ⟨kc.at_,kc.nz⟩ mk hF ok bi hm hr ha hg hdb he hpl
noncomputable def Ay(K:Yb)(d:List aj)(v:Yh):Bool:=match v with
 | .ref a=>(match K.lookup a with
  |some o=>o.cls== .type "tuple" &&o.dict.isNone&&(match o.data with| .seq vs _=>decide (vs.size<=1000)&&KTD.strsLook vs.toList d|_=>false)
  |none=>false)
 |_=>false
noncomputable def ZwB(t:JK):List (aj×List aj):=t.map λp=>(⟨p.1.toArray⟩,p.2.map λy=>⟨y.toArray⟩)
def Zwm(K:Yb)(d:List aj)(v:Yh):Prop:=∃a,v= .ref a/\∀H,cF K H a (d.map V.str)
theorem Zot:∀{vs:List Yh} {d:List aj},StrsAre vs d->Vals (d.map V.str) vs:=by
 intro vs d h
 induction h with
 |nil=>exact .nil|cons _ _ _ ih=>exact .cons ⟨_,rfl⟩ ih
theorem ZnO{d:List aj}{v:Yh}(h:Ay K d v=true):Zwm K d v:=by
 unfold Ay at h;split at h
 .rename_i a;refine⟨a,rfl,λH=>?_⟩;split at h
  .rename_i o ho;simp only[Y4]at h;obtain⟨⟨h1,h2⟩,h3⟩:=h;split at h3
   .rename_i vs n hd;simp only[Y4,decide_eq_true_eq]at h3;exact .inr ⟨o,vs,n,ho,⟨beq_iff_eq.mp h1,by simpa using h2⟩,hd,Yk h3.1 (by rw[zf];decide),Zot (KTD.strs_of_look h3.2)⟩
   .cases h3
  .cases h
 .cases h
abbrev ZvJ(K:Yb)(a:Y1)(t:JK):Prop:=KTD.tabLook (Ay K) (λb=>K.lookup b) a (ZwB t)=true
theorem ZvJ.at{a:Y1}{t:JK}{h:aN}(T:ZvJ K a t)(X:K.In h):pQ (Zwm K) h a (ZwB t):=Xo (λ_ _ q=>ZnO q) X T
theorem Zly{K:Yb}{H:Hp}{ι:List Y1}:∀ds:List (List Nat),Zw K H ι (ds.map D.str) ((ds.map λy=>(⟨y.toArray⟩:aj)).map V.str)
 |[]=>Zw.nil|_::ds=>Zw.cons Rep.str (Zly ds)
section
variable {prog:bD} {w:bw} {A:bJ} {E:Yh->Yj->Prop} {s:Yj} {a:Y1} {K:Yb} {t:JK} {x:List Nat} {tk:fD}
theorem rD{δ:Type}{R:δ->Yh->Prop}{T:List (aj×δ)}(h:pQ R s.heap a T):s.TypeIs (.ref a) "dict":=let⟨_,o,_,_,ho,hc,_⟩:=h;⟨o,ho,hc.1⟩
theorem Zip{δ:Type}{R:δ->Yh->Prop}{T:List (aj×δ)}{k:aj}{Q:Option Yh->Yj->Prop}(h:pQ R s.heap a T)(hs:∀d v,ni k T=Ya d->R d v->Q (Ya v) {s with toks:=s.toks+1})(hn:ni k T=Yn->Q Yn {s with toks:=s.toks+1}):ao (au prog w) A (uW a (.str k tk)) Q E s:=by
 obtain⟨_,o,es,ep,ho,hc,hd,hr⟩:=h;unfold uW
 try with_reducible refine gW ?_
 refine Yg (WL (Yg (KTD.kt_dictFind_strs (s:={s with toks:=s.toks+1}) ho hd (by obtain⟨es⟩:=es;simpa using hr.exact) ?_)));have key:Q (findBy (λq v=>v.isStr q) es k) {s with toks:=s.toks+1}:=by
  rw[show findBy (λq v=>v.isStr q) es k=(es.toList.find? λz=>z.key.isStr k).map (·.val)by obtain⟨es⟩:=es;simp[findBy]];cases e:ni k T with
  |none=>rw[hr.find_none e];exact hn e|some d=>obtain⟨v,hv,r⟩:=hr.find_some e;rw[hv];exact hs d v e r
 rw[findBy_of_findIdx?]at key;cases e:es.findIdx? λz=>z.key.isStr k with
 |none=>rw[e]at key;exact Yt key|some j=>rw[e]at key;exact Yg (WD (s:={s with toks:=s.toks+1}) ho hd (Yt key))
end
open AutoSeq1 (wpAny_loadPart')
set_option maxRecDepth 100000
theorem Zk5{prog:bD}{A:bJ}{it:Y1}{fp:List Y1}{n:Nat}{P:Nat->Yh->Prop}{St:Nat->aN->Prop}(D:Draws prog w A it fp n P St):
  Draws prog w A it fp (n+1) (λi v=>P (i-1) v) (λi h=>∃j,i=j+1/\St j h)where
 live:=λi h ⟨j,_,st⟩=>D.live j h st
 frame:=λi h h' ⟨j,e,st⟩ hk=>⟨j,e,D.frame j h h' st hk⟩
 item:=λi s Q E hi st hQ=>by obtain⟨j,rfl,st⟩:=st;exact D.item j s Q E (Nat.lt_of_succ_lt_succ hi) st λx h' tk hp st' hs=>hQ x h' tk hp ⟨j+1,rfl,st'⟩ hs
 done:=λs Q E st hE=>by obtain⟨j,e,st⟩:=st;cases Py e;exact D.done s Q E st hE
theorem Zl1(l:Y1)(items:Array Yh)(n:Nat)(dct:Option Y1)(sl:Array (Option Yh))(t:fD):
  Meets (Builtin.«enumerate.__new__» ⟨[.type "enumerate",.ref l],[("start",.int 1 t)]⟩) (λ_ R s=>s.heap.get? l=Ya {cls:=.type "list",dict:=dct,data:=.seq items n,slots:=sl}/\
   R (.ok (.ret (.ref (s.heap.push {cls:=.type "list_iterator",data:=.fields #[.ref l,.int 0 0]}).objs.size)))
    {s with heap:=(s.heap.push {cls:=.type "list_iterator",data:=.fields #[.ref l,.int 0 0]}).push {cls:=.type "enumerate",data:=.fields #[.none,.bool false,.ref s.heap.objs.size,uX 1,.none,.none]}}):=
 .of_wp λprog w A R s h=>by
  obtain⟨hp,g,d,tk,os⟩:=s;obtain⟨hl,h⟩:=h;have hsub:=sub_enumerate;have hL:Heap.IsList (Shared.heap ⟨hp,g,d,tk,os⟩) l items:=⟨_,hl,rfl,n,rfl⟩
  wp_walk using qL hl
  refine WQ λst=>Yt ?_;split
  .rename_i c _ _ _ _ _;cases(c==Value.type "enumerate")
   .wp_walk using qL hl,uN hL
    exact⟨_,rfl,h⟩
   .wp_walk using qL hl,uN hL
    exact⟨_,rfl,h⟩
  .wp_walk using qL hl,uN hL
   exact⟨_,rfl,h⟩
theorem Zmr(a b:Yh):checkTypeCall "enumerate" ⟨[a],[("start",b)]⟩=pure ():=by kernel_rfl
theorem ZoD(a b:Yh):WP "enumerate.__new__" ⟨[.type "enumerate",a],[("start",b)]⟩=pure ():=by kernel_rfl
theorem Znd(o a b:Yh):argsOk "object.__init__" ⟨[o,a],[("start",b)]⟩:=by unfold argsOk;rw[signature?_of (id:="object.__init__") (n:=['_','_','t','i','n','i','_','_']) (o:=['t','c','e','j','b','o']) (by kernel_rfl) F.owner_object];kernel_rfl
theorem ZlF{self a b:Yh}:Meets (Builtin.«object.__init__» ⟨[self,a],[("start",b)]⟩) (λ_ R s=>s.TypeIs self "enumerate" /\R (.ok (.ret .none)) s):=by
 have hl:=F.called_enumerate.init.lookup;have hm:=F.called_enumerate.made;refine Meets.of_wp λprog w A R s hs=>?_;obtain⟨hT,hq⟩:=hs
 repeat(any_goals(first|assumption|wp_step))
 exact⟨_,rfl,hq⟩
theorem ZmW{prog:bD}{A:bJ}{E:Yh->Yj->Prop}{s:Yj}{l:Y1}{items:Array Yh}{t:fD}{Q:Yh->Yj->Prop}(hL:s.heap.IsList l items)(h:∀h',wY h' (s.heap.objs.size+1) s.heap.objs.size 1 .none->h'.IsListIter s.heap.objs.size l 0->(∀b o,s.heap.get? b=Ya o->h'.get? b=Ya o)->Q (.ref (s.heap.objs.size+1)) {s with heap:=h'}):
  ao (au prog w) A (call (.type "enumerate") [.ref l] [("start",.int 1 t)]) Q E s:=by
 obtain⟨⟨c,dct,dt,sl⟩,hl,hc,n,hd⟩:=hL;replace hc:c= .type "list":=hc;replace hd:dt= .seq items n:=hd;subst hc hd;have ft:=XQ;obtain⟨c,tl,hmro⟩:=ft.mro;have hmade:=ft.made;have hsub:=ft.sub;have hct:=Zmr (.ref l) (.int 1 t);have hcn:=ZoD (.ref l) (.int 1 t);refine Dg (WR (show ao _ _ (callAny (.type "enumerate") _) _ _ _ from ?_));refine Yt ⟨ZK _ (by decide +kernel),wR F.entry_type_call (?_)⟩;rw[X5 (Wx _ _ _) (units_type_call_type _ _ _)];have h1:=ft.notType;have h2:=ft.canCreate
 repeat(any_goals(first|assumption|wp_step))
 have hz:(s.heap.push {cls:=.type "list_iterator",data:=.fields #[.ref l,.int 0 0]}).objs.size=s.heap.objs.size+1:=wZ ..;have g0:=Zl1 l items n dct sl t prog w A.in1 (wants (λobj s₁=>s₁.TypeIs obj "enumerate" /\Q obj s₁) E) s ⟨hl,by
  show _/\_;rw[hz];have he:wY ((s.heap.push {cls:=.type "list_iterator",data:=.fields #[.ref l,.int 0 0]}).push {cls:=.type "enumerate",data:=.fields #[.none,.bool false,.ref s.heap.objs.size,uX 1,.none,.none]}) (s.heap.objs.size+1) s.heap.objs.size 1 .none:=by have q:=Y2 (s.heap.push {cls:=.type "list_iterator",data:=.fields #[.ref l,.int 0 0]}) (o:={cls:=.type "enumerate",data:=.fields #[.none,.bool false,.ref s.heap.objs.size,uX 1,.none,.none]}) rfl;rw[hz]at q;exact q
  exact⟨⟨_,he,rfl⟩,h _ he ⟨_,Yl _ (Y2 _ rfl),rfl,rfl⟩ λb o x=>Yl _ (Yl _ x)⟩⟩
 refine uQ (Ho ft.plain XF (Hu hcn g0)) λr s₁ hr=>?_;cases r with
 |error e=>exact hr|ok fl=>
  cases fl with
  | ret obj=>
   obtain⟨hT,hq⟩:=hr;have hli:=ft.init.lookup;have hbi:=ft.init.bind obj
   repeat(any_goals(first|assumption|wp_step))
   refine uQ (Ho ft.init.plain F.entry_object_init (ft.init.check _ _ _ _ _ _ _ _ hT (Znd obj _ _) (ZlF prog w A.in1 (wants (λr s₂=>r= .none/\Q obj s₂) E) s₁ ⟨hT,rfl,hq⟩))) λr₂ s₂ RP=>?_;cases r₂ with
   |error e=>exact RP|ok fl₂=>
    cases fl₂ with
    |ret r=>
     obtain⟨rfl,hq⟩:=RP
     repeat(any_goals(first|assumption|wp_step))
    |_=>exact RP.elim
  |_=>exact hr.elim
noncomputable def Zv3(S:Hp->List V->Prop):It:=⟨λi H=>∃xs x,S H xs/\xs[i]?=Ya x,λi H x H'=>∃A a,x= .ref A/\H A=Yn/\H'=upd H A (.tup [.int ((i+1:Nat):Int),a])/\∀xs,S H xs->xs[i]?=Ya a,
 λi H=>∃xs,S H xs/\xs.length<=i⟩
theorem Zmg{P:bD}{es:List Expr}{k:Nat}{pos:aU}(a e it:Y1)(hne:e≠it):
  Turn P w K (.Tuple es k pos) (Zv3 λH xs=>bB K H a xs) [e,it] e (λi h=>(∃old,wY h e it ((i+1:Nat):Int) old)/\h.IsListIter it a i)where
 mem:=by simp
 obj:=λi h st b hb=>by
  obtain⟨⟨old,he⟩,o,ho,c,d⟩:=st;simp only[Ym,mZ,or_false]at hb;rcases hb with rfl|rfl
  .exact⟨_,he,λv z=>by cases z⟩
  .exact⟨o,ho,λv z=>by rw[d]at z;cases z⟩
 keep:=λi h h' st k=>by obtain⟨⟨old,he⟩,hit⟩:=st;exact⟨⟨old,k e (by simp) _ he⟩,hit.at λo q=>k it (by simp) o q⟩
 item:=by
  intro X hP hw hK hc i pins s σ H E I hf st hg;subst hP hw hK;obtain⟨xs,x,hq,hx⟩:=hg;obtain⟨its,rv,p,hz⟩:=I.list hq;obtain⟨u,hu,ru⟩:=rv.get hx;obtain⟨⟨old,he⟩,hit⟩:=st;have hel:=Y3 he;have hil:it<s.heap.objs.size:=by obtain⟨o,ho,_⟩:=id hit;exact Y3 ho
  have RL:e≠a:=by rintro rfl;obtain⟨o,ho,hc,_⟩:=p.isList;rw[he]at ho;cases ho;exact absurd hc (by simp)
  have hai:a≠it:=by rintro rfl;obtain⟨o,ho,hc,_⟩:=p.isList;obtain⟨o',ho',hc',_⟩:=hit;rw[ho']at ho;cases ho;rw[hc']at hc;exact absurd hc (by simp)
  have D:=Zk5 (Draws.list (prog:=X.prog) (w:=X.w) (A:=X.A.in1) (I.ok.hd hc) it a hai its.toArray);refine Ws (i:=i+1) D he ⟨i,rfl,hit,p.isList⟩ (by simpa using(Yf.mp hu).1) hne (by simp[hne,RL]) λy h' tk hy ho hst hT hsz hk=>?_;have ey:y=u:=by
   have q:its.toArray[i]?=Ya u:=by simpa using hu
   have hy':its.toArray[i]?=Ya y:=hy;rw[q]at hy';cases hy';rfl
  subst ey;refine⟨_,rfl,Nq (s:={s with heap:=h',toks:=tk+1}) ho λh'' Cy hs''=>?_⟩;obtain⟨I2,n2⟩:=RK (i:=i+1) (x:=x) (tk':=tk+1) I hf hel hil ru hT hk hs'';obtain⟨j,ej,hst,_⟩:=hst;cases Py ej;exact⟨.ref s.heap.objs.size,_,I2,rfl,⟨_,x,rfl,I.hok.fresh (Ys _),rfl,λys hy=>by rw[I.L_ hy hq];exact hx⟩,⟨⟨_,by simpa using Cy⟩,hst.extBut hs''.extBut (cO hne)⟩,n2⟩
 done:=by
  intro X hP hw hK hc i pins s σ H E I hf st hg;subst hP hw hK;obtain⟨xs,hq,hx⟩:=hg;obtain⟨its,rv,p,hz⟩:=I.list hq;obtain⟨⟨old,he⟩,hit⟩:=st;have hl:=rv.length;have hT:s.TypeIs (.ref e) "enumerate":=⟨_,he,rfl⟩;unfold sE;refine Yg (wpAny_attempt (wO (name:=pP "__next__") hT Im
   (uO Im hT Xz (show ao _ _ (field (.ref e) 2>>=λo=>_) _ _ _ from ?_) (Xx _))))
  refine Yg (sy he rfl (x:=.ref it) rfl (Yg ?_));refine wpAny_nextOf_list_end (I.ok.hd hc) hit p.isList (by simp;exact lC 2 2268279672881 T1 hl hx) λh' x he' hx'=>?_;obtain⟨o,ho,hc⟩:=hx';refine Yg (WN (T:="StopIteration") (b:=true) ⟨o,ho,hc⟩ isSubtype_stop (Yt ?_));exact⟨rfl,I.Gw (t':=s.toks) (λb o hb q=>he' b o (λz=>hb (by simp[z])) q) hf⟩
 self:=λ_ _ _ _ _ st h=>by obtain⟨⟨old,he⟩,_⟩:=st;exact zc he h
section
variable {X:Cx} {es:List Expr} {k:Nat} {a:Expr} {p pos tpos kp cp:aU} {f:E3}
def Zsj(K:Yb)(ta:TA):TI:=λσ H R=>ta σ H λvs H1=>∃b,vs=[.ref b]/\∃xs,bB K H1 b xs/\R (Zv3 λH xs=>bB K H b xs) H1
theorem Zkc{M:Model}{A:bJ}{E:Yh->Yj->Prop}{s:Yj}{env:eV}{T:String}{e:Expr}{kws:List Keyword}{Q:Yh->Yj->Prop}(h:ao M A (HB (bZ pos (Yw [e] env))) (λvs s₁=>ao M A (HF ((iQ pos (iK kws env)).map (·.2)))
   (λkvs s₂=>ao M A (call (.type T) vs (((iQ pos (iK kws env)).filterMap (·.1)).zip kvs)) Q E s₂) E s₁) E s)(he:bZ pos (Yw [e] env)=[(false,aF e env)])(hall:(iQ pos (iK kws env)).all (·.1.isSome)=true)(hkw:(iQ pos (iK kws env)).any (·.1.isNone)=false):
  ao M A (Hy pos (.type T) [] (bZ pos (Yw [e] env)) (iQ pos (iK kws env))) Q E s:=by
 rw[he]at h ⊢;unfold Hy;refine Yg (gW (ju (Xi (Q:=λa s₁=>ao M A (call (.type T) a.pos a.kw) Q E s₁) hall h) (λa s₁ h₁=>Yg (uP ?_)) λ_ _ x=>x));simp only[hkw,kh,List.any_nil,Ia];refine Yg (Yt (Yg ?_));exact ju h₁ (λr s₂ hr=>Yg (gW (wpAny_point (Yt hr)))) λ_ _ x=>x
theorem ZpP{ta:TA}{j}(hg:Gl X "enumerate")(hm:X.mg "enumerate" =Yn)(ha:PA X [a] ta)(he:bZ pos (Yw [a] X.env)=[(false,aF a X.env)]):
  PI X (.Tuple es k tpos) (.Call (.Name "enumerate" p) [a] [⟨Ya "start",.Constant (.int 1) j cp,kp⟩] pos) (Zsj X.K ta):=by
 intro pins s σ H R I h;refine za (xF I hg hm boot_enumerate (Zkc (aD (ha pos pins s σ H _ I h) λus s1 ak=>?_) he rfl rfl));obtain⟨vs,H1,I1,r1,q1⟩:=ak;refine aD ((ZnX (nm:=Ya "start") (kpos:=kp) (Qe (j:=j) (pos:=cp) (i:=1)) Zqv) pos pins s1 σ H1 (λzs H'=>zs=[.int 1]/\H'=H1) I1 ⟨rfl,rfl⟩) λws s2 Fw=>?_;obtain⟨zs,H2,I2,rz,rfl,rfl⟩:=Fw;obtain⟨b,e,xs,hq,q⟩:=q1;subst e;cases r1 with
 | cons r rr=>
  cases rr
  cases r
  cases rz with
  | cons r' rr=>
   cases rr
   obtain⟨t,rfl⟩:=r';have fp:∀c∈[s2.heap.objs.size+1,s2.heap.objs.size],iw X pins H2 c:=λc hc=>by
    have hc':s2.heap.objs.size<=c:=by simp only[Ym,mZ,or_false]at hc;rcases hc with rfl|rfl <;>omega
    exact I2.uD hc' (I2.hok.fresh hc')
   obtain⟨its,rv,pl,hz⟩:=I2.list hq;refine ZmW (t:=t) pl.isList λh' hE hI hk=>?_;have I3:Inv X pins σ H2 {s2 with heap:=h'}:=I2.kept (t':=s2.toks) hk;exact zc (s:={s2 with heap:=h'}) hE ⟨_,[s2.heap.objs.size+1,s2.heap.objs.size],_,_,H2,rfl,I3,Zmg b _ _ (Oh _),⟨⟨_,hE⟩,hI⟩,fp,q⟩
theorem Zpn{j}(hm:X.mg "enumerate" =Yn)(h:C3 X a f)(hg:Gl X "enumerate":=by rfl)(he:bZ pos (Yw [a] X.env)=[(false,aF a X.env)]:=by rfl)(hs':Yw (a::[]) X.env=(false,aF a X.env)::Yw [] X.env:=by rfl):
  CIL X (.Tuple es k tpos) (.Call (.Name "enumerate" p) [a] [⟨Ya "start",.Constant (.int 1) j cp,kp⟩] pos) (Q3 f):=
 PI.imp (ZpP hg hm (Zc h Zg hs') he) λσ H R ak=>by
  obtain⟨ι,M,env,S,E,h⟩:=ak;obtain⟨d,M1,e1,h⟩:=Ax.bind h;refine⟨ι,M,env,S,E,?_⟩;have e2:Zb f Zf env M= .ok [d] M1:=by unfold Zb;rw[e1];rfl
  rw[e2];intro vs H1 ι1 x1 S1 r1;obtain⟨v,ws,rfl,r,q⟩:=r1.cons_inv;have:=q.nil_inv;subst this;cases d with
  | ref n=>
   cases hm:M1[n]? with
   |none=>simp only[hm]at h;exact h.elim|some o=>
    cases o with
    | lst ds=>
     simp only[hm]at h;obtain⟨b,ha,rfl⟩:=r.dH;obtain⟨vs,q,r⟩:=S1.obj n _ b hm ha;refine⟨b,rfl,vs,bB.of q,h _ H1 ι1 x1 S1 ?_⟩;intro i H2 ι2 M2 x S2 lk;have Fi:M2[n]?=Ya (.lst ds):=by simpa[jn]using lk
     obtain⟨vs2,q2,r2⟩:=S2.obj n _ b Fi (x.pre _ _ ha);refine⟨λd hd=>?_,λhl=>⟨vs2,bB.of q2,by rw[r2.length,hl,JH];exact Ys _⟩⟩;rw[JG,kE 1 i]at hd;cases hq:ds[i]? with
     |none=>rw[hq]at hd;cases hd|some d0=>rw[hq]at hd;cases hd;obtain⟨v,hv,rv⟩:=r2.get hq;refine⟨⟨vs2,v,bB.of q2,hv⟩,λy H3 hy=>?_⟩;obtain⟨T,y',rfl,hT,rfl,hall⟩:=hy;have e:=hall vs2 (bB.of q2);rw[hv]at e;cases e;exact S2.uE hT (Zw.cons Rep.int (Zw.cons rv Zw.nil))
    |_=>simp only[hm]at h;exact h.elim
  |_=>exact h.elim
end
end L3
namespace L3
open PySem PySem.Spec PyProof.Rows L2
noncomputable def Zwj(i:Int)(v:Yh):Bool:=match v with
 | .int j _=>decide (j=i)|_=>false
def ZvN(i:Int)(v:Yh):Prop:=∃t,v= .int i t
variable{i:Int}
theorem ZrA{v:Yh}(h:Zwj i v=true):ZvN i v:=by
 cases v with
 |int j t=>exact⟨t,by rw[of_decide_eq_true (show decide (j=i)=true from h)]⟩|_=>exact ft h
noncomputable def Az(t:jZ):List (aj×Int):=t.map λp=>(⟨p.1.toArray⟩,p.2)
abbrev lU(K:Yb)(a:Y1)(t:jZ):Prop:=KTD.tabLook Zwj (λb=>K.lookup b) a (Az t)=true
theorem lU.at{K:Yb}{a:Y1}{t:jZ}{h:aN}(T:lU K a t)(X:K.In h):pQ ZvN h a (Az t):=Xo (λ_ _ q=>ZrA q) X T
theorem A_(x:List Nat):∀t:jZ,ni (⟨x.toArray⟩:aj) (Az t)=dO x t
 |[]=>rfl|(k,v)::r=>by
  show(if decide ((⟨x.toArray⟩:aj)=⟨k.toArray⟩)=true then Ya v else ni ⟨x.toArray⟩ (Az r))=(if x=k then Ya v else dO x r);by_cases e:x=k
  .subst e;rw[if_pos rfl,if_pos (decide_eq_true rfl)]
  .rw[if_neg e,if_neg (by simp[e]),A_ x r]
variable{Q:Yh->Yj->Prop}{δ:Type}
section
variable {prog:bD} {w:bw} {A:bJ} {E:Yh->Yj->Prop} {s:Yj} {a:Y1} {K:Yb} {tk:fD}
theorem ZqF{R:δ->Yh->Prop}{l:List DictEntry}{T:List (aj×δ)}(h:KTD.Rows R l T):∀e∈l,∃x t,e.key= .str x t:=by
 induction h with
 |nil=>intro e he;cases he|cons hk _ _ ih=>
  intro e he;rcases Ym.mp he with q|q
  .rw[q];exact⟨_,_,hk⟩
  .exact ih e q
theorem Zox{R:δ->Yh->Prop}{T:List (aj×δ)}{Q:Option Yh->Yj->Prop}(h:pQ R s.heap a T)(hn:Q Yn {s with toks:=s.toks+1}):ao (au prog w) A (uW a (.int i tk)) Q E s:=by
 obtain⟨_,o,es,ep,ho,hc,hd,hr⟩:=h;have hs:∀e∈es,∃x t,e.key= .str x t:=λe he=>ZqF hr e (by simpa using he);unfold uW
 try with_reducible refine gW ?_
 refine Yg (WK (Yg ?_));unfold dictFind
 try with_reducible refine gW ?_
 refine Yg (WD (s:={s with toks:=s.toks+1}) ho hd ?_);dsimp only;rw[if_pos]
 .unfold dictWalkPlain;refine Yg ?_;refine wpAny_forIn_list _ (λ_ b s'=>s'={s with toks:=s.toks+1}/\b=(Yn,())) _ ?_ ?_ _ _ ⟨rfl,rfl⟩
  .rintro x rest b s' ⟨rfl,rfl⟩;cases he:es[x]? with
   |none=>exact Yt ⟨rfl,rfl⟩|some e=>
    obtain⟨y,t,ek⟩:=hs e (X7 he);dsimp only;by_cases hh:(e.hash==hashInt i)=true
    .rw[if_pos hh,ek];refine Yg (WT (s:={s with toks:=s.toks+1}) ho hd (Yg (Iv y t i tk prog w E _ (Yg (WT (s:={s with toks:=s.toks+1}) ho hd ?_)))));show ao _ _ (if(ep !=ep)=true then _ else _) _ E _;rw[if_neg (by simp)];exact Yg (Hw (Yt ⟨rfl,rfl⟩))
    .rw[if_neg hh];exact Yt ⟨rfl,rfl⟩
  .rintro b s' ⟨rfl,rfl⟩;exact Yt (Yt hn)
 .rw[jC];refine vf.mpr ⟨rfl,gQ.mpr λv hv=>?_⟩;obtain⟨j,_,hj⟩:=Nf.mp hv;cases he:es[j]? with
  |none=>rw[he]at hj;cases hj|some e=>
   rw[he]at hj;obtain rfl:e.key=v:=by simpa using hj
   obtain⟨y,t,ek⟩:=hs e (X7 he);rw[ek];rfl
theorem Zm5{R:δ->Yh->Prop}{T:List (aj×δ)}{k:aj}{z:Yh}:
  MeetsIn prog w (Builtin.«dict.get» ⟨[.ref a,.str k tk,z],[]⟩) λ_ Z s=>pQ R s.heap a T/\(∀d v,ni k T=Ya d->R d v->Z (.ok (.ret v)) {s with toks:=s.toks+1})/\(ni k T=Yn->Z (.ok (.ret z)) {s with toks:=s.toks+1}):=
 .of_wp λA Z s zz=>by obtain⟨h,h1,h2⟩:=zz;show ao _ _ (uW a (.str k tk)>>=λo=>_) _ _ s;refine Yg (Zip h (λd v e r=>Yt ⟨v,rfl,h1 d v e r⟩) λe=>?_);show ao _ _ (ZJ a (.str k tk)>>=λo=>_) _ _ _;exact Yg (Wz h.1 (Yt ⟨z,rfl,h2 e⟩))
theorem Zl7{R:δ->Yh->Prop}{T:List (aj×δ)}{z:Yh}:
  MeetsIn prog w (Builtin.«dict.get» ⟨[.ref a,.int i tk,z],[]⟩) λ_ Z s=>pQ R s.heap a T/\Z (.ok (.ret z)) {s with toks:=s.toks+1}:=
 .of_wp λA Z s zz=>by obtain⟨h,h2⟩:=zz;show ao _ _ (uW a (.int i tk)>>=λo=>_) _ _ s;refine Yg (Zox h ?_);show ao _ _ (ZJ a (.int i tk)>>=λo=>_) _ _ _;exact Yg (Wz h.1 (Yt ⟨z,rfl,h2⟩))
theorem ZqY{R:δ->Yh->Prop}{T:List (aj×δ)}{k:aj}{z:Yh}(h:pQ R s.heap a T)(h1:∀d v,ni k T=Ya d->R d v->Q v {s with toks:=s.toks+1})(h2:ni k T=Yn->Q z {s with toks:=s.toks+1}):ao (au prog w) A (call (.builtin "dict.get") [.ref a,.str k tk,z]) Q E s:=call_meetsIn O8 (rD h) XC (Xy _ _ _) (Zm5 (R:=R) (T:=T)) ⟨h,h1,h2⟩
theorem Zpa{R:δ->Yh->Prop}{T:List (aj×δ)}{z:Yh}(h:pQ R s.heap a T)(h2:Q z {s with toks:=s.toks+1}):ao (au prog w) A (call (.builtin "dict.get") [.ref a,.int i tk,z]) Q E s:=call_meetsIn O8 (rD h) XC (Xy _ _ _) (Zl7 (R:=R) (T:=T)) ⟨h,h2⟩
end
section
variable {X:Cx} {e e':Expr} {x:aj} {a:Y1} {t:jZ} {npos apos cpos pos:aU} {g g':E3}
inductive Zxg(t:jZ)(y z:V)(H1:Hp)(Q:VK):Prop
 |str (k:List Nat) (e:y= .str ⟨k.toArray⟩) (s:∀i,dO k t=Ya i->Q (.int i) H1) (n:dO k t=Yn->Q z H1)
 |int (i:Int) (e:y= .int i) (n:Q z H1)
theorem ZpJ{te te':TE}(hm:X.mg x=Ya (.ref a))(ht:lU X.K a t)(he:PE X e te)(he':PE X e' te')(m:M2 X (.Name x npos) "get" apos e e' cpos)(hg:Gl X x)(hd:(x==("__debug__":aj))=false):
  PE X (.Call (.Attribute (.Name x npos) "get" apos) [e,e'] [] cpos) (λσ H Q=>te σ H λy H1=>te' σ H1 λz H2=>Zxg t y z H2 Q):=by
 intro pins s σ H Q I h;refine wpAny_Call_method m.base m.few m.line PySem.F.plainAttrs_dict O8 PySem.F.type_dict_get (aD (zK (v:=.ref a) (u:=.ref a) hg hm rfl hd pins s σ H (λv H'=>v= .ref a/\H'=H) I ⟨rfl,rfl⟩) λu s1 ak=>?_);obtain⟨v,H1,I1,r1,rfl,rfl⟩:=ak;obtain rfl:u=Value.ref a:=r1;have T1:=ht.at I1.dU;refine⟨rD T1,λb q=>?_,?_⟩
 .cases q
  obtain⟨_,ob,_,_,h1,h2,_⟩:=T1;exact⟨ob,h1,h2.2.1⟩
 rw[m.trees];refine Pq rfl (YX (Pr (aD (he pins s1 σ H1 _ I1 h) λiv s2 ⟨y,H2,I2,ry,q2⟩=>Pr (aD (he' pins s2 σ H2 _ I2 q2) λfv s3 ⟨z,H3,I3,rz,q3⟩=>YZ ?_))));cases q3 with
 | str k ey hs hn=>
  rw[ey]at ry;obtain⟨tk,rfl⟩:=ry;refine ZqY (ht.at I3.dU) (λd v ed rv=>?_) λed=>?_
  .rw[A_]at ed;obtain⟨t',rfl⟩:=rv;exact⟨.int d,H3,I3.tok _,⟨t',rfl⟩,hs d ed⟩
  .rw[A_]at ed;exact⟨z,H3,I3.tok _,rz,hn ed⟩
 |int i ey hn=>rw[ey]at ry;obtain⟨tk,rfl⟩:=ry;exact Zpa (ht.at I3.dU) ⟨z,H3,I3.tok _,rz,hn⟩
theorem Znv(hm:X.mg x=Ya (.ref a))(ht:lU X.K a t)(he:C3 X e g)(he':C3 X e' g')(m:M2 X (.Name x npos) "get" apos e e' cpos:=by exact⟨rfl,rfl,rfl,rfl⟩)(hg:Gl X x:=by rfl)(hd:(x==("__debug__":aj))=false:=by decide):
  C3 X (.Call (.Attribute (.Name x npos) "get" apos) [e,e'] [] cpos) (e2 (tV t) g g'):=(ZpJ hm ht he he' m hg hd).imp λσ H Q ak=>by
 obtain⟨ι,M,env,S,E,h⟩:=ak;obtain⟨d,M1,e1,h⟩:=Zt.bind h;obtain⟨d2,M2,e2,h⟩:=Zt.bind h;refine⟨ι,M,env,S,E,?_⟩;rw[e1];intro y H1 ι1 x1 S1 r1;refine⟨ι1,M1,env,S1,E.mono x1,?_⟩;rw[e2];intro z H2 ι2 x2 S2 r2;have h:=(h.up x1).up x2;cases d with
 | str k=>
  cases r1.str_inv
  refine .str k rfl (λi ei=>?_) λen=>?_
  .have h:Zt X.K H2 ι2 Q (match dO k t with|some i=>.ok (.int i) M2|none=>.ok d2 M2):=h
   rw[ei]at h;exact Zt.ok h S2 Rep.int
  .have h:Zt X.K H2 ι2 Q (match dO k t with|some i=>.ok (.int i) M2|none=>.ok d2 M2):=h
   rw[en]at h;exact Zt.ok h S2 r2
 |int i=>
  cases r1.int_inv
  exact .int i rfl (Zt.ok h S2 r2)
 |_=>exact h.elim
end
section
variable {X:Cx} {pos:aU}
theorem ZrK{x:aj}{a:Y1}{ds:List (List Nat)}(hm:X.mg x=Ya (.ref a))(ht:Ay X.K (ds.map λy=>(⟨y.toArray⟩:aj)) (.ref a)=true)(hg:Gl X x:=by rfl)(hd:(x==("__debug__":aj))=false:=by decide):C3 X (.Name x pos) (eC (.tup (ds.map D.str))):=by obtain⟨b,eb,sq⟩:=ZnO ht;cases eb;exact tX (v:=.ref a) hm rfl (λH ι=>Rep.tup (sq H) (Zly ds)) hg hd
end
section
variable {X:Cx} {a b c:Expr} {f g h:E3} {pos:aU}
theorem Zqx{op op':CmpOp}{q q':D->D->Store->R3 D}(ho:aP X (eU op) (r2 X.K q))(ho':aP X (eU op') (r2 X.K q'))(ha:C3 X a f)(hb:C3 X b g)(hc:C3 X c h)(hm:lastMarks [op,op'] [b,c]=false:=by rfl):CT X (.Compare a [op,op'] [b,c] pos) (o5 q q' f g h):=
 (ZqI ho ho' ha hb hc hm).imp λσ H Q ak=>by
  obtain⟨ι,M,env,S,E,hh⟩:=ak;obtain⟨da,M1,e1,hh⟩:=lQ.bind hh;refine⟨ι,M,env,S,E,?_⟩;rw[e1];intro v H1 ι1 x1 S1 r1;obtain⟨db,M2,e2,hh⟩:=lQ.bind hh;refine⟨ι1,M1,env,S1,E.mono x1,?_⟩;rw[e2];intro u H2 ι2 x2 S2 r2;obtain⟨dc,M3,e3,hh⟩:=lQ.bind hh;refine⟨ι2,M2,da,db,S2,r1.mono x2,r2,?_⟩;rw[e3];intro w H3 ι3 x3 S3 r3;cases dc with
  | bl k=>
   refine⟨k,r3.gm,?_⟩;cases k with
   |true=>rw[if_pos rfl];obtain⟨dd,M4,e4,hh⟩:=lQ.bind hh;refine⟨ι3,M3,env,S3,E.mono ((x1.trans x2).trans x3),?_⟩;rw[e4];intro w' H4 ι4 x4 S4 r4;exact⟨ι4,M4,db,dd,S4,r2.mono (x3.trans x4),r4,Fd (hh.up (((x1.trans x2).trans x3).trans x4))⟩|false=>rw[if_neg (by decide)];exact⟨false,rfl,hh H3 ι3 ((x1.trans x2).trans x3) S3⟩
  |_=>exact hh.elim
end
set_option maxRecDepth 100000
theorem Zm8(a d:Yh):WP "max" ⟨[a],[("default",d)]⟩=pure ():=by kernel_rfl
theorem Kd:(Dy "max" ++Dy ".loop":String)= "max.loop":=by decide
variable{E:Yh->Yj->Prop}
theorem Zsr{prog:bD}{w:bw}{A:bJ}{s:Yj}{a b:Int}{t u:fD}(h:Q (.bool (decide (a>b))) s):ao (au prog w) A (richCompare .Gt (.int a t) (.int b u)) Q E s:=
 CmpOf.ints_gt (P:=λi v=>if i=0 then v= .int a t else v= .int b u) (λi=>if i=0 then a else b) (λi v hv=>by
  by_cases c:i=0
  .rw[if_pos c]at hv ⊢;exact⟨t,hv⟩
  .rw[if_neg c]at hv ⊢;exact⟨u,hv⟩) 0 1 _ _ s Q E rfl rfl h
theorem Zpy{vs:List Yh}{ns:List Int}(h:IntsAre vs ns):vs.length=ns.length:=by
 induction h with
 |nil=>rfl|cons n t _ ih=>rw[Yp,Yp,ih]
section
variable {prog:bD} {w:bw} {A:bJ} {R:sG->Yj->Prop} {I L S:Y1} {vs:List Yh} {ns:List Int} {dv:Yh}
theorem ZrW(hh:A.in1.handled=Yn)(hLI:L≠I)(hSI:S≠I)(Ba:S≠L)(hi:IntsAre vs ns):∀(k j:Nat) (m:Int) (s:Yj) (tb:fD) (c:Nat),vs.length-(j+1)=k->j+1<=vs.length->s.heap.IsListIter I L (j+1)->s.heap.IsList L vs.toArray ->
  s.heap.get? S=Ya {cls:=.type "list",dict:=Yn,data:=.seq #[.int m tb,.int m tb] c,slots:=#[]} ->
  (∀h' t tk,(∀b o,b≠I->b≠S->s.heap.get? b=Ya o->h'.get? b=Ya o)->R (.ok (.ret (.int ((ns.drop (j+1)).foldl (λm x=>if x>m then x else m) m) t))) {s with heap:=h',toks:=tk}) ->
  mq (au prog w) A (.builtin "max.loop" ⟨[.ref I,.none,.ref S],[("default",dv)]⟩) R s:=by
 have W:=Iw (prog:=prog) (w:=w) (A:=A.in1) hh I L hLI vs.toArray;have len:ns.length=vs.length:=(Zpy hi).symm;intro k
 induction k with
 |zero=>
  intro j m s tb c hk hj hst hL hS hR;have hin:vs.toArray.size=j+1:=by rw[Yo];omega
  refine wR Pb ?_;rw[Dv xg _];refine Yg (Dc hS rfl ?_);refine Yg (Dd (W.done s _ _ (hin▸⟨hst,hL⟩) λh' tk hk'=>?_));have hS':=hk' S _ (by simp[hSI]) hS;refine Yg ?_;refine Nx hS' rfl (Yg (Hv (Yt ?_)));have e:ns.drop (j+1)=[]:=G9 (by omega);rw[e]at hR;exact hR _ tb _ λb o h1 h2 q=>(sO _ _ (cO h2)).trans (hk' b o (by simp[h1]) q)
 | succ k ih=>
  intro j m s tb c hk hj hst hL hS hR;have hlt:j+1<vs.length:=by omega
  refine wR Pb ?_;rw[Dv xg _];refine Yg (Dc hS rfl ?_);refine Yg (Dd (W.item (j+1) s _ _ (by rw[Yo];exact hlt) ⟨hst,hL⟩ λv h' tk hP hst' hk'=>?_));have hS':=hk' S _ (by simp[hSI]) hS;obtain⟨x,t,hx,rfl⟩:∃x t,ns[j+1]?=Ya x/\v= .int x t:=by rw[Wf]at hP;obtain⟨x,t,e,hx⟩:=hi.at (j+1) v hP;exact⟨x,t,hx,e⟩
  have ed:ns.drop (j+1)=x::ns.drop (j+1+1):=by have hl:j+1<ns.length:=(Yf.mp hx).1;rw[yU hl,(Yf.mp hx).2]
  rw[ed,qJ]at hR;refine Yg (Yt ?_);refine Yg (Dd (gW (Yg (Zsr ?_))));refine Yg (gW (pJ ?_));refine Yg (Hv (Yt ?_));by_cases hb:x>m
  .rw[if_pos hb]at hR;rw[decide_eq_true hb];simp only[if_true];refine Yg ?_;refine Nx hS' rfl (Yg (Hv ?_));rw[Kd];refine Yt ⟨Df xg _,ih (j+1) x _ t _ (by omega) hlt (hst'.1.at λo e=>(sO _ _ hSI).trans e) (hst'.2.at λo e=>(sO _ _ Ba).trans e) (HY _ hS' rfl) λh'' t' tk' hk''=>?_⟩;exact hR h'' t' tk' λb o h1 h2 q=>hk'' b o h1 h2 ((sO _ _ (cO h2)).trans (hk' b o (by simp[h1]) q))
  .rw[if_neg hb]at hR;rw[decide_eq_false hb];simp only[zu,if_false];refine Yg (Hv ?_);rw[Kd];refine Yt ⟨Df xg _,ih (j+1) m _ tb c (by omega) hlt hst'.1 hst'.2 hS' λh'' t' tk' hk''=>?_⟩;exact hR h'' t' tk' λb o h1 h2 q=>hk'' b o h1 h2 (hk' b o (by simp[h1]) q)
end
section
variable {prog:bD} {w:bw} {A:bJ} {E:Yh->Yj->Prop} {s:Yj} {L:Y1} {vs:List Yh} {ns:List Int} {k:Int} {td:fD}
theorem ZoG(hh:A.handled=Yn)(hL:s.heap.IsList L vs.toArray)(hi:IntsAre vs ns)(h:∀h' t tk,(∀b o,s.heap.get? b=Ya o->h'.get? b=Ya o)->Q (.int (vK k ns) t) {s with heap:=h',toks:=tk}):ao (au prog w) A (call (.builtin "max") [.ref L] [("default",.int k td)]) Q E s:=by
 have hh1:A.in1.handled=Yn:=hh;have hlt:L<s.heap.objs.size:=by obtain⟨_,e,_⟩:=hL;exact Y3 e
 refine Dg (Ho F.plain_max F.entry_max (Hu (Zm8 _ _) ?_));refine Yg (Hu (show Builtin.Builtins.bindParams "max" ["key","default"] 0 ⟨[],[("default",.int k td)]⟩=pure [Yn,Ya (.int k td)]from rfl) ?_);refine Yg (Yt ?_);refine Yg (uN hL ?_);refine Yg (su ?_);rw[Kd]
 let h1:=s.heap.push {cls:=.type "list_iterator",data:=.fields #[.ref L,.int 0 0]}
 let h2:=h1.push {cls:=.type "list",data:=.seq #[]}
 have e1:h1.objs.size=s.heap.objs.size+1:=wZ ..;have up:∀b o,s.heap.get? b=Ya o->h2.get? b=Ya o:=λb o q=>Yl _ (Yl _ q);have hI:h2.IsListIter s.heap.objs.size L 0:=⟨_,Yl _ (Y2 _ rfl),rfl,rfl⟩;have hL2:h2.IsList L vs.toArray:=(hL.push _).push _;have hS:h2.get? h1.objs.size=Ya {cls:=.type "list",dict:=Yn,data:=.seq #[] 0,slots:=#[]}:=Y2 _ rfl;have hLI:L≠s.heap.objs.size:=dw hlt;have ls:s.heap.objs.size<h1.objs.size:=e1▸Dj _;have hSI:h1.objs.size≠s.heap.objs.size:=Dm ls;have Ba:h1.objs.size≠L:=Dm (m_ hlt ls);have W:=Iw (prog:=prog) (w:=w) (A:=A.in1) hh1 s.heap.objs.size L hLI vs.toArray;have old:∀{h':aN},(∀b o,b≠s.heap.objs.size->b≠h1.objs.size->h2.get? b=Ya o->h'.get? b=Ya o)->∀b o,s.heap.get? b=Ya o->h'.get? b=Ya o:=λhk b o q=>by exact hk b o (dw (Y3 q)) (dw (m_ (Y3 q) ls)) (up b o q)
 refine Yt ⟨Df xg _,wR Pb ?_⟩;rw[Dv xg _];refine Yg (Dc hS rfl ?_);cases hi with
 |nil=>refine Yg (Dd (W.done _ _ _ ⟨hI,hL2⟩ λh' tk hk=>?_));refine Yg (Hw (Yt ?_));exact h h' td tk (old λb o h1 h2 q=>hk b o (by simp[h1]) q)|cons n t hr=>
  refine Yg (Dd (W.item 0 _ _ _ (by simp) ⟨hI,hL2⟩ λv h' tk hP hst hk=>?_));have hS':=hk _ _ (by simp[hSI]) hS;obtain rfl:v= .int n t:=by simpa using hP.symm
  refine Yg (Yt ?_);refine Yg ?_;refine Nx hS' rfl ?_;rw[Kd];refine Yt ⟨Df xg _,ZrW hh1 hLI hSI Ba (.cons n t hr) _ 0 n _ t _ rfl (by simp) (hst.1.at λo e=>(sO _ _ hSI).trans e) (hst.2.at λo e=>(sO _ _ Ba).trans e) (HY _ hS' rfl) λh'' t' tk' hk''=>?_⟩;exact h h'' t' tk' (old λb o h1 h2 q=>hk'' b o h1 h2 ((sO _ _ (cO h2)).trans (hk b o (by simp[h1]) q)))
end
section
variable {X:Cx} {a:Expr} {p pos kp cp:aU} {f:E3} {k:Int}
def Zvz(K:Yb)(k:Int)(ta:TA):TE:=λσ H Q=>ta σ H λvs H1=>∃b xs ns,vs=[.ref b]/\bB K H1 b xs/\(∀us,Vals xs us->IntsAre us ns)/\Q (.int (vK k ns)) H1
theorem ZkX{M:Model}{A:bJ}{s:Yj}{env:eV}{T:String}{e:Expr}{kws:List Keyword}(h:ao M A (HB (bZ pos (Yw [e] env))) (λvs s₁=>ao M A (HF ((iQ pos (iK kws env)).map (·.2)))
   (λkvs s₂=>ao M A (call (.builtin T) vs (((iQ pos (iK kws env)).filterMap (·.1)).zip kvs)) Q E s₂) E s₁) E s)(he:bZ pos (Yw [e] env)=[(false,aF e env)])(hall:(iQ pos (iK kws env)).all (·.1.isSome)=true)(hkw:(iQ pos (iK kws env)).any (·.1.isNone)=false):
  ao M A (Hy pos (.builtin T) [] (bZ pos (Yw [e] env)) (iQ pos (iK kws env))) Q E s:=by
 rw[he]at h ⊢;unfold Hy;refine Yg (gW (ju (Xi (Q:=λa s₁=>ao M A (call (.builtin T) a.pos a.kw) Q E s₁) hall h) (λa s₁ h₁=>Yg (uP ?_)) λ_ _ x=>x));simp only[hkw,kh,List.any_nil,Ia];refine Yg (Yt (Yg ?_));exact ju h₁ (λr s₂ hr=>Yg (gW (wpAny_point (Yt hr)))) λ_ _ x=>x
theorem Zsg{ta:TA}{j}(hg:Gl X "max")(hm:X.mg "max" =Yn)(hc:X.calm=true)(ha:PA X [a] ta)(he:bZ pos (Yw [a] X.env)=[(false,aF a X.env)]):
  PE X (.Call (.Name "max" p) [a] [⟨Ya "default",.Constant (.int k) j cp,kp⟩] pos) (Zvz X.K k ta):=by
 intro pins s σ H R I h;refine za (xF I hg hm boot_max (ZkX (aD (ha pos pins s σ H _ I h) λus s1 ak=>?_) he rfl rfl));obtain⟨vs,H1,I1,r1,q1⟩:=ak;refine aD ((ZnX (nm:=Ya "default") (kpos:=kp) (Qe (j:=j) (pos:=cp) (i:=k)) Zqv) pos pins s1 σ H1 (λzs H'=>zs=[.int k]/\H'=H1) I1 ⟨rfl,rfl⟩) λws s2 Fw=>?_;obtain⟨zs,H2,I2,rz,rfl,rfl⟩:=Fw;obtain⟨b,xs,ns,e,hq,hi,q⟩:=q1;subst e;cases r1 with
 | cons r rr=>
  cases rr
  cases r
  cases rz with
  |cons r' rr=>
   cases rr
   obtain⟨t,rfl⟩:=r';obtain⟨its,rv,pl,hz⟩:=I2.list hq;refine ZoG (td:=t) (I2.ok.hd hc) pl.isList (hi its rv) λh' t' tk hk=>?_;exact⟨.int (vK k ns),H2,I2.kept (t':=tk) hk,⟨t',rfl⟩,q⟩
theorem ZpC{j}(hm:X.mg "max" =Yn)(h:C3 X a f)(hg:Gl X "max":=by rfl)(hc:X.calm=true:=by rfl)(he:bZ pos (Yw [a] X.env)=[(false,aF a X.env)]:=by rfl)(hs':Yw (a::[]) X.env=(false,aF a X.env)::Yw [] X.env:=by rfl):
  C3 X (.Call (.Name "max" p) [a] [⟨Ya "default",.Constant (.int k) j cp,kp⟩] pos) (aA (Ai k) (Zb f Zf)):=
 (Zsg hg hm hc (Zc h Zg hs') he).imp λσ H Q ak=>by
  obtain⟨ι,M,env,S,E,h⟩:=ak;refine⟨ι,M,env,S,E,?_⟩;have h:Zt X.K H ι Q ((Zb f Zf env M).bind λds M'=>Ai k ds M'):=h;cases q:Zb f Zf env M with
  |exc _ _=>rw[q]at h;exact h.elim|bad=>rw[q]at h;exact h.elim|ok ds M1=>
   rw[q]at h;intro vs H1 ι1 x1 S1 r1;have h:Zt X.K H ι Q (Ai k ds M1):=h
   match ds,h,r1 with
   |[],h,_=>exact h.elim|d1::d2::r,h,_=>cases d1<;>exact h.elim|[d],h,r1=>
    cases d with
    |ref n=>obtain⟨xs,hn,h⟩:=JT h;obtain⟨d,hd,h⟩:=Fj h;obtain⟨ns,hns,rfl⟩:=Mx.mp hd;obtain⟨v,ws,rfl,rv,RQ⟩:=r1;obtain⟨p,hp,rfl⟩:=rv.dH;obtain⟨us,e1,r2⟩:=S1.obj n _ p hn hp;rw[show ws=[]from RQ];exact⟨p,us,ns,rfl,.inl (.inl e1),λits rr=>ZjT hns r2 rr,Zt.ok (h.up x1) S1 Rep.int⟩|_=>exact h.elim
end
set_option maxRecDepth 100000
noncomputable def mJ:List aj->List aj->List aj
 |acc,[]=>acc|acc,x::r=>mJ (if acc.any (· ==x)then acc else acc++[x]) r
theorem any_put(acc:List aj)(x k:aj):(if acc.any (· ==x)=true then acc else acc++[x]).any (· ==k)=(acc.any (· ==k)|| decide (k=x)):=by
 by_cases c:acc.any (· ==x)=true
 .rw[if_pos c];by_cases e:k=x
  .rw[e,c];rfl
  .rw[decide_eq_false e,Ia]
 .rw[if_neg c,List.any_append];congr 1;by_cases e:k=x
  .subst e;simp
  .rw[decide_eq_false e];simp[cO e]
section
variable {prog:bD} {w:bw} {A:bJ} {R:sG->Yj->Prop} {I L S:Y1} {l:List (aj×fD)}
theorem Zsz(hh:A.in1.handled=Yn)(hLI:L≠I)(hSI:S≠I)(Ba:S≠L)(hb:l.length<=20):∀(k i:Nat) (acc:List aj) (s:Yj),l.length-i=k->i<=l.length->acc.length<=i->s.heap.IsListIter I L i->s.heap.IsList L (kj l).toArray->s.heap.SetOf (strKind prog w) S (λk=>acc.any (· ==k)) acc.length ->
  (∀h' tk,(∀b o,b≠I->b≠S->s.heap.get? b=Ya o->h'.get? b=Ya o)->h'.SetOf (strKind prog w) S (λk=>(mJ acc ((l.drop i).map (·.1))).any (· ==k)) (mJ acc ((l.drop i).map (·.1))).length->R (.ok (.ret .none)) {s with heap:=h',toks:=tk}) ->
  mq (au prog w) A (.builtin "set.update.loop" ⟨[.ref S,.ref I],[]⟩) R s:=by
 have W:=Iw (prog:=prog) (w:=w) (A:=A.in1) hh I L hLI (kj l).toArray;have sz:(kj l).toArray.size=l.length:=by simp[kj]
 intro k
 induction k with
 |zero=>
  intro i acc s hk hi ha hst hL hS hR;have hin:(kj l).toArray.size=i:=by omega
  refine wR Xu ?_;rw[Dv O1 _];refine Yg (W.done s _ _ (hin▸⟨hst,hL⟩) λh' tk hk'=>?_);have e:l.drop i=[]:=G9 (by omega);rw[e]at hR;obtain⟨o,es,ep,t,ho,rest⟩:=hS;exact Yt (hR h' tk (λb o h1 _ q=>hk' b o (by simp[h1]) q) ⟨o,es,ep,t,hk' S _ (by simp[hSI]) ho,rest⟩)
 | succ k ih=>
  intro i acc s hk hi ha hst hL hS hR;have hlt:i<l.length:=by omega
  refine wR Xu ?_;rw[Dv O1 _];refine Yg (W.item i s _ _ (by omega) ⟨hst,hL⟩ λv h' tk hP hst' hk'=>?_);have hv:v= .str (l[i]'hlt).1 (l[i]'hlt).2:=by rw[Wf]at hP;simp only[kj,jO,Y7 hlt,Mz]at hP;exact(Y6 hP).symm
  have ed:l.drop i=l[i]'hlt::l.drop (i+1):=yU hlt;rw[ed,Yu]at hR;generalize l[i]'hlt=q at hv hR;obtain⟨x,t⟩:=q;subst hv;have hS':h'.SetOf (strKind prog w) S (λk=>acc.any (· ==k)) acc.length:=by obtain⟨o,es,ep,tb,ho,rest⟩:=hS;exact⟨o,es,ep,tb,hk' S _ (by simp[hSI]) ho,rest⟩
  have hx:(strKind prog w).is x (.str x t)=true:=beq_self_eq_true x;have room:acc.length+1<Od:=by have:Od=4096:=rfl;omega
  refine Yg (gW ?_);unfold setAdd;refine gW ?_;refine Yg ((strKind prog w).pyHash (k:=x) hx ?_);refine wpAny_setAddHashed_of (knd:=strKind prog w) hx rfl hS' room λh'' sb hS2=>?_;refine Yt ⟨Df O1 _,ih (i+1) (if acc.any (· ==x)=true then acc else acc++[x]) _ (by omega) hlt ?_ (hst'.1.at λo e=>(sb.2 I (cO hSI)).trans e) (hst'.2.at λo e=>(sb.2 L (cO Ba)).trans e) ?_ λh3 tk3 hk3 hS3=>?_⟩
  .by_cases c:acc.any (· ==x)=true
   .rw[if_pos c];omega
   .rw[if_neg c,Ye,Y8];omega
  .refine SetOf_congr hS2 (λk=>(any_put acc x k).symm) ?_;by_cases c:acc.any (· ==x)=true
   .rw[if_pos c,if_pos c]
   .rw[if_neg c,if_neg c,Ye,Y8]
  .exact hR h3 tk3 (λb o h1 h2 q=>hk3 b o h1 h2 ((sb.2 b h2).trans (hk' b o (by simp[h1]) q))) hS3
end
noncomputable abbrev ql(led:Bool):aK:={cls:=.type "set",dict:=Yn,data:=.set #[] 0 (.fresh 0 0 led)}
section
variable {prog:bD} {w:bw} {A:bJ} {E:Yh->Yj->Prop} {s:Yj} {L:Y1} {l:List (aj×fD)}
theorem ZoI(hh:A.handled=Yn)(hl:s.heap.IsList L (kj l).toArray)(hb:l.length<=20)(led:Bool){R:sG->Yj->Prop}(h:∀h' tk,h'.SetOf (strKind prog w) s.heap.objs.size (λk=>(mJ [] (l.map (·.1))).any (· ==k)) (mJ [] (l.map (·.1))).length->(∀b o,s.heap.get? b=Ya o->h'.get? b=Ya o)->R (.ok (.ret .none)) {s with heap:=h',toks:=tk}):
  ao (au prog w) A.in1 (Builtin.«set.__init__» ⟨[.ref s.heap.objs.size,.ref L],[]⟩) (λfin s'=>match fin with| .done f=>R (.ok f) s'| .again c'=>c'.quiet=true/\mq (au prog w) A c' R s') (λe s'=>R (.error e) s') {s with heap:=s.heap.push (ql led)}:=by
 have hS:(s.heap.push (ql led)).get? s.heap.objs.size=Ya (ql led):=Y2 _ rfl;obtain⟨ol,hol,hcl,nl,hdl⟩:=hl;obtain⟨ocls,odict,odata,oslots⟩:=ol;simp only at hcl hdl;subst hcl hdl;have hol':(s.heap.push (ql led)).get? L=Ya {cls:=.type "list",dict:=odict,data:=.seq (kj l).toArray nl,slots:=oslots}:=Yl _ hol;have f1:=PySem.F.sub_list_set;have f2:=PySem.F.sub_list_frozenset;have f3:(Value.type "list" ==Value.type "dict")=false:=by decide
 have hl1:(s.heap.push (ql led)).IsList L (kj l).toArray:=⟨_,hol',rfl,nl,rfl⟩;have hlS:L<s.heap.objs.size:=Y3 hol;have e1:(s.heap.push (ql led)).objs.size=s.heap.objs.size+1:=wZ ..;have ls:s.heap.objs.size<(s.heap.push (ql led)).objs.size:=e1▸Dj _;unfold Builtin.«set.__init__» noKeywords Builtin.Frozenset.updateFrom;generalize hPI:zp=PI
 wp_walk
 subst hPI;refine uN hl1 ?_;refine Yg (wpAny_runValue ?_);refine Zsz (by simp[hh]) (dw (m_ hlS ls)) (dw ls) (Dm hlS) hb _ 0 [] _ rfl (fG _) (Ys _) ⟨_,Y2 _ rfl,rfl,rfl⟩ (hl1.push _) ?_ λh' tk hk hS'=>?_
 .exact SetOf_congr ((setObjOf_fresh (knd:=strKind prog w) led).setOf (Yl _ hS) (by unfold Od;omega)) (λ_=>rfl) rfl
 .refine Yt ?_;refine Yt (h h' tk hS' λb o q=>?_);have lb:=Y3 q;exact hk b o (dw (m_ lb ls)) (dw lb) (Yl _ (Yl _ q))
end
set_option maxHeartbeats 1600000 in
theorem ZoX{prog:bD}{w:bw}{A:bJ}{s:Yj}{L:Y1}{l:List (aj×fD)}(hh:A.handled=Yn)(hl:s.heap.IsList L (kj l).toArray)(hb:l.length<=20)(h:∀h' tk,h'.SetOf (strKind prog w) s.heap.objs.size (λk=>(mJ [] (l.map (·.1))).any (· ==k)) (mJ [] (l.map (·.1))).length->(∀b o,s.heap.get? b=Ya o->h'.get? b=Ya o)->Q (.ref s.heap.objs.size) {s with heap:=h',toks:=tk}):
  ao (au prog w) A (call (.type "set") [.ref L]) Q E s:=by
 obtain⟨c,tl,hmro⟩:=PySem.F.called_set.mro;have g1:=PySem.F.called_set.made;have g2:=PySem.F.called_set.sub;have g3:=PySem.F.called_set.notType;have g4:=PySem.F.called_set.canCreate;have g5:=PySem.F.typeCall_set_1 (.ref L);refine Dg (WR (Yt ⟨ZK _ (by decide +kernel),wR PySem.F.entry_type_call ?_⟩));rw[X5 (Wx "set" [.ref L] []) rfl]
 repeat(any_goals(first|assumption|wp_step))
 refine uQ (code_set_new_1 (.ref L) (E:=E) (Q₁:=λo s1=>∃led,o= .ref s.heap.objs.size/\s1={s with heap:=s.heap.push (ql led)}) λled=>⟨led,rfl,rfl⟩) λr s1 hr=>?_;cases r with
 |error e=>exact hr|ok fl=>cases fl with
  | ret o=>
   obtain⟨led,rfl,rfl⟩:=hr;have hS:(s.heap.push (ql led)).get? s.heap.objs.size=Ya (ql led):=Y2 _ rfl;have hT:Shared.TypeIs {s with heap:=s.heap.push (ql led)} (.ref s.heap.objs.size) "set":=⟨_,hS,rfl⟩;have k1:=PySem.F.called_set.init.lookup;have k2:=PySem.F.called_set.init.bind (.ref s.heap.objs.size)
   repeat(any_goals(first|assumption|wp_step))
   refine uQ (Ho (R:=wants (λr s2=>r= .none/\∃h' tk,s2={s with heap:=h',toks:=tk}/\h'.SetOf (strKind prog w) s.heap.objs.size (λk=>(mJ [] (l.map (·.1))).any (· ==k)) (mJ [] (l.map (·.1))).length/\∀b o,s.heap.get? b=Ya o->h'.get? b=Ya o) E) PySem.F.called_set.init.plain PySem.F.entry_set_init (check_set_init_1 hT ?_)) λr2 s2 hr2=>?_
   .exact ZoI (by simp[hh]) hl hb led λh' tk a b=>⟨rfl,h',tk,rfl,a,b⟩
   .cases r2 with
    |error e=>exact hr2|ok f2=>cases f2 with
     |ret r=>
      obtain⟨rfl,h',tk,rfl,a,b⟩:=hr2
      repeat(any_goals(first|assumption|wp_step))
      exact h _ _ a b
     |_=>exact hr2.elim
  |_=>exact hr.elim
noncomputable def Ke(X:Cx)(p:Y1)(n:Nat):HO:=.ext λh=>∃S,h.SetOf (strKind X.prog X.w) p S n
section
variable {X:Cx} {a:Expr} {p p2 q pos:aU} {f:E3}
theorem Zjq:∀{x:List D} {ts:List (List Nat)},g_ x=Ya ts->ts.length=x.length
 |[],ts,h=>by cases h;rfl|.str y::x,ts,h=>by have h:(g_ x).map (y:: ·)=Ya ts:=h;obtain⟨r,hr,rfl⟩:=Mx.mp h;rw[Yp,Yp,Zjq hr]
 | .non::_,_,h=>nomatch h|.bl _::_,_,h=>nomatch h|.int _::_,_,h=>nomatch h|.tup _::_,_,h=>nomatch h
 | .aY _::_,_,h=>nomatch h|.ref _::_,_,h=>nomatch h
theorem ZoH(hc:X.calm=true):L2.cQ X (.type "set") (λxs H Q=>∃b ys sts,xs=[.ref b]/\bB X.K H b ys/\(∀us,Vals ys us->∃l:List (aj×fD),us=kj l/\l.map (·.1)=sts)/\sts.length<=20/\∀p,H p=Yn->Q (.ref p) (upd H p (Ke X p (mJ [] sts).length))):=by
 intro pins s σ H xs us Q I r h;obtain⟨b,ys,sts,rfl,hq,hi,hl,q⟩:=h;obtain⟨u,rfl,ru⟩:=vals1 r;cases ru;obtain⟨its,rv,pl,hz⟩:=I.list hq;obtain⟨l,rfl,rfl⟩:=hi its rv;rw[Yv]at hl;refine ZoX (I.ok.hd hc) pl.isList hl λh' tk hS hk=>?_;refine⟨.ref s.heap.objs.size,_,I.laid (t':=tk) (o:=Ke X s.heap.objs.size (mJ [] (l.map (·.1))).length) hk (Ys _) ⟨⟨_,hS⟩,?_,?_⟩,rfl,q _ (I.hok.fresh (Ys _))⟩
 .obtain⟨o,_,_,_,ho,_⟩:=hS;exact⟨o,ho⟩
 .intro _ _ z kk;obtain⟨S,o,es,ep,t,ho,rest⟩:=z;exact⟨S,o,es,ep,t,kk o ho,rest⟩
theorem Zo4:L2.cQ X (.builtin "len") (λxs H Q=>∃p n,xs=[.ref p]/\H p=Ya (Ke X p n)/\n<=20/\Q (.int (n:Int)) H):=by intro pins s σ H xs us Q I r h;obtain⟨p,n,rfl,hp,hn,q⟩:=h;obtain⟨u,rfl,ru⟩:=vals1 r;cases ru;obtain⟨⟨S,o,es,ep,t,ho,hex,hd,_,_,_,hf,hsz⟩,_⟩:=I.hok p _ hp;subst hsz;refine call_len_set ho hex hd hf (by omega) ?_;exact⟨.int (es.size:Int),H,(I.tok _).tok _,⟨_,rfl⟩,q⟩
theorem RT:∀(xs acc:List (List Nat)),(mJ (acc.map λt=>(⟨t.toArray⟩:aj)) (xs.map λt=>(⟨t.toArray⟩:aj))).length=(unlike acc xs).length
 |[],acc=>Yv ..|x ::r,acc=>by
  have e:(acc.map λt=>(⟨t.toArray⟩:aj)).any (· ==(⟨x.toArray⟩:aj))=acc.contains x:=by
   induction acc with
   |nil=>rfl|cons y acc ih=>
    rw[Yu,kh,List.contains_cons,ih];congr 1;by_cases c:y=x
    .subst c;simp
    .have:(⟨y.toArray⟩:aj)≠⟨x.toArray⟩:=λz=>c (by injection z with z;simpa using congrArg zF z)
     rw[beq_eq_false_iff_ne.mpr this,beq_eq_false_iff_ne.mpr (cO c)]
  show(mJ (if(acc.map λt=>(⟨t.toArray⟩:aj)).any (· ==(⟨x.toArray⟩:aj))then _ else _) _).length=(unlike (if acc.contains x then acc else acc++[x]) r).length;rw[e];by_cases c:acc.contains x=true
  .rw[if_pos c,if_pos c];exact RT r acc
  .rw[if_neg c,if_neg c];have:=RT r (acc++[x]);rw[jR]at this;exact this
theorem Zii:∀(xs acc:List (List Nat)),(unlike acc xs).length<=acc.length+xs.length
 |[],acc=>m9 _ _|x::r,acc=>by
  show(unlike (if acc.contains x then acc else acc++[x]) r).length<=_;have h:=Zii r (if acc.contains x then acc else acc++[x]);have k:(if acc.contains x then acc else acc++[x]).length<=acc.length+1:=by
   by_cases c:acc.contains x=true
   .rw[if_pos c];omega
   .rw[if_neg c,Ye,Y8];exact Ys _
  rw[Yp];omega
theorem Zps(hm:X.mg "len" =Yn)(hm2:X.mg "set" =Yn)(h:C3 X a f)(hc:X.calm=true:=by rfl)(hg:Gl X "len":=by rfl)(hg2:Gl X "set":=by rfl)(hs:Yw [a] X.env=(false,aF a X.env)::Yw [] X.env:=by rfl)(hs2:Yw [.Call (.Name "set" p2) [a] [] q] X.env=(false,aF (.Call (.Name "set" p2) [a] [] q) X.env)::Yw [] X.env:=by rfl)(h1:(bZ q (Yw [] X.env)).any (·.1)=false:=by rfl)(h2:(bZ pos (Yw [] X.env)).any (·.1)=false:=by rfl):
  C3 X (.Call (.Name "len" p) [.Call (.Name "set" p2) [a] [] q] [] pos) (aA JL (Zb f Zf)):=
 (Jm (r:=λxs H Q=>∃p n,xs=[.ref p]/\H p=Ya (Ke X p n)/\n<=20/\Q (.int (n:Int)) H) Zo4 hg hm e_ (vy (ZjU (ZoH hc) hg2 hm2 (by decide +kernel) (Zc h Zg hs) (by decide) (by decide) hs h1) Ea hs2) (by decide) (by decide) hs2 h2).imp λσ H Q ak=>by
  obtain⟨ι,M,env,S,E,h⟩:=ak;obtain⟨ds,M1,e1,h⟩:=Zt.bind h;refine⟨ι,M,env,S,E,?_⟩;rw[e1];intro vs H1 ι1 x1 S1 r1
  match ds,h,r1 with
  |[],h,_=>exact h.elim|d1::d2::r,h,_=>cases d1<;>exact h.elim|[d],h,r1=>
   cases d with
   |ref n=>
    obtain⟨xs,hn,h⟩:=JT h;obtain⟨d,hd,h⟩:=Fj h;obtain⟨hl,h⟩:=vP h;obtain⟨ts,hts,rfl⟩:=Mx.mp hd;obtain⟨v,ws,rfl,rv,RQ⟩:=r1;obtain⟨p,hp,rfl⟩:=rv.dH;obtain⟨us,e2,r2⟩:=S1.obj n _ p hn hp;rw[show ws=[]from RQ];have tl:ts.length<=20:=by rw[Zjq hts];exact hl
    refine⟨p,us,ts.map λt=>(⟨t.toArray⟩:aj),rfl,.inl (.inl e2),λits rr=>J7 hts r2 rr,by rw[Yv];exact tl,λz hz=>?_⟩;have e3:(mJ [] (ts.map λt=>(⟨t.toArray⟩:aj))).length=(unlike [] ts).length:=RT ts [];have l3:(unlike [] ts).length<=20:=Yk (Zii ts []) (by rw[yZ,u9];exact tl);refine⟨z,_,rfl,pR,by rw[e3];exact l3,?_⟩;rw[e3];exact h _ _ ι1 (x1.trans (Loose.ext (.inl hz))) (S1.other (.inl hz) (S1.fresh hz)) Rep.int
   |_=>exact h.elim
end
section
variable {prog:bD} {w:bw} {A:bJ} {E:Yh->Yj->Prop} {s:Yj} {a:Y1} {tk:fD}
theorem Zol{R:δ->Yh->Prop}{T:List (aj×δ)}{k:aj}{Q:Bool->Yj->Prop}(h:pQ R s.heap a T)(q:Q (ni k T).isSome {s with toks:=s.toks+1}):ao (au prog w) A (Hz (.ref a) (.str k tk)) Q E s:=by
 unfold Hz
 try with_reducible refine gW ?_
 refine Yg (Nv (rD h) PySem.F.slot_dict_contains.lookup ?_);show ao _ _ (if(Ya (Value.builtin "dict.__contains__")==Ya Value.none)=true then _ else _) _ E s;rw[if_neg (by rw[beq_builtin_none];exact kI)];refine Yg (wpAny_callSpecialUnlessNone?_slot (name:=pP "__contains__") (rD h) Xv
  (uO Xv (rD h) PySem.F.entry_dict_contains ?_ (args_dict_contains _ _)))
 show ao _ _ (uW a (.str k tk)>>=_) _ _ s;refine Yg (Zip h (λd v e _=>?_) λe=>?_)
 .rw[e]at q;show ao _ _ (ret (.bool true)) _ _ _;exact Yt ⟨_,rfl,pJ q⟩
 .rw[e]at q;show ao _ _ (Builtin.Dict.pendingKey? a (.str k tk)>>=_) _ _ _;exact Yg (wpAny_pendingKey_other h.1 (Yt ⟨_,rfl,pJ q⟩))
theorem Zpc{R:δ->Yh->Prop}{T:List (aj×δ)}{k:aj}{d:δ}(h:pQ R s.heap a T)(e:ni k T=Ya d)(h1:∀v,R d v->Q v {s with toks:=s.toks+1}):ao (au prog w) A (pM (.ref a) (.str k tk)) Q E s:=by
 unfold pM
 try with_reducible refine gW ?_
 refine Yg (Nt (rD h) (by decide) ?_);refine Yg (wO (name:=pP "__getitem__") (rD h) Xw
  (uO Xw (rD h) PySem.F.entry_dict_getitem ?_ (PySem.F.args_dict_getitem_2 _ _)))
 show ao _ _ (uW a (.str k tk)>>=λo=>_) _ _ s;refine Yg (Zip h (λd' v e' r=>?_) λe'=>by rw[e]at e';cases e');rw[e]at e';cases e';exact Yt ⟨v,rfl,Yt (h1 v r)⟩
end
section
variable {X:Cx} {e:Expr} {x:aj} {a:Y1} {t:jZ} {npos pos:aU} {g:E3}
def RV(t:jZ)(a:Y1)(p:Bool->Bool):R2:=λx y H Q=>y= .ref a/\∃k,x= .str ⟨k.toArray⟩/\Q (.bl (p (dO k t).isSome)) H
theorem ZnZ(ht:lU X.K a t):aP X (eU .In) (RV t a λb=>b):=by intro pins s σ H x y v u Q I rx ry h;obtain⟨rfl,k,rfl,q⟩:=h;obtain⟨tk,rfl⟩:=rx;obtain rfl:u= .ref a:=ry;show ao _ _ ((do return Value.bool (←Hz (.ref a) (.str ⟨k.toArray⟩ tk))):oK Yh) _ _ _;refine Yg (Zol (ht.at I.dU) (Yt ⟨.bl (ni (⟨k.toArray⟩:aj) (Az t)).isSome,H,I.tok _,rfl,?_⟩));rw[A_];exact q
theorem Zms(ht:lU X.K a t):aP X (eU .NotIn) (RV t a λb=>!b):=by intro pins s σ H x y v u Q I rx ry h;obtain⟨rfl,k,rfl,q⟩:=h;obtain⟨tk,rfl⟩:=rx;obtain rfl:u= .ref a:=ry;show ao _ _ ((do return Value.bool (!(←Hz (.ref a) (.str ⟨k.toArray⟩ tk)))):oK Yh) _ _ _;refine Yg (Zol (ht.at I.dU) (Yt ⟨.bl (!(ni (⟨k.toArray⟩:aj) (Az t)).isSome),H,I.tok _,rfl,?_⟩));rw[A_];exact q
theorem RX{p:Bool->Bool}{q:D->Store->R3 D}(hq:∀d M,q d M=(match d with| .str k=>.ok (.bl (p (dO k t).isSome)) M|_=>.bad))(σ:St)(H:Hp)(Q:VK)(h:lO X.K (e1 q g) σ H Q):zN (RV t a p) (lO X.K g) (tC (.ref a)) σ H Q:=by
 obtain⟨ι,M,env,S,E,h⟩:=h;obtain⟨d,M1,e1,h⟩:=Zt.bind h;refine⟨ι,M,env,S,E,?_⟩;rw[e1];intro y H1 ι1 x1 S1 r1;rw[hq]at h;cases d with
 |str k=>
  cases r1.str_inv
  exact⟨rfl,k,rfl,h _ H1 ι1 x1 S1 Rep.bl⟩
 |_=>exact h.elim
section
variable (hm:X.mg x=Ya (.ref a)) (ht:lU X.K a t) (he:C3 X e g)
include hm ht he
theorem ZsJ(hg:Gl X x:=by rfl)(hd:(x==("__debug__":aj))=false:=by decide)(hb:wU .In (.Name x npos)=false:=by rfl):C3 X (.Compare e [.In] [.Name x npos] pos) (e1 (tW t) g):=(Zn4 (ZnZ ht) he (zK (v:=.ref a) hg hm rfl hd) hb).imp (RX λd _=>by cases d<;>rfl)
theorem Zrd(hg:Gl X x:=by rfl)(hd:(x==("__debug__":aj))=false:=by decide)(hb:wU .In (.Name x npos)=false:=by rfl):CT X (.Compare e [.In] [.Name x npos] pos) (e1 (tW t) g):=(Qo (ZnZ ht) he (zK (v:=.ref a) hg hm rfl hd) hb).imp λσ H Q ak=>by obtain⟨ι,M,env,S,E,h⟩:=ak;exact RX (λd _=>by cases d<;>rfl) σ H _ ⟨ι,M,env,S,E,Fd h⟩
theorem Zlh(hg:Gl X x:=by rfl)(hd:(x==("__debug__":aj))=false:=by decide)(hb:wU .NotIn (.Name x npos)=false:=by rfl):CT X (.Compare e [.NotIn] [.Name x npos] pos) (e1 (JM t) g):=(Qo (Zms ht) he (zK (v:=.ref a) hg hm rfl hd) hb).imp λσ H Q ak=>by obtain⟨ι,M,env,S,E,h⟩:=ak;exact RX (λd _=>by cases d<;>rfl) σ H _ ⟨ι,M,env,S,E,Fd h⟩
end
theorem Zrl{te:TE}(hm:X.mg x=Ya (.ref a))(ht:lU X.K a t)(he:PE X e te)(hs:Jv e)(hg:Gl X x)(hd:(x==("__debug__":aj))=false):
  PE X (.Subscript (.Name x npos) e pos) (λσ H Q=>te σ H λy H1=>∃k i,y= .str ⟨k.toArray⟩/\dO k t=Ya i/\Q (.int i) H1):=by
 intro pins s σ H Q I h;refine ZsF PySem.F.slot_dict_getitem.lookup hs (aD (zK (v:=.ref a) (u:=.ref a) hg hm rfl hd pins s σ H (λv H'=>v= .ref a/\H'=H) I ⟨rfl,rfl⟩) λu s1 ak=>?_);obtain⟨v,H1,I1,r1,rfl,rfl⟩:=ak;obtain rfl:u=Value.ref a:=r1;refine aD (he pins s1 σ H1 _ I1 h) λiv s2 Fw=>?_;obtain⟨y,H2,I2,ry,k,i,rfl,et,q⟩:=Fw;obtain⟨tk,rfl⟩:=ry;have T2:=ht.at I2.dU;refine⟨rD T2,Zpc T2 (d:=i) (by rw[A_,et]) λv rv=>?_⟩;obtain⟨t',rfl⟩:=rv;exact⟨.int i,H2,I2.tok _,⟨t',rfl⟩,q⟩
theorem Zr7(hm:X.mg x=Ya (.ref a))(ht:lU X.K a t)(he:C3 X e g)(hs:Jv e:=by exactλ_ _=>rfl)(hg:Gl X x:=by rfl)(hd:(x==("__debug__":aj))=false:=by decide):
  C3 X (.Subscript (.Name x npos) e pos) (e1 (E_ t) g):=(Zrl hm ht he hs hg hd).imp λσ H Q ak=>by
 obtain⟨ι,M,env,S,E,h⟩:=ak;obtain⟨d,M1,e1,h⟩:=Zt.bind h;refine⟨ι,M,env,S,E,?_⟩;rw[e1];intro y H1 ι1 x1 S1 r1;cases d with
 | str k=>
  cases r1.str_inv
  cases et:dO k t with
  |none=>have h:Zt X.K H ι Q (match dO k t with|some i=>.ok (.int i) M1|none=>.bad):=h;rw[et]at h;exact h.elim
  |some i=>have h:Zt X.K H ι Q (match dO k t with|some i=>.ok (.int i) M1|none=>.bad):=h;rw[et]at h;exact⟨k,i,rfl,et,h _ H1 ι1 x1 S1 Rep.int⟩
 |_=>exact h.elim
end
section
variable {X:Cx}
theorem RZ(hu:X.A.units+80<jw):aP X (eU .NotEq) (r2 X.K p_):=by
 intro pins s σ H x y v u Q I rx ry h;obtain⟨ι,M,a,b,S,ra,rb,h⟩:=h;have hu1:X.A.units<jw:=by omega
 unfold p_ at h;split at h
 next n m=>
  split at h
  next z h1 h2=>
   obtain⟨p,vs,its,_,eu,t,r1,v1⟩:=JW I S h1 ra rx;obtain⟨q,ws,its2,_,ev,t',r2,v2⟩:=JW I S h2 rb ry;cases z with
   |nil=>exact(Ra (k:=true) hu I S ra rb rx ry (by simp only[zU,h1,h2];rfl)).2 X.prog X.w X.xe _ ⟨.bl false,H,I,rfl,Zt.ok h S Rep.bl⟩|cons d ds=>rw[eu,ev];have hz:(its.toArray.size !=its2.toArray.size)=true:=bne_iff_ne.mpr λe=>absurd ((nP r1 v1).symm.trans (e.trans (nP r2 v2))) (by simp);exact ZC t t' hz hu1 X.prog X.w X.xe _ ⟨.bl true,H,I,rfl,Zt.ok h S Rep.bl⟩
  .exact h.elim
 .exact h.elim
end
section
variable {X:Cx} {o e:Expr} {es:List Expr} {f:E3} {gl:d8} {apos cpos:aU}
theorem Zrp:jF X "str.join" (rM X.K vM):=by
 intro pins s σ H x xs v us Q I rx rs h;obtain⟨ι,M,a,ds,S,ra,rd,h⟩:=h;unfold vM at h;split at h
 next sep z=>
  split at h
  next ts hs=>
   split at h
   next hz=>have:=ra.str_inv;subst this;obtain⟨w',ws,rfl,r1,r2⟩:=rd.cons_inv;have:=r2.nil_inv;subst this;obtain⟨t,rfl⟩:=rx;obtain⟨u,rfl,ru⟩:=vals1 rs;obtain⟨p,vs,its,ex,eu,ht,q1,v1⟩:=ye I r1 ru;subst eu;obtain⟨l,rfl,el⟩:=J7 hs q1 v1;have hok:=Zrf hz;rw[←el]at hok;unfold JoinOk at hok;rw[W9]at hok;obtain⟨ob,ho,hc,n,hd⟩:=ht;refine pK O7 (wX _ _ _) PySem.F.entry_str_join (PySem.F.args_str_join_2 _ _) (meets_str_join_tuple _ t p l hok) ⟨⟨ob,n,ho,hc,hd⟩,post_join l ⟨joinFit_length hok,λt' k=>⟨.str _,H,I.tok _,⟨t',rfl⟩,?_⟩⟩⟩;rw[el,Txt.join,ZF,J8];exact Zt.ok h S Rep.str
   .exact h.elim
  .exact h.elim
 .exact h.elim
theorem ZlT(ho:C3 X o f)(ha:CA X (e::es) gl)(hbase:mj o "join" X.env (aF o X.env)=aF o X.env:=by rfl)(hfew:((bZ cpos (Yw (e::es) X.env)).all (λx=>!x.1)&&(iQ cpos (iK [] X.env)).all (λx=>x.1.isSome)
   &&decide ((e::es).length+([]:List Keyword).length+(if([]:List Keyword).isEmpty then 0 else 1)<30))=true:=by rfl)(hline:(apos.endLine==cpos.line)=true:=by rfl)(hs:Yw (e::es) X.env=(false,aF e X.env)::Yw es X.env:=by rfl)(hplain:(bZ cpos (Yw es X.env)).any (·.1)=false:=by rfl):
  C3 X (.Call (.Attribute o "join" apos) (e::es) [] cpos) (aG g8 vM f gl):=
 (zR Il O7 XD Zrp ho ha hbase hfew hline hs hplain).imp (Aq J6)
end
end L3
set_option maxHeartbeats 400000
namespace Law
open PySem L3
noncomputable section
def uy:E3:=eC (.str [48,49,50,51,52,53,54,55,56,57])
def wF:E3:=eC (.str [97,98,99,100,101,102,103,104,105,106,107,108,109,110,111,112,113,114,115,116,117,118,119,120,121,122])
def nT:jZ:=[([119,104,101,110],2),([119,104,105,108,101],1)]
def wB:E3:=eC (.int 12)
def wC:E3:=eC (.int 6)
def qC:E3:=eC (.int 60)
def qD:E3:=eC (.int 8)
def uw:E3:=eC (.int 6)
def ux:E3:=eC (.int 60)
def nU:jZ:=[([97,100,100],2),([115,117,98],2),([109,111,114,101],2),([99,101,108,108],1)]
def j7:jZ:=[([115,101,116],1),([112,117,116],2),([116,101,108,108],1),([119,104,101,110],1),([101,108,115,101],0),([119,104,105,108,101],1),([101,110,100],0)]
def cT:List (List Nat):=[[116,97,107,101],[115,101,116],[112,117,116],[116,101,108,108],[119,104,101,110],[101,108,115,101],[119,104,105,108,101],[101,110,100],[97,100,100],[115,117,98],[109,111,114,101],[99,101,108,108]]
def t_:E3:=eC (.tup (cT.map D.str))
def Fx:S3:=Zr (aq 1 (jV (aG g8 qX (Za 0) (Zb (eC (.str [45])) (Zf))) (eN (Za 0) (dN (eC (.int 1))) (fW)) (Za 0))) (Zr (aJ (eG (e2 dD (aA aZ (Zb (Za 1) (Zf))) (eC (.int 1))) (e2 cu (aA aZ (Zb (Za 1) (Zf))) (qC))) (aX (eC (.bl false))) (aW)) (Zr (aJ (aG g8 qX (Za 1) (Zb (eC (.str [48])) (Zf))) (aX (e2 aV (Za 0) (eC (.str [48])))) (aW)) (aX (aA qW (Zb (fK (cV (Za 1)) 1 (cg 2) [] (e2 lz (Za 2) (uy))) (Zf))))))
def qm:F3:=bY 1 2 Fx
def R0:S3:=Zr (aq 1 (bf (Zf))) (Zr (aq 2 (eC (.int 0))) (Zr (p6 (cV (Za 0)) (cg 3) (Zr (aJ (e2 aV (Za 2) (eC (.int 0))) (Zr (aO (aG a_ Zz (Za 1) (Zb (bf (Zf)) (Zf)))) (aq 2 (eC (.int 1)))) (aW)) (Zr (aO (aG a_ Zz (e2 Zn (Za 1) (e1 cj (eC (.int 1)))) (Zb (Za 3) (Zf)))) (aq 2 (e2 aQ (e2 gZ (Za 2) (eC (.int 1))) (e2 (tV nU) (Za 3) (eC (.int 0)))))))) (aX (jV (e2 aV (Za 2) (eC (.int 0))) (fK (cV (Za 1)) 1 (cg 4) [] (aA gA (Zb (Za 4) (Zf)))) (eC .non)))))
def vX:F3:=bY 1 4 R0
def ZgW:S3:=aX (e1 (tW nU) (Za 0))
def Bb:F3:=bY 1 1 ZgW
def R4:S3:=aX (aM vX (Zb (eN (Za 0) (dN (eC (.int 1))) (fW)) (Zf)))
def Kf:F3:=bY 1 1 R4
def R5(rec:F3):S3:=Zr (aq 1 (aM Kf (Zb (Za 0) (Zf)))) (aX (aA (Ai 1) (Zb (vI (QZ (Za 1)) 2 (nF [2,3]) [] (e2 aQ (aM rec (Zb (Za 3) (Zf))) (Za 2))) (Zf))))
def yr:Nat->F3
 |0=>bY 1 2 tM|n+1=>bY 1 2 (R5 (yr n))
def Fy:F3:=yr 61
def Kg:S3:=Zr (aJ (eG (e2 dD (aA aZ (Zb (Za 0) (Zf))) (eC (.int 1))) (eG (e2 cu (aA aZ (Zb (Za 0) (Zf))) (qD)) (e2 lz (Za 0) (t_)))) (aX (eC (.bl false))) (aW)) (aX (aA qW (Zb (fK (cV (Za 0)) 1 (cg 1) [] (e2 lz (Za 1) (wF))) (Zf))))
def mK:F3:=bY 1 1 Kg
def R6:S3:=Zr (aq 1 (eN (e2 Zn (Za 0) (eC (.int 1))) (dN (eC (.int 1))) (fW))) (Zr (aJ (eG (e2 dD (aA aZ (Zb (Za 1) (Zf))) (eC (.int 1))) (eG (e2 cu (aA aZ (Zb (Za 1) (Zf))) (uw)) (e2 gq (aA JL (Zb (Za 1) (Zf))) (aA aZ (Zb (Za 1) (Zf)))))) (tM) (aW)) (Zr (aJ (e1 pY (aA qW (Zb (fK (cV (Za 1)) 1 (cg 2) [] (aM mK (Zb (Za 2) (Zf)))) (Zf)))) (tM) (aW)) (aX (aA gA (Zb (Za 1) (Zf))))))
def Kh:F3:=bY 1 2 R6
def ZeA:S3:=Zr (EY [66,108,111,99,107] [104,101,97,100] (Za 0) (Za 1)) (EY [66,108,111,99,107] [108,105,115,116,115] (Za 0) (bf (Zb (bf (Zf)) (Zf))))
def yt:F3:=bY 2 2 ZeA
def R7:S3:=Zr (aJ (e1 pY (aA qW (Zb (fK (cV (Za 0)) 1 (cg 3) [] (eG (aM Bb (Zb (Za 3) (Zf))) (eG (aM mK (Zb (Za 3) (Zf))) (aM qm (Zb (Za 3) (Zf)))))) (Zf)))) (aX (eC .non)) (aW)) (Zr (aq 1 (aM vX (Zb (fK (cV (Za 0)) 1 (cg 3) [] (jV (aM qm (Zb (Za 3) (Zf))) (aA tU (Zb (Za 3) (Zf))) (Za 3))) (Zf)))) (Zr (aJ (e2 nC (Za 1) (eC .non)) (aX (eC .non)) (aW)) (Zr (aq 2 (vI (QZ (Za 1)) 2 (nF [3,4]) [] (e2 aQ (aM Fy (Zb (Za 4) (Zf))) (Za 3)))) (aX (jV (e2 nA (aA (Ai 0) (Zb (Za 2) (Zf))) (wC)) (Za 1) (eC .non))))))
def Kl:F3:=bY 1 3 R7
def R8:S3:=Zr (aJ (eG (e1 (JM j7) (e2 Zn (Za 0) (eC (.int 0)))) (e2 cu (aA aZ (Zb (Za 0) (Zf))) (ux))) (aX (eC .non)) (aW)) (Zr (aq 1 (jV (e2 aV (e2 Zn (Za 0) (eC (.int 0))) (eC (.str [115,101,116]))) (eC (.int 2)) (eC (.int 1)))) (Zr (aJ (e1 pY (aA qW (Zb (fK (cV (eN (Za 0) (dN (eC (.int 1))) (dN (Za 1)))) 1 (cg 3) [] (aM mK (Zb (Za 3) (Zf)))) (Zf)))) (aX (eC .non)) (aW)) (Zr (aq 2 (aM Kl (Zb (eN (Za 0) (dN (Za 1)) (fW)) (Zf)))) (Zr (aJ (eG (e2 nC (Za 2) (eC .non)) (e2 gq (aA aZ (Zb (Za 2) (Zf))) (e1 (E_ j7) (e2 Zn (Za 0) (eC (.int 0)))))) (aX (eC .non)) (aW)) (aX (aA gA (Zb (e2 aQ (eN (Za 0) (fW) (dN (Za 1))) (Za 2)) (Zf))))))))
def Fz:F3:=bY 1 3 R8
def R9:S3:=Zr (aq 2 (e2 Zn (Za 0) (e1 cj (eC (.int 1))))) (Zr (aq 3 (e2 aV (e2 (tV nT) (e2 Zn (e1 (jq [66,108,111,99,107] [104,101,97,100]) (Za 2)) (eC (.int 0))) (eC (.int 0))) (aA aZ (Zb (e1 (jq [66,108,111,99,107] [108,105,115,116,115]) (Za 2)) (Zf))))) (Zr (aJ (e1 (tW nT) (Za 1)) (aX (e2 nA (aA aZ (Zb (Za 0) (Zf))) (wB))) (aW)) (Zr (aJ (e2 aV (Za 1) (eC (.str [101,108,115,101]))) (aX (bC (e2 aV (e2 Zn (e1 (jq [66,108,111,99,107] [104,101,97,100]) (Za 2)) (eC (.int 0))) (eC (.str [119,104,101,110]))) (e1 pY (Za 3)))) (aW)) (Zr (aJ (e2 aV (Za 1) (eC (.str [101,110,100]))) (aX (Za 3)) (aW)) (aX (eC (.bl true)))))))
def Bc:F3:=bY 2 4 R9
def yu:S3:=Zr (aq 2 (e2 Zn (Za 0) (e1 cj (eC (.int 1))))) (aJ (e1 (tW nT) (e2 Zn (Za 1) (eC (.int 0)))) (aO (aG a_ Zz (Za 0) (Zb (Ah [66,108,111,99,107] yt (Zb (Za 1) (Zf))) (Zf)))) (aJ (e2 aV (e2 Zn (Za 1) (eC (.int 0))) (eC (.str [101,108,115,101]))) (aO (aG a_ Zz (e1 (jq [66,108,111,99,107] [108,105,115,116,115]) (Za 2)) (Zb (bf (Zf)) (Zf)))) (aJ (e2 aV (e2 Zn (Za 1) (eC (.int 0))) (eC (.str [101,110,100]))) (Zr (aO (aG a_ oX (Za 0) (Zf))) (Zr (aq 3 (e2 aQ (e1 (jq [66,108,111,99,107] [104,101,97,100]) (Za 2)) (aA gA (Zb (fK (cV (e1 (jq [66,108,111,99,107] [108,105,115,116,115]) (Za 2))) 1 (cg 4) [] (aA gA (Zb (Za 4) (Zf)))) (Zf))))) (aO (aG a_ Zz (e2 Zn (e1 (jq [66,108,111,99,107] [108,105,115,116,115]) (e2 Zn (Za 0) (e1 cj (eC (.int 1))))) (e1 cj (eC (.int 1)))) (Zb (Za 3) (Zf)))))) (aO (aG a_ Zz (e2 Zn (e1 (jq [66,108,111,99,107] [108,105,115,116,115]) (Za 2)) (e1 cj (eC (.int 1)))) (Zb (Za 1) (Zf)))))))
def uc:F3:=bY 2 4 yu
def R_:S3:=Zr (aq 2 (bf (Zb (Ah [66,108,111,99,107] yt (Zb (fV (Zb (eC (.str [112,114,111,103,114,97,109])) (Zf))) (Zf))) (Zf)))) (Zr (p6 (cV (Za 0)) (nF [3,4]) (Zr (aq 5 (aM Fz (Zb (Za 4) (Zf)))) (Zr (aJ (eG (e2 nC (Za 5) (eC .non)) (e1 pY (aM Bc (Zb (Za 2) (Zb (e2 Zn (Za 5) (eC (.int 0))) (Zf)))))) (tM) (aW)) (aO (aM uc (Zb (Za 2) (Zb (Za 5) (Zf)))))))) (Zr (aJ (e2 cu (aA aZ (Zb (Za 2) (Zf))) (eC (.int 1))) (tM) (aW)) (aX (aA gA (Zb (e2 Zn (e1 (jq [66,108,111,99,107] [108,105,115,116,115]) (e2 Zn (Za 2) (eC (.int 0)))) (eC (.int 0))) (Zf))))))
def Km:F3:=bY 2 6 R_
def Ko:S3:=Zr (aq 1 (aG g8 vH (Za 0) (Zb (eC (.str [10])) (Zf)))) (Zr (aq 2 (vI (Q3 (Za 1)) 2 (nF [4,5]) [e2 gq (Za 5) (eC (.str []))] (fV (Zb (Za 4) (Zb (aG g8 vH (Za 5) (Zb (eC (.str [32])) (Zf))) (Zf)))))) (Zr (aq 3 (fV (Zf))) (Zr (aJ (bC (e2 cu (aA aZ (Zb (Za 2) (Zf))) (eC (.int 0))) (e2 aV (e2 Zn (e2 Zn (e2 Zn (Za 2) (eC (.int 0))) (eC (.int 1))) (eC (.int 0))) (eC (.str [116,97,107,101])))) (Zr (aq 3 (aM Kh (Zb (e2 Zn (Za 2) (eC (.int 0))) (Zf)))) (aq 2 (eN (Za 2) (dN (eC (.int 1))) (fW)))) (aW)) (aX (fV (Zb (Za 3) (Zb (aM Km (Zb (Za 2) (Zb (e2 aQ (aA aZ (Zb (Za 1) (Zf))) (eC (.int 1))) (Zf)))) (Zf))))))))
def Bd:F3:=bY 1 4 Ko
def Be:S3:=Zr (aq 1 (e2 Zn (Za 0) (eC (.int 0)))) (Zr (aq 2 (e2 Zn (Za 0) (eC (.int 1)))) (Zr (qY (Za 0) (eC (.int 1)) (e2 aQ (Za 2) (eC (.int 1)))) (Zr (aJ (e2 dD (Za 2) (aA aZ (Zb (Za 1) (Zf)))) (aX (e2 Zn (Za 1) (Za 2))) (aW)) (Zr (aJ (e2 aV (aA aZ (Zb (Za 1) (Zf))) (eC (.int 0))) (aX (e2 aQ (e2 iz (e2 iz (Za 2) (Za 2)) (eC (.int 3))) (Za 2))) (aW)) (aX (e2 aQ (e2 bG (e2 Zn (Za 1) (e2 Zy (Za 2) (aA aZ (Zb (Za 1) (Zf))))) (eC (.int 2))) (e2 iz (Za 2) (Za 2))))))))
def h_:F3:=bY 1 3 Be
def rE(rec:F3):S3:=Zr (aJ (e1 (Ey .tuple .list) (Za 1)) (Zr (aJ (eG (e2 gq (e1 (nD .tuple) (Za 0)) (e1 (nD .tuple) (Za 1))) (e1 pY (e1 (Ey .tuple .list) (Za 0)))) (aX (eC (.bl false))) (aW)) (aX (bC (e2 aV (aA aZ (Zb (Za 0) (Zf))) (aA aZ (Zb (Za 1) (Zf)))) (aA qW (Zb (fK (qZ (aA aZ (Zb (Za 1) (Zf)))) 1 (cg 2) [] (aM rec (Zb (e2 Zn (Za 0) (Za 2)) (Zb (e2 Zn (Za 1) (Za 2)) (Zf))))) (Zf)))))) (aW)) (Zr (aJ (e1 (nD .str) (Za 1)) (aX (bC (e1 (nD .str) (Za 0)) (e2 aV (Za 0) (Za 1)))) (aW)) (Zr (aJ (e1 (nD .bool) (Za 1)) (aX (bC (e1 (nD .bool) (Za 0)) (e2 aV (Za 0) (Za 1)))) (aW)) (aX (bC (e1 (nD .int) (Za 0)) (bC (e1 pY (e1 (nD .bool) (Za 0))) (e2 aV (Za 0) (Za 1)))))))
def pA:Nat->F3
 |0=>bY 2 2 tM|n+1=>bY 2 2 (rE (pA n))
def FJ:F3:=pA 31
def Sd:S3:=Zr (aq 1 (bf (Zb (eC (.str [116,97,107,101])) (Zb (eC (.str [115,101,116])) (Zb (eC (.str [112,117,116])) (Zb (eC (.str [116,101,108,108])) (Zb (eC (.str [119,104,101,110])) (Zb (eC (.str [101,108,115,101])) (Zb (eC (.str [119,104,105,108,101])) (Zb (eC (.str [101,110,100])) (Zb (eC (.str [97,100,100])) (Zb (eC (.str [115,117,98])) (Zb (eC (.str [109,111,114,101])) (Zb (eC (.str [99,101,108,108])) (Zf))))))))))))))) (Zr (aq 2 (eC (.str [97,98,99,100,101,102,103,104,105,106,107,108,109,110,111,112,113,114,115,116,117,118,119,120,121,122]))) (Zr (aq 3 (aM h_ (Zb (Za 0) (Zf)))) (Zr (aq 4 (e2 bG (Za 3) (eC (.int 4)))) (Zr (aq 5 (e2 Zn (Za 2) (e2 Zy (Za 4) (eC (.int 26))))) (Zr (aq 6 (e2 Zn (Za 2) (e2 Zy (e2 bG (Za 4) (eC (.int 26))) (eC (.int 26))))) (Zr (aq 7 (bf (Zf))) (Zr (p6 (qZ (eC (.int 12))) (cg 8) (Zr (aq 9 (e2 Zn (Za 2) (e2 Zy (e2 aQ (Za 4) (Za 8)) (eC (.int 26))))) (Zr (aq 10 (e2 iz (Za 9) (e2 aQ (eC (.int 1)) (e2 Zy (e2 bG (Za 4) (eC (.int 26))) (eC (.int 8)))))) (Zr (aJ (e2 aV (e2 Zy (Za 3) (eC (.int 4))) (eC (.int 1))) (aq 10 (e2 aQ (e2 Zn (Za 1) (e2 Zy (e2 aQ (Za 8) (Za 4)) (eC (.int 12)))) (Za 6))) (aW)) (Zr (aJ (e2 aV (e2 Zy (Za 3) (eC (.int 4))) (eC (.int 2))) (Zr (aq 10 (e2 aQ (e2 iz (Za 5) (e2 aQ (eC (.int 1)) (e2 Zy (Za 8) (eC (.int 8))))) (e2 iz (e2 Zn (Za 2) (e2 Zy (e2 aQ (Za 4) (eC (.int 1))) (eC (.int 26)))) (e2 bG (Za 8) (eC (.int 8)))))) (aq 10 (eN (Za 10) (fW) (dN (eC (.int 8)))))) (aW)) (Zr (aJ (e2 aV (e2 Zy (Za 3) (eC (.int 4))) (eC (.int 3))) (aq 10 (e2 aQ (e2 aQ (Za 6) (Za 9)) (e2 iz (e2 Zn (Za 2) (e2 Zy (e2 bG (Za 4) (eC (.int 7))) (eC (.int 26)))) (e2 Zy (e2 bG (Za 4) (eC (.int 676))) (eC (.int 7)))))) (aW)) (Zr (aJ (e2 xX (Za 10) (Za 1)) (aq 10 (e2 aQ (Za 10) (eC (.str [120])))) (aW)) (aO (aG a_ Zz (Za 7) (Zb (Za 10) (Zf))))))))))) (aX (Za 7)))))))))
def Kq:F3:=bY 1 11 Sd
def Sg:S3:=Zr (aq 1 (e2 Zy (e2 bG (Za 0) (eC (.int 4))) (e2 Jw (eC (.int 10)) (eC (.int 59))))) (aX (e2 Zn (bf (Zb (e2 Zy (e2 bG (Za 0) (eC (.int 4))) (eC (.int 12))) (Zb (e2 gZ (e1 cj (eC (.int 1))) (e2 Zy (e2 bG (Za 0) (eC (.int 4))) (eC (.int 12)))) (Zb (Za 1) (Zb (e2 gZ (e1 cj (eC (.int 1))) (Za 1)) (Zf)))))) (e2 Zy (Za 0) (eC (.int 4)))))
def vY:F3:=bY 1 2 Sg
def Sh:S3:=Zr (aq 4 (bf (Zf))) (Zr (aq 5 (bf (Zb (Za 2) (Zf)))) (Zr (QV (e2 gq (Za 5) (bf (Zf))) (Zr (aq 6 (aG a_ oX (Za 5) (Zf))) (Zr (aq 7 (aM h_ (Zb (Za 0) (Zf)))) (Zr (aq 8 (e2 gZ (e2 gZ (e2 gZ (Za 3) (aA aZ (Zb (Za 4) (Zf)))) (aA aZ (Zb (Za 5) (Zf)))) (eC (.int 1)))) (Zr (aq 9 (e2 Zy (Za 7) (eC (.int 9)))) (aJ (bC (e2 dD (Za 9) (eC (.int 3))) (bC (e2 cu (Za 6) (eC (.int 1))) (e2 cu (Za 8) (eC (.int 1))))) (Zr (aO (aG a_ Zz (Za 4) (Zb (e2 Zn (bf (Zb (eC (.str [97,100,100])) (Zb (eC (.str [115,117,98])) (Zb (eC (.str [109,111,114,101])) (Zf))))) (Za 9)) (Zf)))) (aO (aG a_ o4 (Za 5) (Zb (bf (Zb (e2 gZ (Za 6) (eC (.int 1))) (Zb (Za 6) (Zf)))) (Zf))))) (aJ (bC (e2 aV (Za 9) (eC (.int 3))) (e2 cu (Za 8) (eC (.int 0)))) (Zr (aO (aG a_ Zz (Za 4) (Zb (eC (.str [99,101,108,108])) (Zf)))) (aO (aG a_ Zz (Za 5) (Zb (Za 6) (Zf))))) (aJ (e2 dD (Za 9) (eC (.int 7))) (aO (aG a_ Zz (Za 4) (Zb (e2 Zn (Za 1) (e2 Zy (e2 bG (Za 7) (eC (.int 9))) (eC (.int 12)))) (Zf)))) (aO (aG a_ Zz (Za 4) (Zb (aM vY (Zb (e2 bG (Za 7) (eC (.int 9))) (Zf))) (Zf)))))))))))) (aX (aA gA (Zb (Za 4) (Zf))))))
def ud:F3:=bY 4 10 Sh
def Sq:S3:=Zr (aq 3 (e2 Zn (bf (Zb (eC (.int 3)) (Zb (eC (.int 3)) (Zb (eC (.int 7)) (Zb (eC (.int 20)) (Zf)))))) (e2 Zy (e2 bG (Za 2) (eC (.int 10))) (eC (.int 4))))) (Zr (aJ (e2 aV (e2 Zy (e2 bG (Za 2) (eC (.int 40))) (eC (.int 11))) (eC (.int 1))) (aq 3 (eC (.int 29))) (aW)) (Zr (aq 4 (aM ud (Zb (Za 0) (Zb (Za 1) (Zb (e2 aQ (eC (.int 1)) (e2 Zy (e2 bG (Za 2) (eC (.int 3))) (eC (.int 6)))) (Zb (Za 3) (Zf))))))) (Zr (aJ (e2 aV (e2 Zy (Za 2) (eC (.int 3))) (eC (.int 0))) (aX (fV (Zb (eC (.str [115,101,116])) (Zb (e2 Zn (Za 1) (e2 Zy (e2 bG (Za 2) (eC (.int 440))) (eC (.int 12)))) (Zb (Za 4) (Zf)))))) (aW)) (Zr (aJ (e2 aV (e2 Zy (Za 2) (eC (.int 3))) (eC (.int 1))) (aX (fV (Zb (eC (.str [112,117,116])) (Zb (Za 4) (Zb (aM ud (Zb (Za 0) (Zb (Za 1) (Zb (e2 aQ (eC (.int 1)) (e2 Zy (e2 bG (Za 2) (eC (.int 7))) (eC (.int 5)))) (Zb (Za 3) (Zf)))))) (Zf)))))) (aW)) (aX (fV (Zb (eC (.str [116,101,108,108])) (Zb (Za 4) (Zf)))))))))
def Kr:F3:=bY 3 5 Sq
def Ss:S3:=Zr (aq 1 (bf (Zb (e2 Zn (Za 0) (eC (.int 0))) (Zf)))) (Zr (p6 (cV (eN (Za 0) (dN (eC (.int 1))) (fW))) (cg 2) (aJ (e1 (nD .str) (Za 2)) (aO (aG a_ Zz (Za 1) (Zb (Za 2) (Zf)))) (aO (aG a_ o4 (Za 1) (Zb (fK (cV (Za 2)) 1 (cg 3) [] (aA xV (Zb (Za 3) (Zf)))) (Zf)))))) (aX (aG g8 Ae (eC (.str [32])) (Zb (Za 1) (Zf)))))
def FN:F3:=bY 1 3 Ss
def Su:S3:=Zr (p8 (e2 Zn (Za 0) (e1 cj (eC (.int 1)))) [2,3,4,5]) (Zr (aq 6 (fV (Zb (Za 2) (Zb (Za 3) (Zb (aA gA (Zb (Za 1) (Zf))) (Zf)))))) (Zr (aJ (e2 aV (Za 2) (eC (.str [119,104,101,110]))) (aq 6 (fV (Zb (Za 2) (Zb (Za 3) (Zb (Za 5) (Zb (aA gA (Zb (Za 1) (Zf))) (Zf))))))) (aW)) (aX (e2 aQ (Za 4) (bf (Zb (Za 6) (Zf)))))))
def vZ:F3:=bY 2 7 Su
def yw:S3:=Zr (aq 4 (aM h_ (Zb (Za 0) (Zf)))) (Zr (aq 5 (e2 Zy (Za 4) (eC (.int 10)))) (Zr (aJ (bC (e2 aV (Za 5) (eC (.int 8))) (bC (e2 p_ (Za 2) (bf (Zf))) (bC (e2 aV (e2 Zn (e2 Zn (Za 2) (e1 cj (eC (.int 1)))) (eC (.int 0))) (eC (.str [119,104,101,110]))) (e2 nC (e2 Zn (e2 Zn (Za 2) (e1 cj (eC (.int 1)))) (eC (.int 3))) (eC .non))))) (Zr (qY (e2 Zn (Za 2) (e1 cj (eC (.int 1)))) (eC (.int 3)) (aA gA (Zb (Za 3) (Zf)))) (aX (bf (Zb (eC (.str [101,108,115,101])) (Zb (bf (Zf)) (Zf)))))) (aW)) (Zr (aJ (bC (e2 cu (Za 5) (eC (.int 7))) (bC (e2 p_ (Za 2) (bf (Zf))) (eG (e2 aV (e2 Zn (e2 Zn (Za 2) (e1 cj (eC (.int 1)))) (eC (.int 0))) (eC (.str [119,104,105,108,101]))) (e2 Eg (e2 Zn (e2 Zn (Za 2) (e1 cj (eC (.int 1)))) (eC (.int 3))) (eC .non))))) (Zr (aq 3 (aM vZ (Zb (Za 2) (Zb (Za 3) (Zf))))) (Zr (aO (aG a_ oX (Za 2) (Zf))) (aX (bf (Zb (eC (.str [101,110,100])) (Zb (Za 3) (Zf))))))) (aW)) (Zr (aJ (bC (o5 nA dD (eC (.int 5)) (Za 5) (eC (.int 8))) (e2 dD (aA aZ (Zb (Za 2) (Zf))) (eC (.int 12)))) (Zr (aq 6 (aM ud (Zb (Za 0) (Zb (Za 1) (Zb (e2 aQ (eC (.int 1)) (e2 Zy (e2 bG (Za 4) (eC (.int 30))) (eC (.int 6)))) (Zb (e2 aQ (eC (.int 1)) (e2 Zy (e2 bG (Za 4) (eC (.int 10))) (eC (.int 9)))) (Zf))))))) (Zr (aq 7 (e2 Zn (bf (Zb (eC (.str [119,104,101,110])) (Zb (eC (.str [119,104,101,110])) (Zb (eC (.str [119,104,105,108,101])) (Zf))))) (e2 gZ (Za 5) (eC (.int 5))))) (Zr (aO (aG a_ Zz (Za 2) (Zb (bf (Zb (Za 7) (Zb (Za 6) (Zb (Za 3) (Zb (eC .non) (Zf)))))) (Zf)))) (aX (bf (Zb (aM FN (Zb (fV (Zb (Za 7) (Zb (Za 6) (Zf)))) (Zf))) (Zb (bf (Zf)) (Zf)))))))) (aW)) (Zr (aq 8 (aM Kr (Zb (Za 0) (Zb (Za 1) (Zb (e2 bG (Za 4) (eC (.int 10))) (Zf)))))) (aX (bf (Zb (aM FN (Zb (Za 8) (Zf))) (Zb (e2 aQ (Za 3) (bf (Zb (Za 8) (Zf)))) (Zf))))))))))
def yx:F3:=bY 4 9 yw
def Sv:S3:=Zr (aq 4 (bf (Zf))) (Zr (aq 5 (bf (Zf))) (Zr (aq 6 (bf (Zf))) (Zr (aq 7 (eC (.int 0))) (Zr (p6 (qZ (Za 2)) (cg 8) (Zr (aq 9 (fK (cV (Za 5)) 1 (cg 12) [] (aA tL (Zb (Za 12) (Zf))))) (Zr (p8 (aM yx (Zb (Za 0) (Zb (Za 1) (Zb (Za 5) (Zb (Za 6) (Zf)))))) [10,11]) (Zr (aJ (e2 cu (e2 aQ (Za 7) (aA aZ (Zb (Za 10) (Zf)))) (Za 3)) (Zr (aq 5 (Za 9)) (QT)) (aW)) (Zr (aq 6 (Za 11)) (Zr (aq 7 (e2 aQ (e2 aQ (Za 7) (aA aZ (Zb (Za 10) (Zf)))) (eC (.int 1)))) (aO (aG a_ Zz (Za 4) (Zb (Za 10) (Zf)))))))))) (Zr (QV (e2 p_ (Za 5) (bf (Zf))) (Zr (aJ (bC (e2 aV (e2 Zn (e2 Zn (Za 5) (e1 cj (eC (.int 1)))) (eC (.int 0))) (eC (.str [119,104,101,110]))) (e2 nC (e2 Zn (e2 Zn (Za 5) (e1 cj (eC (.int 1)))) (eC (.int 3))) (eC .non))) (Zr (qY (e2 Zn (Za 5) (e1 cj (eC (.int 1)))) (eC (.int 3)) (aA gA (Zb (Za 6) (Zf)))) (Zr (aq 6 (bf (Zf))) (aO (aG a_ Zz (Za 4) (Zb (eC (.str [101,108,115,101])) (Zf)))))) (aW)) (Zr (aq 6 (aM vZ (Zb (Za 5) (Zb (Za 6) (Zf))))) (Zr (aO (aG a_ oX (Za 5) (Zf))) (aO (aG a_ Zz (Za 4) (Zb (eC (.str [101,110,100])) (Zf)))))))) (aX (bf (Zb (Za 4) (Zb (aA gA (Zb (Za 6) (Zf))) (Zf))))))))))
def Ks:F3:=bY 4 12 Sv
def Sw:S3:=Zr (aq 2 (aM h_ (Zb (Za 0) (Zf)))) (aX (aA gA (Zb (fK (qZ (e2 Zy (Za 2) (eC (.int 7)))) 1 (cg 3) [] (e2 Zn (Za 1) (e2 Zy (e2 aQ (e2 bG (Za 2) (eC (.int 7))) (Za 3)) (eC (.int 12))))) (Zf))))
def Ku:F3:=bY 2 3 Sw
def Sx:S3:=Zr (aq 1 (bf (Zb (eN (Za 0) (fW) (dN (eC (.int 400)))) (Zb (eC (.int 0)) (Zf))))) (Zr (aq 2 (aM h_ (Zb (Za 1) (Zf)))) (Zr (aq 3 (aM Kq (Zb (Za 1) (Zf)))) (Zr (aq 4 (aM Ku (Zb (Za 1) (Zb (Za 3) (Zf))))) (Zr (p8 (aM Ks (Zb (Za 1) (Zb (Za 3) (Zb (aA aZ (Zb (eN (Za 0) (fW) (dN (eC (.int 400)))) (Zf))) (Zb (eC (.int 3400)) (Zf)))))) [5,6]) (Zr (aJ (e2 gq (Za 4) (fV (Zf))) (aq 5 (e2 aQ (bf (Zb (aG g8 vM (eC (.str [32])) (Zb (e2 aQ (fV (Zb (eC (.str [116,97,107,101])) (Zf))) (Za 4)) (Zf))) (Zf))) (Za 5))) (aW)) (Zr (aq 7 (bf (Zf))) (Zr (p6 (cV (Za 5)) (cg 8) (Zr (aJ (bC (e2 cu (e2 Zy (Za 2) (eC (.int 3))) (eC (.int 0))) (bC (e2 aV (e2 Zy (aM h_ (Zb (Za 1) (Zf))) (eC (.int 7))) (eC (.int 1))) (e2 dD (aA aZ (Zb (Za 7) (Zf))) (eC (.int 300))))) (aO (aG a_ Zz (Za 7) (Zb (eC (.str [])) (Zf)))) (aW)) (aO (aG a_ Zz (Za 7) (Zb (Za 8) (Zf)))))) (Zr (aJ (e2 aV (e2 Zy (e2 bG (Za 2) (eC (.int 3))) (eC (.int 3))) (eC (.int 1))) (aO (aG a_ Zz (Za 7) (Zb (eC (.str [])) (Zf)))) (aW)) (Zr (aq 7 (aG g8 Ae (eC (.str [10])) (Zb (Za 7) (Zf)))) (Zr (aq 9 (fV (Zb (Za 4) (Zb (Za 6) (Zf))))) (aX (bC (aM FJ (Zb (aM Bd (Zb (Za 7) (Zf))) (Zb (Za 9) (Zf)))) (aM FJ (Zb (aM Bd (Zb (Za 7) (Zf))) (Zb (Za 9) (Zf))))))))))))))))
def ZnR:F3:=bY 1 10 Sx
end
end Law
namespace Law
open PySem PySem.Spec PyProof.Rows L2 L3
noncomputable def top(i:Nat):Yep:=PySem.Challenge.pw_stepledger_k61_read.main.body.getD i (.Pass ⟨0,0,0,0⟩)
noncomputable abbrev Bf:Yep:=top 6
noncomputable abbrev Bg:Yep:=top 9
noncomputable abbrev Bh:Yep:=top 10
noncomputable abbrev Bj:Yep:=top 11
noncomputable abbrev Bl:Yep:=top 12
noncomputable abbrev Bm:Yep:=top 24
noncomputable abbrev Bo:Yep:=top 25
noncomputable abbrev Bp:Yep:=top 26
noncomputable abbrev Bq:Yep:=top 27
noncomputable abbrev Br:Yep:=top 28
noncomputable abbrev Bs:Yep:=top 29
noncomputable abbrev Bt:Yep:=top 30
noncomputable abbrev Bu:Yep:=top 31
noncomputable abbrev Bv:Yep:=top 33
noncomputable abbrev Bw:Yep:=top 34
noncomputable abbrev Bx:Yep:=top 35
noncomputable abbrev BJ:Yep:=top 36
noncomputable abbrev BK:Yep:=top 37
noncomputable abbrev BL:Yep:=top 38
noncomputable abbrev BP:Yep:=top 39
noncomputable abbrev BR:Yep:=top 40
noncomputable abbrev BV:Yep:=top 41
noncomputable abbrev BW:Yep:=top 42
noncomputable abbrev BX:Yep:=top 43
noncomputable abbrev uf:Yep:=top 44
noncomputable abbrev BZ:Yep:=(ZrY (top 23)).getD 0 (.Pass ⟨0,0,0,0⟩)
structure FP(K:W.Frag)(mg:aj->Option Yh)(C:Y1):Prop where
  ok:yp K [66,108,111,99,107] C
  mg:mg "Block" =Ya (.ref C)
  Gz:qQ K C (nm [104,101,97,100])
  wG:qQ K C (nm [108,105,115,116,115])
structure Txt(K:W.Frag)(mg:aj->Option Yh):Prop where
  DW:True
  yQ:mg "all" =Yn
  Mh:mg "bool" =Yn
  Lw:mg "enumerate" =Yn
  Vf:mg "int" =Yn
  pH:mg "isinstance" =Yn
  eQ:mg "len" =Yn
  Mi:mg "list" =Yn
  Vg:mg "max" =Yn
  Gx:mg "range" =Yn
  Abg:mg "set" =Yn
  GJ:mg "str" =Yn
  jA:mg "tuple" =Yn
  uy:∃t,mg "FIGURES" =Ya (.str "0123456789" t)
  wF:∃t,mg "LETTERS" =Ya (.str "abcdefghijklmnopqrstuvwxyz" t)
  U7:∃a,mg "LISTS" =Ya (.ref a)/\lU K a nT
  wB:∃t,mg "MOST_BLOCKS" =Ya (.int 12 t)
  wC:∃t,mg "MOST_DEPTH" =Ya (.int 6 t)
  qC:∃t,mg "MOST_FIGURES" =Ya (.int 60 t)
  qD:∃t,mg "MOST_LETTERS" =Ya (.int 8 t)
  uw:∃t,mg "MOST_TAKEN" =Ya (.int 6 t)
  ux:∃t,mg "MOST_WORDS" =Ya (.int 60 t)
  U8:∃a,mg "PARTS" =Ya (.ref a)/\lU K a nU
  Vb:∃a,mg "SUMS" =Ya (.ref a)/\lU K a j7
  AaY:∃a,mg "WORDS" =Ya (.ref a)/\Ay K (cT.map λy=>(⟨y.toArray⟩:aj)) (.ref a)=true
variable{X:Cx}{pos:aU}
theorem ZmL(T:Txt X.K X.mg)(hg:Gl X "FIGURES":=by rfl):C3 X (.Name "FIGURES" pos) uy:=by obtain⟨t,e⟩:=T.uy;refine tX (v:=.str ⟨([48,49,50,51,52,53,54,55,56,57]:List Nat).toArray⟩) e ⟨t,?_⟩ (λ_ _=>Rep.str) hg;exact congrArg (λz=>Value.str z t) (by decide +kernel)
theorem Zmk(T:Txt X.K X.mg)(hg:Gl X "LETTERS":=by rfl):C3 X (.Name "LETTERS" pos) wF:=by obtain⟨t,e⟩:=T.wF;refine tX (v:=.str ⟨([97,98,99,100,101,102,103,104,105,106,107,108,109,110,111,112,113,114,115,116,117,118,119,120,121,122]:List Nat).toArray⟩) e ⟨t,?_⟩ (λ_ _=>Rep.str) hg;exact congrArg (λz=>Value.str z t) (by decide +kernel)
variable{g:E3}{npos:aU}{e:Expr}
theorem ZmZ{e':Expr}{apos cpos:aU}{g':E3}(T:Txt X.K X.mg)(he:C3 X e g)(he':C3 X e' g')(m:M2 X (.Name "LISTS" npos) "get" apos e e' cpos:=by exact⟨rfl,rfl,rfl,rfl⟩)(hg:Gl X "LISTS":=by rfl):C3 X (.Call (.Attribute (.Name "LISTS" npos) "get" apos) [e,e'] [] cpos) (e2 (tV nT) g g'):=by obtain⟨a,hm,ht⟩:=T.U7;exact Znv hm ht he he' m hg
theorem Zhz(T:Txt X.K X.mg)(he:C3 X e g)(hg:Gl X "LISTS":=by rfl):CT X (.Compare e [.In] [.Name "LISTS" npos] pos) (e1 (tW nT) g):=by obtain⟨a,hm,ht⟩:=T.U7;exact Zrd hm ht he hg
theorem ZiI(T:Txt X.K X.mg)(hg:Gl X "MOST_BLOCKS":=by rfl):C3 X (.Name "MOST_BLOCKS" pos) wB:=by obtain⟨t,e⟩:=T.wB;exact tX (v:=.int 12) e ⟨t,rfl⟩ (λ_ _=>Rep.int) hg
theorem Zi7(T:Txt X.K X.mg)(hg:Gl X "MOST_DEPTH":=by rfl):C3 X (.Name "MOST_DEPTH" pos) wC:=by obtain⟨t,e⟩:=T.wC;exact tX (v:=.int 6) e ⟨t,rfl⟩ (λ_ _=>Rep.int) hg
theorem ZhL(T:Txt X.K X.mg)(hg:Gl X "MOST_FIGURES":=by rfl):C3 X (.Name "MOST_FIGURES" pos) qC:=by obtain⟨t,e⟩:=T.qC;exact tX (v:=.int 60) e ⟨t,rfl⟩ (λ_ _=>Rep.int) hg
theorem ZhP(T:Txt X.K X.mg)(hg:Gl X "MOST_LETTERS":=by rfl):C3 X (.Name "MOST_LETTERS" pos) qD:=by obtain⟨t,e⟩:=T.qD;exact tX (v:=.int 8) e ⟨t,rfl⟩ (λ_ _=>Rep.int) hg
theorem Zjc(T:Txt X.K X.mg)(hg:Gl X "MOST_TAKEN":=by rfl):C3 X (.Name "MOST_TAKEN" pos) uw:=by obtain⟨t,e⟩:=T.uw;exact tX (v:=.int 6) e ⟨t,rfl⟩ (λ_ _=>Rep.int) hg
theorem Zjg(T:Txt X.K X.mg)(hg:Gl X "MOST_WORDS":=by rfl):C3 X (.Name "MOST_WORDS" pos) ux:=by obtain⟨t,e⟩:=T.ux;exact tX (v:=.int 60) e ⟨t,rfl⟩ (λ_ _=>Rep.int) hg
theorem ZmA{e':Expr}{apos cpos:aU}{g':E3}(T:Txt X.K X.mg)(he:C3 X e g)(he':C3 X e' g')(m:M2 X (.Name "PARTS" npos) "get" apos e e' cpos:=by exact⟨rfl,rfl,rfl,rfl⟩)(hg:Gl X "PARTS":=by rfl):C3 X (.Call (.Attribute (.Name "PARTS" npos) "get" apos) [e,e'] [] cpos) (e2 (tV nU) g g'):=by obtain⟨a,hm,ht⟩:=T.U8;exact Znv hm ht he he' m hg
theorem ZmG(T:Txt X.K X.mg)(he:C3 X e g)(hg:Gl X "PARTS":=by rfl):C3 X (.Compare e [.In] [.Name "PARTS" npos] pos) (e1 (tW nU) g):=by obtain⟨a,hm,ht⟩:=T.U8;exact ZsJ hm ht he hg
theorem Zje(T:Txt X.K X.mg)(he:C3 X e g)(hg:Gl X "SUMS":=by rfl):CT X (.Compare e [.NotIn] [.Name "SUMS" npos] pos) (e1 (JM j7) g):=by obtain⟨a,hm,ht⟩:=T.Vb;exact Zlh hm ht he hg
theorem ZoO(T:Txt X.K X.mg)(he:C3 X e g)(hs:Jv e:=by exactλ_ _=>rfl)(hg:Gl X "SUMS":=by rfl):C3 X (.Subscript (.Name "SUMS" npos) e pos) (e1 (E_ j7) g):=by obtain⟨a,hm,ht⟩:=T.Vb;exact Zr7 hm ht he hs hg
theorem Zpr(T:Txt X.K X.mg)(hg:Gl X "WORDS":=by rfl):C3 X (.Name "WORDS" pos) t_:=by obtain⟨a,hm,ht⟩:=T.AaY;exact ZrK hm ht hg
section
variable {P:bD} {w:bw} {K:W.Frag} {mg:aj->Option Yh} {base:aN}
theorem Zgz:dJ ["word","figures"] ["word"] (Zk Bf):=⟨rfl,rfl,rfl,by decide +kernel,rfl,by decide +kernel,by decide +kernel⟩
theorem Zkw(A:bL K mg "is_number" Bf ["word"])(T:Txt K mg):aH P w K mg base 1 "is_number" ["word"] qm:=
  aH.of (N:=["word","figures"]) (k:=0) A Zgz λf cdv A outer s H E hr=>by
    have hu:=fZ hr;unfold Fx;refine Ze ?_ ?_
    .exact Zv 1 Zgz.nd (Ff (o9 (Zey (Zd 0) (Zc bF Zg))) (qd qj (Zd 0) (o_ Zj) rC) (Zd 0))
    .refine Ze ?_ ?_
     .refine bV ?_ ?_ ?_
      .refine CW.ct ?_;refine rA ?_ ?_
       .exact bh tZ (dF (id:="len") fO T.eQ e_ (Zc (Zd 1) Zg)) Zj
       .exact vO (bh ph (dF (id:="len") fO T.eQ e_ (Zc (Zd 1) Zg)) (ZhL T))
      .exact Zm (bW JP)
      .exact cM
     .refine Ze ?_ ?_
      .exact bV (o9 (Zey (Zd 1) (Zc bF Zg))) (Zm (bW (rn ((d_ hu)) (Zd 0) bF))) cM
      .exact Zm (bW (dF (id:="all") ((Aw rfl)) T.yQ Av (Zc (qi (N':=["word","figures","figure"]) (lR rfl (by kernel_rfl)) rfl rfl (mH (Zd 1)) (λC cl s H ex=>⟨(jJ 2 ((show jt (["word","figures","figure"]:List aj)by decide +kernel))),mG,(rn ((Rx hu)) (Zd 2) (ZmL T))⟩)) Zg)))
theorem B_:dJ ["words","sums","lacking","word"] ["words"] (Zk Bg):=⟨rfl,rfl,rfl,by decide +kernel,rfl,by decide +kernel,by decide +kernel⟩
theorem ZmM(A:bL K mg "sums_in" Bg ["words"])(T:Txt K mg):aH P w K mg base 1 "sums_in" ["words"] vX:=
  aH.of (N:=["words","sums","lacking","word"]) (k:=0) A B_ λf cdv A outer s H E hr=>by
    have hu:=fZ hr;unfold R0;refine Ze ?_ ?_
    .exact Zv 1 B_.nd (cP Zg)
    .refine Ze ?_ ?_
     .exact Zv 2 B_.nd Zj
     .refine Ze ?_ ?_
      .refine Al ?_ ?_ ?_ ?_ ?_
       .exact rfl
       .exact rfl
       .exact mH (Zd 0)
       .exact jJ 3 B_.nd
       .refine Ze ?_ ?_
        .exact bV (bh ((d_ hu)) (Zd 2) Zj) (Ze (fX (jc (Zd 1) (Zc (cP Zg) Zg))) (Zm (Zv 2 B_.nd Zj))) cM
        .refine Ze ?_ ?_
         .exact fX (jc (bx bA (Zd 1) (jH jK Zj)) (Zc (Zd 3) Zg))
         .exact Zm (Zv 2 B_.nd (Zu dY (Zu vQ (Zd 2) Zj) (ZmA T (Zd 3) Zj)))
      .refine Zm ?_;refine bW ?_;exact Ff (bh ((d_ hu)) (Zd 2) Zj) (qi (N':=["words","sums","lacking","word","one"]) (lR rfl (by kernel_rfl)) rfl rfl (mH (Zd 1)) (λC cl s H ex=>⟨(jJ 4 ((show jt (["words","sums","lacking","word","one"]:List aj)by decide +kernel))),mG,(j4 (T:="tuple") nQ T.jA nR (Zc (Zd 4) Zg))⟩)) mF
theorem Zjm:dJ ["word"] ["word"] (Zk Bh):=⟨rfl,rfl,rfl,by decide +kernel,rfl,by decide +kernel,by decide +kernel⟩
theorem Zjf(A:bL K mg "needs_sums" Bh ["word"])(T:Txt K mg):aH P w K mg base 1 "needs_sums" ["word"] Bb:=aH.of (N:=["word"]) (k:=0) A Zjm λf cdv A outer s H E hr=>by have hu:=fZ hr;unfold ZgW;exact Zm (bW (ZmG T (Zd 0)))
theorem ZlY:dJ ["words"] ["words"] (Zk Bj):=⟨rfl,rfl,rfl,by decide +kernel,rfl,by decide +kernel,by decide +kernel⟩
theorem ZlH(A:bL K mg "parts_of" Bj ["words"])(T:Txt K mg)(yP:aH P w K mg base 1 "sums_in" ["words"] vX):aH P w K mg base 2 "parts_of" ["words"] Kf:=aH.of (N:=["words"]) (k:=1) A ZlY λf cdv A outer s H E hr=>by have hu:=fZ hr;unfold R4;exact Zm (bW (cC (k:=1) (ps:=["words"]) yP (hr.mono (by decide)) (Zc (qd qj (Zd 0) (o_ Zj) rC) Zg)))
theorem Sy:dJ ["words","parts"] ["words"] (Zk Bl):=⟨rfl,rfl,rfl,by decide +kernel,rfl,by decide +kernel,by decide +kernel⟩
theorem ZpU(A:bL K mg "depth" Bl ["words"])(T:Txt K mg)(LK:aH P w K mg base 2 "parts_of" ["words"] Kf):aH P w K mg base 64 "depth" ["words"] Fy:=by
  have all:∀n:Nat,aH P w K mg base (n+3) "depth" ["words"] (yr n):=by
    intro n
    induction n with
    |zero=>exact aH.of (N:=["words","parts"]) (k:=2) A Sy λf cdv A outer s H E hr=>ZnN|succ n IH=>
      refine(aH.of (N:=["words","parts"]) (k:=n+3) A Sy λf cdv A outer s H E hr=>?_).mono (by omega);have hu:=fZ hr;unfold R5;refine Ze ?_ ?_
      .exact Zv 1 Sy.nd (cC (k:=2) (ps:=["words"]) LK (hr.mono (by omega)) (Zc (Zd 0) Zg))
      .refine Zm ?_;refine bW ?_;refine ZpC ?_ ?_
       .exact T.Vg
       .refine Zwz (N':=["words","parts","deeper","part"]) ?_ ?_ ?_ ?_ (λC cl s H ex=>⟨?_,?_,?_⟩)
        .exact lR rfl (by kernel_rfl)
        .exact rfl
        .exact rfl
        .exact ZnY T.Lw (Zd 1)
        .exact JR rfl (j5 2 ((show jt (["words","parts","deeper","part"]:List aj)by decide +kernel)) (j5 3 ((show jt (["words","parts","deeper","part"]:List aj)by decide +kernel)) yc))
        .exact mG
        .exact Zu dY (cC (k:=n+3) (ps:=["words"]) IH hr (Zc (Zd 3) Zg)) (Zd 2)
  exact all 61
theorem Zm3:dJ ["word"] ["word"] (Zk Bp):=⟨rfl,rfl,rfl,by decide +kernel,rfl,by decide +kernel,by decide +kernel⟩
theorem Zmm(A:bL K mg "is_name" Bp ["word"])(T:Txt K mg):aH P w K mg base 1 "is_name" ["word"] mK:=
  aH.of (N:=["word"]) (k:=0) A Zm3 λf cdv A outer s H E hr=>by
    have hu:=fZ hr;unfold Kg;refine Ze ?_ ?_
    .refine bV ?_ ?_ ?_
     .refine CW.ct ?_;refine rA ?_ ?_
      .exact bh tZ (dF (id:="len") fO T.eQ e_ (Zc (Zd 0) Zg)) Zj
      .exact rA (bh ph (dF (id:="len") fO T.eQ e_ (Zc (Zd 0) Zg)) (ZhP T)) (vO (bh ((Rx hu)) (Zd 0) (Zpr T)))
     .exact Zm (bW JP)
     .exact cM
    .exact Zm (bW (dF (id:="all") ((Aw rfl)) T.yQ Av (Zc (qi (N':=["word","letter"]) (lR rfl (by kernel_rfl)) rfl rfl (mH (Zd 0)) (λC cl s H ex=>⟨(jJ 1 ((show jt (["word","letter"]:List aj)by decide +kernel))),mG,(rn ((Rx hu)) (Zd 1) (Zmk T))⟩)) Zg)))
theorem ZfX:dJ ["row","names"] ["row"] (Zk Bo):=⟨rfl,rfl,rfl,by decide +kernel,rfl,by decide +kernel,by decide +kernel⟩
theorem Zjo(A:bL K mg "read_taken" Bo ["row"])(T:Txt K mg)(rJ:aH P w K mg base 1 "is_name" ["word"] mK):aH P w K mg base 2 "read_taken" ["row"] Kh:=
  aH.of (N:=["row","names"]) (k:=1) A ZfX λf cdv A outer s H E hr=>by
    have hu:=fZ hr;unfold R6;refine Ze ?_ ?_
    .exact Zv 1 ZfX.nd (qd qj (bx bA (Zd 0) Zj) (o_ Zj) rC)
    .refine Ze ?_ ?_
     .refine bV ?_ ?_ ?_
      .refine CW.ct ?_;refine rA ?_ ?_
       .exact bh tZ (dF (id:="len") fO T.eQ e_ (Zc (Zd 1) Zg)) Zj
       .refine rA ?_ ?_
        .exact bh ph (dF (id:="len") fO T.eQ e_ (Zc (Zd 1) Zg)) (Zjc T)
        .exact vO (bh ((Ar hu)) (Zps T.eQ T.Abg (Zd 1)) (dF (id:="len") fO T.eQ e_ (Zc (Zd 1) Zg)))
      .exact Zm JQ
      .exact cM
     .refine Ze ?_ ?_
      .refine bV ?_ ?_ ?_
       .refine Fe ?_;exact o9 (dF (id:="all") ((Aw rfl)) T.yQ Av (Zc (qi (N':=["row","names","name"]) (lR rfl (by kernel_rfl)) rfl rfl (mH (Zd 1)) (λC cl s H ex=>⟨(jJ 2 ((show jt (["row","names","name"]:List aj)by decide +kernel))),mG,(cC (k:=1) (ps:=["word"]) rJ (hr.mono (by decide)) (Zc (Zd 2) Zg))⟩)) Zg))
       .exact Zm JQ
       .exact cM
      .exact Zm (bW (j4 (T:="tuple") nQ T.jA nR (Zc (Zd 1) Zg)))
theorem ZgD:dJ ["self","head"] ["self","head"] (Zk BZ):=⟨rfl,rfl,rfl,by decide +kernel,rfl,by decide +kernel,by decide +kernel⟩
theorem Zgq{cN:Y1}(cY:FP K mg cN)(A:Kc K cN "Block.__init__" BZ ["self","head"])(T:Txt K mg):yq P w K mg base 1 cN ["self","head"] yt:=yq.of (N:=["self","head"]) (k:=0) A ZgD λf cdv A outer s H E hr=>by have hu:=fZ hr;unfold ZeA;exact Ze (Zqe (C:=cN) (c:=[66,108,111,99,107]) (m:=[104,101,97,100]) cY.ok cY.Gz (Zd 0) (Zd 1)) (Zm (Zqe (C:=cN) (c:=[66,108,111,99,107]) (m:=[108,105,115,116,115]) cY.ok cY.wG (Zd 0) (cP (Zc (cP Zg) Zg))))
theorem SJ:dJ ["words","sums","depths"] ["words"] (Zk Bs):=⟨rfl,rfl,rfl,by decide +kernel,rfl,by decide +kernel,by decide +kernel⟩
theorem Zkk(A:bL K mg "read_sums" Bs ["words"])(T:Txt K mg)(Gu:aH P w K mg base 1 "is_number" ["word"] qm)(yP:aH P w K mg base 1 "sums_in" ["words"] vX)(Li:aH P w K mg base 1 "needs_sums" ["word"] Bb)(Mf:aH P w K mg base 64 "depth" ["words"] Fy)(rJ:aH P w K mg base 1 "is_name" ["word"] mK):aH P w K mg base 65 "read_sums" ["words"] Kl:=
  aH.of (N:=["words","sums","depths"]) (k:=64) A SJ λf cdv A outer s H E hr=>by
    have hu:=fZ hr;unfold R7;refine Ze ?_ ?_
    .refine bV ?_ ?_ ?_
     .refine Fe ?_;refine o9 ?_;refine dF (id:="all") ?_ ?_ ?_ ?_
      .exact(Aw rfl)
      .exact T.yQ
      .exact Av
      .refine Zc ?_ ?_
       .refine qi (N':=["words","sums","depths","word"]) ?_ ?_ ?_ ?_ (λC cl s H ex=>⟨?_,?_,?_⟩)
        .exact lR rfl (by kernel_rfl)
        .exact rfl
        .exact rfl
        .exact mH (Zd 0)
        .exact jJ 3 ((show jt (["words","sums","depths","word"]:List aj)by decide +kernel))
        .exact mG
        .exact Zv0 (cC (k:=1) (ps:=["word"]) Li (hr.mono (by decide)) (Zc (Zd 3) Zg)) (Zv0 (cC (k:=1) (ps:=["word"]) rJ (hr.mono (by decide)) (Zc (Zd 3) Zg)) (xZ (cC (k:=1) (ps:=["word"]) Gu (hr.mono (by decide)) (Zc (Zd 3) Zg))))
       .exact Zg
     .exact Zm (bW mF)
     .exact cM
    .refine Ze ?_ ?_
     .refine Zv 1 ?_ ?_
      .exact SJ.nd
      .refine cC (k:=1) (ps:=["words"]) ?_ ?_ ?_
       .exact yP
       .exact hr.mono (by decide)
       .refine Zc ?_ ?_
        .refine qi (N':=["words","sums","depths","word"]) ?_ ?_ ?_ ?_ (λC cl s H ex=>⟨?_,?_,?_⟩)
         .exact lR rfl (by kernel_rfl)
         .exact rfl
         .exact rfl
         .exact mH (Zd 0)
         .exact jJ 3 ((show jt (["words","sums","depths","word"]:List aj)by decide +kernel))
         .exact mG
         .exact Ff (o9 (cC (k:=1) (ps:=["word"]) Gu (hr.mono (by decide)) (Zc (Zd 3) Zg))) (j4 (T:="int") Zuo T.Vf Zuv (Zc (Zd 3) Zg)) (Zd 3)
        .exact Zg
     .refine Ze ?_ ?_
      .exact bV (bh Fl (Zd 1) mF) (Zm (bW mF)) cM
      .refine Ze ?_ ?_
       .refine ZjV (N':=["words","sums","depths","deeper","one"]) 2 ?_ ?_ ?_ ?_ ?_ (λC cl s H ex=>⟨?_,?_,?_⟩)
        .exact lR rfl (by kernel_rfl)
        .exact rfl
        .exact rfl
        .exact SJ.nd
        .exact ZnY T.Lw (Zd 1)
        .exact JR rfl (j5 3 ((show jt (["words","sums","depths","deeper","one"]:List aj)by decide +kernel)) (j5 4 ((show jt (["words","sums","depths","deeper","one"]:List aj)by decide +kernel)) yc))
        .exact mG
        .exact Zu dY (cC (k:=64) (ps:=["words"]) Mf (hr.mono (by decide)) (Zc (Zd 4) Zg)) (Zd 3)
       .exact Zm (bW (Ff (bh Q6 (ZpC T.Vg (Zd 2)) (Zi7 T)) (Zd 1) mF))
theorem SM:dJ ["words","begin","sums"] ["words"] (Zk Br):=⟨rfl,rfl,rfl,by decide +kernel,rfl,by decide +kernel,by decide +kernel⟩
theorem Zj6(A:bL K mg "read_deed" Br ["words"])(T:Txt K mg)(rJ:aH P w K mg base 1 "is_name" ["word"] mK)(Lx:aH P w K mg base 65 "read_sums" ["words"] Kl):aH P w K mg base 66 "read_deed" ["words"] Fz:=
  aH.of (N:=["words","begin","sums"]) (k:=65) A SM λf cdv A outer s H E hr=>by
    have hu:=fZ hr;unfold R8;refine Ze ?_ ?_
    .refine bV ?_ ?_ ?_
     .exact CW.ct (rA (Zje T (bx bA (Zd 0) Zj)) (vO (bh ph (dF (id:="len") fO T.eQ e_ (Zc (Zd 0) Zg)) (Zjg T))))
     .exact Zm (bW mF)
     .exact cM
    .refine Ze ?_ ?_
     .exact Zv 1 SM.nd (Ff (bh ((d_ hu)) (bx bA (Zd 0) Zj) bF) Zj Zj)
     .refine Ze ?_ ?_
      .refine bV ?_ ?_ ?_
       .refine Fe ?_;refine o9 ?_;refine dF (id:="all") ?_ ?_ ?_ ?_
        .exact(Aw rfl)
        .exact T.yQ
        .exact Av
        .refine Zc ?_ ?_
         .exact qi (N':=["words","begin","sums","word"]) (lR rfl (by kernel_rfl)) rfl rfl (mH (qd qj (Zd 0) (o_ Zj) (o_ (Zd 1)))) (λC cl s H ex=>⟨(jJ 3 ((show jt (["words","begin","sums","word"]:List aj)by decide +kernel))),mG,(cC (k:=1) (ps:=["word"]) rJ (hr.mono (by decide)) (Zc (Zd 3) Zg))⟩)
         .exact Zg
       .exact Zm (bW mF)
       .exact cM
      .refine Ze ?_ ?_
       .exact Zv 2 SM.nd (cC (k:=65) (ps:=["words"]) Lx (hr.mono (by decide)) (Zc (qd qj (Zd 0) (o_ (Zd 1)) rC) Zg))
       .refine Ze ?_ ?_
        .refine bV ?_ ?_ ?_
         .exact CW.ct (rA (bh Fl (Zd 2) mF) (vO (bh ((Ar hu)) (dF (id:="len") fO T.eQ e_ (Zc (Zd 2) Zg)) (ZoO T (bx bA (Zd 0) Zj)))))
         .exact Zm (bW mF)
         .exact cM
        .exact Zm (bW (j4 (T:="tuple") nQ T.jA nR (Zc (Zu dY (qd qj (Zd 0) rC (o_ (Zd 1))) (Zd 2)) Zg)))
theorem SN:dJ ["blocks","word","inner","full"] ["blocks","word"] (Zk Bt):=⟨rfl,rfl,rfl,by decide +kernel,rfl,by decide +kernel,by decide +kernel⟩
theorem Zkm(A:bL K mg "can_stand" Bt ["blocks","word"])(T:Txt K mg){cN:Y1}(cY:FP K mg cN):aH P w K mg base 1 "can_stand" ["blocks","word"] Bc:=
  aH.of (N:=["blocks","word","inner","full"]) (k:=0) A SN λf cdv A outer s H E hr=>by
    have hu:=fZ hr;unfold R9;refine Ze ?_ ?_
    .exact Zv 2 SN.nd (bx bA (Zd 0) (jH jK Zj))
    .refine Ze ?_ ?_
     .refine Zv 3 ?_ ?_
      .exact SN.nd
      .exact rn ((d_ hu)) (ZmZ T (bx bA (t8 (C:=cN) (c:=[66,108,111,99,107]) (m:=[104,101,97,100]) cY.ok cY.Gz (Zd 2)) Zj) Zj) (dF (id:="len") fO T.eQ e_ (Zc (t8 (C:=cN) (c:=[66,108,111,99,107]) (m:=[108,105,115,116,115]) cY.ok cY.wG (Zd 2)) Zg))
     .refine Ze ?_ ?_
      .exact bV (Zhz T (Zd 1)) (Zm (bW (rn Q6 (dF (id:="len") fO T.eQ e_ (Zc (Zd 0) Zg)) (ZiI T)))) cM
      .refine Ze ?_ ?_
       .exact bV (bh ((d_ hu)) (Zd 1) bF) (Zm (bW (x_ (rn ((d_ hu)) (bx bA (t8 (C:=cN) (c:=[66,108,111,99,107]) (m:=[104,101,97,100]) cY.ok cY.Gz (Zd 2)) Zj) bF) (xZ (Ztf (Zd 3)))))) cM
       .exact Ze (bV (bh ((d_ hu)) (Zd 1) bF) (Zm (bW (Zd 3))) cM) (Zm (bW JP))
theorem SQ:dJ ["blocks","deed","inner","whole"] ["blocks","deed"] (Zk Bu):=⟨rfl,rfl,rfl,by decide +kernel,rfl,by decide +kernel,by decide +kernel⟩
theorem Zjl(A:bL K mg "place_deed" Bu ["blocks","deed"])(T:Txt K mg){cN:Y1}(cY:FP K mg cN)(yN:yq P w K mg base 1 cN ["self","head"] yt):aH P w K mg base 3 "place_deed" ["blocks","deed"] uc:=
  aH.of (N:=["blocks","deed","inner","whole"]) (k:=2) A SQ λf cdv A outer s H E hr=>by
    have hu:=fZ hr;unfold yu;refine Ze ?_ ?_
    .exact Zv 2 SQ.nd (bx bA (Zd 0) (jH jK Zj))
    .refine Zm ?_;refine bV ?_ ?_ ?_
     .exact Zhz T (bx bA (Zd 1) Zj)
     .exact Zm (fX (jc (Zd 0) (Zc (ZvO (C:=cN) (c:=[66,108,111,99,107]) (k:=1) (ps:=["self","head"]) cY.ok yN cY.mg (hr.mono (by decide)) (Zc (Zd 1) Zg)) Zg)))
     .refine Zm ?_;refine bV ?_ ?_ ?_
      .exact bh ((d_ hu)) (bx bA (Zd 1) Zj) bF
      .exact Zm (fX (jc (t8 (C:=cN) (c:=[66,108,111,99,107]) (m:=[108,105,115,116,115]) cY.ok cY.wG (Zd 2)) (Zc (cP Zg) Zg)))
      .refine Zm ?_;refine bV ?_ ?_ ?_
       .exact bh ((d_ hu)) (bx bA (Zd 1) Zj) bF
       .refine Ze ?_ ?_
        .exact fX (Ka (Zd 0))
        .refine Ze ?_ ?_
         .refine Zv 3 ?_ ?_
          .exact SQ.nd
          .refine Zu ?_ ?_ ?_
           .exact dY
           .exact t8 (C:=cN) (c:=[66,108,111,99,107]) (m:=[104,101,97,100]) cY.ok cY.Gz (Zd 2)
           .refine j4 (T:="tuple") ?_ ?_ ?_ ?_
            .exact nQ
            .exact T.jA
            .exact nR
            .exact Zc (qi (N':=["blocks","deed","inner","whole","deeds"]) (lR rfl (by kernel_rfl)) rfl rfl (mH (t8 (C:=cN) (c:=[66,108,111,99,107]) (m:=[108,105,115,116,115]) cY.ok cY.wG (Zd 2))) (λC cl s H ex=>⟨(jJ 4 ((show jt (["blocks","deed","inner","whole","deeds"]:List aj)by decide +kernel))),mG,(j4 (T:="tuple") nQ T.jA nR (Zc (Zd 4) Zg))⟩)) Zg
         .exact Zm (fX (jc (bx bA (t8 (C:=cN) (c:=[66,108,111,99,107]) (m:=[108,105,115,116,115]) cY.ok cY.wG (bx bA (Zd 0) (jH jK Zj))) (jH jK Zj)) (Zc (Zd 3) Zg)))
       .exact Zm (fX (jc (bx bA (t8 (C:=cN) (c:=[66,108,111,99,107]) (m:=[108,105,115,116,115]) cY.ok cY.wG (Zd 2)) (jH jK Zj)) (Zc (Zd 1) Zg)))
theorem FQ:dJ ["rows","behind","blocks","number","words","deed"] ["rows","behind"] (Zk Bq):=⟨rfl,rfl,rfl,by decide +kernel,rfl,by decide +kernel,by decide +kernel⟩
theorem Zi9(A:bL K mg "read_deeds" Bq ["rows","behind"])(T:Txt K mg){cN:Y1}(cY:FP K mg cN)(yN:yq P w K mg base 1 cN ["self","head"] yt)(Ly:aH P w K mg base 66 "read_deed" ["words"] Fz)(Lz:aH P w K mg base 1 "can_stand" ["blocks","word"] Bc)(Lj:aH P w K mg base 3 "place_deed" ["blocks","deed"] uc):aH P w K mg base 67 "read_deeds" ["rows","behind"] Km:=
  aH.of (N:=["rows","behind","blocks","number","words","deed"]) (k:=66) A FQ λf cdv A outer s H E hr=>by
    have hu:=fZ hr;unfold R_;refine Ze ?_ ?_
    .exact Zv 2 FQ.nd (cP (Zc (ZvO (C:=cN) (c:=[66,108,111,99,107]) (k:=1) (ps:=["self","head"]) cY.ok yN cY.mg (hr.mono (by decide)) (Zc (nO (Zc bF Zg)) Zg)) Zg))
    .refine Ze ?_ ?_
     .refine Al ?_ ?_ ?_ ?_ ?_
      .exact rfl
      .exact rfl
      .exact mH (Zd 0)
      .exact JR rfl (j5 3 FQ.nd (j5 4 FQ.nd yc))
      .refine Ze ?_ ?_
       .exact Zv 5 FQ.nd (cC (k:=66) (ps:=["words"]) Ly (hr.mono (by decide)) (Zc (Zd 4) Zg))
       .refine Ze ?_ ?_
        .refine bV ?_ ?_ ?_
         .exact CW.ct (rA (bh Fl (Zd 5) mF) (vO (Fe (o9 (cC (k:=1) (ps:=["blocks","word"]) Lz (hr.mono (by decide)) (Zc (Zd 2) (Zc (bx bA (Zd 5) Zj) Zg)))))))
         .exact Zm JQ
         .exact cM
        .exact Zm (fX (cC (k:=3) (ps:=["blocks","deed"]) Lj (hr.mono (by decide)) (Zc (Zd 2) (Zc (Zd 5) Zg))))
     .refine Ze ?_ ?_
      .exact bV (bh ph (dF (id:="len") fO T.eQ e_ (Zc (Zd 2) Zg)) Zj) (Zm JQ) cM
      .exact Zm (bW (j4 (T:="tuple") nQ T.jA nR (Zc (bx bA (t8 (C:=cN) (c:=[66,108,111,99,107]) (m:=[108,105,115,116,115]) cY.ok cY.wG (bx bA (Zd 2) Zj)) Zj) Zg)))
theorem Ca:dJ ["text","lines","rows","taken"] ["text"] (Zk Bm):=⟨rfl,rfl,rfl,by decide +kernel,rfl,by decide +kernel,by decide +kernel⟩
theorem Zro(A:bL K mg "read" Bm ["text"])(T:Txt K mg)(Lk:aH P w K mg base 2 "read_taken" ["row"] Kh)(Ln:aH P w K mg base 67 "read_deeds" ["rows","behind"] Km):aH P w K mg base 68 "read" ["text"] Bd:=
  aH.of (N:=["text","lines","rows","taken"]) (k:=67) A Ca λf cdv A outer s H E hr=>by
    have hu:=fZ hr;unfold Ko;refine Ze ?_ ?_
    .exact Zv 1 Ca.nd (Zhy (Zd 0) (Zc bF Zg))
    .refine Ze ?_ ?_
     .refine ZjV (N':=["text","lines","rows","taken","number","line"]) 2 ?_ ?_ ?_ ?_ ?_ (λC cl s H ex=>⟨?_,?_,?_⟩)
      .exact lR rfl (by kernel_rfl)
      .exact rfl
      .exact rfl
      .exact Ca.nd
      .exact Zpn T.Lw (Zd 1)
      .exact JR rfl (j5 4 ((show jt (["text","lines","rows","taken","number","line"]:List aj)by decide +kernel)) (j5 5 ((show jt (["text","lines","rows","taken","number","line"]:List aj)by decide +kernel)) yc))
      .exact Zsa (bh ((Ar hu)) (Zd 5) bF)
      .exact nO (Zc (Zd 4) (Zc (Zhy (Zd 5) (Zc bF Zg)) Zg))
     .refine Ze ?_ ?_
      .exact Zv 3 Ca.nd (nO Zg)
      .refine Ze ?_ ?_
       .refine bV ?_ ?_ ?_
        .refine CW.ct ?_;refine nJ ?_ ?_
         .exact bh ph (dF (id:="len") fO T.eQ e_ (Zc (Zd 2) Zg)) Zj
         .exact vN (bh ((d_ hu)) (bx bA (bx bA (bx bA (Zd 2) Zj) Zj) Zj) bF)
        .exact Ze (Zv 3 Ca.nd (cC (k:=2) (ps:=["row"]) Lk (hr.mono (by decide)) (Zc (bx bA (Zd 2) Zj) Zg))) (Zm (Zv 2 Ca.nd (qd qj (Zd 2) (o_ Zj) rC)))
        .exact cM
       .refine Zm ?_;refine bW ?_;exact nO (Zc (Zd 3) (Zc (cC (k:=67) (ps:=["rows","behind"]) Ln (hr.mono (by decide)) (Zc (Zd 2) (Zc (Zu dY (dF (id:="len") fO T.eQ e_ (Zc (Zd 1) Zg)) Zj) Zg))) Zg))
theorem SX:dJ ["deck","cells","at"] ["deck"] (Zk Bv):=⟨rfl,rfl,rfl,by decide +kernel,rfl,by decide +kernel,by decide +kernel⟩
theorem Zka(A:bL K mg "_law_next" Bv ["deck"])(T:Txt K mg):aH P w K mg base 1 "_law_next" ["deck"] h_:=
  aH.of (N:=["deck","cells","at"]) (k:=0) A SX λf cdv A outer s H E hr=>by
    have hu:=fZ hr;unfold Be;refine Ze ?_ ?_
    .exact Zv 1 SX.nd (bx bA (Zd 0) Zj)
    .refine Ze ?_ ?_
     .exact Zv 2 SX.nd (bx bA (Zd 0) Zj)
     .refine Ze ?_ ?_
      .exact RD (Zd 0) Zj (Zu dY (Zd 2) Zj)
      .refine Ze ?_ ?_
       .exact bV (bh tZ (Zd 2) (dF (id:="len") fO T.eQ e_ (Zc (Zd 1) Zg))) (Zm (bW (bx bA (Zd 1) (Zd 2)))) cM
       .refine Ze ?_ ?_
        .refine bV ?_ ?_ ?_
         .exact bh ((d_ hu)) (dF (id:="len") fO T.eQ e_ (Zc (Zd 1) Zg)) Zj
         .exact Zm (bW (Zu dY (Zu yh (Zu yh (Zd 2) (Zd 2)) Zj) (Zd 2)))
         .exact cM
        .refine Zm ?_;refine bW ?_;exact Zu dY (Zu iD (bx bA (Zd 1) (Zu di (Zd 2) (dF (id:="len") fO T.eQ e_ (Zc (Zd 1) Zg)))) Zj) (Zu yh (Zd 2) (Zd 2))
theorem Zg0:dJ ["found","due"] ["found","due"] (Zk Bw):=⟨rfl,rfl,rfl,by decide +kernel,rfl,by decide +kernel,by decide +kernel⟩
theorem Zkf(A:bL K mg "_law_same" Bw ["found","due"])(T:Txt K mg):aH P w K mg base 32 "_law_same" ["found","due"] FJ:=by
  have all:∀n:Nat,aH P w K mg base (n+1) "_law_same" ["found","due"] (pA n):=by
    intro n
    induction n with
    |zero=>exact aH.of (N:=["found","due"]) (k:=0) A Zg0 λf cdv A outer s H E hr=>ZnN|succ n IH=>
      refine(aH.of (N:=["found","due"]) (k:=n+1) A Zg0 λf cdv A outer s H E hr=>?_).mono (by omega);have hu:=fZ hr;unfold rE;refine Ze ?_ ?_
      .refine bV ?_ ?_ ?_
       .exact o9 (ZnJ .tuple .list T.pH T.jA T.Mi (Zd 1))
       .refine Ze ?_ ?_
        .refine bV ?_ ?_ ?_
         .exact CW.ct (rA (bh ((Ar hu)) (t7 .tuple T.pH T.jA (Zd 0)) (t7 .tuple T.pH T.jA (Zd 1))) (vO (Fe (o9 (ZnJ .tuple .list T.pH T.jA T.Mi (Zd 0))))))
         .exact Zm (bW JP)
         .exact cM
        .refine Zm ?_;refine bW ?_;refine x_ ?_ ?_
         .exact rn ((d_ hu)) (dF (id:="len") fO T.eQ e_ (Zc (Zd 0) Zg)) (dF (id:="len") fO T.eQ e_ (Zc (Zd 1) Zg))
         .refine xZ ?_;refine dF (id:="all") ?_ ?_ ?_ ?_
          .exact(Aw rfl)
          .exact T.yQ
          .exact Av
          .refine Zc ?_ ?_
           .refine qi (N':=["found","due","k"]) ?_ ?_ ?_ ?_ (λC cl s H ex=>⟨?_,?_,?_⟩)
            .exact lR rfl (by kernel_rfl)
            .exact rfl
            .exact rfl
            .exact JS T.Gx (dF (id:="len") fO T.eQ e_ (Zc (Zd 1) Zg))
            .exact jJ 2 ((show jt (["found","due","k"]:List aj)by decide +kernel))
            .exact mG
            .exact cC (k:=n+1) (ps:=["found","due"]) IH hr (Zc (bx bA (Zd 0) (Zd 2)) (Zc (bx bA (Zd 1) (Zd 2)) Zg))
           .exact Zg
       .exact cM
      .refine Ze ?_ ?_
       .exact bV (o9 (t7 .str T.pH T.GJ (Zd 1))) (Zm (bW (x_ (t7 .str T.pH T.GJ (Zd 0)) (xZ (rn ((d_ hu)) (Zd 0) (Zd 1)))))) cM
       .refine Ze ?_ ?_
        .exact bV (o9 (t7 .bool T.pH T.Mh (Zd 1))) (Zm (bW (x_ (t7 .bool T.pH T.Mh (Zd 0)) (xZ (rn ((d_ hu)) (Zd 0) (Zd 1)))))) cM
        .exact Zm (bW (x_ (t7 .int T.pH T.Vf (Zd 0)) (x_ (Ztf (t7 .bool T.pH T.Mh (Zd 0))) (xZ (rn ((d_ hu)) (Zd 0) (Zd 1))))))
  exact all 31
theorem j8:dJ ["deck","own","letters","cell","more","first","other","names","k","sign","name"] ["deck"] (Zk Bx):=⟨rfl,rfl,rfl,by decide +kernel,rfl,by decide +kernel,by decide +kernel⟩
theorem Zjh(A:bL K mg "_law_names" Bx ["deck"])(T:Txt K mg)(jN:aH P w K mg base 1 "_law_next" ["deck"] h_):aH P w K mg base 2 "_law_names" ["deck"] Kq:=
  aH.of (N:=["deck","own","letters","cell","more","first","other","names","k","sign","name"]) (k:=1) A j8 λf cdv A outer s H E hr=>by
    have hu:=fZ hr;unfold Sd;refine Ze ?_ ?_
    .refine Zv 1 ?_ ?_
     .exact j8.nd
     .refine cP ?_;refine Zc ?_ ?_
      .exact bF
      .refine Zc ?_ ?_
       .exact bF
       .exact Zc bF (Zc bF (Zc bF (Zc bF (Zc bF (Zc bF (Zc bF (Zc bF (Zc bF (Zc bF Zg)))))))))
    .refine Ze ?_ ?_
     .exact Zv 2 j8.nd bF
     .refine Ze ?_ ?_
      .exact Zv 3 j8.nd (cC (k:=1) (ps:=["deck"]) jN (hr.mono (by decide)) (Zc (Zd 0) Zg))
      .refine Ze ?_ ?_
       .exact Zv 4 j8.nd (Zu iD (Zd 3) Zj)
       .refine Ze ?_ ?_
        .exact Zv 5 j8.nd (bx bA (Zd 2) (Zu di (Zd 4) Zj))
        .refine Ze ?_ ?_
         .exact Zv 6 j8.nd (bx bA (Zd 2) (Zu di (Zu iD (Zd 4) Zj) Zj))
         .refine Ze ?_ ?_
          .exact Zv 7 j8.nd (cP Zg)
          .refine Ze ?_ ?_
           .refine Al ?_ ?_ ?_ ?_ ?_
            .exact rfl
            .exact rfl
            .exact JS T.Gx Zj
            .exact jJ 8 j8.nd
            .refine Ze ?_ ?_
             .exact Zv 9 j8.nd (bx bA (Zd 2) (Zu di (Zu dY (Zd 4) (Zd 8)) Zj))
             .refine Ze ?_ ?_
              .exact Zv 10 j8.nd (Zu yh (Zd 9) (Zu dY Zj (Zu di (Zu iD (Zd 4) Zj) Zj)))
              .refine Ze ?_ ?_
               .refine bV ?_ ?_ ?_
                .exact bh ((d_ hu)) (Zu di (Zd 3) Zj) Zj
                .exact Zm (Zv 10 j8.nd (Zu dY (bx bA (Zd 1) (Zu di (Zu dY (Zd 8) (Zd 4)) Zj)) (Zd 6)))
                .exact cM
               .refine Ze ?_ ?_
                .refine bV ?_ ?_ ?_
                 .exact bh ((d_ hu)) (Zu di (Zd 3) Zj) Zj
                 .refine Ze ?_ ?_
                  .refine Zv 10 ?_ ?_
                   .exact j8.nd
                   .refine Zu ?_ ?_ ?_
                    .exact dY
                    .exact Zu yh (Zd 5) (Zu dY Zj (Zu di (Zd 8) Zj))
                    .exact Zu yh (bx bA (Zd 2) (Zu di (Zu dY (Zd 4) Zj) Zj)) (Zu iD (Zd 8) Zj)
                  .exact Zm (Zv 10 j8.nd (qd qj (Zd 10) rC (o_ Zj)))
                 .exact cM
                .refine Ze ?_ ?_
                 .refine bV ?_ ?_ ?_
                  .exact bh ((d_ hu)) (Zu di (Zd 3) Zj) Zj
                  .refine Zm ?_;refine Zv 10 ?_ ?_
                   .exact j8.nd
                   .refine Zu ?_ ?_ ?_
                    .exact dY
                    .exact Zu dY (Zd 6) (Zd 9)
                    .exact Zu yh (bx bA (Zd 2) (Zu di (Zu iD (Zd 4) Zj) Zj)) (Zu di (Zu iD (Zd 4) Zj) Zj)
                  .exact cM
                 .exact Ze (bV (bh ZvK (Zd 10) (Zd 1)) (Zm (Zv 10 j8.nd (Zu dY (Zd 10) bF))) cM) (Zm (fX (jc (Zd 7) (Zc (Zd 10) Zg))))
           .exact Zm (bW (Zd 7))
theorem Zf1:dJ ["cell","number"] ["cell"] (Zk BJ):=⟨rfl,rfl,rfl,by decide +kernel,rfl,by decide +kernel,by decide +kernel⟩
theorem Zjn(A:bL K mg "_law_value" BJ ["cell"])(T:Txt K mg):aH P w K mg base 1 "_law_value" ["cell"] vY:=
  aH.of (N:=["cell","number"]) (k:=0) A Zf1 λf cdv A outer s H E hr=>by
    have hu:=fZ hr;unfold Sg;refine Ze ?_ ?_
    .exact Zv 1 Zf1.nd (Zu di (Zu iD (Zd 0) Zj) (Zu Zwc Zj Zj))
    .refine Zm ?_;refine bW ?_;refine bx ?_ ?_ ?_
     .exact bA
     .refine cP ?_;refine Zc ?_ ?_
      .exact Zu di (Zu iD (Zd 0) Zj) Zj
      .refine Zc ?_ ?_
       .exact Zu vQ (jH jK Zj) (Zu di (Zu iD (Zd 0) Zj) Zj)
       .exact Zc (Zd 1) (Zc (Zu vQ (jH jK Zj) (Zd 1)) Zg)
     .exact Zu di (Zd 0) Zj
theorem yC:dJ ["deck","names","deep","most","words","due","d","cell","room","way"] ["deck","names","deep","most"] (Zk BK):=⟨rfl,rfl,rfl,by decide +kernel,rfl,by decide +kernel,by decide +kernel⟩
theorem Zl3(A:bL K mg "_law_sum" BK ["deck","names","deep","most"])(T:Txt K mg)(jN:aH P w K mg base 1 "_law_next" ["deck"] h_)(Lp:aH P w K mg base 1 "_law_value" ["cell"] vY):aH P w K mg base 2 "_law_sum" ["deck","names","deep","most"] ud:=
  aH.of (N:=["deck","names","deep","most","words","due","d","cell","room","way"]) (k:=1) A yC λf cdv A outer s H E hr=>by
    have hu:=fZ hr;unfold Sh;refine Ze ?_ ?_
    .exact Zv 4 yC.nd (cP Zg)
    .refine Ze ?_ ?_
     .exact Zv 5 yC.nd (cP (Zc (Zd 2) Zg))
     .refine Ze ?_ ?_
      .refine ZlM ?_ ?_ ?_
       .exact rfl
       .exact bh ((Ar hu)) (Zd 5) (cP Zg)
       .refine Ze ?_ ?_
        .exact Zv 6 yC.nd (Ka (Zd 5))
        .refine Ze ?_ ?_
         .exact Zv 7 yC.nd (cC (k:=1) (ps:=["deck"]) jN (hr.mono (by decide)) (Zc (Zd 0) Zg))
         .refine Ze ?_ ?_
          .refine Zv 8 ?_ ?_
           .exact yC.nd
           .exact Zu vQ (Zu vQ (Zu vQ (Zd 3) (dF (id:="len") fO T.eQ e_ (Zc (Zd 4) Zg))) (dF (id:="len") fO T.eQ e_ (Zc (Zd 5) Zg))) Zj
          .refine Ze ?_ ?_
           .exact Zv 9 yC.nd (Zu di (Zd 7) Zj)
           .refine Zm ?_;refine bV ?_ ?_ ?_
            .exact CW.ct (nJ (bh tZ (Zd 9) Zj) (nJ (bh ph (Zd 6) Zj) (vN (bh ph (Zd 8) Zj))))
            .refine Ze ?_ ?_
             .exact fX (jc (Zd 4) (Zc (bx bA (cP (Zc bF (Zc bF (Zc bF Zg)))) (Zd 9)) Zg))
             .exact Zm (fX (ZgY (Zd 5) (Zc (cP (Zc (Zu vQ (Zd 6) Zj) (Zc (Zd 6) Zg))) Zg)))
            .refine Zm ?_;refine bV ?_ ?_ ?_
             .exact CW.ct (nJ (bh ((d_ hu)) (Zd 9) Zj) (vN (bh ph (Zd 8) Zj)))
             .exact Ze (fX (jc (Zd 4) (Zc bF Zg))) (Zm (fX (jc (Zd 5) (Zc (Zd 6) Zg))))
             .refine Zm ?_;refine bV ?_ ?_ ?_
              .exact bh tZ (Zd 9) Zj
              .exact Zm (fX (jc (Zd 4) (Zc (bx bA (Zd 1) (Zu di (Zu iD (Zd 7) Zj) Zj)) Zg)))
              .exact Zm (fX (jc (Zd 4) (Zc (cC (k:=1) (ps:=["cell"]) Lp (hr.mono (by decide)) (Zc (Zu iD (Zd 7) Zj) Zg)) Zg)))
      .exact Zm (bW (j4 (T:="tuple") nQ T.jA nR (Zc (Zd 4) Zg)))
theorem Kv:dJ ["deck","names","cell","most","one"] ["deck","names","cell"] (Zk BL):=⟨rfl,rfl,rfl,by decide +kernel,rfl,by decide +kernel,by decide +kernel⟩
theorem ZkQ(A:bL K mg "_law_deed" BL ["deck","names","cell"])(T:Txt K mg)(wD:aH P w K mg base 2 "_law_sum" ["deck","names","deep","most"] ud):aH P w K mg base 3 "_law_deed" ["deck","names","cell"] Kr:=
  aH.of (N:=["deck","names","cell","most","one"]) (k:=2) A Kv λf cdv A outer s H E hr=>by
    have hu:=fZ hr;unfold Sq;refine Ze ?_ ?_
    .exact Zv 3 Kv.nd (bx bA (cP (Zc Zj (Zc Zj (Zc Zj (Zc Zj Zg))))) (Zu di (Zu iD (Zd 2) Zj) Zj))
    .refine Ze ?_ ?_
     .exact bV (bh ((d_ hu)) (Zu di (Zu iD (Zd 2) Zj) Zj) Zj) (Zm (Zv 3 Kv.nd Zj)) cM
     .refine Ze ?_ ?_
      .refine Zv 4 ?_ ?_
       .exact Kv.nd
       .exact cC (k:=2) (ps:=["deck","names","deep","most"]) wD (hr.mono (by decide)) (Zc (Zd 0) (Zc (Zd 1) (Zc (Zu dY Zj (Zu di (Zu iD (Zd 2) Zj) Zj)) (Zc (Zd 3) Zg))))
      .refine Ze ?_ ?_
       .refine bV ?_ ?_ ?_
        .exact bh ((d_ hu)) (Zu di (Zd 2) Zj) Zj
        .exact Zm (bW (nO (Zc bF (Zc (bx bA (Zd 1) (Zu di (Zu iD (Zd 2) Zj) Zj)) (Zc (Zd 4) Zg)))))
        .exact cM
       .refine Ze ?_ ?_
        .refine bV ?_ ?_ ?_
         .exact bh ((d_ hu)) (Zu di (Zd 2) Zj) Zj
         .refine Zm ?_;refine bW ?_;refine nO ?_;refine Zc ?_ ?_
          .exact bF
          .refine Zc ?_ ?_
           .exact Zd 4
           .refine Zc ?_ ?_
            .exact cC (k:=2) (ps:=["deck","names","deep","most"]) wD (hr.mono (by decide)) (Zc (Zd 0) (Zc (Zd 1) (Zc (Zu dY Zj (Zu di (Zu iD (Zd 2) Zj) Zj)) (Zc (Zd 3) Zg))))
            .exact Zg
         .exact cM
        .exact Zm (bW (nO (Zc bF (Zc (Zd 4) Zg))))
theorem S_:dJ ["deed","words","part"] ["deed"] (Zk BP):=⟨rfl,rfl,rfl,by decide +kernel,rfl,by decide +kernel,by decide +kernel⟩
theorem Zi8(A:bL K mg "_law_words" BP ["deed"])(T:Txt K mg):aH P w K mg base 1 "_law_words" ["deed"] FN:=
  aH.of (N:=["deed","words","part"]) (k:=0) A S_ λf cdv A outer s H E hr=>by
    have hu:=fZ hr;unfold Ss;refine Ze ?_ ?_
    .exact Zv 1 S_.nd (cP (Zc (bx bA (Zd 0) Zj) Zg))
    .refine Ze ?_ ?_
     .refine Al ?_ ?_ ?_ ?_ ?_
      .exact rfl
      .exact rfl
      .exact mH (qd qj (Zd 0) (o_ Zj) rC)
      .exact jJ 2 S_.nd
      .refine Zm ?_;refine bV ?_ ?_ ?_
       .exact o9 (t7 .str T.pH T.GJ (Zd 2))
       .exact Zm (fX (jc (Zd 1) (Zc (Zd 2) Zg)))
       .exact Zm (fX (ZgY (Zd 1) (Zc (qi (N':=["deed","words","part","word"]) (lR rfl (by kernel_rfl)) rfl rfl (mH (Zd 2)) (λC cl s H ex=>⟨(jJ 3 ((show jt (["deed","words","part","word"]:List aj)by decide +kernel))),mG,(j4 (T:="str") ZwD T.GJ Zua (Zc (Zd 3) Zg))⟩)) Zg)))
     .exact Zm (bW (ZiF bF (Zc (Zd 1) Zg)))
theorem yD:dJ ["stack","deeds","word","what","outer","ahead","deed"] ["stack","deeds"] (Zk BR):=⟨rfl,rfl,rfl,by decide +kernel,rfl,by decide +kernel,by decide +kernel⟩
theorem Zi0(A:bL K mg "_law_closed" BR ["stack","deeds"])(T:Txt K mg):aH P w K mg base 1 "_law_closed" ["stack","deeds"] vZ:=
  aH.of (N:=["stack","deeds","word","what","outer","ahead","deed"]) (k:=0) A yD λf cdv A outer s H E hr=>by
    have hu:=fZ hr;unfold Su;refine Ze ?_ ?_
    .exact RM rfl (bx bA (Zd 0) (jH jK Zj)) (j5 2 yD.nd (j5 3 yD.nd (j5 4 yD.nd (j5 5 yD.nd yc))))
    .refine Ze ?_ ?_
     .exact Zv 6 yD.nd (nO (Zc (Zd 2) (Zc (Zd 3) (Zc (j4 (T:="tuple") nQ T.jA nR (Zc (Zd 1) Zg)) Zg))))
     .refine Ze ?_ ?_
      .refine bV ?_ ?_ ?_
       .exact bh ((d_ hu)) (Zd 2) bF
       .exact Zm (Zv 6 yD.nd (nO (Zc (Zd 2) (Zc (Zd 3) (Zc (Zd 5) (Zc (j4 (T:="tuple") nQ T.jA nR (Zc (Zd 1) Zg)) Zg))))))
       .exact cM
      .exact Zm (bW (Zu dY (Zd 4) (cP (Zc (Zd 6) Zg))))
theorem yE:dJ ["deck","names","stack","deeds","cell","way","what","word","deed"] ["deck","names","stack","deeds"] (Zk BV):=⟨rfl,rfl,rfl,by decide +kernel,rfl,by decide +kernel,by decide +kernel⟩
theorem ZlN(A:bL K mg "_law_row" BV ["deck","names","stack","deeds"])(T:Txt K mg)(jN:aH P w K mg base 1 "_law_next" ["deck"] h_)(wD:aH P w K mg base 2 "_law_sum" ["deck","names","deep","most"] ud)(LC:aH P w K mg base 3 "_law_deed" ["deck","names","cell"] Kr)(Gs:aH P w K mg base 1 "_law_words" ["deed"] FN)(yO:aH P w K mg base 1 "_law_closed" ["stack","deeds"] vZ):aH P w K mg base 4 "_law_row" ["deck","names","stack","deeds"] yx:=
  aH.of (N:=["deck","names","stack","deeds","cell","way","what","word","deed"]) (k:=3) A yE λf cdv A outer s H E hr=>by
    have hu:=fZ hr;unfold yw;refine Ze ?_ ?_
    .exact Zv 4 yE.nd (cC (k:=1) (ps:=["deck"]) jN (hr.mono (by decide)) (Zc (Zd 0) Zg))
    .refine Ze ?_ ?_
     .exact Zv 5 yE.nd (Zu di (Zd 4) Zj)
     .refine Ze ?_ ?_
      .refine bV ?_ ?_ ?_
       .refine CW.ct ?_;refine nJ ?_ ?_
        .exact bh ((d_ hu)) (Zd 5) Zj
        .refine nJ ?_ ?_
         .exact bh ((RZ hu)) (Zd 2) (cP Zg)
         .refine nJ ?_ ?_
          .exact bh ((d_ hu)) (bx bA (bx bA (Zd 2) (jH jK Zj)) Zj) bF
          .exact vN (bh Fl (bx bA (bx bA (Zd 2) (jH jK Zj)) Zj) mF)
       .refine Ze ?_ ?_
        .exact RD (bx bA (Zd 2) (jH jK Zj)) Zj (j4 (T:="tuple") nQ T.jA nR (Zc (Zd 3) Zg))
        .exact Zm (bW (cP (Zc bF (Zc (cP Zg) Zg))))
       .exact cM
      .refine Ze ?_ ?_
       .refine bV ?_ ?_ ?_
        .refine CW.ct ?_;refine nJ ?_ ?_
         .exact bh ph (Zd 5) Zj
         .refine nJ ?_ ?_
          .exact bh ((RZ hu)) (Zd 2) (cP Zg)
          .refine vN ?_;refine CW.ct ?_;refine rA ?_ ?_
           .exact bh ((d_ hu)) (bx bA (bx bA (Zd 2) (jH jK Zj)) Zj) bF
           .exact vO (bh ZsH (bx bA (bx bA (Zd 2) (jH jK Zj)) Zj) mF)
        .refine Ze ?_ ?_
         .exact Zv 3 yE.nd (cC (k:=1) (ps:=["stack","deeds"]) yO (hr.mono (by decide)) (Zc (Zd 2) (Zc (Zd 3) Zg)))
         .exact Ze (fX (Ka (Zd 2))) (Zm (bW (cP (Zc bF (Zc (Zd 3) Zg)))))
        .exact cM
       .refine Ze ?_ ?_
        .refine bV ?_ ?_ ?_
         .exact CW.ct (nJ (Zqx Q6 tZ Zj (Zd 5) Zj) (vN (bh tZ (dF (id:="len") fO T.eQ e_ (Zc (Zd 2) Zg)) Zj)))
         .refine Ze ?_ ?_
          .refine Zv 6 ?_ ?_
           .exact yE.nd
           .refine cC (k:=2) (ps:=["deck","names","deep","most"]) ?_ ?_ ?_
            .exact wD
            .exact hr.mono (by decide)
            .refine Zc ?_ ?_
             .exact Zd 0
             .refine Zc ?_ ?_
              .exact Zd 1
              .refine Zc ?_ ?_
               .exact Zu dY Zj (Zu di (Zu iD (Zd 4) Zj) Zj)
               .exact Zc (Zu dY Zj (Zu di (Zu iD (Zd 4) Zj) Zj)) Zg
          .refine Ze ?_ ?_
           .exact Zv 7 yE.nd (bx bA (cP (Zc bF (Zc bF (Zc bF Zg)))) (Zu vQ (Zd 5) Zj))
           .refine Ze ?_ ?_
            .exact fX (jc (Zd 2) (Zc (cP (Zc (Zd 7) (Zc (Zd 6) (Zc (Zd 3) (Zc mF Zg))))) Zg))
            .exact Zm (bW (cP (Zc (cC (k:=1) (ps:=["deed"]) Gs (hr.mono (by decide)) (Zc (nO (Zc (Zd 7) (Zc (Zd 6) Zg))) Zg)) (Zc (cP Zg) Zg))))
         .exact cM
        .refine Ze ?_ ?_
         .exact Zv 8 yE.nd (cC (k:=3) (ps:=["deck","names","cell"]) LC (hr.mono (by decide)) (Zc (Zd 0) (Zc (Zd 1) (Zc (Zu iD (Zd 4) Zj) Zg))))
         .exact Zm (bW (cP (Zc (cC (k:=1) (ps:=["deed"]) Gs (hr.mono (by decide)) (Zc (Zd 8) Zg)) (Zc (Zu dY (Zd 3) (cP (Zc (Zd 8) Zg))) Zg))))
theorem mL:dJ ["deck","names","many","most","rows","stack","deeds","used","k","kept","row","behind"] ["deck","names","many","most"] (Zk BW):=⟨rfl,rfl,rfl,by decide +kernel,rfl,by decide +kernel,by decide +kernel⟩
theorem ZhQ(A:bL K mg "_law_program" BW ["deck","names","many","most"])(T:Txt K mg)(yO:aH P w K mg base 1 "_law_closed" ["stack","deeds"] vZ)(LQ:aH P w K mg base 4 "_law_row" ["deck","names","stack","deeds"] yx):aH P w K mg base 5 "_law_program" ["deck","names","many","most"] Ks:=
  aH.of (N:=["deck","names","many","most","rows","stack","deeds","used","k","kept","row","behind"]) (k:=4) A mL λf cdv A outer s H E hr=>by
    have hu:=fZ hr;unfold Sv;refine Ze ?_ ?_
    .exact Zv 4 mL.nd (cP Zg)
    .refine Ze ?_ ?_
     .exact Zv 5 mL.nd (cP Zg)
     .refine Ze ?_ ?_
      .exact Zv 6 mL.nd (cP Zg)
      .refine Ze ?_ ?_
       .exact Zv 7 mL.nd Zj
       .refine Ze ?_ ?_
        .refine Al ?_ ?_ ?_ ?_ ?_
         .exact rfl
         .exact rfl
         .exact JS T.Gx (Zd 2)
         .exact jJ 8 mL.nd
         .refine Ze ?_ ?_
          .exact Zpq (N':=["deck","names","many","most","rows","stack","deeds","used","k","kept","row","behind","block"]) 9 (lR rfl (by kernel_rfl)) rfl rfl mL.nd (mH (Zd 5)) (λC cl s H ex=>⟨(jJ 12 ((show jt (["deck","names","many","most","rows","stack","deeds","used","k","kept","row","behind","block"]:List aj)by decide +kernel))),mG,(j4 (T:="list") Zux T.Mi ZrQ (Zc (Zd 12) Zg))⟩)
          .refine Ze ?_ ?_
           .exact RM rfl (cC (k:=4) (ps:=["deck","names","stack","deeds"]) LQ (hr.mono (by decide)) (Zc (Zd 0) (Zc (Zd 1) (Zc (Zd 5) (Zc (Zd 6) Zg))))) (j5 10 mL.nd (j5 11 mL.nd yc))
           .refine Ze ?_ ?_
            .exact bV (bh ph (Zu dY (Zd 7) (dF (id:="len") fO T.eQ e_ (Zc (Zd 10) Zg))) (Zd 3)) (Ze (Zv 5 mL.nd (Zd 9)) (Zm ZpN)) cM
            .refine Ze ?_ ?_
             .exact Zv 6 mL.nd (Zd 11)
             .refine Ze ?_ ?_
              .exact Zv 7 mL.nd (Zu dY (Zu dY (Zd 7) (dF (id:="len") fO T.eQ e_ (Zc (Zd 10) Zg))) Zj)
              .exact Zm (fX (jc (Zd 4) (Zc (Zd 10) Zg)))
        .refine Ze ?_ ?_
         .refine ZlM ?_ ?_ ?_
          .exact rfl
          .exact bh ((RZ hu)) (Zd 5) (cP Zg)
          .refine Ze ?_ ?_
           .refine bV ?_ ?_ ?_
            .refine CW.ct ?_;refine nJ ?_ ?_
             .exact bh ((d_ hu)) (bx bA (bx bA (Zd 5) (jH jK Zj)) Zj) bF
             .exact vN (bh Fl (bx bA (bx bA (Zd 5) (jH jK Zj)) Zj) mF)
            .refine Ze ?_ ?_
             .exact RD (bx bA (Zd 5) (jH jK Zj)) Zj (j4 (T:="tuple") nQ T.jA nR (Zc (Zd 6) Zg))
             .exact Ze (Zv 6 mL.nd (cP Zg)) (Zm (fX (jc (Zd 4) (Zc bF Zg))))
            .exact cM
           .exact Ze (Zv 6 mL.nd (cC (k:=1) (ps:=["stack","deeds"]) yO (hr.mono (by decide)) (Zc (Zd 5) (Zc (Zd 6) Zg)))) (Ze (fX (Ka (Zd 5))) (Zm (fX (jc (Zd 4) (Zc bF Zg)))))
         .exact Zm (bW (cP (Zc (Zd 4) (Zc (j4 (T:="tuple") nQ T.jA nR (Zc (Zd 6) Zg)) Zg))))
theorem ZfW:dJ ["deck","names","cell"] ["deck","names"] (Zk BX):=⟨rfl,rfl,rfl,by decide +kernel,rfl,by decide +kernel,by decide +kernel⟩
theorem Zjp(A:bL K mg "_law_taken" BX ["deck","names"])(T:Txt K mg)(jN:aH P w K mg base 1 "_law_next" ["deck"] h_):aH P w K mg base 2 "_law_taken" ["deck","names"] Ku:=
  aH.of (N:=["deck","names","cell"]) (k:=1) A ZfW λf cdv A outer s H E hr=>by
    have hu:=fZ hr;unfold Sw;refine Ze ?_ ?_
    .exact Zv 2 ZfW.nd (cC (k:=1) (ps:=["deck"]) jN (hr.mono (by decide)) (Zc (Zd 0) Zg))
    .refine Zm ?_;refine bW ?_;refine j4 (T:="tuple") ?_ ?_ ?_ ?_
     .exact nQ
     .exact T.jA
     .exact nR
     .refine Zc ?_ ?_
      .refine qi (N':=["deck","names","cell","k"]) ?_ ?_ ?_ ?_ (λC cl s H ex=>⟨?_,?_,?_⟩)
       .exact lR rfl (by kernel_rfl)
       .exact rfl
       .exact rfl
       .exact JS T.Gx (Zu di (Zd 2) Zj)
       .exact jJ 3 ((show jt (["deck","names","cell","k"]:List aj)by decide +kernel))
       .exact mG
       .exact bx bA (Zd 1) (Zu di (Zu dY (Zu iD (Zd 2) Zj) (Zd 3)) Zj)
      .exact Zg
theorem pB:dJ ["script","deck","cell","names","taken","rows","deeds","text","row","due"] ["script"] (Zk uf):=⟨rfl,rfl,rfl,by decide +kernel,rfl,by decide +kernel,by decide +kernel⟩
theorem ZtO{f:Y1}{fd:jT}(F:tH K "law" "law" uf f fd)(T:Txt K mg)(GD:aH P w K mg base 68 "read" ["text"] Bd)(jN:aH P w K mg base 1 "_law_next" ["deck"] h_)(Gv:aH P w K mg base 32 "_law_same" ["found","due"] FJ)(Lq:aH P w K mg base 2 "_law_names" ["deck"] Kq)(Lh:aH P w K mg base 5 "_law_program" ["deck","names","many","most"] Ks)(Lr:aH P w K mg base 2 "_law_taken" ["deck","names"] Ku):jm P w K mg base kZ 69 f fd ["script"] (tY K 1 ZnR):=
  Q5 (N:=["script","deck","cell","names","taken","rows","deeds","text","row","due"]) (k:=68) F pB λcdv A outer s H E hr=>by
    have hu:=fZ hr;unfold Sx;refine Ze ?_ ?_
    .exact Zv 1 pB.nd (cP (Zc (qd qj (Zd 0) rC (o_ Zj)) (Zc Zj Zg)))
    .refine Ze ?_ ?_
     .exact Zv 2 pB.nd (cC (k:=1) (ps:=["deck"]) jN (hr.mono (by decide)) (Zc (Zd 1) Zg))
     .refine Ze ?_ ?_
      .exact Zv 3 pB.nd (cC (k:=2) (ps:=["deck"]) Lq (hr.mono (by decide)) (Zc (Zd 1) Zg))
      .refine Ze ?_ ?_
       .exact Zv 4 pB.nd (cC (k:=2) (ps:=["deck","names"]) Lr (hr.mono (by decide)) (Zc (Zd 1) (Zc (Zd 3) Zg)))
       .refine Ze ?_ ?_
        .refine RM ?_ ?_ ?_
         .exact rfl
         .refine cC (k:=5) (ps:=["deck","names","many","most"]) ?_ ?_ ?_
          .exact Lh
          .exact hr.mono (by decide)
          .exact Zc (Zd 1) (Zc (Zd 3) (Zc (dF (id:="len") fO T.eQ e_ (Zc (qd qj (Zd 0) rC (o_ Zj)) Zg)) (Zc Zj Zg)))
         .exact j5 5 pB.nd (j5 6 pB.nd yc)
        .refine Ze ?_ ?_
         .refine bV ?_ ?_ ?_
          .exact bh ((Ar hu)) (Zd 4) (nO Zg)
          .exact Zm (Zv 5 pB.nd (Zu dY (cP (Zc (ZlT bF (Zc (Zu dY (nO (Zc bF Zg)) (Zd 4)) Zg)) Zg)) (Zd 5)))
          .exact cM
         .refine Ze ?_ ?_
          .exact Zv 7 pB.nd (cP Zg)
          .refine Ze ?_ ?_
           .refine Al ?_ ?_ ?_ ?_ ?_
            .exact rfl
            .exact rfl
            .exact mH (Zd 5)
            .exact jJ 8 pB.nd
            .refine Ze ?_ ?_
             .refine bV ?_ ?_ ?_
              .refine CW.ct ?_;refine nJ ?_ ?_
               .exact bh ph (Zu di (Zd 2) Zj) Zj
               .refine nJ ?_ ?_
                .exact bh ((d_ hu)) (Zu di (cC (k:=1) (ps:=["deck"]) jN (hr.mono (by decide)) (Zc (Zd 1) Zg)) Zj) Zj
                .exact vN (bh tZ (dF (id:="len") fO T.eQ e_ (Zc (Zd 7) Zg)) Zj)
              .exact Zm (fX (jc (Zd 7) (Zc bF Zg)))
              .exact cM
             .exact Zm (fX (jc (Zd 7) (Zc (Zd 8) Zg)))
           .refine Ze ?_ ?_
            .exact bV (bh ((d_ hu)) (Zu di (Zu iD (Zd 2) Zj) Zj) Zj) (Zm (fX (jc (Zd 7) (Zc bF Zg)))) cM
            .refine Ze ?_ ?_
             .exact Zv 7 pB.nd (ZiF bF (Zc (Zd 7) Zg))
             .refine Ze ?_ ?_
              .exact Zv 9 pB.nd (nO (Zc (Zd 4) (Zc (Zd 6) Zg)))
              .refine Zm ?_;refine bW ?_;refine x_ ?_ ?_
               .exact cC (k:=32) (ps:=["found","due"]) Gv (hr.mono (by decide)) (Zc (cC (k:=68) (ps:=["text"]) GD (hr.mono (by decide)) (Zc (Zd 7) Zg)) (Zc (Zd 9) Zg))
               .exact xZ (cC (k:=32) (ps:=["found","due"]) Gv (hr.mono (by decide)) (Zc (cC (k:=68) (ps:=["text"]) GD (hr.mono (by decide)) (Zc (Zd 7) Zg)) (Zc (Zd 9) Zg)))
end
end Law
set_option maxHeartbeats 200000
namespace Law
open L3
theorem Zun(c:Nat):∀(x y a b:List Nat),c∉x->c∉y->x++c::a=y++c::b->x=y/\a=b:=by
 intro x
 induction x with
 |nil=>
  intro y a b _ hy h;cases y with
  |nil=>exact⟨rfl,(iT h).2⟩|cons q y=>exact absurd (iT h).1 λe=>hy (e▸Yd ..)
 | cons p x ih=>
  intro y a b hx hy h;cases y with
  |nil=>exact absurd (iT h).1 λe=>hx (e▸Yd ..)|cons q y=>obtain⟨e1,e2⟩:=ih y a b (λz=>hx (Yc _ z)) (λz=>hy (Yc _ z)) (iT h).2;exact⟨by rw[(iT h).1,e1],e2⟩
theorem ug(s x y:List Nat)(r:List (List Nat)):glue s (x::y::r)=x++(s++glue s (y::r)):=by show x++s++glue s (y::r)=_;rw[jg]
theorem Zq9(c:Nat):∀(ts us:List (List Nat)),ts≠[]->us≠[]->(∀t∈ts,c∉t)->(∀t∈us,c∉t)->glue [c] ts=glue [c] us->ts=us:=by
 intro ts
 induction ts with
 |nil=>intro us h;exact absurd rfl h|cons t ts ih=>
  intro us _ hu ft fu h;cases us with
  |nil=>exact absurd rfl hu|cons u us=>
   have ht:=ft t (Yd ..);have hu':=fu u (Yd ..);cases ts with
   | nil=>
    cases us with
    |nil=>rw[show t=u from h]|cons v us=>rw[ug]at h;refine absurd (show c∈t from ?_) ht;rw[show t=_ from h];exact Y5 _ (Yd ..)
   | cons w ts=>
    cases us with
    |nil=>rw[ug]at h;refine absurd (show c∈u from ?_) hu';rw[show u=_ from h.symm];exact Y5 _ (Yd ..)|cons v us=>rw[ug,ug]at h;obtain⟨e1,e2⟩:=Zun c t u _ _ ht hu' h;rw[e1,ih (v::us) (λz=>nomatch z) (λz=>nomatch z) (λq hq=>ft q (Yc _ hq)) (λq hq=>fu q (Yc _ hq)) e2]
theorem Zik(x:List Nat)(c:Nat):glue [c] (nH x [c])=x:=by
 have h:=PySem.StrLaws.join_split (⟨x.toArray⟩:PySem.Str) (⟨([c]:List Nat).toArray⟩);have e:(ZM (⟨x.toArray⟩:PySem.Str) ⟨([c]:List Nat).toArray⟩)=(nH x [c]).map λt=>(⟨t.toArray⟩:PySem.Str):=by unfold nH;rw[qK];exact(List.map_id _).symm.trans (Wh λt _=>rfl)
 rw[e,J8]at h;have q:=congrArg (λs:PySem.Str=>s.cps.toList) h;simpa using q
theorem ZhF(c:Nat)(ts:List (List Nat))(h:ts≠[])(hf:∀t∈ts,c∉t):nH (glue [c] ts) [c]=ts:=by
 have hs:∀t∈nH (glue [c] ts) [c],c∉t:=by intro t ht;obtain⟨p,hp,rfl⟩:=gH.mp ht;exact PySem.StrLaws.split_free _ c p hp
 refine Zq9 c _ _ (λz=>?_) h hs hf (Zik _ c);have q:=Zik (glue [c] ts) c;unfold nH at z;have z1:=CP.mp z;have z2:=PyProof.Rows.split_pos (⟨(glue [c] ts).toArray⟩:PySem.Str) ⟨([c]:List Nat).toArray⟩;rw[z1]at z2;exact absurd z2 (by decide)
noncomputable def cD(n:Nat):List Nat:=(HW 10 n).map Pz
theorem ZlK:∀d:Nat,d<10->(Nat.digitChar d).toNat=48+d:=by decide
variable{n:Nat}
theorem yF(h:n<10):cD n=[48+n]:=by unfold cD;rw[WW h,Yu,rY,ZlK n h]
theorem FT(h:10<=n):cD n=cD (n / 10)++[48+n % 10]:=by have hm:n % 10<10:=Nat.mod_lt n (by decide);have t:HW 10 (n / 10)++HW 10 (n % 10)=HW 10 (10*(n / 10)+n % 10):=Nat.toDigits_append_toDigits (by decide) (by omega) hm;rw[Nat.div_add_mod]at t;unfold cD;rw[←t,jR,WW hm,Yu,rY,ZlK _ hm]
theorem v7(n:Nat):∀c∈cD n,48<=c/\c<=57:=by
 induction n using Oi with
 | _ n ih=>
  by_cases h:n<10
  .rw[yF h];intro c hc;rw[Yz.mp hc];exact⟨m9 _ _,lA 1 0x392b0302bc0a1b011 T1 h⟩
  .rw[FT (mz h)];intro c hc;rcases fQ.mp hc with hc|hc
   .exact ih (n / 10) (HN λz=>lB 3 0x6010ad01a1b0511002 T1 z h (Oj _ _)) c hc
   .rw[Yz.mp hc];exact⟨m9 _ _,lA 1 0x392b0302bc0a1b011 T1 (Nat.mod_lt _ (by decide))⟩
theorem FW(n:Nat):cD n≠[]:=by
 by_cases h:n<10
 .rw[yF h];exactλz=>nomatch z
 .rw[FT (mz h)];exactλz=>absurd (M8.mp z).2 (λz=>nomatch z)
theorem FZ(k:Nat):∀n:Nat,n<10^(k+1)->(cD n).length<=k+1:=by
 induction k with
 |zero=>intro n h;rw[yF (by simpa using h)];exact Ys _|succ k ih=>
  intro n h;by_cases q:n<10
  .rw[yF q];exact HS 1 _
  .rw[FT (mz q),Ye,Y8];have:=ih (n / 10) (by rw[Nat.pow_succ]at h;omega);exact lB 1 0xaa1cca0c0a1c001 T1 this
theorem Zo3(n:Nat)(h:0<n):∀r,cD n≠48::r:=by
 induction n using Oi with
 | _ n ih=>
  intro r z;by_cases q:n<10
  .rw[yF q]at z;have:=(iT z).1;exact lA 2 0x60e11302b0302bc21 T1 this h
  .rw[FT (mz q)]at z;cases e:cD (n / 10)with
   |nil=>exact FW _ e|cons c l=>rw[e]at z;have:=(iT z).1;subst this;exact ih (n / 10) (HN λz=>lB 3 0x6010ad01a1b0511002 T1 z q (Oj _ _)) (by omega) l e
theorem Zk8(n:Nat):Du (cD n)=n:=by
 induction n using Oi with
 | _ n ih=>
  by_cases q:n<10
  .rw[yF q];show 0*10+(48+n-48)=n;exact iR (lB 1 0x10a1b00dc01302bc302b0c21 T1 (m5 (m9 _ _))) (lB 1 0x1a1b00dc00302b1c0302bc01 T1 (nj _ _))
  .rw[FT (mz q)];have e:Du (cD (n / 10)++[48+n % 10])=Du (cD (n / 10))*10+(48+n % 10-48):=by
    unfold Du;rw[List.foldl_append];rfl
   rw[e,ih (n / 10) (HN λz=>lB 3 0x6010ad01a1b0511002 T1 z q (Oj _ _))];omega
theorem Kw(n:Nat):gK (n:Int)=cD n:=by unfold gK cD;rw[Xh];show(Nat.repr n).toList.map Pz=_;rw[W7]
theorem Ky(n:Nat):gK (Int.negSucc n)=45::cD (n+1):=by unfold gK cD;rw[Xh];show("-" ++Nat.repr (n+1)).toList.map Pz=_;rw[String.toList_append,jR,W7];rfl
theorem Tc(i:Int)(h:i.natAbs<10^60):Hs ⟨(gK i).toArray⟩=Ya i/\(gK i).length<=61/\∀c∈gK i,45<=c:=by
 cases i with
 |ofNat n=>have hl:=FZ 59 n h;have e:gK (Int.ofNat n)=cD n:=Kw n;rw[e];refine⟨?_,qM hl,λc hc=>Yk (by decide) (v7 n c hc).1⟩;have q:=PySem.intText_digits (x:=⟨(cD n).toArray⟩) (v7 n) (FW n) (Yk (show(cD n).toArray.size<=60 by simpa using hl) (by decide));rw[q];show Ya ((Du (cD n):Nat):Int)=_;rw[Zk8];rfl|negSucc n=>
  have hl:=FZ 59 (n+1) h;rw[Ky];refine⟨?_,oM hl,λc hc=>?_⟩
  .have q:=PySem.intText_neg (x:=⟨(45::cD (n+1)).toArray⟩) (cs:=cD (n+1)) rfl (v7 _) (FW _) (Yk (show(45::cD (n+1)).toArray.size<=61 by simpa using hl) (by decide));rw[q,Zk8];rfl
  .rcases Ym.mp hc with e|hc
   .exact sI e.symm
   .exact Yk (by decide) (v7 _ c hc).1
variable{M M':Store}
theorem ZpT{d:D}(h:M'.length=M.length):dW M d M'= .ok d M':=by unfold dW;rw[qI (sI h)];split <;>rfl
theorem Qt(n d:Nat):aB n d Yn=d:=rfl
theorem Ed(n d k:Nat):aB n d (Ya (k:Int))=jl k n:=by have h:¬((k:Int)<0):=(λz=>iN [_] [] 1 7211153 T1 z);simp only[aB,if_neg h,qN]
variable{α:Type}
theorem Cd(w:List α)(k:Nat):cutD w (Ya (k:Int)) Yn=w.drop k:=by
 unfold cutD;rw[Ed,Qt];by_cases h:k<=w.length
 .rw[Dl h,qI (by simp)]
 .rw[Oe (by exact lB 1 1052737 T1 h),G9 (Ys _),G9 (by exact lB 1 1052737 T1 h)];simp
theorem ZpV(w:List α)(k:Nat):cutD w Yn (Ya (k:Int))=w.take k:=by
 unfold cutD;rw[Ed,Qt];by_cases h:k<=w.length
 .rw[Dl h];simp
 .rw[Oe (by exact lB 1 1052737 T1 h),Nat.sub_zero,Hi,qI (Ys _),qI (by exact lB 1 1052737 T1 h)]
theorem ZwC{i j:Int}(h:-(2^64)<i/\i<2^64):lg i j=true:=by unfold lg;rw[w5];left;simp only[Y4,decide_eq_true_eq];exact h
theorem mul_r{i j:Int}(h:-(2^64)<j/\j<2^64):lg i j=true:=by unfold lg;rw[w5];right;simp only[Y4,decide_eq_true_eq];exact h
theorem mO(x:Int)(m:Nat)(h:0<m):∃a:Nat,x % (m:Int)=a/\a<m:=by have h1:=pO x (b:=(m:Int)) (by exactλz=>iN [_] [] 2 416093702305 T1 z h);have h2:=sU x (b:=(m:Int)) (by exact iN [_] [] 1 149491217 T1 h);exact⟨(x % (m:Int)).toNat,(sS h1).symm,by exact iN [_,_] [_] 2 18698308976785 T1 h2 (sS h1)⟩
theorem iG{i j:Int}(h:0<j/\j<1073741824):bG (.int i) (.int j) M= .ok (.int (i / j)) M:=by simp only[ZjW,if_pos h]
variable{env:bK}{ds:List D}
theorem cX{g:d8}(h:g env M= .ok ds M')(hl:decide (ds.length<=100)=true):bf g env M= .ok (.ref M'.length) (M'++[.lst ds]):=by have z:ds.length<=SZ:=Yk (of_decide_eq_true hl) (by decide);simp only[bf,h,R3.bind,if_pos z,alloc]
variable{xs:List D}
theorem Td{d:D}{o t:E3}(ho:o env M= .ok (.ref n) M)(hM:M[n]?=Ya (.lst xs))(ht:t env M= .ok d M')(hM':M'[n]?=Ya (.lst xs))(hl:xs.length<SZ):
  aO (aG a_ Zz o (Zb t (Zf))) env M= .nx env (M'.set n (.lst (xs++[d]))):=by
 have e:aG a_ Zz o (Zb t (Zf)) env M= .ok .non (M'.set n (.lst (xs++[d]))):=by simp only[aG,ho,R3.bind,Ac,hM,Zb,ht,Zf,QQ,hM',if_pos hl,if_true]
 rw[aO,e]
theorem Zwe{op:D->D->D->Store->R3 D}{f g h:E3}{M M1 M2 M3 M4:Store}{a b c d:D}(h1:f env M= .ok a M1)(h2:g env M1= .ok b M2)(h3:h env M2= .ok c M3)(h4:op a b c M3= .ok d M4):e3 op f g h env M= .ok d M4:=by simp only[e3,h1,h2,h3,h4,R3.bind]
noncomputable def nW(x:List Nat):Bool:=decide (x=[97,100,100]\/x=[115,117,98]\/x=[109,111,114,101]\/x=[99,101,108,108])
theorem Te(s:Nat)(b:Nat):∀ts:List (List Nat),(∀t∈ts,t.length<=b)->jY [s] ts<=ts.length*(b+1)/\(glue [s] ts).length<=ts.length*(b+1):=by
 intro ts
 induction ts with
 |nil=>intro _;exact⟨by simp[jY],by simp[glue]⟩|cons t ts ih=>
  intro h;have ht:=h t (Yd ..);obtain⟨i1,i2⟩:=ih λq hq=>h q (Yc _ hq);have e1:jY [s] (t::ts)=t.length+1+jY [s] ts:=by simp[jY]
  have e3:(ts.length+1)*(b+1)=ts.length*(b+1)+(b+1):=Nat.succ_mul ..;rw[e1,Yp,e3];refine⟨lD 2 0xa3c1c0a2cc032011001 T1 i1 ht,?_⟩;cases ts with
  |nil=>show t.length<=_;exact lC 1 0xa1c2c001001 T1 ht|cons u ts=>rw[ug,Ye,Ye];show t.length+(1+_)<=_;exact lD 2 0xa3c1c0ac2c032011001 T1 i2 ht
theorem strs_map:∀ts:List (List Nat),g_ (ts.map D.str)=Ya ts
 |[]=>rfl|t::ts=>by show(g_ (ts.map D.str)).map _=_;rw[strs_map ts];rfl
variable{s:Nat}
theorem Zn7{ts:List (List Nat)}(h:M[n]?=Ya (.lst (ts.map D.str)))(hz:jY [s] ts<=SZ):Ae (.str [s]) [.ref n] M= .ok (.str (glue [s] ts)) M:=by simp only[Zlj,h,strs_map,if_pos hz]
variable{x:List Nat}
theorem Ce{m:D->List D->Store->R3 D}{o g:E3}{M M1 M2:Store}{d r:D}(h1:o env M= .ok (.str x) M)(h2:g env M= .ok d M1)(h3:m (.str x) [d] M1= .ok r M2):aG g8 m o (Zb g Zf) env M= .ok r M2:=by simp only[aG,h1,R3.bind,Zu3,if_true,Zb,h2,Zf,h3]
theorem Znk{i:Int}(h:i.natAbs<10^60):(gK i).length<=61:=(Tc i h).2.1
theorem ZtG{i:Int}(h:i.natAbs<10^60):i.natAbs.log2<1920:=by
 by_cases z:i.natAbs=0
 .rw[z];decide
 .exact(Nat.log2_lt z).mpr (m_ h (by decide +kernel))
noncomputable abbrev uh:List Nat:=[48,49,50,51,52,53,54,55,56,57]
theorem in_str(c:Nat)(y:List Nat)(M:Store):lz (.str [c]) (.str y) M= .ok (.bl (decide (c∈y))) M:=rfl
theorem all_map{p:α->Bool}{l:List α}(h:M[n]?=Ya (.lst (l.map λc=>D.bl (p c)))):qW [.ref n] M= .ok (.bl (l.all p)) M:=by
 have a:∀l:List α,(l.map λc=>D.bl (p c)).all Aa=true/\(l.map λc=>D.bl (p c)).all xR=l.all p:=by
  intro l
  induction l with
  |nil=>exact⟨rfl,rfl⟩|cons x l ih=>exact⟨by simp only[Yu,jC,Aa,ih.1,Bool.and_self],by rw[Yu,jC,jC,ih.2];cases p x<;>rfl⟩
 simp only[Ab,h,allB,(a l).1,(a l).2,if_true]
theorem Ziq{w fs:List Nat}(h1:1<=fs.length)(h2:fs.length<=60)(h3:∀r,fs≠48::r):
  (Zr (aJ (eG (e2 dD (aA aZ (Zb (Za 1) (Zf))) (eC (.int 1))) (e2 cu (aA aZ (Zb (Za 1) (Zf))) (qC))) (aX (eC (.bl false))) (aW)) (Zr (aJ (aG g8 qX (Za 1) (Zb (eC (.str [48])) (Zf))) (aX (e2 aV (Za 0) (eC (.str [48])))) (aW)) (aX (aA qW (Zb (fK (cV (Za 1)) 1 (cg 2) [] (e2 lz (Za 2) (uy))) (Zf)))))) [Ya (.str w),Ya (.str fs)] M= .rt (.bl (fs.all λc=>decide (c∈uh))) (M++[.lst (fs.map λc=>D.bl (decide (c∈uh)))]):=by
 have hz:fs.length<=SZ:=Yk h2 (by decide);have ln:(aA aZ (Zb (Za 1) (Zf))) [Ya (.str w),Ya (.str fs)] M= .ok (.int fs.length) M:=b7 (a:=.str fs) rfl (by simp only[zX,zY,zZ,qU,if_pos hz]);have c1:(eG (e2 dD (aA aZ (Zb (Za 1) (Zf))) (eC (.int 1))) (e2 cu (aA aZ (Zb (Za 1) (Zf))) (qC))) [Ya (.str w),Ya (.str fs)] M= .ok (.bl false) M:=by rw[oZ (M1:=M) (Zh ln rfl (by simp only[lu];rw[decide_eq_false (by exactλz=>iN [_] [] 2 415002921105 T1 z h1)]))];exact Zh ln (g:=qC) (b:=.int 60) rfl (by simp only[jb];rw[decide_eq_false (by exactλz=>iN [_] [] 2 0x63c2b001083c2b91 T1 z h2)])
 have c2:(aG g8 qX (Za 1) (Zb (eC (.str [48])) (Zf))) [Ya (.str w),Ya (.str fs)] M= .ok (.bl false) M:=by
  refine Ce (d:=.str [48]) rfl rfl ?_;cases fs with
  |nil=>exact absurd h1 (by decide)|cons c r=>
   have q:¬48=c:=λe=>h3 r (by rw[e]);have e:([48]:List Nat).isPrefixOf (c::r)=false:=by show((48==c)&&Nk [] r)=false;rw[beq_eq_false_iff_ne.mpr q];rfl
   simp only[El];rw[if_pos ⟨hz,by decide⟩,e]
 rw[Zi (cR c1),Zi (cR c2)];have hi:(cV (Za 1)) [Ya (.str w),Ya (.str fs)] M= .ok ⟨fs.map (λc=>D.str [c]),Yn⟩ M:=by simp only[cV,Za,CN,G8,R3.bind,if_pos hz]
 have lc:=vG (h:=λc=>D.bl (decide (c∈uh))) (own:=1) (i:=2) (elt:=(e2 lz (Za 2) (uy))) hi (λn z=>nomatch z)
  (λc hc M'=>Zh (a:=.str [c]) (b:=.str uh) rfl rfl (in_str c uh M')) (Yk h2 (by decide))
 exact dh (b7 lc (all_map (Zq _ _ _)))
variable{c:Nat}
theorem Zu7(h:48<=c/\c<=57):c∈uh:=by simp only[Ym,mZ,or_false];omega
theorem ZlR{i:Int}(h:i.natAbs<10^60)(M:Store):qm [.str (gK i)] M= .ok (.bl true) M:=by
 have go:∀(n:Nat) (w:List Nat),0<n->n<10^60->(jV (aG g8 qX (Za 0) (Zb (eC (.str [45])) (Zf))) (eN (Za 0) (dN (eC (.int 1))) (fW)) (Za 0)) [Ya (.str w),Yn] M= .ok (.str (cD n)) M->qm [.str w] M= .ok (.bl true) M:=λn w h0 h1 hf=>by
  refine Rt.pure (G:=[.lst ((cD n).map λc=>D.bl (decide (c∈uh)))]) (env:=[Ya (.str w),Yn]) ?_ rfl;unfold Fx;rw[Zi (Zo hf)];refine(Ziq ?_ (FZ 59 n h1) (Zo3 n h0)).trans (by rw[gQ.mpr λc hc=>decide_eq_true (Zu7 (v7 n c hc))]);cases e:cD n with
  |nil=>exact absurd e (FW n)|cons _ _=>exact HS 1 _
 cases i with
 | ofNat n=>
  have e:gK (Int.ofNat n)=cD n:=Kw n;have hp:(jV (aG g8 qX (Za 0) (Zb (eC (.str [45])) (Zf))) (eN (Za 0) (dN (eC (.int 1))) (fW)) (Za 0)) [Ya (.str (cD n)),Yn] M= .ok (.str (cD n)) M:=by
   rw[Ew (M1:=M)]
   .rfl
   .refine Ce (d:=.str [45]) rfl rfl ?_;have hl:=FZ 59 n h;have e:([45]:List Nat).isPrefixOf (cD n)=false:=by
     cases q:cD n with
     |nil=>rfl|cons c r=>have qc:=v7 n c (by rw[q];exact Yd ..);show((45==c)&&Nk [] r)=false;rw[beq_eq_false_iff_ne.mpr (by exactλz=>lA 2 0x60302b0102d2b31 T1 z qc.1)];rfl
    simp only[El];rw[if_pos ⟨Yk hl (by decide),by decide⟩,e]
  rw[e];by_cases z:n=0
  .subst z;refine Rt.pure (G:=[]) (env:=[Ya (.str (cD 0)),Yn]) ?_ rfl;rw[jQ];unfold Fx;rw[Zi (Zo hp),yF (by decide)];simp[Zr,aJ,aX,aW,qC]
  .exact go n _ (W4 z) h hp
 | negSucc n=>
  rw[Ky];have hl:=FZ 59 (n+1) h;refine go (n+1) _ (Nat.succ_pos n) h ?_;rw[Eu (M1:=M)]
  .have e:cutD (45::cD (n+1)) (Ya 1) Yn=cD (n+1):=Cd (45::cD (n+1)) 1;have hz:(45::cD (n+1)).length<=SZ:=Yk (oM hl) (by decide);simp only[eN,Za,dN,fW,eC,R3.bind,G8,Ei,Ej,zV,zW,if_pos hz,e]
  .refine Ce (d:=.str [45]) rfl rfl ?_;have hz:(45::cD (n+1)).length<=SZ:=Yk (oM hl) (by decide);simp only[El];rw[if_pos ⟨hz,by decide⟩];rfl
theorem Zlp(h1:1<=x.length)(h2:x.length<=60)(h3:∀c∈x,97<=c)(M:Store):qm [.str x] M= .ok (.bl false) M:=by
 have hz:x.length<=SZ:=Yk h2 (by decide);obtain⟨c,r,rfl⟩:∃c r,x=c::r:=by
  cases x with
  |nil=>exact absurd h1 (by decide)|cons c r=>exact⟨c,r,rfl⟩
 have hc:97<=c:=h3 c Yd;have hp:(jV (aG g8 qX (Za 0) (Zb (eC (.str [45])) (Zf))) (eN (Za 0) (dN (eC (.int 1))) (fW)) (Za 0)) [Ya (.str (c::r)),Yn] M= .ok (.str (c::r)) M:=by
  rw[Ew (M1:=M)]
  .rfl
  .refine Ce (d:=.str [45]) rfl rfl ?_;have e:([45]:List Nat).isPrefixOf (c::r)=false:=by
    show((45==c)&&Nk [] r)=false;rw[beq_eq_false_iff_ne.mpr (by omega)];rfl
   simp only[El];rw[if_pos ⟨hz,by decide⟩,e]
 refine Rt.pure (G:=[.lst ((c::r).map λc=>D.bl (decide (c∈uh)))]) (env:=[Ya (.str (c::r)),Yn]) ?_ rfl;unfold Fx;rw[Zi (Zo hp)];refine(Ziq h1 h2 (λq e=>by have:=(iT e).1;omega)).trans ?_;have hn:decide (c∈uh)=false:=decide_eq_false λz=>by simp only[Ym,mZ,or_false]at z;omega
 rw[jC,hn,Oq]
inductive Sm where
 |num (i:Int)|dZ (x:List Nat)|jd (a:Sm)|two (o:Nat) (a b:Sm)
noncomputable abbrev mQ:List Nat:=[99,101,108,108]
noncomputable def v_:Nat->List Nat
 |0=>[97,100,100]|1=>[115,117,98]|_=>[109,111,114,101]
noncomputable def Sm.flat:Sm->List D
 | .num i=>[.int i]|.dZ x=>[.str x]|.jd a=>.str mQ::a.flat|.two o a b=>.str (v_ o)::(a.flat++b.flat)
noncomputable def Sm.good:Sm->Prop
 | .num _=>True|.dZ x=>nW x=false|.jd a=>a.good|.two _ a b=>a.good/\b.good
noncomputable def Sm.all(Q:List Nat->Prop):Sm->Prop
 | .num _=>True|.dZ x=>Q x|.jd a=>a.all Q|.two _ a b=>a.all Q/\b.all Q
noncomputable def Sm.parts:Sm->List Sm
 | .num _=>[]|.dZ _=>[]|.jd a=>[a]|.two _ a b=>[a,b]
noncomputable def Sm.head:Sm->D
 | .num i=>.int i|.dZ x=>.str x|.jd _=>.str mQ|.two o _ _=>.str (v_ o)
theorem Sm.Gy(t:Sm):t.flat=t.head::(t.parts.map Sm.flat).flatten:=by cases t<;>simp[Sm.flat,Sm.head,Sm.parts]
noncomputable def ar:D->Nat
 | .str x=>if x=mQ then 1 else if nW x=true then 2 else 0|_=>0
inductive qp:D->Prop
 |int (i:Int):qp (.int i)
 |str (x:List Nat):qp (.str x)
theorem Cg:∀(t:Sm),∀d∈t.flat,qp d
 | .num i,d,h=>by rw[Yz.mp h];exact .int i|.dZ x,d,h=>by rw[Yz.mp h];exact .str x|.jd a,d,h=>by
  rcases Ym.mp h with h|h
  .rw[h];exact .str _
  .exact Cg a d h
 | .two o a b,d,h=>by
  rcases Ym.mp h with h|h
  .rw[h];exact .str _
  .rcases fQ.mp h with h|h
   .exact Cg a d h
   .exact Cg b d h
theorem ZpX(x:List Nat):dO x nU=if x=[97,100,100]then Ya 2 else if x=[115,117,98]then Ya 2 else if x=[109,111,114,101]then Ya 2 else if x=mQ then Ya 1 else Yn:=rfl
variable{w:D}
theorem Zur(h:qp w)(M:Store):tV nU w (.int 0) M= .ok (.int (ar w:Nat)) M:=by
 cases h with
 |int i=>rfl|str x=>
  show(match dO x nU with|some i=>R3.ok (D.int i) M|none=>R3.ok (D.int 0) M)=_;rw[ZpX];by_cases h1:x=[97,100,100]
  .subst h1;rfl
  by_cases h2:x=[115,117,98]
  .subst h2;rfl
  by_cases h3:x=[109,111,114,101]
  .subst h3;rfl
  by_cases h4:x=mQ
  .subst h4;rfl
  have:nW x=false:=decide_eq_false λz=>z.elim h1 λz=>z.elim h2 λz=>z.elim h3 h4;simp only[if_neg h1,if_neg h2,if_neg h3,if_neg h4,ar,this];rfl
noncomputable def stp(s:List (List D)×Nat)(w:D):List (List D)×Nat:=
 let s:=if s.2=0 then(s.1++[[]],1)else s
 (s.1.dropLast++[s.1.getLastD []++[w]],s.2-1+ar w)
theorem Ci(ds:List (List D))(cur:List D)(l:Nat)(w:D):stp (ds++[cur],l+1) w=(ds++[cur++[w]],l+ar w):=by simp[stp]
theorem Zoq(ds:List (List D))(w:D):stp (ds,0) w=stp (ds++[[]],0+1) w:=by simp[stp]
theorem Kz:∀(t:Sm),t.good->∀(ds:List (List D)) (cur:List D) (l:Nat) (r:List D),(t.flat++r).foldl stp (ds++[cur],l+1)=r.foldl stp (ds++[cur++t.flat],l)
 | .num i,_,ds,cur,l,r=>by simp only[Sm.flat,wM,jB,qJ,Ci];rfl|.dZ x,h,ds,cur,l,r=>by
  have e:ar (.str x)=0:=by
   have h:nW x=false:=h;have h':x≠mQ:=λz=>by subst z;exact absurd h (by decide)
   simp only[ar,if_neg h',h];rfl
  simp only[Sm.flat,wM,jB,qJ,Ci,e,HX]
 | .jd a,h,ds,cur,l,r=>by have e:ar (.str mQ)=1:=rfl;simp only[Sm.flat,wM,qJ,Ci,e,Kz a h,jg,jB]|.two o a b,h,ds,cur,l,r=>by
  have e:ar (.str (v_ o))=2:=by
   match o with
   |0=>rfl|1=>rfl|_+2=>rfl
  have e2:l+2=l+1+1:=rfl;simp only[Sm.flat,wM,qJ,Ci,e,jg,e2,Kz a h.1,Kz b h.2,jB]
theorem Tf(t:Sm):∃w r,t.flat=w::r:=⟨_,_,t.Gy⟩
theorem Zrw(t:Sm)(h:t.good)(ds:List (List D))(r:List D):(t.flat++r).foldl stp (ds,0)=r.foldl stp (ds++[t.flat],0):=by obtain⟨w,q,e⟩:=Tf t;have h1:=Kz t h ds [] 0 r;rw[jB]at h1;rw[←h1,e,wM,qJ,qJ,Zoq]
theorem Zoi:∀(ts:List Sm),(∀t∈ts,t.good)->∀ds,(ts.map Sm.flat).flatten.foldl stp (ds,0)=(ds++ts.map Sm.flat,0)
 |[],_,ds=>by simp|t::ts,h,ds=>by rw[Yu,oJ,Zrw t (h t Yd),Zoi ts λt ht=>h t (Yc _ ht)];simp
noncomputable def lV(n j:Nat):List D:=(gU j).map λk=>D.ref (n+1+k)
noncomputable def dG(M:Store)(done:List (List D)):Store:=M++ .lst (lV M.length done.length)::done.map MO.lst
theorem ZnE(M:Store)(done:List (List D)):(dG M done).length=M.length+1+done.length:=by simp only[dG,Ye,Yp,Yv];omega
theorem F_(M:Store)(done:List (List D)):(dG M done)[M.length]?=Ya (.lst (lV M.length done.length)):=Zq _ _ _
theorem Zqn(M:Store)(done:List (List D))(k:Nat):(dG M done)[M.length+1+k]?=(done[k]?).map MO.lst:=by rw[dG,pN,q_,kE 1 k,CN,jO]
theorem Zi3(n j:Nat):lV n (j+1)=lV n j++[D.ref (n+1+j)]:=by simp[lV,List.range_succ]
theorem ZsO(M:Store)(done:List (List D)):(dG M done++[MO.lst []]).set M.length (MO.lst (lV M.length done.length++[D.ref (dG M done).length]))=dG M (done++[[]]):=by have h:=JD M (MO.lst (lV M.length done.length)::done.map MO.lst++[MO.lst []]) 0 (MO.lst (lV M.length done.length++[D.ref (dG M done).length]));rw[HX]at h;rw[ZnE]at h ⊢;rw[dG,jg,h,dG,Ye,Y8,Zi3];simp
theorem Zrn(M:Store)(ds:List (List D))(cur:List D)(w:D):(dG M (ds++[cur])).set (M.length+1+ds.length) (MO.lst (cur++[w]))=dG M (ds++[cur++[w]]):=by rw[dG,pN,JD,dG];simp[kE 1]
theorem ZjC{α:Type}{enc h:α->D}{it:fU}{g:G3}{n:Nat}{elt:E3}{I:bK->Prop}{M:Store}:∀(as:List α) (acc:List D) (env:bK),I env ->
  (∀a∈as,∀env,I env->∃cZ,g (enc a) env=Ya cZ/\I cZ/\∀x,elt cZ (M.set n (.lst x))= .ok (h a) (M.set n (.lst x)))->(∀x,locked it (M.set n (.lst x))=true)->n<M.length->acc.length+as.length<=SZ ->
  iW it g [] elt n (as.map enc) env (M.set n (.lst acc))= .ok (.ref n) (M.set n (.lst (acc++as.map h)))
 |[],acc,env,_,_,hl,_,_=>by simp only[rY,QW,hl,if_true,jQ]|a::as,acc,env,hI,hf,hl,hn,hz=>by
  obtain⟨cZ,hg,hI1,he⟩:=hf a Yd env hI;have gt:(M.set n (.lst acc))[n]?=Ya (.lst acc):=by simp[hn]
  have lt:acc.length<SZ:=by simp only[Yp]at hz;exact lC 1 2204024704001 T1 hz
  have ih:=ZjC as (acc++[h a]) cZ hI1 (λb hb=>hf b (Yc _ hb)) hl hn (by simp only[Ye,Yp,yZ]at hz ⊢;exact lC 1 0x21aec0cc02a1c0c01 T1 hz);simp only[Yu,JC,hl,if_true,hg,Eo,Ep,R3.bind,he,gt,lt,CZ];rw[ih];simp
theorem Tg{enc h:α->D}{own:Nat}{i:I3}{g:G3}{elt:E3}{M M1:Store}{lock:Option Nat}{as:List α}(I:bK->Prop)(hi:i env M= .ok ⟨as.map enc,lock⟩ M1)(Mj:∀n,lock=Ya n->M1[n]?=Ya (.lst (as.map enc)))(hI:I (env++Yq own Yn))(hf:∀a∈as,∀env,I env->∃cZ,g (enc a) env=Ya cZ/\I cZ/\∀x,elt cZ (M1++[.lst x])= .ok (h a) (M1++[.lst x]))(hz:as.length<=100000):
  fK i own g [] elt env M= .ok (.ref M1.length) (M1++[.lst (as.map h)]):=by
 have st:∀x:List D,(M1++[MO.lst []]).set M1.length (.lst x)=M1++[.lst x]:=λx=>by simp
 rw [QX hi];have:=ZjC (enc:=enc) (h:=h) (it:=⟨as.map enc,lock⟩) (g:=g) (n:=M1.length) (elt:=elt) (I:=I) (M:=M1++[.lst []]) as [] (env++Yq own Yn) hI
  (λa ha e he=>by obtain⟨e1,h1,h2,h3⟩:=hf a ha e he;exact⟨e1,h1,h2,λx=>by rw[st];exact h3 x⟩)
  (λx=>by
   rw[st];cases lock with
   |none=>rfl|some n=>simp only[locked,decide_eq_true_eq];exact bO (Mj n rfl) _) (by simp) (by simp;exact lA 1 0xf42405b00186a05b001 T1 hz)
 rw[st,st]at this;simpa using this
theorem ZmR{x:List D}(h:M[n]?=Ya (.lst x)):gA [.ref n] M= .ok (.tup x) M:=by simp[h]
noncomputable abbrev Th:S3:=Zr (aJ (e2 aV (Za 2) (eC (.int 0))) (Zr (aO (aG a_ Zz (Za 1) (Zb (bf (Zf)) (Zf)))) (aq 2 (eC (.int 1)))) (aW)) (Zr (aO (aG a_ Zz (e2 Zn (Za 1) (e1 cj (eC (.int 1)))) (Zb (Za 3) (Zf)))) (aq 2 (e2 aQ (e2 gZ (Za 2) (eC (.int 1))) (e2 (tV nU) (Za 3) (eC (.int 0))))))
theorem Zoy(n j:Nat):(lV n j).length=j:=by simp[lV]
theorem mR{M M' M2:Store}{d:D}{o t:E3}(ho:o env M= .ok (.ref n) M')(hM:M'[n]?=Ya (.lst xs))(ht:t env M'= .ok d M2)(hM':M2[n]?=Ya (.lst xs))(hl:xs.length<SZ):
  aO (aG a_ Zz o (Zb t (Zf))) env M= .nx env (M2.set n (.lst (xs++[d]))):=by
 have e:aG a_ Zz o (Zb t (Zf)) env M= .ok .non (M2.set n (.lst (xs++[d]))):=by simp only[aG,ho,R3.bind,Ac,hM,Zb,ht,Zf,QQ,hM',if_pos hl,if_true]
 rw[aO,e]
theorem ZlE(M:Store)(ds:List (List D))(cur:List D)(l:Nat)(w W:D)(hw:qp w)(h1:ds.length<1000)(h2:cur.length<1000):
  (Zr (aO (aG a_ Zz (e2 Zn (Za 1) (e1 cj (eC (.int 1)))) (Zb (Za 3) (Zf)))) (aq 2 (e2 aQ (e2 gZ (Za 2) (eC (.int 1))) (e2 (tV nU) (Za 3) (eC (.int 0)))))) [Ya W,Ya (.ref M.length),Ya (.int ((l+1:Nat):Int)),Ya w] (dG M (ds++[cur]))
   = .nx [Ya W,Ya (.ref M.length),Ya (.int ((l+ar w:Nat):Int)),Ya w] (dG M (ds++[cur++[w]])):=by
 have hr:lV M.length (ds++[cur]).length=lV M.length ds.length++[.ref (M.length+1+ds.length)]:=by rw[Ye,Y8,Zi3]
 have hat:(dG M (ds++[cur]))[M.length+1+ds.length]?=Ya (.lst cur):=by rw[Zqn];simp
 refine(Zi (mR (M':=dG M (ds++[cur])) (Zh rfl (fL rfl (xM 1)) (iB (F_ M _) (by rw[hr];exact getD_last _ _))) hat rfl hat (m_ h2 (by decide)))).trans ?_;rw[Zrn];refine Zo (Zh (Zh rfl rfl rfl) (Zh rfl rfl (Zur hw _)) ?_);rw[tK];congr 2;omega
theorem ZoC(M:Store)(done:List (List D))(l:Nat)(w W:D)(hw:qp w)(h1:done.length<900)(h2:∀c∈done,c.length<900)(hn:l≠0->done≠[]):
  Th [Ya W,Ya (.ref M.length),Ya (.int (l:Int)),Ya w] (dG M done)= .nx [Ya W,Ya (.ref M.length),Ya (.int ((stp (done,l) w).2:Nat)),Ya w] (dG M (stp (done,l) w).1):=by
 cases l with
 |zero=>
  rw[Zoq,Ci];have hz:(lV M.length done.length).length<SZ:=by rw[Zoy];exact m_ h1 (by decide)
  show Zr _ _ _ _=_;refine(Zi ((eY (Zh rfl rfl (rm rfl))).trans ((Zi (Td rfl (F_ M done) (cX rfl rfl) (bO (F_ M done) _) hz)).trans (Zo (d:=.int 1) rfl)))).trans ?_;rw[ZsO];exact ZlE M done [] 0 w W hw (by omega) (by simp)
 |succ l=>have hd:=hn (by omega);have e:done=done.dropLast++[done.getLast hd]:=(List.dropLast_concat_getLast hd).symm;generalize done.dropLast=ds at e;generalize done.getLast hd=cur at e;subst e;rw[Ci];show Zr _ _ _ _=_;refine(Zi (cR (Zh rfl rfl (vD (by omega))))).trans ?_;exact ZlE M ds cur l w W hw (by simp at h1;omega) (by have:=h2 cur (by simp);omega)
theorem Znw(s:List (List D)×Nat)(w:D):(stp s w).1.length<=s.1.length+1/\(stp s w).1≠[]:=by
 unfold stp;by_cases h:s.2=0
 .simp[h]
 .simp[h]
theorem Zso(s:List (List D)×Nat)(w:D)(k:Nat)(h:∀c∈s.1,c.length<=k):∀c∈(stp s w).1,c.length<=k+1:=by
 have key:∀x:List (List D),(∀c∈x,c.length<=k)->∀c∈x.dropLast++[x.getLastD []++[w]],c.length<=k+1:=by
  intro x hx c hc;rcases fQ.mp hc with hc|hc
  .exact qM (hx c (List.dropLast_subset _ hc))
  .rw[Yz.mp hc,Ye,Y8];refine oM ?_;cases x with
   |nil=>exact fG _|cons a x=>exact hx _ (by rw[List.getLastD_cons];exact(show(x.getLastD a)∈a::x by rw[List.getLastD_eq_getLast?];cases hx':x.getLast? with|none=>simp|some y=>exact Yc _ (List.mem_of_getLast? hx')))
 unfold stp;by_cases hs:s.2=0
 .simp only[hs,if_true];exact key _ λc hc=>by
   rcases fQ.mp hc with hc|hc
   .exact h c hc
   .rw[Yz.mp hc];exact fG _
 .simp only[hs,if_false];exact key _ h
theorem Zow(M:Store)(W:D)(ws:List D)(hw:∀w∈ws,qp w)(hl:ws.length<=500)(x0:Option D)(it:fU)(hi:∀done,locked it (dG M done)=true):
  ∃x,iV it (cg 3) Th ws [Ya W,Ya (.ref M.length),Ya (.int 0),x0] (dG M [])= .nx [Ya W,Ya (.ref M.length),Ya (.int ((ws.foldl stp ([],0)).2:Nat)),x] (dG M (ws.foldl stp ([],0)).1):=by
 have main:∀(ws:List D) (done:List (List D)) (l k:Nat) (x0:Option D),(∀w∈ws,qp w)->k+ws.length<=500->done.length<=k->(∀c∈done,c.length<=k)->(l≠0->done≠[]) ->
   ∃x,iV it (cg 3) Th ws [Ya W,Ya (.ref M.length),Ya (.int (l:Int)),x0] (dG M done)= .nx [Ya W,Ya (.ref M.length),Ya (.int ((ws.foldl stp (done,l)).2:Nat)),x] (dG M (ws.foldl stp (done,l)).1):=by
  intro ws
  induction ws with
  |nil=>intro done l k x0 _ _ _ _ _;exact⟨x0,by rw[vB,if_pos (hi _)];rfl⟩|cons w ws ih=>intro done l k x0 hw hk h1 h2 hn;rw[Yp]at hk;obtain⟨x,hx⟩:=ih (stp (done,l) w).1 (stp (done,l) w).2 (k+1) (Ya w) (λy hy=>hw y (Yc _ hy)) (by omega) (by have:=(Znw (done,l) w).1;simp only at this;omega) (Zso (done,l) w k h2) (λ_=>(Znw (done,l) w).2);refine⟨x,?_⟩;rw[tO,if_pos (hi _)];have:=ZoC M done l w W (hw w Yd) (by omega) (λc hc=>by have:=h2 c hc;omega) hn;simp only[cg,oG,oH,this];exact hx
 exact main ws [] 0 0 x0 hw (by omega) (fG _) (λc hc=>by cases hc) (λh=>absurd rfl h)
theorem ZhB(M:Store)(ts:List Sm)(hg:∀t∈ts,t.good)(hl:(ts.map Sm.flat).flatten.length<=500){W:D}{it:fU}(hit:it.items=(ts.map Sm.flat).flatten)(hi:∀done,locked it (dG M done)=true)(hv:cV (Za 0) [Ya W,Ya (.ref M.length),Ya (.int 0),Yn] (dG M [])= .ok it (dG M [])):∃G k,vX [W] M= .ok (.ref (M.length+k)) (M++G)/\G[k]?=Ya (.lst (ts.map λt=>.tup t.flat)):=by
 have hws:∀w∈(ts.map Sm.flat).flatten,qp w:=λw hw=>by obtain⟨l,h1,h2⟩:=Wo.mp hw;obtain⟨t,_,rfl⟩:=gH.mp h1;exact Cg t w h2
 obtain⟨x,hx⟩:=Zow M W _ hws hl Yn it hi;rw[Zoi ts hg]at hx;simp only[jB]at hx;have hn:(ts.map Sm.flat).length<=100000:=by
  have:∀l:List Sm,(l.map Sm.flat).length<=(l.map Sm.flat).flatten.length:=by
   intro l
   induction l with
   |nil=>exact Ys _|cons t l ih=>rw[Yu,oJ,Ye,Yp];obtain⟨w,r,e⟩:=Tf t;rw[e,Yp];omega
  have:=this ts;omega
 let S:=dG M (ts.map Sm.flat)
 have lc:fK (cV (Za 1)) 1 (cg 4) [] (aA gA (Zb (Za 4) (Zf))) [Ya W,Ya (.ref M.length),Ya (.int ((0:Nat):Int)),x] S= .ok (.ref S.length) (S++[.lst ((gU (ts.map Sm.flat).length).map λk=>D.tup ((ts.map Sm.flat).getD k []))]):=by
  refine Tg (enc:=λk=>D.ref (M.length+1+k)) (h:=λk=>D.tup ((ts.map Sm.flat).getD k [])) (as:=gU (ts.map Sm.flat).length) (M1:=S) (lock:=Ya M.length) (λe=>∃a b c d y,e=[a,b,c,d,y]) ?_ ?_ ⟨_,_,_,_,_,rfl⟩ ?_ (by rw[Hg];exact hn)
  .show(R3.ok (D.ref M.length) S).bind _=_;simp only[R3.bind];rw[show S[M.length]?=_ from F_ M _];rfl
  .intro n hn';cases hn';exact F_ M _
  .intro k hk env ⟨a,b,c,d,y,e⟩;subst e;have hk:=Hh.mp hk;refine⟨_,rfl,⟨_,_,_,_,_,rfl⟩,λz=>?_⟩;refine b7 rfl ?_;refine(ZmR (x:=(ts.map Sm.flat).getD k []) (bO ?_ _));rw[Zqn,Y7 hk,CK,Y7 hk];rfl
 have hlist:((gU (ts.map Sm.flat).length).map λk=>D.tup ((ts.map Sm.flat).getD k []))=ts.map λt=>D.tup t.flat:=by
  apply yV;intro j;rw[jO,jO];by_cases hj:j<ts.length
  .rw[List.getElem?_range (by simpa using hj),Y7 hj];simp[CK,jO,Y7 hj]
  .rw[G_ (by simpa using hj),G_ (by simpa using hj)];rfl
 rw[hlist]at lc;have hS:S=M++(.lst (lV M.length (ts.map Sm.flat).length)::(ts.map Sm.flat).map MO.lst):=rfl;refine⟨(.lst (lV M.length (ts.map Sm.flat).length)::(ts.map Sm.flat).map MO.lst)++[.lst (ts.map λt=>.tup t.flat)],1+(ts.map Sm.flat).length,?_,?_⟩
 .have hlen:S.length=M.length+(1+(ts.map Sm.flat).length):=by rw[ZnE,pN]
  refine(jy (M':=S++[.lst (ts.map λt=>.tup t.flat)]) (d:=.ref S.length) (env:=[Ya W,Yn,Yn,Yn]) ?_).trans ?_
  .unfold R0;rw[Zi (Zo (d:=.ref M.length) (M':=dG M []) (cX rfl rfl)),Zi (Zo (d:=.int 0) rfl),Zi ((xT (it:=it) hv).trans (by rw[hit];exact hx))];exact dh ((Eu (Zh rfl rfl (rm rfl))).trans lc)
  .have hb:below M.length (.ref S.length)=false:=by show decide (S.length<M.length)=false;rw[hlen];exact decide_eq_false (by omega)
   rw[dW,hb,hlen,hS,jg];rfl
 .simp[kE 1]
theorem Zm9(M:Store)(ts:List Sm)(hg:∀t∈ts,t.good)(hl:(ts.map Sm.flat).flatten.length<=500):∃G k,vX [.tup (ts.map Sm.flat).flatten] M= .ok (.ref (M.length+k)) (M++G)/\G[k]?=Ya (.lst (ts.map λt=>.tup t.flat)):=ZhB M ts hg hl (it:=⟨(ts.map Sm.flat).flatten,Yn⟩) rfl (λ_=>rfl) rfl
theorem ZlO(M:Store)(ts:List Sm)(hg:∀t∈ts,t.good)(hl:(ts.map Sm.flat).flatten.length<=500)(hn:M[n]?=Ya (.lst (ts.map Sm.flat).flatten)):∃G k,vX [.ref n] M= .ok (.ref (M.length+k)) (M++G)/\G[k]?=Ya (.lst (ts.map λt=>.tup t.flat)):=by have hS:∀done,(dG M done)[n]?=Ya (.lst (ts.map Sm.flat).flatten):=λdone=>bO hn _;refine ZhB M ts hg hl (it:=⟨(ts.map Sm.flat).flatten,Ya n⟩) rfl (λdone=>decide_eq_true (hS done)) ?_;show(R3.ok (D.ref n) (dG M [])).bind _=_;simp only[R3.bind];rw[hS []]
theorem Zq2(M:Store)(t:Sm)(hg:t.good)(hl:t.flat.length<=500):∃G k,Kf [.tup t.flat] M= .ok (.ref (M.length+k)) (M++G)/\G[k]?=Ya (.lst (t.parts.map λt=>.tup t.flat)):=by
 have hgp:∀s∈t.parts,s.good:=by
  cases t with
  |num _=>intro s h;cases h|dZ _=>intro s h;cases h|jd a=>intro s h;rw[Yz.mp h];exact hg|two o a b=>
   intro s h;rcases Ym.mp h with h|h
   .rw[h];exact hg.1
   .rw[Yz.mp h];exact hg.2
 have e:=t.Gy;have hl':(t.parts.map Sm.flat).flatten.length<=500:=by rw[e,Yp]at hl;omega
 obtain⟨G,k,h1,h2⟩:=Zm9 M t.parts hgp hl';refine⟨G,k,?_,h2⟩;refine(jy (M':=M++G) (d:=.ref (M.length+k)) (env:=[Ya (.tup t.flat)]) ?_).trans ?_
 .unfold R4;refine dh (d9 (M1:=M) (a:=.tup (t.parts.map Sm.flat).flatten) ?_ h1);show R3.ok (D.tup (cutD t.flat (Ya ((1:Nat):Int)) Yn)) M=_;rw[Cd,e];rfl
 .have hb:below M.length (.ref (M.length+k))=false:=decide_eq_false (by omega);rw[dW,hb];rfl
noncomputable def Sm.dp:Sm->Nat
 | .num _=>1|.dZ _=>1|.jd a=>a.dp|.two _ a b=>max a.dp (b.dp+1)
noncomputable def nY:Nat->List Sm->List Int
 |_,[]=>[]|k,t::r=>((t.dp+k:Nat):Int)::nY (k+1) r
theorem Ga{lk:List (Nat×List D)}(h:jn lk M=true)(G:Store):jn lk (M++G)=true:=by simp only[jn,gQ,decide_eq_true_eq]at h ⊢;exactλq hq=>bO (h q hq) G
theorem Ti{F:F3}{M:Store}{lk:List (Nat×List D)}(hlk:jn lk M=true){i j:Nat}(I:bK->Prop)(hI:∀env,I env->∀a b:D,I ((env.set i (Ya a)).set j (Ya b))/\∀M:Store,Za j ((env.set i (Ya a)).set j (Ya b)) M= .ok b M/\Za i ((env.set i (Ya a)).set j (Ya b)) M= .ok a M):
  ∀(ts:List Sm) (k:Nat) (acc:List D) (env:bK),I env->(∀t∈ts,∀M,F [.tup t.flat] M= .ok (.int (t.dp:Int)) M)->acc.length+ts.length<=1000 ->
  jo lk (nF [i,j]) [] (e2 aQ (aM F (Zb (Za j) (Zf))) (Za i)) M.length (lK k (ts.map λt=>D.tup t.flat)) env (M++[.lst acc])= .ok (.ref M.length) (M++[.lst (acc++(nY k ts).map D.int)])
 |[],k,acc,env,_,_,_=>by show jo _ _ _ _ _ [] _ _=_;simp only[jo,Ga hlk,if_true,nY,rY,jQ]|t::ts,k,acc,env,hE,hF,hl=>by
  rw[Yp]at hl;obtain⟨hE',hv⟩:=hI env hE (.int (k:Int)) (.tup t.flat);have ih:=Ti hlk I hI ts (k+1) (acc++[.int ((t.dp+k:Nat):Int)]) _ hE' (λt ht=>hF t (Yc _ ht)) (by simp;omega);have he:e2 aQ (aM F (Zb (Za j) (Zf))) (Za i) ((env.set i (Ya (.int (k:Int)))).set j (Ya (.tup t.flat))) (M++[.lst acc])= .ok (.int ((t.dp+k:Nat):Int)) (M++[.lst acc]):=by refine Zh (d9 (hv _).1 (hF t Yd _)) (hv _).2 ?_;rw[tK];rfl
  have gt:(M++[MO.lst acc])[M.length]?=Ya (.lst acc):=Zq _ _ _;have lt:acc.length<SZ:=sH (show acc.length<=1000 by omega) (by decide);have st:(M++[MO.lst acc]).set M.length (.lst (acc++[.int ((t.dp+k:Nat):Int)]))=M++[.lst (acc++[.int ((t.dp+k:Nat):Int)])]:=by simpa using JD M [.lst acc] 0 _
  show jo _ _ _ _ _ (.tup [.int (k:Int),.tup t.flat]::lK (k+1) (ts.map λt=>D.tup t.flat)) _ _=_;simp only[jo,Ga hlk,if_true,nF,JB,Jz,Eo,R3.bind,he,gt,lt,st];rw[ih];simp[nY]
theorem ZpK(t:Sm):vK 1 (nY 0 t.parts)=(t.dp:Int):=by
 cases t with
 |num _=>rfl|dZ _=>rfl|jd a=>rfl|two o a b=>show(if((b.dp+(0+1):Nat):Int)>((a.dp+0:Nat):Int)then((b.dp+(0+1):Nat):Int)else((a.dp+0:Nat):Int))=((max a.dp (b.dp+1):Nat):Int);split <;>omega
theorem Zq7{t s:Sm}(h:s∈t.parts):s.flat.length<t.flat.length:=by
 have e:=t.Gy;have:s.flat.length<=(t.parts.map Sm.flat).flatten.length:=by
  cases t with
  |num _=>cases h|dZ _=>cases h|jd a=>rw[Yz.mp h];simp[Sm.parts]|two o a b=>
   rcases Ym.mp h with h|h
   .rw[h];simp[Sm.parts]
   .rw[Yz.mp h];simp[Sm.parts]
 rw[e,Yp];omega
theorem Zm6{t:Sm}(hg:t.good):∀s∈t.parts,s.good:=by
 cases t with
 |num _=>intro s h;cases h|dZ _=>intro s h;cases h|jd a=>intro s h;rw[Yz.mp h];exact hg|two o a b=>
  intro s h;rcases Ym.mp h with h|h
  .rw[h];exact hg.1
  .rw[Yz.mp h];exact hg.2
theorem Zp8(t:Sm):t.parts.length<=2:=by cases t<;>simp[Sm.parts]
theorem ZjM:∀(n:Nat) (t:Sm),t.good->t.flat.length<=n->n<=500->∀M:Store,yr n [.tup t.flat] M= .ok (.int (t.dp:Int)) M
 |0,t,_,hl,_,M=>by rw[t.Gy,Yp]at hl;omega|n+1,t,hg,hl,hn,M=>by
  have hlp:=Zp8 t;have ih:∀s∈t.parts,∀M,yr n [.tup s.flat] M= .ok (.int (s.dp:Int)) M:=λs hs=>ZjM n s (Zm6 hg s hs) (by have:=Zq7 hs;omega) (by omega);obtain⟨G,k,h1,h2⟩:=Zq2 M t hg (by omega);have h3:(M++G)[M.length+k]?=Ya (.lst (t.parts.map λt=>.tup t.flat)):=by rw[q_];exact h2
  refine Rt.pure (env:=[Ya (.tup t.flat),Yn]) (G:=G++[.lst ((nY 0 t.parts).map D.int)]) ?_ rfl;unfold R5;refine(Zi (Zo (d9 rfl h1))).trans ?_;have lk:jn [(M.length+k,t.parts.map λt=>D.tup t.flat)] (M++G)=true:=by simp only[jn,jC,Np,Ib];exact decide_eq_true h3
  have lp:=Ti (F:=yr n) lk (i:=2) (j:=3) (λe=>∃a b c d,e=[a,b,c,d]) (λenv ⟨a,b,c,d,e⟩ x y=>by subst e;exact⟨⟨_,_,_,_,rfl⟩,λM=>⟨rfl,rfl⟩⟩) t.parts 0 [] [Ya (.tup t.flat),Ya (.ref (M.length+k)),Yn,Yn] ⟨_,_,_,_,rfl⟩ ih (by simp;omega);rw[jB]at lp;rw[←jg];refine dh (b7 (M1:=M++G++[.lst ((nY 0 t.parts).map D.int)]) (a:=.ref (M++G).length) ?_ ?_)
  .show(R3.bind (R3.bind (R3.ok (D.ref (M.length+k)) (M++G)) _) _)=_;simp only[R3.bind,h3];exact lp
  .rw[Zl8 (Zq _ _ []),ZpK]
theorem ZqN{t:Sm}(hg:t.good)(hl:t.flat.length<=61)(M:Store):Fy [.tup t.flat] M= .ok (.int (t.dp:Int)) M:=by have key:∀n,t.flat.length<=n->n<=500->∀M,yr n [.tup t.flat] M= .ok (.int (t.dp:Int)) M:=λn h1 h2=>ZjM n t hg h1 h2;exact key 61 hl (by decide) M
noncomputable abbrev LET:List Nat:=[97,98,99,100,101,102,103,104,105,106,107,108,109,110,111,112,113,114,115,116,117,118,119,120,121,122]
structure gB(x:List Nat):Prop where
 pos:1<=x.length
 le:x.length<=8
 own:x∉cT
 low:∀c∈x,97<=c/\c<=122
theorem Zud(h:97<=c/\c<=122):c∈LET:=by simp only[Ym,mZ,or_false];omega
theorem in_words(x:List Nat)(M:Store):lz (.str x) (.tup (cT.map D.str)) M= .ok (.bl (decide (x∈cT))) M:=by
 have hf:(dg (.str x)&&(cT.map D.str).all dg)=true:=rfl;have he:∀l:List (List Nat),(l.map D.str).any (λy=>dM y (.str x))=decide (x∈l):=by
  intro l
  induction l with
  |nil=>rfl|cons y l ih=>
   rw[Yu,kh,ih,Zs4];by_cases h:y=x
   .subst h;simp
   .have h':x≠y:=λe=>h e.symm;simp[h,h']
 simp only[lz,ZuN,hf,if_true,he]
variable{i:Nat}
theorem len_str(h:x.length<=1000)(hv:Za i env M= .ok (.str x) M):aA aZ (Zb (Za i) (Zf)) env M= .ok (.int (x.length:Int)) M:=b7 hv (by simp only[zX,zY,zZ,qU,if_pos (show x.length<=SZ from Yk h (by decide))])
noncomputable def nameB(x:List Nat):Bool:=decide (1<=x.length)&&(decide (x.length<=8)&&(!decide (x∈cT)&&x.all λc=>decide (c∈LET)))
theorem ZjK(h:x.length<=1000)(M:Store):mK [.str x] M= .ok (.bl (nameB x)) M:=by
 have hz:x.length<=SZ:=Yk h (by decide);have ln:aA aZ (Zb (Za 0) (Zf)) [Ya (.str x)] M= .ok (.int (x.length:Int)) M:=len_str h rfl;have no:∀(hb:nameB x=false),eG (e2 dD (aA aZ (Zb (Za 0) (Zf))) (eC (.int 1))) (eG (e2 cu (aA aZ (Zb (Za 0) (Zf))) (qD)) (e2 lz (Za 0) (t_))) [Ya (.str x)] M= .ok (.bl true) M->mK [.str x] M= .ok (.bl (nameB x)) M:=λhb hc=>by rw[hb];refine Rt.pure (G:=[]) (env:=[Ya (.str x)]) ?_ rfl;rw[jQ];unfold Kg;exact q9 ((eY hc).trans (dh rfl))
 by_cases h1:x.length<1
 .exact no (by simp[nameB];omega) (Et (Zh ln rfl (by rw[lu,decide_eq_true (by omega)])))
 have c1:=oZ (g:=eG (e2 cu (aA aZ (Zb (Za 0) (Zf))) (qD)) (e2 lz (Za 0) (t_))) (Zh (op:=dD) (g:=eC (.int 1)) ln rfl (by rw[lu,decide_eq_false (by omega)]));by_cases h2:8<x.length
 .exact no (by simp[nameB];omega) (c1.trans (Et (Zh ln (g:=qD) (b:=.int 8) rfl (by rw[jb,decide_eq_true (by omega)]))))
 have c2:=c1.trans (oZ (g:=e2 lz (Za 0) (t_)) (Zh (op:=cu) ln (g:=qD) (b:=.int 8) rfl (by rw[jb,decide_eq_false (by omega)])));have c3:e2 lz (Za 0) (t_) [Ya (.str x)] M= .ok (.bl (decide (x∈cT))) M:=Zh rfl (g:=t_) (b:=.tup (cT.map D.str)) rfl (in_words x M);by_cases h3:x∈cT
 .exact no (by simp[nameB,h3]) (c2.trans (c3.trans (by rw[decide_eq_true h3])))
 have hb:nameB x=x.all λc=>decide (c∈LET):=by unfold nameB;rw[decide_eq_true (show 1<=x.length by omega),decide_eq_true (show x.length<=8 by omega),decide_eq_false h3];rfl
 rw[hb];refine Rt.pure (G:=[.lst (x.map λc=>D.bl (decide (c∈LET)))]) (env:=[Ya (.str x)]) ?_ rfl;unfold Kg;refine(Zi (cR (c2.trans (c3.trans (by rw[decide_eq_false h3]))))).trans ?_;have hi:(cV (Za 0)) [Ya (.str x)] M= .ok ⟨x.map (λc=>D.str [c]),Yn⟩ M:=by simp only[cV,Za,G8,R3.bind,if_pos hz]
 have lc:=vG (h:=λc=>D.bl (decide (c∈LET))) (own:=1) (i:=1) (elt:=(e2 lz (Za 1) (wF))) hi (λn z=>nomatch z)
  (λc hc M'=>Zh (a:=.str [c]) (b:=.str LET) rfl rfl (in_str c LET M')) (Yk h (by decide))
 exact dh (b7 lc (all_map (Zq _ _ _)))
theorem gB.b(h:gB x):nameB x=true:=by unfold nameB;rw[decide_eq_true h.pos,decide_eq_true h.le,decide_eq_false h.own,gQ.mpr λc hc=>decide_eq_true (Zud (h.low c hc))];rfl
theorem gB.is(h:gB x)(M:Store):mK [.str x] M= .ok (.bl true) M:=by rw[ZjK (Yk h.le (by decide)),h.b]
theorem gB.nop(h:gB x):nW x=false:=decide_eq_false λz=>h.own (by rcases z with rfl|rfl|rfl|rfl <;>decide)
theorem Zrb(h:nW x=true):(x=[97,100,100]\/x=[115,117,98]\/x=[109,111,114,101]\/x=[99,101,108,108]):=of_decide_eq_true h
theorem Zut(x:List Nat)(M:Store):tW nU (.str x) M= .ok (.bl (nW x)) M:=by
 show R3.ok (D.bl (dO x nU).isSome) M=_;rw[ZpX];by_cases h1:x=[97,100,100]
 .subst h1;rfl
 by_cases h2:x=[115,117,98]
 .subst h2;rfl
 by_cases h3:x=[109,111,114,101]
 .subst h3;rfl
 by_cases h4:x=mQ
 .subst h4;rfl
 have:nW x=false:=decide_eq_false λz=>z.elim h1 λz=>z.elim h2 λz=>z.elim h3 h4;rw[if_neg h1,if_neg h2,if_neg h3,if_neg h4,this];rfl
theorem Tj(x:List Nat)(M:Store):Bb [.str x] M= .ok (.bl (nW x)) M:=(jy (M':=M) (env:=[Ya (.str x)]) (dh (fL rfl (Zut x M)))).trans (ZjI rfl)
noncomputable def gC:D->List Nat
 | .int i=>gK i|.str x=>x|_=>[]
inductive rF:D->Prop
 |int (i:Int) (h:i.natAbs<10^60):rF (.int i)
 |dZ (x:List Nat) (h:gB x):rF (.str x)
 |op (x:List Nat) (h:nW x=true):rF (.str x)
noncomputable def Sm.fit:Sm->Prop
 | .num i=>i.natAbs<10^60|.dZ x=>gB x|.jd a=>a.fit|.two _ a b=>a.fit/\b.fit
theorem Gb:∀t:Sm,t.fit->t.good
 | .num _,_=>trivial|.dZ _,h=>h.nop|.jd a,h=>Gb a h|.two _ a b,h=>⟨Gb a h.1,Gb b h.2⟩
theorem ZuV(o:Nat):nW (v_ o)=true:=by
 match o with
 |0=>rfl|1=>rfl|_+2=>rfl
theorem Gd:∀(t:Sm),t.fit->∀w∈t.flat,rF w
 | .num i,h,w,hw=>by rw[Yz.mp hw];exact .int i h|.dZ x,h,w,hw=>by rw[Yz.mp hw];exact .dZ x h|.jd a,h,w,hw=>by
  rcases Ym.mp hw with hw|hw
  .rw[hw];exact .op _ rfl
  .exact Gd a h w hw
 | .two o a b,h,w,hw=>by
  rcases Ym.mp hw with hw|hw
  .rw[hw];exact .op _ (ZuV o)
  .rcases fQ.mp hw with hw|hw
   .exact Gd a h.1 w hw
   .exact Gd b h.2 w hw
theorem Zlg{i:Int}(hc:c∈gK i):c<=57:=by
 cases i with
 |ofNat n=>rw[show gK (Int.ofNat n)=cD n from Kw n]at hc;exact(v7 n c hc).2|negSucc n=>
  rw[Ky]at hc;rcases Ym.mp hc with h|h
  .omega
  .exact(v7 _ c h).2
theorem Zny(i:Int):∃c r,gK i=c::r:=by
 cases i with
 |ofNat n=>
  rw[show gK (Int.ofNat n)=cD n from Kw n];cases e:cD n with
  |nil=>exact absurd e (FW n)|cons c r=>exact⟨c,r,rfl⟩
 |negSucc n=>exact⟨_,_,Ky n⟩
theorem Zqj(i:Int):nW (gK i)=false:=by obtain⟨c,r,e⟩:=Zny i;have hc:c<=57:=Zlg (i:=i) (by rw[e];exact Yd);refine decide_eq_false λz=>?_;rw[e]at z;rcases z with z|z|z|z<;>(have:=(iT z).1;omega)
theorem ZqT(i:Int):nameB (gK i)=false:=by
 obtain⟨c,r,e⟩:=Zny i;have hc:c<=57:=Zlg (i:=i) (by rw[e];exact Yd);have:decide (c∈LET)=false:=decide_eq_false λz=>by simp only[Ym,mZ,or_false]at z;omega
 unfold nameB;rw[e,jC,this,Oq,w6,w6,w6]
theorem Tn(h:nW x=true):1<=x.length/\x.length<=60/\∀c∈x,97<=c:=by rcases Zrb h with rfl|rfl|rfl|rfl <;>decide
theorem ZuI(h:rF w)(hv:∀M,Za 3 env M= .ok (.str (gC w)) M):
  eG (aM Bb (Zb (Za 3) (Zf))) (eG (aM mK (Zb (Za 3) (Zf))) (aM qm (Zb (Za 3) (Zf)))) env M= .ok (.bl true) M:=by
 cases h with
 |int i hi=>rw[oZ ((d9 (hv M) (Tj _ M)).trans (by rw[show gC (.int i)=gK i from rfl,Zqj])),oZ ((d9 (hv M) (ZjK (x:=gK i) (Yk (Znk hi) (by decide)) M)).trans (by rw[ZqT]))];exact d9 (hv M) (ZlR hi M)|dZ x hx=>rw[oZ ((d9 (hv M) (Tj _ M)).trans (by rw[show gC (.str x)=x from rfl,hx.nop]))];exact Et (d9 (hv M) (hx.is M))|op x hx=>exact Et ((d9 (hv M) (Tj _ M)).trans (by rw[show gC (.str x)=x from rfl,hx]))
theorem ZtU(h:rF w)(hv:∀M,Za 3 env M= .ok (.str (gC w)) M):
  jV (aM qm (Zb (Za 3) (Zf))) (aA tU (Zb (Za 3) (Zf))) (Za 3) env M= .ok w M:=by
 cases h with
 |int i hi=>rw[Eu (d9 (hv M) (ZlR hi M))];have r:=Tc i hi;refine b7 (hv M) ?_;show tU [.str (gK i)] M=_;simp only[tU,r.1];exact if_pos (Yk r.2.1 (by decide))|dZ x hx=>rw[Ew (d9 (hv M) (Zlp hx.pos (Yk hx.le (by decide)) (λc hc=>(hx.low c hc).1) M))];exact hv M|op x hx=>have q:=Tn hx;rw[Ew (d9 (hv M) (Zlp q.1 q.2.1 q.2.2 M))];exact hv M
structure Zqt(ts:List Sm):Prop where
 fit:∀t∈ts,t.fit
 len:(ts.map Sm.flat).flatten.length<=60
 dep:vK 0 (nY 0 ts)<=6
noncomputable abbrev bT(ts:List Sm):List D:=(ts.map Sm.flat).flatten
variable{ts:List Sm}
theorem ZjZ(h:∀t∈ts,t.fit):∀w∈bT ts,rF w:=λw hw=>by obtain⟨l,h1,h2⟩:=Wo.mp hw;obtain⟨t,ht,rfl⟩:=gH.mp h1;exact Gd t (h t ht) w h2
theorem Tp{t:Sm}(h:t∈ts):t.flat.length<=(bT ts).length:=by
 induction ts with
 |nil=>cases h|cons a ts ih=>
  rw[bT,Yu,oJ,Ye];rcases Ym.mp h with e|e
  .rw[e];omega
  .have:=ih e;rw[bT]at this;omega
theorem KC(ts:List Sm):ts.length<=(bT ts).length:=by
 induction ts with
 |nil=>exact Ys _|cons t l ih=>rw[bT,Yu,oJ,Ye,Yp];obtain⟨w,r,e⟩:=Tf t;rw[e,Yp];rw[bT]at ih;omega
theorem ZkY(H:Zqt ts)(hn:M[n]?=Ya (.lst ((bT ts).map λw=>D.str (gC w)))):∃G k,Kl [.ref n] M= .ok (.ref (M.length+k)) (M++G)/\G[k]?=Ya (.lst (ts.map λt=>.tup t.flat)):=by
 have hfit:=ZjZ H.fit;have hz:(bT ts).length<=100000:=Yk H.len (by decide)
 let M1:=M++[MO.lst ((bT ts).map λ_=>D.bl true)]
 let M2:=M1++[MO.lst ((bT ts).map λw=>w)]
 have hn1:M1[n]?=Ya (.lst ((bT ts).map λw=>D.str (gC w))):=bO hn _;have hi:∀{S:Store} (_:S[n]?=Ya (.lst ((bT ts).map λw=>D.str (gC w)))),(cV (Za 0)) [Ya (.ref n),Yn,Yn] S= .ok ⟨(bT ts).map (λw=>D.str (gC w)),Ya n⟩ S:=λh=>by show(R3.ok (D.ref n) _).bind _=_;simp only[R3.bind];rw[h]
 have l1:=vG (h:=λ_=>D.bl true) (own:=1) (i:=3) (elt:=eG (aM Bb (Zb (Za 3) (Zf))) (eG (aM mK (Zb (Za 3) (Zf))) (aM qm (Zb (Za 3) (Zf))))) (hi hn) (λm e=>by cases e;exact hn)
  (λw hw M'=>ZuI (hfit w hw) λ_=>rfl) hz
 have l2:=vG (h:=λw=>w) (own:=1) (i:=3) (elt:=jV (aM qm (Zb (Za 3) (Zf))) (aA tU (Zb (Za 3) (Zf))) (Za 3)) (hi hn1) (λm e=>by cases e;exact hn1)
  (λw hw M'=>ZtU (hfit w hw) λ_=>rfl) hz
 have pC:M2[M1.length]?=Ya (.lst (bT ts)):=(Zq M1 (MO.lst ((bT ts).map λw=>w)) []).trans (by rw[List.map_id']);obtain⟨G,k,h1,h2⟩:=ZlO M2 ts (λt ht=>Gb t (H.fit t ht)) (Yk H.len (by decide)) pC;have h3:(M2++G)[M2.length+k]?=Ya (.lst (ts.map λt=>.tup t.flat)):=by rw[q_];exact h2
 have lk:jn [(M2.length+k,ts.map λt=>D.tup t.flat)] (M2++G)=true:=by simp only[jn,jC,Np,Ib];exact decide_eq_true h3
 have hfew:=KC ts;have Ad7:(bT ts).length<=60:=H.len;have lp:=Ti (F:=Fy) lk (i:=3) (j:=4) (λe=>∃a b c d f,e=[a,b,c,d,f]) (λenv ⟨a,b,c,d,f,e⟩ x y=>by subst e;exact⟨⟨_,_,_,_,_,rfl⟩,λM=>⟨rfl,rfl⟩⟩) ts 0 [] [Ya (.ref n),Ya (.ref (M2.length+k)),Yn,Yn,Yn] ⟨_,_,_,_,_,rfl⟩ (λt ht M=>ZqN (Gb t (H.fit t ht)) (by have:=Tp ht;omega) M) (by simp;omega);rw[jB]at lp;refine⟨[MO.lst ((bT ts).map λ_=>D.bl true),MO.lst ((bT ts).map λw=>w)]++G++[.lst ((nY 0 ts).map D.int)],2+k,?_,?_⟩
 .have hlen:M2.length=M.length+2:=by simp[M2,M1]
  refine(jy (M':=M2++G++[.lst ((nY 0 ts).map D.int)]) (d:=.ref (M2.length+k)) (env:=[Ya (.ref n),Yn,Yn]) ?_).trans ?_
  .unfold R7;have t1:=all_map (p:=λ_=>true) (l:=bT ts) (Zq M (MO.lst ((bT ts).map λ_=>D.bl true)) []);rw[show((bT ts).all λ_=>true)=true from gQ.mpr λ_ _=>rfl]at t1;refine(Zi (cR (M':=M1) (fL (b7 l1 t1) rfl))).trans ?_;refine(Zi (Zo (d:=.ref (M2.length+k)) (M':=M2++G) (d9 l2 h1))).trans ?_;refine(Zi (cR (M':=M2++G) (Zh rfl rfl rfl))).trans ?_;refine(Zi (Zo (d:=.ref (M2++G).length) (M':=M2++G++[.lst ((nY 0 ts).map D.int)]) ?_)).trans ?_
   .show(R3.bind (R3.bind (R3.ok (D.ref (M2.length+k)) (M2++G)) _) _)=_;simp only[R3.bind,h3];exact lp
   .refine dh ((Eu (M1:=M2++G++[.lst ((nY 0 ts).map D.int)]) (Zh (b7 rfl (Zl8 (Zq (M2++G) _ []))) (g:=wC) (b:=.int 6) rfl (JF H.dep))).trans rfl)
  .have hb:below M.length (.ref (M2.length+k))=false:=by show decide (M2.length+k<M.length)=false;rw[hlen];exact decide_eq_false (by omega)
   rw[dW,hb,hlen,pN];simp[M2,M1]
 .rw[jg,kE 2 k];show(G++[MO.lst ((nY 0 ts).map D.int)])[k]?=_;exact bO h2 _
noncomputable abbrev ul:List Nat:=[115,101,116]
noncomputable abbrev Cj:List Nat:=[112,117,116]
noncomputable abbrev Ge:List Nat:=[116,101,108,108]
noncomputable abbrev gO:List Nat:=[119,104,101,110]
noncomputable abbrev qt:List Nat:=[119,104,105,108,101]
noncomputable abbrev gh:List Nat:=[101,108,115,101]
noncomputable abbrev gP:List Nat:=[101,110,100]
structure Rw where
 h:List Nat
 xs:List (List Nat)
 ts:List Sm
noncomputable def Rw.words(r:Rw):List (List Nat):=r.h::(r.xs++(bT r.ts).map gC)
noncomputable def Rw.deed(r:Rw):List D:=.str r.h::(r.xs.map D.str++r.ts.map λt=>D.tup t.flat)
structure fc(r:Rw):Prop where
 sm:dO r.h j7=Ya (r.ts.length:Int)
 nx:r.xs.length=if r.h=ul then 1 else 0
 nm:∀x∈r.xs,gB x
 ok:Zqt r.ts
 le:r.xs.length+(bT r.ts).length<=59
theorem Gf{o:E3}{lo hi:xP}{a b:Option Int}(ho:o env M= .ok (.ref n) M)(hl:lo env M= .ok a M)(hh:hi env M= .ok b M)(h:M[n]?=Ya (.lst ds)):eN o lo hi env M= .ok (.ref M.length) (M++[.lst (cutD ds a b)]):=by simp only[eN,ho,hl,hh,R3.bind,zW,h];rfl
theorem ZrJ(a:α)(x y:List α):cutD (a::(x++y)) (Ya ((1:Nat):Int)) (Ya ((1+x.length:Nat):Int))=x:=by unfold cutD;rw[Ed,Ed,Dl (show 1+x.length<=(a::(x++y)).length by simp only[Yp,Ye];omega),Dl (show 1<=(a::(x++y)).length by simp),Nat.add_sub_cancel_left];simp
variable{m:Nat}
theorem KD{x y:List D}(h1:M[n]?=Ya (.lst x))(h2:M[m]?=Ya (.lst y))(hz:x.length+y.length<=900000):aQ (.ref n) (.ref m) M= .ok (.ref M.length) (M++[.lst (x++y)]):=by rw[Zra,h1,h2];exact if_pos (Yk hz (by decide))
theorem ZnM{n:Nat}:∀{l:List D},(∀w∈l,qp w)->bR n l=true
 |[],_=>rfl|w::l,h=>by
  have h1:below n w=true:=by cases h w Yd<;>rfl
  show(below n w&&bR n l)=true;rw[h1,ZnM λx hx=>h x (Yc _ hx)];rfl
theorem ZiS{n:Nat}:∀{x y:List D},bR n x=true->bR n y=true->bR n (x++y)=true
 |[],_,_,h=>h|a::x,y,h,k=>by have h:(below n a&&bR n x)=true:=h;rw[Y4]at h;show(below n a&&bR n (x++y))=true;rw[h.1,ZiS h.2 k];rfl
theorem Zh6{n:Nat}:∀ts:List Sm,bR n (ts.map λt=>D.tup t.flat)=true
 |[]=>rfl|t::ts=>by show(bR n t.flat&&bR n (ts.map λt=>D.tup t.flat))=true;rw[ZnM (Cg t),Zh6 ts];rfl
theorem KH{n:Nat}:∀xs:List (List Nat),bR n (xs.map D.str)=true
 |[]=>rfl|_::xs=>KH xs
theorem Rw.below{n:Nat}(r:Rw):below n (.tup r.deed)=true:=by show bR n (.str r.h::(r.xs.map D.str++r.ts.map λt=>D.tup t.flat))=true;show bR n (r.xs.map D.str++r.ts.map λt=>D.tup t.flat)=true;exact ZiS (KH _) (Zh6 _)
variable{r:Rw}
theorem ZkW(H:fc r)(hn:M[n]?=Ya (.lst (r.words.map D.str))):Fz [.ref n] M= .ok (.tup r.deed) M:=by
 have hlen:r.words.length=1+r.xs.length+(bT r.ts).length:=by simp only[Rw.words,Yp,Ye,Yv];omega
 have hle:=H.le;have e0:∀{S:Store} {a b:Option D},S[n]?=Ya (.lst (r.words.map D.str))->e2 Zn (Za 0) (eC (.int 0)) [Ya (.ref n),a,b] S= .ok (.str r.h) S:=λh=>Zh rfl rfl (iB h (eZ _ 0))
 let B:Int:=((1+r.xs.length:Nat):Int)
 have hB:jV (e2 aV (e2 Zn (Za 0) (eC (.int 0))) (eC (.str [115,101,116]))) (eC (.int 2)) (eC (.int 1)) [Ya (.ref n),Yn,Yn] M= .ok (.int B) M:=by
  by_cases h:r.h=ul
  .have e:B=2:=by show((1+r.xs.length:Nat):Int)=2;rw[H.nx,if_pos h];rfl
   rw[Eu (M1:=M) (Zh (e0 hn) rfl (by simp only[aV,xO,decide_eq_true h])),e];rfl
  .have e:B=1:=by show((1+r.xs.length:Nat):Int)=1;rw[H.nx,if_neg h];rfl
   rw[Ew (M1:=M) (Zh (e0 hn) rfl (by simp only[aV,xO,decide_eq_false h])),e];rfl
 let M1:=M++[MO.lst (r.xs.map D.str)]
 let M2:=M1++[MO.lst (r.xs.map λ_=>D.bl true)]
 let M3:=M2++[MO.lst ((bT r.ts).map λw=>D.str (gC w))]
 have hn2:M2[n]?=Ya (.lst (r.words.map D.str)):=bO (bO hn _) _;have ew:r.words.map D.str=D.str r.h::(r.xs.map D.str++(bT r.ts).map λw=>D.str (gC w)):=by show D.str r.h::(r.xs++(bT r.ts).map gC).map D.str=_;rw[jR,qK];rfl
 have hx:(r.xs.map D.str).length=r.xs.length:=Yv _;have c1:cutD (r.words.map D.str) (Ya ((1:Nat):Int)) (Ya B)=r.xs.map D.str:=by have:=ZrJ (D.str r.h) (r.xs.map D.str) ((bT r.ts).map λw=>D.str (gC w));rw[hx]at this;rw[ew];exact this
 have c2:cutD (r.words.map D.str) (Ya B) Yn=(bT r.ts).map λw=>D.str (gC w):=by rw[Cd,ew,kE,List.drop_succ_cons,←hx,List.drop_left]
 have c3:cutD (r.words.map D.str) Yn (Ya B)=D.str r.h::r.xs.map D.str:=by rw[ZpV,ew,kE,Wi,←hx,List.take_left]
 have s1:cV (eN (Za 0) (dN (eC (.int 1))) (dN (Za 1))) [Ya (.ref n),Ya (.int B),Yn] M= .ok ⟨r.xs.map D.str,Ya M.length⟩ M1:=by have:=Gf (env:=[Ya (.ref n),Ya (.int B),Yn]) (o:=Za 0) (lo:=dN (eC (.int 1))) (hi:=dN (Za 1)) (a:=Ya ((1:Nat):Int)) (b:=Ya B) rfl rfl rfl hn;rw[c1]at this;show(eN _ _ _ _ _).bind _=_;rw[this];simp only[R3.bind,Zq];rfl
 have l1:=vG (h:=λ_=>D.bl true) (own:=1) (i:=3) (elt:=aM mK (Zb (Za 3) (Zf))) s1 (λm e=>by cases e;exact Zq M _ [])
  (λx hx M'=>d9 rfl ((H.nm x hx).is M')) (by omega)
 have t1:=all_map (p:=λ_=>true) (l:=r.xs) (Zq M1 (MO.lst (r.xs.map λ_=>D.bl true)) []);rw[show(r.xs.all λ_=>true)=true from gQ.mpr λ_ _=>rfl]at t1;have s2:eN (Za 0) (dN (Za 1)) (fW) [Ya (.ref n),Ya (.int B),Yn] M2= .ok (.ref M2.length) M3:=by have:=Gf (env:=[Ya (.ref n),Ya (.int B),Yn]) (o:=Za 0) (lo:=dN (Za 1)) (hi:=fW) (a:=Ya B) (b:=Yn) rfl rfl rfl hn2;rw[c2]at this;exact this
 obtain⟨G,k,h1,h2⟩:=ZkY H.ok (n:=M2.length) (M:=M3) (Zq M2 _ [])
 let M4:=M3++G
 have hk:M4[M3.length+k]?=Ya (.lst (r.ts.map λt=>.tup t.flat)):=by show(M3++G)[_]?=_;rw[q_];exact h2
 have hn4:M4[n]?=Ya (.lst (r.words.map D.str)):=bO (bO hn2 _) _
 let M5:=M4++[MO.lst (D.str r.h::r.xs.map D.str)]
 let M6:=M5++[MO.lst r.deed]
 have s3:eN (Za 0) (fW) (dN (Za 1)) [Ya (.ref n),Ya (.int B),Ya (.ref (M3.length+k))] M4= .ok (.ref M4.length) M5:=by have:=Gf (env:=[Ya (.ref n),Ya (.int B),Ya (.ref (M3.length+k))]) (o:=Za 0) (lo:=fW) (hi:=dN (Za 1)) (a:=Yn) (b:=Ya B) rfl rfl rfl hn4;rw[c3]at this;exact this
 have hfew:=KC r.ts;have s4:e2 aQ (eN (Za 0) (fW) (dN (Za 1))) (Za 2) [Ya (.ref n),Ya (.int B),Ya (.ref (M3.length+k))] M4= .ok (.ref M5.length) M6:=Zh s3 rfl (KD (Zq M4 _ []) (bO hk _) (by simp;omega));have hM6:M6=M++([MO.lst (r.xs.map D.str),MO.lst (r.xs.map λ_=>D.bl true),MO.lst ((bT r.ts).map λw=>D.str (gC w))]++G++[MO.lst (D.str r.h::r.xs.map D.str),MO.lst r.deed]):=by simp[M6,M5,M4,M3,M2,M1]
 refine Rt.pure (G:=[MO.lst (r.xs.map D.str),MO.lst (r.xs.map λ_=>D.bl true),MO.lst ((bT r.ts).map λw=>D.str (gC w))]++G++[MO.lst (D.str r.h::r.xs.map D.str),MO.lst r.deed]) (env:=[Ya (.ref n),Yn,Yn]) ?_ r.below;rw[←hM6];unfold R8;have q1:e1 (JM j7) (e2 Zn (Za 0) (eC (.int 0))) [Ya (.ref n),Yn,Yn] M= .ok (.bl false) M:=fL (e0 hn) (by show R3.ok (D.bl (!(dO r.h j7).isSome)) M=_;rw[H.sm];rfl);have q2:e2 cu (aA aZ (Zb (Za 0) (Zf))) (ux) [Ya (.ref n),Yn,Yn] M= .ok (.bl false) M:=Zh (b7 rfl (jX hn)) (g:=ux) (b:=.int 60) rfl (by rw[jb,decide_eq_false (by rw[Yv,hlen];omega)]);refine(Zi (cR ((oZ q1).trans q2))).trans ?_;refine(Zi (Zo hB)).trans ?_;refine(Zi (cR (M':=M2) (fL (b7 l1 t1) rfl))).trans ?_;refine(Zi (Zo (d:=.ref (M3.length+k)) (M':=M4) (d9 s2 h1))).trans ?_;have q3:e2 gq (aA aZ (Zb (Za 2) (Zf))) (e1 (E_ j7) (e2 Zn (Za 0) (eC (.int 0)))) [Ya (.ref n),Ya (.int B),Ya (.ref (M3.length+k))] M4= .ok (.bl false) M4:=by
  refine Zh (M2:=M4) (b7 rfl (jX hk)) (fL (M2:=M4) (e0 hn4) (d:=.int (r.ts.length:Int)) ?_) ?_
  .simp only[E_,H.sm]
  .simp only[gq,xN,Yv,decide_eq_true (rfl:(r.ts.length:Int)=r.ts.length)];rfl
 refine(Zi (cR ((oZ (M1:=M4) (Zh rfl rfl rfl)).trans q3))).trans ?_;exact dh (b7 s4 (oY (Zq M5 _ [])))
noncomputable abbrev iH:List Nat:=[66,108,111,99,107]
noncomputable abbrev mU:List Nat:=[104,101,97,100]
noncomputable abbrev um:List Nat:=[108,105,115,116,115]
structure Bk where
 r:Nat
 l:Nat
 h:List Nat
 hd:List D
 cl:List (Nat×List D)
 cn:Nat
 cur:List D
noncomputable def Bk.ads(k:Bk):List Nat:=k.r::k.l::k.cn::k.cl.map (·.1)
structure pD(S:Store)(k:Bk):Prop where
 hr:S[k.r]?=Ya (.ins iH [(mU,.tup (.str k.h::k.hd)),(um,.ref k.l)])
 hl:S[k.l]?=Ya (.lst ((k.cl.map λp=>D.ref p.1)++[.ref k.cn]))
 hc:∀p∈k.cl,S[p.1]?=Ya (.lst p.2)
 hn:S[k.cn]?=Ya (.lst k.cur)
variable{S S':Store}
theorem pD.congr{k:Bk}(H:pD S k)(h:∀a∈k.ads,S'[a]?=S[a]?):pD S' k:=⟨by rw[h _ (by simp[Bk.ads])];exact H.hr,by rw[h _ (by simp[Bk.ads])];exact H.hl,λp hp=>by rw[h _ (by simp only[Bk.ads];exact Yc _ (Yc _ (Yc _ (pI hp))))];exact H.hc p hp,by rw[h _ (by simp[Bk.ads])];exact H.hn⟩
noncomputable abbrev gD(ks:List Bk):List Nat:=ks.flatMap Bk.ads
structure cG(S:Store)(b:Nat)(ks:List Bk):Prop where
 hb:S[b]?=Ya (.lst (ks.map λk=>D.ref k.r).reverse)
 hk:∀k∈ks,pD S k
 nb:b∉gD ks
 nd:(gD ks).Nodup
theorem pD.lt{k:Bk}(H:pD S k):∀a∈k.ads,a<S.length:=λa ha=>by
 have q:∀{i:Nat} {o:MO},S[i]?=Ya o->i<S.length:=λh=>(Yf.mp h).1;simp only[Bk.ads,Ym,gH]at ha;rcases ha with rfl|rfl|rfl|⟨p,hp,rfl⟩
 .exact q H.hr
 .exact q H.hl
 .exact q H.hn
 .exact q (H.hc p hp)
variable{ks:List Bk}
theorem cG.lt{b:Nat}(H:cG S b ks):∀a∈gD ks,a<S.length:=λa ha=>by obtain⟨k,hk,h⟩:=uM.mp ha;exact(H.hk k hk).lt a h
theorem cG.yG{b:Nat}(H:cG S b ks):b<S.length:=(Yf.mp H.hb).1
theorem cG.frame{b:Nat}(H:cG S b ks)(h:∀a∈b::gD ks,S'[a]?=S[a]?):cG S' b ks:=⟨by rw[h b Yd];exact H.hb,λk hk=>(H.hk k hk).congr λa ha=>h a (Yc _ (uM.mpr ⟨k,hk,ha⟩)),H.nb,H.nd⟩
theorem cG.app{b:Nat}(H:cG S b ks)(G:Store):cG (S++G) b ks:=
 H.frame λa ha=>Yi (by
  rcases Ym.mp ha with e|e
  .rw[e];exact H.yG
  .exact H.lt a e)
theorem qw(k:Bk)(ks:List Bk):gD (k::ks)=k.ads++gD ks:=rfl
theorem cG.rest{b:Nat}{k:Bk}(H:cG S b (k::ks)):(∀j∈ks,pD S j)/\b∉k.ads/\b∉gD ks/\k.ads.Nodup/\(gD ks).Nodup/\∀a∈k.ads,a∉gD ks:=by have nb:=H.nb;have nd:=H.nd;rw[qw]at nb nd;rw[fQ]at nb;obtain⟨n1,n2,n3⟩:=Hf.mp nd;exact⟨λj hj=>H.hk j (Yc _ hj),λz=>nb (.inl z),λz=>nb (.inr z),n1,n2,λa ha hb=>n3 a ha a hb rfl⟩
theorem cG.more{b:Nat}{k:Bk}(H:cG S b (k::ks))(d:D):cG (S.set k.cn (.lst (k.cur++[d]))) b ({k with cur:=k.cur++[d]}::ks):=by
 obtain⟨h1,h2,h3,h4,h5,h6⟩:=H.rest;have hk:=H.hk k Yd;have hcn:k.cn∈k.ads:=by simp[Bk.ads]
 have yH:k.r≠k.cn/\k.l≠k.cn/\k.cn∉k.cl.map (·.1):=by simp only[Bk.ads,iJ,Ym,not_or]at h4;exact⟨h4.1.2.1,h4.2.1.1,h4.2.2.1⟩
 have o:∀a,a≠k.cn->(S.set k.cn (.lst (k.cur++[d])))[a]?=S[a]?:=λa ha=>Yr (cO ha);refine⟨?_,?_,H.nb,H.nd⟩
 .rw[o b λe=>h2 (e▸hcn)];exact H.hb
 .intro j hj;rcases Ym.mp hj with e|e
  .rw[e];refine⟨by rw[o _ yH.1];exact hk.hr,by rw[o _ yH.2.1];exact hk.hl,λp hp=>by rw[o _ λe=>yH.2.2 (e▸pI hp)];exact hk.hc p hp,?_⟩;exact Y0 (Yf.mp hk.hn).1
  .exact(h1 j e).congr λa ha=>o a λz=>h6 k.cn hcn (uM.mpr ⟨j,e,z▸ha⟩)
theorem cG.els{b:Nat}{k:Bk}(H:cG S b (k::ks)):cG ((S++[MO.lst []]).set k.l (MO.lst ((k.cl.map λp=>D.ref p.1)++[D.ref k.cn]++[D.ref S.length]))) b ({k with cl:=k.cl++[(k.cn,k.cur)],cn:=S.length,cur:=[]}::ks):=by
 obtain⟨h1,h2,h3,h4,h5,h6⟩:=H.rest;have hk:=H.hk k Yd;have hl:k.l∈k.ads:=by simp[Bk.ads]
 have yH:k.r≠k.l/\k.cn≠k.l/\k.l∉k.cl.map (·.1):=by simp only[Bk.ads,iJ,Ym,not_or]at h4;exact⟨h4.1.1,cO h4.2.1.1,h4.2.1.2⟩
 have o:∀a,a≠k.l->a<S.length->((S++[MO.lst []]).set k.l (MO.lst ((k.cl.map λp=>D.ref p.1)++[D.ref k.cn]++[D.ref S.length])))[a]?=S[a]?:=λa ha hlt=>by rw[Yr (cO ha),Yi hlt]
 have hsz:∀a∈k.ads,a<S.length:=hk.lt;have hll:k.l<S.length:=hsz _ hl;have fresh:S.length∉gD (k::ks):=λz=>u6 _ (H.lt _ z);have perm:(gD ({k with cl:=k.cl++[(k.cn,k.cur)],cn:=S.length,cur:=[]}::ks)).Perm (S.length::gD (k::ks)):=by rw[qw,qw];refine List.Perm.append_right (gD ks) (l₂:=S.length::k.ads) ?_;simp only[Bk.ads,jR,Yu,rY];have p1:(k.r::k.l::S.length::(k.cl.map (·.1)++[k.cn])).Perm (k.r::S.length::k.l::(k.cl.map (·.1)++[k.cn])):=List.Perm.cons _ (List.Perm.swap _ _ _);refine p1.trans ((List.Perm.swap _ _ _).trans (List.Perm.cons _ (List.Perm.cons _ (List.Perm.cons _ ?_))));exact List.perm_append_comm
 refine⟨?_,?_,?_,?_⟩
 .rw[o b (λe=>h2 (e▸hl)) H.yG];exact H.hb
 .intro j hj;rcases Ym.mp hj with e|e
  .rw[e];refine⟨by rw[o _ yH.1 (hsz _ (by simp[Bk.ads]))];exact hk.hr,?_,?_,?_⟩
   .rw[Y0 (by rw[Ye];exact Dk _ hll)];simp
   .intro p hp;rcases fQ.mp hp with q|q
    .rw[o _ (λe=>yH.2.2 (e▸pI q)) (hsz _ (by simp only[Bk.ads];exact Yc _ (Yc _ (Yc _ (pI q)))))];exact hk.hc p q
    .rw[Yz.mp q,o _ yH.2.1 (hsz _ (by simp[Bk.ads]))];exact hk.hn
   .show _[S.length]?=_;rw[Yr (by omega)];exact Zq _ _ _
  .exact(h1 j e).congr λa ha=>o a (λz=>h6 k.l hl (uM.mpr ⟨j,e,z▸ha⟩)) (H.lt a (uM.mpr ⟨j,Yc _ e,ha⟩))
 .intro z;rcases Ym.mp (perm.mem_iff.mp z)with e|e
  .have:=H.yG;omega
  .exact H.nb e
 .exact perm.nodup_iff.mpr (iJ.mpr ⟨fresh,H.nd⟩)
noncomputable abbrev KJ(n:Nat)(h:List Nat)(hd:List D):Bk:=⟨n,n+2,h,hd,[],n+1,[]⟩
noncomputable abbrev nObj(n:Nat)(h:List Nat)(hd:List D):Store:=[.ins iH [(mU,.tup (.str h::hd)),(um,.ref (n+2))],.lst [],.lst [.ref (n+1)]]
theorem cG.push{b:Nat}(H:cG S b ks)(h:List Nat)(hd:List D):cG ((S++nObj S.length h hd).set b (.lst ((ks.map λk=>D.ref k.r).reverse++[.ref S.length]))) b (KJ S.length h hd::ks):=by
 have hb:=H.yG;have o:∀a,a≠b->a<S.length->((S++nObj S.length h hd).set b (.lst ((ks.map λk=>D.ref k.r).reverse++[.ref S.length])))[a]?=S[a]?:=λa ha hlt=>by rw[Yr (cO ha),Yi hlt]
 have n:∀j,((S++nObj S.length h hd).set b (.lst ((ks.map λk=>D.ref k.r).reverse++[.ref S.length])))[S.length+j]?=(nObj S.length h hd)[j]?:=λj=>by rw[Yr (by omega),q_]
 refine⟨?_,?_,?_,?_⟩
 .rw[Y0 (by rw[Ye];exact Dk _ hb)];simp
 .intro j hj;rcases Ym.mp hj with e|e
  .rw[e];exact⟨(n 0).trans rfl,(n 2).trans rfl,(λp hp=>nomatch hp),(n 1).trans rfl⟩
  .exact(H.hk j e).congr λa ha=>o a (λz=>H.nb (uM.mpr ⟨j,e,z▸ha⟩)) (H.lt a (uM.mpr ⟨j,e,ha⟩))
 .rw[qw];intro z;rcases fQ.mp z with z|z
  .simp[Bk.ads]at z;omega
  .exact H.nb z
 .rw[qw];refine Hf.mpr ⟨by simp[Bk.ads],H.nd,λa ha c hc e=>?_⟩;have:=H.lt c hc;simp[Bk.ads]at ha;omega
theorem cG.pop{b:Nat}{k:Bk}(H:cG S b (k::ks)):cG (S.set b (.lst (ks.map λk=>D.ref k.r).reverse)) b ks:=by obtain⟨h1,h2,h3,h4,h5,h6⟩:=H.rest;exact⟨Y0 H.yG,λj hj=>(h1 j hj).congr λa ha=>Yr λ(e:b=a)=>h3 (uM.mpr ⟨j,hj,by rw[e];exact ha⟩),h3,h5⟩
theorem KN{d:D}(hv:Za i env M= .ok (.ref n) M)(h:M[n]?=Ya (.lst (xs++[d]))):aG a_ oX (Za i) (Zf) env M= .ok d (M.set n (.lst xs)):=by simp only[aG,hv,R3.bind,Ac,h,Zf,if_true];rw[QR,h];simp
theorem Zqw{c f:List Nat}{fs:List (List Nat×D)}{d:D}(h:M[n]?=Ya (.ins c fs))(hf:fs.lookup f=Ya d):jq c f (.ref n) M= .ok d M:=by rw[Zl6,h];simp only[if_true,hf]
theorem pD.head{k:Bk}(H:pD S k):jq iH mU (.ref k.r) S= .ok (.tup (.str k.h::k.hd)) S:=Zqw H.hr rfl
theorem pD.lists{k:Bk}(H:pD S k):jq iH um (.ref k.r) S= .ok (.ref k.l) S:=Zqw H.hr rfl
theorem cG.last{b:Nat}{k:Bk}(H:cG S b (k::ks))(hv:Za i env S= .ok (.ref b) S):e2 Zn (Za i) (e1 cj (eC (.int 1))) env S= .ok (.ref k.r) S:=by refine Zh hv (fL rfl (xM 1)) (iB H.hb ?_);rw[Yu,uJ];exact getD_last _ _
noncomputable def wg(h:List Nat):Int:=(dO h nT).getD 0
noncomputable def Bk.full(k:Bk):Bool:=decide (wg k.h=((k.cl.length+1:Nat):Int))
noncomputable def nZ(w:List Nat):Bool:=(dO w nT).isSome
noncomputable def Tq(k:Bk)(n:Nat)(w:List Nat):Bool:=if nZ w then decide (n<=12)else if w=gh then decide (k.h=gO)&&!k.full else if w=gP then k.full else true
theorem iI{a b:List Nat}:aV (.str a) (.str b) M= .ok (.bl (decide (a=b))) M:=by simp only[aV,xO]
theorem Zkp{b:Nat}{k:Bk}(H:cG S b (k::ks))(w:List Nat):Bc [.ref b,.str w] S= .ok (.bl (Tq k (ks.length+1) w)) S:=by
 have hk:=H.hk k Yd;refine(jy (M':=S) (env:=[Ya (.ref b),Ya (.str w),Yn,Yn]) ?_).trans (ZjI rfl);unfold R9;refine(Zi (Zo (H.last rfl))).trans ?_;have h0:∀{a:Option D},e2 Zn (e1 (jq iH mU) (Za 2)) (eC (.int 0)) [Ya (.ref b),Ya (.str w),Ya (.ref k.r),a] S= .ok (.str k.h) S:=Zh (fL rfl hk.head) rfl (xU (eZ _ 0));have Abh:e2 aV (e2 (tV nT) (e2 Zn (e1 (jq iH mU) (Za 2)) (eC (.int 0))) (eC (.int 0))) (aA aZ (Zb (e1 (jq iH um) (Za 2)) (Zf))) [Ya (.ref b),Ya (.str w),Ya (.ref k.r),Yn] S= .ok (.bl k.full) S:=by
  refine Zh (Zh h0 rfl (d:=.int (wg k.h)) (M3:=S) ?_) (b7 (fL rfl hk.lists) (jX hk.hl)) ?_
  .show(match dO k.h nT with|some i=>R3.ok (D.int i) S|none=>R3.ok (D.int 0) S)=_
   unfold wg;cases dO k.h nT<;>rfl
  .simp only[aV,xN,Ye,Yv,Y8];rfl
 refine(Zi (Zo Abh)).trans ?_;have hin:e1 (tW nT) (Za 1) [Ya (.ref b),Ya (.str w),Ya (.ref k.r),Ya (.bl k.full)] S= .ok (.bl (nZ w)) S:=fL rfl rfl;unfold Tq;by_cases h1:nZ w=true
 .rw[if_pos h1];rw[h1]at hin;refine q9 ((eY hin).trans (dh (Zh (b7 rfl (jX H.hb)) (g:=wB) (b:=.int 12) rfl ?_)));rw[QH];congr 3;simp only[CQ,Yv,Yp];exact propext ⟨λz=>by omega,λz=>by omega⟩
 rw[if_neg h1];rw[W_]at h1;rw[h1]at hin;refine(Zi (cR hin)).trans ?_;by_cases h2:w=gh
 .rw[if_pos h2];refine q9 ((eY (M':=S) (Zh rfl rfl (iI.trans (by rw[decide_eq_true h2])))).trans (dh ?_));by_cases h3:k.h=gO
  .rw[iC (M1:=S) (Zh h0 rfl (iI.trans (by rw[decide_eq_true h3]))),decide_eq_true h3];rfl
  .rw[lJ (M1:=S) (Zh h0 rfl (iI.trans (by rw[decide_eq_false h3]))),decide_eq_false h3];rfl
 rw[if_neg h2];refine(Zi (cR (M':=S) (Zh rfl rfl (iI.trans (by rw[decide_eq_false h2]))))).trans ?_;by_cases h3:w=gP
 .rw[if_pos h3];exact q9 ((eY (M':=S) (Zh rfl rfl (iI.trans (by rw[decide_eq_true h3])))).trans (dh rfl))
 .rw[if_neg h3];exact(Zi (cR (M':=S) (Zh rfl rfl (iI.trans (by rw[decide_eq_false h3]))))).trans (dh rfl)
variable{j:Nat}
theorem Tr{d:D}{o:MO}(hj:j<M.length)(ho:M'[j]?=Ya o)(hb:vC M.length o=false)(hne:M[j]?≠Ya o):dW M d M'= .ok d M':=by
 have ht:(M'.take M.length)[j]?=Ya o:=by rw[wK hj];exact ho
 have h1:decide (M'.take M.length=M)=false:=decide_eq_false λe=>hne (by rw[e]at ht;exact ht);have h2:(M'.take M.length).all (vC M.length)=false:=by rw[Bool.eq_false_iff];intro z;have:=gQ.mp z o (wL ht);rw[hb]at this;cases this
 unfold dW;rw[h1,h2];simp
theorem ZlA{d:D}(hl:M.length<=M'.length):∃S,dW M d M'= .ok d S/\M.length<=S.length/\∀a,a<M.length->S[a]?=M'[a]?:=by
 unfold dW;split
 .exact⟨_,rfl,by rw[yW];omega,λa ha=>wK ha⟩
 .exact⟨_,rfl,hl,λa _=>rfl⟩
structure pF(S S':Store)(b:Nat)(ks:List Bk):Prop where
 len:S.length<=S'.length
 old:∀a,a<S.length->a∉b::gD ks->S'[a]?=S[a]?
theorem KQ{n m:Nat}(h:n<=m):∀{l:List D},D.ref m∈l->bR n l=false
 |d::l,hm=>by
  show(below n d&&bR n l)=false;rcases Ym.mp hm with e|e
  .rw[←e,show below n (.ref m)=decide (m<n)from rfl,decide_eq_false (by omega)];rfl
  .rw[KQ h e,w6]
variable{h:List Nat}
theorem ZnH{e:E3}{hd:List D}(he:e env S= .ok (.tup (.str h::hd)) S):Ah iH yt (Zb e (Zf)) env S= .ok (.ref S.length) (S++nObj S.length h hd):=by
 have hg:(Zb e Zf) env S= .ok [.tup (.str h::hd)] S:=Zx he rfl;have hF:yt [.ref S.length,.tup (.str h::hd)] (S++[.ins iH []])= .ok .non (S++nObj S.length h hd):=by
  have s1:EY iH mU (Za 0) (Za 1) [Ya (.ref S.length),Ya (.tup (.str h::hd))] (S++[.ins iH []])= .nx [Ya (.ref S.length),Ya (.tup (.str h::hd))] (S++[.ins iH [(mU,.tup (.str h::hd))]]):=by refine p7 (d:=.non) (Zh rfl rfl ?_);rw[Q0,Zq];simp[vJ]
  have s2:EY iH um (Za 0) (bf (Zb (bf (Zf)) (Zf))) [Ya (.ref S.length),Ya (.tup (.str h::hd))] (S++[.ins iH [(mU,.tup (.str h::hd))]])= .nx [Ya (.ref S.length),Ya (.tup (.str h::hd))] (S++nObj S.length h hd):=by
   have l1:bf (Zb (bf (Zf)) (Zf)) [Ya (.ref S.length),Ya (.tup (.str h::hd))] (S++[.ins iH [(mU,.tup (.str h::hd))]])= .ok (.ref (S.length+2)) (S++[.ins iH [(mU,.tup (.str h::hd))],.lst [],.lst [.ref (S.length+1)]]):=by
    refine(cX (M':=S++[.ins iH [(mU,.tup (.str h::hd))],.lst []]) (ds:=[.ref (S.length+1)]) (Zx ((cX rfl rfl).trans ?_) rfl) rfl).trans ?_
    .simp
    .simp
   refine p7 (d:=.non) (Zh l1 rfl ?_);rw[Q0,Zq];have:=JD S [MO.ins iH [(mU,.tup (.str h::hd))],.lst [],.lst [.ref (S.length+1)]] 0 (.ins iH [(mU,.tup (.str h::hd)),(um,.ref (S.length+2))]);rw[HX]at this;simp[vJ,this]
  refine(Er (M':=S++nObj S.length h hd) (env:=[Ya (.ref S.length),Ya (.tup (.str h::hd))]) ((Zi s1).trans s2)).trans ?_;refine Tr (j:=S.length) (o:=.ins iH [(mU,.tup (.str h::hd)),(um,.ref (S.length+2))]) (by simp) (Zq _ _ _) ?_ ?_
  .show bR _ [.tup (.str h::hd),.ref (S.length+2)]=false;exact KQ (m:=S.length+2) (by simp) (by simp)
  .rw[Zq];simp
 simp only[Ah,hg,R3.bind,hF]
section
variable {S:Store} {b:Nat} {k:Bk} {ks:List Bk} {w:List Nat} {d:List D}
theorem uo{v:Option D}{x:Option D}:e2 Zn (Za 1) (eC (.int 0)) [Ya (.ref b),Ya (.tup (.str w::d)),v,x] S= .ok (.str w) S:=Zh rfl rfl (xU (eZ _ 0))
theorem pF.AbB{o:MO}(h:n∈b::gD ks):pF S (S.set n o) b ks:=⟨by rw[rW];exact Ys _,λa _ ha=>Yr λ(e:n=a)=>ha (e▸h)⟩
theorem pF.setG{o:MO}{G:Store}(h:n∈b::gD ks):pF S ((S++G).set n o) b ks:=⟨by rw[rW,Ye];exact m9 _ _,λa hl ha=>by rw[Yr λ(e:n=a)=>ha (e▸h),Yi hl]⟩
theorem Zwp:k.cn∈b::gD (k::ks):=Yc _ (uI _ (by simp[Bk.ads]))
theorem Zxr:k.l∈b::gD (k::ks):=Yc _ (uI _ (by simp[Bk.ads]))
theorem Zk7(H:cG S b (k::ks))(h1:nZ w=false)(h2:w≠gh)(h3:w≠gP)(hz:k.cur.length<1000):
  ∃S',uc [.ref b,.tup (.str w::d)] S= .ok .non S'/\cG S' b ({k with cur:=k.cur++[.tup (.str w::d)]}::ks)/\pF S S' b (k::ks):=by
 have hk:=H.hk k Yd;refine⟨_,(Er (M':=S.set k.cn (.lst (k.cur++[.tup (.str w::d)]))) (env:=[Ya (.ref b),Ya (.tup (.str w::d)),Yn,Yn]) (env':=[Ya (.ref b),Ya (.tup (.str w::d)),Ya (.ref k.r),Yn]) ?_).trans (ZpT (rW ..)),H.more _,pF.AbB Zwp⟩;unfold yu;refine(Zi (Zo (H.last rfl))).trans ?_;refine(nG (M':=S) (fL uo (by show R3.ok (D.bl (nZ w)) S=_;rw[h1]))).trans ?_;refine(nG (M':=S) (Zh uo rfl (iI.trans (by rw[decide_eq_false h2])))).trans ?_;refine(nG (M':=S) (Zh uo rfl (iI.trans (by rw[decide_eq_false h3])))).trans ?_;exact mR (M':=S) (Zh (fL rfl hk.lists) (fL rfl (xM 1)) (iB hk.hl (getD_last _ _))) hk.hn rfl hk.hn (m_ hz (by decide))
theorem ZoT(H:cG S b (k::ks))(h1:nZ w=true)(hz:ks.length<100):
  ∃S',uc [.ref b,.tup (.str w::d)] S= .ok .non S'/\cG S' b (KJ S.length w d::k::ks)/\pF S S' b (k::ks):=by
 have hlt:=H.yG;refine⟨_,(Er (M':=(S++nObj S.length w d).set b (.lst (((k::ks).map λk=>D.ref k.r).reverse++[.ref S.length]))) (env:=[Ya (.ref b),Ya (.tup (.str w::d)),Yn,Yn]) (env':=[Ya (.ref b),Ya (.tup (.str w::d)),Ya (.ref k.r),Yn]) ?_).trans (Tr (j:=b) hlt (Y0 (by rw[Ye];exact Dk _ hlt)) (KQ (m:=S.length) (Ys _) (Y5 _ Yd)) ?_),H.push w d,pF.setG Yd⟩
 .unfold yu;refine(Zi (Zo (H.last rfl))).trans ?_;refine(eY (M':=S) (fL uo (by show R3.ok (D.bl (nZ w)) S=_;rw[h1]))).trans ?_;exact mR (M':=S) rfl H.hb (ZnH (h:=w) (hd:=d) rfl) (bO H.hb _) (by simp only[CQ,Yv,Yp];exact m_ (show ks.length+1<1000 by omega) (by decide))
 .rw[H.hb];intro e;have:=congrArg (λo:Option MO=>match o with|some (.lst x)=>x.length|_=>0) e;simp at this
theorem Zoz(H:cG S b (k::ks))(hz:k.cl.length<100):
  ∃S',uc [.ref b,.tup (.str gh::d)] S= .ok .non S'/\cG S' b ({k with cl:=k.cl++[(k.cn,k.cur)],cn:=S.length,cur:=[]}::ks)/\pF S S' b (k::ks):=by
 have hk:=H.hk k Yd;have hlt:k.l<S.length:=hk.lt _ (by simp[Bk.ads]);refine⟨_,(Er (M':=(S++[MO.lst []]).set k.l (MO.lst ((k.cl.map λp=>D.ref p.1)++[D.ref k.cn]++[D.ref S.length]))) (env:=[Ya (.ref b),Ya (.tup (.str gh::d)),Yn,Yn]) (env':=[Ya (.ref b),Ya (.tup (.str gh::d)),Ya (.ref k.r),Yn]) ?_).trans (Tr (j:=k.l) hlt (Y0 (by rw[Ye];exact Dk _ hlt)) (KQ (m:=S.length) (Ys _) (Y5 _ Yd)) ?_),H.els,pF.setG Zxr⟩
 .unfold yu;refine(Zi (Zo (H.last rfl))).trans ?_;refine(nG (M':=S) (fL uo rfl)).trans ?_;refine(eY (M':=S) (Zh uo rfl (iI.trans (by rw[decide_eq_true rfl])))).trans ?_;exact mR (M':=S) (fL rfl hk.lists) hk.hl (cX rfl rfl) (bO hk.hl _) (by simp only[Ye,Yv,Y8];exact m_ (show k.cl.length+1<1000 by omega) (by decide))
 .rw[hk.hl];intro e;have:=congrArg (λo:Option MO=>match o with|some (.lst x)=>x.length|_=>0) e;simp at this
noncomputable def Bk.whole(k:Bk):D:=.tup (.str k.h::k.hd++(k.cl++[(k.cn,k.cur)]).map λp=>D.tup p.2)
theorem Zpb{k2:Bk}(H:cG S b (k::k2::ks))(hz:k.cl.length<100)(hd:k.hd.length<100)(hc:k2.cur.length<1000):
  ∃S',uc [.ref b,.tup (.str gP::d)] S= .ok .non S'/\cG S' b ({k2 with cur:=k2.cur++[k.whole]}::ks)/\pF S S' b (k::k2::ks):=by
 have hk:=H.hk k Yd
 let S1:=S.set b (.lst ((k2::ks).map λk=>D.ref k.r).reverse)
 have H1:cG S1 b (k2::ks):=H.pop;have hk1:pD S1 k:=hk.congr λa ha=>Yr λ(e:b=a)=>H.rest.2.1 (by rw[e];exact ha)
 let S2:=S1++[MO.lst ((k.cl++[(k.cn,k.cur)]).map λp=>D.tup p.2)]
 have H2:cG S2 b (k2::ks):=H1.app _;have hk2:=H2.hk k2 Yd
 let S3:=S2.set k2.cn (.lst (k2.cur++[k.whole]))
 have H3:cG S3 b ({k2 with cur:=k2.cur++[k.whole]}::ks):=H2.more _;have hl3:S.length<=S3.length:=by simp[S3,S2,S1]
 have lc:fK (cV (e1 (jq iH um) (Za 2))) 1 (cg 4) [] (aA gA (Zb (Za 4) (Zf))) [Ya (.ref b),Ya (.tup (.str gP::d)),Ya (.ref k.r),Yn] S1= .ok (.ref S1.length) S2:=by
  refine Tg (enc:=λp:Nat×List D=>D.ref p.1) (h:=λp=>D.tup p.2) (as:=k.cl++[(k.cn,k.cur)]) (M1:=S1) (lock:=Ya k.l) (λe=>∃a1 a2 a3 a4 a5,e=[a1,a2,a3,a4,a5]) ?_ ?_ ⟨_,_,_,_,_,rfl⟩ ?_ (by simp;omega)
  .show(e1 (jq iH um) (Za 2) _ _).bind _=_;rw[fL (d:=.ref k.l) rfl hk1.lists];simp only[R3.bind,hk1.hl,jR];rfl
  .intro n hn;cases hn;rw[jR];exact hk1.hl
  .intro p hp env ⟨a1,a2,a3,a4,a5,e⟩;subst e;refine⟨_,rfl,⟨_,_,_,_,_,rfl⟩,λx=>b7 rfl (oY (bO ?_ _))⟩;rcases fQ.mp hp with q|q
   .exact hk1.hc p q
   .rw[Yz.mp q];exact hk1.hn
 have main:yu [Ya (.ref b),Ya (.tup (.str gP::d)),Yn,Yn] S= .nx [Ya (.ref b),Ya (.tup (.str gP::d)),Ya (.ref k.r),Ya k.whole] S3:=by
  unfold yu;refine(Zi (Zo (H.last rfl))).trans ?_;refine(nG (M':=S) (fL uo rfl)).trans ?_;refine(nG (M':=S) (Zh uo rfl (iI.trans (by rw[decide_eq_false (by decide)])))).trans ?_;refine(eY (M':=S) (Zh uo rfl (iI.trans (by rw[decide_eq_true rfl])))).trans ?_;have hb:S[b]?=Ya (.lst (((k2::ks).map λk=>D.ref k.r).reverse++[D.ref k.r])):=by rw[H.hb,Yu,uJ]
  refine(Zi (p7 (KN rfl hb))).trans ?_;refine(Zi (Zo (d:=k.whole) (M':=S2) (Zh (fL rfl hk1.head) (b7 lc (oY (Zq S1 _ []))) ?_))).trans ?_
  .rw[Zlu];refine if_pos ?_;simp only[Yp,Yv,Ye,yZ];exact Yk (show _<=1000 by omega) (by decide)
  .exact mR (M':=S2) (Zh (fL (H2.last rfl) hk2.lists) (fL rfl (xM 1)) (iB hk2.hl (getD_last _ _))) hk2.hn rfl hk2.hn (m_ hc (by decide))
 obtain⟨S',e,l1,o1⟩:=ZlA (M:=S) (M':=S3) (d:=.non) hl3;have old:∀a,a<S.length->a∉b::gD (k::k2::ks)->S3[a]?=S[a]?:=λa hlt ha=>by have n1:k2.cn≠a:=λz=>ha (Yc _ (by rw[qw,qw,←z];exact Y5 _ (uI _ (by simp[Bk.ads]))));have n2:b≠a:=λz=>ha (by rw[z];exact Yd);show(S2.set k2.cn _)[a]?=_;rw[Yr n1];show(S1++_)[a]?=_;rw[Yi (by simp[S1];exact hlt)];exact Yr n2
 refine⟨S',(Er main).trans e,H3.frame λa ha=>o1 a ?_,l1,λa hl ha=>(o1 a hl).trans (old a hl ha)⟩;rcases Ym.mp ha with z|z
 .rw[z];exact H.yG
 .refine H.lt a ?_;rw[qw];exact Y5 _ z
end
structure Pf where
 h:List Nat
 hd:List D
 cl:List (List D)
 cur:List D
noncomputable def Bk.pf(k:Bk):Pf:=⟨k.h,k.hd,k.cl.map (·.2),k.cur⟩
noncomputable def Pf.whole(k:Pf):D:=.tup (.str k.h::k.hd++(k.cl++[k.cur]).map D.tup)
theorem Zqz(k:Bk):k.whole=k.pf.whole:=by simp[Bk.whole,Pf.whole,Bk.pf]
noncomputable def Rw.tl(r:Rw):List D:=r.xs.map D.str++r.ts.map λt=>D.tup t.flat
theorem KR(r:Rw):r.deed= .str r.h::r.tl:=rfl
noncomputable def stepK(r:Rw)(k:Pf)(fs:List Pf):Option (List Pf):=if nZ r.h=true then(if fs.length+1<=12 then Ya (⟨r.h,r.tl,[],[]⟩::k::fs)else Yn)
  else if r.h=gh then(if k.h=gO/\k.cl=[]then Ya (⟨k.h,k.hd,[k.cur],[]⟩::fs)else Yn)
  else if r.h=gP then(match fs with
   |[]=>Yn|k2::fs=>if wg k.h=((k.cl.length+1:Nat):Int)/\k.hd.length<100/\k.cl.length<100/\k2.cur.length<1000 then Ya (⟨k2.h,k2.hd,k2.cl,k2.cur++[k.whole]⟩::fs)else Yn)
  else if k.cur.length<1000 then Ya (⟨k.h,k.hd,k.cl,k.cur++[.tup r.deed]⟩::fs)else Yn
noncomputable def jL(r:Rw):List Pf->Option (List Pf)
 |[]=>Yn|k::fs=>stepK r k fs
structure wj(M S:Store)(b:Nat)(ks:List Bk):Prop where
 bk:cG S b ks
 len:M.length<=S.length
 pre:∀a,a<M.length->S[a]?=M[a]?
 hi:∀a∈b::gD ks,M.length<=a
theorem wj.next{b:Nat}{ks':List Bk}(I:wj M S b ks)(h:cG S' b ks')(st:pF S S' b ks)(ha:∀a∈gD ks',a∈gD ks\/S.length<=a):wj M S' b ks':=
 ⟨h,Yk I.len st.len,λa hl=>(st.old a (Y9 hl I.len) λz=>by have:=I.hi a z;omega).trans (I.pre a hl),λa z=>by
  rcases Ym.mp z with e|e
  .exact I.hi a (by rw[e];exact Yd)
  .rcases ha a e with q|q
   .exact I.hi a (Yc _ q)
   .exact Yk I.len q⟩
theorem ZmO{b:Nat}(I:wj M S b ks){fs:List Pf}(hp:jL r (ks.map Bk.pf)=Ya fs):
  Bc [.ref b,.str r.h] S= .ok (.bl true) S/\∃S' ks',uc [.ref b,.tup r.deed] S= .ok .non S'/\wj M S' b ks'/\ks'.map Bk.pf=fs:=by
 cases ks with
 |nil=>cases hp|cons k ks=>
  rw[Zkp I.bk r.h];rw[Yu]at hp;have hp:stepK r k.pf (ks.map Bk.pf)=Ya fs:=hp;unfold stepK at hp;unfold Tq;by_cases h1:nZ r.h=true
  .rw[if_pos h1]at hp ⊢;by_cases hl:(ks.map Bk.pf).length+1<=12
   .rw[if_pos hl]at hp;rw[Yv]at hl;obtain⟨S',e,q1,q2⟩:=ZoT (d:=r.tl) I.bk h1 (by omega);refine⟨by rw[decide_eq_true hl],S',_,e,I.next q1 q2 λa ha=>?_,Y6 hp⟩;rw[qw]at ha;rcases fQ.mp ha with z|z
    .right;simp[Bk.ads]at z;omega
    .exact .inl z
   .rw[if_neg hl]at hp;cases hp
  rw[if_neg h1]at hp ⊢;rw[W_]at h1;by_cases h2:r.h=gh
  .rw [if_pos h2]at hp ⊢;by_cases hc:k.pf.h=gO/\k.pf.cl=[]
   .rw[if_pos hc]at hp;have hcl:k.cl=[]:=CP.mp hc.2;have hh:k.h=gO:=hc.1;obtain⟨S',e,q1,q2⟩:=Zoz (d:=r.tl) I.bk (by rw[hcl];decide);have hf:k.full=false:=by unfold Bk.full;rw[hh,hcl];rfl
    refine⟨by rw[decide_eq_true hh,hf];rfl,S',_,by rw[KR,h2];exact e,I.next q1 q2 λa ha=>?_,?_⟩
    .rw[qw]at ha ⊢;rcases fQ.mp ha with z|z
     .simp only[Bk.ads,hcl,jB,Yu,rY,Ym,mZ,or_false]at z;rcases z with z|z|z|z
      .exact .inl (uI _ (by simp[Bk.ads,z]))
      .exact .inl (uI _ (by simp[Bk.ads,z]))
      .exact .inr (by omega)
      .exact .inl (uI _ (by simp[Bk.ads,z]))
     .exact .inl (Y5 _ z)
    .rw[←Y6 hp,Yu];simp[Bk.pf,hcl]
   .rw[if_neg hc]at hp;cases hp
  rw[if_neg h2]at hp ⊢;by_cases h3:r.h=gP
  .rw [if_pos h3]at hp ⊢;cases ks with
   |nil=>cases hp|cons k2 ks=>
    simp only[Yu]at hp;by_cases hc:wg k.pf.h=((k.pf.cl.length+1:Nat):Int)/\k.pf.hd.length<100/\k.pf.cl.length<100/\k2.pf.cur.length<1000
    .rw[if_pos hc]at hp;have hcl:k.pf.cl.length=k.cl.length:=Yv _;obtain⟨c1,c2,c3,c4⟩:=hc;rw[hcl]at c1 c3;obtain⟨S',e,q1,q2⟩:=Zpb (d:=r.tl) I.bk c3 c2 c4;refine⟨by rw[show k.full=true from decide_eq_true c1],S',_,by rw[KR,h3];exact e,I.next q1 q2 λa ha=>?_,?_⟩
     .left;rw[qw];exact Y5 _ ha
     .rw[←Y6 hp,Yu,Zqz];rfl
    .rw[if_neg hc]at hp;cases hp
  rw[if_neg h3]at hp ⊢;by_cases hc:k.pf.cur.length<1000
  .rw[if_pos hc]at hp;obtain⟨S',e,q1,q2⟩:=Zk7 (d:=r.tl) I.bk h1 h2 h3 hc;exact⟨rfl,S',_,e,I.next q1 q2 λa ha=>.inl ha,Y6 hp⟩
  .rw[if_neg hc]at hp;cases hp
noncomputable def lW:List Rw->List Pf->Option (List Pf)
 |[],fs=>Ya fs|r::rs,fs=>(jL r fs).bind (lW rs)
noncomputable abbrev rdB:S3:=Zr (aq 5 (aM Fz (Zb (Za 4) (Zf)))) (Zr (aJ (eG (e2 nC (Za 5) (eC .non)) (e1 pY (aM Bc (Zb (Za 2) (Zb (e2 Zn (Za 5) (eC (.int 0))) (Zf)))))) (tM) (aW)) (aO (aM uc (Zb (Za 2) (Zb (Za 5) (Zf))))))
noncomputable abbrev wk(q:Int×Nat×Rw):D:=.tup [.int q.1,.ref q.2.1]
theorem ZnB{M:Store}{b:Nat}{it:fU}(hit:∀S,(∀a,a<M.length->S[a]?=M[a]?)->locked it S=true){v0 v1:Option D}:
  ∀(L:List (Int×Nat×Rw)) (S:Store) (ks:List Bk) (fs:List Pf) (x3 x4 x5:Option D),wj M S b ks->(∀q∈L,M[q.2.1]?=Ya (.lst (q.2.2.words.map D.str))/\fc q.2.2)->lW (L.map (·.2.2)) (ks.map Bk.pf)=Ya fs ->
  ∃S' ks' y3 y4 y5,iV it (nF [3,4]) rdB (L.map wk) [v0,v1,Ya (.ref b),x3,x4,x5] S= .nx [v0,v1,Ya (.ref b),y3,y4,y5] S'/\wj M S' b ks'/\ks'.map Bk.pf=fs
 |[],S,ks,fs,x3,x4,x5,I,_,hr=>⟨S,ks,x3,x4,x5,by show iV _ _ _ [] _ _=_;rw[vB,if_pos (hit S I.pre)],I,Y6 hr⟩|q::L,S,ks,fs,x3,x4,x5,I,hL,hr=>by
  obtain⟨hw,ok⟩:=hL q Yd;rw[Yu]at hr;cases hs:jL q.2.2 (ks.map Bk.pf)with
  |none=>unfold lW at hr;rw[hs]at hr;cases hr|some f1=>
   unfold lW at hr;rw[hs]at hr;obtain⟨c1,S1,k1,p1,I1,e1⟩:=ZmO I hs;rw[←e1]at hr;obtain⟨S',ks',y3,y4,y5,h,I',e'⟩:=ZnB hit L S1 k1 fs (Ya (.int q.1)) (Ya (.ref q.2.1)) (Ya (.tup q.2.2.deed)) I1 (λp hp=>hL p (Yc _ hp)) hr;refine⟨S',ks',y3,y4,y5,?_,I',e'⟩;have hwS:S[q.2.1]?=Ya (.lst (q.2.2.words.map D.str)):=(I.pre _ (Yf.mp hw).1).trans hw;have hb:rdB [v0,v1,Ya (.ref b),Ya (.int q.1),Ya (.ref q.2.1),x5] S= .nx [v0,v1,Ya (.ref b),Ya (.int q.1),Ya (.ref q.2.1),Ya (.tup q.2.2.deed)] S1:=by refine(Zi (Zo (d9 rfl (ZkW ok hwS)))).trans ?_;refine(Zi (cR (M':=S) ((oZ (M1:=S) (Zh rfl rfl rfl)).trans (fL (tR rfl (Zh rfl rfl (xU (eZ _ 0))) c1) rfl)))).trans ?_;exact p7 (tR rfl rfl p1)
   rw[Yu,tO,if_pos (hit S I.pre)];simp only[nF,JB,Jz,oG,oH,hb];exact h
noncomputable abbrev j9:List Nat:=[112,114,111,103,114,97,109]
theorem Zqs(M:Store):wj M (M++nObj M.length j9 []++[.lst [.ref M.length]]) (M.length+3) [KJ M.length j9 []]:=by
 have n:∀j,(M++nObj M.length j9 []++[.lst [.ref M.length]])[M.length+j]?=(nObj M.length j9 []++[.lst [.ref M.length]])[j]?:=λj=>by rw[jg,q_]
 refine⟨⟨(n 3).trans rfl,λk hk=>?_,?_,?_⟩,by simp,λa ha=>by rw[jg,Yi ha],λa ha=>?_⟩
 .rw[Yz.mp hk];exact⟨(n 0).trans rfl,(n 2).trans rfl,(λp hp=>nomatch hp),(n 1).trans rfl⟩
 .simp[gD,Bk.ads]
 .simp[gD,Bk.ads]
 .simp[gD,Bk.ads]at ha;omega
theorem ZfR{L:List (Int×Nat×Rw)}{z:Int}(hn:M[n]?=Ya (.lst (L.map wk)))(hL:∀q∈L,M[q.2.1]?=Ya (.lst (q.2.2.words.map D.str))/\fc q.2.2)(hr:lW (L.map (·.2.2)) [⟨j9,[],[],[]⟩]=Ya [⟨j9,[],[],ds⟩])(wu:bR M.length ds=true):Km [.ref n,.int z] M= .ok (.tup ds) M:=by
 let S0:=M++nObj M.length j9 []++[MO.lst [.ref M.length]]
 have hnl:=(Yf.mp hn).1;obtain⟨S',ks',y3,y4,y5,h,I,e⟩:=ZnB (M:=M) (it:=⟨L.map wk,Ya n⟩) (λS hS=>decide_eq_true ((hS n hnl).trans hn)) (v0:=Ya (.ref n)) (v1:=Ya (.int z)) L S0 [KJ M.length j9 []] _ Yn Yn Yn (Zqs M) hL hr
 match ks',e,I with
 |k::k'::r,e,_=>exact absurd (congrArg Yes e) (by simp)|[],e,_=>exact absurd (congrArg Yes e) (by simp)|[k],e,I=>
  have e:=(iT e).1;have hcl:k.cl=[]:=CP.mp (congrArg Pf.cl e);have hcur:k.cur=ds:=congrArg Pf.cur e;have hk:=I.bk.hk k Yd;refine(jy (M':=S') (d:=.tup ds) (env:=[Ya (.ref n),Ya (.int z),Yn,Yn,Yn,Yn]) ?_).trans ?_
  .unfold R_;have m1:=ZnH (env:=[Ya (.ref n),Ya (.int z),Yn,Yn,Yn,Yn]) (S:=M) (e:=fV (Zb (eC (.str j9)) (Zf))) (h:=j9) (hd:=[]) (lH rfl rfl);refine(Zi (Zo (d:=.ref (M.length+3)) (M':=S0) ((cX (Zx m1 rfl) rfl).trans (by simp[S0])))).trans ?_;have hi0:cV (Za 0) [Ya (.ref n),Ya (.int z),Ya (.ref (M.length+3)),Yn,Yn,Yn] S0= .ok ⟨L.map wk,Ya n⟩ S0:=by
    show(R3.ok (D.ref n) S0).bind _=_;simp only[R3.bind];rw[show S0[n]?=Ya (.lst (L.map wk))from((Zqs M).pre n hnl).trans hn]
   refine(Zi ((xT hi0).trans h)).trans ?_;refine(Zi (cR (M':=S') (Zh (b7 rfl (jX I.bk.hb)) rfl (by rw[jb];rfl)))).trans ?_;refine dh (b7 (Zh (fL (Zh rfl rfl (iB I.bk.hb (eZ _ 0))) hk.lists) rfl (iB hk.hl (d:=.ref k.cn) (by rw[hcl];exact eZ _ 0))) ((oY hk.hn).trans (by rw[hcur])))
  .have ht:S'.take M.length=M:=by
    apply yV;intro a;by_cases ha:a<M.length
    .rw[wK ha];exact I.pre a ha
    .rw[G_ (by rw[yW];omega),G_ (by omega)]
   unfold dW;rw[show below M.length (.tup ds)=true from wu,ht,decide_eq_true rfl];rfl
noncomputable def cH:Option (List (List Nat))->List Nat
 |none=>[]|some ws=>glue [32] ws
structure Gg(ws:List (List Nat)):Prop where
 ne:ws≠[]
 fr:∀w∈ws,32∉w/\10∉w
 tx:glue [32] ws≠[]
 le:(glue [32] ws).length<=10000
noncomputable def rowsOf:Nat->List (Option (List (List Nat)))->List (Int×List (List Nat))
 |_,[]=>[]|k,Yn::r=>rowsOf (k+1) r|k,Ya ws::r=>((k:Nat),ws)::rowsOf (k+1) r
theorem Tt:∀(k:Nat) (Ls:List (Option (List (List Nat)))),(rowsOf k Ls).map (·.2)=Ls.filterMap id
 |_,[]=>rfl|k,Yn::r=>Tt (k+1) r|k,Ya ws::r=>congrArg (ws:: ·) (Tt (k+1) r)
theorem Tu:∀(k:Nat) (Ls:List (Option (List (List Nat)))),(rowsOf k Ls).length<=Ls.length
 |_,[]=>Ys _|k,Yn::r=>qM (Tu (k+1) r)|k,Ya _::r=>oM (Tu (k+1) r)
noncomputable def jM(n:Nat):List (Int×List (List Nat))->List D
 |[]=>[]|q::r=>.tup [.int q.1,.ref n]::jM (n+1) r
noncomputable abbrev n8(L:List (Int×List (List Nat))):Store:=L.map λq=>MO.lst (q.2.map D.str)
noncomputable abbrev bN:E3:=fV (Zb (Za 4) (Zb (aG g8 vH (Za 5) (Zb (eC (.str [32])) (Zf))) (Zf)))
theorem Gh{ty:D->Store->Bool}{me:D->List D->Store->R3 D}{o:E3}{g:d8}{M M1 M2 M3:Store}{a d:D}(h1:o env M= .ok a M1)(hi:ty a M1=true)(h2:g env M1= .ok ds M2)(h3:me a ds M2= .ok d M3):aG ty me o g env M= .ok d M3:=by simp only[aG,h1,R3.bind,hi,if_true,h2,h3]
theorem Zl2(h:x.length<=900000):vH (.str x) [.str [c]] M= .ok (.ref M.length) (M++[.lst ((nH x [c]).map D.str)]):=by rw[ZjG,if_pos ⟨by simp,Yk (show x.length+2<=1000000 by omega) (by decide)⟩];rfl
theorem Tv{M:Store}{lk:List (Nat×List D)}(hlk:jn lk M=true):∀(Ls:List (Option (List (List Nat)))) (k:Nat) (acc:List D) (W:Store) (v0 v1 v2 v3 x y:Option D),(∀ws,Ya ws∈Ls->Gg ws)->acc.length+Ls.length<=10000 ->
  jo lk (nF [4,5]) [e2 gq (Za 5) (eC (.str []))] bN M.length (lK k (Ls.map λl=>D.str (cH l))) [v0,v1,v2,v3,x,y] (M++ .lst acc::W)
   = .ok (.ref M.length) (M++ .lst (acc++jM (M.length+1+W.length) (rowsOf k Ls))::(W++n8 (rowsOf k Ls)))
 |[],k,acc,W,v0,v1,v2,v3,x,y,_,_=>by show jo _ _ _ _ _ [] _ _=_;simp only[jo,Ga hlk,if_true,rowsOf,jM,n8,rY,jQ]|none::Ls,k,acc,W,v0,v1,v2,v3,x,y,hL,hl=>by rw[Yp]at hl;have ih:=Tv hlk Ls (k+1) acc W v0 v1 v2 v3 (Ya (.int (k:Nat))) (Ya (.str [])) (λws hw=>hL ws (Yc _ hw)) (by omega);have ht:e2 gq (Za 5) (eC (.str [])) [v0,v1,v2,v3,Ya (.int (k:Nat)),Ya (.str [])] (M++ .lst acc::W)= .ok (.bl false) (M++ .lst acc::W):=Zh rfl rfl (ZwE rfl);show jo _ _ _ _ _ (.tup [.int (k:Nat),.str []]::lK (k+1) (Ls.map λl=>D.str (cH l))) _ _=_;simp only[jo,Ga hlk,if_true,nF,JB,Jz,oG,oH,Ep,ht,R3.bind,zu,if_false];exact ih|some ws::Ls,k,acc,W,v0,v1,v2,v3,x,y,hL,hl=>by
  rw[Yp]at hl;have ok:=hL ws Yd
  let S:=M++ .lst acc::W
  have hS:S.length=M.length+1+W.length:=by simp[S];omega
  have ih:=Tv hlk Ls (k+1) (acc++[.tup [.int (k:Nat),.ref S.length]]) (W++[.lst (ws.map D.str)]) v0 v1 v2 v3 (Ya (.int (k:Nat))) (Ya (.str (glue [32] ws))) (λws hw=>hL ws (Yc _ hw)) (by simp;omega);have ht:e2 gq (Za 5) (eC (.str [])) [v0,v1,v2,v3,Ya (.int (k:Nat)),Ya (.str (glue [32] ws))] S= .ok (.bl true) S:=Zh rfl rfl (Zxp ok.tx);have hsp:nH (glue [32] ws) [32]=ws:=ZhF 32 ws ok.ne λw hw=>(ok.fr w hw).1;have he:bN [v0,v1,v2,v3,Ya (.int (k:Nat)),Ya (.str (glue [32] ws))] S= .ok (.tup [.int (k:Nat),.ref S.length]) (S++[.lst (ws.map D.str)]):=by refine lH (Zx rfl (Zx (Gh rfl rfl (Zx rfl rfl) ((Zl2 (Yk ok.le (by decide))).trans (by rw[hsp]))) rfl)) rfl
  have gt:(S++[MO.lst (ws.map D.str)])[M.length]?=Ya (.lst acc):=bO (Zq _ _ _) _;have lt:acc.length<SZ:=sH (show acc.length<=10000 by omega) (by decide);have st:(S++[MO.lst (ws.map D.str)]).set M.length (.lst (acc++[.tup [.int (k:Nat),.ref S.length]]))=M++ .lst (acc++[.tup [.int (k:Nat),.ref S.length]])::(W++[.lst (ws.map D.str)]):=by simp[S]
  show jo _ _ _ _ _ (.tup [.int (k:Nat),.str (glue [32] ws)]::lK (k+1) (Ls.map λl=>D.str (cH l))) _ S=_;have hlS:jn lk S=true:=Ga hlk _;simp only[jo,hlS,if_true,nF,JB,Jz,oG,oH,Ep,Eo,ht,R3.bind,he,gt,lt,st];rw[ih];simp only[rowsOf,jM,n8,Yu,jg,wM,jB,Ye,Y8,hS,pN]
noncomputable abbrev ig:List Nat:=[116,97,107,101]
variable{tk:List (List Nat)}
theorem Zp5{z:Int}{w:Nat}(hw:M[w]?=Ya (.lst ((ig::tk).map D.str)))(h0:tk≠[])(h6:tk.length<=6)(nd:tk.Nodup)(nm:∀x∈tk,gB x):
  Kh [.tup [.int z,.ref w]] M= .ok (.tup (tk.map D.str)) M:=by
 have hpos:1<=tk.length:=W4 λe=>h0 (Wa.mp e)
 let M1:=M++[MO.lst (tk.map D.str)]
 have h1:M1[M.length]?=Ya (.lst (tk.map D.str)):=Zq _ _ _;refine Rt.pure (G:=[.lst (tk.map D.str),.lst (tk.map λ_=>D.bl true)]) (env:=[Ya (.tup [.int z,.ref w]),Yn]) ?_ (KH tk);unfold R6;have s1:eN (e2 Zn (Za 0) (eC (.int 1))) (dN (eC (.int 1))) (fW) [Ya (.tup [.int z,.ref w]),Yn] M= .ok (.ref M.length) M1:=by refine(Gf (a:=Ya ((1:Nat):Int)) (b:=Yn) (Zh rfl rfl (xU (eZ _ 1))) rfl rfl hw).trans ?_;rw[Cd];rfl
 refine(Zi (Zo s1)).trans ?_;have ln:∀{a b:Option D},aA aZ (Zb (Za 1) (Zf)) [a,Ya (.ref M.length)] M1= .ok (.int (tk.length:Int)) M1:=(b7 rfl (jX h1)).trans (by rw[Yv]);have c1:e2 dD (aA aZ (Zb (Za 1) (Zf))) (eC (.int 1)) [Ya (.tup [.int z,.ref w]),Ya (.ref M.length)] M1= .ok (.bl false) M1:=Zh (ln (b:=Yn)) rfl (by rw[lu,decide_eq_false (by omega)]);have c2:e2 cu (aA aZ (Zb (Za 1) (Zf))) (uw) [Ya (.tup [.int z,.ref w]),Ya (.ref M.length)] M1= .ok (.bl false) M1:=Zh (ln (b:=Yn)) (g:=uw) (b:=.int 6) rfl (by rw[jb,decide_eq_false (by omega)]);have c3:e2 gq (aA JL (Zb (Za 1) (Zf))) (aA aZ (Zb (Za 1) (Zf))) [Ya (.tup [.int z,.ref w]),Ya (.ref M.length)] M1= .ok (.bl false) M1:=by refine Zh (b7 rfl (ZmP h1 (by omega))) (ln (b:=Yn)) ?_;rw[ZgN (by simpa using nd)];simp
 refine(Zi (cR ((oZ c1).trans ((oZ c2).trans c3)))).trans ?_;have hi:cV (Za 1) [Ya (.tup [.int z,.ref w]),Ya (.ref M.length)] M1= .ok ⟨tk.map D.str,Ya M.length⟩ M1:=by show(R3.ok (D.ref M.length) M1).bind _=_;simp only[R3.bind,h1]
 have l1:=vG (h:=λ_=>D.bl true) (own:=1) (i:=2) (elt:=aM mK (Zb (Za 2) (Zf))) hi (λm e=>by cases e;exact h1)
  (λx hx M'=>d9 rfl ((nm x hx).is M')) (by omega)
 have t1:=all_map (p:=λ_=>true) (l:=tk) (Zq M1 (MO.lst (tk.map λ_=>D.bl true)) []);rw[show(tk.all λ_=>true)=true from gQ.mpr λ_ _=>rfl]at t1;refine(Zi (cR (M':=M1++[.lst (tk.map λ_=>D.bl true)]) (fL (b7 l1 t1) rfl))).trans ?_;refine dh ((b7 rfl (oY (bO h1 _))).trans ?_);simp[M1]
noncomputable def wz(n:Nat):List (Int×List (List Nat))->List Rw->List (Int×Nat×Rw)
 |q::L,r::rs=>(q.1,n,r)::wz (n+1) L rs|_,_=>[]
theorem Tw:∀(n:Nat) (L:List (Int×List (List Nat))) (rs:List Rw),L.map (·.2)=rs.map Rw.words->(wz n L rs).map wk=jM n L/\(wz n L rs).map (·.2.2)=rs
 |_,[],[],_=>⟨rfl,rfl⟩|_,[],_::_,h=>nomatch h|_,_::_,[],h=>nomatch h|n,q::L,r::rs,h=>by obtain⟨h1,h2⟩:=Tw (n+1) L rs (iT h).2;exact⟨by show wk (q.1,n,r)::(wz (n+1) L rs).map wk=_;rw[h1];rfl,by show r::(wz (n+1) L rs).map (·.2.2)=_;rw[h2]⟩
theorem Tz{S:Store}:∀(n:Nat) (L:List (Int×List (List Nat))) (rs:List Rw),L.map (·.2)=rs.map Rw.words->(∀j,j<L.length->S[n+j]?=(n8 L)[j]?)->(∀r∈rs,fc r) ->
  ∀q∈wz n L rs,S[q.2.1]?=Ya (.lst (q.2.2.words.map D.str))/\fc q.2.2
 |_,[],[],_,_,_,q,hq=>nomatch hq|_,[],_::_,h,_,_,_,_=>nomatch h|_,_::_,[],h,_,_,_,_=>nomatch h|n,p::L,r::rs,h,hS,ok,q,hq=>by
  rcases Ym.mp hq with e|e
  .rw[e];refine⟨(hS 0 (by simp)).trans ?_,ok r Yd⟩;show Ya (MO.lst (p.2.map D.str))=_;rw[show p.2=r.words from(iT h).1]
  .exact Tz (n+1) L rs (iT h).2 (λj hj=>by have:=hS (j+1) (by simpa using hj);rw[pN,kE 1 j];exact this) (λr hr=>ok r (Yc _ hr)) q e
variable{Ls:List (Option (List (List Nat)))}{rs:List Rw}
theorem Zom(hne:Ls≠[])(hLs:∀ws,Ya ws∈Ls->Gg ws)(hn:Ls.length<=5000)(ht:(glue [10] (Ls.map cH)).length<=900000)(Abi:Ls.filterMap id=(if tk=[]then[]else[ig::tk])++rs.map Rw.words)(hok:∀r∈rs,fc r)(h6:tk.length<=6)(nd:tk.Nodup)(nm:∀x∈tk,gB x)(hr:lW rs [⟨j9,[],[],[]⟩]=Ya [⟨j9,[],[],ds⟩])(wu:∀n,bR n ds=true):Bd [.str (glue [10] (Ls.map cH))] M= .ok (.tup [.tup (tk.map D.str),.tup ds]) M:=by
 let T:=glue [10] (Ls.map cH)
 let M1:=M++[MO.lst (Ls.map λl=>D.str (cH l))]
 let L:=rowsOf 1 Ls
 let M2:=M1++MO.lst (jM (M1.length+1) L)::n8 L
 have hfree:∀t∈Ls.map cH,10∉t:=by
  intro t hm;obtain⟨l,hl,rfl⟩:=gH.mp hm;cases l with
  |none=>intro z;cases z|some ws=>
   have ok:=hLs ws hl;have key:∀vs:List (List Nat),(∀w∈vs,10∉w)->10∉glue [32] vs:=by
    intro vs
    induction vs with
    |nil=>intro _ z;cases z|cons v vs ih=>
     intro hv;cases vs with
     |nil=>exact hv v Yd|cons u us=>
      rw[ug];intro z;rcases fQ.mp z with z|z
      .exact hv v Yd z
      .rcases fQ.mp z with z|z
       .cases Yz.mp z
       .exact ih (λw hw=>hv w (Yc _ hw)) z
   exact key ws λw hw=>(ok.fr w hw).2
 have hsp:(nH T [10]).map D.str=Ls.map λl=>D.str (cH l):=by rw[ZhF 10 _ (λe=>hne (CP.mp e)) hfree,qK];rfl
 have s1:aG g8 vH (Za 0) (Zb (eC (.str [10])) (Zf)) [Ya (.str T),Yn,Yn,Yn] M= .ok (.ref M.length) M1:=Gh rfl rfl (Zx rfl rfl) ((Zl2 ht).trans (by rw[hsp]));have h1:M1[M.length]?=Ya (.lst (Ls.map λl=>D.str (cH l))):=Zq _ _ _;have lk:jn [(M.length,Ls.map λl=>D.str (cH l))] M1=true:=by simp only[jn,jC,Np,Ib];exact decide_eq_true h1
 have lp:=Tv lk Ls 1 [] [] (Ya (.str T)) (Ya (.ref M.length)) Yn Yn Yn Yn hLs (by simp;omega);have s2:vI (Q3 (Za 1)) 2 (nF [4,5]) [e2 gq (Za 5) (eC (.str []))] bN [Ya (.str T),Ya (.ref M.length),Yn,Yn] M1= .ok (.ref M1.length) M2:=by show(R3.bind (R3.bind (R3.ok (D.ref M.length) M1) _) _)=_;simp only[R3.bind,h1];exact lp
 have pC:M2[M1.length]?=Ya (.lst (jM (M1.length+1) L)):=Zq _ _ _;have hobj:∀j,M2[M1.length+1+j]?=(n8 L)[j]?:=λj=>by show(M1++MO.lst _::n8 L)[_]?=_;rw[pN,q_,kE 1 j];rfl
 have hw:L.map (·.2)=(if tk=[]then[]else[ig::tk])++rs.map Rw.words:=(Tt 1 Ls).trans Abi;have hLl:=Tu 1 Ls;have hlen:∀{env:bK} {S:Store},Za 1 env S= .ok (.ref M.length) S->S[M.length]?=Ya (.lst (Ls.map λl=>D.str (cH l)))->e2 aQ (aA aZ (Zb (Za 1) (Zf))) (eC (.int 1)) env S= .ok (.int ((Ls.length:Int)+1)) S:=λhv h=>Zh (b7 hv (jX h)) rfl (by rw[Yv];rfl);have Vk:∀n,below n (.tup [.tup (tk.map D.str),.tup ds])=true:=λn=>by show(bR n (tk.map D.str)&&(bR n ds&&true))=true;rw[KH,wu];rfl
 have h12:M2[M.length]?=Ya (.lst (Ls.map λl=>D.str (cH l))):=bO h1 _;by_cases h0:tk=[]
 .rw [if_pos h0,jB]at hw;obtain⟨p1,p2⟩:=Tw (M1.length+1) L rs hw;have pa:=Tz (S:=M2) (M1.length+1) L rs hw (λj _=>hobj j) hok;have rd:=ZfR (M:=M2) (n:=M1.length) (L:=wz (M1.length+1) L rs) (z:=(Ls.length:Int)+1) (by rw[p1];exact pC) pa (by rw[p2];exact hr) (wu _);have hM:M2=M++([MO.lst (Ls.map λl=>D.str (cH l)),.lst (jM (M1.length+1) L)]++n8 L):=by simp[M2,M1]
  refine Rt.pure (G:=[MO.lst (Ls.map λl=>D.str (cH l)),.lst (jM (M1.length+1) L)]++n8 L) (env:=[Ya (.str T),Yn,Yn,Yn]) ?_ (Vk _);rw[←hM];unfold Ko;refine(Zi (Zo s1)).trans ((Zi (Zo s2)).trans ((Zi (Zo (d:=.tup []) (M':=M2) (lH rfl rfl))).trans ?_));have cond:bC (e2 cu (aA aZ (Zb (Za 2) (Zf))) (eC (.int 0))) (e2 aV (e2 Zn (e2 Zn (e2 Zn (Za 2) (eC (.int 0))) (eC (.int 1))) (eC (.int 0))) (eC (.str [116,97,107,101]))) [Ya (.str T),Ya (.ref M.length),Ya (.ref M1.length),Ya (.tup [])] M2= .ok (.bl false) M2:=by
   cases hL:L with
   |nil=>exact lJ (Zh (b7 rfl (jX pC)) rfl (by rw[hL];rfl))|cons q L'=>
    rw[hL]at hw;cases rs with
    |nil=>cases hw|cons r rs=>
     have hq:q.2=r.words:=(iT hw).1;rw[iC (M1:=M2) (Zh (b7 rfl (jX pC)) rfl (by rw[hL,jb,decide_eq_true (by show(0:Int)<((jM _ L').length+1:Nat);omega)]))];have o0:M2[M1.length+1]?=Ya (.lst (r.words.map D.str)):=by rw[←hq];exact(hobj 0).trans (by rw[hL];rfl)
     have hnt:¬r.h=ig:=λe=>by have:=(hok r Yd).sm;rw[e]at this;cases this
     refine Zh (Zh (Zh (Zh rfl rfl (iB pC (d:=.tup [.int q.1,.ref (M1.length+1)]) (by rw[hL];exact eZ _ 0))) rfl (xU (eZ _ 1))) rfl (iB o0 (d:=.str r.h) (eZ _ 0))) rfl (iI.trans (by rw[decide_eq_false hnt]))
  refine(Zi (cR cond)).trans ?_;rw[h0];exact dh (lH (Zx rfl (Zx (tR rfl (hlen rfl h12) rd) rfl)) rfl)
 .rw[if_neg h0]at hw;cases hL:L with
  |nil=>rw[hL]at hw;cases hw|cons q L'=>
   rw[hL]at hw;have hq:q.2=ig::tk:=(iT hw).1;have hw':L'.map (·.2)=rs.map Rw.words:=(iT hw).2;have o0:M2[M1.length+1]?=Ya (.lst ((ig::tk).map D.str)):=by rw[←hq];exact(hobj 0).trans (by rw[hL];rfl)
   have tkE:=Zp5 (z:=q.1) o0 h0 h6 nd nm
   let M3:=M2++[MO.lst (jM (M1.length+1+1) L')]
   obtain⟨p1,p2⟩:=Tw (M1.length+1+1) L' rs hw';have pa:=Tz (S:=M3) (M1.length+1+1) L' rs hw' (λj hj=>by have hj':(n8 L')[j]?=Ya ((n8 L')[j]'(by simpa using hj)):=Y7 _;rw[hj'];refine bO ?_ _;rw[←hj',pN (M1.length+1),kE 1 j,hobj (j+1),hL];rfl) hok;have rd:=ZfR (M:=M3) (n:=M2.length) (L:=wz (M1.length+1+1) L' rs) (z:=(Ls.length:Int)+1) (by rw[p1];exact Zq _ _ _) pa (by rw[p2];exact hr) (wu _);have hM:M3=M++([MO.lst (Ls.map λl=>D.str (cH l)),.lst (jM (M1.length+1) L)]++n8 L++[MO.lst (jM (M1.length+1+1) L')]):=by simp[M3,M2,M1]
   refine Rt.pure (G:=[MO.lst (Ls.map λl=>D.str (cH l)),.lst (jM (M1.length+1) L)]++n8 L++[MO.lst (jM (M1.length+1+1) L')]) (env:=[Ya (.str T),Yn,Yn,Yn]) ?_ (Vk _);rw[←hM];unfold Ko;refine(Zi (Zo s1)).trans ((Zi (Zo s2)).trans ((Zi (Zo (d:=.tup []) (M':=M2) (lH rfl rfl))).trans ?_));have Ms:M2[M1.length]?=Ya (.lst (jM (M1.length+1) (q::L'))):=by rw[←hL];exact pC
   have i0:∀{a:Option D},e2 Zn (Za 2) (eC (.int 0)) [Ya (.str T),Ya (.ref M.length),Ya (.ref M1.length),a] M2= .ok (.tup [.int q.1,.ref (M1.length+1)]) M2:=Zh rfl rfl (iB Ms (eZ _ 0));have cond:bC (e2 cu (aA aZ (Zb (Za 2) (Zf))) (eC (.int 0))) (e2 aV (e2 Zn (e2 Zn (e2 Zn (Za 2) (eC (.int 0))) (eC (.int 1))) (eC (.int 0))) (eC (.str [116,97,107,101]))) [Ya (.str T),Ya (.ref M.length),Ya (.ref M1.length),Ya (.tup [])] M2= .ok (.bl true) M2:=by rw[iC (M1:=M2) (Zh (b7 rfl (jX Ms)) rfl (by rw[jb,decide_eq_true (by show(0:Int)<((jM _ L').length+1:Nat);omega)]))];exact Zh (Zh (Zh i0 rfl (xU (eZ _ 1))) rfl (iB o0 (d:=.str ig) (eZ _ 0))) rfl (iI.trans (by rw[decide_eq_true rfl]))
   have sl:eN (Za 2) (dN (eC (.int 1))) (fW) [Ya (.str T),Ya (.ref M.length),Ya (.ref M1.length),Ya (.tup (tk.map D.str))] M2= .ok (.ref M2.length) M3:=by refine(Gf (a:=Ya ((1:Nat):Int)) (b:=Yn) rfl rfl rfl Ms).trans ?_;rw[Cd];rfl
   refine(Zi ((eY cond).trans ((Zi (Zo (d9 i0 tkE))).trans (Zo sl)))).trans ?_;exact dh (lH (Zx rfl (Zx (tR rfl (hlen rfl (bO h12 _)) rd) rfl)) rfl)
theorem ZrM(cs:List Int)(c d:Nat)(at_:Nat)(M:Store)(hd:M[d]?=Ya (.lst [.ref c,.int (at_:Int)]))(hc:M[c]?=Ya (.lst (cs.map D.int)))(ha:at_ <1000000)(hne:c≠d):
  ∃v:Int,h_ [.ref d] M= .ok (.int v) (M.set d (.lst [.ref c,.int ((at_ +1:Nat):Int)])):=by
 have hdl:=(Yf.mp hd).1;have hc2:(M.set d (.lst [.ref c,.int ((at_:Int)+1)]))[c]?=Ya (.lst (cs.map D.int)):=by rw[Yr (cO hne)];exact hc
 have fin:∀v:Int,Be [Ya (.ref d),Yn,Yn] M= .rt (.int v) (M.set d (.lst [.ref c,.int ((at_:Int)+1)]))->∃v:Int,h_ [.ref d] M= .ok (.int v) (M.set d (.lst [.ref c,.int ((at_ +1:Nat):Int)])):=λv h=>by refine⟨v,(jy h).trans ?_⟩;unfold dW;rw[qI (by simp)];split <;>first|exact rfl|simp
 have m1:lg (at_:Int) (at_:Int)=true:=ZwC (by omega);have m2:lg ((at_:Int)*at_) 3=true:=mul_r (by omega);by_cases h1:at_ <cs.length
 .exact fin cs[at_] (by simp[Be,Zr,aq,aX,aJ,aW,aO,qY,hd,hc2,h1])
 .by_cases h2:cs.length=0
  .have n0:¬((at_:Int)<0):=(λz=>iN [_] [] 1 7211153 T1 z);exact fin ((at_:Int)*at_ *3+at_) (by simp[Be,Zr,aq,aX,aJ,aW,aO,qY,hd,hc2,h2,m1,m2,n0])
  .obtain⟨a,ha',la⟩:=mO (at_:Int) cs.length ((Nat.lt_of_le_of_ne (fG _) (cO h2)));have p0:0<cs.length:=lB 1 31526929 T1 la;exact fin (cs[a] / 2+(at_:Int)*at_) (by simp[Be,Zr,aq,aX,aJ,aW,aO,qY,hd,hc2,h1,h2,m1,p0,ha',la])
structure dm(cs:List Int)(c d:Nat)(at_:Nat)(M:Store):Prop where
 hd:M[d]?=Ya (.lst [.ref c,.int (at_:Int)])
 hc:M[c]?=Ya (.lst (cs.map D.int))
 ne:c≠d
variable{at_ d:Nat}{cs:List Int}
theorem dm.next(K:dm cs c d at_ M)(ha:at_ <1000000):∃(v:Int) (M':Store),h_ [.ref d] M= .ok (.int v) M'/\dm cs c d (at_ +1) M'/\M'.length=M.length/\∀j,j≠d->M'[j]?=M[j]?:=by obtain⟨v,h⟩:=ZrM cs c d at_ M K.hd K.hc ha K.ne;have hdl:=(Yf.mp K.hd).1;exact⟨v,_,h,⟨Y0 hdl,by rw[Yr (cO K.ne)];exact K.hc,K.ne⟩,by simp,λj hj=>Yr (cO hj)⟩
structure Kp(d:Nat)(M M':Store):Prop where
 len:M.length<=M'.length
 old:∀j,j<M.length->j≠d->M'[j]?=M[j]?
theorem Kp.trans{M M1 M2:Store}(a:Kp d M M1)(b:Kp d M1 M2):Kp d M M2:=⟨Yk a.len b.len,λj h1 h2=>(b.old j (Y9 h1 a.len) h2).trans (a.old j h1 h2)⟩
theorem Kp.app(d:Nat)(M G:Store):Kp d M (M++G):=⟨by simp,λj h _=>Yi h⟩
theorem Kp.get(k:Kp d M M'){o:MO}(h:M[j]?=Ya o)(hj:j≠d):M'[j]?=Ya o:=(k.old j (Yf.mp h).1 hj).trans h
theorem Kp.put(k:Kp d M M')(hj:M.length<=j)(o:MO):Kp d M (M'.set j o):=⟨by rw[rW];exact k.len,λi h1 h2=>by rw[Yr (by omega)];exact k.old i h1 h2⟩
theorem dm.app(K:dm cs c d at_ M)(G:Store):dm cs c d at_(M++G):=⟨bO K.hd G,bO K.hc G,K.ne⟩
theorem dm.put(K:dm cs c d at_ M)(h1:j≠d)(h2:j≠c)(o:MO):dm cs c d at_(M.set j o):=⟨by rw[Yr h1];exact K.hd,by rw[Yr h2];exact K.hc,K.ne⟩
theorem dm.lt(K:dm cs c d at_ M):c<M.length/\d<M.length:=⟨(Yf.mp K.hc).1,(Yf.mp K.hd).1⟩
theorem dm.draw(K:dm cs c d at_ M)(ha:at_ <1000000):∃(v:Int) (M':Store),h_ [.ref d] M= .ok (.int v) M'/\dm cs c d (at_ +1) M'/\Kp d M M'/\M'.length=M.length:=by obtain⟨v,M',h,K',l,o⟩:=K.next ha;exact⟨v,M',h,K',⟨by omega,λj _ hj=>o j hj⟩,l⟩
noncomputable abbrev KY:S3:=(Zr (aq 6 (aG a_ oX (Za 5) (Zf))) (Zr (aq 7 (aM h_ (Zb (Za 0) (Zf)))) (Zr (aq 8 (e2 gZ (e2 gZ (e2 gZ (Za 3) (aA aZ (Zb (Za 4) (Zf)))) (aA aZ (Zb (Za 5) (Zf)))) (eC (.int 1)))) (Zr (aq 9 (e2 Zy (Za 7) (eC (.int 9)))) (aJ (bC (e2 dD (Za 9) (eC (.int 3))) (bC (e2 cu (Za 6) (eC (.int 1))) (e2 cu (Za 8) (eC (.int 1))))) (Zr (aO (aG a_ Zz (Za 4) (Zb (e2 Zn (bf (Zb (eC (.str [97,100,100])) (Zb (eC (.str [115,117,98])) (Zb (eC (.str [109,111,114,101])) (Zf))))) (Za 9)) (Zf)))) (aO (aG a_ o4 (Za 5) (Zb (bf (Zb (e2 gZ (Za 6) (eC (.int 1))) (Zb (Za 6) (Zf)))) (Zf))))) (aJ (bC (e2 aV (Za 9) (eC (.int 3))) (e2 cu (Za 8) (eC (.int 0)))) (Zr (aO (aG a_ Zz (Za 4) (Zb (eC (.str [99,101,108,108])) (Zf)))) (aO (aG a_ Zz (Za 5) (Zb (Za 6) (Zf))))) (aJ (e2 dD (Za 9) (eC (.int 7))) (aO (aG a_ Zz (Za 4) (Zb (e2 Zn (Za 1) (e2 Zy (e2 bG (Za 7) (eC (.int 9))) (eC (.int 12)))) (Zf)))) (aO (aG a_ Zz (Za 4) (Zb (aM vY (Zb (e2 bG (Za 7) (eC (.int 9))) (Zf))) (Zf)))))))))))
theorem Zpk(c:Int):∃v:Int,v.natAbs<10^60/\∀M,vY [.int c] M= .ok (.int v) M:=by
 obtain⟨a,ea,ha⟩:=mO c 4 (by decide);have ea:c % 4=(a:Int):=ea
 let N:Int:=c / 4 % (10^59)
 let T:Int:=c / 4 % 12
 have hN0:0<=N:=pO _ (by decide);have hN1:N<10^59:=sU _ (by decide);have hT0:0<=T:=pO _ (by decide);have hT1:T<12:=sU _ (by decide);have jj:∀v:Int,([D.int T,.int (-1-T),.int N,.int (-1-N)]:List D)[a]?=Ya (.int v)->∀M,vY [.int c] M= .ok (.int v) M:=λv hv M=>by
  refine Rt.pure (G:=[.lst [.int T,.int (-1-T),.int N,.int (-1-N)]]) (env:=[Ya (.int c),Yn]) ?_ rfl;unfold Sg;have hp:e2 Jw (eC (.int 10)) (eC (.int 59)) [Ya (.int c),Yn] M= .ok (.int (10^59)) M:=Zh rfl rfl (by rw[ZlB,if_pos ⟨by decide,by decide,by decide⟩];rfl);refine(Zi (Zo (d:=.int N) (Zh (Zh rfl rfl (iG (by decide))) hp (dX (by decide))))).trans ?_;have l:bf (Zb (e2 Zy (e2 bG (Za 0) (eC (.int 4))) (eC (.int 12))) (Zb (e2 gZ (e1 cj (eC (.int 1))) (e2 Zy (e2 bG (Za 0) (eC (.int 4))) (eC (.int 12)))) (Zb (Za 1) (Zb (e2 gZ (e1 cj (eC (.int 1))) (Za 1)) (Zf))))) [Ya (.int c),Ya (.int N)] M= .ok (.ref M.length) (M++[.lst [.int T,.int (-1-T),.int N,.int (-1-N)]]):=by have t:e2 Zy (e2 bG (Za 0) (eC (.int 4))) (eC (.int 12)) [Ya (.int c),Ya (.int N)] M= .ok (.int T) M:=Zh (Zh rfl rfl (iG (by decide))) rfl (dX (by decide));exact cX (Zx t (Zx (Zh (fL rfl (xM 1)) t rfl) (Zx rfl (Zx (Zh (fL rfl (xM 1)) rfl rfl) rfl)))) rfl
  refine dh (Zh l (Zh rfl rfl (dX (by decide))) (iB (Zq _ _ _) ?_));rw[ea,eZ];exact hv
 match a,ha,jj with
 |0,_,jj=>exact⟨T,by omega,jj _ rfl⟩|1,_,jj=>exact⟨-1-T,by omega,jj _ rfl⟩|2,_,jj=>exact⟨N,by omega,jj _ rfl⟩|3,_,jj=>exact⟨-1-N,by omega,jj _ rfl⟩
inductive Fits:List Sm->List Nat->Prop
 |nil:Fits [] []
 |cons {t:Sm} {e:Nat} {ts:List Sm} {es:List Nat} (h:t.fit) (d:t.dp<=e) (r:Fits ts es):Fits (t::ts) (e::es)
def KZ(deep:Nat)(W:List D)(es:List Nat):Prop:=∀ts:List Sm,Fits ts es->∃t:Sm,t.fit/\t.dp<=deep/\t.flat=W++(ts.map Sm.flat).flatten
inductive yI(e:Nat)(es:List Nat):D->List Nat->Prop
 |num (i:Int) (h:i.natAbs<10^60):yI e es (.int i) es
 |dZ (x:List Nat) (h:gB x):yI e es (.str x) es
 |jd:yI e es (.str mQ) (e::es)
 |two (o:Nat) (h:1<e):yI e es (.str (v_ o)) (e::(e-1)::es)
theorem ZsK(deep:Nat):KZ deep [] [deep]:=λts h=>by
 cases h with
 |cons h d r=>cases r;exact⟨_,h,d,by simp⟩
variable{e:Nat}
theorem Zmv{deep:Nat}{W:List D}{es es':List Nat}(h:KZ deep W (e::es))(he:1<=e)(t:yI e es w es'):KZ deep (W++[w]) es':=by
 cases t with
 |num i hi=>intro ts f;obtain⟨t,h1,h2,h3⟩:=h (.num i::ts) (.cons hi he f);exact⟨t,h1,h2,by rw[h3];simp[Sm.flat]⟩|dZ x hx=>intro ts f;obtain⟨t,h1,h2,h3⟩:=h (.dZ x::ts) (.cons hx he f);exact⟨t,h1,h2,by rw[h3];simp[Sm.flat]⟩|jd=>
  intro ts f;cases f with
  | @cons a _ ts _ ha hd r=>obtain⟨t,h1,h2,h3⟩:=h (.jd a::ts) (.cons ha hd r);exact⟨t,h1,h2,by rw[h3];simp[Sm.flat]⟩
 | two o ho=>
  intro ts f;cases f with
  | @cons a _ ts _ ha hd r=>
   cases r with
   | @cons b _ ts _ hb hbd r=>obtain⟨t,h1,h2,h3⟩:=h (.two o a b::ts) (.cons ⟨ha,hb⟩ (Nat.max_le.mpr ⟨hd,by omega⟩) r);exact⟨t,h1,h2,by rw[h3];simp[Sm.flat]⟩
theorem ZpA{x y:List D}(h1:M[n]?=Ya (.lst x))(h2:M[m]?=Ya (.lst y))(hne:n≠m)(hz:x.length+y.length<=900000):o4 (.ref n) [.ref m] M= .ok .non (M.set n (.lst (x++y))):=by simp only[o4,h1,h2];exact if_pos ⟨hne,Yk hz (by decide)⟩
structure LS(cs:List Int)(c d:Nat)(M S:Store)(p q:Nat)(W:List D)(es:List Nat)(at_:Nat):Prop where
 hp:S[p]?=Ya (.lst W)
 hq:S[q]?=Ya (.lst (es.reverse.map λ(e:Nat)=>D.int (e:Int)))
 dk:dm cs c d at_ S
 kp:Kp d M S
 lp:M.length<=p
 lq:M.length<=q
 ne:p≠q
 ld:c<M.length/\d<M.length
variable{names:List (List Nat)}{nr:Nat}
section
variable {cs:List Int} {c d:Nat} {M S:Store} {p q:Nat} {W:List D} {es:List Nat} {at_:Nat}
theorem LS.app(L:LS cs c d M S p q W es at_)(G:Store):LS cs c d M (S++G) p q W es at_:=⟨bO L.hp G,bO L.hq G,L.dk.app G,L.kp.trans (Kp.app d S G),L.lp,L.lq,L.ne,L.ld⟩
theorem LS.GP(L:LS cs c d M S p q W es at_)(W':List D):LS cs c d M (S.set p (.lst W')) p q W' es at_:=⟨Y0 (Yf.mp L.hp).1,by rw[Yr L.ne];exact L.hq,L.dk.put (by have:=L.lp;have:=L.ld;omega) (by have:=L.lp;have:=L.ld;omega) _,L.kp.put L.lp _,L.lp,L.lq,L.ne,L.ld⟩
theorem LS.Mt(L:LS cs c d M S p q W es at_)(es':List Nat):LS cs c d M (S.set q (.lst (es'.reverse.map λ(e:Nat)=>D.int (e:Int)))) p q W es' at_:=⟨by rw[Yr (cO L.ne)];exact L.hp,Y0 (Yf.mp L.hq).1,L.dk.put (by have:=L.lq;have:=L.ld;omega) (by have:=L.lq;have:=L.ld;omega) _,L.kp.put L.lq _,L.lp,L.lq,L.ne,L.ld⟩
theorem LS.draw(L:LS cs c d M S p q W es at_)(ha:at_ <1000000):∃v S',h_ [.ref d] S= .ok (.int v) S'/\LS cs c d M S' p q W es (at_ +1):=by obtain⟨v,S',h,K,kp,l⟩:=L.dk.draw ha;have hd:=L.ld;exact⟨v,S',h,kp.get L.hp (by have:=L.lp;omega),kp.get L.hq (by have:=L.lq;omega),K,L.kp.trans kp,L.lp,L.lq,L.ne,L.ld⟩
theorem Zsl{most:Nat}(L:LS cs c d M S p q W (e::es) at_)(ha:at_ <1000000)(hnr:M[nr]?=Ya (.lst (names.map D.str)))(nd:nr≠d)(hn:names.length=12)(hnm:∀x∈names,gB x)(hm:most<=60)(hl:W.length+es.length+1<=most){deep:Option D}(x6 x7 x8 x9:Option D):
  ∃w es' S' y6 y7 y8 y9,KY [Ya (.ref d),Ya (.ref nr),deep,Ya (.int (most:Int)),Ya (.ref p),Ya (.ref q),x6,x7,x8,x9] S= .nx [Ya (.ref d),Ya (.ref nr),deep,Ya (.int (most:Int)),Ya (.ref p),Ya (.ref q),y6,y7,y8,y9] S'/\LS cs c d M S' p q (W++[w]) es' (at_ +1)/\yI e es w es'/\W.length+1+es'.length<=most:=by
 have K7:W.length<SZ:=sH (show W.length<=60 by omega) (by decide);have hq0:S[q]?=Ya (.lst (es.reverse.map (λ(e:Nat)=>D.int (e:Int))++[D.int (e:Int)])):=by rw[L.hq,uJ,jR];rfl
 have L1:LS cs c d M (S.set q (.lst (es.reverse.map λ(e:Nat)=>D.int (e:Int)))) p q W es at_:=L.Mt es;obtain⟨v,S2,hv,L2⟩:=L1.draw ha;obtain⟨way,ew,hw⟩:=mO v 9 (by decide);have ew:v % 9=(way:Int):=ew
 let room:Int:=(most:Int)-(W.length:Int)-(es.length:Int)-1
 have s8:∀{a b:Option D},e2 gZ (e2 gZ (e2 gZ (Za 3) (aA aZ (Zb (Za 4) (Zf)))) (aA aZ (Zb (Za 5) (Zf)))) (eC (.int 1)) [Ya (.ref d),Ya (.ref nr),deep,Ya (.int (most:Int)),Ya (.ref p),Ya (.ref q),Ya (.int (e:Int)),Ya (.int v),a,b] S2= .ok (.int room) S2:=by intro a b;refine Zh (Zh (Zh rfl (b7 rfl (jX L2.hp)) rfl) (b7 rfl (jX L2.hq)) rfl) rfl ?_;rw[Yv,CQ,QG]
 let E:bK:=[Ya (.ref d),Ya (.ref nr),deep,Ya (.int (most:Int)),Ya (.ref p),Ya (.ref q),Ya (.int (e:Int)),Ya (.int v),Ya (.int room),Ya (.int (way:Int))]
 have start:∀{o:O3},(aJ (bC (e2 dD (Za 9) (eC (.int 3))) (bC (e2 cu (Za 6) (eC (.int 1))) (e2 cu (Za 8) (eC (.int 1))))) (Zr (aO (aG a_ Zz (Za 4) (Zb (e2 Zn (bf (Zb (eC (.str [97,100,100])) (Zb (eC (.str [115,117,98])) (Zb (eC (.str [109,111,114,101])) (Zf))))) (Za 9)) (Zf)))) (aO (aG a_ o4 (Za 5) (Zb (bf (Zb (e2 gZ (Za 6) (eC (.int 1))) (Zb (Za 6) (Zf)))) (Zf))))) (aJ (bC (e2 aV (Za 9) (eC (.int 3))) (e2 cu (Za 8) (eC (.int 0)))) (Zr (aO (aG a_ Zz (Za 4) (Zb (eC (.str [99,101,108,108])) (Zf)))) (aO (aG a_ Zz (Za 5) (Zb (Za 6) (Zf))))) (aJ (e2 dD (Za 9) (eC (.int 7))) (aO (aG a_ Zz (Za 4) (Zb (e2 Zn (Za 1) (e2 Zy (e2 bG (Za 7) (eC (.int 9))) (eC (.int 12)))) (Zf)))) (aO (aG a_ Zz (Za 4) (Zb (aM vY (Zb (e2 bG (Za 7) (eC (.int 9))) (Zf))) (Zf))))))) E S2=o->KY [Ya (.ref d),Ya (.ref nr),deep,Ya (.int (most:Int)),Ya (.ref p),Ya (.ref q),x6,x7,x8,x9] S=o:=λh=>by refine(Zi (Zo (KN rfl hq0))).trans ((Zi (Zo (d9 rfl hv))).trans ((Zi (Zo s8)).trans ((Zi (Zo (d:=.int (way:Int)) (Zh rfl rfl ((dX (by decide)).trans (by rw[ew]))))).trans h)))
 by_cases h1:way<3/\1<e/\(1:Int)<room
 .have hc:bC (e2 dD (Za 9) (eC (.int 3))) (bC (e2 cu (Za 6) (eC (.int 1))) (e2 cu (Za 8) (eC (.int 1)))) E S2= .ok (.bl true) S2:=by
   rw[iC (M1:=S2) (Zh rfl rfl (by rw[lu,decide_eq_true (by omega)])),iC (M1:=S2) (Zh rfl rfl (by rw[jb,decide_eq_true (by omega)]))];exact Zh rfl rfl (by rw[jb,decide_eq_true h1.2.2])
  let S3:=S2++[MO.lst [.str [97,100,100],.str [115,117,98],.str [109,111,114,101]]]
  have L3:LS cs c d M S3 p q W es (at_ +1):=L2.app _;have hi:[D.str [97,100,100],.str [115,117,98],.str [109,111,114,101]][way]?=Ya (.str (v_ way)):=by
   match way,h1.1 with
   |0,_=>rfl|1,_=>rfl|2,_=>rfl
  have a1:=mR (env:=E) (M:=S2) (M':=S2) (o:=Za 4) (t:=e2 Zn (bf (Zb (eC (.str [97,100,100])) (Zb (eC (.str [115,117,98])) (Zb (eC (.str [109,111,114,101])) (Zf))))) (Za 9)) (M2:=S3) rfl L2.hp (Zh (cX (ds:=[.str [97,100,100],.str [115,117,98],.str [109,111,114,101]]) rfl rfl) rfl (iB (Zq _ _ _) (by rw[eZ];exact hi))) L3.hp K7;have L4:=L3.GP (W++[.str (v_ way)])
  let S4:=S3.set p (.lst (W++[.str (v_ way)]))
  have L5:=L4.app [MO.lst [.int ((e-1:Nat):Int),.int (e:Int)]]
  let S5:=S4++[MO.lst [.int ((e-1:Nat):Int),.int (e:Int)]]
  have hql:q<S4.length:=(Yf.mp L4.hq).1;have L6:=L5.Mt (e::(e-1)::es);have a2:aO (aG a_ o4 (Za 5) (Zb (bf (Zb (e2 gZ (Za 6) (eC (.int 1))) (Zb (Za 6) (Zf)))) (Zf))) E S4= .nx E (S5.set q (.lst ((e::(e-1)::es).reverse.map λ(e:Nat)=>D.int (e:Int)))):=by refine p7 (d:=.non) (Gh rfl (by rw[Ac,L4.hq]) (Zx (cX (ds:=[.int ((e-1:Nat):Int),.int (e:Int)]) (Zx (Zh rfl rfl (by rw[QG];congr 2;omega)) rfl) rfl) rfl) ((ZpA L5.hq (Zq _ _ _) (dw hql) (by simp;omega)).trans ?_));simp;rfl
  exact⟨_,_,_,_,_,_,_,start ((eY hc).trans ((Zi a1).trans a2)),L6,.two way h1.2.1,by simp;omega⟩
 have hc1:bC (e2 dD (Za 9) (eC (.int 3))) (bC (e2 cu (Za 6) (eC (.int 1))) (e2 cu (Za 8) (eC (.int 1)))) E S2= .ok (.bl false) S2:=by
  by_cases q1:way<3
  .rw[iC (M1:=S2) (Zh rfl rfl (by rw[lu,decide_eq_true (by omega)]))];by_cases q2:1<e
   .rw[iC (M1:=S2) (Zh rfl rfl (by rw[jb,decide_eq_true (by omega)]))];exact Zh rfl rfl (by rw[jb,decide_eq_false λz=>h1 ⟨q1,q2,z⟩])
   .exact lJ (Zh rfl rfl (by rw[jb,decide_eq_false (by omega)]))
  .exact lJ (Zh rfl rfl (by rw[lu,decide_eq_false (by omega)]))
 by_cases h2:way=3/\(0:Int)<room
 .have hc:bC (e2 aV (Za 9) (eC (.int 3))) (e2 cu (Za 8) (eC (.int 0))) E S2= .ok (.bl true) S2:=by
   rw[iC (M1:=S2) (Zh rfl rfl (rm (by omega)))];exact Zh rfl rfl (by rw[jb,decide_eq_true h2.2])
  have a1:=mR (env:=E) (M:=S2) (M':=S2) (o:=Za 4) (t:=eC (.str mQ)) (M2:=S2) rfl L2.hp rfl L2.hp K7;have L4:=L2.GP (W++[.str mQ]);have hz:(es.reverse.map λ(e:Nat)=>D.int (e:Int)).length<SZ:=by rw[Yv,CQ];exact sH (show es.length<=60 by omega) (by decide)
  have a2:=mR (env:=E) (M:=S2.set p (.lst (W++[.str mQ]))) (M':=S2.set p (.lst (W++[.str mQ]))) (o:=Za 5) (t:=Za 6) (M2:=S2.set p (.lst (W++[.str mQ]))) rfl L4.hq rfl L4.hq hz;have L6:=L4.Mt (e::es);have e6:(es.reverse.map λ(e:Nat)=>D.int (e:Int))++[D.int (e:Int)]=(e::es).reverse.map λ(e:Nat)=>D.int (e:Int):=by simp
  rw[e6]at a2;exact⟨_,_,_,_,_,_,_,start ((nG hc1).trans ((eY hc).trans ((Zi a1).trans a2))),L6,.jd,by simp;omega⟩
 have hc2:bC (e2 aV (Za 9) (eC (.int 3))) (e2 cu (Za 8) (eC (.int 0))) E S2= .ok (.bl false) S2:=by
  by_cases q1:way=3
  .rw[iC (M1:=S2) (Zh rfl rfl (rm (by omega)))];exact Zh rfl rfl (by rw[jb,decide_eq_false λz=>h2 ⟨q1,z⟩])
  .exact lJ (Zh rfl rfl (vD (by omega)))
 by_cases h3:way<7
 .obtain⟨a,ea,ha'⟩:=mO (v / 9) 12 (by decide);have ea:v / 9 % 12=(a:Int):=ea;have hga:names[a]?=Ya (names[a]'(by omega)):=Y7 _;have hnS:S2[nr]?=Ya (.lst (names.map D.str)):=L2.kp.get hnr nd;have a1:=mR (env:=E) (M:=S2) (M':=S2) (o:=Za 4) (t:=e2 Zn (Za 1) (e2 Zy (e2 bG (Za 7) (eC (.int 9))) (eC (.int 12)))) (M2:=S2) rfl L2.hp (Zh rfl (Zh (Zh rfl rfl (iG (by decide))) rfl (dX (by decide))) (iB hnS (d:=.str (names[a]'(by omega))) (by rw[ea,eZ,jO,hga];rfl))) L2.hp K7;refine⟨_,_,_,_,_,_,_,start ((nG hc1).trans ((nG hc2).trans ((eY (M':=S2) (Zh rfl rfl (by rw[lu,decide_eq_true (by omega)]))).trans a1))),L2.GP _,.dZ _ (hnm _ (uK _)),by omega⟩
 .obtain⟨z,hz,hzv⟩:=Zpk (v / 9);have a1:=mR (env:=E) (M:=S2) (M':=S2) (o:=Za 4) (t:=aM vY (Zb (e2 bG (Za 7) (eC (.int 9))) (Zf))) (M2:=S2) rfl L2.hp (d9 (Zh rfl rfl (iG (by decide))) (hzv S2)) L2.hp K7;exact⟨_,_,_,_,_,_,_,start ((nG hc1).trans ((nG hc2).trans ((nG (M':=S2) (Zh rfl rfl (by rw[lu,decide_eq_false (by omega)]))).trans a1))),L2.GP _,.num z hz,by omega⟩
end
theorem TF{q:Nat}{X:List Int}(hv:Za i env S= .ok (.ref q) S)(hq:S[q]?=Ya (.lst (X.map D.int))):e2 gq (Za i) (bf (Zf)) env S= .ok (.bl (!X.isEmpty)) (S++[.lst []]):=by
 refine Zh hv (cX rfl rfl) ?_;have hp:(X.map D.int).all (dB DEEP)=true:=gQ.mpr λd hd=>by obtain⟨x,_,rfl⟩:=gH.mp hd;rfl
 simp only[gq,zU,bO hq,Zq,hp];cases X with
 |nil=>rfl|cons a X=>rfl
theorem Zpj(es:List Nat):es.reverse.map (λ(e:Nat)=>D.int (e:Int))=(es.reverse.map λ(e:Nat)=>(e:Int)).map D.int:=by rw[qK];rfl
section
variable {cs:List Int} {c d:Nat} {M S:Store} {p q:Nat} {W:List D} {es:List Nat} {at_:Nat}
theorem ZqX{es es':List Nat}(t:yI e es w es')(he:1<=e)(h:∀x∈es,1<=x):∀x∈es',1<=x:=by
 cases t with
 |num _ _=>exact h|dZ _ _=>exact h|jd=>
  intro x hx;rcases Ym.mp hx with z|z
  .omega
  .exact h x z
 | two o ho=>
  intro x hx;rcases Ym.mp hx with z|z
  .omega
  .rcases Ym.mp z with z|z
   .omega
   .exact h x z
theorem Zqg{most deep:Nat}(hnr:M[nr]?=Ya (.lst (names.map D.str)))(nd:nr≠d)(hn:names.length=12)(hnm:∀x∈names,gB x)(hm:most<=60){vd:Option D}:
  ∀(m fuel:Nat) (S:Store) (W:List D) (es:List Nat) (at_:Nat) (x6 x7 x8 x9:Option D),LS cs c d M S p q W es at_ ->W.length+m=most->m<fuel->W.length+es.length<=most->at_ +m<1000000->(∀e∈es,1<=e)->KZ deep W es ->
  ∃(t:Sm) (S':Store) (at':Nat) (y6 y7 y8 y9:Option D),t.fit/\t.dp<=deep/\t.flat.length<=most/\at'<=at_ +m/\q8 (e2 gq (Za 5) (bf (Zf))) KY fuel [Ya (.ref d),Ya (.ref nr),vd,Ya (.int (most:Int)),Ya (.ref p),Ya (.ref q),x6,x7,x8,x9] S= .nx [Ya (.ref d),Ya (.ref nr),vd,Ya (.int (most:Int)),Ya (.ref p),Ya (.ref q),y6,y7,y8,y9] S'/\LS cs c d M S' p q t.flat [] at':=by
 intro m
 induction m with
 |zero=>
  intro fuel S W es at_ x6 x7 x8 x9 L h1 h2 h3 h4 h5 hd;have:es=[]:=Wa.mp (by omega);subst this;obtain⟨t,f1,f2,f3⟩:=hd [] .nil;have f3:t.flat=W:=by simpa using f3
  obtain⟨f,rfl⟩:∃f,fuel=f+1:=⟨fuel-1,by omega⟩;refine⟨t,_,at_,x6,x7,x8,x9,f1,f2,by rw[f3];omega,by omega,?_,by rw[f3];exact L.app [.lst []]⟩;rw[Ad,TF (X:=[]) rfl L.hq];rfl
 | succ m ih=>
  intro fuel S W es at_ x6 x7 x8 x9 L h1 h2 h3 h4 h5 hd;obtain⟨f,rfl⟩:∃f,fuel=f+1:=⟨fuel-1,by omega⟩;cases es with
  |nil=>
   obtain⟨t,f1,f2,f3⟩:=hd [] .nil;have f3:t.flat=W:=by simpa using f3
   refine⟨t,_,at_,x6,x7,x8,x9,f1,f2,by rw[f3];omega,by omega,?_,by rw[f3];exact L.app [.lst []]⟩;rw[Ad,TF (X:=[]) rfl L.hq];rfl
  |cons e es=>
   rw[Yp]at h3;have he:=h5 e Yd;obtain⟨w,es',S1,y6,y7,y8,y9,hb,L1,tt,hl⟩:=Zsl (most:=most) (L.app [.lst []]) (by omega) hnr nd hn hnm hm (by omega) (deep:=vd) x6 x7 x8 x9;obtain⟨t,S',at',z6,z7,z8,z9,f1,f2,f3,f4,f5,f6⟩:=ih f S1 (W++[w]) es' (at_ +1) y6 y7 y8 y9 L1 (by simp;omega) (by omega) (by simp;omega) (by omega) (ZqX tt he λx hx=>h5 x (Yc _ hx)) (Zmv hd he tt);refine⟨t,S',at',z6,z7,z8,z9,f1,f2,f3,by omega,?_,f6⟩;have hq:S[q]?=Ya (.lst (((e::es).reverse.map λ(e:Nat)=>(e:Int)).map D.int)):=by rw[←Zpj];exact L.hq
   have hc:=TF (env:=[Ya (.ref d),Ya (.ref nr),vd,Ya (.int (most:Int)),Ya (.ref p),Ya (.ref q),x6,x7,x8,x9]) (i:=5) rfl hq;have hx:(!((e::es).reverse.map λ(e:Nat)=>(e:Int)).isEmpty)=true:=by simp
   rw[hx]at hc;rw[Ad,hc];show(match KY _ _ with| .nx e M'=>_| .ct e M'=>_| .bk e M'=>_|o=>o)=_;rw[hb];exact f5
structure j_(cs:List Int)(c d:Nat)(M S:Store)(at_ at' n:Nat):Prop where
 dk:dm cs c d at' S
 kp:Kp d M S
 le:at'<=at_ +n
theorem Gi{at':Nat}{x:D}(ld:c<M.length/\d<M.length)(hd:dm cs c d at' M')(kp:Kp d M M')(le:at'<=at_ +n):∃S,dW M x M'= .ok x S/\j_ cs c d M S at_ at' n:=by obtain⟨S,e,l,o⟩:=ZlA (M:=M) (M':=M') (d:=x) kp.len;exact⟨S,e,⟨by rw[o d ld.2];exact hd.hd,by rw[o c ld.1];exact hd.hc,hd.ne⟩,⟨l,λj h1 h2=>(o j h1).trans (kp.old j h1 h2)⟩,le⟩
theorem TJ{most deep:Nat}(dk:dm cs c d at_ M)(hnr:M[nr]?=Ya (.lst (names.map D.str)))(nd:nr≠d)(hn:names.length=12)(hnm:∀x∈names,gB x)(hm:most<=60)(h1:1<=most)(hde:1<=deep)(ha:at_ +60<1000000):
  ∃(t:Sm) (S:Store) (at':Nat),t.fit/\t.dp<=deep/\t.flat.length<=most/\ud [.ref d,.ref nr,.int (deep:Int),.int (most:Int)] M= .ok (.tup t.flat) S/\j_ cs c d M S at_ at' 60:=by
 have ld:=dk.lt
 let M1:=M++[MO.lst []]++[MO.lst [.int (deep:Int)]]
 have L0:LS cs c d M M1 M.length (M.length+1) [] [deep] at_:=⟨bO (Zq _ _ _) _,by have:=Zq (M++[MO.lst []]) (MO.lst [.int (deep:Int)]) [];rw[Ye]at this;exact this,(dk.app _).app _,(Kp.app d M _).trans (Kp.app d _ _),Ys _,u_ _,by omega,ld⟩;obtain⟨t,S',at',y6,y7,y8,y9,f1,f2,f3,f4,f5,f6⟩:=Zqg (deep:=deep) hnr nd hn hnm hm (vd:=Ya (.int (deep:Int))) most 1000000 M1 [] [deep] at_ Yn Yn Yn Yn L0 (by simp) (by omega) (by simp;omega) (by omega) (λe he=>by rw[Yz.mp he];exact hde) (ZsK deep);obtain⟨S,e,D⟩:=Gi (at_:=at_) (x:=.tup t.flat) (n:=60) ld f6.dk f6.kp (by omega);refine⟨t,S,at',f1,f2,f3,(jy (M':=S') (env:=[Ya (.ref d),Ya (.ref nr),Ya (.int (deep:Int)),Ya (.int (most:Int)),Yn,Yn,Yn,Yn,Yn,Yn]) ?_).trans e,D⟩;unfold Sh;refine(Zi (Zo (d:=.ref M.length) (M':=M++[.lst []]) (cX rfl rfl))).trans ?_;refine(Zi (Zo (d:=.ref (M.length+1)) (M':=M1) ((cX (ds:=[.int (deep:Int)]) rfl rfl).trans (by rw[Ye];rfl)))).trans ?_;refine(Zi f5).trans ?_;exact dh (b7 rfl (oY f6.hp))
end
noncomputable abbrev lwB:S3:=(aJ (e1 (nD .str) (Za 2)) (aO (aG a_ Zz (Za 1) (Zb (Za 2) (Zf)))) (aO (aG a_ o4 (Za 1) (Zb (fK (cV (Za 2)) 1 (cg 3) [] (aA xV (Zb (Za 3) (Zf)))) (Zf)))))
inductive Part:D->Prop
 |dZ (x:List Nat):Part (.str x)
 |sum (ws:List D) (h:∀w∈ws,rF w) (l:ws.length<=60):Part (.tup ws)
noncomputable def pG:D->List (List Nat)
 | .str x=>[x]|.tup ws=>ws.map gC|_=>[]
theorem Zwn(h:rF w)(M:Store):xV [w] M= .ok (.str (gC w)) M:=by
 cases h with
 |int i hi=>rw[ZnD,if_pos (ZtG hi)];rfl|dZ x _=>rfl|op x _=>rfl
theorem Zr5{P:D}(h:Part P):(pG P).length<=60:=by
 cases h with
 |dZ x=>exact(show 1<=60 by decide)|sum ws _ l=>simpa[pG]using l
theorem Znj{M:Store}{W0:Option D}{it:fU}(hi:it.lock=Yn):∀(Ps:List D) (acc:List (List Nat)) (G:Store) (x:Option D),(∀P∈Ps,Part P)->acc.length+60*Ps.length<=1000 ->
  ∃G' y,iV it (cg 2) lwB Ps [W0,Ya (.ref M.length),x] (M++ .lst (acc.map D.str)::G)= .nx [W0,Ya (.ref M.length),y] (M++ .lst ((acc++Ps.flatMap pG).map D.str)::G')
 |[],acc,G,x,_,_=>⟨G,x,by rw[vB,if_pos (by unfold locked;rw[hi])];simp⟩|P ::Ps,acc,G,x,hP,hl=>by
  rw[Yp]at hl;have hp:=hP P Yd;have hpl:=Zr5 hp
  let S:=M++ .lst (acc.map D.str)::G
  have hS:S[M.length]?=Ya (.lst (acc.map D.str)):=Zq _ _ _;have step:∃G1,lwB [W0,Ya (.ref M.length),Ya P] S= .nx [W0,Ya (.ref M.length),Ya P] (M++ .lst ((acc++pG P).map D.str)::G1):=by
   cases hp with
   |dZ y=>refine⟨G,(eY (M':=S) (by rfl)).trans ((Td rfl hS (d:=.str y) rfl hS (by rw[Yv];exact sH (show acc.length<=1000 by omega) (by decide))).trans ?_)⟩;simp[S,pG]|sum ws hw l=>
    have lc:=vG (h:=λw=>D.str (gC w)) (enc:=λw=>w) (own:=1) (i:=3) (it:=cV (Za 2)) (elt:=aA xV (Zb (Za 3) (Zf))) (env:=[W0,Ya (.ref M.length),Ya (.tup ws)]) (M:=S) (M1:=S) (lock:=Yn) (as:=ws) (by rw[List.map_id'];rfl) (λn z=>nomatch z)
     (λw hw' M'=>b7 rfl (Zwn (hw w hw') M')) (by omega)
    have hlt:M.length<S.length:=(Yf.mp hS).1;refine⟨G++[.lst (ws.map λw=>D.str (gC w))],(nG (M':=S) (by rfl)).trans ((p7 (d:=.non) (Gh rfl (by rw[Ac,hS]) (Zx lc rfl) (ZpA (bO hS _) (Zq _ _ _) (dw hlt) (by simp;omega)))).trans ?_)⟩;simp[S,pG]
  obtain⟨G1,h1⟩:=step;obtain⟨G',y,h2⟩:=Znj hi Ps (acc++pG P) G1 (Ya P) (λQ hQ=>hP Q (Yc _ hQ)) (by rw[Ye];omega);refine⟨G',y,?_⟩;rw[tO,if_pos (by unfold locked;rw[hi])];simp only[cg,oG,oH];rw[show(M++MO.lst (acc.map D.str)::G)=S from rfl,h1];simp only;rw[h2,Ng,jg]
theorem Rw.parts(H:fc r):∀P∈r.tl,Part P:=λP hP=>by
 rcases fQ.mp hP with h|h
 .obtain⟨x,_,rfl⟩:=gH.mp h;exact .dZ x
 .obtain⟨t,ht,rfl⟩:=gH.mp h;exact .sum _ (Gd t (H.ok.fit t ht)) (Yk (Tp ht) H.ok.len)
theorem Rw.Aa9(r:Rw):r.h::r.tl.flatMap pG=r.words:=by
 unfold Rw.words Rw.tl;rw[List.flatMap_append];have e1:∀xs:List (List Nat),(xs.map D.str).flatMap pG=xs:=by
  intro xs
  induction xs with
  |nil=>rfl|cons x xs ih=>rw[Yu,Ng,ih];rfl
 have e2:∀ts:List Sm,(ts.map λt=>D.tup t.flat).flatMap pG=(bT ts).map gC:=by
  intro ts
  induction ts with
  |nil=>rfl|cons t ts ih=>rw[Yu,Ng,ih,bT,bT,Yu,oJ,jR];rfl
 rw[e1,e2]
theorem Zr3(h:rF w):(gC w).length<=61:=by
 cases h with
 |int i hi=>exact Znk hi|dZ x hx=>exact Yk hx.le (by decide)|op x hx=>exact Yk (Tn hx).2.1 (by decide)
theorem TQ(H:fc r):dO r.h j7≠Yn:=by rw[H.sm];exactλz=>nomatch z
theorem Zn2(k:dO h j7≠Yn):h=ul\/h=Cj\/h=Ge\/h=gO\/h=gh\/h=qt\/h=gP:=by
 by_cases h1:h=ul
 .exact .inl h1
 by_cases h2:h=Cj
 .exact .inr (.inl h2)
 by_cases h3:h=Ge
 .exact .inr (.inr (.inl h3))
 by_cases h4:h=gO
 .exact .inr (.inr (.inr (.inl h4)))
 by_cases h5:h=gh
 .exact .inr (.inr (.inr (.inr (.inl h5))))
 by_cases h6:h=qt
 .exact .inr (.inr (.inr (.inr (.inr (.inl h6)))))
 by_cases h7:h=gP
 .exact .inr (.inr (.inr (.inr (.inr (.inr h7)))))
 .exact absurd (show dO h j7=Yn by simp only[j7,dO,if_neg h1,if_neg h2,if_neg h3,if_neg h4,if_neg h5,if_neg h6,if_neg h7]) k
theorem ZlC(k:dO h j7≠Yn):1<=h.length/\h.length<=5/\∀c∈h,97<=c:=by rcases Zn2 k with rfl|rfl|rfl|rfl|rfl|rfl|rfl <;>decide
theorem Zju(H:fc r):∀w∈r.words,w.length<=61/\32∉w/\10∉w:=λw hw=>by
 have low:∀{c:Nat} {l:List Nat},(∀x∈l,45<=x)->c<45->c∉l:=λh hc z=>by have:=h _ z;omega
 rcases Ym.mp hw with e|e
 .have q:=ZlC (TQ H);rw[e];exact⟨by omega,low (λx hx=>Yk (by decide) (q.2.2 x hx)) (by decide),low (λx hx=>Yk (by decide) (q.2.2 x hx)) (by decide)⟩
 .rcases fQ.mp e with e|e
  .have q:=H.nm w e;exact⟨Yk q.le (by decide),low (λx hx=>Yk (by decide) (q.low x hx).1) (by decide),low (λx hx=>Yk (by decide) (q.low x hx).1) (by decide)⟩
  .obtain⟨v,hv,rfl⟩:=gH.mp e;have hf:=ZjZ H.ok.fit v hv;have key:∀x∈gC v,45<=x:=by
    cases hf with
    |int i hi=>exact(Tc i hi).2.2|dZ x hx=>exactλc hc=>Yk (by decide) (hx.low c hc).1|op x hx=>exactλc hc=>Yk (by decide) ((Tn hx).2.2 c hc)
   exact⟨Zr3 hf,low key (by decide),low key (by decide)⟩
theorem Zj1(H:fc r):r.words.length<=60:=by have:=H.le;simp only[Rw.words,Yp,Ye,Yv];omega
theorem Zlw(H:fc r):Gg r.words:=by
 have hw:=Zju H;have hl:=(Te 32 61 r.words λw h=>(hw w h).1).2;have hc:=Zj1 H;refine⟨(λz=>nomatch z),λw h=>(hw w h).2,λz=>?_,by omega⟩;have q:=(ZlC (TQ H)).1;have:r.h≠[]:=λe=>by rw[e]at q;exact absurd q (by decide)
 unfold Rw.words at z;cases e:r.xs++(bT r.ts).map gC with
 |nil=>rw[e]at z;exact this z|cons y ys=>rw[e,ug]at z;exact this (M8.mp z).1
theorem Zlt(H:fc r)(M:Store):FN [.tup r.deed] M= .ok (.str (glue [32] r.words)) M:=by
 have hfew:=KC r.ts;have hle:=H.le;obtain⟨G,y,h⟩:=Znj (M:=M) (W0:=Ya (.tup r.deed)) (it:=⟨r.tl,Yn⟩) rfl r.tl [r.h] [] Yn (Rw.parts H) (by
  have:r.tl.length<=3:=by
   have hx:=H.nx;have hs:=Zn2 (TQ H);have hsm:=H.sm;have h2:r.ts.length<=2:=by rcases hs with e|e|e|e|e|e|e<;>(rw[e]at hsm;have:=Y6 hsm;omega)
   have h1:r.xs.length<=1:=by rw[hx];split <;>omega
   simp only[Rw.tl,Ye,Yv];omega
  simp;omega)
 refine Rt.pure (G:=.lst (([r.h]++r.tl.flatMap pG).map D.str)::G) (env:=[Ya (.tup r.deed),Yn,Yn]) ?_ rfl;unfold Ss;refine(Zi (Zo (d:=.ref M.length) (M':=M++[.lst [.str r.h]]) (cX (Zx (Zh rfl rfl (xU (eZ _ 0))) rfl) rfl))).trans ?_;have hit:cV (eN (Za 0) (dN (eC (.int 1))) (fW)) [Ya (.tup r.deed),Ya (.ref M.length),Yn] (M++[.lst [.str r.h]])= .ok ⟨r.tl,Yn⟩ (M++[.lst [.str r.h]]):=by show R3.ok (⟨cutD r.deed (Ya ((1:Nat):Int)) Yn,Yn⟩:fU) _=_;rw[Cd];rfl
 refine(Zi ((xT hit).trans h)).trans ?_;have ew:([r.h]++r.tl.flatMap pG)=r.words:=r.Aa9;rw[ew];have hz:=(Te 32 61 r.words λw h=>(Zju H w h).1).1;have hc:=Zj1 H;exact dh (Ce rfl rfl (Zn7 (Zq _ _ _) (Yk (show _<=10000 by omega) (by decide))))
variable{a:Nat}
theorem j_.mono{a':Nat}(h:j_ cs c d M S a a' n)(k:n<=m):j_ cs c d M S a a' m:=⟨h.dk,h.kp,Yk h.le (Nat.add_le_add_left k _)⟩
theorem j_.app{G:Store}{a':Nat}(h:j_ cs c d (M++G) S a a' n):j_ cs c d M S a a' n:=⟨h.dk,(Kp.app d M G).trans h.kp,h.le⟩
theorem j_.trans{T:Store}{a b e n m:Nat}(h:j_ cs c d M S a b n)(k:j_ cs c d S T b e m):j_ cs c d M T a e (n+m):=⟨k.dk,h.kp.trans k.kp,by have:=h.le;have:=k.le;omega⟩
theorem TV{t:Sm}(hs:dO h j7=Ya 1)(hn:h≠ul)(f:t.fit)(dp:t.dp<=6)(l:t.flat.length<=50):fc ⟨h,[],[t]⟩:=by
 have el:(bT [t]).length=t.flat.length:=by simp[bT]
 refine⟨hs,by rw[if_neg hn];rfl,(λx hx=>nomatch hx),⟨λs hs=>by rw[Yz.mp hs];exact f,by show(bT [t]).length<=60;omega,?_⟩,by show 0+(bT [t]).length<=59;omega⟩;show((t.dp+0:Nat):Int)<=6;omega
theorem Zu9{t:Sm}(hx:gB x)(f:t.fit)(dp:t.dp<=6)(l:t.flat.length<=50):fc ⟨ul,[x],[t]⟩:=by
 have el:(bT [t]).length=t.flat.length:=by simp[bT]
 refine⟨rfl,rfl,λy hy=>by rw[Yz.mp hy];exact hx,⟨λs hs=>by rw[Yz.mp hs];exact f,by show(bT [t]).length<=60;omega,?_⟩,by show 1+(bT [t]).length<=59;omega⟩;show((t.dp+0:Nat):Int)<=6;omega
theorem ZtD{t u:Sm}(f:t.fit)(g:u.fit)(dp:t.dp<=6)(du:u.dp<=5)(l:t.flat.length<=29)(l2:u.flat.length<=29):fc ⟨Cj,[],[t,u]⟩:=by
 have el:(bT [t,u]).length=t.flat.length+u.flat.length:=by simp[bT]
 refine⟨rfl,rfl,(λx hx=>nomatch hx),⟨λs hs=>?_,by show(bT [t,u]).length<=60;omega,?_⟩,by show 0+(bT [t,u]).length<=59;omega⟩
 .rcases Ym.mp hs with e|e
  .rw[e];exact f
  .rw[Yz.mp e];exact g
 .show(if((u.dp+(0+1):Nat):Int)>((t.dp+0:Nat):Int)then((u.dp+(0+1):Nat):Int)else((t.dp+0:Nat):Int))<=6;split <;>omega
structure Zno(r:Rw):Prop where
 b:nZ r.h=false
 e:r.h≠gh
 n:r.h≠gP
section
variable {cs:List Int} {c d:Nat} {M:Store} {at_:Nat}
theorem Zrq(dk:dm cs c d at_ M)(hnr:M[nr]?=Ya (.lst (names.map D.str)))(nd:nr≠d)(hn:names.length=12)(hnm:∀x∈names,gB x)(ha:at_ +120<1000000)(v:Int):
  ∃(r:Rw) (S:Store) (at':Nat),fc r/\Zno r/\Kr [.ref d,.ref nr,.int v] M= .ok (.tup r.deed) S/\j_ cs c d M S at_ at' 120:=by
 have ld:=dk.lt;obtain⟨a,ea,ha4⟩:=mO (v / 10) 4 (by decide);have ea:v / 10 % 4=(a:Int):=ea;obtain⟨b,eb,hb⟩:=mO (v / 3) 6 (by decide);have eb:v / 3 % 6=(b:Int):=eb;obtain⟨b2,TX,hb2⟩:=mO (v / 7) 5 (by decide);have TX:v / 7 % 5=(b2:Int):=TX
 let M1:=M++[MO.lst [.int 3,.int 3,.int 7,.int 20]]
 have m1:∃m:Nat,1<=m/\m<=20/\[D.int 3,.int 3,.int 7,.int 20][a]?=Ya (.int (m:Int)):=by
  match a,ha4 with
  |0,_=>exact⟨3,by decide,by decide,rfl⟩|1,_=>exact⟨3,by decide,by decide,rfl⟩|2,_=>exact⟨7,by decide,by decide,rfl⟩|3,_=>exact⟨20,by decide,by decide,rfl⟩
 obtain⟨m0,hm1,hm2,hm3⟩:=m1;have s3:aq 3 (e2 Zn (bf (Zb (eC (.int 3)) (Zb (eC (.int 3)) (Zb (eC (.int 7)) (Zb (eC (.int 20)) (Zf)))))) (e2 Zy (e2 bG (Za 2) (eC (.int 10))) (eC (.int 4)))) [Ya (.ref d),Ya (.ref nr),Ya (.int v),Yn,Yn] M= .nx [Ya (.ref d),Ya (.ref nr),Ya (.int v),Ya (.int (m0:Int)),Yn] M1:=Zo (Zh (cX (ds:=[.int 3,.int 3,.int 7,.int 20]) rfl rfl) (Zh (Zh rfl rfl (iG (by decide))) rfl (dX (by decide))) (iB (Zq _ _ _) (by rw[ea,eZ];exact hm3)));have s4:∃m:Nat,1<=m/\m<=29/\aJ (e2 aV (e2 Zy (e2 bG (Za 2) (eC (.int 40))) (eC (.int 11))) (eC (.int 1))) (aq 3 (eC (.int 29))) (aW) [Ya (.ref d),Ya (.ref nr),Ya (.int v),Ya (.int (m0:Int)),Yn] M1= .nx [Ya (.ref d),Ya (.ref nr),Ya (.int v),Ya (.int (m:Int)),Yn] M1:=by
  by_cases z:v / 40 % 11=1
  .exact⟨29,by decide,by decide,(eY (M':=M1) (Zh (Zh (Zh rfl rfl (iG (by decide))) rfl (dX (by decide))) rfl (rm z))).trans (Zo rfl)⟩
  .exact⟨m0,hm1,by omega,cR (M':=M1) (Zh (Zh (Zh rfl rfl (iG (by decide))) rfl (dX (by decide))) rfl (vD z))⟩
 obtain⟨m,hm1,Ad8,s4⟩:=s4;obtain⟨t,S1,at1,f1,f2,f3,f4,D1⟩:=TJ (M:=M1) (most:=m) (deep:=1+b) (dk.app _) (bO hnr _) nd hn hnm (by omega) hm1 (by omega) (by omega:at_ +60<1000000);have qx:j_ cs c d M S1 at_ at1 60:=j_.app (G:=[MO.lst [.int 3,.int 3,.int 7,.int 20]]) D1;have s5:aq 4 (aM ud (Zb (Za 0) (Zb (Za 1) (Zb (e2 aQ (eC (.int 1)) (e2 Zy (e2 bG (Za 2) (eC (.int 3))) (eC (.int 6)))) (Zb (Za 3) (Zf)))))) [Ya (.ref d),Ya (.ref nr),Ya (.int v),Ya (.int (m:Int)),Yn] M1= .nx [Ya (.ref d),Ya (.ref nr),Ya (.int v),Ya (.int (m:Int)),Ya (.tup t.flat)] S1:=by refine Zo (Es rfl rfl (c:=.int ((1+b:Nat):Int)) (Zh rfl (Zh (Zh rfl rfl (iG (by decide))) rfl (dX (by decide))) ?_) rfl f4);rw[tK,eb];congr 2
 have start:∀{o:O3},(Zr (aJ (e2 aV (e2 Zy (Za 2) (eC (.int 3))) (eC (.int 0))) (aX (fV (Zb (eC (.str [115,101,116])) (Zb (e2 Zn (Za 1) (e2 Zy (e2 bG (Za 2) (eC (.int 440))) (eC (.int 12)))) (Zb (Za 4) (Zf)))))) (aW)) (Zr (aJ (e2 aV (e2 Zy (Za 2) (eC (.int 3))) (eC (.int 1))) (aX (fV (Zb (eC (.str [112,117,116])) (Zb (Za 4) (Zb (aM ud (Zb (Za 0) (Zb (Za 1) (Zb (e2 aQ (eC (.int 1)) (e2 Zy (e2 bG (Za 2) (eC (.int 7))) (eC (.int 5)))) (Zb (Za 3) (Zf)))))) (Zf)))))) (aW)) (aX (fV (Zb (eC (.str [116,101,108,108])) (Zb (Za 4) (Zf))))))) [Ya (.ref d),Ya (.ref nr),Ya (.int v),Ya (.int (m:Int)),Ya (.tup t.flat)] S1=o->Sq [Ya (.ref d),Ya (.ref nr),Ya (.int v),Yn,Yn] M=o:=λh=>(Zi s3).trans ((Zi s4).trans ((Zi s5).trans h));have m3:∀{k:Int},e2 Zy (Za 2) (eC (.int 3)) [Ya (.ref d),Ya (.ref nr),Ya (.int v),Ya (.int (m:Int)),Ya (.tup t.flat)] S1= .ok (.int (v % 3)) S1:=Zh rfl rfl (dX (by decide));by_cases h0:v % 3=0
 .obtain⟨x,ex,hx⟩:=mO (v / 440) 12 (by decide);have ex:v / 440 % 12=(x:Int):=ex;have hga:names[x]?=Ya (names[x]'(by omega)):=Y7 _;have hnS:S1[nr]?=Ya (.lst (names.map D.str)):=qx.kp.get hnr nd
  let r:Rw:=⟨ul,[names[x]'(by omega)],[t]⟩
  have jj:=start (o:=.rt (.tup r.deed) S1) (q9 ((eY (M':=S1) (Zh (m3 (k:=0)) rfl (rm h0))).trans (dh (lH (Zx rfl (Zx (Zh rfl (Zh (Zh rfl rfl (iG (by decide))) rfl (dX (by decide))) (iB hnS (d:=.str (names[x]'(by omega))) (by rw[ex,eZ,jO,hga];rfl))) (Zx rfl rfl))) rfl))));obtain⟨S,e,D⟩:=Gi (at_:=at_) (x:=.tup r.deed) (n:=60) ld qx.dk qx.kp qx.le;exact⟨r,S,at1,Zu9 (hnm _ (uK _)) f1 (by omega) (by omega),⟨rfl,show ul≠gh by decide,show ul≠gP by decide⟩,(jy jj).trans e,D.mono (by decide)⟩
 have c0:=cR (M':=S1) (f:=aX (fV (Zb (eC (.str [115,101,116])) (Zb (e2 Zn (Za 1) (e2 Zy (e2 bG (Za 2) (eC (.int 440))) (eC (.int 12)))) (Zb (Za 4) (Zf)))))) (Zh (m3 (k:=0)) (g:=eC (.int 0)) rfl (vD h0));by_cases h1:v % 3=1
 .obtain⟨u,S2,at2,g1,g2,g3,g4,D2⟩:=TJ (most:=m) (deep:=1+b2) qx.dk (qx.kp.get hnr nd) nd hn hnm (by omega) hm1 (by omega) (by have:=qx.le;omega);have D12:=qx.trans D2
  let r:Rw:=⟨Cj,[],[t,u]⟩
  have jj:=start (o:=.rt (.tup r.deed) S2) ((Zi c0).trans (q9 ((eY (M':=S1) (Zh (m3 (k:=0)) rfl (rm h1))).trans (dh (lH (Zx rfl (Zx rfl (Zx (Es rfl rfl (c:=.int ((1+b2:Nat):Int)) (Zh rfl (Zh (Zh rfl rfl (iG (by decide))) rfl (dX (by decide))) (by rw[tK,TX];congr 2)) rfl g4) rfl))) rfl)))));obtain⟨S,e,D⟩:=Gi (at_:=at_) (x:=.tup r.deed) (n:=120) ld D12.dk D12.kp D12.le;exact⟨r,S,at2,ZtD f1 g1 (by omega) (by omega) (by omega) (by omega),⟨rfl,show Cj≠gh by decide,show Cj≠gP by decide⟩,(jy jj).trans e,D⟩
 .let r:Rw:=⟨Ge,[],[t]⟩
  have jj:=start (o:=.rt (.tup r.deed) S1) ((Zi c0).trans ((Zi (cR (M':=S1) (Zh (m3 (k:=0)) rfl (vD h1)))).trans (dh (lH rfl rfl))));obtain⟨S,e,D⟩:=Gi (at_:=at_) (x:=.tup r.deed) (n:=60) ld qx.dk qx.kp qx.le;exact⟨r,S,at1,TV rfl (by decide) f1 (by omega) (by omega),⟨rfl,show Ge≠gh by decide,show Ge≠gP by decide⟩,(jy jj).trans e,D.mono (by decide)⟩
end
structure Fr where
 e:Nat
 o:Nat
 w:List Nat
 t:Sm
 out:List D
 ah:Option (List D)
noncomputable def uq:Option (List D)->D
 |none=>.non|some a=>.tup a
noncomputable abbrev Fr.obj(f:Fr):MO:=.lst [.str f.w,.tup f.t.flat,.ref f.o,uq f.ah]
noncomputable abbrev gF(s:Nat)(fs:List Fr):List Nat:=s::fs.map (·.e)
structure bU(n0:Nat)(S:Store)(s dr:Nat)(cur:List D)(fs:List Fr):Prop where
 hs:S[s]?=Ya (.lst (fs.map λf=>D.ref f.e).reverse)
 he:∀f∈fs,S[f.e]?=Ya f.obj
 ho:∀f∈fs,S[f.o]?=Ya (.lst f.out)
 hc:S[dr]?=Ya (.lst cur)
 nd:(gF s fs).Nodup
 dj:∀a∈gF s fs,a≠dr/\∀f∈fs,a≠f.o
 lo:n0<=dr/\(∀a∈gF s fs,n0<=a)/\∀f∈fs,n0<=f.o
variable{cur':List D}{f:Fr}
section
variable {n0:Nat} {S S':Store} {s dr:Nat} {cur:List D} {fs:List Fr}
theorem bU.frame(K:bU n0 S s dr cur fs)(h:∀a,n0<=a->a<S.length->S'[a]?=S[a]?):bU n0 S' s dr cur fs:=by
 have q:∀{i:Nat} {o:MO},S[i]?=Ya o->i<S.length:=λh=>(Yf.mp h).1;refine⟨?_,λf hf=>?_,λf hf=>?_,?_,K.nd,K.dj,K.lo⟩
 .rw[h s (K.lo.2.1 s Yd) (q K.hs)];exact K.hs
 .rw[h f.e (K.lo.2.1 f.e (Yc _ (pI hf))) (q (K.he f hf))];exact K.he f hf
 .rw[h f.o (K.lo.2.2 f hf) (q (K.ho f hf))];exact K.ho f hf
 .rw[h dr K.lo.1 (q K.hc)];exact K.hc
theorem bU.app(K:bU n0 S s dr cur fs)(G:Store):bU n0 (S++G) s dr cur fs:=K.frame λa _ h=>Yi h
theorem bU.kp(K:bU n0 S s dr cur fs)(hd:d<n0)(k:Kp d S S'):bU n0 S' s dr cur fs:=K.frame λa h1 h2=>k.old a h2 (by omega)
theorem bU.lt(K:bU n0 S s dr cur fs):(∀a∈gF s fs,a<S.length)/\dr<S.length/\∀f∈fs,f.o<S.length:=by
 have q:∀{i:Nat} {o:MO},S[i]?=Ya o->i<S.length:=λh=>(Yf.mp h).1;refine⟨λa ha=>?_,q K.hc,λf hf=>q (K.ho f hf)⟩;rcases Ym.mp ha with e|e
 .rw[e];exact q K.hs
 .obtain⟨f,hf,rfl⟩:=gH.mp e;exact q (K.he f hf)
theorem bU.now(K:bU n0 S s dr cur fs){bH:Nat}(h:S[bH]?=Ya (.lst cur'))(hl:n0<=bH)(hn:bH∉gF s fs):bU n0 S s bH cur' fs:=⟨K.hs,K.he,K.ho,h,K.nd,λa ha=>⟨λe=>hn (e▸ha),(K.dj a ha).2⟩,hl,K.lo.2⟩
theorem bU.els(K:bU n0 S s dr cur (f::fs))(a:List D):bU n0 (S.set f.e (Fr.obj {f with ah:=Ya a})) s dr cur ({f with ah:=Ya a}::fs):=by
 have nd:=K.nd;simp only[gF,Yu,iJ,Ym,not_or]at nd;have hm:f.e∈gF s (f::fs):=Yc _ Yd;have dj:=K.dj f.e hm;have o:∀x,f.e≠x->(S.set f.e (Fr.obj {f with ah:=Ya a}))[x]?=S[x]?:=λx h=>Yr h;refine⟨?_,λg hg=>?_,λg hg=>?_,?_,K.nd,λx hx=>⟨(K.dj x hx).1,λg hg=>?_⟩,K.lo.1,K.lo.2.1,λg hg=>?_⟩
 .rw[o s (cO nd.1.1)];exact K.hs
 .rcases Ym.mp hg with e|e
  .rw[e];exact Y0 (K.lt.1 _ hm)
  .rw[o g.e λz=>nd.2.1 (z▸pI e)];exact K.he g (Yc _ e)
 .rcases Ym.mp hg with e|e
  .rw[e];show _=Ya (MO.lst f.out);exact(o f.o (dj.2 f Yd)).trans (K.ho f Yd)
  .rw[o g.o (dj.2 g (Yc _ e))];exact K.ho g (Yc _ e)
 .rw[o dr dj.1];exact K.hc
 .rcases Ym.mp hg with e|e
  .rw[e];exact(K.dj x hx).2 f Yd
  .exact(K.dj x hx).2 g (Yc _ e)
 .rcases Ym.mp hg with e|e
  .rw[e];exact K.lo.2.2 f Yd
  .exact K.lo.2.2 g (Yc _ e)
theorem bU.pop(K:bU n0 S s dr cur (f::fs)){bH:Nat}(h:S[bH]?=Ya (.lst cur'))(hl:n0<=bH)(hn:bH∉gF s (f::fs)):bU n0 (S.set s (.lst (fs.map λf=>D.ref f.e).reverse)) s bH cur' fs:=by
 have nd:=K.nd;simp only[gF,Yu,iJ,Ym,not_or]at nd;have hm:s∈gF s (f::fs):=Yd;have sub:∀a∈gF s fs,a∈gF s (f::fs):=λa ha=>by
  rcases Ym.mp ha with e|e
  .rw[e];exact Yd
  .exact Yc _ (Yc _ e)
 have o:∀x,s≠x->(S.set s (.lst (fs.map λf=>D.ref f.e).reverse))[x]?=S[x]?:=λx h=>Yr h;refine⟨Y0 (K.lt.1 s hm),λg hg=>?_,λg hg=>?_,?_,iJ.mpr ⟨nd.1.2,nd.2.2⟩,λx hx=>⟨λe=>hn (e▸sub x hx),λg hg=>(K.dj x (sub x hx)).2 g (Yc _ hg)⟩,hl,λa ha=>K.lo.2.1 a (sub a ha),λg hg=>K.lo.2.2 g (Yc _ hg)⟩
 .rw[o g.e λz=>nd.1.2 (z▸pI hg)];exact K.he g (Yc _ hg)
 .rw[o g.o ((K.dj s hm).2 g (Yc _ hg))];exact K.ho g (Yc _ hg)
 .rw[o bH λz=>hn (z▸hm)];exact h
theorem bU.push(K:bU n0 S s dr cur fs)(hn:n0<=S.length)(w:List Nat)(t:Sm):bU n0 (((S++[Fr.obj ⟨S.length,dr,w,t,cur,Yn⟩]).set s (.lst ((fs.map λf=>D.ref f.e).reverse++[.ref S.length])))++[.lst []]) s (S.length+1) [] (⟨S.length,dr,w,t,cur,Yn⟩::fs):=by
 have hlt:=K.lt;have hm:s∈gF s fs:=Yd;have hsl:=hlt.1 s hm
 let S1:=(S++[Fr.obj ⟨S.length,dr,w,t,cur,Yn⟩]).set s (.lst ((fs.map λf=>D.ref f.e).reverse++[.ref S.length]))
 have l1:S1.length=S.length+1:=by simp[S1]
 have o:∀x,s≠x->x<S.length->(S1++[MO.lst []])[x]?=S[x]?:=λx h hx=>by rw[Yi (by omega)];show((S++_).set s _)[x]?=_;rw[Yr h,Yi hx]
 have one:∀x∈gF s (⟨S.length,dr,w,t,cur,Yn⟩::fs),x=S.length\/x∈gF s fs:=λx hx=>by
  rcases Ym.mp hx with e|e
  .exact .inr (by rw[e];exact Yd)
  .rcases Ym.mp e with e|e
   .exact .inl e
   .exact .inr (Yc _ e)
 refine⟨?_,λg hg=>?_,λg hg=>?_,?_,?_,λx hx=>⟨?_,λg hg=>?_⟩,by omega,λx hx=>?_,λg hg=>?_⟩
 .show(S1++_)[s]?=_;rw[Yi (by omega)];show((S++_).set s _)[s]?=_;rw[Y0 (by rw[Ye];exact Dk _ hsl)];simp
 .rcases Ym.mp hg with e|e
  .rw[e];show(S1++_)[S.length]?=_;rw[Yi (by omega)];show((S++_).set s _)[S.length]?=_;rw[Yr (by omega)];exact Zq _ _ _
  .have hge:g.e∈gF s fs:=Yc _ (pI e);rw[o g.e (λz=>(iJ.mp K.nd).1 (z▸pI e)) (hlt.1 _ hge)];exact K.he g e
 .rcases Ym.mp hg with e|e
  .rw[e];show(S1++_)[dr]?=Ya (.lst cur);rw[o dr (K.dj s hm).1 hlt.2.1];exact K.hc
  .rw[o g.o ((K.dj s hm).2 g e) (hlt.2.2 g e)];exact K.ho g e
 .show(S1++_)[S.length+1]?=_;rw[←l1];exact Zq _ _ _
 .have nd:=iJ.mp K.nd;refine iJ.mpr ⟨?_,iJ.mpr ⟨?_,nd.2⟩⟩
  .intro z;rcases Ym.mp z with e|e
   .have e:s=S.length:=e;omega
   .exact nd.1 e
  .intro z;have:=hlt.1 _ (Yc _ z);exact u6 _ this
 .rcases one x hx with e|e
  .omega
  .have:=hlt.1 x e;omega
 .rcases Ym.mp hg with z|z
  .rw[z];show x≠dr;rcases one x hx with e|e
   .have:=hlt.2.1;omega
   .exact(K.dj x e).1
  .rcases one x hx with e|e
   .have:=hlt.2.2 g z;omega
   .exact(K.dj x e).2 g z
 .rcases one x hx with e|e
  .omega
  .exact K.lo.2.1 x e
 .rcases Ym.mp hg with z|z
  .rw[z];exact K.lo.1
  .exact K.lo.2.2 g z
end
noncomputable def gG:List D->List Fr->List Pf
 |cur,[]=>[⟨j9,[],[],cur⟩]|cur,f::fs=>⟨f.w,[.tup f.t.flat],f.ah.toList,cur⟩::gG f.out fs
theorem ZpQ(cur:List D)(fs:List Fr):(gG cur fs).length=fs.length+1:=by
 induction fs generalizing cur with
 |nil=>rfl|cons f fs ih=>exact congrArg (· +1) (ih f.out)
def Fr.ok(f:Fr):Prop:=f.w=gO\/(f.w=qt/\f.ah=Yn)
theorem K8(h:M.length<=n):dW M (.ref n) M'= .ok (.ref n) M':=by
 have hb:below M.length (.ref n)=false:=by show decide (n<M.length)=false;exact decide_eq_false (by omega)
 unfold dW;rw[hb];rfl
noncomputable abbrev Fr.pf(f:Fr)(cur:List D):Pf:=⟨f.w,[.tup f.t.flat],f.ah.toList,cur⟩
def Fr.done(f:Fr):Prop:=(f.w=gO/\∃a,f.ah=Ya a)\/(f.w=qt/\f.ah=Yn)
section
variable {n0:Nat} {S:Store} {s dr:Nat} {cur:List D} {fs:List Fr} {f:Fr}
theorem bU.top(K:bU n0 S s dr cur (f::fs))(hv:Za i env S= .ok (.ref s) S):e2 Zn (Za i) (e1 cj (eC (.int 1))) env S= .ok (.ref f.e) S:=by refine Zh hv (fL rfl (xM 1)) (iB K.hs ?_);rw[Yu,uJ];exact getD_last _ _
theorem bU.top0(K:bU n0 S s dr cur (f::fs))(hv:Za i env S= .ok (.ref s) S):e2 Zn (e2 Zn (Za i) (e1 cj (eC (.int 1)))) (eC (.int 0)) env S= .ok (.str f.w) S:=Zh (K.top hv) rfl (iB (K.he f Yd) (eZ _ 0))
theorem bU.GQ(K:bU n0 S s dr cur (f::fs))(hv:Za i env S= .ok (.ref s) S):e2 Zn (e2 Zn (Za i) (e1 cj (eC (.int 1)))) (eC (.int 3)) env S= .ok (uq f.ah) S:=Zh (K.top hv) rfl (iB (K.he f Yd) (eZ _ 3))
theorem ZjR(K:bU n0 S s dr cur (f::fs))(hd:f.done)(hz:f.out.length<=1000):
  vZ [.ref s,.ref dr] S= .ok (.ref (S.length+1)) (S++[.lst [(f.pf cur).whole],.lst (f.out++[(f.pf cur).whole])]):=by
 let E:bK:=[Ya (.ref s),Ya (.ref dr),Ya (.str f.w),Ya (.tup f.t.flat),Ya (.ref f.o),Ya (uq f.ah),Yn]
 have a1:p8 (e2 Zn (Za 0) (e1 cj (eC (.int 1)))) [2,3,4,5] [Ya (.ref s),Ya (.ref dr),Yn,Yn,Yn,Yn,Yn] S= .nx E S:=by unfold p8;rw[K.top rfl];simp only[K.he f Yd];rfl
 have fin:∀{E':bK},E'=E.set 6 (Ya (f.pf cur).whole)->aX (e2 aQ (Za 4) (bf (Zb (Za 6) (Zf)))) E' S= .rt (.ref (S.length+1)) (S++[.lst [(f.pf cur).whole],.lst (f.out++[(f.pf cur).whole])]):=λh=>by subst h;refine dh ((Zh rfl (cX (Zx rfl rfl) rfl) (KD (bO (K.ho f Yd) _) (Zq _ _ _) (by simp;omega))).trans ?_);simp
 refine(jy (M':=S++[.lst [(f.pf cur).whole],.lst (f.out++[(f.pf cur).whole])]) (env:=[Ya (.ref s),Ya (.ref dr),Yn,Yn,Yn,Yn,Yn]) ?_).trans (K8 (u_ _));unfold Su;refine(Zi a1).trans ?_;have t1:aA gA (Zb (Za 1) (Zf)) E S= .ok (.tup cur) S:=b7 rfl (oY K.hc);refine(Zi (Zo (d:=.tup [.str f.w,.tup f.t.flat,.tup cur]) (M':=S) (lH (Zx rfl (Zx rfl (Zx t1 rfl))) rfl))).trans ?_;rcases hd with⟨hw,a,ea⟩|⟨hw,ea⟩
 .refine(Zi ((eY (M':=S) (Zh rfl rfl (iI.trans (by rw[decide_eq_true hw])))).trans (Zo (d:=(f.pf cur).whole) (M':=S) ((lH (ds:=[.str f.w,.tup f.t.flat,uq f.ah,.tup cur]) (Zx rfl (Zx rfl (Zx rfl (Zx (b7 rfl (oY K.hc)) rfl)))) rfl).trans ?_)))).trans (fin rfl);simp[Pf.whole,ea,uq]
 .refine(Zi (cR (M':=S) (Zh rfl rfl (iI.trans (by rw[decide_eq_false (by rw[hw];decide)]))))).trans (fin ?_);simp[E,Pf.whole,ea]
theorem bU.Ck(K:bU n0 S s dr cur fs)(hv:Za i env S= .ok (.ref s) S):e2 p_ (Za i) (bf (Zf)) env S= .ok (.bl (!fs.isEmpty)) (S++[.lst []]):=by refine Zh hv (cX rfl rfl) ((Zqb (bO K.hs _) (Zq _ _ _)).trans ?_);cases fs<;>simp
noncomputable def Cm(way:Nat):List Fr->Bool
 |[]=>false|f::_=>decide (way=8)&&(decide (f.w=gO)&&f.ah.isNone)
noncomputable def isEnd(way:Nat):List Fr->Bool
 |[]=>false|f::_=>decide (7<way)&&(decide (f.w=qt)|| f.ah.isSome)
theorem TY(a:Option (List D))(M:Store):nC (uq a) .non M= .ok (.bl a.isNone) M:=by cases a<;>simp[uq]
theorem Ztw(a:Option (List D))(M:Store):Eg (uq a) .non M= .ok (.bl a.isSome) M:=by cases a<;>simp[uq]
theorem ZqQ(K:bU n0 S s dr cur fs){way:Nat}(hv:∀M,Za 2 env M= .ok (.ref s) M)(h5:∀M,Za 5 env M= .ok (.int (way:Int)) M):
  ∃G,bC (e2 aV (Za 5) (eC (.int 8))) (bC (e2 p_ (Za 2) (bf (Zf))) (bC (e2 aV (e2 Zn (e2 Zn (Za 2) (e1 cj (eC (.int 1)))) (eC (.int 0))) (eC (.str [119,104,101,110]))) (e2 nC (e2 Zn (e2 Zn (Za 2) (e1 cj (eC (.int 1)))) (eC (.int 3))) (eC .non)))) env S= .ok (.bl (Cm way fs)) (S++G):=by
 by_cases h8:way=8
 .refine⟨[.lst []],?_⟩;rw[iC (M1:=S) (Zh (h5 S) rfl (rm (by omega)))];cases fs with
  |nil=>exact lJ (K.Ck (hv S))|cons f fs=>
   rw[iC (K.Ck (hv S))];have K1:=K.app [MO.lst []];by_cases hw:f.w=gO
   .rw[iC (Zh (K1.top0 (hv _)) rfl (iI.trans (by rw[decide_eq_true hw])))];refine(Zh (K1.GQ (hv _)) rfl (TY f.ah _)).trans ?_;simp[Cm,h8,hw]
   .rw[lJ (Zh (K1.top0 (hv _)) rfl (iI.trans (by rw[decide_eq_false hw])))];simp[Cm,hw]
 .refine⟨[],?_⟩;rw[lJ (M1:=S) (Zh (h5 S) rfl (vD (by omega))),jQ];cases fs<;>simp[Cm,h8]
theorem Zpo(K:bU n0 S s dr cur fs){way:Nat}(hv:∀M,Za 2 env M= .ok (.ref s) M)(h5:∀M,Za 5 env M= .ok (.int (way:Int)) M):
  ∃G,bC (e2 cu (Za 5) (eC (.int 7))) (bC (e2 p_ (Za 2) (bf (Zf))) (eG (e2 aV (e2 Zn (e2 Zn (Za 2) (e1 cj (eC (.int 1)))) (eC (.int 0))) (eC (.str [119,104,105,108,101]))) (e2 Eg (e2 Zn (e2 Zn (Za 2) (e1 cj (eC (.int 1)))) (eC (.int 3))) (eC .non)))) env S= .ok (.bl (isEnd way fs)) (S++G):=by
 by_cases h8:7<way
 .refine⟨[.lst []],?_⟩;rw[iC (M1:=S) (Zh (h5 S) rfl (by rw[jb,decide_eq_true (by omega)]))];cases fs with
  |nil=>exact lJ (K.Ck (hv S))|cons f fs=>
   rw[iC (K.Ck (hv S))];have K1:=K.app [MO.lst []];by_cases hw:f.w=qt
   .rw[Et (Zh (K1.top0 (hv _)) rfl (iI.trans (by rw[decide_eq_true hw])))];simp[isEnd,h8,hw]
   .rw[oZ (Zh (K1.top0 (hv _)) rfl (iI.trans (by rw[decide_eq_false hw])))];refine(Zh (K1.GQ (hv _)) rfl (Ztw f.ah _)).trans ?_;simp[isEnd,h8,hw]
 .refine⟨[],?_⟩;rw[lJ (M1:=S) (Zh (h5 S) rfl (by rw[jb,decide_eq_false (by omega)])),jQ];cases fs<;>simp[isEnd,h8]
end
structure Zuc(n0:Nat)(cs:List Int)(c d:Nat)(S S':Store)(s n' bH:Nat)(r:Rw)(cur:List D)(fs:List Fr)(cur':List D)(fs':List Fr)(at' k:Nat):Prop where
 out:S'[n']?=Ya (.lst [.str (glue [32] r.words),.ref bH])
 gY:bU n0 S' s bH cur' fs'
 dk:dm cs c d at' S'
 ok:fc r
 st:jL r (gG cur fs)=Ya (gG cur' fs')
 fr:∀f∈fs',f.ok
 le:fs'.length<=12
 bd:cur'.length<=k+1/\∀f∈fs',f.out.length<=k+1
 old:∀a,a<S.length->a≠d->a∉gF s fs->S'[a]?=S[a]?
 len:S.length<=S'.length
theorem Zrc:fc ⟨gh,[],[]⟩:=⟨rfl,rfl,(λx h=>nomatch h),⟨(λt h=>nomatch h),by decide,by decide⟩,by decide⟩
theorem ZpL:fc ⟨gP,[],[]⟩:=⟨rfl,rfl,(λx h=>nomatch h),⟨(λt h=>nomatch h),by decide,by decide⟩,by decide⟩
variable{cur:List D}
theorem ZlQ{fs:List Fr}(hw:f.w=gO)(ha:f.ah=Yn):jL ⟨gh,[],[]⟩ (gG cur (f::fs))=Ya (gG [] ({f with ah:=Ya cur}::fs)):=by show stepK _ (f.pf cur) (gG f.out fs)=_;unfold stepK;rw[if_neg (by decide),if_pos rfl,if_pos ⟨hw,by simp[ha]⟩];rfl
theorem T4(fs:List Fr)(x:List D)(w:D):∃k ks,gG x fs=k::ks/\k.cur=x/\gG (x++[w]) fs=⟨k.h,k.hd,k.cl,k.cur++[w]⟩::ks:=by
 cases fs with
 |nil=>exact⟨_,_,rfl,rfl,rfl⟩|cons f fs=>exact⟨_,_,rfl,rfl,rfl⟩
theorem Zlx{fs:List Fr}(hd:f.done)(hz:f.out.length<1000):jL ⟨gP,[],[]⟩ (gG cur (f::fs))=Ya (gG (f.out++[(f.pf cur).whole]) fs):=by
 obtain⟨k,ks,e1,e2,e3⟩:=T4 fs f.out (f.pf cur).whole;show stepK _ (f.pf cur) (gG f.out fs)=_;rw[e1,e3];unfold stepK;rw[if_neg (by decide),if_neg (by decide),if_pos rfl];refine if_pos ⟨?_,(show 1<100 by decide),?_,by rw[e2];exact hz⟩
 .rcases hd with⟨hw,a,ea⟩|⟨hw,ea⟩
  .show wg f.w=((f.ah.toList.length+1:Nat):Int);rw[hw,ea];rfl
  .show wg f.w=((f.ah.toList.length+1:Nat):Int);rw[hw,ea];rfl
 .show f.ah.toList.length<100;cases f.ah with
  |none=>exact(show 0<100 by decide)|some _=>exact(show 1<100 by decide)
theorem Zml{fs:List Fr}(hp:Zno r)(hz:cur.length<1000):jL r (gG cur fs)=Ya (gG (cur++[.tup r.deed]) fs):=by obtain⟨k,ks,e1,e2,e3⟩:=T4 fs cur (.tup r.deed);rw[e1,e3];show stepK r k ks=_;unfold stepK;rw[if_neg (by rw[hp.b];decide),if_neg hp.e,if_neg hp.n];exact if_pos (by rw[e2];exact hz)
theorem Zpx{w:List Nat}{t:Sm}{fs:List Fr}{o:Nat}(hw:nZ w=true)(hl:fs.length<12):jL ⟨w,[],[t]⟩ (gG cur fs)=Ya (gG [] (⟨e,o,w,t,cur,Yn⟩::fs)):=by
 obtain⟨k,ks,e1,_,_⟩:=T4 fs cur .non;have hk:ks.length=fs.length:=by have:=ZpQ cur fs;rw[e1,Yp]at this;omega
 rw[show gG [] (⟨e,o,w,t,cur,Yn⟩::fs)=⟨w,[.tup t.flat],[],[]⟩::gG cur fs from rfl,e1];show stepK _ k ks=_;unfold stepK;rw[if_pos hw];exact if_pos (by omega)
section
variable {n0:Nat} {S:Store} {s dr:Nat} {cur:List D} {fs:List Fr} {cs:List Int} {c d at_:Nat}
theorem Gj{L:List Nat}(h:∀a∈L,a<n){x:Nat}(hx:n<=x):x∉L:=λz=>by have:=h x z;omega
theorem len_app(M G:Store):M.length<=(M++G).length:=by rw[Ye];exact m9 _ _
theorem T5{q q':D->D->Store->R3 D}{f g h:E3}{x y z r:D}(h1:f env M= .ok x M)(h2:g env M= .ok y M)(h3:q x y M= .ok (.bl true) M)(h4:h env M= .ok z M)(h5:q' y z M= .ok r M):o5 q q' f g h env M= .ok r M:=by simp only[o5,h1,h2,h3,h4,h5,R3.bind]
theorem ZrT{q q':D->D->Store->R3 D}{f g h:E3}{x y:D}(h1:f env M= .ok x M)(h2:g env M= .ok y M)(h3:q x y M= .ok (.bl false) M):o5 q q' f g h env M= .ok (.bl false) M:=by simp only[o5,h1,h2,h3,R3.bind]
theorem ZsZ{v x0 x1 x2 x3:D}(h:M[n]?=Ya (.lst [x0,x1,x2,x3])):QS v (.ref n) (.int 3) M= .ok .non (M.set n (.lst [x0,x1,x2,v])):=by simp only[Zjr,h];rfl
theorem ZuH{nr k:Nat}(K:bU n0 S s dr cur fs)(dk:dm cs c d at_ S)(hnr:S[nr]?=Ya (.lst (names.map D.str)))(nd:nr≠d)(hn:names.length=12)(hnm:∀x∈names,gB x)(hd0:c<n0/\d<n0)(hn0:n0<=S.length)(Gk:∀f∈fs,f.ok)(hlen:fs.length<=12)(hb:cur.length<=k/\∀f∈fs,f.out.length<=k)(hk:k<900)(ha:at_ +200<1000000):
  ∃(r:Rw) (S':Store) (n' bH:Nat) (cur':List D) (fs':List Fr) (at':Nat),yx [.ref d,.ref nr,.ref s,.ref dr] S= .ok (.ref n') S'/\Zuc n0 cs c d S S' s n' bH r cur fs cur' fs' at' k/\at'<=at_ +121:=by
 obtain⟨v,S1,hv,D1,ur,l1⟩:=dk.draw (by omega);have K1:=K.kp hd0.2 ur;obtain⟨way,ew,Ad9⟩:=mO v 10 (by decide);have ew:v % 10=(way:Int):=ew
 let E:bK:=[Ya (.ref d),Ya (.ref nr),Ya (.ref s),Ya (.ref dr),Ya (.int v),Ya (.int (way:Int)),Yn,Yn,Yn]
 obtain⟨GA,cA⟩:=ZqQ K1 (env:=E) (way:=way) (λ_=>rfl) (λ_=>rfl);have h0:∀{rest:S3} {o:O3},rest E S1=o->Zr (aq 4 (aM h_ (Zb (Za 0) (Zf)))) (Zr (aq 5 (e2 Zy (Za 4) (eC (.int 10)))) rest) [Ya (.ref d),Ya (.ref nr),Ya (.ref s),Ya (.ref dr),Yn,Yn,Yn,Yn,Yn] S=o:=λh=>(Zi (Zo (d9 rfl hv))).trans ((Zi (Zo (d:=.int (way:Int)) (Zh rfl rfl ((dX (by decide)).trans (by rw[ew]))))).trans h);have fin:∀{n':Nat} {S':Store},S.length<=n'->yw [Ya (.ref d),Ya (.ref nr),Ya (.ref s),Ya (.ref dr),Yn,Yn,Yn,Yn,Yn] S= .rt (.ref n') S'->yx [.ref d,.ref nr,.ref s,.ref dr] S= .ok (.ref n') S':=λhl h=>(jy h).trans (K8 hl)
 let S2:=S1++GA
 have K2:bU n0 S2 s dr cur fs:=K1.app GA;have D2:dm cs c d (at_ +1) S2:=D1.app GA;have Vl:∀a,a<S.length->a≠d->S2[a]?=S[a]?:=λa h1 h2=>by show(S1++GA)[a]?=_;rw[Yi (by omega)];exact ur.old a h1 h2
 have Aea:S.length<=S2.length:=by show _<=(S1++GA).length;rw[Ye];omega
 cases hA:Cm way fs with
 | true=>
  rw[hA]at cA;cases fs with
  |nil=>cases hA|cons f fs=>
   simp only[Cm,Y4,decide_eq_true_eq,Option.isNone_iff_eq_none]at hA;obtain⟨_,hw,hah⟩:=hA;have K3:=K2.els cur
   let S3:=S2.set f.e (Fr.obj {f with ah:=Ya cur})
   have hm:f.e∈gF s (f::fs):=Yc _ Yd;have l3:S3.length=S2.length:=rW ..
   let S4:=S3++[MO.lst []]++[MO.lst [.str gh,.ref S3.length]]
   have g0:S4[S3.length]?=Ya (.lst []):=bO (Zq _ _ _) _;have K4:bU n0 S4 s S3.length [] ({f with ah:=Ya cur}::fs):=((K3.app _).app _).now g0 (by omega) (Gj K3.lt.1 (Ys _));have p1:qY (e2 Zn (Za 2) (e1 cj (eC (.int 1)))) (eC (.int 3)) (aA gA (Zb (Za 3) (Zf))) E S2= .nx E S3:=p7 (d:=.non) (Zwe (b7 rfl (oY K2.hc)) (K2.top rfl) rfl (ZsZ (K2.he f Yd)));have r1:aX (bf (Zb (eC (.str [101,108,115,101])) (Zb (bf (Zf)) (Zf)))) E S3= .rt (.ref (S3.length+1)) S4:=dh ((cX (M':=S3++[.lst []]) (ds:=[.str gh,.ref S3.length]) (Zx rfl (Zx (cX rfl rfl) rfl)) rfl).trans (by rw[Ye];rfl));refine⟨⟨gh,[],[]⟩,S4,S3.length+1,S3.length,[],_,at_ +1,fin (by omega) ?_,⟨?_,K4,((D2.put (by have:=K2.lo.2.1 _ hm;omega) (by have:=K2.lo.2.1 _ hm;omega) _).app _).app _,Zrc,ZlQ hw hah,?_,hlen,⟨fG _,λg hg=>?_⟩,λa h1 h2 h3=>?_,?_⟩,by omega⟩
   .unfold yw;exact h0 (q9 ((eY cA).trans ((Zi p1).trans r1)))
   .have:=Zq (S3++[MO.lst []]) (MO.lst [.str gh,.ref S3.length]) [];rw[Ye]at this;exact this
   .intro g hg;rcases Ym.mp hg with e|e
    .rw[e];exact .inl hw
    .exact Gk g (Yc _ e)
   .rcases Ym.mp hg with e|e
    .rw[e];exact qM (hb.2 f Yd)
    .exact qM (hb.2 g (Yc _ e))
   .show(S3++[MO.lst []]++[MO.lst [.str gh,.ref S3.length]])[a]?=_;rw[jg,Yi (by omega)];exact(Yr λ(z:f.e=a)=>h3 (z▸hm)).trans (Vl a h1 h2)
   .show S.length<=(S3++[MO.lst []]++[MO.lst [.str gh,.ref S3.length]]).length;rw[Ye,Ye];omega
 | false=>
  rw[hA]at cA;obtain⟨GB,cB⟩:=Zpo K2 (env:=E) (way:=way) (λ_=>rfl) (λ_=>rfl)
  let S3:=S2++GB
  have K3:bU n0 S3 s dr cur fs:=K2.app GB;have D3:dm cs c d (at_ +1) S3:=D2.app GB;have Aeb:S.length<=S3.length:=by show _<=(S2++GB).length;rw[Ye];omega
  have old3:∀a,a<S.length->a≠d->S3[a]?=S[a]?:=λa h1 h2=>by show(S2++GB)[a]?=_;rw[Yi (by omega)];exact Vl a h1 h2
  have Vm:S3[nr]?=Ya (.lst (names.map D.str)):=(old3 nr (Yf.mp hnr).1 nd).trans hnr;cases hB:isEnd way fs with
  | true=>
   rw[hB]at cB;cases fs with
   |nil=>cases hB|cons f fs=>
    simp only[isEnd,Y4,w5,decide_eq_true_eq]at hB;have hf:=Gk f Yd;have hdone:f.done:=by
     rcases hB.2 with z|z
     .rcases hf with q|q
      .rw[z]at q;exact absurd q (by decide)
      .exact .inr q
     .obtain⟨a,ea⟩:=GR.mp z;rcases hf with q|q
      .exact .inl ⟨q,a,ea⟩
      .rw[q.2]at ea;cases ea
    have hol:=hb.2 f Yd;have ce:=ZjR K3 hdone (by omega)
    let W:=(f.pf cur).whole
    let S4:=S3++[MO.lst [W],MO.lst (f.out++[W])]
    have K4:=K3.app [MO.lst [W],MO.lst (f.out++[W])];have g1:S4[S3.length+1]?=Ya (.lst (f.out++[W])):=by show(S3++_)[_]?=_;rw[q_];rfl
    have K5:=K4.pop g1 (by omega) (Gj K3.lt.1 (u_ _))
    let S5:=S4.set s (.lst (fs.map λf=>D.ref f.e).reverse)
    have l5:S5.length=S3.length+2:=by show(S4.set s _).length=_;rw[rW];show(S3++_).length=_;rw[Ye];rfl
    let S6:=S5++[MO.lst [.str gP,.ref (S3.length+1)]]
    have T7:S4[s]?=Ya (.lst ((fs.map λf=>D.ref f.e).reverse++[D.ref f.e])):=by rw[K4.hs,Yu,uJ]
    refine⟨⟨gP,[],[]⟩,S6,S5.length,S3.length+1,f.out++[W],fs,at_ +1,fin (by omega) ?_,⟨Zq _ _ _,K5.app _,((D3.app _).put (by have:=K3.lo.2.1 s Yd;omega) (by have:=K3.lo.2.1 s Yd;omega) _).app _,ZpL,Zlx hdone (by omega),λg hg=>Gk g (Yc _ hg),by rw[Yp]at hlen;omega,⟨by rw[Ye];exact oM hol,λg hg=>qM (hb.2 g (Yc _ hg))⟩,λa h1 h2 h3=>?_,?_⟩,by omega⟩
    .unfold yw;refine h0 ((Zi (cR cA)).trans (q9 ((eY cB).trans ((Zi (Zo (tR rfl rfl ce))).trans ((Zi (p7 (KN rfl T7))).trans ?_)))));exact dh (cX (Zx rfl (Zx rfl rfl)) rfl)
    .show(S5++_)[a]?=_;rw[Yi (by omega)];refine(Yr λ(z:s=a)=>h3 (z▸Yd)).trans ?_;show(S3++_)[a]?=_;rw[Yi (by omega)];exact old3 a h1 h2
    .show S.length<=(S5++_).length;rw[Ye];omega
  | false=>
   rw[hB]at cB;by_cases hC:(5<=way/\way<8)/\fs.length<12
   .have ch:bC (o5 nA dD (eC (.int 5)) (Za 5) (eC (.int 8))) (e2 dD (aA aZ (Zb (Za 2) (Zf))) (eC (.int 12))) E S3= .ok (.bl true) S3:=by
     have c1:o5 nA dD (eC (.int 5)) (Za 5) (eC (.int 8)) E S3= .ok (.bl true) S3:=by exact T5 rfl rfl (JF (by omega)) rfl (by rw[lu,decide_eq_true (by omega)])
     rw[iC c1];exact Zh (b7 rfl (jX K3.hs)) rfl (by rw[lu,decide_eq_true (by simp;omega)])
    obtain⟨b,eb,hb6⟩:=mO (v / 30) 6 (by decide);have eb:v / 30 % 6=(b:Int):=eb;obtain⟨m,em,hm9⟩:=mO (v / 10) 9 (by decide);have em:v / 10 % 9=(m:Int):=em;obtain⟨t,S4,yJ,f1,f2,f3,f4,D4⟩:=TJ (M:=S3) (most:=1+m) (deep:=1+b) D3 Vm nd hn hnm (by omega) (by omega) (by omega) (by omega);have K4:=K3.kp hd0.2 D4.kp;obtain⟨w,hw1,hw2⟩:∃w:List Nat,[D.str gO,.str gO,.str qt][way-5]?=Ya (.str w)/\(w=gO\/w=qt):=by
     match way-5,(show way-5<3 by omega)with
     |0,_=>exact⟨gO,rfl,.inl rfl⟩|1,_=>exact⟨gO,rfl,.inl rfl⟩|2,_=>exact⟨qt,rfl,.inr rfl⟩
    let S5:=S4++[MO.lst [.str gO,.str gO,.str qt]]
    have K5:bU n0 S5 s dr cur fs:=K4.app _;have Aec:S3.length<=S5.length:=Yk D4.kp.len (len_app S4 _);have K6:=K5.push (by omega) w t
    let F:Fr:=⟨S5.length,dr,w,t,cur,Yn⟩
    let S6:=(S5++[F.obj]).set s (.lst ((fs.map λf=>D.ref f.e).reverse++[.ref S5.length]))
    have l6:S6.length=S5.length+1:=by show((S5++_).set s _).length=_;rw[rW,Ye];rfl
    let S7:=S6++[MO.lst []]
    have rG:fc ⟨w,[],[t]⟩:=by
     rcases hw2 with rfl|rfl
     .exact TV rfl (by decide) f1 (by omega) (by omega)
     .exact TV rfl (by decide) f1 (by omega) (by omega)
    let S8:=S7++[MO.lst [.str (glue [32] (Rw.words ⟨w,[],[t]⟩)),.ref (S5.length+1)]]
    have wbl:nZ w=true:=by rcases hw2 with rfl|rfl <;>rfl
    refine⟨⟨w,[],[t]⟩,S8,S7.length,S5.length+1,[],F::fs,yJ,fin (by show _<=(S6++_).length;rw[Ye];omega) ?_,⟨Zq _ _ _,K6.app _,(((((D4.dk.app _).app _).put (by have:=K3.lo.2.1 s Yd;omega) (by have:=K3.lo.2.1 s Yd;omega) _).app _).app _),rG,Zpx wbl hC.2,λg hg=>?_,by rw[Yp];omega,⟨fG _,λg hg=>?_⟩,λa h1 h2 h3=>?_,?_⟩,by have:=D4.le;omega⟩
    .unfold yw;refine h0 ((Zi (cR cA)).trans ((Zi (cR cB)).trans (q9 ((eY ch).trans ?_))));refine(Zi (Zo (d:=.tup t.flat) (M':=S4) (Es rfl rfl (c:=.int ((1+b:Nat):Int)) (Zh rfl (Zh (Zh rfl rfl (iG (by decide))) rfl (dX (by decide))) (by rw[tK,eb];congr 2)) (d:=.int ((1+m:Nat):Int)) (Zh rfl (Zh (Zh rfl rfl (iG (by decide))) rfl (dX (by decide))) (by rw[tK,em];congr 2)) f4))).trans ?_;refine(Zi (Zo (d:=.str w) (M':=S5) (Zh (cX (ds:=[.str gO,.str gO,.str qt]) rfl rfl) (b:=.int ((way-5:Nat):Int)) (Zh rfl rfl (by rw[QG];congr 2;omega)) (iB (Zq _ _ _) (by rw[eZ];exact hw1))))).trans ?_;refine(Zi (mR (M':=S5) (M2:=S5++[F.obj]) (d:=.ref S5.length) rfl K5.hs (cX (ds:=[.str w,.tup t.flat,.ref dr,.non]) rfl rfl) (bO K5.hs _) (by simp only[CQ,Yv];exact sH (show fs.length<=12 by omega) (by decide)))).trans ?_;refine dh ((cX (M':=S7) (ds:=[.str (glue [32] (Rw.words ⟨w,[],[t]⟩)),.ref (S5.length+1)]) (Zx (d9 (M1:=S6) (a:=.tup (Rw.deed ⟨w,[],[t]⟩)) (lH rfl rfl) (Zlt rG S6)) (Zx ((cX rfl rfl).trans (by rw[l6])) rfl)) rfl))
    .rcases Ym.mp hg with e|e
     .rw[e];rcases hw2 with q|q
      .exact .inl q
      .exact .inr ⟨q,rfl⟩
     .exact Gk g e
    .rcases Ym.mp hg with e|e
     .rw[e];exact qM hb.1
     .exact qM (hb.2 g e)
    .show(S7++_)[a]?=_;rw[Yi (by show a<(S6++_).length;rw[Ye];omega)];show(S6++_)[a]?=_;rw[Yi (by omega)];refine(Yr λ(z:s=a)=>h3 (z▸Yd)).trans ?_;rw[Yi (by omega)];show(S4++_)[a]?=_;rw[Yi (by have:=D4.kp.len;omega)];exact(D4.kp.old a (by omega) h2).trans (old3 a h1 h2)
    .show S.length<=(S7++_).length;rw[Ye];show S.length<=(S6++_).length+_;rw[Ye];omega
   .have ch:∃G,bC (o5 nA dD (eC (.int 5)) (Za 5) (eC (.int 8))) (e2 dD (aA aZ (Zb (Za 2) (Zf))) (eC (.int 12))) E S3= .ok (.bl false) (S3++G):=by
     refine⟨[],?_⟩;rw[jQ];by_cases q1:5<=way
     .by_cases q2:way<8
      .have c1:o5 nA dD (eC (.int 5)) (Za 5) (eC (.int 8)) E S3= .ok (.bl true) S3:=by
        exact T5 rfl rfl (JF (by omega)) rfl (by rw[lu,decide_eq_true (by omega)])
       rw[iC c1];exact Zh (b7 rfl (jX K3.hs)) rfl (by rw[lu,decide_eq_false (by simp;omega)])
      .have c1:o5 nA dD (eC (.int 5)) (Za 5) (eC (.int 8)) E S3= .ok (.bl false) S3:=by
        exact T5 rfl rfl (JF (by omega)) rfl (by rw[lu,decide_eq_false (by omega)])
       exact lJ c1
     .have c1:o5 nA dD (eC (.int 5)) (Za 5) (eC (.int 8)) E S3= .ok (.bl false) S3:=by
       exact ZrT rfl rfl (Zxx (by omega))
      exact lJ c1
    obtain⟨GC,ch⟩:=ch
    let rH:=S3++GC
    obtain⟨r,S4,yJ,rG,rpl,f4,D4⟩:=Zrq (M:=rH) (D3.app _) (bO Vm _) nd hn hnm (by omega) (v / 10);have K4:=(K3.app GC).kp hd0.2 D4.kp;have Aed:S3.length<=S4.length:=Yk (len_app S3 GC) D4.kp.len
    let S5:=S4++[MO.lst [.tup r.deed]]++[MO.lst (cur++[.tup r.deed])]
    have g5:S5[S4.length+1]?=Ya (.lst (cur++[.tup r.deed])):=by have:=Zq (S4++[MO.lst [.tup r.deed]]) (MO.lst (cur++[.tup r.deed])) [];rw[Ye]at this;exact this
    have K5:bU n0 S5 s (S4.length+1) (cur++[.tup r.deed]) fs:=((K4.app _).app _).now g5 (by omega) (Gj K4.lt.1 (u_ _))
    let S6:=S5++[MO.lst [.str (glue [32] r.words),.ref (S4.length+1)]]
    have hbc:=hb.1;have l5:S5.length=S4.length+2:=by show(S4++_++_).length=_;rw[Ye,Ye];rfl
    refine⟨r,S6,S5.length,S4.length+1,cur++[.tup r.deed],fs,yJ,fin (by omega) ?_,⟨Zq _ _ _,K5.app _,((D4.dk.app _).app _).app _,rG,Zml rpl (by omega),Gk,hlen,⟨by rw[Ye];exact oM hbc,λg hg=>qM (hb.2 g hg)⟩,λa h1 h2 h3=>?_,?_⟩,by have:=D4.le;omega⟩
    .unfold yw;refine h0 ((Zi (cR cA)).trans ((Zi (cR cB)).trans ((Zi (cR ch)).trans ?_)));refine(Zi (Zo (d:=.tup r.deed) (M':=S4) (Zty rfl rfl (Zh rfl rfl (iG (by decide))) f4))).trans ?_;refine dh (cX (M':=S5) (Zx (d9 rfl (Zlt rG S4)) (Zx ((Zh rfl (cX (Zx rfl rfl) rfl) (KD (bO K4.hc _) (Zq _ _ _) (by simp;omega))).trans (by rw[Ye];rfl)) rfl)) rfl)
    .show(S5++_)[a]?=_;rw[Yi (by omega)];show(S4++_++_)[a]?=_;rw[jg,Yi (by omega)];refine(D4.kp.old a (by show a<(S3++GC).length;rw[Ye];omega) h2).trans ?_;show(S3++GC)[a]?=_;rw[Yi (by omega)];exact old3 a h1 h2
    .show S.length<=(S5++_).length;rw[Ye];omega
end
noncomputable def qy:Nat->List Fr->List Fr
 |_,[]=>[]|n,f::L=>{f with e:=n}::qy (n+1) L
noncomputable def Fr.strip(f:Fr):List Nat×Sm×List D×Option (List D):=(f.w,f.t,f.out,f.ah)
theorem ZpI:∀(n:Nat) (L:List Fr),(qy n L).map (·.e)=y_ n L.length
 |_,[]=>rfl|n,_::L=>by rw[qy,Yu,ZpI (n+1) L,Yp,Wq]
theorem ZjA:∀(n:Nat) (L:List Fr),(qy n L).map Fr.strip=L.map Fr.strip
 |_,[]=>rfl|n,_::L=>by rw[qy,Yu,ZjA (n+1) L];rfl
theorem Zn6:∀(n:Nat) (L:List Fr),∀g∈qy n L,∃f∈L,∃j,L[j]?=Ya f/\g={f with e:=n+j}
 |_,[],_,h=>nomatch h|n,f::L,g,h=>by
  rcases Ym.mp h with e|e
  .exact⟨f,Yd,0,rfl,e⟩
  .obtain⟨f',h1,j,h2,h3⟩:=Zn6 (n+1) L g e;exact⟨f',Yc _ h1,j+1,h2,by rw[h3,pN,kE 1 j]⟩
theorem Zih:∀(fs gs:List Fr) (cur:List D),fs.map Fr.strip=gs.map Fr.strip->gG cur fs=gG cur gs
 |[],[],_,_=>rfl|[],_::_,_,h=>nomatch h|_::_,[],_,h=>nomatch h|f::fs,g::gs,cur,h=>by have h1:f.strip=g.strip:=(iT h).1;have h2:=(iT h).2;simp only[Fr.strip,Px]at h1;show f.pf cur::gG f.out fs=g.pf cur::gG g.out gs;rw[Zih fs gs f.out h2,h1.2.2.1];simp only[Fr.pf,h1.1,h1.2.1,h1.2.2.2]
theorem ZjN{S:Store}{it:fU}(hit:∀G,locked it (S++G)=true):∀(L:List Fr) (acc:List D) (G:Store) (a0 a1 a2 a3 a4 a5 a6 a7 a8 a9 a10 a11 x:Option D),(∀f∈L,S[f.e]?=Ya f.obj)->acc.length+L.length<=100 ->
  iW it (cg 12) [] (aA tL (Zb (Za 12) (Zf))) S.length (L.map λf=>D.ref f.e) [a0,a1,a2,a3,a4,a5,a6,a7,a8,a9,a10,a11,x] (S++ .lst acc::G)= .ok (.ref S.length) (S++ .lst (acc++(qy (S.length+1+G.length) L).map λf=>D.ref f.e)::(G++L.map Fr.obj))
 |[],acc,G,a0,a1,a2,a3,a4,a5,a6,a7,a8,a9,a10,a11,x,_,_=>by rw[rY,QW,if_pos (hit _)];simp[qy]|f::L,acc,G,a0,a1,a2,a3,a4,a5,a6,a7,a8,a9,a10,a11,x,hL,hl=>by
  rw[Yp]at hl
  let T:=S++ .lst acc::G
  have lT:T.length=S.length+1+G.length:=by simp[T];omega
  have ih:=ZjN hit L (acc++[.ref T.length]) (G++[f.obj]) a0 a1 a2 a3 a4 a5 a6 a7 a8 a9 a10 a11 (Ya (.ref f.e)) (λg hg=>hL g (Yc _ hg)) (by simp;omega);have hb:aA tL (Zb (Za 12) (Zf)) [a0,a1,a2,a3,a4,a5,a6,a7,a8,a9,a10,a11,Ya (.ref f.e)] T= .ok (.ref T.length) (T++[f.obj]):=by refine b7 rfl ?_;show(match T[f.e]? with|some (.lst x)=>alloc (.lst x) T|_=>.bad)=_;rw[show T[f.e]?=Ya f.obj from bO (hL f Yd) _];rfl
  have gt:(T++[f.obj])[S.length]?=Ya (.lst acc):=bO (Zq _ _ _) _;have lt:acc.length<SZ:=sH (show acc.length<=100 by omega) (by decide);have st:(T++[f.obj]).set S.length (.lst (acc++[.ref T.length]))=S++ .lst (acc++[.ref T.length])::(G++[f.obj]):=by simp[T]
  rw[Yu,JC,if_pos (hit _)];simp only[cg,oG,oH,Eo,R3.bind,if_true];rw[show S++ .lst acc::G=T from rfl,hb];simp only[gt,lt,if_true,st];rw[ih];simp[qy,lT,pN]
structure Kept(n0:Nat)(S S':Store)(s k dr:Nat)(cur:List D)(fs gs:List Fr):Prop where
 gY:bU n0 S' k dr cur gs
 st:gs.map Fr.strip=fs.map Fr.strip
 hi:∀a∈gF k gs,S.length<=a
 pre:S<+:S'
 oo:∀g∈gs,∀a∈gF s fs,a≠g.o
variable{dr:Nat}
theorem ZrG{n0:Nat}{fs:List Fr}(K:bU n0 S s dr cur fs)(hn:n0<=S.length)(hl:fs.length<=12){a0 a1 a2 a3 a4 a6 a7 a8 a9 a10 a11:Option D}:
  ∃S' gs,fK (cV (Za 5)) 1 (cg 12) [] (aA tL (Zb (Za 12) (Zf))) [a0,a1,a2,a3,a4,Ya (.ref s),a6,a7,a8,a9,a10,a11] S= .ok (.ref S.length) S'/\Kept n0 S S' s S.length dr cur fs gs:=by
 have hsl:(fs.map λf=>D.ref f.e).reverse=fs.reverse.map λf=>D.ref f.e:=CV.symm;have hs:S[s]?=Ya (.lst (fs.reverse.map λf=>D.ref f.e)):=by rw[←hsl];exact K.hs
 have lp:=ZjN (S:=S) (it:=⟨fs.reverse.map λf=>D.ref f.e,Ya s⟩) (λG=>decide_eq_true (bO hs G)) fs.reverse [] [] a0 a1 a2 a3 a4 (Ya (.ref s)) a6 a7 a8 a9 a10 a11 Yn (λf hf=>K.he f (Ni.mp hf)) (by simp;omega);rw[jB,jB,yZ,HX]at lp
 let m:=S.length+1
 let S':=S++ .lst ((qy m fs.reverse).map λf=>D.ref f.e)::fs.reverse.map Fr.obj
 let gs:=(qy m fs.reverse).reverse
 have old:∀a,a<S.length->S'[a]?=S[a]?:=λa h=>Yi h;have mem:∀g∈gs,∃f∈fs,∃j,fs.reverse[j]?=Ya f/\g={f with e:=m+j}:=λg hg=>by obtain⟨f,h1,j,h2,h3⟩:=Zn6 m fs.reverse g (Ni.mp hg);exact⟨f,Ni.mp h1,j,h2,h3⟩
 have hi:∀a∈gF S.length gs,S.length<=a:=λa ha=>by
  rcases Ym.mp ha with e|e
  .omega
  .obtain⟨g,hg,rfl⟩:=gH.mp e;obtain⟨f,_,j,_,rfl⟩:=mem g hg;show S.length<=m+j;omega
 have lt:=K.lt;refine⟨S',gs,?_,⟨?_,λg hg=>?_,λg hg=>?_,?_,?_,λa ha=>⟨?_,λg hg=>?_⟩,K.lo.1,λa ha=>Yk hn (hi a ha),λg hg=>?_⟩,?_,hi,Wj _ _,λg hg a ha=>?_⟩
 .have hi0:cV (Za 5) [a0,a1,a2,a3,a4,Ya (.ref s),a6,a7,a8,a9,a10,a11] S= .ok ⟨fs.reverse.map λf=>D.ref f.e,Ya s⟩ S:=by
   show(R3.ok (D.ref s) S).bind _=_;simp only[R3.bind,hs]
  rw[QX hi0];exact lp
 .refine(Zq S _ _).trans ?_;rw[CV,Wg]
 .obtain⟨f,_,j,h2,rfl⟩:=mem g hg;show(S++_)[S.length+1+j]?=Ya f.obj;rw[pN,q_,kE 1 j,CN,jO,h2];rfl
 .obtain⟨f,hf,j,_,rfl⟩:=mem g hg;exact(old f.o (lt.2.2 f hf)).trans (K.ho f hf)
 .exact(old dr lt.2.1).trans K.hc
 .refine iJ.mpr ⟨λz=>?_,?_⟩
  .obtain⟨g,hg,e⟩:=gH.mp z;obtain⟨f,_,j,_,rfl⟩:=mem g hg;have e:m+j=S.length:=e;have:m=S.length+1:=rfl;omega
  .rw[CV,ZpI];exact(List.reverse_perm _).nodup_iff.mpr List.nodup_range'
 .have:=hi a ha;have:=lt.2.1;omega
 .obtain⟨f,hf,j,_,rfl⟩:=mem g hg;have:=hi a ha;have:=lt.2.2 f hf;show a≠f.o;omega
 .obtain⟨f,hf,j,_,rfl⟩:=mem g hg;exact K.lo.2.2 f hf
 .rw[CV,ZjA,CV,Wg]
 .obtain⟨f,hf,j,_,rfl⟩:=mem g hg;exact(K.dj a ha).2 f hf
noncomputable abbrev T8:S3:=(Zr (aq 9 (fK (cV (Za 5)) 1 (cg 12) [] (aA tL (Zb (Za 12) (Zf))))) (Zr (p8 (aM yx (Zb (Za 0) (Zb (Za 1) (Zb (Za 5) (Zb (Za 6) (Zf)))))) [10,11]) (Zr (aJ (e2 cu (e2 aQ (Za 7) (aA aZ (Zb (Za 10) (Zf)))) (Za 3)) (Zr (aq 5 (Za 9)) (QT)) (aW)) (Zr (aq 6 (Za 11)) (Zr (aq 7 (e2 aQ (e2 aQ (Za 7) (aA aZ (Zb (Za 10) (Zf)))) (eC (.int 1)))) (aO (aG a_ Zz (Za 4) (Zb (Za 10) (Zf)))))))))
noncomputable abbrev T9:S3:=(Zr (aJ (bC (e2 aV (e2 Zn (e2 Zn (Za 5) (e1 cj (eC (.int 1)))) (eC (.int 0))) (eC (.str [119,104,101,110]))) (e2 nC (e2 Zn (e2 Zn (Za 5) (e1 cj (eC (.int 1)))) (eC (.int 3))) (eC .non))) (Zr (qY (e2 Zn (Za 5) (e1 cj (eC (.int 1)))) (eC (.int 3)) (aA gA (Zb (Za 6) (Zf)))) (Zr (aq 6 (bf (Zf))) (aO (aG a_ Zz (Za 4) (Zb (eC (.str [101,108,115,101])) (Zf)))))) (aW)) (Zr (aq 6 (aM vZ (Zb (Za 5) (Zb (Za 6) (Zf))))) (Zr (aO (aG a_ oX (Za 5) (Zf))) (aO (aG a_ Zz (Za 4) (Zb (eC (.str [101,110,100])) (Zf)))))))
noncomputable abbrev bQ(rs:List Rw):List (List Nat):=rs.map λr=>glue [32] r.words
noncomputable def gl(T:List (List Nat)):Nat:=(T.map λt=>t.length+1).sum
theorem K9(T:List (List Nat))(t:List Nat):gl (T++[t])=gl T+(t.length+1):=by simp[gl]
theorem T_:∀(rs:List Rw) (r:Rw) (x y z:List Pf),lW rs x=Ya y->jL r y=Ya z->lW (rs++[r]) x=Ya z
 |[],r,x,y,z,h,k=>by cases h;show(jL r x).bind _=_;rw[k];rfl|q::rs,r,x,y,z,h,k=>by
  show(jL q x).bind (lW (rs++[r]))=_;have h:(jL q x).bind (lW rs)=Ya y:=h;cases e:jL q x with
  |none=>rw[e]at h;cases h|some w=>rw[e]at h;exact T_ rs r w y z h k
noncomputable abbrev K_:List Pf:=[⟨j9,[],[],[]⟩]
structure ir(cs:List Int)(c d:Nat)(M S:Store)(s dr:Nat)(cur:List D)(fs:List Fr)(rs:List Rw)(at_ k:Nat):Prop where
 gY:bU (M.length+1) S s dr cur fs
 dk:dm cs c d at_ S
 kp:Kp d M S
 rw:S[M.length]?=Ya (.lst ((bQ rs).map D.str))
 ok:∀r∈rs,fc r
 jj:lW rs K_=Ya (gG cur fs)
 fr:∀f∈fs,f.ok
 le:fs.length<=12
 bd:cur.length<=k/\∀f∈fs,f.out.length<=k
 ld:c<M.length/\d<M.length
theorem ir.n0{fs:List Fr}{at_ k:Nat}(P:ir cs c d M S s dr cur fs rs at_ k):M.length+1<=S.length:=(Yf.mp P.rw).1
theorem Ua(h:S<+:S')(ha:a<S.length):S'[a]?=S[a]?:=by obtain⟨G,rfl⟩:=h;exact Yi ha
theorem Zqd{fs gs:List Fr}(h:gs.map Fr.strip=fs.map Fr.strip){k:Nat}(ok:∀f∈fs,f.ok)(bd:∀f∈fs,f.out.length<=k):(∀g∈gs,g.ok)/\∀g∈gs,g.out.length<=k:=by
 have key:∀g∈gs,∃f∈fs,f.strip=g.strip:=λg hg=>by
  have:g.strip∈fs.map Fr.strip:=by rw[←h];exact pI hg
  obtain⟨f,hf,e⟩:=gH.mp this;exact⟨f,hf,e⟩
 refine⟨λg hg=>?_,λg hg=>?_⟩
 .obtain⟨f,hf,e⟩:=key g hg;simp only[Fr.strip,Px]at e;have:=ok f hf;unfold Fr.ok at this ⊢;rw[←e.1,←e.2.2.2];exact this
 .obtain⟨f,hf,e⟩:=key g hg;simp only[Fr.strip,Px]at e;rw[←e.2.2.1];exact bd f hf
section
variable {cs:List Int} {c d:Nat} {M S:Store} {s dr:Nat} {cur:List D} {fs:List Fr} {rs:List Rw} {at_ k:Nat}
theorem ir.mono(P:ir cs c d M S s dr cur fs rs at_ k){k':Nat}(h:k<=k'):ir cs c d M S s dr cur fs rs at_ k':=⟨P.gY,P.dk,P.kp,P.rw,P.ok,P.run,P.fr,P.le,⟨Yk P.bd.1 h,λf hf=>Yk (P.bd.2 f hf) h⟩,P.ld⟩
theorem Zrm(P:ir cs c d M S s dr cur fs rs at_ k)(hnr:M[nr]?=Ya (.lst (names.map D.str)))(nd:nr≠d)(hn:names.length=12)(hnm:∀x∈names,gB x)(hk:k<900)(ha:at_ +200<1000000)(hr:rs.length<10000)(hg:gl (bQ rs)<=3401)(v2 a8 a9 a10 a11:Option D):
  (∃S' s' fs' at' y9 y10 y11,T8 [Ya (.ref d),Ya (.ref nr),v2,Ya (.int 3400),Ya (.ref M.length),Ya (.ref s),Ya (.ref dr),Ya (.int (gl (bQ rs):Int)),a8,a9,a10,a11] S= .bk [Ya (.ref d),Ya (.ref nr),v2,Ya (.int 3400),Ya (.ref M.length),Ya (.ref s'),Ya (.ref dr),Ya (.int (gl (bQ rs):Int)),a8,y9,y10,y11] S'/\ir cs c d M S' s' dr cur fs' rs at' k/\at'<=at_ +121)\/
  (∃r S' bH cur' fs' at' y9 y10 y11,T8 [Ya (.ref d),Ya (.ref nr),v2,Ya (.int 3400),Ya (.ref M.length),Ya (.ref s),Ya (.ref dr),Ya (.int (gl (bQ rs):Int)),a8,a9,a10,a11] S= .nx [Ya (.ref d),Ya (.ref nr),v2,Ya (.int 3400),Ya (.ref M.length),Ya (.ref s),Ya (.ref bH),Ya (.int (gl (bQ (rs++[r])):Int)),a8,y9,y10,y11] S'/\ir cs c d M S' s bH cur' fs' (rs++[r]) at' (k+1)/\at'<=at_ +121/\gl (bQ (rs++[r]))<=3401):=by
 have n0:=P.n0;have ld:=P.ld;obtain⟨S1,gs,hk1,KE⟩:=ZrG P.gY n0 P.le (a0:=Ya (.ref d)) (a1:=Ya (.ref nr)) (a2:=v2) (a3:=Ya (.int 3400)) (a4:=Ya (.ref M.length)) (a6:=Ya (.ref dr)) (a7:=Ya (.int (gl (bQ rs):Int))) (a8:=a8) (a9:=a9) (a10:=a10) (a11:=a11);obtain⟨G,Ub⟩:=KE.pre;have K1:bU (M.length+1) S1 s dr cur fs:=by rw[←Ub];exact P.gY.app G
 have D1:dm cs c d at_ S1:=by rw[←Ub];exact P.dk.app G
 have Aee:S.length<=S1.length:=by rw[←Ub];exact len_app S G
 have AbC:S1[nr]?=Ya (.lst (names.map D.str)):=(Ua KE.pre (Y9 (Yf.mp hnr).1 P.kp.len)).trans (P.kp.get hnr nd);obtain⟨r,S2,n',bH,cur',fs',at',hrow,O,hat⟩:=ZuH K1 D1 AbC nd hn hnm ⟨by omega,by omega⟩ (by omega) P.fr P.le P.bd hk ha;have pC:S2[M.length]?=Ya (.lst ((bQ rs).map D.str)):=by rw[O.old M.length (by omega) (by omega) (λz=>by have:=K1.lo.2.1 _ z;omega),Ua KE.pre (by omega)];exact P.rw
 have La:Kp d M S2:=⟨by have:=O.len;omega,λj h1 h2=>by rw[O.old j (by omega) h2 (λz=>by have:=K1.lo.2.1 _ z;omega),Ua KE.pre (by omega)];exact P.kp.old j h1 h2⟩;have AbD:=(Zlw O.ok).le
 let u:Int:=(gl (bQ rs):Int)
 let T:=glue [32] r.words
 let E:bK:=[Ya (.ref d),Ya (.ref nr),v2,Ya (.int 3400),Ya (.ref M.length),Ya (.ref s),Ya (.ref dr),Ya (.int u),a8,Ya (.ref S.length),Ya (.str T),Ya (.ref bH)]
 have a1:p8 (aM yx (Zb (Za 0) (Zb (Za 1) (Zb (Za 5) (Zb (Za 6) (Zf)))))) [10,11] [Ya (.ref d),Ya (.ref nr),v2,Ya (.int 3400),Ya (.ref M.length),Ya (.ref s),Ya (.ref dr),Ya (.int u),a8,Ya (.ref S.length),a10,a11] S1= .nx E S2:=by unfold p8;rw[Es rfl rfl rfl rfl hrow];simp only[O.out];rfl
 let E2:bK:=[Ya (.ref d),Ya (.ref nr),v2,Ya (.int 3400),Ya (.ref M.length),Ya (.ref s),Ya (.ref bH),Ya (.int u),a8,Ya (.ref S.length),Ya (.str T),Ya (.ref bH)]
 have Vn:∀{X:bK},Za 10 X S2= .ok (.str T) S2->aA aZ (Zb (Za 10) (Zf)) X S2= .ok (.int (T.length:Int)) S2:=λh=>b7 h (by simp only[zX,zY,zZ,qU,if_pos (show T.length<=SZ from Yk AbD (by decide))]);have c1:e2 cu (e2 aQ (Za 7) (aA aZ (Zb (Za 10) (Zf)))) (Za 3) E S2= .ok (.bl (decide ((3400:Int)<u+(T.length:Int)))) S2:=Zh (Zh rfl (Vn rfl) rfl) rfl (by rw[jb]);by_cases hbk:(3400:Int)<u+(T.length:Int)
 .rw[decide_eq_true hbk]at c1;refine .inl ⟨S2,S.length,gs,at',Ya (.ref S.length),Ya (.str T),Ya (.ref bH),(Zi (Zo hk1)).trans ((Zi a1).trans (?_)),?_,hat⟩
  .unfold Zr;rw[eY c1];rfl
  .have q:=Zqd KE.st P.fr P.bd.2;have KK:=KE.gY;have nm:∀a,a<S1.length->a≠d->a∉gF s fs->S2[a]?=S1[a]?:=O.old;have Lb:=KK.lt;have lts:=P.gY.lt;refine⟨⟨?_,λf hf=>?_,λf hf=>?_,?_,KK.nd,KK.dj,KK.lo⟩,O.dk,La,pC,P.ok,by rw[P.run,Zih gs fs cur KE.st],q.1,by have:=congrArg Yes KE.st;rw[Yv,Yv]at this;have:=P.le;omega,⟨P.bd.1,q.2⟩,ld⟩
   .have h:=KE.hi _ (Yd (a:=S.length));rw[nm S.length (Lb.1 _ Yd) (by omega) (λz=>by have:=lts.1 _ z;omega)];exact KK.hs
   .have hm:f.e∈gF S.length gs:=Yc _ (pI hf);have h:=KE.hi _ hm;rw[nm f.e (Lb.1 _ hm) (by omega) (λz=>by have:=lts.1 _ z;omega)];exact KK.he f hf
   .have h:=KK.lo.2.2 f hf;have hno:f.o∉gF s fs:=λz=>KE.oo f hf _ z rfl;rw[nm f.o (Lb.2.2 f hf) (by omega) hno];exact KK.ho f hf
   .have h:=KK.lo.1;rw[nm dr Lb.2.1 (by omega) (λz=>(P.gY.dj dr z).1 rfl)];exact KK.hc
 .rw[decide_eq_false hbk]at c1;have hu:u=(gl (bQ rs):Int):=rfl;have eg:gl (bQ (rs++[r]))=gl (bQ rs)+(T.length+1):=by rw[bQ,jR];exact K9 _ _
  let S3:=S2.set M.length (.lst ((bQ (rs++[r])).map D.str))
  have hz:((bQ rs).map D.str).length<SZ:=by rw[Yv,Yv];exact m_ hr (by decide)
  have a3:=mR (env:=[Ya (.ref d),Ya (.ref nr),v2,Ya (.int 3400),Ya (.ref M.length),Ya (.ref s),Ya (.ref bH),Ya (.int (gl (bQ (rs++[r])):Int)),a8,Ya (.ref S.length),Ya (.str T),Ya (.ref bH)]) (M:=S2) (M':=S2) (M2:=S2) (o:=Za 4) (t:=Za 10) (d:=.str T) rfl pC rfl pC hz;have e3:(bQ rs).map D.str++[D.str T]=(bQ (rs++[r])).map D.str:=by simp[bQ,T]
  rw[e3]at a3;refine .inr ⟨r,S3,bH,cur',fs',at',Ya (.ref S.length),Ya (.str T),Ya (.ref bH),(Zi (Zo hk1)).trans ((Zi a1).trans ((Zi (cR c1)).trans ((Zi (Zo (d:=.ref bH) (env':=E2) rfl rfl)).trans ((Zi (Zo (d:=.int (gl (bQ (rs++[r])):Int)) (Zh (Zh rfl (Vn rfl) rfl) rfl (by rw[tK];congr 2;omega)) rfl)).trans a3)))),?_,hat,by omega⟩;have Jk:∀a,M.length+1<=a->a<S2.length->S3[a]?=S2[a]?:=λa h _=>Yr (by omega);exact⟨O.gY.frame Jk,O.dk.put (by omega) (by omega) _,La.put (Ys _) _,Y0 (Yf.mp pC).1,λq hq=>by
   rcases fQ.mp hq with z|z
   .exact P.ok q z
   .rw[Yz.mp z];exact O.ok,T_ _ _ _ _ _ P.run O.st,O.fr,O.le,O.bd,ld⟩
end
section
variable {cs:List Int} {c d:Nat} {M:Store}
theorem Znz{nr:Nat}{names:List (List Nat)}(hnr:M[nr]?=Ya (.lst (names.map D.str)))(nd:nr≠d)(hn:names.length=12)(hnm:∀x∈names,gB x){it:fU}(hi:it.lock=Yn){v2:Option D}:
  ∀(xs:List D) (S:Store) (s dr:Nat) (cur:List D) (fs:List Fr) (rs:List Rw) (at_ k:Nat) (a8 a9 a10 a11:Option D),ir cs c d M S s dr cur fs rs at_ k->k+xs.length<=400->rs.length<=k->at_ +121*xs.length<900000->gl (bQ rs)<=3401 ->
  ∃(S':Store) (s' bH:Nat) (cur':List D) (fs':List Fr) (rs':List Rw) (at':Nat) (y7 y8 y9 y10 y11:Option D),iV it (cg 8) T8 xs [Ya (.ref d),Ya (.ref nr),v2,Ya (.int 3400),Ya (.ref M.length),Ya (.ref s),Ya (.ref dr),Ya (.int (gl (bQ rs):Int)),a8,a9,a10,a11] S= .nx [Ya (.ref d),Ya (.ref nr),v2,Ya (.int 3400),Ya (.ref M.length),Ya (.ref s'),Ya (.ref bH),y7,y8,y9,y10,y11] S'/\ir cs c d M S' s' bH cur' fs' rs' at' 400/\rs'.length<=400/\gl (bQ rs')<=3401/\at'<=at_ +121*xs.length
 |[],S,s,dr,cur,fs,rs,at_,k,a8,a9,a10,a11,P,h1,h2,h3,h4=>⟨S,s,dr,cur,fs,rs,at_,_,_,_,_,_,by rw[vB,if_pos (by unfold locked;rw[hi])],P.mono (by simpa using h1),Yk h2 (by simpa using h1),h4,m9 _ _⟩|x::xs,S,s,dr,cur,fs,rs,at_,k,a8,a9,a10,a11,P,h1,h2,h3,h4=>by
  rw[Yp]at h1 h3;rcases Zrm P hnr nd hn hnm (by omega) (by omega) (by omega) h4 v2 (Ya x) a9 a10 a11 with⟨S',s',fs',at',y9,y10,y11,hb,P',hat⟩|⟨r,S',bH,cur',fs',at',y9,y10,y11,hb,P',hat,hg⟩
  .refine⟨S',s',dr,cur,fs',rs,at',Ya (.int (gl (bQ rs):Int)),Ya x,y9,y10,y11,?_,P'.mono (by omega),by omega,h4,by rw[Yp];omega⟩;rw[tO,if_pos (by unfold locked;rw[hi])];simp only[cg,oG,oH];rw[hb]
  .obtain⟨S2,s2,dr2,yS,fs2,Uc,at2,z7,z8,z9,Ud,z11,hl,P2,q1,q2,q3⟩:=Znz hnr nd hn hnm hi xs S' s bH cur' fs' (rs++[r]) at' (k+1) (Ya x) y9 y10 y11 P' (by omega) (by rw[Ye];exact oM h2) (by omega) hg;refine⟨S2,s2,dr2,yS,fs2,Uc,at2,z7,z8,z9,Ud,z11,?_,P2,q1,q2,by rw[Yp];omega⟩;rw[tO,if_pos (by unfold locked;rw[hi])];simp only[cg,oG,oH];rw[hb];exact hl
theorem ir.app{fs:List Fr}{at_ k:Nat}(P:ir cs c d M S s dr cur fs rs at_ k)(G:Store):ir cs c d M (S++G) s dr cur fs rs at_ k:=⟨P.gY.app G,P.dk.app G,P.kp.trans (Kp.app d S G),bO P.rw G,P.ok,P.run,P.fr,P.le,P.bd,P.ld⟩
theorem ir.row{fs fs':List Fr}{at_ k k':Nat}(P:ir cs c d M S s dr cur fs rs at_ k){S1:Store}{bH:Nat}(K:bU (M.length+1) S1 s bH cur' fs')(D1:dm cs c d at_ S1)(kp:Kp d M S1)(hw:S1[M.length]?=Ya (.lst ((bQ rs).map D.str)))(ok:fc r)(st:jL r (gG cur fs)=Ya (gG cur' fs'))(fr:∀f∈fs',f.ok)(le:fs'.length<=12)(bd:cur'.length<=k'/\∀f∈fs',f.out.length<=k'):
  ir cs c d M (S1.set M.length (.lst ((bQ (rs++[r])).map D.str))) s bH cur' fs' (rs++[r]) at_ k':=
 ⟨K.frame λa h _=>Yr (by omega),D1.put (by have:=P.ld;omega) (by have:=P.ld;omega) _,kp.put (Ys _) _,Y0 (Yf.mp hw).1,λq hq=>by
  rcases fQ.mp hq with z|z
  .exact P.ok q z
  .rw[Yz.mp z];exact ok,T_ _ _ _ _ _ P.run st,fr,le,bd,P.ld⟩
theorem Zlm{t:List Nat}{e:E3}(hv:Za 4 env S= .ok (.ref M.length) S)(he:e env S= .ok (.str t) S)(ht:t=glue [32] r.words)(hw:S[M.length]?=Ya (.lst ((bQ rs).map D.str)))(hl:rs.length<=1000):
  aO (aG a_ Zz (Za 4) (Zb e (Zf))) env S= .nx env (S.set M.length (.lst ((bQ (rs++[r])).map D.str))):=by
 refine(mR hv hw he hw (by rw[Yv,Yv];exact sH hl (by decide))).trans ?_;rw[show(bQ rs).map D.str++[D.str t]=(bQ (rs++[r])).map D.str by simp[bQ,ht]]
theorem ZpE{fs:List Fr}{at_ k:Nat}(P:ir cs c d M S s dr cur (f::fs) rs at_ k)(hd:f.done)(hk:k<=900)(hr:rs.length<=1000)(v0 v1 v2 v3 a7 a8 a9 a10 a11:Option D):
  ∃(S':Store) (bH:Nat) (cur':List D),Zr (aq 6 (aM vZ (Zb (Za 5) (Zb (Za 6) (Zf))))) (Zr (aO (aG a_ oX (Za 5) (Zf))) (aO (aG a_ Zz (Za 4) (Zb (eC (.str [101,110,100])) (Zf))))) [v0,v1,v2,v3,Ya (.ref M.length),Ya (.ref s),Ya (.ref dr),a7,a8,a9,a10,a11] S= .nx [v0,v1,v2,v3,Ya (.ref M.length),Ya (.ref s),Ya (.ref bH),a7,a8,a9,a10,a11] S'/\ir cs c d M S' s bH cur' fs (rs++[⟨gP,[],[]⟩]) at_(k+1):=by
 have n0:=P.n0;have hol:=P.bd.2 f Yd;have ce:=ZjR P.gY hd (by omega)
 let W:=(f.pf cur).whole
 let S4:=S++[MO.lst [W],MO.lst (f.out++[W])]
 have K4:=P.gY.app [MO.lst [W],MO.lst (f.out++[W])];have g1:S4[S.length+1]?=Ya (.lst (f.out++[W])):=by show(S++_)[_]?=_;rw[q_];rfl
 have K5:=K4.pop g1 (by omega) (Gj P.gY.lt.1 (u_ _))
 let S5:=S4.set s (.lst (fs.map λf=>D.ref f.e).reverse)
 have T7:S4[s]?=Ya (.lst ((fs.map λf=>D.ref f.e).reverse++[D.ref f.e])):=by rw[K4.hs,Yu,uJ]
 have hs0:=P.gY.lo.2.1 s Yd;have ld:=P.ld;have hw5:S5[M.length]?=Ya (.lst ((bQ rs).map D.str)):=(Yr (by omega)).trans (bO P.rw _);have P2:=P.row (r:=⟨gP,[],[]⟩) (k':=k+1) K5 ((P.dk.app _).put (by omega) (by omega) _) ((P.kp.trans (Kp.app d S _)).put (by omega) _) hw5 ZpL (Zlx hd (by omega)) (λg hg=>P.fr g (Yc _ hg)) (by have:=P.le;rw[Yp]at this;omega) ⟨by rw[Ye];exact oM hol,λg hg=>qM (P.bd.2 g (Yc _ hg))⟩;refine⟨_,S.length+1,f.out++[W],(Zi (Zo (tR rfl rfl ce))).trans ((Zi (p7 (KN rfl T7))).trans ?_),P2⟩;exact Zlm (r:=⟨gP,[],[]⟩) rfl rfl rfl hw5 hr
theorem ZrF{fs:List Fr}{at_ k:Nat}(P:ir cs c d M S s dr cur (f::fs) rs at_ k)(hk:k<=800)(hr:rs.length<=900)(v0 v1 v2 v3 a7 a8 a9 a10 a11:Option D):
  ∃(S':Store) (bH:Nat) (cur':List D) (rs':List Rw),T9 [v0,v1,v2,v3,Ya (.ref M.length),Ya (.ref s),Ya (.ref dr),a7,a8,a9,a10,a11] S= .nx [v0,v1,v2,v3,Ya (.ref M.length),Ya (.ref s),Ya (.ref bH),a7,a8,a9,a10,a11] S'/\ir cs c d M S' s bH cur' fs rs' at_(k+1)/\rs'.length<=rs.length+2/\gl (bQ rs')<=gl (bQ rs)+9:=by
 have K:=P.gY;have n0:=P.n0;have ld:=P.ld;have gE:∀q:List Rw,gl (bQ (q++[⟨gP,[],[]⟩]))=gl (bQ q)+4:=λq=>by rw[bQ,jR];exact K9 _ _
 have gL:∀q:List Rw,gl (bQ (q++[⟨gh,[],[]⟩]))=gl (bQ q)+5:=λq=>by rw[bQ,jR];exact K9 _ _
 let E:bK:=[v0,v1,v2,v3,Ya (.ref M.length),Ya (.ref s),Ya (.ref dr),a7,a8,a9,a10,a11]
 by_cases hc:f.w=gO/\f.ah=Yn
 .have c1:bC (e2 aV (e2 Zn (e2 Zn (Za 5) (e1 cj (eC (.int 1)))) (eC (.int 0))) (eC (.str [119,104,101,110]))) (e2 nC (e2 Zn (e2 Zn (Za 5) (e1 cj (eC (.int 1)))) (eC (.int 3))) (eC .non)) E S= .ok (.bl true) S:=by
   rw[iC (M1:=S) (Zh (K.top0 rfl) rfl (iI.trans (by rw[decide_eq_true hc.1])))];exact Zh (K.GQ rfl) rfl ((TY f.ah S).trans (by rw[hc.2];rfl))
  have K3:=K.els cur
  let S3:=S.set f.e (Fr.obj {f with ah:=Ya cur})
  have l3:S3.length=S.length:=rW ..;have hm:f.e∈gF s (f::fs):=Yc _ Yd;have hlo:=K.lo.2.1 _ hm
  let S4:=S3++[MO.lst []]
  have K4:bU (M.length+1) S4 s S3.length [] ({f with ah:=Ya cur}::fs):=(K3.app _).now (Zq _ _ _) (by omega) (Gj K3.lt.1 (Ys _));have p1:qY (e2 Zn (Za 5) (e1 cj (eC (.int 1)))) (eC (.int 3)) (aA gA (Zb (Za 6) (Zf))) E S= .nx E S3:=p7 (d:=.non) (Zwe (b7 rfl (oY K.hc)) (K.top rfl) rfl (ZsZ (K.he f Yd)));have hw4:S4[M.length]?=Ya (.lst ((bQ rs).map D.str)):=bO ((Yr (by omega)).trans P.rw) _;have P2:=P.row (r:=⟨gh,[],[]⟩) (k':=k) K4 ((P.dk.put (by omega) (by omega) _).app _) ((P.kp.put (by omega) _).trans (Kp.app d _ _)) hw4 Zrc (ZlQ hc.1 hc.2) (λg hg=>by
   rcases Ym.mp hg with e|e
   .rw[e];exact .inl hc.1
   .exact P.fr g (Yc _ e)) P.le ⟨fG _,λg hg=>by
   rcases Ym.mp hg with e|e
   .rw[e];exact P.bd.2 f Yd
   .exact P.bd.2 g (Yc _ e)⟩
  obtain⟨S',bH,cur',h2,P3⟩:=ZpE P2 (.inl ⟨hc.1,cur,rfl⟩) (by omega) (by rw[Ye];exact oM (Yk hr (by decide))) v0 v1 v2 v3 a7 a8 a9 a10 a11;refine⟨S',bH,cur',_,?_,P3,by simp,by rw[gE,gL];omega⟩;refine(Zi ((eY c1).trans ((Zi p1).trans ((Zi (Zo (d:=.ref S3.length) (M':=S4) (env':=[v0,v1,v2,v3,Ya (.ref M.length),Ya (.ref s),Ya (.ref S3.length),a7,a8,a9,a10,a11]) (cX rfl rfl) rfl)).trans (Zlm (r:=⟨gh,[],[]⟩) rfl rfl rfl hw4 (by omega)))))).trans h2
 .have c1:bC (e2 aV (e2 Zn (e2 Zn (Za 5) (e1 cj (eC (.int 1)))) (eC (.int 0))) (eC (.str [119,104,101,110]))) (e2 nC (e2 Zn (e2 Zn (Za 5) (e1 cj (eC (.int 1)))) (eC (.int 3))) (eC .non)) E S= .ok (.bl false) S:=by
   by_cases q:f.w=gO
   .rw[iC (M1:=S) (Zh (K.top0 rfl) rfl (iI.trans (by rw[decide_eq_true q])))];refine Zh (K.GQ rfl) rfl ((TY f.ah S).trans ?_);cases e:f.ah with
    |none=>exact absurd ⟨q,e⟩ hc|some _=>rfl
   .exact lJ (Zh (K.top0 rfl) rfl (iI.trans (by rw[decide_eq_false q])))
  have hdone:f.done:=by
   rcases P.fr f Yd with q|q
   .cases e:f.ah with
    |none=>exact absurd ⟨q,e⟩ hc|some a=>exact .inl ⟨q,a,e⟩
   .exact .inr q
  obtain⟨S',bH,cur',h2,P3⟩:=ZpE P hdone (by omega) (by omega) v0 v1 v2 v3 a7 a8 a9 a10 a11;exact⟨S',bH,cur',_,(Zi (cR c1)).trans h2,P3,by simp,by rw[gE];omega⟩
theorem Zlb:∀(fs:List Fr) (fuel:Nat) (S:Store) (s dr:Nat) (cur:List D) (rs:List Rw) (at_ k:Nat) (v0 v1 v2 v3 a7 a8 a9 a10 a11:Option D),ir cs c d M S s dr cur fs rs at_ k->fs.length<fuel->k+fs.length<=700->rs.length+2*fs.length<=800 ->
  ∃(S':Store) (bH:Nat) (cur':List D) (rs':List Rw),q8 (e2 p_ (Za 5) (bf (Zf))) T9 fuel [v0,v1,v2,v3,Ya (.ref M.length),Ya (.ref s),Ya (.ref dr),a7,a8,a9,a10,a11] S= .nx [v0,v1,v2,v3,Ya (.ref M.length),Ya (.ref s),Ya (.ref bH),a7,a8,a9,a10,a11] S'/\ir cs c d M S' s bH cur' [] rs' at_(k+fs.length)/\rs'.length<=rs.length+2*fs.length/\gl (bQ rs')<=gl (bQ rs)+9*fs.length
 |[],fuel,S,s,dr,cur,rs,at_,k,v0,v1,v2,v3,a7,a8,a9,a10,a11,P,h1,_,_=>by obtain⟨f,rfl⟩:∃f,fuel=f+1:=⟨fuel-1,by omega⟩;refine⟨S++[.lst []],dr,cur,rs,?_,P.app _,by simp,by simp⟩;rw[Ad,P.gY.Ck rfl];rfl|f::fs,fuel,S,s,dr,cur,rs,at_,k,v0,v1,v2,v3,a7,a8,a9,a10,a11,P,h1,h2,h3=>by rw[Yp]at h1 h2 h3;obtain⟨n,rfl⟩:∃n,fuel=n+1:=⟨fuel-1,by omega⟩;obtain⟨S1,Ue,Mu,Ug,hb,P1,q1,q2⟩:=ZrF (P.app [.lst []]) (by omega) (by omega) v0 v1 v2 v3 a7 a8 a9 a10 a11;obtain⟨S',bH,cur',rs',hw,P',p1,p2⟩:=Zlb fs n S1 s Ue Mu Ug at_(k+1) v0 v1 v2 v3 a7 a8 a9 a10 a11 P1 (by omega) (by omega) (by omega);refine⟨S',bH,cur',rs',?_,P'.mono (by rw[Yp];omega),by rw[Yp];omega,by rw[Yp];omega⟩;rw[Ad,P.gY.Ck rfl];show(match T9 _ _ with| .nx e M'=>_| .ct e M'=>_| .bk e M'=>_|o=>o)=_;rw[hb];exact hw
theorem Zrx{many:Nat}(dk:dm cs c d at_ M)(hnr:M[nr]?=Ya (.lst (names.map D.str)))(nd:nr≠d)(hn:names.length=12)(hnm:∀x∈names,gB x)(hm:many<=400)(ha:at_ <100000):
  ∃(S:Store) (n:Nat) (rs:List Rw) (ds:List D) (at':Nat),Ks [.ref d,.ref nr,.int (many:Int),.int 3400] M= .ok (.ref n) S/\S[n]?=Ya (.lst [.ref M.length,.tup ds])/\S[M.length]?=Ya (.lst ((bQ rs).map D.str))/\dm cs c d at' S/\Kp d M S/\(∀r∈rs,fc r)/\lW rs K_=Ya [⟨j9,[],[],ds⟩]/\rs.length<=424/\gl (bQ rs)<=3509/\ds.length<=412/\at'<=at_ +48400:=by
 have ld:=dk.lt
 let M1:=M++[MO.lst []]
 let M2:=M1++[MO.lst []]
 let M3:=M2++[MO.lst []]
 have l1:M1.length=M.length+1:=by simp[M1]
 have l2:M2.length=M.length+2:=by simp[M2,M1]
 have K0:bU (M.length+1) M3 M1.length M2.length [] []:=⟨bO (Zq M1 _ _) _,(λf h=>nomatch h),(λf h=>nomatch h),Zq M2 _ _,by simp,λa ha=>⟨by rw[Yz.mp ha];omega,(λf h=>nomatch h)⟩,by omega,λa ha=>by rw[Yz.mp ha];omega,(λf h=>nomatch h)⟩;have P0:ir cs c d M M3 M1.length M2.length [] [] [] at_ 0:=⟨K0,((dk.app _).app _).app _,((Kp.app d M _).trans (Kp.app d _ _)).trans (Kp.app d _ _),bO (bO (Zq M _ _) _) _,(λr h=>nomatch h),rfl,(λf h=>nomatch h),fG _,⟨Ys _,(λf h=>nomatch h)⟩,ld⟩;have Aef:(lG 0 many).length=many:=by simp[lG]
 obtain⟨S1,s1,Ue,Mu,fs1,Ug,at1,y7,y8,y9,y10,y11,hl,P1,q1,q2,q3⟩:=Znz hnr nd hn hnm (it:=⟨lG 0 many,Yn⟩) rfl (v2:=Ya (.int (many:Int))) (lG 0 many) M3 M1.length M2.length [] [] [] at_ 0 Yn Yn Yn Yn P0 (by omega) (Ys _) (by omega) (by decide);have hf:=P1.le;obtain⟨S2,dr2,yS,Uc,hw,P2,p1,p2⟩:=Zlb fs1 1000000 S1 s1 Ue Mu Ug at1 400 (Ya (.ref d)) (Ya (.ref nr)) (Ya (.int (many:Int))) (Ya (.int 3400)) y7 y8 y9 y10 y11 P1 (by omega) (by omega) (by omega);refine⟨S2++[.lst [.ref M.length,.tup yS]],S2.length,Uc,yS,at1,?_,Zq _ _ _,bO P2.rw _,P2.dk.app _,P2.kp.trans (Kp.app d _ _),P2.ok,P2.run,by omega,by omega,by have:=P2.bd.1;omega,by omega⟩;refine(jy (M':=S2++[.lst [.ref M.length,.tup yS]]) (env:=[Ya (.ref d),Ya (.ref nr),Ya (.int (many:Int)),Ya (.int 3400),Yn,Yn,Yn,Yn,Yn,Yn,Yn,Yn]) ?_).trans (K8 P2.kp.len);unfold Sv;refine(Zi (Zo (d:=.ref M.length) (M':=M1) (cX rfl rfl))).trans ((Zi (Zo (d:=.ref M1.length) (M':=M2) (cX rfl rfl))).trans ((Zi (Zo (d:=.ref M2.length) (M':=M3) (cX rfl rfl))).trans ((Zi (Zo (d:=.int 0) rfl)).trans ?_)));have hr:qZ (Za 2) [Ya (.ref d),Ya (.ref nr),Ya (.int (many:Int)),Ya (.int 3400),Ya (.ref M.length),Ya (.ref M1.length),Ya (.ref M2.length),Ya (.int 0),Yn,Yn,Yn,Yn] M3= .ok ⟨lG 0 many,Yn⟩ M3:=by
  have:(many:Int)<=1000000/\ -1000000<=(many:Int):=by omega
  simp[this]
 refine(Zi ((xT hr).trans hl)).trans ((Zi hw).trans ?_);exact dh (cX (ds:=[.ref M.length,.tup yS]) (Zx rfl (Zx (b7 rfl (oY P2.gY.hc)) rfl)) rfl)
end
noncomputable abbrev lnB:S3:=(Zr (aq 9 (e2 Zn (Za 2) (e2 Zy (e2 aQ (Za 4) (Za 8)) (eC (.int 26))))) (Zr (aq 10 (e2 iz (Za 9) (e2 aQ (eC (.int 1)) (e2 Zy (e2 bG (Za 4) (eC (.int 26))) (eC (.int 8)))))) (Zr (aJ (e2 aV (e2 Zy (Za 3) (eC (.int 4))) (eC (.int 1))) (aq 10 (e2 aQ (e2 Zn (Za 1) (e2 Zy (e2 aQ (Za 8) (Za 4)) (eC (.int 12)))) (Za 6))) (aW)) (Zr (aJ (e2 aV (e2 Zy (Za 3) (eC (.int 4))) (eC (.int 2))) (Zr (aq 10 (e2 aQ (e2 iz (Za 5) (e2 aQ (eC (.int 1)) (e2 Zy (Za 8) (eC (.int 8))))) (e2 iz (e2 Zn (Za 2) (e2 Zy (e2 aQ (Za 4) (eC (.int 1))) (eC (.int 26)))) (e2 bG (Za 8) (eC (.int 8)))))) (aq 10 (eN (Za 10) (fW) (dN (eC (.int 8)))))) (aW)) (Zr (aJ (e2 aV (e2 Zy (Za 3) (eC (.int 4))) (eC (.int 3))) (aq 10 (e2 aQ (e2 aQ (Za 6) (Za 9)) (e2 iz (e2 Zn (Za 2) (e2 Zy (e2 bG (Za 4) (eC (.int 7))) (eC (.int 26)))) (e2 Zy (e2 bG (Za 4) (eC (.int 676))) (eC (.int 7)))))) (aW)) (Zr (aJ (e2 xX (Za 10) (Za 1)) (aq 10 (e2 aQ (Za 10) (eC (.str [120])))) (aW)) (aO (aG a_ Zz (Za 7) (Zb (Za 10) (Zf))))))))))
noncomputable def bM(x:Int):Nat:=97+(x % 26).toNat
theorem yK(x:Int):97<=bM x/\bM x<=122:=by have a:=pO x (b:=26) (by decide);have b:=sU x (b:=26) (by decide);unfold bM;omega
theorem Gm(x:Int)(M:Store):Zn (.str LET) (.int (x % 26)) M= .ok (.str [bM x]) M:=by
 have a:=pO x (b:=26) (by decide);have b:=sU x (b:=26) (by decide);obtain⟨n,hn⟩:∃n:Nat,x % 26=(n:Int):=⟨(x % 26).toNat,by omega⟩;have hlt:n<26:=by omega
 have key:∀n:Nat,n<26->LET[n]?=Ya (97+n):=by decide
 unfold bM;rw[hn,Jy,eZ,key n hlt,qN];exact if_pos (by decide)
theorem mul_str(c n:Nat)(hn:n<1000)(M:Store):iz (.str [c]) (.int (n:Int)) M= .ok (.str (Yq n c)) M:=by rw[ZpW,if_pos ⟨by show 1*n<=1000000;omega,by omega,by omega⟩];simp
theorem add_str{y:List Nat}(h:x.length+y.length<=1000)(M:Store):aQ (.str x) (.str y) M= .ok (.str (x++y)) M:=by rw[Zrj,if_pos (Yk h (by decide))]
noncomputable def qz(mo:Int)(k:Nat):List Nat:=Yq (1+(mo / 26 % 8).toNat) (bM (mo+k))
noncomputable def ut(mo:Int)(k:Nat):List Nat:=cT.getD (((k:Int)+mo) % 12).toNat []++[bM (mo / 26)]
noncomputable def n_(mo:Int)(k:Nat):List Nat:=(Yq (1+k % 8) (bM mo)++Yq (k / 8) (bM (mo+1))).take 8
noncomputable def uv(mo:Int)(k:Nat):List Nat:=[bM (mo / 26)]++[bM (mo+k)]++Yq (mo / 676 % 7).toNat (bM (mo / 7))
noncomputable def jr(q:Int)(mo:Int)(k:Nat):List Nat:=if q=3 then uv mo k else if q=2 then n_ mo k else if q=1 then ut mo k else qz mo k
noncomputable def je(q mo:Int)(k:Nat):List Nat:=if jr q mo k∈cT then jr q mo k++[120]else jr q mo k
theorem Cp:∀w∈cT,3<=w.length/\w.length<=5/\(∀c∈w,97<=c/\c<=122)/\w.dropLast∉cT/\w.getLast?≠Ya 120/\w[0]?≠w[1]?:=by decide
theorem Gn(mo:Int)(k:Nat):∃j:Nat,((k:Int)+mo) % 12=(j:Int)/\j<12/\cT.getD (((k:Int)+mo) % 12).toNat []∈cT/\cT[j]?=Ya (cT.getD (((k:Int)+mo) % 12).toNat []):=by
 obtain⟨j,ej,hj⟩:=mO ((k:Int)+mo) 12 (by decide);have ej:((k:Int)+mo) % 12=(j:Int):=ej;have hj':j<cT.length:=hj;refine⟨j,ej,hj,?_,?_⟩
 .rw[ej,qN,CK,Y7 hj'];exact uK _
 .rw[ej,qN,CK,Y7 hj'];rfl
theorem Ld(h:97<=c/\c<=122):∀x∈Yq n c,97<=x/\x<=122:=λx hx=>by rw[List.eq_of_mem_replicate hx];exact h
theorem Gp{y:List Nat}(h:∀c∈x,97<=c/\c<=122)(k:∀c∈y,97<=c/\c<=122):∀c∈x++y,97<=c/\c<=122:=λc hc=>(fQ.mp hc).elim (h c) (k c)
theorem Le(h:97<=a/\a<=122):∀c∈[a],97<=c/\c<=122:=λc hc=>by rw[Yz.mp hc];exact h
theorem Zni(q mo:Int)(k:Nat):1<=(jr q mo k).length/\(jr q mo k).length<=8/\∀c∈jr q mo k,97<=c/\c<=122:=by
 have m8:0<=mo / 26 % 8/\mo / 26 % 8<8:=⟨pO _ (by decide),sU _ (by decide)⟩;have m7:0<=mo / 676 % 7/\mo / 676 % 7<7:=⟨pO _ (by decide),sU _ (by decide)⟩;unfold jr;by_cases h3:q=3
 .rw[if_pos h3];refine⟨by simp[uv],by simp[uv];omega,Gp (Gp (Le (yK _)) (Le (yK _))) (Ld (yK _))⟩
 rw[if_neg h3];by_cases h2:q=2
 .rw[if_pos h2];refine⟨by simp[n_];omega,by simp[n_];omega,λc hc=>Gp (Ld (yK _)) (Ld (yK _)) c (List.take_subset _ _ hc)⟩
 rw[if_neg h2];by_cases h1:q=1
 .rw[if_pos h1];obtain⟨j,_,_,hm,_⟩:=Gn mo k;have w:=Cp _ hm;exact⟨by rw[ut,Ye];exact HS _ _,by rw[ut,Ye,Y8];omega,Gp w.2.2.1 (Le (yK _))⟩
 .rw[if_neg h1];exact⟨by rw[qz,l_];omega,by rw[qz,l_];omega,Ld (yK _)⟩
theorem Zuj(q mo:Int)(k:Nat):gB (je q mo k):=by
 have f:=Zni q mo k;unfold je;by_cases h:jr q mo k∈cT
 .rw[if_pos h];have w:=Cp _ h;exact⟨by rw[Ye];exact HS _ _,by rw[Ye,Y8];omega,λz=>(Cp _ z).2.2.2.2.1 (by simp),Gp f.2.2 (Le (by decide))⟩
 .rw[if_neg h];exact⟨f.1,f.2.1,h,f.2.2⟩
theorem Znx{mo:Int}(hi:i<12)(hj:j<12)(h:bM (mo+i)=bM (mo+j)):i=j:=by have a1:=pO (mo+i) (b:=26) (by decide);have a2:=pO (mo+j) (b:=26) (by decide);unfold bM at h;omega
theorem Zoa{q mo:Int}{k m:Nat}(h:m<(jr q mo k).length):(je q mo k)[m]?=(jr q mo k)[m]?:=by
 unfold je;split
 .exact Yi h
 .rfl
theorem Zry{q mo:Int}(hi:i<12)(hj:j<12)(h:je q mo i=je q mo j):i=j:=by
 by_cases h3:q=3
 .have e:∀k:Nat,jr q mo k=uv mo k:=λk=>by unfold jr;rw[if_pos h3]
  have g:∀k:Nat,(je q mo k)[1]?=Ya (bM (mo+k)):=λk=>by rw[Zoa (by rw[e];simp[uv]),e];rfl
  have:=g i;rw[h,g j]at this;exact(Znx hj hi (Y6 this)).symm
 by_cases h2:q=2
 .have e:∀k:Nat,jr q mo k=n_ mo k:=λk=>by unfold jr;rw[if_neg h3,if_pos h2]
  have ne:bM mo≠bM (mo+1):=λz=>by unfold bM at z;omega
  have form:∀k:Nat,k<12->(k<8/\n_ mo k=Yq (k+1) (bM mo))\/(8<=k/\n_ mo k=Yq (k-7) (bM mo)++[bM (mo+1)]):=λk hk=>by
   by_cases z:k<8
   .left;refine⟨z,?_⟩;rw[n_,Nat.mod_eq_of_lt z,Nat.div_eq_of_lt z,kE 1 k,List.replicate_zero,jQ,qI (by rw[l_];omega)]
   .right;refine⟨by omega,?_⟩;have d1:k / 8=1:=by omega
    have d2:1+k % 8=k-7:=by omega
    rw[n_,d1,d2,qI (by rw[Ye,l_,l_];omega)];rfl
  have nw:∀k:Nat,k<12->je q mo k=n_ mo k:=λk hk=>by
   unfold je;rw[e,if_neg λz=>?_];have w:=Cp _ z;rcases form k hk with⟨z1,f⟩|⟨z1,f⟩
   .rw[f,l_]at w;apply w.2.2.2.2.2;rw[CJ (by omega),CJ (by omega)]
   .rw[f,Ye,l_,Y8]at w;apply w.2.2.2.2.2;rw[Yi (by rw[l_];omega),Yi (by rw[l_];omega),CJ (by omega),CJ (by omega)]
  rw[nw i hi,nw j hj]at h;have hl:=congrArg Yes h;have hg:=congrArg List.getLast? h;rcases form i hi with⟨z1,f1⟩|⟨z1,f1⟩<;>rcases form j hj with⟨z2,f2⟩|⟨z2,f2⟩<;>rw[f1,f2]at hl hg
  .simp at hl;exact hl
  .simp[Wb]at hg;exact absurd hg ne
  .simp[Wb]at hg;exact absurd hg.symm ne
  .simp at hl;omega
 by_cases h1:q=1
 .have e:∀k:Nat,jr q mo k=ut mo k:=λk=>by unfold jr;rw[if_neg h3,if_neg h2,if_pos h1]
  have nw:∀k:Nat,je q mo k=ut mo k:=λk=>by unfold je;rw[e,if_neg λz=>?_];obtain⟨_,_,_,hm,_⟩:=Gn mo k;have w:=(Cp _ z).2.2.2.1;rw[ut,List.dropLast_concat]at w;exact w hm
  rw[nw,nw]at h;have h:=List.append_cancel_right h;obtain⟨a,ea,ha,_,ga⟩:=Gn mo i;obtain⟨b,eb,hb,_,gb⟩:=Gn mo j;rw[h]at ga;have hn:cT.Nodup:=by decide
  have:=(Wl (show a<cT.length from ha) hn).mp (ga.trans gb.symm);omega
 .have e:∀k:Nat,jr q mo k=qz mo k:=λk=>by unfold jr;rw[if_neg h3,if_neg h2,if_neg h1]
  have g:∀k:Nat,(je q mo k)[0]?=Ya (bM (mo+k)):=λk=>by rw[Zoa (by rw[e,qz,l_];omega),e,qz,CJ (by omega)]
  have:=g i;rw[h,g j]at this;exact(Znx hj hi (Y6 this)).symm
theorem ZtB(h:M[n]?=Ya (.lst (cT.map D.str)))(x:List Nat):xX (.str x) (.ref n) M= .ok (.bl (decide (x∈cT))) M:=by
 have he:∀l:List (List Nat),(l.map D.str).any (λy=>dM y (.str x))=decide (x∈l):=by
  intro l
  induction l with
  |nil=>rfl|cons y l ih=>
   rw[Yu,kh,ih,Zs4];by_cases h:y=x
   .subst h;simp
   .have h':x≠y:=λe=>h e.symm;simp[h,h']
 have hf:(dg (.str x)&&(cT.map D.str).all dg)=true:=rfl;rw[Zqy,h];simp only[hf,if_true,he]
theorem Uh{c f:E3}{p:Prop}[Decidable p]{x y:D}(hc:c env M= .ok (.bl (decide p)) M)(hf:f env M= .ok x M)(hi:env[i]?=Ya (Ya y)):aJ c (aq i f) aW env M= .nx (env.set i (Ya (if p then x else y))) M:=by
 by_cases h:p
 .rw[decide_eq_true h]at hc;rw[if_pos h];exact(eY hc).trans (Zo hf rfl)
 .rw[decide_eq_false h]at hc;rw[if_neg h];refine(cR hc).trans ?_;congr 1;apply yV;intro j;by_cases e:j=i
  .subst e;rw[Y0 (Yf.mp hi).1,hi]
  .rw[Yr (cO e)]
theorem Zse{on:Nat}{v:Int}{acc:List D}{k:Nat}(ho:M[on]?=Ya (.lst (cT.map D.str)))(hk:k<12)(hl:acc.length<100){v0 x9 x10:Option D}:
  ∃y9 y10,lnB [v0,Ya (.ref on),Ya (.str LET),Ya (.int v),Ya (.int (v / 4)),Ya (.str [bM (v / 4)]),Ya (.str [bM (v / 4 / 26)]),Ya (.ref M.length),Ya (.int (k:Int)),x9,x10] (M++[.lst acc])= .nx [v0,Ya (.ref on),Ya (.str LET),Ya (.int v),Ya (.int (v / 4)),Ya (.str [bM (v / 4)]),Ya (.str [bM (v / 4 / 26)]),Ya (.ref M.length),Ya (.int (k:Int)),y9,y10] (M++[.lst (acc++[.str (je (v % 4) (v / 4) k)])]):=by
 let mo:=v / 4
 let S:=M++[MO.lst acc]
 have hoS:S[on]?=Ya (.lst (cT.map D.str)):=bO ho _;have m8:0<=mo / 26 % 8/\mo / 26 % 8<8:=⟨pO _ (by decide),sU _ (by decide)⟩;have m7:0<=mo / 676 % 7/\mo / 676 % 7<7:=⟨pO _ (by decide),sU _ (by decide)⟩
 let En (n:List Nat):bK:=[v0,Ya (.ref on),Ya (.str LET),Ya (.int v),Ya (.int mo),Ya (.str [bM mo]),Ya (.str [bM (mo / 26)]),Ya (.ref M.length),Ya (.int (k:Int)),Ya (.str [bM (mo+k)]),Ya (.str n)]
 have q4:∀(n:List Nat) (c:Int),e2 aV (e2 Zy (Za 3) (eC (.int 4))) (eC (.int c)) (En n) S= .ok (.bl (decide (v % 4=c))) S:=λn c=>Zh (Zh rfl rfl (dX (by decide))) rfl (by simp only[aV,xN]);have s9:aq 9 (e2 Zn (Za 2) (e2 Zy (e2 aQ (Za 4) (Za 8)) (eC (.int 26)))) [v0,Ya (.ref on),Ya (.str LET),Ya (.int v),Ya (.int mo),Ya (.str [bM mo]),Ya (.str [bM (mo / 26)]),Ya (.ref M.length),Ya (.int (k:Int)),x9,x10] S= .nx [v0,Ya (.ref on),Ya (.str LET),Ya (.int v),Ya (.int mo),Ya (.str [bM mo]),Ya (.str [bM (mo / 26)]),Ya (.ref M.length),Ya (.int (k:Int)),Ya (.str [bM (mo+k)]),x10] S:=Zo (Zh rfl (Zh (Zh rfl rfl rfl) rfl (dX (by decide))) (Gm _ _));obtain⟨e8,he8⟩:∃n:Nat,mo / 26 % 8=(n:Int):=⟨(mo / 26 % 8).toNat,by omega⟩;obtain⟨e7,he7⟩:∃n:Nat,mo / 676 % 7=(n:Int):=⟨(mo / 676 % 7).toNat,by omega⟩;have J3:aq 10 (e2 iz (Za 9) (e2 aQ (eC (.int 1)) (e2 Zy (e2 bG (Za 4) (eC (.int 26))) (eC (.int 8))))) [v0,Ya (.ref on),Ya (.str LET),Ya (.int v),Ya (.int mo),Ya (.str [bM mo]),Ya (.str [bM (mo / 26)]),Ya (.ref M.length),Ya (.int (k:Int)),Ya (.str [bM (mo+k)]),x10] S= .nx (En (qz mo k)) S:=by
  refine Zo (d:=.str (qz mo k)) (Zh (M2:=S) rfl (b:=.int ((1+e8:Nat):Int)) (Zh rfl (Zh (Zh rfl rfl (iG (by decide))) rfl (dX (by decide))) ?_) ?_)
  .rw[tK,he8];congr 2
  .rw[mul_str _ _ (by omega),qz,he8,qN]
 obtain⟨j,ej,hj,hm,hg⟩:=Gn mo k;have w1:=Cp _ hm
 let n1:=qz mo k
 let n2:=if v % 4=1 then ut mo k else n1
 let n3:=if v % 4=2 then n_ mo k else n2
 let n4:=if v % 4=3 then uv mo k else n3
 have f1:e2 aQ (e2 Zn (Za 1) (e2 Zy (e2 aQ (Za 8) (Za 4)) (eC (.int 12)))) (Za 6) (En n1) S= .ok (.str (ut mo k)) S:=by refine Zh (Zh rfl (Zh (Zh rfl rfl rfl) rfl (dX (by decide))) (iB hoS (d:=.str (cT.getD (((k:Int)+mo) % 12).toNat [])) ?_)) rfl (add_str (by simp only[Y8];omega) S);rw[ej,eZ,jO,hg,ej];rfl
 have J1:=Uh (i:=10) (q4 n1 1) f1 (y:=.str n1) rfl;have k8:((k:Int)) % 8=((k % 8:Nat):Int):=by omega
 have k8d:((k:Int)) / 8=((k / 8:Nat):Int):=by omega
 have t1:e2 aQ (e2 iz (Za 5) (e2 aQ (eC (.int 1)) (e2 Zy (Za 8) (eC (.int 8))))) (e2 iz (e2 Zn (Za 2) (e2 Zy (e2 aQ (Za 4) (eC (.int 1))) (eC (.int 26)))) (e2 bG (Za 8) (eC (.int 8)))) (En n2) S= .ok (.str (Yq (1+k % 8) (bM mo)++Yq (k / 8) (bM (mo+1)))) S:=by refine Zh (Zh rfl (b:=.int ((1+k % 8:Nat):Int)) (Zh rfl (Zh rfl rfl (dX (by decide))) (by rw[tK,k8];congr 2)) (mul_str _ _ (by omega) S)) (Zh (Zh rfl (Zh (Zh rfl rfl rfl) rfl (dX (by decide))) (Gm _ _)) (b:=.int ((k / 8:Nat):Int)) (Zh rfl rfl ((iG (by decide)).trans (by rw[k8d]))) (mul_str _ _ (by omega) S)) (add_str (by simp;omega) S)
 have s12:aJ (e2 aV (e2 Zy (Za 3) (eC (.int 4))) (eC (.int 2))) (Zr (aq 10 (e2 aQ (e2 iz (Za 5) (e2 aQ (eC (.int 1)) (e2 Zy (Za 8) (eC (.int 8))))) (e2 iz (e2 Zn (Za 2) (e2 Zy (e2 aQ (Za 4) (eC (.int 1))) (eC (.int 26)))) (e2 bG (Za 8) (eC (.int 8)))))) (aq 10 (eN (Za 10) (fW) (dN (eC (.int 8)))))) (aW) (En n2) S= .nx (En n3) S:=by
  by_cases h:v % 4=2
  .have c:=q4 n2 2;rw[decide_eq_true h]at c;have e3:n3=n_ mo k:=if_pos h;rw[e3];refine(eY c).trans ((Zi (Zo (env':=En (Yq (1+k % 8) (bM mo)++Yq (k / 8) (bM (mo+1)))) t1 rfl)).trans (Zo (d:=.str (n_ mo k)) ?_ rfl));show xQ (.str _) Yn (Ya ((8:Nat):Int)) S=_;rw[zV,if_pos (by rw[Ye,l_,l_];exact Yk (show _<=100 by omega) (by decide)),ZpV];rfl
  .have c:=q4 n2 2;rw[decide_eq_false h]at c;have e3:n3=n2:=if_neg h;rw[e3];exact cR c
 have f3:e2 aQ (e2 aQ (Za 6) (Za 9)) (e2 iz (e2 Zn (Za 2) (e2 Zy (e2 bG (Za 4) (eC (.int 7))) (eC (.int 26)))) (e2 Zy (e2 bG (Za 4) (eC (.int 676))) (eC (.int 7)))) (En n3) S= .ok (.str (uv mo k)) S:=by refine(Zh (Zh rfl rfl (add_str (x:=[bM (mo / 26)]) (y:=[bM (mo+k)]) (show 1+1<=1000 by decide) S)) (Zh (Zh rfl (Zh (Zh rfl rfl (iG (by decide))) rfl (dX (by decide))) (Gm _ _)) (b:=.int (e7:Int)) (Zh (Zh rfl rfl (iG (by decide))) rfl ((dX (by decide)).trans (by rw[he7]))) (mul_str _ _ (by omega) S)) (add_str (by simp;omega) S)).trans ?_;rw[uv,he7,qN]
 have s13:=Uh (i:=10) (q4 n3 3) f3 (y:=.str n3) rfl;have eB:n4=jr (v % 4) mo k:=by show(if v % 4=3 then uv mo k else if v % 4=2 then n_ mo k else if v % 4=1 then ut mo k else qz mo k)=_;rfl
 have fB:=Zni (v % 4) mo k;have c5:e2 xX (Za 10) (Za 1) (En n4) S= .ok (.bl (decide (n4∈cT))) S:=Zh rfl rfl (ZtB hoS n4);have f5:e2 aQ (Za 10) (eC (.str [120])) (En n4) S= .ok (.str (n4++[120])) S:=Zh rfl rfl (add_str (by rw[eB,Y8];omega) S);have s14:=Uh (i:=10) c5 f5 (y:=.str n4) rfl;have en:∀(p:Prop) [Decidable p] (a b c:List Nat),(En c).set 10 (Ya (if p then D.str a else D.str b))=En (if p then a else b):=λp _ a b c=>by by_cases h:p<;>simp[h,En]
 rw[en]at J1 s13 s14;refine⟨_,_,(Zi s9).trans ((Zi J3).trans ((Zi J1).trans ((Zi s12).trans ((Zi s13).trans ((Zi s14).trans (?_:_=O3.nx (En (je (v % 4) mo k)) _))))))⟩;have eF:(if n4∈cT then n4++[120]else n4)=je (v % 4) mo k:=by rw[eB];rfl
 rw[eF];refine(Td rfl (Zq M _ []) rfl (Zq M _ []) (m_ hl (by decide))).trans ?_;simp[mo]
theorem Znu{M:Store}{on:Nat}{v:Int}(ho:M[on]?=Ya (.lst (cT.map D.str))){it:fU}(hi:it.lock=Yn){v0:Option D}:
  ∀(m k:Nat) (acc:List D) (x8 x9 x10:Option D),k+m=12->acc.length<=k->∃y8 y9 y10,iV it (cg 8) lnB ((y_ k m).map λ(i:Nat)=>D.int (i:Int)) [v0,Ya (.ref on),Ya (.str LET),Ya (.int v),Ya (.int (v / 4)),Ya (.str [bM (v / 4)]),Ya (.str [bM (v / 4 / 26)]),Ya (.ref M.length),x8,x9,x10] (M++[.lst acc])= .nx [v0,Ya (.ref on),Ya (.str LET),Ya (.int v),Ya (.int (v / 4)),Ya (.str [bM (v / 4)]),Ya (.str [bM (v / 4 / 26)]),Ya (.ref M.length),y8,y9,y10] (M++[.lst (acc++(y_ k m).map λi=>D.str (je (v % 4) (v / 4) i))])
 |0,k,acc,x8,x9,x10,_,_=>⟨x8,x9,x10,by show iV _ _ _ [] _ _=_;rw[vB,if_pos (by unfold locked;rw[hi])];simp⟩|m+1,k,acc,x8,x9,x10,h1,h2=>by obtain⟨y9,y10,hb⟩:=Zse (v:=v) (acc:=acc) (k:=k) ho (by omega) (by omega) (v0:=v0) (x9:=x9) (x10:=x10);obtain⟨z8,z9,Ud,hl⟩:=Znu ho hi m (k+1) (acc++[.str (je (v % 4) (v / 4) k)]) (Ya (.int (k:Int))) y9 y10 (by omega) (by rw[Ye];exact oM h2);refine⟨z8,z9,Ud,?_⟩;rw[Wq,Yu,Yu,tO,if_pos (by unfold locked;rw[hi])];simp only[cg,oG,oH];rw[hb];simp only;rw[hl,jg];rfl
section
variable {cs:List Int} {c d at_:Nat} {M:Store}
theorem Zqh(dk:dm cs c d at_ M)(ha:at_ <900000):∃(S:Store) (n:Nat) (names:List (List Nat)),Kq [.ref d] M= .ok (.ref n) S/\S[n]?=Ya (.lst (names.map D.str))/\M.length<=n/\names.length=12/\(∀x∈names,gB x)/\names.Nodup/\dm cs c d (at_ +1) S/\Kp d M S:=by
 have ld:=dk.lt
 let M1:=M++[MO.lst (cT.map D.str)]
 obtain⟨v,S1,hv,D1,ur,l1⟩:=(dk.app [MO.lst (cT.map D.str)]).draw (by omega);have ho:S1[M.length]?=Ya (.lst (cT.map D.str)):=ur.get (Zq M _ []) (by omega);obtain⟨y8,y9,y10,hl⟩:=Znu (v:=v) ho (it:=⟨lG 0 12,Yn⟩) rfl (v0:=Ya (.ref d)) 12 0 [] Yn Yn Yn rfl (Ys _)
 let names:=(y_ 0 12).map λi=>je (v % 4) (v / 4) i
 have en:(y_ 0 12).map (λi=>D.str (je (v % 4) (v / 4) i))=names.map D.str:=by rw[qK];rfl
 have er:(y_ 0 12).map (λ(i:Nat)=>D.int (i:Int))=lG 0 12:=by simp[lG,List.range_eq_range']
 rw[jB,en,er]at hl;have hML:M.length<=S1.length:=by rw[l1];exact len_app M _
 refine⟨S1++[.lst (names.map D.str)],S1.length,names,?_,Zq _ _ _,hML,rfl,λx hx=>by obtain⟨i,_,rfl⟩:=gH.mp hx;exact Zuj _ _ i,?_,D1.app _,((Kp.app d M _).trans ur).trans (Kp.app d S1 _)⟩
 .refine(jy (M':=S1++[.lst (names.map D.str)]) (env:=[Ya (.ref d),Yn,Yn,Yn,Yn,Yn,Yn,Yn,Yn,Yn,Yn]) ?_).trans (K8 hML);unfold Sd;refine(Zi (Zo (d:=.ref M.length) (M':=M1) (cX (ds:=cT.map D.str) rfl rfl))).trans ((Zi (Zo (d:=.str LET) rfl)).trans ((Zi (Zo (d9 rfl hv))).trans ((Zi (Zo (d:=.int (v / 4)) (Zh rfl rfl (iG (by decide))))).trans ((Zi (Zo (Zh rfl (Zh rfl rfl (dX (by decide))) (Gm _ _)))).trans ((Zi (Zo (Zh rfl (Zh (Zh rfl rfl (iG (by decide))) rfl (dX (by decide))) (Gm _ _)))).trans ((Zi (Zo (d:=.ref S1.length) (M':=S1++[.lst []]) (cX rfl rfl))).trans ?_))))));have hr:qZ (eC (.int 12)) [Ya (.ref d),Ya (.ref M.length),Ya (.str LET),Ya (.int v),Ya (.int (v / 4)),Ya (.str [bM (v / 4)]),Ya (.str [bM (v / 4 / 26)]),Ya (.ref S1.length),Yn,Yn,Yn] (S1++[.lst []])= .ok ⟨lG 0 12,Yn⟩ (S1++[.lst []]):=by simp
  exact(Zi ((xT hr).trans hl)).trans (dh rfl)
 .have key:∀l:List Nat,l.Nodup->(∀i∈l,i<12)->(l.map λi=>je (v % 4) (v / 4) i).Nodup:=by
   intro l
   induction l with
   |nil=>intro _ _;exact Nm|cons i l ih=>intro hn Mv;rw[Yu,iJ];refine⟨λhm=>?_,ih (iJ.mp hn).2 λj hj=>Mv j (Yc _ hj)⟩;obtain⟨j,hj,e⟩:=gH.mp hm;have:=Zry (Mv j (Yc _ hj)) (Mv i Yd) e;exact(iJ.mp hn).1 (this▸hj)
  exact key _ (by decide) (by decide)
theorem Zp0(dk:dm cs c d at_ M)(ha:at_ <900000)(hnr:M[nr]?=Ya (.lst (names.map D.str)))(nd:nr≠d)(hn:names.length=12)(hnd:names.Nodup):
  ∃(S:Store) (tk:List (List Nat)),Ku [.ref d,.ref nr] M= .ok (.tup (tk.map D.str)) S/\tk.length<=6/\tk.Nodup/\(∀x∈tk,x∈names)/\j_ cs c d M S at_(at_ +1) 1:=by
 have ld:=dk.lt;obtain⟨v,S1,hv,D1,ur,l1⟩:=dk.draw (by omega);have hn1:S1[nr]?=Ya (.lst (names.map D.str)):=ur.get hnr nd;obtain⟨m,em,hm⟩:=mO v 7 (by decide);have em:v % 7=(m:Int):=em
 let g:Nat->List Nat:=λk=>names.getD ((v / 7+k) % 12).toNat []
 have gx:∀k:Nat,∃a:Nat,(v / 7+k) % 12=(a:Int)/\a<12/\names[a]?=Ya (g k):=λk=>by obtain⟨a,ea,ha⟩:=mO (v / 7+k) 12 (by decide);have ea:(v / 7+k) % 12=(a:Int):=ea;refine⟨a,ea,ha,?_⟩;show _=Ya (names.getD ((v / 7+k) % 12).toNat []);rw[ea,qN,CK,Y7 (by omega)];rfl
 let tk:=(gU m).map g
 have lc:fK (qZ (e2 Zy (Za 2) (eC (.int 7)))) 1 (cg 3) [] (e2 Zn (Za 1) (e2 Zy (e2 aQ (e2 bG (Za 2) (eC (.int 7))) (Za 3)) (eC (.int 12)))) [Ya (.ref d),Ya (.ref nr),Ya (.int v)] S1= .ok (.ref S1.length) (S1++[.lst ((gU m).map λk=>D.str (g k))]):=by
  refine Tg (enc:=λ(k:Nat)=>D.int (0+(k:Int))) (h:=λk=>D.str (g k)) (as:=gU m) (M1:=S1) (lock:=Yn) (λe=>∃x,e=[Ya (.ref d),Ya (.ref nr),Ya (.int v),x]) ?_ (λn z=>nomatch z) ⟨_,rfl⟩ ?_ (by rw[Hg];omega)
  .have hmod:e2 Zy (Za 2) (eC (.int 7)) [Ya (.ref d),Ya (.ref nr),Ya (.int v)] S1= .ok (.int (m:Int)) S1:=Zh rfl rfl ((dX (by decide)).trans (by rw[em]));have:(m:Int)<=1000000/\ -1000000<=(m:Int):=by omega
   simp only[qZ,hmod,R3.bind];simp[this,lG]
  .intro k hk env ⟨x,e⟩;subst e;obtain⟨a,ea,Aeg,hga⟩:=gx k;refine⟨_,rfl,⟨_,rfl⟩,λz=>Zh rfl (Zh (Zh (Zh rfl rfl (iG (by decide))) rfl rfl) rfl (dX (by decide))) (iB (bO hn1 _) ?_)⟩;rw[zy,ea,eZ,jO,hga];rfl
 have etk:(gU m).map (λk=>D.str (g k))=tk.map D.str:=by rw[qK];rfl
 rw[etk]at lc;have Aeh:names.length=12:=hn;obtain⟨S,e,Dr⟩:=Gi (at_:=at_) (x:=.tup (tk.map D.str)) (n:=1) ld (D1.app [.lst (tk.map D.str)]) (ur.trans (Kp.app d S1 _)) (Ys _);refine⟨S,tk,(jy (M':=S1++[.lst (tk.map D.str)]) (env:=[Ya (.ref d),Ya (.ref nr),Yn]) ?_).trans e,by simp[tk];omega,?_,λx hx=>?_,Dr⟩
 .unfold Sw;exact(Zi (Zo (d9 rfl hv))).trans (dh (b7 lc (oY (Zq _ _ _))))
 .have key:∀l:List Nat,l.Nodup->(∀i∈l,i<7)->(l.map g).Nodup:=by
   intro l
   induction l with
   |nil=>intro _ _;exact Nm|cons i l ih=>
    intro hn Ui;rw[Yu,iJ];refine⟨λhm=>?_,ih (iJ.mp hn).2 λj hj=>Ui j (Yc _ hj)⟩;obtain⟨j,hj,e⟩:=gH.mp hm;obtain⟨a,ea,ha,ga⟩:=gx j;obtain⟨b,eb,hb,gb⟩:=gx i;rw[e]at ga;have:=(Wl (show a<names.length by omega) hnd).mp (ga.trans gb.symm);have h1:=Ui j (Yc _ hj);have h2:=Ui i Yd;have:i=j:=by omega
    exact(iJ.mp hn).1 (this▸hj)
  exact key _ List.nodup_range λi hi=>by have:=Hh.mp hi;omega
 .obtain⟨k,_,rfl⟩:=gH.mp hx;obtain⟨a,_,_,ga⟩:=gx k;exact wL ga
end
noncomputable def gj:Nat->D->Bool
 |_,.int _=>true|_,.str _=>true|_,.bl _=>true|n+1,.tup ds=>decide (ds.length<=1000)&&ds.all (gj n)
 |_,_=>false
theorem ZqP:∀(n:Nat) (d:D) (M:Store),gj n d=true->pA (n+1) [d,d] M= .ok (.bl true) M:=by
 intro n
 induction n with
 |zero=>
  intro d M h;cases d with
  |str x=>simp[pA,rE,Zr,aq,aX,aJ,aW,aO,bY,dW,below,bR,lg]|int i=>simp[pA,rE,Zr,aq,aX,aJ,aW,aO,bY,dW,below,bR,lg]|bl b=>simp[pA,rE,Zr,aq,aX,aJ,aW,aO,bY,dW,below,bR,lg]|_=>simp[gj]at h
 | succ n ih=>
  intro d M h;cases d with
  |str x=>simp[pA,rE,Zr,aq,aX,aJ,aW,aO,bY,dW,below,bR,lg]|int i=>simp[pA,rE,Zr,aq,aX,aJ,aW,aO,bY,dW,below,bR,lg]|bl b=>simp[pA,rE,Zr,aq,aX,aJ,aW,aO,bY,dW,below,bR,lg]|tup ds=>
   simp only[gj,Y4,decide_eq_true_eq,gQ]at h;obtain⟨hl,hd⟩:=h;show bY 2 2 (rE (pA (n+1))) [.tup ds,.tup ds] M=_;generalize pA (n+1)=F at ih;have lc:=vG (α:=Nat) (enc:=λk=>D.int (0+(k:Int))) (h:=λ_=>D.bl true) (own:=1) (i:=2) (it:=qZ (aA aZ (Zb (Za 1) (Zf)))) (elt:=aM F (Zb (e2 Zn (Za 0) (Za 2)) (Zb (e2 Zn (Za 1) (Za 2)) (Zf)))) (env:=[Ya (.tup ds),Ya (.tup ds)]) (M:=M) (M1:=M) (lock:=Yn) (as:=gU ds.length)
    (by have:(ds.length:Int)<=1000000/\ -1000000<=(ds.length:Int):=⟨iN [_] [] 1 0xf42405b0883e83b001 T1 hl,iN [_] [] 0 615291837336 T1⟩;simp[this,lG]) (λ_ h=>by cases h)
    (λk hk M=>by
     have hk':k<ds.length:=by simpa using hk
     have hg:ds[k]?=Ya ds[k]:=by simp[hk']
     have:=ih ds[k] M (hd _ (uK hk'));have gk:gw ds (0+(k:Int))=Ya ds[k]:=by rw[zy,eZ,hg]
     simp only[aM,Zb,e2,Za,Zf,wM,jB,Yq,List.set,G8,CN,R3.bind,QK,QL,Jy,QM,gk,this]) (by simp;exact lA 1 0x186a05b003e83b001 T1 hl)
   refine Rt.pure (G:=[.lst ((gU ds.length).map λ_=>D.bl true)]) (env:=[Ya (.tup ds),Ya (.tup ds)]) ?_ rfl;unfold rE;refine q9 ((eY (M':=M) (by exact rfl)).trans ((Zi (cR (M':=M) (by exact rfl))).trans (dh ((iC (M1:=M) (by simp)).trans (b7 lc ?_)))));simp[allB,Aa,xR]
  |_=>simp[gj]at h
theorem Zhx:∀(n:Nat) (d:D),gj n d=true->gj (n+1) d=true
 |0,.int _,_=>rfl|0,.str _,_=>rfl|0,.bl _,_=>rfl|n+1,.int _,_=>rfl
 |n+1,.str _,_=>rfl|n+1,.bl _,_=>rfl|n+1,.tup ds,h=>by have h:(decide (ds.length<=1000)&&ds.all (gj n))=true:=h;show(decide (ds.length<=1000)&&ds.all (gj (n+1)))=true;rw[Y4,gQ]at h ⊢;exact⟨h.1,λx hx=>Zhx n x (h.2 x hx)⟩
theorem Uj(h:n<=m){d:D}(p:gj n d=true):gj m d=true:=by
 induction h with
 |refl=>exact p|step _ ih=>exact Zhx _ _ ih
theorem wA(l:ds.length<=1000)(h:∀x∈ds,gj n x=true):gj (n+1) (.tup ds)=true:=by show(decide (ds.length<=1000)&&ds.all (gj n))=true;rw[Y4,gQ];exact⟨decide_eq_true l,h⟩
theorem Zle(n:Nat)(x:List Nat):gj n (.str x)=true:=by cases n<;>rfl
theorem Uk{m:Nat}:∀{l:List D},(∀x∈l,below m x=true)->bR m l=true
 |[],_=>rfl|d::l,h=>by show(below m d&&bR m l)=true;rw[h d Yd,Uk λx hx=>h x (Yc _ hx)];rfl
theorem ZhA(m:Nat):∀(n:Nat) (d:D),gj n d=true->below m d=true
 |0,.int _,_=>rfl|0,.str _,_=>rfl|0,.bl _,_=>rfl|n+1,.int _,_=>rfl
 |n+1,.str _,_=>rfl|n+1,.bl _,_=>rfl|n+1,.tup ds,h=>by have h:(decide (ds.length<=1000)&&ds.all (gj n))=true:=h;rw[Y4,gQ]at h;show bR m ds=true;exact Uk λx hx=>ZhA m n x (h.2 x hx)
theorem Zsv(h:qp w):gj n w=true:=by cases h<;>cases n<;>rfl
theorem ZlV(H:fc r):∀x∈r.tl,gj 1 x=true:=λx hx=>by
 rcases fQ.mp hx with h|h
 .obtain⟨y,_,rfl⟩:=gH.mp h;rfl
 .obtain⟨t,ht,rfl⟩:=gH.mp h;exact wA (Yk (Tp ht) (Yk H.ok.len (by decide))) λw hw=>Zsv (Cg t w hw)
theorem ZtJ(H:fc r):r.tl.length<=60:=by have h1:=H.le;have h2:=KC r.ts;simp only[Rw.tl,Ye,Yv];omega
noncomputable def Gq:List Pf->Prop
 |[]=>True|k::fs=>(k.cur.length<=1000/\∀x∈k.cur,gj (2*(13-fs.length)) x=true)/\(∀l∈k.cl,l.length<=1000/\∀x∈l,gj (2*(13-fs.length)) x=true)/\(∀x∈k.hd,gj 1 x=true)/\fs.length<=12/\Gq fs
theorem ZqD(H:fc r):∀{x y:List Pf},Gq x->jL r x=Ya y->Gq y
 |[],_,_,h=>nomatch h|k :: fs,y,P,h=>by
  have h:stepK r k fs=Ya y:=h;obtain⟨p1,p2,p3,p4,p5⟩:=P;unfold stepK at h;by_cases h1:nZ r.h=true
  .rw[if_pos h1]at h;by_cases hl:fs.length+1<=12
   .rw[if_pos hl]at h;rw[←Y6 h];exact⟨⟨fG _,(λx hx=>nomatch hx)⟩,(λl hl=>nomatch hl),ZlV H,hl,p1,p2,p3,p4,p5⟩
   .rw[if_neg hl]at h;cases h
  rw[if_neg h1]at h;by_cases h2:r.h=gh
  .rw[if_pos h2]at h;by_cases hc:k.h=gO/\k.cl=[]
   .rw[if_pos hc]at h;rw[←Y6 h];exact⟨⟨fG _,(λx hx=>nomatch hx)⟩,(λl hl=>by rw[Yz.mp hl];exact p1),p3,p4,p5⟩
   .rw[if_neg hc]at h;cases h
  rw[if_neg h2]at h;by_cases h3:r.h=gP
  .rw [if_pos h3]at h;cases fs with
   |nil=>cases h|cons k2 fs=>
    simp only at h;by_cases hc:wg k.h=((k.cl.length+1:Nat):Int)/\k.hd.length<100/\k.cl.length<100/\k2.cur.length<1000
    .rw [if_pos hc]at h;rw[←Y6 h];obtain⟨q1,q2,q3,q4,q5⟩:=p5;rw[Yp]at p1 p2 p4;have ed:2*(13-fs.length)=2*(13-(fs.length+1))+1+1:=by omega
     have hw:gj (2*(13-fs.length)) k.whole=true:=by
      rw[ed];refine wA ?_ λx hx=>?_
      .simp only[Ye,Yp,Yv,yZ];omega
      .rcases fQ.mp hx with z|z
       .rcases Ym.mp z with e|e
        .rw[e];exact Zle _ _
        .exact Uj (by omega) (p3 x e)
       .obtain⟨l,hl,rfl⟩:=gH.mp z;rcases fQ.mp hl with e|e
        .exact wA (p2 l e).1 (p2 l e).2
        .rw[Yz.mp e];exact wA p1.1 p1.2
     refine⟨⟨by rw[Ye,Y8];exact hc.2.2.2,λx hx=>?_⟩,q2,q3,q4,q5⟩;rcases fQ.mp hx with z|z
     .exact q1.2 x z
     .rw[Yz.mp z];exact hw
    .rw[if_neg hc]at h;cases h
  rw[if_neg h3]at h;by_cases hc:k.cur.length<1000
  .rw[if_pos hc]at h;rw[←Y6 h];have hd:gj (2*(13-fs.length)) (.tup r.deed)=true:=by
    refine Uj (n:=2) (by omega) (wA (n:=1) ?_ λx hx=>?_)
    .rw[KR,Yp];have:=ZtJ H;omega
    .rw[KR]at hx;rcases Ym.mp hx with e|e
     .rw[e];rfl
     .exact ZlV H x e
   refine⟨⟨by rw[Ye,Y8];exact hc,λx hx=>?_⟩,p2,p3,p4,p5⟩;rcases fQ.mp hx with z|z
   .exact p1.2 x z
   .rw[Yz.mp z];exact hd
  .rw[if_neg hc]at h;cases h
theorem ZnV:∀(rs:List Rw) (x y:List Pf),(∀r∈rs,fc r)->Gq x->lW rs x=Ya y->Gq y
 |[],x,y,_,P,h=>by cases h;exact P|r::rs,x,y,H,P,h=>by
  have h:(jL r x).bind (lW rs)=Ya y:=h;cases e:jL r x with
  |none=>rw[e]at h;cases h|some z=>rw[e]at h;exact ZnV rs z y (λq hq=>H q (Yc _ hq)) (ZqD (H r Yd) P e) h
theorem run_plain(H:∀r∈rs,fc r)(h:lW rs K_=Ya [⟨j9,[],[],ds⟩]):ds.length<=1000/\∀x∈ds,gj 26 x=true:=by have:=ZnV rs K_ _ H ⟨⟨fG _,(λx hx=>nomatch hx)⟩,(λl hl=>nomatch hl),(λx hx=>nomatch hx),fG _,trivial⟩ h;exact this.1
noncomputable abbrev txB:S3:=(Zr (aJ (bC (e2 cu (e2 Zy (Za 2) (eC (.int 3))) (eC (.int 0))) (bC (e2 aV (e2 Zy (aM h_ (Zb (Za 1) (Zf))) (eC (.int 7))) (eC (.int 1))) (e2 dD (aA aZ (Zb (Za 7) (Zf))) (eC (.int 300))))) (aO (aG a_ Zz (Za 7) (Zb (eC (.str [])) (Zf)))) (aW)) (aO (aG a_ Zz (Za 7) (Zb (Za 8) (Zf)))))
theorem Zn3(s:Nat):∀T:List (List Nat),(glue [s] T).length<=gl T
 |[]=>Ys _|[t]=>by show t.length<=_;simp[gl]|t::u::T=>by have:=Zn3 s (u::T);rw[ug,Ye,Ye];show _<=((t::u::T).map λt=>t.length+1).sum;rw[Yu,List.sum_cons];have e:gl (u::T)=((u::T).map λt=>t.length+1).sum:=rfl;simp only[Y8];omega
structure TS(cs:List Int)(c d tl rl:Nat)(its:List D)(S:Store)(Ls:List (Option (List (List Nat))))(at_:Nat):Prop where
 dk:dm cs c d at_ S
 ht:S[tl]?=Ya (.lst ((Ls.map cH).map D.str))
 hr:S[rl]?=Ya (.lst its)
 ne:tl≠d/\tl≠c/\rl≠d/\rl≠tl
section
variable {cs:List Int} {c d tl rl:Nat} {its:List D}
theorem TS.put(T:TS cs c d tl rl its S Ls at_)(l:Option (List (List Nat))):TS cs c d tl rl its (S.set tl (.lst (((Ls++[l]).map cH).map D.str))) (Ls++[l]) at_:=⟨T.dk.put T.ne.1 T.ne.2.1 _,Y0 (Yf.mp T.ht).1,by rw[Yr (cO T.ne.2.2.2)];exact T.hr,T.ne⟩
theorem TS.app(T:TS cs c d tl rl its S Ls at_){e:E3}{l:Option (List (List Nat))}(hv:Za 7 env S= .ok (.ref tl) S)(he:e env S= .ok (.str (cH l)) S)(hl:Ls.length<=10000):
  aO (aG a_ Zz (Za 7) (Zb e (Zf))) env S= .nx env (S.set tl (.lst (((Ls++[l]).map cH).map D.str))):=by
 refine(mR hv T.ht he T.ht (by rw[Yv,Yv];exact sH hl (by decide))).trans ?_;rw[show(Ls.map cH).map D.str++[D.str (cH l)]=((Ls++[l]).map cH).map D.str by simp]
theorem ZrI(T:TS cs c d tl rl its S Ls at_)(ha:at_ <1000000){v:Int}{v0 v3 v4 v5 v6 v8 v9:Option D}:
  ∃(b:Bool) (S1:Store) (at1:Nat),bC (e2 cu (e2 Zy (Za 2) (eC (.int 3))) (eC (.int 0))) (bC (e2 aV (e2 Zy (aM h_ (Zb (Za 1) (Zf))) (eC (.int 7))) (eC (.int 1))) (e2 dD (aA aZ (Zb (Za 7) (Zf))) (eC (.int 300)))) [v0,Ya (.ref d),Ya (.int v),v3,v4,v5,v6,Ya (.ref tl),v8,v9] S= .ok (.bl b) S1/\TS cs c d tl rl its S1 Ls at1/\at1<=at_ +1:=by
 have m3:e2 Zy (Za 2) (eC (.int 3)) [v0,Ya (.ref d),Ya (.int v),v3,v4,v5,v6,Ya (.ref tl),v8,v9] S= .ok (.int (v % 3)) S:=Zh rfl rfl (dX (by decide));by_cases h:(0:Int)<v % 3
 .obtain⟨w,S1,hw,D1,kp,l1⟩:=T.dk.draw ha;have T1:TS cs c d tl rl its S1 Ls (at_ +1):=⟨D1,kp.get T.ht T.ne.1,kp.get T.hr T.ne.2.2.1,T.ne⟩;have c1:=iC (g:=bC (e2 aV (e2 Zy (aM h_ (Zb (Za 1) (Zf))) (eC (.int 7))) (eC (.int 1))) (e2 dD (aA aZ (Zb (Za 7) (Zf))) (eC (.int 300)))) (M1:=S) (Zh (op:=cu) (g:=eC (.int 0)) m3 rfl (by rw[jb,decide_eq_true h]));have m7:e2 Zy (aM h_ (Zb (Za 1) (Zf))) (eC (.int 7)) [v0,Ya (.ref d),Ya (.int v),v3,v4,v5,v6,Ya (.ref tl),v8,v9] S= .ok (.int (w % 7)) S1:=Zh (d9 rfl hw) rfl (dX (by decide));by_cases h7:w % 7=1
  .exact⟨_,S1,at_ +1,c1.trans ((iC (M1:=S1) (Zh m7 rfl (rm h7))).trans (Zh (b7 rfl (jX T1.ht)) rfl (by rw[lu]))),T1,Ys _⟩
  .exact⟨false,S1,at_ +1,c1.trans (lJ (M1:=S1) (Zh m7 rfl (vD h7))),T1,Ys _⟩
 .exact⟨false,S,at_,lJ (M1:=S) (Zh m3 rfl (by rw[jb,decide_eq_false h])),T,u_ _⟩
theorem Lf(Ls:List (Option (List (List Nat))))(l:Option (List (List Nat))):gl ((Ls++[l]).map cH)=gl (Ls.map cH)+((cH l).length+1):=by rw[jR];exact K9 _ _
theorem Zod{v:Int}{v0 v3 v4 v5 v6 v9:Option D}{it:fU}(hi:it.lock=Ya rl)(hit:it.items=its):∀(RW:List (List (List Nat))) (S:Store) (Ls:List (Option (List (List Nat)))) (at_:Nat) (x8:Option D),TS cs c d tl rl its S Ls at_ ->at_ +RW.length<1000000->Ls.length+2*RW.length<=10000 ->
  ∃(S':Store) (yL:List (Option (List (List Nat)))) (at':Nat) (y8:Option D),iV it (cg 8) txB (RW.map λws=>D.str (glue [32] ws)) [v0,Ya (.ref d),Ya (.int v),v3,v4,v5,v6,Ya (.ref tl),x8,v9] S= .nx [v0,Ya (.ref d),Ya (.int v),v3,v4,v5,v6,Ya (.ref tl),y8,v9] S'/\TS cs c d tl rl its S' yL at'/\yL.filterMap id=Ls.filterMap id++RW/\(∀ws,Ya ws∈yL->Ya ws∈Ls\/ws∈RW)/\yL.length<=Ls.length+2*RW.length/\gl (yL.map cH)<=gl (Ls.map cH)+gl (RW.map (glue [32]))+RW.length
 |[],S,Ls,at_,x8,T,_,_=>⟨S,Ls,at_,x8,by show iV _ _ _ [] _ _=_;rw[vB,if_pos (by unfold locked;rw[hi,hit];exact decide_eq_true T.hr)],T,(jQ _).symm,λws h=>.inl h,m9 _ _,by omega⟩|ws::RW,S,Ls,at_,x8,T,h1,h2=>by
  rw [Yp]at h1 h2;obtain⟨b,S1,at1,hc,T1,ha1⟩:=ZrI T (by omega) (v:=v) (v0:=v0) (v3:=v3) (v4:=v4) (v5:=v5) (v6:=v6) (v8:=Ya (.str (glue [32] ws))) (v9:=v9);have step:∃S2 L2,txB [v0,Ya (.ref d),Ya (.int v),v3,v4,v5,v6,Ya (.ref tl),Ya (.str (glue [32] ws)),v9] S= .nx [v0,Ya (.ref d),Ya (.int v),v3,v4,v5,v6,Ya (.ref tl),Ya (.str (glue [32] ws)),v9] S2/\TS cs c d tl rl its S2 L2 at1/\L2.filterMap id=Ls.filterMap id++[ws]/\(∀vs,Ya vs∈L2->Ya vs∈Ls\/vs=ws)/\L2.length<=Ls.length+2/\gl (L2.map cH)<=gl (Ls.map cH)+((glue [32] ws).length+1)+1:=by
   cases b with
   | true=>
    have T2:=T1.put Yn;have T3:=T2.put (Ya ws);refine⟨_,Ls++[Yn]++[Ya ws],(Zi ((eY hc).trans (T1.app (l:=Yn) rfl rfl (by omega)))).trans (T2.app (l:=Ya ws) rfl rfl (by simp;omega)),T3,by simp,λvs h=>?_,by simp,?_⟩
    .simp at h;rcases h with h|h
     .exact .inl h
     .exact .inr h
    .rw[Lf,Lf];show gl (Ls.map cH)+(0+1)+((glue [32] ws).length+1)<=_;omega
   | false=>
    have T3:=T1.put (Ya ws);refine⟨_,Ls++[Ya ws],(Zi (cR hc)).trans (T1.app (l:=Ya ws) rfl rfl (by omega)),T3,by simp,λvs h=>?_,by simp,?_⟩
    .simp at h;rcases h with h|h
     .exact .inl h
     .exact .inr h
    .rw[Lf];show gl (Ls.map cH)+((glue [32] ws).length+1)<=_;omega
  obtain⟨S2,L2,hb,T2,q1,q2,q3,q4⟩:=step;obtain⟨S',yL,at',y8,hl,T',p1,p2,p3,p4⟩:=Zod hi hit RW S2 L2 at1 (Ya (.str (glue [32] ws))) T2 (by omega) (by omega);have eg:gl ((ws::RW).map (glue [32]))=(glue [32] ws).length+1+gl (RW.map (glue [32])):=by simp[gl]
  refine⟨S',yL,at',y8,?_,T',?_,λvs h=>?_,by rw[Yp];omega,by rw[eg,Yp];omega⟩
  .rw[Yu,tO,if_pos (by unfold locked;rw[hi,hit];exact decide_eq_true T.hr)];simp only[cg,oG,oH];rw[hb];exact hl
  .rw[p1,q1,jg];rfl
  .rcases p2 vs h with z|z
   .rcases q2 vs z with y|y
    .exact .inl y
    .exact .inr (by rw[y];exact Yd)
   .exact .inr (Yc _ z)
end
theorem Zo1(h6:tk.length<=6)(nm:∀x∈tk,gB x):Gg (ig::tk)/\(glue [32] (ig::tk)).length<=63/\jY [32] (ig::tk)<=63:=by
 have hw:∀w∈ig::tk,w.length<=8/\∀c∈w,97<=c:=λw hw=>by
  rcases Ym.mp hw with e|e
  .rw[e];decide
  .exact⟨(nm w e).le,λc hc=>((nm w e).low c hc).1⟩
 have hl:=Te 32 8 (ig::tk) λw h=>(hw w h).1;have e7:(ig::tk).length=tk.length+1:=rfl;rw[e7]at hl;refine⟨⟨(λz=>nomatch z),λw h=>⟨λz=>by have:=(hw w h).2 _ z;omega,λz=>by have:=(hw w h).2 _ z;omega⟩,λz=>?_,by omega⟩,by omega,by omega⟩;cases tk with
 |nil=>cases z|cons y ys=>rw[ug]at z;cases(M8.mp z).1
theorem law_holds:∀ns:List Int,ns.length<=63->∃M',ZnR [.aY (ns.map D.int)] []= .ok (.bl true) M':=by
 intro ns hns;refine Rt.law (env:=[Ya (.aY (ns.map D.int)),Yn,Yn,Yn,Yn,Yn,Yn,Yn,Yn,Yn]) ?_;unfold Sx
 let M0:Store:=[.lst (ns.map D.int)]
 let M1:Store:=[.lst (ns.map D.int),.lst [.ref 0,.int 0]]
 have AbE:cutD (ns.map D.int) Yn (Ya ((400:Nat):Int))=ns.map D.int:=ZsE _ _ (by rw[Yv];omega);have sl:∀{a1 a2 a3 a4 a5 a6 a7 a8 a9:Option D} (S:Store),eN (Za 0) (fW) (dN (eC (.int 400))) [Ya (.aY (ns.map D.int)),a1,a2,a3,a4,a5,a6,a7,a8,a9] S= .ok (.ref S.length) (S++[.lst (ns.map D.int)]):=λS=>by show alloc (.lst (cutD (ns.map D.int) Yn (Ya ((400:Nat):Int)))) S=_;rw[AbE];rfl
 refine Rt.step (Zo (d:=.ref 1) (M':=M1) ((cX (M':=M0) (ds:=[.ref 0,.int 0]) (Zx (sl []) rfl) rfl).trans rfl)) ?_;have D0:dm ns 0 1 0 M1:=⟨rfl,rfl,by decide⟩;obtain⟨v,S1,hv,D1,ur,l1⟩:=D0.draw (by decide);refine Rt.step (Zo (d9 rfl hv)) ?_;obtain⟨S2,nr,names,hnm,gnm,Aei,n12,nok,nnd,D2,La⟩:=Zqh D1 (by decide);have lS1:S1.length=2:=l1;have Ul:nr≠1:=by omega
 refine Rt.step (Zo (d9 rfl hnm)) ?_;obtain⟨S3,tk,htk,t6,tnd,tin,Lg⟩:=Zp0 D2 (by decide) gnm Ul n12 nnd;have tok:∀x∈tk,gB x:=λx hx=>nok x (tin x hx);have AbF:=Lg.kp.get gnm Ul;refine Rt.step (Zo (tR rfl rfl htk)) ?_
 let rH:=S3++[MO.lst (ns.map D.int)]
 obtain⟨S4,n4,rs,ds,yJ,hpr,g4,gR,D4,kp4,rG,hrun,rl,rgl,dl,hat⟩:=Zrx (M:=rH) (many:=ns.length) (Lg.dk.app _) (bO AbF _) Ul n12 nok (by omega) (by decide)
 let Gr:=rH.length
 have l2:2<=rH.length:=by
  have a:=La.len;have b:=Lg.kp.len;have c:rH.length=S3.length+1:=by simp[rH]
  omega
 have l4:rH.length<S4.length:=(Yf.mp gR).1;refine Rt.step (env':=[Ya (.aY (ns.map D.int)),Ya (.ref 1),Ya (.int v),Ya (.ref nr),Ya (.tup (tk.map D.str)),Ya (.ref Gr),Ya (.tup ds),Yn,Yn,Yn]) (M':=S4) ?_ ?_
 .unfold p8;rw[Es (M1:=S3) (M2:=S3) (M3:=rH) (M4:=rH) rfl rfl ((b7 (sl S3) (jX (Zq S3 _ []))).trans (by rw[Yv])) rfl hpr];simp only[g4];rfl
 let RW:List (List (List Nat)):=(if tk=[]then[]else[ig::tk])++rs.map Rw.words
 have Vh:=Zo1 t6 tok;have AdM:RW.length<=425:=by show((if tk=[]then[]else[ig::tk])++rs.map Rw.words).length<=425;rw[Ye,Yv];split <;>simp <;>omega
 have AdR:gl (RW.map (glue [32]))<=3600:=by
  have e2:gl ((rs.map Rw.words).map (glue [32]))=gl (bQ rs):=by rw[qK];rfl
  have app:∀a b:List (List Nat),gl (a++b)=gl a+gl b:=λa b=>by simp[gl]
  show gl (((if tk=[]then[]else[ig::tk])++rs.map Rw.words).map (glue [32]))<=3600;rw[jR,app,e2];split
  .show 0+_<=3600;omega
  .show((glue [32] (ig::tk)).length+1+0)+_<=3600;omega
 have Abj:∀ws∈RW,Gg ws:=λws hw=>by
  rcases fQ.mp hw with e|e
  .split at e
   .cases e
   .rw[Yz.mp e];exact Vh.1
  .obtain⟨r,hr,rfl⟩:=gH.mp e;exact Zlw (rG r hr)
 have Vc:(rs.map Rw.words).map (λws=>D.str (glue [32] ws))=(bQ rs).map D.str:=by rw[qK,qK];rfl
 have s5:∃(S5:Store) (ou:Nat),aJ (e2 gq (Za 4) (fV (Zf))) (aq 5 (e2 aQ (bf (Zb (aG g8 vM (eC (.str [32])) (Zb (e2 aQ (fV (Zb (eC (.str [116,97,107,101])) (Zf))) (Za 4)) (Zf))) (Zf))) (Za 5))) (aW) [Ya (.aY (ns.map D.int)),Ya (.ref 1),Ya (.int v),Ya (.ref nr),Ya (.tup (tk.map D.str)),Ya (.ref Gr),Ya (.tup ds),Yn,Yn,Yn] S4= .nx [Ya (.aY (ns.map D.int)),Ya (.ref 1),Ya (.int v),Ya (.ref nr),Ya (.tup (tk.map D.str)),Ya (.ref ou),Ya (.tup ds),Yn,Yn,Yn] S5/\S5[ou]?=Ya (.lst (RW.map λws=>D.str (glue [32] ws)))/\S4<+:S5/\2<=ou:=by
  have hp:(tk.map D.str).all (dB DEEP)=true:=gQ.mpr λx hx=>by obtain⟨y,_,rfl⟩:=gH.mp hx;rfl
  have hne:e2 gq (Za 4) (fV (Zf)) [Ya (.aY (ns.map D.int)),Ya (.ref 1),Ya (.int v),Ya (.ref nr),Ya (.tup (tk.map D.str)),Ya (.ref Gr),Ya (.tup ds),Yn,Yn,Yn] S4= .ok (.bl (decide (tk≠[]))) S4:=by refine Zh rfl (lH rfl rfl) ?_;simp only[gq,Ef,hp];cases tk<;>rfl
  by_cases h0:tk=[]
  .have Um:RW=rs.map Rw.words:=by show(if tk=[]then[]else[ig::tk])++_=_;rw[if_pos h0];rfl
   rw[decide_eq_false (λz=>z h0)]at hne;exact⟨S4,Gr,cR hne,by rw[Um,Vc];exact gR,List.prefix_refl _,l2⟩
  .have Um:RW=(ig::tk)::rs.map Rw.words:=by show(if tk=[]then[]else[ig::tk])++_=_;rw[if_neg h0];rfl
   rw[decide_eq_true h0]at hne
   let T:=glue [32] (ig::tk)
   let S5:=S4++[MO.lst [.str T]]++[MO.lst ([.str T]++(bQ rs).map D.str)]
   have j1:aG g8 vM (eC (.str [32])) (Zb (e2 aQ (fV (Zb (eC (.str [116,97,107,101])) (Zf))) (Za 4)) (Zf)) [Ya (.aY (ns.map D.int)),Ya (.ref 1),Ya (.int v),Ya (.ref nr),Ya (.tup (tk.map D.str)),Ya (.ref Gr),Ya (.tup ds),Yn,Yn,Yn] S4= .ok (.str T) S4:=by refine Gh rfl rfl (Zx (Zh (a:=.tup [.str ig]) (lH rfl rfl) rfl (d:=.tup ((ig::tk).map D.str)) ?_) rfl) (Zo0 (Yk Vh.2.2 (by decide)));rw[Zlu,if_pos (by simp;omega)];rfl
   refine⟨S5,(S4++[MO.lst [.str T]]).length,(eY hne).trans (Zo (Zh (cX (Zx j1 rfl) rfl) rfl (KD (Zq _ _ []) (bO gR _) (by simp;omega)))),?_,?_,?_⟩
   .rw[Um,Yu,Vc];exact Zq _ _ []
   .show S4<+:S4++_++_;rw[jg];exact Wj _ _
   .rw[Ye];omega
 obtain⟨S5,ou,h5,g5,AbG,l5⟩:=s5;refine Rt.step h5 ?_;have D5:dm ns 0 1 yJ S5:=by obtain⟨G,rfl⟩:=AbG;exact D4.app G
 refine Rt.step (Zo (d:=.ref S5.length) (M':=S5++[.lst []]) (cX rfl rfl)) ?_;have l5':ou<S5.length:=(Yf.mp g5).1;have T0:TS ns 0 1 S5.length ou (RW.map λws=>D.str (glue [32] ws)) (S5++[.lst []]) [] yJ:=⟨D5.app _,Zq _ _ [],bO g5 _,by omega,by omega,by omega,by omega⟩;obtain⟨S6,Ls,at6,y8,h6,T6,e6,m6,n6,gl6⟩:=Zod (v:=v) (v0:=Ya (.aY (ns.map D.int))) (v3:=Ya (.ref nr)) (v4:=Ya (.tup (tk.map D.str))) (v5:=Ya (.ref ou)) (v6:=Ya (.tup ds)) (v9:=Yn) (it:=⟨RW.map λws=>D.str (glue [32] ws),Ya ou⟩) rfl rfl RW (S5++[.lst []]) [] yJ Yn T0 (by have:=hat;have:=Lg.le;omega) (by simp;omega);have hi5:cV (Za 5) [Ya (.aY (ns.map D.int)),Ya (.ref 1),Ya (.int v),Ya (.ref nr),Ya (.tup (tk.map D.str)),Ya (.ref ou),Ya (.tup ds),Ya (.ref S5.length),Yn,Yn] (S5++[.lst []])= .ok ⟨RW.map λws=>D.str (glue [32] ws),Ya ou⟩ (S5++[.lst []]):=by show(R3.ok (D.ref ou) _).bind _=_;simp only[R3.bind,T0.hr]
 refine Rt.step ((xT hi5).trans h6) ?_;have gl0:gl (([]:List (Option (List (List Nat)))).map cH)=0:=rfl;rw[gl0]at gl6;rw[yZ]at n6;have s7:∃(S7:Store) (L7:List (Option (List (List Nat)))),aJ (e2 aV (e2 Zy (e2 bG (Za 2) (eC (.int 3))) (eC (.int 3))) (eC (.int 1))) (aO (aG a_ Zz (Za 7) (Zb (eC (.str [])) (Zf)))) (aW) [Ya (.aY (ns.map D.int)),Ya (.ref 1),Ya (.int v),Ya (.ref nr),Ya (.tup (tk.map D.str)),Ya (.ref ou),Ya (.tup ds),Ya (.ref S5.length),y8,Yn] S6= .nx [Ya (.aY (ns.map D.int)),Ya (.ref 1),Ya (.int v),Ya (.ref nr),Ya (.tup (tk.map D.str)),Ya (.ref ou),Ya (.tup ds),Ya (.ref S5.length),y8,Yn] S7/\S7[S5.length]?=Ya (.lst ((L7.map cH).map D.str))/\L7.filterMap id=RW/\(∀ws,Ya ws∈L7->ws∈RW)/\L7.length<=900/\gl (L7.map cH)<=5000:=by
  have e6':Ls.filterMap id=RW:=e6;have m6':∀ws,Ya ws∈Ls->ws∈RW:=λws h=>(m6 ws h).elim (λz=>nomatch z) id;by_cases h:v / 3 % 3=1
  .refine⟨_,Ls++[Yn],(eY (M':=S6) (Zh (Zh (Zh rfl rfl (iG (by decide))) rfl (dX (by decide))) rfl (rm h))).trans (T6.app (l:=Yn) rfl rfl (by omega)),(T6.put Yn).ht,by simp[e6'],λws hw=>m6' ws (by simpa using hw),by rw[Ye,Y8];omega,by rw[Lf];show _+(0+1)<=5000;omega⟩
  .exact⟨S6,Ls,cR (M':=S6) (Zh (Zh (Zh rfl rfl (iG (by decide))) rfl (dX (by decide))) rfl (vD h)),T6.ht,e6',m6',by omega,by omega⟩
 obtain⟨S7,L7,h7,g7,e7,m7,n7,gl7⟩:=s7;refine Rt.step h7 ?_
 let X:=glue [10] (L7.map cH)
 refine Rt.step (Zo (d:=.str X) (M':=S7) (Ce rfl rfl (Zn7 g7 (Yk (show jY [10] (L7.map cH)<=5000 from gl7) (by decide))))) ?_;refine Rt.step (Zo (d:=.tup [.tup (tk.map D.str),.tup ds]) (M':=S7) (lH rfl rfl)) ?_;have pl:=run_plain rG hrun;have wu:∀n,bR n ds=true:=λn=>Uk λx hx=>ZhA n 26 x (pl.2 x hx);have read:∀S:Store,Bd [.str X] S= .ok (.tup [.tup (tk.map D.str),.tup ds]) S:=λS=>by
  by_cases h0:L7=[]
  .have eX:X=glue [10] ([Yn].map cH):=by show glue [10] (L7.map cH)=_;rw[h0];rfl
   have hRW:RW=[]:=by rw[←e7,h0];rfl
   rw[eX];exact Zom (Ls:=[Yn]) (tk:=tk) (rs:=rs) (by simp) (λws h=>by simp at h) (by decide) (by decide) (by show[]=RW;exact hRW.symm) rG t6 tnd tok hrun wu
  .exact Zom h0 (λws h=>Abj ws (m7 ws h)) (by omega) (Yk (Zn3 10 _) (by omega)) e7 rG t6 tnd tok hrun wu
 have AbH:gj 30 (.tup [.tup (tk.map D.str),.tup ds])=true:=by
  refine Uj (n:=28) (by decide) (wA (n:=27) (show 2<=1000 by decide) λx hx=>?_);rcases Ym.mp hx with e|e
  .rw[e];exact wA (n:=26) (by rw[Yv];omega) λy hy=>by obtain⟨z,_,rfl⟩:=gH.mp hy;exact Zle _ _
  .rw[Yz.mp e];exact wA (n:=26) pl.1 pl.2
 have same:∀S:Store,FJ [.tup [.tup (tk.map D.str),.tup ds],.tup [.tup (tk.map D.str),.tup ds]] S= .ok (.bl true) S:=λS=>ZqP 30 _ S AbH;exact⟨S7,dh ((iC (M1:=S7) (tR (d9 rfl (read S7)) rfl (same S7))).trans (tR (d9 rfl (read S7)) rfl (same S7)))⟩
end Law
set_option maxHeartbeats 400000
namespace Law
open PySem PySem.Spec PyProof.Rows L2 L3
variable{P:List Yh->Prop}
theorem uZ(h:P []):∀us:List Yh,us.length=0->P us:=λus e=>(G6 e)▸h
theorem uS{n:Nat}(h:∀a us,us.length=n->P (a::us))(us:List Yh)(e:us.length=n+1):P us:=by
 cases us with
 |nil=>exact absurd e (Nat.succ_ne_zero n).symm|cons a us=>exact h a us (Py e)
variable{xa:aj}
theorem mV(h:∀a,P [a]):∀us:List Yh,us.length=[xa].length->P us:=uS λa=>uZ (h a)
theorem yM{xb:aj}(h:∀a b,P [a,b]):∀us:List Yh,us.length=[xa,xb].length->P us:=uS λa=>uS λb=>uZ (h a b)
theorem ub3{xb xc:aj}(h:∀a b c,P [a,b,c]):∀us:List Yh,us.length=[xa,xb,xc].length->P us:=uS λa=>uS λb=>uS λc=>uZ (h a b c)
theorem Uo{xb xc xd:aj}(h:∀a b c d,P [a,b,c,d]):∀us:List Yh,us.length=[xa,xb,xc,xd].length->P us:=uS λa=>uS λb=>uS λc=>uS λd=>uZ (h a b c d)
theorem Zt4{l:PySem.W.OpenLaw}{w:bw}{K:W.Frag}{h:aN}{mg:aj->Option Yh}{fa f0 f1 f2 f3 f4 f5 f6 f7 f8 f9 Uq f11 Ur Us Ut Uu Uv Uw Ux Uy Uz UG UJ UL UT UV:Y1}(X:K.In h)(G:h.Ns Yy mg)(hfa:mg "law" =Ya (.ref fa)){od0 an0 od1 an1 od2 an2 od3 an3 od4 an4 od5 an5 od6 an6 od7 an7 od8 an8 od9 an9 AbI AbJ AbK AbL AbM AbN AbO AbP AbQ AbR AbS AbT AbU AbV AbW AbX AbY AbZ Ab0 Ab1 Ab2 Ab3 Ab4 Ab5 Ab6 Ab7 Ab8 Ab9 Aca Acb Acd Vo:Option Y1}{sl0 sl1 sl2 sl3 sl4 sl5 sl6 sl7 sl8 sl9 Ace Acf Acg Ach Aci Acj Ack Acl Acm Acn Aco Acp Acq Acr Acs Acu:Array (Option Yh)}{oc0 kV0 dc0 pm0 cd0 ct0 oc1 kV1 dc1 pm1 cd1 ct1 oc2 kV2 dc2 pm2 cd2 ct2 oc3 kV3 dc3 pm3 cd3 ct3 oc4 kV4 dc4 pm4 cd4 ct4 oc5 kV5 dc5 pm5 cd5 ct5 oc6 kV6 dc6 pm6 cd6 ct6 oc7 kV7 dc7 pm7 cd7 ct7 oc8 kV8 dc8 pm8 cd8 ct8 oc9 kV9 dc9 pm9 cd9 ct9 Acv Acw Acx Acy Vp Acz AcA AcB AcC AcD Vq AcE AcF AcG AcH AcI Vr AcJ AcK AcL AcM AcN Vs AcO AcP AcQ AcR AcS Vt AcT AcU AcV AcW AcX Vu AcY AcZ Ac0 Ac1 Ac2 Vv Ac3 Ac4 Ac5 Ac6 Ac7 Vw Ac8 Ac9 Ada Adb Adc Vx Ade Adf Adg Adh Adi Vy Adj Adk Adl Adm Adn Vz Ado Adp Adq Ads Adt VB Adu Adv Adw Adx Ady VD Adz AdA AdB AdC AdD VF AdE AdF AdG AdH AdI VG AdJ AdK VH VJ VL Mw VN:Yh}{AaS AaT Aah Aaj Aad Aae Aak Aal:fD}{cN:Y1}{U9:Y1}{U_:Y1}{Vd:Y1}{Va:Y1}(U0:bI K Yy "Block" =Ya (Ya (.ref cN)))(AaH:GZ K cN Str.empty=true)(AaI:GX K cN=true)(AaJ:MK K cN=true)(AaK:lY K (.ref cN) "__setattr__" =Ya (Ya (.builtin "object.__setattr__")))(AaL:G4 K cN=true)(AaM:fj K (.ref cN)=true)(Aaf:lY K (.ref cN) "head" =Ya Yn)(Aac:lY K (.ref cN) "lists" =Ya Yn)(a0:bI K Yy "is_number" =Ya (Ya (.ref f0)))(l0:K.lookup f0=Ya ⟨oc0,od0,.func (fC "is_number" "is_number" (cU Bf) (cL Bf) (Zk Bf) .none kV0 dc0 pm0 an0 cd0 ct0),sl0⟩)(c0:fP K cd0 "is_number" =true)(k0:fj K (.ref f0)=true)(a1:bI K Yy "sums_in" =Ya (Ya (.ref f1)))(l1:K.lookup f1=Ya ⟨oc1,od1,.func (fC "sums_in" "sums_in" (cU Bg) (cL Bg) (Zk Bg) .none kV1 dc1 pm1 an1 cd1 ct1),sl1⟩)(c1:fP K cd1 "sums_in" =true)(k1:fj K (.ref f1)=true)(a2:bI K Yy "needs_sums" =Ya (Ya (.ref f2)))(l2:K.lookup f2=Ya ⟨oc2,od2,.func (fC "needs_sums" "needs_sums" (cU Bh) (cL Bh) (Zk Bh) .none kV2 dc2 pm2 an2 cd2 ct2),sl2⟩)(c2:fP K cd2 "needs_sums" =true)(k2:fj K (.ref f2)=true)(a3:bI K Yy "parts_of" =Ya (Ya (.ref f3)))(l3:K.lookup f3=Ya ⟨oc3,od3,.func (fC "parts_of" "parts_of" (cU Bj) (cL Bj) (Zk Bj) .none kV3 dc3 pm3 an3 cd3 ct3),sl3⟩)(c3:fP K cd3 "parts_of" =true)(k3:fj K (.ref f3)=true)(a4:bI K Yy "depth" =Ya (Ya (.ref f4)))(l4:K.lookup f4=Ya ⟨oc4,od4,.func (fC "depth" "depth" (cU Bl) (cL Bl) (Zk Bl) .none kV4 dc4 pm4 an4 cd4 ct4),sl4⟩)(c4:fP K cd4 "depth" =true)(k4:fj K (.ref f4)=true)(a5:bI K Yy "is_name" =Ya (Ya (.ref f5)))(l5:K.lookup f5=Ya ⟨oc5,od5,.func (fC "is_name" "is_name" (cU Bp) (cL Bp) (Zk Bp) .none kV5 dc5 pm5 an5 cd5 ct5),sl5⟩)(c5:fP K cd5 "is_name" =true)(k5:fj K (.ref f5)=true)(a6:bI K Yy "read_taken" =Ya (Ya (.ref f6)))(l6:K.lookup f6=Ya ⟨oc6,od6,.func (fC "read_taken" "read_taken" (cU Bo) (cL Bo) (Zk Bo) .none kV6 dc6 pm6 an6 cd6 ct6),sl6⟩)(c6:fP K cd6 "read_taken" =true)(k6:fj K (.ref f6)=true)(a7:lY K (.ref cN) "__init__" =Ya (Ya (.ref f7)))(i7:G5 K (.ref f7)=true)(l7:K.lookup f7=Ya ⟨oc7,od7,.func (fC "__init__" "Block.__init__" (cU BZ) (cL BZ) (Zk BZ) .none kV7 dc7 pm7 an7 cd7 ct7),sl7⟩)(c7:fP K cd7 "Block.__init__" =true)(k7:fj K (.ref f7)=true)(a8:bI K Yy "read_sums" =Ya (Ya (.ref f8)))(l8:K.lookup f8=Ya ⟨oc8,od8,.func (fC "read_sums" "read_sums" (cU Bs) (cL Bs) (Zk Bs) .none kV8 dc8 pm8 an8 cd8 ct8),sl8⟩)(c8:fP K cd8 "read_sums" =true)(k8:fj K (.ref f8)=true)(a9:bI K Yy "read_deed" =Ya (Ya (.ref f9)))(l9:K.lookup f9=Ya ⟨oc9,od9,.func (fC "read_deed" "read_deed" (cU Br) (cL Br) (Zk Br) .none kV9 dc9 pm9 an9 cd9 ct9),sl9⟩)(c9:fP K cd9 "read_deed" =true)(k9:fj K (.ref f9)=true)(a10:bI K Yy "can_stand" =Ya (Ya (.ref Uq)))(l10:K.lookup Uq=Ya ⟨Acv,AbI,.func (fC "can_stand" "can_stand" (cU Bt) (cL Bt) (Zk Bt) .none Acw Acx Acy AbJ Vp Acz),Ace⟩)(c10:fP K Vp "can_stand" =true)(k10:fj K (.ref Uq)=true)(a11:bI K Yy "place_deed" =Ya (Ya (.ref f11)))(l11:K.lookup f11=Ya ⟨AcA,AbK,.func (fC "place_deed" "place_deed" (cU Bu) (cL Bu) (Zk Bu) .none AcB AcC AcD AbL Vq AcE),Acf⟩)(c11:fP K Vq "place_deed" =true)(k11:fj K (.ref f11)=true)(a12:bI K Yy "read_deeds" =Ya (Ya (.ref Ur)))(l12:K.lookup Ur=Ya ⟨AcF,AbM,.func (fC "read_deeds" "read_deeds" (cU Bq) (cL Bq) (Zk Bq) .none AcG AcH AcI AbN Vr AcJ),Acg⟩)(c12:fP K Vr "read_deeds" =true)(k12:fj K (.ref Ur)=true)(a13:bI K Yy "read" =Ya (Ya (.ref Us)))(l13:K.lookup Us=Ya ⟨AcK,AbO,.func (fC "read" "read" (cU Bm) (cL Bm) (Zk Bm) .none AcL AcM AcN AbP Vs AcO),Ach⟩)(c13:fP K Vs "read" =true)(k13:fj K (.ref Us)=true)(a14:bI K Yy "_law_next" =Ya (Ya (.ref Ut)))(l14:K.lookup Ut=Ya ⟨AcP,AbQ,.func (fC "_law_next" "_law_next" (cU Bv) (cL Bv) (Zk Bv) .none AcQ AcR AcS AbR Vt AcT),Aci⟩)(c14:fP K Vt "_law_next" =true)(k14:fj K (.ref Ut)=true)(a15:bI K Yy "_law_same" =Ya (Ya (.ref Uu)))(l15:K.lookup Uu=Ya ⟨AcU,AbS,.func (fC "_law_same" "_law_same" (cU Bw) (cL Bw) (Zk Bw) .none AcV AcW AcX AbT Vu AcY),Acj⟩)(c15:fP K Vu "_law_same" =true)(k15:fj K (.ref Uu)=true)(a16:bI K Yy "_law_names" =Ya (Ya (.ref Uv)))(l16:K.lookup Uv=Ya ⟨AcZ,AbU,.func (fC "_law_names" "_law_names" (cU Bx) (cL Bx) (Zk Bx) .none Ac0 Ac1 Ac2 AbV Vv Ac3),Ack⟩)(c16:fP K Vv "_law_names" =true)(k16:fj K (.ref Uv)=true)(a17:bI K Yy "_law_value" =Ya (Ya (.ref Uw)))(l17:K.lookup Uw=Ya ⟨Ac4,AbW,.func (fC "_law_value" "_law_value" (cU BJ) (cL BJ) (Zk BJ) .none Ac5 Ac6 Ac7 AbX Vw Ac8),Acl⟩)(c17:fP K Vw "_law_value" =true)(k17:fj K (.ref Uw)=true)(a18:bI K Yy "_law_sum" =Ya (Ya (.ref Ux)))(l18:K.lookup Ux=Ya ⟨Ac9,AbY,.func (fC "_law_sum" "_law_sum" (cU BK) (cL BK) (Zk BK) .none Ada Adb Adc AbZ Vx Ade),Acm⟩)(c18:fP K Vx "_law_sum" =true)(k18:fj K (.ref Ux)=true)(a19:bI K Yy "_law_deed" =Ya (Ya (.ref Uy)))(l19:K.lookup Uy=Ya ⟨Adf,Ab0,.func (fC "_law_deed" "_law_deed" (cU BL) (cL BL) (Zk BL) .none Adg Adh Adi Ab1 Vy Adj),Acn⟩)(c19:fP K Vy "_law_deed" =true)(k19:fj K (.ref Uy)=true)(a20:bI K Yy "_law_words" =Ya (Ya (.ref Uz)))(l20:K.lookup Uz=Ya ⟨Adk,Ab2,.func (fC "_law_words" "_law_words" (cU BP) (cL BP) (Zk BP) .none Adl Adm Adn Ab3 Vz Ado),Aco⟩)(c20:fP K Vz "_law_words" =true)(k20:fj K (.ref Uz)=true)(a21:bI K Yy "_law_closed" =Ya (Ya (.ref UG)))(l21:K.lookup UG=Ya ⟨Adp,Ab4,.func (fC "_law_closed" "_law_closed" (cU BR) (cL BR) (Zk BR) .none Adq Ads Adt Ab5 VB Adu),Acp⟩)(c21:fP K VB "_law_closed" =true)(k21:fj K (.ref UG)=true)(a22:bI K Yy "_law_row" =Ya (Ya (.ref UJ)))(l22:K.lookup UJ=Ya ⟨Adv,Ab6,.func (fC "_law_row" "_law_row" (cU BV) (cL BV) (Zk BV) .none Adw Adx Ady Ab7 VD Adz),Acq⟩)(c22:fP K VD "_law_row" =true)(k22:fj K (.ref UJ)=true)(a23:bI K Yy "_law_program" =Ya (Ya (.ref UL)))(l23:K.lookup UL=Ya ⟨AdA,Ab8,.func (fC "_law_program" "_law_program" (cU BW) (cL BW) (Zk BW) .none AdB AdC AdD Ab9 VF AdE),Acr⟩)(c23:fP K VF "_law_program" =true)(k23:fj K (.ref UL)=true)(a24:bI K Yy "_law_taken" =Ya (Ya (.ref UT)))(l24:K.lookup UT=Ya ⟨AdF,Aca,.func (fC "_law_taken" "_law_taken" (cU BX) (cL BX) (Zk BX) .none AdG AdH AdI Acb VG AdJ),Acs⟩)(c24:fP K VG "_law_taken" =true)(k24:fj K (.ref UT)=true)(a25:bI K Yy "law" =Ya (Ya (.ref UV)))(l25:K.lookup UV=Ya ⟨AdK,Acd,.func (fC "law" "law" (cU uf) (cL uf) (Zk uf) .none VH VJ VL Vo Mw VN),Acu⟩)(c25:fP K Mw "law" =true)(k25:fj K (.ref UV)=true)(Abk:bI K Yy "all" =Ya Yn)(Aba:bI K Yy "bool" =Ya Yn)(Aaw:bI K Yy "enumerate" =Ya Yn)(Abl:bI K Yy "int" =Ya Yn)(Aam:bI K Yy "isinstance" =Ya Yn)(Abm:bI K Yy "len" =Ya Yn)(Abb:bI K Yy "list" =Ya Yn)(Abn:bI K Yy "max" =Ya Yn)(AaZ:bI K Yy "range" =Ya Yn)(Abo:bI K Yy "set" =Ya Yn)(Abp:bI K Yy "str" =Ya Yn)(Aa0:bI K Yy "tuple" =Ya Yn)(uy:bI K Yy "FIGURES" =Ya (Ya (.str "0123456789" AaS)))(wF:bI K Yy "LETTERS" =Ya (Ya (.str "abcdefghijklmnopqrstuvwxyz" AaT)))(Aa1:bI K Yy "LISTS" =Ya (Ya (.ref U9)))(Aax:lU K U9 nT)(wB:bI K Yy "MOST_BLOCKS" =Ya (Ya (.int 12 Aah)))(wC:bI K Yy "MOST_DEPTH" =Ya (Ya (.int 6 Aaj)))(qC:bI K Yy "MOST_FIGURES" =Ya (Ya (.int 60 Aad)))(qD:bI K Yy "MOST_LETTERS" =Ya (Ya (.int 8 Aae)))(uw:bI K Yy "MOST_TAKEN" =Ya (Ya (.int 6 Aak)))(ux:bI K Yy "MOST_WORDS" =Ya (Ya (.int 60 Aal)))(Aa2:bI K Yy "PARTS" =Ya (Ya (.ref U_)))(Aay:lU K U_ nU)(Abd:bI K Yy "SUMS" =Ya (Ya (.ref Vd)))(AaN:lU K Vd j7)(t_:bI K Yy "WORDS" =Ya (Ya (.ref Va)))(Aaz:Ay K (cT.map λy=>(⟨y.toArray⟩:aj)) (.ref Va)=true):
  ∃fd:jT,(∀(s:Yj) (v:Yh),zj s fd ⟨[v],[]⟩ [("script",v)])/\∀base:aN,K.In base->base.Ns Yy mg->jm l.prog w K mg base kZ 69 fa fd ["script"] (tY K 1 ZnR):=by
 have e:=hfa.symm.trans (lZ X G a25);cases e;have T:Txt K mg:=⟨trivial,oF X G Abk,oF X G Aba,oF X G Aaw,oF X G Abl,oF X G Aam,oF X G Abm,oF X G Abb,oF X G Abn,oF X G AaZ,oF X G Abo,oF X G Abp,oF X G Aa0,⟨_,lZ X G uy⟩,⟨_,lZ X G wF⟩,⟨_,lZ X G Aa1,Aax⟩,⟨_,lZ X G wB⟩,⟨_,lZ X G wC⟩,⟨_,lZ X G qC⟩,⟨_,lZ X G qD⟩,⟨_,lZ X G uw⟩,⟨_,lZ X G ux⟩,⟨_,lZ X G Aa2,Aay⟩,⟨_,lZ X G Abd,AaN⟩,⟨_,lZ X G t_,Aaz⟩⟩;have cY:FP K mg cN:=⟨⟨by unfold L3.ClsAt;rw[show(⟨([66,108,111,99,107]:List Nat).toArray⟩:aj)= "Block" by decide +kernel];exact U0,⟨AaH,AaI,AaJ,AaK⟩,by decide⟩,lZ X G U0,by rw[show nm [104,101,97,100]= "head" by decide +kernel];exact Aaf,by rw[show nm [108,105,115,116,115]= "lists" by decide +kernel];exact Aac⟩;have AaA:bL K mg "is_number" Bf ["word"]:=gM X G a0 l0 c0 k0 (Binds.all (mV λ_=>rfl));have AaU:bL K mg "sums_in" Bg ["words"]:=gM X G a1 l1 c1 k1 (Binds.all (mV λ_=>rfl));have Aan:bL K mg "needs_sums" Bh ["word"]:=gM X G a2 l2 c2 k2 (Binds.all (mV λ_=>rfl));have AaO:bL K mg "parts_of" Bj ["words"]:=gM X G a3 l3 c3 k3 (Binds.all (mV λ_=>rfl));have Aa3:bL K mg "depth" Bl ["words"]:=gM X G a4 l4 c4 k4 (Binds.all (mV λ_=>rfl));have AaV:bL K mg "is_name" Bp ["word"]:=gM X G a5 l5 c5 k5 (Binds.all (mV λ_=>rfl));have Aao:bL K mg "read_taken" Bo ["row"]:=gM X G a6 l6 c6 k6 (Binds.all (mV λ_=>rfl));have Aab:Kc K cN "Block.__init__" BZ ["self","head"]:=ZrU AaL AaM a7 i7 l7 c7 k7 (Binds.all (yM λ_ _=>rfl));have AaB:bL K mg "read_sums" Bs ["words"]:=gM X G a8 l8 c8 k8 (Binds.all (mV λ_=>rfl));have AaC:bL K mg "read_deed" Br ["words"]:=gM X G a9 l9 c9 k9 (Binds.all (mV λ_=>rfl));have AaD:bL K mg "can_stand" Bt ["blocks","word"]:=gM X G a10 l10 c10 k10 (Binds.all (yM λ_ _=>rfl));have Aap:bL K mg "place_deed" Bu ["blocks","deed"]:=gM X G a11 l11 c11 k11 (Binds.all (yM λ_ _=>rfl));have Aaq:bL K mg "read_deeds" Bq ["rows","behind"]:=gM X G a12 l12 c12 k12 (Binds.all (yM λ_ _=>rfl));have Abe:bL K mg "read" Bm ["text"]:=gM X G a13 l13 c13 k13 (Binds.all (mV λ_=>rfl));have AaE:bL K mg "_law_next" Bv ["deck"]:=gM X G a14 l14 c14 k14 (Binds.all (mV λ_=>rfl));have AaF:bL K mg "_law_same" Bw ["found","due"]:=gM X G a15 l15 c15 k15 (Binds.all (yM λ_ _=>rfl));have Aar:bL K mg "_law_names" Bx ["deck"]:=gM X G a16 l16 c16 k16 (Binds.all (mV λ_=>rfl));have Aas:bL K mg "_law_value" BJ ["cell"]:=gM X G a17 l17 c17 k17 (Binds.all (mV λ_=>rfl))
 have AaP:bL K mg "_law_sum" BK ["deck","names","deep","most"]:=gM X G a18 l18 c18 k18 (Binds.all (Uo λ_ _ _ _=>rfl));have AaG:bL K mg "_law_deed" BL ["deck","names","cell"]:=gM X G a19 l19 c19 k19 (Binds.all (ub3 λ_ _ _=>rfl));have Aat:bL K mg "_law_words" BP ["deed"]:=gM X G a20 l20 c20 k20 (Binds.all (mV λ_=>rfl));have Aai:bL K mg "_law_closed" BR ["stack","deeds"]:=gM X G a21 l21 c21 k21 (Binds.all (yM λ_ _=>rfl));have AaQ:bL K mg "_law_row" BV ["deck","names","stack","deeds"]:=gM X G a22 l22 c22 k22 (Binds.all (Uo λ_ _ _ _=>rfl));have Aag:bL K mg "_law_program" BW ["deck","names","many","most"]:=gM X G a23 l23 c23 k23 (Binds.all (Uo λ_ _ _ _=>rfl));have Aau:bL K mg "_law_taken" BX ["deck","names"]:=gM X G a24 l24 c24 k24 (Binds.all (yM λ_ _=>rfl));refine⟨fC "law" "law" (cU uf) (cL uf) (Zk uf) .none VH VJ VL Vo Mw VN,λs v=>.of_eq rfl,λbase _ _=>?_⟩;have Gu:=Zkw (P:=l.prog) (w:=w) (base:=base) AaA T;have yP:=ZmM (P:=l.prog) (w:=w) (base:=base) AaU T;have Li:=Zjf (P:=l.prog) (w:=w) (base:=base) Aan T;have LK:=ZlH (P:=l.prog) (w:=w) (base:=base) AaO T yP;have Mf:=ZpU (P:=l.prog) (w:=w) (base:=base) Aa3 T LK;have rJ:=Zmm (P:=l.prog) (w:=w) (base:=base) AaV T;have Lk:=Zjo (P:=l.prog) (w:=w) (base:=base) Aao T rJ;have yN:=Zgq (P:=l.prog) (w:=w) (base:=base) cY Aab T;have Lx:=Zkk (P:=l.prog) (w:=w) (base:=base) AaB T Gu yP Li Mf rJ;have Ly:=Zj6 (P:=l.prog) (w:=w) (base:=base) AaC T rJ Lx;have Lz:=Zkm (P:=l.prog) (w:=w) (base:=base) AaD T cY;have Lj:=Zjl (P:=l.prog) (w:=w) (base:=base) Aap T cY yN;have Ln:=Zi9 (P:=l.prog) (w:=w) (base:=base) Aaq T cY yN Ly Lz Lj;have GD:=Zro (P:=l.prog) (w:=w) (base:=base) Abe T Lk Ln;have jN:=Zka (P:=l.prog) (w:=w) (base:=base) AaE T;have Gv:=Zkf (P:=l.prog) (w:=w) (base:=base) AaF T;have Lq:=Zjh (P:=l.prog) (w:=w) (base:=base) Aar T jN;have Lp:=Zjn (P:=l.prog) (w:=w) (base:=base) Aas T;have wD:=Zl3 (P:=l.prog) (w:=w) (base:=base) AaP T jN Lp;have LC:=ZkQ (P:=l.prog) (w:=w) (base:=base) AaG T wD;have Gs:=Zi8 (P:=l.prog) (w:=w) (base:=base) Aat T;have yO:=Zi0 (P:=l.prog) (w:=w) (base:=base) Aai T;have LQ:=ZlN (P:=l.prog) (w:=w) (base:=base) AaQ T jN wD LC Gs yO;have Lh:=ZhQ (P:=l.prog) (w:=w) (base:=base) Aag T yO LQ;have Lr:=Zjp (P:=l.prog) (w:=w) (base:=base) Aau T jN;exact ZtO (ZqS (st:=uf) l25 c25 k25) T GD jN Gv Lq Lh Lr
end Law
open PySem PySem.W PyProof.Rows
set_option maxRecDepth 100000 in
set_option maxHeartbeats 0 in
theorem PySem.Challenge.cw_stepledger_k61_read_holds : PySem.Challenge.rw_stepledger_k61_read.Holds := by
 w_on;o_law;k_head;(case hw=>w_witness2)
 k_fill
 refine L3.ZvX (l:=PySem.Challenge.rw_stepledger_k61_read) (k:=69) (F:=Law.ZnR) rfl rfl ⟨rfl,by decide,by decide⟩ (λw h Y=>W.kIn_of Y) ?G Law.law_holds
 case G=>
  intro w mg fa h KX G hmg;refine' Law.Zt4 KX G hmg ?_ ?_ ?_ ?_ ?_ ?_ ?_ ?_ ?_ ?_ ?_ ?_ ?_ ?_ ?_ ?_ ?_ ?_ ?_ ?_ ?_ ?_ ?_ ?_ ?_ ?_ ?_ ?_ ?_ ?_ ?_ ?_ ?_ ?_ ?_ ?_ ?_ ?_ ?_ ?_ ?_ ?_ ?_ ?_ ?_ ?_ ?_ ?_ ?_ ?_ ?_ ?_ ?_ ?_ ?_ ?_ ?_ ?_ ?_ ?_ ?_ ?_ ?_ ?_ ?_ ?_ ?_ ?_ ?_ ?_ ?_ ?_ ?_ ?_ ?_ ?_ ?_ ?_ ?_ ?_ ?_ ?_ ?_ ?_ ?_ ?_ ?_ ?_ ?_ ?_ ?_ ?_ ?_ ?_ ?_ ?_ ?_ ?_ ?_ ?_ ?_ ?_ ?_ ?_ ?_ ?_ ?_ ?_ ?_ ?_ ?_ ?_ ?_ ?_ ?_ ?_ ?_ ?_ ?_ ?_ ?_ ?_ ?_ ?_ ?_ ?_ ?_ ?_ ?_ ?_ ?_ ?_ ?_ ?_ ?_ ?_ ?_ ?_ ?_ ?_ ?_ ?_
  all_goals try k_is
  all_goals first|rfl|decide +kernel
