import PyProof.Rows.All
import Wide.All
import OpenK.AllK
import Wide.FinOn
import Lean
import PyProof.EqAt
import PyProof.EqKinds
import PyProof.TupleCall
import PySem.Challenge.RW_stepledger_k61_read
open Option renaming some->Ya,none->Ym,isSome_iff_exists->Hj,map_eq_some_iff->Nh,map_some->Ni,getD_none->Wc,bind_some->Wd
open PySem.W renaming Frag->Yb,findIn->mD,nsIn->bJ,kia_one->oG,keepIn->fD,codeIn->fQ,emptyDict->rZ,mg_none_of->oH,keepIn->su,instObj->uN,fnOf->qL,fnOf->fG,hasDictIn->Hl,mg_of->mF,codeIn->Dh,plainGet->Ho,makesIn->Hq,kitx_tuple->Nj,methodObj->Nk,plainOver->Nm,kitx_list->Np,kitx_dict->Nq,cellsFrom_some->Wf,takerIn->Nr,isFn->Hr,lookIn->Nt,callWith_K->Wg,kitx_none->Wh,kitx_bool->Wi,handedIn->Wj,kitx_int->Wk,kitx_str->Wl,kitOne->Wm,WalkO->Wn,mg_of->Wo
open List renaming mem_cons_of_mem->Yc,mem_cons_self->Yd,length_append->Ye,getElem?_eq_some_iff->Yf,getElem?_append_left->Yi,size_toArray->Yn,mem_cons->Yo,length_cons->Yp,replicate->Yq,getElem?_set_ne->Yr,map_cons->Yu,length_map->Yv,mem_singleton->Yz,getElem?_set_self->Y0,mem_append_right->Y6,getElem?_eq_getElem->Y9,length_singleton->jb,mem_append->fU,all_eq_true->gU,append_assoc->jl,nodup_cons->iQ,length_replicate->mG,getElem?_map->jV,mem_map->gJ,lookup_cons->jW,nil_append->jF,append_nil->jX,map_append->jY,take_of_length_le->qM,set_cons_succ->oJ,set_cons_zero->oK,mem_map_of_mem->pK,all_cons->jG,flatten_cons->oM,range->gW,getElem?_append_right->wO,any_cons->kW,getElem?_take_of_lt->wQ,replicate_succ->sy,not_mem_nil->pM,mem_append_left->uO,drop_eq_getElem_cons->zm,getElem?_replicate_of_lt->Di,Nodup->jy,foldl_cons->qN,mem_of_getElem?->wR,getD_eq_getElem?_getD->Dj,reverse_cons->uP,length_set->sE,eq_nil_of_length_eq_zero->Hs,getElem_mem->uQ,mem_flatMap->uR,getElem?_cons_succ->Dk,cons_append->wU,map_map->qO,ext_getElem?->zp,map_nil->sG,getElem?_replicate->Ht,map_eq_nil_iff->Dl,getElem?_cons_zero->Hu,length_reverse->Dm,length_take->zq,drop_eq_nil_of_le->Hv,find?_cons->zr,length_nil->zu,getElem?_eq_none->Hw,map_reverse->Dn,length->uT,range'->uU,append_eq_nil_iff->Nu,lookup->wV,eraseIdxIfInBounds_toArray->Wq,nodup_append->Hx,length_range->Hy,getElem?_of_mem->Nv,filterMap_cons->Nx,mem_filterMap->Ny,set_set->Dp,mem_range->Hz,drop_zero->HB,flatMap_cons->Nz,prefix_iff_eq_take->Wr,length_eq_zero_iff->Ws,getLast?_replicate->Wt,drop_length->NK,mem_reverse->NP,range_succ_eq_map->Wu,of_mem_zip->NQ,dropLast_eq_take->Wv,getElem?_toArray->Ww,isPrefixOf->NT,reverse_reverse->Wx,nodup_nil->NZ,map_congr_left->Wy,take_succ_cons->Wz,prefix_append->WD,take_sublist->WK,foldl->HD,mem_range'_1->WL,getElem?_inj->WM,all_nil->N5,getElem_inj->WN,length_drop->WP,mem_flatten->WQ,range'_succ->WR,mem_filter->WT
open PySem renaming wpAny_bind->Yg,Value->Yh,Shared->Yk,wpAny_pure->Yt,starEach->Yw,mainGlobals->Yy,Addr->Y1,wpAny->aq,sizeLine->bw,Program->bF,model->aA,wpAny_holding->gY,Around->bK,compareOp->eV,keywordEach->iR,wpAny_loadPart'->qP,wpAny_truthy_bool->pN,bootBuiltins->jH,World->bx,mem_of_lookup->sH,attributeBase->mH,wpAny_callSpecial?_slot->wW,assignEach->jm,backTo->b7,wpAny_mono->jz,wpAny_newObj_type->sI,wpAny_pyIter_list->uV,binaryOp->iT,backToKw->iU,wpAny_call_entry->uW,eval->aG,wpAny_Call_Name_kw->zx,strValues->kY,Heap->aO,wpAny_passesOwn->wX,foldedSetIterable->zy,wpAny_comprehension_free->HF,wpAny_pyIter_enum->zA,codeAny_builtin->wY,wpAny_standAt->uX,FuncData->jZ,call_meets->pO,codeAny_mono->uY,wpAny_field->sJ,behindInMarks->wZ,wpAny_letOwnedTupleGo_enum->N6,codeAny_call_builtin->HJ,Stmt->Yer,letOwnedTupleGo->Dq,wpAny_pyIter_tuple->HN,assign->jn,codeAny->mJ,sliceBounds->w5,slicePicked->w6,wpAny_seqItems->Ds,wpAny_tryCatch->Dt,plainId_quiet->Du,typeIs_str->xg,wpAny_execs_nil->HS,swapsWith->u0,sizeLine_eq->zB,getItem->pP,intText?->HW,wpAny_assign_Name->N7,wpAny_sequenceKey->N8,wpAny_pyNext_enum_itemD->WW,noFill_tuple_add->N_,wpAny_pyNext_list_item->WX,codeAny_compStart_list->WY,wpAny_pyNext_list_end->W2,cLine->jA,wpAny_specialOf->Oa,exec_Assign_Name_used->W3,weight_type_call_type->W4,wpAny_updateSeq->Ob,wpAny_call->Dv,wpAny_newFunctionEnv->W5,newFunctionEnv->Oc,holding->u5,subscripted->HX,callerA->u6,relabel->u9,wpAny_of_eq->HY,dictGet->u_,wpAny_letGo->H_,swapsWithSole->Od,swappedStores->Oe,seq_tuple_add->Og,wpAny_missed_other->W6,wpAny_rule->Ia,wpAny_dictEntries->W7,Within->Oh,pyNext->sO,Result->sS,concat_meets->Oi,wpAny_typeOf->Oj,seqIndex_neg->Ol,wpAny_pyHash_int->W8,wpAny_pyHash_str->W9,wpAny_execs_cons->W_,wpAny_isInstance->Xa,checkBuiltinCall->Xb,compEnvC->Dw,rawInt->vf,BindsTo->zE,seqIndex_of->Om,valueAt->zF,wpAny_stack_any->Xc,codeAny_of_tree->Xd,wpAny_dictEpoch->Xe,builtinsNs->Oo,wpAny_Name->Oq,typeIs_int->Ot,call->Ou,IsEnum->xj,standAt->Dy,compPost->Ib,callWith->Ie,contains->Ig,pyIter->zG,cellsFrom->Ov,seqIndex?->Ow,scanBound->Ox,spliced->Ih,unaryOp->Ii,evalAll->Ij,bindL->vg,bindC->vh,atKey->vm,newList->Ik,Str->aj,Obj->aM,Env->eY,Sem->oN,Pos->aV,Tok->fH
open Nat renaming le_trans->Yj,le_refl->Ys,le_antisymm->Y4,lt_of_lt_of_le->Y7,sub_add_cancel->gZ,ne_of_lt->dz,le_add_right->jc,zero_le->eZ,le_of_not_lt->jJ,succ_le_succ->oO,le_of_eq->jK,le_succ_of_le->qQ,add_comm->kZ,lt_of_le_of_lt->sU,lt_trans->mK,add_assoc->pQ,eq_of_beq_eq_true->zH,beq->iz,lt_irrefl->vo,zero_add->vp,mul_div_le->zJ,lt_succ_self->Dz,lt_add_right->DG,le_succ->vy,min_eq_left->DK,le_add_left->DN,lt_succ_of_le->Il,le_of_lt->zK,lt_of_not_le->Im,ne_of_gt->DP,lt_of_le_of_ne->Oz,toDigits_of_lt_base->Xf,min_eq_right->OD,min_le_right->OJ,succ_ne_self->O1,ble->sV,le_of_ble_eq_true->Xg,sub_eq_zero_of_le->Xh,toDigits->Io,strongRecOn->O2,add_zero->Ip,sub_le->DQ,mod_lt->DR,add_le_add_right->Xi,mul_le_mul_left->Xj,pos_of_ne_zero->Xk,le_of_lt_succ->Xl,min_le_left->Xm,toList_repr->Xn,add_le_add->Xo
open PySem.Heap renaming get?_push_of_some->Yl,get?_push_size->Y2,lt_size->Y3,get?_update_other->sW,size_push->xq,get?_update_self->Ir,SameBut->zM,ExtBut->O4
open Classical renaming propDecidable->Yx
open Bool renaming and_eq_true->Y5,false_ne_true->k_,and_eq_true_iff->vz,false_eq_true->zN,or_eq_true->xr,and_false->xu,beq_eq_decide_eq->Iu,or_false->Iv,and_true->Iw,eq_iff_iff->O5,false_and->O6,not_eq_true'->Xp,not_eq_true->Xq,false_or->Xr
open Option.some renaming inj->Y8,injEq->Xu
open List.cons renaming inj->iV,injEq->Xv
open Int renaming toNat_of_nonneg->pR,toNat_natCast->qR,emod_lt_of_pos->sX,emod_nonneg->pU,le_antisymm->qT,self_le_toNat->xx,natCast_nonneg->DW,le_of_eq->xF,ofNat_le->zO,zero_add->zP,add_zero->zQ,not_le->zR,lt_mul_ediv_self_add->Xw,le_of_lt->Iz,natCast_add->O7,mul_zero->IK,natCast_mul->O8,ofNat_lt->IV,lt_of_lt_of_le->Xx,sub_zero->O9,min_eq_left->Xy,mul_add->O_,add_le_add->Xz,not_lt->Pa
open Ne renaming symm->cP
open False renaming elim->jo
open PySem.Builtin.List renaming listTooLong->zT
open PyProof.Rows renaming slot_tuple_getitem->IW,callWith_type1->Pb,slot_tupleiter_next->I_,signs_ofString->XC,evalArgs_kwB->XD,kindOf->mL,subscriptTail_builtinR->XF,AllBare->sY,envOfC->oR,entry_tupleiter_next->XH,entry_tuple_getitem->XJ,args_tupleiter_next->XM,args_tuple_getitem->XQ,subscriptTail->Pg,Subscript_->Ph
open PySem.Str renaming length->lg,ofString->pW
open PyProof.Rows.KTD renaming datumAt->nu,TabOf->pX,tab_of_look->XR
open PySem.Builtin.Str renaming occurrences->DX,strSliceIndices->Ja,partsBetween->XS,tooLong->XX,strKind->X4
open PySem.NumText renaming digitsVal->DY
open PyProof.Rows.F renaming plain_set_update_loop->Pj,entry_set_update_loop->X5
open PySem.F renaming plain_max_loop->xG,plainAttrs_str->Jb,slot_enumerate_next->Jc,args_tuple_add_2->Pk,entry_tuple_add->Pn,plainAttrs_list->Pq,slot_tuple_add->Pr,slot_str_join->Pu,slot_dict_get->Px,slot_dict_contains->X6,args_str_split_2->Py,slot_dict_getitem->X7,entry_str_split->Pz,args_enumerate_next_1->X8,args_dict_get_3->X_,slot_str_split->PB,entry_max_loop->PJ,entry_enumerate_next->YB,entry_dict_get->YC,type_str_join->YD,entry_enumerate_new->YF,args_list_extend_2->YG,entry_list_extend->YH,slot_list_extend->YJ,called_enumerate->YK,entry_list_pop->YL,slot_list_pop->YM,slot_int_rmul->YQ
open PySem.Builtin.Slice renaming slicePlaces->Jd,sliceAdjust->PL,sliceApplied->YS
open PySem.Builtin.SmallTypes renaming nextOf->Je
open PySem.Around renaming under_plainId->D_,under_plain->YT,under->PN
open PySem.Builtin.Tuple renaming tupleExact->Jf,tupleItemsOf->YW
open Array renaming length_toList->Yes,toList->zU,getElem?_toList->PQ,mem_of_getElem?->YX,append_assoc->YZ
open PySem.SeqAt renaming EqAt->sZ,in_listAt->Y_
open PySem.SeqAt.EqAt renaming str_int->Jg,int_str->PX,same->P_,none_bool->ZC,bool_none->ZD,bool_bool->ZF,none_int->ZG,none_str->ZJ,bool_int->ZK,bool_str->ZL,int_none->ZM,int_bool->ZP,str_none->ZQ,str_bool->ZR,int_int->ZS,str_str->ZV
open PySem.Calls renaming callWith_builtin->Qa,Name_function_global->ZW,spliced_cons->Qc,evalArgs_plain->ZX,spliced_nil->ZZ
open PySem.Obj renaming mapSeq->xH,data_mapFields->Z0
open PySem.SeqAt.RcNeAt renaming lists_lengths->Z1
open Decidable renaming byContradiction->Z2
open OfNat renaming ofNat->Ea
open Eq renaming trans->vA
open PySem.StrLaws renaming glued_eq_join->Z3
open PySem.Heap.SameBut renaming update->Z4
open PySem.Builtin.Dict renaming missed->Z5
open PySem.Code renaming quiet_builtin->Z6,isFrame->Qd
open Prod.mk renaming injEq->Qe
open PySem.SeqAt.RcAt renaming tuples->Z7
open PySem.Walks renaming list->Jh
open Nat.succ renaming inj->Qf
open ToString renaming toString->Eb
open PySem.Txt renaming split->Z8,startswith->Z9
open PySem.PassesOwn renaming never->Z_
open Char renaming toNat->Qg
open PySem.Paired renaming length->Ymj
open Min renaming min->jq
namespace L3
set_option compiler.extract_closed false
set_option genSizeOf false in
set_option genInjectivity false in
inductive AE where
 |v (i:Nat)
 |k (n:Nat)
 |a (x y:AE)
 |m (n:Nat) (x:AE)
noncomputable def Ji:List Nat->Nat->Nat
 |[],_=>0|x::_,0=>x|_::l,n+1=>Ji l n
noncomputable def AE.ev(c:List Nat):AE->Nat
 | .v i=>Ji c i|.k n=>n|.a x y=>x.ev c+y.ev c|.m n x=>n*x.ev c
noncomputable def aL:List Nat->List Nat->List Nat
 |[],r=>r|x::l,[]=>x::l|x::l,y::r=>(x+y)::aL l r
noncomputable def sL(n:Nat):List Nat->List Nat
 |[]=>[]|x::l=>(n*x)::sL n l
noncomputable def uL:Nat->List Nat
 |0=>[1]|n+1=>0::uL n
noncomputable def AE.li:AE->List Nat
 | .v i=>0::uL i|.k n=>[n]|.a x y=>aL x.li y.li|.m n x=>sL n x.li
noncomputable def dt:List Nat->List Nat->Nat
 |x::c,y::l=>x*y+dt c l|[],_=>0|_,[]=>0
noncomputable def xJ:List Nat->List Nat->Bool
 |[],_=>true|x::l,[]=>sV x 0&&xJ l []|x::l,y::r=>sV x y&&xJ l r
theorem oU:∀c,dt c []=0
 |[]=>rfl|_::_=>rfl
theorem qU:∀c l r,dt c (aL l r)=dt c l+dt c r
 |c,[],r=>by rw[oU,vp];rfl|c,x::l,[]=>by rw[oU];rfl|[],x::l,y::r=>rfl|z::c,x::l,y::r=>by show z*(x+y)+dt c (aL l r)=_;rw[qU c l r,Nat.mul_add];exact Nat.add_add_add_comm _ _ _ _
theorem Ec(n:Nat):∀c l,dt c (sL n l)=n*dt c l
 |c,[]=>by rw[oU];exact oU c|[],x::l=>rfl|z::c,x::l=>by show z*(n*x)+dt c (sL n l)=n*(z*x+dt c l);rw[Ec n c l,Nat.mul_add,Nat.mul_left_comm]
theorem Zs6:∀c i,dt c (uL i)=Ji c i
 |[],0=>rfl|[],_+1=>rfl|x::c,0=>by show x*1+dt c []=x;rw[oU,Nat.mul_one];rfl|x::c,n+1=>by show x*0+dt c (uL n)=Ji c n;rw[Zs6 c n,Nat.mul_zero,vp]
theorem zV:∀c l r,xJ l r=true->dt c l<=dt c r
 |c,[],r,_=>by rw[oU];exact eZ _|[],x::l,r,_=>eZ _|z::c,x::l,[],h=>by have h:=(Y5 _ _).mp h;have e:x=0:=Nat.le_zero.1 (Xg h.1);have i:=zV c l [] h.2;rw[oU]at i;show z*x+dt c l<=0;rw[e,Nat.le_zero.1 i];exact Ys 0|z::c,x::l,y::r,h=>
  have h:=(Y5 _ _).mp h
  Xo (Xj z (Xg h.1)) (zV c l r h.2)
theorem AE.d8(c:List Nat):∀e:AE,dt (1::c) e.li=e.ev c
 | .v i=>(vp _).trans (Zs6 c i)|.k n=>by show 1*n+dt c []=n;rw[oU,Nat.one_mul];rfl|.a x y=>(qU _ _ _).trans (congr (congrArg _ (x.d8 c)) (y.d8 c))|.m n x=>(Ec n _ _).trans (congrArg _ (x.d8 c))
noncomputable def bO:Nat->Nat->AE×Nat
 |0,s=>(.k 0,s)|f+1,s=>bif sV (s % 16) 9 then(.v (s % 16),s / 16)else bif iz (s % 16) 10 then(.k 1,s / 16)
  else bif iz (s % 16) 11 then(.k (s / 256 % 16^(s / 16 % 16)),s / 256 / 16^(s / 16 % 16))
  else bif iz (s % 16) 12 then(.a (bO f (s / 16)).1 (bO f (bO f (s / 16)).2).1,(bO f (bO f (s / 16)).2).2)
  else bif iz (s % 16) 13 then(.m (s / 16 % 256) (bO f (s / 4096)).1,(bO f (s / 4096)).2)
  else(.k 0,s / 16)
noncomputable def Ed:Nat->Nat->Nat->Prop
 |0,x,y=>x<=y|1,x,y=>x<y|2,x,y=>x=y|3,x,y=>x=y
 |4,x,y=>¬x<=y|5,x,y=>¬x<y|_,_,_=>False
noncomputable def Qh:Nat->AE->AE->List Nat
 |0,x,_=>x.li|1,x,_=>aL [1] x.li|2,x,_=>x.li|4,_,y=>aL [1] y.li
 |_,_,y=>y.li
noncomputable def Ef:Nat->AE->AE->List Nat
 |0,_,y=>y.li|1,_,y=>y.li|2,_,y=>y.li|_,x,_=>x.li
noncomputable def tu(c:List Nat):Nat->Nat->Prop
 |0,s=>Ed (s % 16) ((bO 9 (s / 16)).1.ev c) ((bO 9 (bO 9 (s / 16)).2).1.ev c)|n+1,s=>Ed (s / 16 % 16) ((bO 9 (s / 256)).1.ev c) ((bO 9 (bO 9 (s / 256)).2).1.ev c)->tu c n (bO 9 (bO 9 (s / 256)).2).2
noncomputable def gN:Nat->AE->AE->List Nat->List Nat->Bool
 |0,x,y,L,R=>xJ (aL R x.li) (aL L y.li)|1,x,y,L,R=>xJ (aL [1] (aL R x.li)) (aL L y.li)|_,_,_,L,R=>xJ (aL [1] R) L
noncomputable def tD:Nat->Nat->List Nat->List Nat->Bool
 |0,s,L,R=>gN (s % 16) (bO 9 (s / 16)).1 (bO 9 (bO 9 (s / 16)).2).1 L R|n+1,s,L,R=>tD n (bO 9 (bO 9 (s / 256)).2).2 (aL L (sL (s % 16) (Qh (s / 16 % 16) (bO 9 (s / 256)).1 (bO 9 (bO 9 (s / 256)).2).1))) (aL R (sL (s % 16) (Ef (s / 16 % 16) (bO 9 (s / 256)).1 (bO 9 (bO 9 (s / 256)).2).1)))
theorem Eg(c l:List Nat):dt (1::c) (aL [1] l)=dt (1::c) l+1:=by rw[qU];show 1*1+dt c []+_=_;rw[oU];exact kZ _ _
theorem Zp1(c:List Nat)(x y:AE):∀r,Ed r (x.ev c) (y.ev c)->dt (1::c) (Qh r x y)<=dt (1::c) (Ef r x y)
 |0,h=>by show dt _ x.li<=dt _ y.li;rw[x.d8,y.d8];exact h|1,h=>by show dt _ (aL [1] x.li)<=dt _ y.li;rw[Eg,x.d8,y.d8];exact h|2,h=>by show dt _ x.li<=dt _ y.li;rw[x.d8,y.d8];exact jK h|3,h=>by show dt _ y.li<=dt _ x.li;rw[x.d8,y.d8];exact jK h.symm
 |4,h=>by show dt _ (aL [1] y.li)<=dt _ x.li;rw[Eg,x.d8,y.d8];exact Im h|5,h=>by show dt _ y.li<=dt _ x.li;rw[x.d8,y.d8];exact jJ h|_+6,h=>h.elim
theorem Zwq(c:List Nat)(x y:AE)(L R:List Nat)(h:dt (1::c) L<=dt (1::c) R):∀r,gN r x y L R=true->Ed r (x.ev c) (y.ev c)
 |0,k=>by have e:=zV (1::c) _ _ k;rw[qU,qU,x.d8,y.d8]at e;exact Nat.le_of_add_le_add_left (Yj e (Xi h _))|1,k=>by have e:=zV (1::c) _ _ k;rw[Eg,qU,qU,x.d8,y.d8]at e;exact Nat.lt_of_add_lt_add_left (Yj e (Xi h _))|r+2,k=>by have e:=zV (1::c) _ _ k;rw[Eg]at e;exact absurd (Yj e h) (Nat.not_succ_le_self _)
theorem arN(c:List Nat):∀(n s:Nat) (L R:List Nat),dt (1::c) L<=dt (1::c) R->tD n s L R=true->tu c n s
 |0,s,L,R,h,k=>Zwq c _ _ L R h _ k|n+1,s,L,R,h,k=>λg=>arN c n _ _ _ (by rw[qU,qU,Ec,Ec];exact Xo h (Xj _ (Zp1 c _ _ _ g))) k
end L3
theorem lN(c:List Nat)(n s:Nat)(h:L3.tD n s [] []=true):L3.tu c n s:=L3.arN c n s [] [] (Ys _) h
theorem g8(a b:Nat):a<=a-b+b:=Nat.le_add_of_sub_le (Ys _)
theorem T1:true=true:=rfl
theorem lA{a:Nat}(n s:Nat)(y:L3.tD n s [] []=true):L3.tu [a] n s:=lN _ n s y
theorem lB{a b:Nat}(n s:Nat)(y:L3.tD n s [] []=true):L3.tu [a,b] n s:=lN _ n s y
theorem lC{a b c:Nat}(n s:Nat)(y:L3.tD n s [] []=true):L3.tu [a,b,c] n s:=lN _ n s y
theorem lD{a b c d:Nat}(n s:Nat)(y:L3.tD n s [] []=true):L3.tu [a,b,c,d] n s:=lN _ n s y
theorem lE{a b c d e:Nat}(n s:Nat)(y:L3.tD n s [] []=true):L3.tu [a,b,c,d,e] n s:=lN _ n s y
theorem lF{a b c d e f:Nat}(n s:Nat)(y:L3.tD n s [] []=true):L3.tu [a,b,c,d,e,f] n s:=lN _ n s y
theorem clA(w:Int):max w 0=(w.toNat:Int):=(Int.ofNat_toNat w).symm
theorem clB(v:Int)(n:Nat)(h:¬v<0):jq v (n:Int)=((jq v.toNat n:Nat):Int):=by
 obtain⟨k,rfl⟩:=Int.eq_ofNat_of_zero_le (Pa.1 h);rcases Nat.le_total k n with z|z
 .rw[Xy (zO.2 z)];exact congrArg Int.ofNat (DK z).symm
 .rw[Int.min_eq_right (zO.2 z)];exact congrArg Int.ofNat (OD z).symm
theorem Qi(v:Int)(n:Nat)(h:v<0):max 0 (jq (v+(n:Int)) (n:Int))=((v+(n:Int)).toNat:Int):=by rw[Xy (Iz (Xx (Int.add_lt_add_right h _) (xF (zP _)))),Int.max_comm];exact clA _
theorem Qj(v:Int)(n:Nat)(h:¬v<0):max 0 (jq v (n:Int))=((jq v.toNat n:Nat):Int):=by rw[clB v n h];exact Int.max_eq_right (DW _)
namespace L3
set_option genSizeOf false in
set_option genInjectivity false in
inductive AI where
 |v (i:Nat)
 |k (n:Nat)
 |c (e:AE)
 |a (x y:AI)
 |s (x y:AI)
 |g (x:AI)
 |m (n:Nat) (x:AI)
noncomputable def Eh:List Int->Nat->Int
 |[],_=>0|x::_,0=>x|_::l,n+1=>Eh l n
noncomputable def AI.ev(c:List Nat)(d:List Int):AI->Int
 | .v i=>Eh d i|.k n=>Int.ofNat n|.c e=>((e.ev c:Nat):Int)|.a x y=>x.ev c d+y.ev c d
 | .s x y=>x.ev c d-y.ev c d|.g x=>-x.ev c d|.m n x=>Int.ofNat n*x.ev c d
noncomputable def pL(u w:List Nat×List Nat):List Nat×List Nat:=(aL u.1 w.1,aL u.2 w.2)
noncomputable def AI.li:AI->Bool->List Nat×List Nat
 | .v i,b=>bif b then([],uL i)else([],[])|.k n,b=>bif b then([n],[])else([],[])|.c e,b=>bif b then(e.li,[])else([],[])|.a x y,b=>pL (x.li b) (y.li b)
 | .s x y,b=>pL (x.li b) (y.li (!b))|.g x,b=>x.li (!b)|.m n x,b=>(sL n (x.li b).1,sL n (x.li b).2)
noncomputable def dU:List Int->List Nat->Int
 |x::c,y::l=>x*(y:Int)+dU c l|[],_=>0|_,[]=>0
noncomputable def dI(c:List Nat)(d:List Int)(u:List Nat×List Nat):Int:=((dt (1::c) u.1:Nat):Int)+dU d u.2
theorem ZsW(p q r s:Int):p+q+(r+s)=p+r+(q+s):=by omega
theorem oV:∀c,dU c []=0
 |[]=>rfl|_::_=>rfl
theorem ZqG:∀c l r,dU c (aL l r)=dU c l+dU c r
 |c,[],r=>by rw[oV,zP];rfl|c,x::l,[]=>by rw[oV,zQ];rfl|[],x::l,y::r=>rfl|z::c,x::l,y::r=>by show z*((x+y:Nat):Int)+dU c (aL l r)=(z*x+dU c l)+(z*y+dU c r);rw[ZqG c l r,O7,O_];exact ZsW _ _ _ _
theorem ZqZ(n:Nat):∀c l,dU c (sL n l)=Int.ofNat n*dU c l
 |c,[]=>by rw[oV,IK];exact oV c|[],x::l=>(IK _).symm|z::c,x::l=>by show z*((n*x:Nat):Int)+dU c (sL n l)=Int.ofNat n*(z*x+dU c l);rw[ZqZ n c l,O_,O8,Int.mul_left_comm];rfl
theorem Zqi:∀c i,dU c (uL i)=Eh c i
 |[],0=>rfl|[],_+1=>rfl|x::c,0=>by show x*1+dU c []=x;rw[oV,Int.mul_one,zQ]|x::c,n+1=>by show x*0+dU c (uL n)=Eh c n;rw[Zqi c n,IK,zP]
section
variable (c:List Nat) (d:List Int)
theorem j4(u w:List Nat×List Nat):dI c d (pL u w)=dI c d u+dI c d w:=by show((dt (1::c) (aL u.1 w.1):Nat):Int)+dU d (aL u.2 w.2)=_;rw[qU,ZqG,O7];exact ZsW _ _ _ _
theorem Jj(n:Nat)(u:List Nat×List Nat):dI c d (sL n u.1,sL n u.2)=Int.ofNat n*dI c d u:=by show((dt (1::c) (sL n u.1):Nat):Int)+dU d (sL n u.2)=_;rw[Ec,ZqZ,O8];exact(O_ _ _ _).symm
theorem Qk:dI c d ([],[])=0:=by show((dt (1::c) []:Nat):Int)+dU d []=0;rw[oU,oV];rfl
theorem Zto(p q r s:Int):p-q+(r-s)=p+r-(q+s):=by omega
theorem Zpp(p q r s:Int):p-q-(r-s)=p+s-(q+r):=by omega
theorem AI.d8:∀e:AI,e.ev c d=dI c d (e.li true)-dI c d (e.li false)
 | .v i=>by show Eh d i=dI c d ([],uL i)-dI c d ([],[]);rw[Qk,O9];show _=((dt (1::c) []:Nat):Int)+dU d (uL i);rw[oU,Zqi];exact(zP _).symm|.k n=>by show Int.ofNat n=dI c d ([n],[])-dI c d ([],[]);rw[Qk,O9];show _=((dt (1::c) [n]:Nat):Int)+dU d [];rw[oV,zQ];show _=((1*n+dt c []:Nat):Int);rw[oU,Nat.one_mul];rfl|.c e=>by show((e.ev c:Nat):Int)=dI c d (e.li,[])-dI c d ([],[]);rw[Qk,O9];show _=((dt (1::c) e.li:Nat):Int)+dU d [];rw[oV,zQ,e.d8]|.a x y=>by show x.ev c d+y.ev c d=dI c d (pL (x.li true) (y.li true))-dI c d (pL (x.li false) (y.li false));rw[j4,j4,x.d8,y.d8];exact Zto _ _ _ _
 | .s x y=>by show x.ev c d-y.ev c d=dI c d (pL (x.li true) (y.li false))-dI c d (pL (x.li false) (y.li true));rw[j4,j4,x.d8,y.d8];exact Zpp _ _ _ _|.g x=>by show -x.ev c d=dI c d (x.li false)-dI c d (x.li true);rw[x.d8];exact Int.neg_sub _ _|.m n x=>by show Int.ofNat n*x.ev c d=dI c d (sL n (x.li true).1,sL n (x.li true).2)-dI c d (sL n (x.li false).1,sL n (x.li false).2);rw[Jj,Jj,x.d8];exact Int.mul_sub _ _ _
noncomputable def cI(x y:AI):List Nat×List Nat:=pL (x.li true) (y.li false)
noncomputable def xK(u:List Nat×List Nat):List Nat×List Nat:=(aL [1] u.1,u.2)
theorem Jk(u:List Nat×List Nat):dI c d (xK u)=dI c d u+1:=by show((dt (1::c) (aL [1] u.1):Nat):Int)+dU d u.2=((dt (1::c) u.1:Nat):Int)+dU d u.2+1;rw[Eg,O7,Int.add_right_comm];rfl
theorem Jl(x y:AI):dI c d (cI x y)-dI c d (cI y x)=x.ev c d-y.ev c d:=by unfold cI;rw[j4,j4,x.d8,y.d8,Zpp,Int.add_comm (dI c d (y.li true))]
theorem Jm{x y:AI}(h:x.ev c d<=y.ev c d):dI c d (cI x y)<=dI c d (cI y x):=by have:=Jl c d x y;omega
theorem ZwA{x y:AI}(h:dI c d (cI x y)<=dI c d (cI y x)):x.ev c d<=y.ev c d:=by have:=Jl c d x y;omega
noncomputable def ZvB:Nat->Int->Int->Prop
 |0,x,y=>x<=y|1,x,y=>x<y|2,x,y=>x=y|3,x,y=>x=y
 |4,x,y=>¬x<=y|5,x,y=>¬x<y|_,_,_=>False
noncomputable def loI:Nat->AI->AI->List Nat×List Nat
 |0,x,y=>cI x y|1,x,y=>xK (cI x y)|2,x,y=>cI x y|4,x,y=>xK (cI y x)
 |_,x,y=>cI y x
noncomputable def hiI:Nat->AI->AI->List Nat×List Nat
 |0,x,y=>cI y x|1,x,y=>cI y x|2,x,y=>cI y x|_,x,y=>cI x y
theorem ZsT{x y:AI}(h:x.ev c d<y.ev c d):dI c d (xK (cI x y))<=dI c d (cI y x):=by have:=Jl c d x y;rw[Jk];omega
theorem Ztv(x y:AI):∀r,ZvB r (x.ev c d) (y.ev c d)->dI c d (loI r x y)<=dI c d (hiI r x y)
 |0,h=>Jm c d h|1,h=>ZsT c d h|2,h=>Jm c d (xF h)|3,h=>Jm c d (xF h.symm)
 |4,h=>ZsT c d (zR.1 h)|5,h=>Jm c d (Pa.1 h)|_+6,h=>h.elim
end
noncomputable def cg:Nat->Nat->AI×Nat
 |0,s=>(.k 0,s)|f+1,s=>bif sV (s % 16) 7 then(.v (s % 16),s / 16)else bif iz (s % 16) 8 then(.c (bO 9 (s / 16)).1,(bO 9 (s / 16)).2)
  else bif iz (s % 16) 9 then(.g (cg f (s / 16)).1,(cg f (s / 16)).2)else bif iz (s % 16) 10 then(.k 1,s / 16)
  else bif iz (s % 16) 11 then(.k (s / 256 % 16^(s / 16 % 16)),s / 256 / 16^(s / 16 % 16))
  else bif iz (s % 16) 12 then(.a (cg f (s / 16)).1 (cg f (cg f (s / 16)).2).1,(cg f (cg f (s / 16)).2).2)
  else bif iz (s % 16) 13 then(.m (s / 16 % 256) (cg f (s / 4096)).1,(cg f (s / 4096)).2)
  else bif iz (s % 16) 14 then(.k 0,s / 16)else(.s (cg f (s / 16)).1 (cg f (cg f (s / 16)).2).1,(cg f (cg f (s / 16)).2).2)
def hP(c:List Nat)(d:List Int)(r s:Nat):Prop:=bif sV 8 r then ZvB (r-8) ((cg 9 s).1.ev c d) ((cg 9 (cg 9 s).2).1.ev c d)else Ed r ((bO 9 s).1.ev c) ((bO 9 (bO 9 s).2).1.ev c)
noncomputable def hR(r s:Nat):Nat:=bif sV 8 r then(cg 9 (cg 9 s).2).2 else(bO 9 (bO 9 s).2).2
noncomputable def hL(r s:Nat):List Nat×List Nat:=bif sV 8 r then loI (r-8) (cg 9 s).1 (cg 9 (cg 9 s).2).1 else(Qh r (bO 9 s).1 (bO 9 (bO 9 s).2).1,[])
noncomputable def hH(r s:Nat):List Nat×List Nat:=bif sV 8 r then hiI (r-8) (cg 9 s).1 (cg 9 (cg 9 s).2).1 else(Ef r (bO 9 s).1 (bO 9 (bO 9 s).2).1,[])
theorem ZvW(c:List Nat)(d:List Int)(r s:Nat)(h:hP c d r s):dI c d (hL r s)<=dI c d (hH r s):=by
 unfold hP at h;unfold hL hH;cases e:sV 8 r<;>rw[e]at h
 .exact Int.add_le_add_right (zO.2 (Zp1 c _ _ _ h)) _
 .exact Ztv c d _ _ _ h
noncomputable def zL:List Nat->Bool
 |[]=>true|x::l=>iz x 0&&zL l
noncomputable def Ql:List Nat->List Nat->Bool
 |[],r=>zL r|x::l,[]=>iz x 0&&zL l|x::l,y::r=>iz x y&&Ql l r
theorem Qm:∀c l,zL l=true->dU c l=0
 |c,[],_=>oV c|[],x::l,_=>rfl|z::c,x::l,h=>by have h:=(Y5 _ _).mp h;show z*(x:Int)+dU c l=0;rw[zH h.1,Qm c l h.2,zQ];exact IK z
theorem Zrg:∀c l r,Ql l r=true->dU c l=dU c r
 |c,[],r,h=>(oV c).trans (Qm c r h).symm|c,x::l,[],h=>(Qm c (x::l) h).trans (oV c).symm|[],x::l,y::r,_=>rfl|z::c,x::l,y::r,h=>by have h:=(Y5 _ _).mp h;show z*(x:Int)+dU c l=z*(y:Int)+dU c r;rw[zH h.1,Zrg c l r h.2]
noncomputable def zW(u w:List Nat×List Nat):Bool:=xJ u.1 w.1&&Ql u.2 w.2
theorem Ei(c:List Nat)(d:List Int){u w:List Nat×List Nat}(h:zW u w=true):dI c d u<=dI c d w:=by have h:=(Y5 _ _).mp h;exact Xz (zO.2 (zV _ _ _ h.1)) (xF (Zrg d _ _ h.2))
noncomputable def Qn(c:List Nat)(d:List Int):Nat->Nat->Prop
 |0,s=>hP c d (s % 16) (s / 16)|n+1,s=>hP c d (s / 16 % 16) (s / 256)->Qn c d n (hR (s / 16 % 16) (s / 256))
noncomputable def gI(r s:Nat)(L R:List Nat×List Nat):Bool:=bif iz r 0 then zW (pL R ((bO 9 s).1.li,[])) (pL L ((bO 9 (bO 9 s).2).1.li,[]))
 else bif iz r 1 then zW (xK (pL R ((bO 9 s).1.li,[]))) (pL L ((bO 9 (bO 9 s).2).1.li,[]))
 else bif iz r 8 then zW (pL R (cI (cg 9 s).1 (cg 9 (cg 9 s).2).1)) (pL L (cI (cg 9 (cg 9 s).2).1 (cg 9 s).1))
 else bif iz r 9 then zW (xK (pL R (cI (cg 9 s).1 (cg 9 (cg 9 s).2).1))) (pL L (cI (cg 9 (cg 9 s).2).1 (cg 9 s).1))
 else zW (xK R) L
noncomputable def Qo:Nat->Nat->List Nat×List Nat->List Nat×List Nat->Bool
 |0,s,L,R=>gI (s % 16) (s / 16) L R|n+1,s,L,R=>Qo n (hR (s / 16 % 16) (s / 256)) (pL L (sL (s % 16) (hL (s / 16 % 16) (s / 256)).1,sL (s % 16) (hL (s / 16 % 16) (s / 256)).2)) (pL R (sL (s % 16) (hH (s / 16 % 16) (s / 256)).1,sL (s % 16) (hH (s / 16 % 16) (s / 256)).2))
theorem Jo(c:List Nat)(d:List Int)(e:AE):dI c d (e.li,[])=((e.ev c:Nat):Int):=by show((dt (1::c) e.li:Nat):Int)+dU d []=_;rw[oV,zQ,e.d8]
theorem ZqH{a b l r:Int}(h:l<=r)(e:r+a<=l+b):a<=b:=by omega
theorem Zpz{a b l r:Int}(h:l<=r)(e:r+a+1<=l+b):a<b:=by omega
theorem Ztn{l r:Int}(h:l<=r)(e:r+1<=l):False:=by omega
theorem Zwv(c:List Nat)(d:List Int)(r s:Nat)(L R:List Nat×List Nat)(h:dI c d L<=dI c d R)(k:gI r s L R=true):hP c d r s:=by
 unfold gI at k;cases e0:iz r 0 with
 |true=>rw[zH e0]at k ⊢;have e:=Ei c d k;rw[j4,j4,Jo,Jo]at e;exact zO.1 (ZqH h e)|false=>
  cases e1:iz r 1 with
  |true=>rw[zH e1]at k ⊢;have e:=Ei c d k;rw[Jk,j4,j4,Jo,Jo]at e;exact IV.1 (Zpz h e)|false=>
   cases e8:iz r 8 with
   |true=>rw[zH e8]at k ⊢;have e:=Ei c d k;rw[j4,j4]at e;exact ZwA c d (ZqH h e)|false=>
    cases e9:iz r 9 with
    |true=>rw[zH e9]at k ⊢;have e:=Ei c d k;rw[Jk,j4,j4]at e;have z:=Zpz h e;have y:=Jl c d (cg 9 s).1 (cg 9 (cg 9 s).2).1;show(cg 9 s).1.ev c d<(cg 9 (cg 9 s).2).1.ev c d;exact Int.lt_of_sub_neg (y▸Int.sub_neg_of_lt z)|false=>rw[e0,e1,e8,e9]at k;have e:=Ei c d k;rw[Jk]at e;exact(Ztn h e).elim
theorem arI(c:List Nat)(d:List Int):∀(n s:Nat) (L R:List Nat×List Nat),dI c d L<=dI c d R->Qo n s L R=true->Qn c d n s
 |0,s,L,R,h,k=>Zwv c d _ _ L R h k|n+1,s,L,R,h,k=>λg=>arI c d n _ _ _ (by rw[j4,j4,Jj,Jj];exact Xz h (Int.mul_le_mul_of_nonneg_left (ZvW c d _ _ g) (DW _))) k
end L3
theorem iN(c:List Nat)(d:List Int)(n s:Nat)(h:L3.Qo n s ([],[]) ([],[])=true):L3.Qn c d n s:=L3.arI c d n s ([],[]) ([],[]) (Int.le_refl _) h
set_option Elab.async false
set_option linter.all false
set_option maxRecDepth 100000
namespace L2
open PySem PySem.Spec PyProof.Rows
noncomputable abbrev Key:=Sum Int aj
noncomputable def Zs9:Key->Yh->Bool
 | .inl k,v=>Value.isInt k v|.inr x,v=>Value.isStrOf x v
noncomputable def ZxH(w:bx):Key->Int
 | .inl k=>hashInt k|.inr x=>hashStr w x
theorem tE:∀{k:Key} {v:Yh},Zs9 k v=true->(∃i t,k=Sum.inl i/\v=Value.int i t)\/(∃x t,k=Sum.inr x/\v=Value.str x t)
 | .inl i,v,h=>by obtain⟨t,e⟩:=Value.isInt_shape (k:=i) (v:=v) h;exact .inl ⟨i,t,rfl,e⟩|.inr x,v,h=>by obtain⟨t,e⟩:=Value.isStrOf_shape (x:=x) (v:=v) h;exact .inr ⟨x,t,rfl,e⟩
theorem ZuR(a b:Int):decide ((Sum.inl a:Key)=Sum.inl b)=(a==b):=by
 by_cases e:a=b
 .subst e;simp
 .have h:¬(Sum.inl a:Key)=Sum.inl b:=λq=>e (Sum.inl.inj q);rw[decide_eq_false h];exact(beq_eq_false_iff_ne.mpr e).symm
theorem ZuW(a b:aj):decide ((Sum.inr a:Key)=Sum.inr b)=decide (a=b):=by
 by_cases e:a=b
 .subst e;simp
 .have h:¬(Sum.inr a:Key)=Sum.inr b:=λq=>e (Sum.inr.inj q);rw[decide_eq_false h,decide_eq_false e]
theorem ZtN(a:Int)(b:aj):decide ((Sum.inl a:Key)=Sum.inr b)=false:=decide_eq_false (λq=>nomatch q)
theorem ZtT(a:aj)(b:Int):decide ((Sum.inr a:Key)=Sum.inl b)=false:=decide_eq_false (λq=>nomatch q)
noncomputable def ZnQ(prog:bF)(w:bx):PySem.KeyKind prog w Key where
 is:=Zs9
 hash:=ZxH w
 inj:=λv a b ha hb=>by
  rcases tE ha with⟨i,t,rfl,rfl⟩|⟨x,t,rfl,rfl⟩
  .rcases tE hb with⟨j,u,rfl,e⟩|⟨y,u,rfl,e⟩
   .injection e with e1 _;rw[e1]
   .exact nomatch e
  .rcases tE hb with⟨j,u,rfl,e⟩|⟨y,u,rfl,e⟩
   .exact nomatch e
   .injection e with e1 _;rw[e1]
 byValue:=λk v h=>by rcases tE h with⟨i,t,rfl,rfl⟩|⟨x,t,rfl,rfl⟩<;>rfl
 pyHash:=λhv h=>by
  rcases tE hv with⟨i,t,rfl,rfl⟩|⟨x,t,rfl,rfl⟩
  .exact W8 h
  .exact W9 h
 eqBool:=λhu hv h=>by
  rcases tE hu with⟨i,t,rfl,rfl⟩|⟨x,t,rfl,rfl⟩
  .rcases tE hv with⟨j,u,rfl,rfl⟩|⟨y,u,rfl,rfl⟩
   .rw[ZuR]at h;exact wpAny_eqBool_int h
   .rw[ZtN]at h;exact PX i t y u _ _ _ _ h
  .rcases tE hv with⟨j,u,rfl,rfl⟩|⟨y,u,rfl,rfl⟩
   .rw[ZtT]at h;exact Jg x t j u _ _ _ _ h
   .rw[ZuW]at h;exact wpAny_eqBool_str h
 «strs»:=λk x t v h=>by
  rcases tE h with⟨i,u,rfl,e⟩|⟨y,u,rfl,e⟩
  .exact nomatch e
  .injection e with e1 _
   subst e1;cases v<;>rfl
end L2
namespace L2
open PySem PySem.Spec PyProof.Rows
inductive V where
 |non|bl (b:Bool)|int (i:Int)|str (x:aj)|zX (b:Array UInt8)|flt (b:UInt64)|ref (a:Y1)|ty (n:String)
 deriving DecidableEq
noncomputable def RelV:V->Yh->Prop
 | .non,u=>u=Value.none|.bl b,u=>u=Value.bool b|.int i,u=>∃t,u=Value.int i t|.str x,u=>∃t,u=Value.str x t
 | .zX b,u=>∃t,u=Value.bytes b t|.flt b,u=>∃t,u=Value.float b t|.ref a,u=>u=Value.ref a|.ty n,u=>u=Value.type n
noncomputable abbrev Vals:List V->List Yh->Prop:=Paired RelV
theorem Vals.length{xs:List V}{us:List Yh}(r:Vals xs us):xs.length=us.length:=Ymj r
theorem Vals.get:∀{xs:List V} {us:List Yh} {i:Nat} {x:V},Vals xs us->xs[i]?=Ya x->∃u,us[i]?=Ya u/\RelV x u
 |_,_,_,_,.nil,e=>by simp at e|_,_,0,_,.cons r _,e=>by simp at e;subst e;exact⟨_,rfl,r⟩|_,_,i+1,x,.cons _ t,e=>by obtain⟨u,h1,h2⟩:=Vals.get (i:=i) (x:=x) t (by simpa using e);exact⟨u,by simpa using h1,h2⟩
theorem Vals.set{x:V}{u:Yh}(r:RelV x u):∀{xs:List V} {us:List Yh} (i:Nat),Vals xs us->Vals (xs.set i x) (us.set i u)
 |_,_,_,.nil=>.nil|_,_,0,.cons _ t=>.cons r t|_,_,i+1,.cons q t=>.cons q (Vals.set r i t)
theorem Vals.append:∀{xs ys:List V} {us ws:List Yh},Vals xs us->Vals ys ws->Vals (xs++ys) (us++ws)
 |_,_,_,_,.nil,s=>s|_,_,_,_,.cons r t,s=>.cons r (Vals.append t s)
theorem Vals.take:∀{xs:List V} {us:List Yh} (n:Nat),Vals xs us->Vals (xs.take n) (us.take n)
 |_,_,0,_=>.nil|_,_,_+1,.nil=>.nil|_,_,n+1,.cons r t=>.cons r (Vals.take n t)
theorem Vals.drop:∀{xs:List V} {us:List Yh} (n:Nat),Vals xs us->Vals (xs.drop n) (us.drop n)
 |_,_,0,r=>r|_,_,_+1,.nil=>.nil|_,_,n+1,.cons _ t=>Vals.drop n t
noncomputable def nA:Option V->Option Yh->Prop
 |some v,Ya u=>RelV v u|none,Ym=>True|_,_=>False
noncomputable def KV{κ:Type}:List (κ×V)->List (κ×Yh)->Prop:=Paired λ(p:κ×V) (q:κ×Yh)=>p.1=q.1/\RelV p.2 q.2
noncomputable def kV:Key->V
 | .inl i=>.int i|.inr x=>.str x
inductive HO where
 /--a list -/
 |lst (xs:List V)
 /--a tuple (never changes) -/
 |tup (xs:List V)
 /--a dict whose keys are ints and texts;one whose keys are tuples of ints and texts (the empty one is both) -/
 |dK (kvs:List (Key×V))|dT (kvs:List (List Key×V))
 /--a set of ints:its members,its size -/
 |set (S:Int->Bool) (n:Nat)
 /--an instance of the class at C,its dict at dx,its attributes -/
 |ins (C dx:Y1) (fs:List (aj×V))
 /--the dict of the instance at x -/
 |own (x:Y1)
 /--the dict of an exception -/
 |xd (fs:List (aj×V))
 /--a bound method,f of x -/
 |met (f x:Y1)
 /--a range object lo,lo+1,.. below hi -/
 |Qp (lo hi:Int)
 /--a thing that is known to the object (the script;a dict while a loop walks it):read,never written while it is so -/
 |fJ (o:aM) (u:HO)
 /--a code object's table -/
 |xM (ps:Array Yh)
 /--any other thing,by what is true of its one object (a def of one's own:AdU a S n:=HO.ext λh=>..) -/
 |ext (φ:aO->Prop)
noncomputable abbrev Hp:=Y1->Option HO
noncomputable def upd(H:Hp)(a:Y1)(o:HO):Hp:=λb=>if b=a then Ya o else H b
variable{H:Hp}
theorem pY{a:Y1}{o:HO}:upd H a o a=Ya o:=by unfold upd;rw[if_pos rfl]
theorem fK{a b:Y1}{o:HO}(h:b≠a):upd H a o b=H b:=by unfold upd;rw[if_neg h]
theorem Ej{a b:Y1}{o:HO}(h:H a=Ya o)(h':H b=Ym):a≠b:=by intro e;subst e;rw[h]at h';cases h'
section
variable (P:bF) (w:bx)
def qW(h:aO)(a:Y1)(items:Array Yh):Prop:=∃o,h.get? a=Ya o/\(o.cls= .type "tuple" /\o.dict=Ym)/\∃n,o.data= .seq items n
theorem qW.tup{h:aO}{a:Y1}{items:Array Yh}(x:qW h a items):IsTup h a items:=let⟨o,e,c,d⟩:=x;⟨o,e,c.1,d⟩
theorem qW.new(h:aO)(items:Array Yh):qW (h.push {cls:=.type "tuple",data:=.seq items}) h.objs.size items:=⟨_,Y2 _ rfl,⟨rfl,rfl⟩,0,rfl⟩
noncomputable def gq(H:Hp)(h:aO)(a:Y1):HO->Prop
 | .lst xs=>xs.length<=bw/\∃(its:List Yh) (n:Nat),Vals xs its/\h.get? a=Ya {cls:=.type "list",data:=.seq its.toArray n}|.tup xs=>xs.length<=bw/\∃its:List Yh,Vals xs its/\qW h a its.toArray|.dK kvs=>kvs.length<=bw/\(a==sysModules)=false/\∃vs,KV kvs vs/\h.DictOf (ZnQ P w) a vs|.dT kvs=>kvs.length<=bw/\(a==sysModules)=false/\∃xs:List (List Key×Y1×Yh),
   Paired (λ(p:List Key×V) (q:List Key×Y1×Yh)=>p.1=q.1/\H q.2.1=Ya (.tup (p.1.map kV))/\RelV p.2 q.2.2) kvs xs/\
   ∃o es ep,h.get? a=Ya o/\o.ExactDict/\o.data= .dict es ep/\es.toList=xs.map (entryOfKey (tupleKind (ZnQ P w)))/\(xs.map (·.1)).Nodup
 | .set S n=>h.SetOf (intKind P w) a S n|.ins C dx fs=>H dx=Ya (.own a)/\fs.length<=1000/\dx≠a/\h.get? a=Ya (uN C dx)/\
   ∃mA,h.Ns1 dx mA/\(∀f,nA (fs.lookup f) (mA f))/\Oh mA (fs.map (·.1))
 | .own _=>∃o,h.get? a=Ya o|.xd fs=>∃mA,h.Ns1 a mA/\∀f,nA (fs.lookup f) (mA f)|.Qp lo hi=>∃t u v,h.get? a=Ya {cls:=.type "range",data:=.fields #[.int lo t,.int hi u,.int 1 v]}|.fJ o u=>h.get? a=Ya o/\gq H h a u
 | .xM ps=>h.get? a=Ya {cls:=.none,data:=.fields ps}|.met f x=>h.get? a=Ya (Nk (.ref f) (.ref x))|.ext φ=>φ h/\(∃o,h.get? a=Ya o)/\∀h1 h2:aO,φ h1->(∀o,h1.get? a=Ya o->h2.get? a=Ya o)->φ h2
def gK(H:Hp)(h:aO):Prop:=∀a o,H a=Ya o->gq P w H h a o
end
section
variable {P:bF} {w:bx} {H H':Hp} {h h':aO} {a:Y1} {o:HO}
theorem gq.lt(x:gq P w H h a o):a<h.objs.size:=by
 cases o with
 |lst xs=>obtain⟨_,_,_,_,e⟩:=x;exact Y3 e|tup xs=>obtain⟨_,_,_,p⟩:=x;exact p.tup.lt|dK kvs=>obtain⟨_,_,_,_,o,_,_,e,_⟩:=x;exact Y3 e|dT kvs=>obtain⟨_,_,_,_,o,_,_,e,_⟩:=x;exact Y3 e
 |set S n=>obtain⟨o,_,_,_,e,_⟩:=x;exact Y3 e|ins C dx fs=>obtain⟨_,_,_,e,_⟩:=x;exact Y3 e|own y=>obtain⟨_,e⟩:=x;exact Y3 e|xd fs=>obtain⟨_,⟨_,_,_,e,_⟩,_⟩:=x;exact Y3 e
 |Qp lo hi=>obtain⟨_,_,_,e⟩:=x;exact Y3 e|fJ ob u=>obtain⟨e,_⟩:=x;exact Y3 e|xM ps=>exact Y3 (show h.get? a=Ya _ from x)|met f y=>exact Y3 (show h.get? a=Ya _ from x)
 |ext φ=>obtain⟨_,⟨_,e⟩,_⟩:=x;exact Y3 e
theorem Paired.MK{α β:Type}{F G:α->β->Prop}:∀{l₁:List α} {l₂:List β},Paired F l₁ l₂->(∀a b,F a b->G a b)->Paired G l₁ l₂
 |_,_,.nil,_=>.nil|_,_,.cons r t,f=>.cons (f _ _ r) (Paired.MK t f)
theorem gq.stay(x:gq P w H h a o)(k:∀b u,(b=a\/H b=Ya (.own a))->h.get? b=Ya u->h'.get? b=Ya u)(ho:∀b,H b=Ya (.own a)->H' b=Ya (.own a))(ht:∀b xs,H b=Ya (.tup xs)->H' b=Ya (.tup xs)):gq P w H' h' a o:=by
 induction o with
 |lst xs=>obtain⟨z,its,n,r,e⟩:=x;exact⟨z,its,n,r,k _ _ (.inl rfl) e⟩|tup xs=>obtain⟨z,its,r,ob,e,c⟩:=x;exact⟨z,its,r,ob,k _ _ (.inl rfl) e,c⟩|dK kvs=>obtain⟨z,y,vs,r,ob,es,ep,e,c⟩:=x;exact⟨z,y,vs,r,ob,es,ep,k _ _ (.inl rfl) e,c⟩|dT kvs=>obtain⟨z,y,xs,r,ob,es,ep,e,c⟩:=x;exact⟨z,y,xs,Paired.MK r λp q z=>⟨z.1,ht _ _ z.2.1,z.2.2⟩,ob,es,ep,k _ _ (.inl rfl) e,c⟩
 |set S n=>obtain⟨ob,es,ep,t,e,c⟩:=x;exact⟨ob,es,ep,t,k _ _ (.inl rfl) e,c⟩|ins C dx fs=>obtain⟨d,z,ne,e,mA,⟨od,es,ep,e2,c⟩,r⟩:=x;exact⟨ho _ d,z,ne,k _ _ (.inl rfl) e,mA,⟨od,es,ep,k _ _ (.inr d) e2,c⟩,r⟩
 |own y=>obtain⟨ob,e⟩:=x;exact⟨ob,k _ _ (.inl rfl) e⟩|xd fs=>obtain⟨mA,⟨od,es,ep,e,c⟩,r⟩:=x;exact⟨mA,⟨od,es,ep,k _ _ (.inl rfl) e,c⟩,r⟩|Qp lo hi=>obtain⟨t,u,v,e⟩:=x;exact⟨t,u,v,k _ _ (.inl rfl) e⟩|fJ ob u ih=>obtain⟨e,q⟩:=x;exact⟨k _ _ (.inl rfl) e,ih q⟩
 |xM ps=>have e:h.get? a=Ya {cls:=.none,data:=.fields ps}:=x;show h'.get? a=Ya {cls:=.none,data:=.fields ps};exact k a _ (.inl rfl) e|met f y=>have e:h.get? a=Ya (Nk (.ref f) (.ref y)):=x;show h'.get? a=Ya (Nk (.ref f) (.ref y));exact k a _ (.inl rfl) e|ext φ=>obtain⟨p,⟨o,e⟩,st⟩:=x;exact⟨st _ _ p λo q=>k _ _ (.inl rfl) q,⟨o,k _ _ (.inl rfl) e⟩,st⟩
theorem gK.lt(x:gK P w H h)(e:H a=Ya o):a<h.objs.size:=(x a o e).lt
theorem gK.fresh(x:gK P w H h)(e:h.objs.size<=a):H a=Ym:=by
 cases q:H a with
 |none=>rfl|some u=>exact absurd (Y7 (x.lt q) e) (vo _)
theorem gK.kept(x:gK P w H h)(k:∀b u,h.get? b=Ya u->h'.get? b=Ya u):gK P w H h':=λa o e=>(x a o e).stay (λb u _ q=>k b u q) (λ_ q=>q) λ_ _ q=>q
theorem gK.laid(x:gK P w H h)(k:∀b u,h.get? b=Ya u->h'.get? b=Ya u)(hp:h.objs.size<=a)(new:gq P w (upd H a o) h' a o):gK P w (upd H a o) h':=λb u e=>by
 have hn:=x.fresh hp;by_cases hb:b=a
 .subst hb;rw[pY]at e;cases e;exact new
 .rw[fK hb]at e;exact(x b u e).stay (λc v _ q=>k c v q) (λc q=>by rw[fK (Ej q hn)];exact q) λc xs q=>by rw[fK (Ej q hn)];exact q
end
def Rd(H:Hp)(a:Y1)(u:HO):Prop:=H a=Ya u\/∃o,H a=Ya (.fJ o u)
theorem Rd.ok{P:bF}{w:bx}{h:aO}{a:Y1}{u:HO}(r:Rd H a u)(x:gK P w H h):gq P w H h a u:=by
 rcases r with r|⟨o,r⟩
 .exact x a u r
 .obtain⟨_,q⟩:=x a _ r;exact q
noncomputable def Jp:Option HO->Prop
 |some (.lst _)=>True|some (.dK _)=>True|some (.dT _)=>True|some (.set _ _)=>True
 |some (.ins _ _ _)=>True|some (.ext _)=>True|_=>False
section
variable {P:bF} {w:bx} {H:Hp} {h h':aO} {x e:Y1} {o':HO}
theorem gK.write(ok:gK P w H h)(mu:Jp (H x))(he:e=x\/H e=Ya (.own x))(k:∀b u,b≠e->h.get? b=Ya u->h'.get? b=Ya u)(heo:∃u,h'.get? e=Ya u)(new:gq P w (upd H x o') h' x o'):gK P w (upd H x o') h':=λb u q=>by
 have Vx:∀c y,H c=Ya (.own y)->c≠x:=λc y r z=>by subst z;rw[r]at mu;exact mu
 have Abq:∀c xs,H c=Ya (.tup xs)->c≠x:=λc xs r z=>by subst z;rw[r]at mu;exact mu
 by_cases hb:b=x
 .subst hb;rw[pY]at q;cases q;exact new
 .rw[fK hb]at q;by_cases hbe:b=e
  .have q':H b=Ya (.own x):=by
    rcases he with z|z
    .exact absurd (hbe.trans z) hb
    .rw[hbe];exact z
   rw[q]at q';cases q';obtain⟨v,hv⟩:=heo;exact⟨v,by rw[hbe];exact hv⟩
  .refine(ok b u q).stay (λc v hc r=>k c v ?_ r) (λc r=>by rw[fK (Vx c b r)];exact r) λc xs r=>by rw[fK (Abq c xs r)];exact r
   rcases hc with rfl|hc
   .exact hbe
   .rintro rfl;rcases he with z|z
    .exact Vx c b hc z
    .rw[hc]at z;cases z;exact hb rfl
end
structure Un(fs ex:List Y1)(H H':Hp)(h h':aO):Prop where
 keep:∀b o,h.get? b=Ya o->H b=Ym->b∉fs->b∉ex->h'.get? b=Ya o
 slot:∀b o,h.get? b=Ya o->H b=Ym->b∈fs->b∉ex->∃sl,h'.get? b=Ya {o with slots:=sl}
 free:∀b o,h.get? b=Ya o->H b=Ym->b∉ex->H' b=Ym
 there:∀b o,h.get? b=Ya o->b∉ex->∃o',h'.get? b=Ya o'
 tups:∀b xs,H b=Ya (.tup xs)->H' b=Ya (.tup xs)
 ni:∀b o u,H b=Ya (.fJ o u)->H' b=Ya (.fJ o u)
 oF:∀b ps,H b=Ya (.xM ps)->∃more,H' b=Ya (.xM (ps++more))
section
variable {fs fs' ex ex':List Y1} {H H1 H2:Hp} {h h1 h2 h':aO} {a x e:Y1} {o:HO}
theorem Un.any(u:Un fs ex H H1 h h1){b:Y1}{ob:aM}(q:h.get? b=Ya ob)(n:H b=Ym)(hx:b∉ex):∃sl,h1.get? b=Ya {ob with slots:=sl}:=by
 by_cases hb:b∈fs
 .exact u.slot b ob q n hb hx
 .exact⟨ob.slots,u.keep b ob q n hb hx⟩
theorem Un.trans(a:Un fs ex H H1 h h1)(b:Un fs ex H1 H2 h1 h2):Un fs ex H H2 h h2 where
 keep:=λc ob q n hc hx=>b.keep c ob (a.keep c ob q n hc hx) (a.free c ob q n hx) hc hx
 slot:=λc ob q n hc hx=>by obtain⟨sl,e1⟩:=a.slot c ob q n hc hx;obtain⟨sl',e2⟩:=b.slot c _ e1 (a.free c ob q n hx) hc hx;exact⟨sl',e2⟩
 free:=λc ob q n hx=>by obtain⟨o',e1⟩:=a.there c ob q hx;exact b.free c o' e1 (a.free c ob q n hx) hx
 there:=λc ob q hx=>by obtain⟨o',e1⟩:=a.there c ob q hx;exact b.there c o' e1 hx
 tups:=λc xs q=>b.tups c xs (a.tups c xs q)
 ni:=λc ob xs q=>b.ni c ob xs (a.ni c ob xs q)
 oF:=λc ps q=>by obtain⟨m1,e1⟩:=a.oF c ps q;obtain⟨m2,e2⟩:=b.oF c _ e1;exact⟨m1++m2,by rw[e2,YZ]⟩
theorem Un.kept(k:∀b u,h.get? b=Ya u->h'.get? b=Ya u):Un fs ex H H h h':=⟨λb ob q _ _ _=>k b ob q,λb ob q _ _ _=>⟨ob.slots,k b ob q⟩,λ_ _ _ n _=>n,λb ob q _=>⟨ob,k b ob q⟩,λ_ _ q=>q,λ_ _ _ q=>q,λ_ ps q=>⟨#[],by rw[q];simp⟩⟩
theorem Un.refl:Un fs ex H H h h:=Un.kept λ_ _ q=>q
theorem Un.laid(k:∀b u,h.get? b=Ya u->h'.get? b=Ya u)(hp:h.objs.size<=a)(hn:H a=Ym):Un fs ex H (upd H a o) h h' where
 keep:=λb u q _ _ _=>k b u q
 slot:=λb u q _ _ _=>⟨u.slots,k b u q⟩
 free:=λb u q n _=>by rw[fK (dz (Y7 (Y3 q) hp))];exact n
 there:=λb u q _=>⟨u,k b u q⟩
 tups:=λb xs q=>by rw[fK (Ej q hn)];exact q
 ni:=λb u xs q=>by rw[fK (Ej q hn)];exact q
 oF:=λb ps q=>⟨#[],by rw[fK (Ej q hn),q];simp⟩
theorem Un.write(mu:Jp (H x))(he:e=x\/H e=Ya (.own x))(k:∀b u,b≠e->h.get? b=Ya u->h'.get? b=Ya u)(heo:∃u,h'.get? e=Ya u):Un fs ex H (upd H x o) h h':=by
 have hx:∀b,H b=Ym->b≠x:=λb n z=>by subst z;rw[n]at mu;exact mu
 have hb:∀b,H b=Ym->b≠e:=λb n z=>by
  subst z;rcases he with r|r
  .exact hx b n r
  .rw[n]at r;cases r
 have hm:∀b u,H b=Ya u->¬Jp (Ya u)->b≠x:=λb u q nm z=>by subst z;rw[q]at mu;exact nm mu
 refine⟨λb u q n _ _=>k b u (hb b n) q,λb u q n _ _=>⟨u.slots,k b u (hb b n) q⟩,λb u q n _=>by rw[fK (hx b n)];exact n,λb u q _=>?_,
  λb xs q=>by rw[fK (hm b _ q λz=>z)];exact q,λb u xs q=>by rw[fK (hm b _ q λz=>z)];exact q,λb ps q=>⟨#[],by rw[fK (hm b _ q λz=>z),q];simp⟩⟩
 by_cases hbe:b=e
 .subst hbe;exact heo
 .exact⟨u,k b u hbe q⟩
theorem Un.mono(u:Un fs ex H H1 h h1)(hs:∀b∈fs,b∈fs')(hx:∀b∈ex,b∈ex'):Un fs' ex' H H1 h h1:=⟨λb ob q n hb he=>u.keep b ob q n (λz=>hb (hs b z)) λz=>he (hx b z),λ_ _ q n _ he=>u.any q n λz=>he (hx _ z),λb ob q n he=>u.free b ob q n λz=>he (hx b z),λb ob q he=>u.there b ob q λz=>he (hx b z),u.tups,u.ni,u.oF⟩
end
noncomputable def Jq(h:aO)(H:Hp):List Y1:=(gW h.objs.size).filter λa=>(H a).isSome
noncomputable def tG(h:aO)(H:Hp):aO:=PySem.W.hideAll h (Jq h H)
theorem Zot(h:aO)(H:Hp):(tG h H).objs.size=h.objs.size:=PySem.W.hideAll_size _ _
theorem Zp9{h:aO}{b:Y1}{o:aM}(e:h.get? b=Ya o)(n:H b=Ym):(tG h H).get? b=Ya o:=PySem.W.hideAll_get _ e λhm=>by have q:(H b).isSome=true:=(WT.mp hm).2;rw[n]at q;simp at q
theorem ZsS{h:aO}{b:Y1}{o:aM}(e:(tG h H).get? b=Ya o):h.get? b=Ya o/\H b=Ym:=by
 have e':h.get? b=Ya o:=PySem.W.of_hideAll (Jq h H) e;refine⟨e',?_⟩;cases q:H b with
 |none=>rfl|some x=>have hm:b∈Jq h H:=WT.mpr ⟨Hz.mpr (Y3 e'),by simp[q]⟩;have z:(tG h H).get? b=Ym:=PySem.W.hideAll_none (Jq h H) hm;rw[z]at e;cases e
noncomputable def Zsp(g h:aO)(L:Y1):List (Y1×aM):=(gW h.objs.size).filterMap λa=>if a=L\/(g.get? a).isSome=true then Ym else(h.get? a).map λo=>(a,o)
noncomputable def rest(g h:aO)(L d:Y1):List (Y1×aM):=(Zsp g h L).filter λp=>decide (p.1≠d)
end L2
namespace L2
open PySem PySem.Spec PyProof.Rows
structure Mod(K:Yb)(mg:aj->Option Yh)(base:aO):Prop where
 Ek:K.In base
 glob:base.Ns Yy mg
 blt:∃mb,base.Ns Oo mb/\∀x:aj,x≠ "__name__" ->mb x=jH x
 nolimit:base.NoLimit
/--the context:a def's body (or a comprehension's block) running. base:fixed through the whole law;s₀,H₀:the entry;outer:the frames whose slots others may change(a def's callers);stack:all frames that run;
  ex:iterators that were made ahead of the entry and are walked here (a comprehension's);fn:the names whose cells were made at the entry (a def:all;a comprehension's block:its own);calm:not within an except suite;pn:pins that every state bears;xe:what is wanted of an exception that leaves the code -/
structure Cx where
 prog:bF
 w:bx
 K:Yb
 mg:aj->Option Yh
 base:aO
 A:bK
 N:List aj
 s₀:Yk
 H₀:Hp
 env:eY
 outer:List eY
 stack:List eY
 ex:List Y1
 fn:aj->Bool
 calm:Bool
 pn:List (Y1×aM)
 xe:Yh->Yk->Prop
noncomputable def frs(l:List eY):List Y1:=l.filterMap (·.frame)
noncomputable abbrev Cx.fs(X:Cx):List Y1:=frs X.outer
def Jr(sc:Scope)(x:aj):Prop:=sc.names.lookup x=Ya .local\/sc.names.lookup x=Ya .cell\/sc.names.lookup x=Ya .free
def Loc(sc:Scope)(x:aj):Prop:=sc.names.lookup x=Ya .local\/sc.names.lookup x=Ya .cell
def Look(env:eY)(h:aO)(m:aj->Option Yh)(x:aj)(u:Yh):Prop:=(env.kindOf x=Ya .local/\m x=Ya u)\/((env.kindOf x=Ya .cell\/env.kindOf x=Ya .free)/\∃c,env.cells.lookup x=Ya c/\h.IsCell c (Ya u))
structure Cx.Ok(X:Cx):Prop where
 mod:Mod X.K X.mg X.base
 kind:X.env.scope.kind= .function
 glob:X.env.globals=Yy
 blt:X.env.builtins=Oo
 above:X.s₀.heap.objs.size<=X.env.locals
 inj:∀x y c,X.env.cells.lookup x=Ya c->X.env.cells.lookup y=Ya c->x=y
 has:∀x,(X.env.kindOf x=Ya .cell\/X.env.kindOf x=Ya .free)->∃c,X.env.cells.lookup x=Ya c
 cab:∀x c,X.fn x=true->X.env.cells.lookup x=Ya c->X.s₀.heap.objs.size<=c
 hd:X.calm=true->X.A.handled=Ym
 frames:X.A.frames=Ya X.stack
 g_:X.stack=X.outer\/(X.stack=X.env::X.outer/\X.env.frame=Ya X.env.locals)
 Js:∀b∈X.ex,b≠X.env.locals/\∀x c,X.env.cells.lookup x=Ya c->c≠b
 bs:∀b o,X.base.get? b=Ya o->X.s₀.heap.get? b=Ya o/\X.H₀ b=Ym
 pZ:X.base.objs.size<=X.s₀.heap.objs.size
 Dc:∀b o,X.base.get? b=Ya o->b∉X.ex
 y_:∀b∈X.ex,b∉X.fs
 nj:X.s₀.heap.FunFrames X.base X.outer
 vB:∀b∈X.fs,X.H₀ b=Ym
structure Inv(X:Cx)(pins:List (Y1×aM))(σ:List (Option V))(H:Hp)(s:Yk):Prop where
 ok:X.Ok
 os:s.os=X.s₀.os
 bare:sY s.gens
 base:Un X.fs X.ex X.H₀ H X.s₀.heap s.heap
 loc:∃m,s.heap.Ns X.env.locals m/\∀(i:Nat) (x:aj) (v:V),X.N[i]?=Ya x->σ[i]?=Ya (Ya v)->Jr X.env.scope x->∃u,RelV v u/\Look X.env s.heap m x u
 cell:∀x c,X.env.cells.lookup x=Ya c->∃v,s.heap.IsCell c v
 free:H X.env.locals=Ym
 qK:∀x c,X.env.cells.lookup x=Ya c->H c=Ym
 pin:∀p∈X.pn++pins,s.heap.get? p.1=Ya p.2/\H p.1=Ym/\p.1≠X.env.locals/\p.1∉X.fs/\∀v,p.2.data≠ .cell v
 hok:gK X.prog X.w H s.heap
 len:σ.length=X.N.length
variable{t':Nat}{E:Yh->Yk->Prop}{ch:List Y1}
section
variable {X:Cx} {pins:List (Y1×aM)} {σ:List (Option V)} {H H':Hp} {s:Yk} {h':aO}
theorem Cx.Ok.Abr(ok:X.Ok){b:Y1}{o:aM}(e:X.base.get? b=Ya o):b∉X.fs:=λhb=>by have:=(ok.nj.mem hb).1;rw[e]at this;cases this
theorem Inv.bs(I:Inv X pins σ H s):∀b o,X.base.get? b=Ya o->s.heap.get? b=Ya o/\H b=Ym:=λb o e=>⟨I.base.keep b o (I.ok.bs b o e).1 (I.ok.bs b o e).2 (I.ok.Abr e) (I.ok.Dc b o e),I.base.free b o (I.ok.bs b o e).1 (I.ok.bs b o e).2 (I.ok.Dc b o e)⟩
theorem Inv.bk(I:Inv X pins σ H s):∀b o,X.base.get? b=Ya o->s.heap.get? b=Ya o:=λb o e=>(I.bs b o e).1
theorem Inv.mod(I:Inv X pins σ H s):Mod X.K X.mg X.base:=I.ok.mod
theorem Inv.dW(I:Inv X pins σ H s):X.K.In s.heap:=I.ok.mod.Ek.keeps I.bk
theorem Inv.nolimit(I:Inv X pins σ H s):s.heap.NoLimit:=I.ok.mod.nolimit.keeps I.bk
theorem Inv.fr(I:Inv X pins σ H s):∃m,Fr X.base X.env.locals s.heap m:=
 let⟨m,hn,_⟩:=I.loc
 ⟨m,hn,I.bk,Yj I.ok.pZ I.ok.above⟩
theorem Inv.lt(I:Inv X pins σ H s):X.env.locals<s.heap.objs.size:=let⟨_,hn,_⟩:=I.loc;hn.lt
theorem Inv.sz(I:Inv X pins σ H s):X.s₀.heap.objs.size<=s.heap.objs.size:=Yj I.ok.above (zK I.lt)
theorem Inv.Abs(I:Inv X pins σ H s){a:Y1}(h:s.heap.objs.size<=a):a∉X.fs:=λhb=>by obtain⟨_,o,ho,_⟩:=I.ok.nj.mem hb;exact absurd (Y7 (Y3 ho) (Yj I.sz h)) (vo _)
theorem Inv.xN(I:Inv X pins σ H s):∀x c,X.env.cells.lookup x=Ya c->c≠X.env.locals:=λx c e z=>by obtain⟨v,o,ho,hd⟩:=I.cell x c e;obtain⟨m,⟨o',es,ep,ho',hd',_⟩,_⟩:=I.loc;rw[z,ho']at ho;cases ho;rw[hd']at hd;cases hd
theorem Inv.nj(I:Inv X pins σ H s):s.heap.FunFrames X.base X.outer:=by
 have all:∀(l:List eY),(∀b∈frs l,b∈X.fs)->X.s₀.heap.FunFrames X.base l->s.heap.FunFrames X.base l:=by
  intro l
  induction l with
  |nil=>intro _ _;trivial|cons env r ih=>intro hs hl;obtain⟨hk,⟨L,o,hf,hn,ho,hd⟩,hr⟩:=hl;have hL:L∈X.fs:=hs L (by unfold frs;rw[Nx,hf];exact Yd);obtain⟨sl,e⟩:=I.base.slot L o ho (I.ok.vB L hL) hL λz=>I.ok.y_ L z hL;exact⟨hk,⟨L,_,hf,hn,e,hd⟩,ih (λb hb=>hs b (by unfold frs;rw[Nx,hf];exact Yc _ hb)) hr⟩
 exact all X.outer (λ_ hb=>hb) I.ok.nj
theorem Inv.stack(I:Inv X pins σ H s):s.heap.FunFrames X.base X.stack:=by
 rcases I.ok.g_ with e|⟨e,hf⟩
 .rw[e];exact I.nj
 .rw[e];obtain⟨m,hn,_⟩:=I.loc;refine .cons (by rw[I.ok.kind];decide) hf hn ?_ I.nj;exact Heap.get?_none_of_le (Yj I.ok.pZ I.ok.above)
theorem Inv.Mx(I:Inv X pins σ H s):∀b∈frs X.stack,b∈X.env.locals::X.fs:=λb hb=>by
 rcases I.ok.g_ with e|⟨e,hf⟩
 .rw[e]at hb;exact Yc _ hb
 .rw[e]at hb;unfold frs at hb;rw[Nx,hf]at hb;exact hb
theorem Inv.Vh(I:Inv X pins σ H s):∀b∈frs X.stack,H b=Ym:=λb hb=>by
 rcases Yo.mp (I.Mx b hb)with e|hb
 .rw[e];exact I.free
 .obtain⟨_,o,ho,_⟩:=I.ok.nj.mem hb;exact I.base.free b o ho (I.ok.vB b hb) λz=>I.ok.y_ b z hb
theorem Inv.step{g':Array GenState}{d':Drawn}(I:Inv X pins σ H s)(hch:∀b∈ch,(b∈X.ex\/X.s₀.heap.objs.size<=b)/\b≠X.env.locals/\(∀x c,X.env.cells.lookup x=Ya c->c≠b)/\∀p∈X.pn++pins,p.1≠b)(keep:∀b o,b≠X.env.locals->b∉X.fs->b∉ch->s.heap.get? b=Ya o->H b=Ym->h'.get? b=Ya o)(slot:∀b o,b≠X.env.locals->b∈X.fs->b∉ch->s.heap.get? b=Ya o->H b=Ym->∃sl,h'.get? b=Ya {o with slots:=sl})(free:∀b o,b∉ch->s.heap.get? b=Ya o->H b=Ym->H' b=Ym)(there:∀b o,b∉ch->s.heap.get? b=Ya o->∃o',h'.get? b=Ya o')(tups:∀b xs,H b=Ya (.tup xs)->H' b=Ya (.tup xs))(ni:∀b o u,H b=Ya (.fJ o u)->H' b=Ya (.fJ o u))(oF:∀b ps,H b=Ya (.xM ps)->∃more,H' b=Ya (.xM (ps++more)))(ns:∀m,s.heap.Ns X.env.locals m->h'.Ns X.env.locals m)(hok:gK X.prog X.w H' h')(hg:sY g'):
  Inv X pins σ H' {s with heap:=h',gens:=g',drawn:=d',toks:=t'}:=by
 have neL:∀b o,X.s₀.heap.get? b=Ya o->b≠X.env.locals:=λb o e=>dz (Y7 (Y3 e) I.ok.above);have Jt:∀b o,X.s₀.heap.get? b=Ya o->b∉X.ex->b∉ch:=λb o e hx hb=>by
  rcases(hch b hb).1 with z|z
  .exact hx z
  .exact absurd (Y7 (Y3 e) z) (vo _)
 have cellK:∀x c,X.env.cells.lookup x=Ya c->∀v,s.heap.IsCell c v->h'.IsCell c v:=λx c e v ak=>by
  obtain⟨o,ho,hd⟩:=ak;have El:c∉ch:=λz=>(hch c z).2.2.1 x c e rfl;by_cases hc:c∈X.fs
  .obtain⟨sl,q⟩:=slot c o (I.xN x c e) hc El ho (I.qK x c e);exact⟨_,q,hd⟩
  .exact⟨o,keep c o (I.xN x c e) hc El ho (I.qK x c e),hd⟩
 refine⟨I.ok,I.os,hg,⟨λb o e n hb hx=>?_,λb o e n hb hx=>?_,λb o e n hx=>?_,λb o e hx=>?_,λb xs e=>tups b xs (I.base.tups b xs e),λb o xs e=>ni b o xs (I.base.ni b o xs e),λb ps e=>?_⟩,?_,λx c e=>?_,?_,λx c e=>?_,λp hp=>?_,hok,I.len⟩
 .exact keep b o (neL b o e) hb (Jt b o e hx) (I.base.keep b o e n hb hx) (I.base.free b o e n hx)
 .obtain⟨sl,e1⟩:=I.base.slot b o e n hb hx;obtain⟨sl',e2⟩:=slot b _ (neL b o e) hb (Jt b o e hx) e1 (I.base.free b o e n hx);exact⟨sl',e2⟩
 .obtain⟨o',e1⟩:=I.base.there b o e hx;exact free b o' (Jt b o e hx) e1 (I.base.free b o e n hx)
 .obtain⟨o',e1⟩:=I.base.there b o e hx;exact there b o' (Jt b o e hx) e1
 .obtain⟨m1,e1⟩:=I.base.oF b ps e;obtain⟨m2,e2⟩:=oF b _ e1;exact⟨m1++m2,by rw[e2,YZ]⟩
 .obtain⟨m,hn,hl⟩:=I.loc;refine⟨m,ns m hn,λi x v e1 e2 e3=>?_⟩;obtain⟨u,r,l⟩:=hl i x v e1 e2 e3;refine⟨u,r,?_⟩;rcases l with l|⟨k,c,e,z⟩
  .exact .inl l
  .exact .inr ⟨k,c,e,cellK x c e _ z⟩
 .obtain⟨v,z⟩:=I.cell x c e;exact⟨v,cellK x c e v z⟩
 .obtain⟨m,⟨o,_,_,ho,_⟩,_⟩:=I.loc;exact free _ o (λz=>(hch _ z).2.1 rfl) ho I.free
 .obtain⟨v,o,ho,hd⟩:=I.cell x c e;exact free c o (λz=>(hch c z).2.2.1 x c e rfl) ho (I.qK x c e)
 .obtain⟨e,n,ne,nf,d⟩:=I.pin p hp;have El:p.1∉ch:=λz=>(hch p.1 z).2.2.2 p hp rfl;exact⟨keep p.1 p.2 ne nf El e n,free p.1 p.2 El e n,ne,nf,d⟩
theorem Inv.un(I:Inv X pins σ H s)(u:Un X.fs [] H H' s.heap h')(hok:gK X.prog X.w H' h'):Inv X pins σ H' {s with heap:=h',toks:=t'}:=by obtain⟨m,⟨o,es,ep,ho,r⟩,_⟩:=id I.loc;obtain⟨sl,hL⟩:=u.any ho I.free (by simp);exact I.step (g':=s.gens) (d':=s.drawn) (ch:=[]) (λ_ z=>nomatch z) (λb o _ hb _ e n=>u.keep b o e n hb (by simp)) (λb o _ hb _ e n=>u.slot b o e n hb (by simp)) (λb o _ e n=>u.free b o e n (by simp)) (λb o _ e=>u.there b o e (by simp)) u.tups u.ni u.oF (λm' hm=>by obtain⟨o',es',ep',ho',r'⟩:=hm;rw[ho]at ho';cases ho';exact⟨_,es',ep',hL,r'⟩) hok I.bare
theorem Inv.call{g':Array GenState}{d':Drawn}(I:Inv X pins σ H s)(u:Un (frs X.stack) ch H H' s.heap h')(hok:gK X.prog X.w H' h')(hg:sY g')(hch:∀b∈ch,(b∈X.ex\/X.s₀.heap.objs.size<=b)/\b≠X.env.locals/\(∀x c,X.env.cells.lookup x=Ya c->c≠b)/\∀p∈X.pn++pins,p.1≠b):
  Inv X pins σ H' {s with heap:=h',gens:=g',drawn:=d',toks:=t'}:=by
 obtain⟨m,⟨o,es,ep,ho,r⟩,_⟩:=id I.loc;obtain⟨sl,hL⟩:=u.any ho I.free λz=>(hch _ z).2.1 rfl;exact I.step (ch:=ch) hch (λb o hL hb hc e n=>u.keep b o e n (λz=>(Yo.mp (I.Mx b z)).elim hL hb) hc) (λb o _ _ hc e n=>u.any e n hc) (λb o hc e n=>u.free b o e n hc) (λb o hc e=>u.there b o e hc) u.tups u.ni u.oF (λm' hm=>by obtain⟨o',es',ep',ho',r'⟩:=hm;rw[ho]at ho';cases ho';exact⟨_,es',ep',hL,r'⟩) hok hg
theorem Inv.turned{it:Y1}(I:Inv X pins σ H s)(k:∀b o,b≠it->s.heap.get? b=Ya o->h'.get? b=Ya o)(hn:H it=Ym)(hL:it≠X.env.locals)(h1:it∈X.ex\/X.s₀.heap.objs.size<=it)(h2:∀x c,X.env.cells.lookup x=Ya c->c≠it)(h3:∀p∈X.pn++pins,p.1≠it):Inv X pins σ H {s with heap:=h',toks:=t'}:=by
 have Em:∀b u,H b=Ya u->b≠it:=λb u e z=>by rw[z,hn]at e;cases e
 refine I.step (g':=s.gens) (d':=s.drawn) (ch:=[it]) (λb hb=>?_) (λb o _ _ hc e _=>k b o (λz=>hc (by simp[z])) e) (λb o _ _ hc e _=>⟨o.slots,k b o (λz=>hc (by simp[z])) e⟩) (λ_ _ _ _ n=>n)
  (λb o hc e=>⟨o,k b o (λz=>hc (by simp[z])) e⟩) (λ_ _ e=>e) (λ_ _ _ e=>e) (λb ps e=>⟨#[],by rw[e];simp⟩) (λm hm=>?_) (λb u e=>?_) I.bare
 .have e:b=it:=by simpa using hb
  subst e;exact⟨h1,hL,h2,h3⟩
 .obtain⟨o,es,ep,ho,r⟩:=hm;exact⟨o,es,ep,k _ o (cP hL) ho,r⟩
 .refine(I.hok b u e).stay (λc v hc q=>k c v ?_ q) (λ_ q=>q) λ_ _ q=>q;rcases hc with z|z
  .rw[z];exact Em b u e
  .exact Em c _ z
theorem Inv.tok(I:Inv X pins σ H s)(t:Nat):Inv X pins σ H {s with toks:=t}:=I.un (h':=s.heap) (t':=t) Un.refl I.hok
theorem Inv.kept(I:Inv X pins σ H s)(k:∀b u,s.heap.get? b=Ya u->h'.get? b=Ya u):Inv X pins σ H {s with heap:=h',toks:=t'}:=I.un (Un.kept k) (I.hok.kept k)
theorem Inv.laid{a:Y1}{o:HO}(I:Inv X pins σ H s)(k:∀b u,s.heap.get? b=Ya u->h'.get? b=Ya u)(hp:s.heap.objs.size<=a)(new:gq X.prog X.w (upd H a o) h' a o):
  Inv X pins σ (upd H a o) {s with heap:=h',toks:=t'}:=I.un (Un.laid k hp (I.hok.fresh hp)) (I.hok.laid k hp new)
theorem Inv.write{x e:Y1}{o:HO}(I:Inv X pins σ H s)(mu:Jp (H x))(he:e=x\/H e=Ya (.own x))(k:∀b u,b≠e->s.heap.get? b=Ya u->h'.get? b=Ya u)(heo:∃u,h'.get? e=Ya u)(new:gq X.prog X.w (upd H x o) h' x o):Inv X pins σ (upd H x o) {s with heap:=h',toks:=t'}:=I.un (Un.write mu he k heo) (I.hok.write mu he k heo new)
theorem Inv.Vi{Vt:List (Y1×aM)}(I:Inv X pins σ H s)(h:∀p∈Vt,s.heap.get? p.1=Ya p.2/\H p.1=Ym/\p.1≠X.env.locals/\p.1∉X.fs/\∀v,p.2.data≠ .cell v):Inv X Vt σ H s:=⟨I.ok,I.os,I.bare,I.base,I.loc,I.cell,I.free,I.qK,λp hp=>(fU.mp hp).elim (λz=>I.pin p (uO _ z)) (h p),I.hok,I.len⟩
theorem Zlh{N:List aj}(hN:N.Nodup){i j:Nat}{x:aj}(a:N[i]?=Ya x)(b:N[j]?=Ya x):i=j:=by obtain⟨h1,e1⟩:=Yf.mp a;obtain⟨h2,e2⟩:=Yf.mp b;exact(WN hN).mp (e1.trans e2.symm)
theorem Qq{M:Model}{A:bK}{i:Nat}{x:aj}{v:V}{u:Yh}{Q:Unit->Yk->Prop}(I:Inv X pins σ H s)(hN:X.N.Nodup)(hi:X.N[i]?=Ya x)(hx:Loc X.env.scope x)(r:RelV v u)(h:∀s',Inv X pins (σ.set i (Ya v)) H s'->(∃a,zM a s.heap s'.heap/\(a=X.env.locals\/X.env.cells.lookup x=Ya a))->Q () s')(hf:X.fn x=true\/X.env.scope.names.lookup x=Ya .local:=by first|exact .inl rfl|exact .inr rfl|assumption):aq M A (storeName X.env x u) Q E s:=by
 obtain⟨m,hn,hl⟩:=id I.loc;have hcls:(X.env.scope.kind== .class|| (X.env.scope.kind== .module&&X.env.locals !=X.env.globals))=false:=by rw[I.ok.kind];rfl
 have hiσ:i<σ.length:=by rw[I.len];exact(Yf.mp hi).1
 have xN:=I.xN;have tracked:∀{a:Y1} {h':aO},(∃o,s.heap.get? a=Ya o/\H a=Ym)->zM a s.heap h'->gK X.prog X.w H h':=λ{a h'} ha hs b ob e=>by
  obtain⟨_,_,hfree⟩:=ha;refine(I.hok b ob e).stay (λc w' hc q=>(hs.2 c ?_).trans q) (λ_ q=>q) λ_ _ q=>q;rintro rfl;rcases hc with rfl|hc
  .rw[hfree]at e;cases e
  .rw[hfree]at hc;cases hc
 rcases hx with hk|hk
 .refine wpAny_storeName_local hk hn (λh' hn' hs=>?_) hcls;obtain⟨oL,_,_,hoL,_⟩:=id hn;refine h _ ⟨I.ok,I.os,I.bare,⟨λb o e n hb hx=>?_,λb o e n hb hx=>?_,I.base.free,λb o e hx=>?_,I.base.tups,I.base.ni,I.base.oF⟩,⟨_,hn',λj y v' e1 e2 e3=>?_⟩,λy c e=>?_,I.free,I.qK,λp hp=>?_,tracked ⟨oL,hoL,I.free⟩ hs,by simpa using I.len⟩ ⟨_,hs,.inl rfl⟩
  .exact(hs.2 b (dz (Y7 (Y3 e) I.ok.above))).trans (I.base.keep b o e n hb hx)
  .obtain⟨sl,e1⟩:=I.base.slot b o e n hb hx;exact⟨sl,(hs.2 b (dz (Y7 (Y3 e) I.ok.above))).trans e1⟩
  .obtain⟨o',e1⟩:=I.base.there b o e hx;exact⟨o',(hs.2 b (dz (Y7 (Y3 e) I.ok.above))).trans e1⟩
  .by_cases hj:j=i
   .subst hj;rw[hi]at e1;cases e1;rw[Y0 hiσ]at e2;cases e2;exact⟨u,r,.inl ⟨hk,by simp⟩⟩
   .rw[Yr (cP hj)]at e2;obtain⟨u',r',q⟩:=hl j y v' e1 e2 e3;refine⟨u',r',?_⟩;rcases q with⟨k,e⟩|⟨k,c,e,z⟩
    .refine .inl ⟨k,?_⟩;have:y≠x:=λe=>hj (Zlh hN e1 (e▸hi));simp[this,e]
    .exact .inr ⟨k,c,e,z.sameBut hs (xN y c e)⟩
  .obtain⟨w',z⟩:=I.cell y c e;exact⟨w',z.sameBut hs (xN y c e)⟩
  .obtain⟨e,n,ne,nf,d⟩:=I.pin p hp;exact⟨(hs.2 p.1 ne).trans e,n,ne,nf,d⟩
 .have hfn:X.fn x=true:=by
   rcases hf with z|z
   .exact z
   .rw[z]at hk;cases hk
  obtain⟨c,hc⟩:=I.ok.has x (.inl hk);obtain⟨w',z⟩:=I.cell x c hc;refine wpAny_storeName_cell I.ok.kind hk hc z (λh' hc' hs=>?_);obtain⟨oc,hoc,Abt⟩:=id z;refine h {s with heap:=h'} ⟨I.ok,I.os,I.bare,⟨λb o e n hb hx=>?_,λb o e n hb hx=>?_,I.base.free,λb o e hx=>?_,I.base.tups,I.base.ni,I.base.oF⟩,⟨m,hn.sameBut hs (cP (xN x c hc)),λj y v' e1 e2 e3=>?_⟩,λy c' e=>?_,I.free,I.qK,λp hp=>?_,tracked ⟨oc,hoc,I.qK x c hc⟩ hs,by simpa using I.len⟩ ⟨c,hs,.inr hc⟩
  .exact(hs.2 b (dz (Y7 (Y3 e) (I.ok.cab x c hfn hc)))).trans (I.base.keep b o e n hb hx)
  .obtain⟨sl,e1⟩:=I.base.slot b o e n hb hx;exact⟨sl,(hs.2 b (dz (Y7 (Y3 e) (I.ok.cab x c hfn hc)))).trans e1⟩
  .obtain⟨o',e1⟩:=I.base.there b o e hx;exact⟨o',(hs.2 b (dz (Y7 (Y3 e) (I.ok.cab x c hfn hc)))).trans e1⟩
  .by_cases hj:j=i
   .subst hj;rw[hi]at e1;cases e1;rw[Y0 hiσ]at e2;cases e2;exact⟨u,r,.inr ⟨.inl hk,c,hc,hc'⟩⟩
   .rw[Yr (cP hj)]at e2;obtain⟨u',r',q⟩:=hl j y v' e1 e2 e3;refine⟨u',r',?_⟩;rcases q with q|⟨k,c',e,z'⟩
    .exact .inl q
    .refine .inr ⟨k,c',e,z'.sameBut hs ?_⟩;rintro rfl;exact hj (Zlh hN e1 (I.ok.inj _ _ _ e hc▸hi))
  .by_cases hcc:c'=c
   .subst hcc;exact⟨_,hc'⟩
   .obtain⟨w2,z2⟩:=I.cell y c' e;exact⟨w2,z2.sameBut hs hcc⟩
  .obtain⟨e,n,ne,nf,d⟩:=I.pin p hp;refine⟨(hs.2 p.1 ?_).trans e,n,ne,nf,d⟩;intro q;rw[q,hoc]at e;have q':oc=p.2:=Y8 e;exact d w' (by rw[←q'];exact Abt)
theorem ZlN{M:Model}{A:bK}{i:Nat}{x:aj}{v:V}{u:Yh}{Q:Unit->Yk->Prop}(I:Inv X pins σ H s)(hN:X.N.Nodup)(hi:X.N[i]?=Ya x)(hx:Loc X.env.scope x)(r:RelV v u)(h:∀s',Inv X pins (σ.set i (Ya v)) H s'->Q () s')(hf:X.fn x=true\/X.env.scope.names.lookup x=Ya .local:=by first|exact .inl rfl|exact .inr rfl|assumption):aq M A (storeName X.env x u) Q E s:=Qq I hN hi hx r (λs' I' _=>h s' I') hf
theorem Inv.call'{s':Yk}(I:Inv X pins σ H s)(ho:s'.os=s.os)(u:Un (frs X.stack) ch H H' s.heap s'.heap)(hok:gK X.prog X.w H' s'.heap)(hg:sY s'.gens)(hch:∀b∈ch,(b∈X.ex\/X.s₀.heap.objs.size<=b)/\b≠X.env.locals/\(∀x c,X.env.cells.lookup x=Ya c->c≠b)/\∀p∈X.pn++pins,p.1≠b):Inv X pins σ H' s':=by obtain⟨h',g',d',t',o'⟩:=s';have e:o'=s.os:=ho;subst e;exact I.call (g':=g') (t':=t') (d':=d') u hok hg hch
end
noncomputable abbrev XK:=Yh->Option Y1->Hp->Prop
noncomputable abbrev St:=List (Option V)
noncomputable abbrev VK:=V->Hp->Prop
noncomputable abbrev TE:=St->Hp->VK->Prop
noncomputable abbrev TT:=St->Hp->(Bool->Hp->Prop)->Prop
noncomputable abbrev TA:=St->Hp->(List V->Hp->Prop)->Prop
structure Ends where
 nx:St->Hp->Prop
 rt:VK
 bk:St->Hp->Prop:=λ_ _=>False
 ct:St->Hp->Prop:=λ_ _=>False
noncomputable abbrev TS:=Ends->St->Hp->Prop
inductive EP(X:Cx)(pins:List (Y1×aM))(σ:St)(Q:VK)(u:Yh)(s':Yk):Prop where
 |mk (v:V) (H':Hp) (I:Inv X pins σ H' s') (r:RelV v u) (q:Q v H'):EP X pins σ Q u s'
inductive TP(X:Cx)(pins:List (Y1×aM))(σ:St)(Q:Bool->Hp->Prop)(b:Bool)(s':Yk):Prop where
 |mk (H':Hp) (I:Inv X pins σ H' s') (q:Q b H'):TP X pins σ Q b s'
inductive AP(X:Cx)(pins:List (Y1×aM))(σ:St)(Q:List V->Hp->Prop)(us:List Yh)(s':Yk):Prop where
 |mk (vs:List V) (H':Hp) (I:Inv X pins σ H' s') (r:Vals vs us) (q:Q vs H'):AP X pins σ Q us s'
def SP(X:Cx)(pins:List (Y1×aM))(D:Ends)(f:Flow)(s':Yk):Prop:=
 match f with
 | .next=>∃σ' H',Inv X pins σ' H' s'/\D.nx σ' H'|.brk=>∃σ' H',Inv X pins σ' H' s'/\D.bk σ' H'|.cont=>∃σ' H',Inv X pins σ' H' s'/\D.ct σ' H'|.ret u=>∃v σ' H',Inv X pins σ' H' s'/\RelV v u/\D.rt v H'
def PE(X:Cx)(e:Expr)(t:TE):Prop:=∀(pins:List (Y1×aM)) (s:Yk) (σ:St) (H:Hp) (Q:VK),Inv X pins σ H s->t σ H Q->aq (aA X.prog X.w) X.A (aG e X.env) (EP X pins σ Q) X.xe s
def PT(X:Cx)(e:Expr)(t:TT):Prop:=∀(pins:List (Y1×aM)) (s:Yk) (σ:St) (H:Hp) (Q:Bool->Hp->Prop),Inv X pins σ H s->t σ H Q->aq (aA X.prog X.w) X.A (isTrue e X.env (aG e X.env)) (TP X pins σ Q) X.xe s
def PW(X:Cx)(e:Expr)(t:TT):Prop:=∀(whole:oN Yh) (pins:List (Y1×aM)) (s:Yk) (σ:St) (H:Hp) (Q:Bool->Hp->Prop),Inv X pins σ H s->t σ H Q->aq (aA X.prog X.w) X.A (isTrue e X.env whole) (TP X pins σ Q) X.xe s
theorem PW.pt{X:Cx}{e:Expr}{t:TT}(h:PW X e t):PT X e t:=h _
def PA(X:Cx)(es:List Expr)(t:TA):Prop:=∀(pos:aV) (pins:List (Y1×aM)) (s:Yk) (σ:St) (H:Hp) (Q:List V->Hp->Prop),Inv X pins σ H s->t σ H Q->aq (aA X.prog X.w) X.A (Ih (b7 pos (Yw es X.env))) (AP X pins σ Q) X.xe s
def PS(X:Cx)(st:Yer)(t:TS):Prop:=∀(pins:List (Y1×aM)) (s:Yk) (σ:St) (H:Hp) (D:Ends),Inv X pins σ H s->t D σ H->aq (aA X.prog X.w) X.A (exec st X.env) (SP X pins D) X.xe s
def jL(X:Cx)(st:List Yer)(t:TS):Prop:=∀(pins:List (Y1×aM)) (s:Yk) (σ:St) (H:Hp) (D:Ends),Inv X pins σ H s->t D σ H->aq (aA X.prog X.w) X.A (execs st X.env) (SP X pins D) X.xe s
theorem aF{α:Type}{t:oN α}{Q Q':α->Yk->Prop}{M:Model}{A:bK}{s:Yk}(h:aq M A t Q E s)(hQ:∀a s,Q a s->Q' a s):aq M A t Q' E s:=jz h hQ λ_ _ x=>x
end L2
namespace L2
open PySem PySem.Spec PyProof.Rows
variable{x:aj}
section
variable {X:Cx}
def ZxB(i:Nat):TE:=λσ H Q=>∃v,σ[i]?=Ya (Ya v)/\Q v H
def tC(v:V):TE:=λ_ H Q=>Q v H
theorem Zt1{i:Nat}{pos:aV}(hN:X.N[i]?=Ya x)(hv:Jr X.env.scope x)(hd:(x==("__debug__":aj))=false:=by decide)(hcd:(x==("__classdict__":aj))=false:=by decide):PE X (.Name x pos) (ZxB i):=by
 intro pins s σ H Q I h;obtain⟨v,e,h⟩:=h;obtain⟨m,hn,hl⟩:=I.loc;obtain⟨u,r,l⟩:=hl i x v hN e hv;have fin:EP X pins σ Q u s:=⟨v,H,I,r,h⟩;rcases l with⟨hk,hm⟩|⟨hk,c,hc,hcell⟩
 .exact Oq (wpAny_loadName_local I.ok.kind hk hn hm fin) hd
 .rcases hk with hk|hk
  .exact Oq (wpAny_loadName_cell I.ok.kind hk hc hcell fin) hd
  .exact Oq (wpAny_loadName_free I.ok.kind hk hc hcell fin hcd) hd
theorem Qs{i j pos}:PE X (.Constant (.int i) j pos) (tC (.int i)):=λ_ _ _ H _ I h=>wpAny_Constant_int ⟨.int i,H,I.tok _,⟨_,rfl⟩,h⟩
theorem Zwd{b j pos}:PE X (.Constant (.bool b) j pos) (tC (.bl b)):=λ_ _ _ H _ I h=>Constant_bool ⟨.bl b,H,I,rfl,h⟩
theorem Zuu{j pos}:PE X (.Constant .none j pos) (tC .non):=λ_ _ _ H _ I h=>Constant_none ⟨.non,H,I,rfl,h⟩
theorem Zuf{x j pos}:PE X (.Constant (.str x) j pos) (tC (.str x)):=λ_ _ _ H _ I h=>Calls.Constant_str ⟨.str x,H,I.tok _,⟨_,rfl⟩,h⟩
def Gl(X:Cx)(x:aj):Prop:=X.env.kindOf x=Ya .globalImplicit
theorem Qt{E:Yh->Yk->Prop}{pins:List (Y1×aM)}{s:Yk}{σ:St}{H:Hp}{u:Yh}{pos:aV}{Q:Yh->Yk->Prop}(I:Inv X pins σ H s)(hg:Gl X x)(hm:X.mg x=Ya u)(h:Q u s)(hd:(x==("__debug__":aj))=false:=by decide):aq (aA X.prog X.w) X.A (aG (.Name x pos) X.env) Q E s:=ZW I.ok.kind hg (Calls.loadGlobal_global (by rw[I.ok.glob];exact I.mod.glob.keeps I.bk) hm h) hd
theorem xO{E:Yh->Yk->Prop}{pins:List (Y1×aM)}{s:Yk}{σ:St}{H:Hp}{u:Yh}{pos:aV}{Q:Yh->Yk->Prop}(I:Inv X pins σ H s)(hg:Gl X x)(hm:X.mg x=Ym)(hv:jH x=Ya u)(h:Q u s)(hn:x≠ "__name__":=by decide)(hd:(x==("__debug__":aj))=false:=by decide):aq (aA X.prog X.w) X.A (aG (.Name x pos) X.env) Q E s:=by obtain⟨mb,h1,h2⟩:=I.mod.blt;exact ZW I.ok.kind hg (Calls.loadGlobal_builtin (by rw[I.ok.glob];exact I.mod.glob.keeps I.bk) hm (by rw[I.ok.blt];exact h1.keeps I.bk) ((h2 x hn).trans hv) h) hd
theorem zY{v:V}{u:Yh}{pos:aV}(hg:Gl X x)(hm:X.mg x=Ya u)(r:RelV v u)(hd:(x==("__debug__":aj))=false:=by decide):PE X (.Name x pos) (tC v):=λ_ _ _ H _ I h=>Qt I hg hm ⟨v,H,I,r,h⟩ hd
theorem Qu{v:V}{u:Yh}{pos:aV}(hg:Gl X x)(hm:X.mg x=Ym)(hv:jH x=Ya u)(r:RelV v u)(hn:x≠ "__name__":=by decide)(hd:(x==("__debug__":aj))=false:=by decide):PE X (.Name x pos) (tC v):=λ_ _ _ H _ I h=>xO I hg hm hv ⟨v,H,I,r,h⟩ hn hd
variable {a b:Expr} {ta tb:TE} {pos:aV}
def tB(t:TE):TT:=λσ H Q=>t σ H λx H1=>∃c,x= .bl c/\Q c H1
theorem ZuG{e:Expr}{t:TE}(h:PE X e t)(he:∀whole,isTrue e X.env whole=(do let v ←whole;Dy e.pos;u5 [v] (truthy v)):=by intro _;rfl):PT X e (tB t):=by intro pins s σ H Q I hw;refine isTrue_plain (aF (h pins s σ H _ I hw) λv s1 ak=>?_) (he _);obtain⟨x,H1,I1,r1,q1⟩:=ak;obtain⟨d,rfl,q⟩:=q1;cases r1;exact pN ⟨H1,I1,q⟩
variable {tA Ju:TT} {rest:List Expr}
def ZwY(t u:TT):TT:=λσ H Q=>t σ H λc H1=>if c=true then u σ H1 Q else Q false H1
def tOr(t u:TT):TT:=λσ H Q=>t σ H λc H1=>if c=true then Q true H1 else u σ H1 Q
def ZxE(t:TT):TT:=λσ H Q=>t σ H λc H1=>Q (!c) H1
theorem Zsm(ha:PT X a tA):PW X (.BoolOp .And [a] pos) tA:=by
 intro wh pins s σ H Q I h;refine isTrue_and (aF (ha pins s σ H Q I h) λc s1 e=>?_);cases c with
 |true=>exact isTrue_and_nil e|false=>exact e
theorem Zt9(ha:PT X a tA):PW X (.BoolOp .Or [a] pos) tA:=by
 intro wh pins s σ H Q I h;refine isTrue_or (aF (ha pins s σ H Q I h) λc s1 e=>?_);cases c with
 |false=>exact isTrue_or_nil e|true=>exact e
theorem Zt8(ha:PT X a tA)(hb:PW X (.BoolOp .And (b::rest) pos) Ju):PW X (.BoolOp .And (a::b::rest) pos) (ZwY tA Ju):=by
 intro wh pins s σ H Q I h;refine isTrue_and (aF (ha pins s σ H _ I h) λc s1 ak=>?_);obtain⟨H1,I1,q1⟩:=ak;cases c with
 |true=>exact hb wh pins s1 σ H1 Q I1 q1|false=>exact⟨H1,I1,q1⟩
theorem Zwf(ha:PT X a tA)(hb:PW X (.BoolOp .Or (b::rest) pos) Ju):PW X (.BoolOp .Or (a::b::rest) pos) (tOr tA Ju):=by
 intro wh pins s σ H Q I h;refine isTrue_or (aF (ha pins s σ H _ I h) λc s1 ak=>?_);obtain⟨H1,I1,q1⟩:=ak;cases c with
 |true=>exact⟨H1,I1,q1⟩|false=>exact hb wh pins s1 σ H1 Q I1 q1
theorem ZtH(ha:PT X a tA):PT X (.UnaryOp .Not a pos) (ZxE tA):=by intro pins s σ H Q I h;exact isTrue_not (aF (ha pins s σ H (λc H1=>Q (!c) H1) I h) λc s' ⟨H',I',q⟩=>⟨H',I',q⟩)
def ZvD(ta tb:TE):TE:=λσ H Q=>ta σ H λx H1=>∃c,x= .bl c/\if c=true then tb σ H1 Q else Q (.bl false) H1
def Zxt(ta tb:TE):TE:=λσ H Q=>ta σ H λx H1=>∃c,x= .bl c/\if c=true then Q (.bl true) H1 else tb σ H1 Q
def Zv6(ta:TE):TE:=λσ H Q=>ta σ H λx H1=>∃c,x= .bl c/\Q (.bl (!c)) H1
theorem ZtW{op}{t:TE}(h:PE X a t):PE X (.BoolOp op [a] pos) t:=λpins s σ H Q I hw=>BoolOp_one (h pins s σ H Q I hw)
theorem Ztj(ha:PE X a ta)(hb:PE X (.BoolOp .And (b::rest) pos) tb):PE X (.BoolOp .And (a::b::rest) pos) (ZvD ta tb):=by
 intro pins s σ H Q I h;refine BoolOp_and (aF (ha pins s σ H _ I h) λv s1 ak=>?_);obtain⟨x,H1,I1,r1,q1⟩:=ak;obtain⟨c,rfl,q1⟩:=q1;cases r1;refine pN ?_;cases c with
 |true=>exact hb pins s1 σ H1 Q I1 q1|false=>exact⟨.bl false,H1,I1,rfl,q1⟩
theorem Zwi(ha:PE X a ta)(hb:PE X (.BoolOp .Or (b::rest) pos) tb):PE X (.BoolOp .Or (a::b::rest) pos) (Zxt ta tb):=by
 intro pins s σ H Q I h;refine BoolOp_or (aF (ha pins s σ H _ I h) λv s1 ak=>?_);obtain⟨x,H1,I1,r1,q1⟩:=ak;obtain⟨c,rfl,q1⟩:=q1;cases r1;refine pN ?_;cases c with
 |false=>exact hb pins s1 σ H1 Q I1 q1|true=>exact⟨.bl true,H1,I1,rfl,q1⟩
theorem ZuK(ha:PE X a ta):PE X (.UnaryOp .Not a pos) (Zv6 ta):=by intro pins s σ H Q I h;refine UnaryOp_ (aF (ha pins s σ H _ I h) λv s1 ak=>?_);obtain⟨x,H1,I1,r1,q1⟩:=ak;obtain⟨c,rfl,q1⟩:=q1;cases r1;exact not_of (pN ⟨.bl (!c),H1,I1,rfl,q1⟩)
def Qv(t:TT)(ta tb:TE):TE:=λσ H Q=>t σ H λc H1=>if c=true then ta σ H1 Q else tb σ H1 Q
theorem Zp4{c:Expr}(hc:PT X c tA)(ha:PE X a ta)(hb:PE X b tb):PE X (.IfExp c a b pos) (Qv tA ta tb):=by
 intro pins s σ H Q I h;refine wpAny_IfExp (aF (hc pins s σ H _ I h) λd s1 ak=>?_);obtain⟨H1,I1,q1⟩:=ak;cases d with
 |true=>exact ha pins s1 σ H1 Q I1 q1|false=>exact hb pins s1 σ H1 Q I1 q1
end
end L2
namespace L2
open PySem PySem.Spec PyProof.Rows
def bC(K:Yb)(H:Hp)(a:Y1)(xs:List V):Prop:=
 Rd H a (.lst xs)\/
  ∃(o:aM) (its:Array Yh) (n:Nat),K.lookup a=Ya o/\o.cls= .type "list" /\o.dict=Ym/\o.data= .seq its n/\its.size<=bw/\Vals xs its.toList
def cG(K:Yb)(H:Hp)(a:Y1)(xs:List V):Prop:=
 Rd H a (.tup xs)\/
  ∃(o:aM) (its:Array Yh) (n:Nat),K.lookup a=Ya o/\(o.cls= .type "tuple" /\o.dict=Ym)/\o.data= .seq its n/\its.size<=bw/\Vals xs its.toList
noncomputable def ZxJ:Yh->Option V
 | .none=>Ya .non|.bool b=>Ya (.bl b)|.int i _=>Ya (.int i)|.str x _=>Ya (.str x)
 | .bytes b _=>Ya (.zX b)|.float b _=>Ya (.flt b)|.ref a=>Ya (.ref a)|.type n=>Ya (.ty n)
 |_=>Ym
theorem RelV.abs{x:V}{u:Yh}(r:RelV x u):ZxJ u=Ya x:=by
 cases x with
 |non=>cases r;rfl|bl _=>cases r;rfl|int _=>obtain⟨t,rfl⟩:=r;rfl|str _=>obtain⟨t,rfl⟩:=r;rfl
 |zX _=>obtain⟨t,rfl⟩:=r;rfl|flt _=>obtain⟨t,rfl⟩:=r;rfl|ref _=>cases r;rfl|ty _=>cases r;rfl
theorem RelV.inj{x y:V}{u:Yh}(r:RelV x u)(q:RelV y u):x=y:=Y8 (r.abs.symm.trans q.abs)
theorem Vals.inj:∀{xs ys:List V} {us:List Yh},Vals xs us->Vals ys us->xs=ys
 |_,_,_,.nil,.nil=>rfl|_,_,_,.cons r t,.cons r' t'=>by rw[r.inj r',Vals.inj t t']
variable{K:Yb}
section
variable {X:Cx} {pins:List (Y1×aM)} {σ:St} {H:Hp} {s:Yk} {a:Y1} {xs ys:List V}
theorem bC.of(h:H a=Ya (.lst xs)):bC K H a xs:=.inl (.inl h)
theorem cG.of(h:H a=Ya (.tup xs)):cG K H a xs:=.inl (.inl h)
theorem Inv.list(I:Inv X pins σ H s)(h:bC X.K H a xs):∃its:List Yh,Vals xs its/\PlainL s.heap a its.toArray/\xs.length<=bw:=by
 rcases h with h|⟨o,its,n,hk,hc,hd,hs,hz,r⟩
 .obtain⟨z,its,n,r,e⟩:=h.ok I.hok;exact⟨its,r,⟨_,n,e,rfl,rfl,rfl⟩,z⟩
 .refine⟨its.toList,r,⟨o,n,I.dW a o hk,hc,hd,by simpa using hs⟩,?_⟩;have e:=r.length;simp only[Yes]at e;exact lC 2 2199576973345 T1 e hz
theorem Inv.tuple(I:Inv X pins σ H s)(h:cG X.K H a xs):∃its:List Yh,Vals xs its/\IsTup s.heap a its.toArray/\xs.length<=bw:=by
 rcases h with h|⟨o,its,n,hk,hc,hs,hz,r⟩
 .obtain⟨z,its,r,p⟩:=h.ok I.hok;exact⟨its,r,p.tup,z⟩
 .refine⟨its.toList,r,⟨o,I.dW a o hk,hc.1,n,by simpa using hs⟩,?_⟩;have e:=r.length;simp only[Yes]at e;exact lC 2 2199576973345 T1 e hz
theorem Inv.Mu(I:Inv X pins σ H s)(h:bC X.K H a xs)(h':bC X.K H a ys):xs=ys:=by
 obtain⟨its,r,⟨o,n,e,_,_,d⟩,_⟩:=I.list h;obtain⟨its',r',⟨o',n',e',_,_,d'⟩,_⟩:=I.list h';rw[e]at e';cases e';rw[d]at d';injection d' with d1 _;have:its=its':=by simpa using congrArg zU d1
 subst this;exact r.inj r'
theorem Inv.Aa4(I:Inv X pins σ H s)(h:cG X.K H a xs):∃its:List Yh,Vals xs its/\qW s.heap a its.toArray/\xs.length<=bw:=by
 rcases h with h|⟨o,its,n,hk,hc,hs,hz,r⟩
 .obtain⟨z,its,r,p⟩:=h.ok I.hok;exact⟨its,r,p,z⟩
 .refine⟨its.toList,r,⟨o,I.dW a o hk,hc,n,by simpa using hs⟩,?_⟩;have e:=r.length;simp only[Yes]at e;exact lC 2 2199576973345 T1 e hz
theorem Inv.Mt(I:Inv X pins σ H s)(h:cG X.K H a xs)(h':cG X.K H a ys):xs=ys:=by
 obtain⟨its,r,⟨o,e,_,n,d⟩,_⟩:=I.tuple h;obtain⟨its',r',⟨o',e',_,n',d'⟩,_⟩:=I.tuple h';rw[e]at e';cases e';rw[d]at d';injection d' with d1 _;have:its=its':=by simpa using congrArg zU d1
 subst this;exact r.inj r'
end
noncomputable abbrev Cx.wish(X:Cx)(E:Yh->Yk->Prop):Cx:={X with xe:=E}
noncomputable abbrev Cx.xP(X:Cx):Cx:=X.wish λ_ _=>False
theorem Cx.Ok.wish{X:Cx}(ok:X.Ok)(E:Yh->Yk->Prop):(X.wish E).Ok:=⟨ok.mod,ok.kind,ok.glob,ok.blt,ok.above,ok.inj,ok.has,ok.cab,ok.hd,ok.frames,ok.g_,ok.Js,ok.bs,ok.pZ,ok.Dc,ok.y_,ok.nj,ok.vB⟩
theorem Cx.Ok.uH{X:Cx}{E:Yh->Yk->Prop}(ok:(X.wish E).Ok):X.Ok:=⟨ok.mod,ok.kind,ok.glob,ok.blt,ok.above,ok.inj,ok.has,ok.cab,ok.hd,ok.frames,ok.g_,ok.Js,ok.bs,ok.pZ,ok.Dc,ok.y_,ok.nj,ok.vB⟩
section
variable {X:Cx} {pins:List (Y1×aM)} {σ:St} {H:Hp} {s:Yk} {E:Yh->Yk->Prop}
theorem Inv.wish(I:Inv X pins σ H s)(E:Yh->Yk->Prop):Inv (X.wish E) pins σ H s:=⟨I.ok.wish E,I.os,I.bare,I.base,I.loc,I.cell,I.free,I.qK,I.pin,I.hok,I.len⟩
theorem Inv.uH(I:Inv (X.wish E) pins σ H s):Inv X pins σ H s:=⟨I.ok.uH,I.os,I.bare,I.base,I.loc,I.cell,I.free,I.qK,I.pin,I.hok,I.len⟩
theorem SP.uH{D:Ends}{f:Flow}{s':Yk}(h:SP (X.wish E) pins D f s'):SP X pins D f s':=by
 cases f with
 |next=>obtain⟨σ',H',I,q⟩:=h;exact⟨σ',H',I.uH,q⟩|brk=>obtain⟨σ',H',I,q⟩:=h;exact⟨σ',H',I.uH,q⟩|cont=>obtain⟨σ',H',I,q⟩:=h;exact⟨σ',H',I.uH,q⟩|ret u=>obtain⟨v,σ',H',I,r,q⟩:=h;exact⟨v,σ',H',I.uH,r,q⟩
theorem jL.xP{st:List Yer}{t:TS}(h:jL X.xP st t):jL X st t:=λpins s σ H D I hw=>jz (h pins s σ H D (I.wish _) hw) (λ_ _ q=>q.uH) λ_ _ z=>jo z
end
section
variable {X:Cx} {st:Yer} {rest:List Yer} {t u:TS} {e:Expr} {te:TE} {pos:aV}
def ZvP:TS:=λD σ H=>D.nx σ H
def Zxb(t u:TS):TS:=λD σ H=>t {D with nx:=u D} σ H
theorem ZrD:jL X [] ZvP:=λ_ _ σ H _ I h=>HS ⟨σ,H,I,h⟩
theorem Zpl(h1:PS X st t)(h2:jL X rest u):jL X (st::rest) (Zxb t u):=by
 intro pins s σ H D I h;refine W_ (aF (h1 pins s σ H {D with nx:=u D} I h) λf s1 q=>?_);cases f with
 |next=>obtain⟨σ',H',I',q⟩:=q;exact h2 pins s1 σ' H' D I' q|ret v=>exact q|brk=>exact q
 |cont=>exact q
theorem ZrC(h1:PS X st t):jL X [st] t:=by
 intro pins s σ H D I h;refine W_ (aF (h1 pins s σ H D I h) λf s1 q=>?_);cases f with
 |next=>exact HS q|ret v=>exact q|brk=>exact q|cont=>exact q
def Zu8:TS:=λD σ H=>D.bk σ H
theorem ZpS:PS X (.Break pos) Zu8:=λ_ _ σ H _ I h=>wpAny_Break ⟨σ,H,I,h⟩
theorem Inv.quiet{pins:List (Y1×aM)}{σ:St}{H:Hp}{s:Yk}(I:Inv X pins σ H s):interactive X.env=false:=by simp[interactive,I.ok.kind]
def Zwb(te:TE):TS:=λD σ H=>te σ H λ_ H1=>D.nx σ H1
theorem Zsh(he:PE X e te)(hs:u0 e Ym pos.line X.env=pure false:=by rfl):PS X (.Expr e pos) (Zwb te):=by intro pins s σ H D I h;exact wpAny_Expr_any (aF (he pins s σ H _ I h) λv s1 ⟨x,H1,I1,r1,q1⟩=>⟨σ,H1,I1,q1⟩) I.quiet hs
def Zxm(te:TE):TS:=λD σ H=>te σ H D.rt
theorem ZtK(he:PE X e te):PS X (.Return (Ya e) pos) (Zxm te):=by intro pins s σ H D I h;exact wpAny_Return_some (aF (he pins s σ H _ I h) λv s1 ⟨x,H1,I1,r1,q1⟩=>⟨x,σ,H1,I1,r1,q1⟩)
def ZxF(c:TT)(t u:TS):TS:=λD σ H=>c σ H λb H1=>if b=true then t D σ H1 else u D σ H1
theorem Zwx{c:Expr}{a b:List Yer}{tc:TT}(hc:PT X c tc)(ha:jL X a t)(hb:jL X b u):PS X (.If c a b pos) (ZxF tc t u):=by
 intro pins s σ H D I h;refine wpAny_If (aF (hc pins s σ H _ I h) λd s1 ak=>?_);obtain⟨H1,I1,q1⟩:=ak;cases d with
 |true=>exact ha pins s1 σ H1 D I1 q1|false=>exact hb pins s1 σ H1 D I1 q1
end
noncomputable abbrev TG:=V->St->Hp->(St->Hp->Prop)->Prop
noncomputable abbrev p6:=List V->St->Hp->(St->Hp->Prop)->Prop
def PG(X:Cx)(target:Expr)(t:TG):Prop:=
 ∀(pins:List (Y1×aM)) (s:Yk) (σ:St) (H:Hp) (v:V) (u:Yh) (Q:St->Hp->Prop),Inv X pins σ H s->RelV v u->t v σ H Q ->
  aq (aA X.prog X.w) X.A (jn target X.env u) (λ_ s'=>∃σ' H',Inv X pins σ' H' s'/\Q σ' H') X.xe s
def p7(X:Cx)(ts:List Expr)(t:p6):Prop:=
 ∀(pins:List (Y1×aM)) (s:Yk) (σ:St) (H:Hp) (vs:List V) (us:List Yh) (Q:St->Hp->Prop),Inv X pins σ H s->Vals vs us->t vs σ H Q ->
  aq (aA X.prog X.w) X.A (assignInOrder ((jm ts X.env).map (·.2)) us) (λ_ s'=>∃σ' H',Inv X pins σ' H' s'/\Q σ' H') X.xe s
noncomputable abbrev Qw:=V->V->V->Hp->(Hp->Prop)->Prop
def Zwl(X:Cx)(t:Qw):Prop:=
 ∀(pins:List (Y1×aM)) (s:Yk) (σ:St) (H:Hp) (o i v:V) (ov iv u:Yh) (Q:Hp->Prop),Inv X pins σ H s->RelV o ov->RelV i iv->RelV v u->t o i v H Q ->
  aq (aA X.prog X.w) X.A (setItem ov iv u) (λ_ s'=>∃H',Inv X pins σ H' s'/\Q H') X.xe s
variable{tg:Expr}
section
variable {X:Cx} {pos:aV}
def ZsV(i:Nat):TG:=λv σ H Q=>Q (σ.set i (Ya v)) H
theorem Zoq{i:Nat}{x:aj}(hN:X.N.Nodup)(hi:X.N[i]?=Ya x)(hx:Loc X.env.scope x)(hf:X.fn x=true\/X.env.scope.names.lookup x=Ya .local:=by first|exact .inl rfl|exact .inr rfl|assumption):PG X (.Name x pos) (ZsV i):=by intro pins s σ H v u Q I r h;exact N7 (ZlN I hN hi hx r (λs' I'=>⟨_,H,I',h⟩) hf)
def Zxi:p6:=λvs σ H Q=>vs=[]/\Q σ H
def Zv4(t:TG)(u:p6):p6:=λvs σ H Q=>∃v r,vs=v::r/\t v σ H λσ' H'=>u r σ' H' Q
theorem Zss:p7 X [] Zxi:=by intro pins s σ H vs us Q I r h;obtain⟨e,h⟩:=h;subst e;cases r;exact assignInOrder_nil ⟨σ,H,I,h⟩
theorem Zre{e:Expr}{es:List Expr}{t:TG}{u:p6}(h1:PG X e t)(h2:p7 X es u)(hs:(jm (e::es) X.env).map (·.2)=jn e X.env::(jm es X.env).map (·.2):=by rfl):p7 X (e::es) (Zv4 t u):=by
 intro pins s σ H vs us Q I r h;obtain⟨v,vr,e1,h⟩:=h;subst e1;cases r with
 |cons r rr=>rw[hs];refine assignInOrder_cons (aF (h1 pins s σ H _ _ _ I r h) λ_ s1 ak=>?_);obtain⟨σ1,H1,I1,q1⟩:=ak;exact h2 pins s1 σ1 H1 _ _ Q I1 rr q1
def Zxw(K:Yb)(n:Nat)(t:p6):TG:=λv σ H Q=>∃a xs,v= .ref a/\cG K H a xs/\xs.length=n/\t xs σ H Q
theorem ZuE{es:List Expr}{k:Nat}{t:p6}{n:Nat}(hc:X.calm=true)(h:p7 X es t)(hn:(jm es X.env).length=n:=by rfl)(hst:(jm es X.env).findIdx? (·.1)=Ym:=by rfl):PG X (.Tuple es k pos) (Zxw X.K n t):=by intro pins s σ H v u Q I r hw;obtain⟨a,xs,e1,hq,hl,hw⟩:=hw;subst e1;cases r;obtain⟨its,rv,ht,hz⟩:=I.tuple hq;refine assign_Tuple_tuple (I.ok.hd hc) ht (by simp[hn,←hl,rv.length]) hst λh' hx=>?_;have I1:Inv X pins σ H {s with heap:=h'}:=I.kept (t':=s.toks) λb o e=>hx b o (dz (Y3 e)) e;exact h pins _ σ H xs _ Q I1 (by simpa using rv) hw
def ZxA(to ti:TE)(t:Qw):TG:=λv σ H Q=>to σ H λo H1=>ti σ H1 λi H2=>t o i v H2 λH3=>Q σ H3
theorem Ztg{o i:Expr}{to ti:TE}{t:Qw}(ho:PE X o to)(hi:PE X i ti)(hs:Zwl X t)(ha:∀v,jn (.Subscript o i pos) X.env v=(do
   let ov ←u5 [v] (aG o X.env)
   let iv ←u5 [v,ov] (aG i X.env)
   Dy pos
   u5 [v,ov,iv] (setItem ov iv v)
   release [v,ov,iv] []):=by intro _;rfl):PG X (.Subscript o i pos) (ZxA to ti t):=by
 intro pins s σ H v u Q I r h;rw[ha];refine Yg (gY (aF (ho pins s σ H _ I h) λov s1 ak=>?_));obtain⟨x,H1,I1,r1,q1⟩:=ak;refine Yg (gY (aF (hi pins s1 σ H1 _ I1 q1) λiv s2 ak=>?_));obtain⟨y,H2,I2,r2,q2⟩:=ak;refine Yg (uX (Yg (gY (aF (hs pins s2 σ H2 x y v ov iv u _ I2 r1 r2 r q2) λ_ s3 ak=>?_))));obtain⟨H3,I3,q3⟩:=ak;exact wpAny_release ⟨σ,H3,I3,q3⟩
def ZvC(te:TE)(g:TG):TS:=λD σ H=>te σ H λx H1=>g x σ H1 D.nx
theorem Zp3{e:Expr}{te:TE}{g:TG}(he:PE X e te)(hg:PG X tg g)(hs:Od [tg] e pos.line X.env=pure false:=by rfl)(hw:Oe [tg] e X.env=pure Ym:=by rfl)(h1:(jm [tg] X.env).map (·.2)=[jn tg X.env]:=by rfl):PS X (.Assign [tg] e pos) (ZvC te g):=by intro pins s σ H D I h;refine wpAny_Assign_stores (aF (he pins s σ H _ I h) λv s1 ak=>?_) hs hw;obtain⟨x,H1,I1,r1,q1⟩:=ak;rw[h1];exact aF (hg pins s1 σ H1 x v _ I1 r1 q1) λ_ s2 q=>q
theorem ZuU{i:Nat}{x:aj}{e:Expr}{te:TE}{pos':aV}(hN:X.N.Nodup)(hi:X.N[i]?=Ya x)(hx:Loc X.env.scope x)(he:PE X e te)(hs:u0 e (Ya (.Name x pos')) pos.line X.env=pure false:=by rfl)(hf:X.fn x=true\/X.env.scope.names.lookup x=Ya .local:=by first|exact .inl rfl|exact .inr rfl|assumption):
  PS X (.Assign [.Name x pos'] e pos) (ZvC te (ZsV i)):=by
 intro pins s σ H D I h;refine wpAny_Assign_Name (aF (he pins s σ H _ I h) λv s1 ak=>?_) hs;obtain⟨y,H1,I1,r1,q1⟩:=ak;exact ZlN I1 hN hi hx r1 (λs2 I2=>⟨_,H1,I2,q1⟩) hf
end
section
variable {X:Cx} {pos:aV}
def ZtR(c:TT)(tb:TS):TS:=λD σ H=>∃W:Nat->St->Hp->Prop,(∃m,W m σ H)/\∀m σ H,W m σ H ->
 c σ H λb H1=>if b=true then∃N:St->Hp->Prop,(∀σ' H',N σ' H'->∃m',m'<m/\W m' σ' H')/\tb {D with nx:=N,ct:=N,bk:=D.nx} σ H1 else D.nx σ H1
theorem Zq3{c:Expr}{body:List Yer}{tc:TT}{tb:TS}(hp:PassesOwn (aA X.prog X.w) X.A X.env X.xe)(hc:PT X c tc)(hb:jL X body tb):PS X (.While c body [] pos) (ZtR tc tb):=by
 intro pins s σ H D I h;obtain⟨W,⟨m0,w0⟩,turn⟩:=h;refine wpAny_While (codeAny_whileLoop (λn s'=>∃σ' H',Inv X pins σ' H' s'/\W n σ' H') ?_ m0 ⟨σ,H,I,w0⟩);rintro n s1 ⟨σ1,H1,I1,w1⟩;refine wX hp (aF (hc pins s1 σ1 H1 _ I1 (turn n σ1 H1 w1)) λb s2 ak=>?_);obtain⟨H2,I2,q2⟩:=ak;cases b with
 | true=>
  obtain⟨N,hN,q2⟩:=q2;rw[if_pos rfl];refine wX hp (aF (hb pins s2 σ1 H2 _ I2 q2) λf s3 q3=>?_);cases f with
  |next=>obtain⟨σ3,H3,I3,n3⟩:=q3;obtain⟨m',hm,w3⟩:=hN σ3 H3 n3;exact⟨m',hm,σ3,H3,I3,w3⟩|cont=>obtain⟨σ3,H3,I3,n3⟩:=q3;obtain⟨m',hm,w3⟩:=hN σ3 H3 n3;exact⟨m',hm,σ3,H3,I3,w3⟩|brk=>exact q3|ret v=>exact q3
 |false=>rw[if_neg k_];exact HS ⟨σ1,H2,I2,q2⟩
end
structure It where
 go:Nat->Hp->Prop
 Jv:Nat->Hp->V->Hp->Prop
 stop:Nat->Hp->Prop
def iB(X:Cx)(pins:List (Y1×aM))(H:Hp)(b:Y1):Prop:=H b=Ym/\b≠X.env.locals/\b∉X.fs/\(b∈X.ex\/X.s₀.heap.objs.size<=b)/\(∀x c,X.env.cells.lookup x=Ya c->c≠b)/\∀p∈X.pn++pins,p.1≠b
theorem Inv.uI{X:Cx}{pins:List (Y1×aM)}{σ:St}{H H':Hp}{s:Yk}{b:Y1}(I:Inv X pins σ H s)(hb:s.heap.objs.size<=b)(hn:H' b=Ym):iB X pins H' b:=by
 refine⟨hn,DP (Y7 I.lt hb),I.Abs hb,.inr (Yj I.sz hb),λx c e z=>?_,λp hp z=>?_⟩
 .obtain⟨v,q⟩:=I.cell x c e;exact absurd (Y7 q.lt (by rw[z];exact hb)) (vo _)
 .exact absurd (Y7 (Y3 (I.pin p hp).1) (by rw[z];exact hb)) (vo _)
structure Turn(P:bF)(w:bx)(K:Yb)(tg:Expr)(J:It)(fp:List Y1)(it:Y1)(tn:Nat->aO->Prop):Prop where
 mem:it∈fp
 obj:∀i h,tn i h->∀b∈fp,∃o,h.get? b=Ya o/\∀v,o.data≠ .cell v
 keep:∀i h h',tn i h->(∀b∈fp,∀o,h.get? b=Ya o->h'.get? b=Ya o)->tn i h'
 item:∀(X:Cx),X.prog=P->X.w=w->X.K=K->X.calm=true->∀(i:Nat) (pins:List (Y1×aM)) (s:Yk) (σ:St) (H:Hp) (E:Yh->Yk->Prop),Inv X pins σ H s->(∀b∈fp,iB X pins H b)->tn i s.heap->J.go i H ->
  aq (aA P w) X.A (sO (.ref it)) (λr s1=>∃u,r=Ya u/\
   aq (aA P w) X.A (Dq tg (.ref it) u) (λ_ s2=>∃x H',Inv X pins σ H' s2/\RelV x u/\J.Jv i H x H'/\tn (i+1) s2.heap/\∀b∈fp,H' b=Ym) E s1) E s
 done:∀(X:Cx),X.prog=P->X.w=w->X.K=K->X.calm=true->∀(i:Nat) (pins:List (Y1×aM)) (s:Yk) (σ:St) (H:Hp) (E:Yh->Yk->Prop),Inv X pins σ H s->(∀b∈fp,iB X pins H b)->tn i s.heap->J.stop i H ->
  aq (aA P w) X.A (sO (.ref it)) (λr s1=>r=Ym/\Inv X pins σ H s1) E s
 self:∀(A:bK) (i:Nat) (s:Yk) (Q:Yh->Yk->Prop) (E:Yh->Yk->Prop),tn i s.heap->Q (.ref it) s->aq (aA P w) A (zG (.ref it)) Q E s
noncomputable abbrev TI:=St->Hp->(It->Hp->Prop)->Prop
def PIE(X:Cx)(pins:List (Y1×aM))(σ:St)(tg:Expr)(R:It->Hp->Prop)(itv:Yh)(s2:Yk):Prop:=∃(it:Y1) (fp:List Y1) (tn:Nat->aO->Prop) (J:It) (H':Hp),itv= .ref it/\Inv X pins σ H' s2/\Turn X.prog X.w X.K tg J fp it tn/\tn 0 s2.heap/\(∀b∈fp,iB X pins H' b)/\R J H'
def PI(X:Cx)(tg iter:Expr)(wi:TI):Prop:=
 ∀(pins:List (Y1×aM)) (s:Yk) (σ:St) (H:Hp) (R:It->Hp->Prop),Inv X pins σ H s->wi σ H R ->
  aq (aA X.prog X.w) X.A (aG iter X.env) (λv s1=>aq (aA X.prog X.w) X.A (zG v) (PIE X pins σ tg R) X.xe s1) X.xe s
theorem Jw{M:Model}{A:bK}{E:Yh->Yk->Prop}{s:Yk}{it:Y1}{u:Yh}{o:aM}{n:String}{vs:Array Yh}{Q:Unit->Yk->Prop}(ho:s.heap.get? it=Ya o)(hc:o.cls= .type n)(hd:o.data= .fields vs)(hn:["enumerate","zip","dict_itemiterator","dict_reverseitemiterator","odict_iterator","itertools.zip_longest","itertools.pairwise"].contains n=false)(hQ:Q () s):aq M A (Dq tg (.ref it) u) Q E s:=by
 unfold Dq;cases tg<;>first
  |exact Yt hQ
  | (cases u<;>first
    |exact Yt hQ
    | (refine Yg (wpAny_load ho ?_)
       rw[hc,hd];show aq M A (if(["enumerate","zip","dict_itemiterator","dict_reverseitemiterator","odict_iterator","itertools.zip_longest","itertools.pairwise"].contains n&&vs[0]?==Ya (vf _))=true then _ else _) Q E s;rw[if_neg (by intro h;rw[hn,O6]at h;cases h)];exact Yt hQ))
noncomputable def Itl(K:Yb)(a:Y1):It:=⟨λi H=>∃xs x,bC K H a xs/\xs[i]?=Ya x,λi H x H'=>H'=H/\∀xs,bC K H a xs->xs[i]?=Ya x,λi H=>∃xs,bC K H a xs/\xs.length<=i⟩
noncomputable def Itt(K:Yb)(a:Y1):It:=⟨λi H=>∃xs x,cG K H a xs/\xs[i]?=Ya x,λi H x H'=>H'=H/\∀xs,cG K H a xs->xs[i]?=Ya x,λi H=>∃xs,cG K H a xs/\xs.length<=i⟩
noncomputable def Jx(lo:Int)(n:Nat):It:=⟨λi _=>i<n,λi H x H'=>H'=H/\x= .int (lo+i),λi _=>n<=i⟩
theorem ZoO{P:bF}{w:bx}(a it:Y1):Turn P w K tg (Itl K a) [it] it (λi h=>h.IsListIter it a i)where
 mem:=by simp
 obj:=λi h st b hb=>by
  have e:b=it:=by simpa using hb
  subst e;obtain⟨o,e,c,d⟩:=st;exact⟨o,e,λv z=>by rw[d]at z;cases z⟩
 keep:=λi h h' st k=>st.at λo e=>k it (by simp) o e
 item:=by intro X hP hw hK hc i pins s σ H E I hf st hg;subst hP hw hK;obtain⟨xs,x,hq,hx⟩:=hg;obtain⟨its,rv,p,hz⟩:=I.list hq;obtain⟨u,hu,ru⟩:=rv.get hx;obtain⟨f0,f1,f2,f3,f4,f5⟩:=hf it (by simp);refine WX st p.isList (x:=u) (by simpa using hu) λh' st' sb=>?_;have I1:Inv X pins σ H {s with heap:=h'}:=I.turned (t':=s.toks) (λb o hb e=>(sb.2 b hb).trans e) f0 f1 f3 f4 f5;obtain⟨o,e,c,d⟩:=id st';exact⟨u,rfl,Jw (s:={s with heap:=h'}) e c d (by decide) ⟨x,H,I1,ru,⟨rfl,λys hy=>by rw[I.Mu hy hq];exact hx⟩,st',λb hb=>(hf b hb).1⟩⟩
 done:=by intro X hP hw hK hc i pins s σ H E I hf st hg;subst hP hw hK;obtain⟨xs,hq,hx⟩:=hg;obtain⟨its,rv,p,hz⟩:=I.list hq;obtain⟨f0,f1,f2,f3,f4,f5⟩:=hf it (by simp);have hl:=rv.length;exact W2 (I.ok.hd hc) st p.isList (by simp;exact lC 2 2268279672881 T1 hl hx) λh' eb=>⟨rfl,I.turned (t':=s.toks) (λb o hb e=>eb b o hb e) f0 f1 f3 f4 f5⟩
 self:=λ_ _ _ _ _ st h=>wpAny_pyIter_listiter st h
theorem Zm2{P:bF}{w:bx}(a it:Y1):Turn P w K tg (Itt K a) [it] it (λi h=>h.IsTupleIter it a i)where
 mem:=by simp
 obj:=λi h st b hb=>by
  have e:b=it:=by simpa using hb
  subst e;obtain⟨o,e,c,d⟩:=st;exact⟨o,e,λv z=>by rw[d]at z;cases z⟩
 keep:=λi h h' st k=>st.at λo e=>k it (by simp) o e
 item:=by intro X hP hw hK hc i pins s σ H E I hf st hg;subst hP hw hK;obtain⟨xs,x,hq,hx⟩:=hg;obtain⟨its,rv,p,hz⟩:=I.tuple hq;obtain⟨u,hu,ru⟩:=rv.get hx;obtain⟨f0,f1,f2,f3,f4,f5⟩:=hf it (by simp);refine wpAny_pyNext_tuple_item st (show s.heap.IsTuple a its.toArray from p) (x:=u) (by simpa using hu) λh' st' sb=>?_;have I1:Inv X pins σ H {s with heap:=h'}:=I.turned (t':=s.toks) (λb o hb e=>(sb.2 b hb).trans e) f0 f1 f3 f4 f5;obtain⟨o,e,c,d⟩:=id st';exact⟨u,rfl,Jw (s:={s with heap:=h'}) e c d (by decide) ⟨x,H,I1,ru,⟨rfl,λys hy=>by rw[I.Mt hy hq];exact hx⟩,st',λb hb=>(hf b hb).1⟩⟩
 done:=by intro X hP hw hK hc i pins s σ H E I hf st hg;subst hP hw hK;obtain⟨xs,hq,hx⟩:=hg;obtain⟨its,rv,p,hz⟩:=I.tuple hq;obtain⟨f0,f1,f2,f3,f4,f5⟩:=hf it (by simp);have hl:=rv.length;exact wpAny_pyNext_tuple_end (I.ok.hd hc) st (show s.heap.IsTuple a its.toArray from p) (by simp;exact lC 2 2268279672881 T1 hl hx) λh' eb=>⟨rfl,I.turned (t':=s.toks) (λb o hb e=>eb b o hb e) f0 f1 f3 f4 f5⟩
 self:=λ_ _ _ _ _ st h=>wpAny_pyIter_tupleiter st h
theorem ZmE{P:bF}{w:bx}(it:Y1)(lo:Int)(n:Nat):Turn P w K tg (Jx lo n) [it] it (λi h=>IsRangeIter h it (lo+(i:Nat)*1) ((n:Int)-(i:Nat)) 1)where
 mem:=by simp
 obj:=λi h st b hb=>by
  have e:b=it:=by simpa using hb
  subst e;exact⟨_,st,λv z=>by have z':Data.fields _=Data.cell v:=z;cases z'⟩
 keep:=λi h h' st k=>k it (by simp) _ st
 item:=by intro X hP hw hK hc i pins s σ H E I hf st hg;subst hP hw hK;obtain⟨f0,f1,f2,f3,f4,f5⟩:=hf it (by simp);have W:=Walks.range (prog:=X.prog) (w:=X.w) (I.ok.hd hc) it lo 1 n;refine W.item i s _ _ hg st λv h' tk hv st' kk=>?_;obtain⟨t,rfl⟩:=hv;have I1:Inv X pins σ H {s with heap:=h',toks:=tk}:=I.turned (λb o hb e=>kk b o (by simpa using hb) e) f0 f1 f3 f4 f5;refine⟨_,rfl,Jw (s:={s with heap:=h',toks:=tk}) (n:="range_iterator") st' rfl rfl (by decide) ⟨.int (lo+i),H,I1,⟨t,?_⟩,⟨rfl,rfl⟩,st',λb hb=>(hf b hb).1⟩⟩;rw[Int.mul_one]
 done:=by intro X hP hw hK hc i pins s σ H E I hf st hg;subst hP hw hK;obtain⟨f0,f1,f2,f3,f4,f5⟩:=hf it (by simp);exact wpAny_pyNext_range_end (I.ok.hd hc) st (by have:n<=i:=hg;exact iN [_,_] [] 1 0xe1808f81001 T1 this) λh' eb=>⟨rfl,I.turned (t':=s.toks) (λb o hb e=>eb b o hb e) f0 f1 f3 f4 f5⟩
 self:=λ_ _ _ _ _ st h=>wpAny_pyIter_rangeiter st h
end L2
namespace L2
open PySem PySem.Spec PyProof.Rows
variable{fp:List Y1}{pins:List (Y1×aM)}
section
variable {X:Cx} {tg:Expr}
def Zv1(K:Yb)(tl:TE):TI:=λσ H R=>tl σ H λx H1=>∃a,x= .ref a/\(∃xs,bC K H1 a xs)/\R (Itl K a) H1
def ZxI(K:Yb)(tl:TE):TI:=λσ H R=>tl σ H λx H1=>∃a,x= .ref a/\(∃xs,cG K H1 a xs)/\R (Itt K a) H1
theorem Zsc{l:Expr}{tl:TE}(hl:PE X l tl):PI X tg l (Zv1 X.K tl):=by
 intro pins s σ H R I h;refine aF (hl pins s σ H _ I h) λv s1 ak=>?_;obtain⟨x,H1,I1,r1,q1⟩:=ak;obtain⟨a,e,⟨xs,hq⟩,q⟩:=q1;subst e;cases r1;obtain⟨its,rv,p,hz⟩:=I1.list hq;refine uV p.isList ?_;refine⟨s1.heap.objs.size,[s1.heap.objs.size],_,_,H1,rfl,I1.kept (t':=s1.toks) λb o e=>Yl _ e,ZoO a _,⟨_,Y2 _ rfl,rfl,rfl⟩,λb hb=>?_,q⟩;have e:b=s1.heap.objs.size:=by simpa using hb
 subst e;exact I1.uI (Ys _) (I1.hok.fresh (Ys _))
theorem Zt0{l:Expr}{tl:TE}(hl:PE X l tl):PI X tg l (ZxI X.K tl):=by
 intro pins s σ H R I h;refine aF (hl pins s σ H _ I h) λv s1 ak=>?_;obtain⟨x,H1,I1,r1,q1⟩:=ak;obtain⟨a,e,⟨xs,hq⟩,q⟩:=q1;subst e;cases r1;obtain⟨its,rv,p,hz⟩:=I1.tuple hq;refine HN (show s1.heap.IsTuple a its.toArray from p) ?_;refine⟨s1.heap.objs.size,[s1.heap.objs.size],_,_,H1,rfl,I1.kept (t':=s1.toks) λb o e=>Yl _ e,Zm2 a _,⟨_,Y2 _ rfl,rfl,rfl⟩,λb hb=>?_,q⟩;have e:b=s1.heap.objs.size:=by simpa using hb
 subst e;exact I1.uI (Ys _) (I1.hok.fresh (Ys _))
theorem Zpm{σ:St}{H:Hp}{s:Yk}{R:It->Hp->Prop}{E:Yh->Yk->Prop}{lo hi:Int}{t u v:fH}{tk:Nat}(I:Inv X pins σ H s)(h1:-(2^62)<=lo)(h2:lo<2^62)(h3:-(2^62)<=hi)(h4:hi<2^62)(q:R (Jx lo (hi-lo).toNat) H):aq (aA X.prog X.w) X.A (zG (.ref s.heap.objs.size)) (PIE X pins σ tg R) E {s with heap:=s.heap.push {cls:=.type "range",data:=.fields #[.int lo t,.int hi u,.int 1 v]},toks:=tk}:=by
 refine wpAny_pyIter_range (IsRange.new ..) (small_one h1 h2 h3 h4) ?_;have I1:Inv X pins σ H {s with heap:=s.heap.push {cls:=.type "range",data:=.fields #[.int lo t,.int hi u,.int 1 v]},toks:=tk}:=I.kept λb o e=>Yl _ e;refine⟨(s.heap.push {cls:=.type "range",data:=.fields #[.int lo t,.int hi u,.int 1 v]}).objs.size,[(s.heap.push {cls:=.type "range",data:=.fields #[.int lo t,.int hi u,.int 1 v]}).objs.size],_,_,H,rfl,
  I1.kept (t':=tk) λb o e=>Yl _ e,ZmE _ lo (hi-lo).toNat,?_,λb hb=>?_,q⟩
 .have e1:lo+((0:Nat):Int)*1=lo:=by simp
  have e2:(((hi-lo).toNat:Nat):Int)-((0:Nat):Int)=Builtin.Range.rangeSize lo hi 1:=by rw[rangeSize_one];split <;>omega
  show IsRangeIter _ _ (lo+((0:Nat):Int)*1) ((((hi-lo).toNat:Nat):Int)-((0:Nat):Int)) 1;rw[e1,e2];exact Y2 _ rfl
 .have e:b=(s.heap.push {cls:=.type "range",data:=.fields #[.int lo t,.int hi u,.int 1 v]}).objs.size:=by simpa using hb
  subst e;exact I1.uI (Ys _) (I1.hok.fresh (Ys _))
def Zvx(ta:TA):TI:=λσ H R=>ta σ H λvs H1=>∃j:Int,vs=[.int j]/\ -(2^62)<=j/\j<2^62/\R (Jx 0 j.toNat) H1
theorem Zo9{a:Expr}{ta:TA}{p pos:aV}(hg:Gl X "range")(hm:X.mg "range" =Ym)(ha:PA X [a] ta)(hs:Yw [a] X.env=[(false,aG a X.env)]:=by rfl):PI X tg (.Call (.Name "range" p) [a] [] pos) (Zvx ta):=by
 intro pins s σ H R I h;refine Call_ (xO I hg hm boot_range (Pb (aF (ha pos pins s σ H _ I h) λus s1 ak=>?_) hs rfl));obtain⟨vs,H1,I1,r1,q1⟩:=ak;obtain⟨j,e,q1,q2,q⟩:=q1;subst e;cases r1 with
 |cons r rr=>
  cases rr
  obtain⟨t,rfl⟩:=r;exact call_range_1 (Zpm I1 (by omega) (by omega) q1 q2 (by simpa using q))
def Zxz(wi:TI)(g:TG)(tb:TS):TS:=λD σ H=>wi σ H λJ H1=>∃W:Nat->Nat->St->Hp->Prop,(∃m,W 0 m σ H1)/\∀i m σ H,W i m σ H ->
 (J.stop i H/\D.nx σ H)\/(J.go i H/\∃N:St->Hp->Prop,(∀σ' H',N σ' H'->∃m',m'<m/\W (i+1) m' σ' H')/\∀x H',J.Jv i H x H'->g x σ H' λσ2 H2=>tb {D with nx:=N,ct:=N,bk:=D.nx} σ2 H2)
noncomputable def tH(fp:List Y1)(h:aO):List (Y1×aM):=fp.filterMap λb=>(h.get? b).map λo=>(b,o)
theorem zZ{h:aO}{b:Y1}{o:aM}(hb:b∈fp)(e:h.get? b=Ya o):(b,o)∈tH fp h:=Ny.mpr ⟨b,hb,by rw[e];rfl⟩
theorem ZoL{h:aO}{p:Y1×aM}(hp:p∈tH fp h):p.1∈fp/\h.get? p.1=Ya p.2:=by
 obtain⟨b,hb,e⟩:=Ny.mp hp;cases q:h.get? b with
 |none=>rw[q]at e;cases e|some o=>rw[q]at e;have e':(b,o)=p:=Y8 e;subst e';exact⟨hb,q⟩
theorem Inv.pinned{σ:St}{H:Hp}{s:Yk}(I:Inv X pins σ H s)(hf:∀b∈fp,iB X pins H b)(ho:∀b∈fp,∃o,s.heap.get? b=Ya o/\∀v,o.data≠ .cell v):Inv X (pins++tH fp s.heap) σ H s:=I.Vi λp hp=>(fU.mp hp).elim (λz=>I.pin p (Y6 _ z)) λz=>by obtain⟨hb,e⟩:=ZoL z;obtain⟨f0,f1,f2,_⟩:=hf p.1 hb;obtain⟨o,e',d⟩:=ho p.1 hb;rw[e]at e';cases e';exact⟨e,f0,f1,f2,d⟩
theorem Inv.CV{pl:List (Y1×aM)}{σ:St}{H:Hp}{s:Yk}(I:Inv X (pins++pl) σ H s):Inv X pins σ H s:=I.Vi λp hp=>I.pin p (Y6 _ (uO _ hp))
theorem Zui{iter:Expr}{body:List Yer}{wi:TI}{g:TG}{tb:TS}{pos:aV}(hp:PassesOwn (aA X.prog X.w) X.A X.env X.xe)(hc:X.calm=true)(hi:PI X tg iter wi)(hg:PG X tg g)(hb:jL X body tb)(hs:∀x,zy iter X.env x=pure x:=by intro _;rfl):PS X (.For tg iter body [] pos) (Zxz wi g tb):=by
 intro pins s σ H D I h;refine wpAny_For (aF (hi pins s σ H _ I h) λv s1 h1=>aF h1 λitv s2 h2=>?_) hs;obtain⟨it,fp,tn,J,H2,e,I2,T,st2,f2,W,⟨m0,w0⟩,turn⟩:=h2;subst e;have stat:∀{H':Hp},(∀b∈fp,H' b=Ym)->∀b∈fp,iB X pins H' b:=λhn b hb=>⟨hn b hb,(f2 b hb).2⟩;refine codeAny_forLoop_any (λn s'=>∃i σ' H',Inv X pins σ' H' s'/\tn i s'.heap/\(∀b∈fp,H' b=Ym)/\W i n σ' H') ?_ m0 ⟨0,σ,H2,I2,st2,λb hb=>(f2 b hb).1,w0⟩;rintro n s3 ⟨i,σ3,H3,I3,st3,Jy,w3⟩;rcases turn i n σ3 H3 w3 with⟨stop,qn⟩|⟨go,N,hN,step⟩
 .refine wX hp (aF (T.done X rfl rfl rfl hc i pins s3 σ3 H3 X.xe I3 (stat Jy) st3 stop) λr s4 ⟨hr,I4⟩=>?_);subst hr;exact HS ⟨σ3,H3,I4,qn⟩
 .refine wX hp (aF (T.item X rfl rfl rfl hc i pins s3 σ3 H3 X.xe I3 (stat Jy) st3 go) λr s4 ⟨u,hr,h4⟩=>?_);subst hr;refine wX hp (aF h4 λ_ s5 ak=>?_);obtain⟨x,H5,I5,r5,y5,lu,oW⟩:=ak;have I5':=I5.pinned (stat oW) (T.obj _ _ lu);refine wX hp (aF (hg _ s5 σ3 H5 x u _ I5' r5 (step x H5 y5)) λ_ s6 ak=>?_);obtain⟨σ6,H6,I6,q6⟩:=ak;refine wX hp (aF (hb _ s6 σ6 H6 _ I6 q6) λf s7 q7=>?_);have again:∀{σ7:St} {H7:Hp},Inv X (pins++tH fp s5.heap) σ7 H7 s7->N σ7 H7->∃m,m<n/\∃i σ' H',Inv X pins σ' H' s7/\tn i s7.heap/\(∀b∈fp,H' b=Ym)/\W i m σ' H':=λ{σ7 H7} I7 n7=>by
   obtain⟨m',hm,w7⟩:=hN σ7 H7 n7;refine⟨m',hm,i+1,σ7,H7,I7.CV,T.keep _ _ _ lu λb hb o e=>(I7.pin (b,o) (Y6 _ (Y6 _ (zZ hb e)))).1,λb hb=>?_,w7⟩;obtain⟨o,e,d⟩:=T.obj _ _ lu b hb;exact(I7.pin (b,o) (Y6 _ (Y6 _ (zZ hb e)))).2.1
  cases f with
  |next=>obtain⟨σ7,H7,I7,n7⟩:=q7;exact again I7 n7|cont=>obtain⟨σ7,H7,I7,n7⟩:=q7;exact again I7 n7|brk=>obtain⟨σ7,H7,I7,q7⟩:=q7;exact⟨σ7,H7,I7.CV,q7⟩|ret v=>obtain⟨x7,σ7,H7,I7,r7,q7⟩:=q7;exact⟨x7,σ7,H7,I7.CV,r7,q7⟩
end
end L2
namespace L2
open PySem PySem.Spec PyProof.Rows
noncomputable abbrev R2:=V->V->Hp->VK->Prop
def aQ(X:Cx)(f:Yh->Yh->oN Yh)(r:R2):Prop:=
 ∀(pins:List (Y1×aM)) (s:Yk) (σ:St) (H:Hp) (x y:V) (v u:Yh) (Q:VK),Inv X pins σ H s->RelV x v->RelV y u->r x y H Q ->
  aq (aA X.prog X.w) X.A (f v u) (EP X pins σ Q) X.xe s
def tK(X:Cx)(f:Yh->oN Yh)(r:V->Hp->VK->Prop):Prop:=
 ∀(pins:List (Y1×aM)) (s:Yk) (σ:St) (H:Hp) (x:V) (v:Yh) (Q:VK),Inv X pins σ H s->RelV x v->r x H Q ->
  aq (aA X.prog X.w) X.A (f v) (EP X pins σ Q) X.xe s
def cR(X:Cx)(f:Yh)(r:List V->Hp->VK->Prop):Prop:=
 ∀(pins:List (Y1×aM)) (s:Yk) (σ:St) (H:Hp) (xs:List V) (us:List Yh) (Q:VK),Inv X pins σ H s->Vals xs us->r xs H Q ->
  aq (aA X.prog X.w) X.A (call f us) (EP X pins σ Q) X.xe s
def z_(r:R2)(ta tb:TE):TE:=λσ H Q=>ta σ H λx H1=>tb σ H1 λy H2=>r x y H2 Q
def tUn(r:V->Hp->VK->Prop)(ta:TE):TE:=λσ H Q=>ta σ H λx H1=>r x H1 Q
def rI(C:Int->Int->Prop)(g:Int->Int->V):R2:=λx y H Q=>∃i j,x= .int i/\y= .int j/\C i j/\Q (g i j) H
def xQ(g:Int->Int->V):R2:=λx y H Q=>∃i j,x= .int i/\y= .int j/\Q (g i j) H
noncomputable def rU(g:Int->V):V->Hp->VK->Prop:=λx H Q=>∃i,x= .int i/\Q (g i) H
variable{r:R2}{f:Yh->Yh->oN Yh}
section
variable {X:Cx} {a b c:Expr} {ta tb tc:TE} {pos:aV}
theorem Qx(ha:PE X a ta)(hb:PE X b tb){pins:List (Y1×aM)}{s:Yk}{σ:St}{H:Hp}{R:V->V->Hp->Prop}(I:Inv X pins σ H s)(h:ta σ H λx H1=>tb σ H1 λy H2=>R x y H2){Q:Yh->Yk->Prop}(hf:∀v u s2 x y H2,Inv X pins σ H2 s2->RelV x v->RelV y u->R x y H2->aq (aA X.prog X.w) X.A (f v u) Q X.xe s2):
  aq (aA X.prog X.w) X.A (aG a X.env) (λv s₁=>aq (aA X.prog X.w) X.A (aG b X.env) (λu s₂=>aq (aA X.prog X.w) X.A (f v u) Q X.xe s₂) X.xe s₁) X.xe s:=by
 refine aF (ha pins s σ H _ I h) λv s1 ak=>?_;obtain⟨x,H1,I1,r1,q1⟩:=ak;refine aF (hb pins s1 σ H1 _ I1 q1) λu s2 ak=>?_;obtain⟨y,H2,I2,r2,q2⟩:=ak;exact hf v u s2 x y H2 I2 r1 r2 q2
theorem Zvr{op:Operator}(ho:aQ X (iT op) r)(ha:PE X a ta)(hb:PE X b tb):PE X (.BinOp a op b pos) (z_ r ta tb):=by intro pins s σ H Q I h;exact wpAny_BinOp (Qx ha hb I h λv u s2 x y H2 I2 rx ry q=>ho pins s2 σ H2 x y v u Q I2 rx ry q)
theorem Zwr{op:UnaryOp}{r:V->Hp->VK->Prop}(ho:tK X (Ii op) r)(ha:PE X a ta):PE X (.UnaryOp op a pos) (tUn r ta):=by intro pins s σ H Q I h;exact UnaryOp_ (aF (ha pins s σ H _ I h) λv s1 ⟨x,H1,I1,r1,q1⟩=>ho pins s1 σ H1 x v Q I1 r1 q1)
theorem Jz{C:Int->Int->Prop}{g:Int->Int->Int}(rule:∀(i j:Int) (t u:fH) (s:Yk) (Q:Yh->Yk->Prop) (E:Yh->Yk->Prop),C i j->Q (.int (g i j) s.toks) {s with toks:=s.toks+1}->aq (aA X.prog X.w) X.A (f (.int i t) (.int j u)) Q E s):
  aQ X f (rI C λi j=>.int (g i j)):=by
 intro pins s σ H x y v u Q I rx ry h;obtain⟨i,j,rfl,rfl,hc,q⟩:=h;obtain⟨t,rfl⟩:=rx;obtain⟨t',rfl⟩:=ry;exact rule i j t t' s _ _ hc ⟨.int (g i j),H,I.tok _,⟨_,rfl⟩,q⟩
theorem Zv8{g:Int->Int->Int}(rule:∀(i j:Int) (t u:fH) (s:Yk) (Q:Yh->Yk->Prop) (E:Yh->Yk->Prop),Q (.int (g i j) s.toks) {s with toks:=s.toks+1}->aq (aA X.prog X.w) X.A (f (.int i t) (.int j u)) Q E s):
  aQ X f (xQ λi j=>.int (g i j)):=by
 intro pins s σ H x y v u Q I rx ry h;obtain⟨i,j,rfl,rfl,q⟩:=h;obtain⟨t,rfl⟩:=rx;obtain⟨t',rfl⟩:=ry;exact rule i j t t' s _ _ ⟨.int (g i j),H,I.tok _,⟨_,rfl⟩,q⟩
theorem Qy{g:Int->Int->Bool}(rule:∀(i j:Int) (t u:fH) (s:Yk) (Q:Yh->Yk->Prop) (E:Yh->Yk->Prop),Q (.bool (g i j)) s->aq (aA X.prog X.w) X.A (f (.int i t) (.int j u)) Q E s):
  aQ X f (xQ λi j=>.bl (g i j)):=by
 intro pins s σ H x y v u Q I rx ry h;obtain⟨i,j,rfl,rfl,q⟩:=h;obtain⟨t,rfl⟩:=rx;obtain⟨t',rfl⟩:=ry;exact rule i j t t' s _ _ ⟨.bl (g i j),H,I,rfl,q⟩
def Zxe(i j:Int):Prop:=0<j/\j<1073741824
def Zxj(i j:Int):Prop:=0<=j/\j<=1000000/\i.natAbs<2^64
def Qz(i j:Int):Prop:=(-(2^64)<i/\i<2^64)\/(-(2^64)<j/\j<2^64)
theorem Qz.ok{i j:Int}(h:Qz i j):IntMulOk i j:=by
 rcases h with⟨h1,h2⟩|⟨h1,h2⟩
 .exact .of_left (intBits_le_64 h1 h2)
 .exact .of_right (intBits_le_64 h1 h2)
theorem Zuh:aQ X (iT .Add) (xQ λi j=>.int (i+j)):=Zv8 λ_ _ _ _ _ _ _ q=>add_int q
theorem Ztq:aQ X (iT .Sub) (xQ λi j=>.int (i-j)):=Zv8 λ_ _ _ _ _ _ _ q=>sub_int q
theorem Ztm:aQ X (iT .Mult) (rI Qz λi j=>.int (i*j)):=Jz λ_ _ _ _ _ _ _ hc q=>mul_int q hc.ok
theorem ZsH:aQ X (iT .FloorDiv) (rI Zxe λi j=>.int (i / j)):=Jz λi j _ _ _ _ _ hc q=>by have h1:(0:Int)<j:=hc.1;have h2:j<1073741824:=hc.2;exact floordiv_int (by exactλz=>iN [] [_] 2 26014245025 T1 z h1) (by rw[Int.fdiv_eq_ediv_of_nonneg i (by exact Iz h1)];exact q) (.inl (PyProof.noPylong_small (by omega)))
theorem ZtA:aQ X (iT .Mod) (rI (λ_ j=>0<j) λi j=>.int (i % j)):=Jz λi j _ _ _ _ _ hc q=>by have h1:(0:Int)<j:=hc;exact mod_int' (by exactλz=>iN [] [_] 2 26014245025 T1 z h1) (by rw[Int.fmod_eq_emod_of_nonneg i (by exact Iz h1)];exact q)
theorem ZuJ:aQ X (iT .Pow) (rI Zxj λi j=>.int (i^j.toNat)):=Jz λ_ _ _ _ _ _ _ hc q=>pow_int_small hc.1 hc.2.1 hc.2.2 q
theorem unI{f:Yh->oN Yh}{g:Int->Int}(rule:∀(i:Int) (t:fH) (s:Yk) (Q:Yh->Yk->Prop) (E:Yh->Yk->Prop),Q (.int (g i) s.toks) {s with toks:=s.toks+1}->aq (aA X.prog X.w) X.A (f (.int i t)) Q E s):
  tK X f (rU λi=>.int (g i)):=by
 intro pins s σ H x v Q I rx h;obtain⟨i,rfl,q⟩:=h;obtain⟨t,rfl⟩:=rx;exact rule i t s _ _ ⟨.int (g i),H,I.tok _,⟨_,rfl⟩,q⟩
theorem ZtX:tK X (Ii .USub) (rU λi=>.int (-i)):=unI λ_ _ _ _ _ q=>neg_int q
end
theorem QB{i j:aj}:decide (V.str i=V.str j)=(i==j):=by rw[O5];simp
section
variable {X:Cx} {a b c:Expr} {ta tb tc:TE} {pos:aV}
theorem QC{pins:List (Y1×aM)}{σ:St}{H:Hp}{s:Yk}{Q:VK}{k k':Bool}(I:Inv X pins σ H s)(q:Q (.bl k) H)(e:k=k'):EP X pins σ Q (.bool k') s:=by subst e;exact⟨.bl k,H,I,rfl,q⟩
theorem Zws:aQ X (eV .Lt) (xQ λi j=>.bl (decide (i<j))):=Qy λ_ _ _ _ _ _ _ q=>lt_int q
theorem Zvs:aQ X (eV .LtE) (xQ λi j=>.bl (decide (i<=j))):=Qy λ_ _ _ _ _ _ _ q=>le_int q
theorem ZvS:aQ X (eV .Gt) (xQ λi j=>.bl (decide (j<i))):=Qy λ_ _ _ _ _ _ _ q=>gt_int q
theorem ZoC:aQ X (eV .In) (λx y H Q=>∃i j,x= .str i/\y= .str j/\Q (.bl (!(DX j i 0 j.length 1).isEmpty)) H):=by intro pins s σ H x y v u Q I rx ry h;obtain⟨i,j,rfl,rfl,q⟩:=h;obtain⟨t,rfl⟩:=rx;obtain⟨t',rfl⟩:=ry;exact in_str (QC I q rfl)
theorem Zth:aQ X (eV .Is) (λx y H Q=>y= .non/\Q (.bl (decide (x= .non))) H):=by
 intro pins s σ H x y v u Q I rx ry h;obtain⟨rfl,q⟩:=h;cases ry;refine is_none_gen (QC I q ?_);cases x<;>first
  |(cases rx;rfl)
  |(obtain⟨t,rfl⟩:=rx;rfl)
theorem ZrZ:aQ X (eV .IsNot) (λx y H Q=>y= .non/\Q (.bl (!decide (x= .non))) H):=by
 intro pins s σ H x y v u Q I rx ry h;obtain⟨rfl,q⟩:=h;cases ry;refine isnot_none_gen (QC I q ?_);cases x<;>first
  |(cases rx;rfl)
  |(obtain⟨t,rfl⟩:=rx;rfl)
theorem aQ.or{r':R2}(h:aQ X f r)(h':aQ X f r'):aQ X f (λx y H Q=>r x y H Q\/r' x y H Q):=by
 intro pins s σ H x y v u Q I rx ry q;rcases q with q|q
 .exact h pins s σ H x y v u Q I rx ry q
 .exact h' pins s σ H x y v u Q I rx ry q
theorem Zn5{op:CmpOp}(ho:aQ X (eV op) r)(ha:PE X a ta)(hb:PE X b tb)(hm:wZ op b=false):PE X (.Compare a [op] [b] pos) (z_ r ta tb):=by intro pins s σ H Q I h;exact wpAny_Compare1 (Qx ha hb I h λv u s2 x y H2 I2 rx ry q=>ho pins s2 σ H2 x y v u Q I2 rx ry q) hm
def Zs2(t:TE):TT:=λσ H Q=>t σ H λx H'=>∃k,x= .bl k/\Q k H'
theorem QD{op:CmpOp}(ho:aQ X (eV op) r)(ha:PE X a ta)(hb:PE X b tb)(hm:wZ op b=false):PT X (.Compare a [op] [b] pos) (Zs2 (z_ r ta tb)):=by intro pins s σ H Q I h;refine wpAny_isTrue_Compare1 (aF (ha pins s σ H _ I h) λv s1 ⟨x,H1,I1,r1,q1⟩=>aF (hb pins s1 σ H1 _ I1 q1) λu s2 ⟨y,H2,I2,r2,q2⟩=>aF (ho pins s2 σ H2 x y v u _ I2 r1 r2 q2) λc s3 ⟨z,H3,I3,r3,k,e,q3⟩=>?_) hm;subst e;cases r3;exact pN ⟨H3,I3,q3⟩
def ZtE(r r':R2)(ta tb tc:TE):TE:=λσ H Q=>ta σ H λx H1=>tb σ H1 λy H2=>r x y H2 λz H3=>∃k,z= .bl k/\
 (if k=true then tc σ H3 λw' H4=>r' y w' H4 Q else Q (.bl false) H3)
theorem ZqI{op op':CmpOp}{r':R2}(ho:aQ X (eV op) r)(ho':aQ X (eV op') r')(ha:PE X a ta)(hb:PE X b tb)(hc:PE X c tc)(hm:lastMarks [op,op'] [b,c]=false:=by with_unfolding_all rfl):PT X (.Compare a [op,op'] [b,c] pos) (Zs2 (ZtE r r' ta tb tc)):=by
 intro pins s σ H Q I h;refine isTrue_chain (aF (ha pins s σ H _ I h) λv s1 ⟨x,H1,I1,r1,q1⟩=>test_link (aF (hb pins s1 σ H1 _ I1 q1) λu s2 ⟨y,H2,I2,r2,q2⟩=>aF (ho pins s2 σ H2 x y v u _ I2 r1 r2 q2) λd s3 ⟨z,H3,I3,r3,k,e,q3⟩=>?_)) hm;subst e;cases r3;refine pN ?_;cases k with
 |false=>obtain⟨k',e',q'⟩:=q3;cases e';exact ite_ff ⟨H3,I3,q'⟩|true=>refine ite_tt (test_last (aF (hc pins s3 σ H3 _ I3 q3) λw' s4 ⟨z',H4,I4,r4,q4⟩=>aF (ho' pins s4 σ H4 y z' u w' _ I4 r2 r4 q4) λd' s5 ak=>?_));obtain⟨z2,H5,I5,r5,k2,e2,q5⟩:=ak;subst e2;cases r5;exact pN ⟨H5,I5,q5⟩
theorem Eo:(bw:Nat)<2^63:=by rw[zB];decide
theorem Zmu:aQ X (iT .Add) (λx y H Q=>∃i j,x= .str i/\y= .str j/\i.length+j.length<=bw/\Q (.str (i++j)) H):=by intro pins s σ H x y v u Q I rx ry h;obtain⟨i,j,rfl,rfl,hz,q⟩:=h;obtain⟨t,rfl⟩:=rx;obtain⟨t',rfl⟩:=ry;exact add_str (λt' tk=>⟨.str (i++j),H,I.tok _,⟨_,rfl⟩,q⟩) hz
theorem vals1{x:V}{us:List Yh}(r:Vals [x] us):∃u,us=[u]/\RelV x u:=by
 cases r with
 |cons r1 r2=>cases r2;exact⟨_,rfl,r1⟩
theorem vals2{x y:V}{us:List Yh}(r:Vals [x,y] us):∃u w',us=[u,w']/\RelV x u/\RelV y w':=by
 cases r with
 |cons r1 r2=>
  cases r2 with
  |cons r3 r4=>cases r4;exact⟨_,_,rfl,r1,r3⟩
theorem ZoS:cR X (.type "int") (λxs H Q=>(∃i,xs=[.int i]/\Q (.int i) H)\/∃k,xs=[.bl k]/\Q (.int (if k then 1 else 0)) H):=by
 intro pins s σ H xs us Q I r h;rcases h with⟨i,rfl,q⟩|⟨k,rfl,q⟩
 .obtain⟨u,rfl,t,rfl⟩:=vals1 r;exact call_int_int ⟨.int i,H,I,⟨_,rfl⟩,q⟩
 .obtain⟨u,rfl,r1⟩:=vals1 r;cases r1;exact call_int_bool ⟨.int (if k then 1 else 0),H,I.tok _,⟨_,rfl⟩,q⟩
theorem ZkO:cR X (.type "str") (λxs H Q=>∃i,xs=[.int i]/\i.natAbs.log2<1920/\Q (.str (Eb i)) H):=by intro pins s σ H xs us Q I r h;obtain⟨i,rfl,hz,q⟩:=h;obtain⟨u,rfl,t,rfl⟩:=vals1 r;exact PySem.P.str_of_int hz ⟨.str _,H,I.tok _,⟨_,rfl⟩,q⟩
def Zxf(K:Yb)(x:V)(H:Hp)(n:Nat):Prop:=
 match x with
 | .str y=>y.length<=bw/\n=y.length|.zX y=>y.size<=bw/\n=y.size|.ref p=>(∃xs,bC K H p xs/\n=xs.length)\/∃xs,cG K H p xs/\n=xs.length|_=>False
theorem ZqL:cR X (.builtin "len") (λxs H Q=>∃x n,xs=[x]/\Zxf X.K x H n/\Q (.int n) H):=by
 intro pins s σ H xs us Q I r h;obtain⟨x,n,rfl,e,q⟩:=h;obtain⟨u,rfl,rx⟩:=vals1 r;have hl:=Eo;have hs:bw=16777216:=zB;cases x with
 |str y=>obtain⟨t,rfl⟩:=rx;obtain⟨hy,e'⟩:y.length<=bw/\n=y.length:=e;subst e';exact len_str (by omega) ⟨.int _,H,I.tok _,⟨_,rfl⟩,q⟩|zX y=>obtain⟨t,rfl⟩:=rx;obtain⟨hy,e'⟩:y.size<=bw/\n=y.size:=e;subst e';exact PySem.W.len_bytes (by omega) ⟨.int _,H,I.tok _,⟨_,rfl⟩,q⟩|ref p=>
  cases rx
  have e':(∃xs,bC X.K H p xs/\n=xs.length)\/∃xs,cG X.K H p xs/\n=xs.length:=e;rcases e' with⟨xs,hx,e'⟩|⟨xs,hx,e'⟩
  .subst e';obtain⟨its,r',pl,hz⟩:=I.list hx;have hlen:=r'.length;exact Calls.call_len_list pl.isList (by simp only[Yn];omega) ⟨.int xs.length,H,I.tok _,⟨_,by simp only[Yn];rw[hlen]⟩,q⟩
  .subst e';obtain⟨its,r',pl,hz⟩:=I.tuple hx;have hlen:=r'.length;exact len_tuple pl (by simp only[Yn];omega) ⟨.int xs.length,H,I.tok _,⟨_,by simp only[Yn];rw[hlen]⟩,q⟩
 |_=>exact(show False from e).elim
end
end L2
namespace L2
open PySem PySem.Spec PyProof.Rows
structure Aa(h:aO)(x dx C:Y1)(mA:aj->Option Yh):Prop where
 obj:h.get? x=Ya (uN C dx)
 ns:h.Ns1 dx mA
 ne:dx≠x
theorem ZoW{h:aO}{dx:Y1}{mA:aj->Option Yh}(n:h.Ns1 dx mA):∃od,h.get? dx=Ya od/\∀name,Nt name od=Ya (mA name):=by
 obtain⟨o,es,ep,ho,hd,hk,_,hm⟩:=n;refine⟨o,ho,λname=>?_⟩;have e:=hm name;unfold nsFind findBy at e;rw[←Array.find?_toList]at e;unfold Nt;rw[hd];dsimp only;split
 .rename_i y q;rw[q]at e;exact congrArg Ya e
 .rename_i q;rw[q]at e;have a:es.toList.any (·.refKey)=false:=by
   rw[List.any_eq_false];intro y hy;obtain⟨z,t,hkey⟩:=hk y (Array.mem_toList_iff.mp hy);simp[DictEntry.refKey,hkey]
  have a':¬es.toList.any (·.refKey)=true:=by rw[a];exact k_
  rw[if_neg a'];exact congrArg Ya e
theorem Aa.look{h:aO}{x dx C:Y1}{mA:aj->Option Yh}(I:Aa h x dx C mA):∃od,PySem.W.InstAt h x (uN C dx) C (Ya od)/\∀name,Nt name od=Ya (mA name):=
 let⟨od,ho,hl⟩:=ZoW I.ns
 ⟨od,⟨I.obj,rfl,rfl,ho⟩,hl⟩
variable{Q:Yh->Yk->Prop}
section
variable {prog:bF} {w:bx} {A:bK} {E:Yh->Yk->Prop} {s:Yk} {K:Yb} {x dx C f:Y1} {mA:aj->Option Yh} {name:aj} {v:Yh}
theorem ZrH{expr:Bool}(X:K.In s.heap)(I:Aa s.heap x dx C mA)(hg:Ho K C name=true)(hh:Hl K C=true)(ha:mD K (.ref C) name=Ya Ym)(hv:mA name=Ya v)(hv':Wj v=true)(h:Q v {s with toks:=s.toks+1}):
  aq (aA prog w) A (getAttr (.ref x) name expr) Q E s:=by
 obtain⟨od,J,hl⟩:=I.look;exact PySem.W.get_value X J (PySem.W.plainGet_of hg).1 (PySem.W.findObj_own hh ha rfl (by rw[hl,hv])) hv' h
theorem Zsk{ns:List aj}{Q:Unit->Yk->Prop}(X:K.In s.heap)(I:Aa s.heap x dx C mA)(hs:mD K (.ref C) "__setattr__" =Ya (Ya (.builtin "object.__setattr__")))(hp:Nm K C=true)(ht:Nr K C name=Ya Ym)(hh:Hl K C=true)(hw:Oh mA ns)(hsz:ns.length<=bw)(h:∀h',Aa h' x dx C (λy=>if y=name then Ya v else mA y)->zM dx s.heap h'->Q () {s with heap:=h',toks:=s.toks+2}):
  aq (aA prog w) A (setAttr (.ref x) name v) Q E s:=by
 obtain⟨od,J,hl⟩:=I.look;refine PySem.W.set_plain X J hs (PySem.W.osa_open (s:={s with toks:=s.toks+1}) (r:=Ym) X J hp ht λb=>?_);obtain⟨cd,hc,hd'⟩:=PySem.W.any_some hh;have hx:s.heap.get? x=Ya ⟨.ref C,Ya dx,.plain,#[]⟩:=I.obj;refine Yg (Yt (Yg (Yg (wpAny_loadPart hx (Yg (PySem.W.Looks.here (s:={s with toks:=s.toks+1}) (PySem.W.looks_clsIn X hc) ?_))))));rw[hd'];refine Yt (a:=Ya dx) (Yg (Yt (Yg ?_)));refine wpAny_nsSet1 (s:={s with toks:=s.toks+1}) I.ns λh' hn2 hs2=>?_;obtain⟨oD,esD,epD,hoD,hdD,hcD⟩:=hn2.count (PySem.Within.cons name v hw);refine Yg (wpAny_lookBehind hoD (by rw[hdD];exact pastItsLine_dict (Yj hcD (by rw[Yp];exact lB 1 0xa1ca0c01001 T1 hsz))) ?_);exact Yt (h _ ⟨(hs2.2 _ (cP I.ne)).trans I.obj,hn2,I.ne⟩ hs2)
theorem Zq8{R:sS->Yk->Prop}{vs:List Yh}{kw:List (aj×Yh)}(X:K.In s.heap)(hm:Hq K C=true)(hi:mD K (.ref C) "__init__" =Ya (Ya (.ref f)))(hf:PySem.W.typeIn K (.ref f)=Ya (.type "function"))(h:mJ (aA prog w) (A.under (.builtin "type.__call__" ⟨.ref C::vs,kw⟩)) (.call (.ref f) ⟨.ref (s.heap.objs.size+1)::vs,kw⟩) (PySem.W.InitBack (s.heap.objs.size+1) R)
   {s with heap:=(s.heap.push rZ).push (uN C s.heap.objs.size)}):
  mJ (aA prog w) A (.call (.ref C) ⟨vs,kw⟩) R s:=by
 obtain⟨hh,g,d,t,os⟩:=s;exact PySem.W.make_core (PySem.W.makes_of X hm) (PySem.W.looks_findIn X hi) (λself=>PySem.W.bind_fn X self hf) (.inl rfl) h
end
noncomputable def jd(f:aj)(v:V):List (aj×V)->List (aj×V)
 |[]=>[(f,v)]|(g,x)::r=>if g=f then(g,v)::r else(g,x)::jd f v r
theorem Zhu(f g:aj)(v:V):∀fs:List (aj×V),(jd f v fs).lookup g=if g=f then Ya v else fs.lookup g
 | []=>by
  show wV g [(f,v)]=_;by_cases h:g=f
  .have hb:(g==f)=true:=beq_iff_eq.mpr h;simp only[wV,hb,if_pos h]
  .have hb:(g==f)=false:=beq_eq_false_iff_ne.mpr h;simp only[wV,hb,if_neg h]
 | (k,x)::r=>by
  have ih:=Zhu f g v r;rw[show jd f v ((k,x)::r)=(if k=f then(k,v)::r else(k,x)::jd f v r)from rfl];by_cases hk:k=f
  .rw[if_pos hk];by_cases h:g=k
   .have hb:(g==k)=true:=beq_iff_eq.mpr h;simp only[wV,hb,if_pos (h.trans hk)]
   .have hb:(g==k)=false:=beq_eq_false_iff_ne.mpr h;simp only[wV,hb,if_neg (λe:g=f=>h (e.trans hk.symm))]
  .rw[if_neg hk];by_cases h:g=k
   .have hb:(g==k)=true:=beq_iff_eq.mpr h;simp only[wV,hb,if_neg (λe:g=f=>hk (h.symm.trans e))]
   .have hb:(g==k)=false:=beq_eq_false_iff_ne.mpr h;simp only[wV,hb];exact ih
theorem QF(f:aj)(v:V):∀fs:List (aj×V),f∈(jd f v fs).map (·.1)/\∀g,g∈fs.map (·.1)->g∈(jd f v fs).map (·.1)
 |[]=>⟨by simp[jd],λg h=>by simp at h⟩|(k,x)::r=>by
  obtain⟨i1,i2⟩:=QF f v r;rw[show jd f v ((k,x)::r)=(if k=f then(k,v)::r else(k,x)::jd f v r)from rfl];by_cases hk:k=f
  .rw[if_pos hk];subst hk;exact⟨by simp,λg h=>by simpa using h⟩
  .rw[if_neg hk];refine⟨?_,λg h=>?_⟩
   .rw[Yu];exact Yc _ i1
   .rw[Yu]at h ⊢;rcases Yo.mp h with e|e
    .exact Yo.mpr (.inl e)
    .exact Yc _ (i2 g e)
theorem ZhD(f:aj)(v:V):∀fs:List (aj×V),(jd f v fs).length<=fs.length+1
 |[]=>by simp[jd]|(k,x)::r=>by
  have ih:=ZhD f v r;rw[show jd f v ((k,x)::r)=(if k=f then(k,v)::r else(k,x)::jd f v r)from rfl];by_cases hk:k=f
  .rw[if_pos hk,Yp,Yp];exact jc _ _
  .rw[if_neg hk,Yp,Yp];exact lB 1 0xaa1cca0c0a1c001 T1 ih
theorem nA.some_of{v:V}{o:Option Yh}(r:nA (Ya v) o):∃u,o=Ya u/\RelV v u:=by
 cases o with
 |none=>exact(show False from r).elim|some u=>exact⟨u,rfl,r⟩
theorem Zo6{v:V}{u:Yh}(r:RelV v u):Wj u=true:=by
 cases v with
 |non=>cases(show u=Value.none from r);rfl|bl b=>cases(show u=Value.bool b from r);rfl|int i=>obtain⟨t,e⟩:=(show∃t,u=Value.int i t from r);cases e;rfl|str x=>obtain⟨t,e⟩:=(show∃t,u=Value.str x t from r);cases e;rfl
 |zX b=>obtain⟨t,e⟩:=(show∃t,u=Value.bytes b t from r);cases e;rfl|flt b=>obtain⟨t,e⟩:=(show∃t,u=Value.float b t from r);cases e;rfl|ref a=>cases(show u=Value.ref a from r);rfl|ty n=>cases(show u=Value.type n from r);rfl
section
variable {P:bF} {w:bx} {H H':Hp} {h h':aO} {a C dx:Y1} {fs fs':List (aj×V)}
theorem QG(hok:gK P w H h)(e:H a=Ya (.ins C dx fs)):∃mA,Aa h a dx C mA/\(∀f,nA (fs.lookup f) (mA f))/\Oh mA (fs.map (·.1))/\fs.length<=1000/\H dx=Ya (.own a):=by obtain⟨d,z,ne,ob,mA,n,r,q⟩:=(show gq P w H h a (.ins C dx fs)from hok a _ e);exact⟨mA,⟨ob,n,ne⟩,r,q,z,d⟩
end
structure vC(K:Yb)(C:Y1):Prop where
 pg:Ho K C Str.empty=true
 hd:Hl K C=true
 po:Nm K C=true
 sa:mD K (.ref C) "__setattr__" =Ya (Ya (.builtin "object.__setattr__"))
theorem vC.get{K:Yb}{C:Y1}(c:vC K C)(f:aj):Ho K C f=true:=c.pg
def qX(K:Yb)(C:Y1)(f:aj):Prop:=mD K (.ref C) f=Ya Ym
theorem qX.taker{K:Yb}{C:Y1}{f:aj}(n:qX K C f):Nr K C f=Ya Ym:=by unfold Nr;rw[show mD K (.ref C) f=Ya Ym from n];rfl
structure Meth(K:Yb)(C:Y1)(m:aj)(f:Y1):Prop where
 ao:mD K (.ref C) m=Ya (Ya (.ref f))
 fn:Hr K (.ref f)=true
 kp:su K (.ref f)=true
section
variable {X:Cx} {pins:List (Y1×aM)} {σ:St} {H:Hp} {s:Yk} {a C dx:Y1} {fs:List (aj×V)} {f:aj} {v:V} {A:bK} {E:Yh->Yk->Prop}
theorem Zm1{b:Bool}(I:Inv X pins σ H s)(e:H a=Ya (.ins C dx fs))(c:vC X.K C)(n:qX X.K C f)(l:fs.lookup f=Ya v)(h:∀u s',Inv X pins σ H s'->RelV v u->Q u s'):aq (aA X.prog X.w) A (getAttr (.ref a) f b) Q E s:=by obtain⟨mA,O,r,_,_,_⟩:=QG I.hok e;obtain⟨u,hu,ru⟩:=nA.some_of (v:=v) (o:=mA f) (by rw[←l];exact r f);exact ZrH I.dW O (c.get f) c.hd n hu (Zo6 ru) (h u _ (I.tok _) ru)
theorem ZmV{y:V}{u:Yh}{Q:Unit->Yk->Prop}(I:Inv X pins σ H s)(e:H a=Ya (.ins C dx fs))(c:vC X.K C)(n:qX X.K C f)(hl:fs.length<1000)(ry:RelV y u)(h:∀s',Inv X pins σ (upd H a (.ins C dx (jd f y fs))) s'->Q () s'):aq (aA X.prog X.w) A (setAttr (.ref a) f u) Q E s:=by
 obtain⟨mA,O,r,wi,_,ho⟩:=QG I.hok e;have hz:(fs.map (·.1)).length<=bw:=by rw[Yv,zB];exact lA 1 0x10000007b003e83b011 T1 hl
 refine Zsk I.dW O c.sa c.po n.taker c.hd wi hz λh' O' sb=>h _ ?_;have hd:∃o,h'.get? dx=Ya o:=let⟨o,_,_,e',_⟩:=O'.ns;⟨o,e'⟩;refine I.write (x:=a) (e:=dx) (by rw[e];exact True.intro) (.inr ho) (λb q hb z=>(sb.2 b hb).trans z) hd ?_;refine⟨by rw[fK O.ne];exact ho,?_,O.ne,O'.obj,_,O'.ns,λg=>?_,λg hg=>?_⟩
 .have:=ZhD f y fs;exact lB 2 0x3e83b003e83b111a1c001 T1 this hl
 .show nA ((jd f y fs).lookup g) (if g=f then Ya u else mA g);rw[Zhu];by_cases q:g=f
  .rw[if_pos q,if_pos q];exact ry
  .rw[if_neg q,if_neg q];exact r g
 .by_cases q:g=f
  .rw[q];exact(QF f y fs).1
  .refine(QF f y fs).2 g (wi g λz=>hg ?_);show(if g=f then Ya u else mA g)=Ym;rw[if_neg q];exact z
theorem Inv.made(I:Inv X pins σ H s):Inv X pins σ (upd (upd H s.heap.objs.size (.own (s.heap.objs.size+1))) (s.heap.objs.size+1) (.ins C s.heap.objs.size []))
  {s with heap:=(s.heap.push rZ).push (uN C s.heap.objs.size)}:=by
 have e1:(s.heap.push rZ).get? s.heap.objs.size=Ya rZ:=Y2 s.heap rfl;have e2:((s.heap.push rZ).push (uN C s.heap.objs.size)).get? (s.heap.objs.size+1)=Ya (uN C s.heap.objs.size):=by
  have:=Y2 (s.heap.push rZ) (o:=uN C s.heap.objs.size) rfl
  rwa[xq]at this
 have e3:(s.heap.push rZ).Ns s.heap.objs.size (λ_=>Ym):=⟨rZ,#[],_,e1,rfl,(λe he=>absurd he (by simp)),λ_=>rfl⟩;have I1:=I.laid (a:=s.heap.objs.size) (o:=.own (s.heap.objs.size+1)) (h':=s.heap.push rZ) (t':=s.toks) (λb u q=>Yl _ q) (Ys _) ⟨_,e1⟩;refine I1.laid (a:=s.heap.objs.size+1) (o:=.ins C s.heap.objs.size []) (t':=s.toks) (λb u q=>Yl _ q) (jK (xq _ _)) ?_;have ne:s.heap.objs.size≠s.heap.objs.size+1:=dz (Dz _);refine⟨by rw[fK ne,pY],eZ _,ne,e2,λ_=>Ym,(Heap.Ns1.of_empty e3).at λo q=>Yl _ q,λ_=>True.intro,λy hy=>absurd rfl hy⟩
theorem ZsD{prog:bF}{w:bx}{env:eY}{e:Expr}{f:aj}{pos:aV}{s:Yk}(hb:mH e f env (aG e env)=aG e env)(h:aq (aA prog w) A (aG e env) (λo s₁=>aq (aA prog w) A (getAttr o f true) Q E s₁) E s):aq (aA prog w) A (aG (.Attribute e f pos) env) Q E s:=Attribute_any_ h (by rw[arm_eval_Attribute,hb])
end
def Zw1(K:Yb)(ta:TE)(f:aj):TE:=λσ H Q=>ta σ H λx H1=>∃a C dx fs v,x= .ref a/\H1 a=Ya (.ins C dx fs)/\vC K C/\qX K C f/\fs.lookup f=Ya v/\Q v H1
def Zw9(K:Yb)(ta tv:TE)(f:aj):TS:=λD σ H=>tv σ H λy H1=>ta σ H1 λx H2=>∃a C dx fs,x= .ref a/\H2 a=Ya (.ins C dx fs)/\vC K C/\qX K C f/\fs.length<1000/\
 D.nx σ (upd H2 a (.ins C dx (jd f y fs)))
section
variable {X:Cx} {o e value:Expr} {f:aj} {pos pos' tpos:aV} {ta tv:TE}
theorem Zuq(he:PE X e ta)(hb:mH e f X.env (aG e X.env)=aG e X.env):PE X (.Attribute e f pos) (Zw1 X.K ta f):=by intro pins s σ H Q I h;refine ZsD hb (aF (he pins s σ H _ I h) λu s1 ak=>?_);obtain⟨x,H1,I1,rx,a,C,dx,fs,v,ex,ea,c,n,l,q⟩:=ak;subst ex;obtain rfl:u=Value.ref a:=rx;exact Zm1 I1 ea c n l λu' s2 I2 ru=>⟨v,H1,I2,ru,q⟩
theorem Ztx(ha:PE X o ta)(hv:PE X value tv)(hs:u0 value (Ya (.Attribute o f pos')) pos.line X.env=pure false):PS X (.Assign [.Attribute o f pos'] value pos) (Zw9 X.K ta tv f):=by intro pins s σ H D I h;refine plainObj_wpAny_Assign_Attribute (aF (hv pins s σ H _ I h) λu s1 ⟨y,H1,I1,ry,q⟩=>aF (ha pins s1 σ H1 _ I1 q) λov s2 ak=>?_) hs;obtain⟨x,H2,I2,rx,a,C,dx,fs,ex,ea,c,n,l,q2⟩:=ak;subst ex;obtain rfl:ov=Value.ref a:=rx;exact ZmV I2 ea c n l ry λs3 I3=>⟨σ,_,I3,q2⟩
end
section
variable {X:Cx} {pins:List (Y1×aM)} {σ:St} {H:Hp} {s:Yk} {A:bK} {E:Yh->Yk->Prop} {Q:Yh->Yk->Prop} {c:Yh} {b:Bool}
inductive oX(K:Yb)(H:Hp):V->Yh->Prop where
 |non:oX K H .non (.type "NoneType")
 |bl (x:Bool):oX K H (.bl x) (.type "bool")
 |int (i:Int):oX K H (.int i) (.type "int")
 |str (x:aj):oX K H (.str x) (.type "str")
 |flt (x:UInt64):oX K H (.flt x) (.type "float")
 |lst {a:Y1} {xs:List V} (e:H a=Ya (.lst xs)):oX K H (.ref a) (.type "list")
 |fJ {a:Y1} {o:aM} {xs:List V} (e:H a=Ya (.fJ o (.lst xs))):oX K H (.ref a) (.type "list")
 |tup {a:Y1} {xs:List V} (e:H a=Ya (.tup xs)):oX K H (.ref a) (.type "tuple")
 |dK {a:Y1} {kvs:List (Key×V)} (e:H a=Ya (.dK kvs)):oX K H (.ref a) (.type "dict")
 |dT {a:Y1} {kvs:List (List Key×V)} (e:H a=Ya (.dT kvs)):oX K H (.ref a) (.type "dict")
 | ins {a C dx:Y1} {fs:List (aj×V)} (e:H a=Ya (.ins C dx fs)) (cl:vC K C) (ha:mD K (.ref C) "__class__" =Ya (Ya (.builtin "object.__class__")))
   (hn:PySem.W.specialIn K (.builtin "object.__class__") "__get__" =Ya (Ya (.builtin "getset_descriptor.__get__"))) (htk:PySem.W.takesIn K (.builtin "object.__class__")=Ya true)
   (hm:PySem.W.mroIn K C (.type "object")=Ya true):oX K H (.ref a) (.ref C)
theorem Ab{x:V}{u t:Yh}(I:Inv X pins σ H s)(rx:RelV x u)(ty:oX X.K H x t)(e:Wm X.K t c=Ya b)(h:∀tk,Q (.bool b) {s with toks:=tk}):
  aq (aA X.prog X.w) A (call (.builtin "isinstance") [u,c]) Q E s:=by
 cases ty with
 |non=>cases(show u=Value.none from rx);exact oG Wh I.dW True.intro e (λz=>nomatch z) h|bl y=>cases(show u=Value.bool y from rx);exact oG Wi I.dW True.intro e (λz=>nomatch z) h|int i=>obtain⟨t,q⟩:=(show∃t,u=Value.int i t from rx);cases q;exact oG Wk I.dW True.intro e (λz=>nomatch z) h|str y=>obtain⟨t,q⟩:=(show∃t,u=Value.str y t from rx);cases q;exact oG Wl I.dW True.intro e (λz=>nomatch z) h
 |flt y=>obtain⟨t,q⟩:=(show∃t,u=Value.float y t from rx);cases q;exact oG PySem.W.kitx_float I.dW True.intro e (λz=>nomatch z) h|@lst a xs ea=>
  cases(show u=Value.ref a from rx)
  obtain⟨_,_,n,_,h1⟩:=(show gq X.prog X.w H s.heap a (.lst xs)from I.hok a _ ea);exact oG Np I.dW ⟨_,h1,rfl⟩ e (λz=>nomatch z) h
 | @fJ a ob xs ea=>
  cases(show u=Value.ref a from rx)
  obtain⟨_,_,_,n,_,h1⟩:=(show gq X.prog X.w H s.heap a (.fJ ob (.lst xs))from I.hok a _ ea);exact oG Np I.dW ⟨_,h1,rfl⟩ e (λz=>nomatch z) h
 | @tup a xs ea=>
  cases(show u=Value.ref a from rx)
  obtain⟨_,_,_,p⟩:=(show gq X.prog X.w H s.heap a (.tup xs)from I.hok a _ ea);obtain⟨o,h1,h2,_⟩:=p;exact oG Nj I.dW ⟨o,h1,h2.1⟩ e (λz=>nomatch z) h
 | @dK a kvs ea=>
  cases(show u=Value.ref a from rx)
  obtain⟨_,_,vs,_,p⟩:=(show gq X.prog X.w H s.heap a (.dK kvs)from I.hok a _ ea);obtain⟨o,es,ep,h1,h2,_⟩:=p;exact oG Nq I.dW ⟨o,h1,h2.1⟩ e (λz=>nomatch z) h
 | @dT a kvs ea=>
  cases(show u=Value.ref a from rx)
  obtain⟨_,_,xs,_,o,es,ep,h1,h2,_⟩:=(show gq X.prog X.w H s.heap a (.dT kvs)from I.hok a _ ea);exact oG Nq I.dW ⟨o,h1,h2.1⟩ e (λz=>nomatch z) h
 | @ins a C dx fs ea cl ha hn htk hm=>
  cases(show u=Value.ref a from rx)
  obtain⟨mA,O,_⟩:=QG I.hok ea;obtain⟨od,J,_⟩:=O.look;exact oG (PySem.W.kitx_own (cl.get _) cl.hd ha hn htk hm) I.dW J e (λz=>nomatch z) h
end
end L2
namespace L2
open PySem PySem.Spec PyProof.Rows
structure dB(k:Nat)(A:bK):Prop where
 hd:A.handled=Ym
 dp:A.depth+3*k+5<recursionLimit
 un:A.units+16*k+200<jA
variable{A:bK}
theorem dB.mono{j k:Nat}(r:dB k A)(h:j<=k):dB j A:=⟨r.hd,by have:=r.dp;exact lD 2 0x251b303d0cc11303251b103d0cc11 T1 this h,by have:=r.un;omega⟩
theorem dB.deeper{k:Nat}(r:dB (k+1) A)(env:eY):dB k (A.deeper env):=⟨r.hd,by have:=r.dp;show A.depth+1+3*k+5<_;exact lC 1 0x251b103da0ccc1251ba1c03d0cc11 T1 this,by have:=r.un;show A.units+3+16*k+200<_;exact lC 1 0x2c82b110d31b0ccc12c82ba1c10d0cc11 T1 this⟩
theorem dB.in1{k:Nat}(r:dB (k+1) A):dB k A.in1:=⟨r.hd,by have:=r.dp;show A.depth+3*k+5<_;exact lC 1 0x251b103d0cc1251ba1c03d0cc11 T1 this,by have:=r.un;show A.units+1+16*k+200<_;exact lC 1 0x2c82b110da0ccc12c82ba1c10d0cc11 T1 this⟩
variable{us:List Yh}
theorem Zng{C:Y1}{kw:List (aj×Yh)}:(A.under (.builtin "type.__call__" ⟨.ref C::us,kw⟩)).depth=A.depth+1:=by first|rfl|simp[PN,Code.weight,Code.isCreation,Code.isGuard,Code.isCaller,Code.frames,Qd,guardIds]
theorem Zm8{C:Y1}{kw:List (aj×Yh)}:(A.under (.builtin "type.__call__" ⟨.ref C::us,kw⟩)).units=A.units+1:=by first|rfl|simp[PN,Code.cUnits,Code.frames,Qd]
theorem dB.make{k:Nat}(r:dB (k+1) A)(C:Y1)(us:List Yh)(kw:List (aj×Yh)):dB k (A.under (.builtin "type.__call__" ⟨.ref C::us,kw⟩)):=⟨r.hd,by have:=r.dp;rw[Zng];exact lC 1 0x251b103da0ccc1251ba1c03d0cc11 T1 this,by have:=r.un;rw[Zm8];exact lC 1 0x2c82b110da0ccc12c82ba1c10d0cc11 T1 this⟩
theorem dB.depth{k:Nat}(r:dB k A):A.depth<recursionLimit:=by have:=r.dp;exact lC 1 0x201251b103d0cc11 T1 this
theorem dB.units{k:Nat}(r:dB k A):A.units+64<jA:=by have:=r.un;exact lC 1 0x2402b0c12c82b110d0cc11 T1 this
def ZvL:TA:=λ_ H Q=>Q [] H
def ZsZ(ta:TE)(tr:TA):TA:=λσ H Q=>ta σ H λx H1=>tr σ H1 λxs H2=>Q (x::xs) H2
section
variable {X:Cx} {e:Expr} {es:List Expr} {te:TE} {t:TA} {pos:aV}
theorem Ep:PA X [] ZvL:=λ_ _ _ _ H Q I h=>ZZ ⟨[],H,I,.nil,h⟩
theorem vD(ha:PE X e te)(hr:PA X es t)(hs:Yw (e::es) X.env=(false,aG e X.env)::Yw es X.env:=by rfl):PA X (e::es) (ZsZ te t):=by intro pos pins s σ H Q I h;rw[hs];show aq _ _ (Ih ((false,aG e X.env)::b7 pos (Yw es X.env))) _ _ s;refine Qc (aF (ha pins s σ H _ I h) λu s1 ak=>?_);obtain⟨x,H1,I1,r1,q1⟩:=ak;exact aF (hr pos pins s1 σ H1 _ I1 q1) λus s2 ⟨xs,H2,I2,r2,q2⟩=>⟨x::xs,H2,I2,.cons r1 r2,q2⟩
def Zxn(t:TA):TE:=λσ H Q=>t σ H λxs H1=>xs.length<=bw/\∀p,H1 p=Ym->Q (.ref p) (upd H1 p (.tup xs))
def Zw3(t:TA):TE:=λσ H Q=>t σ H λxs H1=>xs.length<=bw/\∀p,H1 p=Ym->Q (.ref p) (upd H1 p (.lst xs))
theorem ZpH{x1}(h:PA X es t):PE X (.Tuple es x1 pos) (Zxn t):=by intro pins s σ H Q I hq;refine wpAny_Tuple_spliced (aF (h pos pins s σ H _ I hq) λus s1 ⟨xs,H1,I1,r,z,q⟩=>⟨by rw[←r.length];exact z,?_⟩);have hf:H1 s1.heap.objs.size=Ym:=I1.hok.fresh (Ys _);refine⟨.ref s1.heap.objs.size,upd H1 s1.heap.objs.size (.tup xs),I1.laid (t':=s1.toks) (λb u e=>Yl _ e) (Ys _) ?_,rfl,q _ hf⟩;exact⟨z,us,r,⟨_,Y2 _ rfl,⟨rfl,rfl⟩,_,rfl⟩⟩
theorem ZuT(h:PA X es t):PE X (.List es pos) (Zw3 t):=by intro pins s σ H Q I hq;refine wpAny_List_spliced (aF (h pos pins s σ H _ I hq) λus s1 ⟨xs,H1,I1,r,z,q⟩=>⟨by rw[←r.length];exact z,?_⟩);have hf:H1 s1.heap.objs.size=Ym:=I1.hok.fresh (Ys _);refine⟨.ref s1.heap.objs.size,upd H1 s1.heap.objs.size (.lst xs),I1.laid (t':=s1.toks) (λb u e=>Yl _ e) (Ys _) ?_,rfl,q _ hf⟩;exact⟨z,us,0,r,Y2 _ rfl⟩
end
noncomputable abbrev Sp:=List V->Hp->VK->XK->Prop
noncomputable abbrev oY:=List eY->Hp->Yk->XK->Yh->Yk->Prop
structure qY(P:bF)(w:bx)(K:Yb)(mg:aj->Option Yh)(base:aO)(A:bK)(outer:List eY)(s:Yk)(H:Hp):Prop where
 frames:A.frames=Ya outer
 mod:Mod K mg base
 bs:∀b o,base.get? b=Ya o->s.heap.get? b=Ya o/\H b=Ym
 pZ:base.objs.size<=s.heap.objs.size
 nj:s.heap.FunFrames base outer
 vB:∀b∈frs outer,H b=Ym
 hok:gK P w H s.heap
 bare:sY s.gens
def CE(outer:List eY)(P:bF)(w:bx)(H:Hp)(s:Yk)(Q:VK)(u:Yh)(s':Yk):Prop:=∃v H',s'.os=s.os/\sY s'.gens/\Un (frs outer) [] H H' s.heap s'.heap/\gK P w H' s'.heap/\RelV v u/\Q v H'
def CR(CX:oY)(outer:List eY)(P:bF)(w:bx)(H:Hp)(s:Yk)(Q:VK)(E:XK)(r:sS)(s':Yk):Prop:=
 match r with
 | .ok (.ret u)=>CE outer P w H s Q u s'|.ok _=>False|.error e=>CX outer H s E e s'
structure jr(P:bF)(w:bx)(K:Yb)(mg:aj->Option Yh)(base:aO)(CX:oY)(k:Nat)(f:Y1)(fd:jZ)(ps:List aj)(sp:Sp):Prop where
 len:∀vs H Q E,sp vs H Q E->vs.length=ps.length
 run:∀(A:bK) (outer:List eY) (s:Yk) (H:Hp) (args:Args) (us:List Yh) (vs:List V) (Q:VK) (E:XK),dB k A->qY P w K mg base A outer s H->zE s fd args (ps.zip us)->Vals vs us->sp vs H Q E ->
  mJ (aA P w) A (.call (.ref f) args) (CR CX outer P w H s Q E) s
variable{K:Yb}{base:aO}{mg:aj->Option Yh}{P:bF}{ps:List aj}{w:bx}
theorem jr.mono{CX:oY}{j k:Nat}{f:Y1}{fd:jZ}{sp:Sp}(F:jr P w K mg base CX j f fd ps sp)(h:j<=k):
  jr P w K mg base CX k f fd ps sp:=⟨F.len,λA outer s H args us vs Q E hr=>F.run A outer s H args us vs Q E (hr.mono h)⟩
variable{s:Yk}{outer:List eY}{H:Hp}
theorem qY.make(e:qY P w K mg base A outer s H)(C:Y1)(us:List Yh)(kw:List (aj×Yh)):
  qY P w K mg base (A.under (.builtin "type.__call__" ⟨.ref C::us,kw⟩)) outer s H:=⟨by first|exact e.frames|(simpa[PN,Code.envs,Qd,pushEnvs]using e.frames),e.mod,e.bs,e.pZ,e.nj,e.vB,e.hok,e.bare⟩
theorem qY.in1(e:qY P w K mg base A outer s H):
  qY P w K mg base A.in1 outer s H:=⟨e.frames,e.mod,e.bs,e.pZ,e.nj,e.vB,e.hok,e.bare⟩
section
variable {X:Cx} {pins:List (Y1×aM)} {σ:St} {H:Hp} {s s':Yk}
theorem Inv.env0(I:Inv X pins σ H s):qY X.prog X.w X.K X.mg X.base X.A X.stack s H:=⟨I.ok.frames,I.ok.mod,I.bs,Yj I.ok.pZ I.sz,I.stack,I.Vh,I.hok,I.bare⟩
theorem Inv.after{Q:VK}{u:Yh}(I:Inv X pins σ H s)(h:CE X.stack X.prog X.w H s Q u s'):EP X pins σ Q u s':=by obtain⟨v,H',os,bare,un,hok,r,q⟩:=h;obtain⟨hh,g,d,t,os'⟩:=s';obtain rfl:os'=s.os:=os;exact⟨v,H',I.call (h':=hh) (g':=g) (d':=d) (t':=t) (ch:=[]) un hok bare (λb z=>absurd z (by simp)),r,q⟩
end
def ZvE(sp:Sp)(lz:List V)(E:XK)(t:TA):TE:=λσ H Q=>t σ H λvs H1=>sp (vs++lz) H1 Q E
def Zwk(C:Y1)(sp:Sp)(lz:List V)(E:XK)(t:TA):TE:=λσ H Q=>t σ H λvs H1=>∀x dx,H1 x=Ym->H1 dx=Ym->dx≠x ->
 sp (.ref x::(vs++lz)) (upd (upd H1 dx (.own x)) x (.ins C dx [])) (λv H2=>v= .non/\Q (.ref x) H2) E
def Binds(K:Yb)(fd:jZ)(ps:List aj)(ds:List Yh):Prop:=∀(s:Yk) (us:List Yh),K.In s.heap->(us++ds).length=ps.length->zE s fd ⟨us,[]⟩ (ps.zip (us++ds))
theorem Binds.all{fd:jZ}(h:∀us:List Yh,us.length=ps.length->bindArgs fd ⟨us,[]⟩=pure (ps.zip us)):Binds K fd ps []:=λs us _ hl=>by rw[jX]at hl ⊢;exact .of_eq (h us hl)
def Er(CX:oY)(X:Cx)(E:XK):Prop:=∀(pins:List (Y1×aM)) (σ:St) (H:Hp) (s:Yk) (e:Yh) (s':Yk),Inv X pins σ H s->CX X.stack H s E e s'->X.xe e s'
variable{vs:List V}
section
variable {X:Cx} {CX:oY} {k:Nat} {f C:Y1} {fd:jZ} {ps:List aj} {sp:Sp} {lz:List V} {ds:List Yh} {E:XK} {x m:aj} {p pos apos:aV} {e o:Expr} {es:List Expr} {ta:TE} {t:TA}
theorem Zvb{pins:List (Y1×aM)}{σ:St}{Q:VK}(F:jr X.prog X.w X.K X.mg X.base CX k f fd ps sp)(hr:dB k X.A)(hb:Binds X.K fd ps ds)(hd:Vals lz ds)(hx:Er CX X E)(I:Inv X pins σ H s)(r:Vals vs us)(h:sp (vs++lz) H Q E):aq (aA X.prog X.w) X.A (call (.ref f) us) (EP X pins σ Q) X.xe s:=by
 have r2:Vals (vs++lz) (us++ds):=r.append hd;have hl:(us++ds).length=ps.length:=by rw[←r2.length];exact F.len _ _ _ _ h
 refine Dv (uY (F.run X.A X.stack s H ⟨us,[]⟩ (us++ds) (vs++lz) Q E hr I.env0 (hb s us I.dW hl) r2 h) λr s' hq=>?_);cases r with
 |error e=>exact hx pins σ H s e s' I hq|ok fl=>
  cases fl with
  |ret u=>exact I.after hq|next=>exact jo hq|brk=>exact jo hq|cont=>exact jo hq
theorem ZrR(F:jr X.prog X.w X.K X.mg X.base CX k f fd ps sp)(hr:dB k X.A)(hg:Gl X x)(hm:X.mg x=Ya (.ref f))(hk:su X.K (.ref f)=true)(hb:Binds X.K fd ps ds)(hd:Vals lz ds)(hx:Er CX X E)(ha:PA X (e::es) t)(hdb:(x==("__debug__":aj))=false:=by decide)(he:Yw (e::es) X.env=(false,aG e X.env)::Yw es X.env:=by rfl)(hpl:(b7 pos (Yw es X.env)).any (·.1)=false:=by rfl):
  PE X (.Call (.Name x p) (e::es) [] pos) (ZvE sp lz E t):=by
 intro pins s σ H Q I h;refine zx (Qt I hg hm ?_ hdb);refine Wg (h₀:=X.base) I.ok.mod.Ek hk (aF (ha pos pins s σ H _ I h) λus s1 ⟨vs,H1,I1,r,q⟩=>⟨I1.dW,?_⟩) he hpl;exact Zvb F hr hb hd hx I1 r q
structure Mk(K:Yb)(C f:Y1):Prop where
 makes:Hq K C=true
 init:mD K (.ref C) "__init__" =Ya (Ya (.ref f))
 fn:Hr K (.ref f)=true
 kp:su K (.ref C)=true
theorem Zpt{pins:List (Y1×aM)}{σ:St}{Q:VK}(M:Mk X.K C f)(F:jr X.prog X.w X.K X.mg X.base CX k f fd ps sp)(hr:dB (k+1) X.A)(hb:Binds X.K fd ps ds)(hd:Vals lz ds)(hx:Er CX X E)(I:Inv X pins σ H s)(r:Vals vs us)(h:∀x dx,H x=Ym->H dx=Ym->dx≠x->sp (.ref x::(vs++lz)) (upd (upd H dx (.own x)) x (.ins C dx [])) (λv H2=>v= .non/\Q (.ref x) H2) E):
  aq (aA X.prog X.w) X.A (call (.ref C) us) (EP X pins σ Q) X.xe s:=by
 have hq:=h (s.heap.objs.size+1) s.heap.objs.size (I.hok.fresh (vy _)) (I.hok.fresh (Ys _)) (dz (Dz _));have I2:=Inv.made (C:=C) I;have r2:Vals (V.ref (s.heap.objs.size+1)::(vs++lz)) (Value.ref (s.heap.objs.size+1)::(us++ds)):=.cons rfl (r.append hd);have hl:(Value.ref (s.heap.objs.size+1)::us++ds).length=ps.length:=by have e:=r2.length;rw[F.len _ _ _ _ hq]at e;exact e.symm
 refine Dv (Zq8 (f:=f) I.dW M.makes M.init (beq_iff_eq.mp M.fn) (uY (F.run _ X.stack _ _ ⟨Value.ref (s.heap.objs.size+1)::us,[]⟩ (Value.ref (s.heap.objs.size+1)::(us++ds)) _ _ E (hr.make C us [])
  (I2.env0.make C us []) (hb _ (Value.ref (s.heap.objs.size+1)::us) I2.dW hl) r2 hq) λr s' hq'=>?_))
 cases r with
 |error e=>exact hx pins σ _ _ e s' I2 hq'|ok fl=>
  cases fl with
  |ret u=>obtain⟨v,H',I3,rv,ev,q3⟩:=I2.after hq';subst ev;exact⟨rv,⟨V.ref (s.heap.objs.size+1),H',I3,rfl,q3⟩⟩|next=>exact jo hq'|brk=>exact jo hq'
  |cont=>exact jo hq'
theorem Zr9(M:Mk X.K C f)(F:jr X.prog X.w X.K X.mg X.base CX k f fd ps sp)(hr:dB (k+1) X.A)(hg:Gl X x)(hm:X.mg x=Ya (.ref C))(hb:Binds X.K fd ps ds)(hd:Vals lz ds)(hx:Er CX X E)(ha:PA X (e::es) t)(hdb:(x==("__debug__":aj))=false:=by decide)(he:Yw (e::es) X.env=(false,aG e X.env)::Yw es X.env:=by rfl)(hpl:(b7 pos (Yw es X.env)).any (·.1)=false:=by rfl):
  PE X (.Call (.Name x p) (e::es) [] pos) (Zwk C sp lz E t):=by
 intro pins s σ H Q I h;refine zx (Qt I hg hm ?_ hdb);refine Wg (h₀:=X.base) I.ok.mod.Ek M.kp (aF (ha pos pins s σ H _ I h) λus s1 ⟨vs,H1,I1,r,q⟩=>⟨I1.dW,?_⟩) he hpl;exact Zpt M F hr hb hd hx I1 r q
end
def PK(X:Cx)(kws:List Keyword)(t:TA):Prop:=∀(pos:aV) (pins:List (Y1×aM)) (s:Yk) (σ:St) (H:Hp) (Q:List V->Hp->Prop),Inv X pins σ H s->t σ H Q->aq (aA X.prog X.w) X.A (Ij ((iU pos (iR kws X.env)).map (·.2))) (AP X pins σ Q) X.xe s
section
variable {X:Cx} {CX:oY} {k:Nat} {f C:Y1} {fd:jZ} {ps ks:List aj} {sp:Sp} {E:XK} {x m:aj} {p pos apos kpos:aV} {e o:Expr} {es:List Expr} {kws:List Keyword} {te ta:TE} {t tk:TA} {nm:Option aj}
theorem Zqv:PK X [] ZvL:=λ_ _ _ _ H Q I h=>wpAny_evalAll_nil ⟨[],H,I,.nil,h⟩
theorem ZnY(ha:PE X e te)(hr:PK X kws t):PK X (⟨nm,e,kpos⟩::kws) (ZsZ te t):=by intro pos pins s σ H Q I h;show aq _ _ (Ij ((do let v ←aG e X.env;Dy pos;pure v)::(iU pos (iR kws X.env)).map (·.2))) _ _ s;refine wpAny_evalAll_cons (Yg (aF (ha pins s σ H _ I h) λu s1 ⟨x,H1,I1,r1,q1⟩=>Yg (uX (Yt ?_))));exact aF (hr pos pins s1 σ H1 _ I1 q1) λus s2 ⟨xs,H2,I2,r2,q2⟩=>⟨x::xs,H2,I2,.cons r1 r2,q2⟩
variable {g:List Yh->List Yh->List Yh} {gV:List V->List V->List V}
end
structure dM(N P:List aj)(sc:Scope):Prop where
 kind:sc.kind= .function
 co:sc.isCoroutine=false
 gen:sc.isGenerator=false
 nd:N.Nodup
 pre:N.take P.length=P
 par:∀x∈P,sc.names.lookup x=Ya .local\/sc.names.lookup x=Ya .cell
 Aa5:∀y∈sc.names,y.2≠ .free
theorem ZjM{mL:aj->Option NameKind}{x:aj}:∀{binds:List (aj×Yh)} {m:aj->Option Yh},(∀v,(x,v)∉binds)->vg mL binds m x=m x
 |[],_,_=>rfl|(n,v)::r,m,h=>by
  unfold vg;rw[ZjM λw hw=>h w (Yc _ hw)];split
  .have:x≠n:=by rintro rfl;exact h v Yd
   simp[this]
  .rfl
theorem Zj5{mL:aj->Option NameKind}{x:aj}:∀{binds:List (aj×Yh)} {m:aj->Option Yh},(∀v,(x,v)∉binds)->vh mL binds m x=m x
 |[],_,_=>rfl|(n,v)::r,m,h=>by
  unfold vh;rw[Zj5 λw hw=>h w (Yc _ hw)];split
  .rfl
  .have:x≠n:=by rintro rfl;exact h v Yd
   simp[this]
theorem Zjz{mL:aj->Option NameKind}{x:aj}{v:Yh}:∀{P:List aj} {vs:List Yh} {i:Nat} {m:aj->Option Yh},P.Nodup->P[i]?=Ya x->vs[i]?=Ya v->mL x=Ya .local ->
  vg mL (P.zip vs) m x=Ya v
 |[],_,_,_,_,h,_,_=>by simp at h|_::_,[],_,_,_,_,h,_=>by simp at h|p::P,w::vs,0,m,nd,h1,h2,hk=>by simp at h1 h2;subst h1;subst h2;show vg mL ((p,w)::P.zip vs) m p=_;unfold vg;rw[ZjM λv hv=>(iQ.mp nd).1 (NQ hv).1,if_pos hk];simp|p::P,w::vs,i+1,m,nd,h1,h2,hk=>by show vg mL ((p,w)::P.zip vs) m x=_;unfold vg;exact Zjz (i:=i) (iQ.mp nd).2 (by simpa using h1) (by simpa using h2) hk
theorem Zj3{mL:aj->Option NameKind}{x:aj}{v:Yh}:∀{P:List aj} {vs:List Yh} {i:Nat} {m:aj->Option Yh},P.Nodup->P[i]?=Ya x->vs[i]?=Ya v->mL x≠Ya .local ->
  vh mL (P.zip vs) m x=Ya v
 |[],_,_,_,_,h,_,_=>by simp at h|_::_,[],_,_,_,_,h,_=>by simp at h|p::P,w::vs,0,m,nd,h1,h2,hk=>by simp at h1 h2;subst h1;subst h2;show vh mL ((p,w)::P.zip vs) m p=_;unfold vh;rw[Zj5 λv hv=>(iQ.mp nd).1 (NQ hv).1,if_neg hk];simp|p::P,w::vs,i+1,m,nd,h1,h2,hk=>by show vh mL ((p,w)::P.zip vs) m x=_;unfold vh;exact Zj3 (i:=i) (iQ.mp nd).2 (by simpa using h1) (by simpa using h2) hk
noncomputable def start(N:List aj)(vs:List V):St:=vs.map Ya++Yq (N.length-vs.length) Ym
noncomputable def tL(CX:oY)(P:bF)(w:bx)(K:Yb)(mg:aj->Option Yh)(base:aO)(N:List aj)(qual:aj)(scope:Scope)(f:Y1)(cd:Yh)(A:bK)(outer:List eY)(s:Yk)(H:Hp)(E:XK):Cx where
 prog:=P
 w:=w
 K:=K
 mg:=mg
 base:=base
 A:=A.deeper (oR qual scope s.heap.objs.size f cd)
 N:=N
 s₀:=s
 H₀:=H
 env:=oR qual scope s.heap.objs.size f cd
 outer:=outer
 stack:=oR qual scope s.heap.objs.size f cd::outer
 ex:=[]
 calm:=true
 fn:=λ_=>true
 pn:=[]
 xe:=λe s'=>aq (aA P w) (A.deeper (oR qual scope s.heap.objs.size f cd)) (leaving (oR qual scope s.heap.objs.size f cd) e) (λ_ s''=>CX outer H s E e s'') (λe' s''=>CX outer H s E e' s'') s'
theorem Zlk{sc:Scope}{n:Nat}{x:aj}(h:sc.names.lookup x=Ya .cell):∃c,(Ov n sc.names []).lookup x=Ya c:=by have q:=Wf sc.names n [] (.inl h);exact Hj.mp q
theorem ZoM{CX:oY}{N:List aj}{qual:aj}{scope:Scope}{f:Y1}{cd:Yh}{s1:Yk}{E:XK}(S:dM N ps scope)(hd:A.handled=Ym)(e0:qY P w K mg base A outer s H)(hl:vs.length=ps.length)(r:Vals vs us)(x:InCallC s s.heap.objs.size (vg (oR qual scope s.heap.objs.size f cd).kindOf (ps.zip us) λ_=>Ym) (Ov (s.heap.objs.size+1) scope.names []) (vh (oR qual scope s.heap.objs.size f cd).kindOf (ps.zip us) λ_=>Ym) s1):
  Inv (tL CX P w K mg base N qual scope f cd A outer s H E) [] (start N vs) H s1:=by
 have hpl:ps.length<=N.length:=by have:=congrArg uT S.pre;rw[zq]at this;omega
 obtain⟨h1,tk,rfl,hk⟩:=x.done;have Es:∀b:Y1,b∉(tL CX P w K mg base N qual scope f cd A outer s H E).ex:=λb z=>absurd (show b∈([]:List Y1)from z) (by simp);refine⟨⟨e0.mod,S.kind,rfl,rfl,Ys _,λy z c h1 h2=>?_,λy hy=>?_,λy c _ h=>?_,λ_=>hd,Around.frames_deeper e0.frames,.inr ⟨rfl,rfl⟩,λb z=>absurd z (Es b),e0.bs,e0.pZ,λb _ _=>Es b,λb z=>absurd z (Es b),e0.nj,e0.vB⟩,
  rfl,e0.bare,Un.kept hk,⟨_,x.toInCall.ns,λi y v h1 h2 h3=>?_⟩,λy c h=>⟨_,x.cell y c h⟩,e0.hok.fresh (Ys _),λy c h=>?_,λp hp=>absurd (show p∈([]:List (Y1×aM))from hp) (by simp),e0.hok.kept hk,?_⟩
 .exact name_of_addr x.apart (sH h1) (sH h2)
 .have hy:scope.names.lookup y=Ya .cell\/scope.names.lookup y=Ya .free:=hy;rcases hy with hy|hy
  .exact Zlk hy
  .exact absurd rfl (S.Aa5 _ (sH hy))
 .exact zK (x.above y c (sH h))
 .have hi:i<vs.length:=by
   unfold start at h2;by_cases hi:i<vs.length
   .exact hi
   .rw[wO (by simpa using hi)]at h2;rw[Ht]at h2;split at h2<;>cases h2
  have ha:vs[i]?=Ya v:=by
   unfold start at h2;rw[Yi (by simpa using hi),jV]at h2;cases e:vs[i]? with
   |none=>rw[e]at h2;cases h2|some a=>rw[e]at h2;cases h2;rfl
  obtain⟨u,hu,rv⟩:=r.get ha;have hp:ps[i]?=Ya y:=by rw[←S.pre,wQ (by exact lC 2 2203874037777 T1 hi hl)];exact h1
  have ndP:ps.Nodup:=by rw[←S.pre];exact S.nd.sublist (WK _ _)
  refine⟨u,rv,?_⟩;rcases S.par y (wR hp)with k|k
  .exact .inl ⟨k,Zjz ndP hp hu k⟩
  .obtain⟨c,e⟩:=Zlk (n:=s.heap.objs.size+1) k;refine .inr ⟨.inl k,c,e,?_⟩;have q:=x.cell y c e;rw[Zj3 ndP hp hu (by show scope.names.lookup y≠_;rw[k];decide)]at q;exact q
 .exact e0.hok.fresh (zK (x.above y c (sH h)))
 .unfold start;show _=N.length;rw[Ye,Yv,mG];exact Y4 (lC 1 2206541614113 T1 (gZ (lC 2 1236986302465 T1 hpl hl))) (lC 1 1288492400641 T1 (g8 _ _))
theorem Zvt{CX:oY}{k:Nat}{f:Y1}{name qual:aj}{params:Arguments}{body:List Yer}{scope:Scope}{dV kV doc pm cdv ct oc:Yh}{an od:Option Y1}{osl:Array (Option Yh)}{N:List aj}{sp:Sp}(lk:K.lookup f=Ya ⟨oc,od,.func (qL name qual params body scope dV kV doc pm an cdv ct),osl⟩)(hcd:Dh K cdv qual=true)(S:dM N ps scope)(len:∀vs H Q E,sp vs H Q E->vs.length=ps.length)(hbody:∀(A:bK) (outer:List eY) (s:Yk) (H:Hp) (vs:List V) (Q:VK) (E:XK),dB k (A.deeper (oR qual scope s.heap.objs.size f cdv))->sp vs H Q E ->
   ∃t,jL (tL CX P w K mg base N qual scope f cdv A outer s H E) body t/\t {nx:=λ_ H'=>Q .non H',rt:=Q} (start N vs) H):
  jr P w K mg base CX (k+1) f (qL name qual params body scope dV kV doc pm an cdv ct) ps sp:=by
 refine⟨len,λA outer s H args us vs Q E hr e0 hb r hsp=>?_⟩;have hl:=len _ _ _ _ hsp;have KX:K.In s.heap:=e0.mod.Ek.keeps λb o e=>(e0.bs b o e).1;have lim:s.heap.NoLimit:=e0.mod.nolimit.keeps λb o e=>(e0.bs b o e).1;have hkind:∀y∈ps.zip us,scope.names.lookup y.1=Ya .local\/(scope.names.lookup y.1=Ya .cell/\((Ov (s.heap.objs.size+1) scope.names []).lookup y.1).isSome=true):=λ⟨n,v⟩ hy=>by
  rcases S.par n (NQ hy).1 with q|q
  .exact .inl q
  .exact .inr ⟨q,Wf _ _ _ (.inl q)⟩
 refine codeAny_call_function hr.depth (KX _ _ lk) rfl S.co S.gen rfl (PySem.W.codeRec_of KX hcd) (hb _ _ _ _ ?_);refine wpAny_newFunctionEnv_cells S.kind hkind λenv he s1 x=>?_;subst he;refine⟨lim.keeps x.toInCall.keep,codeAny_func ?_⟩;obtain⟨t,ht,hq⟩:=hbody A outer s H vs Q E (hr.deeper _) hsp;have I:Inv (tL CX P w K mg base N qual scope f cdv A outer s H E) [] (start N vs) H s1:=ZoM S hr.hd e0 hl r x;refine jz (ht [] s1 (start N vs) H _ I hq) (λfl s' hs=>?_) λe s' hs=>hs;have fin:∀{σ':St} {H':Hp} {v:V} {u:Yh},Inv (tL CX P w K mg base N qual scope f cdv A outer s H E) [] σ' H' s'->RelV v u->Q v H'->CE outer P w H s Q u s':=λ{σ' H' v u} J rv q=>⟨v,H',J.os,J.bare,J.base,J.hok,rv,q⟩;cases fl with
 |ret u=>obtain⟨v,σ',H',J,rv,q⟩:=hs;exact fin J rv q|next=>obtain⟨σ',H',J,q⟩:=hs;exact fin (v:=V.non) (u:=Value.none) J rfl q|brk=>obtain⟨_,_,_,q⟩:=hs;exact jo q|cont=>obtain⟨_,_,_,q⟩:=hs;exact jo q
end L2
namespace L2
open PySem PySem.Spec PyProof.Rows
section
variable {X:Cx} {x:aj} {p pos:aV} {e:Expr} {es:List Expr} {t:TA} {id T:String} {r:List V->Hp->VK->Prop}
def QH(r:List V->Hp->VK->Prop)(t:TA):TE:=λσ H Q=>t σ H λvs H1=>r vs H1 Q
theorem JB(hc:cR X (.builtin id) r)(hg:Gl X x)(hm:X.mg x=Ym)(hv:jH x=Ya (.builtin id))(ha:PA X (e::es) t)(hn:x≠ "__name__":=by decide)(hdb:(x==("__debug__":aj))=false:=by decide)(he:Yw (e::es) X.env=(false,aG e X.env)::Yw es X.env:=by rfl)(hpl:(b7 pos (Yw es X.env)).any (·.1)=false:=by rfl):PE X (.Call (.Name x p) (e::es) [] pos) (QH r t):=by intro pins s σ H Q I h;refine zx (xO I hg hm hv ?_ hn hdb);exact PyProof.Rows.callWith_builtin1 (aF (ha pos pins s σ H _ I h) λus s1 ⟨vs,H1,I1,r1,q1⟩=>hc pins s1 σ H1 vs us Q I1 r1 q1) he hpl
theorem ZjV(hc:cR X (.type T) r)(hg:Gl X x)(hm:X.mg x=Ym)(hv:jH x=Ya (.type T))(ha:PA X (e::es) t)(hn:x≠ "__name__":=by decide)(hdb:(x==("__debug__":aj))=false:=by decide)(he:Yw (e::es) X.env=(false,aG e X.env)::Yw es X.env:=by rfl)(hpl:(b7 pos (Yw es X.env)).any (·.1)=false:=by rfl):PE X (.Call (.Name x p) (e::es) [] pos) (QH r t):=by intro pins s σ H Q I h;refine zx (xO I hg hm hv ?_ hn hdb);exact Pb (aF (ha pos pins s σ H _ I h) λus s1 ⟨vs,H1,I1,r1,q1⟩=>hc pins s1 σ H1 vs us Q I1 r1 q1) he hpl
end
end L2
namespace HT
open PySem PyProof.Rows
section
variable {prog:bF} {w:bx} {A:bK} {E:Yh->Yk->Prop} {s:Yk}
theorem AaW{t b:Y1}{vs ws:List Yh}{Q:Yh->Yk->Prop}(ht:IsTup s.heap t vs.toArray)(hb:IsTup s.heap b ws.toArray)(hv:vs≠[])(h1:ws=[]->Q (.ref t) s)(h2:ws≠[]->Q (.ref s.heap.objs.size) {s with heap:=s.heap.push {cls:=.type "tuple",data:=.seq (vs++ws).toArray}})(hsz:vs.length+ws.length<=bw):aq (aA prog w) A (iT .Add (.ref t) (.ref b)) Q E s:=by
 obtain⟨⟨cls,dd,data,sl⟩,ho,hc,n,hd⟩:=id ht;obtain⟨⟨cls2,dd2,data2,sl2⟩,ho2,hc2,n2,hd2⟩:=id hb;simp only at hc hd hc2 hd2;subst hc hd hc2 hd2;have e:vs.toArray++ws.toArray=(vs++ws).toArray:=by simp
 by_cases hw:ws=[]
 .exact Oi ⟨_,ho,rfl⟩ ⟨_,ho2,rfl⟩ N_ Og Pr Pn (Pk _ _)
   (tuple_addW1 t b vs.toArray ws.toArray n n2 dd dd2 sl sl2 (by simpa using hv) (by simp[hw])) ⟨ho,ho2,h1 hw⟩
 .refine Oi ⟨_,ho,rfl⟩ ⟨_,ho2,rfl⟩ N_ Og Pr Pn (Pk _ _)
   (tuple_addW2 t b vs.toArray ws.toArray n n2 dd dd2 sl sl2 (by simpa using hv) (by simpa using hw) (by rw[Yn,Yn];exact hsz)) ⟨ho,ho2,?_⟩
  rw[e];exact h2 hw
noncomputable def aC(n d:Nat):Option Int->Nat
 |none=>d|some v=>if v<0 then(v+(n:Int)).toNat else jq v.toNat n
theorem QJ(n d:Nat):aC n d Ym=d:=rfl
theorem Et(n d k:Nat):aC n d (Ya (k:Int))=jq k n:=by show(if(k:Int)<0 then((k:Int)+(n:Int)).toNat else jq (k:Int).toNat n)=jq k n;rw[if_neg (Pa.2 (DW _)),qR]
theorem JC(n d:Nat)(hd:d<=n)(o:Option Int):aC n d o<=n:=by
 cases o with
 |none=>exact hd|some v=>
  show(if v<0 then(v+(n:Int)).toNat else jq v.toNat n)<=n;by_cases hv:v<0
  .rw[if_pos hv];omega
  .rw[if_neg hv];exact OJ _ _
theorem Zns(v:Int)(n d:Nat):(if v<0 then max (v+(n:Int)) 0 else jq v (n:Int))=((aC n d (Ya v):Nat):Int):=by
 show(if v<0 then max (v+(n:Int)) 0 else jq v (n:Int))=(((if v<0 then(v+(n:Int)).toNat else jq v.toNat n):Nat):Int);by_cases hv:v<0
 .simp only[if_pos hv];exact clA _
 .simp only[if_neg hv];exact clB _ _ hv
theorem Zmy(lo hi:Option Int)(n:Nat):PL lo hi 1 (n:Int)=(((aC n 0 lo:Nat):Int),((aC n n hi:Nat):Int)):=by
 have h1:¬((1:Int)<0):=by decide
 unfold PL;simp only[h1,if_false];refine Prod.ext ?_ ?_
 .cases lo with
  |none=>rfl|some v=>exact Zns v n 0
 .cases hi with
  |none=>rfl|some v=>exact Zns v n n
theorem ZmT(i j:Nat):Jd (i:Int) (j:Int) 1=j-i:=by
 unfold Jd;have h1:(1:Int)>0:=by decide
 simp only[h1,if_true,Int.ediv_one];split <;>omega
theorem Zi2{v:Yh}{o:Option Int}{Q:Option Int->Yk->Prop}(p:IsPart v o)(h:Q o s):aq (aA prog w) A (Builtin.Slice.slicePartIndex v) Q E s:=by
 cases p with
 |none=>exact slicePart_none h|int i t=>exact slicePart_int h
theorem Vf{sl:Y1}{vl vu:Yh}{lo hi:Option Int}{n:Nat}{Q:Int×Int×Nat->Yk->Prop}(hs:s.heap.IsSliceOf sl vl vu .none)(pl:IsPart vl lo)(pu:IsPart vu hi)(h:Q (((aC n 0 lo:Nat):Int),1,aC n n hi-aC n 0 lo) s):aq (aA prog w) A (YS (.ref sl) (pure (n:Int))) Q E s:=by obtain⟨os,hos,hcs,hds⟩:=id hs;unfold YS Builtin.Slice.sliceFields;refine Yg (Yg (sJ hos hds (x:=vl) rfl (Yg (sJ hos hds (x:=vu) rfl (Yg (sJ hos hds (x:=.none) rfl (Yt ?_)))))));refine Yg (slicePart_none ?_);show aq _ _ (if((1:Int)==0)=true then _ else _) _ _ s;rw[if_neg (by decide)];refine Yg (Zi2 pl (Yg (Zi2 pu (Yg (Yt ?_)))));show aq _ _ (match PL lo hi 1 (n:Int)with|(lo,hi)=>pure (lo,(1:Int),Jd lo hi 1)) _ _ s;rw[Zmy lo hi n];show aq _ _ (pure (((aC n 0 lo:Nat):Int),(1:Int),Jd ((aC n 0 lo:Nat):Int) ((aC n n hi:Nat):Int) 1)) _ _ s;rw[ZmT];exact Yt h
theorem Zqp(xs:Array Yh)(i k:Nat):((gW k).filterMap λ(m:Nat)=>xs[((i:Int)+(m:Int)*1).toNat]?).toArray=((xs.toList.drop i).take k).toArray:=by
 have e:(λ(m:Nat)=>xs[((i:Int)+(m:Int)*1).toNat]?)=λm=>xs[i+m]?:=by
  funext m;have:((i:Int)+(m:Int)*1).toNat=i+m:=by omega
  rw[this]
 rw[e];have:=pick_run xs i k;rw[List.filterMap_map]at this;have e2:((λx=>xs[x]?) ∘ λx=>i+x)=λm=>xs[i+m]?:=rfl;rw[e2]at this;rw[this]
theorem Aaa{t sl:Y1}{items:Array Yh}{vl vu:Yh}{lo hi:Option Int}{Q:Yh->Yk->Prop}(ht:IsTup s.heap t items)(hs:s.heap.IsSliceOf sl vl vu .none)(pl:IsPart vl lo)(pu:IsPart vu hi)(hw:¬(aC items.size 0 lo=0/\aC items.size items.size hi=items.size))(h:Q (.ref s.heap.objs.size) {s with heap:=s.heap.push {cls:=.type "tuple",data:=.seq ((items.toList.drop (aC items.size 0 lo)).take (aC items.size items.size hi-aC items.size 0 lo)).toArray}})(hsz:items.size<=bw):aq (aA prog w) A (pP (.ref t) (.ref sl)) Q E s:=by
 have G9:sizeOk (.seq ((items.toList.drop (aC items.size 0 lo)).take (aC items.size items.size hi-aC items.size 0 lo)).toArray):=by show((items.toList.drop (aC items.size 0 lo)).take (aC items.size items.size hi-aC items.size 0 lo)).toArray.size<=bw;rw[Yn,zq,WP,Yes];exact lD 3 85606880155602945 T1 hsz (DQ _ _) (OJ _ _)
 have hj:aC items.size items.size hi<=items.size:=JC _ _ (Ys _) hi;obtain⟨os,hos,hcs,hds⟩:=id hs;have hTs:s.TypeIs (.ref sl) "slice":=⟨os,hos,hcs⟩;unfold pP
 try with_reducible refine gY ?_
 first|refine Yg (Yt ?_)|skip
 refine Yg (N8 ht.typeIs (by decide) ?_);refine Yg (wW (name:=pW "__getitem__") ht.typeIs IW
  (uW IW ht.typeIs XJ ?_ (XQ _ _)))
 show aq _ _ (YW (.ref t)>>=_) _ _ s;refine Yg (tupleItemsOf_ ht ?_);refine Yg (Oj hTs ?_);rw[if_pos (by decide)];refine Yg (Vf hs pl pu ?_);have hno:¬((((aC items.size 0 lo:Nat):Int)==0&&(1:Int)==1&&(aC items.size items.size hi-aC items.size 0 lo)==items.size)=true):=by intro q;rw[Y5,Y5]at q;have q1:((aC items.size 0 lo:Nat):Int)=0:=eq_of_beq q.1.1;have q2:aC items.size items.size hi-aC items.size 0 lo=items.size:=eq_of_beq q.2;exact hw ⟨by exact Y4 (iN [_] [] 1 3759016097 T1 q1) (eZ _),by exact Y4 hj (lC 2 2268279672881 T1 q2 (DQ _ _))⟩
 show aq _ _ (if(((aC items.size 0 lo:Nat):Int)==0&&(1:Int)==1&&(aC items.size items.size hi-aC items.size 0 lo)==items.size)=true then _ else _) _ _ s;rw[if_neg hno,Zqp]
 first
  |exact Yg (m:=Jf _) (sI (Yt ⟨_,rfl,Yt h⟩) G9)
  |exact Yg (m:=Jf _) (sI (Yg (Yt (Yt ⟨_,rfl,Yt h⟩))) G9)
  |exact Yg (Yg (m:=Jf _) (sI (Yt (Yt ⟨_,rfl,Yt h⟩)) G9))
  |exact Yg (Yg (m:=Jf _) (sI (Yt ⟨_,rfl,Yt h⟩) G9))
end
end HT
namespace L2
open PySem PySem.Spec PyProof.Rows
noncomputable abbrev TO:=St->Hp->(Option Int->Hp->Prop)->Prop
def PO(X:Cx)(e:Option Expr)(t:TO):Prop:=
 ∀(pins:List (Y1×aM)) (s:Yk) (σ:St) (H:Hp) (Q:Option Int->Hp->Prop),Inv X pins σ H s->t σ H Q ->
  aq (aA X.prog X.w) X.A (evalPart e X.env) (λu s'=>∃o H',Inv X pins σ H' s'/\IsPart u o/\Q o H') X.xe s
def ZsB:TO:=λ_ H Q=>Q Ym H
def ZvG(t:TE):TO:=λσ H Q=>t σ H λx H1=>∃i,x= .int i/\Q (Ya i) H1
section
variable {X:Cx} {e:Expr} {te:TE} {lo hi:Option Expr} {tl th:TO} {pos p2:aV}
theorem Zr1:PO X Ym ZsB:=by intro pins s σ H Q I h;rw[evalPart_none];exact Yt ⟨Ym,H,I,.none,h⟩
theorem Zsi(h:PE X e te):PO X (Ya e) (ZvG te):=by intro pins s σ H Q I hw;rw[evalPart_some];refine aF (h pins s σ H _ I hw) λu s1 ak=>?_;obtain⟨x,H1,I1,r1,q1⟩:=ak;obtain⟨i,rfl,q⟩:=q1;obtain⟨t,rfl⟩:=r1;exact⟨Ya i,H1,I1,.int i t,q⟩
def jB(X:Cx)(r:V->Option Int->Option Int->Hp->VK->Prop):Prop:=
 ∀(pins:List (Y1×aM)) (s:Yk) (σ:St) (H:Hp) (x:V) (v vl vu:Yh) (lo hi:Option Int) (sl:Y1) (Q:VK),Inv X pins σ H s->RelV x v->s.heap.IsSliceOf sl vl vu .none->IsPart vl lo->IsPart vu hi->r x lo hi H Q ->
  ∃T id,typeLookup (.type T) "__getitem__" =pure (Ya (.builtin id))/\s.TypeIs v T/\aq (aA X.prog X.w) X.A (pP v (.ref sl)) (EP X pins σ Q) X.xe s
theorem jB.or{r r':V->Option Int->Option Int->Hp->VK->Prop}(h:jB X r)(h':jB X r'):jB X (λx lo hi H Q=>r x lo hi H Q\/r' x lo hi H Q):=by
 intro pins s σ H x v vl vu lo hi sl Q I rx hs pl pu q;rcases q with q|q
 .exact h pins s σ H x v vl vu lo hi sl Q I rx hs pl pu q
 .exact h' pins s σ H x v vl vu lo hi sl Q I rx hs pl pu q
def tSl(r:V->Option Int->Option Int->Hp->VK->Prop)(te:TE)(tl th:TO):TE:=λσ H Q=>te σ H λx H1=>tl σ H1 λl H2=>th σ H2 λu H3=>r x l u H3 Q
theorem Zqa{r:V->Option Int->Option Int->Hp->VK->Prop}(hr:jB X r)(he:PE X e te)(hl:PO X lo tl)(hu:PO X hi th):PE X (.Subscript e (.Slice lo hi Ym p2) pos) (tSl r te tl th):=by intro pins s σ H Q I h;refine Ph (aF (he pins s σ H _ I h) λv s1 ak=>?_);obtain⟨x,H1,I1,r1,q1⟩:=ak;refine wpAny_Slice (aF (hl pins s1 σ H1 _ I1 q1) λvl s2 ⟨l,H2,I2,pl,q2⟩=>aF (hu pins s2 σ H2 _ I2 q2) λvu s3 ak=>?_);obtain⟨u,H3,I3,pu,q3⟩:=ak;rw[evalPart_none];refine Yt ?_;have I4:Inv X pins σ H3 {s3 with heap:=s3.heap.push {cls:=.type "slice",data:=.fields #[vl,vu,.none]}}:=I3.kept (t':=s3.toks) λb ob q=>Yl _ q;obtain⟨T,id,hT,ht,hg⟩:=hr pins {s3 with heap:=s3.heap.push {cls:=.type "slice",data:=.fields #[vl,vu,.none]}} σ H3 x v vl vu l u s3.heap.objs.size Q I4 r1 (Heap.IsSliceOf.new ..) pl pu q3;show aq (aA X.prog X.w) X.A (Pg e (.Slice lo hi Ym p2) v (.ref s3.heap.objs.size)) (EP X pins σ Q) X.xe {s3 with heap:=s3.heap.push {cls:=.type "slice",data:=.fields #[vl,vu,.none]}};exact tail_any (ops:=[.ref s3.heap.objs.size,v]) ht hT hg (by with_unfolding_all rfl)
noncomputable def vG(xs:List V)(lo hi:Option Int):List V:=(xs.drop (HT.aC xs.length 0 lo)).take (HT.aC xs.length xs.length hi-HT.aC xs.length 0 lo)
theorem Zhv(xs:List V)(lo hi:Option Int):(vG xs lo hi).length<=xs.length:=by unfold vG;rw[zq,WP];exact Yj (OJ _ _) (DQ _ _)
noncomputable def Zxu(K:Yb):V->Option Int->Option Int->Hp->VK->Prop:=λx lo hi H Q=>∃a xs,x= .ref a/\cG K H a xs/\
 ¬(HT.aC xs.length 0 lo=0/\HT.aC xs.length xs.length hi=xs.length)/\∀p,H p=Ym->Q (.ref p) (upd H p (.tup (vG xs lo hi)))
theorem ZtY:jB X (Zxu X.K):=by
 intro pins s σ H x v vl vu lo hi sl Q I rx hs pl pu h;obtain⟨a,xs,rfl,hx,hw,q⟩:=h;cases rx;obtain⟨its,r,ht,hz⟩:=I.tuple hx;have hlen:its.toArray.size=xs.length:=by rw[Yn];exact r.length.symm
 refine⟨"tuple",_,PyProof.Rows.slot_tuple_getitem.lookup,ht.typeIs,?_⟩;refine HT.Aaa ht hs pl pu (by rw[hlen];exact hw) ?_ (by rw[hlen];exact hz);rw[hlen];refine⟨.ref s.heap.objs.size,_,I.laid (t':=s.toks) (o:=.tup (vG xs lo hi)) (λb ob q=>Yl _ q) (Ys _) ?_,rfl,q _ (I.hok.fresh (Ys _))⟩;exact⟨Yj (Zhv xs lo hi) hz,_,(r.drop (HT.aC xs.length 0 lo)).take (HT.aC xs.length xs.length hi-HT.aC xs.length 0 lo),qW.new _ _⟩
def ZvH(K:Yb):R2:=λx y H Q=>∃a b xs ys,x= .ref a/\y= .ref b/\cG K H a xs/\cG K H b ys/\xs≠[]/\xs.length+ys.length<=bw/\
 (ys=[]->Q (.ref a) H)/\(ys≠[]->∀p,H p=Ym->Q (.ref p) (upd H p (.tup (xs++ys))))
theorem Vals.Mv{xs:List V}{us:List Yh}(r:Vals xs us):us=[]↔xs=[]:=by
 cases r with
 |nil=>simp|cons _ _=>simp
theorem ZrX:aQ X (iT .Add) (ZvH X.K):=by intro pins s σ H x y v u Q I rx ry h;obtain⟨a,b,xs,ys,rfl,rfl,ha,hb,hx,hz,q1,q2⟩:=h;cases rx;cases ry;obtain⟨its,r1,p1,_⟩:=I.tuple ha;obtain⟨its2,r2,p2,_⟩:=I.tuple hb;refine HT.AaW p1 p2 (λz=>hx (r1.Mv.mp z)) (λz=>⟨.ref a,H,I,rfl,q1 (r2.Mv.mp z)⟩) (λz=>?_) (by rw[←r1.length,←r2.length];exact hz);refine⟨.ref s.heap.objs.size,_,I.laid (t':=s.toks) (o:=.tup (xs++ys)) (λb ob q=>Yl _ q) (Ys _) ?_,rfl,q2 (λw=>z (r2.Mv.mpr w)) _ (I.hok.fresh (Ys _))⟩;exact⟨by rw[Ye];exact hz,_,r1.append r2,qW.new _ _⟩
end
end L2
namespace L2
open PySem PySem.Spec PyProof.Rows
noncomputable def Ac(n:Nat)(i:Int):Option Nat:=if 0<=i then(if i<n then Ya i.toNat else Ym)else if -(n:Int)<=i then Ya (i+n).toNat else Ym
noncomputable def xR{α:Type}(xs:List α)(i:Int):Option α:=(Ac xs.length i).bind λj=>xs[j]?
theorem QK{n:Nat}{i:Int}{j:Nat}(h:Ac n i=Ya j):Ow i n=Ya j/\j<n/\ -(n:Int)<=i/\i<n:=by
 unfold Ac at h;by_cases h0:0<=i
 .rw[if_pos h0]at h;by_cases h1:i<n
  .rw[if_pos h1]at h;have e:i.toNat=j:=Y8 h;exact⟨by rw[Om h0 h1,e],by exact iN [_,_,_] [_] 3 0x211008a1280911031 T1 e h1 (pR h0),by exact iN [_] [_] 1 144182913 T1 h0,h1⟩
  .rw[if_neg h1]at h;cases h
 .rw[if_neg h0]at h;by_cases h1:-(n:Int)<=i
  .rw[if_pos h1]at h;have e:(i+n).toNat=j:=Y8 h;exact⟨by rw[Ol (by exact zR.1 h0) h1,e],by exact iN [_,_,_] [_] 3 0x211280c08a10ec11031 T1 e h0 (pR (iN [_] [_] 1 8851524979073 T1 h1)),h1,by exact iN [_] [_] 1 134811329 T1 h0⟩
  .rw[if_neg h1]at h;cases h
theorem QL{α:Type}{xs:List α}{i:Int}{v:α}(h:xR xs i=Ya v):∃j,Ow i xs.length=Ya j/\xs[j]?=Ya v/\j<xs.length/\ -(xs.length:Int)<=i/\i<xs.length:=by
 unfold xR at h;cases e:Ac xs.length i with
 |none=>rw[e]at h;cases h|some j=>rw[e]at h;obtain⟨h1,h2,h3,h4⟩:=QK e;exact⟨j,h1,h,h2,h3,h4⟩
def ZnV(b:Expr):Prop:=∀o i,HX b false o i=operate [o,i] (pP o i)
def lG(X:Cx)(r:R2):Prop:=
 ∀(value slice:Expr) (pins:List (Y1×aM)) (s:Yk) (σ:St) (H:Hp) (x y:V) (v u:Yh) (Q:VK),Inv X pins σ H s->RelV x v->RelV y u->r x y H Q ->
  HX slice false v u=operate [v,u] (pP v u)->aq (aA X.prog X.w) X.A (Pg value slice v u) (EP X pins σ Q) X.xe s
def jM(X:Cx)(id:String)(r:V->List V->Hp->VK->Prop):Prop:=
 ∀(pins:List (Y1×aM)) (s:Yk) (σ:St) (H:Hp) (x:V) (xs:List V) (v:Yh) (us:List Yh) (Q:VK),Inv X pins σ H s->RelV x v->Vals xs us->r x xs H Q ->
  aq (aA X.prog X.w) X.A (call (.builtin id) (v::us)) (EP X pins σ Q) X.xe s
section
variable {X:Cx} {a b:Expr} {ta tb:TE} {pos:aV}
theorem lG.or{r r':R2}(h:lG X r)(h':lG X r'):lG X (λx y H Q=>r x y H Q\/r' x y H Q):=by
 intro value slice pins s σ H x y v u Q I rx ry q hs;rcases q with q|q
 .exact h value slice pins s σ H x y v u Q I rx ry q hs
 .exact h' value slice pins s σ H x y v u Q I rx ry q hs
theorem ZvT{r:R2}(hr:lG X r)(ha:PE X a ta)(hb:PE X b tb)(hs:ZnV b):PE X (.Subscript a b pos) (z_ r ta tb):=by intro pins s σ H Q I h;exact Ph (Qx ha hb I h λv u s2 x y H2 I2 rx ry q=>hr a b pins s2 σ H2 x y v u Q I2 rx ry q (hs _ _))
def Zwh(K:Yb):R2:=λx y H Q=>∃p xs i v,x= .ref p/\y= .int i/\bC K H p xs/\xR xs i=Ya v/\Q v H
def Zvu(K:Yb):R2:=λx y H Q=>∃p xs i v,x= .ref p/\y= .int i/\cG K H p xs/\xR xs i=Ya v/\Q v H
def Zvw:R2:=λx y H Q=>∃z i c,x= .str z/\y= .int i/\z.length<=bw/\xR z.cps.toList i=Ya c/\Q (.str ⟨#[c]⟩) H
theorem Zr4:lG X (Zwh X.K):=by
 intro value slice pins s σ H x y v u Q I rx ry h hs;obtain⟨p,xs,i,z,rfl,rfl,hq,he,q⟩:=h;cases rx;obtain⟨t,rfl⟩:=ry;obtain⟨its,r,pl,hz⟩:=I.list hq;obtain⟨j,h1,h2,h3,h4,h5⟩:=QL he;obtain⟨w,ew,mO⟩:=r.get h2;have hl:=r.length;have hn:=Eo;have fin:EP X pins σ Q w s:=⟨z,H,I,mO,q⟩;by_cases h0:0<=i
 .have hj:i.toNat=j:=by
   rw[Om h0 h5]at h1;exact Y8 h1
  exact item_listR pl.isList h0 (by omega) (by rw[hj];simpa using ew) fin hs
 .have hj:(i+(its.toArray.size:Int)).toNat=j:=by
   rw[Ol (by exact zR.1 h0) h4]at h1;rw[Yn,←hl];exact Y8 h1
  exact XF (x:=w) pl.isList.typeIs slot_list_getitem.lookup
   (wpAny_getItem_list_neg (Q:=λr s'=>r=w/\EP X pins σ Q r s') pl.isList (by exact zR.1 h0) (by rw[Yn]<;>exact iN [_,_] [_] 2 6922527515414561 T1 hl h4) (by omega) (by rw[hj];simpa using ew) ⟨rfl,fin⟩) hs
theorem Zup:lG X (Zvu X.K):=by
 intro value slice pins s σ H x y v u Q I rx ry h hs;obtain⟨p,xs,i,z,rfl,rfl,hq,he,q⟩:=h;cases rx;obtain⟨t,rfl⟩:=ry;obtain⟨its,r,pl,hz⟩:=I.tuple hq;obtain⟨j,h1,h2,h3,h4,h5⟩:=QL he;obtain⟨w,ew,mO⟩:=r.get h2;have hl:=r.length;have hn:=Eo;have fin:EP X pins σ Q w s:=⟨z,H,I,mO,q⟩;exact XF (x:=w) pl.typeIs slot_tuple_getitem.lookup
  (getItem_tuple (j:=j) (Q:=λr s'=>r=w/\EP X pins σ Q r s') pl (by omega) (by omega) (by rw[Yn,←hl];exact h1) (by simpa using ew) ⟨rfl,fin⟩) hs
theorem Zug:lG X Zvw:=by
 intro value slice pins s σ H x y v u Q I rx ry h hs;obtain⟨z,i,c,rfl,rfl,hz,he,q⟩:=h;obtain⟨t,rfl⟩:=rx;obtain⟨t',rfl⟩:=ry;obtain⟨j,h1,h2,h3,h4,h5⟩:=QL he;have hl:z.cps.toList.length=z.length:=by simp[lg]
 rw[hl]at h1 h4 h5;have hn:=Eo;exact tail_any (xg s z t) slot_str_getitem.lookup (getItem_str (c:=c) (by have e1:decide (i< -(2^63:Int))=false:=decide_eq_false (by omega);have e2:decide (i>=2^63)=false:=decide_eq_false (by omega);rw[e1,e2,Iv]) (by rw[h1];simpa using h2) ⟨.str ⟨#[c]⟩,H,I.tok _,⟨_,rfl⟩,q⟩) hs
def rIx(K:Yb):R2:=λx y H Q=>Zwh K x y H Q\/Zvu K x y H Q\/Zvw x y H Q
theorem ZuO:lG X (rIx X.K):=Zr4.or (Zup.or Zug)
theorem Zmr(its:List Yh)(n j:Nat)(u:Yh):xH (·.setIfInBounds j u) {cls:=.type "list",data:=.seq its.toArray n}={cls:=.type "list",data:=.seq (its.set j u).toArray n}:=by simp[xH]
theorem Inv.lst{pins:List (Y1×aM)}{σ:St}{H:Hp}{s:Yk}{p:Y1}{xs:List V}(I:Inv X pins σ H s)(h:H p=Ya (.lst xs)):
  ∃(its:List Yh) (n:Nat),Vals xs its/\s.heap.get? p=Ya {cls:=.type "list",data:=.seq its.toArray n}/\xs.length<=bw:=by
 obtain⟨z,its,n,r,e⟩:=I.hok p _ h;exact⟨its,n,r,e,z⟩
theorem Inv.Aa6{pins:List (Y1×aM)}{σ:St}{H:Hp}{s:Yk}{p:Y1}{xs ys:List V}{its its':List Yh}{n n':Nat}{f:aM->aM}(I:Inv X pins σ H s)(h:H p=Ya (.lst xs))(ho:s.heap.get? p=Ya {cls:=.type "list",data:=.seq its.toArray n})(hf:f {cls:=.type "list",data:=.seq its.toArray n}={cls:=.type "list",data:=.seq its'.toArray n'})(r:Vals ys its')(hz:ys.length<=bw)(t:Nat):
  Inv X pins σ (upd H p (.lst ys)) {s with heap:=s.heap.update p f,toks:=t}:=by
 have e:(s.heap.update p f).get? p=Ya {cls:=.type "list",data:=.seq its'.toArray n'}:=by rw[Ir f ho (by rw[hf]<;>rfl),hf]
 refine I.write (x:=p) (e:=p) (by rw[h];trivial) (.inl rfl) (λb u hb q=>(sW _ _ (cP hb)).trans q) ⟨_,e⟩ ?_;exact⟨hz,its',n',r,e⟩
noncomputable def Zvy:V->V->V->Hp->(Hp->Prop)->Prop:=λo i v H Q=>∃p xs k j,o= .ref p/\i= .int k/\H p=Ya (.lst xs)/\Ac xs.length k=Ya j/\Q (upd H p (.lst (xs.set j v)))
theorem set_list:Zwl X Zvy:=by
 intro pins s σ H o i v ov iv u Q I ro ri rv h;obtain⟨p,xs,k,j,rfl,rfl,hp,hj,q⟩:=h;cases ro;obtain⟨t,rfl⟩:=ri;obtain⟨its,n,r,ho,hz⟩:=I.lst hp;obtain⟨h1,h2,h3,h4⟩:=QK hj;have hl:=r.length;have hn:=Eo;have I':Inv X pins σ (upd H p (.lst (xs.set j v))) {s with heap:=s.heap.update p (xH (·.setIfInBounds j u))}:=I.Aa6 hp ho (Zmr its n j u) (r.set rv j) (by rw[sE];exact hz) s.toks;by_cases h0:0<=k
 .have hk:k.toNat=j:=by
   rw[Om h0 h4]at h1;exact Y8 h1
  exact PySem.W.ki_setAt ho h0 (by omega) (by rw[Yn,←hl];exact h4) (by rw[hk];exact⟨_,I',q⟩)
 .have hk:(k+(its.toArray.size:Int)).toNat=j:=by
   rw[Ol (by exact zR.1 h0) h3]at h1;rw[Yn,←hl];exact Y8 h1
  exact PySem.W.ki_setBack ho (by exact zR.1 h0) (by rw[Yn,←hl];exact h3) (by omega) (by rw[hk];exact⟨_,I',q⟩)
theorem ZkH(lo hi:Option Int)(n:Nat):(w5 lo hi Ym n).1=((HT.aC n 0 lo:Nat):Int)/\(w5 lo hi Ym n).2.1=((HT.aC n n hi:Nat):Int)/\(w5 lo hi Ym n).2.2=1:=by
 refine⟨?_,?_,rfl⟩
 .cases lo with
  |none=>simp[w5,HT.aC]|some i=>
   simp only[w5,HT.aC,Wc,show(1:Int)>0 by decide,if_true];by_cases h:i<0
   .simp only[h,if_true]<;>exact Qi _ _ h
   .simp only[h,if_false]<;>exact Qj _ _ h
 .cases hi with
  |none=>simp[w5,HT.aC]|some i=>
   simp only[w5,HT.aC,Wc,show(1:Int)>0 by decide,if_true];by_cases h:i<0
   .simp only[h,if_true]<;>exact Qi _ _ h
   .simp only[h,if_false]<;>exact Qj _ _ h
theorem Zjb(its:List Yh)(lo hi:Option Int):slicePick its.toArray lo hi Ym=((its.drop (HT.aC its.length 0 lo)).take (HT.aC its.length its.length hi-HT.aC its.length 0 lo)).toArray:=by obtain⟨h1,h2,h3⟩:=ZkH lo hi its.toArray.size;unfold slicePick;rw[h1,h2,h3];simp only[sliceRange_one,pick_run,Yn]<;>rfl
noncomputable def Zxk(K:Yb):V->Option Int->Option Int->Hp->VK->Prop:=λx lo hi H Q=>∃a xs,x= .ref a/\bC K H a xs/\∀p,H p=Ym->Q (.ref p) (upd H p (.lst (vG xs lo hi)))
theorem Zrz:jB X (Zxk X.K):=by intro pins s σ H x v vl vu lo hi sl Q I rx hs pl pu h;obtain⟨a,xs,rfl,hx,q⟩:=h;cases rx;obtain⟨its,r,ht,hz⟩:=I.list hx;have hlen:=r.length;refine⟨"list",_,slot_list_getitem.lookup,ht.isList.typeIs,?_⟩;refine wpAny_getItem_list_slice ht.isList hs pl pu .none (by simp) ?_ (by rw[Yn]<;>exact lC 2 2268279672881 T1 hlen hz);rw[Zjb,←hlen];refine⟨.ref s.heap.objs.size,_,I.laid (t':=s.toks) (o:=.lst (vG xs lo hi)) (λb ob q=>Yl _ q) (Ys _) ?_,rfl,q _ (I.hok.fresh (Ys _))⟩;exact⟨Yj (Zhv xs lo hi) hz,_,0,(r.drop (HT.aC xs.length 0 lo)).take (HT.aC xs.length xs.length hi-HT.aC xs.length 0 lo),Y2 _ rfl⟩
noncomputable def qZ:V->Bool
 | .non=>true|.bl _=>true|.int _=>true|.str _=>true
 |_=>false
noncomputable def tM:V->V->Bool
 | .non,.non=>true|.bl a,.bl b=>a==b|.bl a,.int b=>(if a then 1 else 0)==b|.int a,.bl b=>a==(if b then 1 else 0)
 | .int a,.int b=>a==b|.str a,.str b=>a==b|_,_=>false
theorem Zt7{A:bK}{s:Yk}{y x:V}{u v:Yh}(ry:RelV y u)(rx:RelV x v)(fy:qZ y=true)(fx:qZ x=true):sZ A s u v (tM y x):=by
 cases y with
 |non=>
  cases ry
  cases x with
  |non=>cases rx;exact P_ _|bl b=>cases rx;exact ZC b|int b=>obtain⟨t,rfl⟩:=rx;exact ZG b t|str b=>obtain⟨t,rfl⟩:=rx;exact ZJ b t
  |_=>exact absurd (show false=true from fx) k_
 |bl a=>
  cases ry
  cases x with
  |non=>cases rx;exact ZD a|bl b=>cases rx;exact ZF a b|int b=>obtain⟨t,rfl⟩:=rx;exact ZK a b t|str b=>obtain⟨t,rfl⟩:=rx;exact ZL a b t
  |_=>exact absurd (show false=true from fx) k_
 |int a=>
  obtain⟨t',rfl⟩:=ry;cases x with
  |non=>cases rx;exact ZM a t'|bl b=>cases rx;exact ZP a t' b|int b=>obtain⟨t,rfl⟩:=rx;exact ZS a t' b t|str b=>obtain⟨t,rfl⟩:=rx;exact PX a t' b t
  |_=>exact absurd (show false=true from fx) k_
 |str a=>
  obtain⟨t',rfl⟩:=ry;cases x with
  |non=>cases rx;exact ZQ a t'|bl b=>cases rx;exact ZR a t' b|int b=>obtain⟨t,rfl⟩:=rx;exact Jg a t' b t|str b=>obtain⟨t,rfl⟩:=rx;exact ZV a t' b t
  |_=>exact absurd (show false=true from fx) k_
 |_=>exact absurd (show false=true from fy) k_
noncomputable def tO(x:V)(u:Yh):Bool:=match u with
 | .none=>tM .non x|.bool b=>tM (.bl b) x|.int i _=>tM (.int i) x|.str z _=>tM (.str z) x
 |_=>false
theorem ZpM{x y:V}{u:Yh}(r:RelV y u)(f:qZ y=true):tO x u=tM y x:=by
 cases y with
 |non=>cases r;rfl|bl b=>cases r;rfl|int i=>obtain⟨t,rfl⟩:=r;rfl|str z=>obtain⟨t,rfl⟩:=r;rfl
 |_=>exact absurd (show false=true from f) k_
theorem QM{x:V}:∀{xs:List V} {us:List Yh},Vals xs us->xs.all qZ=true->us.any (tO x)=xs.any λy=>tM y x
 |_,_,.nil,_=>rfl|y::xs,u::us,.cons r t,f=>by rw[jG,Y5]at f;rw[kW,kW,ZpM r f.1,QM t f.2]
theorem QQ{A:bK}{s:Yk}{x:V}{v:Yh}(rx:RelV x v)(fx:qZ x=true):∀{xs:List V} {us:List Yh},Vals xs us->xs.all qZ=true->∀u∈us,sZ A s u v (tO x u)
 |_,_,.nil,_=>λu hu=>by cases hu|y::xs,u::us,.cons r t,f=>λu' hu=>by
  rw[jG,Y5]at f;rcases Yo.mp hu with rfl|hu
  .rw[ZpM r f.1];exact Zt7 r rx f.1 fx
  .exact QQ rx fx t f.2 u' hu
noncomputable def inV(x:V)(xs:List V):Bool:=xs.any λy=>tM y x
def rIn(K:Yb)(neg:Bool):R2:=λx y H Q=>∃p xs,y= .ref p/\(bC K H p xs\/cG K H p xs)/\qZ x=true/\xs.all qZ=true/\Q (.bl (if neg then !inV x xs else inV x xs)) H
theorem ZoZ:aQ X (eV .In) (rIn X.K false):=by
 intro pins s σ H x y v u Q I rx ry h;obtain⟨p,xs,rfl,hq,fx,fs,q⟩:=h;cases ry;rcases hq with hq|hq
 .obtain⟨its,r,pl,hz⟩:=I.list hq;refine Y_ (tO x) pl.isList (λw hw=>QQ rx fx r fs w (by simpa using hw)) ⟨.bl _,H,I,rfl,?_⟩;rw[show its.toArray.any (tO x)=its.any (tO x)by simp,QM r fs];exact q
 .obtain⟨its,r,pl,hz⟩:=I.tuple hq;refine SeqAt.in_tupleAt (tO x) pl (λw hw=>QQ rx fx r fs w (by simpa using hw)) ⟨.bl _,H,I,rfl,?_⟩;rw[show its.toArray.any (tO x)=its.any (tO x)by simp,QM r fs];exact q
theorem cR.or{f:Yh}{r r':List V->Hp->VK->Prop}(h:cR X f r)(h':cR X f r'):cR X f (λxs H Q=>r xs H Q\/r' xs H Q):=by
 intro pins s σ H xs us Q I rs q;rcases q with q|q
 .exact h pins s σ H xs us Q I rs q
 .exact h' pins s σ H xs us Q I rs q
theorem Zk0:cR X (.type "list") (λxs H Q=>∃p ys,xs=[.ref p]/\(bC X.K H p ys\/cG X.K H p ys)/\∀l,H l=Ym->Q (.ref l) (upd H l (.lst ys))):=by
 intro pins s σ H xs us Q I r h;obtain⟨p,ys,rfl,hq,q⟩:=h;obtain⟨u,rfl,rx⟩:=vals1 r;cases rx;have fin:∀(its:List Yh),Vals ys its->ys.length<=bw->∀(h':aO) (c':Nat),(∀b o',s.heap.get? b=Ya o'->h'.get? b=Ya o') ->
   h'.get? s.heap.objs.size=Ya {cls:=.type "list",dict:=Ym,data:=.seq its.toArray c',slots:=#[]}->EP X pins σ Q (.ref s.heap.objs.size) {s with heap:=h'}:=λits r' hz h' c' kp e=>
  ⟨.ref s.heap.objs.size,_,I.laid (t':=s.toks) kp (Ys _) (show gq X.prog X.w _ h' _ (.lst ys)from⟨hz,its,c',r',e⟩),rfl,q _ (I.hok.fresh (Ys _))⟩
 rcases hq with hq|hq
 .obtain⟨its,r',pl,hz⟩:=I.list hq;have hlen:=r'.length;obtain⟨o,ho,hc,n,hd⟩:=pl.isList;exact call_list_seq p (.inl rfl) ho hc hd (λh' c' kp e=>fin its r' hz h' c' kp e) (by simp only[Yn]<;>exact lC 2 2268279672881 T1 hlen hz)
 .obtain⟨its,r',pl,hz⟩:=I.tuple hq;have hlen:=r'.length;obtain⟨o,ho,hc,n,hd⟩:=pl;exact call_list_seq p (.inr rfl) ho hc hd (λh' c' kp e=>fin its r' hz h' c' kp e) (by simp only[Yn]<;>exact lC 2 2268279672881 T1 hlen hz)
theorem Zjl:cR X (.type "tuple") (λxs H Q=>∃p ys,xs=[.ref p]/\((bC X.K H p ys/\∀l,H l=Ym->Q (.ref l) (upd H l (.tup ys)))\/(cG X.K H p ys/\Q (.ref p) H))):=by
 intro pins s σ H xs us Q I r h;obtain⟨p,ys,rfl,h⟩:=h;obtain⟨u,rfl,rx⟩:=vals1 r;cases rx;rcases h with⟨hq,q⟩|⟨hq,q⟩
 .obtain⟨its,r',pl,hz⟩:=I.list hq;have hlen:=r'.length;refine call_tuple_list pl.isList (λh' kp=>?_) (by simp only[Yn]<;>exact lC 2 2268279672881 T1 hlen hz);have I1:Inv X pins σ H {s with heap:=h'}:=I.kept (t':=s.toks) kp;have I2:Inv X pins σ (upd H h'.objs.size (.tup ys)) {s with heap:=h'.push {cls:=.type "tuple",data:=.seq its.toArray}}:=
   I1.laid (t':=s.toks) (λb o e=>Yl _ e) (Ys _) (show gq X.prog X.w _ _ _ (.tup ys)from⟨hz,its,r',qW.new _ _⟩)
  exact⟨.ref h'.objs.size,_,I2,rfl,q _ (I1.hok.fresh (Ys _))⟩
 .obtain⟨its,r',pl,hz⟩:=I.tuple hq;exact call_tuple_same pl ⟨.ref p,H,I,rfl,q⟩
def xT(K:Yb)(T:String)(x:V)(H:Hp):Prop:=match x with
 | .str _=>T= "str"|.int _=>T= "int"|.ref p=>(T= "list" /\∃xs,bC K H p xs)\/(T= "tuple" /\∃o,K.lookup p=Ya o/\o.cls= .type "tuple" /\o.dict=Ym)\/
   (T= "dict" /\((∃kvs,H p=Ya (.dK kvs))\/∃kvs,H p=Ya (.dT kvs)))\/(T= "set" /\∃S n,H p=Ya (.set S n))
 |_=>False
theorem ZpO{pins:List (Y1×aM)}{σ:St}{H:Hp}{s:Yk}{T:String}{x:V}{v:Yh}(I:Inv X pins σ H s)(r:RelV x v)(ty:xT X.K T x H):
  s.TypeIs v T/\∀a,v= .ref a->∃ob,s.heap.get? a=Ya ob/\ob.dict=Ym:=by
 cases x with
 |str z=>obtain⟨t,rfl⟩:=r;cases(show T= "str" from ty);exact⟨xg s z t,λ_ e=>nomatch e⟩|int i=>obtain⟨t,rfl⟩:=r;cases(show T= "int" from ty);exact⟨Ot s i t,λ_ e=>nomatch e⟩|ref p=>
  cases r
  rcases ty with⟨rfl,xs,hq⟩|⟨rfl,o,hk,hc,hd⟩|⟨rfl,hk⟩|⟨rfl,S,n,hk⟩
  .obtain⟨its,_,pl,_⟩:=I.list hq;refine⟨pl.isList.typeIs,λa e=>?_⟩;cases e;obtain⟨o,n,e,c,hd,_⟩:=pl;exact⟨o,e,hd⟩
  .refine⟨⟨o,I.dW p o hk,hc⟩,λa e=>?_⟩;cases e;exact⟨o,I.dW _ o hk,hd⟩
  .have z:∃o,s.heap.get? p=Ya o/\o.ExactDict:=by
    rcases hk with⟨kvs,hk⟩|⟨kvs,hk⟩
    .obtain⟨_,_,_,_,o,_,_,e,ex,_⟩:=I.hok p _ hk;exact⟨o,e,ex⟩
    .obtain⟨_,_,_,_,o,_,_,e,ex,_⟩:=I.hok p _ hk;exact⟨o,e,ex⟩
   obtain⟨o,e,ex⟩:=z;refine⟨⟨o,e,ex.1⟩,λa e2=>?_⟩;cases e2;exact⟨o,e,ex.2.1⟩
  .obtain⟨o,_,_,_,e,ex,_⟩:=I.hok p _ hk;refine⟨⟨o,e,ex.1⟩,λa e2=>?_⟩;cases e2;exact⟨o,e,ex.2.1⟩
 |_=>exact jo ty
def Zwo(K:Yb)(T:String)(r:V->List V->Hp->VK->Prop)(to:TE):TE:=λσ H Q=>to σ H λx H1=>xT K T x H1/\r x [] H1 Q
def tBM(K:Yb)(T:String)(r:V->List V->Hp->VK->Prop)(to:TE)(t:TA):TE:=λσ H Q=>to σ H λx H1=>xT K T x H1/\t σ H1 λxs H2=>r x xs H2 Q
variable {o e:Expr} {es:List Expr} {to:TE} {t:TA} {name:aj} {apos cpos:aV} {T id:String} {r:V->List V->Hp->VK->Prop}
theorem ZtP(pa:PlainAttrs T)(slot:Slot T name id)(hty:typeOf (.builtin id)=pure (.type "method_descriptor"))(hm:jM X id r)(ho:PE X o to)(hbase:mH o name X.env (aG o X.env)=aG o X.env:=by rfl)(hline:(apos.endLine==cpos.line)=true:=by rfl):PE X (.Call (.Attribute o name apos) [] [] cpos) (Zwo X.K T r to):=by intro pins s σ H Q I h;refine wpAny_Call_method0_late hbase hline (aF (ho pins s σ H _ I h) λv s1 ak=>?_);obtain⟨x,H1,I1,r1,ty,q1⟩:=ak;obtain⟨h1,h2⟩:=ZpO I1 r1 ty;exact⟨T,id,pa,slot,hty,h1,h2,Qa rfl (PySem.evalArgs_none (hm pins s1 σ H1 x [] v [] Q I1 r1 .nil q1))⟩
theorem Ad(pa:PlainAttrs T)(slot:Slot T name id)(hty:typeOf (.builtin id)=pure (.type "method_descriptor"))(hm:jM X id r)(ho:PE X o to)(ha:PA X (e::es) t)(hbase:mH o name X.env (aG o X.env)=aG o X.env:=by rfl)(hfew:((b7 cpos (Yw (e::es) X.env)).all (λx=>!x.1)&&(iU cpos (iR [] X.env)).all (λx=>x.1.isSome)
   &&decide ((e::es).length+([]:List Keyword).length+(if([]:List Keyword).isEmpty then 0 else 1)<30))=true:=by rfl)(hline:(apos.endLine==cpos.line)=true:=by rfl)(hs:Yw (e::es) X.env=(false,aG e X.env)::Yw es X.env:=by rfl)(hplain:(b7 cpos (Yw es X.env)).any (·.1)=false:=by rfl):
  PE X (.Call (.Attribute o name apos) (e::es) [] cpos) (tBM X.K T r to t):=by
 intro pins s σ H Q I h;refine wpAny_Call_method_late hbase hfew hline rfl (aF (ho pins s σ H _ I h) λv s1 ak=>?_);obtain⟨x,H1,I1,r1,ty,q1⟩:=ak;obtain⟨h1,h2⟩:=ZpO I1 r1 ty;refine⟨T,id,pa,slot,hty,h1,h2,?_⟩;have hA:=ha cpos pins s1 σ H1 _ I1 q1;rw[hs]at hA ⊢;refine Qa (by show(false|| (b7 cpos (Yw es X.env)).any (·.1))=false;rw[hplain]<;>rfl) (ZX ?_);exact aF hA λus s2 ⟨vs,H2,I2,r2,q2⟩=>hm pins s2 σ H2 x vs v us Q I2 r1 r2 q2
/-xs.append(e),list.index on a module's tuple .. are jM facts of 06m -/
end
end L2
namespace L2
open PySem PySem.Spec PyProof.Rows
def JD(X:Cx)(id:String)(r:V->List V->Hp->VK->Prop):Prop:=
 ∀(pins:List (Y1×aM)) (s:Yk) (σ:St) (H:Hp) (x:V) (xs:List V) (v:Yh) (us:List Yh) (Q:VK),Inv X pins σ H s->RelV x v->Vals xs us->r x xs H Q ->
  aq (aA X.prog X.w) X.A (call (.builtin id) (v::us)) (EP X pins σ Q) X.xe s
theorem Vals.one:∀{x:V} {us:List Yh},Vals [x] us->∃u,us=[u]/\RelV x u
 |_,_,.cons r .nil=>⟨_,rfl,r⟩
theorem Vals.two:∀{x y:V} {us:List Yh},Vals [x,y] us->∃u v,us=[u,v]/\RelV x u/\RelV y v
 |_,_,_,.cons r (.cons q .nil)=>⟨_,_,rfl,r,q⟩
theorem Vals.zero:∀{us:List Yh},Vals [] us->us=[]
 |_,.nil=>rfl
variable{us:List Yh}{xs:List V}
theorem Vals.dropLast(h:Vals xs us):Vals xs.dropLast us.dropLast:=by
 induction h with
 |nil=>exact .nil|cons r t ih=>
  cases t with
  |nil=>exact .nil|cons q t'=>exact .cons r ih
theorem Vals.eraseIdx:∀{xs:List V} {us:List Yh} (i:Nat),Vals xs us->Vals (xs.eraseIdx i) (us.eraseIdx i)
 |_,_,_,.nil=>.nil|_,_,0,.cons _ t=>t|_,_,i+1,.cons r t=>.cons r (Vals.eraseIdx i t)
theorem Vals.reverse(h:Vals xs us):Vals xs.reverse us.reverse:=by
 induction h with
 |nil=>exact .nil|cons r t ih=>rw[uP,uP];exact Vals.append ih (.cons r .nil)
theorem Vals.rep(h:Vals xs us):∀k:Nat,Vals (Yq k xs).flatten (Yq k us).flatten
 |0=>.nil|k+1=>by rw[sy,sy,oM,oM];exact Vals.append h (Vals.rep h k)
theorem Zmp{α:Type}(l:List α):l.eraseIdx (l.length-1)=l.dropLast:=by
 induction l with
 |nil=>rfl|cons a r ih=>
  cases r with
  |nil=>rfl|cons b r=>
   have e:(a::b::r).length-1=((b::r).length-1)+1:=by have h1:(a::b::r).length=r.length+2:=rfl;have h2:(b::r).length=r.length+1:=rfl;exact Y4 (lE 4 0xa4c30a4c0012a3c2121b1c221a1c031 T1 h2 h1 (gZ (lB 1 687760064561 T1 h1)) (g8 _ _)) (lE 4 0x3a4c00a4c21a3c20121b1c231a1c021 T1 h2 h1 (g8 _ _) (gZ (lB 1 2694955057 T1 h2)))
   rw[e,List.eraseIdx_cons_succ,ih]
   all_goals rfl
theorem Zjx{α:Type}:∀(l:List α) (i:Nat),(l.eraseIdx i).length<=l.length
 |[],_=>Ys _|_::_,0=>vy _|_::r,i+1=>oO (Zjx r i)
theorem foldl_rep(its:List Yh):∀(k:Nat) (acc:List Yh),
  HD (λx1 x2=>x1++x2) acc.toArray (Yq k its.toArray)=(acc++(Yq k its).flatten).toArray
 |0,acc=>by simp|k+1,acc=>by
  have e:acc.toArray++its.toArray=(acc++its).toArray:=by simp
  have e2:(acc++its)++(Yq k its).flatten=acc++(Yq (k+1) its).flatten:=by rw[sy,oM,jl]
  rw[←e2,←foldl_rep its k (acc++its),←e,sy,qN]
section
variable {X:Cx} {pins:List (Y1×aM)} {σ:St} {H:Hp} {s:Yk} {l b:Y1} {xs ys zs:List V}
theorem Inv.Dd{its its':List Yh}{n:Nat}{f:Array Yh->Array Yh}{t':Nat}(I:Inv X pins σ H s)(hH:H l=Ya (.lst xs))(e:s.heap.get? l=Ya {cls:=.type "list",data:=.seq its.toArray n})(hf:f its.toArray=its'.toArray)(hv:Vals ys its')(hz:ys.length<=bw):
  Inv X pins σ (upd H l (.lst ys)) {s with heap:=s.heap.update l (xH f),toks:=t'}:=by
 have q:=PySem.IsL.update e f;rw[hf]at q;refine I.write (x:=l) (e:=l) (by rw[hH];exact trivial) (.inl rfl) (λb' u hb hu=>(sW s.heap (xH f) (cP hb)).trans hu) ⟨_,q⟩ ?_;exact⟨hz,its',_,hv,q⟩
theorem Inv.Vy{its:List Yh}{t':Nat}(I:Inv X pins σ H s)(hv:Vals ys its)(hz:ys.length<=bw):
  Inv X pins σ (upd H s.heap.objs.size (.lst ys)) {s with heap:=s.heap.push {cls:=.type "list",data:=.seq its.toArray},toks:=t'}:=
 I.laid (λ_ _ q=>Yl _ q) (Ys _) ⟨hz,its,0,hv,Y2 _ rfl⟩
theorem Inv.fresh(I:Inv X pins σ H s):H s.heap.objs.size=Ym:=I.hok.fresh (Ys _)
theorem Inv.rT(I:Inv X pins σ H s)(hH:H l=Ya (.lst xs)):xs.length<=bw/\∃(its:List Yh) (n:Nat),Vals xs its/\xs.length=its.length/\s.heap.get? l=Ya {cls:=.type "list",data:=.seq its.toArray n}:=by obtain⟨z,its,n,r,e⟩:=I.hok l _ hH;exact⟨z,its,n,r,r.length,e⟩
theorem QR{n:Nat}(h:n<=bw):zT n=false:=by unfold zT;exact decide_eq_false (by omega)
end
section
variable {X:Cx}
noncomputable def ZnU:V->List V->Hp->VK->Prop:=λx vs H Q=>∃l xs y,x= .ref l/\vs=[y]/\H l=Ya (.lst xs)/\xs.length<bw/\Q .non (upd H l (.lst (xs++[y])))
theorem QS:JD X "list.append" ZnU:=by intro pins s σ H x vs v us Q I rx rv h;obtain⟨l,xs,y,rfl,rfl,hH,hz,q⟩:=h;cases rx;obtain⟨u,rfl,ru⟩:=rv.one;obtain⟨z,its,n,r,hl,e⟩:=I.rT hH;refine pO F.slot_list_append ⟨_,e,rfl⟩ F.entry_list_append (F.args_list_append_2 _ _) (PySem.list_append l its.toArray n u (by rw[Yn];exact lC 2 2268279672881 T1 hl z)) ⟨e,?_⟩;refine⟨.non,_,I.Dd (its':=its++[u]) hH e (by simp) (r.append (.cons ru .nil)) ?_,rfl,q⟩;rw[Ye,jb];exact lB 1 6991908881 T1 hz
noncomputable def Zop:V->List V->Hp->VK->Prop:=λx vs H Q=>∃l b xs zs,x= .ref l/\vs=[.ref b]/\H l=Ya (.lst xs)/\H b=Ya (.lst zs)/\xs.length+zs.length<=bw/\Q .non (upd H l (.lst (xs++zs)))
theorem ZoG:JD X "list.extend" Zop:=by
 intro pins s σ H x vs v us Q I rx rv h;obtain⟨l,b,xs,zs,rfl,rfl,hH,hB,hz,q⟩:=h;cases rx;obtain⟨u,rfl,ru⟩:=rv.one;cases ru;obtain⟨z,its,n,r,hl,e⟩:=I.rT hH;obtain⟨z2,its2,n2,r2,hl2,e2⟩:=I.rT hB;have hsz:its.toArray.size+its2.toArray.size<=bw:=by rw[Yn,Yn];exact lE 3 0x413c0402c0132311031 T1 hl2 hl hz
 have C_:¬(!its.toArray.isEmpty&&zT (its.toArray.size+its2.toArray.size))=true:=by rw[QR hsz,xu];exact k_
 refine pO YJ ⟨_,e,rfl⟩ YH (YG _ _)
  (AutoSeq1.list_extend_list_list_0 l its.toArray n b its2.toArray n2 C_ (by rw[Yn];exact lC 2 2268279672881 T1 hl z) (by exact lC 1 0xa2c10c0210c01 T1 hsz)) ⟨e,e2,?_⟩
 refine⟨.non,_,I.Dd (its':=its++its2) hH e (by simp) (r.append r2) ?_,rfl,q⟩;rw[Ye];exact hz
noncomputable def Zwg:V->List V->Hp->VK->Prop:=λx vs H Q=>∃l xs y,x= .ref l/\vs=[]/\H l=Ya (.lst xs)/\xs[xs.length-1]?=Ya y/\Q y (upd H l (.lst xs.dropLast))
theorem Zt2:JD X "list.pop" Zwg:=by
 intro pins s σ H x vs v us Q I rx rv h;obtain⟨l,xs,y,rfl,rfl,hH,hy,q⟩:=h;cases rx;have hus:=rv.zero;subst hus;obtain⟨z,its,n,r,hl,e⟩:=I.rT hH;obtain⟨u,hu,ru⟩:=r.get hy;have hy':its.toArray[its.toArray.size-1]?=Ya u:=by show its.toArray[its.length-1]?=Ya u;rw[←PQ,←hl];exact hu
 refine pO YM ⟨_,e,rfl⟩ YL (F.args_list_pop_1 _) (MeetsSeq.list_pop_last l its.toArray n u hy' (by rw[Yn];exact lC 2 2268279672881 T1 hl z)) ⟨e,?_⟩;refine⟨y,_,I.Dd (its':=its.dropLast) hH e ?_ r.dropLast ?_,ru,q⟩
 .show its.toArray.eraseIdxIfInBounds (its.toArray.size-1)=its.dropLast.toArray;rw[Yn,Wq,Zmp]
 .rw[List.length_dropLast];exact Yj (DQ _ _) z
noncomputable def Zqq:V->List V->Hp->VK->Prop:=λx vs H Q=>∃l xs i k y,x= .ref l/\vs=[.int i]/\H l=Ya (.lst xs)/\ -(2^63)<=i/\i<2^63/\Ow i xs.length=Ya k/\xs[k]?=Ya y/\Q y (upd H l (.lst (xs.eraseIdx k)))
theorem ZpR:JD X "list.pop" Zqq:=by
 intro pins s σ H x vs v us Q I rx rv h;obtain⟨l,xs,i,k,y,rfl,rfl,hH,h1,h2,hk,hy,q⟩:=h;cases rx;obtain⟨u,rfl,ru⟩:=rv.one;obtain⟨t,rfl⟩:=ru;obtain⟨z,its,n,r,hl,e⟩:=I.rT hH;obtain⟨w,hw,mO⟩:=r.get hy;refine pO YM ⟨_,e,rfl⟩ YL (F.args_list_pop_2 _ _)
  (MeetsSeq.list_pop_at l its.toArray n i t k w (fitsIndex_both h1 h2) (by rw[Yn,←hl];exact hk) (by rw[←PQ];exact hw) (by rw[Yn];exact lC 2 2268279672881 T1 hl z)) ⟨e,?_⟩
 refine⟨y,_,I.Dd (its':=its.eraseIdx k) hH e ?_ (r.eraseIdx k) ?_,mO,q⟩
 .show its.toArray.eraseIdxIfInBounds k=(its.eraseIdx k).toArray;rw[Wq]
 .have:=Zjx xs k;exact Yj this z
def Zxv:R2:=λx y H Q=>∃l b xs zs,x= .ref l/\y= .ref b/\H l=Ya (.lst xs)/\H b=Ya (.lst zs)/\xs.length+zs.length<=bw/\∀p,H p=Ym->Q (.ref p) (upd H p (.lst (xs++zs)))
theorem Zue:aQ X (iT .Add) Zxv:=by
 intro pins s σ H x y v u Q I rx ry h;obtain⟨l,b,xs,zs,rfl,rfl,hH,hB,hz,q⟩:=h;cases rx;cases ry;obtain⟨z,its,n,r,hl,e⟩:=I.rT hH;obtain⟨z2,its2,n2,r2,hl2,e2⟩:=I.rT hB;refine PySem.P.add_list e e2 ?_ (by rw[Yn,Yn];exact lE 3 0x413c0402c0132311031 T1 hl2 hl hz);have ea:its.toArray++its2.toArray=(its++its2).toArray:=by simp
 rw[ea];exact⟨.ref _,_,I.Vy (t':=s.toks) (r.append r2) (by rw[Ye];exact hz),rfl,q _ I.fresh⟩
def Zxh:R2:=λx y H Q=>∃l k xs,x= .ref l/\y= .int k/\H l=Ya (.lst xs)/\ -(2^63)<=k/\k<2^63/\xs.length*k.toNat<=bw/\
 ∀p,H p=Ym->Q (.ref p) (upd H p (.lst (Yq k.toNat xs).flatten))
theorem len_rep{α:Type}(xs:List α)(k:Nat):(Yq k xs).flatten.length=k*xs.length:=by
 induction k with
 |zero=>simp|succ k ih=>rw[sy,oM,Ye,ih,Nat.succ_mul,kZ]
theorem ZtL:aQ X (iT .Mult) Zxh:=by
 intro pins s σ H x y v u Q I rx ry h;obtain⟨l,k,xs,rfl,rfl,hH,h1,h2,hz,q⟩:=h;cases rx;obtain⟨t,rfl⟩:=ry;obtain⟨z,its,n,r,hl,e⟩:=I.rT hH;have hlen:its.toArray.size*k.toNat<=bw:=by rw[Yn,←hl];exact hz
 have Abu:¬its.toArray.size*k.toNat>(2^63-1) / 8:=by
  have:(bw:Nat)<=(2^63-1) / 8:=by decide
  omega
 have hfit:¬(!Builtin.List.listFitsIndex k)=true:=by rw[fitsIndex_both h1 h2];exact k_
 have C_:¬zT (its.toArray.size*k.toNat)=true:=by rw[QR hlen];exact k_
 have hnew:HD (λx1 x2=>x1++x2) #[] (Yq (if its.toArray.isEmpty=true then 0 else k.toNat) its.toArray)=(Yq k.toNat its).flatten.toArray:=by
  have f0:∀m:Nat,HD (λx1 x2=>x1++x2) #[] (Yq m its.toArray)=(Yq m its).flatten.toArray:=λm=>by have:=foldl_rep its m [];rw[jF]at this;exact this
  rw[f0];cases its with
  |nil=>simp|cons a r'=>rw[if_neg (by simp)]
 refine wpAny_binaryOp_repeat_ref (T:="list") (U:="int") (by decide) ⟨_,e,rfl⟩ (λs'=>Ot s' k t) noFill_list_mul F.fills_int_mul YQ repeat_list F.slot_int_index.lookup
  (pO YQ (Ot s k t) F.entry_int_rmul (F.args_int_rmul_2 _ _) (int___rmul___int_list k t l its.toArray n)
   ⟨e,rfl,⟨_,e,rfl⟩,pO F.slot_list_mul ⟨_,e,rfl⟩ F.entry_list_mul (F.args_list_mul_2 _ _) (AutoListH.list___mul___list_int_3 l its.toArray n k t hfit Abu C_) ⟨e,?_⟩⟩)
 rw[hnew];exact⟨.ref _,_,I.Vy (t':=s.toks) (r.rep k.toNat) (by rw[len_rep,Nat.mul_comm];exact hz),rfl,q _ I.fresh⟩
end
end L2
namespace Att
open PySem PySem.W PySem.Calls PyProof.Rows
theorem ZhS{P:Params}{h:aO}:∀(ns:List Int) (vs:List Yh),WellAll P h vs (ns.map WData.int)->IntsAre vs ns:=by
 intro ns
 induction ns with
 |nil=>intro vs w;rw[sG]at w;cases w;exact .nil|cons n ns ih=>
  intro vs w;rw[Yu]at w;cases w with
  |cons a b=>
   cases a
   exact .cons _ _ (ih _ b)
theorem Zo8{l:OpenLaw}{n:Nat}(hn:l.most=Ya n){P:Params}{h:aO}{args:List WData}{vals:List Yh}(hpre:l.row.toRowW.claim.pre args=true)(hwl:WellAll P h vals args):
  ∃a vs ns,vals=[Value.ref a]/\args=[WData.list (ns.map WData.int)]/\h.get? a=Ya {cls:=.type "list",data:=.seq vs.toArray}/\IntsAre vs ns/\ns.length<=n:=by
 have hsh:WShape.hasAll [] args [.list .int]=true:=(pre_splitW hpre).1;have hc:l.pre.holds [] {args:=args}=true:=(pre_splitW hpre).2;obtain⟨d,r,rfl,h1,h2⟩:=hasAllW_cons hsh;obtain rfl:=hasAllW_nil h2;obtain⟨xs,rfl,h3⟩:=hasW_list h1;obtain⟨ns,rfl⟩:=items_int h3;have hlen:ns.length<=n:=by
  unfold OpenLaw.pre at hc;have h4:(WTm.not (.lt (.lit (.int (n:Int))) (.len (.arg 0)))).holds [] {args:=[.list (ns.map .int)]}=true:=by have h4:=(holds_andW hc).1;rw[hn]at h4;exact h4
  have h5:=condW_of h4 (w_not (w_lt w_lit (w_len_list (w_arg rfl))));rw[Yv]at h5;refine jJ λq=>?_;have q':(n:Int)<((ns.length:Nat):Int):=by exact IV.2 q
  first
   |(rw[decide_eq_true q']at h5;exact absurd h5 (by decide))
   |(simp at h5;omega)
 cases hwl with
 |cons w1 w2=>
  cases w2
  cases w1 with
  |list ho hall=>exact⟨_,_,ns,rfl,rfl,ho,ZhS ns _ hall,hlen⟩
theorem ZoR(l:OpenLaw)(args:List WData):l.row.toRowW.claim.post args (.bool true) args=true:=
 postW_of (r:=l.row.toRowW) (X:=(true==true))
  (show WShape.has [] (.bool true) .bool=true by first|rfl|decide|simp[WShape.has,WShape.arms,WShape.armsAll])
  (show(WTm.eq .res (.lit (.bool true))).value [] {args:=args,res:=Ya (.bool true),after:=args}=Ya (.bool (true==true))from w_eq_bool (w_res rfl) w_lit) rfl
theorem Aav{l:OpenLaw}{n:Nat}{q:bF}{loose:List aj}{XP:(aj->Option Yh)->aO->Prop}{YP:bx->aO->Prop}{d:DefRec}(hn:l.most=Ya n)(hdf:d.params.defaults=[])(call:∀(w:bx) (s₀ s₁:Yk) (mg mb:aj->Option Yh) (fa:Y1) (o:aM) (pm cd doc:Yh) (a:Y1) (vs:List Yh) (ns:List Int),
   Ground q loose [] XP w s₀ mg mb s₁.heap->YP w s₁.heap ->
   s₁.heap.get? fa=Ya o->o.data= .func (docDef d.name d.params d.body d.scope pm cd doc)->s₁.heap.CodeRec cd d.name->mg d.name=Ya (.ref fa) ->
   s₁.heap.get? a=Ya {cls:=.type "list",data:=.seq vs.toArray}->IntsAre vs ns->ns.length<=n->s₁.gens= #[] ->
   mJ (aA l.prog w) u6 (.call (.ref fa) ⟨[.ref a],[]⟩) (λr s'=>r= .ok (.ret (.bool true))/\OldK s₁.heap s'.heap/\s'.os=s₁.os/\sY s'.gens) s₁):
  WalkO q loose XP YP l.row.toRowW d [] (λf vs=>Ou f vs):=by
 intro w s₀ s₁ mg mb G Y fa o pm cd doc dV kV ho hd hcd hD hmg hg args vals as hpre hlay hrd hwl hlo;obtain rfl:dV= .none:=Dflts.none hD hdf;obtain rfl:kV= .none:=Dflts.noKw hD;obtain⟨a,vs,ns,rfl,rfl,hobj,hints,hlen⟩:=Zo8 hn hpre hwl;refine enter_call (uY (call w s₀ s₁ mg mb fa o pm cd doc a vs ns G Y ho (fd_plain hd) hcd hmg hobj hints hlen hg) λr s' hq=>?_);obtain⟨rfl,h2,h3,h4⟩:=hq;exact⟨.inl ⟨.bool true,.bool true,[],rfl,λ_=>rfl,.bool true,ZoR l _,λ_=>⟨List.Pairwise.nil,λ_ hm=>(nomatch hm)⟩⟩,h2,h3,h4⟩
end Att
namespace L2
open PySem PySem.Spec PyProof.Rows
theorem Zjt:∀{vs:List Yh} {ns:List Int},IntsAre vs ns->Vals (ns.map V.int) vs
 |_,_,.nil=>.nil|_,_,.cons n t h=>.cons ⟨t,rfl⟩ (Zjt h)
def Only(H:Hp):Prop:=∀b,H b=Ym\/∃o xs,H b=Ya (.fJ o (.lst xs))
theorem Zqm{P:bF}{w:bx}{K:Yb}{mg mb:aj->Option Yh}{CX:oY}{k:Nat}{fa a:Y1}{fd:jZ}{x:aj}{sp:Sp}{s₁:Yk}{vs:List Yh}{ns:List Int}(KX:K.In s₁.heap)(hns:s₁.heap.Ns Yy mg)(hb:s₁.heap.Ns Oo mb)(hbb:∀x:aj,x≠ "__name__" ->mb x=jH x)(hlim:s₁.heap.NoLimit)(hg:s₁.gens= #[])(ha:s₁.heap.get? a=Ya {cls:=.type "list",data:=.seq vs.toArray})(hi:IntsAre vs ns)(hl:ns.length<=bw)(hr:dB k u6)(F:∀base:aO,K.In base->base.Ns Yy mg->jr P w K mg base CX k fa fd [x] sp)(hbind:∀(s:Yk) (u:Yh),zE s fd ⟨[u],[]⟩ [(x,u)])(hsp:∀H:Hp,Only H->bC K H a (ns.map V.int)->sp [.ref a] H (λv _=>v= .bl true) λ_ _ _=>False)(QT:∀H e s',CX [] H s₁ (λ_ _ _=>False) e s'->False):
  mJ (aA P w) u6 (.call (.ref fa) ⟨[.ref a],[]⟩) (λr s'=>r= .ok (.ret (.bool true))/\OldK s₁.heap s'.heap/\s'.os=s₁.os/\sY s'.gens) s₁:=by
 have rv:=Zjt hi;have lenV:=hi.length;have core:∀H:Hp,Only H->bC K H a (ns.map V.int)->gK P w H s₁.heap->(∀b,H b≠Ym->b=a)->(H a≠Ym->K.lookup a=Ym) ->
   mJ (aA P w) u6 (.call (.ref fa) ⟨[.ref a],[]⟩) (λr s'=>r= .ok (.ret (.bool true))/\OldK s₁.heap s'.heap/\s'.os=s₁.os/\sY s'.gens) s₁:=by
  intro H hO hS hok hA hK;have Vj:∀{b:Y1} {o:aM},s₁.heap.get? b=Ya o->H b=Ym->(tG s₁.heap H).get? b=Ya o:=λe n=>Zp9 e n;have Es:∀{b:Y1} {o:aM} {es:Array DictEntry} {ep:Nat},s₁.heap.get? b=Ya o->o.data= .dict es ep->H b=Ym:=λ{b o es ep} e d=>by
   cases q:H b with
   |none=>rfl|some u=>have e':b=a:=hA b (by rw[q];simp);subst e';rw[ha]at e;cases e;have d':Data.seq vs.toArray _=Data.dict es ep:=d;cases d'
  have JF:∀{b:Y1} {m:aj->Option Yh},s₁.heap.Ns b m->(tG s₁.heap H).Ns b m:=λ{b m} ⟨o,es,ep,e,d,r⟩=>⟨o,es,ep,Vj e (Es e d),d,r⟩;have hKb:K.In (tG s₁.heap H):=λb o e=>Vj (KX b o e) (by
   cases q:H b with
   |none=>rfl|some u=>have e':b=a:=hA b (by rw[q];simp);subst e';rw[hK (by rw[q];simp)]at e;cases e)
  have hM:Mod K mg (tG s₁.heap H):=⟨hKb,JF hns,⟨mb,JF hb,hbb⟩,let⟨mc,h1,h2⟩:=hlim;⟨mc,JF h1,h2⟩⟩;have e0:qY P w K mg (tG s₁.heap H) u6 [] s₁ H:=⟨rfl,hM,λb o e=>ZsS e,jK (Zot _ _),trivial,λb hb=>absurd (show b∈([]:List Y1)from hb) (by simp),hok,.of_eq hg⟩;refine uY ((F _ hKb (JF hns)).run u6 [] s₁ H ⟨[.ref a],[]⟩ [.ref a] [.ref a] _ _ hr e0 (hbind s₁ (.ref a)) (.cons rfl .nil) (hsp H hO hS)) λr s' h=>?_;cases r with
  |error e=>exact(QT H e s' h).elim|ok fl=>
   cases fl with
   |next=>exact jo h|brk=>exact jo h|cont=>exact jo h|ret u=>
    obtain⟨v,H',os,bare,un,hok',r',q⟩:=h;have q':v= .bl true:=q;subst q';obtain rfl:u=Value.bool true:=r';refine⟨rfl,OldK.of_keep λb o e=>?_,os,bare⟩;cases q:H b with
    |none=>exact un.keep b o e q (by intro z;exact absurd (show b∈([]:List Y1)from z) (by simp)) (by simp)|some u=>
     rcases hO b with z|⟨ob,xs,z⟩
     .rw[q]at z;cases z
     .have z2:=un.ni b ob _ z;obtain⟨e1,_⟩:=hok b _ z;obtain⟨e2,_⟩:=hok' b _ z2;rw[e]at e1;cases e1;exact e2
 cases hk:K.lookup a with
 |some o=>have e:=KX a o hk;rw[ha]at e;cases e;refine core (λ_=>Ym) (λ_=>.inl rfl) (.inr ⟨_,vs.toArray,_,hk,rfl,rfl,rfl,by rw[Yn,lenV];exact hl,by simpa using rv⟩) (λb u z=>by have z':(Ym:Option HO)=Ya u:=z;cases z') (λb z=>absurd rfl z) λz=>absurd rfl z|none=>
  refine core (λb=>if b=a then Ya (.fJ {cls:=.type "list",data:=.seq vs.toArray} (.lst (ns.map V.int)))else Ym) (λb=>?_) (.inl (.inr ⟨{cls:=.type "list",data:=.seq vs.toArray},if_pos rfl⟩)) (λb u z=>?_) (λb z=>?_) λ_=>hk
  .by_cases hb:b=a
   .exact .inr ⟨_,_,if_pos hb⟩
   .exact .inl (if_neg hb)
  .by_cases hb:b=a
   .have z':=(if_pos hb).symm.trans z;cases z';subst hb;exact⟨ha,by rw[Yv];exact hl,vs,_,rv,ha⟩
   .have z':=(if_neg hb).symm.trans z;cases z'
  .by_cases hb:b=a
   .exact hb
   .exact absurd (if_neg hb) z
end L2
namespace L2
open PySem PySem.Spec PyProof.Rows
theorem Zok{l:PySem.W.OpenLaw}{n k:Nat}{q:bF}{loose:List aj}{XP:(aj->Option Yh)->aO->Prop}{YP:bx->aO->Prop}{d:DefRec}{K:Params->Yb}{CX:bx->oY}{sp:bx->Sp}{x:aj}(hn:l.most=Ya n)(hn2:n<=bw)(hdf:d.params.defaults=[])(hr:dB k u6)(hY:∀(w:bx) (h:aO),YP w h->(K w.params).In h)(F:∀(w:bx) (mg:aj->Option Yh) (fa:Y1) (h:aO),(K w.params).In h->h.Ns Yy mg->mg d.name=Ya (.ref fa) ->
   ∃fd:jZ,(∀(s:Yk) (u:Yh),zE s fd ⟨[u],[]⟩ [(x,u)])/\
    ∀base:aO,(K w.params).In base->base.Ns Yy mg->jr l.prog w (K w.params) mg base (CX w) k fa fd [x] (sp w))(hsp:∀(w:bx) (H:Hp) (a:Y1) (ns:List Int),ns.length<=n->Only H->bC (K w.params) H a (ns.map V.int)->sp w [.ref a] H (λv _=>v= .bl true) λ_ _ _=>False)(QT:∀(w:bx) (H:Hp) (s:Yk) (e:Yh) (s':Yk),CX w [] H s (λ_ _ _=>False) e s'->False):
  Wn q loose XP YP l.row.toRowW d [] (λf vs=>Ou f vs):=by
 refine Att.Aav hn hdf λw s₀ s₁ mg mb fa o pm cd doc a vs ns G Y ho hd hcd hmg hobj hints hlen hg=>?_;have KX:=hY w _ Y;obtain⟨fd,hb,hF⟩:=F w mg fa _ KX G.T.g hmg;exact Zqm KX G.T.g G.T.b G.T.builtins G.T.nolimit hg hobj hints (Yj hlen hn2) hr hF hb (λH hO hS=>hsp w H a ns hlen hO hS) λH e s'=>QT w H s₁ e s'
end L2
/-THE LAST THEOREM (shape;LID,My.*are AdP):
  My.Adr:a structure of the addresses that your layer names (classes,functions);My.Txt K t:a structure (Prop) of the equations over K;
  My.Aa7:{K} {implicit addresses ..} (e1:nsIn K Yy "law" =Ya (Ya (.ref f))) (e2:K.lookup f=Ya ⟨oc,od,.func (fnOf "law" "law" params body scope dV kV doc pm an cdv ct),sl⟩) (e3:codeIn K cdv "law" =true) ..:∃t,My.Txt K t
set_option maxRecDepth 100000 in
set_option maxHeartbeats 0 in
theorem PySem.Challenge.cw_LID_holds : PySem.Challenge.rw_LID.Holds := by
 w_on;o_law;k_head;(case hw=>w_witness2)
 k_fill
 refine L2.Zok (l:=PySem.Challenge.rw_LID) (n:=63) (k:=40) (x:="script") (CX:=λw=>..) (sp:=λ_=>My.sp_law) rfl (by decide) rfl ⟨rfl,by decide,by decide⟩ (λw h Y=>PySem.W.kIn_of Y) ?F ?S ?C
 case F=>
  intro w mg fa h KX G hmg;have T:∃t,My.Txt (L2.KOf KX) t:=by
   dsimp only[L2.KOf]                          --K must stand as «<heap const>w.params» for k_is;refine' My.Aa7 ?e1 ?e2 ?e3 ..
   (case e1=>PySem.W.k_is)                    --in the order:a name->its address->its object->its parts
   (case e2=>PySem.W.k_is)
   ..
  obtain⟨t,T⟩:=T;have e0:=hmg.symm.trans (Wo KX G T.law);cases e0                                       --fa is the law's own address;exact⟨_,λs u=>.of_eq rfl,λbase kb nb=>My.Aa8 T kb nb⟩     --if «.of_eq rfl» comes too early:refine'⟨_,?b,λbase kb nb=>My.Aa8 T kb nb⟩;exactλs u=>.of_eq rfl
 case S=>exactλw H a ns hl hO hS=>..
 case C=>exact ..
(the tactic k_is has no namespace:write k_is) -/
namespace L2
open PySem PySem.Spec PyProof.Rows
noncomputable def cV(s:Yer):Arguments:=match s with
 | .FunctionDef _ a _ _ _ _ _ _ _ _=>a|_=>{posonlyargs:=[],args:=[],vararg:=Ym,kwonlyargs:=[],kw_defaults:=[],kwarg:=Ym,defaults:=[]}
noncomputable def cM(s:Yer):List Yer:=match s with
 | .FunctionDef _ _ b _ _ _ _ _ _ _=>b|_=>[]
noncomputable def Zk(s:Yer):Scope:=match s with
 | .FunctionDef _ _ _ _ _ _ sc _ _ _=>sc|_=>{kind:=.function,names:=[],isGenerator:=false,isCoroutine:=false}
noncomputable abbrev lH:oY:=λ_ _ _ _ _ _=>False
noncomputable abbrev E0:XK:=λ_ _ _=>False
theorem Zs7{X:Cx}:Er lH X E0:=λ_ _ _ _ _ _ _ h=>h.elim
structure tQ(K:Yb)(x qual:aj)(st:Yer)(f:Y1)(fd:jZ):Prop where
 ex:∃(oc:Yh) (od:Option Y1) (dV kV doc pm:Yh) (an:Option Y1) (cdv ct:Yh) (osl:Array (Option Yh)),
  fd=qL x qual (cV st) (cM st) (Zk st) dV kV doc pm an cdv ct/\K.lookup f=Ya ⟨oc,od,.func fd,osl⟩/\Dh K cdv qual=true
 kp:su K (.ref f)=true
section
variable {P:bF} {w:bx} {K:Yb} {mg:aj->Option Yh} {base:aO}
theorem tQ.ok{x qual:aj}{st:Yer}{f:Y1}{fd:jZ}{N ps:List aj}{k:Nat}{sp:Sp}(F:tQ K x qual st f fd)(S:dM N ps (Zk st))(len:∀vs H Q E,sp vs H Q E->vs.length=ps.length)(hbody:∀(cdv:Yh) (A:bK) (outer:List eY) (s:Yk) (H:Hp) (vs:List V) (Q:VK) (E:XK),dB k (A.deeper (oR qual (Zk st) s.heap.objs.size f cdv))->sp vs H Q E ->
   ∃t,jL (tL lH P w K mg base N qual (Zk st) f cdv A outer s H E).xP (cM st) t/\t {nx:=λ_ H'=>Q .non H',rt:=Q} (start N vs) H):jr P w K mg base lH (k+1) f fd ps sp:=by
 obtain⟨oc,od,dV,kV,doc,pm,an,cdv,ct,osl,rfl,lk,hcd⟩:=F.ex;refine Zvt lk hcd S len λA outer s H vs Q E hr hsp=>?_;obtain⟨t,h,q⟩:=hbody cdv A outer s H vs Q E hr hsp;exact⟨t,h.xP,q⟩
theorem tQ.binds{x qual:aj}{st:Yer}{f:Y1}{fd:jZ}{ps:List aj}(F:tQ K x qual st f fd)(h:∀(dV kV doc pm:Yh) (an:Option Y1) (cdv ct:Yh) (us:List Yh),us.length=ps.length->bindArgs (qL x qual (cV st) (cM st) (Zk st) dV kV doc pm an cdv ct) ⟨us,[]⟩=pure (ps.zip us)):Binds K fd ps []:=by obtain⟨oc,od,dV,kV,doc,pm,an,cdv,ct,osl,rfl,lk,hcd⟩:=F.ex;exact .all (h dV kV doc pm an cdv ct)
theorem ZqS{x qual:aj}{st:Yer}{f:Y1}{oc:Yh}{od an:Option Y1}{osl:Array (Option Yh)}{dV kV doc pm cdv ct:Yh}(l:K.lookup f=Ya ⟨oc,od,.func (qL x qual (cV st) (cM st) (Zk st) dV kV doc pm an cdv ct),osl⟩)(c:Dh K cdv qual=true)(k:su K (.ref f)=true):tQ K x qual st f (qL x qual (cV st) (cM st) (Zk st) dV kV doc pm an cdv ct):=⟨⟨oc,od,dV,kV,doc,pm,an,cdv,ct,osl,rfl,l,c⟩,k⟩
end
def vH(H H':Hp):Prop:=∀b o,H b=Ya o->H' b=Ya o
theorem vH.trans{H H1 H2:Hp}(a:vH H H1)(b:vH H1 H2):vH H H2:=λc o h=>b c o (a c o h)
theorem vH.free{H H':Hp}(e:vH H H'){l:Y1}(h:H' l=Option.none):H l=Option.none:=by
 cases q:H l with
 |none=>rfl|some o=>rw[e l o q]at h;cases h
theorem vH.seq{K:Yb}{H H':Hp}{a:Y1}{xs:List V}(e:vH H H')(h:bC K H a xs):bC K H' a xs:=by
 rcases h with(h|⟨o,h⟩)|h
 .exact .inl (.inl (e _ _ h))
 .exact .inl (.inr ⟨o,e _ _ h⟩)
 .exact .inr h
end L2
namespace L2
open PySem PySem.Spec PyProof.Rows
section
variable {κ:Type} [DecidableEq κ]
noncomputable def lJ(kvs:List (κ×V))(k:κ):Option V:=(kvs.find? λkv=>decide (kv.1=k)).map (·.2)
noncomputable def putK(kvs:List (κ×V))(k:κ)(v:V):List (κ×V):=if(kvs.any λkv=>decide (kv.1=k))=true then kvs.map (λkv=>if kv.1=k then(kv.1,v)else kv)else kvs++[(k,v)]
theorem Zp6{k:κ}:lJ ([]:List (κ×V)) k=Ym:=rfl
theorem JG{p:κ×V}{r:List (κ×V)}{k:κ}(e:p.1=k):lJ (p::r) k=Ya p.2:=by simp[lJ,zr,e]
theorem JH{p:κ×V}{r:List (κ×V)}{k:κ}(e:¬p.1=k):lJ (p::r) k=lJ r k:=by simp[lJ,zr,e]
theorem Zlq(k:κ):∀kvs:List (κ×V),(kvs.any λkv=>decide (kv.1=k))=(lJ kvs k).isSome
 |[]=>rfl|p::r=>by
  rw[kW];by_cases e:p.1=k
  .simp only[JG e,decide_eq_true e,Bool.true_or,Option.isSome_some]
  .rw[JH e,decide_eq_false e,Xr];exact Zlq k r
theorem nA.AaR{o:Option V}{u:Option Yh}(r:nA o u):o.isSome=u.isSome:=by
 cases o with
 |none=>cases u with
  |none=>rfl|some _=>exact(show False from r).elim
 |some _=>cases u with
  |none=>exact(show False from r).elim|some _=>rfl
theorem nA.getD{o:Option V}{u:Option Yh}{d:V}{d':Yh}(r:nA o u)(rd:RelV d d'):RelV (o.getD d) (u.getD d'):=by
 cases o with
 |none=>cases u with
  |none=>exact rd|some _=>exact(show False from r).elim
 |some _=>cases u with
  |none=>exact(show False from r).elim|some _=>exact r
theorem KV.val{kvs:List (κ×V)}{vs:List (κ×Yh)}(r:KV kvs vs)(k:κ):nA (lJ kvs k) (zF vs k):=by
 unfold KV at r
 induction r with
 |nil=>exact True.intro|@cons p q ps qs h t ih=>
  obtain⟨h1,h2⟩:=h;by_cases e:p.1=k
  .have e':q.1=k:=h1.symm.trans e;have b:zF (q::qs) k=Ya q.2:=by simp[zF,zr,e']
   rw[JG e,b];exact h2
  .have e':¬q.1=k:=λz=>e (h1.trans z);have b:zF (q::qs) k=zF qs k:=by simp[zF,zr,e']
   rw[JH e,b];exact ih
theorem KV.any{kvs:List (κ×V)}{vs:List (κ×Yh)}(r:KV kvs vs)(k:κ):(kvs.any λkv=>decide (kv.1=k))=vs.any λkv=>decide (kv.1=k):=by
 unfold KV at r
 induction r with
 |nil=>rfl|cons h t ih=>rw[kW,kW,ih,h.1]
theorem KV.repl{kvs:List (κ×V)}{vs:List (κ×Yh)}(r:KV kvs vs)(k:κ){y:V}{u:Yh}(ry:RelV y u):
  KV (kvs.map λkv=>if kv.1=k then(kv.1,y)else kv) (vs.map λkv=>if kv.1=k then(kv.1,u)else kv):=by
 unfold KV at r ⊢
 induction r with
 |nil=>exact .nil|@cons p q ps qs h t ih=>
  rw[Yu,Yu];refine .cons ?_ ih;obtain⟨h1,h2⟩:=h;by_cases e:p.1=k
  .rw[if_pos e,if_pos (h1.symm.trans e)];exact⟨h1,ry⟩
  .rw[if_neg e,if_neg (λz=>e (h1.trans z))];exact⟨h1,h2⟩
theorem KV.put{kvs:List (κ×V)}{vs:List (κ×Yh)}(r:KV kvs vs)(k:κ){y:V}{u:Yh}(ry:RelV y u):KV (putK kvs k y) (stored vs k u):=by
 unfold putK stored;rw[r.any k];by_cases e:(vs.any λkv=>decide (kv.1=k))=true
 .rw[if_pos e,if_pos e];exact r.repl k ry
 .rw[if_neg e,if_neg e];exact Paired.snoc r ⟨rfl,ry⟩
theorem KV.length{kvs:List (κ×V)}{vs:List (κ×Yh)}(r:KV kvs vs):kvs.length=vs.length:=Ymj r
end
noncomputable abbrev KT(H:Hp):List (List Key×V)->List (List Key×Y1×Yh)->Prop:=Paired λp q=>p.1=q.1/\H q.2.1=Ya (.tup (p.1.map kV))/\RelV p.2 q.2.2
variable{xs:List (List Key×Y1×Yh)}{kvs:List (List Key×V)}{H:Hp}
theorem KT.val(r:KT H kvs xs)(k:List Key):nA (lJ kvs k) ((vm xs k).map (·.2)):=by
 induction r with
 |nil=>exact True.intro|@cons p q ps qs h t ih=>
  obtain⟨h1,_,h2⟩:=h;by_cases e:p.1=k
  .have e':q.1=k:=h1.symm.trans e;have b:vm (q::qs) k=Ya q.2:=by simp[vm,zr,e']
   rw[JG e,b];exact h2
  .have e':¬q.1=k:=λz=>e (h1.trans z);have b:vm (q::qs) k=vm qs k:=by simp[vm,zr,e']
   rw[JH e,b];exact ih
theorem KT.repl(r:KT H kvs xs)(k:List Key){y:V}{u:Yh}(ry:RelV y u):
  KT H (kvs.map λkv=>if kv.1=k then(kv.1,y)else kv) (xs.map (putAt k u)):=by
 induction r with
 |nil=>exact .nil|@cons p q ps qs h t ih=>
  rw[Yu,Yu];refine .cons ?_ ih;obtain⟨h1,h2,h3⟩:=h;unfold putAt;by_cases e:p.1=k
  .rw[if_pos e,if_pos (h1.symm.trans e)];exact⟨h1,h2,ry⟩
  .rw[if_neg e,if_neg (λz=>e (h1.trans z))];exact⟨h1,h2,h3⟩
theorem KT.put(r:KT H kvs xs)(k:List Key){b:Y1}{y:V}{u:Yh}(hb:H b=Ya (.tup (k.map kV)))(ry:RelV y u):
  KT H (putK kvs k y) (storedH xs k b u):=by
 have e:(kvs.any λkv=>decide (kv.1=k))=(vm xs k).isSome:=by rw[Zlq,(r.val k).AaR,Option.isSome_map]
 unfold putK storedH;rw[e];by_cases q:(vm xs k).isSome=true
 .rw[if_pos q,if_pos q];exact r.repl k ry
 .rw[if_neg q,if_neg q];exact Paired.snoc r ⟨rfl,hb,ry⟩
theorem KT.keeps{H':Hp}(r:KT H kvs xs)(ht:∀b ys,H b=Ya (.tup ys)->H' b=Ya (.tup ys)):KT H' kvs xs:=Paired.MK r λ_ _ z=>⟨z.1,ht _ _ z.2.1,z.2.2⟩
def JK(H:Hp)(a:Y1)(y:V)(r:Option V):Prop:=(∃kvs k,Rd H a (.dK kvs)/\y=kV k/\r=lJ kvs k)\/∃kvs k b,Rd H a (.dT kvs)/\y= .ref b/\H b=Ya (.tup (k.map kV))/\r=lJ kvs k
def JL(H:Hp)(a:Y1)(y v:V)(H':Hp):Prop:=
 (∃kvs k,H a=Ya (.dK kvs)/\y=kV k/\kvs.length<bw/\H'=upd H a (.dK (putK kvs k v)))\/
 ∃kvs k b,H a=Ya (.dT kvs)/\y= .ref b/\H b=Ya (.tup (k.map kV))/\kvs.length<bw/\H'=upd H a (.dT (putK kvs k v))
theorem JK.k{H:Hp}{a:Y1}{kvs:List (Key×V)}{k:Key}(e:H a=Ya (.dK kvs)):JK H a (kV k) (lJ kvs k):=.inl ⟨kvs,k,.inl e,rfl,rfl⟩
theorem JK.t{a b:Y1}{k:List Key}(e:H a=Ya (.dT kvs))(eb:H b=Ya (.tup (k.map kV))):JK H a (.ref b) (lJ kvs k):=.inr ⟨kvs,k,b,.inl e,rfl,eb,rfl⟩
theorem JL.k{H:Hp}{a:Y1}{kvs:List (Key×V)}{k:Key}{v:V}(e:H a=Ya (.dK kvs))(hl:kvs.length<bw):JL H a (kV k) v (upd H a (.dK (putK kvs k v))):=.inl ⟨kvs,k,e,rfl,hl,rfl⟩
theorem JL.t{a b:Y1}{k:List Key}{v:V}(e:H a=Ya (.dT kvs))(eb:H b=Ya (.tup (k.map kV)))(hl:kvs.length<bw):
  JL H a (.ref b) v (upd H a (.dT (putK kvs k v))):=.inr ⟨kvs,k,b,e,rfl,eb,hl,rfl⟩
def JM(i:Expr):Prop:=∀ov iv,HX i false ov iv=operate [ov,iv] (pP ov iv)
theorem ZsG{prog:bF}{w:bx}{A:bK}{E:Yh->Yk->Prop}{s:Yk}{env:eY}{value slice:Expr}{pos:aV}{T id:String}{Q:Yh->Yk->Prop}(hl:typeLookup (.type T) "__getitem__" =pure (Ya (.builtin id)))(hs:JM slice)(h:aq (aA prog w) A (aG value env) (λo s₁=>aq (aA prog w) A (aG slice env) (λi s₂=>s₂.TypeIs o T/\aq (aA prog w) A (pP o i) Q E s₂) E s₁) E s):
  aq (aA prog w) A (aG (.Subscript value slice pos) env) Q E s:=by
 refine Ph (jz h (λo s₁ h₁=>jz h₁ (λi s₂ h₂=>?_) λ_ _ x=>x) λ_ _ x=>x);obtain⟨hT,h₂⟩:=h₂;unfold Pg;refine Yg ?_;rw[getitemInPython_of_ne hT.not_modules];refine Yg (Oa hT hl ?_);have fin:aq (aA prog w) A (HX slice false o i) (λr s₃=>aq (aA prog w) A (letTemporaryGo value o r>>=λ_=>pure r) Q E s₃) E s₂:=by rw[hs o i];exact wpAny_operating (jz h₂ (λr s₃ h₃=>Yg (wpAny_letTemporaryGo (Yt h₃))) λ_ _ x=>x)
 first
  |exact Yt (Yg fin)
  |exact Yg (Yt (Yg fin))
  |exact Yg fin
structure M1(X:Cx)(o:Expr)(m:aj)(apos:aV)(e:Expr)(cpos:aV):Prop where
 base:mH o m X.env (aG o X.env)=aG o X.env
 few:((b7 cpos (Yw [e] X.env)).all (λx=>!x.1)&&(iU cpos (iR [] X.env)).all (λx=>x.1.isSome)
  &&decide (([e]:List Expr).length+([]:List Keyword).length+(if([]:List Keyword).isEmpty then 0 else 1)<30))=true
 line:(apos.endLine==cpos.line)=true
 trees:b7 cpos (Yw [e] X.env)=[(false,aG e X.env)]
structure M2(X:Cx)(o:Expr)(m:aj)(apos:aV)(e f:Expr)(cpos:aV):Prop where
 base:mH o m X.env (aG o X.env)=aG o X.env
 few:((b7 cpos (Yw [e,f] X.env)).all (λx=>!x.1)&&(iU cpos (iR [] X.env)).all (λx=>x.1.isSome)
  &&decide (([e,f]:List Expr).length+([]:List Keyword).length+(if([]:List Keyword).isEmpty then 0 else 1)<30))=true
 line:(apos.endLine==cpos.line)=true
 trees:b7 cpos (Yw [e,f] X.env)=[(false,aG e X.env),(false,aG f X.env)]
end L2
namespace L3
open PySem
variable{env:bL}{M:Store}{hi lo:Option Int}{T:nC}{it:fV}
noncomputable section
inductive D where
 |non|bl (b:Bool)|int (i:Int)|str (x:List Nat)|tup (ds:List D)|aZ (ds:List D)|ref (n:Nat)
 deriving Inhabited
noncomputable abbrev iC:=Sum Int (List Nat)
inductive MO where
 |lst (xs:List D)|dct (kvs:List (iC×D))|cL (kvs:List (iC×D))|ins (c:List Nat) (fs:List (List Nat×D))
 deriving Inhabited
noncomputable abbrev Store:=List MO
structure X3 where
 cls:List Nat
 arg:D
inductive R3(α:Type)where
 |ok (a:α) (M:Store)|exc (x:X3) (M:Store)|bad
@[simp] noncomputable def R3.bind{α β:Type}(r:R3 α)(k:α->Store->R3 β):R3 β:=match r with
 | .ok a M=>k a M|.exc x M=>.exc x M|.bad=>.bad
theorem R3.AaX{α β:Type}(a:α)(M:Store)(k:α->Store->R3 β):(R3.ok a M).bind k=k a M:=rfl
theorem ft{C:Prop}(h:false=true):C:=Bool.noConfusion h
theorem je{α:Type}{C:Prop}{k:α}(h:Ym=Ya k):C:=by cases h
noncomputable def dD:Nat->D->Bool
 |_,.non=>true|_,.bl _=>true|_,.int _=>true|_,.str _=>true
 |n+1,.tup ds=>ds.all (dD n)|_,_=>false
noncomputable abbrev DEEP:Nat:=60
mutual
noncomputable def dN:D->D->Bool
 | .non,.non=>true|.bl a,.bl b=>a==b|.int a,.int b=>a==b|.str a,.str b=>a==b
 | .tup a,.tup b=>iW a b|.bl a,.int b=>(if a then 1 else 0)==b|.int a,.bl b=>a==(if b then 1 else 0)|_,_=>false
noncomputable def iW:List D->List D->Bool
 |[],[]=>true|a::x,b::y=>dN a b&&iW x y|_,_=>false
end
theorem Zs5(a b:List Nat):dN (.str a) (.str b)=(a==b):=rfl
theorem Ztd(a b:List D):dN (.tup a) (.tup b)=iW a b:=rfl
theorem ZtF:iW [] []=true:=rfl
theorem QV(a b:D)(x y:List D):iW (a::x) (b::y)=(dN a b&&iW x y):=rfl
mutual
noncomputable def below(n:Nat):D->Bool
 | .tup ds=>bT n ds|.aZ ds=>bT n ds|.ref k=>k<n|.non=>true| .bl _=>true| .int _=>true| .str _=>true
noncomputable def bT(n:Nat):List D->Bool
 |[]=>true|d::ds=>below n d&&bT n ds
end
mutual
noncomputable def same:D->D->Bool
 | .non,.non=>true|.bl a,.bl b=>a==b|.int a,.int b=>a==b|.str a,.str b=>a==b
 | .tup a,.tup b=>Ae a b|.aZ a,.aZ b=>Ae a b|.ref a,.ref b=>a==b|_,_=>false
noncomputable def Ae:List D->List D->Bool
 |[],[]=>true|a::x,b::y=>same a b&&Ae x y|_,_=>false
end
mutual
theorem Zn2:∀{a b:D},same a b=true->a=b
 | .non,b,h=>by cases b<;>first|exact rfl|exact ft h
 | .bl a,b,h=>by cases b<;>first|exact congrArg D.bl (beq_iff_eq.mp h)|exact ft h
 | .int a,b,h=>by cases b<;>first|exact congrArg D.int (beq_iff_eq.mp h)|exact ft h
 | .str a,b,h=>by cases b<;>first|exact congrArg D.str (beq_iff_eq.mp h)|exact ft h
 | .tup a,b,h=>by cases b<;>first|exact congrArg D.tup (QW h)|exact ft h
 | .aZ a,b,h=>by cases b<;>first|exact congrArg D.aZ (QW h)|exact ft h
 | .ref a,b,h=>by cases b<;>first|exact congrArg D.ref (beq_iff_eq.mp h)|exact ft h
theorem QW:∀{x y:List D},Ae x y=true->x=y
 |[],y,h=>by cases y<;>first|exact rfl|exact ft h
 |a::x,y,h=>by
  cases y with
  |nil=>exact ft h|cons b y=>exact have w:=vz.mp (h:(same a b&&Ae x y)=true);congr (congrArg _ (Zn2 w.1)) (QW w.2)
end
mutual
theorem Zno:∀(a:D),same a a=true
 | .non=>rfl|.bl a=>beq_self_eq_true a|.int a=>beq_self_eq_true a|.str a=>beq_self_eq_true a
 | .tup a=>QX a|.aZ a=>QX a|.ref a=>beq_self_eq_true a
theorem QX:∀(x:List D),Ae x x=true
 |[]=>rfl|a::x=>vz.mpr ⟨Zno a,QX x⟩
end
theorem same_iff{a b:D}:same a b=true↔a=b:=⟨Zn2,λh=>h▸Zno a⟩
noncomputable instance:DecidableEq D:=λa b=>decidable_of_iff (same a b=true) same_iff
noncomputable instance:DecidableEq MO:=λa b=>match a,b with
 | .lst x,.lst y=>if h:x=y then isTrue (by rw[h])else isFalse (by intro e;cases e;exact h rfl)|.dct x,.dct y=>if h:x=y then isTrue (by rw[h])else isFalse (by intro e;cases e;exact h rfl)|.cL x,.cL y=>if h:x=y then isTrue (by rw[h])else isFalse (by intro e;cases e;exact h rfl)|.ins c x,.ins d y=>if h:c=d/\x=y then isTrue (by rw[h.1,h.2])else isFalse (by intro e;cases e;exact h ⟨rfl,rfl⟩)
 | .ins _ _,.lst _=>isFalse (by intro e;cases e)|.ins _ _,.dct _=>isFalse (by intro e;cases e)|.ins _ _,.cL _=>isFalse (by intro e;cases e)|.lst _,.ins _ _=>isFalse (by intro e;cases e)
 | .dct _,.ins _ _=>isFalse (by intro e;cases e)|.cL _,.ins _ _=>isFalse (by intro e;cases e)|.lst _,.dct _=>isFalse (by intro e;cases e)|.lst _,.cL _=>isFalse (by intro e;cases e)
 | .dct _,.lst _=>isFalse (by intro e;cases e)|.dct _,.cL _=>isFalse (by intro e;cases e)|.cL _,.lst _=>isFalse (by intro e;cases e)|.cL _,.dct _=>isFalse (by intro e;cases e)
@[simp] noncomputable abbrev SZ:Nat:=1000000
noncomputable abbrev bL:=List (Option D)
noncomputable abbrev E3:=bL->Store->R3 D
noncomputable abbrev d9:=bL->Store->R3 (List D)
noncomputable abbrev F3:=List D->Store->R3 D
inductive O3 where
 |nx (env:bL) (M:Store)|rt (d:D) (M:Store)|bk (env:bL) (M:Store)|ct (env:bL) (M:Store)|exc (x:X3) (M:Store)|bad
noncomputable abbrev S3:=bL->Store->O3
@[simp] noncomputable def Za(i:Nat):E3:=λenv M=>match env[i]? with
 |some (Ya d)=>.ok d M|_=>.bad
@[simp] noncomputable def eC(d:D):E3:=λ_ M=>.ok d M
@[simp] noncomputable def e1(op:D->Store->R3 D)(f:E3):E3:=λenv M=>(f env M).bind op
@[simp] noncomputable def e2(op:D->D->Store->R3 D)(f g:E3):E3:=λenv M=>(f env M).bind λa M1=>(g env M1).bind λb M2=>op a b M2
@[simp] noncomputable def Zf:d9:=λ_ M=>.ok [] M
@[simp] noncomputable def Zb(f:E3)(g:d9):d9:=λenv M=>(f env M).bind λa M1=>(g env M1).bind λb M2=>.ok (a::b) M2
@[simp] noncomputable def alloc(o:MO)(M:Store):R3 D:=.ok (.ref M.length) (M++[o])
section
local instance (priority:=100000) AdV (p:Prop):Decidable p:=Yx p
@[simp] noncomputable def fW(g:d9):E3:=λenv M=>(g env M).bind λds M1=>if ds.length<=SZ then .ok (.tup ds) M1 else .bad
end
section
local instance (priority:=100000) AdW (p:Prop):Decidable p:=Yx p
@[simp] noncomputable def bh(g:d9):E3:=λenv M=>(g env M).bind λds M1=>if ds.length<=SZ then alloc (.lst ds) M1 else .bad
end
@[simp] noncomputable def bD(f g:E3):E3:=λenv M=>(f env M).bind λa M1=>match a with
 | .bl true=>g env M1|.bl false=>.ok (.bl false) M1|_=>.bad
@[simp] noncomputable def eN(f g:E3):E3:=λenv M=>(f env M).bind λa M1=>match a with
 | .bl false=>g env M1|.bl true=>.ok (.bl true) M1|_=>.bad
noncomputable def p8(a:D)(M:Store):R3 D:=match a with
 | .bl b=>.ok (.bl (!b)) M|_=>.bad
@[simp] theorem Zwu:∀b,p8 (.bl b) M= .ok (.bl (!b)) M:=λ_=>rfl
@[simp] noncomputable def j5(c f g:E3):E3:=λenv M=>(c env M).bind λa M1=>match a with
 | .bl true=>f env M1|.bl false=>g env M1|_=>.bad
@[simp] noncomputable def aN(F:F3)(g:d9):E3:=λenv M=>(g env M).bind λds M1=>F ds M1
section
local instance (priority:=100000) AdX (p:Prop):Decidable p:=Yx p
noncomputable def aR(a b:D)(M:Store):R3 D:=match a,b with
 | .int i,.int j=>.ok (.int (i+j)) M|.str x,.str y=>if x.length+y.length<=SZ then .ok (.str (x++y)) M else .bad|.tup x,.tup y=>if x.length+y.length<=SZ then .ok (.tup (x++y)) M else .bad|.ref n,.ref m=>match M[n]?,M[m]? with
  |some (.lst x),Ya (.lst y)=>if x.length+y.length<=SZ then alloc (.lst (x++y)) M else .bad|_,_=>.bad
 |_,_=>.bad
@[simp] theorem tR:∀i j,aR (.int i) (.int j) M= .ok (.int (i+j)) M:=λ_ _=>rfl
@[simp] theorem Zrj:∀x y,aR (.str x) (.str y) M=(if x.length+y.length<=SZ then .ok (.str (x++y)) M else .bad):=λ_ _=>rfl
@[simp] theorem Zlw:∀x y,aR (.tup x) (.tup y) M=(if x.length+y.length<=SZ then .ok (.tup (x++y)) M else .bad):=λ_ _=>rfl
@[simp] theorem Zra:∀n m,aR (.ref n) (.ref m) M=(match M[n]?,M[m]? with
  |some (.lst x),Ya (.lst y)=>if x.length+y.length<=SZ then alloc (.lst (x++y)) M else .bad|_,_=>.bad):=λ_ _=>rfl
end
noncomputable def h_(a b:D)(M:Store):R3 D:=match a,b with
 | .int i,.int j=>.ok (.int (i-j)) M|_,_=>.bad
@[simp] theorem QZ:∀i j,h_ (.int i) (.int j) M= .ok (.int (i-j)) M:=λ_ _=>rfl
section
local instance (priority:=100000) AdY (p:Prop):Decidable p:=Yx p
noncomputable def lK(i j:Int):Bool:=(decide (-(2^64)<i)&&decide (i<2^64))|| (decide (-(2^64)<j)&&decide (j<2^64))
end
section
local instance (priority:=100000) AdZ (p:Prop):Decidable p:=Yx p
noncomputable def iD(a b:D)(M:Store):R3 D:=match a,b with
 | .int i,.int j=>if lK i j then .ok (.int (i*j)) M else .bad|.str x,.int k=>if x.length*k.toNat<=SZ/\k<1000000/\ -1000000<k then .ok (.str (Yq k.toNat x).flatten) M else .bad|.ref n,.int k=>match M[n]? with
  |some (.lst x)=>if x.length*k.toNat<=SZ/\k<1000000/\ -1000000<k then alloc (.lst (Yq k.toNat x).flatten) M else .bad|_=>.bad
 |_,_=>.bad
@[simp] theorem ZvF:∀i j,iD (.int i) (.int j) M=(if lK i j then .ok (.int (i*j)) M else .bad):=λ_ _=>rfl
@[simp] theorem ZpW:∀x k,iD (.str x) (.int k) M=(if x.length*k.toNat<=SZ/\k<1000000/\ -1000000<k then .ok (.str (Yq k.toNat x).flatten) M else .bad):=λ_ _=>rfl
@[simp] theorem Zww:∀n k,iD (.ref n) (.int k) M=(match M[n]? with
  |some (.lst x)=>if x.length*k.toNat<=SZ/\k<1000000/\ -1000000<k then alloc (.lst (Yq k.toNat x).flatten) M else .bad|_=>.bad):=λ_ _=>rfl
end
noncomputable def Zy(a b:D)(M:Store):R3 D:=match a,b with
 | .int i,.int j=>if 0<j then .ok (.int (i % j)) M else .bad|_,_=>.bad
@[simp] theorem Zlb:∀i j,Zy (.int i) (.int j) M=(if 0<j then .ok (.int (i % j)) M else .bad):=λ_ _=>rfl
section
local instance (priority:=100000) Ad0 (p:Prop):Decidable p:=Yx p
noncomputable def bH(a b:D)(M:Store):R3 D:=match a,b with
 | .int i,.int j=>if 0<j/\j<1073741824 then .ok (.int (i / j)) M else .bad|_,_=>.bad
@[simp] theorem ZjX:∀i j,bH (.int i) (.int j) M=(if 0<j/\j<1073741824 then .ok (.int (i / j)) M else .bad):=λ_ _=>rfl
end
noncomputable def JN(a b:D)(M:Store):R3 D:=match a,b with
 | .int i,.int j=>if 0<=j/\j<=1000/\i.natAbs<1000 then .ok (.int (i^j.toNat)) M else .bad|_,_=>.bad
@[simp] theorem ZlD:∀i j,JN (.int i) (.int j) M=(if 0<=j/\j<=1000/\i.natAbs<1000 then .ok (.int (i^j.toNat)) M else .bad):=λ_ _=>rfl
noncomputable def cu(a:D)(M:Store):R3 D:=match a with
 | .int i=>.ok (.int (-i)) M|_=>.bad
@[simp] theorem xU:∀i,cu (.int i) M= .ok (.int (-i)) M:=λ_=>rfl
noncomputable def dF(a b:D)(M:Store):R3 D:=match a,b with
 | .int i,.int j=>.ok (.bl (decide (i<j))) M|_,_=>.bad
@[simp] theorem lM:∀i j,dF (.int i) (.int j) M= .ok (.bl (decide (i<j))) M:=λ_ _=>rfl
noncomputable def nD(a b:D)(M:Store):R3 D:=match a,b with
 | .int i,.int j=>.ok (.bl (decide (i<=j))) M|_,_=>.bad
@[simp] theorem Q0:∀i j,nD (.int i) (.int j) M= .ok (.bl (decide (i<=j))) M:=λ_ _=>rfl
noncomputable def cC(a b:D)(M:Store):R3 D:=match a,b with
 | .int i,.int j=>.ok (.bl (decide (j<i))) M|_,_=>.bad
@[simp] theorem jf:∀i j,cC (.int i) (.int j) M= .ok (.bl (decide (j<i))) M:=λ_ _=>rfl
noncomputable def p_(a b:D)(M:Store):Option Bool:=match a,b with
 | .ref n,.ref m=>match M[n]?,M[m]? with
  |some (.lst x),Ya (.lst y)=>if x.all (dD DEEP)&&y.all (dD DEEP)then Ya (iW x y)else Ym|_,_=>Ym
 | .int i,.int j=>Ya (decide (i=j))|.str x,.str y=>Ya (decide (x=y))|.bl x,.bl y=>Ya (decide (x=y))|.tup x,.tup y=>if x.all (dD DEEP)&&y.all (dD DEEP)then Ya (iW x y)else Ym
 |_,_=>Ym
@[simp] theorem Af:∀n m,p_ (.ref n) (.ref m) M=(match M[n]?,M[m]? with
  |some (.lst x),Ya (.lst y)=>if x.all (dD DEEP)&&y.all (dD DEEP)then Ya (iW x y)else Ym|_,_=>Ym):=λ_ _=>rfl
@[simp] theorem xV:∀i j,p_ (.int i) (.int j) M=Ya (decide (i=j)):=λ_ _=>rfl
@[simp] theorem xW:∀x y,p_ (.str x) (.str y) M=Ya (decide (x=y)):=λ_ _=>rfl
@[simp] theorem JP:∀x y,p_ (.bl x) (.bl y) M=Ya (decide (x=y)):=λ_ _=>rfl
@[simp] theorem Eu:∀x y,p_ (.tup x) (.tup y) M=(if x.all (dD DEEP)&&y.all (dD DEEP)then Ya (iW x y)else Ym):=λ_ _=>rfl
@[simp] noncomputable def aW(a b:D)(M:Store):R3 D:=match p_ a b M with
 |some r=>.ok (.bl r) M|none=>.bad
@[simp] noncomputable def gw(a b:D)(M:Store):R3 D:=match p_ a b M with
 |some r=>.ok (.bl (!r)) M|none=>.bad
noncomputable def nF(a b:D)(M:Store):R3 D:=match b with
 | .non=>.ok (.bl (decide (a= .non))) M|_=>.bad
@[simp] theorem ZwO{a:D}:nF a (.non) M= .ok (.bl (decide (a= .non))) M:=rfl
noncomputable def Ew(a b:D)(M:Store):R3 D:=match b with
 | .non=>.ok (.bl (!decide (a= .non))) M|_=>.bad
@[simp] theorem ZuM{a:D}:Ew a (.non) M= .ok (.bl (!decide (a= .non))) M:=rfl
noncomputable def dh:D->Bool
 | .non=>true| .bl _=>true| .int _=>true| .str _=>true|_=>false
noncomputable def Q3(a:D)(y:List Nat):Option Bool:=match a with
 | .str [c]=>Ya (decide (c∈y))|_=>Ym
@[simp] theorem Zxo{y:List Nat}:∀c,Q3 (.str [c]) y=Ya (decide (c∈y)):=λ_=>rfl
noncomputable def inD(a b:D):Option Bool:=match b with
 | .str y=>Q3 a y|.tup ys=>if dh a&&ys.all dh then Ya (ys.any λy=>dN y a)else Ym|_=>Ym
@[simp] theorem ZwZ{a:D}:∀y,inD a (.str y)=Q3 a y:=λ_=>rfl
@[simp] theorem ZuN{a:D}:∀ys,inD a (.tup ys)=(if dh a&&ys.all dh then Ya (ys.any λy=>dN y a)else Ym):=λ_=>rfl
@[simp] noncomputable def lO(a b:D)(M:Store):R3 D:=match inD a b with
 |some r=>.ok (.bl r) M|none=>.bad
noncomputable def j6(n:Nat)(i:Int):Option Nat:=if 0<=i then(if i<n then Ya i.toNat else Ym)else if -(n:Int)<=i then Ya (i+n).toNat else Ym
noncomputable def gA{α:Type}(xs:List α)(i:Int):Option α:=(j6 xs.length i).bind λj=>xs[j]?
noncomputable def Zwt:D->Option iC
 | .int i=>Ya (.inl i)|.str x=>Ya (.inr x)|_=>Ym
noncomputable def Ey:List (iC×D)->iC->Option D
 |[],_=>Ym|(k,v)::r,x=>if k=x then Ya v else Ey r x
section
local instance (priority:=100000) Ad1 (p:Prop):Decidable p:=Yx p
noncomputable def Zn(a b:D)(M:Store):R3 D:=match a,b with
 | .tup ds,.int i=>match gA ds i with
  |some d=>.ok d M|none=>.bad
 | .aZ ds,.int i=>match gA ds i with
  |some d=>.ok d M|none=>.bad
 | .str x,.int i=>match gA x i with
  |some c=>if x.length<=SZ then .ok (.str [c]) M else .bad|none=>.bad
 | .ref n,.int i=>match M[n]? with
  |some (.lst ds)=>match gA ds i with
   |some d=>.ok d M|none=>.bad
  |_=>.bad
 |_,_=>.bad
@[simp] theorem Q4:∀ds i,Zn (.tup ds) (.int i) M=(match gA ds i with
  |some d=>.ok d M|none=>.bad):=λ_ _=>rfl
@[simp] theorem Q5:∀ds i,Zn (.aZ ds) (.int i) M=(match gA ds i with
  |some d=>.ok d M|none=>.bad):=λ_ _=>rfl
@[simp] theorem JQ:∀x i,Zn (.str x) (.int i) M=(match gA x i with
  |some c=>if x.length<=SZ then .ok (.str [c]) M else .bad|none=>.bad):=λ_ _=>rfl
@[simp] theorem Q6:∀n i,Zn (.ref n) (.int i) M=(match M[n]? with
  |some (.lst ds)=>match gA ds i with
   |some d=>.ok d M|none=>.bad
  |_=>.bad):=λ_ _=>rfl
end
noncomputable def Zs1:Option MO->Option (List (iC×D))
 |some (.dct kvs)=>Ya kvs|some (.cL kvs)=>Ya kvs|_=>Ym
noncomputable def ZuY(a b:D)(M:Store):R3 D:=match a with
 | .ref n=>match Zs1 M[n]?,Zwt b with
  |some kvs,Ya x=>match Ey kvs x with
   |some d=>.ok d M|none=>.bad
  |_,_=>.bad
 |_=>.bad
@[simp] theorem Zvf{b:D}:∀n,ZuY (.ref n) b M=(match Zs1 M[n]?,Zwt b with
  |some kvs,Ya x=>match Ey kvs x with
   |some d=>.ok d M|none=>.bad
  |_,_=>.bad):=λ_=>rfl
noncomputable def aC(n d:Nat):Option Int->Nat
 |none=>d|some v=>if v<0 then(v+(n:Int)).toNat else jq v.toNat n
noncomputable def cutD{α:Type}(xs:List α)(lo hi:Option Int):List α:=(xs.drop (aC xs.length 0 lo)).take (aC xs.length xs.length hi-aC xs.length 0 lo)
noncomputable abbrev xX:=bL->Store->R3 (Option Int)
@[simp] noncomputable def fX:xX:=λ_ M=>.ok Ym M
@[simp] noncomputable def dO(f:E3):xX:=λenv M=>(f env M).bind λa M1=>match a with
 | .int i=>.ok (Ya i) M1|_=>.bad
section
local instance (priority:=100000) Ad2 (p:Prop):Decidable p:=Yx p
noncomputable def xY(a:D)(lo hi:Option Int)(M:Store):R3 D:=match a with
 | .tup ds=>.ok (.tup (cutD ds lo hi)) M|.aZ ds=>alloc (.lst (cutD ds lo hi)) M|.str x=>if x.length<=SZ then .ok (.str (cutD x lo hi)) M else .bad|.ref n=>match M[n]? with
  |some (.lst ds)=>alloc (.lst (cutD ds lo hi)) M|_=>.bad
 |_=>.bad
@[simp] theorem Ez:∀ds,xY (.tup ds) lo hi M= .ok (.tup (cutD ds lo hi)) M:=λ_=>rfl
@[simp] theorem EY:∀ds,xY (.aZ ds) lo hi M=alloc (.lst (cutD ds lo hi)) M:=λ_=>rfl
@[simp] theorem Ag:∀x,xY (.str x) lo hi M=(if x.length<=SZ then .ok (.str (cutD x lo hi)) M else .bad):=λ_=>rfl
@[simp] theorem Ah:∀n,xY (.ref n) lo hi M=(match M[n]? with
  |some (.lst ds)=>alloc (.lst (cutD ds lo hi)) M|_=>.bad):=λ_=>rfl
end
@[simp] noncomputable def eO(f:E3)(lo hi:xX):E3:=λenv M=>(f env M).bind λa M1=>(lo env M1).bind λl M2=>(hi env M2).bind λh M3=>xY a l h M3
section
local instance (priority:=100000) Ad3 (p:Prop):Decidable p:=Yx p
noncomputable def a_(ds:List D)(M:Store):R3 D:=match ds with
 |[.tup x]=>.ok (.int x.length) M|[.aZ x]=>.ok (.int x.length) M|[.str x]=>if x.length<=SZ then .ok (.int x.length) M else .bad|[.ref n]=>match M[n]? with
  |some (.lst x)=>.ok (.int x.length) M|_=>.bad
 |_=>.bad
@[simp] theorem Ai:∀x,a_ ([.tup x]) M= .ok (.int x.length) M:=λ_=>rfl
@[simp] theorem Aj:∀x,a_ ([.aZ x]) M= .ok (.int x.length) M:=λ_=>rfl
@[simp] theorem Ak:∀x,a_ ([.str x]) M=(if x.length<=SZ then .ok (.int x.length) M else .bad):=λ_=>rfl
@[simp] theorem q8:∀n,a_ ([.ref n]) M=(match M[n]? with
  |some (.lst x)=>.ok (.int x.length) M|_=>.bad):=λ_=>rfl
end
noncomputable def gB(ds:List D)(M:Store):R3 D:=match ds with
 |[.tup x]=>.ok (.tup x) M|[.aZ x]=>.ok (.tup x) M|[.ref n]=>match M[n]? with
  |some (.lst x)=>.ok (.tup x) M|_=>.bad
 |_=>.bad
@[simp] theorem ZjE:∀x,gB ([.tup x]) M= .ok (.tup x) M:=λ_=>rfl
@[simp] theorem Zjy:∀x,gB ([.aZ x]) M= .ok (.tup x) M:=λ_=>rfl
@[simp] theorem Al:∀n,gB ([.ref n]) M=(match M[n]? with
  |some (.lst x)=>.ok (.tup x) M|_=>.bad):=λ_=>rfl
noncomputable def tU(ds:List D)(M:Store):R3 D:=match ds with
 |[.tup x]=>alloc (.lst x) M|[.aZ x]=>alloc (.lst x) M|[.ref n]=>match M[n]? with
  |some (.lst x)=>alloc (.lst x) M|_=>.bad
 |_=>.bad
@[simp] theorem ZpG:∀x,tU ([.tup x]) M=alloc (.lst x) M:=λ_=>rfl
@[simp] theorem ZpD:∀x,tU ([.aZ x]) M=alloc (.lst x) M:=λ_=>rfl
@[simp] theorem E_:∀n,tU ([.ref n]) M=(match M[n]? with
  |some (.lst x)=>alloc (.lst x) M|_=>.bad):=λ_=>rfl
inductive nC where
 |int|bool|str|list|tuple
 deriving DecidableEq
noncomputable def jN(T:nC)(d:D)(M:Store):Option Bool:=match d with
 | .non=>Ya false|.bl _=>Ya (T== .bool|| T== .int)|.int _=>Ya (T== .int)|.str _=>Ya (T== .str)
 | .tup _=>Ya (T== .tuple)|.aZ _=>Ym|.ref n=>match M[n]? with
  |some (.lst _)=>Ya (T== .list)|some (.dct _)=>Ya false|some (.cL _)=>Ym|some (.ins _ _)=>Ym
  |none=>Ym
@[simp] theorem ZnH:jN T (.non) M=Ya false:=rfl
@[simp] theorem Zoh:∀w0,jN T (.bl w0) M=Ya (T== .bool|| T== .int):=λ_=>rfl
@[simp] theorem Znq:∀w0,jN T (.int w0) M=Ya (T== .int):=λ_=>rfl
@[simp] theorem ZnT:∀w0,jN T (.str w0) M=Ya (T== .str):=λ_=>rfl
@[simp] theorem Znt:∀w0,jN T (.tup w0) M=Ya (T== .tuple):=λ_=>rfl
@[simp] theorem Zn9:∀w0,jN T (.aZ w0) M=Ym:=λ_=>rfl
@[simp] theorem ZnD:∀n,jN T (.ref n) M=(match M[n]? with
  |some (.lst _)=>Ya (T== .list)|some (.dct _)=>Ya false|some (.cL _)=>Ym|some (.ins _ _)=>Ym
  |none=>Ym):=λ_=>rfl
@[simp] noncomputable def nG(T:nC)(d:D)(M:Store):R3 D:=match jN T d M with
 |some b=>.ok (.bl b) M|none=>.bad
noncomputable def Am:D->Bool
 | .bl _=>true|_=>false
noncomputable def xZ:D->Bool
 | .bl b=>b|_=>false
noncomputable def allB(l:List D):Option Bool:=if l.all Am then Ya (l.all xZ)else Ym
noncomputable def q9(ds:List D)(M:Store):R3 D:=match ds with
 | [.ref n]=>match M[n]? with
  |some (.lst x)=>match allB x with
   |some b=>.ok (.bl b) M|none=>.bad
  |_=>.bad
 |_=>.bad
@[simp] theorem Ao:∀n,q9 ([.ref n]) M=(match M[n]? with
  |some (.lst x)=>match allB x with
   |some b=>.ok (.bl b) M|none=>.bad
  |_=>.bad):=λ_=>rfl
noncomputable def q_(o:D)(ds:List D)(M:Store):R3 D:=match o,ds with
 | .str x,[.str y]=>if x.length<=SZ/\y.length<=SZ then .ok (.bl (y.isPrefixOf x)) M else .bad|_,_=>.bad
@[simp] theorem Fb:∀x y,q_ (.str x) ([.str y]) M=(if x.length<=SZ/\y.length<=SZ then .ok (.bl (y.isPrefixOf x)) M else .bad):=λ_ _=>rfl
section
local instance (priority:=100000) AdQ (p:Prop):Decidable p:=Yx p
noncomputable def Zz(o:D)(ds:List D)(M:Store):R3 D:=match o,ds with
 | .ref n,[d]=>match M[n]? with
  |some (.lst x)=>if x.length<SZ then .ok .non (M.set n (.lst (x++[d])))else .bad|_=>.bad
 |_,_=>.bad
@[simp] theorem Q7:∀n d,Zz (.ref n) ([d]) M=(match M[n]? with
  |some (.lst x)=>if x.length<SZ then .ok .non (M.set n (.lst (x++[d])))else .bad|_=>.bad):=λ_ _=>rfl
end
section
local instance (priority:=100000) Ad4 (p:Prop):Decidable p:=Yx p
noncomputable def oZ(o:D)(ds:List D)(M:Store):R3 D:=match o,ds with
 | .ref n,[.int i]=>match M[n]? with
  | some (.lst x)=>if -1000000<=i/\i<=1000000 then match j6 x.length i with
   |some k=>match x[k]? with
    |some d=>.ok d (M.set n (.lst (x.eraseIdx k)))|none=>.bad
   |none=>.bad
   else .bad
  |_=>.bad
 | .ref n,[]=>match M[n]? with
  |some (.lst x)=>match x[x.length-1]? with
   |some d=>.ok d (M.set n (.lst x.dropLast))|none=>.bad
  |_=>.bad
 |_,_=>.bad
@[simp] theorem ZnJ:∀n i,oZ (.ref n) ([.int i]) M=(match M[n]? with
  | some (.lst x)=>if -1000000<=i/\i<=1000000 then match j6 x.length i with
   |some k=>match x[k]? with
    |some d=>.ok d (M.set n (.lst (x.eraseIdx k)))|none=>.bad
   |none=>.bad
   else .bad
  |_=>.bad):=λ_ _=>rfl
@[simp] theorem Q8:∀n,oZ (.ref n) ([]) M=(match M[n]? with
  |some (.lst x)=>match x[x.length-1]? with
   |some d=>.ok d (M.set n (.lst x.dropLast))|none=>.bad
  |_=>.bad):=λ_=>rfl
end
noncomputable def ig(a:D)(_:Store):Bool:=match a with
 | .str _=>true|_=>false
@[simp] theorem Zu3{w_:Store}:∀w0,ig (.str w0) w_=true:=λ_=>rfl
noncomputable def bf(a:D)(M:Store):Bool:=match a with
 | .ref n=>match M[n]? with
  |some (.lst _)=>true|_=>false
 |_=>false
@[simp] theorem Aq:∀n,bf (.ref n) M=(match M[n]? with
  |some (.lst _)=>true|_=>false):=λ_=>rfl
@[simp] noncomputable def aH(ty:D->Store->Bool)(m:D->List D->Store->R3 D)(o:E3)(g:d9):E3:=λenv M=>(o env M).bind λa M1=>if ty a M1 then(g env M1).bind λds M2=>m a ds M2 else .bad
@[simp] noncomputable def aB(b:List D->Store->R3 D)(g:d9):E3:=λenv M=>(g env M).bind λds M1=>b ds M1
noncomputable def putD(k:iC)(v:D)(kvs:List (iC×D)):List (iC×D):=if(kvs.any λp=>decide (p.1=k))=true then kvs.map (λp=>if p.1=k then(p.1,v)else p)else kvs++[(k,v)]
@[simp] noncomputable def e3(op:D->D->D->Store->R3 D)(f g h:E3):E3:=λenv M=>(f env M).bind λa M1=>(g env M1).bind λb M2=>(h env M2).bind λc M3=>op a b c M3
noncomputable def Q9(v a b:D)(M:Store):R3 D:=match a,b with
 | .ref n,.int i=>match M[n]? with
  |some (.lst xs)=>match j6 xs.length i with
   |some j=>.ok .non (M.set n (.lst (xs.set j v)))|none=>.bad
  |_=>.bad
 |_,_=>.bad
@[simp] theorem Zjs{v:D}:∀n i,Q9 v (.ref n) (.int i) M=(match M[n]? with
  |some (.lst xs)=>match j6 xs.length i with
   |some j=>.ok .non (M.set n (.lst (xs.set j v)))|none=>.bad
  |_=>.bad):=λ_ _=>rfl
noncomputable def Fd(ds:List D)(M:Store):R3 D:=match ds with
 |[.int i]=>.ok (.int i) M|[.bl b]=>.ok (.int (if b then 1 else 0)) M|_=>.bad
@[simp] theorem ZwV:∀i,Fd ([.int i]) M= .ok (.int i) M:=λ_=>rfl
@[simp] theorem ZwL:∀b,Fd ([.bl b]) M= .ok (.int (if b then 1 else 0)) M:=λ_=>rfl
noncomputable def lQ:List D->Option (List Int)
 |[]=>Ya []|.int i::r=>(lQ r).map (i:: ·)|_::_=>Ym
noncomputable def aX:S3:=λenv M=>.nx env M
noncomputable def tV:S3:=λ_ _=>.bad
noncomputable def Zr(f g:S3):S3:=λenv M=>match f env M with
 | .nx env' M'=>g env' M'|o=>o
noncomputable def aK(c:E3)(f g:S3):S3:=λenv M=>match c env M with
 | .ok (.bl true) M1=>f env M1|.ok (.bl false) M1=>g env M1|.exc x M1=>.exc x M1|_=>.bad
noncomputable def aY(f:E3):S3:=λenv M=>match f env M with
 | .ok d M1=>.rt d M1|.exc x M1=>.exc x M1|.bad=>.bad
noncomputable def aP(f:E3):S3:=λenv M=>match f env M with
 | .ok _ M1=>.nx env M1|.exc x M1=>.exc x M1|.bad=>.bad
noncomputable def au(i:Nat)(f:E3):S3:=λenv M=>match f env M with
 | .ok d M1=>.nx (env.set i (Ya d)) M1|.exc x M1=>.exc x M1|.bad=>.bad
noncomputable def rm(o i f:E3):S3:=aP (e3 Q9 f o i)
noncomputable def Q_:S3:=λenv M=>.bk env M
noncomputable abbrev G3:=D->bL->Option bL
@[simp] noncomputable def cj(i:Nat):G3:=λd env=>Ya (env.set i (Ya d))
noncomputable def bindAll:List Nat->List D->bL->Option bL
 |[],[],env=>Ya env|i::is,d::ds,env=>bindAll is ds (env.set i (Ya d))|_,_,_=>Ym
@[simp] theorem JR:∀env,bindAll ([]) ([]) (env)=Ya env:=λ_=>rfl
@[simp] theorem JS:∀i is d ds env,bindAll (i::is) (d::ds) (env)=bindAll is ds (env.set i (Ya d)):=λ_ _ _ _ _=>rfl
@[simp] noncomputable def nH(is:List Nat):G3:=λd env=>match d with
 | .tup ds=>bindAll is ds env|_=>Ym
structure fV where
 items:List D
 lock:Option Nat
noncomputable abbrev I3:=bL->Store->R3 fV
section
local instance (priority:=100000) AdR (p:Prop):Decidable p:=Yx p
@[simp] noncomputable def cW(f:E3):I3:=λenv M=>(f env M).bind λa M1=>match a with
 | .tup ds=>.ok ⟨ds,Ym⟩ M1|.aZ ds=>.ok ⟨ds,Ym⟩ M1|.str x=>if x.length<=SZ then .ok ⟨x.map λc=>.str [c],Ym⟩ M1 else .bad|.ref n=>match M1[n]? with
  |some (.lst ds)=>.ok ⟨ds,Ya n⟩ M1|_=>.bad
 |_=>.bad
end
noncomputable def lR(lo:Int)(n:Nat):List D:=(gW n).map λ(k:Nat)=>D.int (lo+(k:Int))
section
local instance (priority:=100000) AdS (p:Prop):Decidable p:=Yx p
@[simp] noncomputable def rn(f:E3):I3:=λenv M=>(f env M).bind λa M1=>match a with
 | .int j=>if j<=1000000/\ -1000000<=j then .ok ⟨lR 0 j.toNat,Ym⟩ M1 else .bad|_=>.bad
end
noncomputable def locked(it:fV)(M:Store):Bool:=match it.lock with
 |none=>true|some n=>decide (M[n]?=Ya (.lst it.items))
noncomputable def iY(it:fV)(g:G3)(body:S3):List D->bL->Store->O3
 |[],env,M=>if locked it M then .nx env M else .bad|d::ds,env,M=>if locked it M then match g d env with
  |none=>.bad|some dg=>match body dg M with
   | .nx e M'=>iY it g body ds e M'|.ct e M'=>iY it g body ds e M'|.bk e M'=>.nx e M'|o=>o
  else .bad
theorem vI{g:G3}{body:S3}:iY it g body [] env M=if locked it M then .nx env M else .bad:=rfl
theorem tW{g:G3}{body:S3}{d:D}{ds:List D}:iY it g body (d::ds) env M=if locked it M then match g d env with
  |none=>.bad|some dg=>match body dg M with
   | .nx e M'=>iY it g body ds e M'|.ct e M'=>iY it g body ds e M'|.bk e M'=>.nx e M'|o=>o
  else .bad:=rfl
noncomputable def qd(i:I3)(g:G3)(body:S3):S3:=λenv M=>match i env M with
 | .ok it M1=>iY it g body it.items env M1|.exc x M1=>.exc x M1|.bad=>.bad
noncomputable def rA(c:E3)(body:S3):Nat->bL->Store->O3
 |0,_,_=>.bad|n+1,env,M=>match c env M with
  | .ok (.bl true) M1=>match body env M1 with
   | .nx e M'=>rA c body n e M'|.ct e M'=>rA c body n e M'|.bk e M'=>.nx e M'|o=>o
  | .ok (.bl false) M1=>.nx env M1|.exc x M1=>.exc x M1|_=>.bad
theorem Ar{c:E3}{body:S3}{n:Nat}:rA c body (n+1) env M=match c env M with
  | .ok (.bl true) M1=>match body env M1 with
   | .nx e M'=>rA c body n e M'|.ct e M'=>rA c body n e M'|.bk e M'=>.nx e M'|o=>o
  | .ok (.bl false) M1=>.nx env M1|.exc x M1=>.exc x M1|_=>.bad:=rfl
noncomputable def Ra(c:E3)(body:S3):S3:=rA c body 1000000
noncomputable def tX:List E3->bL->Store->R3 Bool
 |[],_,M=>.ok true M|c::cs,env,M=>(c env M).bind λa M1=>match a with
  | .bl true=>tX cs env M1|.bl false=>.ok false M1|_=>.bad
theorem Fe:tX [] env M= .ok true M:=rfl
theorem Ff{c:E3}{cs:List E3}:tX (c::cs) env M=(c env M).bind λa M1=>match a with
  | .bl true=>tX cs env M1|.bl false=>.ok false M1|_=>.bad:=rfl
section
local instance (priority:=100000) Abf (p:Prop):Decidable p:=Yx p
noncomputable def iZ(it:fV)(g:G3)(ifs:List E3)(elt:E3)(n:Nat):List D->bL->Store->R3 D
 |[],_,M=>if locked it M then .ok (.ref n) M else .bad|d::ds,env,M=>if locked it M then match g d env with
  |none=>.bad|some dg=>(tX ifs dg M).bind λb M1=>if b then(elt dg M1).bind λe M2=>match M2[n]? with
    |some (.lst x)=>if x.length<SZ then iZ it g ifs elt n ds dg (M2.set n (.lst (x++[e])))else .bad|_=>.bad
   else iZ it g ifs elt n ds dg M1
  else .bad
theorem Rb{g:G3}{ifs:List E3}{elt:E3}{n:Nat}:iZ it g ifs elt n [] env M=if locked it M then .ok (.ref n) M else .bad:=rfl
theorem JT{g:G3}{ifs:List E3}{elt:E3}{n:Nat}{d:D}{ds:List D}:iZ it g ifs elt n (d::ds) env M=if locked it M then match g d env with
  |none=>.bad|some dg=>(tX ifs dg M).bind λb M1=>if b then(elt dg M1).bind λe M2=>match M2[n]? with
    |some (.lst x)=>if x.length<SZ then iZ it g ifs elt n ds dg (M2.set n (.lst (x++[e])))else .bad|_=>.bad
   else iZ it g ifs elt n ds dg M1
  else .bad:=rfl
end
noncomputable def fL(i:I3)(own:Nat)(g:G3)(ifs:List E3)(elt:E3):E3:=λenv M=>(i env M).bind λit M1=>iZ it g ifs elt M1.length it.items (env++Yq own Ym) (M1++[.lst []])
noncomputable def vJ(n:Nat):MO->Bool
 | .lst xs=>bT n xs|.dct kvs=>bT n (kvs.map (·.2))|.cL kvs=>bT n (kvs.map (·.2))|.ins _ fs=>bT n (fs.map (·.2))
noncomputable def dX(M:Store)(d:D)(M':Store):R3 D:=if below M.length d&&(decide (M'.take M.length=M)|| (M'.take M.length).all (vJ M.length))then .ok d (M'.take M.length)else .ok d M'
noncomputable def bZ(ps n:Nat)(body:S3):F3:=λds M=>if ds.length=ps then match body (ds.map Ya++Yq (n-ps) Ym) M with
  | .nx _ M'=>dX M .non M'|.rt d M'=>dX M d M'|.exc x M'=>.exc x M'|_=>.bad
 else .bad
end
end L3
namespace L3
variable{i n:Nat}
theorem Zpw{it:fV}{elt:E3}{R:D->D->Prop}{env0:bL}:∀(ds:List D) (acc:List D) (env:bL) (M:Store),(∀d,env.set i (Ya d)=env0.set i (Ya d)) ->
  (∀d∈ds,∀x,∃e,elt (env0.set i (Ya d)) (M.set n (.lst x))= .ok e (M.set n (.lst x))/\R d e)->(∀x,locked it (M.set n (.lst x))=true)->M[n]?=Ya (.lst acc)->acc.length+ds.length<=SZ ->
  ∃es,es.length=ds.length/\(∀(j:Nat) d e,ds[j]?=Ya d->es[j]?=Ya e->R d e)/\iZ it (cj i) [] elt n ds env M= .ok (.ref n) (M.set n (.lst (acc++es))):=by
 intro ds
 induction ds with
 | nil=>
  intro acc env M _ _ hl hM _;have e:M.set n (.lst acc)=M:=by
   apply zp;intro j;by_cases hj:j=n
   .subst hj;rw[Y0 (Yf.mp hM).1,hM]
   .rw[Yr (cP hj)]
  have hl':=hl acc;rw[e]at hl';exact⟨[],rfl,λj d e h=>by simp at h,by simp only[Rb,JT,hl',if_true,jX,e]⟩
 | cons d ds ih=>
  intro acc env M he hf hl hM hz;have hn:n<M.length:=(Yf.mp hM).1;have e:M.set n (.lst acc)=M:=by
   apply zp;intro j;by_cases hj:j=n
   .subst hj;rw[Y0 hn,hM]
   .rw[Yr (cP hj)]
  have hl':=hl acc;rw[e]at hl';obtain⟨v,hf',hR⟩:=hf d Yd acc;rw[e]at hf';have hz':acc.length<SZ:=by simp at hz ⊢;exact lB 1 0xf42405b01f42405ba1c0c01 T1 hz
  obtain⟨es,le,re,h⟩:=ih (acc++[v]) (env0.set i (Ya d)) (M.set n (.lst (acc++[v]))) (λd'=>by rw[Dp]) (λd' hd' x=>by rw[Dp];exact hf d' (Yc _ hd') x) (λx=>by rw[Dp];exact hl x) (by rw[Y0 hn]) (by simp at hz ⊢;exact lB 1 0xf42405b1a0cc0f42405ba1c0c01 T1 hz);refine⟨v::es,by simp[le],λj d' e' h1 h2=>?_,?_⟩
  .cases j with
   |zero=>simp at h1 h2;subst h1 h2;exact hR|succ j=>exact re j d' e' (by simpa using h1) (by simpa using h2)
  .simp only[JT,hl',if_true,cj,he d,Fe,Ff,R3.AaX,hf',hM,hz'];rw[h,Dp];simp
variable{M M':Store}{env env':bL}
theorem Zi{f g:S3}(h:f env M= .nx env' M'):Zr f g env M=g env' M':=by rw[Zr,h]
variable{d:D}
theorem rC{f g:S3}(h:f env M= .rt d M'):Zr f g env M= .rt d M':=by rw[Zr,h]
theorem e_{c:E3}{f g:S3}(h:c env M= .ok (.bl true) M'):aK c f g env M=f env M':=by rw[aK,h]
theorem nJ{c:E3}{f g:S3}(h:c env M= .ok (.bl false) M'):aK c f g env M=g env M':=by rw[aK,h]
variable{f:E3}
theorem di(h:f env M= .ok d M'):aY f env M= .rt d M':=by rw[aY,h]
theorem Zo(h:f env M= .ok d M')(he:env.set i (Ya d)=env':=by first|(dsimp only[oJ,oK]<;>exact rfl)|exact rfl):au i f env M= .nx env' M':=by rw[au,h];simp only[he]
theorem cT{c:E3}{f:S3}(h:c env M= .ok (.bl false) M'):aK c f aX env M= .nx env M':=by rw[aK,h];rfl
theorem qe(h:f env M= .ok d M'):aP f env M= .nx env M':=by rw[aP,h]
theorem x_{i:I3}{g:G3}{u:S3}{it:fV}(h:i env M= .ok it M'):qd i g u env M=iY it g u it.items env M':=by rw[qd,h]
theorem Rc{i:I3}{own:Nat}{g:G3}{ts:List E3}{it:fV}(h:i env M= .ok it M'):fL i own g ts f env M=iZ it g ts f M'.length it.items (env++Yq own Ym) (M'++[.lst []]):=by rw[fL,h];rfl
variable{ds:List D}{body:S3}
theorem jC{ps:Nat}(h:body env M= .rt d M')(hl:ds.length=ps:=by rfl)(he:ds.map Ya++Yq (n-ps) Ym=env:=by rfl):bZ ps n body ds M=dX M d M':=by rw[bZ,if_pos hl,he,h]
theorem Fg{ps:Nat}(h:body env M= .nx env' M')(hl:ds.length=ps:=by rfl)(he:ds.map Ya++Yq (n-ps) Ym=env:=by rfl):bZ ps n body ds M=dX M .non M':=by rw[bZ,if_pos hl,he,h]
theorem ZqO{G:Store}(h:below M.length d=true):dX M d (M++G)= .ok d M:=by simp[dX,h]
theorem ZjJ(h:below M.length d=true):dX M d M= .ok d M:=by simp[dX,h]
variable{α:Type}
theorem Zq(M:List α)(x:α)(xs:List α):(M++x::xs)[M.length]?=Ya x:=by simp
theorem rD(M xs:List α)(k:Nat):(M++xs)[M.length+k]?=xs[k]?:=by rw[wO (jc _ _)];congr 1;exact Y4 (lC 1 2199589555233 T1 (gZ (jc _ _))) (lC 1 2267788938241 T1 (g8 _ _))
theorem JV(M xs:List α)(k:Nat)(o:α):(M++xs).set (M.length+k) o=M++xs.set k o:=by rw[List.set_append_right _ _ (jc _ _)];congr 2;exact Y4 (lC 1 2199589555233 T1 (gZ (jc _ _))) (lC 1 2267788938241 T1 (g8 _ _))
theorem bQ{M:List α}{o:α}(h:M[n]?=Ya o)(xs:List α):(M++xs)[n]?=Ya o:=by rw[Yi (Yf.mp h).1,h]
theorem fc(xs:List α)(k:Nat):gA xs (k:Int)=xs[k]?:=by
 unfold gA j6;rw[if_pos (DW k)];by_cases h:k<xs.length
 .rw[if_pos (IV.2 h)];simp
 .rw[if_neg (by exactλz=>iN [_,_] [] 2 6667149772945 T1 z h)];simp at h ⊢;exact h
@[simp] theorem Zvh(xs:List α)(k:Nat):gA xs (k:Int)=xs[k]?:=fc xs k
@[simp] theorem Zv7(xs:List α)(n:Nat):gA xs (no_index (Ea n:Int))=xs[(Ea n:Nat)]?:=fc xs n
@[simp] theorem Zvo(xs:List α):gA xs (-1)=xs.getLast?:=by
 unfold gA j6;rw[if_neg (by decide),List.getLast?_eq_getElem?];by_cases h:0<xs.length
 .rw[if_pos (by exact iN [_] [] 1 725993655825 T1 h)];simp only[Wd];congr 1;exact Y4 (iN [_,_,_] [] 2 0x200a2c10118a9c08a1 T1 (pR (iN [_] [] 1 595337940497 T1 h)) (g8 _ _)) (iN [_,_,_] [] 2 0x1200a2c211808a9c81 T1 (xx _) (gZ (lA 1 10489361 T1 h)))
 .have:xs=[]:=by simpa using h
  subst this;rfl
theorem Zni(n k:Nat):j6 n (k:Int)=if k<n then Ya k else Ym:=by
 unfold j6;rw[if_pos (DW k)];by_cases h:k<n
 .rw[if_pos (IV.2 h),if_pos h];simp
 .rw[if_neg (by exactλz=>iN [_,_] [] 2 6667149772945 T1 z h),if_neg h]
@[simp] theorem ZvA(n k:Nat):j6 n (k:Int)=if k<n then Ya k else Ym:=Zni n k
@[simp] theorem ZwT(m n:Nat):j6 m (no_index (Ea n:Int))=if(Ea n:Nat)<m then Ya (Ea n:Nat)else Ym:=Zni m n
theorem getD_last(xs:List α)(x:α):gA (xs++[x]) (-1)=Ya x:=by
 unfold gA j6;rw[if_neg (by decide),if_pos (by simp;exact iN [_] [] 0 10521768 T1)];have:(-1+((xs++[x]).length:Int)).toNat=xs.length:=by simp;exact Y4 (iN [_,_] [] 1 4514701222086817 T1 (pR (iN [_] [] 0 43097169128 T1))) (iN [_,_] [] 1 4505291991981185 T1 (xx _))
 simp only[Wd,this];simp
theorem ZsF(xs:List α)(k:Nat)(h:xs.length<=k):cutD xs Ym (Ya (k:Int))=xs:=by unfold cutD aC;simp only[HB];rw[if_neg (by exactλz=>iN [_] [] 1 7211153 T1 z),qM (by simp;omega)]
inductive Row where
 |put (a:Nat) (n:Int)|add (a b c:Nat)|sub (a b c:Nat)|more (a b c:Nat)|get (a b:Nat)|set (a b:Nat)|jump (k:Nat)|when (a k:Nat)|tell (a:Nat)|halt
 deriving Inhabited
noncomputable def Row.ok(many:Nat):Row->Prop
 | .put a _=>a<8|.add a b c=>a<8/\b<8/\c<8|.sub a b c=>a<8/\b<8/\c<8|.more a b c=>a<8/\b<8/\c<8
 | .get a b=>a<8/\b<8|.set a b=>a<8/\b<8|.jump k=>k<many|.when a k=>a<8/\k<many
 | .tell a=>a<8|.halt=>True
noncomputable def Row.tells(bs:List Int):Row->Option Int
 | .tell a=>bs[a]?|_=>Ym
noncomputable def Row.qJ:Row->Bool
 | .halt=>true|_=>false
variable{a:Nat}
@[simp] theorem Zvm{n:Int}{bs:List Int}:(Row.put a n).tells bs=Ym:=rfl
@[simp] theorem Zu6{n:Int}:(Row.put a n).qJ=false:=rfl
variable{c:Nat}
@[simp] theorem Zvk{b:Nat}{bs:List Int}:(Row.add a b c).tells bs=Ym:=rfl
@[simp] theorem ZuQ{b:Nat}:(Row.add a b c).qJ=false:=rfl
@[simp] theorem Zvp{b:Nat}{bs:List Int}:(Row.sub a b c).tells bs=Ym:=rfl
@[simp] theorem Zu1{b:Nat}:(Row.sub a b c).qJ=false:=rfl
@[simp] theorem Ztp{b:Nat}{bs:List Int}:(Row.more a b c).tells bs=Ym:=rfl
@[simp] theorem ZsU{b:Nat}:(Row.more a b c).qJ=false:=rfl
@[simp] theorem Zvn{b:Nat}{bs:List Int}:(Row.get a b).tells bs=Ym:=rfl
@[simp] theorem Ztz{b:Nat}:(Row.get a b).qJ=false:=rfl
@[simp] theorem Zvi{b:Nat}{bs:List Int}:(Row.set a b).tells bs=Ym:=rfl
@[simp] theorem ZuC{b:Nat}:(Row.set a b).qJ=false:=rfl
@[simp] theorem ZuA{k:Nat}{bs:List Int}:(Row.jump k).tells bs=Ym:=rfl
@[simp] theorem Zta{k:Nat}:(Row.jump k).qJ=false:=rfl
@[simp] theorem Zuw{k:Nat}{bs:List Int}:(Row.when a k).tells bs=Ym:=rfl
@[simp] theorem ZsX{k:Nat}:(Row.when a k).qJ=false:=rfl
@[simp] theorem ZuZ{bs:List Int}:(Row.tell a).tells bs=bs[a]?:=rfl
@[simp] theorem Ztc:(Row.tell a).qJ=false:=rfl
@[simp] theorem ZtC{bs:List Int}:(Row.halt).tells bs=Ym:=rfl
@[simp] theorem ZsY :(Row.halt).qJ=true:=rfl
mutual
theorem Zo0:∀(n:Nat) (d:D),dD n d=true->dN d d=true
 |_,.non,_=>rfl|_,.bl b,_=>beq_self_eq_true b|_,.int b,_=>beq_self_eq_true b|_,.str b,_=>beq_self_eq_true b
 |0,.tup _,h=>ft h|n+1,.tup ds,h=>ZiN n ds (gU.mp h)|n,.aZ _,h=>by cases n<;>exact ft h|n,.ref _,h=>by cases n<;>exact ft h
theorem ZiN:∀(n:Nat) (ds:List D),(∀d∈ds,dD n d=true)->iW ds ds=true
 |_,[],_=>rfl|n,d::ds,h=>by simp only[ZtF,QV,Y5];exact⟨Zo0 n d (h d Yd),ZiN n ds λx hx=>h x (Yc _ hx)⟩
end
def Rt(o:O3)(d:D):Prop:=∃M',o= .rt d M'
theorem Rt.set{g:S3}{r:D}(h:f env M= .ok d M')(k:Rt (g env' M') r)(he:env.set i (Ya d)=env':=by first|(dsimp only[oJ,oK]<;>exact rfl)|exact rfl):Rt (Zr (au i f) g env M) r:=by rw[Rt,Zi (Zo h he)];exact k
theorem Rt.expr{g:S3}{r:D}(h:f env M= .ok d M')(k:Rt (g env M') r):Rt (Zr (aP f) g env M) r:=by rw[Rt,Zi (qe h)];exact k
theorem Rt.skip{c:E3}{u g:S3}{r:D}(h:c env M= .ok (.bl false) M')(k:Rt (g env M') r):Rt (Zr (aK c u aX) g env M) r:=by rw[Rt,Zi (cT h)];exact k
theorem Rt.loop{i:I3}{t:G3}{u g:S3}{M M' M1:Store}{it:fV}{r:D}(h:i env M= .ok it M1)(hl:iY it t u it.items env M1= .nx env' M')(k:Rt (g env' M') r):Rt (Zr (qd i t u) g env M) r:=by rw[Rt,Zi ((x_ h).trans hl)];exact k
theorem Rt.step{f g:S3}{r:D}(h:f env M= .nx env' M')(k:Rt (g env' M') r):Rt (Zr f g env M) r:=by rw[Rt,Zi h];exact k
theorem Rt.ret(h:f env M= .ok d M'):Rt (aY f env M) d:=⟨M',di h⟩
theorem Rt.law{ps:Nat}{b:Bool}(h:Rt (body env []) (.bl b))(hl:ds.length=ps:=by rfl)(he:ds.map Ya++Yq (n-ps) Ym=env:=by rfl):∃M',bZ ps n body ds []= .ok (.bl b) M':=by obtain⟨M',h⟩:=h;exact⟨_,(jC h hl he).trans (by rw[dX,if_pos (by simp[below])])⟩
theorem Rt.pure{ps:Nat}{G:Store}(h:body env M= .rt d (M++G))(hd:below M.length d=true)(hl:ds.length=ps:=by rfl)(he:ds.map Ya++Yq (n-ps) Ym=env:=by rfl):bZ ps n body ds M= .ok d M:=(jC h hl he).trans (ZqO hd)
variable{g:E3}
theorem Zh{op:D->D->Store->R3 D}{M M1 M2 M3:Store}{a b d:D}(h1:f env M= .ok a M1)(h2:g env M1= .ok b M2)(h3:op a b M2= .ok d M3):e2 op f g env M= .ok d M3:=by simp only[e2,h1,h2,h3,R3.bind]
variable{F:F3}
theorem d_{M M1 M2:Store}{a:D}(h1:f env M= .ok a M1)(h2:F [a] M1= .ok d M2):aN F (Zb f Zf) env M= .ok d M2:=by simp only[aN,Zb,Zf,h1,h2,R3.bind]
theorem tY{M M1 M2 M3:Store}{a b d:D}(h1:f env M= .ok a M1)(h2:g env M1= .ok b M2)(h3:F [a,b] M2= .ok d M3):aN F (Zb f (Zb g Zf)) env M= .ok d M3:=by simp only[aN,Zb,Zf,h1,h2,h3,R3.bind]
theorem Zty{h:E3}{M M1 M2 M3 M4:Store}{a b c d:D}(h1:f env M= .ok a M1)(h2:g env M1= .ok b M2)(h3:h env M2= .ok c M3)(h4:F [a,b,c] M3= .ok d M4):aN F (Zb f (Zb g (Zb h Zf))) env M= .ok d M4:=by simp only[aN,Zb,Zf,h1,h2,h3,h4,R3.bind]
@[simp] theorem Zxa(a b:nC):(a==b)=decide (a=b):=by cases a<;>cases b<;>rfl
theorem Fi{f g h k:E3}{M M1 M2 M3 M4 M5:Store}{a b c d e:D}(h1:f env M= .ok a M1)(h2:g env M1= .ok b M2)(h3:h env M2= .ok c M3)(h4:k env M3= .ok d M4)(h5:F [a,b,c,d] M4= .ok e M5):aN F (Zb f (Zb g (Zb h (Zb k Zf)))) env M= .ok e M5:=by simp only[aN,Zb,Zf,h1,h2,h3,h4,h5,R3.bind]
theorem b8{b:List D->Store->R3 D}{M M1 M2:Store}{a:D}(h1:f env M= .ok a M1)(h2:b [a] M1= .ok d M2):aB b (Zb f Zf) env M= .ok d M2:=by simp only[aB,Zb,Zf,h1,h2,R3.bind]
theorem fM{op:D->Store->R3 D}{M M1 M2:Store}{a:D}(h1:f env M= .ok a M1)(h2:op a M1= .ok d M2):e1 op f env M= .ok d M2:=by simp only[e1,h1,h2,R3.bind]
theorem Zx{g:d9}{M M1 M2:Store}(h1:f env M= .ok d M1)(h2:g env M1= .ok ds M2):Zb f g env M= .ok (d::ds) M2:=by simp only[Zb,h1,h2,R3.bind]
theorem lU{g:d9}(h:g env M= .ok ds M')(hl:decide (ds.length<=100)=true):fW g env M= .ok (.tup ds) M':=by have:=of_decide_eq_true hl;simp only[fW,h,R3.bind];rw[if_pos (Yj this (by decide))]
variable{xs:List D}
theorem j7(h:M[n]?=Ya (.lst xs)):a_ [.ref n] M= .ok (.int (xs.length:Int)) M:=by simp only[Ai,Aj,Ak,q8,h]
theorem o4(h:M[n]?=Ya (.lst xs)):gB [.ref n] M= .ok (.tup xs) M:=by simp only[ZjE,Zjy,Al,h]
theorem iG{i:Int}(h:M[n]?=Ya (.lst xs))(hd:gA xs i=Ya d):Zn (.ref n) (.int i) M= .ok d M:=by simp only[Q4,Q5,JQ,Q6,h,hd]
theorem yc{i:Int}(hd:gA xs i=Ya d):Zn (.tup xs) (.int i) M= .ok d M:=by simp only[Q4,Q5,JQ,Q6,hd]
theorem JW{a b:Int}(h:a<=b):nD (.int a) (.int b) M= .ok (.bl true) M:=by simp only[Q0,decide_eq_true h]
theorem Zxx{a b:Int}(h:¬a<=b):nD (.int a) (.int b) M= .ok (.bl false) M:=by simp only[Q0,decide_eq_false h]
theorem rE{a b:Int}(h:a=b):aW (.int a) (.int b) M= .ok (.bl true) M:=by simp only[aW,Af,xV,xW,JP,Eu,decide_eq_true h]
theorem vK{a b:Int}(h:¬a=b):aW (.int a) (.int b) M= .ok (.bl false) M:=by simp only[aW,Af,xV,xW,JP,Eu,decide_eq_false h]
theorem Zxp{a b:List Nat}(h:¬a=b):gw (.str a) (.str b) M= .ok (.bl true) M:=by simp only[gw,Af,xV,xW,JP,Eu,decide_eq_false h];rfl
theorem ZwE{a b:List Nat}(h:a=b):gw (.str a) (.str b) M= .ok (.bl false) M:=by simp only[gw,Af,xV,xW,JP,Eu,decide_eq_true h];rfl
theorem dY{i j:Int}(h:0<j):Zy (.int i) (.int j) M= .ok (.int (i % j)) M:=by simp only[Zlb,if_pos h]
theorem o5{M M1:Store}(h1:f env M= .ok (.bl false) M1):eN f g env M=g env M1:=by simp only[eN,h1,R3.bind]
theorem Fj{M M1:Store}(h1:f env M= .ok (.bl true) M1):eN f g env M= .ok (.bl true) M1:=by simp only[eN,h1,R3.bind]
theorem iH{M M1:Store}(h1:f env M= .ok (.bl true) M1):bD f g env M=g env M1:=by simp only[bD,h1,R3.bind]
theorem lV{M M1:Store}(h1:f env M= .ok (.bl false) M1):bD f g env M= .ok (.bl false) M1:=by simp only[bD,h1,R3.bind]
theorem Fl{c:E3}{M M1:Store}(h1:c env M= .ok (.bl true) M1):j5 c f g env M=f env M1:=by simp only[j5,h1,R3.bind]
theorem Fo{c:E3}{M M1:Store}(h1:c env M= .ok (.bl false) M1):j5 c f g env M=g env M1:=by simp only[j5,h1,R3.bind]
theorem vL{enc:α->D}{h:α->D}{own:Nat}{it:I3}{elt:E3}{M M1:Store}{lock:Option Nat}{as:List α}(hi:it env M= .ok ⟨as.map enc,lock⟩ M1)(MJ:∀n,lock=Ya n->M1[n]?=Ya (.lst (as.map enc)))(he:∀a∈as,∀M,elt ((env++Yq own Ym).set i (Ya (enc a))) M= .ok (h a) M)(hz:as.length<=100000):fL it own (cj i) [] elt env M= .ok (.ref M1.length) (M1++[.lst (as.map h)]):=by
 rw [Rc hi];obtain⟨es,le,re,hh⟩:=Zpw (it:=⟨as.map enc,lock⟩) (i:=i) (n:=M1.length) (elt:=elt) (R:=λd e=>∀a∈as,d=enc a->e=h a) (env0:=env++Yq own Ym) (as.map enc) [] (env++Yq own Ym) (M1++[.lst []]) (λ_=>rfl)
  (λd hd x=>by obtain⟨a,ha,rfl⟩:=gJ.mp hd;refine⟨h a,he a ha _,λb hb e=>?_⟩;have h1:=he a ha [];have h2:=he b hb [];rw[e,h2]at h1;injection h1 with h1 _;exact h1.symm)
  (λx=>by
   cases lock with
   |none=>rfl|some n=>have hn:=MJ n rfl;have hlt:=(Yf.mp hn).1;simp only[locked,decide_eq_true_eq];rw[Yr (by exactλz=>lB 2 25787699233 T1 z hlt),Yi hlt,hn]) (by simp) (by simp;exact lA 1 0xf42405b00186a05b001 T1 hz)
 rw [show(⟨as.map enc,lock⟩:fV).items=as.map enc from rfl,hh];have:es=as.map h:=by
  apply zp;intro j;rw[jV];cases ha:as[j]? with
  |none=>
   have:as.length<=j:=by simpa using ha
   simp[le];exact this
  | some a=>
   have hj:j<es.length:=by have:=(Yf.mp ha).1;simpa[le]using this
   have h2:=re j (enc a) es[j] (by simp[ha]) (by simp[hj]) a (wR ha) rfl;rw[Y9 hj,h2];rfl
 rw[this];simp
noncomputable def ZrE(cs:List (Int×Int))(n v:Int):List (Int×Int):=cs.filter (λc=>decide (c.1<n))++(if v≠0 then[(n,v)]else[])++cs.filter (λc=>decide (n<c.1))
noncomputable def Row.cells(bs:List Int)(cs:List (Int×Int)):Row->List (Int×Int)
 | .set a b=>ZrE cs (bs.getD a 0) (bs.getD b 0)|_=>cs
noncomputable def gM(i:Int):List Nat:=(PySem.Str.ofString (Eb i)).cps.toList
noncomputable section
local instance (priority:=100000) Ad5 (p:Prop):Decidable p:=Yx p
noncomputable def yd(ds:List D)(M:Store):R3 D:=match ds with
 |[.int i]=>if i.natAbs.log2<1920 then .ok (.str (gM i)) M else .bad|[.str x]=>.ok (.str x) M|_=>.bad
@[simp] theorem ZnE:∀i,yd ([.int i]) M=(if i.natAbs.log2<1920 then .ok (.str (gM i)) M else .bad):=λ_=>rfl
@[simp] theorem ZsM:∀x,yd ([.str x]) M= .ok (.str x) M:=λ_=>rfl
noncomputable def ir:List D->Option (List (List Nat))
 |[]=>Ya []|.str x::ds=>(ir ds).map (x:: ·)|_=>Ym
noncomputable def glue(sep:List Nat):List (List Nat)->List Nat
 |[]=>[]|[x]=>x|x::y::xs=>x++sep++glue sep (y::xs)
noncomputable def j8(sep:List Nat)(ts:List (List Nat)):Nat:=(ts.map λt=>t.length+sep.length).sum
noncomputable def Av(o:D)(ds:List D)(M:Store):R3 D:=match o,ds with
 | .str sep,[.ref n]=>match M[n]? with
  |some (.lst x)=>match ir x with
   |some ts=>if j8 sep ts<=SZ then .ok (.str (glue sep ts)) M else .bad|none=>.bad
  |_=>.bad
 |_,_=>.bad
@[simp] theorem Zll:∀sep n,Av (.str sep) ([.ref n]) M=(match M[n]? with
  |some (.lst x)=>match ir x with
   |some ts=>if j8 sep ts<=SZ then .ok (.str (glue sep ts)) M else .bad|none=>.bad
  |_=>.bad):=λ_ _=>rfl
noncomputable def nO(x y:List Nat):List (List Nat):=(Z8 ⟨x.toArray⟩ ⟨y.toArray⟩).map λt=>t.cps.toList
noncomputable def vM(o:D)(ds:List D)(M:Store):R3 D:=match o,ds with
 | .str x,[.str y]=>if 0<y.length/\x.length+2<=SZ then alloc (.lst ((nO x y).map D.str)) M else .bad|_,_=>.bad
@[simp] theorem ZjH:∀x y,vM (.str x) ([.str y]) M=(if 0<y.length/\x.length+2<=SZ then alloc (.lst ((nO x y).map D.str)) M else .bad):=λ_ _=>rfl
noncomputable def tZ(ds:List D)(M:Store):R3 D:=match ds with
 |[.str x]=>match HW ⟨x.toArray⟩with
  |some n=>if x.length<=640 then .ok (.int n) M else .bad|none=>.bad
 |ds=>Fd ds M
@[simp] theorem Zql:∀x,tZ ([.str x]) M=(match HW ⟨x.toArray⟩with
  |some n=>if x.length<=640 then .ok (.int n) M else .bad|none=>.bad):=λ_=>rfl
@[simp] theorem Zpu:∀i,tZ [.int i] M= .ok (.int i) M:=λ_=>rfl
@[simp] theorem Zv9:∀b,tZ [.bl b] M=Fd [.bl b] M:=λ_=>rfl
@[simp] noncomputable def Fp(T1 T2:nC)(d:D)(M:Store):R3 D:=match jN T1 d M,jN T2 d M with
 |some a,Ya b=>.ok (.bl (a|| b)) M|_,_=>.bad
end
noncomputable section
noncomputable def Zyj(f:E3)(g:G3):S3:=λenv M=>match f env M with
 | .ok d M1=>match g d env with
  |some dg=>.nx dg M1|none=>.bad
 | .exc x M1=>.exc x M1|.bad=>.bad
structure Fq where
 items:List D
 lk:List (Nat×List D)
noncomputable def jt(lk:List (Nat×List D))(M:Store):Bool:=lk.all λq=>decide (M[q.1]?=Ya (.lst q.2))
noncomputable abbrev ye:=bL->Store->R3 Fq
noncomputable def lW:Nat->List D->List D
 |_,[]=>[]|k,d::ds=>.tup [.int k,d]::lW (k+1) ds
@[simp] noncomputable def Rf(f:E3):ye:=λenv M=>(f env M).bind λa M1=>match a with
 | .tup ds=>.ok ⟨lW 0 ds,[]⟩ M1|.ref n=>match M1[n]? with
  |some (.lst ds)=>.ok ⟨lW 0 ds,[(n,ds)]⟩ M1|_=>.bad
 |_=>.bad
noncomputable def qg(f:E3)(is:List Nat):S3:=λenv M=>match f env M with
 | .ok (.ref n) M1=>(match M1[n]? with
  |some (.lst ds)=>(match bindAll is ds env with
   |some dg=>.nx dg M1|none=>.bad)
  |_=>.bad)
 |_=>.bad
noncomputable def yg(a b:D)(M:Store):R3 D:=match b with
 | .ref n=>match M[n]? with
  |some (.lst ys)=>if dh a&&ys.all dh then .ok (.bl (ys.any λy=>dN y a)) M else .bad|_=>.bad
 |_=>.bad
@[simp] theorem Zqy{a:D}:∀n,yg a (.ref n) M=(match M[n]? with
  |some (.lst ys)=>if dh a&&ys.all dh then .ok (.bl (ys.any λy=>dN y a)) M else .bad|_=>.bad):=λ_=>rfl
theorem JX:∀(k:Nat) (ds:List D) (i:Nat),(lW k ds)[i]?=(ds[i]?).map λd=>.tup [.int ((k+i:Nat):Int),d]
 |_,[],_=>by simp[lW]|k,d::ds,0=>by simp[lW]|k,d::ds,i+1=>by simp only[lW,Dk,JX (k+1) ds i];rw[show k+1+i=k+(i+1)by exact Y4 (lB 0 0xa1c0c1a0cc0 T1) (lB 0 1790139547840 T1)]
theorem JZ:∀(k:Nat) (ds:List D),(lW k ds).length=ds.length
 |_,[]=>rfl|k,d::ds=>by simp[lW,JZ (k+1) ds]
end
noncomputable section
noncomputable def ZvZ:List D->List D->List D
 |a::x,b::y=>.tup [a,b]::ZvZ x y|_,_=>[]
@[simp] noncomputable def Zya(f g:E3):ye:=λenv M=>(f env M).bind λa M1=>(g env M1).bind λb M2=>match a,b with
 | .ref n,.ref m=>match M2[n]?,M2[m]? with
  |some (.lst x),Ya (.lst y)=>.ok ⟨ZvZ x y,[(n,x),(m,y)]⟩ M2|_,_=>.bad
 |_,_=>.bad
section
local instance (priority:=100000) Ad6 (p:Prop):Decidable p:=Yx p
noncomputable def ju(lk:List (Nat×List D))(g:G3)(ifs:List E3)(elt:E3)(n:Nat):List D->bL->Store->R3 D
 |[],_,M=>if jt lk M then .ok (.ref n) M else .bad|d::ds,env,M=>if jt lk M then match g d env with
  |none=>.bad|some dg=>(tX ifs dg M).bind λb M1=>if b then(elt dg M1).bind λv M2=>match M2[n]? with
    |some (.lst xs)=>if xs.length<SZ then ju lk g ifs elt n ds dg (M2.set n (.lst (xs++[v])))else .bad|_=>.bad
   else ju lk g ifs elt n ds dg M1
  else .bad
end
noncomputable def vN(i:ye)(own:Nat)(g:G3)(ifs:List E3)(elt:E3):E3:=λenv M=>(i env M).bind λit M1=>ju it.lk g ifs elt M1.length it.items (env++Yq own Ym) (M1++[.lst []])
section
local instance (priority:=100000) Ad7 (p:Prop):Decidable p:=Yx p
noncomputable def o6(o:D)(ds:List D)(M:Store):R3 D:=match o,ds with
 | .ref n,[.ref m]=>match M[n]?,M[m]? with
  |some (.lst x),Ya (.lst y)=>if n≠m/\x.length+y.length<=SZ then .ok .non (M.set n (.lst (x++y)))else .bad|_,_=>.bad
 | .ref n,[.tup y]=>match M[n]? with
  |some (.lst x)=>if x.length+y.length<=SZ then .ok .non (M.set n (.lst (x++y)))else .bad|_=>.bad
 |_,_=>.bad
@[simp] theorem Aw:∀n m,o6 (.ref n) ([.ref m]) M=(match M[n]?,M[m]? with
  |some (.lst x),Ya (.lst y)=>if n≠m/\x.length+y.length<=SZ then .ok .non (M.set n (.lst (x++y)))else .bad|_,_=>.bad):=λ_ _=>rfl
@[simp] theorem Ax:∀n y,o6 (.ref n) ([.tup y]) M=(match M[n]? with
  |some (.lst x)=>if x.length+y.length<=SZ then .ok .non (M.set n (.lst (x++y)))else .bad|_=>.bad):=λ_ _=>rfl
end
end
noncomputable section
end
noncomputable def vO(f:List Nat)(d:D):List (List Nat×D)->List (List Nat×D)
 |[]=>[(f,d)]|(g,x)::r=>if g=f then(g,d)::r else(g,x)::vO f d r
noncomputable def jw(c f:List Nat)(a:D)(M:Store):R3 D:=match a with
 | .ref n=>match M[n]? with
  |some (.ins c' fs)=>if c'=c then(match fs.lookup f with
   |some d=>.ok d M|none=>.bad)else .bad
  |_=>.bad
 |_=>.bad
@[simp] theorem Zl8{c:List Nat}{f:List Nat}:∀n,jw c f (.ref n) M=(match M[n]? with
  |some (.ins c' fs)=>if c'=c then(match fs.lookup f with
   |some d=>.ok d M|none=>.bad)else .bad
  |_=>.bad):=λ_=>rfl
noncomputable def ZqM(c f:List Nat)(v a:D)(M:Store):R3 D:=match a with
 | .ref n=>match M[n]? with
  |some (.ins c' fs)=>if c'=c/\fs.length<1000 then .ok .non (M.set n (.ins c (vO f v fs)))else .bad|_=>.bad
 |_=>.bad
@[simp] theorem Rg{c:List Nat}{f:List Nat}{v:D}:∀n,ZqM c f v (.ref n) M=(match M[n]? with
  |some (.ins c' fs)=>if c'=c/\fs.length<1000 then .ok .non (M.set n (.ins c (vO f v fs)))else .bad|_=>.bad):=λ_=>rfl
noncomputable def Ft(c f:List Nat)(o v:E3):S3:=aP (e2 (ZqM c f) v o)
@[simp] noncomputable def Ay(c:List Nat)(F:F3)(g:d9):E3:=λenv M=>(g env M).bind λds M1=>match F (.ref M1.length::ds) (M1++[.ins c []])with
 | .ok .non M2=>.ok (.ref M1.length) M2|_=>.bad
noncomputable section
end
noncomputable section
end
noncomputable section
noncomputable abbrev J0:=List (List Nat×List (List Nat))
noncomputable def Rh(f:E3):ye:=λenv M=>(f env M).bind λa M1=>match a with
 | .ref n=>match M1[n]? with
  |some (.lst ds)=>.ok ⟨lW 1 ds,[(n,ds)]⟩ M1|_=>.bad
 |_=>.bad
end
noncomputable section
noncomputable abbrev j9:=List (List Nat×Int)
noncomputable def dR(x:List Nat):j9->Option Int
 |[]=>Ym|(k,v)::r=>if x=k then Ya v else dR x r
noncomputable def t7(t:j9)(d e:D)(M:Store):R3 D:=match d with
 | .str x=>match dR x t with
  |some i=>.ok (.int i) M|none=>.ok e M
 | .int _=>.ok e M|_=>.bad
end
noncomputable section
end
noncomputable section
local instance (priority:=100000) Ad8 (p:Prop):Decidable p:=Yx p
end
open PySem PySem.Spec PyProof.Rows L2
noncomputable abbrev St:=L2.St
theorem jD:SZ<=bw:=by rw[zB];decide
def o7(K:Yb)(H:Hp)(a:Y1)(xs:List V):Prop:=
 (∃o,H a=Ya (.fJ o (.lst xs)))\/
  ∃(o:aM) (its:Array Yh) (n:Nat),K.lookup a=Ya o/\o.cls= .type "list" /\o.dict=Ym/\o.data= .seq its n/\its.size<=bw/\Vals xs its.toList
variable{K:Yb}{H:Hp}
theorem o7.sq{a:Y1}{xs:List V}(h:o7 K H a xs):bC K H a xs:=by
 rcases h with⟨o,h⟩|h
 .exact .inl (.inr ⟨o,h⟩)
 .exact .inr h
mutual
noncomputable def Rep(K:Yb)(H:Hp)(ι:List Y1):D->V->Prop
 | .non,v=>v= .non|.bl b,v=>v= .bl b|.int i,v=>v= .int i|.str x,v=>v= .str ⟨x.toArray⟩
 | .tup ds,v=>∃a vs,v= .ref a/\cG K H a vs/\Zw K H ι ds vs|.aZ ds,v=>∃a vs,v= .ref a/\o7 K H a vs/\Zw K H ι ds vs|.ref n,v=>∃a,ι[n]?=Ya a/\v= .ref a
noncomputable def Zw(K:Yb)(H:Hp)(ι:List Y1):List D->List V->Prop
 |[],vs=>vs=[]|d::ds,vs=>∃v ws,vs=v::ws/\Rep K H ι d v/\Zw K H ι ds ws
end
structure Ext(K:Yb)(H:Hp)(ι:List Y1)(H':Hp)(ι':List Y1):Prop where
 tup:∀a xs,cG K H a xs->cG K H' a xs
 aZ:∀a xs,o7 K H a xs->o7 K H' a xs
 pre:∀(n:Nat) (a:Y1),ι[n]?=Ya a->ι'[n]?=Ya a
 fJ:∀a o u,H a=Ya (.fJ o u)->H' a=Ya (.fJ o u)
variable{vs:List V}{v:V}
section
variable {K:Yb} {H H' H1 H2:Hp} {ι ι' ι1 ι2:List Y1}
theorem Ext.refl:Ext K H ι H ι:=⟨λ_ _ h=>h,λ_ _ h=>h,λ_ _ h=>h,λ_ _ _ h=>h⟩
theorem Ext.trans(a:Ext K H ι H1 ι1)(b:Ext K H1 ι1 H2 ι2):Ext K H ι H2 ι2:=⟨λx xs h=>b.tup x xs (a.tup x xs h),λx xs h=>b.aZ x xs (a.aZ x xs h),λn x h=>b.pre n x (a.pre n x h),λx o u h=>b.fJ x o u (a.fJ x o u h)⟩
mutual
theorem Rep.mono(e:Ext K H ι H' ι'):∀{d:D} {v:V},Rep K H ι d v->Rep K H' ι' d v
 | .non,_,h=>h|.bl _,_,h=>h|.int _,_,h=>h|.str _,_,h=>h
 | .tup ds,_,h=>by obtain⟨a,vs,rfl,s,r⟩:=h;exact⟨a,vs,rfl,e.tup _ _ s,Zw.mono e (ds:=ds) r⟩|.aZ ds,_,h=>by obtain⟨a,vs,rfl,s,r⟩:=h;exact⟨a,vs,rfl,e.aZ _ _ s,Zw.mono e (ds:=ds) r⟩|.ref n,_,h=>by obtain⟨a,s,rfl⟩:=h;exact⟨a,e.pre _ _ s,rfl⟩
theorem Zw.mono(e:Ext K H ι H' ι'):∀{ds:List D} {vs:List V},Zw K H ι ds vs->Zw K H' ι' ds vs
 |[],_,h=>h|d::ds,_,h=>by obtain⟨v,ws,rfl,r,q⟩:=h;exact⟨v,ws,rfl,Rep.mono e (d:=d) r,Zw.mono e (ds:=ds) q⟩
end
mutual
theorem Rep.keep(ht:∀a xs,cG K H a xs->cG K H' a xs)(hs:∀a xs,o7 K H a xs->o7 K H' a xs):∀{d:D} {v:V},Rep K H ι d v->Rep K H' ι d v
 | .non,_,h=>h|.bl _,_,h=>h|.int _,_,h=>h|.str _,_,h=>h
 | .tup ds,_,h=>by obtain⟨a,vs,rfl,s,r⟩:=h;exact⟨a,vs,rfl,ht _ _ s,Zw.keep ht hs (ds:=ds) r⟩|.aZ ds,_,h=>by obtain⟨a,vs,rfl,s,r⟩:=h;exact⟨a,vs,rfl,hs _ _ s,Zw.keep ht hs (ds:=ds) r⟩|.ref n,_,h=>h
theorem Zw.keep(ht:∀a xs,cG K H a xs->cG K H' a xs)(hs:∀a xs,o7 K H a xs->o7 K H' a xs):∀{ds:List D} {vs:List V},Zw K H ι ds vs->Zw K H' ι ds vs
 |[],_,h=>h|d::ds,_,h=>by obtain⟨v,ws,rfl,r,q⟩:=h;exact⟨v,ws,rfl,Rep.keep ht hs (d:=d) r,Zw.keep ht hs (ds:=ds) q⟩
end
theorem Zw.nil:Zw K H ι [] []:=rfl
theorem Zw.cons{d:D}{ds:List D}{v:V}{vs:List V}(h:Rep K H ι d v)(t:Zw K H ι ds vs):Zw K H ι (d::ds) (v::vs):=⟨v,vs,rfl,h,t⟩
theorem Zw.nil_inv(h:Zw K H ι [] vs):vs=[]:=h
theorem Zw.cons_inv(h:Zw K H ι (d::ds) vs):∃v ws,vs=v::ws/\Rep K H ι d v/\Zw K H ι ds ws:=h
theorem Zw.length:∀{ds:List D} {vs:List V},Zw K H ι ds vs->vs.length=ds.length
 |[],_,h=>by rw[h.nil_inv];rfl|d::ds,_,h=>by obtain⟨v,ws,rfl,_,q⟩:=h.cons_inv;exact congrArg Nat.succ q.length
theorem Zw.append:∀{ds es:List D} {vs ws:List V},Zw K H ι ds vs->Zw K H ι es ws->Zw K H ι (ds++es) (vs++ws)
 |[],_,_,_,h,q=>by rw[h.nil_inv];exact q|d::ds,_,_,_,h,q=>by obtain⟨v,us,rfl,r,t⟩:=h.cons_inv;exact Zw.cons r (t.append q)
theorem Zw.drop:∀{ds:List D} {vs:List V} (n:Nat),Zw K H ι ds vs->Zw K H ι (ds.drop n) (vs.drop n)
 |_,_,0,h=>h|[],_,n+1,h=>by rw[h.nil_inv];exact Zw.nil|d::ds,_,n+1,h=>by obtain⟨v,us,rfl,r,t⟩:=h.cons_inv;exact t.drop n
theorem Zw.take:∀{ds:List D} {vs:List V} (n:Nat),Zw K H ι ds vs->Zw K H ι (ds.take n) (vs.take n)
 |_,_,0,h=>Zw.nil|[],_,n+1,h=>by rw[h.nil_inv];exact Zw.nil|d::ds,_,n+1,h=>by obtain⟨v,us,rfl,r,t⟩:=h.cons_inv;exact Zw.cons r (t.take n)
theorem Zw.get:∀{ds:List D} {vs:List V} {i:Nat} {d:D},Zw K H ι ds vs->ds[i]?=Ya d->∃v,vs[i]?=Ya v/\Rep K H ι d v
 |[],_,_,_,_,e=>by simp at e|d::ds,_,0,_,h,e=>by obtain⟨v,us,rfl,r,t⟩:=h.cons_inv;simp at e;subst e;exact⟨v,rfl,r⟩
 |d::ds,_,i+1,_,h,e=>by obtain⟨v,us,rfl,r,t⟩:=h.cons_inv;obtain⟨w,q,z⟩:=t.get (i:=i) (by simpa using e);exact⟨w,by simpa using q,z⟩
theorem Zw.set:∀{ds:List D} {vs:List V} {d:D} {v:V} (i:Nat),Zw K H ι ds vs->Rep K H ι d v->Zw K H ι (ds.set i d) (vs.set i v)
 |[],_,_,_,_,h,_=>by rw[h.nil_inv];exact Zw.nil|d::ds,_,_,_,0,h,q=>by obtain⟨v,us,rfl,r,t⟩:=h.cons_inv;exact Zw.cons q t
 |d::ds,_,_,_,i+1,h,q=>by obtain⟨v,us,rfl,r,t⟩:=h.cons_inv;exact Zw.cons r (t.set i q)
theorem Zw.ints:∀(ns:List Int),Zw K H ι (ns.map D.int) (ns.map V.int)
 |[]=>Zw.nil|n::ns=>Zw.cons rfl (Zw.ints ns)
theorem Rep.jj(h:Rep K H ι .non v):v= .non:=h
theorem Rep.gn{b:Bool}(h:Rep K H ι (.bl b) v):v= .bl b:=h
theorem Rep.int_inv{i:Int}(h:Rep K H ι (.int i) v):v= .int i:=h
theorem Rep.str_inv{x:List Nat}(h:Rep K H ι (.str x) v):v= .str ⟨x.toArray⟩:=h
theorem Rep.i_(h:Rep K H ι (.tup ds) v):∃a vs,v= .ref a/\cG K H a vs/\Zw K H ι ds vs:=h
theorem Rep.rR(h:Rep K H ι (.aZ ds) v):∃a vs,v= .ref a/\o7 K H a vs/\Zw K H ι ds vs:=h
theorem Rep.dJ(h:Rep K H ι (.ref n) v):∃a,ι[n]?=Ya a/\v= .ref a:=h
theorem Rep.non:Rep K H ι .non .non:=rfl
theorem Rep.bl{b:Bool}:Rep K H ι (.bl b) (.bl b):=rfl
theorem Rep.int{i:Int}:Rep K H ι (.int i) (.int i):=rfl
theorem Rep.str{x:List Nat}:Rep K H ι (.str x) (.str ⟨x.toArray⟩):=rfl
theorem Rep.tup{a:Y1}{vs:List V}{ds:List D}(s:cG K H a vs)(r:Zw K H ι ds vs):Rep K H ι (.tup ds) (.ref a):=⟨a,vs,rfl,s,r⟩
theorem Rep.ref{a:Y1}(s:ι[n]?=Ya a):Rep K H ι (.ref n) (.ref a):=⟨a,s,rfl⟩
end
def ExO(e C:Y1)(h:aO):Prop:=∃o vs,h.get? e=Ya o/\o.cls= .ref C/\o.data= .fields vs
noncomputable abbrev exH(e C:Y1):HO:=.ext (ExO e C)
noncomputable def dk:iC->Key
 | .inl i=>.inl i|.inr x=>.inr ⟨x.toArray⟩
def cX(K:Yb)(H:Hp)(ι:List Y1)(kvs:List (iC×D))(ws:List (Key×V)):Prop:=ws.map (·.1)=kvs.map (λp=>dk p.1)/\Zw K H ι (kvs.map (·.2)) (ws.map (·.2))
def fO(K:Yb)(H:Hp)(ι:List Y1)(fs:List (List Nat×D))(gs:List (aj×V)):Prop:=gs.map (·.1)=fs.map (λp=>(⟨p.1.toArray⟩:aj))/\Zw K H ι (fs.map (·.2)) (gs.map (·.2))
def ClsAt(K:Yb)(c:List Nat)(C:Y1):Prop:=PySem.W.nsIn K Yy ⟨c.toArray⟩=Ya (Ya (.ref C))
noncomputable def lX(K:Yb)(H:Hp)(ι:List Y1):MO->Y1->Prop
 | .lst xs,a=>∃vs,H a=Ya (.lst vs)/\Zw K H ι xs vs|.dct kvs,a=>∃ws,H a=Ya (.dK ws)/\cX K H ι kvs ws|.cL kvs,a=>∃ws,(∃o,H a=Ya (.fJ o (.dK ws)))/\cX K H ι kvs ws|.ins c fs,a=>(∃C dx gs,H a=Ya (.ins C dx gs)/\(ClsAt K c C/\c.head?≠Ya 0)/\fO K H ι fs gs)\/∃C,H a=Ya (exH a C)/\c.head?=Ya 0/\ClsAt K c.tail C/\fs=[]
structure aD(K:Yb)(H:Hp)(ι:List Y1)(M:Store):Prop where
 len:ι.length=M.length
 nd:ι.Nodup
 obj:∀(n:Nat) o a,M[n]?=Ya o->ι[n]?=Ya a->lX K H ι o a
def Loose(H:Hp)(p:Y1):Prop:=H p=Ym\/(∃vs,H p=Ya (.lst vs))\/(∃ws,H p=Ya (.dK ws))\/∃C dx gs,H p=Ya (.ins C dx gs)
variable{m:MO}
section
variable {K:Yb} {H H':Hp} {ι ι':List Y1} {M:Store} {p:Y1} {o:HO}
theorem Loose.ne{a:Y1}{u:HO}(l:Loose H p)(h:H a=Ya u)(h1:∀vs,u≠ .lst vs)(h2:∀ws,u≠ .dK ws)(h3:∀C dx gs,u≠ .ins C dx gs:=by exactλ_ _ _ z=>nomatch z):a≠p:=by
 rintro rfl;rcases l with l|⟨vs,l⟩|⟨ws,l⟩|⟨C,dx,gs,l⟩
 .rw[h]at l;cases l
 .rw[h]at l;exact h1 vs (Y8 l)
 .rw[h]at l;exact h2 ws (Y8 l)
 .rw[h]at l;exact h3 C dx gs (Y8 l)
theorem Loose.tup(l:Loose H p){a:Y1}{xs:List V}(h:cG K H a xs):cG K (upd H p o) a xs:=by
 rcases h with(h|⟨ob,h⟩)|h
 .exact .inl (.inl (by rw[fK (l.ne h (λ_ z=>nomatch z) (λ_ z=>nomatch z))];exact h))
 .exact .inl (.inr ⟨ob,by rw[fK (l.ne h (λ_ z=>nomatch z) (λ_ z=>nomatch z))];exact h⟩)
 .exact .inr h
theorem Loose.aZ(l:Loose H p){a:Y1}{xs:List V}(h:o7 K H a xs):o7 K (upd H p o) a xs:=by
 rcases h with⟨ob,h⟩|h
 .exact .inl ⟨ob,by rw[fK (l.ne h (λ_ z=>nomatch z) (λ_ z=>nomatch z))];exact h⟩
 .exact .inr h
theorem Loose.fJ(l:Loose H p){a:Y1}{ob:aM}{u:HO}(h:H a=Ya (.fJ ob u)):upd H p o a=Ya (.fJ ob u):=by rw[fK (l.ne h (λ_ z=>nomatch z) (λ_ z=>nomatch z))];exact h
theorem Loose.ext(l:Loose H p):Ext K H ι (upd H p o) ι:=⟨λ_ _ h=>l.tup h,λ_ _ h=>l.aZ h,λ_ _ h=>h,λ_ _ _ h=>l.fJ h⟩
theorem Loose.Hf(l:Loose H p):Ext K H ι (upd H p o) (ι++[p]):=⟨λ_ _ h=>l.tup h,λ_ _ h=>l.aZ h,λn a h=>by rw[Yi (Yf.mp h).1];exact h,λ_ _ _ h=>l.fJ h⟩
theorem lX.mono{a:Y1}(e:Ext K H ι H' ι')(h:lX K H ι m a)(k:H' a=H a):lX K H' ι' m a:=by
 cases m with
 |lst xs=>obtain⟨vs,q,r⟩:=h;exact⟨vs,k.trans q,r.mono e⟩|dct kvs=>obtain⟨ws,q,r1,r2⟩:=h;exact⟨ws,k.trans q,r1,r2.mono e⟩|cL kvs=>obtain⟨ws,⟨o,q⟩,r1,r2⟩:=h;exact⟨ws,⟨o,k.trans q⟩,r1,r2.mono e⟩|ins c fs=>
  rcases h with⟨C,dx,gs,q,c,r1,r2⟩|⟨C,q,r⟩
  .exact .inl ⟨C,dx,gs,k.trans q,c,r1,r2.mono e⟩
  .exact .inr ⟨C,k.trans q,r⟩
theorem lX.ne{a:Y1}(h:lX K H ι m a):H a≠Ym:=by
 cases m with
 |lst xs=>obtain⟨vs,q,r⟩:=h;rw[q];simp|dct kvs=>obtain⟨ws,q,r⟩:=h;rw[q];simp|cL kvs=>obtain⟨ws,⟨o,q⟩,r⟩:=h;rw[q];simp|ins c fs=>rcases h with⟨C,dx,gs,q,r⟩|⟨C,q,r⟩<;>(rw[q];simp)
theorem aD.at(S:aD K H ι M)(h:M[n]?=Ya m):∃a,ι[n]?=Ya a/\lX K H ι m a:=by
 have hn:n<ι.length:=by rw[S.len];exact(Yf.mp h).1
 exact⟨ι[n],by simp[hn],S.obj n m _ h (by simp[hn])⟩
theorem aD.there(S:aD K H ι M){a:Y1}(h:ι[n]?=Ya a):∃m,M[n]?=Ya m/\lX K H ι m a:=by
 have hn:n<M.length:=by rw[←S.len];exact(Yf.mp h).1
 exact⟨M[n],by simp[hn],S.obj n _ _ (by simp[hn]) h⟩
theorem aD.fresh(S:aD K H ι M)(hp:H p=Ym):p∉ι:=λh=>by obtain⟨n,hn⟩:=Nv h;obtain⟨m,_,q⟩:=S.there hn;exact q.ne hp
theorem aD.other(S:aD K H ι M)(l:Loose H p)(hp:p∉ι):aD K (upd H p o) ι M:=⟨S.len,S.nd,λn m a h1 h2=>(S.obj n m a h1 h2).mono l.ext (by rw[fK];rintro rfl;exact hp (wR h2))⟩
theorem aD.new(S:aD K H ι M)(hp:H p=Ym)(h:lX K (upd H p o) (ι++[p]) m p):aD K (upd H p o) (ι++[p]) (M++[m]):=by
 have hf:=S.fresh hp;refine⟨by simp[S.len],?_,λn m' a h1 h2=>?_⟩
 .exact Hx.mpr ⟨S.nd,by simp,λx hx y hy=>by
   have e:y=p:=by simpa using hy
   subst e;rintro rfl;exact hf hx⟩
 .by_cases hn:n<ι.length
  .rw[Yi hn]at h2;rw[Yi (by rw[←S.len];exact hn)]at h1;refine(S.obj n m' a h1 h2).mono (Loose.Hf (.inl hp)) ?_;rw[fK];rintro rfl;exact hf (wR h2)
  .rw[wO (jJ hn)]at h2;rw[wO (by rw[←S.len];exact jJ hn)]at h1;have hlt:n-ι.length<1:=by
    have:=(Yf.mp h2).1;simpa using this
   have e0:n-ι.length=0:=Y4 (lA 1 234922001 T1 hlt) (eZ _);rw[e0]at h2;rw[←S.len,e0]at h1;simp at h1 h2;subst h1 h2;exact h
theorem aD.put(S:aD K H ι M)(l0:Loose H p)(hn:ι[n]?=Ya p)(h:lX K (upd H p o) ι m p):aD K (upd H p o) ι (M.set n m):=by
 obtain⟨m0,hm0,q0⟩:=S.there hn;refine⟨by simp[S.len],S.nd,λk m' a h1 h2=>?_⟩;by_cases hk:k=n
 .subst hk;rw[hn]at h2;cases h2;have hlt:k<M.length:=(Yf.mp hm0).1;rw[Y0 hlt]at h1;cases h1;exact h
 .rw[Yr (cP hk)]at h1;refine(S.obj k m' a h1 h2).mono (Loose.ext l0) ?_;rw[fK];rintro rfl;have hlt1:=(Yf.mp h2);have hlt2:=(Yf.mp hn);exact hk ((WN S.nd).mp (hlt1.2.trans hlt2.2.symm))
theorem aD.lst(S:aD K H ι M)(hp:H p=Ym){xs:List D}{vs:List V}(r:Zw K H ι xs vs):Ext K H ι (upd H p (.lst vs)) (ι++[p])/\aD K (upd H p (.lst vs)) (ι++[p]) (M++[.lst xs])/\Rep K (upd H p (.lst vs)) (ι++[p]) (.ref M.length) (.ref p):=by have e:Ext K H ι (upd H p (.lst vs)) (ι++[p]):=Loose.Hf (.inl hp);refine⟨e,S.new hp ⟨vs,pY,r.mono e⟩,Rep.ref ?_⟩;rw[←S.len];simp
theorem aD.uJ(S:aD K H ι M)(hp:H p=Ym)(r:Zw K H ι xs vs):Ext K H ι (upd H p (.tup vs)) ι/\aD K (upd H p (.tup vs)) ι M/\Rep K (upd H p (.tup vs)) ι (.tup xs) (.ref p):=by have e:Ext K H ι (upd H p (.tup vs)) ι:=Loose.ext (.inl hp);exact⟨e,S.other (.inl hp) (S.fresh hp),Rep.tup (cG.of pY) (r.mono e)⟩
theorem aD.uK(S:aD K H ι M)(l0:Loose H p)(hn:ι[n]?=Ya p)(r:Zw K H ι xs vs):Ext K H ι (upd H p (.lst vs)) ι/\aD K (upd H p (.lst vs)) ι (M.set n (.lst xs)):=by have e:Ext K H ι (upd H p (.lst vs)) ι:=Loose.ext l0;exact⟨e,S.put l0 hn ⟨vs,pY,r.mono e⟩⟩
end
def b_(K:Yb)(H:Hp)(ι:List Y1)(env:bL)(σ:St):Prop:=env.length=σ.length/\∀(i:Nat) d,env[i]?=Ya (Ya d)->∃v,σ[i]?=Ya (Ya v)/\Rep K H ι d v
variable{σ:St}{ι:List Y1}
theorem b_.mono{H':Hp}{ι':List Y1}(r:b_ K H ι env σ)(e:Ext K H ι H' ι'):b_ K H' ι' env σ:=⟨r.1,λi d h=>let⟨v,q,z⟩:=r.2 i d h;⟨v,q,z.mono e⟩⟩
theorem b_.set(r:b_ K H ι env σ)(i:Nat)(h:Rep K H ι d v):b_ K H ι (env.set i (Ya d)) (σ.set i (Ya v)):=by
 refine⟨by simp[r.1],λj e hj=>?_⟩;by_cases hij:j=i
 .subst hij;have hlt:j<env.length:=by
   have:=(Yf.mp hj).1;simpa using this
  rw[Y0 hlt]at hj;cases hj;exact⟨v,by rw[Y0 (by rw[←r.1];exact hlt)],h⟩
 .rw[Yr (cP hij)]at hj;obtain⟨w,q,z⟩:=r.2 j e hj;exact⟨w,by rw[Yr (cP hij)];exact q,z⟩
def Zt(K:Yb)(H:Hp)(ι:List Y1)(Q:VK)(r:R3 D):Prop:=match r with
 | .ok d M'=>∀v H' ι',Ext K H ι H' ι'->aD K H' ι' M'->Rep K H' ι' d v->Q v H'|_=>False
inductive TOf(K:Yb)(f:E3)(σ:St)(H:Hp)(Q:VK):Prop where
 |mk (ι:List Y1) (M:Store) (env:bL) (S:aD K H ι M) (E:b_ K H ι env σ) (h:Zt K H ι Q (f env M)):TOf K f σ H Q
def lY(K:Yb)(f:E3):TE:=λσ H Q=>TOf K f σ H Q
def lZ(K:Yb)(H:Hp)(ι:List Y1)(Q:Bool->Hp->Prop)(r:R3 D):Prop:=match r with
 | .ok (.bl b) M'=>∀H' ι',Ext K H ι H' ι'->aD K H' ι' M'->Q b H'|_=>False
inductive TTf(K:Yb)(f:E3)(σ:St)(H:Hp)(Q:Bool->Hp->Prop):Prop where
 |mk (ι:List Y1) (M:Store) (env:bL) (S:aD K H ι M) (E:b_ K H ι env σ) (h:lZ K H ι Q (f env M)):TTf K f σ H Q
def tTf(K:Yb)(f:E3):TT:=λσ H Q=>TTf K f σ H Q
def Az(K:Yb)(H:Hp)(ι:List Y1)(Q:List V->Hp->Prop)(r:R3 (List D)):Prop:=match r with
 | .ok ds M'=>∀vs H' ι',Ext K H ι H' ι'->aD K H' ι' M'->Zw K H' ι' ds vs->Q vs H'|_=>False
inductive TAf(K:Yb)(f:d9)(σ:St)(H:Hp)(Q:List V->Hp->Prop):Prop where
 |mk (ι:List Y1) (M:Store) (env:bL) (S:aD K H ι M) (E:b_ K H ι env σ) (h:Az K H ι Q (f env M)):TAf K f σ H Q
def Ri(K:Yb)(f:d9):TA:=λσ H Q=>TAf K f σ H Q
def Fv(K:Yb)(H:Hp)(ι:List Y1)(Q:Option Int->Hp->Prop)(r:R3 (Option Int)):Prop:=match r with
 | .ok o M'=>∀H' ι',Ext K H ι H' ι'->aD K H' ι' M'->Q o H'|_=>False
def tOo(K:Yb)(f:xX):TO:=λσ H Q=>∃ι M env,aD K H ι M/\b_ K H ι env σ/\Fv K H ι Q (f env M)
def o8(K:Yb)(H:Hp)(ι:List Y1)(E:Ends)(r:O3):Prop:=match r with
 | .nx env' M'=>∀σ' H' ι',Ext K H ι H' ι'->aD K H' ι' M'->b_ K H' ι' env' σ'->E.nx σ' H'|.bk env' M'=>∀σ' H' ι',Ext K H ι H' ι'->aD K H' ι' M'->b_ K H' ι' env' σ'->E.bk σ' H'|.ct env' M'=>∀σ' H' ι',Ext K H ι H' ι'->aD K H' ι' M'->b_ K H' ι' env' σ'->E.ct σ' H'|.rt d M'=>∀v H' ι',Ext K H ι H' ι'->aD K H' ι' M'->Rep K H' ι' d v->E.rt v H'
 |_=>False
inductive TSf(K:Yb)(f:S3)(D:Ends)(σ:St)(H:Hp):Prop where
 |mk (ι:List Y1) (M:Store) (env:bL) (S:aD K H ι M) (E:b_ K H ι env σ) (h:o8 K H ι D (f env M)):TSf K f D σ H
def tSf(K:Yb)(f:S3):TS:=λE σ H=>TSf K f E σ H
def C3(X:Cx)(e:Expr)(f:E3):Prop:=PE X e (lY X.K f)
def CT(X:Cx)(e:Expr)(f:E3):Prop:=PT X e (tTf X.K f)
def CA(X:Cx)(es:List Expr)(f:d9):Prop:=PA X es (Ri X.K f)
def CO(X:Cx)(e:Option Expr)(f:xX):Prop:=PO X e (tOo X.K f)
def CS(X:Cx)(st:Yer)(f:S3):Prop:=PS X st (tSf X.K f)
def o9(X:Cx)(st:List Yer)(f:S3):Prop:=jL X st (tSf X.K f)
variable{e:Expr}{X:Cx}
theorem _root_.L2.PE.imp{t t':TE}(h:PE X e t)(i:∀σ H Q,t' σ H Q->t σ H Q):PE X e t':=λpins s σ H Q I q=>h pins s σ H Q I (i σ H Q q)
theorem _root_.L2.PT.imp{t t':TT}(h:PT X e t)(i:∀σ H Q,t' σ H Q->t σ H Q):PT X e t':=λpins s σ H Q I q=>h pins s σ H Q I (i σ H Q q)
theorem _root_.L2.PA.imp{e:List Expr}{t t':TA}(h:PA X e t)(i:∀σ H Q,t' σ H Q->t σ H Q):PA X e t':=λpos pins s σ H Q I q=>h pos pins s σ H Q I (i σ H Q q)
theorem _root_.L2.PO.imp{e:Option Expr}{t t':TO}(h:PO X e t)(i:∀σ H Q,t' σ H Q->t σ H Q):PO X e t':=λpins s σ H Q I q=>h pins s σ H Q I (i σ H Q q)
theorem _root_.L2.PS.imp{e:Yer}{t t':TS}(h:PS X e t)(i:∀D σ H,t' D σ H->t D σ H):PS X e t':=λpins s σ H D I q=>h pins s σ H D I (i D σ H q)
theorem _root_.L2.jL.imp{e:List Yer}{t t':TS}(h:jL X e t)(i:∀D σ H,t' D σ H->t D σ H):jL X e t':=λpins s σ H D I q=>h pins s σ H D I (i D σ H q)
theorem _root_.L2.aQ.imp{f:Yh->Yh->oN Yh}{r r':R2}(h:aQ X f r)(i:∀x y H Q,r' x y H Q->r x y H Q):aQ X f r':=λpins s σ H x y v u Q I rx ry q=>h pins s σ H x y v u Q I rx ry (i x y H Q q)
theorem _root_.L2.tK.imp{f:Yh->oN Yh}{r r':V->Hp->VK->Prop}(h:tK X f r)(i:∀x H Q,r' x H Q->r x H Q):tK X f r':=λpins s σ H x v Q I rx q=>h pins s σ H x v Q I rx (i x H Q q)
theorem _root_.L2.cR.imp{f:Yh}{r r':List V->Hp->VK->Prop}(h:cR X f r)(i:∀x H Q,r' x H Q->r x H Q):cR X f r':=λpins s σ H xs us Q I rx q=>h pins s σ H xs us Q I rx (i xs H Q q)
theorem _root_.L2.lG.imp{r r':R2}(h:lG X r)(i:∀x y H Q,r' x y H Q->r x y H Q):lG X r':=λvalue slice pins s σ H x y v u Q I rx ry q hs=>h value slice pins s σ H x y v u Q I rx ry (i x y H Q q) hs
theorem _root_.L2.jB.imp{r r':V->Option Int->Option Int->Hp->VK->Prop}(h:jB X r)(i:∀x lo hi H Q,r' x lo hi H Q->r x lo hi H Q):jB X r':=λpins s σ H x v vl vu lo hi sl Q I rx hs pl pu q=>h pins s σ H x v vl vu lo hi sl Q I rx hs pl pu (i x lo hi H Q q)
variable{r:R3 D}
section
variable {K:Yb} {H H1:Hp} {ι ι1:List Y1}
theorem Zt.up{Q:VK}(e:Ext K H ι H1 ι1)(h:Zt K H ι Q r):Zt K H1 ι1 Q r:=by
 cases r with
 |ok d M=>exactλv H' ι' e' S r=>h v H' ι' (e.trans e') S r|exc x M=>exact h|bad=>exact h
theorem lZ.up{Q:Bool->Hp->Prop}(e:Ext K H ι H1 ι1)(h:lZ K H ι Q r):lZ K H1 ι1 Q r:=by
 cases r with
 |ok d M=>cases d<;>first|exact h|exactλH' ι' e' S=>h H' ι' (e.trans e') S
 |exc x M=>exact h|bad=>exact h
theorem o8.up{Q:Ends}{r:O3}(e:Ext K H ι H1 ι1)(h:o8 K H ι Q r):o8 K H1 ι1 Q r:=by
 cases r with
 |nx d M=>exactλv H' ι' e' S r=>h v H' ι' (e.trans e') S r|bk d M=>exactλv H' ι' e' S r=>h v H' ι' (e.trans e') S r|ct d M=>exactλv H' ι' e' S r=>h v H' ι' (e.trans e') S r|rt d M=>exactλv H' ι' e' S r=>h v H' ι' (e.trans e') S r
 |exc x M=>exact h|bad=>exact h
theorem Zt.ok{Q:VK}(h:Zt K H ι Q (.ok d M))(S:aD K H ι M)(r:Rep K H ι d v):Q v H:=h v H ι Ext.refl S r
theorem Zt.bind{Q:VK}{r:R3 α}{k:α->Store->R3 D}(h:Zt K H ι Q (r.bind k)):∃a M,r= .ok a M/\Zt K H ι Q (k a M):=by
 cases r with
 |ok a M=>exact⟨a,M,rfl,h⟩|exc x M=>exact h.elim|bad=>exact h.elim
theorem Az.bind{Q:List V->Hp->Prop}{r:R3 α}{k:α->Store->R3 (List D)}(h:Az K H ι Q (r.bind k)):∃a M,r= .ok a M/\Az K H ι Q (k a M):=by
 cases r with
 |ok a M=>exact⟨a,M,rfl,h⟩|exc x M=>exact h.elim|bad=>exact h.elim
theorem Fv.bind{Q:Option Int->Hp->Prop}{r:R3 α}{k:α->Store->R3 (Option Int)}(h:Fv K H ι Q (r.bind k)):∃a M,r= .ok a M/\Fv K H ι Q (k a M):=by
 cases r with
 |ok a M=>exact⟨a,M,rfl,h⟩|exc x M=>exact h.elim|bad=>exact h.elim
theorem lZ.bind{Q:Bool->Hp->Prop}{r:R3 α}{k:α->Store->R3 D}(h:lZ K H ι Q (r.bind k)):∃a M,r= .ok a M/\lZ K H ι Q (k a M):=by
 cases r with
 |ok a M=>exact⟨a,M,rfl,h⟩|exc x M=>exact h.elim|bad=>exact h.elim
end
inductive R2I(K:Yb)(op:D->D->Store->R3 D)(x y:V)(H:Hp)(Q:VK):Prop where
 |mk (ι:List Y1) (M:Store) (a b:D) (S:aD K H ι M) (ra:Rep K H ι a x) (rb:Rep K H ι b y) (h:Zt K H ι Q (op a b M)):R2I K op x y H Q
def r2(K:Yb)(op:D->D->Store->R3 D):R2:=λx y H Q=>R2I K op x y H Q
noncomputable def r1(K:Yb)(op:D->Store->R3 D):V->Hp->VK->Prop:=λx H Q=>∃ι M a,aD K H ι M/\Rep K H ι a x/\Zt K H ι Q (op a M)
inductive RBI(K:Yb)(b:List D->Store->R3 D)(xs:List V)(H:Hp)(Q:VK):Prop where
 |mk (ι:List Y1) (M:Store) (ds:List D) (S:aD K H ι M) (r:Zw K H ι ds xs) (h:Zt K H ι Q (b ds M)):RBI K b xs H Q
noncomputable def rB(K:Yb)(b:List D->Store->R3 D):List V->Hp->VK->Prop:=λxs H Q=>RBI K b xs H Q
noncomputable def rM(K:Yb)(m:D->List D->Store->R3 D):V->List V->Hp->VK->Prop:=λx xs H Q=>∃ι M a ds,aD K H ι M/\Rep K H ι a x/\Zw K H ι ds xs/\Zt K H ι Q (m a ds M)
noncomputable def rS(K:Yb):V->Option Int->Option Int->Hp->VK->Prop:=λx lo hi H Q=>∃ι M a,aD K H ι M/\Rep K H ι a x/\Zt K H ι Q (xY a lo hi M)
theorem J1{op:D->D->Store->R3 D}(σ:St)(H:Hp)(Q:VK)(h:lY K (e2 op f g) σ H Q):z_ (r2 K op) (lY K f) (lY K g) σ H Q:=by obtain⟨ι,M,env,S,E,h⟩:=h;obtain⟨a,M1,e1,h⟩:=Zt.bind h;obtain⟨b,M2,e2,h⟩:=Zt.bind h;refine⟨ι,M,env,S,E,?_⟩;rw[e1];intro v H1 ι1 x1 S1 r1;refine⟨ι1,M1,env,S1,E.mono x1,?_⟩;rw[e2];intro u H2 ι2 x2 S2 r2;exact⟨ι2,M2,a,b,S2,r1.mono x2,r2,(h.up x1).up x2⟩
theorem ZuF{op:D->Store->R3 D}(σ:St)(H:Hp)(Q:VK)(h:lY K (e1 op f) σ H Q):tUn (r1 K op) (lY K f) σ H Q:=by obtain⟨ι,M,env,S,E,h⟩:=h;obtain⟨a,M1,e1,h⟩:=Zt.bind h;refine⟨ι,M,env,S,E,?_⟩;rw[e1];intro v H1 ι1 x1 S1 r1;exact⟨ι1,M1,a,S1,r1,h.up x1⟩
variable{x:aj}{u:Yh}
section
variable {X:Cx} {a b c e o:Expr} {es:List Expr} {pos p:aV} {f g h:E3} {gl:d9}
theorem Zd(i:Nat)(hN:X.N[i]?=Ya x:=by rfl)(hv:Jr X.env.scope x:=by first|exact Or.inl rfl|exact Or.inr (Or.inl rfl)|exact Or.inr (Or.inr rfl))(hd:(x==("__debug__":aj))=false:=by decide)(hcd:(x==("__classdict__":aj))=false:=by decide):C3 X (.Name x pos) (Za i):=(Zt1 hN hv hd hcd).imp λσ H Q ak=>by
 obtain⟨ι,M,env,S,E,h⟩:=ak;unfold Za at h;cases q:env[i]? with
 |none=>rw[q]at h;exact h.elim|some od=>
  cases od with
  |none=>rw[q]at h;exact h.elim|some d=>rw[q]at h;obtain⟨v,e1,r⟩:=E.2 i d q;exact⟨v,e1,Zt.ok h S r⟩
theorem Zj{i j}:C3 X (.Constant (.int i) j pos) (eC (.int i)):=Qs.imp λσ H Q ⟨ι,M,env,S,E,h⟩=>Zt.ok h S Rep.int
theorem J2{i j}:C3 X (.Constant (.bool i) j pos) (eC (.bl i)):=Zwd.imp λσ H Q ⟨ι,M,env,S,E,h⟩=>Zt.ok h S Rep.bl
theorem mQ{j}:C3 X (.Constant .none j pos) (eC .non):=Zuu.imp λσ H Q ⟨ι,M,env,S,E,h⟩=>Zt.ok h S Rep.non
theorem bG{cs:List Nat}{j}(hx:x=⟨cs.toArray⟩:=by decide +kernel):C3 X (.Constant (.str x) j pos) (eC (.str cs)):=Zuf.imp λσ H Q ak=>by obtain⟨ι,M,env,S,E,h⟩:=ak;subst hx;exact Zt.ok h S Rep.str
theorem t8(hm:X.mg x=Ya u)(r:RelV v u)(hr:∀H ι,Rep X.K H ι d v)(hg:Gl X x:=by rfl)(hd:(x==("__debug__":aj))=false:=by decide):C3 X (.Name x pos) (eC d):=(zY hg hm r hd).imp λσ H Q ⟨ι,M,env,S,E,h⟩=>Zt.ok h S (hr H ι)
theorem Zu{op:Operator}{q:D->D->Store->R3 D}(ho:aQ X (iT op) (r2 X.K q))(ha:C3 X a f)(hb:C3 X b g):C3 X (.BinOp a op b pos) (e2 q f g):=(Zvr ho ha hb).imp J1
theorem jO{op:UnaryOp}{q:D->Store->R3 D}(ho:tK X (Ii op) (r1 X.K q))(ha:C3 X a f):C3 X (.UnaryOp op a pos) (e1 q f):=(Zwr ho ha).imp ZuF
theorem rF{op:CmpOp}{q:D->D->Store->R3 D}(ho:aQ X (eV op) (r2 X.K q))(ha:C3 X a f)(hb:C3 X b g)(hm:wZ op b=false:=by rfl):C3 X (.Compare a [op] [b] pos) (e2 q f g):=(Zn5 ho ha hb hm).imp J1
theorem Fw{Q:Bool->Hp->Prop}(h:lZ K H ι Q r):Zt K H ι (λx H'=>∃k,x= .bl k/\Q k H') r:=by
 cases r with
 |ok d M=>
  cases d with
  |bl b=>exactλv H' ι' e S r=>⟨b,r.gn,h H' ι' e S⟩|_=>exact h.elim
 |exc x M=>exact h.elim|bad=>exact h.elim
theorem o_(h:C3 X e f)(he:∀whole,isTrue e X.env whole=(do let v ←whole;Dy e.pos;u5 [v] (truthy v)):=by intro _;rfl):CT X e f:=(ZuG h he).imp λσ H Q ⟨ι,M,env,S,E,h⟩=>⟨ι,M,env,S,E,Fw h⟩
theorem bj{op:CmpOp}{q:D->D->Store->R3 D}(ho:aQ X (eV op) (r2 X.K q))(ha:C3 X a f)(hb:C3 X b g)(hm:wZ op b=false:=by rfl):CT X (.Compare a [op] [b] pos) (e2 q f g):=(QD ho ha hb hm).imp λσ H Q ⟨ι,M,env,S,E,h⟩=>J1 σ H _ ⟨ι,M,env,S,E,Fw h⟩
end
variable{st:Yer}{q:List D->Store->R3 D}
section
variable {X:Cx} {a b c e o:Expr} {es rest:List Expr} {pos p:aV} {f g h:E3} {gl:d9}
theorem yh{op}(h:C3 X a f):C3 X (.BoolOp op [a] pos) f:=ZtW h
theorem yj(ha:C3 X a f)(hb:C3 X (.BoolOp .And (b::rest) pos) g):C3 X (.BoolOp .And (a::b::rest) pos) (bD f g):=(Ztj ha hb).imp λσ H Q ak=>by
 obtain⟨ι,M,env,S,E,h⟩:=ak;obtain⟨d,M1,e1,h⟩:=Zt.bind h;refine⟨ι,M,env,S,E,?_⟩;rw[e1];intro v H1 ι1 x1 S1 r1;cases d with
 |bl k=>
  refine⟨k,r1.gn,?_⟩;cases k with
  |true=>rw[if_pos rfl];exact⟨ι1,M1,env,S1,E.mono x1,h.up x1⟩|false=>rw[if_neg (by decide)];exact Zt.ok (h.up x1) S1 Rep.bl
 |_=>exact h.elim
theorem Zv0(ha:C3 X a f)(hb:C3 X (.BoolOp .Or (b::rest) pos) g):C3 X (.BoolOp .Or (a::b::rest) pos) (eN f g):=(Zwi ha hb).imp λσ H Q ak=>by
 obtain⟨ι,M,env,S,E,h⟩:=ak;obtain⟨d,M1,e1,h⟩:=Zt.bind h;refine⟨ι,M,env,S,E,?_⟩;rw[e1];intro v H1 ι1 x1 S1 r1;cases d with
 |bl k=>
  refine⟨k,r1.gn,?_⟩;cases k with
  |false=>rw[if_neg (by decide)];exact⟨ι1,M1,env,S1,E.mono x1,h.up x1⟩|true=>rw[if_pos rfl];exact Zt.ok (h.up x1) S1 Rep.bl
 |_=>exact h.elim
theorem Ztf(ha:C3 X a f):C3 X (.UnaryOp .Not a pos) (e1 p8 f):=(ZuK ha).imp λσ H Q ak=>by
 obtain⟨ι,M,env,S,E,h⟩:=ak;obtain⟨d,M1,e1,h⟩:=Zt.bind h;refine⟨ι,M,env,S,E,?_⟩;rw[e1];intro v H1 ι1 x1 S1 r1;cases d with
 |bl k=>exact⟨k,r1.gn,Zt.ok (h.up x1) S1 Rep.bl⟩|_=>exact h.elim
def CW(X:Cx)(e:Expr)(f:E3):Prop:=PW X e (tTf X.K f)
theorem CW.ct(h:CW X e f):CT X e f:=PW.pt h
theorem PW.imp{t t':TT}(h:PW X e t)(i:∀σ H Q,t' σ H Q->t σ H Q):PW X e t':=λwh pins s σ H Q I q=>h wh pins s σ H Q I (i σ H Q q)
theorem vP(ha:CT X a f):CW X (.BoolOp .And [a] pos) f:=Zsm ha
theorem vQ(ha:CT X a f):CW X (.BoolOp .Or [a] pos) f:=Zt9 ha
theorem nP(ha:CT X a f)(hb:CW X (.BoolOp .And (b::rest) pos) g):CW X (.BoolOp .And (a::b::rest) pos) (bD f g):=PW.imp (Zt8 ha hb) λσ H Q ak=>by
 obtain⟨ι,M,env,S,E,h⟩:=ak;obtain⟨d,M1,e1,h⟩:=lZ.bind h;refine⟨ι,M,env,S,E,?_⟩;rw[e1];cases d with
 |bl k=>
  intro H1 ι1 x1 S1;cases k with
  |true=>rw[if_pos rfl];exact⟨ι1,M1,env,S1,E.mono x1,h.up x1⟩|false=>rw[if_neg (by decide)];exact h H1 ι1 x1 S1
 |_=>exact h.elim
theorem rG(ha:CT X a f)(hb:CW X (.BoolOp .Or (b::rest) pos) g):CW X (.BoolOp .Or (a::b::rest) pos) (eN f g):=PW.imp (Zwf ha hb) λσ H Q ak=>by
 obtain⟨ι,M,env,S,E,h⟩:=ak;obtain⟨d,M1,e1,h⟩:=lZ.bind h;refine⟨ι,M,env,S,E,?_⟩;rw[e1];cases d with
 |bl k=>
  intro H1 ι1 x1 S1;cases k with
  |false=>rw[if_neg (by decide)];exact⟨ι1,M1,env,S1,E.mono x1,h.up x1⟩|true=>rw[if_pos rfl];exact h H1 ι1 x1 S1
 |_=>exact h.elim
theorem Fx(ha:CT X a f):CT X (.UnaryOp .Not a pos) (e1 p8 f):=(ZtH ha).imp λσ H Q ak=>by
 obtain⟨ι,M,env,S,E,h⟩:=ak;obtain⟨d,M1,e1,h⟩:=lZ.bind h;refine⟨ι,M,env,S,E,?_⟩;rw[e1];cases d with
 |bl k=>exactλH1 ι1 x1 S1=>h H1 ι1 x1 S1|_=>exact h.elim
theorem Fy(hc:CT X c f)(ha:C3 X a g)(hb:C3 X b h):C3 X (.IfExp c a b pos) (j5 f g h):=(Zp4 hc ha hb).imp λσ H Q ak=>by
 obtain⟨ι,M,env,S,E,h⟩:=ak;obtain⟨d,M1,e1,h⟩:=Zt.bind h;refine⟨ι,M,env,S,E,?_⟩;rw[e1];cases d with
 |bl k=>
  intro H1 ι1 x1 S1;cases k with
  |true=>rw[if_pos rfl];exact⟨ι1,M1,env,S1,E.mono x1,h.up x1⟩|false=>rw[if_neg (by decide)];exact⟨ι1,M1,env,S1,E.mono x1,h.up x1⟩
 |_=>exact h.elim
theorem Zg:CA X [] Zf:=Ep.imp λσ H Q ⟨ι,M,env,S,E,h⟩=>h [] H ι Ext.refl S Zw.nil
theorem Zc(ha:C3 X e f)(hr:CA X es gl)(hs:Yw (e::es) X.env=(false,aG e X.env)::Yw es X.env:=by rfl):CA X (e::es) (Zb f gl):=(vD ha hr hs).imp λσ H Q ak=>by obtain⟨ι,M,env,S,E,h⟩:=ak;obtain⟨d,M1,e1,h⟩:=Az.bind h;obtain⟨ds,M2,e2,h⟩:=Az.bind h;refine⟨ι,M,env,S,E,?_⟩;rw[e1];intro v H1 ι1 x1 S1 r1;refine⟨ι1,M1,env,S1,E.mono x1,?_⟩;rw[e2];intro vs H2 ι2 x2 S2 r2;exact h (v::vs) H2 ι2 (x1.trans x2) S2 (Zw.cons (r1.mono x2) r2)
theorem nQ{x1}(h:CA X es gl):C3 X (.Tuple es x1 pos) (fW gl):=(ZpH h).imp λσ H Q ak=>by
 obtain⟨ι,M,env,S,E,h⟩:=ak;obtain⟨ds,M1,e1,h⟩:=Zt.bind h;refine⟨ι,M,env,S,E,?_⟩;rw[e1];intro vs H1 ι1 x1 S1 r1;by_cases hz:ds.length<=SZ
 .rw[if_pos hz]at h;refine⟨by rw[r1.length];exact Yj hz jD,λp hp=>?_⟩;obtain⟨x2,S2,r2⟩:=S1.uJ hp r1;exact h _ _ _ (x1.trans x2) S2 r2
 .rw[if_neg hz]at h;exact h.elim
theorem cQ(h:CA X es gl):C3 X (.List es pos) (bh gl):=(ZuT h).imp λσ H Q ak=>by
 obtain⟨ι,M,env,S,E,h⟩:=ak;obtain⟨ds,M1,e1,h⟩:=Zt.bind h;refine⟨ι,M,env,S,E,?_⟩;rw[e1];intro vs H1 ι1 x1 S1 r1;by_cases hz:ds.length<=SZ
 .rw[if_pos hz]at h;refine⟨by rw[r1.length];exact Yj hz jD,λp hp=>?_⟩;obtain⟨x2,S2,r2⟩:=S1.lst hp r1;exact h _ _ _ (x1.trans x2) S2 r2
 .rw[if_neg hz]at h;exact h.elim
theorem Zqr(σ:St)(H:Hp)(Q:VK)(h:lY K (aB q gl) σ H Q):QH (rB K q) (Ri K gl) σ H Q:=by obtain⟨ι,M,env,S,E,h⟩:=h;obtain⟨ds,M1,e1,h⟩:=Zt.bind h;refine⟨ι,M,env,S,E,?_⟩;rw[e1];intro vs H1 ι1 x1 S1 r1;exact⟨ι1,M1,ds,S1,r1,h.up x1⟩
theorem dG{id:String}(hc:cR X (.builtin id) (rB X.K q))(hm:X.mg x=Ym)(hv:jH x=Ya (.builtin id))(ha:CA X (e::es) gl)(hg:Gl X x:=by rfl)(hn:x≠ "__name__":=by decide)(hdb:(x==("__debug__":aj))=false:=by decide)(he:Yw (e::es) X.env=(false,aG e X.env)::Yw es X.env:=by rfl)(hpl:(b7 pos (Yw es X.env)).any (·.1)=false:=by rfl):C3 X (.Call (.Name x p) (e::es) [] pos) (aB q gl):=(JB hc hg hm hv ha hn hdb he hpl).imp Zqr
theorem j_{T:String}(hc:cR X (.type T) (rB X.K q))(hm:X.mg x=Ym)(hv:jH x=Ya (.type T))(ha:CA X (e::es) gl)(hg:Gl X x:=by rfl)(hn:x≠ "__name__":=by decide)(hdb:(x==("__debug__":aj))=false:=by decide)(he:Yw (e::es) X.env=(false,aG e X.env)::Yw es X.env:=by rfl)(hpl:(b7 pos (Yw es X.env)).any (·.1)=false:=by rfl):C3 X (.Call (.Name x p) (e::es) [] pos) (aB q gl):=(ZjV hc hg hm hv ha hn hdb he hpl).imp Zqr
theorem bA(hr:lG X (r2 X.K Zn))(ha:C3 X a f)(hb:C3 X b g)(hs:ZnV b:=by exactλ_ _=>rfl):C3 X (.Subscript a b pos) (e2 Zn f g):=(ZvT hr ha hb hs).imp J1
theorem rH:CO X Ym fX:=Zr1.imp λσ H Q ⟨ι,M,env,S,E,h⟩=>h H ι Ext.refl S
theorem ph(h:C3 X e f):CO X (Ya e) (dO f):=(Zsi h).imp λσ H Q ak=>by
 obtain⟨ι,M,env,S,E,h⟩:=ak;obtain⟨d,M1,e1,h⟩:=Fv.bind h;refine⟨ι,M,env,S,E,?_⟩;rw[e1];intro v H1 ι1 x1 S1 r1;cases d with
 |int i=>exact⟨i,r1.int_inv,h H1 ι1 x1 S1⟩|_=>exact h.elim
theorem qi{lo hi:Option Expr}{ol oh:xX}{p2:aV}(hr:jB X (rS X.K))(he:C3 X e f)(hl:CO X lo ol)(hu:CO X hi oh):C3 X (.Subscript e (.Slice lo hi Ym p2) pos) (eO f ol oh):=(Zqa hr he hl hu).imp λσ H Q ak=>by obtain⟨ι,M,env,S,E,h⟩:=ak;obtain⟨d,M1,e1,h⟩:=Zt.bind h;obtain⟨l,M2,e2,h⟩:=Zt.bind h;obtain⟨u,M3,e3,h⟩:=Zt.bind h;refine⟨ι,M,env,S,E,?_⟩;rw[e1];intro v H1 ι1 x1 S1 r1;refine⟨ι1,M1,env,S1,E.mono x1,?_⟩;rw[e2];intro H2 ι2 x2 S2;refine⟨ι2,M2,env,S2,(E.mono x1).mono x2,?_⟩;rw[e3];intro H3 ι3 x3 S3;exact⟨ι3,M3,d,S3,(r1.mono x2).mono x3,((h.up x1).up x2).up x3⟩
theorem cN:o9 X [] aX:=ZrD.imp λD σ H ⟨ι,M,env,S,E,h⟩=>h σ H ι Ext.refl S E
theorem Zm{u:S3}(h:CS X st u):o9 X [st] u:=ZrC h
theorem Ze{sts:List Yer}{u w:S3}(h1:CS X st u)(h2:o9 X sts w):o9 X (st::sts) (Zr u w):=(Zpl h1 h2).imp λD σ H ak=>by
 obtain⟨ι,M,env,S,E,h⟩:=ak;refine⟨ι,M,env,S,E,?_⟩;have h':o8 X.K H ι D (match u env M with| .nx env' M'=>w env' M'|o=>o):=h;cases q:u env M with
 |nx env' M'=>rw[q]at h';exactλσ' H' ι' x S' E'=>⟨ι',M',env',S',E',h'.up x⟩|_=>rw[q]at h';exact h'
theorem bW{c1:Expr}{x y:List Yer}{u w:S3}(hc:CT X c1 f)(ha:o9 X x u)(hb:o9 X y w):CS X (.If c1 x y pos) (aK f u w):=(Zwx hc ha hb).imp λD σ H ak=>by
 obtain⟨ι,M,env,S,E,h⟩:=ak;refine⟨ι,M,env,S,E,?_⟩;unfold aK at h;cases q:f env M with
 | ok d M1=>
  rw[q]at h;cases d with
  |bl k=>
   intro H1 ι1 x1 S1;cases k with
   |true=>rw[if_pos rfl];exact⟨ι1,M1,env,S1,E.mono x1,h.up x1⟩|false=>rw[if_neg (by decide)];exact⟨ι1,M1,env,S1,E.mono x1,h.up x1⟩
  |_=>exact h.elim
 |exc x M1=>rw[q]at h;exact h.elim|bad=>rw[q]at h;exact h.elim
theorem bY(h:C3 X e f):CS X (.Return (Ya e) pos) (aY f):=(ZtK h).imp λD σ H ak=>by
 obtain⟨ι,M,env,S,E,h⟩:=ak;refine⟨ι,M,env,S,E,?_⟩;unfold aY at h;cases q:f env M with
 |ok d M1=>rw[q]at h;exact h|exc x M1=>rw[q]at h;exact h.elim|bad=>rw[q]at h;exact h.elim
theorem fY(h:C3 X e f)(hs:u0 e Ym pos.line X.env=pure false:=by rfl):CS X (.Expr e pos) (aP f):=(Zsh h hs).imp λD σ H ak=>by
 obtain⟨ι,M,env,S,E,h⟩:=ak;refine⟨ι,M,env,S,E,?_⟩;unfold aP at h;cases q:f env M with
 |ok d M1=>rw[q]at h;exactλv H1 ι1 x1 S1 r1=>h σ H1 ι1 x1 S1 (E.mono x1)|exc x M1=>rw[q]at h;exact h.elim|bad=>rw[q]at h;exact h.elim
theorem Zv(i:Nat){pos':aV}(hN:X.N.Nodup)(he:C3 X e f)(hi:X.N[i]?=Ya x:=by rfl)(hx:Loc X.env.scope x:=by first|exact Or.inl rfl|exact Or.inr rfl)(hs:u0 e (Ya (.Name x pos')) pos.line X.env=pure false:=by rfl)(hf:X.fn x=true\/X.env.scope.names.lookup x=Ya .local:=by first|exact .inl rfl|exact .inr rfl):CS X (.Assign [.Name x pos'] e pos) (au i f):=(ZuU hN hi hx he hs hf).imp λD σ H ak=>by
 obtain⟨ι,M,env,S,E,h⟩:=ak;refine⟨ι,M,env,S,E,?_⟩;unfold au at h;cases q:f env M with
 |ok d M1=>rw[q]at h;exactλv H1 ι1 x1 S1 r1=>h _ H1 ι1 x1 S1 ((E.mono x1).set i r1)|exc x M1=>rw[q]at h;exact h.elim|bad=>rw[q]at h;exact h.elim
theorem J3:CS X st tV:=λ_ _ _ _ _ _ ⟨_,_,_,_,_,h⟩=>h.elim
theorem ZpN:CS X (.Break pos) Q_:=ZpS.imp λD σ H ⟨ι,M,env,S,E,h⟩=>h σ H ι Ext.refl S E
end
noncomputable def t_(K:Yb)(n:Nat)(F:F3):Sp:=λvs H Q _=>∃ι M ds,aD K H ι M/\Zw K H ι ds vs/\ds.length=n/\Zt K H ι Q (F ds M)
section
variable {K:Yb} {H H':Hp} {ι ι':List Y1} {M M':Store}
mutual
theorem Rep.below:∀{d:D} {v:V},Rep K H ι d v->L3.below ι.length d=true
 | .non,_,_=>rfl|.bl _,_,_=>rfl|.int _,_,_=>rfl|.str _,_,_=>rfl
 | .tup ds,_,h=>by obtain⟨a,vs,_,_,r⟩:=h.i_;exact Zw.bT (ds:=ds) r|.aZ ds,_,h=>by obtain⟨a,vs,_,_,r⟩:=h.rR;exact Zw.bT (ds:=ds) r|.ref n,_,h=>by obtain⟨a,q,_⟩:=h.dJ;exact decide_eq_true (Yf.mp q).1
theorem Zw.bT:∀{ds:List D} {vs:List V},Zw K H ι ds vs->L3.bT ι.length ds=true
 |[],_,_=>rfl|d::ds,_,h=>by obtain⟨v,ws,_,r,q⟩:=h.cons_inv;exact vz.mpr ⟨Rep.below (d:=d) r,Zw.bT (ds:=ds) q⟩
end
mutual
theorem Rep.cut{n:Nat}:∀{d:D} {v:V},L3.below n d=true->Rep K H ι d v->Rep K H (ι.take n) d v
 | .non,_,_,h=>h|.bl _,_,_,h=>h|.int _,_,_,h=>h|.str _,_,_,h=>h
 | .tup ds,_,hb,h=>by obtain⟨a,vs,rfl,s,r⟩:=h.i_;exact Rep.tup s (Zw.cut (ds:=ds) hb r)|.aZ ds,_,hb,h=>by obtain⟨a,vs,rfl,s,r⟩:=h.rR;exact⟨a,vs,rfl,s,Zw.cut (ds:=ds) hb r⟩|.ref k,_,hb,h=>by obtain⟨a,q,rfl⟩:=h.dJ;refine Rep.ref ?_;rw[wQ (of_decide_eq_true hb)];exact q
theorem Zw.cut{n:Nat}:∀{ds:List D} {vs:List V},L3.bT n ds=true->Zw K H ι ds vs->Zw K H (ι.take n) ds vs
 |[],_,_,h=>h|d::ds,_,hb,h=>by obtain⟨v,ws,rfl,r,q⟩:=h.cons_inv;exact have w:=vz.mp (hb:(L3.below n d&&L3.bT n ds)=true);Zw.cons (Rep.cut (d:=d) w.1 r) (Zw.cut (ds:=ds) w.2 q)
end
theorem lX.below{a:Y1}(h:lX K H ι m a):vJ ι.length m=true:=by
 cases m with
 |lst xs=>obtain⟨vs,_,r⟩:=h;exact r.bT|dct kvs=>obtain⟨ws,_,_,r⟩:=h;exact r.bT|cL kvs=>obtain⟨ws,_,_,r⟩:=h;exact r.bT|ins c fs=>
  rcases h with⟨_,_,gs,_,_,_,r⟩|⟨_,_,_,_,rfl⟩
  .exact r.bT
  .rfl
theorem lX.cut{a:Y1}(hb:vJ n m=true)(h:lX K H ι m a):lX K H (ι.take n) m a:=by
 cases m with
 |lst xs=>obtain⟨vs,q,r⟩:=h;exact⟨vs,q,r.cut hb⟩|dct kvs=>obtain⟨ws,q,r1,r2⟩:=h;exact⟨ws,q,r1,r2.cut hb⟩|cL kvs=>obtain⟨ws,q,r1,r2⟩:=h;exact⟨ws,q,r1,r2.cut hb⟩|ins c fs=>
  rcases h with⟨C,dx,gs,q,c,r1,r2⟩|h
  .exact .inl ⟨C,dx,gs,q,c,r1,r2.cut hb⟩
  .exact .inr h
theorem aD.cut(S:aD K H ι M)(h:(M.take n).all (vJ n)=true):aD K H (ι.take n) (M.take n):=by
 refine⟨by simp[S.len],S.nd.sublist (WK _ _),λk m a h1 h2=>?_⟩;have hk:k<n:=by have:=(Yf.mp h1).1;rw[zq]at this;exact Y7 this (Xm _ _)
 have hb:vJ n m=true:=gU.mp h m (wR h1);rw[wQ hk]at h1 h2;exact(S.obj k m a h1 h2).cut hb
theorem Zof{Q:VK}(S:aD K H ι M)(x:Ext K H ι H' ι')(S':aD K H' ι' M')(r:Rep K H' ι' d v)(h:Zt K H ι Q (dX M d M')):Q v H':=by
 unfold dX at h;split at h
 .rename_i c;simp only[Y5,xr,decide_eq_true_eq]at c;have hall:(M'.take M.length).all (vJ M.length)=true:=by
   rcases c.2 with e|e
   .rw[e,gU];intro m hm;obtain⟨n,hn⟩:=Nv hm;obtain⟨a,q,w⟩:=S.at hn;rw[←S.len];exact w.below
   .exact e
  refine h v H' (ι'.take M.length) ⟨x.tup,x.aZ,λn a q=>?_,x.fJ⟩ (S'.cut hall) (r.cut c.1);rw[wQ (by rw[←S.len];exact(Yf.mp q).1)];exact x.pre n a q
 .exact h v H' ι' x S' r
end
theorem b_.start(r:Zw K H ι ds vs)(n:Nat):b_ K H ι (ds.map Ya++Yq n Ym) (vs.map Ya++Yq n Ym):=by
 refine⟨by simp[r.length],λi d h=>?_⟩;by_cases hi:i<ds.length
 .rw[Yi (by simpa using hi),jV]at h;cases q:ds[i]? with
  |none=>rw[q]at h;simp at h|some d'=>rw[q]at h;simp at h;subst h;obtain⟨v,e,z⟩:=r.get q;refine⟨v,?_,z⟩;rw[Yi (by simpa[r.length]using hi),jV,e];rfl
 .rw[wO (by simpa using hi),Ht]at h;split at h<;>simp at h
variable{ps:List aj}
section
variable {P:bF} {w:bx} {K:Yb} {mg:aj->Option Yh} {base:aO}
theorem Rj{qual:aj}{f:Y1}{fd:jZ}{N:List aj}{k:Nat}(F:tQ K x qual st f fd)(S:dM N ps (Zk st))(hb:∀(cdv:Yh) (A:bK) (outer:List eY) (s:Yk) (H:Hp) (E:XK),dB k (A.deeper (oR qual (Zk st) s.heap.objs.size f cdv))->o9 (tL lH P w K mg base N qual (Zk st) f cdv A outer s H E).xP (cM st) body):
  jr P w K mg base lH (k+1) f fd ps (t_ K ps.length (bZ ps.length N.length body)):=by
 refine F.ok S (λvs H Q E ⟨ι,M,ds,_,r,l,_⟩=>by rw[r.length,l]) λcdv A outer s H vs Q E hr ak=>?_;obtain⟨ι,M,ds,SR,r,l,h⟩:=ak;refine⟨_,hb cdv A outer s H E hr,ι,M,ds.map Ya++Yq (N.length-ps.length) Ym,SR,?_,?_⟩
 .have e:L2.start N vs=vs.map Ya++Yq (N.length-ps.length) Ym:=by unfold L2.start;rw[r.length,l]
  rw[e];exact b_.start r _
 .unfold bZ at h;rw[if_pos l]at h;cases q:body (ds.map Ya++Yq (N.length-ps.length) Ym) M with
  |nx env' M'=>rw[q]at h;exactλσ' H' ι' x S' E'=>Zof SR x S' Rep.non h|rt d M'=>rw[q]at h;exactλv H' ι' x S' r'=>Zof SR x S' r' h|bk _ _=>rw[q]at h;exact h.elim|ct _ _=>rw[q]at h;exact h.elim
  |exc _ _=>rw[q]at h;exact h.elim|bad=>rw[q]at h;exact h.elim
def aJ(P:bF)(w:bx)(K:Yb)(mg:aj->Option Yh)(base:aO)(k:Nat)(x:aj)(ps:List aj)(F:F3):Prop:=(∀ds M,ds.length≠ps.length->F ds M= .bad)/\∃f fd,mg x=Ya (.ref f)/\su K (.ref f)=true/\Binds K fd ps []/\jr P w K mg base lH k f fd ps (t_ K ps.length F)
def bM(K:Yb)(mg:aj->Option Yh)(x:aj)(st:Yer)(ps:List aj):Prop:=∃f fd,tQ K x x st f fd/\mg x=Ya (.ref f)/\Binds K fd ps []
theorem aJ.mono{j k:Nat}(h:aJ P w K mg base j x ps F)(l:j<=k):aJ P w K mg base k x ps F:=let⟨n,f,fd,a,b,c,d⟩:=h;⟨n,f,fd,a,b,c,d.mono l⟩
theorem aJ.of{N:List aj}{k:Nat}(d:bM K mg x st ps)(S:dM N ps (Zk st))(hb:∀(f:Y1) (cdv:Yh) (A:bK) (outer:List eY) (s:Yk) (H:Hp) (E:XK),dB k (A.deeper (oR x (Zk st) s.heap.objs.size f cdv))->o9 (tL lH P w K mg base N x (Zk st) f cdv A outer s H E).xP (cM st) body):
  aJ P w K mg base (k+1) x ps (bZ ps.length N.length body):=by
 obtain⟨f,fd,F,m,bi⟩:=d;exact⟨λds M h=>if_neg h,f,fd,m,F.kp,bi,Rj F S (hb f)⟩
end
section
variable {X:Cx} {e:Expr} {es:List Expr} {pos p:aV} {gl:d9} {x:aj} {k:Nat} {ps:List aj} {F:F3}
theorem cD(G:aJ X.prog X.w X.K X.mg X.base k x ps F)(hr:dB k X.A)(ha:CA X (e::es) gl)(hg:Gl X x:=by rfl)(hdb:(x==("__debug__":aj))=false:=by decide)(he:Yw (e::es) X.env=(false,aG e X.env)::Yw es X.env:=by rfl)(hpl:(b7 pos (Yw es X.env)).any (·.1)=false:=by rfl):C3 X (.Call (.Name x p) (e::es) [] pos) (aN F gl):=by
 obtain⟨hn,f,fd,m,kp,bi,ok⟩:=G;refine(ZrR ok hr hg m kp bi .nil Zs7 ha hdb he hpl).imp λσ H Q ak=>?_;obtain⟨ι,M,env,S,E,h⟩:=ak;obtain⟨ds,M1,e1,h⟩:=Zt.bind h;refine⟨ι,M,env,S,E,?_⟩;rw[e1];intro vs H1 ι1 x1 S1 r1;have hl:ds.length=ps.length:=by refine Z2 λq=>?_;rw[hn ds M1 q]at h;exact h.elim
 exact⟨ι1,M1,ds,S1,by rw[jX];exact r1,hl,h.up x1⟩
end
def tGf(K:Yb)(g:G3):TG:=λv σ H Q=>∃ι M env d env',aD K H ι M/\b_ K H ι env σ/\Rep K H ι d v/\g d env=Ya env'/\∀σ',b_ K H ι env' σ'->Q σ' H
def tGs(K:Yb)(is:List Nat):p6:=λvs σ H Q=>∃ι M env ds env',aD K H ι M/\b_ K H ι env σ/\Zw K H ι ds vs/\bindAll is ds env=Ya env'/\∀σ',b_ K H ι env' σ'->Q σ' H
def CG(X:Cx)(tg:Expr)(g:G3):Prop:=PG X tg (tGf X.K g)
def Fz(X:Cx)(tg:List Expr)(is:List Nat):Prop:=p7 X tg (tGs X.K is)
theorem PG.imp{t t':TG}(h:PG X e t)(i:∀v σ H Q,t' v σ H Q->t v σ H Q):PG X e t':=λpins s σ H v u Q I r q=>h pins s σ H v u Q I r (i v σ H Q q)
theorem p7.imp{e:List Expr}{t t':p6}(h:p7 X e t)(i:∀v σ H Q,t' v σ H Q->t v σ H Q):p7 X e t':=λpins s σ H v u Q I r q=>h pins s σ H v u Q I r (i v σ H Q q)
section
variable {X:Cx} {e:Expr} {es:List Expr} {pos:aV}
theorem jP(i:Nat)(hN:X.N.Nodup)(hi:X.N[i]?=Ya x:=by rfl)(hx:Loc X.env.scope x:=by first|exact Or.inl rfl|exact Or.inr rfl)(hf:X.fn x=true\/X.env.scope.names.lookup x=Ya .local:=by first|exact .inl rfl|exact .inr rfl):CG X (.Name x pos) (cj i):=PG.imp (Zoq hN hi hx hf) λv σ H Q ak=>by obtain⟨ι,M,env,d,env',S,E,r,q,h⟩:=ak;cases q;exact h _ (E.set i r)
theorem yo:Fz X [] []:=p7.imp Zss λv σ H Q ak=>by
 obtain⟨ι,M,env,ds,env',S,E,r,q,h⟩:=ak;cases ds with
 |nil=>cases q;exact⟨r.nil_inv,h σ E⟩|cons d ds=>cases q
theorem kh(i:Nat){is:List Nat}(hN:X.N.Nodup)(ht:Fz X es is)(hi:X.N[i]?=Ya x:=by rfl)(hx:Loc X.env.scope x:=by first|exact Or.inl rfl|exact Or.inr rfl)(hf:X.fn x=true\/X.env.scope.names.lookup x=Ya .local:=by first|exact .inl rfl|exact .inr rfl)(hs:(jm (.Name x pos::es) X.env).map (·.2)=jn (.Name x pos) X.env::(jm es X.env).map (·.2):=by rfl):
  Fz X (.Name x pos::es) (i::is):=p7.imp (Zre (Zoq hN hi hx hf) ht hs) λv σ H Q ak=>by
 obtain⟨ι,M,env,ds,env',S,E,r,q,h⟩:=ak;cases ds with
 |nil=>cases q|cons d ds=>obtain⟨v,ws,rfl,r1,r2⟩:=r.cons_inv;exact⟨v,ws,rfl,ι,M,env.set i (Ya d),ds,env',S,E.set i r1,r2,q,h⟩
theorem J4{is:List Nat}{k:Nat}(hc:X.calm=true)(h:Fz X es is)(hl:es.length=is.length:=by rfl)(hn:(jm es X.env).length=is.length:=by rfl)(hst:(jm es X.env).findIdx? (·.1)=Ym:=by rfl):CG X (.Tuple es k pos) (nH is):=
 PG.imp (ZuE (n:=is.length) hc h hn hst) λv σ H Q ak=>by
  obtain⟨ι,M,env,d,env',S,E,r,q,h⟩:=ak;cases d with
  | tup ds=>
   obtain⟨a,vs,rfl,s,r⟩:=r.i_;have hlen:∀(is:List Nat) (ds:List D) (env env':bL),bindAll is ds env=Ya env'->ds.length=is.length:=by
    intro is
    induction is with
    |nil=>intro ds env env' h;cases ds with|nil=>rfl|cons d ds=>cases h
    |cons i is ih=>intro ds env env' h;cases ds with|nil=>cases h|cons d ds=>simp[ih ds _ _ h]
   exact⟨a,vs,rfl,s,by rw[r.length];exact hlen _ _ _ _ q,ι,M,env,ds,env',S,E,r,q,h⟩
  |_=>cases q
end
def qj(K:Yb)(H:Hp)(ι:List Y1)(it:fV)(J:It):Prop:=∀(i:Nat) H2 ι2 M2,Ext K H ι H2 ι2->aD K H2 ι2 M2->locked it M2=true ->
 (∀d,it.items[i]?=Ya d->J.go i H2/\∀x H3,J.Jv i H2 x H3->H3=H2/\Rep K H2 ι2 d x)/\(i=it.items.length->J.stop i H2)
def A_(K:Yb)(H:Hp)(ι:List Y1)(R:It->Hp->Prop)(r:R3 fV):Prop:=match r with
 | .ok it M'=>∀J H' ι',Ext K H ι H' ι'->aD K H' ι' M'->qj K H' ι' it J->R J H'|_=>False
def Qv(K:Yb)(g:I3):TI:=λσ H R=>∃ι M env,aD K H ι M/\b_ K H ι env σ/\A_ K H ι R (g env M)
def CI(X:Cx)(tg e:Expr)(g:I3):Prop:=PI X tg e (Qv X.K g)
theorem PI.imp{tg:Expr}{t t':TI}(h:PI X tg e t)(i:∀σ H Q,t' σ H Q->t σ H Q):PI X tg e t':=λpins s σ H Q I q=>h pins s σ H Q I (i σ H Q q)
theorem PI.or{tg:Expr}{t t':TI}(h:PI X tg e t)(h':PI X tg e t'):PI X tg e (λσ H R=>t σ H R\/t' σ H R):=λpins s σ H Q I q=>q.elim (h pins s σ H Q I) (h' pins s σ H Q I)
theorem A_.bind{Q:It->Hp->Prop}{r:R3 α}{k:α->Store->R3 fV}(h:A_ K H ι Q (r.bind k)):∃a M,r= .ok a M/\A_ K H ι Q (k a M):=by
 cases r with
 |ok a M=>exact⟨a,M,rfl,h⟩|exc x M=>exact h.elim|bad=>exact h.elim
section
variable {X:Cx} {tg e a b:Expr} {pos p:aV} {f g:E3}
theorem ZuS(h:C3 X e f)(hs:PI X tg e (λσ H R=>lY X.K f σ H λx H1=>∃z:aj,x= .str z/\z.length<=SZ/\∀J,(∀ι,qj X.K H1 ι ⟨z.cps.toList.map λc=>.str [c],Ym⟩ J)->R J H1)):CI X tg e (cW f):=
 PI.imp (PI.or (Zt0 h) (PI.or (Zsc h) hs)) λσ H R ak=>by
  obtain⟨ι,M,env,S,E,h⟩:=ak;obtain⟨d,M1,e1,h⟩:=A_.bind h;cases d with
  |tup ds=>refine .inl ⟨ι,M,env,S,E,?_⟩;rw[e1];intro v H1 ι1 x1 S1 r1;obtain⟨a,vs,rfl,s,r⟩:=r1.i_;refine⟨a,rfl,⟨vs,s⟩,h _ H1 ι1 x1 S1 ?_⟩;intro i H2 ι2 M2 x S2 _;refine⟨λd hd=>?_,λhl=>⟨vs,x.tup _ _ s,by rw[r.length,hl];exact Ys _⟩⟩;obtain⟨v,hv,rv⟩:=r.get hd;refine⟨⟨vs,v,x.tup _ _ s,hv⟩,λy H3 hy=>⟨hy.1,?_⟩⟩;have e:=hy.2 vs (x.tup _ _ s);rw[hv]at e;cases e;exact rv.mono x|aZ ds=>refine .inr (.inl ⟨ι,M,env,S,E,?_⟩);rw[e1];intro v H1 ι1 x1 S1 r1;obtain⟨a,vs,rfl,s,r⟩:=r1.rR;refine⟨a,rfl,⟨vs,s.sq⟩,h _ H1 ι1 x1 S1 ?_⟩;intro i H2 ι2 M2 x S2 _;refine⟨λd hd=>?_,λhl=>⟨vs,(x.aZ _ _ s).sq,by rw[r.length,hl];exact Ys _⟩⟩;obtain⟨v,hv,rv⟩:=r.get hd;refine⟨⟨vs,v,(x.aZ _ _ s).sq,hv⟩,λy H3 hy=>⟨hy.1,?_⟩⟩;have e:=hy.2 vs (x.aZ _ _ s).sq;rw[hv]at e;cases e;exact rv.mono x|ref n=>
   refine .inr (.inl ⟨ι,M,env,S,E,?_⟩);rw[e1];intro v H1 ι1 x1 S1 r1;cases hm:M1[n]? with
   |none=>simp only[hm]at h;exact h.elim|some o=>
    cases o with
    |dct kvs=>simp only[hm]at h;exact h.elim|cL kvs=>simp only[hm]at h;exact h.elim|ins _ _=>simp only[hm]at h;exact h.elim|lst ds=>simp only[hm]at h;obtain⟨a,ha,rfl⟩:=r1.dJ;obtain⟨vs,q,r⟩:=S1.obj n _ a hm ha;refine⟨a,rfl,⟨vs,bC.of q⟩,h _ H1 ι1 x1 S1 ?_⟩;intro i H2 ι2 M2 x S2 lk;have FJ:M2[n]?=Ya (.lst ds):=of_decide_eq_true lk;obtain⟨vs2,q2,r2⟩:=S2.obj n _ a FJ (x.pre _ _ ha);refine⟨λd hd=>?_,λhl=>⟨vs2,bC.of q2,by rw[r2.length,hl];exact Ys _⟩⟩;obtain⟨v,hv,rv⟩:=r2.get hd;refine⟨⟨vs2,v,bC.of q2,hv⟩,λy H3 hy=>⟨hy.1,?_⟩⟩;have e:=hy.2 vs2 (bC.of q2);rw[hv]at e;cases e;exact rv
  | str z=>
   refine .inr (.inr ⟨ι,M,env,S,E,?_⟩);rw[e1];intro v H1 ι1 x1 S1 r1;have hv:=r1.str_inv;subst hv;by_cases hz:z.length<=SZ
   .simp only[if_pos hz]at h;refine⟨_,rfl,by simpa[lg]using hz,λJ hJ=>h J H1 ι1 x1 S1 ?_⟩;simpa using hJ ι1
   .simp only[if_neg hz]at h;exact h.elim
  |non=>exact h.elim|bl b=>exact h.elim|int i=>exact h.elim
theorem Zqu(lo:Int)(n:Nat):qj K H ι ⟨lR lo n,Ym⟩ (Jx lo n):=by
 intro i H2 ι2 M2 x S _;refine⟨λd hd=>?_,λhl=>?_⟩
 .unfold lR at hd;rw[jV]at hd;cases q:(gW n)[i]? with
  |none=>rw[q]at hd;cases hd|some k=>
   rw[q]at hd;obtain⟨hi,e⟩:=Yf.mp q;rw[List.getElem_range]at e;subst e;have hd':D.int (lo+(i:Int))=d:=by simpa using hd
   subst hd';exact⟨(by show i<n;simpa using hi),λy H3 hy=>⟨hy.1,by rw[hy.2];exact Rep.int⟩⟩
 .show n<=i;rw[hl];simp[lR]
theorem J5(hm:X.mg "range" =Ym)(h:C3 X a f)(hg:Gl X "range":=by rfl)(hs:Yw [a] X.env=[(false,aG a X.env)]:=by rfl)(hs':Yw (a::[]) X.env=(false,aG a X.env)::Yw [] X.env:=by rfl):CI X tg (.Call (.Name "range" p) [a] [] pos) (rn f):=
 PI.imp (Zo9 hg hm (Zc h Zg hs') hs) λσ H R ak=>by
  obtain⟨ι,M,env,S,E,h⟩:=ak;obtain⟨d,M1,e1,h⟩:=A_.bind h;refine⟨ι,M,env,S,E,?_⟩;have e2:Zb f Zf env M= .ok [d] M1:=by unfold Zb;rw[e1];rfl
  rw[e2];intro vs H1 ι1 x1 S1 r1;obtain⟨v,ws,rfl,r,q⟩:=r1.cons_inv;have:=q.nil_inv;subst this;cases d with
  | int j=>
   have hv:=r.int_inv;subst hv;by_cases hj:j<=1000000/\ -1000000<=j
   .simp only[if_pos hj]at h;exact⟨j,rfl,by omega,by omega,h _ H1 ι1 x1 S1 (Zqu 0 j.toNat)⟩
   .simp only[if_neg hj]at h;exact h.elim
  |_=>exact h.elim
theorem Ba{iter:Expr}{body:List Yer}{i:I3}{g:G3}{u:S3}(yp:X.xe=λ_ _=>False)(hc:X.calm=true)(hi:CI X tg iter i)(hg:CG X tg g)(hb:o9 X body u)(hs:∀x,zy iter X.env x=pure x:=by intro _;rfl):
  CS X (.For tg iter body [] pos) (qd i g u):=(Zui (by rw[yp];exact Z_) hc hi hg hb hs).imp λD σ H ak=>by
 obtain⟨ι,M,env,S,E,h⟩:=ak;unfold qd at h;cases q:i env M with
 |exc x M1=>rw[q]at h;exact h.elim|bad=>rw[q]at h;exact h.elim|ok it M1=>
  rw[q]at h;refine⟨ι,M,env,S,E,?_⟩;rw[q];intro J H1 ι1 x1 S1 ok;refine⟨λi m σ2 H2=>m=it.items.length-i/\i<=it.items.length/\∃ι2 M2 nq,Ext X.K H1 ι1 H2 ι2/\aD X.K H2 ι2 M2/\b_ X.K H2 ι2 nq σ2/\o8 X.K H2 ι2 D (iY it g u (it.items.drop i) nq M2),
   ⟨_,rfl,eZ _,ι1,M1,env,Ext.refl,S1,E.mono x1,o8.up x1 h⟩,?_⟩
  rintro i m σ2 H2 ⟨rfl,hi,ι2,M2,nq,x2,S2,E2,h2⟩;by_cases hlt:i<it.items.length
  .have hd:it.items[i]?=Ya it.items[i]:=by simp[hlt]
   rw[zm hlt]at h2
   first|rw[tW]at h2|rw[vI]at h2
   by_cases lk:locked it M2=true
   .rw[if_pos lk]at h2;obtain⟨go,yl⟩:=(ok i H2 ι2 M2 x2 S2 lk).1 _ hd;cases eg:g it.items[i] nq with
    |none=>rw[eg]at h2;exact h2.elim|some MN=>
     rw[eg]at h2;refine .inr ⟨go,λσ' H'=>∃ι3 M3 wN,Ext X.K H2 ι2 H' ι3/\aD X.K H' ι3 M3/\b_ X.K H' ι3 wN σ'/\o8 X.K H' ι3 D (iY it g u (it.items.drop (i+1)) wN M3),
      λσ' H' ⟨ι3,M3,wN,x3,S3,E3,h3⟩=>⟨it.items.length-(i+1),lD 2 0x30113c2012a1c0c21 T1 (gZ (lB 1 6991908881 T1 hlt)) (g8 _ _),rfl,hlt,ι3,M3,wN,x2.trans x3,S3,E3,h3⟩,λx H' hy=>?_⟩
     obtain⟨rfl,rx⟩:=yl x H' hy;refine⟨ι2,M2,nq,_,MN,S2,E2,rx,eg,λσ' E'=>⟨ι2,M2,MN,S2,E',?_⟩⟩;cases qu:u MN M2 with
     |nx e' M'=>simp only[qu]at h2;exactλσ' H' ι' x' S' E'=>⟨ι',M',e',x',S',E',h2.up x'⟩|ct e' M'=>simp only[qu]at h2;exactλσ' H' ι' x' S' E'=>⟨ι',M',e',x',S',E',h2.up x'⟩|bk e' M'=>simp only[qu]at h2;exact h2|rt d M'=>simp only[qu]at h2;exact h2
     |exc x' M'=>simp only[qu]at h2;exact h2.elim|bad=>simp only[qu]at h2;exact h2.elim
   .rw[if_neg lk]at h2;exact h2.elim
  .have e0:i=it.items.length:=Y4 hi (jJ hlt);subst e0;rw[NK]at h2
   first|rw[tW]at h2|rw[vI]at h2
   by_cases lk:locked it M2=true
   .rw[if_pos lk]at h2;exact .inl ⟨(ok _ H2 ι2 M2 x2 S2 lk).2 rfl,h2 σ2 H2 ι2 Ext.refl S2 E2⟩
   .rw[if_neg lk]at h2;exact h2.elim
theorem ZlO{c1:Expr}{body:List Yer}{u:S3}(yp:X.xe=λ_ _=>False)(hc:CT X c1 f)(hb:o9 X body u):CS X (.While c1 body [] pos) (Ra f u):=(Zq3 (by rw[yp];exact Z_) hc hb).imp λD σ H ak=>by
 obtain⟨ι,M,env,S,E,h⟩:=ak;refine⟨λm σ2 H2=>∃ι2 M2 nq,aD X.K H2 ι2 M2/\b_ X.K H2 ι2 nq σ2/\o8 X.K H2 ι2 D (rA f u m nq M2),⟨1000000,ι,M,env,S,E,h⟩,?_⟩;rintro m σ2 H2 ⟨ι2,M2,nq,S2,E2,h2⟩;cases m with
 |zero=>exact h2.elim|succ m=>
  refine⟨ι2,M2,nq,S2,E2,?_⟩;rw[Ar]at h2;cases q:f nq M2 with
  |exc x M1=>rw[q]at h2;exact h2.elim|bad=>rw[q]at h2;exact h2.elim|ok d M1=>
   rw[q]at h2;cases d with
   | bl k=>
    cases k with
    |false=>intro H3 ι3 x3 S3;rw[if_neg (by decide)];exact h2 σ2 H3 ι3 x3 S3 (E2.mono x3)|true=>
     intro H3 ι3 x3 S3;rw[if_pos rfl];refine⟨λσ' H'=>∃ι4 M4 wN,aD X.K H' ι4 M4/\b_ X.K H' ι4 wN σ'/\o8 X.K H' ι4 D (rA f u m wN M4),λσ' H' q=>⟨m,Dz _,q⟩,ι3,M1,nq,S3,E2.mono x3,?_⟩;have h3:=o8.up x3 h2;cases qu:u nq M1 with
     |nx e' M'=>simp only[qu]at h3;exactλσ' H' ι' x' S' E'=>⟨ι',M',e',S',E',h3.up x'⟩|ct e' M'=>simp only[qu]at h3;exactλσ' H' ι' x' S' E'=>⟨ι',M',e',S',E',h3.up x'⟩|bk e' M'=>simp only[qu]at h3;exact h3|rt d M'=>simp only[qu]at h3;exact h3
     |exc x' M'=>simp only[qu]at h3;exact h3.elim|bad=>simp only[qu]at h3;exact h3.elim
   |_=>exact h2.elim
end
theorem Rep.Vk(r:Rep K H ι d v):decide (v=V.non)=decide (d=D.non):=by
 cases d with
 |non=>rw[r.jj];rfl|bl b=>rw[r.gn];rfl|int i=>rw[r.int_inv];rfl|str x=>rw[r.str_inv];rfl
 |tup ds=>obtain⟨a,vs,e,_⟩:=r.i_;rw[e];rfl|aZ ds=>obtain⟨a,vs,e,_⟩:=r.rR;rw[e];rfl|ref n=>obtain⟨a,_,e⟩:=r.dJ;rw[e];rfl
theorem Zh8{x y:List Nat}:decide (V.str ⟨x.toArray⟩=V.str ⟨y.toArray⟩)=(x==y):=by
 by_cases h:x=y
 .subst h;simp
 .rw[decide_eq_false (λe=>h (by injection e with e1;injection e1 with e2;simpa using congrArg zU e2))]
  exact(beq_eq_false_iff_ne.mpr h).symm
section
variable {X:Cx}
theorem ZqB:aQ X (iT .Add) (λx y H Q=>∃a b ys,x= .ref a/\y= .ref b/\cG X.K H a []/\cG X.K H b ys/\Q (.ref b) H):=by
 intro pins s σ H x y v u Q I rx ry h;obtain⟨a,b,ys,rfl,rfl,ha,hb,q⟩:=h;cases rx;cases ry;obtain⟨its,r1,p1,_⟩:=I.tuple ha;obtain⟨its2,r2,p2,_⟩:=I.tuple hb;cases r1;obtain⟨⟨cls,dd,data,sl⟩,ho,hc,n,hd⟩:=id p1;obtain⟨⟨cls2,dd2,data2,sl2⟩,ho2,hc2,n2,hd2⟩:=id p2;simp only at hc hd hc2 hd2;subst hc hd hc2 hd2;exact Oi ⟨_,ho,rfl⟩ ⟨_,ho2,rfl⟩ N_ Og Pr Pn (Pk _ _)
   (tuple_addW0 a b _ its2.toArray n n2 dd dd2 sl sl2 (by simp)) ⟨ho,ho2,⟨.ref b,H,I,rfl,q⟩⟩
theorem ZsJ(x y:List Nat):(⟨x.toArray⟩:aj)++⟨y.toArray⟩=⟨(x++y).toArray⟩:=by show Str.append _ _=_;unfold Str.append;simp
noncomputable def vR(o:Option D)(f:D->R3 D):R3 D:=match o with
 |some d=>f d|none=>.bad
theorem FN{Q:VK}{o:Option D}{f:D->R3 D}(h:Zt K H ι Q (vR o f)):∃x,o=Ya x/\Zt K H ι Q (f x):=by
 cases o with
 |none=>exact h.elim|some x=>exact⟨x,rfl,h⟩
noncomputable def onN(o:Option Nat)(f:Nat->R3 D):R3 D:=match o with
 |some d=>f d|none=>.bad
theorem Zsf{Q:VK}{o:Option Nat}{f:Nat->R3 D}(h:Zt K H ι Q (onN o f)):∃x,o=Ya x/\Zt K H ι Q (f x):=by
 cases o with
 |none=>exact h.elim|some x=>exact⟨x,rfl,h⟩
noncomputable def yq(o:Option MO)(f:List D->R3 D):R3 D:=match o with
 |some (.lst x)=>f x|_=>.bad
theorem J6{Q:VK}{o:Option MO}{f:List D->R3 D}(h:Zt K H ι Q (yq o f)):∃x,o=Ya (.lst x)/\Zt K H ι Q (f x):=by
 cases o with
 |none=>exact h.elim|some o=>cases o with
  |lst x=>exact⟨x,rfl,h⟩|_=>exact h.elim
noncomputable def ZvM(a b:Option MO)(f:List D->List D->R3 D):R3 D:=match a,b with
 |some (.lst x),Ya (.lst y)=>f x y|_,_=>.bad
theorem ZqW{Q:VK}{a b:Option MO}{f:List D->List D->R3 D}(h:Zt K H ι Q (ZvM a b f)):∃x y,a=Ya (.lst x)/\b=Ya (.lst y)/\Zt K H ι Q (f x y):=by
 cases a with
 |none=>exact h.elim|some a=>cases a with
  | lst x=>cases b with
   |none=>exact h.elim|some b=>cases b with
    |lst y=>exact⟨x,y,rfl,rfl,h⟩|_=>exact h.elim
  |_=>exact h.elim
theorem vU{Q:VK}{c:Prop}{_:Decidable c}(h:Zt K H ι Q (if c then r else .bad)):c/\Zt K H ι Q r:=by
 by_cases hc:c
 .rw[if_pos hc]at h;exact⟨hc,h⟩
 .rw[if_neg hc]at h;exact h.elim
theorem Zlt(r:Zw K H ι ds []):ds=[]:=Hs r.length.symm
theorem dZ:aQ X (iT .Add) (r2 X.K aR):=aQ.imp (aQ.or Zuh (aQ.or Zmu (aQ.or Zue (aQ.or ZrX ZqB)))) λx y H Q ak=>by
 obtain⟨ι,M,a,b,S,ra,rb,h⟩:=ak;cases a with
 |int i=>cases b with
  |int j=>exact .inl ⟨i,j,ra.int_inv,rb.int_inv,Zt.ok h S Rep.int⟩|_=>exact h.elim
 | str x=>cases b with
  |str y=>obtain⟨hz,h⟩:=vU h;exact .inr (.inl ⟨_,_,ra.str_inv,rb.str_inv,Yj hz jD,by rw[ZsJ];exact Zt.ok h S Rep.str⟩)|_=>exact h.elim
 | tup x=>cases b with
  | tup y=>
   obtain⟨hz,h⟩:=vU h;obtain⟨p,vs,e,s,r⟩:=ra.i_;obtain⟨q,ws,e',s',r'⟩:=rb.i_;by_cases hv:vs=[]
   .rw[hv]at r s;rw[Zlt r]at h;exact .inr (.inr (.inr (.inr ⟨p,q,ws,e,e',s,s',Zt.ok h S (Rep.tup s' r')⟩)))
   .refine .inr (.inr (.inr (.inl ⟨p,q,vs,ws,e,e',s,s',hv,by rw[r.length,r'.length];exact Yj hz jD,λhw=>?_,λhw p' hp=>?_⟩)))
    .rw[hw]at r';rw[Zlt r',jX]at h;exact Zt.ok h S (Rep.tup s r)
    .obtain⟨x2,S2,r2⟩:=S.uJ hp (r.append r');exact h _ _ _ x2 S2 r2
  |_=>exact h.elim
 | ref n=>cases b with
  |ref m=>have h:Zt X.K H ι Q (ZvM M[n]? M[m]? λx y=>@ite _ (x.length+y.length<=SZ) (Yx _) (alloc (.lst (x++y)) M) .bad):=h;obtain⟨x,y,hn,hm,h⟩:=ZqW h;obtain⟨hz,h⟩:=vU h;obtain⟨p,hp,e⟩:=ra.dJ;obtain⟨q,hq,e'⟩:=rb.dJ;obtain⟨vs,e1,r1⟩:=S.obj n _ p hn hp;obtain⟨ws,e2,r2⟩:=S.obj m _ q hm hq;refine .inr (.inr (.inl ⟨p,q,vs,ws,e,e',e1,e2,by rw[r1.length,r2.length];exact Yj hz jD,λp' hp'=>?_⟩));obtain⟨x2,S2,r3⟩:=S.lst hp' (r1.append r2);exact h _ _ _ x2 S2 r3|_=>exact h.elim
 |_=>cases b<;>exact h.elim
theorem vV:aQ X (iT .Sub) (r2 X.K h_):=aQ.imp Ztq λx y H Q ak=>by obtain⟨ι,M,a,b,S,ra,rb,h⟩:=ak;cases a<;>cases b<;>first|exact h.elim|exact⟨_,_,ra.int_inv,rb.int_inv,Zt.ok h S Rep.int⟩
theorem dm:aQ X (iT .Mod) (r2 X.K Zy):=aQ.imp ZtA λx y H Q ak=>by
 obtain⟨ι,M,a,b,S,ra,rb,h⟩:=ak;cases a with
 | int i=>cases b with
  | int j=>
   simp only[Zlb]at h;split at h
   .rename_i hj;exact⟨i,j,ra.int_inv,rb.int_inv,hj,Zt.ok h S Rep.int⟩
   .exact h.elim
  |_=>exact h.elim
 |_=>cases b<;>exact h.elim
theorem iI:aQ X (iT .FloorDiv) (r2 X.K bH):=aQ.imp ZsH λx y H Q ak=>by
 obtain⟨ι,M,a,b,S,ra,rb,h⟩:=ak;cases a with
 | int i=>cases b with
  | int j=>
   simp only[ZjX]at h;split at h
   .rename_i hj;exact⟨i,j,ra.int_inv,rb.int_inv,hj,Zt.ok h S Rep.int⟩
   .exact h.elim
  |_=>exact h.elim
 |_=>cases b<;>exact h.elim
theorem Zwc:aQ X (iT .Pow) (r2 X.K JN):=aQ.imp ZuJ λx y H Q ak=>by
 obtain⟨ι,M,a,b,S,ra,rb,h⟩:=ak;cases a with
 | int i=>cases b with
  | int j=>
   simp only[ZlD]at h;split at h
   .rename_i hj;exact⟨i,j,ra.int_inv,rb.int_inv,⟨hj.1,iN [] [_] 1 0xf42405b083e83b081 T1 hj.2.1,by have:=hj.2.2;omega⟩,Zt.ok h S Rep.int⟩
   .exact h.elim
  |_=>exact h.elim
 |_=>cases b<;>exact h.elim
theorem jQ:tK X (Ii .USub) (r1 X.K cu):=tK.imp ZtX λx H Q ak=>by
 obtain⟨ι,M,a,S,ra,h⟩:=ak;cases a with
 |int i=>exact⟨i,ra.int_inv,Zt.ok h S Rep.int⟩|_=>exact h.elim
theorem uc:aQ X (eV .Lt) (r2 X.K dF):=aQ.imp Zws λx y H Q ak=>by obtain⟨ι,M,a,b,S,ra,rb,h⟩:=ak;cases a<;>cases b<;>first|exact h.elim|exact⟨_,_,ra.int_inv,rb.int_inv,Zt.ok h S Rep.bl⟩
theorem Rk:aQ X (eV .LtE) (r2 X.K nD):=aQ.imp Zvs λx y H Q ak=>by obtain⟨ι,M,a,b,S,ra,rb,h⟩:=ak;cases a<;>cases b<;>first|exact h.elim|exact⟨_,_,ra.int_inv,rb.int_inv,Zt.ok h S Rep.bl⟩
theorem pq:aQ X (eV .Gt) (r2 X.K cC):=aQ.imp ZvS λx y H Q ak=>by obtain⟨ι,M,a,b,S,ra,rb,h⟩:=ak;cases a<;>cases b<;>first|exact h.elim|exact⟨_,_,ra.int_inv,rb.int_inv,Zt.ok h S Rep.bl⟩
theorem FP:aQ X (eV .Is) (r2 X.K nF):=aQ.imp Zth λx y H Q ak=>by
 obtain⟨ι,M,a,b,S,ra,rb,h⟩:=ak;cases b with
 |non=>exact⟨rb.jj,by rw[ra.Vk];exact Zt.ok h S Rep.bl⟩|_=>exact h.elim
theorem ZsI:aQ X (eV .IsNot) (r2 X.K Ew):=aQ.imp ZrZ λx y H Q ak=>by
 obtain⟨ι,M,a,b,S,ra,rb,h⟩:=ak;cases b with
 |non=>exact⟨rb.jj,by rw[ra.Vk];exact Zt.ok h S Rep.bl⟩|_=>exact h.elim
end
theorem units_in1(A:bK):A.in1.units=A.units+1:=rfl
variable{es:List D}{A:bK}
section
variable {X:Cx} {pins:List (Y1×aM)} {σ:St} {H:Hp} {s:Yk} {ι:List Y1}
theorem Zk2{e:Nat->Bool}:∀{x y:List D},x.length=y.length->(∀(j:Nat) a b,x[j]?=Ya a->y[j]?=Ya b->e j=dN a b)->(gW x.length).all e=iW x y:=by
 intro x
 induction x generalizing e with
 |nil=>intro y h _;cases y with|nil=>rfl|cons _ _=>simp at h
 | cons a x ih=>
  intro y h he;cases y with
  |nil=>simp at h|cons b y=>rw[Yp,Wu,jG,List.all_map,he 0 a b rfl rfl];rw[QV];congr 1;exact ih (e:=e ∘ Nat.succ) (by simpa using h) λj a' b' h1 h2=>he (j+1) a' b' (by simpa using h1) (by simpa using h2)
theorem Zl1:∀{x y:List D},iW x y=true->x.length=y.length
 |[],[],_=>rfl|[],_::_,h=>ft h|_::_,[],h=>ft h|a::x,b::y,h=>congrArg Nat.succ (Zl1 (vz.mp (h:(dN a b&&iW x y)=true)).2)
theorem J7(h:dD 0 d=true):dh d=true:=by cases d<;>first|exact rfl|exact h
theorem Bb(h:dD (n+1) d=true):dh d=true\/∃ds,d= .tup ds:=by
 cases d with
 |tup ds=>exact .inr ⟨ds,rfl⟩|aZ _=>exact ft h|ref _=>exact ft h|_=>exact .inl rfl
theorem Zj6{a b:D}(fa:dh a=true)(fb:dh b=true)(r:Rep K H ι a v)(q:Rep K H ι b v):dN a b=true:=by
 cases a with
 |non=>have e:=r.jj;cases b with
  |non=>rfl|bl _=>cases e.symm.trans q.gn|int _=>cases e.symm.trans q.int_inv|str _=>cases e.symm.trans q.str_inv
  |_=>exact ft fb
 |bl x=>have e:=r.gn;cases b with
  |non=>cases e.symm.trans q.jj|bl _=>exact beq_iff_eq.mpr (V.bl.inj (e.symm.trans q.gn))|int _=>cases e.symm.trans q.int_inv|str _=>cases e.symm.trans q.str_inv
  |_=>exact ft fb
 |int x=>have e:=r.int_inv;cases b with
  |non=>cases e.symm.trans q.jj|bl _=>cases e.symm.trans q.gn|int _=>exact beq_iff_eq.mpr (V.int.inj (e.symm.trans q.int_inv))|str _=>cases e.symm.trans q.str_inv
  |_=>exact ft fb
 |str x=>have e:=r.str_inv;cases b with
  |non=>cases e.symm.trans q.jj|bl _=>cases e.symm.trans q.gn|int _=>cases e.symm.trans q.int_inv|str _=>exact Zh8.symm.trans (decide_eq_true (e.symm.trans q.str_inv))
  |_=>exact ft fb
 |_=>exact ft fa
theorem Zlu{a:D}{p:Y1}(fa:dh a=true)(r:Rep K H ι a v)(e:v= .ref p):False:=by
 cases a with
 |non=>cases e.symm.trans r.jj|bl x=>cases e.symm.trans r.gn|int x=>cases e.symm.trans r.int_inv|str x=>cases e.symm.trans r.str_inv
 |_=>exact ft fa
theorem Rep.fun1(I:Inv X pins σ H s):∀(n:Nat) (a b:D) (v:V),dD n a=true->dD n b=true->Rep X.K H ι a v->Rep X.K H ι b v->dN a b=true:=by
 intro n
 induction n with
 |zero=>intro a b v ha hb r q;exact Zj6 (J7 ha) (J7 hb) r q|succ n ih=>
  intro a b v ha hb r q;rcases Bb ha with fa|⟨ds,ea⟩
  .rcases Bb hb with fb|⟨es,eb⟩
   .exact Zj6 fa fb r q
   .rw[eb]at q;obtain⟨p,vs,e,_⟩:=q.i_;exact(Zlu fa r e).elim
  .rw [ea]at r ha ⊢;obtain⟨p,vs,e,s1,r1⟩:=r.i_;rcases Bb hb with fb|⟨es,eb⟩
   .exact(Zlu fb q e).elim
   .rw[eb]at q hb ⊢;obtain⟨p',ws,e',s2,r2⟩:=q.i_;rw[←V.ref.inj (e.symm.trans e')]at s2;rw[←I.Mt s1 s2]at r2;clear s1 s2 e e' q r eb ea;rw[Ztd];revert ha hb r1 r2
    induction ds generalizing es vs with
    |nil=>
     intro _ r1 _ r2;cases es with
     |nil=>rfl|cons _ _=>obtain⟨_,_,e,_⟩:=r2.cons_inv;cases r1.nil_inv.symm.trans e
    | cons d ds ih2=>
     intro h1 r1 h2 r2;obtain⟨v,ws,e,q1,q2⟩:=r1.cons_inv;cases es with
     |nil=>cases r2.nil_inv.symm.trans e|cons e' es=>obtain⟨v',ws',z,q3,q4⟩:=r2.cons_inv;obtain⟨z1,z2⟩:=iV (z.symm.trans e);rw[z1]at q3;rw[z2]at q4;have g1:=vz.mp (h1:(dD n d&&ds.all (dD n))=true);have g2:=vz.mp (h2:(dD n e'&&es.all (dD n))=true);rw[QV,ih d e' v g1.1 g2.1 q1 q3];exact ih2 ws es g1.2 q2 g2.2 q4
theorem Bc{x:V}(r:Rep K H ι .non x)(e:RelV x u):u= .none:=by rw[r.jj]at e;cases e;rfl
theorem vW{b:Bool}{x:V}(r:Rep K H ι (.bl b) x)(e:RelV x u):u= .bool b:=by rw[r.gn]at e;cases e;rfl
theorem vX{i:Int}{x:V}(r:Rep K H ι (.int i) x)(e:RelV x u):∃t,u= .int i t:=by rw[r.int_inv]at e;exact e
theorem vY{i:List Nat}{x:V}(r:Rep K H ι (.str i) x)(e:RelV x u):∃t,u= .str ⟨i.toArray⟩ t:=by rw[r.str_inv]at e;exact e
inductive Rm(X:Cx)(H:Hp)(ι:List Y1)(T:Y1->Array Yh->Prop)(ds:List D)(x:V)(u:Yh):Prop
 |mk (p:Y1) (vs:List V) (its:List Yh):x= .ref p->u= .ref p->T p its.toArray->Zw X.K H ι ds vs->Vals vs its->Rm X H ι T ds x u
theorem yr(I:Inv X pins σ H s){x:V}(r:Rep X.K H ι (.tup ds) x)(e:RelV x u):Rm X H ι s.heap.IsTuple ds x u:=by obtain⟨p,vs,ex,s1,r1⟩:=r.i_;obtain⟨its,rvs,ht,_⟩:=I.tuple s1;rw[ex]at e;exact⟨p,vs,its,ex,e,ht,r1,rvs⟩
theorem QB{i k:List Nat}:decide (i=k)=((⟨i.toArray⟩:aj)==⟨k.toArray⟩):=by
 rw[←Iu,←Zh8];by_cases h:(⟨i.toArray⟩:aj)=⟨k.toArray⟩
 .rw[h,beq_self_eq_true];exact decide_eq_true rfl
 .rw[beq_eq_false_iff_ne.mpr h];exact decide_eq_false λe=>h (V.str.inj e)
theorem Zr8{i k:List Nat}:dN (.str i) (.str k)=((⟨i.toArray⟩:aj)==⟨k.toArray⟩):=vA (show(i==k)=decide (i=k)from Iu i k) QB
theorem Rn(A:bK)(a b:D)(x y:V)(u v:Yh)(ha:dh a=true)(hb:dh b=true)(ra:Rep X.K H ι a x)(rb:Rep X.K H ι b y)(ru:RelV x u)(rv:RelV y v):sZ A s u v (dN a b):=by
 cases a with
 |non=>rw[Bc ra ru];cases b with
  |non=>rw[Bc rb rv];exact P_ _|bl k=>rw[vW rb rv];exact ZC _|int k=>obtain⟨t,e⟩:=vX rb rv;rw[e];exact ZG _ _|str k=>obtain⟨t,e⟩:=vY rb rv;rw[e];exact ZJ _ _
  |_=>exact ft hb
 |bl i=>rw[vW ra ru];cases b with
  |non=>rw[Bc rb rv];exact ZD _|bl k=>rw[vW rb rv];exact ZF _ _|int k=>obtain⟨t,e⟩:=vX rb rv;rw[e];exact ZK _ _ _|str k=>obtain⟨t,e⟩:=vY rb rv;rw[e];exact ZL _ _ _
  |_=>exact ft hb
 |int i=>obtain⟨t0,e0⟩:=vX ra ru;rw[e0];cases b with
  |non=>rw[Bc rb rv];exact ZM _ _|bl k=>rw[vW rb rv];exact ZP _ _ _|int k=>obtain⟨t,e⟩:=vX rb rv;rw[e];exact ZS _ _ _ _|str k=>obtain⟨t,e⟩:=vY rb rv;rw[e];exact PX _ _ _ _
  |_=>exact ft hb
 |str i=>obtain⟨t0,e0⟩:=vY ra ru;rw[e0];cases b with
  |non=>rw[Bc rb rv];exact ZQ _ _|bl k=>rw[vW rb rv];exact ZR _ _ _|int k=>obtain⟨t,e⟩:=vX rb rv;rw[e];exact Jg _ _ _ _|str k=>obtain⟨t,e⟩:=vY rb rv;rw[e,Zr8];exact ZV _ _ _ _
  |_=>exact ft hb
 |_=>exact ft ha
noncomputable def FQ(ds es:List D)(j:Nat):Bool:=match ds[j]?,es[j]? with|some a,Ya b=>dN a b|_,_=>false
theorem Zog(hl:ds.length≠es.length):iW ds es=false:=by
 cases q:iW ds es with
 |false=>rfl|true=>exact absurd (Zl1 q) hl
theorem Zoo(hn:n=ds.length)(hl:ds.length=es.length):(gW n).all (FQ ds es)=iW ds es:=by rw[hn];exact Zk2 hl λj a b h1 h2=>by unfold FQ;rw[h1,h2]
theorem ZnX{m:Nat}(hn:n=ds.length)(hm:m=es.length):((gW (jq n m)).all (FQ ds es)&&n==m)=iW ds es:=by
 by_cases hl:ds.length=es.length
 .have e:n=m:=hn.trans (hl.trans hm.symm);rw[←e,Nat.min_self,beq_self_eq_true,Iw];exact Zoo hn hl
 .rw[Zog hl,beq_eq_false_iff_ne.mpr λe=>hl (hn.symm.trans (e.trans hm)),xu]
theorem nR{its:List Yh}(r:Zw X.K H ι ds vs)(v:Vals vs its):its.toArray.size=ds.length:=Yn.trans (v.length.symm.trans r.length)
theorem Ro{ws:List V}{its its2:List Yh}(ih:∀(a b:D) (x y:V) (u v:Yh),dD n a=true->dD n b=true->Rep X.K H ι a x->Rep X.K H ι b y->RelV x u->RelV y v->sZ A s u v (dN a b))(p1:ds.all (dD n)=true)(p2:es.all (dD n)=true)(r1:Zw X.K H ι ds vs)(r2:Zw X.K H ι es ws)(v1:Vals vs its)(v2:Vals ws its2)(j:Nat)(h1:j<its.toArray.size)(h2:j<its2.toArray.size):sZ A s its.toArray[j] its2.toArray[j] (FQ ds es j):=by
 have k1:j<ds.length:=by rw[←nR r1 v1];exact h1
 have k2:j<es.length:=by rw[←nR r2 v2];exact h2
 have q1:=Y9 k1;have q2:=Y9 k2;obtain⟨x,g1,z1⟩:=r1.get q1;obtain⟨y,g2,z2⟩:=r2.get q2;obtain⟨u,e1,l1⟩:=v1.get g1;obtain⟨v,e2,l2⟩:=v2.get g2;unfold FQ;rw[q1,q2];obtain⟨_,e1⟩:=Yf.mp e1;obtain⟨_,e2⟩:=Yf.mp e2;exact ih _ _ x y _ _ (gU.mp p1 _ (uQ k1)) (gU.mp p2 _ (uQ k2)) z1 z2 (e1▸l1) (e2▸l2)
theorem Zk8(A:bK)(hu1:A.units<jA){a:D}{x:V}{p:Y1}{its:Array Yh}(ha:dh a=true)(ra:Rep X.K H ι a x)(ru:RelV x u)(it:s.heap.IsTuple p its):sZ A s u (.ref p) (dN a (.tup es))/\sZ A s (.ref p) u (dN (.tup es) a):=by
 cases a with
 |non=>rw[Bc ra ru];exact⟨SeqAt.EqAt.none_tuple it hu1,SeqAt.EqAt.tuple_none it hu1⟩|bl k=>rw[vW ra ru];exact⟨SeqAt.EqAt.bool_tuple _ it hu1,SeqAt.EqAt.tuple_bool _ it hu1⟩|int k=>obtain⟨t,e⟩:=vX ra ru;rw[e];exact⟨SeqAt.EqAt.int_tuple _ _ it hu1,SeqAt.EqAt.tuple_int _ _ it hu1⟩|str k=>obtain⟨t,e⟩:=vY ra ru;rw[e];exact⟨SeqAt.EqAt.str_tuple _ _ it hu1,SeqAt.EqAt.tuple_str _ _ it hu1⟩
 |_=>exact ft ha
theorem Zp7(I:Inv X pins σ H s):∀(n:Nat) (A:bK) (_:A.units+n+1<jA) (a b:D) (x y:V) (u v:Yh),dD n a=true->dD n b=true->Rep X.K H ι a x->Rep X.K H ι b y->RelV x u->RelV y v->sZ A s u v (dN a b):=by
 intro n
 induction n with
 |zero=>intro A hu a b x y u v ha hb ra rb ru rv;exact Rn A a b x y u v (J7 ha) (J7 hb) ra rb ru rv|succ n ih=>
  intro A hu a b x y u v ha hb ra rb ru rv;have hu0:A.units+0+1<jA:=lC 1 0x2ae0cc12aa1c0cc11 T1 hu;have hu1:A.units<jA:=lB 1 1104257534993 T1 hu0;rcases Bb ha with fa|⟨ds,ea⟩
  .rcases Bb hb with fb|⟨es,eb⟩
   .exact Rn A a b x y u v fa fb ra rb ru rv
   .rw[eb]at rb ⊢;obtain⟨p,vs,its,ex,eu,t,_⟩:=yr I rb rv;rw[eu];exact(Zk8 A hu1 fa ra ru t).1
  .rw[ea]at ra ha ⊢;obtain⟨p,vs,its,ex,eu,t,r1,v1⟩:=yr I ra ru;rw[eu];rcases Bb hb with fb|⟨es,eb⟩
   .exact(Zk8 A hu1 fb rb rv t).2
   .rw[eb]at rb hb ⊢;obtain⟨q,ws,its2,ey,ev,t',r2,v2⟩:=yr I rb rv;rw[ev];by_cases hp:p=q
    .rw[ey,←hp,←ex]at rb;rw[Rep.fun1 I (n+1) _ _ _ ha hb ra rb,hp];exact P_ _
    .refine SeqAt.EqAt.of_refs hp ?_;rw[Ztd,←ZnX (nR r1 v1) (nR r2 v2)];exact Z7 t t' hu1 (Ro (ih A.in1 (by rw[units_in1];exact lC 1 0x2a1a0ccc12aa1c0cc11 T1 hu)) ha hb r1 r2 v1 v2)
end
section
variable {X:Cx}
section
variable {pins:List (Y1×aM)} {σ:St} {H:Hp} {s:Yk} {ι:List Y1}
theorem J8(I:Inv X pins σ H s)(S:aD X.K H ι M){x:V}(h:M[n]?=Ya (.lst ds))(r:Rep X.K H ι (.ref n) x)(e:RelV x u):Rm X H ι s.heap.IsList ds x u:=by obtain⟨p,hp1,ex⟩:=r.dJ;obtain⟨vs,e1,r1⟩:=S.obj n _ p h hp1;obtain⟨its,rvs,pl1,_⟩:=I.list (bC.of e1);rw[ex]at e;exact⟨p,vs,its,ex,e,pl1.isList,r1,rvs⟩
inductive yt(M:Store)(a b:D)(k:Bool):Prop
 |ref {n m:Nat} (ds es:List D):a= .ref n->b= .ref m->iW ds es=k->M[n]?=Ya (.lst ds)->M[m]?=Ya (.lst es)->ds.all (dD DEEP)=true/\es.all (dD DEEP)=true->yt M a b k
 |int (i j:Int):a= .int i->b= .int j->decide (i=j)=k->yt M a b k
 |str (i j:List Nat):a= .str i->b= .str j->decide (i=j)=k->yt M a b k
 |bl (i j:Bool):a= .bl i->b= .bl j->decide (i=j)=k->yt M a b k
 |tup {ds es:List D}:a= .tup ds->b= .tup es->iW ds es=k->ds.all (dD DEEP)=true/\es.all (dD DEEP)=true->yt M a b k
theorem Rp{c d:Bool}{a k:α}(h:(if c&&d then Ya a else Ym)=Ya k):a=k/\c=true/\d=true:=by
 cases c with
 |false=>exact je h|true=>cases d with
  |false=>exact je h|true=>exact⟨Y8 h,rfl,rfl⟩
noncomputable def Zw8(a b:Option MO):Option Bool:=match a,b with
 |some (.lst x),Ya (.lst y)=>if x.all (dD DEEP)&&y.all (dD DEEP)then Ya (iW x y)else Ym|_,_=>Ym
theorem Zsb{m:Nat}{k:Bool}(h:Zw8 M[n]? M[m]?=Ya k):yt M (.ref n) (.ref m) k:=by
 cases e1:M[n]? with
 |none=>rw[e1]at h;exact je h|some o=>cases o with
  | lst x=>cases e2:M[m]? with
   |none=>rw[e1,e2]at h;exact je h|some o=>cases o with
    |lst y=>rw[e1,e2]at h;exact have w:=Rp h;.ref x y rfl rfl w.1 e1 e2 w.2|_=>rw[e1,e2]at h;exact je h
  |_=>rw[e1]at h;exact je h
theorem eqK{a b:D}{k:Bool}(h:p_ a b M=Ya k):yt M a b k:=by
 cases a with
 |ref n=>cases b with
  |ref m=>exact Zsb h|_=>exact je h
 |int i=>cases b with
  |int j=>exact .int i j rfl rfl (Y8 h)|_=>exact je h
 |str i=>cases b with
  |str j=>exact .str i j rfl rfl (Y8 h)|_=>exact je h
 |bl i=>cases b with
  |bl j=>exact .bl i j rfl rfl (Y8 h)|_=>exact je h
 |tup ds=>cases b with
  |tup es=>exact have w:=Rp h;.tup rfl rfl w.1 w.2|_=>exact je h
 |_=>cases b<;>exact je h
theorem Rq{a b:D}{x y:V}{v:Yh}{k:Bool}(hu:X.A.units+80<jA)(I:Inv X pins σ H s)(S:aD X.K H ι M)(ra:Rep X.K H ι a x)(rb:Rep X.K H ι b y)(ru:RelV x u)(rv:RelV y v)(h:p_ a b M=Ya k):SeqAt.RcAt X.A s u v k/\SeqAt.RcNeAt X.A s u v (!k):=by
 have hu1:X.A.units<jA:=lB 1 17666545486865 T1 hu;have hu2:X.A.in1.units+DEEP+1<jA:=by rw[units_in1];exact(show X.A.units+1+60+1<jA from lB 1 0x1a3c2ba0ccc11502b0c11 T1 hu)
 rcases eqK h with⟨ds,es,ea,eb,ek,e1,e2,p1,p2⟩|⟨i,j,ea,eb,ek⟩|⟨i,j,ea,eb,ek⟩|⟨i,j,ea,eb,ek⟩|⟨ea,eb,ek,p1,p2⟩
 .rw[ea]at ra;rw[eb]at rb;rw[←ek];obtain⟨p,vs,its,_,eu,t,r1,v1⟩:=J8 I S e1 ra ru;obtain⟨q,ws,its2,_,ev,t',r2,v2⟩:=J8 I S e2 rb rv;rw[eu,ev];by_cases hl:ds.length=es.length
  .rw[←Zoo (nR r1 v1) hl];have hz:=(nR r1 v1).trans (hl.trans (nR r2 v2).symm);have w:=Ro (Zp7 I DEEP X.A.in1 hu2) p1 p2 r1 r2 v1 v2;exact⟨SeqAt.RcAt.lists t t' hz hu1 w,SeqAt.RcNeAt.lists t t' hz hu1 w⟩
  .rw[Zog hl];have hz:(its.toArray.size !=its2.toArray.size)=true:=bne_iff_ne.mpr λe=>hl ((nR r1 v1).symm.trans (e.trans (nR r2 v2)));exact⟨SeqAt.RcAt.lists_lengths t t' hz hu1,Z1 t t' hz hu1⟩
 .rw[ea]at ra;rw[eb]at rb;obtain⟨t,e⟩:=vX ra ru;obtain⟨t',e'⟩:=vX rb rv;rw[e,e',←ek,←Iu];exact⟨SeqAt.RcAt.int_int _ _ _ _,SeqAt.RcNeAt.int_int _ _ _ _⟩
 .rw[ea]at ra;rw[eb]at rb;obtain⟨t,e⟩:=vY ra ru;obtain⟨t',e'⟩:=vY rb rv;rw[e,e',←ek,QB];exact⟨SeqAt.RcAt.str_str _ _ _ _,SeqAt.RcNeAt.str_str _ _ _ _⟩
 .rw[ea]at ra;rw[eb]at rb;rw[vW ra ru,vW rb rv,←ek,←Iu];exact⟨SeqAt.RcAt.bool_bool _ _,SeqAt.RcNeAt.bool_bool _ _⟩
 .rw[ea]at ra;rw[eb]at rb;obtain⟨p,vs,its,_,eu,t,r1,v1⟩:=yr I ra ru;obtain⟨q,ws,its2,_,ev,t',r2,v2⟩:=yr I rb rv;rw[eu,ev,←ek,←ZnX (nR r1 v1) (nR r2 v2)];have w:=Ro (Zp7 I DEEP X.A.in1 hu2) p1 p2 r1 r2 v1 v2;exact⟨Z7 t t' hu1 w,SeqAt.RcNeAt.tuples t t' hu1 w⟩
end
theorem eE(hu:X.A.units+80<jA):aQ X (eV .Eq) (r2 X.K aW):=by
 intro pins s σ H x y v u Q I rx ry h;obtain⟨ι,M,a,b,S,ra,rb,h⟩:=h;unfold aW at h;cases q:p_ a b M with
 |none=>rw[q]at h;exact h.elim|some k=>rw[q]at h;exact(Rq hu I S ra rb rx ry q).1 X.prog X.w X.xe _ ⟨.bl k,H,I,rfl,Zt.ok h S Rep.bl⟩
theorem Rr{i:Int}(r:Zw K H ι ds vs)(h:gA ds i=Ya d):∃v,xR vs i=Ya v/\Rep K H ι d v:=by
 unfold gA at h;unfold xR;have e:Ac vs.length i=j6 ds.length i:=by rw[r.length];rfl
 rw[e];cases q:j6 ds.length i with
 |none=>rw[q]at h;cases h|some j=>rw[q]at h;exact r.get h
theorem bB:lG X (r2 X.K Zn):=lG.imp ZuO λx y H Q ak=>by
 obtain⟨ι,M,a,b,S,ra,rb,h⟩:=ak;cases a with
 | tup ds=>cases b with
  |int i=>have h:Zt X.K H ι Q (vR (gA ds i) (λd=>.ok d M)):=h;obtain⟨d,q,h⟩:=FN h;obtain⟨p,vs,e',s1,r1⟩:=ra.i_;obtain⟨v,e,rv⟩:=Rr r1 q;exact .inr (.inl ⟨p,vs,i,v,e',rb.int_inv,s1,e,Zt.ok h S rv⟩)|_=>exact h.elim
 | aZ ds=>cases b with
  |int i=>have h:Zt X.K H ι Q (vR (gA ds i) (λd=>.ok d M)):=h;obtain⟨d,q,h⟩:=FN h;obtain⟨p,vs,e',s1,r1⟩:=ra.rR;obtain⟨v,e,rv⟩:=Rr r1 q;exact .inl ⟨p,vs,i,v,e',rb.int_inv,s1.sq,e,Zt.ok h S rv⟩|_=>exact h.elim
 | str z=>cases b with
  |int i=>have h:Zt X.K H ι Q (onN (gA z i) (λc=>@ite _ (z.length<=SZ) (Yx _) (.ok (.str [c]) M) .bad)):=h;obtain⟨c,q,h⟩:=Zsf h;obtain⟨hz,h⟩:=vU h;exact .inr (.inr ⟨_,i,c,ra.str_inv,rb.int_inv,Yj hz jD,q,Zt.ok h S Rep.str⟩)|_=>exact h.elim
 | ref n=>cases b with
  |int i=>have h:Zt X.K H ι Q (yq (M[n]?) (λds=>vR (gA ds i) λd=>.ok d M)):=h;obtain⟨ds,hn,h⟩:=J6 h;obtain⟨d,q,h⟩:=FN h;obtain⟨p,hp,e'⟩:=ra.dJ;obtain⟨vs,e1,r1⟩:=S.obj n _ p hn hp;obtain⟨v,e,rv⟩:=Rr r1 q;exact .inl ⟨p,vs,i,v,e',rb.int_inv,bC.of e1,e,Zt.ok h S rv⟩|_=>exact h.elim
 |_=>cases b<;>exact h.elim
theorem Ru(r:Zw K H ι ds vs)(lo hi:Option Int):Zw K H ι (cutD ds lo hi) (vG vs lo hi):=by
 have e:∀n d o,HT.aC n d o=aC n d o:=λn d o=>by cases o<;>rfl
 unfold cutD vG;rw[e,e,r.length];exact(r.drop _).take _
end
noncomputable def fZ(cells:List (aj×Y1)):List (aj×NameKind)->List (aj×Y1)->List (aj×Y1)
 |[],cs=>cs|(n,k)::r,cs=>fZ cells r (if k== .free then(n,(cells.lookup n).getD 0)::cs else cs)
theorem FT{cells:List (aj×Y1)}{n:aj}{k:NameKind}{r:List (aj×NameKind)}{cs:List (aj×Y1)}:fZ cells ((n,k)::r) cs=fZ cells r (if k== .free then(n,(cells.lookup n).getD 0)::cs else cs):=rfl
theorem J9{scope:Scope}{env:eY}(h:∀y∈scope.names,y.2= .free->∃c,env.cells.lookup y.1=Ya c):closureFor scope env=pure (fZ env.cells scope.names []):=by
 unfold closureFor;have key:∀(names:List (aj×NameKind)) (cs:List (aj×Y1)),(∀y∈names,y.2= .free->∃c,env.cells.lookup y.1=Ya c) ->
   (forIn names cs λx r=>match x with|(name,kind)=>if(kind==NameKind.free)=true then do let c ←cellOf env name;pure (ForInStep.yield ((name,c)::r))else pure (ForInStep.yield r):oN (List (aj×Y1)))=pure (fZ env.cells names cs):=by
  intro names
  induction names with
  |nil=>intro cs _;rfl|cons y r ih=>
   intro cs hy;obtain⟨n,k⟩:=y;rw[List.forIn_cons];by_cases hk:k= .free
   .subst hk;obtain⟨c,hc⟩:=hy (n,.free) Yd rfl;have e1:cellOf env n=pure c:=by unfold cellOf;rw[hc]
    simp only[beq_self_eq_true,if_true,e1,pure_bind];rw[ih _ λz hz=>hy z (Yc _ hz)];rw[FT,hc];rfl
   .have hb:(k==NameKind.free)=false:=by simpa using hk
    simp only[hb,zN,if_false,pure_bind];rw[ih _ λz hz=>hy z (Yc _ hz)];rw[FT,hb];rfl
 have:=key scope.names [] h
 first
  |exact this
  |(simp only[bind_pure];exact this)
theorem ZoB{cells:List (aj×Y1)}{c:Y1}:∀(names:List (aj×NameKind)) (cs:List (aj×Y1)),(∀y∈names,y.2= .free->∃c,cells.lookup y.1=Ya c)->(fZ cells names cs).lookup x=Ya c->cs.lookup x=Ya c\/cells.lookup x=Ya c:=by
 intro names
 induction names with
 |nil=>intro cs _ h;exact .inl h|cons y r ih=>
  intro cs hy h;obtain⟨n,k⟩:=y;rw[FT]at h;rcases ih _ (λz hz=>hy z (Yc _ hz)) h with q|q
  .by_cases hk:k= .free
   .subst hk;obtain⟨c0,hc⟩:=hy (n,.free) Yd rfl;simp only[beq_self_eq_true,if_true,hc,Option.getD_some,jW]at q;cases hx:x==n with
    |true=>
     simp only[hx]at q;cases q;have:x=n:=by simpa using hx
     subst this;exact .inr hc
    |false=>simp only[hx]at q;exact .inl q
   .have hb:(k==NameKind.free)=false:=by simpa using hk
    simp only[hb,zN,if_false]at q;exact .inl q
  .exact .inr q
theorem ZmF{cells:List (aj×Y1)}:∀(names:List (aj×NameKind)) (cs:List (aj×Y1)),(cs.lookup x).isSome=true->((fZ cells names cs).lookup x).isSome=true:=by
 intro names
 induction names with
 |nil=>intro cs h;exact h|cons y r ih=>
  intro cs h;obtain⟨n,k⟩:=y;rw[FT];refine ih _ ?_;split
  .rw[jW];split
   .rfl
   .exact h
  .exact h
theorem ZjI{cells:List (aj×Y1)}:∀(names:List (aj×NameKind)) (cs:List (aj×Y1)),(x,NameKind.free)∈names->((fZ cells names cs).lookup x).isSome=true:=by
 intro names
 induction names with
 |nil=>intro cs h;cases h|cons y r ih=>
  intro cs h;obtain⟨n,k⟩:=y;rw[FT];rcases Yo.mp h with e|h
  .cases e
   refine ZmF _ _ ?_;simp
  .exact ih _ h
noncomputable def eG(X:Cx)(scope:Scope)(N':List aj)(C:Y1)(cl:List (aj×Y1))(s:Yk)(H:Hp)(ex:List Y1):Cx:={X with N:=N',s₀:=s,H₀:=H,env:=Dw scope cl C X.env,outer:=X.stack,stack:=X.stack,ex:=ex,fn:=λ_=>false,pn:=[],xe:=λ_ _=>False}
noncomputable def Rv(N N':List aj)(scope:Scope):Bool:=(gW N.length).all λi=>match N'[i]? with
 |some x=>(scope.names.lookup x).isNone|| (decide (N[i]?=Ya x)&&decide (scope.names.lookup x=Ya .free))|none=>false
def pA(X:Cx)(ifs:List Expr)(ts:List E3):Prop:=∀(pins:List (Y1×aM)) (s:Yk) (σ:St) (H:Hp) (Q:Bool->Hp->Prop),Inv X pins σ H s ->
 (∃ι M env,aD X.K H ι M/\b_ X.K H ι env σ/\match tX ts env M with| .ok b M'=>∀H' ι',Ext X.K H ι H' ι'->aD X.K H' ι' M'->Q b H'|_=>False) ->
 aq (aA X.prog X.w) X.A (forIn ifs true λc r=>if r=true then do let ok ←isTrue c X.env (aG c X.env);pure (ForInStep.yield ok)else pure (ForInStep.yield r)) (TP X pins σ Q) X.xe s
theorem mR:pA X [] []:=λpins s σ H Q I ⟨ι,M,env,S,E,h⟩=>wpAny_tests_nil ⟨H,I,h H ι Ext.refl S⟩
theorem Zsa{c:Expr}(hc:CT X c f):pA X [c] [f]:=λpins s σ H Q I ak=>by
 obtain⟨ι,M,env,S,E,h⟩:=ak;refine wpAny_tests_one (hc pins s σ H Q I ⟨ι,M,env,S,E,?_⟩);rw[Ff]at h;cases q:f env M with
 | ok d M1=>
  rw[q]at h;cases d with
  |bl b=>cases b with
   |true=>exact h|false=>exact h
  |_=>exact h.elim
 |exc x M1=>rw[q]at h;exact h.elim|bad=>rw[q]at h;exact h.elim
section
variable {prog:bF} {w:bx} {A:bK} {R:sS->Yk->Prop} {s:Yk}
theorem ZgZ{elt target iter:Expr}{ifs:List Expr}{scope:Scope}{pos:aV}{it acc:Yh}{env:eY}(I:Nat->Yk->Prop)(turn:∀n s,I n s->aq (aA prog w) A (sO it) (λr s₁=>match r with
   |none=>R (.ok .next) s₁|some v=>aq (aA prog w) A (Dq target it v) (λ_ s₁'=>aq (aA prog w) A (jn target env v) (λ_ s₂=>
     aq (aA prog w) A (forIn ifs true λc r=>if r=true then do let ok ←isTrue c env (aG c env);pure (ForInStep.yield ok)else pure (ForInStep.yield r)) (λok s₃=>
      if ok=true then aq (aA prog w) A (aG elt env) (λx s₄=>aq (aA prog w) A (call (.builtin "list.append") [acc,x]) (λ_ s₅=>∃m,m<n/\I m s₅) (λ_ _=>False) s₄) (λ_ _=>False) s₃
      else∃m,m<n/\I m s₃) (λ_ _=>False) s₂) (λ_ _=>False) s₁') (λ_ _=>False) s₁) (λ_ _=>False) s)(n:Nat)(h:I n s):mJ (aA prog w) A (.compLoop (.ListComp elt [⟨target,iter,ifs,0⟩] scope pos) 0 it acc env) R s:=by
 refine codeAny_loop rfl I (λn s hI=>?_) n h;show aq _ A ((compTurn (.ListComp elt [⟨target,iter,ifs,0⟩] scope pos) 0 it acc env).onRaise (λx=>do noteFrame x env;theTreesLotGoes x)) _ _ s;refine wpAny_noted ?_;rw[compTurn_list];refine Yg (uX (Yg (jz (turn n s hI) (λr s₁ h₁=>?_) λ_ _ h'=>jo h')));cases r with
 |none=>exact Yt h₁|some v=>
  refine Yg (jz h₁ (λ_ s₁' h₁'=>?_) λ_ _ h'=>jo h');refine Yg (jz h₁' (λ_ s₂ h₂=>Yg (jz h₂ (λok s₃ h₃=>?_) λ_ _ h'=>jo h')) λ_ _ h'=>jo h');cases ok with
  |false=>exact Yt ⟨rfl,h₃⟩|true=>exact Yg (Yg (jz h₃ (λx s₄ h₄=>Yg (jz h₄ (λ_ s₅ h₅=>Yt (Yt ⟨rfl,h₅⟩)) λ_ _ h'=>jo h')) λ_ _ h'=>jo h'))
end
theorem Rx{env:eY}{k:NameKind}:∀{names:List (aj×NameKind)},(names.map λ(n,k)=>if(k==NameKind.free&&env.scope.kind== .function&&env.kindOf n==Ya .cell)then(n,NameKind.cell)else(n,k)).lookup x=Ya k ->
  ∃k0,names.lookup x=Ya k0/\(k0=k\/(k0= .free/\k= .cell)):=by
 intro names
 induction names with
 |nil=>intro h;simp at h|cons y r ih=>
  intro h;obtain⟨n,k1⟩:=y;rw[Yu]at h;cases hx:x==n with
  | true=>
   refine⟨k1,by simp[jW,hx],?_⟩;by_cases hc:(k1==NameKind.free&&env.scope.kind== .function&&env.kindOf n==Ya .cell)=true
   .simp only[if_pos hc,jW,hx]at h;cases h;simp only[Y5,beq_iff_eq]at hc;exact .inr ⟨hc.1.1,rfl⟩
   .simp only[if_neg hc,jW,hx]at h;cases h;exact .inl rfl
  | false=>
   have h':(r.map λ(n,k)=>if(k==NameKind.free&&env.scope.kind== .function&&env.kindOf n==Ya .cell)then(n,NameKind.cell)else(n,k)).lookup x=Ya k:=by
    by_cases hc:(k1==NameKind.free&&env.scope.kind== .function&&env.kindOf n==Ya .cell)=true
    .simp only[if_pos hc,jW,hx]at h;exact h
    .simp only[if_neg hc,jW,hx]at h;exact h
   obtain⟨k0,e,q⟩:=ih h';exact⟨k0,by simp[jW,hx,e],q⟩
theorem ZkW{env:eY}:∀{names:List (aj×NameKind)},names.lookup x=Ya .free ->
  (names.map λ(n,k)=>if(k==NameKind.free&&env.scope.kind== .function&&env.kindOf n==Ya .cell)then(n,NameKind.cell)else(n,k)).lookup x=Ya .free\/
  (names.map λ(n,k)=>if(k==NameKind.free&&env.scope.kind== .function&&env.kindOf n==Ya .cell)then(n,NameKind.cell)else(n,k)).lookup x=Ya .cell:=by
 intro names
 induction names with
 |nil=>intro h;simp at h|cons y r ih=>
  intro h;obtain⟨n,k1⟩:=y;rw[Yu];cases hx:x==n with
  |true=>
   simp only[jW,hx]at h;cases h;by_cases hc:(NameKind.free==NameKind.free&&env.scope.kind== .function&&env.kindOf n==Ya .cell)=true
   .simp only[if_pos hc,jW,hx];exact .inr trivial
   .simp only[if_neg hc,jW,hx];exact .inl trivial
  |false=>
   simp only[jW,hx]at h;by_cases hc:(k1==NameKind.free&&env.scope.kind== .function&&env.kindOf n==Ya .cell)=true
   .simp only[if_pos hc,jW,hx];exact ih h
   .simp only[if_neg hc,jW,hx];exact ih h
section
variable {X:Cx} {pins:List (Y1×aM)} {σ:St} {H:Hp} {s:Yk} {scope:Scope} {N':List aj} {own:Nat} {fp:List Y1}
theorem Zle(I:Inv X pins σ H s)(hk:scope.kind= .function)(hcell:∀y∈scope.names,y.2≠ .cell)(hfree:∀y∈scope.names,y.2= .free->X.env.kindOf y.1=Ya .cell\/X.env.kindOf y.1=Ya .free)(hN:N'.length=X.N.length+own)(hv:Rv X.N N' scope=true)(hfp:∀b∈fp,iB X pins H b)(hlt:∀b∈fp,b<s.heap.objs.size){h1:aO}{tk:Nat}(hns:h1.Ns s.heap.objs.size λ_=>Ym)(keep:∀b o,s.heap.get? b=Ya o->h1.get? b=Ya o):
  Inv (eG X scope N' s.heap.objs.size (fZ X.env.cells scope.names []) s H fp) [] (σ++Yq own Ym) H {s with heap:=h1,toks:=tk}:=by
 have hc0:∀y∈scope.names,y.2= .free->∃c,X.env.cells.lookup y.1=Ya c:=λy hy e=>I.ok.has y.1 (hfree y hy e);have sub:∀x c,(fZ X.env.cells scope.names []).lookup x=Ya c->X.env.cells.lookup x=Ya c:=λx c h=>by
  rcases ZoB scope.names [] hc0 h with q|q
  .simp at q
  .exact q
 have cellK:∀{c:Y1} {v:Option Yh},s.heap.IsCell c v->h1.IsCell c v:=λ⟨o,ho,hd⟩=>⟨o,keep _ o ho,hd⟩;refine⟨⟨I.ok.mod,hk,I.ok.glob,I.ok.blt,Ys _,λx y c h1 h2=>I.ok.inj x y c (sub x c h1) (sub y c h2),λx hx=>?_,λx c h=>?_,I.ok.hd,I.ok.frames,.inl rfl,λb hb=>⟨dz (hlt b hb),λx c h=>(hfp b hb).2.2.2.2.1 x c (sub x c h)⟩,
   I.bs,Yj I.ok.pZ I.sz,λb o e hb=>?_,λb hb hz=>?_,I.stack,I.Vh⟩,rfl,I.bare,Un.kept keep,⟨_,hns,λi x v h1 h2 h3=>?_⟩,λx c h=>?_,I.hok.fresh (Ys _),λx c h=>I.qK x c (sub x c h),
  λp hp=>absurd (show p∈([]:List (Y1×aM))from hp) (by simp),I.hok.kept keep,?_⟩
 .have hx':(u9 scope X.env).names.lookup x=Ya .cell\/(u9 scope X.env).names.lookup x=Ya .free:=hx;have:scope.names.lookup x=Ya .free:=by
   rcases hx' with hx'|hx'
   .obtain⟨k0,e,q⟩:=Rx (names:=scope.names) hx';rcases q with q|⟨q,_⟩
    .subst q;exact absurd rfl (hcell _ (sH e))
    .rw[e,q]
   .obtain⟨k0,e,q⟩:=Rx (names:=scope.names) hx';rcases q with q|⟨_,q⟩
    .rw[e,q]
    .cases q
  exact Hj.mp (ZjI scope.names [] (sH this))
 .cases h
 .obtain⟨_,_,_,q,_⟩:=hfp b hb;rcases q with q|q
  .exact I.ok.Dc b o e q
  .exact absurd (Y7 (Y3 e) (Yj I.ok.pZ q)) (vo _)
 .have hz':b∈frs X.stack:=hz;obtain⟨_,q1,q2,_⟩:=hfp b hb;rcases Yo.mp (I.Mx b hz')with e|e
  .exact q1 e
  .exact q2 e
 .have hi:i<σ.length:=by
   by_cases hi:i<σ.length
   .exact hi
   .rw[wO (jJ hi),Ht]at h2;split at h2<;>cases h2
  rw[Yi hi]at h2;have Ef:i<X.N.length:=by rw[←I.len];exact hi
  have hN':N'[i]?=Ya x:=h1;have vq:=gU.mp hv i (Hz.mpr Ef);rw[hN']at vq;have h3':(u9 scope X.env).names.lookup x=Ya .local\/(u9 scope X.env).names.lookup x=Ya .cell\/(u9 scope X.env).names.lookup x=Ya .free:=h3;have some_of:∃k0,scope.names.lookup x=Ya k0:=by rcases h3' with q|q|q<;>(obtain⟨k0,e,_⟩:=Rx (names:=scope.names) q;exact⟨k0,e⟩)
  obtain⟨k0,ek⟩:=some_of;simp only[ek,Option.isNone_some,Xr,Y5,decide_eq_true_eq]at vq;obtain⟨vq1,vq2⟩:=vq;cases vq2;have hkind:=hfree (x,.free) (sH ek) rfl;obtain⟨m,hn,hl⟩:=I.loc;have Abv:Jr X.env.scope x:=by
   rcases hkind with q|q
   .exact .inr (.inl q)
   .exact .inr (.inr q)
  obtain⟨u,ru,lk⟩:=hl i x v vq1 h2 Abv;refine⟨u,ru,?_⟩;rcases lk with⟨kl,_⟩|⟨_,c,ec,ic⟩
  .rcases hkind with q|q<;>(rw[q]at kl;cases kl)
  .have hkk:(Dw scope (fZ X.env.cells scope.names []) s.heap.objs.size X.env).kindOf x=Ya .cell\/(Dw scope (fZ X.env.cells scope.names []) s.heap.objs.size X.env).kindOf x=Ya .free:=by
    rcases ZkW (env:=X.env) ek with q|q
    .exact .inr q
    .exact .inl q
   obtain⟨c',ec'⟩:=Hj.mp (ZjI (cells:=X.env.cells) scope.names [] (sH ek));have e2:=sub x c' ec';rw[ec]at e2;cases e2;exact .inr ⟨hkk,c,ec',cellK ic⟩
 .obtain⟨v,ic⟩:=I.cell x c (sub x c h);exact⟨v,cellK ic⟩
 .show(σ++Yq own Ym).length=N'.length;rw[Ye,mG,I.len,hN]
theorem b_.grow{H:Hp}{σ:St}(E:b_ K H ι env σ)(n:Nat):b_ K H ι (env++Yq n Ym) (σ++Yq n Ym):=by
 refine⟨by simp[E.1],λi d h=>?_⟩;by_cases hi:i<env.length
 .rw[Yi hi]at h;obtain⟨v,e,r⟩:=E.2 i d h;exact⟨v,by rw[Yi (by rw[←E.1];exact hi)];exact e,r⟩
 .rw[wO (jJ hi),Ht]at h;split at h<;>cases h
end
section
structure Cb where
 Y:Cx
 fp:List Y1
 tn:Nat->aO->Prop
 aU:fV
 H2:Hp
 ι2:List Y1
 Q:VK
 g:G3
 ts:List E3
 f:E3
 nM:Nat
 acc:Y1
inductive Ry(P:Cb)(n:Nat)(s':Yk):Prop
 | mk (k:Nat) (σ5:St) (H5:Hp) (ι5:List Y1) (M5:Store) (rW:bL) (I5:Inv P.Y [] σ5 H5 s') (lu:P.tn k s'.heap) (oW:∀b∈P.fp,H5 b=Ym) (hn:P.aU.items.length-k=n) (hk:k<=P.aU.items.length)
   (x5:Ext P.Y.K P.H2 P.ι2 H5 ι5) (S5:aD P.Y.K H5 ι5 M5) (E5:b_ P.Y.K H5 ι5 rW σ5) (hι:ι5[P.nM]?=Ya P.acc) (h5:Zt P.Y.K H5 ι5 P.Q (iZ P.aU P.g P.ts P.f P.nM (P.aU.items.drop k) rW M5))
def J_(P:Cb)(n:Nat)(s':Yk):Prop:=∃m,m<n/\Ry P m s'
section
noncomputable local instance (priority:=100000) AdN (p:Prop):Decidable p:=Abf p
noncomputable def Ka(P:Cb)(k:Nat)(env:bL)(e:D)(M2:Store):R3 D:=match M2[P.nM]? with
 |some (.lst x)=>if x.length<SZ then iZ P.aU P.g P.ts P.f P.nM (P.aU.items.drop (k+1)) env (M2.set P.nM (.lst (x++[e])))else .bad|_=>.bad
noncomputable def Rz(P:Cb)(k:Nat)(env:bL)(b:Bool)(M1:Store):R3 D:=if b then(P.f env M1).bind (Ka P k env)else iZ P.aU P.g P.ts P.f P.nM (P.aU.items.drop (k+1)) env M1
end
def cbF(P:Cb)(n:Nat)(xv:Yh)(s:Yk):Prop:=aq (aA P.Y.prog P.Y.w) P.Y.A (call (.builtin "list.append") [.ref P.acc,xv]) (λ_ s'=>J_ P n s') P.Y.xe s
def cbO(P:Cb)(elt:Expr)(n:Nat)(ok:Bool)(s:Yk):Prop:=if ok=true then aq (aA P.Y.prog P.Y.w) P.Y.A (aG elt P.Y.env) (cbF P n) P.Y.xe s else J_ P n s
def cbS(P:Cb)(elt:Expr)(ifs:List Expr)(n:Nat)(s:Yk):Prop:=aq (aA P.Y.prog P.Y.w) P.Y.A (forIn ifs true λc r=>if r=true then do let ok ←isTrue c P.Y.env (aG c P.Y.env);pure (ForInStep.yield ok)else pure (ForInStep.yield r)) (cbO P elt n) P.Y.xe s
def cbA(P:Cb)(tg elt:Expr)(ifs:List Expr)(n:Nat)(u:Yh)(s:Yk):Prop:=aq (aA P.Y.prog P.Y.w) P.Y.A (jn tg P.Y.env u) (λ_=>cbS P elt ifs n) P.Y.xe s
def cbN(P:Cb)(tg elt:Expr)(ifs:List Expr)(it:Y1)(n:Nat)(F:Yk->Prop)(r:Option Yh)(s:Yk):Prop:=match r with
 |none=>F s|some v=>aq (aA P.Y.prog P.Y.w) P.Y.A (Dq tg (.ref it) v) (λ_=>cbA P tg elt ifs n v) P.Y.xe s
variable {P:Cb} {tg elt:Expr} {ifs:List Expr} {J:It} {it:Y1} {k:Nat} {h7:aO} {σ:St} {H H':Hp} {s:Yk} {ι:List Y1} {M M1:Store} {env:bL}
theorem Zod(T:Turn P.Y.prog P.Y.w P.Y.K tg J P.fp it P.tn)(kj:P.tn (k+1) h7)(hlt:k<P.aU.items.length)(I':Inv P.Y ([]++tH P.fp h7) σ H s)(x:Ext P.Y.K P.H2 P.ι2 H ι)(S:aD P.Y.K H ι M)(E:b_ P.Y.K H ι env σ)(hι:ι[P.nM]?=Ya P.acc)(h:Zt P.Y.K H ι P.Q (iZ P.aU P.g P.ts P.f P.nM (P.aU.items.drop (k+1)) env M)):J_ P (P.aU.items.length-k) s:=⟨P.aU.items.length-(k+1),lD 2 0x30113c2012a1c0c21 T1 (gZ (lB 1 6991908881 T1 hlt)) (g8 _ _),⟨k+1,σ,H,ι,M,env,I'.CV,T.keep _ _ _ kj λb hb o e=>(I'.pin (b,o) (Y6 _ (Y6 _ (zZ hb e)))).1,λb hb=>(T.obj _ _ kj b hb).elim λo e=>(I'.pin (b,o) (Y6 _ (Y6 _ (zZ hb e.1)))).2.1,rfl,hlt,x,S,E,hι,h⟩⟩
theorem ZvQ:Rz P k env true M=(P.f env M).bind (Ka P k env):=if_pos rfl
theorem Zwy:Rz P k env false M=iZ P.aU P.g P.ts P.f P.nM (P.aU.items.drop (k+1)) env M:=if_neg (by decide)
theorem Zt.iff{H:Hp}{ι:List Y1}{Q:VK}{c:Prop}{dc:Decidable c}(h:Zt K H ι Q (if c then r else .bad)):c/\Zt K H ι Q r:=by
 by_cases hc:c
 .rw[if_pos hc]at h;exact⟨hc,h⟩
 .rw[if_neg hc]at h;exact h.elim
theorem Zt6{xv:Yh}(T:Turn P.Y.prog P.Y.w P.Y.K tg J P.fp it P.tn)(kj:P.tn (k+1) h7)(hlt:k<P.aU.items.length)(I':Inv P.Y ([]++tH P.fp h7) σ H s)(r:RelV v xv)(x:Ext P.Y.K P.H2 P.ι2 H ι)(S:aD P.Y.K H ι M)(E:b_ P.Y.K H ι env σ)(rd:Rep P.Y.K H ι d v)(hι:ι[P.nM]?=Ya P.acc)(hm:M[P.nM]?=Ya (.lst xs))(hz:xs.length<SZ)(h:Zt P.Y.K H ι P.Q (iZ P.aU P.g P.ts P.f P.nM (P.aU.items.drop (k+1)) env (M.set P.nM (.lst (xs++[d]))))):
  cbF P (P.aU.items.length-k) xv s:=by
 obtain⟨vs,ev,rvs⟩:=S.obj _ _ _ hm hι;obtain⟨x11,RB⟩:=S.uK (.inr (.inl ⟨_,ev⟩)) hι (rvs.append (Zw.cons rd Zw.nil));refine aF (Q':=λ_ s'=>J_ P (P.aU.items.length-k) s') (QS _ s σ H (.ref P.acc) [v] (.ref P.acc) [xv] (λ_ H'=>H'=upd H P.acc (.lst (vs++[v]))) I' rfl (.cons r .nil) ⟨_,vs,v,rfl,rfl,ev,by rw[rvs.length];exact Y7 hz jD,rfl⟩) λ_ Kc ak=>?_;obtain⟨_,H11,Kd,_,eH⟩:=ak;rw[eH]at Kd;exact Zod T kj hlt Kd (x.trans x11) RB (E.mono x11) (x11.pre _ _ hι) (h.up x11)
theorem ZuD(T:Turn P.Y.prog P.Y.w P.Y.K tg J P.fp it P.tn)(helt:C3 P.Y elt P.f)(kj:P.tn (k+1) h7)(hlt:k<P.aU.items.length)(I':Inv P.Y ([]++tH P.fp h7) σ H s)(x:Ext P.Y.K P.H2 P.ι2 H ι)(S:aD P.Y.K H ι M)(E:b_ P.Y.K H ι env σ)(hι:ι[P.nM]?=Ya P.acc)(h:Zt P.Y.K H ι P.Q ((P.f env M).bind (Ka P k env))):
  aq (aA P.Y.prog P.Y.w) P.Y.A (aG elt P.Y.env) (cbF P (P.aU.items.length-k)) P.Y.xe s:=by
 obtain⟨d,FW,e10,h10⟩:=Zt.bind h;refine aF (Q':=cbF P (P.aU.items.length-k)) (helt _ s σ H (λv H'=>∃ql,Ext P.Y.K H ι H' ql/\aD P.Y.K H' ql FW/\Rep P.Y.K H' ql d v) I' ⟨ι,M,env,S,E,by rw[e10];exactλv H' ι' x' S' r'=>⟨ι',x',S',r'⟩⟩) λxv Ke ak=>?_;obtain⟨v,RD,RG,r10,ql,x10,Kf,rd⟩:=ak;unfold Ka at h10;cases hm:FW[P.nM]? with
 |none=>rw[hm]at h10;exact h10.elim|some o=>
  rw[hm]at h10;cases o with
  |dct _=>exact h10.elim|cL _=>exact h10.elim|ins _ _=>exact h10.elim|lst xs=>exact Zt6 T kj hlt RG r10 (x.trans x10) Kf (E.mono x10) rd (x10.pre _ _ hι) hm (Zt.iff h10).1 ((Zt.iff h10).2.up x10)
theorem ZtV(T:Turn P.Y.prog P.Y.w P.Y.K tg J P.fp it P.tn)(hts:pA P.Y ifs P.ts)(helt:C3 P.Y elt P.f)(kj:P.tn (k+1) h7)(hlt:k<P.aU.items.length)(I':Inv P.Y ([]++tH P.fp h7) σ H s)(x:Ext P.Y.K P.H2 P.ι2 H ι)(S:aD P.Y.K H ι M)(E:b_ P.Y.K H ι env σ)(hι:ι[P.nM]?=Ya P.acc)(h:Zt P.Y.K H ι P.Q ((tX P.ts env M).bind (Rz P k env))):
  cbS P elt ifs (P.aU.items.length-k) s:=by
 obtain⟨b,M9,e9,h9⟩:=Zt.bind h;refine aF (Q':=cbO P elt (P.aU.items.length-k)) (hts _ s σ H (λb' H'=>b'=b/\∃ι9,Ext P.Y.K H ι H' ι9/\aD P.Y.K H' ι9 M9) I' ⟨ι,M,env,S,E,by rw[e9];exactλH' ι' x' S'=>⟨rfl,ι',x',S'⟩⟩) λb' s9 ak=>?_;obtain⟨H9,I9,eb,ι9,x9,S9⟩:=ak;rw[←eb]at h9;cases b' with
 |false=>exact Zod T kj hlt I9 (x.trans x9) S9 (E.mono x9) (x9.pre _ _ hι) (Zt.up x9 (Zwy▸h9))|true=>exact ZuD T helt kj hlt I9 (x.trans x9) S9 (E.mono x9) (x9.pre _ _ hι) (Zt.up x9 (ZvQ▸h9))
theorem Zwa(T:Turn P.Y.prog P.Y.w P.Y.K tg J P.fp it P.tn)(hc:P.Y.calm=true)(hfp:∀{H':Hp},(∀b∈P.fp,H' b=Ym)->∀b∈P.fp,iB P.Y [] H' b)(hg:CG P.Y tg P.g)(hts:pA P.Y ifs P.ts)(helt:C3 P.Y elt P.f)(hlt:k<P.aU.items.length)(I5:Inv P.Y [] σ H s)(lu:P.tn k s.heap)(oW:∀b∈P.fp,H b=Ym)(x:Ext P.Y.K P.H2 P.ι2 H ι)(S:aD P.Y.K H ι M)(E:b_ P.Y.K H ι env σ)(hι:ι[P.nM]?=Ya P.acc)(ok:qj P.Y.K P.H2 P.ι2 P.aU J)(h:Zt P.Y.K H ι P.Q (iZ P.aU P.g P.ts P.f P.nM (P.aU.items[k]::P.aU.items.drop (k+1)) env M))(F:Yk->Prop):
  aq (aA P.Y.prog P.Y.w) P.Y.A (sO (.ref it)) (cbN P tg elt ifs it (P.aU.items.length-k) F) P.Y.xe s:=by
 obtain⟨lk,h⟩:=Zt.iff h;obtain⟨go,yl⟩:=(ok k H ι M x S lk).1 _ (Y9 hlt);cases eg:P.g P.aU.items[k] env with
 |none=>rw[eg]at h;exact h.elim|some rY=>rw[eg]at h;refine aF (T.item P.Y rfl rfl rfl hc k [] s σ H P.Y.xe I5 (hfp oW) lu go) λr s6 ak=>?_;obtain⟨u,hr,h6⟩:=ak;rw[hr];refine aF (Q':=λ_=>cbA P tg elt ifs (P.aU.items.length-k) u) h6 λ_ s7 ak=>?_;obtain⟨y,H7,I7,r7,y7,kj,Kg⟩:=ak;obtain⟨e7,rx⟩:=yl y H7 y7;rw[e7]at I7 Kg;refine aF (Q':=λ_=>cbS P elt ifs (P.aU.items.length-k)) (hg _ s7 σ H y u (λσ' H'=>H'=H/\b_ P.Y.K H ι rY σ') (I7.pinned (hfp Kg) (T.obj _ _ kj)) r7 ⟨ι,M,env,_,rY,S,E,rx,eg,λσ' E'=>⟨rfl,E'⟩⟩) λ_ s8 ak=>?_;obtain⟨σ8,H8,I8,e8,E8⟩:=ak;rw[e8]at I8;exact ZtV T hts helt kj hlt I8 x S E8 hι h
theorem ZsN(T:Turn P.Y.prog P.Y.w P.Y.K tg J P.fp it P.tn)(hc:P.Y.calm=true)(hfp:∀{H':Hp},(∀b∈P.fp,H' b=Ym)->∀b∈P.fp,iB P.Y [] H' b)(I5:Inv P.Y [] σ H s)(lu:P.tn P.aU.items.length s.heap)(oW:∀b∈P.fp,H b=Ym)(x:Ext P.Y.K P.H2 P.ι2 H ι)(S:aD P.Y.K H ι M)(hι:ι[P.nM]?=Ya P.acc)(ok:qj P.Y.K P.H2 P.ι2 P.aU J)(h:Zt P.Y.K H ι P.Q (iZ P.aU P.g P.ts P.f P.nM [] env M)){F:Yk->Prop}(hF:∀s6,Inv P.Y [] σ H s6->P.Q (.ref P.acc) H->F s6):
  aq (aA P.Y.prog P.Y.w) P.Y.A (sO (.ref it)) (cbN P tg elt ifs it n F) P.Y.xe s:=by
 obtain⟨lk,h⟩:=Zt.iff h;refine aF (T.done P.Y rfl rfl rfl hc _ [] s σ H P.Y.xe I5 (hfp oW) lu ((ok _ H ι M x S lk).2 rfl)) λr s6 ak=>?_;rw[ak.1];exact hF s6 ak.2 (h _ H ι Ext.refl S (Rep.ref hι))
end
variable{s:Yk}{pins:List (Y1×aM)}{it:Y1}{E:Yh->Yk->Prop}{fp:List Y1}
section
variable {X:Cx} {elt tg iter:Expr} {ifs:List Expr} {scope:Scope} {pos:aV} {i:I3} {own:Nat} {g:G3} {ts:List E3} {f:E3} {N':List aj}
structure vZ(X:Cx)(scope:Scope)(N':List aj)(own:Nat):Prop where
 kind:scope.kind= .function
 cell:∀y∈scope.names,y.2≠ .cell
 free:∀y∈scope.names,y.2= .free->X.env.kindOf y.1=Ya .cell\/X.env.kindOf y.1=Ya .free
 names:∀y∈scope.names,y.2= .local->scope.names.lookup y.1=Ya .local
 len:N'.length=X.N.length+own
 vis:Rv X.N N' scope=true
theorem Zsn{P:Cb}{J:It}{F:Yk->Prop}(T:Turn P.Y.prog P.Y.w P.Y.K tg J P.fp it P.tn)(hc:P.Y.calm=true)(hfp:∀{H':Hp},(∀b∈P.fp,H' b=Ym)->∀b∈P.fp,iB P.Y [] H' b)(hb:CG P.Y tg P.g/\pA P.Y ifs P.ts/\C3 P.Y elt P.f)(ok:qj P.Y.K P.H2 P.ι2 P.aU J)(z:Ry P n s)(fin:∀σ H s',Inv P.Y [] σ H s'->P.Q (.ref P.acc) H->F s'):aq (aA P.Y.prog P.Y.w) P.Y.A (sO (.ref it)) (cbN P tg elt ifs it n F) P.Y.xe s:=by
 obtain⟨k,σ5,H5,ι5,M5,rW,I5,lu,oW,hn,hk,x5,S5,E5,hι,h5⟩:=z;by_cases hlt:k<P.aU.items.length
 .rw[zm hlt]at h5;exact hn▸Zwa T hc hfp hb.1 hb.2.1 hb.2.2 hlt I5 lu oW x5 S5 E5 hι ok h5 _
 .rw[Y4 hk (jJ hlt)]at lu h5;rw[NK]at h5;exact ZsN T hc hfp I5 lu oW x5 S5 hι ok h5 λs6 I6 q=>fin σ5 H5 s6 I6 q
theorem ZlZ{s3:Yk}{H2 H3:Hp}{ι2 ι3:List Y1}{M3:Store}{nM:Nat}{D:Y1}{tn:Nat->aO->Prop}{J:It}{aU:fV}{Q:VK}(O:vZ X scope N' own)(hc:X.calm=true)(hb:∀C cl s H ex,CG (eG X scope N' C cl s H ex) tg g/\pA (eG X scope N' C cl s H ex) ifs ts/\C3 (eG X scope N' C cl s H ex) elt f)(T:Turn X.prog X.w X.K tg J fp it tn)(st3:tn 0 s3.heap)(uM:∀b∈fp,b<s3.heap.objs.size)(I3:Inv X pins σ H3 s3)(mC:∀b∈fp,iB X pins H3 b)(x3:Ext X.K H2 ι2 H3 ι3)(S3:aD X.K H3 ι3 M3)(E2:b_ X.K H3 ι3 env σ)(ok:qj X.K H2 ι2 aU J)(h:Zt X.K H3 ι3 Q (iZ aU g ts f nM aU.items (env++Yq own Ym) M3))(hι:ι3[nM]?=Ya D)(RR:Yh->Y1->sS->Yk->Prop)(fin:∀(acc C:Y1) (s':Yk) (m:aj->Option Yh) (H':Hp),s'.heap.Ns C m->iB X pins H' C->Inv X pins σ H' s'->Q (.ref acc) H'->RR (.ref acc) C (.ok .next) s'):
  aq (aA X.prog X.w) X.A (Oc scope X.env.globals (fZ X.env.cells scope.names []) [] X.env.qual Ym .none (Ya X.env)) (λcenv s₄=>mJ (aA X.prog X.w) X.A (.compStart (.ListComp elt [⟨tg,iter,ifs,0⟩] scope pos) 0 (.ref it) (.ref D) {cenv with scope:=u9 scope X.env}) (RR (.ref D) cenv.locals) s₄) E s3:=by
 refine W5 O.cell (by intro y hy;cases hy) (λh4 hns hsb=>?_) O.kind;have CZ:∀b o,s3.heap.get? b=Ya o->h4.get? b=Ya o:=λb o e=>hsb.extBut b o (dz (Y3 e)) (Yl _ e);have I4:=Zle (own:=own) (N':=N') (tk:=s3.toks+([]:List (aj×Yh)).length) I3 O.kind O.cell O.free O.len O.vis mC uM hns CZ;have FZ:tn 0 h4:=T.keep _ _ _ st3 λb hb o e=>CZ b o e;have L:=ZgZ (prog:=X.prog) (w:=X.w) (A:=X.A) (R:=RR (.ref D) s3.heap.objs.size) (scope:=scope) (pos:=pos) (iter:=iter) (elt:=elt) (target:=tg) (ifs:=ifs) (env:=Dw scope (fZ X.env.cells scope.names []) s3.heap.objs.size X.env) (Ry ⟨eG X scope N' s3.heap.objs.size (fZ X.env.cells scope.names []) s3 H3 fp,fp,tn,aU,H2,ι2,Q,g,ts,f,nM,D⟩) (λn s5 z=>Zsn (P:=⟨eG X scope N' s3.heap.objs.size (fZ X.env.cells scope.names []) s3 H3 fp,fp,tn,aU,H2,ι2,Q,g,ts,f,nM,D⟩) T hc
  (λhn b hb=>⟨hn b hb,dz (uM b hb),λhz=>I4.ok.y_ b hb hz,.inl hb,λx c hx=>(I4.ok.Js b hb).2 x c hx,λp hp=>absurd (show p∈([]:List (Y1×aM))from hp) (by simp)⟩)
  (hb _ _ _ _ _) ok z
  λσ' H' s6 I6 q=>I6.loc.elim λm6 RJ=>fin _ _ s6 m6 H' RJ.1 (I3.uI (Ys _) I6.free) (I3.call' (ch:=fp) I6.os I6.base I6.hok I6.bare λb hb=>⟨(mC b hb).2.2.2.1,(mC b hb).2.1,(mC b hb).2.2.2.2.1,(mC b hb).2.2.2.2.2⟩) q) _
  ⟨0,_,_,_,_,_,I4,FZ,λb hb=>(mC b hb).1,rfl,eZ _,x3,S3,E2.grow own,hι,h⟩
 exact WY L (T.self _ 0 _ _ _ FZ L)
theorem ZiE{s2:Yk}{H2:Hp}{ι2:List Y1}{M2:Store}{tn:Nat->aO->Prop}{J:It}{aU:fV}{Q:VK}(O:vZ X scope N' own)(hc:X.calm=true)(hb:∀C cl s H ex,CG (eG X scope N' C cl s H ex) tg g/\pA (eG X scope N' C cl s H ex) ifs ts/\C3 (eG X scope N' C cl s H ex) elt f)(I2:Inv X pins σ H2 s2)(T:Turn X.prog X.w X.K tg J fp it tn)(st0:tn 0 s2.heap)(hfp:∀b∈fp,iB X pins H2 b)(S2:aD X.K H2 ι2 M2)(E2:b_ X.K H2 ι2 env σ)(ok:qj X.K H2 ι2 aU J)(h:Zt X.K H2 ι2 Q (iZ aU g ts f M2.length aU.items (env++Yq own Ym) (M2++[.lst []])))(RR:Yh->Y1->sS->Yk->Prop)(fin:∀(acc C:Y1) (s':Yk) (m:aj->Option Yh) (H':Hp),s'.heap.Ns C m->iB X pins H' C->Inv X pins σ H' s'->Q (.ref acc) H'->RR (.ref acc) C (.ok .next) s'):
  aq (aA X.prog X.w) X.A (Ik []) (λacc s₃=>aq (aA X.prog X.w) X.A (Oc scope X.env.globals (fZ X.env.cells scope.names []) [] X.env.qual Ym .none (Ya X.env)) (λcenv s₄=>mJ (aA X.prog X.w) X.A (.compStart (.ListComp elt [⟨tg,iter,ifs,0⟩] scope pos) 0 (.ref it) acc {cenv with scope:=u9 scope X.env}) (RR acc cenv.locals) s₄) E s₃) E s2:=by
 refine sI ?_;have hD:H2 s2.heap.objs.size=Ym:=I2.hok.fresh (Ys _);obtain⟨x3,S3,r3⟩:=S2.lst hD (Zw.nil (K:=X.K) (H:=H2) (ι:=ι2));have I3:Inv X pins σ (upd H2 s2.heap.objs.size (.lst [])) {s2 with heap:=s2.heap.push {cls:=.type "list",data:=.seq ([]:List Yh).toArray}}:=I2.laid (t':=s2.toks) (λb u e=>Yl _ e) (Ys _) ⟨eZ _,[],0,.nil,Y2 _ rfl⟩;have wM:∀b o,s2.heap.get? b=Ya o->(s2.heap.push {cls:=.type "list",data:=.seq ([]:List Yh).toArray}).get? b=Ya o:=λb o e=>Yl _ e;generalize hs3:({s2 with heap:=s2.heap.push {cls:=.type "list",data:=.seq ([]:List Yh).toArray}}:Yk)=s3 at I3 ⊢;have wM:∀b o,s2.heap.get? b=Ya o->s3.heap.get? b=Ya o:=by rw[←hs3];exact wM
 have lt2:∀b∈fp,b<s2.heap.objs.size:=λb hb=>(T.obj _ _ st0 b hb).elim λo e=>Y3 e.1;have uM:∀b∈fp,b<s3.heap.objs.size:=λb hb=>(T.obj _ _ st0 b hb).elim λo e=>Y3 (wM b o e.1);exact ZlZ O hc hb (T:=T) (st3:=T.keep _ _ _ st0 λb hb o e=>wM b o e) (uM:=uM) (I3:=I3) (mC:=λb hb=>⟨(fK (dz (lt2 b hb))).trans (hfp b hb).1,(hfp b hb).2⟩) (x3:=x3) (S3:=S3) (E2:=E2.mono x3) (ok:=ok) (h:=h.up x3) (hι:=by rw[←S2.len];simp) RR fin
theorem qm(O:vZ X scope N' own)(yp:X.xe=λ_ _=>False)(hc:X.calm=true)(hi:CI X tg iter i)(hb:∀C cl s H ex,CG (eG X scope N' C cl s H ex) tg g/\pA (eG X scope N' C cl s H ex) ifs ts/\C3 (eG X scope N' C cl s H ex) elt f)(hs:∀x,zy iter X.env x=pure x:=by intro _;rfl):C3 X (.ListComp elt [⟨tg,iter,ifs,0⟩] scope pos) (fL i own g ts f):=by intro pins s σ H Q I h;obtain⟨ι,M,env,S,E,h⟩:=h;obtain⟨aU,M1,e1,h⟩:=Zt.bind h;have hc0:∀y∈scope.names,y.2= .free->∃c,X.env.cells.lookup y.1=Ya c:=λy hy e=>I.ok.has y.1 (O.free y hy e);rw[eval_ListComp];refine HF (use:=Ym) rfl hs (J9 hc0) O.kind O.names ?_;refine aF (hi pins s σ H (λJ H'=>∃ι',Ext X.K H ι H' ι'/\aD X.K H' ι' M1/\qj X.K H' ι' aU J) I ⟨ι,M,env,S,E,by rw[e1];exactλJ H' ι' x S' o=>⟨ι',x,S',o⟩⟩) λv s1 h1=>aF h1 λitv s2 h2=>?_;obtain⟨it,fp,tn,J,H2,rfl,I2,T,st2,f2,ι2,x2,S2,ok⟩:=h2;refine ZiE (own:=own) (g:=g) (ts:=ts) (f:=f) O hc hb I2 T st2 f2 S2 (E.mono x2) ok (h.up x2) (λacc C=>Ib (aA X.prog X.w) X.A X.xe Ym (EP X pins σ Q) acc C) ?_;intro acc C s' m H' hn hf I' hq;obtain⟨f0,f1,RK,f3,f4,f5⟩:=hf;exact⟨m,hn,λh' sb=>⟨.ref acc,H',I'.turned (t':=s'.toks) (λb o hb e=>(sb.2 b hb).trans e) f0 f1 f3 f4 f5,rfl,hq⟩⟩
theorem Zpq(j:Nat){pos' spos:aV}(O:vZ X scope N' own)(yp:X.xe=λ_ _=>False)(hc:X.calm=true)(hN:X.N.Nodup)(hi:CI X tg iter i)(hb:∀C cl s H ex,CG (eG X scope N' C cl s H ex) tg g/\pA (eG X scope N' C cl s H ex) ifs ts/\C3 (eG X scope N' C cl s H ex) elt f)(hj:X.N[j]?=Ya x:=by rfl)(hx:Loc X.env.scope x:=by first|exact Or.inl rfl|exact Or.inr rfl)(hf:X.fn x=true\/X.env.scope.names.lookup x=Ya .local:=by first|exact .inl rfl|exact .inr rfl)(hsw:u0 (.ListComp elt [⟨tg,iter,ifs,0⟩] scope pos) (Ya (.Name x pos')) spos.line X.env=pure true:=by rfl)(hs:∀x,zy iter X.env x=pure x:=by intro _;rfl):CS X (.Assign [.Name x pos'] (.ListComp elt [⟨tg,iter,ifs,0⟩] scope pos) spos) (au j (fL i own g ts f)):=by
 intro pins s σ H D I h;obtain⟨ι,M,env,S,E,h⟩:=h;have h0:Zt X.K H ι (λv H'=>D.nx (σ.set j (Ya v)) H') (fL i own g ts f env M):=by
  unfold au at h;cases q:fL i own g ts f env M with
  |ok d M1=>rw[q]at h;exactλv H1 ι1 x1 S1 r1=>h _ H1 ι1 x1 S1 ((E.mono x1).set j r1)|exc _ _=>rw[q]at h;exact h.elim|bad=>rw[q]at h;exact h.elim
 obtain⟨aU,M1,e1,h1⟩:=Zt.bind h0;have hc0:∀y∈scope.names,y.2= .free->∃c,X.env.cells.lookup y.1=Ya c:=λy hy e=>I.ok.has y.1 (O.free y hy e);rw[W3 _ _ _ _ hsw];refine Yg (uX (Yg ?_));show aq _ X.A (do let _ ←comprehension (.ListComp elt [⟨tg,iter,ifs,0⟩] scope pos) scope X.env _ (Ik []) false (aG iter X.env) (Ya (jn (.Name x pos') X.env))) _ _ s;refine Yg (jz (HF (use:=Ya (jn (.Name x pos') X.env)) (Q:=λ_ s'=>SP X pins D .next s') rfl hs (J9 hc0) O.kind O.names ?_) (λ_ s' hq=>Yt (Yt hq)) λ_ _ e=>e);refine aF (hi pins s σ H (λJ H'=>∃ι',Ext X.K H ι H' ι'/\aD X.K H' ι' M1/\qj X.K H' ι' aU J) I ⟨ι,M,env,S,E,by rw[e1];exactλJ H' ι' x S' o=>⟨ι',x,S',o⟩⟩) λv s1 h1'=>aF h1' λitv s2 h2=>?_;obtain⟨it,fp,tn,J,H2,rfl,I2,T,st2,f2,ι2,x2,S2,ok⟩:=h2;refine ZiE (own:=own) (g:=g) (ts:=ts) (f:=f) O hc hb I2 T st2 f2 S2 (E.mono x2) ok (h1.up x2) (λacc C=>Ib (aA X.prog X.w) X.A X.xe (Ya (jn (.Name x pos') X.env)) (λ_ s'=>SP X pins D .next s') acc C) ?_;intro acc C s' m H' hn RL I' hq;obtain⟨f0,f1,RK,f3,f4,f5⟩:=RL;show aq _ X.A (jn (.Name x pos') X.env (.ref acc)) _ _ s';refine N7 (Qq I' hN hj hx (show RelV (.ref acc) (.ref acc)from rfl) (λs'' RM ⟨a,sb,ha⟩=>?_) hf);have RN:C≠a:=by
  rcases ha with rfl|ha
  .exact f1
  .exact cP (f4 x a ha)
 exact⟨m,hn.sameBut sb RN,λh' RP=>⟨_,H',RM.turned (t':=s''.toks) (λb o hb e=>(RP.2 b hb).trans e) f0 f1 f3 f4 f5,hq⟩⟩
end
theorem gh{k:Nat}(r:dB k A):A.units+80<jA:=by have:=r.un;exact lC 1 0x2502b0c12c82b110d0cc11 T1 this
noncomputable def Its(x:aj):It:=⟨λi _=>i<x.cps.size,λi H y H'=>H'=H/\∃c,x.cps[i]?=Ya c/\y= .str ⟨#[c]⟩,λi _=>i=x.cps.size⟩
variable{w:bx}
theorem Zpv{P:bF}{tg:Expr}{t:fH}{ty:String}(W:∀A':bK,A'.handled=Ym->Walks P w A' it [it] [it] x.cps.size (SignAt x) (λi h=>h.IsStrIter it ty x t i))(hs:∀(A:bK) (i:Nat) (s:Yk) (Q:Yh->Yk->Prop) (E:Yh->Yk->Prop),s.heap.IsStrIter it ty x t i->Q (.ref it) s->aq (aA P w) A (zG (.ref it)) Q E s)(hty:["enumerate","zip","dict_itemiterator","dict_reverseitemiterator","odict_iterator","itertools.zip_longest","itertools.pairwise"].contains ty=false):Turn P w K tg (Its x) [it] it (λi h=>h.IsStrIter it ty x t i)where
 mem:=by simp
 obj:=λi h st b hb=>by
  have e:b=it:=by simpa using hb
  subst e;obtain⟨o,e,c,d⟩:=st;exact⟨o,e,λv z=>by rw[d]at z;cases z⟩
 keep:=λi h h' st k=>let⟨o,e,r⟩:=st;⟨o,k it (by simp) o e,r⟩
 item:=by intro X hP hw hK hc i pins s σ H E I hf st hg;subst hP hw hK;obtain⟨f0,f1,f2,f3,f4,f5⟩:=hf it (by simp);refine(W X.A (I.ok.hd hc)).item i s _ _ hg st λv h' tk hv st' kk=>?_;obtain⟨c,u,hx,rfl⟩:=hv;have I1:Inv X pins σ H {s with heap:=h',toks:=tk}:=I.turned (λb o hb e=>kk b o (by simpa using hb) e) f0 f1 f3 f4 f5;obtain⟨o,e,cc,d⟩:=id st';exact⟨_,rfl,Jw (s:={s with heap:=h',toks:=tk}) e cc d hty ⟨.str ⟨#[c]⟩,H,I1,⟨u,rfl⟩,⟨rfl,c,hx,rfl⟩,st',λb hb=>(hf b hb).1⟩⟩
 done:=by intro X hP hw hK hc i pins s σ H E I hf st hg;subst hP hw hK;obtain⟨f0,f1,f2,f3,f4,f5⟩:=hf it (by simp);have e:i=x.cps.size:=hg;subst e;exact(W X.A (I.ok.hd hc)).done s _ _ st λh' tk kk=>⟨rfl,I.turned (λb o hb e=>kk b o (by simpa using hb) e) f0 f1 f3 f4 f5⟩
 self:=hs
section
variable {X:Cx} {tg e o:Expr} {es:List Expr} {pos p apos cpos:aV} {f:E3} {gl:d9}
theorem ZuL(h:C3 X e f):PI X tg e (λσ H R=>lY X.K f σ H λx H1=>∃z:aj,x= .str z/\z.length<=SZ/\∀J,(∀ι,qj X.K H1 ι ⟨z.cps.toList.map λc=>.str [c],Ym⟩ J)->R J H1):=by
 intro pins s σ H R I hw;refine aF (h pins s σ H _ I hw) λv s1 ak=>?_;obtain⟨x,H1,I1,r1,z,ex,hz,q⟩:=ak;subst ex;obtain⟨t,rfl⟩:=r1;have key:∀(ty:String) (o:aM),(∀A':bK,A'.handled=Ym->Walks X.prog X.w A' s1.heap.objs.size [s1.heap.objs.size] [s1.heap.objs.size] z.cps.size (SignAt z) (λi h=>h.IsStrIter s1.heap.objs.size ty z t i)) ->
   (∀(A:bK) (i:Nat) (s:Yk) (Q:Yh->Yk->Prop) (E:Yh->Yk->Prop),s.heap.IsStrIter s1.heap.objs.size ty z t i->Q (.ref s1.heap.objs.size) s->aq (aA X.prog X.w) A (zG (.ref s1.heap.objs.size)) Q E s) ->
   ["enumerate","zip","dict_itemiterator","dict_reverseitemiterator","odict_iterator","itertools.zip_longest","itertools.pairwise"].contains ty=false->(s1.heap.push o).IsStrIter s1.heap.objs.size ty z t 0 ->
   PIE X pins σ tg R (.ref s1.heap.objs.size) {s1 with heap:=s1.heap.push o}:=by
  intro ty o W hs hty st;refine⟨s1.heap.objs.size,[s1.heap.objs.size],_,_,H1,rfl,I1.kept (t':=s1.toks) λb o e=>Yl _ e,Zpv W hs hty,st,λb hb=>?_,q _ λι=>?_⟩
  .have e:b=s1.heap.objs.size:=by simpa using hb
   subst e;exact I1.uI (Ys _) (I1.hok.fresh (Ys _))
  .intro i H2 ι2 M2 x S _;refine⟨λd hd=>?_,λhl=>?_⟩
   .rw[jV]at hd;cases hq:z.cps.toList[i]? with
    |none=>rw[hq]at hd;cases hd|some c=>
     rw[hq]at hd;have hd':D.str [c]=d:=by simpa using hd
     subst hd';have hi:i<z.cps.size:=by have:=(Yf.mp hq).1;simpa using this
     refine⟨hi,λy H3 hy=>⟨hy.1,?_⟩⟩;obtain⟨_,c',hc',rfl⟩:=hy;have:c'=c:=by rw[←PQ,hq]at hc';exact(Y8 hc').symm
     subst this;exact Rep.str
   .show i=z.cps.size;rw[hl];simp
 cases ha:z.cps.all (· <128)
 .exact wpAny_pyIter_wide ha (key "str_iterator" _ (λA' hA=>Walks.strWide hA _ z t) (λ_ _ _ _ _ st h=>wpAny_pyIter_striter_wide st h) (by decide) ⟨_,Y2 _ rfl,rfl,rfl⟩)
 .exact wpAny_pyIter_ascii ha (key "str_ascii_iterator" _ (λA' hA=>Walks.strAscii hA _ z t) (λ_ _ _ _ _ st h=>wpAny_pyIter_striter_ascii st h) (by decide) ⟨_,Y2 _ rfl,rfl,rfl⟩)
theorem mU(h:C3 X e f):CI X tg e (cW f):=ZuS h (ZuL h)
theorem Bd{T:String}{ty:D->Store->Bool}{m:D->List D->Store->R3 D}(hty:∀H ι M a x,aD K H ι M->Rep K H ι a x->ty a M=true->xT K T x H)(σ:St)(H:Hp)(Q:VK)(h:lY K (aH ty m f gl) σ H Q):tBM K T (rM K m) (lY K f) (Ri K gl) σ H Q:=by
 obtain⟨ι,M,env,S,E,h⟩:=h;obtain⟨a,M1,e1,h⟩:=Zt.bind h;refine⟨ι,M,env,S,E,?_⟩;rw[e1];intro v H1 ι1 x1 S1 r1;by_cases ht:ty a M1=true
 .rw[if_pos ht]at h;obtain⟨ds,M2,e2,h⟩:=Zt.bind h;refine⟨hty _ _ _ _ _ S1 r1 ht,ι1,M1,env,S1,E.mono x1,?_⟩;rw[e2];intro vs H2 ι2 x2 S2 r2;exact⟨ι2,M2,a,ds,S2,r1.mono x2,r2,(h.up x1).up x2⟩
 .rw[if_neg ht]at h;exact h.elim
theorem Kh(H:Hp)(ι:List Y1)(M:Store)(a:D)(x:V)(_:aD K H ι M)(r:Rep K H ι a x)(h:ig a M=true):xT K "str" x H:=by
 cases a with
 |str z=>rw[r.str_inv];rfl|_=>exact ft h
theorem RQ(H:Hp)(ι:List Y1)(M:Store)(a:D)(x:V)(S:aD K H ι M)(r:Rep K H ι a x)(h:bf a M=true):xT K "list" x H:=by
 cases a with
 | ref n=>
  rw[Aq]at h;cases hn:M[n]? with
  |none=>rw[hn]at h;exact ft h|some o=>
   cases o with
   |dct _=>rw[hn]at h;exact ft h|cL _=>rw[hn]at h;exact ft h|ins _ _=>rw[hn]at h;exact ft h|lst xs=>obtain⟨p,hp,rfl⟩:=r.dJ;obtain⟨vs,e,_⟩:=S.obj n _ p hn hp;exact .inl ⟨rfl,vs,bC.of e⟩
 |_=>exact ft h
theorem _root_.L2.jM.imp{id:String}{r r':V->List V->Hp->VK->Prop}(h:jM X id r)(i:∀x xs H Q,r' x xs H Q->r x xs H Q):jM X id r':=λpins s σ H x xs v us Q I rx rs q=>h pins s σ H x xs v us Q I rx rs (i x xs H Q q)
theorem ZqC:jM X "list.append" (rM X.K Zz):=jM.imp (r:=ZnU) QS λx xs H Q ak=>by
 obtain⟨ι,M,a,ds,S,ra,rd,h⟩:=ak;cases a with
 | ref n=>
  cases ds with
  |nil=>exact h.elim|cons d ds=>
   cases ds with
   |cons _ _=>exact h.elim|nil=>
    simp only[Q7]at h;cases hn:M[n]? with
    |none=>simp only[hn]at h;exact h.elim|some o=>
     cases o with
     |dct _=>simp only[hn]at h;exact h.elim|cL _=>simp only[hn]at h;exact h.elim|ins _ _=>simp only[hn]at h;exact h.elim|lst z=>
      simp only[hn]at h;split at h
      .rename_i hz;obtain⟨p,hp,rfl⟩:=ra.dJ;obtain⟨v,ws,rfl,r1,r2⟩:=rd.cons_inv;have:=r2.nil_inv;subst this;obtain⟨vs,e,rv⟩:=S.obj n _ p hn hp;obtain⟨x2,S2⟩:=S.uK (.inr (.inl ⟨_,e⟩)) hp (rv.append (Zw.cons r1 Zw.nil));exact⟨p,vs,v,rfl,rfl,e,by rw[rv.length];exact Y7 hz jD,h _ _ _ x2 S2 Rep.non⟩
      .exact h.elim
 |_=>exact h.elim
theorem jg(ho:C3 X o f)(ha:CA X (e::es) gl)(hbase:mH o "append" X.env (aG o X.env)=aG o X.env:=by rfl)(hfew:((b7 cpos (Yw (e::es) X.env)).all (λx=>!x.1)&&(iU cpos (iR [] X.env)).all (λx=>x.1.isSome)
   &&decide ((e::es).length+([]:List Keyword).length+(if([]:List Keyword).isEmpty then 0 else 1)<30))=true:=by rfl)(hline:(apos.endLine==cpos.line)=true:=by rfl)(hs:Yw (e::es) X.env=(false,aG e X.env)::Yw es X.env:=by rfl)(hplain:(b7 cpos (Yw es X.env)).any (·.1)=false:=by rfl):
  C3 X (.Call (.Attribute o "append" apos) (e::es) [] cpos) (aH bf Zz f gl):=
 (Ad Pq PySem.F.slot_list_append PySem.F.type_list_append ZqC ho ha hbase hfew hline hs hplain).imp (Bd RQ)
theorem Zsz(x y:List Nat):Z9 (⟨x.toArray⟩:aj) ⟨y.toArray⟩=y.isPrefixOf x:=by
 unfold Z9 Builtin.Str.subAt;simp only[lg,Yn,vp];rw[O5];simp only[Y5,decide_eq_true_eq,beq_iff_eq,List.isPrefixOf_iff_prefix];constructor
 .rintro⟨_,h⟩;have h':=congrArg zU h;simp at h';rw[Wr];exact h'.symm
 .intro h;refine⟨h.length_le,?_⟩;rw[Wr]at h;apply Array.toList_inj.mp;simp;exact h.symm
theorem m_startswith:jM X "str.startswith" (rM X.K q_):=by
 intro pins s σ H x xs v us Q I rx rs h;obtain⟨ι,M,a,ds,S,ra,rd,h⟩:=h;cases a with
 | str z=>
  cases ds with
  |nil=>exact h.elim|cons d ds=>
   cases ds with
   |cons _ _=>cases d<;>exact h.elim|nil=>
    cases d with
    | str y=>
     simp only[Fb]at h;split at h
     .have:=ra.str_inv;subst this;obtain⟨w',ws,rfl,r1,r2⟩:=rd.cons_inv;have:=r2.nil_inv;subst this;have:=r1.str_inv;subst this;obtain⟨t,rfl⟩:=rx;obtain⟨u,rfl,ru⟩:=vals1 rs;obtain⟨t',rfl⟩:=ru;refine SC.startswith ?_;rw[Zsz];exact⟨.bl _,H,I,rfl,Zt.ok h S Rep.bl⟩
     .exact h.elim
    |_=>exact h.elim
 |_=>exact h.elim
theorem Zey(ho:C3 X o f)(ha:CA X (e::es) gl)(hbase:mH o "startswith" X.env (aG o X.env)=aG o X.env:=by rfl)(hfew:((b7 cpos (Yw (e::es) X.env)).all (λx=>!x.1)&&(iU cpos (iR [] X.env)).all (λx=>x.1.isSome)
   &&decide ((e::es).length+([]:List Keyword).length+(if([]:List Keyword).isEmpty then 0 else 1)<30))=true:=by rfl)(hline:(apos.endLine==cpos.line)=true:=by rfl)(hs:Yw (e::es) X.env=(false,aG e X.env)::Yw es X.env:=by rfl)(hplain:(b7 cpos (Yw es X.env)).any (·.1)=false:=by rfl):
  C3 X (.Call (.Attribute o "startswith" apos) (e::es) [] cpos) (aH ig q_ f gl):=
 (Ad Jb PySem.F.slot_str_startswith PySem.F.type_str_startswith m_startswith ho ha hbase hfew hline hs hplain).imp (Bd Kh)
theorem ZvV:aQ X (eV .In) (r2 X.K λa b M=>match a,b with| .str [c],.str y=>.ok (.bl (decide (c∈y))) M|_,_=>.bad):=aQ.imp ZoC λx y H Q ak=>by
 obtain⟨ι,M,a,b,S,ra,rb,h⟩:=ak;cases a with
 | str z=>
  cases z with
  |nil=>cases b<;>exact h.elim|cons c z=>
   cases z with
   |cons _ _=>cases b<;>exact h.elim|nil=>
    cases b with
    |str y=>refine⟨_,_,ra.str_inv,rb.str_inv,?_⟩;have e:=StrLaws.found_one (⟨y.toArray⟩:aj) c;rw[show(⟨[c].toArray⟩:aj)=⟨#[c]⟩from rfl,e];exact Zt.ok h S Rep.bl|_=>exact h.elim
 |_=>cases b<;>exact h.elim
end
variable{items:Array Yh}{Q:Yh->Yk->Prop}{prog:bF}
section
variable {X:Cx}
theorem Be(hu:X.A.units+80<jA):aQ X (eV .NotEq) (r2 X.K gw):=by
 intro pins s σ H x y v u Q I rx ry h;obtain⟨ι,M,a,b,S,ra,rb,h⟩:=h;unfold gw at h;cases q:p_ a b M with
 |none=>rw[q]at h;exact h.elim|some k=>rw[q]at h;exact(Rq hu I S ra rb rx ry q).2 X.prog X.w X.xe _ ⟨.bl (!k),H,I,rfl,Zt.ok h S Rep.bl⟩
theorem ZlB(r:Rep K H ι d v)(h:dh d=true):qZ v=true:=by
 cases d with
 |non=>rw[r.jj];rfl|bl b=>rw[r.gn];rfl|int i=>rw[r.int_inv];rfl|str x=>rw[r.str_inv];rfl
 |_=>exact ft h
theorem Zr2(x y:List Nat):((⟨x.toArray⟩:aj)==⟨y.toArray⟩)=(x==y):=by rw[O5];simp
theorem ZsQ{e:D}{w:V}(r:Rep K H ι d v)(q:Rep K H ι e w)(h:dh d=true)(h':dh e=true):tM v w=dN d e:=by
 cases d with
 |non=>rw[r.jj];cases e with
  |non=>rw[q.jj];rfl|bl _=>rw[q.gn];rfl|int _=>rw[q.int_inv];rfl|str _=>rw[q.str_inv];rfl
  |_=>exact ft h'
 |bl _=>rw[r.gn];cases e with
  |non=>rw[q.jj];rfl|bl _=>rw[q.gn];rfl|int _=>rw[q.int_inv];rfl|str _=>rw[q.str_inv];rfl
  |_=>exact ft h'
 |int _=>rw[r.int_inv];cases e with
  |non=>rw[q.jj];rfl|bl _=>rw[q.gn];rfl|int _=>rw[q.int_inv];rfl|str _=>rw[q.str_inv];rfl
  |_=>exact ft h'
 |str _=>rw[r.str_inv];cases e with
  |non=>rw[q.jj];rfl|bl _=>rw[q.gn];rfl|int _=>rw[q.int_inv];rfl|str _=>rw[q.str_inv];exact Zr2 _ _
  |_=>exact ft h'
 |_=>exact ft h
theorem Zn6{K:Yb}{H:Hp}{ι:List Y1}{d:D}{v:V}(r:Rep K H ι d v)(h:dh d=true):∀{ds:List D} {vs:List V},Zw K H ι ds vs->ds.all dh=true->vs.all qZ=true/\inV v vs=ds.any λy=>dN y d
 |[],_,q,_=>by rw[q.nil_inv];exact⟨rfl,rfl⟩|e::ds,_,q,hd=>by obtain⟨w,ws,rfl,r1,r2⟩:=q.cons_inv;rw[jG,Y5]at hd;obtain⟨h1,h2⟩:=Zn6 r h r2 hd.2;refine⟨by rw[jG,ZlB r1 hd.1,h1];rfl,?_⟩;unfold inV at h2 ⊢;rw[kW,kW,h2,ZsQ r1 r hd.1 h]
inductive InK(a b:D)(k:Bool):Prop
 |tup (ys:List D):b= .tup ys->(ys.any λy=>dN y a)=k->dh a=true->ys.all dh=true->InK a b k
 |str (c:Nat) (y:List Nat):a= .str [c]->b= .str y->decide (c∈y)=k->InK a b k
theorem inK{a b:D}{k:Bool}(h:inD a b=Ya k):InK a b k:=by
 cases b with
 |tup ys=>exact have w:=Rp h;.tup ys rfl w.1 w.2.1 w.2.2|str y=>
  cases a with
  | str z=>cases z with
   |nil=>exact je h|cons c z=>cases z with
    |nil=>exact .str c y rfl rfl (Y8 h)|cons _ _=>exact je h
  |_=>exact je h
 |_=>exact je h
theorem ZtS{Q:VK}{a:D}{ys:List D}{x y:V}(n:Bool)(ra:Rep K H ι a x)(rb:Rep K H ι (.tup ys) y)(fa:dh a=true)(fs:ys.all dh=true)(q:Q (.bl (if n then !(ys.any λy=>dN y a)else ys.any λy=>dN y a)) H):rIn K n x y H Q:=by obtain⟨p,vs,e,s,r⟩:=rb.i_;obtain⟨h1,h2⟩:=Zn6 ra fa r fs;exact⟨p,vs,e,.inr s,ZlB ra fa,h1,by rw[h2];exact q⟩
theorem RT(hu:X.A.units+80<jA):aQ X (eV .In) (r2 X.K lO):=aQ.imp (aQ.or ZvV ZoZ) λx y H Q ak=>by
 obtain⟨ι,M,a,b,S,ra,rb,h⟩:=ak;unfold lO at h;cases q:inD a b with
 |none=>rw[q]at h;exact h.elim|some k=>
  rw[q]at h;rcases inK q with⟨ys,eb,ek,fa,fs⟩|⟨c,z,ea,eb,ek⟩
  .rw[eb]at rb;rw[←ek]at h;exact .inr (ZtS false ra rb fa fs (Zt.ok h S Rep.bl))
  .rw[ea]at ra;rw[eb]at rb;rw[←ek]at h;exact .inl ⟨ι,M,_,_,S,ra,rb,h⟩
theorem ZqV(x:List Nat)(n:Nat)(a:List Nat):(Yq n x.toArray).foldl (· ++ ·) a.toArray=(a++(Yq n x).flatten).toArray:=by
 induction n generalizing a with
 |zero=>simp|succ n ih=>rw[sy,qN,sy,oM];have:=ih (a++x);simp only[List.append_toArray]at this ⊢;rw[this];simp
theorem Zu5(x:List Nat)(k:Int):Txt.mul (⟨x.toArray⟩:aj) k=⟨(Yq k.toNat x).flatten.toArray⟩:=by
 unfold Txt.mul;split
 .rename_i h;have:k.toNat=0:=Y4 (jK (Int.toNat_of_nonpos (iN [] [_] 1 235446417 T1 h))) (eZ _);rw[this];rfl
 .split
  .rename_i h1 h2;simp only[xr,beq_iff_eq,lg,Yn]at h2;rcases h2 with h2|h2
   .subst h2;simp
   .have:x=[]:=Hs h2;subst this;simp
  .have:=ZqV x k.toNat [];rw[jF]at this;exact congrArg Str.mk this
theorem Zw.repl(r:Zw K H ι ds vs):∀k:Nat,Zw K H ι (Yq k ds).flatten (Yq k vs).flatten
 |0=>Zw.nil|k+1=>by rw[sy,sy,oM,oM];exact r.append (Zw.repl r k)
theorem yu:aQ X (iT .Mult) (r2 X.K iD):=by
 have hs:aQ X (iT .Mult) (λx y H Q=>∃(z:List Nat) (k:Int),x= .str ⟨z.toArray⟩/\y= .int k/\z.length*k.toNat<=1000000/\k<1000000/\ -1000000<k/\Q (.str ⟨(Yq k.toNat z).flatten.toArray⟩) H):=by
  intro pins s σ H x y v u Q I rx ry h;obtain⟨z,k,rfl,rfl,h1,h2,h3,q⟩:=h;obtain⟨t,rfl⟩:=rx;obtain⟨t',rfl⟩:=ry;refine SB.mul ⟨?_,λh4 h5=>?_,λh4 h5=>?_⟩ λt'' tk=>?_
  .simp;omega
  .simp only[lg,Yn];simp at h4 h5;have hk:2<=k:=by
    simp only[lg,Yn]at h5;omega
   have e:(k.toNat:Int)=k:=qT (xF (pR (iN [] [_] 1 3892452225 T1 hk))) ((xx _));have hm:(z.length:Int)*k<=1000000:=by have h1':((z.length*k.toNat:Nat):Int)<=1000000:=zO.mpr h1;rw[O8,e]at h1';exact h1'
   have hd:(z.length:Int)<=9223372036854775807 / k:=Int.le_ediv_of_mul_le (iN [] [_] 1 3909229441 T1 hk) (by omega);show¬((z.length:Int)>(2^63-1) / k);have e3:((2:Int)^63-1)=9223372036854775807:=by decide
   rw[e3];exactλz=>iN [_] [_] 2 6599352549521 T1 z hd
  .unfold XX;simp only[lg,Yn,decide_eq_false_iff_not];have hsz:(1000000:Nat)<=bw:=jD;exactλz=>lB 3 0x6f42405b1010f42405b011011 T1 z hsz h1
  .rw[Zu5];exact⟨.str _,H,I.tok _,⟨_,rfl⟩,q⟩
 refine aQ.imp (aQ.or Ztm (aQ.or hs ZtL)) λx y H Q ak=>?_;obtain⟨ι,M,a,b,S,ra,rb,h⟩:=ak;cases a with
 | int i=>cases b with
  |int j=>obtain⟨hm,h⟩:=vU h;refine .inl ⟨i,j,ra.int_inv,rb.int_inv,?_,Zt.ok h S Rep.int⟩;simp only[lK,xr,Y5,decide_eq_true_eq]at hm;exact hm|_=>exact h.elim
 | str z=>cases b with
  |int k=>obtain⟨hz,h⟩:=vU h;exact .inr (.inl ⟨z,k,ra.str_inv,rb.int_inv,hz.1,hz.2.1,hz.2.2,Zt.ok h S Rep.str⟩)|_=>exact h.elim
 | ref n=>cases b with
  |int k=>
   have h:Zt X.K H ι Q (yq M[n]? λx=>@ite _ (x.length*k.toNat<=SZ/\k<1000000/\ -1000000<k) (Yx _) (alloc (.lst (Yq k.toNat x).flatten) M) .bad):=h;obtain⟨z,hn,h⟩:=J6 h;obtain⟨hz,h⟩:=vU h;obtain⟨p,hp,e'⟩:=ra.dJ;obtain⟨vs,e,r⟩:=S.obj n _ p hn hp;refine .inr (.inr ⟨p,k,vs,e',rb.int_inv,e,?_,?_,by rw[r.length];exact Yj hz.1 jD,λq hq=>?_⟩)
   .exact Int.le_trans (by decide) (Iz hz.2.2)
   .exact Xx hz.2.1 (by decide)
   obtain⟨x2,S2,r2⟩:=S.lst hq (Zw.repl r k.toNat);exact h _ _ _ x2 S2 r2
  |_=>exact h.elim
 |_=>cases b<;>exact h.elim
theorem Zoa(n d:Nat)(hd:d<=n)(o:Option Int):(match o with|none=>(d:Int)|some i=>max 0 (jq (if i<0 then i+(n:Int)else i) (n:Int)))=((aC n d o:Nat):Int):=by
 cases o with
 |none=>rfl|some v=>
  show max 0 (jq (if v<0 then v+(n:Int)else v) (n:Int))=(((if v<0 then(v+(n:Int)).toNat else jq v.toNat n):Nat):Int);by_cases h:v<0
  .rw[if_pos h,if_pos h];exact Qi v n h
  .rw[if_neg h,if_neg h];exact Qj v n h
theorem Zhw(lo hi:Option Int)(n:Nat):Ja lo hi 1 n=(gW (aC n n hi-aC n 0 lo)).map (λk=>aC n 0 lo+k):=by
 have e1:=Zoa n 0 (eZ _) lo;have e2:=Zoa n n (Ys _) hi;have key:Ja lo hi 1 n=sliceRange ((aC n 0 lo:Nat):Int) ((aC n n hi:Nat):Int) 1:=by rw[←e1,←e2];simp only[Ja,show((1:Int)>0)=True from by simp,if_true];cases lo<;>cases hi<;>rfl
 rw[key];generalize aC n 0 lo=a;generalize aC n n hi=b;simp only[sliceRange,show((1:Int)>0)=True from by simp,if_true];by_cases hlt:(a:Int)<b
 .have e3:(((b:Int)-a+1-1) / 1).toNat=b-a:=by first|exact Y4 (iN [_,_,_,_] [_] 3 0x230038a112c001aa1808fcf001d81 T1 (Int.mul_ediv_self_le (by decide)) (g8 _ _) (pR (iN [_,_] [_] 2 0xe8a001dcaa0818fcf91180891 T1 hlt (Xw (by decide))))) (iN [_,_,_,_] [_] 3 0x230013c2128081a001dcaa1808fcf91 T1 (Xw (by decide)) (xx _) (gZ (iN [_,_] [] 1 4296542353 T1 hlt)))|(simp;done)|(simp;omega)
  simp only[hlt,if_true,e3];refine Wy λk _=>?_;exact Y4 (iN [_,_,_] [] 1 0x21c002801d18c08a1 T1 (pR (iN [_,_] [] 0 103109659880 T1))) (iN [_,_,_] [] 1 0x210c0281801d08c81 T1 (xx _))
 .have:b-a=0:=Y4 (jK (Xh (iN [_,_] [] 1 270010577 T1 hlt))) (eZ _);simp[hlt,this]
theorem JC(n d:Nat)(hd:d<=n)(o:Option Int):aC n d o<=n:=by
 cases o with
 |none=>exact hd|some v=>simp only[aC];split <;>omega
theorem Zmx(z:List Nat)(lo hi:Option Int)(l u:Option (Int×fH))(hl:l.map (·.1)=lo)(hu:u.map (·.1)=hi):
  (if((1:Int)==1&&(w6 ⟨z.toArray⟩ l u Ym).length==(⟨z.toArray⟩:aj).length)=true then(⟨z.toArray⟩:aj)else⟨((w6 ⟨z.toArray⟩ l u Ym).filterMap ((⟨z.toArray⟩:aj).cps[·]?)).toArray⟩)=⟨(cutD z lo hi).toArray⟩:=by
 have e0:w6 ⟨z.toArray⟩ l u Ym=(gW (aC z.length z.length hi-aC z.length 0 lo)).map (λk=>aC z.length 0 lo+k):=by unfold w6;rw[hl,hu];simp only[lg,Yn];exact Zhw lo hi z.length
 have hb:=JC z.length z.length (Ys _) hi;rw[e0];have pick:((gW (aC z.length z.length hi-aC z.length 0 lo)).map (λk=>aC z.length 0 lo+k)).filterMap ((⟨z.toArray⟩:aj).cps[·]?)=cutD z lo hi:=by
  unfold cutD;by_cases hab:aC z.length 0 lo<=aC z.length z.length hi
  .have h:=StrLaws.picks z (aC z.length z.length hi-aC z.length 0 lo) (aC z.length 0 lo) (lD 2 82120338080600065 T1 hb (gZ hab));simpa using h
  .have:aC z.length z.length hi-aC z.length 0 lo=0:=Y4 (jK (Xh (lB 1 1052737 T1 hab))) (eZ _);rw[this];simp
 rw[pick];split
 .rename_i hc;simp only[Yv,Hy,lg,Yn,Y5,beq_iff_eq]at hc;have hc2:=hc.2;have h0:aC z.length 0 lo=0\/z.length=0:=by omega
  have:cutD z lo hi=z:=by
   unfold cutD;rcases h0 with h0|h0
   .rw[h0,HB,qM (by exact lD 3 0x3102001e3c2011031 T1 hc2 (g8 _ _) (DQ _ _))]
   .have:z=[]:=Hs h0;subst this;simp
  rw[this]
 .rfl
theorem Ztl:jB X (λx lo hi H Q=>∃z:List Nat,x= .str ⟨z.toArray⟩/\z.length<=SZ/\Q (.str ⟨(cutD z lo hi).toArray⟩) H):=by
 intro pins s σ H x v vl vu lo hi sl Q I rx hs pl pu h;obtain⟨z,rfl,hz,q⟩:=h;obtain⟨t,rfl⟩:=rx;have part:∀{v:Yh} {o:Option Int},IsPart v o->∃p:Option (Int×fH),v=partValue p/\p.map (·.1)=o:=by
  intro v o h;cases h with
  |none=>exact⟨Ym,rfl,rfl⟩|int i t=>exact⟨Ya (i,t),rfl,rfl⟩
 obtain⟨l,rfl,hl⟩:=part pl;obtain⟨u,rfl,hu⟩:=part pu;refine⟨"str",_,PySem.F.slot_str_getitem.lookup,xg _ _ _,?_⟩;refine wpAny_getItem_str_slice (l:=l) (u:=u) (st:=Ym) hs rfl ?_;unfold sliceMade;refine post_val_or_made (λ_=>?_) λt' k=>?_
 .show((w6 ⟨z.toArray⟩ l u Ym).filterMap ((⟨z.toArray⟩:aj).cps[·]?)).toArray.size<=bw;rw[Yn];refine Yj (List.length_filterMap_le _ _) ?_;show(Ja (l.map (·.1)) (u.map (·.1)) 1 (⟨z.toArray⟩:aj).length).length<=bw;rw[Zhw];simp only[Yv,Hy,lg,Yn];have:=JC z.length z.length (Ys _) (u.map (·.1));have:=jD;omega
 .have e:=Zmx z lo hi l u hl hu;have e':(if(((Ym:Option (Int×fH)).map (·.1)).getD 1==1&&(w6 ⟨z.toArray⟩ l u Ym).length==(⟨z.toArray⟩:aj).length)=true then(⟨z.toArray⟩:aj)else⟨((w6 ⟨z.toArray⟩ l u Ym).filterMap ((⟨z.toArray⟩:aj).cps[·]?)).toArray⟩)=⟨(cutD z lo hi).toArray⟩:=e;rw[e'];exact⟨.str _,H,I.tok _,⟨_,rfl⟩,q⟩
theorem Zf5{t sl:Y1}{vl vu:Yh}{lo hi:Option Int}(ht:IsTup s.heap t items)(hs:s.heap.IsSliceOf sl vl vu .none)(pl:IsPart vl lo)(pu:IsPart vu hi)(hw:HT.aC items.size 0 lo=0/\HT.aC items.size items.size hi=items.size)(h:Q (.ref t) s):aq (aA prog w) A (pP (.ref t) (.ref sl)) Q E s:=by
 obtain⟨os,hos,hcs,hds⟩:=id hs;have hTs:s.TypeIs (.ref sl) "slice":=⟨os,hos,hcs⟩;unfold pP
 try with_reducible refine gY ?_
 first|refine Yg (Yt ?_)|skip
 refine Yg (N8 ht.typeIs (by decide) ?_);refine Yg (wW (name:=pW "__getitem__") ht.typeIs IW
  (uW IW ht.typeIs XJ ?_ (XQ _ _)))
 show aq _ _ (YW (.ref t)>>=_) _ _ s;refine Yg (tupleItemsOf_ ht ?_);refine Yg (Oj hTs ?_);rw[if_pos (by decide)];refine Yg (HT.Vf hs pl pu ?_);have Abw:(((HT.aC items.size 0 lo:Nat):Int)==0&&(1:Int)==1&&(HT.aC items.size items.size hi-HT.aC items.size 0 lo)==items.size)=true:=by rw[hw.1,hw.2];simp
 show aq _ _ (if(((HT.aC items.size 0 lo:Nat):Int)==0&&(1:Int)==1&&(HT.aC items.size items.size hi-HT.aC items.size 0 lo)==items.size)=true then _ else _) _ _ s;rw[if_pos Abw];unfold Builtin.Tuple.tupleIsExact;refine Yg (Yg (Oj ht.typeIs (Yt ?_)));rw[if_pos (by decide)];exact Yg (Ia (Yt ⟨_,rfl,Yt h⟩))
theorem Zsy:jB X (λx lo hi H Q=>∃a xs,x= .ref a/\cG X.K H a xs/\(HT.aC xs.length 0 lo=0/\HT.aC xs.length xs.length hi=xs.length)/\Q (.ref a) H):=by
 intro pins s σ H x v vl vu lo hi sl Q I rx hs pl pu h;obtain⟨a,xs,rfl,hx,hw,q⟩:=h;cases rx;obtain⟨its,r,ht,hz⟩:=I.tuple hx;have hlen:its.toArray.size=xs.length:=by rw[Yn];exact r.length.symm
 refine⟨"tuple",_,PyProof.Rows.slot_tuple_getitem.lookup,ht.typeIs,?_⟩;exact Zf5 ht hs pl pu (by rw[hlen];exact hw) ⟨.ref a,H,I,rfl,q⟩
theorem qp:jB X (rS X.K):=jB.imp (jB.or (jB.or ZtY Zsy) (jB.or Zrz Ztl)) λx lo hi H Q ak=>by
 obtain⟨ι,M,a,S,ra,h⟩:=ak;have ex:∀n d o,HT.aC n d o=aC n d o:=λn d o=>by cases o<;>rfl
 cases a with
 | tup ds=>
  simp only[Ez,EY,Ag,Ah]at h;obtain⟨p,vs,rfl,s,r⟩:=ra.i_;by_cases hw:aC ds.length 0 lo=0/\aC ds.length ds.length hi=ds.length
  .refine .inl (.inr ⟨p,vs,rfl,s,by rw[ex,ex,r.length];exact hw,?_⟩);have e:cutD ds lo hi=ds:=by unfold cutD;rw[hw.1,hw.2];simp
   rw[e]at h;exact Zt.ok h S (Rep.tup s r)
  .refine .inl (.inl ⟨p,vs,rfl,s,by rw[ex,ex,r.length];exact hw,λq hq=>?_⟩);obtain⟨x2,S2,r2⟩:=S.uJ hq (Ru r lo hi);exact h _ _ _ x2 S2 r2
 |aZ ds=>simp only[Ez,EY,Ag,Ah]at h;obtain⟨p,vs,rfl,s,r⟩:=ra.rR;refine .inr (.inl ⟨p,vs,rfl,s.sq,λq hq=>?_⟩);obtain⟨x2,S2,r2⟩:=S.lst hq (Ru r lo hi);exact h _ _ _ x2 S2 r2|str z=>
  simp only[Ez,EY,Ag,Ah]at h;split at h
  .rename_i hz;exact .inr (.inr ⟨z,ra.str_inv,hz,Zt.ok h S Rep.str⟩)
  .exact h.elim
 | ref n=>
  simp only[Ez,EY,Ag,Ah]at h;cases hn:M[n]? with
  |none=>simp only[hn]at h;exact h.elim|some o=>
   cases o with
   |dct _=>simp only[hn]at h;exact h.elim|cL _=>simp only[hn]at h;exact h.elim|ins _ _=>simp only[hn]at h;exact h.elim|lst ds=>simp only[hn]at h;obtain⟨p,hp,rfl⟩:=ra.dJ;obtain⟨vs,e,r⟩:=S.obj n _ p hn hp;refine .inr (.inl ⟨p,vs,rfl,bC.of e,λq hq=>?_⟩);obtain⟨x2,S2,r2⟩:=S.lst hq (Ru r lo hi);exact h _ _ _ x2 S2 r2
 |_=>exact h.elim
theorem yw{xs:List V}(r:Zw K H ι [d] xs):∃x,xs=[x]/\Rep K H ι d x:=by obtain⟨v,ws,rfl,r1,r2⟩:=r.cons_inv;have:=r2.nil_inv;subst this;exact⟨v,rfl,r1⟩
theorem fP:cR X (.builtin "len") (rB X.K a_):=cR.imp ZqL λxs H Q ak=>by
 obtain⟨ι,M,ds,S,rd,h⟩:=ak;cases ds with
 |nil=>exact h.elim|cons d ds=>
  cases ds with
  |cons _ _=>cases d<;>exact h.elim|nil=>
   obtain⟨x,rfl,r⟩:=yw rd;cases d with
   |tup z=>obtain⟨p,vs,rfl,s,r'⟩:=r.i_;exact⟨_,vs.length,rfl,.inr ⟨vs,s,rfl⟩,by rw[r'.length];exact Zt.ok h S Rep.int⟩|aZ z=>obtain⟨p,vs,rfl,s,r'⟩:=r.rR;exact⟨_,vs.length,rfl,.inl ⟨vs,s.sq,rfl⟩,by rw[r'.length];exact Zt.ok h S Rep.int⟩|str z=>
    simp only[Ai,Aj,Ak,q8]at h;split at h
    .rename_i hz;have:=r.str_inv;subst this;refine⟨_,z.length,rfl,⟨?_,?_⟩,Zt.ok h S Rep.int⟩
     .show z.toArray.size<=bw;rw[Yn];exact Yj hz jD
     .show z.length=z.toArray.size;rw[Yn]
    .exact h.elim
   | ref n=>
    cases hn:M[n]? with
    |none=>rw[q8,hn]at h;exact h.elim|some o=>
     cases o with
     |dct _=>rw[q8,hn]at h;exact h.elim|cL _=>rw[q8,hn]at h;exact h.elim|ins _ _=>rw[q8,hn]at h;exact h.elim|lst z=>simp only[Ai,Aj,Ak,q8,hn]at h;obtain⟨p,hp,rfl⟩:=r.dJ;obtain⟨vs,e,r'⟩:=S.obj n _ p hn hp;exact⟨_,vs.length,rfl,.inl ⟨vs,bC.of e,rfl⟩,by rw[r'.length];exact Zt.ok h S Rep.int⟩
   |_=>exact h.elim
theorem nT:cR X (.type "tuple") (rB X.K gB):=cR.imp Zjl λxs H Q ak=>by
 obtain⟨ι,M,ds,S,rd,h⟩:=ak;cases ds with
 |nil=>exact h.elim|cons d ds=>
  cases ds with
  |cons _ _=>cases d<;>exact h.elim|nil=>
   obtain⟨x,rfl,r⟩:=yw rd;cases d with
   |tup z=>obtain⟨p,vs,rfl,s,r'⟩:=r.i_;exact⟨p,vs,rfl,.inr ⟨s,Zt.ok h S (Rep.tup s r')⟩⟩|aZ z=>obtain⟨p,vs,rfl,s,r'⟩:=r.rR;refine⟨p,vs,rfl,.inl ⟨s.sq,λq hq=>?_⟩⟩;obtain⟨x2,S2,r2⟩:=S.uJ hq r';exact h _ _ _ x2 S2 r2|ref n=>
    cases hn:M[n]? with
    |none=>rw[Al,hn]at h;exact h.elim|some o=>
     cases o with
     |dct _=>rw[Al,hn]at h;exact h.elim|cL _=>rw[Al,hn]at h;exact h.elim|ins _ _=>rw[Al,hn]at h;exact h.elim|lst z=>simp only[ZjE,Zjy,Al,hn]at h;obtain⟨p,hp,rfl⟩:=r.dJ;obtain⟨vs,e,r'⟩:=S.obj n _ p hn hp;refine⟨p,vs,rfl,.inl ⟨bC.of e,λq hq=>?_⟩⟩;obtain⟨x2,S2,r2⟩:=S.uJ hq r';exact h _ _ _ x2 S2 r2
   |_=>exact h.elim
theorem Zux:cR X (.type "list") (rB X.K tU):=cR.imp Zk0 λxs H Q ak=>by
 obtain⟨ι,M,ds,S,rd,h⟩:=ak;cases ds with
 |nil=>exact h.elim|cons d ds=>
  cases ds with
  |cons _ _=>cases d<;>exact h.elim|nil=>
   obtain⟨x,rfl,r⟩:=yw rd;cases d with
   |tup z=>obtain⟨p,vs,rfl,s,r'⟩:=r.i_;refine⟨p,vs,rfl,.inr s,λq hq=>?_⟩;obtain⟨x2,S2,r2⟩:=S.lst hq r';exact h _ _ _ x2 S2 r2|aZ z=>obtain⟨p,vs,rfl,s,r'⟩:=r.rR;refine⟨p,vs,rfl,.inl s.sq,λq hq=>?_⟩;obtain⟨x2,S2,r2⟩:=S.lst hq r';exact h _ _ _ x2 S2 r2|ref n=>
    cases hn:M[n]? with
    |none=>rw[E_,hn]at h;exact h.elim|some o=>
     cases o with
     |dct _=>rw[E_,hn]at h;exact h.elim|cL _=>rw[E_,hn]at h;exact h.elim|ins _ _=>rw[E_,hn]at h;exact h.elim|lst z=>simp only[ZpG,ZpD,E_,hn]at h;obtain⟨p,hp,rfl⟩:=r.dJ;obtain⟨vs,e,r'⟩:=S.obj n _ p hn hp;refine⟨p,vs,rfl,.inl (bC.of e),λq hq=>?_⟩;obtain⟨x2,S2,r2⟩:=S.lst hq r';exact h _ _ _ x2 S2 r2
   |_=>exact h.elim
end
theorem fj:jH "len" =Ya (.builtin "len"):=by decide +kernel
theorem Bf:jH "all" =Ya (.builtin "all"):=by decide +kernel
theorem ZfT:jH "isinstance" =Ya (.builtin "isinstance"):=by decide +kernel
theorem Zuv:jH "int" =Ya (.type "int"):=by decide +kernel
theorem Zua:jH "str" =Ya (.type "str"):=by decide +kernel
theorem ZrQ:jH "list" =Ya (.type "list"):=by decide +kernel
theorem nU:jH "tuple" =Ya (.type "tuple"):=by decide +kernel
section
variable {X:Cx} {a:Expr} {pos p p2:aV} {f:E3}
noncomputable def eQ:nC->String
 | .int=>"int" | .bool=>"bool" | .str=>"str" | .list=>"list" | .tuple=>"tuple"
theorem yx(K:Yb)(t:String)(T:nC)(ht:t∈["NoneType","bool","int","str","list","tuple","dict"]):
  Wm K (.type t) (.type (eQ T))=Ya (t==eQ T|| (t== "bool" &&eQ T== "int")):=by
 simp only[Yo,pM,or_false]at ht;rcases ht with rfl|rfl|rfl|rfl|rfl|rfl|rfl <;>cases T<;>kernel_rfl
theorem RV(T:nC):jH (eQ T)=Ya (.type (eQ T)):=by cases T<;>decide +kernel
noncomputable def Zvv(T:nC)(o:Option MO):Option Bool:=match o with
 |some (.lst _)=>Ya (T== .list)|some (.dct _)=>Ya false|some (.cL _)=>Ym|some (.ins _ _)=>Ym
 |none=>Ym
theorem ZrB{T:nC}{x:V}{b:Bool}(I:Inv X pins σ H s)(S:aD X.K H ι M)(r:Rep X.K H ι d x)(ru:RelV x u)(e:jN T d M=Ya b)(h:∀tk,Q (.bool b) {s with toks:=tk}):aq (aA X.prog X.w) A (call (.builtin "isinstance") [u,.type (eQ T)]) Q E s:=by
 cases d with
 |non=>rw[r.jj]at ru;exact Ab I ru .non ((yx X.K "NoneType" T (by decide)).trans (vA (by cases T<;>rfl) e)) h|bl c=>rw[r.gn]at ru;exact Ab I ru (.bl c) ((yx X.K "bool" T (by decide)).trans (vA (by cases T<;>rfl) e)) h|int i=>rw[r.int_inv]at ru;exact Ab I ru (.int i) ((yx X.K "int" T (by decide)).trans (vA (by cases T<;>rfl) e)) h|str z=>rw[r.str_inv]at ru;exact Ab I ru (.str _) ((yx X.K "str" T (by decide)).trans (vA (by cases T<;>rfl) e)) h
 |tup ds=>obtain⟨p,vs,its,_,eu,⟨o,h1,h2,_⟩,_⟩:=yr I r ru;rw[eu];exact oG Nj I.dW ⟨o,h1,h2⟩ ((yx X.K "tuple" T (by decide)).trans (vA (by cases T<;>rfl) e)) (λz=>nomatch z) h|aZ ds=>exact je e|ref n=>
  have e:Zvv T M[n]?=Ya b:=e;obtain⟨a,ha,ex⟩:=r.dJ;rw[ex]at ru;cases hn:M[n]? with
  |none=>rw[hn]at e;exact je e|some o=>
   rw[hn]at e;cases o with
   |lst z=>obtain⟨vs,ev,_⟩:=S.obj n _ a hn ha;exact Ab I ru (.lst ev) ((yx X.K "list" T (by decide)).trans (vA (by cases T<;>rfl) e)) h|dct z=>obtain⟨vs,ev,_⟩:=S.obj n _ a hn ha;exact Ab I ru (.dK ev) ((yx X.K "dict" T (by decide)).trans (vA (by cases T<;>rfl) e)) h|cL z=>exact je e|ins _ _=>exact je e
theorem ud(T:nC)(hm:X.mg "isinstance" =Ym)(hm2:X.mg x=Ym)(h:C3 X a f)(hx:x=(pW (eQ T)):=by rfl)(hg:Gl X "isinstance":=by rfl)(hg2:Gl X x:=by rfl)(hn:x≠ "__name__":=by decide)(hd:(x==("__debug__":aj))=false:=by decide)(hs:Yw (a::[.Name x p2]) X.env=(false,aG a X.env)::Yw [.Name x p2] X.env:=by rfl)(hs2:Yw (.Name x p2::[]) X.env=(false,aG (.Name x p2) X.env)::Yw [] X.env:=by rfl)(hpl:(b7 pos (Yw [.Name x p2] X.env)).any (·.1)=false:=by rfl):C3 X (.Call (.Name "isinstance" p) [a,.Name x p2] [] pos) (e1 (nG T) f):=by
 subst hx;have hc:cR X (.builtin "isinstance") (λxs H Q=>∃ι M d x,xs=[x,.ty (eQ T)]/\aD X.K H ι M/\Rep X.K H ι d x/\Zt X.K H ι Q (nG T d M)):=by
  intro pins s σ H xs us Q I r q;obtain⟨ι,M,d,x,rfl,S,rd,q⟩:=q;obtain⟨u,w',rfl,ru,mO⟩:=vals2 r;cases mO;unfold nG at q;cases e:jN T d M with
  |none=>rw[e]at q;exact q.elim|some b=>rw[e]at q;exact ZrB I S rd ru e λtk=>⟨.bl b,H,I.tok _,rfl,Zt.ok q S Rep.bl⟩
 refine(JB hc hg hm ZfT (vD h (vD (Qu hg2 hm2 (RV T) (v:=.ty (eQ T)) rfl hn hd) Ep hs2) hs) (by decide) (by decide) hs hpl).imp λσ H Q ak=>?_;obtain⟨ι,M,env,S,E,h⟩:=ak;obtain⟨d,M1,e1,h⟩:=Zt.bind h;refine⟨ι,M,env,S,E,?_⟩;rw[e1];intro v H1 ι1 x1 S1 r1;exact⟨ι1,M1,d,v,rfl,S1,r1,h.up x1⟩
theorem Zf0{p:D->Bool}:∀{l:List D} {e:Nat->Bool},(∀(j:Nat) d,l[j]?=Ya d->e j=p d)->(gW l.length).all e=l.all p
 |[],_,_=>rfl|d::l,e,h=>by rw[Yp,Wu,jG,List.all_map,h 0 d rfl,jG];congr 1;exact Zf0 λj d' hj=>h (j+1) d' (by simpa using hj)
theorem Bg(hc:X.calm=true):cR X (.builtin "all") (rB X.K q9):=by
 intro pins s σ H xs us Q I rs h;obtain⟨ι,M,ds,S,rd,h⟩:=h;cases ds with
 |nil=>exact h.elim|cons d ds=>
  cases ds with
  |cons _ _=>cases d<;>exact h.elim|nil=>
   obtain⟨x,rfl,r⟩:=yw rd;obtain⟨u,rfl,ru⟩:=vals1 rs;cases d with
   | ref n=>
    cases hn:M[n]? with
    |none=>rw[Ao,hn]at h;exact h.elim|some o=>
     cases o with
     |dct _=>rw[Ao,hn]at h;exact h.elim|cL _=>rw[Ao,hn]at h;exact h.elim|ins _ _=>rw[Ao,hn]at h;exact h.elim|lst z=>
      simp only[Ao,hn]at h;cases q:allB z with
      |none=>rw[q]at h;exact h.elim|some b=>
       rw[q]at h;obtain⟨a,ha,rfl⟩:=r.dJ;cases ru;obtain⟨vs,ev,rv⟩:=S.obj n _ a hn ha;obtain⟨its,rr,pl,_⟩:=I.list (bC.of ev);have hz:z.all Am=true/\z.all xZ=b:=by
        unfold allB at q;split at q
        .rename_i hz;exact⟨hz,Y8 q⟩
        .cases q
       have hlen:its.toArray.size=z.length:=by rw[Yn,←rr.length,rv.length]
       have hhd:X.A.in1.handled=Ym:=I.ok.hd hc;refine call_all_walk (uV pl.isList ⟨s.heap.objs.size,_,_,_,_,_,(λj=>match z[j]? with|some d=>xZ d|none=>true),rfl,Jh hhd s.heap.objs.size a (dz (I.hok.lt ev)) its.toArray,⟨⟨_,Y2 _ rfl,rfl,rfl⟩,pl.isList.at λo e=>Yl _ e⟩,?_,?_⟩)
       .intro j v s' Q' E' hv hq;have hv':its[j]?=Ya v:=by simpa using hv
        have hj:j<z.length:=by have:=(Yf.mp hv').1;rw[←Yn,hlen]at this;exact this
        have e1:z[j]?=Ya z[j]:=by simp[hj]
        have hb:=gU.mp hz.1 _ (uQ hj);obtain⟨w,g1,g2⟩:=rv.get e1;obtain⟨u',k1,k2⟩:=rr.get g1;rw[hv']at k1;cases k1;have hq':Q' (xZ z[j]) s':=by have:=hq;simp only[e1]at this;exact this
        generalize z[j]=dj at hb g2 hq';cases dj with
        |bl c=>have:=g2.gn;subst this;cases k2;exact pN hq'|_=>simp[Am]at hb
       .intro h' tk kk;rw[hlen,Zf0 (p:=xZ) (λj d hd=>by rw[hd]),hz.2];exact⟨.bl b,H,I.kept (λc o e=>kk c o (by simp;exact dz (Y3 e)) (Yl _ e)),rfl,Zt.ok h S Rep.bl⟩
   |_=>exact h.elim
end
noncomputable def Zs3(outer:List (aj×NameKind))(N:List aj)(scope:Scope)(N':List aj)(own:Nat):Bool:=
 (scope.names.all λy=>decide (y.2≠ .cell)&&(decide (y.2≠ .free)|| decide (outer.lookup y.1=Ya .cell)|| decide (outer.lookup y.1=Ya .free))&&(decide (y.2≠ .local)|| decide (scope.names.lookup y.1=Ya .local)))&&
  decide (N'.length=N.length+own)&&Rv N N' scope
theorem l_{scope:Scope}{N':List aj}{own:Nat}(hk:scope.kind= .function)(h:Zs3 X.env.scope.names X.N scope N' own=true):vZ X scope N' own:=by
 simp only[Zs3,Y5,decide_eq_true_eq,gU,xr]at h;obtain⟨⟨h1,h2⟩,h3⟩:=h;refine⟨hk,λy hy=>(h1 y hy).1.1,λy hy e=>?_,λy hy e=>?_,h2,h3⟩
 .rcases(h1 y hy).1.2 with(q|q)|q
  .exact absurd e q
  .exact .inl q
  .exact .inr q
 .rcases(h1 y hy).2 with q|q
  .exact absurd e q
  .exact q
theorem gO{h:aO}{mg:aj->Option Yh}(KX:K.In h)(G:h.Ns Yy mg){f:Y1}{oc:Yh}{od an:Option Y1}{osl:Array (Option Yh)}{dV kV doc pm cdv ct:Yh}(a:PySem.W.nsIn K Yy x=Ya (Ya (.ref f)))(l:K.lookup f=Ya ⟨oc,od,.func (qL x x (cV st) (cM st) (Zk st) dV kV doc pm an cdv ct),osl⟩)(c:Dh K cdv x=true)(k:su K (.ref f)=true)(b:Binds K (qL x x (cV st) (cM st) (Zk st) dV kV doc pm an cdv ct) ps []):bM K mg x st ps:=⟨f,_,ZqS l c k,Wo KX G a,b⟩
theorem ZvX{l:PySem.W.OpenLaw}{k:Nat}{q:bF}{loose:List aj}{XP:(aj->Option Yh)->aO->Prop}{YP:bx->aO->Prop}{d:DefRec}{K:Params->Yb}(hn:l.most=Ya 63)(hdf:d.params.defaults=[])(hr:dB k u6)(hY:∀(w:bx) (h:aO),YP w h->(K w.params).In h)(G:∀(w:bx) (mg:aj->Option Yh) (fa:Y1) (h:aO),(K w.params).In h->h.Ns Yy mg->mg d.name=Ya (.ref fa) ->
   ∃fd:jZ,(∀(s:Yk) (u:Yh),zE s fd ⟨[u],[]⟩ [("script",u)])/\∀base:aO,(K w.params).In base->base.Ns Yy mg->jr l.prog w (K w.params) mg base lH k fa fd ["script"] (t_ (K w.params) 1 F))(hF:∀ns:List Int,ns.length<=63->∃M',F [.aZ (ns.map D.int)] []= .ok (.bl true) M'):
  Wn q loose XP YP l.row.toRowW d [] (λf vs=>Ou f vs):=
 L2.Zok (n:=63) (k:=k) (x:="script") (CX:=λ_=>lH) (sp:=λw=>t_ (K w.params) 1 F) hn (by decide) hdf hr hY G (λw H a ns hl hO hS=>by
  obtain⟨M',e⟩:=hF ns hl;refine⟨[],[],[.aZ (ns.map D.int)],⟨rfl,NZ,λn o a h=>by simp at h⟩,Zw.cons ?_ Zw.nil,rfl,?_⟩
  .refine⟨a,ns.map V.int,rfl,?_,Zw.ints ns⟩;rcases hS with(h|⟨o,h⟩)|h
   .rcases hO a with z|⟨ob,xs,z⟩
    .rw[h]at z;cases z
    .rw[h]at z;cases z
   .exact .inl ⟨o,h⟩
   .exact .inr h
  .rw[e]
   exactλv H' ι' _ _ r=>r.gn) λ_ _ _ _ _ z=>z
theorem RX{a b:iC}(h:dk a=dk b):a=b:=by
 cases a with
 |inl i=>cases b with
  |inl j=>simp only[dk,Sum.inl.injEq]at h;rw[h]|inr y=>simp[dk]at h
 | inr x=>cases b with
  |inl j=>simp[dk]at h|inr y=>simp only[dk,Sum.inr.injEq,Str.mk.injEq]at h;have:=congrArg zU h;simp at this;rw[this]
variable{kvs:List (iC×D)}{ws:List (Key×V)}
section
variable {K:Yb} {H H':Hp} {ι ι':List Y1} {M:Store} {p:Y1}
theorem cX.nil:cX K H ι [] []:=⟨rfl,Zw.nil⟩
theorem cX.cons{k:iC}{d:D}{v:V}{kvs:List (iC×D)}{ws:List (Key×V)}(h:Rep K H ι d v)(r:cX K H ι kvs ws):cX K H ι ((k,d)::kvs) ((dk k,v)::ws):=⟨by simp[r.1],Zw.cons h r.2⟩
theorem cX.cons_inv{q:iC×D}(r:cX K H ι (q::kvs) ws):∃v ws',ws=(dk q.1,v)::ws'/\Rep K H ι q.2 v/\cX K H ι kvs ws':=by
 obtain⟨h1,h2⟩:=r;cases ws with
 |nil=>simp at h1|cons w ws=>simp only[Yu,Xv]at h1;obtain⟨v,us,e,r1,r2⟩:=Zw.cons_inv h2;simp only[Yu,Xv]at e;exact⟨w.2,ws,by rw[←h1.1],e.1▸r1,h1.2,e.2▸r2⟩
theorem cX.nil_inv(r:cX K H ι [] ws):ws=[]:=by simpa using r.1
theorem cX.mono(r:cX K H ι kvs ws)(e:Ext K H ι H' ι'):cX K H' ι' kvs ws:=⟨r.1,r.2.mono e⟩
theorem cX.length(r:cX K H ι kvs ws):ws.length=kvs.length:=by have:=congrArg uT r.1;simpa using this
theorem cX.val(k:iC):∀{ws:List (Key×V)},cX K H ι kvs ws->match Ey kvs k with|some d=>∃v,lJ ws (dk k)=Ya v/\Rep K H ι d v|none=>lJ ws (dk k)=Ym:=by
 induction kvs with
 |nil=>intro ws r;rw[r.nil_inv];exact Zp6|cons q kvs ih=>
  intro ws r;obtain⟨v,ws',rfl,r1,r2⟩:=r.cons_inv;obtain⟨k',d⟩:=q;unfold Ey;by_cases e:k'=k
  .rw[if_pos e];exact⟨v,JG (by rw[e]),r1⟩
  .rw[if_neg e,JH λz=>e (RX z)];exact ih r2
theorem cX.append{k1 k2:List (iC×D)}{w1 w2:List (Key×V)}(a:cX K H ι k1 w1)(b:cX K H ι k2 w2):cX K H ι (k1++k2) (w1++w2):=⟨by simp[a.1,b.1],by rw[jY,jY];exact a.2.append b.2⟩
theorem cX.any(k:iC):∀{ws:List (Key×V)},cX K H ι kvs ws->(ws.any λkv=>decide (kv.1=dk k))=(kvs.any λq=>decide (q.1=k)):=by
 induction kvs with
 |nil=>intro ws r;rw[r.nil_inv];rfl|cons q kvs ih=>
  intro ws r;obtain⟨v,ws',rfl,r1,r2⟩:=r.cons_inv;rw[kW,kW,ih r2];congr 1;by_cases e:q.1=k
  .simp[e]
  .simp[e];exactλz=>e (RX z)
theorem cX.put{k:iC}(r:cX K H ι kvs ws)(rd:Rep K H ι d v):cX K H ι (putD k d kvs) (putK ws (dk k) v):=by
 unfold putD putK;rw[r.any k];by_cases c:(kvs.any λq=>decide (q.1=k))=true
 .rw[if_pos c,if_pos c];clear c
  induction kvs generalizing ws with
  |nil=>rw[r.nil_inv];exact cX.nil|cons q kvs ih=>
   obtain⟨u,ws',rfl,r1,r2⟩:=r.cons_inv;rw[Yu,Yu];by_cases e:q.1=k
   .rw[if_pos e,if_pos (by rw[e])];exact cX.cons rd (ih r2)
   .rw[if_neg e,if_neg λz=>e (RX z)];exact cX.cons r1 (ih r2)
 .rw[if_neg c,if_neg c];exact r.append (cX.cons rd cX.nil)
theorem aD.dct(S:aD K H ι M)(hp:H p=Ym)(r:cX K H ι kvs ws):Ext K H ι (upd H p (.dK ws)) (ι++[p])/\aD K (upd H p (.dK ws)) (ι++[p]) (M++[.dct kvs])/\Rep K (upd H p (.dK ws)) (ι++[p]) (.ref M.length) (.ref p):=by have e:Ext K H ι (upd H p (.dK ws)) (ι++[p]):=Loose.Hf (.inl hp);exact⟨e,S.new hp ⟨ws,pY,r.mono e⟩,Rep.ref (by rw[←S.len];simp)⟩
end
section
variable {X:Cx} {a b c e o:Expr} {es:List Expr} {pos p pos' apos cpos:aV} {f g h:E3} {gl:d9}
def RZ(K:Yb)(H:Hp)(ι:List Y1)(Q:List (V×V)->Hp->Prop)(r:R3 (List (iC×D))):Prop:=match r with
 | .ok l M'=>∀ws H' ι',Ext K H ι H' ι'->aD K H' ι' M'->cX K H' ι' l ws->Q (ws.map λkv=>(kV kv.1,kv.2)) H'|_=>False
theorem RZ.bind{Q:List (V×V)->Hp->Prop}{r:R3 α}{k:α->Store->R3 (List (iC×D))}(h:RZ K H ι Q (r.bind k)):∃a M,r= .ok a M/\RZ K H ι Q (k a M):=by
 cases r with
 |ok a M=>exact⟨a,M,rfl,h⟩|exc x M=>exact h.elim|bad=>exact h.elim
theorem hu1(hu:X.A.units+80<jA):X.A.units+1<jA:=lB 1 7331617893452817 T1 hu
theorem ZrO{op:D->D->D->Store->R3 D}{Q:VK}(h':Zt K H ι Q (e3 op f g h env M)):
  ∃a M1 b M2 c M3,f env M= .ok a M1/\g env M1= .ok b M2/\h env M2= .ok c M3/\Zt K H ι Q (op a b c M3):=by
 obtain⟨a,M1,e1,h'⟩:=Zt.bind h';obtain⟨b,M2,e2,h'⟩:=Zt.bind h';obtain⟨c,M3,e3,h'⟩:=Zt.bind h';exact⟨a,M1,b,M2,c,M3,e1,e2,e3,h'⟩
theorem Zlp{D':Ends}(E:b_ K H ι env σ)(h':o8 K H ι D' (aP f env M)):Zt K H ι (λ_ H'=>D'.nx σ H') (f env M):=by
 unfold aP at h';cases q:f env M with
 |ok d M1=>rw[q]at h';exactλv H1 ι1 x1 S1 r1=>h' σ H1 ι1 x1 S1 (E.mono x1)|exc x M1=>rw[q]at h';exact h'.elim|bad=>rw[q]at h';exact h'.elim
theorem R0{i:Expr}{spos:aV}(ho:C3 X o f)(hi:C3 X i g)(hv:C3 X e h)(ha:∀v,jn (.Subscript o i spos) X.env v=(do
   let ov ←u5 [v] (aG o X.env)
   let iv ←u5 [v,ov] (aG i X.env)
   Dy spos
   u5 [v,ov,iv] (setItem ov iv v)
   release [v,ov,iv] []):=by intro _;rfl)(hs:Od [.Subscript o i spos] e pos.line X.env=pure false:=by rfl)(hw:Oe [.Subscript o i spos] e X.env=pure Ym:=by rfl)(h1:(jm [.Subscript o i spos] X.env).map (·.2)=[jn (.Subscript o i spos) X.env]:=by rfl):CS X (.Assign [.Subscript o i spos] e pos) (rm f g h):=(Zp3 hv (Ztg ho hi set_list ha) hs hw h1).imp λD' σ H ak=>by
 obtain⟨ι,M,env,S,E,hh⟩:=ak;obtain⟨d,M1,b,M2,k,M3,e1,e2,e3,hh⟩:=ZrO (Zlp E hh);refine⟨ι,M,env,S,E,?_⟩;rw[e1];intro v H1 ι1 x1 S1 r1;refine⟨ι1,M1,env,S1,E.mono x1,?_⟩;rw[e2];intro x H2 ι2 x2 S2 r2;refine⟨ι2,M2,env,S2,(E.mono x1).mono x2,?_⟩;rw[e3];intro y H3 ι3 x3 S3 r3;cases b with
 | ref n=>
  cases k with
  | int j=>
   simp only[Zjs]at hh;cases hn:M3[n]? with
   |none=>simp only[hn]at hh;exact hh.elim|some ob=>
    cases ob with
    |dct _=>simp only[hn]at hh;exact hh.elim|cL _=>simp only[hn]at hh;exact hh.elim|ins _ _=>simp only[hn]at hh;exact hh.elim|lst xs=>
     simp only[hn]at hh;cases hj:j6 xs.length j with
     |none=>simp only[hj]at hh;exact hh.elim|some q=>simp only[hj]at hh;obtain⟨ad,ha,rfl⟩:=(r2.mono x3).dJ;obtain⟨ws,hw,kr⟩:=S3.obj n _ ad hn ha;obtain⟨x4,S4⟩:=S3.uK (.inr (.inl ⟨_,hw⟩)) ha (kr.set q ((r1.mono x2).mono x3));exact⟨ad,ws,j,q,rfl,r3.int_inv,hw,by rw[kr.length];exact hj,hh .non _ _ (((x1.trans x2).trans x3).trans x4) S4 Rep.non⟩
  |_=>exact hh.elim
 |_=>exact hh.elim
end
section
variable {X:Cx} {a b c e o:Expr} {es:List Expr} {pos p apos cpos:aV} {f g h:E3} {gl:d9}
theorem ZvY:cR X (.type "int") (rB X.K Fd):=cR.imp ZoS λxs H Q ak=>by
 obtain⟨ι,M,ds,S,rd,h⟩:=ak;cases ds with
 |nil=>exact h.elim|cons d ds=>
  cases ds with
  |cons _ _=>cases d<;>exact h.elim|nil=>
   obtain⟨x,rfl,r⟩:=yw rd;cases d with
   |int i=>exact .inl ⟨i,by rw[r.int_inv],Zt.ok h S Rep.int⟩|bl k=>exact .inr ⟨k,by rw[r.gn],Zt.ok h S Rep.int⟩|_=>exact h.elim
theorem ZjU{K:Yb}{H:Hp}{ι:List Y1}:∀{x:List D} {ns:List Int} {vs:List V} {us:List Yh},lQ x=Ya ns->Zw K H ι x vs->Vals vs us->IntsAre us ns
 |[],ns,vs,us,h,r,v=>by
  have e:=r.nil_inv;subst e;cases v;have:ns=[]:=by simpa[lQ]using h.symm
  subst this;exact .nil
 | .int i::x,ns,vs,us,h,r,v=>by
  obtain⟨u,vs',rfl,r1,r2⟩:=r.cons_inv;have e:=r1.int_inv;subst e;cases v with
  | @cons _ z _ us' rz R4=>
  obtain⟨t,rfl⟩:=rz;simp only[lQ]at h;cases hx:lQ x with
  |none=>rw[hx]at h;cases h|some ms=>
   rw[hx]at h;have:ns=i::ms:=by simpa using h.symm
   subst this;exact .cons i t (ZjU hx r2 R4)
 | .non::_,_,_,_,h,_,_=>by simp[lQ]at h|.bl _::_,_,_,_,h,_,_=>by simp[lQ]at h|.str _::_,_,_,_,h,_,_=>by simp[lQ]at h|.tup _::_,_,_,_,h,_,_=>by simp[lQ]at h
 | .aZ _::_,_,_,_,h,_,_=>by simp[lQ]at h|.ref _::_,_,_,_,h,_,_=>by simp[lQ]at h
end
theorem ZnO{sts:List Yer}:o9 X sts tV:=λ_ _ _ _ _ _ ⟨_,_,_,_,_,h⟩=>h.elim
section
variable {X:Cx} {o e:Expr} {es:List Expr} {apos cpos:aV} {f:E3} {gl:d9}
theorem Zw.erase:∀{ds:List D} {vs:List V} (i:Nat),Zw K H ι ds vs->Zw K H ι (ds.eraseIdx i) (vs.eraseIdx i)
 |[],_,_,h=>by rw[h.nil_inv];exact Zw.nil|d::ds,_,0,h=>by obtain⟨v,us,rfl,r,t⟩:=h.cons_inv;exact t|d::ds,_,i+1,h=>by obtain⟨v,us,rfl,r,t⟩:=h.cons_inv;exact Zw.cons r (t.erase i)
theorem Zw.dropLast(r:Zw K H ι ds vs):Zw K H ι ds.dropLast vs.dropLast:=by rw[Wv,Wv,r.length];exact r.take _
theorem ZvI:jM X "list.pop" (rM X.K oZ):=jM.imp (r:=λx xs H Q=>Zqq x xs H Q\/Zwg x xs H Q) (λpins s σ H x xs v us Q I rx rs q=>q.elim (ZpR pins s σ H x xs v us Q I rx rs) (Zt2 pins s σ H x xs v us Q I rx rs)) λx xs H Q ak=>by
 obtain⟨ι,M,a,ds,S,ra,rd,h⟩:=ak;cases a with
 | ref n=>
  cases ds with
  | nil=>
   simp only[ZnJ,Q8]at h;cases hn:M[n]? with
   |none=>simp only[hn]at h;exact h.elim|some ob=>
    cases ob with
    |dct _=>simp only[hn]at h;exact h.elim|cL _=>simp only[hn]at h;exact h.elim|ins _ _=>simp only[hn]at h;exact h.elim|lst z=>
     simp only[hn]at h;cases hx:z[z.length-1]? with
     |none=>simp only[hx]at h;exact h.elim|some d=>simp only[hx]at h;obtain⟨p,hp,rfl⟩:=ra.dJ;have:=rd.nil_inv;subst this;obtain⟨vs,e,rv⟩:=S.obj n _ p hn hp;obtain⟨y,hy,ry⟩:=rv.get hx;obtain⟨x2,S2⟩:=S.uK (.inr (.inl ⟨_,e⟩)) hp rv.dropLast;exact .inr ⟨p,vs,y,rfl,rfl,e,by rw[rv.length];exact hy,h _ _ _ x2 S2 (ry.mono x2)⟩
  | cons d ds=>
   cases ds with
   |cons _ _=>cases d<;>exact h.elim|nil=>
    cases d with
    | int i=>
     simp only[ZnJ,Q8]at h;cases hn:M[n]? with
     |none=>simp only[hn]at h;exact h.elim|some ob=>
      cases ob with
      |dct _=>simp only[hn]at h;exact h.elim|cL _=>simp only[hn]at h;exact h.elim|ins _ _=>simp only[hn]at h;exact h.elim|lst z=>
       simp only[hn]at h;by_cases hb:-1000000<=i/\i<=1000000
       .rw[if_pos hb]at h;cases hk:j6 z.length i with
        |none=>simp only[hk]at h;exact h.elim|some k=>
         simp only[hk]at h;cases hx:z[k]? with
         |none=>simp only[hx]at h;exact h.elim|some d=>simp only[hx]at h;obtain⟨p,hp,rfl⟩:=ra.dJ;obtain⟨v,ws,rfl,r1,r2⟩:=rd.cons_inv;have:=r2.nil_inv;subst this;have:=r1.int_inv;subst this;obtain⟨vs,e,rv⟩:=S.obj n _ p hn hp;obtain⟨y,hy,ry⟩:=rv.get hx;obtain⟨x2,S2⟩:=S.uK (.inr (.inl ⟨_,e⟩)) hp (rv.erase k);obtain⟨q1,q2,q3,q4⟩:=QK (n:=z.length) (i:=i) (j:=k) hk;exact .inl ⟨p,vs,i,k,y,rfl,rfl,e,by omega,by omega,by rw[rv.length];exact q1,hy,h _ _ _ x2 S2 (ry.mono x2)⟩
       .rw[if_neg hb]at h;exact h.elim
    |_=>exact h.elim
 |_=>cases ds<;>exact h.elim
end
section
variable {X:Cx} {a b c e o:Expr} {es:List Expr} {pos p apos cpos:aV} {f g h:E3} {gl:d9}
theorem Zow:cR X (.type "str") (λxs H Q=>(∃i,xs=[.int i]/\i.natAbs.log2<1920/\Q (.str (Eb i)) H)\/∃x,xs=[.str x]/\Q (.str x) H):=by
 intro pins s σ H xs us Q I r h;rcases h with h|⟨x,rfl,q⟩
 .exact ZkO pins s σ H xs us Q I r h
 .obtain⟨u,rfl,t,rfl⟩:=vals1 r;exact PySem.P.str_of_str ⟨.str x,H,I,⟨t,rfl⟩,q⟩
theorem ZwD:cR X (.type "str") (rB X.K yd):=cR.imp Zow λxs H Q ak=>by
 obtain⟨ι,M,ds,S,rd,h⟩:=ak;cases ds with
 |nil=>exact h.elim|cons d ds=>
  cases ds with
  |cons _ _=>cases d<;>exact h.elim|nil=>
   obtain⟨x,rfl,r⟩:=yw rd;cases d with
   | int i=>
    simp only[ZnE,ZsM]at h;split at h
    .rename_i hz;refine .inl ⟨i,by rw[r.int_inv],hz,Zt.ok h S ?_⟩;have:=Rep.str (K:=X.K) (H:=H) (ι:=ι) (x:=gM i);exact this
    .exact h.elim
   |str z=>exact .inr ⟨_,by rw[r.str_inv],Zt.ok h S Rep.str⟩|_=>exact h.elim
theorem Kl{K:Yb}{H:Hp}{ι:List Y1}:∀{x:List D} {ts:List (List Nat)} {vs:List V} {us:List Yh},ir x=Ya ts->Zw K H ι x vs->Vals vs us->∃l:List (aj×fH),us=kY l/\l.map (·.1)=ts.map λt=>(⟨t.toArray⟩:aj)
 |[],ns,vs,us,h,r,v=>by
  have e:=r.nil_inv;subst e;cases v;have:ns=[]:=by simpa[ir]using h.symm
  subst this;exact⟨[],rfl,rfl⟩
 | .str i::x,ns,vs,us,h,r,v=>by
  obtain⟨u,vs',rfl,r1,r2⟩:=r.cons_inv;have e:=r1.str_inv;subst e;cases v with
  | @cons _ z _ us' rz R4=>
  obtain⟨t,rfl⟩:=rz;simp only[ir]at h;cases hx:ir x with
  |none=>rw[hx]at h;cases h|some ms=>
   rw[hx]at h;have:ns=i::ms:=by simpa using h.symm
   subst this;obtain⟨l,rfl,e⟩:=Kl hx r2 R4;exact⟨(_,t)::l,rfl,by simp[e]⟩
 | .non::_,_,_,_,h,_,_=>by simp[ir]at h|.bl _::_,_,_,_,h,_,_=>by simp[ir]at h|.int _::_,_,_,_,h,_,_=>by simp[ir]at h|.tup _::_,_,_,_,h,_,_=>by simp[ir]at h
 | .aZ _::_,_,_,_,h,_,_=>by simp[ir]at h|.ref _::_,_,_,_,h,_,_=>by simp[ir]at h
theorem Km(sep:List Nat):∀ts:List (List Nat),Str.join (⟨sep.toArray⟩:aj) (ts.map λt=>(⟨t.toArray⟩:aj))=⟨(glue sep ts).toArray⟩
 |[]=>rfl|[x]=>rfl|x::y::xs=>by have ih:=Km sep (y::xs);simp only[Yu]at ih ⊢;simp only[Str.join,glue]at ih ⊢;rw[ih];show(⟨(x.toArray++sep.toArray)++(glue sep (y::xs)).toArray⟩:aj)=_;simp
theorem Zrf{sep:List Nat}{ts:List (List Nat)}(h:j8 sep ts<=SZ):JoinOk (⟨sep.toArray⟩:aj) (ts.map λt=>(⟨t.toArray⟩:aj))=true:=by
 have gen:∀(ts:List (List Nat)) (k:Nat),HD (λx1 (x2:aj)=>x1+x2.length+(⟨sep.toArray⟩:aj).length) k (ts.map λt=>(⟨t.toArray⟩:aj))=k+j8 sep ts:=by
  intro ts
  induction ts with
  |nil=>intro k;simp[j8]|cons t ts ih=>intro k;simp only[Yu,qN,ih];simp[j8,lg];exact Y4 (lD 0 0x321cc0c3210ccc0 T1) (lD 0 0x3210ccc321cc0c0 T1)
 unfold JoinOk XX;rw[List.foldl_toArray,gen];have:bw>=SZ:=jD;simp only[vp,Xp,decide_eq_false_iff_not];exactλz=>lC 3 0x6210102011011 T1 z this h
theorem Zuk:jM X "str.join" (rM X.K Av):=by
 intro pins s σ H x xs v us Q I rx rs h;obtain⟨ι,M,a,ds,S,ra,rd,h⟩:=h;cases a with
 | str sep=>
  cases ds with
  |nil=>exact h.elim|cons d ds=>
   cases ds with
   |cons _ _=>cases d<;>exact h.elim|nil=>
    cases d with
    | ref n=>
     simp only[Zll]at h;cases hn:M[n]? with
     |none=>simp only[hn]at h;exact h.elim|some ob=>
      cases ob with
      |dct _=>simp only[hn]at h;exact h.elim|cL _=>simp only[hn]at h;exact h.elim|ins _ _=>simp only[hn]at h;exact h.elim|lst z=>
       simp only[hn]at h;cases hs:ir z with
       |none=>simp only[hs]at h;exact h.elim|some ts=>
        simp only[hs]at h;split at h
        .rename_i hz;have:=ra.str_inv;subst this;obtain⟨w',ws,rfl,r1,r2⟩:=rd.cons_inv;have:=r2.nil_inv;subst this;obtain⟨p,hp,rfl⟩:=r1.dJ;obtain⟨t,rfl⟩:=rx;obtain⟨u,rfl,ru⟩:=vals1 rs;cases ru;obtain⟨vs,e,rv⟩:=S.obj n _ p hn hp;obtain⟨its,rr,pl,zl⟩:=I.list (bC.of e);obtain⟨l,rfl,el⟩:=Kl hs rv rr;refine SC.join pl.isList el (Zrf hz) λt' k=>⟨.str _,H,I.tok _,⟨t',rfl⟩,?_⟩;rw[Txt.join,Z3,Km];exact Zt.ok h S Rep.str
        .exact h.elim
    |_=>exact h.elim
 |_=>exact h.elim
theorem ZiF(ho:C3 X o f)(ha:CA X (e::es) gl)(hbase:mH o "join" X.env (aG o X.env)=aG o X.env:=by rfl)(hfew:((b7 cpos (Yw (e::es) X.env)).all (λx=>!x.1)&&(iU cpos (iR [] X.env)).all (λx=>x.1.isSome)
   &&decide ((e::es).length+([]:List Keyword).length+(if([]:List Keyword).isEmpty then 0 else 1)<30))=true:=by rfl)(hline:(apos.endLine==cpos.line)=true:=by rfl)(hs:Yw (e::es) X.env=(false,aG e X.env)::Yw es X.env:=by rfl)(hplain:(b7 cpos (Yw es X.env)).any (·.1)=false:=by rfl):
  C3 X (.Call (.Attribute o "join" apos) (e::es) [] cpos) (aH ig Av f gl):=
 (Ad Jb Pu YD Zuk ho ha hbase hfew hline hs hplain).imp (Bd Kh)
end
section
variable {X:Cx} {a b c e o:Expr} {es:List Expr} {pos p apos cpos:aV} {f g h:E3} {gl:d9}
theorem Zo3{t:fH}{y:aj}{u:fH}(hy:(y.length==0)=false)(hz:x.length+2<=bw)(h:∀(l:List (aj×fH)) (k:Nat),l.map (·.1)=Txt.split x y->l.length<=x.length+2->Q (.ref s.heap.objs.size) {s with heap:=s.heap.push {cls:=.type "list",data:=.seq (kY l).toArray},toks:=k}):
  aq (aA prog w) A (call (.builtin "str.split") [.str x t,.str y u]) Q E s:=by
 have e1:=StrLaws.occ_length_le x y 0 x.length (x.length+1);have e2:=length_partsBetween x (DX x y 0 x.length (x.length+1)) y.length;have hn:(XS x (DX x y 0 x.length (x.length+1)) y.length).length<=bw:=lD 3 0x300321b2c01a2c101a1c021 T1 e2 e1 hz;cases h1:(decide (x.length<y.length)|| decide (X4 x<X4 y))with
 | true=>
  exact pO PB (xg s x t) Pz (Py (.str x t) (.str y u)) (meets_str_split_cannot_occur x y t u h1)
   (h [(x,t)] s.toks (if_pos h1).symm (by simp))
 | false=>
  cases hf:(DX x y 0 x.length (x.length+1)).isEmpty with
  | true=>
   exact pO PB (xg s x t) Pz (Py (.str x t) (.str y u)) (meets_str_split_not_found x y t u h1 hy hf)
    (h [(x,t)] s.toks ((if_neg (ne_true_of_eq_false h1)).trans (if_pos hf)).symm (by simp))
  |false=>refine pO PB (xg s x t) Pz (Py (.str x t) (.str y u)) (meets_str_split_sep x y t u h1 hy hf (lB 1 1099815390209 T1 hz) hn) ?_;rw[strsFrom_eq];refine h (numbered s.toks _) _ ((numbered_texts s.toks _).trans ((if_neg (ne_true_of_eq_false h1)).trans (if_neg (ne_true_of_eq_false hf))).symm) ?_;have e3:=congrArg uT (numbered_texts s.toks (XS x (DX x y 0 x.length (x.length+1)) y.length));rw[Yv]at e3;exact lD 3 0x21b3c00a3c201a2c1211021 T1 e3 e2 e1
theorem Zjk:cR X (.type "int") (λxs H Q=>∃x n,xs=[.str x]/\intText? x=Ya n/\x.length<=640/\Q (.int n) H):=by intro pins s σ H xs us Q I r h;obtain⟨x,n,rfl,hn,hz,q⟩:=h;obtain⟨u,rfl,t,rfl⟩:=vals1 r;exact PySem.W.KIN.call_text hn hz ⟨.int n,H,I.tok _,⟨_,rfl⟩,q⟩
theorem Zuo:cR X (.type "int") (rB X.K tZ):=cR.imp (cR.or ZvY Zjk) λxs H Q ak=>by
 obtain⟨ι,M,ds,S,rd,h⟩:=ak
 match ds,rd,h with
 | [.str x],rd,h=>
  obtain⟨v,rfl,r⟩:=yw rd;simp only[Zql,Zpu]at h;cases hn:HW ⟨x.toArray⟩with
  |none=>rw[hn]at h;exact h.elim|some n=>
   rw[hn]at h;dsimp only at h;split at h
   .rename_i hz;exact .inr ⟨_,n,by rw[r.str_inv],hn,by simpa[lg]using hz,Zt.ok h S Rep.int⟩
   .exact h.elim
 |[],rd,h=>exact h.elim|[.int i],rd,h=>exact .inl ⟨ι,M,_,S,rd,h⟩|[.bl i],rd,h=>exact .inl ⟨ι,M,_,S,rd,h⟩|[.non],rd,h=>exact h.elim
 |[.tup _],rd,h=>exact h.elim|[.aZ _],rd,h=>exact h.elim|[.ref _],rd,h=>exact h.elim|.str _::_::_,rd,h=>exact h.elim
 | .int _::_::_,rd,h=>exact h.elim|.bl _::_::_,rd,h=>exact h.elim|.non::_::_,rd,h=>exact h.elim|.tup _::_::_,rd,h=>exact h.elim
 | .aZ _::_::_,rd,h=>exact h.elim|.ref _::_::_,rd,h=>exact h.elim
theorem R5{K:Yb}{H:Hp}{ι:List Y1}:∀(l:List (aj×fH)),Vals (l.map λp=>V.str p.1) (kY l)/\Zw K H ι ((l.map λp=>p.1.cps.toList).map D.str) (l.map λp=>V.str p.1)
 |[]=>⟨.nil,Zw.nil⟩|p::l=>⟨.cons ⟨p.2,rfl⟩ (R5 (K:=K) (H:=H) (ι:=ι) l).1,Zw.cons (Rep.str (x:=p.1.cps.toList)) (R5 l).2⟩
theorem m_split:jM X "str.split" (rM X.K vM):=by
 intro pins s σ H x xs v us Q I rx rs h;obtain⟨ι,M,a,ds,S,ra,rd,h⟩:=h;cases a with
 | str z=>
  cases ds with
  |nil=>exact h.elim|cons d ds=>
   cases ds with
   |cons _ _=>cases d<;>exact h.elim|nil=>
    cases d with
    | str y=>
     simp only[ZjH]at h;split at h
     .rename_i hz;have:=ra.str_inv;subst this;obtain⟨w',ws,rfl,r1,r2⟩:=rd.cons_inv;have:=r2.nil_inv;subst this;have:=r1.str_inv;subst this;obtain⟨t,rfl⟩:=rx;obtain⟨u,rfl,ru⟩:=vals1 rs;obtain⟨t',rfl⟩:=ru;have zl:=jD;refine Zo3 ?_ ?_ λl k hl hn=>?_
      .have:=hz.1;simp[lg];intro e;subst e;simp at this
      .simp only[lg,Yn];exact Yj hz.2 zl
      .have hq:=I.fresh;obtain⟨v1,r'⟩:=R5 (K:=X.K) (H:=H) (ι:=ι) l;have e1:(l.map λp=>p.1.cps.toList)=nO z y:=by
        rw[nO,←hl,qO];rfl
       rw[e1]at r';obtain⟨x2,S2,r2⟩:=S.lst hq r';refine⟨.ref s.heap.objs.size,_,I.laid (λb o' e=>Yl _ e) (Ys _) (show gq X.prog X.w _ _ _ (.lst (l.map λp=>V.str p.1))from⟨?_,kY l,_,v1,Y2 _ rfl⟩),rfl,h _ _ _ x2 S2 r2⟩;simp only[Yv,lg,Yn]at hn ⊢;exact lD 3 0x300221b1c01320121b1c001 T1 hn zl hz.2
     .exact h.elim
    |_=>exact h.elim
 |_=>exact h.elim
theorem Zhy(ho:C3 X o f)(ha:CA X (e::es) gl)(hbase:mH o "split" X.env (aG o X.env)=aG o X.env:=by rfl)(hfew:((b7 cpos (Yw (e::es) X.env)).all (λx=>!x.1)&&(iU cpos (iR [] X.env)).all (λx=>x.1.isSome)
   &&decide ((e::es).length+([]:List Keyword).length+(if([]:List Keyword).isEmpty then 0 else 1)<30))=true:=by rfl)(hline:(apos.endLine==cpos.line)=true:=by rfl)(hs:Yw (e::es) X.env=(false,aG e X.env)::Yw es X.env:=by rfl)(hplain:(b7 cpos (Yw es X.env)).any (·.1)=false:=by rfl):
  C3 X (.Call (.Attribute o "split" apos) (e::es) [] cpos) (aH ig vM f gl):=
 (Ad Jb PySem.F.slot_str_split PySem.F.type_str_split m_split ho ha hbase hfew hline hs hplain).imp (Bd Kh)
end
section
variable {X:Cx} {a b c e o:Expr} {es:List Expr} {pos p p1 p2 p3 pt apos cpos:aV} {f g h:E3} {gl:d9}
theorem Zr6(K:Yb)(t:String)(T1 T2:nC)(ht:t∈["NoneType","bool","int","str","list","tuple","dict"]):
  PySem.W.kitAny K (.type t) [.type (eQ T1),.type (eQ T2)]=Ya ((t==eQ T1|| (t== "bool" &&eQ T1== "int"))|| (t==eQ T2|| (t== "bool" &&eQ T2== "int"))):=by
 simp only[Yo,pM,or_false]at ht;rcases ht with rfl|rfl|rfl|rfl|rfl|rfl|rfl <;>cases T1<;>cases T2<;>kernel_rfl
theorem ZrS{x:V}(I:Inv X pins σ H s)(S:aD X.K H ι M)(r:Rep X.K H ι d x)(ru:RelV x u)(hd:jN .int d M≠Ym):
  ∃(t:String) (Hc:aO->Prop),PySem.W.KitX X.K u (.type t) Hc/\Hc s.heap/\u≠ .builtin "__main__.__loader__#opaque" /\t∈["NoneType","bool","int","str","list","tuple","dict"]/\∀T b,jN T d M=Ya b->b=(t==eQ T|| (t== "bool" &&eQ T== "int")):=by
 cases d with
 | non=>
  have:=r.jj;subst this;cases(show u=Value.none from ru);exact⟨"NoneType",_,Wh,True.intro,(λz=>nomatch z),by simp,λT b e=>by
   have hb:b=false:=by simpa  using e.symm
   subst hb;cases T<;>rfl⟩
 | bl c=>
  have:=r.gn;subst this;cases(show u=Value.bool c from ru);exact⟨"bool",_,Wi,True.intro,(λz=>nomatch z),by simp,λT b e=>by
   have hb:b=(T== .bool|| T== .int):=by simpa  using e.symm
   subst hb;cases T<;>rfl⟩
 | int i=>
  have:=r.int_inv;subst this;obtain⟨t,q⟩:=(show∃t,u=Value.int i t from ru);cases q;exact⟨"int",_,Wk,True.intro,(λz=>nomatch z),by simp,λT b e=>by
   have hb:b=(T== .int):=by simpa  using e.symm
   subst hb;cases T<;>rfl⟩
 | str z=>
  have:=r.str_inv;subst this;obtain⟨t,q⟩:=(show∃t,u=Value.str _ t from ru);cases q;exact⟨"str",_,Wl,True.intro,(λz=>nomatch z),by simp,λT b e=>by
   have hb:b=(T== .str):=by simpa  using e.symm
   subst hb;cases T<;>rfl⟩
 | tup ds=>
  obtain⟨a,vs,rfl,st,rr⟩:=r.i_;cases ru;obtain⟨its,_,pt,_⟩:=I.tuple st;obtain⟨o,h1,h2,_⟩:=pt;exact⟨"tuple",_,Nj,⟨o,h1,h2⟩,(λz=>nomatch z),by simp,λT b e=>by
   have hb:b=(T== .tuple):=by simpa  using e.symm
   subst hb;cases T<;>rfl⟩
 |aZ ds=>exact absurd (by simp) hd|ref n=>
  simp only[ZnH,Zoh,Znq,ZnT,Znt,Zn9,ZnD]at hd;cases hn:M[n]? with
  |none=>exact absurd (by simp[hn]) hd|some o=>
   obtain⟨a,ha,rfl⟩:=r.dJ;cases o with
   | lst z=>
    obtain⟨vs,ev,_⟩:=S.obj n _ a hn ha;cases(show u=Value.ref a from ru);obtain⟨_,_,n',_,h1⟩:=(show gq X.prog X.w H s.heap a (.lst vs)from I.hok a _ ev);exact⟨"list",_,Np,⟨_,h1,rfl⟩,(λz=>nomatch z),by simp,λT b e=>by
     have hb:b=(T== .list):=by simpa[hn]using e.symm
     subst hb;cases T<;>rfl⟩
   | dct z=>
    obtain⟨vs,ev,_⟩:=S.obj n _ a hn ha;cases(show u=Value.ref a from ru);obtain⟨_,_,vs',_,q⟩:=(show gq X.prog X.w H s.heap a (.dK vs)from I.hok a _ ev);obtain⟨o,es,ep,h1,h2,_⟩:=q;exact⟨"dict",_,Nq,⟨o,h1,h2.1⟩,(λz=>nomatch z),by simp,λT b e=>by
     have hb:b=false:=by simpa[hn]using e.symm
     subst hb;cases T<;>rfl⟩
   |cL z=>exact absurd (by simp[hn]) hd|ins _ _=>exact absurd (by simp[hn]) hd
theorem ZnK(T1 T2:nC){y:aj}{k}(hm:X.mg "isinstance" =Ym)(hm1:X.mg x=Ym)(hm2:X.mg y=Ym)(h:C3 X a f)(hx:x=(pW (eQ T1)):=by rfl)(hy:y=(pW (eQ T2)):=by rfl)(hg:Gl X "isinstance":=by rfl)(hg1:Gl X x:=by rfl)(hg2:Gl X y:=by rfl)(hn:x≠ "__name__":=by decide)(hd:(x==("__debug__":aj))=false:=by decide)(hn':y≠ "__name__":=by decide)(hd':(y==("__debug__":aj))=false:=by decide)(hs:Yw (a::[.Tuple [.Name x p1,.Name y p2] k pt]) X.env=(false,aG a X.env)::Yw [.Tuple [.Name x p1,.Name y p2] k pt] X.env:=by rfl)(hs1:Yw (.Tuple [.Name x p1,.Name y p2] k pt::[]) X.env=(false,aG (.Tuple [.Name x p1,.Name y p2] k pt) X.env)::Yw [] X.env:=by rfl)(hs2:Yw (.Name x p1::[.Name y p2]) X.env=(false,aG (.Name x p1) X.env)::Yw [.Name y p2] X.env:=by rfl)(hs3:Yw (.Name y p2::[]) X.env=(false,aG (.Name y p2) X.env)::Yw [] X.env:=by rfl)(hpl:(b7 pos (Yw [.Tuple [.Name x p1,.Name y p2] k pt] X.env)).any (·.1)=false:=by rfl):C3 X (.Call (.Name "isinstance" p) [a,.Tuple [.Name x p1,.Name y p2] k pt] [] pos) (e1 (Fp T1 T2) f):=by
 subst hx hy;have hc:cR X (.builtin "isinstance") (λxs H Q=>∃ι M d x q,xs=[x,.ref q]/\H q=Ya (.tup [.ty (eQ T1),.ty (eQ T2)])/\aD X.K H ι M/\Rep X.K H ι d x/\Zt X.K H ι Q (Fp T1 T2 d M)):=by
  intro pins s σ H xs us Q I r q;obtain⟨ι,M,d,x,tp,rfl,et,S,rd,q⟩:=q;obtain⟨u,w',rfl,ru,mO⟩:=vals2 r;cases mO;unfold Fp at q;cases e1:jN T1 d M with
  |none=>rw[e1]at q;exact q.elim|some b1=>
   cases e2:jN T2 d M with
   |none=>rw[e1,e2]at q;exact q.elim|some b2=>
    rw[e1,e2]at q;have hd:jN .int d M≠Ym:=λz=>by
     cases d with
     |ref n=>
      simp only[ZnH,Zoh,Znq,ZnT,Znt,Zn9,ZnD]at z e1;cases hn:M[n]? with
      |none=>simp[hn]at e1|some o=>cases o<;>simp[hn]at z e1
     |aZ _=>simp  at e1|_=>simp  at z
    obtain⟨t,Hc,kx,hh,hl,ht,hb⟩:=ZrS I S rd ru hd;obtain⟨_,its,rt,pt⟩:=(show gq X.prog X.w H s.heap tp (.tup [.ty (eQ T1),.ty (eQ T2)])from I.hok tp _ et);obtain⟨v1,v2,rfl,q1,q2⟩:=vals2 rt;cases q1;cases q2;obtain⟨ob,g1,⟨g2,g3⟩,n,g4⟩:=pt;have ho:ob={cls:=.type "tuple",dict:=ob.dict,data:=.seq [.type (eQ T1),.type (eQ T2)].toArray n,slots:=ob.slots}:=by cases ob;simp only at g2 g4;subst g2 g4;rfl
    rw[ho]at g1;refine PySem.W.kia_tup kx I.dW hh g1 ((Zr6 X.K t T1 T2 ht).trans ?_) hl λtk=>⟨.bl (b1|| b2),H,I.tok _,rfl,Zt.ok q S Rep.bl⟩;rw[hb T1 b1 e1,hb T2 b2 e2]
 refine(JB hc hg hm ZfT (vD h (vD (ZpH (vD (Qu hg1 hm1 (RV T1) (v:=.ty (eQ T1)) rfl hn hd) (vD (Qu hg2 hm2 (RV T2) (v:=.ty (eQ T2)) rfl hn' hd') Ep hs3) hs2)) Ep hs1) hs) (by decide) (by decide) hs hpl).imp λσ H Q ak=>?_;obtain⟨ι,M,env,S,E,h⟩:=ak;obtain⟨d,M1,e1,h⟩:=Zt.bind h;refine⟨ι,M,env,S,E,?_⟩;rw[e1];intro v H1 ι1 x1 S1 r1;refine⟨by simp;exact Yj (by decide) jD,λq hq=>?_⟩;have x2:Ext X.K H1 ι1 (upd H1 q (.tup [.ty (eQ T1),.ty (eQ T2)])) ι1:=Loose.ext (.inl hq);exact⟨ι1,M1,d,v,q,rfl,pY,S1.other (.inl hq) (S1.fresh hq),r1.mono x2,h.up (x1.trans x2)⟩
end
def Ko(K:Yb)(H:Hp)(ι:List Y1)(it:Fq)(J:It):Prop:=∀(i:Nat) H2 ι2 M2,Ext K H ι H2 ι2->aD K H2 ι2 M2->jt it.lk M2=true ->
 (∀d,it.items[i]?=Ya d->J.go i H2/\∀x H3,J.Jv i H2 x H3->Ext K H2 ι2 H3 ι2/\aD K H3 ι2 M2/\Rep K H3 ι2 d x)/\(i=it.items.length->J.stop i H2)
def Bh(K:Yb)(H:Hp)(ι:List Y1)(R:It->Hp->Prop)(r:R3 Fq):Prop:=match r with
 | .ok it M'=>∀J H' ι',Ext K H ι H' ι'->aD K H' ι' M'->Ko K H' ι' it J->R J H'|_=>False
def tIL(K:Yb)(g:ye):TI:=λσ H R=>∃ι M env,aD K H ι M/\b_ K H ι env σ/\Bh K H ι R (g env M)
def CIL(X:Cx)(tg e:Expr)(g:ye):Prop:=PI X tg e (tIL X.K g)
theorem Bh.bind{Q:It->Hp->Prop}{r:R3 α}{k:α->Store->R3 Fq}(h:Bh K H ι Q (r.bind k)):∃a M,r= .ok a M/\Bh K H ι Q (k a M):=by
 cases r with
 |ok a M=>exact⟨a,M,rfl,h⟩|exc x M=>exact h.elim|bad=>exact h.elim
theorem _root_.L2.Inv.G4{h':aO}{t':Nat}(I:Inv X pins σ H s)(k:∀b o,b∉fp->s.heap.get? b=Ya o->h'.get? b=Ya o)(hf:∀b∈fp,iB X pins H b):
  Inv X pins σ H {s with heap:=h',toks:=t'}:=by
 have Em:∀b u,H b=Ya u->b∉fp:=λb u e z=>by rw[(hf b z).1]at e;cases e
 refine I.step (g':=s.gens) (d':=s.drawn) (ch:=fp) (λb hb=>⟨(hf b hb).2.2.2.1,(hf b hb).2.1,(hf b hb).2.2.2.2.1,(hf b hb).2.2.2.2.2⟩) (λb o _ _ hc e _=>k b o hc e) (λb o _ _ hc e _=>⟨o.slots,k b o hc e⟩) (λ_ _ _ _ n=>n)
  (λb o hc e=>⟨o,k b o hc e⟩) (λ_ _ e=>e) (λ_ _ _ e=>e) (λb ps e=>⟨#[],by rw[e];simp⟩) (λm hm=>?_) (λb u e=>?_) I.bare
 .obtain⟨o,es,ep,ho,r⟩:=hm;exact⟨o,es,ep,k _ o (λz=>(hf _ z).2.1 rfl) ho,r⟩
 .refine(I.hok b u e).stay (λc v hc q=>k c v ?_ q) (λ_ q=>q) λ_ _ q=>q;rcases hc with z|z
  .rw[z];exact Em b u e
  .exact Em c _ z
noncomputable def Ite(S:Hp->List V->Prop):It:=⟨λi H=>∃xs x,S H xs/\xs[i]?=Ya x,λi H x H'=>∃T y,x= .ref T/\H T=Ym/\H'=upd H T (.tup [.int i,y])/\∀xs,S H xs->xs[i]?=Ya y,λi H=>∃xs,S H xs/\xs.length<=i⟩
theorem R6{h' h'':aO}{e:Y1}{x:V}{tk tk':Nat}(I:Inv X pins σ H s)(hf:∀b∈[e,it],iB X pins H b)(he:e<s.heap.objs.size)(hi:it<s.heap.objs.size)(ru:RelV x u)(hT:h'.get? s.heap.objs.size=Ya {cls:=.type "tuple",data:=.seq #[.int i tk,u]})(hk:∀b o,b≠e->b≠it->s.heap.get? b=Ya o->h'.get? b=Ya o)(hs:zM e h' h''):
  Inv X pins σ (upd H s.heap.objs.size (.tup [.int i,x])) {s with heap:=h'',toks:=tk'}/\∀b∈[e,it],upd H s.heap.objs.size (.tup [.int i,x]) b=Ym:=by
 have hn:∀b∈[e,it],upd H s.heap.objs.size (.tup [.int i,x]) b=Ym:=λb hb=>by
  have:b≠s.heap.objs.size:=by
   simp only[Yo,pM,or_false]at hb;rcases hb with rfl|rfl
   .exact dz he
   .exact dz hi
  rw[fK this];exact(hf b hb).1
 refine⟨?_,hn⟩;have I1:Inv X pins σ (upd H s.heap.objs.size (.tup [.int i,x])) {s with heap:=s.heap.push {cls:=.type "tuple",data:=.seq ([.int i tk,u]:List Yh).toArray},toks:=s.toks}:=I.laid (t':=s.toks) (λb o e=>Yl _ e) (Ys _) (show gq X.prog X.w _ _ _ (.tup [.int i,x])from⟨by rw[zB];show 2<=_;decide,[.int i tk,u],.cons ⟨tk,rfl⟩ (.cons ru .nil),qW.new _ _⟩);have I3:=I1.G4 (t':=tk') (h':=h'') (fp:=[e,it]) (λb o hb q=>by
  have hbe:b≠e:=λz=>hb (by simp[z]);have hbi:b≠it:=λz=>hb (by simp[z]);rcases Heap.get?_push_cases q with⟨rfl,rfl⟩|q
  .exact(hs.2 _ (DP he)).trans hT
  .exact(hs.2 _ hbe).trans (hk b o hbe hbi q)) λb hb=>⟨hn b hb,(hf b hb).2⟩
 exact I3
theorem ZmC{P:bF}{es:List Expr}{k:Nat}{pos:aV}(a e it:Y1)(hne:e≠it):
  Turn P w K (.Tuple es k pos) (Ite λH xs=>bC K H a xs) [e,it] e (λi h=>(∃old,xj h e it i old)/\h.IsListIter it a i)where
 mem:=by simp
 obj:=λi h st b hb=>by
  obtain⟨⟨old,he⟩,o,ho,c,d⟩:=st;simp only[Yo,pM,or_false]at hb;rcases hb with rfl|rfl
  .exact⟨_,he,λv z=>by cases z⟩
  .exact⟨o,ho,λv z=>by rw[d]at z;cases z⟩
 keep:=λi h h' st k=>by obtain⟨⟨old,he⟩,hit⟩:=st;exact⟨⟨old,k e (by simp) _ he⟩,hit.at λo q=>k it (by simp) o q⟩
 item:=by
  intro X hP hw hK hc i pins s σ H E I hf st hg;subst hP hw hK;obtain⟨xs,x,hq,hx⟩:=hg;obtain⟨its,rv,p,hz⟩:=I.list hq;obtain⟨u,hu,ru⟩:=rv.get hx;obtain⟨⟨old,he⟩,hit⟩:=st;have hel:=Y3 he;have hil:it<s.heap.objs.size:=by obtain⟨o,ho,_⟩:=id hit;exact Y3 ho
  refine wpAny_pyNext_enum_item he hit p.isList (x:=u) (by simpa using hu) hne λh' ho hit' hT hsz hk=>?_;refine⟨_,rfl,N6 (s:={s with heap:=h',toks:=s.toks+1}) ho λh'' Df hs''=>?_⟩;obtain⟨I2,n2⟩:=R6 (x:=x) (tk':=s.toks+1) I hf hel hil ru hT hk hs'';exact⟨.ref s.heap.objs.size,_,I2,rfl,⟨_,x,rfl,I.hok.fresh (Ys _),rfl,λys hy=>by rw[I.Mu hy hq];exact hx⟩,⟨⟨_,by simpa using Df⟩,hit'.extBut hs''.extBut (cP hne)⟩,n2⟩
 done:=by intro X hP hw hK hc i pins s σ H E I hf st hg;subst hP hw hK;obtain⟨xs,hq,hx⟩:=hg;obtain⟨its,rv,p,hz⟩:=I.list hq;obtain⟨⟨old,he⟩,hit⟩:=st;have hl:=rv.length;exact wpAny_pyNext_enum_end (I.ok.hd hc) he hit p.isList (by simp;exact lC 2 2268279672881 T1 hl hx) λh' eb=>⟨rfl,I.G4 (t':=s.toks) (λb o hb q=>eb b o (λz=>hb (by simp[z])) q) hf⟩
 self:=λ_ _ _ _ _ st h=>by obtain⟨⟨old,he⟩,_⟩:=st;exact zA he h
theorem boot_enumerate:jH "enumerate" =Ya (.type "enumerate"):=by decide +kernel
open AutoSeq1 (wpAny_loadPart')
set_option maxRecDepth 100000
section
variable {prog:bF} {w:bx} {A:bK} {E:Yh->Yk->Prop} {s:Yk}
theorem Zgx{it t:Y1}{x:Yh}(hit:s.heap.IsTupleIter it t i)(ht:s.heap.IsTuple t items)(hx:items[i]?=Ya x)(hQ:∀h',h'.IsTupleIter it t (i+1)->zM it s.heap h'->Q x {s with heap:=h'}):aq (aA prog w) A (Je (.ref it)) Q E s:=by
 obtain⟨o,ho,hc,hd⟩:=id hit;obtain⟨ol,hol,_,nl,hdl⟩:=ht;unfold Je;refine Yg (wW (name:=pW "__next__") hit.typeIs I_
  (uW I_ hit.typeIs XH ?_ (XM _)))
 show aq _ _ (field (.ref it) 0>>=_) _ _ s;refine Yg (sJ ho hd (x:=.ref t) rfl ?_);show aq _ _ (if(Value.ref t==Value.none)=true then _ else _) _ _ s;rw[if_neg (show¬((Value.ref t==Value.none)=true)from k_)];show aq _ _ (field (.ref it) 1>>=_) _ _ s;refine Yg (sJ ho hd (x:=.int i 0) rfl ?_);show aq _ _ (seqItems? (.ref t)>>=_) _ _ s;refine Yg (Ds hol hdl ?_);simp only[qR,hx];refine Yg (wpAny_setField ho hd (by simp) (Yt ⟨x,rfl,Yt (hQ _ ?_ (Z4 ..))⟩));exact⟨_,Ir _ ho (Obj.isFreed_of_fields (Z0 hd _)),(Obj.cls_mapFields ..).trans hc,by rw[Z0 hd];simp[vf]⟩
theorem ZeC{it t:Y1}(hh:A.handled=Ym)(hit:s.heap.IsTupleIter it t i)(ht:s.heap.IsTuple t items)(hx:items[i]?=Ym)(hE:∀h' e,O4 it s.heap h'->(∃o,h'.get? e=Ya o/\o.cls= .type "StopIteration")->E (.ref e) {s with heap:=h'}):aq (aA prog w) A (Je (.ref it)) Q E s:=by
 obtain⟨o,ho,hc,hd⟩:=id hit;obtain⟨ol,hol,_,nl,hdl⟩:=ht;unfold Je;refine Yg (wW (name:=pW "__next__") hit.typeIs I_
  (uW I_ hit.typeIs XH ?_ (XM _)))
 show aq _ _ (field (.ref it) 0>>=_) _ _ s;refine Yg (sJ ho hd (x:=.ref t) rfl ?_);show aq _ _ (if(Value.ref t==Value.none)=true then _ else _) _ _ s;rw[if_neg (show¬((Value.ref t==Value.none)=true)from k_)];show aq _ _ (field (.ref it) 1>>=_) _ _ s;refine Yg (sJ ho hd (x:=.int i 0) rfl ?_);show aq _ _ (seqItems? (.ref t)>>=_) _ _ s;refine Yg (Ds hol hdl ?_);simp only[qR,hx];refine Yg (Ia (Yg (wpAny_setField ho hd (by simp) ?_)));show aq _ _ (newExc (.type "StopIteration") []>>=_) _ _ _;refine Yg ?_;simp only[newExc,newTuple];refine Yg (sI ?_ (by size_fits));refine Yg (m:=firstArgMember _ _) (HY (a:=Value.none) (by first|rfl|(simp only[firstArgMember];rfl)) ?_);refine sI ?_ (by size_fits);simp only[raiseNew];refine Yg (wpAny_handled ?_)
 first|rw[show A.in1.handled=Ym from hh]|rw[hh]
 refine Yg (Yt (wpAny_throw ?_));exact hE _ _ (((Z4 ..).extBut.push _).push _) ⟨_,Y2 _ rfl,rfl⟩
end
theorem Zlc(hh:A.handled=Ym)(it l:Y1)(hne:l≠it)(items:Array Yh):
  Draws prog w A it [it,l] items.size (λi v=>items[i]?=Ya v) (λi h=>h.IsTupleIter it l i/\h.IsTuple l items)where
 live:=λ_ _ st=>let⟨o,ho,_⟩:=st.1;⟨o,ho⟩
 frame:=λ_ _ _ st hk=>⟨st.1.at λo e=>hk it (by simp) o e,st.2.at λo e=>hk l (by simp) o e⟩
 item:=λi s Q E hi st hQ=>by refine Zgx st.1 st.2 (x:=items[i]) (by simp[hi]) λh' hit' hs'=>?_;exact hQ _ h' s.toks (by simp[hi]) ⟨hit',st.2.extBut hs'.extBut hne⟩ hs'
 done:=λs Q E st hE=>ZeC hh st.1 st.2 (by simp) hE
theorem Zfm(l:Y1)(items:Array Yh)(n:Nat)(dct:Option Y1)(sl:Array (Option Yh)):
  Meets (Builtin.«enumerate.__new__» ⟨[.type "enumerate",.ref l],[]⟩) (λ_ R s=>s.heap.get? l=Ya {cls:=.type "tuple",dict:=dct,data:=.seq items n,slots:=sl}/\
   R (.ok (.ret (.ref (s.heap.push {cls:=.type "tuple_iterator",data:=.fields #[.ref l,.int 0 0]}).objs.size)))
    {s with heap:=(s.heap.push {cls:=.type "tuple_iterator",data:=.fields #[.ref l,.int 0 0]}).push {cls:=.type "enumerate",data:=.fields #[.none,.bool false,.ref s.heap.objs.size,vf 0,.none,.none]}}):=
 .of_wp λprog w A R s h=>by
  obtain⟨hp,g,d,tk,os⟩:=s;obtain⟨hl,h⟩:=h;have hsub:=sub_enumerate;have hL:Heap.IsTuple (Shared.heap ⟨hp,g,d,tk,os⟩) l items:=⟨_,hl,rfl,n,rfl⟩
  wp_walk using qP hl
  refine Xc λst=>Yt ?_;split
  .rename_i c _ _ _ _ _;cases(c==Value.type "enumerate")
   .wp_walk using qP hl,HN hL
    exact⟨_,rfl,h⟩
   .wp_walk using qP hl,HN hL
    exact⟨_,rfl,h⟩
  .wp_walk using qP hl,HN hL
   exact⟨_,rfl,h⟩
theorem Zfk{l:Y1}(hL:s.heap.IsTuple l items)(h:∀h',xj h' (s.heap.objs.size+1) s.heap.objs.size 0 .none->h'.IsTupleIter s.heap.objs.size l 0->h'.objs.size=s.heap.objs.size+2 ->
   (∀b o,s.heap.get? b=Ya o->h'.get? b=Ya o)->Q (.ref (s.heap.objs.size+1)) {s with heap:=h'}):
  aq (aA prog w) A (call (.type "enumerate") [.ref l]) Q E s:=by
 obtain⟨⟨c,dct,dt,sl⟩,hl,hc,n,hd⟩:=hL;replace hc:c= .type "tuple":=hc;replace hd:dt= .seq items n:=hd;subst hc hd;refine callType_new YK (by decide) (F.typeCall_enumerate_1 _) (F.newCall_enumerate_1 _) (λobj=>F.args_object_init_2 obj _) YF
  (Zfm l items n dct sl) ⟨hl,?_⟩
 have hz:(s.heap.push {cls:=.type "tuple_iterator",data:=.fields #[.ref l,.int 0 0]}).objs.size=s.heap.objs.size+1:=xq ..;show _/\_;rw[hz];have he:xj ((s.heap.push {cls:=.type "tuple_iterator",data:=.fields #[.ref l,.int 0 0]}).push
   {cls:=.type "enumerate",data:=.fields #[.none,.bool false,.ref s.heap.objs.size,vf 0,.none,.none]}) (s.heap.objs.size+1) s.heap.objs.size 0 .none:=by
  have:=Y2 (s.heap.push {cls:=.type "tuple_iterator",data:=.fields #[.ref l,.int 0 0]})
   (o:={cls:=.type "enumerate",data:=.fields #[.none,.bool false,.ref s.heap.objs.size,vf 0,.none,.none]}) rfl
  rw[hz]at this;exact this
 refine⟨⟨_,he,rfl⟩,h _ he ⟨_,Yl _ (Y2 _ rfl),rfl,rfl⟩ (by rw[xq,hz]) λb o x=>Yl _ (Yl _ x)⟩
theorem ZmD{P:bF}{es:List Expr}{k:Nat}{pos:aV}(a e it:Y1)(hne:e≠it):
  Turn P w K (.Tuple es k pos) (Ite λH xs=>cG K H a xs) [e,it] e (λi h=>(∃old,xj h e it i old)/\h.IsTupleIter it a i)where
 mem:=by simp
 obj:=λi h st b hb=>by
  obtain⟨⟨old,he⟩,o,ho,c,d⟩:=st;simp only[Yo,pM,or_false]at hb;rcases hb with rfl|rfl
  .exact⟨_,he,λv z=>by cases z⟩
  .exact⟨o,ho,λv z=>by rw[d]at z;cases z⟩
 keep:=λi h h' st k=>by obtain⟨⟨old,he⟩,hit⟩:=st;exact⟨⟨old,k e (by simp) _ he⟩,hit.at λo q=>k it (by simp) o q⟩
 item:=by
  intro X hP hw hK hc i pins s σ H E I hf st hg;subst hP hw hK;obtain⟨xs,x,hq,hx⟩:=hg;obtain⟨its,rv,p,hz⟩:=I.tuple hq;obtain⟨u,hu,ru⟩:=rv.get hx;obtain⟨⟨old,he⟩,hit⟩:=st;have hel:=Y3 he;have hil:it<s.heap.objs.size:=by obtain⟨o,ho,_⟩:=id hit;exact Y3 ho
  have pt:s.heap.IsTuple a its.toArray:=p;have R7:e≠a:=by rintro rfl;obtain⟨o,ho,hc,_⟩:=pt;rw[he]at ho;cases ho;exact absurd hc (by simp)
  have hai:a≠it:=by rintro rfl;obtain⟨o,ho,hc,_⟩:=pt;obtain⟨o',ho',hc',_⟩:=hit;rw[ho']at ho;cases ho;rw[hc']at hc;exact absurd hc (by simp)
  have D:=Zlc (prog:=X.prog) (w:=X.w) (A:=X.A.in1) (I.ok.hd hc) it a hai its.toArray;refine WW D he ⟨hit,pt⟩ (by simpa using(Yf.mp hu).1) hne (by simp[hne,R7]) λy h' tk hy ho hst hT hsz hk=>?_;have ey:y=u:=by
   have:its.toArray[i]?=Ya u:=by simpa using hu
   rw[this]at hy;cases hy;rfl
  subst ey;refine⟨_,rfl,N6 (s:={s with heap:=h',toks:=tk+1}) ho λh'' Df hs''=>?_⟩;obtain⟨I2,n2⟩:=R6 (x:=x) (tk':=tk+1) I hf hel hil ru hT hk hs'';exact⟨.ref s.heap.objs.size,_,I2,rfl,⟨_,x,rfl,I.hok.fresh (Ys _),rfl,λys hy=>by rw[I.Mt hy hq];exact hx⟩,⟨⟨_,by simpa using Df⟩,hst.1.extBut hs''.extBut (cP hne)⟩,n2⟩
 done:=by
  intro X hP hw hK hc i pins s σ H E I hf st hg;subst hP hw hK;obtain⟨xs,hq,hx⟩:=hg;obtain⟨its,rv,p,hz⟩:=I.tuple hq;obtain⟨⟨old,he⟩,hit⟩:=st;have hl:=rv.length;have pt:s.heap.IsTuple a its.toArray:=p;have hT:s.TypeIs (.ref e) "enumerate":=⟨_,he,rfl⟩;unfold sO;refine Yg (wpAny_attempt (wW (name:=pW "__next__") hT Jc
   (uW Jc hT YB ?_ (X8 _))))
  show aq _ _ (field (.ref e) 2>>=_) _ _ _;refine Yg (sJ he rfl (x:=.ref it) rfl ?_);refine Yg (ZeC (I.ok.hd hc) hit pt (by simp;exact lC 2 2268279672881 T1 hl hx) λh' x he' hx'=>?_);obtain⟨o,ho,hc⟩:=hx';refine Yg (Xa (T:="StopIteration") (b:=true) ⟨o,ho,hc⟩ isSubtype_stop ?_);exact Yt ⟨rfl,I.G4 (t':=s.toks) (λb o hb q=>he' b o (λz=>hb (by simp[z])) q) hf⟩
 self:=λ_ _ _ _ _ st h=>by obtain⟨⟨old,he⟩,_⟩:=st;exact zA he h
section
variable {X:Cx} {es:List Expr} {k:Nat} {a:Expr} {p pos tpos:aV} {f:E3}
def Zts(K:Yb)(ta:TA):TI:=λσ H R=>ta σ H λvs H1=>∃b,vs=[.ref b]/\((∃xs,bC K H1 b xs/\R (Ite λH xs=>bC K H b xs) H1)\/∃xs,cG K H1 b xs/\R (Ite λH xs=>cG K H b xs) H1)
theorem Zr0{ta:TA}(hg:Gl X "enumerate")(hm:X.mg "enumerate" =Ym)(ha:PA X [a] ta)(hs:Yw [a] X.env=[(false,aG a X.env)]:=by rfl):PI X (.Tuple es k tpos) (.Call (.Name "enumerate" p) [a] [] pos) (Zts X.K ta):=by
 intro pins s σ H R I h;refine Call_ (xO I hg hm boot_enumerate (Pb (aF (ha pos pins s σ H _ I h) λus s1 ⟨vs,H1,I1,r1,q1⟩=>?_) hs rfl));obtain⟨b,e,q⟩:=q1;subst e;cases r1 with
 | cons r rr=>
  cases rr
  cases r
  have fp:∀{h':aO} {s2:Yk},∀c∈[s1.heap.objs.size+1,s1.heap.objs.size],iB X pins H1 c:=λ{h' s2} c hc=>by
   have hc':s1.heap.objs.size<=c:=by simp only[Yo,pM,or_false]at hc;rcases hc with rfl|rfl <;>omega
   exact I1.uI hc' (I1.hok.fresh hc')
  rcases q with⟨xs,hq,q⟩|⟨xs,hq,q⟩
  .obtain⟨its,rv,pl,hz⟩:=I1.list hq;refine call_enumerate_list pl.isList λh' hE hI hsz hk=>?_;have I2:Inv X pins σ H1 {s1 with heap:=h'}:=I1.kept (t':=s1.toks) hk;exact zA (s:={s1 with heap:=h'}) hE ⟨_,[s1.heap.objs.size+1,s1.heap.objs.size],_,_,H1,rfl,I2,ZmC b _ _ (O1 _),⟨⟨_,hE⟩,hI⟩,fp (h':=h') (s2:=s1),q⟩
  .obtain⟨its,rv,pl,hz⟩:=I1.tuple hq;refine Zfk (show s1.heap.IsTuple b its.toArray from pl) λh' hE hI hsz hk=>?_;have I2:Inv X pins σ H1 {s1 with heap:=h'}:=I1.kept (t':=s1.toks) hk;exact zA (s:={s1 with heap:=h'}) hE ⟨_,[s1.heap.objs.size+1,s1.heap.objs.size],_,_,H1,rfl,I2,ZmD b _ _ (O1 _),⟨⟨_,hE⟩,hI⟩,fp (h':=h') (s2:=s1),q⟩
theorem ZnZ(hm:X.mg "enumerate" =Ym)(h:C3 X a f)(hg:Gl X "enumerate":=by rfl)(hs:Yw [a] X.env=[(false,aG a X.env)]:=by rfl)(hs':Yw (a::[]) X.env=(false,aG a X.env)::Yw [] X.env:=by rfl):CIL X (.Tuple es k tpos) (.Call (.Name "enumerate" p) [a] [] pos) (Rf f):=
 PI.imp (Zr0 hg hm (Zc h Zg hs') hs) λσ H R ak=>by
  obtain⟨ι,M,env,S,E,h⟩:=ak;obtain⟨d,M1,e1,h⟩:=Bh.bind h;refine⟨ι,M,env,S,E,?_⟩;have e2:Zb f Zf env M= .ok [d] M1:=by unfold Zb;rw[e1];rfl
  rw[e2];intro vs H1 ι1 x1 S1 r1;obtain⟨v,ws,rfl,r,q⟩:=r1.cons_inv;have:=q.nil_inv;subst this;cases d with
  | tup ds=>
   obtain⟨b,vs,rfl,s,r⟩:=r.i_;refine⟨b,rfl,.inr ⟨vs,s,h _ H1 ι1 x1 S1 ?_⟩⟩;intro i H2 ι2 M2 x S2 _;refine⟨λd hd=>?_,λhl=>⟨vs,x.tup _ _ s,by rw[r.length,hl,JZ];exact Ys _⟩⟩;rw[JX]at hd;cases hq:ds[i]? with
   |none=>rw[hq]at hd;cases hd|some d0=>rw[hq]at hd;simp only[Ni,vp,Xu]at hd;subst hd;obtain⟨v,hv,rv⟩:=r.get hq;refine⟨⟨vs,v,x.tup _ _ s,hv⟩,λy H3 hy=>?_⟩;obtain⟨T,y',rfl,hT,rfl,hall⟩:=hy;have e:=hall vs (x.tup _ _ s);rw[hv]at e;cases e;exact S2.uJ hT (Zw.cons Rep.int (Zw.cons (rv.mono x) Zw.nil))
  | ref n=>
   cases hm:M1[n]? with
   |none=>simp only[hm]at h;exact h.elim|some o=>
    cases o with
    |dct kvs=>simp only[hm]at h;exact h.elim|cL kvs=>simp only[hm]at h;exact h.elim|ins _ _=>simp only[hm]at h;exact h.elim|lst ds=>
     simp only[hm]at h;obtain⟨b,ha,rfl⟩:=r.dJ;obtain⟨vs,q,r⟩:=S1.obj n _ b hm ha;refine⟨b,rfl,.inl ⟨vs,bC.of q,h _ H1 ι1 x1 S1 ?_⟩⟩;intro i H2 ι2 M2 x S2 lk;have FJ:M2[n]?=Ya (.lst ds):=by simpa[jt]using lk
     obtain⟨vs2,q2,r2⟩:=S2.obj n _ b FJ (x.pre _ _ ha);refine⟨λd hd=>?_,λhl=>⟨vs2,bC.of q2,by rw[r2.length,hl,JZ];exact Ys _⟩⟩;rw[JX]at hd;cases hq:ds[i]? with
     |none=>rw[hq]at hd;cases hd|some d0=>rw[hq]at hd;simp only[Ni,vp,Xu]at hd;subst hd;obtain⟨v,hv,rv⟩:=r2.get hq;refine⟨⟨vs2,v,bC.of q2,hv⟩,λy H3 hy=>?_⟩;obtain⟨T,y',rfl,hT,rfl,hall⟩:=hy;have e:=hall vs2 (bC.of q2);rw[hv]at e;cases e;exact S2.uJ hT (Zw.cons Rep.int (Zw.cons rv Zw.nil))
  |_=>exact h.elim
end
end L3
namespace L3
open PySem PySem.Spec PyProof.Rows L2
section
variable {X:Cx}
noncomputable def Kq:Yh->D
 | .int i _=>.int i|.bool b=>.bl b|.str x _=>.str x.cps.toList|_=>.non
theorem Zoc{K:Yb}{H:Hp}{ι:List Y1}{d:D}{v:V}{y:Yh}(hf:dh d=true)(r:Rep K H ι d v)(rv:RelV v y):Kq y=d:=by
 cases d with
 |non=>have:=r.jj;subst this;cases rv;rfl|bl b=>have:=r.gn;subst this;cases rv;rfl|int i=>have:=r.int_inv;subst this;obtain⟨t,rfl⟩:=rv;rfl|str x=>have:=r.str_inv;subst this;obtain⟨t,rfl⟩:=rv;rfl
 |_=>simp[dh]at hf
theorem ZnR{K:Yb}{H:Hp}{ι:List Y1}{a:D}:∀{ds:List D} {vs:List V} {its:List Yh},Zw K H ι ds vs->Vals vs its->ds.all dh=true->(ds.any λy=>dN y a)=its.any λy=>dN (Kq y) a
 |[],vs,its,r,rv,_=>by have:=r.nil_inv;subst this;cases rv;rfl|d::ds,vs,its,r,rv,hf=>by
  obtain⟨v,ws,rfl,r1,r2⟩:=r.cons_inv;cases rv with
  |cons q rv=>simp only[jG,Y5]at hf;simp only[kW,ZnR r2 rv hf.2,Zoc hf.1 r1 q]
theorem ZvK:aQ X (eV .In) (r2 X.K yg):=by
 intro pins s σ H x y v u Q I rx ry ⟨ι,M,a,b,S,ra,rb,h⟩;unfold yg at h;cases b with
 | ref n=>
  cases hn:M[n]? with
  |none=>simp only[hn]at h;exact h.elim|some ob=>
   cases ob with
   |dct _=>simp only[hn]at h;exact h.elim|cL _=>simp only[hn]at h;exact h.elim|ins _ _=>simp only[hn]at h;exact h.elim|lst ds=>
    simp only[hn]at h;by_cases hf:(dh a&&ds.all dh)=true
    .rw[if_pos hf]at h;rw[Y5]at hf;obtain⟨p,hp,rfl⟩:=rb.dJ;cases ry;obtain⟨vs,e1,r1⟩:=S.obj n _ p hn hp;obtain⟨its,rvs,pl,_⟩:=I.list (bC.of e1);have he:∀y,y∈its.toArray->sZ X.A.in1 s y v (dN (Kq y) a):=λy hy=>by
      have hy:y∈its:=by simpa using hy
      obtain⟨j,hj⟩:=Nv hy;have hjl:j<vs.length:=by rw[rvs.length];exact(Yf.mp hj).1
      obtain⟨w,hw,mO⟩:=rvs.get (Y9 hjl);rw[hj]at hw;cases hw;have hjd:j<ds.length:=by rw[←r1.length];exact hjl
      obtain⟨z,hz,rz⟩:=r1.get (Y9 hjd);rw[Y9 hjl]at hz;cases hz;have hfl:=gU.mp hf.2 _ (uQ hjd);rw[Zoc hfl rz mO];exact Rn X.A.in1 ds[j] a _ x y v hfl hf.1 rz ra mO rx
     refine Y_ (λy=>dN (Kq y) a) pl.isList he ⟨.bl (ds.any λy=>dN y a),H,I,?_,h _ H ι Ext.refl S Rep.bl⟩;show(.bool _:Yh)= .bool _;rw[ZnR r1 rvs hf.2];simp
    .rw[if_neg hf]at h;exact h.elim
 |_=>exact h.elim
end
section
variable {prog:bF} {w:bx} {A:bK} {E:Yh->Yk->Prop} {s:Yk}
theorem Zj4{it t:Y1}{items:Array Yh}(hne:t≠it):∀(n i:Nat) (s:Yk) (Q:List Yh->Yk->Prop),s.heap.IsListIter it t i->s.heap.IsList t items->i+n<=items.size ->
  (∀h',h'.IsListIter it t (i+n)->zM it s.heap h'->Q ((items.toList.drop i).take n) {s with heap:=h'})->aq (aA prog w) A (draw (.ref it) n) Q E s
 |0,i,s,Q,hit,_,_,hQ=>by show aq _ _ (pure []) Q E s;exact Yt (by simpa using hQ s.heap hit (Heap.SameBut.refl ..))|n+1,i,s,Q,hit,ht,hle,hQ=>by
  have hlt:i<items.size:=lC 1 2204024704001 T1 hle;show aq _ _ (sO (.ref it)>>=_) Q E s;refine Yg (WX hit ht (x:=items[i]) (by simp[hlt]) λh₁ MP F_=>?_);refine Yg (gY (Zj4 hne n (i+1) _ _ MP (ht.extBut F_.extBut hne) (lC 1 0x21a0cc02a1c0c01 T1 hle) λh₂ Abx hs₂=>Yt ?_));have hd:items.toList.drop i=items[i]::items.toList.drop (i+1):=by simp[zm,hlt]
  have:=hQ h₂ (by rw[show i+(n+1)=i+1+n by exact Y4 (lB 0 1790139547840 T1) (lB 0 0xa1c0c1a0cc0 T1)];exact Abx) (F_.trans hs₂);rw[hd,Wz]at this;exact this
theorem Zhg{t:Y1}{items:Array Yh}{Q:List Yh->Yk->Prop}(hh:A.handled=Ym)(ht:s.heap.IsList t items)(hQ:∀h',O4 s.heap.objs.size s.heap h'->Q items.toList {s with heap:=h'}):aq (aA prog w) A (unpackItems (.ref t) items.size Ym) Q E s:=by
 have hlt:t≠s.heap.objs.size:=by obtain⟨o,ho,_⟩:=ht;exact dz (Y3 ho)
 have hT:s.TypeIs (.ref t) "list":=by obtain⟨o,ho,hc,_⟩:=ht;exact⟨o,ho,hc⟩
 unfold unpackItems;refine Yg ?_
 .unfold notIterableAtAll;refine Yg (Oa hT F.slot_list_iter.lookup ?_);refine Yt ?_;simp only[zN,if_false];refine Yg (gY (uV ht ?_));have htp:(s.heap.push {cls:=.type "list_iterator",data:=.fields #[.ref t,.int 0 0]}).IsList t items:=ht.at λo e=>Yl _ e;refine Yg (gY (Zj4 hlt items.size 0 _ _ ⟨_,Y2 _ rfl,rfl,rfl⟩ htp (lA 0 3776 T1) λh₁ MP F_=>?_));have hall:List.take items.size (List.drop 0 items.toList)=items.toList:=by
   rw[HB];exact qM (by simp)
  rw[hall];rw[if_neg (by simp)];have ht₁:h₁.IsList t items:=htp.extBut F_.extBut hlt;refine Yg (gY (W2 hh MP ht₁ (by simp) λh₂ he₂=>?_));simp only[Option.isSome_none,zN,if_false];refine Yt (hQ h₂ λb o hb e=>he₂ b o hb (F_.extBut b o hb (Yl _ e)))
theorem Zgw{env:eY}{elts:List Expr}{x1}{pos:aV}{t:Y1}{items:Array Yh}{Q:Unit->Yk->Prop}(hh:A.handled=Ym)(ht:s.heap.IsList t items)(hn:(jm elts env).length=items.size)(hstar:(jm elts env).findIdx? (·.1)=Ym)(h:∀h',O4 s.heap.objs.size s.heap h'->aq (aA prog w) A (assignInOrder ((jm elts env).map (·.2)) items.toList) Q E {s with heap:=h'}):
  aq (aA prog w) A (jn (.Tuple elts x1 pos) env (.ref t)) Q E s:=by
 rw[assign_Tuple];refine Yg (uX ?_);unfold unpack;rw[hn,hstar];exact Yg (gY (Zhg hh ht h))
end
section
variable {X:Cx} {e:Expr} {es:List Expr} {pos:aV} {f:E3}
def Zxc(K:Yb)(n:Nat)(t:p6):TG:=λv σ H Q=>∃a xs,v= .ref a/\bC K H a xs/\xs.length=n/\t xs σ H Q
theorem Zti{k:Nat}{t:p6}{n:Nat}(hc:X.calm=true)(h:p7 X es t)(hn:(jm es X.env).length=n:=by rfl)(hst:(jm es X.env).findIdx? (·.1)=Ym:=by rfl):PG X (.Tuple es k pos) (Zxc X.K n t):=by intro pins s σ H v u Q I r hw;obtain⟨a,xs,e1,hq,hl,hw⟩:=hw;subst e1;cases r;obtain⟨its,rv,ht,hz⟩:=I.list hq;refine Zgw (I.ok.hd hc) ht.isList (by simp[hn,←hl,rv.length]) hst λh' hx=>?_;have I1:Inv X pins σ H {s with heap:=h'}:=I.kept (t':=s.toks) λb o e=>hx b o (dz (Y3 e)) e;exact h pins _ σ H xs _ Q I1 (by simpa using rv) hw
theorem Zln:∀(is:List Nat) (ds:List D) (env env':bL),bindAll is ds env=Ya env'->ds.length=is.length:=by
 intro is
 induction is with
 |nil=>intro ds env env' h;cases ds with|nil=>rfl|cons d ds=>cases h
 |cons i is ih=>intro ds env env' h;cases ds with|nil=>cases h|cons d ds=>simp[ih ds _ _ h]
theorem R8{is:List Nat}{k:Nat}{tpos:aV}(hc:X.calm=true)(he:C3 X e f)(h:Fz X es is)(hs:Od [.Tuple es k tpos] e pos.line X.env=pure false:=by rfl)(hw:Oe [.Tuple es k tpos] e X.env=pure Ym:=by rfl)(h1:(jm [.Tuple es k tpos] X.env).map (·.2)=[jn (.Tuple es k tpos) X.env]:=by rfl)(hn:(jm es X.env).length=is.length:=by rfl)(hst:(jm es X.env).findIdx? (·.1)=Ym:=by rfl):CS X (.Assign [.Tuple es k tpos] e pos) (qg f is):=
 (Zp3 he (Zti (n:=is.length) hc h hn hst) hs hw h1).imp λD σ H ak=>by
 obtain⟨ι,M,env,S,E,hh⟩:=ak;refine⟨ι,M,env,S,E,?_⟩;unfold qg at hh;cases q:f env M with
 |exc x M1=>rw[q]at hh;exact hh.elim|bad=>rw[q]at hh;exact hh.elim|ok d M1=>
  rw[q]at hh;cases d with
  | ref n=>
   simp only at hh;cases hm:M1[n]? with
   |none=>simp only[hm]at hh;exact hh.elim|some o=>
    cases o with
    |dct _=>simp only[hm]at hh;exact hh.elim|cL _=>simp only[hm]at hh;exact hh.elim|ins _ _=>simp only[hm]at hh;exact hh.elim|lst ds=>
     simp only[hm]at hh;cases qb:bindAll is ds env with
     |none=>simp only[qb]at hh;exact hh.elim|some dg=>simp only[qb]at hh;intro v H1 ι1 x1 S1 r1;obtain⟨a,ha,rfl⟩:=r1.dJ;obtain⟨vs,hv,rv⟩:=S1.obj n _ a hm ha;exact⟨a,vs,rfl,bC.of hv,by rw[rv.length];exact Zln _ _ _ _ qb,ι1,M1,env,ds,dg,S1,E.mono x1,rv,qb,λσ' E'=>hh σ' H1 ι1 x1 S1 E'⟩
  |_=>exact hh.elim
end
open AutoSeq1 (wpAny_loadPart')
set_option maxRecDepth 100000
theorem Zgg(l:Y1)(items:Array Yh)(n:Nat)(b:Y1)(items2:Array Yh)(n2:Nat)(sl:Array (Option Yh))(hl:¬(!items.isEmpty&&zT (items.size+items2.size))=true)(hz:items.size<=bw)(hz2:items.size+items2.size<=bw+1):
  Meets (Builtin.«list.extend» ⟨[.ref l,.ref b],[]⟩) (λ_ R s=>s.heap.get? l=Ya {cls:=.type "list",data:=.seq items n}/\s.heap.get? b=Ya {cls:=.type "tuple",data:=.seq items2 n2,slots:=sl}/\
   R (.ok (.ret .none)) {s with heap:=s.heap.update l (xH λx=>x++items2)}):=
 .of_wp λprog w A R s h=>by
  obtain⟨hp,g,d,tk,os⟩:=s;obtain⟨h1,h2,h⟩:=h
  wp_walk using qP h1,qP h2
  rw[show(xH (λx=>x++items2) {cls:=Value.type "list",data:=Data.seq items n}).data.pastItsLine=Ym by show(if(items++items2).size>bw+1 then Ya "sequence:memory" else Ym)=Ym;rw[if_neg (by rw[Array.size_append];exactλz=>lC 2 0x6a0c21c0121ca0c11 T1 z hz2)]];exact Yt (Yt ⟨_,rfl,h⟩)
section
variable {X:Cx} {o e:Expr} {es:List Expr} {apos cpos:aV} {f:E3} {gl:d9}
noncomputable def ZlU(K:Yb):V->List V->Hp->VK->Prop:=λx vs H Q=>∃l b xs zs,x= .ref l/\vs=[.ref b]/\H l=Ya (.lst xs)/\cG K H b zs/\xs.length+zs.length<=bw/\Q .non (upd H l (.lst (xs++zs)))
theorem Zm5:jM X "list.extend" (ZlU X.K):=by
 intro pins s σ H x vs v us Q I rx rv h;obtain⟨l,b,xs,zs,rfl,rfl,hH,hB,hz,q⟩:=h;cases rx;obtain⟨u,rfl,ru⟩:=rv.one;cases ru;obtain⟨z,its,n,r,hl,e⟩:=I.rT hH;obtain⟨its2,r2,⟨⟨c,dc,dt,sl⟩,e2,⟨hc,hd⟩,n2,hs⟩,z2⟩:=I.Aa4 hB;replace hc:c= .type "tuple":=hc;replace hd:dc=Ym:=hd;replace hs:dt= .seq its2.toArray n2:=hs;subst hc hd hs;have hl2:=r2.length;have hsz:its.toArray.size+its2.toArray.size<=bw:=by rw[Yn,Yn];exact lE 3 0x413c0402c0132311031 T1 hl2 hl hz
 have C_:¬(!its.toArray.isEmpty&&zT (its.toArray.size+its2.toArray.size))=true:=by rw[QR hsz,xu];exact k_
 refine pO YJ ⟨_,e,rfl⟩ YH (YG _ _)
  (Zgg l its.toArray n b its2.toArray n2 sl C_ (by rw[Yn];exact lC 2 2268279672881 T1 hl z) (lC 1 0xa2c10c0210c01 T1 hsz)) ⟨e,e2,?_⟩
 refine⟨.non,_,I.Dd (its':=its++its2) hH e (by simp) (r.append r2) ?_,rfl,q⟩;rw[Ye];exact hz
theorem ZqE:jM X "list.extend" (rM X.K o6):=jM.imp (r:=λx xs H Q=>Zop x xs H Q\/ZlU X.K x xs H Q) (λpins s σ H x xs v us Q I rx rs q=>q.elim (ZoG pins s σ H x xs v us Q I rx rs) (Zm5 pins s σ H x xs v us Q I rx rs)) λx xs H Q ak=>by
 obtain⟨ι,M,a,ds,S,ra,rd,h⟩:=ak;cases a with
 | ref n=>
  cases ds with
  |nil=>exact h.elim|cons d ds=>
   cases ds with
   |cons _ _=>cases d<;>exact h.elim|nil=>
    obtain⟨v,ws,rfl,r1,r2⟩:=rd.cons_inv;have:=r2.nil_inv;subst this;obtain⟨p,hp,rfl⟩:=ra.dJ;cases hn:M[n]? with
    |none=>cases d<;>first|exact h.elim|(rw[Aw,hn]at h;exact h.elim)|(rw[Ax,hn]at h;exact h.elim)
    | some o=>
     cases o with
     |dct _=>cases d<;>first|exact h.elim|(rw[Aw,hn]at h;exact h.elim)|(rw[Ax,hn]at h;exact h.elim)
     |cL _=>cases d<;>first|exact h.elim|(rw[Aw,hn]at h;exact h.elim)|(rw[Ax,hn]at h;exact h.elim)
     |ins _ _=>cases d<;>first|exact h.elim|(rw[Aw,hn]at h;exact h.elim)|(rw[Ax,hn]at h;exact h.elim)
     | lst z=>
      obtain⟨vs,e,rv⟩:=S.obj n _ p hn hp;cases d with
      | tup y=>
       simp only[Aw,Ax,hn]at h;split at h
       .rename_i hz;obtain⟨b,ys,rfl,sb,ry⟩:=r1.i_;obtain⟨x2,S2⟩:=S.uK (.inr (.inl ⟨_,e⟩)) hp (rv.append ry);exact .inr ⟨p,b,vs,ys,rfl,rfl,e,sb,by rw[rv.length,ry.length];exact Yj hz (Xl (Il jD)),h _ _ _ x2 S2 Rep.non⟩
       .exact h.elim
      | ref m=>
       simp only[Aw,Ax,hn]at h;cases hm:M[m]? with
       |none=>simp only[hm]at h;exact h.elim|some o2=>
        cases o2 with
        |dct _=>simp only[hm]at h;exact h.elim|cL _=>simp only[hm]at h;exact h.elim|ins _ _=>simp only[hm]at h;exact h.elim|lst y=>
         simp only[hm]at h;split at h
         .rename_i hz;obtain⟨b,hb,rfl⟩:=r1.dJ;obtain⟨ys,eb,ry⟩:=S.obj m _ b hm hb;obtain⟨x2,S2⟩:=S.uK (.inr (.inl ⟨_,e⟩)) hp (rv.append ry);exact .inl ⟨p,b,vs,ys,rfl,rfl,e,eb,by rw[rv.length,ry.length];exact Yj hz.2 (Xl (Il jD)),h _ _ _ x2 S2 Rep.non⟩
         .exact h.elim
      |_=>exact h.elim
 |_=>cases ds<;>exact h.elim
theorem ZgY(ho:C3 X o f)(ha:CA X (e::es) gl)(hbase:mH o "extend" X.env (aG o X.env)=aG o X.env:=by rfl)(hfew:((b7 cpos (Yw (e::es) X.env)).all (λx=>!x.1)&&(iU cpos (iR [] X.env)).all (λx=>x.1.isSome)
   &&decide ((e::es).length+([]:List Keyword).length+(if([]:List Keyword).isEmpty then 0 else 1)<30))=true:=by rfl)(hline:(apos.endLine==cpos.line)=true:=by rfl)(hs:Yw (e::es) X.env=(false,aG e X.env)::Yw es X.env:=by rfl)(hplain:(b7 cpos (Yw es X.env)).any (·.1)=false:=by rfl):
  C3 X (.Call (.Attribute o "extend" apos) (e::es) [] cpos) (aH bf o6 f gl):=
 (Ad Pq PySem.F.slot_list_extend PySem.F.type_list_extend ZqE ho ha hbase hfew hline hs hplain).imp (Bd RQ)
theorem ZsC{K:Yb}{T:String}{ty:D->Store->Bool}{m:D->List D->Store->R3 D}(hty:∀H ι M a x,aD K H ι M->Rep K H ι a x->ty a M=true->xT K T x H)(σ:St)(H:Hp)(Q:VK)(h:lY K (aH ty m f Zf) σ H Q):Zwo K T (rM K m) (lY K f) σ H Q:=by
 obtain⟨ι,M,env,S,E,h⟩:=h;obtain⟨a,M1,e1,h⟩:=Zt.bind h;refine⟨ι,M,env,S,E,?_⟩;rw[e1];intro v H1 ι1 x1 S1 r1;by_cases ht:ty a M1=true
 .rw[if_pos ht]at h;exact⟨hty _ _ _ _ _ S1 r1 ht,ι1,M1,a,[],S1,r1,Zw.nil,h.up x1⟩
 .rw[if_neg ht]at h;exact h.elim
theorem Kr(ho:C3 X o f)(hbase:mH o "pop" X.env (aG o X.env)=aG o X.env:=by rfl)(hline:(apos.endLine==cpos.line)=true:=by rfl):C3 X (.Call (.Attribute o "pop" apos) [] [] cpos) (aH bf oZ f Zf):=(ZtP Pq PySem.F.slot_list_pop PySem.F.type_list_pop ZvI ho hbase hline).imp (ZsC RQ)
end
end L3
namespace L3
open PySem PySem.Spec PyProof.Rows L2
set_option maxRecDepth 100000
section
variable {X:Cx} {elt tg iter:Expr} {ifs:List Expr} {scope:Scope} {pos:aV} {i:ye} {own:Nat} {g:G3} {ts:List E3} {f:E3} {N':List aj}
theorem ZhG{pins:List (Y1×aM)}{σ:St}{s2:Yk}{H2:Hp}{ι2:List Y1}{M2:Store}{env:bL}{it:Y1}{fp:List Y1}{tn:Nat->aO->Prop}{J:It}{aU:Fq}{Q:VK}{E:Yh->Yk->Prop}(O:vZ X scope N' own)(hc:X.calm=true)(hb:∀C cl s H ex,CG (eG X scope N' C cl s H ex) tg g/\pA (eG X scope N' C cl s H ex) ifs ts/\C3 (eG X scope N' C cl s H ex) elt f)(I2:Inv X pins σ H2 s2)(T:Turn X.prog X.w X.K tg J fp it tn)(st0:tn 0 s2.heap)(hfp:∀b∈fp,iB X pins H2 b)(S2:aD X.K H2 ι2 M2)(E2:b_ X.K H2 ι2 env σ)(ok:Ko X.K H2 ι2 aU J)(h:Zt X.K H2 ι2 Q (ju aU.lk g ts f M2.length aU.items (env++Yq own Ym) (M2++[.lst []])))(RR:Yh->Y1->sS->Yk->Prop)(fin:∀(acc C:Y1) (s':Yk) (m:aj->Option Yh) (H':Hp),s'.heap.Ns C m->iB X pins H' C->Inv X pins σ H' s'->Q (.ref acc) H'->RR (.ref acc) C (.ok .next) s'):
  aq (aA X.prog X.w) X.A (Ik []) (λacc s₃=>aq (aA X.prog X.w) X.A (Oc scope X.env.globals (fZ X.env.cells scope.names []) [] X.env.qual Ym .none (Ya X.env)) (λcenv s₄=>mJ (aA X.prog X.w) X.A (.compStart (.ListComp elt [⟨tg,iter,ifs,0⟩] scope pos) 0 (.ref it) acc {cenv with scope:=u9 scope X.env}) (RR acc cenv.locals) s₄) E s₃) E s2:=by
 refine sI ?_;have hD:H2 s2.heap.objs.size=Ym:=I2.hok.fresh (Ys _);obtain⟨x3,S3,r3⟩:=S2.lst hD (Zw.nil (K:=X.K) (H:=H2) (ι:=ι2));have I3:Inv X pins σ (upd H2 s2.heap.objs.size (.lst [])) {s2 with heap:=s2.heap.push {cls:=.type "list",data:=.seq ([]:List Yh).toArray}}:=I2.laid (t':=s2.toks) (λb u e=>Yl _ e) (Ys _) ⟨eZ _,[],0,.nil,Y2 _ rfl⟩;generalize hs3:({s2 with heap:=s2.heap.push {cls:=.type "list",data:=.seq ([]:List Yh).toArray}}:Yk)=s3 at I3 ⊢;have wM:∀b o,s2.heap.get? b=Ya o->s3.heap.get? b=Ya o:=λb o e=>by rw[←hs3];exact Yl _ e
 have mC:∀b∈fp,iB X pins (upd H2 s2.heap.objs.size (.lst [])) b:=λb hb=>by refine⟨?_,(hfp b hb).2⟩;obtain⟨o,e,_⟩:=T.obj _ _ st0 b hb;rw[fK (dz (Y3 e))];exact(hfp b hb).1
 have uM:∀b∈fp,b<s3.heap.objs.size:=λb hb=>by obtain⟨o,e,_⟩:=T.obj _ _ st0 b hb;exact Y3 (wM b o e)
 have st3:tn 0 s3.heap:=T.keep _ _ _ st0 λb hb o e=>wM b o e;refine W5 O.cell (by intro y hy;cases hy) (λh4 hns hsb=>?_) O.kind;have CZ:∀b o,s3.heap.get? b=Ya o->h4.get? b=Ya o:=λb o e=>hsb.extBut b o (dz (Y3 e)) (Yl _ e);have I4:=Zle (own:=own) (N':=N') (tk:=s3.toks+([]:List (aj×Yh)).length) I3 O.kind O.cell O.free O.len O.vis mC uM hns CZ;have FZ:tn 0 h4:=T.keep _ _ _ st3 λb hb o e=>CZ b o e;have MT:∀{H':Hp},(∀b∈fp,H' b=Ym)->∀b∈fp,iB (eG X scope N' s3.heap.objs.size (fZ X.env.cells scope.names []) s3 (upd H2 s2.heap.objs.size (.lst [])) fp) [] H' b:=λhn b hb=>by have hc0:∀y∈scope.names,y.2= .free->∃c,X.env.cells.lookup y.1=Ya c:=λy hy e=>I2.ok.has y.1 (O.free y hy e);refine⟨hn b hb,dz (uM b hb),λhz=>I4.ok.y_ b hb hz,.inl hb,λx c hx=>(I4.ok.Js b hb).2 x c hx,λp hp=>absurd (show p∈([]:List (Y1×aM))from hp) (by simp)⟩
 obtain ⟨hg,hts,helt⟩:=hb s3.heap.objs.size (fZ X.env.cells scope.names []) s3 (upd H2 s2.heap.objs.size (.lst [])) fp;have loop:∀s₄:Yk,s₄={s3 with heap:=h4,toks:=s3.toks+([]:List (aj×Yh)).length} ->
   mJ (aA X.prog X.w) X.A (.compLoop (.ListComp elt [⟨tg,iter,ifs,0⟩] scope pos) 0 (.ref it) (.ref s2.heap.objs.size) (Dw scope (fZ X.env.cells scope.names []) s3.heap.objs.size X.env)) (RR (.ref s2.heap.objs.size) s3.heap.objs.size) s₄:=by
  rintro s₄ rfl;refine ZgZ (λn s'=>∃k σ5 H5 ι5 M5 rW,Inv (eG X scope N' s3.heap.objs.size (fZ X.env.cells scope.names []) s3 (upd H2 s2.heap.objs.size (.lst [])) fp) [] σ5 H5 s'/\tn k s'.heap/\(∀b∈fp,H5 b=Ym)/\n=aU.items.length-k/\k<=aU.items.length/\
   Ext X.K H2 ι2 H5 ι5/\aD X.K H5 ι5 M5/\b_ X.K H5 ι5 rW σ5/\ι5[M2.length]?=Ya s2.heap.objs.size/\Zt X.K H5 ι5 Q (ju aU.lk g ts f M2.length (aU.items.drop k) rW M5)) ?_ aU.items.length
   ⟨0,_,_,_,_,_,I4,FZ,λb hb=>(mC b hb).1,rfl,eZ _,x3,S3,(E2.mono x3).grow own,?_,h.up x3⟩
  .rintro n s5 ⟨k,σ5,H5,ι5,M5,rW,I5,lu,oW,rfl,hk,x5,S5,E5,hι,h5⟩;by_cases hlt:k<aU.items.length
   .have hd:aU.items[k]?=Ya aU.items[k]:=by simp[hlt]
    rw[zm hlt]at h5;unfold ju at h5;by_cases lk:jt aU.lk M5=true
    .rw [if_pos lk]at h5;obtain⟨go,yl⟩:=(ok k H5 ι5 M5 x5 S5 lk).1 _ hd;cases eg:g aU.items[k] rW with
     |none=>rw[eg]at h5;exact h5.elim|some rY=>
      rw[eg]at h5;refine aF (T.item (eG X scope N' s3.heap.objs.size (fZ X.env.cells scope.names []) s3 (upd H2 s2.heap.objs.size (.lst [])) fp) rfl rfl rfl hc k [] s5 σ5 H5 (λ_ _=>False) I5 (MT oW) lu go) λr s6 ak=>?_;obtain⟨u,hr,h6⟩:=ak;subst hr;refine aF h6 λ_ s7 ak=>?_;obtain⟨x,H7,I7,r7,y7,kj,Kg⟩:=ak;obtain⟨y8,S7,rx⟩:=yl x H7 y7;have I7':=I7.pinned (MT Kg) (T.obj _ _ kj);refine aF (hg _ s7 σ5 H7 x u (λσ' H'=>H'=H7/\b_ X.K H7 ι5 rY σ') I7' r7 ⟨ι5,M5,rW,_,rY,S7,E5.mono y8,rx,eg,λσ' E'=>⟨rfl,E'⟩⟩) λ_ s8 ak=>?_;obtain⟨σ8,H8,I8,e8,E8⟩:=ak;subst e8;replace h5:=Zt.up y8 h5;replace x5:=x5.trans y8;replace S5:=S7;have back:∀{σ':St} {H':Hp} {s':Yk},Inv (eG X scope N' s3.heap.objs.size (fZ X.env.cells scope.names []) s3 (upd H2 s2.heap.objs.size (.lst [])) fp) ([]++tH fp s7.heap) σ' H' s' ->
        Inv (eG X scope N' s3.heap.objs.size (fZ X.env.cells scope.names []) s3 (upd H2 s2.heap.objs.size (.lst [])) fp) [] σ' H' s'/\tn (k+1) s'.heap/\∀b∈fp,H' b=Ym:=λ{σ' H' s'} I'=>by
       refine⟨I'.CV,T.keep _ _ _ kj λb hb o e=>(I'.pin (b,o) (Y6 _ (Y6 _ (zZ hb e)))).1,λb hb=>?_⟩;obtain⟨o,e,d⟩:=T.obj _ _ kj b hb;exact(I'.pin (b,o) (Y6 _ (Y6 _ (zZ hb e)))).2.1
      obtain⟨b,M9,e9,h9⟩:=Zt.bind h5;refine aF (hts _ s8 σ8 H8 (λb' H'=>b'=b/\∃ι9,Ext X.K H8 ι5 H' ι9/\aD X.K H' ι9 M9) I8 ⟨ι5,M5,rY,S5,E8,by rw[e9];exactλH' ι' x' S'=>⟨rfl,ι',x',S'⟩⟩) λb' s9 ak=>?_;obtain⟨H9,I9,eb,ι9,x9,S9⟩:=ak;subst eb;cases b' with
      |false=>rw[if_neg (by decide)]at h9 ⊢;obtain⟨I9',st9,fr9⟩:=back I9;exact⟨aU.items.length-(k+1),lD 2 0x30113c2012a1c0c21 T1 (gZ (lB 1 6991908881 T1 hlt)) (g8 _ _),k+1,σ8,H9,ι9,M9,rY,I9',st9,fr9,rfl,hlt,x5.trans x9,S9,E8.mono x9,x9.pre _ _ hι,h9.up x9⟩|true=>
       rw[if_pos rfl]at h9 ⊢;obtain⟨d,FW,e10,h10⟩:=Zt.bind h9;refine aF (helt _ s9 σ8 H9 (λv H'=>∃ql,Ext X.K H9 ι9 H' ql/\aD X.K H' ql FW/\Rep X.K H' ql d v) I9 ⟨ι9,M9,rY,S9,E8.mono x9,by rw[e10];exactλv H' ι' x' S' r'=>⟨ι',x',S',r'⟩⟩) λxv Ke ak=>?_;obtain⟨v,RD,RG,r10,ql,x10,Kf,rd⟩:=ak;have M7:ql[M2.length]?=Ya s2.heap.objs.size:=x10.pre _ _ (x9.pre _ _ hι);cases hm:FW[M2.length]? with
       |none=>rw[hm]at h10;exact h10.elim|some o=>
        cases o with
        |dct _=>rw[hm]at h10;exact h10.elim|cL _=>rw[hm]at h10;exact h10.elim|ins _ _=>rw[hm]at h10;exact h10.elim|lst xs=>
         rw[hm]at h10;by_cases hz:xs.length<SZ
         .simp only[if_pos hz]at h10;obtain⟨vs,ev,rvs⟩:=Kf.obj _ _ _ hm M7;obtain⟨x11,RB⟩:=Kf.uK (.inr (.inl ⟨_,ev⟩)) M7 (rvs.append (Zw.cons rd Zw.nil));refine aF (QS _ Ke σ8 RD (.ref s2.heap.objs.size) [v] (.ref s2.heap.objs.size) [xv] (λ_ H'=>H'=upd RD s2.heap.objs.size (.lst (vs++[v]))) RG rfl (.cons r10 .nil) ⟨_,vs,v,rfl,rfl,ev,by rw[rvs.length];exact Y7 hz jD,rfl⟩) λ_ Kc ak=>?_;obtain⟨_,H11,Kd,_,eH⟩:=ak;subst eH;obtain⟨Aby,Abz,AbA⟩:=back Kd;exact⟨aU.items.length-(k+1),lD 2 0x30113c2012a1c0c21 T1 (gZ (lB 1 6991908881 T1 hlt)) (g8 _ _),k+1,σ8,_,ql,_,rY,Aby,Abz,AbA,rfl,hlt,((x5.trans x9).trans x10).trans x11,RB,((E8.mono x9).mono x10).mono x11,M7,((h10.up x9).up x10).up x11⟩
         .simp only[if_neg hz]at h10;exact h10.elim
    .rw[if_neg lk]at h5;exact h5.elim
   .have e0:k=aU.items.length:=Y4 hk (jJ hlt);subst e0;rw[NK]at h5;unfold ju at h5;by_cases lk:jt aU.lk M5=true
    .rw[if_pos lk]at h5;refine aF (T.done (eG X scope N' s3.heap.objs.size (fZ X.env.cells scope.names []) s3 (upd H2 s2.heap.objs.size (.lst [])) fp) rfl rfl rfl hc _ [] s5 σ5 H5 (λ_ _=>False) I5 (MT oW) lu ((ok _ H5 ι5 M5 x5 S5 lk).2 rfl)) λr s6 ak=>?_;obtain⟨hr,I6⟩:=ak;subst hr;obtain⟨m6,RJ,_⟩:=I6.loc;have I7:Inv X pins σ H5 s6:=I3.call' (ch:=fp) I6.os I6.base I6.hok I6.bare λb hb=>⟨(mC b hb).2.2.2.1,(mC b hb).2.1,(mC b hb).2.2.2.2.1,(mC b hb).2.2.2.2.2⟩;exact fin _ _ s6 m6 H5 RJ (I3.uI (Ys _) I6.free) I7 (h5 _ H5 ι5 Ext.refl S5 (Rep.ref hι))
    .rw[if_neg lk]at h5;exact h5.elim
  .rw[←S2.len];simp
 exact WY (loop _ rfl) (T.self _ 0 _ _ _ FZ (loop _ rfl))
theorem Zwz(O:vZ X scope N' own)(yp:X.xe=λ_ _=>False)(hc:X.calm=true)(hi:CIL X tg iter i)(hb:∀C cl s H ex,CG (eG X scope N' C cl s H ex) tg g/\pA (eG X scope N' C cl s H ex) ifs ts/\C3 (eG X scope N' C cl s H ex) elt f)(hs:∀x,zy iter X.env x=pure x:=by intro _;rfl):C3 X (.ListComp elt [⟨tg,iter,ifs,0⟩] scope pos) (vN i own g ts f):=by intro pins s σ H Q I h;obtain⟨ι,M,env,S,E,h⟩:=h;obtain⟨aU,M1,e1,h⟩:=Zt.bind h;have hc0:∀y∈scope.names,y.2= .free->∃c,X.env.cells.lookup y.1=Ya c:=λy hy e=>I.ok.has y.1 (O.free y hy e);rw[eval_ListComp];refine HF (use:=Ym) rfl hs (J9 hc0) O.kind O.names ?_;refine aF (hi pins s σ H (λJ H'=>∃ι',Ext X.K H ι H' ι'/\aD X.K H' ι' M1/\Ko X.K H' ι' aU J) I ⟨ι,M,env,S,E,by rw[e1];exactλJ H' ι' x S' o=>⟨ι',x,S',o⟩⟩) λv s1 h1=>aF h1 λitv s2 h2=>?_;obtain⟨it,fp,tn,J,H2,rfl,I2,T,st2,f2,ι2,x2,S2,ok⟩:=h2;refine ZhG (own:=own) (g:=g) (ts:=ts) (f:=f) O hc hb I2 T st2 f2 S2 (E.mono x2) ok (h.up x2) (λacc C=>Ib (aA X.prog X.w) X.A X.xe Ym (EP X pins σ Q) acc C) ?_;intro acc C s' m H' hn hf I' hq;obtain⟨f0,f1,RK,f3,f4,f5⟩:=hf;exact⟨m,hn,λh' sb=>⟨.ref acc,H',I'.turned (t':=s'.toks) (λb o hb e=>(sb.2 b hb).trans e) f0 f1 f3 f4 f5,rfl,hq⟩⟩
theorem ZjW(j:Nat){x:aj}{pos' spos:aV}(O:vZ X scope N' own)(yp:X.xe=λ_ _=>False)(hc:X.calm=true)(hN:X.N.Nodup)(hi:CIL X tg iter i)(hb:∀C cl s H ex,CG (eG X scope N' C cl s H ex) tg g/\pA (eG X scope N' C cl s H ex) ifs ts/\C3 (eG X scope N' C cl s H ex) elt f)(hj:X.N[j]?=Ya x:=by rfl)(hx:Loc X.env.scope x:=by first|exact Or.inl rfl|exact Or.inr rfl)(hf:X.fn x=true\/X.env.scope.names.lookup x=Ya .local:=by first|exact .inl rfl|exact .inr rfl)(hsw:u0 (.ListComp elt [⟨tg,iter,ifs,0⟩] scope pos) (Ya (.Name x pos')) spos.line X.env=pure true:=by rfl)(hs:∀x,zy iter X.env x=pure x:=by intro _;rfl):CS X (.Assign [.Name x pos'] (.ListComp elt [⟨tg,iter,ifs,0⟩] scope pos) spos) (au j (vN i own g ts f)):=by
 intro pins s σ H D I h;obtain⟨ι,M,env,S,E,h⟩:=h;have h0:Zt X.K H ι (λv H'=>D.nx (σ.set j (Ya v)) H') (vN i own g ts f env M):=by
  unfold au at h;cases q:vN i own g ts f env M with
  |ok d M1=>rw[q]at h;exactλv H1 ι1 x1 S1 r1=>h _ H1 ι1 x1 S1 ((E.mono x1).set j r1)|exc _ _=>rw[q]at h;exact h.elim|bad=>rw[q]at h;exact h.elim
 obtain⟨aU,M1,e1,h1⟩:=Zt.bind h0;have hc0:∀y∈scope.names,y.2= .free->∃c,X.env.cells.lookup y.1=Ya c:=λy hy e=>I.ok.has y.1 (O.free y hy e);rw[W3 _ _ _ _ hsw];refine Yg (uX (Yg ?_));show aq _ X.A (do let _ ←comprehension (.ListComp elt [⟨tg,iter,ifs,0⟩] scope pos) scope X.env _ (Ik []) false (aG iter X.env) (Ya (jn (.Name x pos') X.env))) _ _ s;refine Yg (jz (HF (use:=Ya (jn (.Name x pos') X.env)) (Q:=λ_ s'=>SP X pins D .next s') rfl hs (J9 hc0) O.kind O.names ?_) (λ_ s' hq=>Yt (Yt hq)) λ_ _ e=>e);refine aF (hi pins s σ H (λJ H'=>∃ι',Ext X.K H ι H' ι'/\aD X.K H' ι' M1/\Ko X.K H' ι' aU J) I ⟨ι,M,env,S,E,by rw[e1];exactλJ H' ι' x S' o=>⟨ι',x,S',o⟩⟩) λv s1 h1'=>aF h1' λitv s2 h2=>?_;obtain⟨it,fp,tn,J,H2,rfl,I2,T,st2,f2,ι2,x2,S2,ok⟩:=h2;refine ZhG (own:=own) (g:=g) (ts:=ts) (f:=f) O hc hb I2 T st2 f2 S2 (E.mono x2) ok (h1.up x2) (λacc C=>Ib (aA X.prog X.w) X.A X.xe (Ya (jn (.Name x pos') X.env)) (λ_ s'=>SP X pins D .next s') acc C) ?_;intro acc C s' m H' hn RL I' hq;obtain⟨f0,f1,RK,f3,f4,f5⟩:=RL;show aq _ X.A (jn (.Name x pos') X.env (.ref acc)) _ _ s';refine N7 (Qq I' hN hj hx (show RelV (.ref acc) (.ref acc)from rfl) (λs'' RM ⟨a,sb,ha⟩=>?_) hf);have RN:C≠a:=by
  rcases ha with rfl|ha
  .exact f1
  .exact cP (f4 x a ha)
 exact⟨m,hn.sameBut sb RN,λh' RP=>⟨_,H',RM.turned (t':=s''.toks) (λb o hb e=>(RP.2 b hb).trans e) f0 f1 f3 f4 f5,hq⟩⟩
end
open PySem PySem.W PyProof.Rows
section
variable {M:Model} {A:bK} {E:Yh->Yk->Prop} {G:Yk->Prop}
def TT(M:Model)(A:bK)(E:Yh->Yk->Prop)(G:Yk->Prop){α:Type}(m:StateT SortSt oN α)(Q:α->SortSt->Prop)(st:SortSt):Prop:=∀s,G s->kasC M A E m (λa st' s'=>Q a st'/\G s') st s
end
end L3
namespace L3
open PySem PySem.Spec PyProof.Rows L2
noncomputable abbrev nm(f:List Nat):aj:=⟨f.toArray⟩
variable{f:List Nat}
theorem Zpi{g:List Nat}(h:nm f=nm g):f=g:=by have:=congrArg (λs:aj=>s.cps.toList) h;simpa using this
section
variable {K:Yb} {H H':Hp} {ι ι':List Y1} {fs:List (List Nat×D)} {gs:List (aj×V)}
theorem fO.mono(e:Ext K H ι H' ι')(h:fO K H ι fs gs):fO K H' ι' fs gs:=⟨h.1,h.2.mono e⟩
theorem fO.nil:fO K H ι [] []:=⟨rfl,Zw.nil⟩
theorem fO.nil_inv(h:fO K H ι [] gs):gs=[]:=Dl.mp h.1
theorem fO.cons_inv{d:D}(h:fO K H ι ((f,d)::fs) gs):∃v gs',gs=(nm f,v)::gs'/\Rep K H ι d v/\fO K H ι fs gs':=by
 cases gs with
 |nil=>cases h.1|cons p gs'=>obtain⟨g,v⟩:=p;obtain⟨h1,h2⟩:=h;rw[Yu,Yu]at h1 h2;obtain⟨e1,e2⟩:=iV h1;obtain⟨v',ws,e,r,q⟩:=h2.cons_inv;obtain⟨rfl,rfl⟩:=iV e;exact⟨v,gs',by rw[show g=nm f from e1],r,e2,q⟩
theorem fO.cons{f:List Nat}{d:D}{v:V}(r:Rep K H ι d v)(h:fO K H ι fs gs):fO K H ι ((f,d)::fs) ((nm f,v)::gs):=⟨by rw[Yu,Yu,h.1],Zw.cons r h.2⟩
theorem fO.length(h:fO K H ι fs gs):gs.length=fs.length:=by have:=congrArg uT h.1;simpa using this
theorem fO.look:∀{fs:List (List Nat×D)} {gs:List (aj×V)},fO K H ι fs gs->(fs.lookup f=Ym->gs.lookup (nm f)=Ym)/\∀d,fs.lookup f=Ya d->∃v,gs.lookup (nm f)=Ya v/\Rep K H ι d v
 |[],_,h=>by rw[h.nil_inv];exact⟨λ_=>rfl,λd e=>by cases e⟩|(g,x)::fs,_,h=>by
  obtain⟨v,gs',rfl,r,t⟩:=h.cons_inv;rw[jW,jW];by_cases e:f=g
  .subst e;rw[beq_self_eq_true,beq_self_eq_true];exact⟨λq=>(by cases q),λd q=>(by cases q;exact⟨v,rfl,r⟩)⟩
  .rw[beq_false_of_ne e,beq_false_of_ne λq=>e (Zpi q)];exact t.look
theorem fO.put{d:D}{v:V}(r:Rep K H ι d v):∀{fs:List (List Nat×D)} {gs:List (aj×V)},fO K H ι fs gs->fO K H ι (vO f d fs) (jd (nm f) v gs)
 |[],_,h=>by rw[h.nil_inv];exact fO.cons r fO.nil|(g,x)::fs,_,h=>by
  obtain⟨w,gs',rfl,r',t⟩:=h.cons_inv;unfold vO jd;by_cases e:g=f
  .subst e;rw[if_pos rfl,if_pos rfl];exact fO.cons r t
  .rw[if_neg e,if_neg λq=>e (Zpi q)];exact fO.cons r' (t.put r)
end
structure yC(K:Yb)(c:List Nat)(C:Y1):Prop where
 ao:ClsAt K c C
 cls:vC K C
 nz:c.head?≠Ya 0
variable{K:Yb}
theorem yC.same{c:List Nat}{C C':Y1}(h:yC K c C)(q:ClsAt K c C'):C'=C:=by have:=q.symm.trans h.ao;cases this;rfl
variable{w:bx}{ps:List aj}
section
variable {X:Cx} {o e:Expr} {es:List Expr} {f g:E3} {gl:d9} {c m:List Nat} {C:Y1} {fn:aj} {pos pos' apos p:aV} {x:aj}
theorem Zos{M:Store}{n:Nat}{H:Hp}{ι:List Y1}{a:Y1}(kc:yC X.K c C)(S:aD X.K H ι M)(ha:ι[n]?=Ya a){fs:List (List Nat×D)}(hn:M[n]?=Ya (.ins c fs)):∃dx gs,H a=Ya (.ins C dx gs)/\fO X.K H ι fs gs:=by
 rcases S.obj n _ a hn ha with⟨C',dx,gs,q,ca,fr⟩|⟨_,_,z,_⟩
 .rw[kc.same ca.1]at q;exact⟨dx,gs,q,fr⟩
 .exact absurd z kc.nz
theorem uf(kc:yC X.K c C)(nf:qX X.K C (nm m))(he:C3 X e f)(hf:fn=nm m:=by decide +kernel)(hb:mH e fn X.env (aG e X.env)=aG e X.env:=by rfl):C3 X (.Attribute e fn pos) (e1 (jw c m) f):=by
 subst hf;refine(Zuq he hb).imp λσ H Q ak=>?_;obtain⟨ι,M,env,S,E,h⟩:=ak;obtain⟨d,M1,e1,hh⟩:=Zt.bind h;refine⟨ι,M,env,S,E,?_⟩;rw[e1];intro v H1 ι1 x1 S1 r1;cases d with
 | ref n=>
  simp only[Zl8]at hh;cases hn:M1[n]? with
  |none=>simp only[hn]at hh;exact hh.elim|some ob=>
   cases ob with
   | ins c' fs=>
    simp only[hn]at hh;split at hh
    .rename_i ec;subst ec;obtain⟨a,ha,rfl⟩:=r1.dJ;obtain⟨dx,gs,q,fr⟩:=Zos kc S1 ha hn;split at hh
     .rename_i d hl;obtain⟨w,lw,mO⟩:=(fr.look (f:=m)).2 d hl;exact⟨a,C,dx,gs,w,rfl,q,kc.cls,nf,lw,hh w H1 ι1 x1 S1 mO⟩
     .exact hh.elim
    .exact hh.elim
   |_=>simp only[hn]at hh;exact hh.elim
 |_=>exact hh.elim
theorem Zqe(kc:yC X.K c C)(nf:qX X.K C (nm m))(ho:C3 X o f)(hv:C3 X e g)(hf:fn=nm m:=by decide +kernel)(hs:u0 e (Ya (.Attribute o fn pos')) pos.line X.env=pure false:=by rfl):CS X (.Assign [.Attribute o fn pos'] e pos) (Ft c m f g):=by
 subst hf;refine(Ztx ho hv hs).imp λD' σ H ak=>?_;obtain⟨ι,M,env,S,E,hh⟩:=ak;have hh:=Zlp E hh;obtain⟨d,M1,e1,hh⟩:=Zt.bind hh;obtain⟨b,M2,e2,hh⟩:=Zt.bind hh;refine⟨ι,M,env,S,E,?_⟩;rw[e1];intro y H1 ι1 x1 S1 r1;refine⟨ι1,M1,env,S1,E.mono x1,?_⟩;rw[e2];intro w H2 ι2 x2 S2 r2;cases b with
 | ref n=>
  simp only[Rg]at hh;cases hn:M2[n]? with
  |none=>simp only[hn]at hh;exact hh.elim|some ob=>
   cases ob with
   | ins c' fs=>
    simp only[hn]at hh;split at hh
    .rename_i ec;obtain⟨ec,lf⟩:=ec;subst ec;obtain⟨a,ha,rfl⟩:=r2.dJ;obtain⟨dx,gs,q,fr⟩:=Zos kc S2 ha hn;have l0:Loose H2 a:=.inr (.inr (.inr ⟨C,dx,gs,q⟩));have x3:Ext X.K H2 ι2 (upd H2 a (.ins C dx (jd (nm m) y gs))) ι2:=l0.ext;have S3:aD X.K (upd H2 a (.ins C dx (jd (nm m) y gs))) ι2 (M2.set n (.ins c' (vO m d fs))):=S2.put l0 ha (.inl ⟨C,dx,_,pY,⟨kc.ao,kc.nz⟩,(fr.put (r1.mono x2)).mono x3⟩);exact⟨a,C,dx,gs,rfl,q,kc.cls,nf,by rw[fr.length];exact lf,hh .non _ _ ((x1.trans x2).trans x3) S3 Rep.non⟩
    .exact hh.elim
   |_=>simp only[hn]at hh;exact hh.elim
 |_=>exact hh.elim
def R9(P:bF)(w:bx)(K:Yb)(mg:aj->Option Yh)(base:aO)(k:Nat)(C:Y1)(m:aj)(ps:List aj)(F:F3):Prop:=(∀ds M,ds.length≠ps.length->F ds M= .bad)/\∃f fd,Meth K C m f/\Binds K fd ps []/\jr P w K mg base lH k f fd ps (t_ K ps.length F)
theorem R9.mono{P:bF}{mg:aj->Option Yh}{base:aO}{C:Y1}{j k:Nat}{x:aj}{F:F3}(h:R9 P w K mg base j C x ps F)(l:j<=k):R9 P w K mg base k C x ps F:=let⟨n,f,fd,a,b,d⟩:=h;⟨n,f,fd,a,b,d.mono l⟩
theorem Zul{k:Nat}{F:F3}{fa:Y1}{fd:jZ}(ao:ClsAt X.K c C/\c.head?≠Ya 0)(Mc:Mk X.K C fa)(hF:∀ds M,ds.length≠ps.length->F ds M= .bad)(ok:jr X.prog X.w X.K X.mg X.base lH k fa fd ps (t_ X.K ps.length F))(bi:Binds X.K fd ps [])(hm:X.mg x=Ya (.ref C))(hr:dB (k+1) X.A)(ha:CA X (e::es) gl)(hg:Gl X x:=by rfl)(hdb:(x==("__debug__":aj))=false:=by decide)(he:Yw (e::es) X.env=(false,aG e X.env)::Yw es X.env:=by rfl)(hpl:(b7 pos (Yw es X.env)).any (·.1)=false:=by rfl):C3 X (.Call (.Name x p) (e::es) [] pos) (Ay c F gl):=by
 refine(Zr9 Mc ok hr hg hm bi .nil Zs7 ha hdb he hpl).imp λσ H Q ak=>?_;obtain⟨ι,M,env,S,E,h⟩:=ak;obtain⟨ds,M1,e1,h⟩:=Zt.bind h;refine⟨ι,M,env,S,E,?_⟩;rw[e1];intro vs H1 ι1 x1 S1 r1 y dx hy hd ne;have y2:upd H1 dx (.own y) y=Ym:=by rw[fK (cP ne)];exact hy
 have x2:Ext X.K H1 ι1 (upd H1 dx (.own y)) ι1:=Loose.ext (.inl hd);have S2:aD X.K (upd H1 dx (.own y)) ι1 M1:=S1.other (.inl hd) (S1.fresh hd);have x3:Ext X.K (upd H1 dx (.own y)) ι1 (upd (upd H1 dx (.own y)) y (.ins C dx [])) (ι1++[y]):=Loose.Hf (.inl y2);have S3:aD X.K (upd (upd H1 dx (.own y)) y (.ins C dx [])) (ι1++[y]) (M1++[.ins c []]):=S2.new y2 (.inl ⟨C,dx,[],pY,ao,fO.nil⟩);have hy':(ι1++[y])[M1.length]?=Ya y:=by rw[←S1.len];simp
 have rr:Rep X.K (upd (upd H1 dx (.own y)) y (.ins C dx [])) (ι1++[y]) (.ref M1.length) (.ref y):=Rep.ref hy';cases q:F (.ref M1.length::ds) (M1++[.ins c []])with
 |bad=>simp only[q]at h;exact h.elim|exc _ _=>simp only[q]at h;exact h.elim|ok d M2=>
  have hl:(D.ref M1.length::ds).length=ps.length:=by refine Z2 λz=>?_;rw[hF _ _ z]at q;cases q
  refine⟨ι1++[y],M1++[.ins c []],.ref M1.length::ds,S3,by rw[jX];exact Zw.cons rr ((r1.mono x2).mono x3),hl,?_⟩;rw[q];simp only[q]at h;cases d with
  |non=>intro v H4 ι4 x4 S4 r4;exact⟨r4.jj,h _ H4 ι4 (((x1.trans x2).trans x3).trans x4) S4 (rr.mono x4)⟩|_=>exact h.elim
end
noncomputable def ZrY(s:Yer):List Yer:=match s with
 | .ClassDef _ _ _ b _ _ _ _ _ _ _=>b|_=>[]
def Ks(K:Yb)(C:Y1)(qual:aj)(st:Yer)(ps:List aj):Prop:=∃f fd,tQ K "__init__" qual st f fd/\Mk K C f/\Binds K fd ps []
def yD(P:bF)(w:bx)(K:Yb)(mg:aj->Option Yh)(base:aO)(k:Nat)(C:Y1)(ps:List aj)(F:F3):Prop:=(∀ds M,ds.length≠ps.length->F ds M= .bad)/\∃f fd,Mk K C f/\Binds K fd ps []/\jr P w K mg base lH k f fd ps (t_ K ps.length F)
section
variable {P:bF} {w:bx} {K:Yb} {mg:aj->Option Yh} {base:aO} {C f:Y1} {m qual:aj} {st:Yer} {N ps:List aj} {k:Nat} {body:S3} {oc:Yh} {od an:Option Y1} {osl:Array (Option Yh)} {dV kV doc pm cdv ct:Yh}
theorem ZrU(mk:Hq K C=true)(kc:su K (.ref C)=true)(a:mD K (.ref C) "__init__" =Ya (Ya (.ref f)))(i:Hr K (.ref f)=true)(l:K.lookup f=Ya ⟨oc,od,.func (qL "__init__" qual (cV st) (cM st) (Zk st) dV kV doc pm an cdv ct),osl⟩)(c:Dh K cdv qual=true)(kp:su K (.ref f)=true)(b:Binds K (qL "__init__" qual (cV st) (cM st) (Zk st) dV kV doc pm an cdv ct) ps []):Ks K C qual st ps:=⟨f,_,⟨⟨oc,od,dV,kV,doc,pm,an,cdv,ct,osl,rfl,l,c⟩,kp⟩,⟨mk,a,i,kc⟩,b⟩
theorem yD.of(d:Ks K C qual st ps)(S:dM N ps (Zk st))(hb:∀(f:Y1) (cdv:Yh) (A:bK) (outer:List eY) (s:Yk) (H:Hp) (E:XK),dB k (A.deeper (oR qual (Zk st) s.heap.objs.size f cdv))->o9 (tL lH P w K mg base N qual (Zk st) f cdv A outer s H E).xP (cM st) body):
  yD P w K mg base (k+1) C ps (bZ ps.length N.length body):=by
 obtain⟨f,fd,F,mk,bi⟩:=d;exact⟨λds M h=>if_neg h,f,fd,mk,bi,Rj F S (hb f)⟩
end
theorem ZvO{X:Cx}{e:Expr}{es:List Expr}{gl:d9}{c:List Nat}{C:Y1}{pos p:aV}{x:aj}{k:Nat}{F:F3}(kc:yC X.K c C)(G:yD X.prog X.w X.K X.mg X.base k C ps F)(hm:X.mg x=Ya (.ref C))(hr:dB (k+1) X.A)(ha:CA X (e::es) gl)(hg:Gl X x:=by rfl)(hdb:(x==("__debug__":aj))=false:=by decide)(he:Yw (e::es) X.env=(false,aG e X.env)::Yw es X.env:=by rfl)(hpl:(b7 pos (Yw es X.env)).any (·.1)=false:=by rfl):C3 X (.Call (.Name x p) (e::es) [] pos) (Ay c F gl):=by obtain⟨hF,f,fd,mk,bi,ok⟩:=G;exact Zul ⟨kc.ao,kc.nz⟩ mk hF ok bi hm hr ha hg hdb he hpl
noncomputable def Bj(K:Yb)(d:List aj)(v:Yh):Bool:=match v with
 | .ref a=>(match K.lookup a with
  |some o=>o.cls== .type "tuple" &&o.dict.isNone&&(match o.data with| .seq vs _=>decide (vs.size<=1000)&&KTD.strsLook vs.toList d|_=>false)
  |none=>false)
 |_=>false
noncomputable def ZwB(t:J0):List (aj×List aj):=t.map λp=>(⟨p.1.toArray⟩,p.2.map λy=>⟨y.toArray⟩)
def Zwm(K:Yb)(d:List aj)(v:Yh):Prop:=∃a,v= .ref a/\∀H,cG K H a (d.map V.str)
theorem Zou:∀{vs:List Yh} {d:List aj},StrsAre vs d->Vals (d.map V.str) vs:=by
 intro vs d h
 induction h with
 |nil=>exact .nil|cons _ _ _ ih=>exact .cons ⟨_,rfl⟩ ih
theorem ZnP{d:List aj}{v:Yh}(h:Bj K d v=true):Zwm K d v:=by
 unfold Bj at h;split at h
 .rename_i a;refine⟨a,rfl,λH=>?_⟩;split at h
  .rename_i o ho;simp only[Y5]at h;obtain⟨⟨h1,h2⟩,h3⟩:=h;split at h3
   .rename_i vs n hd;simp only[Y5,decide_eq_true_eq]at h3;exact .inr ⟨o,vs,n,ho,⟨beq_iff_eq.mp h1,by simpa using h2⟩,hd,Yj h3.1 (by rw[zB];decide),Zou (KTD.strs_of_look h3.2)⟩
   .cases h3
  .cases h
 .cases h
abbrev ZvJ(K:Yb)(a:Y1)(t:J0):Prop:=KTD.tabLook (Bj K) (λb=>K.lookup b) a (ZwB t)=true
theorem ZvJ.at{a:Y1}{t:J0}{h:aO}(T:ZvJ K a t)(X:K.In h):pX (Zwm K) h a (ZwB t):=XR (λ_ _ q=>ZnP q) X T
theorem ZlA{K:Yb}{H:Hp}{ι:List Y1}:∀ds:List (List Nat),Zw K H ι (ds.map D.str) ((ds.map λy=>(⟨y.toArray⟩:aj)).map V.str)
 |[]=>Zw.nil|_::ds=>Zw.cons Rep.str (ZlA ds)
section
variable {prog:bF} {w:bx} {A:bK} {E:Yh->Yk->Prop} {s:Yk} {a:Y1} {K:Yb} {t:J0} {x:List Nat} {tk:fH}
theorem rJ{δ:Type}{R:δ->Yh->Prop}{T:List (aj×δ)}(h:pX R s.heap a T):s.TypeIs (.ref a) "dict":=let⟨_,o,_,_,ho,hc,_⟩:=h;⟨o,ho,hc.1⟩
theorem Zip{δ:Type}{R:δ->Yh->Prop}{T:List (aj×δ)}{k:aj}{Q:Option Yh->Yk->Prop}(h:pX R s.heap a T)(hs:∀d v,nu k T=Ya d->R d v->Q (Ya v) {s with toks:=s.toks+1})(hn:nu k T=Ym->Q Ym {s with toks:=s.toks+1}):aq (aA prog w) A (u_ a (.str k tk)) Q E s:=by
 obtain⟨_,o,es,ep,ho,hc,hd,hr⟩:=h;unfold u_
 try with_reducible refine gY ?_
 refine Yg (W9 (Yg (KTD.kt_dictFind_strs (s:={s with toks:=s.toks+1}) ho hd (by obtain⟨es⟩:=es;simpa using hr.exact) ?_)));have key:Q (findBy (λq v=>v.isStr q) es k) {s with toks:=s.toks+1}:=by
  rw[show findBy (λq v=>v.isStr q) es k=(es.toList.find? λz=>z.key.isStr k).map (·.val)by obtain⟨es⟩:=es;simp[findBy]];cases e:nu k T with
  |none=>rw[hr.find_none e];exact hn e|some d=>obtain⟨v,hv,r⟩:=hr.find_some e;rw[hv];exact hs d v e r
 rw[findBy_of_findIdx?]at key;cases e:es.findIdx? λz=>z.key.isStr k with
 |none=>rw[e]at key;exact Yt key|some j=>rw[e]at key;exact Yg (W7 (s:={s with toks:=s.toks+1}) ho hd (Yt key))
end
open AutoSeq1 (wpAny_loadPart')
set_option maxRecDepth 100000
theorem Zk7{prog:bF}{A:bK}{it:Y1}{fp:List Y1}{n:Nat}{P:Nat->Yh->Prop}{St:Nat->aO->Prop}(D:Draws prog w A it fp n P St):
  Draws prog w A it fp (n+1) (λi v=>P (i-1) v) (λi h=>∃j,i=j+1/\St j h)where
 live:=λi h ⟨j,_,st⟩=>D.live j h st
 frame:=λi h h' ⟨j,e,st⟩ hk=>⟨j,e,D.frame j h h' st hk⟩
 item:=λi s Q E hi st hQ=>by obtain⟨j,rfl,st⟩:=st;exact D.item j s Q E (Nat.lt_of_succ_lt_succ hi) st λx h' tk hp st' hs=>hQ x h' tk hp ⟨j+1,rfl,st'⟩ hs
 done:=λs Q E st hE=>by obtain⟨j,e,st⟩:=st;cases Qf e;exact D.done s Q E st hE
theorem Zl3(l:Y1)(items:Array Yh)(n:Nat)(dct:Option Y1)(sl:Array (Option Yh))(t:fH):
  Meets (Builtin.«enumerate.__new__» ⟨[.type "enumerate",.ref l],[("start",.int 1 t)]⟩) (λ_ R s=>s.heap.get? l=Ya {cls:=.type "list",dict:=dct,data:=.seq items n,slots:=sl}/\
   R (.ok (.ret (.ref (s.heap.push {cls:=.type "list_iterator",data:=.fields #[.ref l,.int 0 0]}).objs.size)))
    {s with heap:=(s.heap.push {cls:=.type "list_iterator",data:=.fields #[.ref l,.int 0 0]}).push {cls:=.type "enumerate",data:=.fields #[.none,.bool false,.ref s.heap.objs.size,vf 1,.none,.none]}}):=
 .of_wp λprog w A R s h=>by
  obtain⟨hp,g,d,tk,os⟩:=s;obtain⟨hl,h⟩:=h;have hsub:=sub_enumerate;have hL:Heap.IsList (Shared.heap ⟨hp,g,d,tk,os⟩) l items:=⟨_,hl,rfl,n,rfl⟩
  wp_walk using qP hl
  refine Xc λst=>Yt ?_;split
  .rename_i c _ _ _ _ _;cases(c==Value.type "enumerate")
   .wp_walk using qP hl,uV hL
    exact⟨_,rfl,h⟩
   .wp_walk using qP hl,uV hL
    exact⟨_,rfl,h⟩
  .wp_walk using qP hl,uV hL
   exact⟨_,rfl,h⟩
theorem Zms(a b:Yh):checkTypeCall "enumerate" ⟨[a],[("start",b)]⟩=pure ():=by kernel_rfl
theorem ZoE(a b:Yh):Xb "enumerate.__new__" ⟨[.type "enumerate",a],[("start",b)]⟩=pure ():=by kernel_rfl
theorem Zne(o a b:Yh):argsOk "object.__init__" ⟨[o,a],[("start",b)]⟩:=by unfold argsOk;rw[signature?_of (id:="object.__init__") (n:=['_','_','t','i','n','i','_','_']) (o:=['t','c','e','j','b','o']) (by kernel_rfl) F.owner_object];kernel_rfl
theorem ZlH{self a b:Yh}:Meets (Builtin.«object.__init__» ⟨[self,a],[("start",b)]⟩) (λ_ R s=>s.TypeIs self "enumerate" /\R (.ok (.ret .none)) s):=by
 have hl:=F.called_enumerate.init.lookup;have hm:=F.called_enumerate.made;refine Meets.of_wp λprog w A R s hs=>?_;obtain⟨hT,hq⟩:=hs
 repeat(any_goals(first|assumption|wp_step))
 exact⟨_,rfl,hq⟩
theorem ZmX{prog:bF}{A:bK}{E:Yh->Yk->Prop}{s:Yk}{l:Y1}{items:Array Yh}{t:fH}{Q:Yh->Yk->Prop}(hL:s.heap.IsList l items)(h:∀h',xj h' (s.heap.objs.size+1) s.heap.objs.size 1 .none->h'.IsListIter s.heap.objs.size l 0->(∀b o,s.heap.get? b=Ya o->h'.get? b=Ya o)->Q (.ref (s.heap.objs.size+1)) {s with heap:=h'}):
  aq (aA prog w) A (call (.type "enumerate") [.ref l] [("start",.int 1 t)]) Q E s:=by
 obtain⟨⟨c,dct,dt,sl⟩,hl,hc,n,hd⟩:=hL;replace hc:c= .type "list":=hc;replace hd:dt= .seq items n:=hd;subst hc hd;have ft:=YK;obtain⟨c,tl,hmro⟩:=ft.mro;have hmade:=ft.made;have hsub:=ft.sub;have hct:=Zms (.ref l) (.int 1 t);have hcn:=ZoE (.ref l) (.int 1 t);refine Dv (Xd (show aq _ _ (callAny (.type "enumerate") _) _ _ _ from ?_));refine Yt ⟨Z6 _ (by decide +kernel),wY F.entry_type_call (?_)⟩;rw[YT (W4 _ _ _) (units_type_call_type _ _ _)];have h1:=ft.notType;have h2:=ft.canCreate
 repeat(any_goals(first|assumption|wp_step))
 have hz:(s.heap.push {cls:=.type "list_iterator",data:=.fields #[.ref l,.int 0 0]}).objs.size=s.heap.objs.size+1:=xq ..;have g0:=Zl3 l items n dct sl t prog w A.in1 (wants (λobj s₁=>s₁.TypeIs obj "enumerate" /\Q obj s₁) E) s ⟨hl,by
  show _/\_;rw[hz];have he:xj ((s.heap.push {cls:=.type "list_iterator",data:=.fields #[.ref l,.int 0 0]}).push {cls:=.type "enumerate",data:=.fields #[.none,.bool false,.ref s.heap.objs.size,vf 1,.none,.none]}) (s.heap.objs.size+1) s.heap.objs.size 1 .none:=by have q:=Y2 (s.heap.push {cls:=.type "list_iterator",data:=.fields #[.ref l,.int 0 0]}) (o:={cls:=.type "enumerate",data:=.fields #[.none,.bool false,.ref s.heap.objs.size,vf 1,.none,.none]}) rfl;rw[hz]at q;exact q
  exact⟨⟨_,he,rfl⟩,h _ he ⟨_,Yl _ (Y2 _ rfl),rfl,rfl⟩ λb o x=>Yl _ (Yl _ x)⟩⟩
 refine uY (HJ ft.plain YF (HY hcn g0)) λr s₁ hr=>?_;cases r with
 |error e=>exact hr|ok fl=>
  cases fl with
  | ret obj=>
   obtain⟨hT,hq⟩:=hr;have hli:=ft.init.lookup;have hbi:=ft.init.bind obj
   repeat(any_goals(first|assumption|wp_step))
   refine uY (HJ ft.init.plain F.entry_object_init (ft.init.check _ _ _ _ _ _ _ _ hT (Zne obj _ _) (ZlH prog w A.in1 (wants (λr s₂=>r= .none/\Q obj s₂) E) s₁ ⟨hT,rfl,hq⟩))) λr₂ s₂ R_=>?_;cases r₂ with
   |error e=>exact R_|ok fl₂=>
    cases fl₂ with
    |ret r=>
     obtain⟨rfl,hq⟩:=R_
     repeat(any_goals(first|assumption|wp_step))
    |_=>exact R_.elim
  |_=>exact hr.elim
noncomputable def Zv3(S:Hp->List V->Prop):It:=⟨λi H=>∃xs x,S H xs/\xs[i]?=Ya x,λi H x H'=>∃A a,x= .ref A/\H A=Ym/\H'=upd H A (.tup [.int ((i+1:Nat):Int),a])/\∀xs,S H xs->xs[i]?=Ya a,
 λi H=>∃xs,S H xs/\xs.length<=i⟩
theorem Zmh{P:bF}{es:List Expr}{k:Nat}{pos:aV}(a e it:Y1)(hne:e≠it):
  Turn P w K (.Tuple es k pos) (Zv3 λH xs=>bC K H a xs) [e,it] e (λi h=>(∃old,xj h e it ((i+1:Nat):Int) old)/\h.IsListIter it a i)where
 mem:=by simp
 obj:=λi h st b hb=>by
  obtain⟨⟨old,he⟩,o,ho,c,d⟩:=st;simp only[Yo,pM,or_false]at hb;rcases hb with rfl|rfl
  .exact⟨_,he,λv z=>by cases z⟩
  .exact⟨o,ho,λv z=>by rw[d]at z;cases z⟩
 keep:=λi h h' st k=>by obtain⟨⟨old,he⟩,hit⟩:=st;exact⟨⟨old,k e (by simp) _ he⟩,hit.at λo q=>k it (by simp) o q⟩
 item:=by
  intro X hP hw hK hc i pins s σ H E I hf st hg;subst hP hw hK;obtain⟨xs,x,hq,hx⟩:=hg;obtain⟨its,rv,p,hz⟩:=I.list hq;obtain⟨u,hu,ru⟩:=rv.get hx;obtain⟨⟨old,he⟩,hit⟩:=st;have hel:=Y3 he;have hil:it<s.heap.objs.size:=by obtain⟨o,ho,_⟩:=id hit;exact Y3 ho
  have R7:e≠a:=by rintro rfl;obtain⟨o,ho,hc,_⟩:=p.isList;rw[he]at ho;cases ho;exact absurd hc (by simp)
  have hai:a≠it:=by rintro rfl;obtain⟨o,ho,hc,_⟩:=p.isList;obtain⟨o',ho',hc',_⟩:=hit;rw[ho']at ho;cases ho;rw[hc']at hc;exact absurd hc (by simp)
  have D:=Zk7 (Draws.list (prog:=X.prog) (w:=X.w) (A:=X.A.in1) (I.ok.hd hc) it a hai its.toArray);refine WW (i:=i+1) D he ⟨i,rfl,hit,p.isList⟩ (by simpa using(Yf.mp hu).1) hne (by simp[hne,R7]) λy h' tk hy ho hst hT hsz hk=>?_;have ey:y=u:=by
   have q:its.toArray[i]?=Ya u:=by simpa using hu
   have hy':its.toArray[i]?=Ya y:=hy;rw[q]at hy';cases hy';rfl
  subst ey;refine⟨_,rfl,N6 (s:={s with heap:=h',toks:=tk+1}) ho λh'' Df hs''=>?_⟩;obtain⟨I2,n2⟩:=R6 (i:=i+1) (x:=x) (tk':=tk+1) I hf hel hil ru hT hk hs'';obtain⟨j,ej,hst,_⟩:=hst;cases Qf ej;exact⟨.ref s.heap.objs.size,_,I2,rfl,⟨_,x,rfl,I.hok.fresh (Ys _),rfl,λys hy=>by rw[I.Mu hy hq];exact hx⟩,⟨⟨_,by simpa using Df⟩,hst.extBut hs''.extBut (cP hne)⟩,n2⟩
 done:=by
  intro X hP hw hK hc i pins s σ H E I hf st hg;subst hP hw hK;obtain⟨xs,hq,hx⟩:=hg;obtain⟨its,rv,p,hz⟩:=I.list hq;obtain⟨⟨old,he⟩,hit⟩:=st;have hl:=rv.length;have hT:s.TypeIs (.ref e) "enumerate":=⟨_,he,rfl⟩;unfold sO;refine Yg (wpAny_attempt (wW (name:=pW "__next__") hT Jc
   (uW Jc hT YB (show aq _ _ (field (.ref e) 2>>=λo=>_) _ _ _ from ?_) (X8 _))))
  refine Yg (sJ he rfl (x:=.ref it) rfl (Yg ?_));refine wpAny_nextOf_list_end (I.ok.hd hc) hit p.isList (by simp;exact lC 2 2268279672881 T1 hl hx) λh' x he' hx'=>?_;obtain⟨o,ho,hc⟩:=hx';refine Yg (Xa (T:="StopIteration") (b:=true) ⟨o,ho,hc⟩ isSubtype_stop (Yt ?_));exact⟨rfl,I.G4 (t':=s.toks) (λb o hb q=>he' b o (λz=>hb (by simp[z])) q) hf⟩
 self:=λ_ _ _ _ _ st h=>by obtain⟨⟨old,he⟩,_⟩:=st;exact zA he h
section
variable {X:Cx} {es:List Expr} {k:Nat} {a:Expr} {p pos tpos kp cp:aV} {f:E3}
def Zsj(K:Yb)(ta:TA):TI:=λσ H R=>ta σ H λvs H1=>∃b,vs=[.ref b]/\∃xs,bC K H1 b xs/\R (Zv3 λH xs=>bC K H b xs) H1
theorem Zkd{M:Model}{A:bK}{E:Yh->Yk->Prop}{s:Yk}{env:eY}{T:String}{e:Expr}{kws:List Keyword}{Q:Yh->Yk->Prop}(h:aq M A (Ih (b7 pos (Yw [e] env))) (λvs s₁=>aq M A (Ij ((iU pos (iR kws env)).map (·.2)))
   (λkvs s₂=>aq M A (call (.type T) vs (((iU pos (iR kws env)).filterMap (·.1)).zip kvs)) Q E s₂) E s₁) E s)(he:b7 pos (Yw [e] env)=[(false,aG e env)])(hall:(iU pos (iR kws env)).all (·.1.isSome)=true)(hkw:(iU pos (iR kws env)).any (·.1.isNone)=false):
  aq M A (Ie pos (.type T) [] (b7 pos (Yw [e] env)) (iU pos (iR kws env))) Q E s:=by
 rw[he]at h ⊢;unfold Ie;refine Yg (gY (jz (XD (Q:=λa s₁=>aq M A (call (.type T) a.pos a.kw) Q E s₁) hall h) (λa s₁ h₁=>Yg (uX ?_)) λ_ _ x=>x));simp only[hkw,kW,List.any_nil,Iv];refine Yg (Yt (Yg ?_));exact jz h₁ (λr s₂ hr=>Yg (gY (wpAny_point (Yt hr)))) λ_ _ x=>x
theorem ZpP{ta:TA}{j}(hg:Gl X "enumerate")(hm:X.mg "enumerate" =Ym)(ha:PA X [a] ta)(he:b7 pos (Yw [a] X.env)=[(false,aG a X.env)]):
  PI X (.Tuple es k tpos) (.Call (.Name "enumerate" p) [a] [⟨Ya "start",.Constant (.int 1) j cp,kp⟩] pos) (Zsj X.K ta):=by
 intro pins s σ H R I h;refine zx (xO I hg hm boot_enumerate (Zkd (aF (ha pos pins s σ H _ I h) λus s1 ak=>?_) he rfl rfl));obtain⟨vs,H1,I1,r1,q1⟩:=ak;refine aF ((ZnY (nm:=Ya "start") (kpos:=kp) (Qs (j:=j) (pos:=cp) (i:=1)) Zqv) pos pins s1 σ H1 (λzs H'=>zs=[.int 1]/\H'=H1) I1 ⟨rfl,rfl⟩) λws s2 Ga=>?_;obtain⟨zs,H2,I2,rz,rfl,rfl⟩:=Ga;obtain⟨b,e,xs,hq,q⟩:=q1;subst e;cases r1 with
 | cons r rr=>
  cases rr
  cases r
  cases rz with
  | cons r' rr=>
   cases rr
   obtain⟨t,rfl⟩:=r';have fp:∀c∈[s2.heap.objs.size+1,s2.heap.objs.size],iB X pins H2 c:=λc hc=>by
    have hc':s2.heap.objs.size<=c:=by simp only[Yo,pM,or_false]at hc;rcases hc with rfl|rfl <;>omega
    exact I2.uI hc' (I2.hok.fresh hc')
   obtain⟨its,rv,pl,hz⟩:=I2.list hq;refine ZmX (t:=t) pl.isList λh' hE hI hk=>?_;have I3:Inv X pins σ H2 {s2 with heap:=h'}:=I2.kept (t':=s2.toks) hk;exact zA (s:={s2 with heap:=h'}) hE ⟨_,[s2.heap.objs.size+1,s2.heap.objs.size],_,_,H2,rfl,I3,Zmh b _ _ (O1 _),⟨⟨_,hE⟩,hI⟩,fp,q⟩
theorem Zpn{j}(hm:X.mg "enumerate" =Ym)(h:C3 X a f)(hg:Gl X "enumerate":=by rfl)(he:b7 pos (Yw [a] X.env)=[(false,aG a X.env)]:=by rfl)(hs':Yw (a::[]) X.env=(false,aG a X.env)::Yw [] X.env:=by rfl):
  CIL X (.Tuple es k tpos) (.Call (.Name "enumerate" p) [a] [⟨Ya "start",.Constant (.int 1) j cp,kp⟩] pos) (Rh f):=
 PI.imp (ZpP hg hm (Zc h Zg hs') he) λσ H R ak=>by
  obtain⟨ι,M,env,S,E,h⟩:=ak;obtain⟨d,M1,e1,h⟩:=Bh.bind h;refine⟨ι,M,env,S,E,?_⟩;have e2:Zb f Zf env M= .ok [d] M1:=by unfold Zb;rw[e1];rfl
  rw[e2];intro vs H1 ι1 x1 S1 r1;obtain⟨v,ws,rfl,r,q⟩:=r1.cons_inv;have:=q.nil_inv;subst this;cases d with
  | ref n=>
   cases hm:M1[n]? with
   |none=>simp only[hm]at h;exact h.elim|some o=>
    cases o with
    | lst ds=>
     simp only[hm]at h;obtain⟨b,ha,rfl⟩:=r.dJ;obtain⟨vs,q,r⟩:=S1.obj n _ b hm ha;refine⟨b,rfl,vs,bC.of q,h _ H1 ι1 x1 S1 ?_⟩;intro i H2 ι2 M2 x S2 lk;have FJ:M2[n]?=Ya (.lst ds):=by simpa[jt]using lk
     obtain⟨vs2,q2,r2⟩:=S2.obj n _ b FJ (x.pre _ _ ha);refine⟨λd hd=>?_,λhl=>⟨vs2,bC.of q2,by rw[r2.length,hl,JZ];exact Ys _⟩⟩;rw[JX,kZ 1 i]at hd;cases hq:ds[i]? with
     |none=>rw[hq]at hd;cases hd|some d0=>rw[hq]at hd;cases hd;obtain⟨v,hv,rv⟩:=r2.get hq;refine⟨⟨vs2,v,bC.of q2,hv⟩,λy H3 hy=>?_⟩;obtain⟨T,y',rfl,hT,rfl,hall⟩:=hy;have e:=hall vs2 (bC.of q2);rw[hv]at e;cases e;exact S2.uJ hT (Zw.cons Rep.int (Zw.cons rv Zw.nil))
    |_=>simp only[hm]at h;exact h.elim
  |_=>exact h.elim
end
end L3
namespace L3
open PySem PySem.Spec PyProof.Rows L2
noncomputable def Zwj(i:Int)(v:Yh):Bool:=match v with
 | .int j _=>decide (j=i)|_=>false
def ZvN(i:Int)(v:Yh):Prop:=∃t,v= .int i t
variable{i:Int}
theorem ZrA{v:Yh}(h:Zwj i v=true):ZvN i v:=by
 cases v with
 |int j t=>exact⟨t,by rw[of_decide_eq_true (show decide (j=i)=true from h)]⟩|_=>exact ft h
noncomputable def Bl(t:j9):List (aj×Int):=t.map λp=>(⟨p.1.toArray⟩,p.2)
abbrev mj(K:Yb)(a:Y1)(t:j9):Prop:=KTD.tabLook Zwj (λb=>K.lookup b) a (Bl t)=true
theorem mj.at{K:Yb}{a:Y1}{t:j9}{h:aO}(T:mj K a t)(X:K.In h):pX ZvN h a (Bl t):=XR (λ_ _ q=>ZrA q) X T
theorem Bm(x:List Nat):∀t:j9,nu (⟨x.toArray⟩:aj) (Bl t)=dR x t
 |[]=>rfl|(k,v)::r=>by
  show(if decide ((⟨x.toArray⟩:aj)=⟨k.toArray⟩)=true then Ya v else nu ⟨x.toArray⟩ (Bl r))=(if x=k then Ya v else dR x r);by_cases e:x=k
  .subst e;rw[if_pos rfl,if_pos (decide_eq_true rfl)]
  .rw[if_neg e,if_neg (by simp[e]),Bm x r]
variable{δ:Type}{Q:Yh->Yk->Prop}
section
variable {prog:bF} {w:bx} {A:bK} {E:Yh->Yk->Prop} {s:Yk} {a:Y1} {K:Yb} {tk:fH}
theorem ZqF{R:δ->Yh->Prop}{l:List DictEntry}{T:List (aj×δ)}(h:KTD.Rows R l T):∀e∈l,∃x t,e.key= .str x t:=by
 induction h with
 |nil=>intro e he;cases he|cons hk _ _ ih=>
  intro e he;rcases Yo.mp he with q|q
  .rw[q];exact⟨_,_,hk⟩
  .exact ih e q
theorem Zoy{R:δ->Yh->Prop}{T:List (aj×δ)}{Q:Option Yh->Yk->Prop}(h:pX R s.heap a T)(hn:Q Ym {s with toks:=s.toks+1}):aq (aA prog w) A (u_ a (.int i tk)) Q E s:=by
 obtain⟨_,o,es,ep,ho,hc,hd,hr⟩:=h;have hs:∀e∈es,∃x t,e.key= .str x t:=λe he=>ZqF hr e (by simpa using he);unfold u_
 try with_reducible refine gY ?_
 refine Yg (W8 (Yg ?_));unfold dictFind
 try with_reducible refine gY ?_
 refine Yg (W7 (s:={s with toks:=s.toks+1}) ho hd ?_);dsimp only;rw[if_pos]
 .unfold dictWalkPlain;refine Yg ?_;refine wpAny_forIn_list _ (λ_ b s'=>s'={s with toks:=s.toks+1}/\b=(Ym,())) _ ?_ ?_ _ _ ⟨rfl,rfl⟩
  .rintro x rest b s' ⟨rfl,rfl⟩;cases he:es[x]? with
   |none=>exact Yt ⟨rfl,rfl⟩|some e=>
    obtain⟨y,t,ek⟩:=hs e (YX he);dsimp only;by_cases hh:(e.hash==hashInt i)=true
    .rw[if_pos hh,ek];refine Yg (Xe (s:={s with toks:=s.toks+1}) ho hd (Yg (Jg y t i tk prog w E _ (Yg (Xe (s:={s with toks:=s.toks+1}) ho hd ?_)))));show aq _ _ (if(ep !=ep)=true then _ else _) _ E _;rw[if_neg (by simp)];exact Yg (Ia (Yt ⟨rfl,rfl⟩))
    .rw[if_neg hh];exact Yt ⟨rfl,rfl⟩
  .rintro b s' ⟨rfl,rfl⟩;exact Yt (Yt hn)
 .rw[jG];refine vz.mpr ⟨rfl,gU.mpr λv hv=>?_⟩;obtain⟨j,_,hj⟩:=Ny.mp hv;cases he:es[j]? with
  |none=>rw[he]at hj;cases hj|some e=>
   rw[he]at hj;obtain rfl:e.key=v:=by simpa using hj
   obtain⟨y,t,ek⟩:=hs e (YX he);rw[ek];rfl
theorem Zm6{R:δ->Yh->Prop}{T:List (aj×δ)}{k:aj}{z:Yh}:
  MeetsIn prog w (Builtin.«dict.get» ⟨[.ref a,.str k tk,z],[]⟩) λ_ Z s=>pX R s.heap a T/\(∀d v,nu k T=Ya d->R d v->Z (.ok (.ret v)) {s with toks:=s.toks+1})/\(nu k T=Ym->Z (.ok (.ret z)) {s with toks:=s.toks+1}):=
 .of_wp λA Z s zz=>by obtain⟨h,h1,h2⟩:=zz;show aq _ _ (u_ a (.str k tk)>>=λo=>_) _ _ s;refine Yg (Zip h (λd v e r=>Yt ⟨v,rfl,h1 d v e r⟩) λe=>?_);show aq _ _ (Z5 a (.str k tk)>>=λo=>_) _ _ _;exact Yg (W6 h.1 (Yt ⟨z,rfl,h2 e⟩))
theorem Zl9{R:δ->Yh->Prop}{T:List (aj×δ)}{z:Yh}:
  MeetsIn prog w (Builtin.«dict.get» ⟨[.ref a,.int i tk,z],[]⟩) λ_ Z s=>pX R s.heap a T/\Z (.ok (.ret z)) {s with toks:=s.toks+1}:=
 .of_wp λA Z s zz=>by obtain⟨h,h2⟩:=zz;show aq _ _ (u_ a (.int i tk)>>=λo=>_) _ _ s;refine Yg (Zoy h ?_);show aq _ _ (Z5 a (.int i tk)>>=λo=>_) _ _ _;exact Yg (W6 h.1 (Yt ⟨z,rfl,h2⟩))
theorem ZqY{R:δ->Yh->Prop}{T:List (aj×δ)}{k:aj}{z:Yh}(h:pX R s.heap a T)(h1:∀d v,nu k T=Ya d->R d v->Q v {s with toks:=s.toks+1})(h2:nu k T=Ym->Q z {s with toks:=s.toks+1}):aq (aA prog w) A (call (.builtin "dict.get") [.ref a,.str k tk,z]) Q E s:=call_meetsIn Px (rJ h) YC (X_ _ _ _) (Zm6 (R:=R) (T:=T)) ⟨h,h1,h2⟩
theorem Zpa{R:δ->Yh->Prop}{T:List (aj×δ)}{z:Yh}(h:pX R s.heap a T)(h2:Q z {s with toks:=s.toks+1}):aq (aA prog w) A (call (.builtin "dict.get") [.ref a,.int i tk,z]) Q E s:=call_meetsIn Px (rJ h) YC (X_ _ _ _) (Zl9 (R:=R) (T:=T)) ⟨h,h2⟩
end
section
variable {X:Cx} {e e':Expr} {x:aj} {a:Y1} {t:j9} {npos apos cpos pos:aV} {g g':E3}
inductive Zxg(t:j9)(y z:V)(H1:Hp)(Q:VK):Prop
 |str (k:List Nat) (e:y= .str ⟨k.toArray⟩) (s:∀i,dR k t=Ya i->Q (.int i) H1) (n:dR k t=Ym->Q z H1)
 |int (i:Int) (e:y= .int i) (n:Q z H1)
theorem ZpJ{te te':TE}(hm:X.mg x=Ya (.ref a))(ht:mj X.K a t)(he:PE X e te)(he':PE X e' te')(m:M2 X (.Name x npos) "get" apos e e' cpos)(hg:Gl X x)(hd:(x==("__debug__":aj))=false):
  PE X (.Call (.Attribute (.Name x npos) "get" apos) [e,e'] [] cpos) (λσ H Q=>te σ H λy H1=>te' σ H1 λz H2=>Zxg t y z H2 Q):=by
 intro pins s σ H Q I h;refine wpAny_Call_method m.base m.few m.line PySem.F.plainAttrs_dict Px PySem.F.type_dict_get (aF (zY (v:=.ref a) (u:=.ref a) hg hm rfl hd pins s σ H (λv H'=>v= .ref a/\H'=H) I ⟨rfl,rfl⟩) λu s1 ak=>?_);obtain⟨v,H1,I1,r1,rfl,rfl⟩:=ak;obtain rfl:u=Value.ref a:=r1;have T1:=ht.at I1.dW;refine⟨rJ T1,λb q=>?_,?_⟩
 .cases q
  obtain⟨_,ob,_,_,h1,h2,_⟩:=T1;exact⟨ob,h1,h2.2.1⟩
 rw[m.trees];refine Qa rfl (ZX (Qc (aF (he pins s1 σ H1 _ I1 h) λiv s2 ⟨y,H2,I2,ry,q2⟩=>Qc (aF (he' pins s2 σ H2 _ I2 q2) λfv s3 ⟨z,H3,I3,rz,q3⟩=>ZZ ?_))));cases q3 with
 | str k ey hs hn=>
  rw[ey]at ry;obtain⟨tk,rfl⟩:=ry;refine ZqY (ht.at I3.dW) (λd v ed rv=>?_) λed=>?_
  .rw[Bm]at ed;obtain⟨t',rfl⟩:=rv;exact⟨.int d,H3,I3.tok _,⟨t',rfl⟩,hs d ed⟩
  .rw[Bm]at ed;exact⟨z,H3,I3.tok _,rz,hn ed⟩
 |int i ey hn=>rw[ey]at ry;obtain⟨tk,rfl⟩:=ry;exact Zpa (ht.at I3.dW) ⟨z,H3,I3.tok _,rz,hn⟩
theorem Znw(hm:X.mg x=Ya (.ref a))(ht:mj X.K a t)(he:C3 X e g)(he':C3 X e' g')(m:M2 X (.Name x npos) "get" apos e e' cpos:=by exact⟨rfl,rfl,rfl,rfl⟩)(hg:Gl X x:=by rfl)(hd:(x==("__debug__":aj))=false:=by decide):
  C3 X (.Call (.Attribute (.Name x npos) "get" apos) [e,e'] [] cpos) (e2 (t7 t) g g'):=(ZpJ hm ht he he' m hg hd).imp λσ H Q ak=>by
 obtain⟨ι,M,env,S,E,h⟩:=ak;obtain⟨d,M1,e1,h⟩:=Zt.bind h;obtain⟨d2,M2,e2,h⟩:=Zt.bind h;refine⟨ι,M,env,S,E,?_⟩;rw[e1];intro y H1 ι1 x1 S1 r1;refine⟨ι1,M1,env,S1,E.mono x1,?_⟩;rw[e2];intro z H2 ι2 x2 S2 r2;have h:=(h.up x1).up x2;cases d with
 | str k=>
  cases r1.str_inv
  refine .str k rfl (λi ei=>?_) λen=>?_
  .have h:Zt X.K H2 ι2 Q (match dR k t with|some i=>.ok (.int i) M2|none=>.ok d2 M2):=h
   rw[ei]at h;exact Zt.ok h S2 Rep.int
  .have h:Zt X.K H2 ι2 Q (match dR k t with|some i=>.ok (.int i) M2|none=>.ok d2 M2):=h
   rw[en]at h;exact Zt.ok h S2 r2
 |int i=>
  cases r1.int_inv
  exact .int i rfl (Zt.ok h S2 r2)
 |_=>exact h.elim
end
section
variable {X:Cx} {pos:aV}
theorem ZrK{x:aj}{a:Y1}{ds:List (List Nat)}(hm:X.mg x=Ya (.ref a))(ht:Bj X.K (ds.map λy=>(⟨y.toArray⟩:aj)) (.ref a)=true)(hg:Gl X x:=by rfl)(hd:(x==("__debug__":aj))=false:=by decide):C3 X (.Name x pos) (eC (.tup (ds.map D.str))):=by obtain⟨b,eb,sq⟩:=ZnP ht;cases eb;exact t8 (v:=.ref a) hm rfl (λH ι=>Rep.tup (sq H) (ZlA ds)) hg hd
end
variable{M:Store}
noncomputable section
noncomputable def pB(q q':D->D->Store->R3 D)(f g h:E3):E3:=λenv M=>(f env M).bind λa M1=>(g env M1).bind λb M2=>(q a b M2).bind λc M3=>match c with
 | .bl true=>(h env M3).bind λd M4=>q' b d M4|.bl false=>.ok (.bl false) M3|_=>.bad
theorem ZoF(is:List Int):lQ (is.map D.int)=Ya is:=by
 induction is with
 |nil=>rfl|cons i is ih=>show(lQ (is.map D.int)).map _=_;rw[ih];rfl
noncomputable def v7(k:Int):List Int->Int
 |[]=>k|a::r=>r.foldl (λm x=>if x>m then x else m) a
noncomputable def Bo(k:Int)(ds:List D)(M:Store):R3 D:=match ds with
 |[.ref n]=>yq M[n]? λxs=>vR ((lQ xs).map λis=>D.int (v7 k is)) λd=>.ok d M|_=>.bad
theorem Zma{k:Int}{n:Nat}{is:List Int}(h:M[n]?=Ya (.lst (is.map D.int))):Bo k [.ref n] M= .ok (.int (v7 k is)) M:=by show yq M[n]? _=_;rw[h];show vR ((lQ (is.map D.int)).map λis=>D.int (v7 k is)) _=_;rw[ZoF];rfl
theorem Zju(xs:List (List Nat)):ir (xs.map D.str)=Ya xs:=by
 induction xs with
 |nil=>rfl|cons x xs ih=>show(ir (xs.map D.str)).map _=_;rw[ih];rfl
noncomputable def unlike:List (List Nat)->List (List Nat)->List (List Nat)
 |acc,[]=>acc|acc,x::r=>unlike (if acc.contains x then acc else acc++[x]) r
noncomputable def Ku(ds:List D)(M:Store):R3 D:=match ds with
 |[.ref n]=>yq M[n]? λxs=>vR ((ir xs).map λss=>D.int ((unlike [] ss).length:Int)) λd=>if xs.length<=20 then .ok d M else .bad|_=>.bad
theorem ZmQ{n:Nat}{xs:List (List Nat)}(h:M[n]?=Ya (.lst (xs.map D.str)))(hl:xs.length<=20):Ku [.ref n] M= .ok (.int ((unlike [] xs).length:Int)) M:=by show yq M[n]? _=_;rw[h];show vR ((ir (xs.map D.str)).map λss=>D.int ((unlike [] ss).length:Int)) _=_;rw[Zju];show(if(xs.map D.str).length<=20 then R3.ok _ M else .bad)=_;rw[Yv,if_pos hl]
theorem ZgO:∀{xs acc:List (List Nat)},(acc++xs).Nodup->unlike acc xs=acc++xs
 |[],acc,_=>(jX acc).symm|x::r,acc,h=>by
  have hx:acc.contains x=false:=by rw[List.contains_eq_mem,decide_eq_false_iff_not];intro hm;exact(Hx.mp h).2.2 x hm x Yd rfl
  show unlike (if acc.contains x then acc else acc++[x]) r=_;rw[hx,if_neg (by decide),ZgO (by rw[jl];exact h),jl];rfl
end
noncomputable section
noncomputable def ug(t:j9)(d:D)(M:Store):R3 D:=match d with
 | .str x=>.ok (.bl (dR x t).isSome) M|_=>.bad
noncomputable def Kv(t:j9)(d:D)(M:Store):R3 D:=match d with
 | .str x=>.ok (.bl (!(dR x t).isSome)) M|_=>.bad
noncomputable def Gb(t:j9)(d:D)(M:Store):R3 D:=match d with
 | .str x=>(match dR x t with
  |some i=>.ok (.int i) M|none=>.bad)
 |_=>.bad
end
noncomputable section
noncomputable def qt(a b:D)(M:Store):R3 D:=match a,b with
 | .ref n,.ref m=>(match M[n]?,M[m]? with
  |some (.lst x),Ya (.lst [])=>.ok (.bl (!x.isEmpty)) M|_,_=>.bad)
 |_,_=>.bad
theorem Zqb{n m:Nat}{x:List D}(h:M[n]?=Ya (.lst x))(k:M[m]?=Ya (.lst [])):qt (.ref n) (.ref m) M= .ok (.bl (!x.isEmpty)) M:=by simp only[qt,h,k]
end
noncomputable section
noncomputable def v_(o:D)(ds:List D)(M:Store):R3 D:=match o,ds with
 | .str sep,[.tup z]=>(match ir z with
  |some ts=>if j8 sep ts<=SZ then .ok (.str (glue sep ts)) M else .bad|none=>.bad)
 |_,_=>.bad
theorem Zo1{sep:List Nat}{ts:List (List Nat)}(h:j8 sep ts<=SZ):v_ (.str sep) [.tup (ts.map D.str)] M= .ok (.str (glue sep ts)) M:=by simp only[v_,Zju,if_pos h]
end
section
variable {X:Cx} {a b c:Expr} {f g h:E3} {pos:aV}
theorem Zqx{op op':CmpOp}{q q':D->D->Store->R3 D}(ho:aQ X (eV op) (r2 X.K q))(ho':aQ X (eV op') (r2 X.K q'))(ha:C3 X a f)(hb:C3 X b g)(hc:C3 X c h)(hm:lastMarks [op,op'] [b,c]=false:=by rfl):CT X (.Compare a [op,op'] [b,c] pos) (pB q q' f g h):=
 (ZqI ho ho' ha hb hc hm).imp λσ H Q ak=>by
  obtain⟨ι,M,env,S,E,hh⟩:=ak;obtain⟨da,M1,e1,hh⟩:=lZ.bind hh;refine⟨ι,M,env,S,E,?_⟩;rw[e1];intro v H1 ι1 x1 S1 r1;obtain⟨db,M2,e2,hh⟩:=lZ.bind hh;refine⟨ι1,M1,env,S1,E.mono x1,?_⟩;rw[e2];intro u H2 ι2 x2 S2 r2;obtain⟨dc,M3,e3,hh⟩:=lZ.bind hh;refine⟨ι2,M2,da,db,S2,r1.mono x2,r2,?_⟩;rw[e3];intro w H3 ι3 x3 S3 r3;cases dc with
  | bl k=>
   refine⟨k,r3.gn,?_⟩;cases k with
   |true=>rw[if_pos rfl];obtain⟨dd,M4,e4,hh⟩:=lZ.bind hh;refine⟨ι3,M3,env,S3,E.mono ((x1.trans x2).trans x3),?_⟩;rw[e4];intro w' H4 ι4 x4 S4 r4;exact⟨ι4,M4,db,dd,S4,r2.mono (x3.trans x4),r4,Fw (hh.up (((x1.trans x2).trans x3).trans x4))⟩|false=>rw[if_neg (by decide)];exact⟨false,rfl,hh H3 ι3 ((x1.trans x2).trans x3) S3⟩
  |_=>exact hh.elim
end
set_option maxRecDepth 100000
theorem Zm9(a d:Yh):Xb "max" ⟨[a],[("default",d)]⟩=pure ():=by kernel_rfl
theorem Kw:(Eb "max" ++Eb ".loop":String)= "max.loop":=by decide
variable{E:Yh->Yk->Prop}
theorem Zsr{prog:bF}{w:bx}{A:bK}{s:Yk}{a b:Int}{t u:fH}(h:Q (.bool (decide (a>b))) s):aq (aA prog w) A (richCompare .Gt (.int a t) (.int b u)) Q E s:=
 CmpOf.ints_gt (P:=λi v=>if i=0 then v= .int a t else v= .int b u) (λi=>if i=0 then a else b) (λi v hv=>by
  by_cases c:i=0
  .rw[if_pos c]at hv ⊢;exact⟨t,hv⟩
  .rw[if_neg c]at hv ⊢;exact⟨u,hv⟩) 0 1 _ _ s Q E rfl rfl h
theorem Zpy{vs:List Yh}{ns:List Int}(h:IntsAre vs ns):vs.length=ns.length:=by
 induction h with
 |nil=>rfl|cons n t _ ih=>rw[Yp,Yp,ih]
section
variable {prog:bF} {w:bx} {A:bK} {R:sS->Yk->Prop} {I L S:Y1} {vs:List Yh} {ns:List Int} {dv:Yh}
theorem ZrW(hh:A.in1.handled=Ym)(hLI:L≠I)(hSI:S≠I)(Bp:S≠L)(hi:IntsAre vs ns):∀(k j:Nat) (m:Int) (s:Yk) (tb:fH) (c:Nat),vs.length-(j+1)=k->j+1<=vs.length->s.heap.IsListIter I L (j+1)->s.heap.IsList L vs.toArray ->
  s.heap.get? S=Ya {cls:=.type "list",dict:=Ym,data:=.seq #[.int m tb,.int m tb] c,slots:=#[]} ->
  (∀h' t tk,(∀b o,b≠I->b≠S->s.heap.get? b=Ya o->h'.get? b=Ya o)->R (.ok (.ret (.int ((ns.drop (j+1)).foldl (λm x=>if x>m then x else m) m) t))) {s with heap:=h',toks:=tk}) ->
  mJ (aA prog w) A (.builtin "max.loop" ⟨[.ref I,.none,.ref S],[("default",dv)]⟩) R s:=by
 have W:=Jh (prog:=prog) (w:=w) (A:=A.in1) hh I L hLI vs.toArray;have len:ns.length=vs.length:=(Zpy hi).symm;intro k
 induction k with
 |zero=>
  intro j m s tb c hk hj hst hL hS hR;have hin:vs.toArray.size=j+1:=by rw[Yn];omega
  refine wY PJ ?_;rw[D_ xG _];refine Yg (Ds hS rfl ?_);refine Yg (Dt (W.done s _ _ (hin▸⟨hst,hL⟩) λh' tk hk'=>?_));have hS':=hk' S _ (by simp[hSI]) hS;refine Yg ?_;refine Ob hS' rfl (Yg (H_ (Yt ?_)));have e:ns.drop (j+1)=[]:=Hv (by omega);rw[e]at hR;exact hR _ tb _ λb o h1 h2 q=>(sW _ _ (cP h2)).trans (hk' b o (by simp[h1]) q)
 | succ k ih=>
  intro j m s tb c hk hj hst hL hS hR;have hlt:j+1<vs.length:=by omega
  refine wY PJ ?_;rw[D_ xG _];refine Yg (Ds hS rfl ?_);refine Yg (Dt (W.item (j+1) s _ _ (by rw[Yn];exact hlt) ⟨hst,hL⟩ λv h' tk hP hst' hk'=>?_));have hS':=hk' S _ (by simp[hSI]) hS;obtain⟨x,t,hx,rfl⟩:∃x t,ns[j+1]?=Ya x/\v= .int x t:=by rw[Ww]at hP;obtain⟨x,t,e,hx⟩:=hi.at (j+1) v hP;exact⟨x,t,hx,e⟩
  have ed:ns.drop (j+1)=x::ns.drop (j+1+1):=by have hl:j+1<ns.length:=(Yf.mp hx).1;rw[zm hl,(Yf.mp hx).2]
  rw[ed,qN]at hR;refine Yg (Yt ?_);refine Yg (Dt (gY (Yg (Zsr ?_))));refine Yg (gY (pN ?_));refine Yg (H_ (Yt ?_));by_cases hb:x>m
  .rw[if_pos hb]at hR;rw[decide_eq_true hb];simp only[if_true];refine Yg ?_;refine Ob hS' rfl (Yg (H_ ?_));rw[Kw];refine Yt ⟨Du xG _,ih (j+1) x _ t _ (by omega) hlt (hst'.1.at λo e=>(sW _ _ hSI).trans e) (hst'.2.at λo e=>(sW _ _ Bp).trans e) (Ir _ hS' rfl) λh'' t' tk' hk''=>?_⟩;exact hR h'' t' tk' λb o h1 h2 q=>hk'' b o h1 h2 ((sW _ _ (cP h2)).trans (hk' b o (by simp[h1]) q))
  .rw[if_neg hb]at hR;rw[decide_eq_false hb];simp only[zN,if_false];refine Yg (H_ ?_);rw[Kw];refine Yt ⟨Du xG _,ih (j+1) m _ tb c (by omega) hlt hst'.1 hst'.2 hS' λh'' t' tk' hk''=>?_⟩;exact hR h'' t' tk' λb o h1 h2 q=>hk'' b o h1 h2 (hk' b o (by simp[h1]) q)
end
section
variable {prog:bF} {w:bx} {A:bK} {E:Yh->Yk->Prop} {s:Yk} {L:Y1} {vs:List Yh} {ns:List Int} {k:Int} {td:fH}
theorem ZoH(hh:A.handled=Ym)(hL:s.heap.IsList L vs.toArray)(hi:IntsAre vs ns)(h:∀h' t tk,(∀b o,s.heap.get? b=Ya o->h'.get? b=Ya o)->Q (.int (v7 k ns) t) {s with heap:=h',toks:=tk}):aq (aA prog w) A (call (.builtin "max") [.ref L] [("default",.int k td)]) Q E s:=by
 have hh1:A.in1.handled=Ym:=hh;have hlt:L<s.heap.objs.size:=by obtain⟨_,e,_⟩:=hL;exact Y3 e
 refine Dv (HJ F.plain_max F.entry_max (HY (Zm9 _ _) ?_));refine Yg (HY (show Builtin.Builtins.bindParams "max" ["key","default"] 0 ⟨[],[("default",.int k td)]⟩=pure [Ym,Ya (.int k td)]from rfl) ?_);refine Yg (Yt ?_);refine Yg (uV hL ?_);refine Yg (sI ?_);rw[Kw]
 let h1:=s.heap.push {cls:=.type "list_iterator",data:=.fields #[.ref L,.int 0 0]}
 let h2:=h1.push {cls:=.type "list",data:=.seq #[]}
 have e1:h1.objs.size=s.heap.objs.size+1:=xq ..;have up:∀b o,s.heap.get? b=Ya o->h2.get? b=Ya o:=λb o q=>Yl _ (Yl _ q);have hI:h2.IsListIter s.heap.objs.size L 0:=⟨_,Yl _ (Y2 _ rfl),rfl,rfl⟩;have hL2:h2.IsList L vs.toArray:=(hL.push _).push _;have hS:h2.get? h1.objs.size=Ya {cls:=.type "list",dict:=Ym,data:=.seq #[] 0,slots:=#[]}:=Y2 _ rfl;have hLI:L≠s.heap.objs.size:=dz hlt;have ls:s.heap.objs.size<h1.objs.size:=e1▸Dz _;have hSI:h1.objs.size≠s.heap.objs.size:=DP ls;have Bp:h1.objs.size≠L:=DP (mK hlt ls);have W:=Jh (prog:=prog) (w:=w) (A:=A.in1) hh1 s.heap.objs.size L hLI vs.toArray;have old:∀{h':aO},(∀b o,b≠s.heap.objs.size->b≠h1.objs.size->h2.get? b=Ya o->h'.get? b=Ya o)->∀b o,s.heap.get? b=Ya o->h'.get? b=Ya o:=λhk b o q=>by exact hk b o (dz (Y3 q)) (dz (mK (Y3 q) ls)) (up b o q)
 refine Yt ⟨Du xG _,wY PJ ?_⟩;rw[D_ xG _];refine Yg (Ds hS rfl ?_);cases hi with
 |nil=>refine Yg (Dt (W.done _ _ _ ⟨hI,hL2⟩ λh' tk hk=>?_));refine Yg (Ia (Yt ?_));exact h h' td tk (old λb o h1 h2 q=>hk b o (by simp[h1]) q)|cons n t hr=>
  refine Yg (Dt (W.item 0 _ _ _ (by simp) ⟨hI,hL2⟩ λv h' tk hP hst hk=>?_));have hS':=hk _ _ (by simp[hSI]) hS;obtain rfl:v= .int n t:=by simpa using hP.symm
  refine Yg (Yt ?_);refine Yg ?_;refine Ob hS' rfl ?_;rw[Kw];refine Yt ⟨Du xG _,ZrW hh1 hLI hSI Bp (.cons n t hr) _ 0 n _ t _ rfl (by simp) (hst.1.at λo e=>(sW _ _ hSI).trans e) (hst.2.at λo e=>(sW _ _ Bp).trans e) (Ir _ hS' rfl) λh'' t' tk' hk''=>?_⟩;exact h h'' t' tk' (old λb o h1 h2 q=>hk'' b o h1 h2 ((sW _ _ (cP h2)).trans (hk b o (by simp[h1]) q)))
end
section
variable {X:Cx} {a:Expr} {p pos kp cp:aV} {f:E3} {k:Int}
def Zvz(K:Yb)(k:Int)(ta:TA):TE:=λσ H Q=>ta σ H λvs H1=>∃b xs ns,vs=[.ref b]/\bC K H1 b xs/\(∀us,Vals xs us->IntsAre us ns)/\Q (.int (v7 k ns)) H1
theorem ZkY{M:Model}{A:bK}{s:Yk}{env:eY}{T:String}{e:Expr}{kws:List Keyword}(h:aq M A (Ih (b7 pos (Yw [e] env))) (λvs s₁=>aq M A (Ij ((iU pos (iR kws env)).map (·.2)))
   (λkvs s₂=>aq M A (call (.builtin T) vs (((iU pos (iR kws env)).filterMap (·.1)).zip kvs)) Q E s₂) E s₁) E s)(he:b7 pos (Yw [e] env)=[(false,aG e env)])(hall:(iU pos (iR kws env)).all (·.1.isSome)=true)(hkw:(iU pos (iR kws env)).any (·.1.isNone)=false):
  aq M A (Ie pos (.builtin T) [] (b7 pos (Yw [e] env)) (iU pos (iR kws env))) Q E s:=by
 rw[he]at h ⊢;unfold Ie;refine Yg (gY (jz (XD (Q:=λa s₁=>aq M A (call (.builtin T) a.pos a.kw) Q E s₁) hall h) (λa s₁ h₁=>Yg (uX ?_)) λ_ _ x=>x));simp only[hkw,kW,List.any_nil,Iv];refine Yg (Yt (Yg ?_));exact jz h₁ (λr s₂ hr=>Yg (gY (wpAny_point (Yt hr)))) λ_ _ x=>x
theorem Zsg{ta:TA}{j}(hg:Gl X "max")(hm:X.mg "max" =Ym)(hc:X.calm=true)(ha:PA X [a] ta)(he:b7 pos (Yw [a] X.env)=[(false,aG a X.env)]):
  PE X (.Call (.Name "max" p) [a] [⟨Ya "default",.Constant (.int k) j cp,kp⟩] pos) (Zvz X.K k ta):=by
 intro pins s σ H R I h;refine zx (xO I hg hm boot_max (ZkY (aF (ha pos pins s σ H _ I h) λus s1 ak=>?_) he rfl rfl));obtain⟨vs,H1,I1,r1,q1⟩:=ak;refine aF ((ZnY (nm:=Ya "default") (kpos:=kp) (Qs (j:=j) (pos:=cp) (i:=k)) Zqv) pos pins s1 σ H1 (λzs H'=>zs=[.int k]/\H'=H1) I1 ⟨rfl,rfl⟩) λws s2 Ga=>?_;obtain⟨zs,H2,I2,rz,rfl,rfl⟩:=Ga;obtain⟨b,xs,ns,e,hq,hi,q⟩:=q1;subst e;cases r1 with
 | cons r rr=>
  cases rr
  cases r
  cases rz with
  |cons r' rr=>
   cases rr
   obtain⟨t,rfl⟩:=r';obtain⟨its,rv,pl,hz⟩:=I2.list hq;refine ZoH (td:=t) (I2.ok.hd hc) pl.isList (hi its rv) λh' t' tk hk=>?_;exact⟨.int (v7 k ns),H2,I2.kept (t':=tk) hk,⟨t',rfl⟩,q⟩
theorem ZpC{j}(hm:X.mg "max" =Ym)(h:C3 X a f)(hg:Gl X "max":=by rfl)(hc:X.calm=true:=by rfl)(he:b7 pos (Yw [a] X.env)=[(false,aG a X.env)]:=by rfl)(hs':Yw (a::[]) X.env=(false,aG a X.env)::Yw [] X.env:=by rfl):
  C3 X (.Call (.Name "max" p) [a] [⟨Ya "default",.Constant (.int k) j cp,kp⟩] pos) (aB (Bo k) (Zb f Zf)):=
 (Zsg hg hm hc (Zc h Zg hs') he).imp λσ H Q ak=>by
  obtain⟨ι,M,env,S,E,h⟩:=ak;refine⟨ι,M,env,S,E,?_⟩;have h:Zt X.K H ι Q ((Zb f Zf env M).bind λds M'=>Bo k ds M'):=h;cases q:Zb f Zf env M with
  |exc _ _=>rw[q]at h;exact h.elim|bad=>rw[q]at h;exact h.elim|ok ds M1=>
   rw[q]at h;intro vs H1 ι1 x1 S1 r1;have h:Zt X.K H ι Q (Bo k ds M1):=h
   match ds,h,r1 with
   |[],h,_=>exact h.elim|d1::d2::r,h,_=>cases d1<;>exact h.elim|[d],h,r1=>
    cases d with
    |ref n=>obtain⟨xs,hn,h⟩:=J6 h;obtain⟨d,hd,h⟩:=FN h;obtain⟨ns,hns,rfl⟩:=Nh.mp hd;obtain⟨v,ws,rfl,rv,Sd⟩:=r1;obtain⟨p,hp,rfl⟩:=rv.dJ;obtain⟨us,e1,r2⟩:=S1.obj n _ p hn hp;rw[show ws=[]from Sd];exact⟨p,us,ns,rfl,.inl (.inl e1),λits rr=>ZjU hns r2 rr,Zt.ok (h.up x1) S1 Rep.int⟩|_=>exact h.elim
end
set_option maxRecDepth 100000
noncomputable def mV:List aj->List aj->List aj
 |acc,[]=>acc|acc,x::r=>mV (if acc.any (· ==x)then acc else acc++[x]) r
theorem any_put(acc:List aj)(x k:aj):(if acc.any (· ==x)=true then acc else acc++[x]).any (· ==k)=(acc.any (· ==k)|| decide (k=x)):=by
 by_cases c:acc.any (· ==x)=true
 .rw[if_pos c];by_cases e:k=x
  .rw[e,c];rfl
  .rw[decide_eq_false e,Iv]
 .rw[if_neg c,List.any_append];congr 1;by_cases e:k=x
  .subst e;simp
  .rw[decide_eq_false e];simp[cP e]
section
variable {prog:bF} {w:bx} {A:bK} {R:sS->Yk->Prop} {I L S:Y1} {l:List (aj×fH)}
theorem ZsA(hh:A.in1.handled=Ym)(hLI:L≠I)(hSI:S≠I)(Bp:S≠L)(hb:l.length<=20):∀(k i:Nat) (acc:List aj) (s:Yk),l.length-i=k->i<=l.length->acc.length<=i->s.heap.IsListIter I L i->s.heap.IsList L (kY l).toArray->s.heap.SetOf (strKind prog w) S (λk=>acc.any (· ==k)) acc.length ->
  (∀h' tk,(∀b o,b≠I->b≠S->s.heap.get? b=Ya o->h'.get? b=Ya o)->h'.SetOf (strKind prog w) S (λk=>(mV acc ((l.drop i).map (·.1))).any (· ==k)) (mV acc ((l.drop i).map (·.1))).length->R (.ok (.ret .none)) {s with heap:=h',toks:=tk}) ->
  mJ (aA prog w) A (.builtin "set.update.loop" ⟨[.ref S,.ref I],[]⟩) R s:=by
 have W:=Jh (prog:=prog) (w:=w) (A:=A.in1) hh I L hLI (kY l).toArray;have sz:(kY l).toArray.size=l.length:=by simp[kY]
 intro k
 induction k with
 |zero=>
  intro i acc s hk hi ha hst hL hS hR;have hin:(kY l).toArray.size=i:=by omega
  refine wY X5 ?_;rw[D_ Pj _];refine Yg (W.done s _ _ (hin▸⟨hst,hL⟩) λh' tk hk'=>?_);have e:l.drop i=[]:=Hv (by omega);rw[e]at hR;obtain⟨o,es,ep,t,ho,rest⟩:=hS;exact Yt (hR h' tk (λb o h1 _ q=>hk' b o (by simp[h1]) q) ⟨o,es,ep,t,hk' S _ (by simp[hSI]) ho,rest⟩)
 | succ k ih=>
  intro i acc s hk hi ha hst hL hS hR;have hlt:i<l.length:=by omega
  refine wY X5 ?_;rw[D_ Pj _];refine Yg (W.item i s _ _ (by omega) ⟨hst,hL⟩ λv h' tk hP hst' hk'=>?_);have hv:v= .str (l[i]'hlt).1 (l[i]'hlt).2:=by rw[Ww]at hP;simp only[kY,jV,Y9 hlt,Ni]at hP;exact(Y8 hP).symm
  have ed:l.drop i=l[i]'hlt::l.drop (i+1):=zm hlt;rw[ed,Yu]at hR;generalize l[i]'hlt=q at hv hR;obtain⟨x,t⟩:=q;subst hv;have hS':h'.SetOf (strKind prog w) S (λk=>acc.any (· ==k)) acc.length:=by obtain⟨o,es,ep,tb,ho,rest⟩:=hS;exact⟨o,es,ep,tb,hk' S _ (by simp[hSI]) ho,rest⟩
  have hx:(strKind prog w).is x (.str x t)=true:=beq_self_eq_true x;have room:acc.length+1<Ox:=by have:Ox=4096:=rfl;omega
  refine Yg (gY ?_);unfold setAdd;refine gY ?_;refine Yg ((strKind prog w).pyHash (k:=x) hx ?_);refine wpAny_setAddHashed_of (knd:=strKind prog w) hx rfl hS' room λh'' sb hS2=>?_;refine Yt ⟨Du Pj _,ih (i+1) (if acc.any (· ==x)=true then acc else acc++[x]) _ (by omega) hlt ?_ (hst'.1.at λo e=>(sb.2 I (cP hSI)).trans e) (hst'.2.at λo e=>(sb.2 L (cP Bp)).trans e) ?_ λh3 tk3 hk3 hS3=>?_⟩
  .by_cases c:acc.any (· ==x)=true
   .rw[if_pos c];omega
   .rw[if_neg c,Ye,jb];omega
  .refine SetOf_congr hS2 (λk=>(any_put acc x k).symm) ?_;by_cases c:acc.any (· ==x)=true
   .rw[if_pos c,if_pos c]
   .rw[if_neg c,if_neg c,Ye,jb]
  .exact hR h3 tk3 (λb o h1 h2 q=>hk3 b o h1 h2 ((sb.2 b h2).trans (hk' b o (by simp[h1]) q))) hS3
end
noncomputable abbrev qw(led:Bool):aM:={cls:=.type "set",dict:=Ym,data:=.set #[] 0 (.fresh 0 0 led)}
section
variable {prog:bF} {w:bx} {A:bK} {E:Yh->Yk->Prop} {s:Yk} {L:Y1} {l:List (aj×fH)}
theorem ZoJ(hh:A.handled=Ym)(hl:s.heap.IsList L (kY l).toArray)(hb:l.length<=20)(led:Bool){R:sS->Yk->Prop}(h:∀h' tk,h'.SetOf (strKind prog w) s.heap.objs.size (λk=>(mV [] (l.map (·.1))).any (· ==k)) (mV [] (l.map (·.1))).length->(∀b o,s.heap.get? b=Ya o->h'.get? b=Ya o)->R (.ok (.ret .none)) {s with heap:=h',toks:=tk}):
  aq (aA prog w) A.in1 (Builtin.«set.__init__» ⟨[.ref s.heap.objs.size,.ref L],[]⟩) (λfin s'=>match fin with| .done f=>R (.ok f) s'| .again c'=>c'.quiet=true/\mJ (aA prog w) A c' R s') (λe s'=>R (.error e) s') {s with heap:=s.heap.push (qw led)}:=by
 have hS:(s.heap.push (qw led)).get? s.heap.objs.size=Ya (qw led):=Y2 _ rfl;obtain⟨ol,hol,hcl,nl,hdl⟩:=hl;obtain⟨ocls,odict,odata,oslots⟩:=ol;simp only at hcl hdl;subst hcl hdl;have hol':(s.heap.push (qw led)).get? L=Ya {cls:=.type "list",dict:=odict,data:=.seq (kY l).toArray nl,slots:=oslots}:=Yl _ hol;have f1:=PySem.F.sub_list_set;have f2:=PySem.F.sub_list_frozenset;have f3:(Value.type "list" ==Value.type "dict")=false:=by decide
 have hl1:(s.heap.push (qw led)).IsList L (kY l).toArray:=⟨_,hol',rfl,nl,rfl⟩;have hlS:L<s.heap.objs.size:=Y3 hol;have e1:(s.heap.push (qw led)).objs.size=s.heap.objs.size+1:=xq ..;have ls:s.heap.objs.size<(s.heap.push (qw led)).objs.size:=e1▸Dz _;unfold Builtin.«set.__init__» noKeywords Builtin.Frozenset.updateFrom;generalize hPI:zG=PI
 wp_walk
 subst hPI;refine uV hl1 ?_;refine Yg (wpAny_runValue ?_);refine ZsA (by simp[hh]) (dz (mK hlS ls)) (dz ls) (DP hlS) hb _ 0 [] _ rfl (eZ _) (Ys _) ⟨_,Y2 _ rfl,rfl,rfl⟩ (hl1.push _) ?_ λh' tk hk hS'=>?_
 .exact SetOf_congr ((setObjOf_fresh (knd:=strKind prog w) led).setOf (Yl _ hS) (by unfold Ox;omega)) (λ_=>rfl) rfl
 .refine Yt ?_;refine Yt (h h' tk hS' λb o q=>?_);have lb:=Y3 q;exact hk b o (dz (mK lb ls)) (dz lb) (Yl _ (Yl _ q))
end
set_option maxHeartbeats 1600000 in
theorem ZoY{prog:bF}{w:bx}{A:bK}{s:Yk}{L:Y1}{l:List (aj×fH)}(hh:A.handled=Ym)(hl:s.heap.IsList L (kY l).toArray)(hb:l.length<=20)(h:∀h' tk,h'.SetOf (strKind prog w) s.heap.objs.size (λk=>(mV [] (l.map (·.1))).any (· ==k)) (mV [] (l.map (·.1))).length->(∀b o,s.heap.get? b=Ya o->h'.get? b=Ya o)->Q (.ref s.heap.objs.size) {s with heap:=h',toks:=tk}):
  aq (aA prog w) A (call (.type "set") [.ref L]) Q E s:=by
 obtain⟨c,tl,hmro⟩:=PySem.F.called_set.mro;have g1:=PySem.F.called_set.made;have g2:=PySem.F.called_set.sub;have g3:=PySem.F.called_set.notType;have g4:=PySem.F.called_set.canCreate;have g5:=PySem.F.typeCall_set_1 (.ref L);refine Dv (Xd (Yt ⟨Z6 _ (by decide +kernel),wY PySem.F.entry_type_call ?_⟩));rw[YT (W4 "set" [.ref L] []) rfl]
 repeat(any_goals(first|assumption|wp_step))
 refine uY (code_set_new_1 (.ref L) (E:=E) (Q₁:=λo s1=>∃led,o= .ref s.heap.objs.size/\s1={s with heap:=s.heap.push (qw led)}) λled=>⟨led,rfl,rfl⟩) λr s1 hr=>?_;cases r with
 |error e=>exact hr|ok fl=>cases fl with
  | ret o=>
   obtain⟨led,rfl,rfl⟩:=hr;have hS:(s.heap.push (qw led)).get? s.heap.objs.size=Ya (qw led):=Y2 _ rfl;have hT:Shared.TypeIs {s with heap:=s.heap.push (qw led)} (.ref s.heap.objs.size) "set":=⟨_,hS,rfl⟩;have k1:=PySem.F.called_set.init.lookup;have k2:=PySem.F.called_set.init.bind (.ref s.heap.objs.size)
   repeat(any_goals(first|assumption|wp_step))
   refine uY (HJ (R:=wants (λr s2=>r= .none/\∃h' tk,s2={s with heap:=h',toks:=tk}/\h'.SetOf (strKind prog w) s.heap.objs.size (λk=>(mV [] (l.map (·.1))).any (· ==k)) (mV [] (l.map (·.1))).length/\∀b o,s.heap.get? b=Ya o->h'.get? b=Ya o) E) PySem.F.called_set.init.plain PySem.F.entry_set_init (check_set_init_1 hT ?_)) λr2 s2 hr2=>?_
   .exact ZoJ (by simp[hh]) hl hb led λh' tk a b=>⟨rfl,h',tk,rfl,a,b⟩
   .cases r2 with
    |error e=>exact hr2|ok f2=>cases f2 with
     |ret r=>
      obtain⟨rfl,h',tk,rfl,a,b⟩:=hr2
      repeat(any_goals(first|assumption|wp_step))
      exact h _ _ a b
     |_=>exact hr2.elim
  |_=>exact hr.elim
noncomputable def Ky(X:Cx)(p:Y1)(n:Nat):HO:=.ext λh=>∃S,h.SetOf (strKind X.prog X.w) p S n
section
variable {X:Cx} {a:Expr} {p p2 q pos:aV} {f:E3}
theorem Zjr:∀{x:List D} {ts:List (List Nat)},ir x=Ya ts->ts.length=x.length
 |[],ts,h=>by cases h;rfl|.str y::x,ts,h=>by have h:(ir x).map (y:: ·)=Ya ts:=h;obtain⟨r,hr,rfl⟩:=Nh.mp h;rw[Yp,Yp,Zjr hr]
 | .non::_,_,h=>nomatch h|.bl _::_,_,h=>nomatch h|.int _::_,_,h=>nomatch h|.tup _::_,_,h=>nomatch h
 | .aZ _::_,_,h=>nomatch h|.ref _::_,_,h=>nomatch h
theorem ZoI(hc:X.calm=true):L2.cR X (.type "set") (λxs H Q=>∃b ys sts,xs=[.ref b]/\bC X.K H b ys/\(∀us,Vals ys us->∃l:List (aj×fH),us=kY l/\l.map (·.1)=sts)/\sts.length<=20/\∀p,H p=Ym->Q (.ref p) (upd H p (Ky X p (mV [] sts).length))):=by
 intro pins s σ H xs us Q I r h;obtain⟨b,ys,sts,rfl,hq,hi,hl,q⟩:=h;obtain⟨u,rfl,ru⟩:=vals1 r;cases ru;obtain⟨its,rv,pl,hz⟩:=I.list hq;obtain⟨l,rfl,rfl⟩:=hi its rv;rw[Yv]at hl;refine ZoY (I.ok.hd hc) pl.isList hl λh' tk hS hk=>?_;refine⟨.ref s.heap.objs.size,_,I.laid (t':=tk) (o:=Ky X s.heap.objs.size (mV [] (l.map (·.1))).length) hk (Ys _) ⟨⟨_,hS⟩,?_,?_⟩,rfl,q _ (I.hok.fresh (Ys _))⟩
 .obtain⟨o,_,_,_,ho,_⟩:=hS;exact⟨o,ho⟩
 .intro _ _ z kk;obtain⟨S,o,es,ep,t,ho,rest⟩:=z;exact⟨S,o,es,ep,t,kk o ho,rest⟩
theorem Zo5:L2.cR X (.builtin "len") (λxs H Q=>∃p n,xs=[.ref p]/\H p=Ya (Ky X p n)/\n<=20/\Q (.int (n:Int)) H):=by intro pins s σ H xs us Q I r h;obtain⟨p,n,rfl,hp,hn,q⟩:=h;obtain⟨u,rfl,ru⟩:=vals1 r;cases ru;obtain⟨⟨S,o,es,ep,t,ho,hex,hd,_,_,_,hf,hsz⟩,_⟩:=I.hok p _ hp;subst hsz;refine call_len_set ho hex hd hf (by omega) ?_;exact⟨.int (es.size:Int),H,(I.tok _).tok _,⟨_,rfl⟩,q⟩
theorem Sg:∀(xs acc:List (List Nat)),(mV (acc.map λt=>(⟨t.toArray⟩:aj)) (xs.map λt=>(⟨t.toArray⟩:aj))).length=(unlike acc xs).length
 |[],acc=>Yv ..|x ::r,acc=>by
  have e:(acc.map λt=>(⟨t.toArray⟩:aj)).any (· ==(⟨x.toArray⟩:aj))=acc.contains x:=by
   induction acc with
   |nil=>rfl|cons y acc ih=>
    rw[Yu,kW,List.contains_cons,ih];congr 1;by_cases c:y=x
    .subst c;simp
    .have:(⟨y.toArray⟩:aj)≠⟨x.toArray⟩:=λz=>c (by injection z with z;simpa using congrArg zU z)
     rw[beq_eq_false_iff_ne.mpr this,beq_eq_false_iff_ne.mpr (cP c)]
  show(mV (if(acc.map λt=>(⟨t.toArray⟩:aj)).any (· ==(⟨x.toArray⟩:aj))then _ else _) _).length=(unlike (if acc.contains x then acc else acc++[x]) r).length;rw[e];by_cases c:acc.contains x=true
  .rw[if_pos c,if_pos c];exact Sg r acc
  .rw[if_neg c,if_neg c];have:=Sg r (acc++[x]);rw[jY]at this;exact this
theorem Zii:∀(xs acc:List (List Nat)),(unlike acc xs).length<=acc.length+xs.length
 |[],acc=>jc _ _|x::r,acc=>by
  show(unlike (if acc.contains x then acc else acc++[x]) r).length<=_;have h:=Zii r (if acc.contains x then acc else acc++[x]);have k:(if acc.contains x then acc else acc++[x]).length<=acc.length+1:=by
   by_cases c:acc.contains x=true
   .rw[if_pos c];omega
   .rw[if_neg c,Ye,jb];exact Ys _
  rw[Yp];omega
theorem Zps(hm:X.mg "len" =Ym)(hm2:X.mg "set" =Ym)(h:C3 X a f)(hc:X.calm=true:=by rfl)(hg:Gl X "len":=by rfl)(hg2:Gl X "set":=by rfl)(hs:Yw [a] X.env=(false,aG a X.env)::Yw [] X.env:=by rfl)(hs2:Yw [.Call (.Name "set" p2) [a] [] q] X.env=(false,aG (.Call (.Name "set" p2) [a] [] q) X.env)::Yw [] X.env:=by rfl)(h1:(b7 q (Yw [] X.env)).any (·.1)=false:=by rfl)(h2:(b7 pos (Yw [] X.env)).any (·.1)=false:=by rfl):
  C3 X (.Call (.Name "len" p) [.Call (.Name "set" p2) [a] [] q] [] pos) (aB Ku (Zb f Zf)):=
 (JB (r:=λxs H Q=>∃p n,xs=[.ref p]/\H p=Ya (Ky X p n)/\n<=20/\Q (.int (n:Int)) H) Zo5 hg hm fj (vD (ZjV (ZoI hc) hg2 hm2 (by decide +kernel) (Zc h Zg hs) (by decide) (by decide) hs h1) Ep hs2) (by decide) (by decide) hs2 h2).imp λσ H Q ak=>by
  obtain⟨ι,M,env,S,E,h⟩:=ak;obtain⟨ds,M1,e1,h⟩:=Zt.bind h;refine⟨ι,M,env,S,E,?_⟩;rw[e1];intro vs H1 ι1 x1 S1 r1
  match ds,h,r1 with
  |[],h,_=>exact h.elim|d1::d2::r,h,_=>cases d1<;>exact h.elim|[d],h,r1=>
   cases d with
   |ref n=>
    obtain⟨xs,hn,h⟩:=J6 h;obtain⟨d,hd,h⟩:=FN h;obtain⟨hl,h⟩:=vU h;obtain⟨ts,hts,rfl⟩:=Nh.mp hd;obtain⟨v,ws,rfl,rv,Sd⟩:=r1;obtain⟨p,hp,rfl⟩:=rv.dJ;obtain⟨us,e2,r2⟩:=S1.obj n _ p hn hp;rw[show ws=[]from Sd];have tl:ts.length<=20:=by rw[Zjr hts];exact hl
    refine⟨p,us,ts.map λt=>(⟨t.toArray⟩:aj),rfl,.inl (.inl e2),λits rr=>Kl hts r2 rr,by rw[Yv];exact tl,λz hz=>?_⟩;have e3:(mV [] (ts.map λt=>(⟨t.toArray⟩:aj))).length=(unlike [] ts).length:=Sg ts [];have l3:(unlike [] ts).length<=20:=Yj (Zii ts []) (by rw[zu,vp];exact tl);refine⟨z,_,rfl,pY,by rw[e3];exact l3,?_⟩;rw[e3];exact h _ _ ι1 (x1.trans (Loose.ext (.inl hz))) (S1.other (.inl hz) (S1.fresh hz)) Rep.int
   |_=>exact h.elim
end
section
variable {prog:bF} {w:bx} {A:bK} {E:Yh->Yk->Prop} {s:Yk} {a:Y1} {tk:fH}
theorem Zom{R:δ->Yh->Prop}{T:List (aj×δ)}{k:aj}{Q:Bool->Yk->Prop}(h:pX R s.heap a T)(q:Q (nu k T).isSome {s with toks:=s.toks+1}):aq (aA prog w) A (Ig (.ref a) (.str k tk)) Q E s:=by
 unfold Ig
 try with_reducible refine gY ?_
 refine Yg (Oa (rJ h) PySem.F.slot_dict_contains.lookup ?_);show aq _ _ (if(Ya (Value.builtin "dict.__contains__")==Ya Value.none)=true then _ else _) _ E s;rw[if_neg (by rw[beq_builtin_none];exact k_)];refine Yg (wpAny_callSpecialUnlessNone?_slot (name:=pW "__contains__") (rJ h) X6
  (uW X6 (rJ h) PySem.F.entry_dict_contains ?_ (args_dict_contains _ _)))
 show aq _ _ (u_ a (.str k tk)>>=_) _ _ s;refine Yg (Zip h (λd v e _=>?_) λe=>?_)
 .rw[e]at q;show aq _ _ (ret (.bool true)) _ _ _;exact Yt ⟨_,rfl,pN q⟩
 .rw[e]at q;show aq _ _ (Builtin.Dict.pendingKey? a (.str k tk)>>=_) _ _ _;exact Yg (wpAny_pendingKey_other h.1 (Yt ⟨_,rfl,pN q⟩))
theorem Zpc{R:δ->Yh->Prop}{T:List (aj×δ)}{k:aj}{d:δ}(h:pX R s.heap a T)(e:nu k T=Ya d)(h1:∀v,R d v->Q v {s with toks:=s.toks+1}):aq (aA prog w) A (pP (.ref a) (.str k tk)) Q E s:=by
 unfold pP
 try with_reducible refine gY ?_
 refine Yg (N8 (rJ h) (by decide) ?_);refine Yg (wW (name:=pW "__getitem__") (rJ h) X7
  (uW X7 (rJ h) PySem.F.entry_dict_getitem ?_ (PySem.F.args_dict_getitem_2 _ _)))
 show aq _ _ (u_ a (.str k tk)>>=λo=>_) _ _ s;refine Yg (Zip h (λd' v e' r=>?_) λe'=>by rw[e]at e';cases e');rw[e]at e';cases e';exact Yt ⟨v,rfl,Yt (h1 v r)⟩
end
section
variable {X:Cx} {e:Expr} {x:aj} {a:Y1} {t:j9} {npos pos:aV} {g:E3}
def Sh(t:j9)(a:Y1)(p:Bool->Bool):R2:=λx y H Q=>y= .ref a/\∃k,x= .str ⟨k.toArray⟩/\Q (.bl (p (dR k t).isSome)) H
theorem Zn0(ht:mj X.K a t):aQ X (eV .In) (Sh t a λb=>b):=by intro pins s σ H x y v u Q I rx ry h;obtain⟨rfl,k,rfl,q⟩:=h;obtain⟨tk,rfl⟩:=rx;obtain rfl:u= .ref a:=ry;show aq _ _ ((do return Value.bool (←Ig (.ref a) (.str ⟨k.toArray⟩ tk))):oN Yh) _ _ _;refine Yg (Zom (ht.at I.dW) (Yt ⟨.bl (nu (⟨k.toArray⟩:aj) (Bl t)).isSome,H,I.tok _,rfl,?_⟩));rw[Bm];exact q
theorem Zmt(ht:mj X.K a t):aQ X (eV .NotIn) (Sh t a λb=>!b):=by intro pins s σ H x y v u Q I rx ry h;obtain⟨rfl,k,rfl,q⟩:=h;obtain⟨tk,rfl⟩:=rx;obtain rfl:u= .ref a:=ry;show aq _ _ ((do return Value.bool (!(←Ig (.ref a) (.str ⟨k.toArray⟩ tk)))):oN Yh) _ _ _;refine Yg (Zom (ht.at I.dW) (Yt ⟨.bl (!(nu (⟨k.toArray⟩:aj) (Bl t)).isSome),H,I.tok _,rfl,?_⟩));rw[Bm];exact q
theorem Sq{p:Bool->Bool}{q:D->Store->R3 D}(hq:∀d M,q d M=(match d with| .str k=>.ok (.bl (p (dR k t).isSome)) M|_=>.bad))(σ:St)(H:Hp)(Q:VK)(h:lY X.K (e1 q g) σ H Q):z_ (Sh t a p) (lY X.K g) (tC (.ref a)) σ H Q:=by
 obtain⟨ι,M,env,S,E,h⟩:=h;obtain⟨d,M1,e1,h⟩:=Zt.bind h;refine⟨ι,M,env,S,E,?_⟩;rw[e1];intro y H1 ι1 x1 S1 r1;rw[hq]at h;cases d with
 |str k=>
  cases r1.str_inv
  exact⟨rfl,k,rfl,h _ H1 ι1 x1 S1 Rep.bl⟩
 |_=>exact h.elim
section
variable (hm:X.mg x=Ya (.ref a)) (ht:mj X.K a t) (he:C3 X e g)
include hm ht he
theorem ZsK(hg:Gl X x:=by rfl)(hd:(x==("__debug__":aj))=false:=by decide)(hb:wZ .In (.Name x npos)=false:=by rfl):C3 X (.Compare e [.In] [.Name x npos] pos) (e1 (ug t) g):=(Zn5 (Zn0 ht) he (zY (v:=.ref a) hg hm rfl hd) hb).imp (Sq λd _=>by cases d<;>rfl)
theorem Zrd(hg:Gl X x:=by rfl)(hd:(x==("__debug__":aj))=false:=by decide)(hb:wZ .In (.Name x npos)=false:=by rfl):CT X (.Compare e [.In] [.Name x npos] pos) (e1 (ug t) g):=(QD (Zn0 ht) he (zY (v:=.ref a) hg hm rfl hd) hb).imp λσ H Q ak=>by obtain⟨ι,M,env,S,E,h⟩:=ak;exact Sq (λd _=>by cases d<;>rfl) σ H _ ⟨ι,M,env,S,E,Fw h⟩
theorem Zlj(hg:Gl X x:=by rfl)(hd:(x==("__debug__":aj))=false:=by decide)(hb:wZ .NotIn (.Name x npos)=false:=by rfl):CT X (.Compare e [.NotIn] [.Name x npos] pos) (e1 (Kv t) g):=(QD (Zmt ht) he (zY (v:=.ref a) hg hm rfl hd) hb).imp λσ H Q ak=>by obtain⟨ι,M,env,S,E,h⟩:=ak;exact Sq (λd _=>by cases d<;>rfl) σ H _ ⟨ι,M,env,S,E,Fw h⟩
end
theorem Zrl{te:TE}(hm:X.mg x=Ya (.ref a))(ht:mj X.K a t)(he:PE X e te)(hs:JM e)(hg:Gl X x)(hd:(x==("__debug__":aj))=false):
  PE X (.Subscript (.Name x npos) e pos) (λσ H Q=>te σ H λy H1=>∃k i,y= .str ⟨k.toArray⟩/\dR k t=Ya i/\Q (.int i) H1):=by
 intro pins s σ H Q I h;refine ZsG PySem.F.slot_dict_getitem.lookup hs (aF (zY (v:=.ref a) (u:=.ref a) hg hm rfl hd pins s σ H (λv H'=>v= .ref a/\H'=H) I ⟨rfl,rfl⟩) λu s1 ak=>?_);obtain⟨v,H1,I1,r1,rfl,rfl⟩:=ak;obtain rfl:u=Value.ref a:=r1;refine aF (he pins s1 σ H1 _ I1 h) λiv s2 Ga=>?_;obtain⟨y,H2,I2,ry,k,i,rfl,et,q⟩:=Ga;obtain⟨tk,rfl⟩:=ry;have T2:=ht.at I2.dW;refine⟨rJ T2,Zpc T2 (d:=i) (by rw[Bm,et]) λv rv=>?_⟩;obtain⟨t',rfl⟩:=rv;exact⟨.int i,H2,I2.tok _,⟨t',rfl⟩,q⟩
theorem Zr7(hm:X.mg x=Ya (.ref a))(ht:mj X.K a t)(he:C3 X e g)(hs:JM e:=by exactλ_ _=>rfl)(hg:Gl X x:=by rfl)(hd:(x==("__debug__":aj))=false:=by decide):
  C3 X (.Subscript (.Name x npos) e pos) (e1 (Gb t) g):=(Zrl hm ht he hs hg hd).imp λσ H Q ak=>by
 obtain⟨ι,M,env,S,E,h⟩:=ak;obtain⟨d,M1,e1,h⟩:=Zt.bind h;refine⟨ι,M,env,S,E,?_⟩;rw[e1];intro y H1 ι1 x1 S1 r1;cases d with
 | str k=>
  cases r1.str_inv
  cases et:dR k t with
  |none=>have h:Zt X.K H ι Q (match dR k t with|some i=>.ok (.int i) M1|none=>.bad):=h;rw[et]at h;exact h.elim
  |some i=>have h:Zt X.K H ι Q (match dR k t with|some i=>.ok (.int i) M1|none=>.bad):=h;rw[et]at h;exact⟨k,i,rfl,et,h _ H1 ι1 x1 S1 Rep.int⟩
 |_=>exact h.elim
end
section
variable {X:Cx}
theorem Ss(hu:X.A.units+80<jA):aQ X (eV .NotEq) (r2 X.K qt):=by
 intro pins s σ H x y v u Q I rx ry h;obtain⟨ι,M,a,b,S,ra,rb,h⟩:=h;have hu1:X.A.units<jA:=by omega
 unfold qt at h;split at h
 next n m=>
  split at h
  next z h1 h2=>
   obtain⟨p,vs,its,_,eu,t,r1,v1⟩:=J8 I S h1 ra rx;obtain⟨q,ws,its2,_,ev,t',r2,v2⟩:=J8 I S h2 rb ry;cases z with
   |nil=>exact(Rq (k:=true) hu I S ra rb rx ry (by simp only[Af,h1,h2];rfl)).2 X.prog X.w X.xe _ ⟨.bl false,H,I,rfl,Zt.ok h S Rep.bl⟩|cons d ds=>rw[eu,ev];have hz:(its.toArray.size !=its2.toArray.size)=true:=bne_iff_ne.mpr λe=>absurd ((nR r1 v1).symm.trans (e.trans (nR r2 v2))) (by simp);exact Z1 t t' hz hu1 X.prog X.w X.xe _ ⟨.bl true,H,I,rfl,Zt.ok h S Rep.bl⟩
  .exact h.elim
 .exact h.elim
end
section
variable {X:Cx} {o e:Expr} {es:List Expr} {f:E3} {gl:d9} {apos cpos:aV}
theorem Zrp:jM X "str.join" (rM X.K v_):=by
 intro pins s σ H x xs v us Q I rx rs h;obtain⟨ι,M,a,ds,S,ra,rd,h⟩:=h;unfold v_ at h;split at h
 next sep z=>
  split at h
  next ts hs=>
   split at h
   next hz=>have:=ra.str_inv;subst this;obtain⟨w',ws,rfl,r1,r2⟩:=rd.cons_inv;have:=r2.nil_inv;subst this;obtain⟨t,rfl⟩:=rx;obtain⟨u,rfl,ru⟩:=vals1 rs;obtain⟨p,vs,its,ex,eu,ht,q1,v1⟩:=yr I r1 ru;subst eu;obtain⟨l,rfl,el⟩:=Kl hs q1 v1;have hok:=Zrf hz;rw[←el]at hok;unfold JoinOk at hok;rw[Xp]at hok;obtain⟨ob,ho,hc,n,hd⟩:=ht;refine pO Pu (xg _ _ _) PySem.F.entry_str_join (PySem.F.args_str_join_2 _ _) (meets_str_join_tuple _ t p l hok) ⟨⟨ob,n,ho,hc,hd⟩,post_join l ⟨joinFit_length hok,λt' k=>⟨.str _,H,I.tok _,⟨t',rfl⟩,?_⟩⟩⟩;rw[el,Txt.join,Z3,Km];exact Zt.ok h S Rep.str
   .exact h.elim
  .exact h.elim
 .exact h.elim
theorem ZlV(ho:C3 X o f)(ha:CA X (e::es) gl)(hbase:mH o "join" X.env (aG o X.env)=aG o X.env:=by rfl)(hfew:((b7 cpos (Yw (e::es) X.env)).all (λx=>!x.1)&&(iU cpos (iR [] X.env)).all (λx=>x.1.isSome)
   &&decide ((e::es).length+([]:List Keyword).length+(if([]:List Keyword).isEmpty then 0 else 1)<30))=true:=by rfl)(hline:(apos.endLine==cpos.line)=true:=by rfl)(hs:Yw (e::es) X.env=(false,aG e X.env)::Yw es X.env:=by rfl)(hplain:(b7 cpos (Yw es X.env)).any (·.1)=false:=by rfl):
  C3 X (.Call (.Attribute o "join" apos) (e::es) [] cpos) (aH ig v_ f gl):=
 (Ad Jb Pu YD Zrp ho ha hbase hfew hline hs hplain).imp (Bd Kh)
end
end L3
set_option maxHeartbeats 400000
namespace Law
open PySem L3
noncomputable section
def uG:E3:=eC (.str [48,49,50,51,52,53,54,55,56,57])
def wK:E3:=eC (.str [97,98,99,100,101,102,103,104,105,106,107,108,109,110,111,112,113,114,115,116,117,118,119,120,121,122])
def nW:j9:=[([119,104,101,110],2),([119,104,105,108,101],1)]
def wH:E3:=eC (.int 12)
def wI:E3:=eC (.int 6)
def qH:E3:=eC (.int 60)
def qI:E3:=eC (.int 8)
def uE:E3:=eC (.int 6)
def uF:E3:=eC (.int 60)
def nY:j9:=[([97,100,100],2),([115,117,98],2),([109,111,114,101],2),([99,101,108,108],1)]
def kE:j9:=[([115,101,116],1),([112,117,116],2),([116,101,108,108],1),([119,104,101,110],1),([101,108,115,101],0),([119,104,105,108,101],1),([101,110,100],0)]
def cU:List (List Nat):=[[116,97,107,101],[115,101,116],[112,117,116],[116,101,108,108],[119,104,101,110],[101,108,115,101],[119,104,105,108,101],[101,110,100],[97,100,100],[115,117,98],[109,111,114,101],[99,101,108,108]]
def uh:E3:=eC (.tup (cU.map D.str))
def Gd:S3:=Zr (au 1 (j5 (aH ig q_ (Za 0) (Zb (eC (.str [45])) (Zf))) (eO (Za 0) (dO (eC (.int 1))) (fX)) (Za 0))) (Zr (aK (eN (e2 dF (aB a_ (Zb (Za 1) (Zf))) (eC (.int 1))) (e2 cC (aB a_ (Zb (Za 1) (Zf))) (qH))) (aY (eC (.bl false))) (aX)) (Zr (aK (aH ig q_ (Za 1) (Zb (eC (.str [48])) (Zf))) (aY (e2 aW (Za 0) (eC (.str [48])))) (aX)) (aY (aB q9 (Zb (fL (cW (Za 1)) 1 (cj 2) [] (e2 lO (Za 2) (uG))) (Zf))))))
def qx:F3:=bZ 1 2 Gd
def Su:S3:=Zr (au 1 (bh (Zf))) (Zr (au 2 (eC (.int 0))) (Zr (qd (cW (Za 0)) (cj 3) (Zr (aK (e2 aW (Za 2) (eC (.int 0))) (Zr (aP (aH bf Zz (Za 1) (Zb (bh (Zf)) (Zf)))) (au 2 (eC (.int 1)))) (aX)) (Zr (aP (aH bf Zz (e2 Zn (Za 1) (e1 cu (eC (.int 1)))) (Zb (Za 3) (Zf)))) (au 2 (e2 aR (e2 h_ (Za 2) (eC (.int 1))) (e2 (t7 nY) (Za 3) (eC (.int 0)))))))) (aY (j5 (e2 aW (Za 2) (eC (.int 0))) (fL (cW (Za 1)) 1 (cj 4) [] (aB gB (Zb (Za 4) (Zf)))) (eC .non)))))
def wg:F3:=bZ 1 4 Su
def ZgW:S3:=aY (e1 (ug nY) (Za 0))
def Bq:F3:=bZ 1 1 ZgW
def Sv:S3:=aY (aN wg (Zb (eO (Za 0) (dO (eC (.int 1))) (fX)) (Zf)))
def Kz:F3:=bZ 1 1 Sv
def Sw(rec:F3):S3:=Zr (au 1 (aN Kz (Zb (Za 0) (Zf)))) (aY (aB (Bo 1) (Zb (vN (Rf (Za 1)) 2 (nH [2,3]) [] (e2 aR (aN rec (Zb (Za 3) (Zf))) (Za 2))) (Zf))))
def yE:Nat->F3
 |0=>bZ 1 2 tV|n+1=>bZ 1 2 (Sw (yE n))
def Ge:F3:=yE 61
def KC:S3:=Zr (aK (eN (e2 dF (aB a_ (Zb (Za 0) (Zf))) (eC (.int 1))) (eN (e2 cC (aB a_ (Zb (Za 0) (Zf))) (qI)) (e2 lO (Za 0) (uh)))) (aY (eC (.bl false))) (aX)) (aY (aB q9 (Zb (fL (cW (Za 0)) 1 (cj 1) [] (e2 lO (Za 1) (wK))) (Zf))))
def mW:F3:=bZ 1 1 KC
def Sx:S3:=Zr (au 1 (eO (e2 Zn (Za 0) (eC (.int 1))) (dO (eC (.int 1))) (fX))) (Zr (aK (eN (e2 dF (aB a_ (Zb (Za 1) (Zf))) (eC (.int 1))) (eN (e2 cC (aB a_ (Zb (Za 1) (Zf))) (uE)) (e2 gw (aB Ku (Zb (Za 1) (Zf))) (aB a_ (Zb (Za 1) (Zf)))))) (tV) (aX)) (Zr (aK (e1 p8 (aB q9 (Zb (fL (cW (Za 1)) 1 (cj 2) [] (aN mW (Zb (Za 2) (Zf)))) (Zf)))) (tV) (aX)) (aY (aB gB (Zb (Za 1) (Zf))))))
def KD:F3:=bZ 1 2 Sx
def ZeA:S3:=Zr (Ft [66,108,111,99,107] [104,101,97,100] (Za 0) (Za 1)) (Ft [66,108,111,99,107] [108,105,115,116,115] (Za 0) (bh (Zb (bh (Zf)) (Zf))))
def yF:F3:=bZ 2 2 ZeA
def Sy:S3:=Zr (aK (e1 p8 (aB q9 (Zb (fL (cW (Za 0)) 1 (cj 3) [] (eN (aN Bq (Zb (Za 3) (Zf))) (eN (aN mW (Zb (Za 3) (Zf))) (aN qx (Zb (Za 3) (Zf)))))) (Zf)))) (aY (eC .non)) (aX)) (Zr (au 1 (aN wg (Zb (fL (cW (Za 0)) 1 (cj 3) [] (j5 (aN qx (Zb (Za 3) (Zf))) (aB tZ (Zb (Za 3) (Zf))) (Za 3))) (Zf)))) (Zr (aK (e2 nF (Za 1) (eC .non)) (aY (eC .non)) (aX)) (Zr (au 2 (vN (Rf (Za 1)) 2 (nH [3,4]) [] (e2 aR (aN Ge (Zb (Za 4) (Zf))) (Za 3)))) (aY (j5 (e2 nD (aB (Bo 0) (Zb (Za 2) (Zf))) (wI)) (Za 1) (eC .non))))))
def KH:F3:=bZ 1 3 Sy
def SJ:S3:=Zr (aK (eN (e1 (Kv kE) (e2 Zn (Za 0) (eC (.int 0)))) (e2 cC (aB a_ (Zb (Za 0) (Zf))) (uF))) (aY (eC .non)) (aX)) (Zr (au 1 (j5 (e2 aW (e2 Zn (Za 0) (eC (.int 0))) (eC (.str [115,101,116]))) (eC (.int 2)) (eC (.int 1)))) (Zr (aK (e1 p8 (aB q9 (Zb (fL (cW (eO (Za 0) (dO (eC (.int 1))) (dO (Za 1)))) 1 (cj 3) [] (aN mW (Zb (Za 3) (Zf)))) (Zf)))) (aY (eC .non)) (aX)) (Zr (au 2 (aN KH (Zb (eO (Za 0) (dO (Za 1)) (fX)) (Zf)))) (Zr (aK (eN (e2 nF (Za 2) (eC .non)) (e2 gw (aB a_ (Zb (Za 2) (Zf))) (e1 (Gb kE) (e2 Zn (Za 0) (eC (.int 0)))))) (aY (eC .non)) (aX)) (aY (aB gB (Zb (e2 aR (eO (Za 0) (fX) (dO (Za 1))) (Za 2)) (Zf))))))))
def Gf:F3:=bZ 1 3 SJ
def SM:S3:=Zr (au 2 (e2 Zn (Za 0) (e1 cu (eC (.int 1))))) (Zr (au 3 (e2 aW (e2 (t7 nW) (e2 Zn (e1 (jw [66,108,111,99,107] [104,101,97,100]) (Za 2)) (eC (.int 0))) (eC (.int 0))) (aB a_ (Zb (e1 (jw [66,108,111,99,107] [108,105,115,116,115]) (Za 2)) (Zf))))) (Zr (aK (e1 (ug nW) (Za 1)) (aY (e2 nD (aB a_ (Zb (Za 0) (Zf))) (wH))) (aX)) (Zr (aK (e2 aW (Za 1) (eC (.str [101,108,115,101]))) (aY (bD (e2 aW (e2 Zn (e1 (jw [66,108,111,99,107] [104,101,97,100]) (Za 2)) (eC (.int 0))) (eC (.str [119,104,101,110]))) (e1 p8 (Za 3)))) (aX)) (Zr (aK (e2 aW (Za 1) (eC (.str [101,110,100]))) (aY (Za 3)) (aX)) (aY (eC (.bl true)))))))
def Br:F3:=bZ 2 4 SM
def yG:S3:=Zr (au 2 (e2 Zn (Za 0) (e1 cu (eC (.int 1))))) (aK (e1 (ug nW) (e2 Zn (Za 1) (eC (.int 0)))) (aP (aH bf Zz (Za 0) (Zb (Ay [66,108,111,99,107] yF (Zb (Za 1) (Zf))) (Zf)))) (aK (e2 aW (e2 Zn (Za 1) (eC (.int 0))) (eC (.str [101,108,115,101]))) (aP (aH bf Zz (e1 (jw [66,108,111,99,107] [108,105,115,116,115]) (Za 2)) (Zb (bh (Zf)) (Zf)))) (aK (e2 aW (e2 Zn (Za 1) (eC (.int 0))) (eC (.str [101,110,100]))) (Zr (aP (aH bf oZ (Za 0) (Zf))) (Zr (au 3 (e2 aR (e1 (jw [66,108,111,99,107] [104,101,97,100]) (Za 2)) (aB gB (Zb (fL (cW (e1 (jw [66,108,111,99,107] [108,105,115,116,115]) (Za 2))) 1 (cj 4) [] (aB gB (Zb (Za 4) (Zf)))) (Zf))))) (aP (aH bf Zz (e2 Zn (e1 (jw [66,108,111,99,107] [108,105,115,116,115]) (e2 Zn (Za 0) (e1 cu (eC (.int 1))))) (e1 cu (eC (.int 1)))) (Zb (Za 3) (Zf)))))) (aP (aH bf Zz (e2 Zn (e1 (jw [66,108,111,99,107] [108,105,115,116,115]) (Za 2)) (e1 cu (eC (.int 1)))) (Zb (Za 1) (Zf)))))))
def ul:F3:=bZ 2 4 yG
def SN:S3:=Zr (au 2 (bh (Zb (Ay [66,108,111,99,107] yF (Zb (fW (Zb (eC (.str [112,114,111,103,114,97,109])) (Zf))) (Zf))) (Zf)))) (Zr (qd (cW (Za 0)) (nH [3,4]) (Zr (au 5 (aN Gf (Zb (Za 4) (Zf)))) (Zr (aK (eN (e2 nF (Za 5) (eC .non)) (e1 p8 (aN Br (Zb (Za 2) (Zb (e2 Zn (Za 5) (eC (.int 0))) (Zf)))))) (tV) (aX)) (aP (aN ul (Zb (Za 2) (Zb (Za 5) (Zf)))))))) (Zr (aK (e2 cC (aB a_ (Zb (Za 2) (Zf))) (eC (.int 1))) (tV) (aX)) (aY (aB gB (Zb (e2 Zn (e1 (jw [66,108,111,99,107] [108,105,115,116,115]) (e2 Zn (Za 2) (eC (.int 0)))) (eC (.int 0))) (Zf))))))
def KJ:F3:=bZ 2 6 SN
def KN:S3:=Zr (au 1 (aH ig vM (Za 0) (Zb (eC (.str [10])) (Zf)))) (Zr (au 2 (vN (Rh (Za 1)) 2 (nH [4,5]) [e2 gw (Za 5) (eC (.str []))] (fW (Zb (Za 4) (Zb (aH ig vM (Za 5) (Zb (eC (.str [32])) (Zf))) (Zf)))))) (Zr (au 3 (fW (Zf))) (Zr (aK (bD (e2 cC (aB a_ (Zb (Za 2) (Zf))) (eC (.int 0))) (e2 aW (e2 Zn (e2 Zn (e2 Zn (Za 2) (eC (.int 0))) (eC (.int 1))) (eC (.int 0))) (eC (.str [116,97,107,101])))) (Zr (au 3 (aN KD (Zb (e2 Zn (Za 2) (eC (.int 0))) (Zf)))) (au 2 (eO (Za 2) (dO (eC (.int 1))) (fX)))) (aX)) (aY (fW (Zb (Za 3) (Zb (aN KJ (Zb (Za 2) (Zb (e2 aR (aB a_ (Zb (Za 1) (Zf))) (eC (.int 1))) (Zf)))) (Zf))))))))
def Bs:F3:=bZ 1 4 KN
def Bt:S3:=Zr (au 1 (e2 Zn (Za 0) (eC (.int 0)))) (Zr (au 2 (e2 Zn (Za 0) (eC (.int 1)))) (Zr (rm (Za 0) (eC (.int 1)) (e2 aR (Za 2) (eC (.int 1)))) (Zr (aK (e2 dF (Za 2) (aB a_ (Zb (Za 1) (Zf)))) (aY (e2 Zn (Za 1) (Za 2))) (aX)) (Zr (aK (e2 aW (aB a_ (Zb (Za 1) (Zf))) (eC (.int 0))) (aY (e2 aR (e2 iD (e2 iD (Za 2) (Za 2)) (eC (.int 3))) (Za 2))) (aX)) (aY (e2 aR (e2 bH (e2 Zn (Za 1) (e2 Zy (Za 2) (aB a_ (Zb (Za 1) (Zf))))) (eC (.int 2))) (e2 iD (Za 2) (Za 2))))))))
def iu:F3:=bZ 1 3 Bt
def rK(rec:F3):S3:=Zr (aK (e1 (Fp .tuple .list) (Za 1)) (Zr (aK (eN (e2 gw (e1 (nG .tuple) (Za 0)) (e1 (nG .tuple) (Za 1))) (e1 p8 (e1 (Fp .tuple .list) (Za 0)))) (aY (eC (.bl false))) (aX)) (aY (bD (e2 aW (aB a_ (Zb (Za 0) (Zf))) (aB a_ (Zb (Za 1) (Zf)))) (aB q9 (Zb (fL (rn (aB a_ (Zb (Za 1) (Zf)))) 1 (cj 2) [] (aN rec (Zb (e2 Zn (Za 0) (Za 2)) (Zb (e2 Zn (Za 1) (Za 2)) (Zf))))) (Zf)))))) (aX)) (Zr (aK (e1 (nG .str) (Za 1)) (aY (bD (e1 (nG .str) (Za 0)) (e2 aW (Za 0) (Za 1)))) (aX)) (Zr (aK (e1 (nG .bool) (Za 1)) (aY (bD (e1 (nG .bool) (Za 0)) (e2 aW (Za 0) (Za 1)))) (aX)) (aY (bD (e1 (nG .int) (Za 0)) (bD (e1 p8 (e1 (nG .bool) (Za 0))) (e2 aW (Za 0) (Za 1)))))))
def pC:Nat->F3
 |0=>bZ 2 2 tV|n+1=>bZ 2 2 (rK (pC n))
def Gg:F3:=pC 31
def SQ:S3:=Zr (au 1 (bh (Zb (eC (.str [116,97,107,101])) (Zb (eC (.str [115,101,116])) (Zb (eC (.str [112,117,116])) (Zb (eC (.str [116,101,108,108])) (Zb (eC (.str [119,104,101,110])) (Zb (eC (.str [101,108,115,101])) (Zb (eC (.str [119,104,105,108,101])) (Zb (eC (.str [101,110,100])) (Zb (eC (.str [97,100,100])) (Zb (eC (.str [115,117,98])) (Zb (eC (.str [109,111,114,101])) (Zb (eC (.str [99,101,108,108])) (Zf))))))))))))))) (Zr (au 2 (eC (.str [97,98,99,100,101,102,103,104,105,106,107,108,109,110,111,112,113,114,115,116,117,118,119,120,121,122]))) (Zr (au 3 (aN iu (Zb (Za 0) (Zf)))) (Zr (au 4 (e2 bH (Za 3) (eC (.int 4)))) (Zr (au 5 (e2 Zn (Za 2) (e2 Zy (Za 4) (eC (.int 26))))) (Zr (au 6 (e2 Zn (Za 2) (e2 Zy (e2 bH (Za 4) (eC (.int 26))) (eC (.int 26))))) (Zr (au 7 (bh (Zf))) (Zr (qd (rn (eC (.int 12))) (cj 8) (Zr (au 9 (e2 Zn (Za 2) (e2 Zy (e2 aR (Za 4) (Za 8)) (eC (.int 26))))) (Zr (au 10 (e2 iD (Za 9) (e2 aR (eC (.int 1)) (e2 Zy (e2 bH (Za 4) (eC (.int 26))) (eC (.int 8)))))) (Zr (aK (e2 aW (e2 Zy (Za 3) (eC (.int 4))) (eC (.int 1))) (au 10 (e2 aR (e2 Zn (Za 1) (e2 Zy (e2 aR (Za 8) (Za 4)) (eC (.int 12)))) (Za 6))) (aX)) (Zr (aK (e2 aW (e2 Zy (Za 3) (eC (.int 4))) (eC (.int 2))) (Zr (au 10 (e2 aR (e2 iD (Za 5) (e2 aR (eC (.int 1)) (e2 Zy (Za 8) (eC (.int 8))))) (e2 iD (e2 Zn (Za 2) (e2 Zy (e2 aR (Za 4) (eC (.int 1))) (eC (.int 26)))) (e2 bH (Za 8) (eC (.int 8)))))) (au 10 (eO (Za 10) (fX) (dO (eC (.int 8)))))) (aX)) (Zr (aK (e2 aW (e2 Zy (Za 3) (eC (.int 4))) (eC (.int 3))) (au 10 (e2 aR (e2 aR (Za 6) (Za 9)) (e2 iD (e2 Zn (Za 2) (e2 Zy (e2 bH (Za 4) (eC (.int 7))) (eC (.int 26)))) (e2 Zy (e2 bH (Za 4) (eC (.int 676))) (eC (.int 7)))))) (aX)) (Zr (aK (e2 yg (Za 10) (Za 1)) (au 10 (e2 aR (Za 10) (eC (.str [120])))) (aX)) (aP (aH bf Zz (Za 7) (Zb (Za 10) (Zf))))))))))) (aY (Za 7)))))))))
def KQ:F3:=bZ 1 11 SQ
def SX:S3:=Zr (au 1 (e2 Zy (e2 bH (Za 0) (eC (.int 4))) (e2 JN (eC (.int 10)) (eC (.int 59))))) (aY (e2 Zn (bh (Zb (e2 Zy (e2 bH (Za 0) (eC (.int 4))) (eC (.int 12))) (Zb (e2 h_ (e1 cu (eC (.int 1))) (e2 Zy (e2 bH (Za 0) (eC (.int 4))) (eC (.int 12)))) (Zb (Za 1) (Zb (e2 h_ (e1 cu (eC (.int 1))) (Za 1)) (Zf)))))) (e2 Zy (Za 0) (eC (.int 4)))))
def wj:F3:=bZ 1 2 SX
def S_:S3:=Zr (au 4 (bh (Zf))) (Zr (au 5 (bh (Zb (Za 2) (Zf)))) (Zr (Ra (e2 gw (Za 5) (bh (Zf))) (Zr (au 6 (aH bf oZ (Za 5) (Zf))) (Zr (au 7 (aN iu (Zb (Za 0) (Zf)))) (Zr (au 8 (e2 h_ (e2 h_ (e2 h_ (Za 3) (aB a_ (Zb (Za 4) (Zf)))) (aB a_ (Zb (Za 5) (Zf)))) (eC (.int 1)))) (Zr (au 9 (e2 Zy (Za 7) (eC (.int 9)))) (aK (bD (e2 dF (Za 9) (eC (.int 3))) (bD (e2 cC (Za 6) (eC (.int 1))) (e2 cC (Za 8) (eC (.int 1))))) (Zr (aP (aH bf Zz (Za 4) (Zb (e2 Zn (bh (Zb (eC (.str [97,100,100])) (Zb (eC (.str [115,117,98])) (Zb (eC (.str [109,111,114,101])) (Zf))))) (Za 9)) (Zf)))) (aP (aH bf o6 (Za 5) (Zb (bh (Zb (e2 h_ (Za 6) (eC (.int 1))) (Zb (Za 6) (Zf)))) (Zf))))) (aK (bD (e2 aW (Za 9) (eC (.int 3))) (e2 cC (Za 8) (eC (.int 0)))) (Zr (aP (aH bf Zz (Za 4) (Zb (eC (.str [99,101,108,108])) (Zf)))) (aP (aH bf Zz (Za 5) (Zb (Za 6) (Zf))))) (aK (e2 dF (Za 9) (eC (.int 7))) (aP (aH bf Zz (Za 4) (Zb (e2 Zn (Za 1) (e2 Zy (e2 bH (Za 7) (eC (.int 9))) (eC (.int 12)))) (Zf)))) (aP (aH bf Zz (Za 4) (Zb (aN wj (Zb (e2 bH (Za 7) (eC (.int 9))) (Zf))) (Zf)))))))))))) (aY (aB gB (Zb (Za 4) (Zf))))))
def um:F3:=bZ 4 10 S_
def Tc:S3:=Zr (au 3 (e2 Zn (bh (Zb (eC (.int 3)) (Zb (eC (.int 3)) (Zb (eC (.int 7)) (Zb (eC (.int 20)) (Zf)))))) (e2 Zy (e2 bH (Za 2) (eC (.int 10))) (eC (.int 4))))) (Zr (aK (e2 aW (e2 Zy (e2 bH (Za 2) (eC (.int 40))) (eC (.int 11))) (eC (.int 1))) (au 3 (eC (.int 29))) (aX)) (Zr (au 4 (aN um (Zb (Za 0) (Zb (Za 1) (Zb (e2 aR (eC (.int 1)) (e2 Zy (e2 bH (Za 2) (eC (.int 3))) (eC (.int 6)))) (Zb (Za 3) (Zf))))))) (Zr (aK (e2 aW (e2 Zy (Za 2) (eC (.int 3))) (eC (.int 0))) (aY (fW (Zb (eC (.str [115,101,116])) (Zb (e2 Zn (Za 1) (e2 Zy (e2 bH (Za 2) (eC (.int 440))) (eC (.int 12)))) (Zb (Za 4) (Zf)))))) (aX)) (Zr (aK (e2 aW (e2 Zy (Za 2) (eC (.int 3))) (eC (.int 1))) (aY (fW (Zb (eC (.str [112,117,116])) (Zb (Za 4) (Zb (aN um (Zb (Za 0) (Zb (Za 1) (Zb (e2 aR (eC (.int 1)) (e2 Zy (e2 bH (Za 2) (eC (.int 7))) (eC (.int 5)))) (Zb (Za 3) (Zf)))))) (Zf)))))) (aX)) (aY (fW (Zb (eC (.str [116,101,108,108])) (Zb (Za 4) (Zf)))))))))
def KR:F3:=bZ 3 5 Tc
def Td:S3:=Zr (au 1 (bh (Zb (e2 Zn (Za 0) (eC (.int 0))) (Zf)))) (Zr (qd (cW (eO (Za 0) (dO (eC (.int 1))) (fX))) (cj 2) (aK (e1 (nG .str) (Za 2)) (aP (aH bf Zz (Za 1) (Zb (Za 2) (Zf)))) (aP (aH bf o6 (Za 1) (Zb (fL (cW (Za 2)) 1 (cj 3) [] (aB yd (Zb (Za 3) (Zf)))) (Zf)))))) (aY (aH ig Av (eC (.str [32])) (Zb (Za 1) (Zf)))))
def Gh:F3:=bZ 1 3 Td
def Te:S3:=Zr (qg (e2 Zn (Za 0) (e1 cu (eC (.int 1)))) [2,3,4,5]) (Zr (au 6 (fW (Zb (Za 2) (Zb (Za 3) (Zb (aB gB (Zb (Za 1) (Zf))) (Zf)))))) (Zr (aK (e2 aW (Za 2) (eC (.str [119,104,101,110]))) (au 6 (fW (Zb (Za 2) (Zb (Za 3) (Zb (Za 5) (Zb (aB gB (Zb (Za 1) (Zf))) (Zf))))))) (aX)) (aY (e2 aR (Za 4) (bh (Zb (Za 6) (Zf)))))))
def wk:F3:=bZ 2 7 Te
def yH:S3:=Zr (au 4 (aN iu (Zb (Za 0) (Zf)))) (Zr (au 5 (e2 Zy (Za 4) (eC (.int 10)))) (Zr (aK (bD (e2 aW (Za 5) (eC (.int 8))) (bD (e2 qt (Za 2) (bh (Zf))) (bD (e2 aW (e2 Zn (e2 Zn (Za 2) (e1 cu (eC (.int 1)))) (eC (.int 0))) (eC (.str [119,104,101,110]))) (e2 nF (e2 Zn (e2 Zn (Za 2) (e1 cu (eC (.int 1)))) (eC (.int 3))) (eC .non))))) (Zr (rm (e2 Zn (Za 2) (e1 cu (eC (.int 1)))) (eC (.int 3)) (aB gB (Zb (Za 3) (Zf)))) (aY (bh (Zb (eC (.str [101,108,115,101])) (Zb (bh (Zf)) (Zf)))))) (aX)) (Zr (aK (bD (e2 cC (Za 5) (eC (.int 7))) (bD (e2 qt (Za 2) (bh (Zf))) (eN (e2 aW (e2 Zn (e2 Zn (Za 2) (e1 cu (eC (.int 1)))) (eC (.int 0))) (eC (.str [119,104,105,108,101]))) (e2 Ew (e2 Zn (e2 Zn (Za 2) (e1 cu (eC (.int 1)))) (eC (.int 3))) (eC .non))))) (Zr (au 3 (aN wk (Zb (Za 2) (Zb (Za 3) (Zf))))) (Zr (aP (aH bf oZ (Za 2) (Zf))) (aY (bh (Zb (eC (.str [101,110,100])) (Zb (Za 3) (Zf))))))) (aX)) (Zr (aK (bD (pB nD dF (eC (.int 5)) (Za 5) (eC (.int 8))) (e2 dF (aB a_ (Zb (Za 2) (Zf))) (eC (.int 12)))) (Zr (au 6 (aN um (Zb (Za 0) (Zb (Za 1) (Zb (e2 aR (eC (.int 1)) (e2 Zy (e2 bH (Za 4) (eC (.int 30))) (eC (.int 6)))) (Zb (e2 aR (eC (.int 1)) (e2 Zy (e2 bH (Za 4) (eC (.int 10))) (eC (.int 9)))) (Zf))))))) (Zr (au 7 (e2 Zn (bh (Zb (eC (.str [119,104,101,110])) (Zb (eC (.str [119,104,101,110])) (Zb (eC (.str [119,104,105,108,101])) (Zf))))) (e2 h_ (Za 5) (eC (.int 5))))) (Zr (aP (aH bf Zz (Za 2) (Zb (bh (Zb (Za 7) (Zb (Za 6) (Zb (Za 3) (Zb (eC .non) (Zf)))))) (Zf)))) (aY (bh (Zb (aN Gh (Zb (fW (Zb (Za 7) (Zb (Za 6) (Zf)))) (Zf))) (Zb (bh (Zf)) (Zf)))))))) (aX)) (Zr (au 8 (aN KR (Zb (Za 0) (Zb (Za 1) (Zb (e2 bH (Za 4) (eC (.int 10))) (Zf)))))) (aY (bh (Zb (aN Gh (Zb (Za 8) (Zf))) (Zb (e2 aR (Za 3) (bh (Zb (Za 8) (Zf)))) (Zf))))))))))
def yI:F3:=bZ 4 9 yH
def Tf:S3:=Zr (au 4 (bh (Zf))) (Zr (au 5 (bh (Zf))) (Zr (au 6 (bh (Zf))) (Zr (au 7 (eC (.int 0))) (Zr (qd (rn (Za 2)) (cj 8) (Zr (au 9 (fL (cW (Za 5)) 1 (cj 12) [] (aB tU (Zb (Za 12) (Zf))))) (Zr (qg (aN yI (Zb (Za 0) (Zb (Za 1) (Zb (Za 5) (Zb (Za 6) (Zf)))))) [10,11]) (Zr (aK (e2 cC (e2 aR (Za 7) (aB a_ (Zb (Za 10) (Zf)))) (Za 3)) (Zr (au 5 (Za 9)) (Q_)) (aX)) (Zr (au 6 (Za 11)) (Zr (au 7 (e2 aR (e2 aR (Za 7) (aB a_ (Zb (Za 10) (Zf)))) (eC (.int 1)))) (aP (aH bf Zz (Za 4) (Zb (Za 10) (Zf)))))))))) (Zr (Ra (e2 qt (Za 5) (bh (Zf))) (Zr (aK (bD (e2 aW (e2 Zn (e2 Zn (Za 5) (e1 cu (eC (.int 1)))) (eC (.int 0))) (eC (.str [119,104,101,110]))) (e2 nF (e2 Zn (e2 Zn (Za 5) (e1 cu (eC (.int 1)))) (eC (.int 3))) (eC .non))) (Zr (rm (e2 Zn (Za 5) (e1 cu (eC (.int 1)))) (eC (.int 3)) (aB gB (Zb (Za 6) (Zf)))) (Zr (au 6 (bh (Zf))) (aP (aH bf Zz (Za 4) (Zb (eC (.str [101,108,115,101])) (Zf)))))) (aX)) (Zr (au 6 (aN wk (Zb (Za 5) (Zb (Za 6) (Zf))))) (Zr (aP (aH bf oZ (Za 5) (Zf))) (aP (aH bf Zz (Za 4) (Zb (eC (.str [101,110,100])) (Zf)))))))) (aY (bh (Zb (Za 4) (Zb (aB gB (Zb (Za 6) (Zf))) (Zf))))))))))
def KY:F3:=bZ 4 12 Tf
def Tg:S3:=Zr (au 2 (aN iu (Zb (Za 0) (Zf)))) (aY (aB gB (Zb (fL (rn (e2 Zy (Za 2) (eC (.int 7)))) 1 (cj 3) [] (e2 Zn (Za 1) (e2 Zy (e2 aR (e2 bH (Za 2) (eC (.int 7))) (Za 3)) (eC (.int 12))))) (Zf))))
def KZ:F3:=bZ 2 3 Tg
def Th:S3:=Zr (au 1 (bh (Zb (eO (Za 0) (fX) (dO (eC (.int 400)))) (Zb (eC (.int 0)) (Zf))))) (Zr (au 2 (aN iu (Zb (Za 1) (Zf)))) (Zr (au 3 (aN KQ (Zb (Za 1) (Zf)))) (Zr (au 4 (aN KZ (Zb (Za 1) (Zb (Za 3) (Zf))))) (Zr (qg (aN KY (Zb (Za 1) (Zb (Za 3) (Zb (aB a_ (Zb (eO (Za 0) (fX) (dO (eC (.int 400)))) (Zf))) (Zb (eC (.int 3400)) (Zf)))))) [5,6]) (Zr (aK (e2 gw (Za 4) (fW (Zf))) (au 5 (e2 aR (bh (Zb (aH ig v_ (eC (.str [32])) (Zb (e2 aR (fW (Zb (eC (.str [116,97,107,101])) (Zf))) (Za 4)) (Zf))) (Zf))) (Za 5))) (aX)) (Zr (au 7 (bh (Zf))) (Zr (qd (cW (Za 5)) (cj 8) (Zr (aK (bD (e2 cC (e2 Zy (Za 2) (eC (.int 3))) (eC (.int 0))) (bD (e2 aW (e2 Zy (aN iu (Zb (Za 1) (Zf))) (eC (.int 7))) (eC (.int 1))) (e2 dF (aB a_ (Zb (Za 7) (Zf))) (eC (.int 300))))) (aP (aH bf Zz (Za 7) (Zb (eC (.str [])) (Zf)))) (aX)) (aP (aH bf Zz (Za 7) (Zb (Za 8) (Zf)))))) (Zr (aK (e2 aW (e2 Zy (e2 bH (Za 2) (eC (.int 3))) (eC (.int 3))) (eC (.int 1))) (aP (aH bf Zz (Za 7) (Zb (eC (.str [])) (Zf)))) (aX)) (Zr (au 7 (aH ig Av (eC (.str [10])) (Zb (Za 7) (Zf)))) (Zr (au 9 (fW (Zb (Za 4) (Zb (Za 6) (Zf))))) (aY (bD (aN Gg (Zb (aN Bs (Zb (Za 7) (Zf))) (Zb (Za 9) (Zf)))) (aN Gg (Zb (aN Bs (Zb (Za 7) (Zf))) (Zb (Za 9) (Zf))))))))))))))))
def ZnS:F3:=bZ 1 10 Th
end
end Law
namespace Law
open PySem PySem.Spec PyProof.Rows L2 L3
noncomputable def top(i:Nat):Yer:=PySem.Challenge.pw_stepledger_k61_read.main.body.getD i (.Pass ⟨0,0,0,0⟩)
noncomputable abbrev Bu:Yer:=top 6
noncomputable abbrev Bv:Yer:=top 9
noncomputable abbrev Bw:Yer:=top 10
noncomputable abbrev Bx:Yer:=top 11
noncomputable abbrev BJ:Yer:=top 12
noncomputable abbrev BK:Yer:=top 24
noncomputable abbrev BL:Yer:=top 25
noncomputable abbrev BP:Yer:=top 26
noncomputable abbrev BR:Yer:=top 27
noncomputable abbrev BV:Yer:=top 28
noncomputable abbrev BW:Yer:=top 29
noncomputable abbrev BX:Yer:=top 30
noncomputable abbrev BZ:Yer:=top 31
noncomputable abbrev B_:Yer:=top 33
noncomputable abbrev Ca:Yer:=top 34
noncomputable abbrev Cd:Yer:=top 35
noncomputable abbrev Ce:Yer:=top 36
noncomputable abbrev Cg:Yer:=top 37
noncomputable abbrev Ci:Yer:=top 38
noncomputable abbrev Cj:Yer:=top 39
noncomputable abbrev Ck:Yer:=top 40
noncomputable abbrev Cm:Yer:=top 41
noncomputable abbrev Cp:Yer:=top 42
noncomputable abbrev Cq:Yer:=top 43
noncomputable abbrev uo:Yer:=top 44
noncomputable abbrev Cr:Yer:=(ZrY (top 23)).getD 0 (.Pass ⟨0,0,0,0⟩)
structure Gi(K:W.Frag)(mg:aj->Option Yh)(C:Y1):Prop where
  ok:yC K [66,108,111,99,107] C
  mg:mg "Block" =Ya (.ref C)
  G7:qX K C (nm [104,101,97,100])
  wL:qX K C (nm [108,105,115,116,115])
structure Txt(K:W.Frag)(mg:aj->Option Yh):Prop where
  Ek:True
  yZ:mg "all" =Ym
  Mz:mg "bool" =Ym
  Mj:mg "enumerate" =Ym
  Vu:mg "int" =Ym
  pJ:mg "isinstance" =Ym
  eU:mg "len" =Ym
  MF:mg "list" =Ym
  Vv:mg "max" =Ym
  G5:mg "range" =Ym
  Abg:mg "set" =Ym
  G_:mg "str" =Ym
  jE:mg "tuple" =Ym
  uG:∃t,mg "FIGURES" =Ya (.str "0123456789" t)
  wK:∃t,mg "LETTERS" =Ya (.str "abcdefghijklmnopqrstuvwxyz" t)
  Vl:∃a,mg "LISTS" =Ya (.ref a)/\mj K a nW
  wH:∃t,mg "MOST_BLOCKS" =Ya (.int 12 t)
  wI:∃t,mg "MOST_DEPTH" =Ya (.int 6 t)
  qH:∃t,mg "MOST_FIGURES" =Ya (.int 60 t)
  qI:∃t,mg "MOST_LETTERS" =Ya (.int 8 t)
  uE:∃t,mg "MOST_TAKEN" =Ya (.int 6 t)
  uF:∃t,mg "MOST_WORDS" =Ya (.int 60 t)
  Vm:∃a,mg "PARTS" =Ya (.ref a)/\mj K a nY
  Vq:∃a,mg "SUMS" =Ya (.ref a)/\mj K a kE
  AaY:∃a,mg "WORDS" =Ya (.ref a)/\Bj K (cU.map λy=>(⟨y.toArray⟩:aj)) (.ref a)=true
variable{X:Cx}{pos:aV}
theorem ZmM(T:Txt X.K X.mg)(hg:Gl X "FIGURES":=by rfl):C3 X (.Name "FIGURES" pos) uG:=by obtain⟨t,e⟩:=T.uG;refine t8 (v:=.str ⟨([48,49,50,51,52,53,54,55,56,57]:List Nat).toArray⟩) e ⟨t,?_⟩ (λ_ _=>Rep.str) hg;exact congrArg (λz=>Value.str z t) (by decide +kernel)
theorem Zml(T:Txt X.K X.mg)(hg:Gl X "LETTERS":=by rfl):C3 X (.Name "LETTERS" pos) wK:=by obtain⟨t,e⟩:=T.wK;refine t8 (v:=.str ⟨([97,98,99,100,101,102,103,104,105,106,107,108,109,110,111,112,113,114,115,116,117,118,119,120,121,122]:List Nat).toArray⟩) e ⟨t,?_⟩ (λ_ _=>Rep.str) hg;exact congrArg (λz=>Value.str z t) (by decide +kernel)
variable{g:E3}{e:Expr}{npos:aV}
theorem Zm0{e':Expr}{apos cpos:aV}{g':E3}(T:Txt X.K X.mg)(he:C3 X e g)(he':C3 X e' g')(m:M2 X (.Name "LISTS" npos) "get" apos e e' cpos:=by exact⟨rfl,rfl,rfl,rfl⟩)(hg:Gl X "LISTS":=by rfl):C3 X (.Call (.Attribute (.Name "LISTS" npos) "get" apos) [e,e'] [] cpos) (e2 (t7 nW) g g'):=by obtain⟨a,hm,ht⟩:=T.Vl;exact Znw hm ht he he' m hg
theorem Zhz(T:Txt X.K X.mg)(he:C3 X e g)(hg:Gl X "LISTS":=by rfl):CT X (.Compare e [.In] [.Name "LISTS" npos] pos) (e1 (ug nW) g):=by obtain⟨a,hm,ht⟩:=T.Vl;exact Zrd hm ht he hg
theorem ZiI(T:Txt X.K X.mg)(hg:Gl X "MOST_BLOCKS":=by rfl):C3 X (.Name "MOST_BLOCKS" pos) wH:=by obtain⟨t,e⟩:=T.wH;exact t8 (v:=.int 12) e ⟨t,rfl⟩ (λ_ _=>Rep.int) hg
theorem Zi8(T:Txt X.K X.mg)(hg:Gl X "MOST_DEPTH":=by rfl):C3 X (.Name "MOST_DEPTH" pos) wI:=by obtain⟨t,e⟩:=T.wI;exact t8 (v:=.int 6) e ⟨t,rfl⟩ (λ_ _=>Rep.int) hg
theorem ZhL(T:Txt X.K X.mg)(hg:Gl X "MOST_FIGURES":=by rfl):C3 X (.Name "MOST_FIGURES" pos) qH:=by obtain⟨t,e⟩:=T.qH;exact t8 (v:=.int 60) e ⟨t,rfl⟩ (λ_ _=>Rep.int) hg
theorem ZhP(T:Txt X.K X.mg)(hg:Gl X "MOST_LETTERS":=by rfl):C3 X (.Name "MOST_LETTERS" pos) qI:=by obtain⟨t,e⟩:=T.qI;exact t8 (v:=.int 8) e ⟨t,rfl⟩ (λ_ _=>Rep.int) hg
theorem Zjd(T:Txt X.K X.mg)(hg:Gl X "MOST_TAKEN":=by rfl):C3 X (.Name "MOST_TAKEN" pos) uE:=by obtain⟨t,e⟩:=T.uE;exact t8 (v:=.int 6) e ⟨t,rfl⟩ (λ_ _=>Rep.int) hg
theorem Zjh(T:Txt X.K X.mg)(hg:Gl X "MOST_WORDS":=by rfl):C3 X (.Name "MOST_WORDS" pos) uF:=by obtain⟨t,e⟩:=T.uF;exact t8 (v:=.int 60) e ⟨t,rfl⟩ (λ_ _=>Rep.int) hg
theorem ZmB{e':Expr}{apos cpos:aV}{g':E3}(T:Txt X.K X.mg)(he:C3 X e g)(he':C3 X e' g')(m:M2 X (.Name "PARTS" npos) "get" apos e e' cpos:=by exact⟨rfl,rfl,rfl,rfl⟩)(hg:Gl X "PARTS":=by rfl):C3 X (.Call (.Attribute (.Name "PARTS" npos) "get" apos) [e,e'] [] cpos) (e2 (t7 nY) g g'):=by obtain⟨a,hm,ht⟩:=T.Vm;exact Znw hm ht he he' m hg
theorem ZmH(T:Txt X.K X.mg)(he:C3 X e g)(hg:Gl X "PARTS":=by rfl):C3 X (.Compare e [.In] [.Name "PARTS" npos] pos) (e1 (ug nY) g):=by obtain⟨a,hm,ht⟩:=T.Vm;exact ZsK hm ht he hg
theorem Zjf(T:Txt X.K X.mg)(he:C3 X e g)(hg:Gl X "SUMS":=by rfl):CT X (.Compare e [.NotIn] [.Name "SUMS" npos] pos) (e1 (Kv kE) g):=by obtain⟨a,hm,ht⟩:=T.Vq;exact Zlj hm ht he hg
theorem ZoP(T:Txt X.K X.mg)(he:C3 X e g)(hs:JM e:=by exactλ_ _=>rfl)(hg:Gl X "SUMS":=by rfl):C3 X (.Subscript (.Name "SUMS" npos) e pos) (e1 (Gb kE) g):=by obtain⟨a,hm,ht⟩:=T.Vq;exact Zr7 hm ht he hs hg
theorem Zpr(T:Txt X.K X.mg)(hg:Gl X "WORDS":=by rfl):C3 X (.Name "WORDS" pos) uh:=by obtain⟨a,hm,ht⟩:=T.AaY;exact ZrK hm ht hg
section
variable {P:bF} {w:bx} {K:W.Frag} {mg:aj->Option Yh} {base:aO}
theorem Zgz:dM ["word","figures"] ["word"] (Zk Bu):=⟨rfl,rfl,rfl,by decide +kernel,rfl,by decide +kernel,by decide +kernel⟩
theorem Zkx(A:bM K mg "is_number" Bu ["word"])(T:Txt K mg):aJ P w K mg base 1 "is_number" ["word"] qx:=
  aJ.of (N:=["word","figures"]) (k:=0) A Zgz λf cdv A outer s H E hr=>by
    have hu:=gh hr;unfold Gd;refine Ze ?_ ?_
    .refine Zv 1 ?_ ?_
     .exact Zgz.nd
     .refine Fy ?_ ?_ ?_
      .exact o_ (Zey (Zd 0) (Zc bG Zg))
      .exact qi qp (Zd 0) (ph Zj) rH
      .exact Zd 0
    .refine Ze ?_ ?_
     .refine bW ?_ ?_ ?_
      .refine CW.ct ?_;refine rG ?_ ?_
       .refine bj ?_ ?_ ?_
        .exact uc
        .exact dG (id:="len") fP T.eU fj (Zc (Zd 1) Zg)
        .exact Zj
       .refine vQ ?_;refine bj ?_ ?_ ?_
        .exact pq
        .exact dG (id:="len") fP T.eU fj (Zc (Zd 1) Zg)
        .exact ZhL T
      .exact Zm (bY J2)
      .exact cN
     .refine Ze ?_ ?_
      .refine bW ?_ ?_ ?_
       .exact o_ (Zey (Zd 1) (Zc bG Zg))
       .exact Zm (bY (rF ((eE hu)) (Zd 0) bG))
       .exact cN
      .refine Zm ?_;refine bY ?_;refine dG (id:="all") ?_ ?_ ?_ ?_
       .exact(Bg rfl)
       .exact T.yZ
       .exact Bf
       .refine Zc ?_ ?_
        .refine qm (N':=["word","figures","figure"]) ?_ ?_ ?_ ?_ (λC cl s H ex=>⟨?_,?_,?_⟩)
         .exact l_ rfl (by kernel_rfl)
         .exact rfl
         .exact rfl
         .exact mU (Zd 1)
         .exact jP 2 ((show jy (["word","figures","figure"]:List aj)by decide +kernel))
         .exact mR
         .exact rF ((RT hu)) (Zd 2) (ZmM T)
        .exact Zg
theorem Cu:dM ["words","sums","lacking","word"] ["words"] (Zk Bv):=⟨rfl,rfl,rfl,by decide +kernel,rfl,by decide +kernel,by decide +kernel⟩
theorem ZmN(A:bM K mg "sums_in" Bv ["words"])(T:Txt K mg):aJ P w K mg base 1 "sums_in" ["words"] wg:=
  aJ.of (N:=["words","sums","lacking","word"]) (k:=0) A Cu λf cdv A outer s H E hr=>by
    have hu:=gh hr;unfold Su;refine Ze ?_ ?_
    .exact Zv 1 Cu.nd (cQ Zg)
    .refine Ze ?_ ?_
     .exact Zv 2 Cu.nd Zj
     .refine Ze ?_ ?_
      .refine Ba ?_ ?_ ?_ ?_ ?_
       .exact rfl
       .exact rfl
       .exact mU (Zd 0)
       .exact jP 3 Cu.nd
       .refine Ze ?_ ?_
        .refine bW ?_ ?_ ?_
         .exact bj ((eE hu)) (Zd 2) Zj
         .refine Ze ?_ ?_
          .exact fY (jg (Zd 1) (Zc (cQ Zg) Zg))
          .exact Zm (Zv 2 Cu.nd Zj)
         .exact cN
        .refine Ze ?_ ?_
         .refine fY ?_;refine jg ?_ ?_
          .exact bA bB (Zd 1) (jO jQ Zj)
          .exact Zc (Zd 3) Zg
         .refine Zm ?_;refine Zv 2 ?_ ?_
          .exact Cu.nd
          .refine Zu ?_ ?_ ?_
           .exact dZ
           .exact Zu vV (Zd 2) Zj
           .exact ZmB T (Zd 3) Zj
      .refine Zm ?_;refine bY ?_;refine Fy ?_ ?_ ?_
       .exact bj ((eE hu)) (Zd 2) Zj
       .refine qm (N':=["words","sums","lacking","word","one"]) ?_ ?_ ?_ ?_ (λC cl s H ex=>⟨?_,?_,?_⟩)
        .exact l_ rfl (by kernel_rfl)
        .exact rfl
        .exact rfl
        .exact mU (Zd 1)
        .exact jP 4 ((show jy (["words","sums","lacking","word","one"]:List aj)by decide +kernel))
        .exact mR
        .exact j_ (T:="tuple") nT T.jE nU (Zc (Zd 4) Zg)
       .exact mQ
theorem Zjn:dM ["word"] ["word"] (Zk Bw):=⟨rfl,rfl,rfl,by decide +kernel,rfl,by decide +kernel,by decide +kernel⟩
theorem Zjg(A:bM K mg "needs_sums" Bw ["word"])(T:Txt K mg):aJ P w K mg base 1 "needs_sums" ["word"] Bq:=aJ.of (N:=["word"]) (k:=0) A Zjn λf cdv A outer s H E hr=>by have hu:=gh hr;unfold ZgW;exact Zm (bY (ZmH T (Zd 0)))
theorem Zl0:dM ["words"] ["words"] (Zk Bx):=⟨rfl,rfl,rfl,by decide +kernel,rfl,by decide +kernel,by decide +kernel⟩
theorem ZlJ(A:bM K mg "parts_of" Bx ["words"])(T:Txt K mg)(yX:aJ P w K mg base 1 "sums_in" ["words"] wg):aJ P w K mg base 2 "parts_of" ["words"] Kz:=
  aJ.of (N:=["words"]) (k:=1) A Zl0 λf cdv A outer s H E hr=>by
    have hu:=gh hr;unfold Sv;refine Zm ?_;refine bY ?_;refine cD (k:=1) (ps:=["words"]) ?_ ?_ ?_
    .exact yX
    .exact hr.mono (by decide)
    .exact Zc (qi qp (Zd 0) (ph Zj) rH) Zg
theorem Ti:dM ["words","parts"] ["words"] (Zk BJ):=⟨rfl,rfl,rfl,by decide +kernel,rfl,by decide +kernel,by decide +kernel⟩
theorem ZpU(A:bM K mg "depth" BJ ["words"])(T:Txt K mg)(Mr:aJ P w K mg base 2 "parts_of" ["words"] Kz):aJ P w K mg base 64 "depth" ["words"] Ge:=by
  have all:∀n:Nat,aJ P w K mg base (n+3) "depth" ["words"] (yE n):=by
    intro n
    induction n with
    |zero=>exact aJ.of (N:=["words","parts"]) (k:=2) A Ti λf cdv A outer s H E hr=>ZnO|succ n IH=>
      refine(aJ.of (N:=["words","parts"]) (k:=n+3) A Ti λf cdv A outer s H E hr=>?_).mono (by omega);have hu:=gh hr;unfold Sw;refine Ze ?_ ?_
      .exact Zv 1 Ti.nd (cD (k:=2) (ps:=["words"]) Mr (hr.mono (by omega)) (Zc (Zd 0) Zg))
      .refine Zm ?_;refine bY ?_;refine ZpC ?_ ?_
       .exact T.Vv
       .refine Zwz (N':=["words","parts","deeper","part"]) ?_ ?_ ?_ ?_ (λC cl s H ex=>⟨?_,?_,?_⟩)
        .exact l_ rfl (by kernel_rfl)
        .exact rfl
        .exact rfl
        .exact ZnZ T.Mj (Zd 1)
        .exact J4 rfl (kh 2 ((show jy (["words","parts","deeper","part"]:List aj)by decide +kernel)) (kh 3 ((show jy (["words","parts","deeper","part"]:List aj)by decide +kernel)) yo))
        .exact mR
        .refine Zu ?_ ?_ ?_
         .exact dZ
         .exact cD (k:=n+3) (ps:=["words"]) IH hr (Zc (Zd 3) Zg)
         .exact Zd 2
  exact all 61
theorem Zm4:dM ["word"] ["word"] (Zk BP):=⟨rfl,rfl,rfl,by decide +kernel,rfl,by decide +kernel,by decide +kernel⟩
theorem Zmn(A:bM K mg "is_name" BP ["word"])(T:Txt K mg):aJ P w K mg base 1 "is_name" ["word"] mW:=
  aJ.of (N:=["word"]) (k:=0) A Zm4 λf cdv A outer s H E hr=>by
    have hu:=gh hr;unfold KC;refine Ze ?_ ?_
    .refine bW ?_ ?_ ?_
     .refine CW.ct ?_;refine rG ?_ ?_
      .refine bj ?_ ?_ ?_
       .exact uc
       .exact dG (id:="len") fP T.eU fj (Zc (Zd 0) Zg)
       .exact Zj
      .refine rG ?_ ?_
       .refine bj ?_ ?_ ?_
        .exact pq
        .exact dG (id:="len") fP T.eU fj (Zc (Zd 0) Zg)
        .exact ZhP T
       .exact vQ (bj ((RT hu)) (Zd 0) (Zpr T))
     .exact Zm (bY J2)
     .exact cN
    .refine Zm ?_;refine bY ?_;refine dG (id:="all") ?_ ?_ ?_ ?_
     .exact(Bg rfl)
     .exact T.yZ
     .exact Bf
     .refine Zc ?_ ?_
      .refine qm (N':=["word","letter"]) ?_ ?_ ?_ ?_ (λC cl s H ex=>⟨?_,?_,?_⟩)
       .exact l_ rfl (by kernel_rfl)
       .exact rfl
       .exact rfl
       .exact mU (Zd 0)
       .exact jP 1 ((show jy (["word","letter"]:List aj)by decide +kernel))
       .exact mR
       .exact rF ((RT hu)) (Zd 1) (Zml T)
      .exact Zg
theorem ZfX:dM ["row","names"] ["row"] (Zk BL):=⟨rfl,rfl,rfl,by decide +kernel,rfl,by decide +kernel,by decide +kernel⟩
theorem Zjp(A:bM K mg "read_taken" BL ["row"])(T:Txt K mg)(rQ:aJ P w K mg base 1 "is_name" ["word"] mW):aJ P w K mg base 2 "read_taken" ["row"] KD:=
  aJ.of (N:=["row","names"]) (k:=1) A ZfX λf cdv A outer s H E hr=>by
    have hu:=gh hr;unfold Sx;refine Ze ?_ ?_
    .refine Zv 1 ?_ ?_
     .exact ZfX.nd
     .refine qi ?_ ?_ ?_ ?_
      .exact qp
      .exact bA bB (Zd 0) Zj
      .exact ph Zj
      .exact rH
    .refine Ze ?_ ?_
     .refine bW ?_ ?_ ?_
      .refine CW.ct ?_;refine rG ?_ ?_
       .refine bj ?_ ?_ ?_
        .exact uc
        .exact dG (id:="len") fP T.eU fj (Zc (Zd 1) Zg)
        .exact Zj
       .refine rG ?_ ?_
        .refine bj ?_ ?_ ?_
         .exact pq
         .exact dG (id:="len") fP T.eU fj (Zc (Zd 1) Zg)
         .exact Zjd T
        .refine vQ ?_;refine bj ?_ ?_ ?_
         .exact(Be hu)
         .exact Zps T.eU T.Abg (Zd 1)
         .exact dG (id:="len") fP T.eU fj (Zc (Zd 1) Zg)
      .exact Zm J3
      .exact cN
     .refine Ze ?_ ?_
      .refine bW ?_ ?_ ?_
       .refine Fx ?_;refine o_ ?_;refine dG (id:="all") ?_ ?_ ?_ ?_
        .exact(Bg rfl)
        .exact T.yZ
        .exact Bf
        .refine Zc ?_ ?_
         .refine qm (N':=["row","names","name"]) ?_ ?_ ?_ ?_ (λC cl s H ex=>⟨?_,?_,?_⟩)
          .exact l_ rfl (by kernel_rfl)
          .exact rfl
          .exact rfl
          .exact mU (Zd 1)
          .exact jP 2 ((show jy (["row","names","name"]:List aj)by decide +kernel))
          .exact mR
          .exact cD (k:=1) (ps:=["word"]) rQ (hr.mono (by decide)) (Zc (Zd 2) Zg)
         .exact Zg
       .exact Zm J3
       .exact cN
      .refine Zm ?_;exact bY (j_ (T:="tuple") nT T.jE nU (Zc (Zd 1) Zg))
theorem ZgD:dM ["self","head"] ["self","head"] (Zk Cr):=⟨rfl,rfl,rfl,by decide +kernel,rfl,by decide +kernel,by decide +kernel⟩
theorem Zgq{cO:Y1}(cZ:Gi K mg cO)(A:Ks K cO "Block.__init__" Cr ["self","head"])(T:Txt K mg):yD P w K mg base 1 cO ["self","head"] yF:=
  yD.of (N:=["self","head"]) (k:=0) A ZgD λf cdv A outer s H E hr=>by
    have hu:=gh hr;unfold ZeA;refine Ze ?_ ?_
    .exact Zqe (C:=cO) (c:=[66,108,111,99,107]) (m:=[104,101,97,100]) cZ.ok cZ.G7 (Zd 0) (Zd 1)
    .refine Zm ?_;refine Zqe (C:=cO) (c:=[66,108,111,99,107]) (m:=[108,105,115,116,115]) ?_ ?_ ?_ ?_
     .exact cZ.ok
     .exact cZ.wL
     .exact Zd 0
     .exact cQ (Zc (cQ Zg) Zg)
theorem Tj:dM ["words","sums","depths"] ["words"] (Zk BW):=⟨rfl,rfl,rfl,by decide +kernel,rfl,by decide +kernel,by decide +kernel⟩
theorem Zkl(A:bM K mg "read_sums" BW ["words"])(T:Txt K mg)(GX:aJ P w K mg base 1 "is_number" ["word"] qx)(yX:aJ P w K mg base 1 "sums_in" ["words"] wg)(LR:aJ P w K mg base 1 "needs_sums" ["word"] Bq)(Mw:aJ P w K mg base 64 "depth" ["words"] Ge)(rQ:aJ P w K mg base 1 "is_name" ["word"] mW):aJ P w K mg base 65 "read_sums" ["words"] KH:=
  aJ.of (N:=["words","sums","depths"]) (k:=64) A Tj λf cdv A outer s H E hr=>by
    have hu:=gh hr;unfold Sy;refine Ze ?_ ?_
    .refine bW ?_ ?_ ?_
     .refine Fx ?_;refine o_ ?_;refine dG (id:="all") ?_ ?_ ?_ ?_
      .exact(Bg rfl)
      .exact T.yZ
      .exact Bf
      .refine Zc ?_ ?_
       .refine qm (N':=["words","sums","depths","word"]) ?_ ?_ ?_ ?_ (λC cl s H ex=>⟨?_,?_,?_⟩)
        .exact l_ rfl (by kernel_rfl)
        .exact rfl
        .exact rfl
        .exact mU (Zd 0)
        .exact jP 3 ((show jy (["words","sums","depths","word"]:List aj)by decide +kernel))
        .exact mR
        .refine Zv0 ?_ ?_
         .exact cD (k:=1) (ps:=["word"]) LR (hr.mono (by decide)) (Zc (Zd 3) Zg)
         .refine Zv0 ?_ ?_
          .exact cD (k:=1) (ps:=["word"]) rQ (hr.mono (by decide)) (Zc (Zd 3) Zg)
          .exact yh (cD (k:=1) (ps:=["word"]) GX (hr.mono (by decide)) (Zc (Zd 3) Zg))
       .exact Zg
     .exact Zm (bY mQ)
     .exact cN
    .refine Ze ?_ ?_
     .refine Zv 1 ?_ ?_
      .exact Tj.nd
      .refine cD (k:=1) (ps:=["words"]) ?_ ?_ ?_
       .exact yX
       .exact hr.mono (by decide)
       .refine Zc ?_ ?_
        .refine qm (N':=["words","sums","depths","word"]) ?_ ?_ ?_ ?_ (λC cl s H ex=>⟨?_,?_,?_⟩)
         .exact l_ rfl (by kernel_rfl)
         .exact rfl
         .exact rfl
         .exact mU (Zd 0)
         .exact jP 3 ((show jy (["words","sums","depths","word"]:List aj)by decide +kernel))
         .exact mR
         .refine Fy ?_ ?_ ?_
          .exact o_ (cD (k:=1) (ps:=["word"]) GX (hr.mono (by decide)) (Zc (Zd 3) Zg))
          .exact j_ (T:="int") Zuo T.Vu Zuv (Zc (Zd 3) Zg)
          .exact Zd 3
        .exact Zg
     .refine Ze ?_ ?_
      .refine bW ?_ ?_ ?_
       .exact bj FP (Zd 1) mQ
       .exact Zm (bY mQ)
       .exact cN
      .refine Ze ?_ ?_
       .refine ZjW (N':=["words","sums","depths","deeper","one"]) 2 ?_ ?_ ?_ ?_ ?_ (λC cl s H ex=>⟨?_,?_,?_⟩)
        .exact l_ rfl (by kernel_rfl)
        .exact rfl
        .exact rfl
        .exact Tj.nd
        .exact ZnZ T.Mj (Zd 1)
        .exact J4 rfl (kh 3 ((show jy (["words","sums","depths","deeper","one"]:List aj)by decide +kernel)) (kh 4 ((show jy (["words","sums","depths","deeper","one"]:List aj)by decide +kernel)) yo))
        .exact mR
        .refine Zu ?_ ?_ ?_
         .exact dZ
         .exact cD (k:=64) (ps:=["words"]) Mw (hr.mono (by decide)) (Zc (Zd 4) Zg)
         .exact Zd 3
       .refine Zm ?_;refine bY ?_;refine Fy ?_ ?_ ?_
        .exact bj Rk (ZpC T.Vv (Zd 2)) (Zi8 T)
        .exact Zd 1
        .exact mQ
theorem Tn:dM ["words","begin","sums"] ["words"] (Zk BV):=⟨rfl,rfl,rfl,by decide +kernel,rfl,by decide +kernel,by decide +kernel⟩
theorem Zj7(A:bM K mg "read_deed" BV ["words"])(T:Txt K mg)(rQ:aJ P w K mg base 1 "is_name" ["word"] mW)(Ml:aJ P w K mg base 65 "read_sums" ["words"] KH):aJ P w K mg base 66 "read_deed" ["words"] Gf:=
  aJ.of (N:=["words","begin","sums"]) (k:=65) A Tn λf cdv A outer s H E hr=>by
    have hu:=gh hr;unfold SJ;refine Ze ?_ ?_
    .refine bW ?_ ?_ ?_
     .refine CW.ct ?_;refine rG ?_ ?_
      .exact Zjf T (bA bB (Zd 0) Zj)
      .refine vQ ?_;refine bj ?_ ?_ ?_
       .exact pq
       .exact dG (id:="len") fP T.eU fj (Zc (Zd 0) Zg)
       .exact Zjh T
     .exact Zm (bY mQ)
     .exact cN
    .refine Ze ?_ ?_
     .refine Zv 1 ?_ ?_
      .exact Tn.nd
      .refine Fy ?_ ?_ ?_
       .exact bj ((eE hu)) (bA bB (Zd 0) Zj) bG
       .exact Zj
       .exact Zj
     .refine Ze ?_ ?_
      .refine bW ?_ ?_ ?_
       .refine Fx ?_;refine o_ ?_;refine dG (id:="all") ?_ ?_ ?_ ?_
        .exact(Bg rfl)
        .exact T.yZ
        .exact Bf
        .refine Zc ?_ ?_
         .refine qm (N':=["words","begin","sums","word"]) ?_ ?_ ?_ ?_ (λC cl s H ex=>⟨?_,?_,?_⟩)
          .exact l_ rfl (by kernel_rfl)
          .exact rfl
          .exact rfl
          .exact mU (qi qp (Zd 0) (ph Zj) (ph (Zd 1)))
          .exact jP 3 ((show jy (["words","begin","sums","word"]:List aj)by decide +kernel))
          .exact mR
          .exact cD (k:=1) (ps:=["word"]) rQ (hr.mono (by decide)) (Zc (Zd 3) Zg)
         .exact Zg
       .exact Zm (bY mQ)
       .exact cN
      .refine Ze ?_ ?_
       .refine Zv 2 ?_ ?_
        .exact Tn.nd
        .refine cD (k:=65) (ps:=["words"]) ?_ ?_ ?_
         .exact Ml
         .exact hr.mono (by decide)
         .exact Zc (qi qp (Zd 0) (ph (Zd 1)) rH) Zg
       .refine Ze ?_ ?_
        .refine bW ?_ ?_ ?_
         .refine CW.ct ?_;refine rG ?_ ?_
          .exact bj FP (Zd 2) mQ
          .refine vQ ?_;refine bj ?_ ?_ ?_
           .exact(Be hu)
           .exact dG (id:="len") fP T.eU fj (Zc (Zd 2) Zg)
           .exact ZoP T (bA bB (Zd 0) Zj)
         .exact Zm (bY mQ)
         .exact cN
        .refine Zm ?_;refine bY ?_;refine j_ (T:="tuple") ?_ ?_ ?_ ?_
         .exact nT
         .exact T.jE
         .exact nU
         .refine Zc ?_ ?_
          .refine Zu ?_ ?_ ?_
           .exact dZ
           .exact qi qp (Zd 0) rH (ph (Zd 1))
           .exact Zd 2
          .exact Zg
theorem Tp:dM ["blocks","word","inner","full"] ["blocks","word"] (Zk BX):=⟨rfl,rfl,rfl,by decide +kernel,rfl,by decide +kernel,by decide +kernel⟩
theorem Zkn(A:bM K mg "can_stand" BX ["blocks","word"])(T:Txt K mg){cO:Y1}(cZ:Gi K mg cO):aJ P w K mg base 1 "can_stand" ["blocks","word"] Br:=
  aJ.of (N:=["blocks","word","inner","full"]) (k:=0) A Tp λf cdv A outer s H E hr=>by
    have hu:=gh hr;unfold SM;refine Ze ?_ ?_
    .exact Zv 2 Tp.nd (bA bB (Zd 0) (jO jQ Zj))
    .refine Ze ?_ ?_
     .refine Zv 3 ?_ ?_
      .exact Tp.nd
      .refine rF ?_ ?_ ?_
       .exact(eE hu)
       .refine Zm0 ?_ ?_ ?_
        .exact T
        .exact bA bB (uf (C:=cO) (c:=[66,108,111,99,107]) (m:=[104,101,97,100]) cZ.ok cZ.G7 (Zd 2)) Zj
        .exact Zj
       .refine dG (id:="len") ?_ ?_ ?_ ?_
        .exact fP
        .exact T.eU
        .exact fj
        .exact Zc (uf (C:=cO) (c:=[66,108,111,99,107]) (m:=[108,105,115,116,115]) cZ.ok cZ.wL (Zd 2)) Zg
     .refine Ze ?_ ?_
      .refine bW ?_ ?_ ?_
       .exact Zhz T (Zd 1)
       .refine Zm ?_;refine bY ?_;refine rF ?_ ?_ ?_
        .exact Rk
        .exact dG (id:="len") fP T.eU fj (Zc (Zd 0) Zg)
        .exact ZiI T
       .exact cN
      .refine Ze ?_ ?_
       .refine bW ?_ ?_ ?_
        .exact bj ((eE hu)) (Zd 1) bG
        .refine Zm ?_;refine bY ?_;refine yj ?_ ?_
         .refine rF ?_ ?_ ?_
          .exact(eE hu)
          .exact bA bB (uf (C:=cO) (c:=[66,108,111,99,107]) (m:=[104,101,97,100]) cZ.ok cZ.G7 (Zd 2)) Zj
          .exact bG
         .exact yh (Ztf (Zd 3))
        .exact cN
       .refine Ze ?_ ?_
        .refine bW ?_ ?_ ?_
         .exact bj ((eE hu)) (Zd 1) bG
         .exact Zm (bY (Zd 3))
         .exact cN
        .exact Zm (bY J2)
theorem Tq:dM ["blocks","deed","inner","whole"] ["blocks","deed"] (Zk BZ):=⟨rfl,rfl,rfl,by decide +kernel,rfl,by decide +kernel,by decide +kernel⟩
theorem Zjm(A:bM K mg "place_deed" BZ ["blocks","deed"])(T:Txt K mg){cO:Y1}(cZ:Gi K mg cO)(yV:yD P w K mg base 1 cO ["self","head"] yF):aJ P w K mg base 3 "place_deed" ["blocks","deed"] ul:=
  aJ.of (N:=["blocks","deed","inner","whole"]) (k:=2) A Tq λf cdv A outer s H E hr=>by
    have hu:=gh hr;unfold yG;refine Ze ?_ ?_
    .exact Zv 2 Tq.nd (bA bB (Zd 0) (jO jQ Zj))
    .refine Zm ?_;refine bW ?_ ?_ ?_
     .exact Zhz T (bA bB (Zd 1) Zj)
     .refine Zm ?_;refine fY ?_;refine jg ?_ ?_
      .exact Zd 0
      .refine Zc ?_ ?_
       .exact ZvO (C:=cO) (c:=[66,108,111,99,107]) (k:=1) (ps:=["self","head"]) cZ.ok yV cZ.mg (hr.mono (by decide)) (Zc (Zd 1) Zg)
       .exact Zg
     .refine Zm ?_;refine bW ?_ ?_ ?_
      .exact bj ((eE hu)) (bA bB (Zd 1) Zj) bG
      .refine Zm ?_;refine fY ?_;refine jg ?_ ?_
       .exact uf (C:=cO) (c:=[66,108,111,99,107]) (m:=[108,105,115,116,115]) cZ.ok cZ.wL (Zd 2)
       .exact Zc (cQ Zg) Zg
      .refine Zm ?_;refine bW ?_ ?_ ?_
       .exact bj ((eE hu)) (bA bB (Zd 1) Zj) bG
       .refine Ze ?_ ?_
        .exact fY (Kr (Zd 0))
        .refine Ze ?_ ?_
         .refine Zv 3 ?_ ?_
          .exact Tq.nd
          .refine Zu ?_ ?_ ?_
           .exact dZ
           .exact uf (C:=cO) (c:=[66,108,111,99,107]) (m:=[104,101,97,100]) cZ.ok cZ.G7 (Zd 2)
           .refine j_ (T:="tuple") ?_ ?_ ?_ ?_
            .exact nT
            .exact T.jE
            .exact nU
            .refine Zc ?_ ?_
             .refine qm (N':=["blocks","deed","inner","whole","deeds"]) ?_ ?_ ?_ ?_ (λC cl s H ex=>⟨?_,?_,?_⟩)
              .exact l_ rfl (by kernel_rfl)
              .exact rfl
              .exact rfl
              .exact mU (uf (C:=cO) (c:=[66,108,111,99,107]) (m:=[108,105,115,116,115]) cZ.ok cZ.wL (Zd 2))
              .exact jP 4 ((show jy (["blocks","deed","inner","whole","deeds"]:List aj)by decide +kernel))
              .exact mR
              .exact j_ (T:="tuple") nT T.jE nU (Zc (Zd 4) Zg)
             .exact Zg
         .refine Zm ?_;refine fY ?_;refine jg ?_ ?_
          .refine bA ?_ ?_ ?_
           .exact bB
           .refine uf (C:=cO) (c:=[66,108,111,99,107]) (m:=[108,105,115,116,115]) ?_ ?_ ?_
            .exact cZ.ok
            .exact cZ.wL
            .exact bA bB (Zd 0) (jO jQ Zj)
           .exact jO jQ Zj
          .exact Zc (Zd 3) Zg
       .refine Zm ?_;refine fY ?_;refine jg ?_ ?_
        .refine bA ?_ ?_ ?_
         .exact bB
         .exact uf (C:=cO) (c:=[66,108,111,99,107]) (m:=[108,105,115,116,115]) cZ.ok cZ.wL (Zd 2)
         .exact jO jQ Zj
        .exact Zc (Zd 1) Zg
theorem Gj:dM ["rows","behind","blocks","number","words","deed"] ["rows","behind"] (Zk BR):=⟨rfl,rfl,rfl,by decide +kernel,rfl,by decide +kernel,by decide +kernel⟩
theorem Zja(A:bM K mg "read_deeds" BR ["rows","behind"])(T:Txt K mg){cO:Y1}(cZ:Gi K mg cO)(yV:yD P w K mg base 1 cO ["self","head"] yF)(Mm:aJ P w K mg base 66 "read_deed" ["words"] Gf)(Mp:aJ P w K mg base 1 "can_stand" ["blocks","word"] Br)(L_:aJ P w K mg base 3 "place_deed" ["blocks","deed"] ul):aJ P w K mg base 67 "read_deeds" ["rows","behind"] KJ:=
  aJ.of (N:=["rows","behind","blocks","number","words","deed"]) (k:=66) A Gj λf cdv A outer s H E hr=>by
    have hu:=gh hr;unfold SN;refine Ze ?_ ?_
    .refine Zv 2 ?_ ?_
     .exact Gj.nd
     .refine cQ ?_;refine Zc ?_ ?_
      .refine ZvO (C:=cO) (c:=[66,108,111,99,107]) (k:=1) (ps:=["self","head"]) ?_ ?_ ?_ ?_ ?_
       .exact cZ.ok
       .exact yV
       .exact cZ.mg
       .exact hr.mono (by decide)
       .exact Zc (nQ (Zc bG Zg)) Zg
      .exact Zg
    .refine Ze ?_ ?_
     .refine Ba ?_ ?_ ?_ ?_ ?_
      .exact rfl
      .exact rfl
      .exact mU (Zd 0)
      .exact J4 rfl (kh 3 Gj.nd (kh 4 Gj.nd yo))
      .refine Ze ?_ ?_
       .exact Zv 5 Gj.nd (cD (k:=66) (ps:=["words"]) Mm (hr.mono (by decide)) (Zc (Zd 4) Zg))
       .refine Ze ?_ ?_
        .refine bW ?_ ?_ ?_
         .refine CW.ct ?_;refine rG ?_ ?_
          .exact bj FP (Zd 5) mQ
          .refine vQ ?_;refine Fx ?_;refine o_ ?_;refine cD (k:=1) (ps:=["blocks","word"]) ?_ ?_ ?_
           .exact Mp
           .exact hr.mono (by decide)
           .exact Zc (Zd 2) (Zc (bA bB (Zd 5) Zj) Zg)
         .exact Zm J3
         .exact cN
        .refine Zm ?_;refine fY ?_;exact cD (k:=3) (ps:=["blocks","deed"]) L_ (hr.mono (by decide)) (Zc (Zd 2) (Zc (Zd 5) Zg))
     .refine Ze ?_ ?_
      .refine bW ?_ ?_ ?_
       .refine bj ?_ ?_ ?_
        .exact pq
        .exact dG (id:="len") fP T.eU fj (Zc (Zd 2) Zg)
        .exact Zj
       .exact Zm J3
       .exact cN
      .refine Zm ?_;refine bY ?_;refine j_ (T:="tuple") ?_ ?_ ?_ ?_
       .exact nT
       .exact T.jE
       .exact nU
       .refine Zc ?_ ?_
        .refine bA ?_ ?_ ?_
         .exact bB
         .exact uf (C:=cO) (c:=[66,108,111,99,107]) (m:=[108,105,115,116,115]) cZ.ok cZ.wL (bA bB (Zd 2) Zj)
         .exact Zj
        .exact Zg
theorem Cv:dM ["text","lines","rows","taken"] ["text"] (Zk BK):=⟨rfl,rfl,rfl,by decide +kernel,rfl,by decide +kernel,by decide +kernel⟩
theorem Zro(A:bM K mg "read" BK ["text"])(T:Txt K mg)(Ma:aJ P w K mg base 2 "read_taken" ["row"] KD)(Mf:aJ P w K mg base 67 "read_deeds" ["rows","behind"] KJ):aJ P w K mg base 68 "read" ["text"] Bs:=
  aJ.of (N:=["text","lines","rows","taken"]) (k:=67) A Cv λf cdv A outer s H E hr=>by
    have hu:=gh hr;unfold KN;refine Ze ?_ ?_
    .exact Zv 1 Cv.nd (Zhy (Zd 0) (Zc bG Zg))
    .refine Ze ?_ ?_
     .refine ZjW (N':=["text","lines","rows","taken","number","line"]) 2 ?_ ?_ ?_ ?_ ?_ (λC cl s H ex=>⟨?_,?_,?_⟩)
      .exact l_ rfl (by kernel_rfl)
      .exact rfl
      .exact rfl
      .exact Cv.nd
      .exact Zpn T.Mj (Zd 1)
      .exact J4 rfl (kh 4 ((show jy (["text","lines","rows","taken","number","line"]:List aj)by decide +kernel)) (kh 5 ((show jy (["text","lines","rows","taken","number","line"]:List aj)by decide +kernel)) yo))
      .exact Zsa (bj ((Be hu)) (Zd 5) bG)
      .refine nQ ?_;refine Zc ?_ ?_
       .exact Zd 4
       .exact Zc (Zhy (Zd 5) (Zc bG Zg)) Zg
     .refine Ze ?_ ?_
      .exact Zv 3 Cv.nd (nQ Zg)
      .refine Ze ?_ ?_
       .refine bW ?_ ?_ ?_
        .refine CW.ct ?_;refine nP ?_ ?_
         .refine bj ?_ ?_ ?_
          .exact pq
          .exact dG (id:="len") fP T.eU fj (Zc (Zd 2) Zg)
          .exact Zj
         .refine vP ?_;refine bj ?_ ?_ ?_
          .exact(eE hu)
          .refine bA ?_ ?_ ?_
           .exact bB
           .exact bA bB (bA bB (Zd 2) Zj) Zj
           .exact Zj
          .exact bG
        .refine Ze ?_ ?_
         .refine Zv 3 ?_ ?_
          .exact Cv.nd
          .refine cD (k:=2) (ps:=["row"]) ?_ ?_ ?_
           .exact Ma
           .exact hr.mono (by decide)
           .exact Zc (bA bB (Zd 2) Zj) Zg
         .refine Zm ?_;exact Zv 2 Cv.nd (qi qp (Zd 2) (ph Zj) rH)
        .exact cN
       .refine Zm ?_;refine bY ?_;refine nQ ?_;refine Zc ?_ ?_
        .exact Zd 3
        .refine Zc ?_ ?_
         .refine cD (k:=67) (ps:=["rows","behind"]) ?_ ?_ ?_
          .exact Mf
          .exact hr.mono (by decide)
          .refine Zc ?_ ?_
           .exact Zd 2
           .refine Zc ?_ ?_
            .refine Zu ?_ ?_ ?_
             .exact dZ
             .exact dG (id:="len") fP T.eU fj (Zc (Zd 1) Zg)
             .exact Zj
            .exact Zg
         .exact Zg
theorem Tr:dM ["deck","cells","at"] ["deck"] (Zk B_):=⟨rfl,rfl,rfl,by decide +kernel,rfl,by decide +kernel,by decide +kernel⟩
theorem Zkb(A:bM K mg "_law_next" B_ ["deck"])(T:Txt K mg):aJ P w K mg base 1 "_law_next" ["deck"] iu:=
  aJ.of (N:=["deck","cells","at"]) (k:=0) A Tr λf cdv A outer s H E hr=>by
    have hu:=gh hr;unfold Bt;refine Ze ?_ ?_
    .exact Zv 1 Tr.nd (bA bB (Zd 0) Zj)
    .refine Ze ?_ ?_
     .exact Zv 2 Tr.nd (bA bB (Zd 0) Zj)
     .refine Ze ?_ ?_
      .exact R0 (Zd 0) Zj (Zu dZ (Zd 2) Zj)
      .refine Ze ?_ ?_
       .refine bW ?_ ?_ ?_
        .refine bj ?_ ?_ ?_
         .exact uc
         .exact Zd 2
         .exact dG (id:="len") fP T.eU fj (Zc (Zd 1) Zg)
        .exact Zm (bY (bA bB (Zd 1) (Zd 2)))
        .exact cN
       .refine Ze ?_ ?_
        .refine bW ?_ ?_ ?_
         .refine bj ?_ ?_ ?_
          .exact(eE hu)
          .exact dG (id:="len") fP T.eU fj (Zc (Zd 1) Zg)
          .exact Zj
         .refine Zm ?_;refine bY ?_;refine Zu ?_ ?_ ?_
          .exact dZ
          .exact Zu yu (Zu yu (Zd 2) (Zd 2)) Zj
          .exact Zd 2
         .exact cN
        .refine Zm ?_;refine bY ?_;refine Zu ?_ ?_ ?_
         .exact dZ
         .refine Zu ?_ ?_ ?_
          .exact iI
          .refine bA ?_ ?_ ?_
           .exact bB
           .exact Zd 1
           .refine Zu ?_ ?_ ?_
            .exact dm
            .exact Zd 2
            .exact dG (id:="len") fP T.eU fj (Zc (Zd 1) Zg)
          .exact Zj
         .exact Zu yu (Zd 2) (Zd 2)
theorem Zg0:dM ["found","due"] ["found","due"] (Zk Ca):=⟨rfl,rfl,rfl,by decide +kernel,rfl,by decide +kernel,by decide +kernel⟩
theorem Zkg(A:bM K mg "_law_same" Ca ["found","due"])(T:Txt K mg):aJ P w K mg base 32 "_law_same" ["found","due"] Gg:=by
  have all:∀ n:Nat,aJ P w K mg base (n+1) "_law_same" ["found","due"] (pC n):=by
    intro n
    induction n with
    |zero=>exact aJ.of (N:=["found","due"]) (k:=0) A Zg0 λf cdv A outer s H E hr=>ZnO|succ n IH=>
      refine(aJ.of (N:=["found","due"]) (k:=n+1) A Zg0 λf cdv A outer s H E hr=>?_).mono (by omega);have hu:=gh hr;unfold rK;refine Ze ?_ ?_
      .refine bW ?_ ?_ ?_
       .exact o_ (ZnK .tuple .list T.pJ T.jE T.MF (Zd 1))
       .refine Ze ?_ ?_
        .refine bW ?_ ?_ ?_
         .refine CW.ct ?_;refine rG ?_ ?_
          .refine bj ?_ ?_ ?_
           .exact(Be hu)
           .exact ud .tuple T.pJ T.jE (Zd 0)
           .exact ud .tuple T.pJ T.jE (Zd 1)
          .exact vQ (Fx (o_ (ZnK .tuple .list T.pJ T.jE T.MF (Zd 0))))
         .exact Zm (bY J2)
         .exact cN
        .refine Zm ?_;refine bY ?_;refine yj ?_ ?_
         .refine rF ?_ ?_ ?_
          .exact(eE hu)
          .exact dG (id:="len") fP T.eU fj (Zc (Zd 0) Zg)
          .exact dG (id:="len") fP T.eU fj (Zc (Zd 1) Zg)
         .refine yh ?_;refine dG (id:="all") ?_ ?_ ?_ ?_
          .exact(Bg rfl)
          .exact T.yZ
          .exact Bf
          .refine Zc ?_ ?_
           .refine qm (N':=["found","due","k"]) ?_ ?_ ?_ ?_ (λC cl s H ex=>⟨?_,?_,?_⟩)
            .exact l_ rfl (by kernel_rfl)
            .exact rfl
            .exact rfl
            .refine J5 ?_ ?_
             .exact T.G5
             .exact dG (id:="len") fP T.eU fj (Zc (Zd 1) Zg)
            .exact jP 2 ((show jy (["found","due","k"]:List aj)by decide +kernel))
            .exact mR
            .refine cD (k:=n+1) (ps:=["found","due"]) ?_ ?_ ?_
             .exact IH
             .exact hr
             .refine Zc ?_ ?_
              .exact bA bB (Zd 0) (Zd 2)
              .exact Zc (bA bB (Zd 1) (Zd 2)) Zg
           .exact Zg
       .exact cN
      .refine Ze ?_ ?_
       .refine bW ?_ ?_ ?_
        .exact o_ (ud .str T.pJ T.G_ (Zd 1))
        .refine Zm ?_;refine bY ?_;refine yj ?_ ?_
         .exact ud .str T.pJ T.G_ (Zd 0)
         .exact yh (rF ((eE hu)) (Zd 0) (Zd 1))
        .exact cN
       .refine Ze ?_ ?_
        .refine bW ?_ ?_ ?_
         .exact o_ (ud .bool T.pJ T.Mz (Zd 1))
         .refine Zm ?_;refine bY ?_;refine yj ?_ ?_
          .exact ud .bool T.pJ T.Mz (Zd 0)
          .exact yh (rF ((eE hu)) (Zd 0) (Zd 1))
         .exact cN
        .refine Zm ?_;refine bY ?_;refine yj ?_ ?_
         .exact ud .int T.pJ T.Vu (Zd 0)
         .refine yj ?_ ?_
          .exact Ztf (ud .bool T.pJ T.Mz (Zd 0))
          .exact yh (rF ((eE hu)) (Zd 0) (Zd 1))
  exact all 31
theorem kI:dM ["deck","own","letters","cell","more","first","other","names","k","sign","name"] ["deck"] (Zk Cd):=⟨rfl,rfl,rfl,by decide +kernel,rfl,by decide +kernel,by decide +kernel⟩
theorem Zji(A:bM K mg "_law_names" Cd ["deck"])(T:Txt K mg)(jU:aJ P w K mg base 1 "_law_next" ["deck"] iu):aJ P w K mg base 2 "_law_names" ["deck"] KQ:=
  aJ.of (N:=["deck","own","letters","cell","more","first","other","names","k","sign","name"]) (k:=1) A kI λf cdv A outer s H E hr=>by
    have hu:=gh hr;unfold SQ;refine Ze ?_ ?_
    .refine Zv 1 ?_ ?_
     .exact kI.nd
     .refine cQ ?_;refine Zc ?_ ?_
      .exact bG
      .refine Zc ?_ ?_
       .exact bG
       .refine Zc ?_ ?_
        .exact bG
        .refine Zc ?_ ?_
         .exact bG
         .refine Zc ?_ ?_
          .exact bG
          .refine Zc ?_ ?_
           .exact bG
           .refine Zc ?_ ?_
            .exact bG
            .refine Zc ?_ ?_
             .exact bG
             .refine Zc ?_ ?_
              .exact bG
              .exact Zc bG (Zc bG (Zc bG Zg))
    .refine Ze ?_ ?_
     .exact Zv 2 kI.nd bG
     .refine Ze ?_ ?_
      .exact Zv 3 kI.nd (cD (k:=1) (ps:=["deck"]) jU (hr.mono (by decide)) (Zc (Zd 0) Zg))
      .refine Ze ?_ ?_
       .exact Zv 4 kI.nd (Zu iI (Zd 3) Zj)
       .refine Ze ?_ ?_
        .refine Zv 5 ?_ ?_
         .exact kI.nd
         .exact bA bB (Zd 2) (Zu dm (Zd 4) Zj)
        .refine Ze ?_ ?_
         .refine Zv 6 ?_ ?_
          .exact kI.nd
          .refine bA ?_ ?_ ?_
           .exact bB
           .exact Zd 2
           .exact Zu dm (Zu iI (Zd 4) Zj) Zj
         .refine Ze ?_ ?_
          .exact Zv 7 kI.nd (cQ Zg)
          .refine Ze ?_ ?_
           .refine Ba ?_ ?_ ?_ ?_ ?_
            .exact rfl
            .exact rfl
            .exact J5 T.G5 Zj
            .exact jP 8 kI.nd
            .refine Ze ?_ ?_
             .refine Zv 9 ?_ ?_
              .exact kI.nd
              .refine bA ?_ ?_ ?_
               .exact bB
               .exact Zd 2
               .exact Zu dm (Zu dZ (Zd 4) (Zd 8)) Zj
             .refine Ze ?_ ?_
              .refine Zv 10 ?_ ?_
               .exact kI.nd
               .refine Zu ?_ ?_ ?_
                .exact yu
                .exact Zd 9
                .refine Zu ?_ ?_ ?_
                 .exact dZ
                 .exact Zj
                 .exact Zu dm (Zu iI (Zd 4) Zj) Zj
              .refine Ze ?_ ?_
               .refine bW ?_ ?_ ?_
                .exact bj ((eE hu)) (Zu dm (Zd 3) Zj) Zj
                .refine Zm ?_;refine Zv 10 ?_ ?_
                 .exact kI.nd
                 .refine Zu ?_ ?_ ?_
                  .exact dZ
                  .refine bA ?_ ?_ ?_
                   .exact bB
                   .exact Zd 1
                   .exact Zu dm (Zu dZ (Zd 8) (Zd 4)) Zj
                  .exact Zd 6
                .exact cN
               .refine Ze ?_ ?_
                .refine bW ?_ ?_ ?_
                 .exact bj ((eE hu)) (Zu dm (Zd 3) Zj) Zj
                 .refine Ze ?_ ?_
                  .refine Zv 10 ?_ ?_
                   .exact kI.nd
                   .refine Zu ?_ ?_ ?_
                    .exact dZ
                    .refine Zu ?_ ?_ ?_
                     .exact yu
                     .exact Zd 5
                     .exact Zu dZ Zj (Zu dm (Zd 8) Zj)
                    .refine Zu ?_ ?_ ?_
                     .exact yu
                     .refine bA ?_ ?_ ?_
                      .exact bB
                      .exact Zd 2
                      .exact Zu dm (Zu dZ (Zd 4) Zj) Zj
                     .exact Zu iI (Zd 8) Zj
                  .refine Zm ?_;exact Zv 10 kI.nd (qi qp (Zd 10) rH (ph Zj))
                 .exact cN
                .refine Ze ?_ ?_
                 .refine bW ?_ ?_ ?_
                  .exact bj ((eE hu)) (Zu dm (Zd 3) Zj) Zj
                  .refine Zm ?_;refine Zv 10 ?_ ?_
                   .exact kI.nd
                   .refine Zu ?_ ?_ ?_
                    .exact dZ
                    .exact Zu dZ (Zd 6) (Zd 9)
                    .refine Zu ?_ ?_ ?_
                     .exact yu
                     .refine bA ?_ ?_ ?_
                      .exact bB
                      .exact Zd 2
                      .exact Zu dm (Zu iI (Zd 4) Zj) Zj
                     .exact Zu dm (Zu iI (Zd 4) Zj) Zj
                  .exact cN
                 .refine Ze ?_ ?_
                  .refine bW ?_ ?_ ?_
                   .exact bj ZvK (Zd 10) (Zd 1)
                   .exact Zm (Zv 10 kI.nd (Zu dZ (Zd 10) bG))
                   .exact cN
                  .exact Zm (fY (jg (Zd 7) (Zc (Zd 10) Zg)))
           .exact Zm (bY (Zd 7))
theorem Zf1:dM ["cell","number"] ["cell"] (Zk Ce):=⟨rfl,rfl,rfl,by decide +kernel,rfl,by decide +kernel,by decide +kernel⟩
theorem Zjo(A:bM K mg "_law_value" Ce ["cell"])(T:Txt K mg):aJ P w K mg base 1 "_law_value" ["cell"] wj:=
  aJ.of (N:=["cell","number"]) (k:=0) A Zf1 λf cdv A outer s H E hr=>by
    have hu:=gh hr;unfold SX;refine Ze ?_ ?_
    .refine Zv 1 ?_ ?_
     .exact Zf1.nd
     .refine Zu ?_ ?_ ?_
      .exact dm
      .exact Zu iI (Zd 0) Zj
      .exact Zu Zwc Zj Zj
    .refine Zm ?_;refine bY ?_;refine bA ?_ ?_ ?_
     .exact bB
     .refine cQ ?_;refine Zc ?_ ?_
      .exact Zu dm (Zu iI (Zd 0) Zj) Zj
      .refine Zc ?_ ?_
       .refine Zu ?_ ?_ ?_
        .exact vV
        .exact jO jQ Zj
        .exact Zu dm (Zu iI (Zd 0) Zj) Zj
       .refine Zc ?_ ?_
        .exact Zd 1
        .exact Zc (Zu vV (jO jQ Zj) (Zd 1)) Zg
     .exact Zu dm (Zd 0) Zj
theorem yJ:dM ["deck","names","deep","most","words","due","d","cell","room","way"] ["deck","names","deep","most"] (Zk Cg):=⟨rfl,rfl,rfl,by decide +kernel,rfl,by decide +kernel,by decide +kernel⟩
theorem Zl5(A:bM K mg "_law_sum" Cg ["deck","names","deep","most"])(T:Txt K mg)(jU:aJ P w K mg base 1 "_law_next" ["deck"] iu)(Mg:aJ P w K mg base 1 "_law_value" ["cell"] wj):aJ P w K mg base 2 "_law_sum" ["deck","names","deep","most"] um:=
  aJ.of (N:=["deck","names","deep","most","words","due","d","cell","room","way"]) (k:=1) A yJ λf cdv A outer s H E hr=>by
    have hu:=gh hr;unfold S_;refine Ze ?_ ?_
    .exact Zv 4 yJ.nd (cQ Zg)
    .refine Ze ?_ ?_
     .exact Zv 5 yJ.nd (cQ (Zc (Zd 2) Zg))
     .refine Ze ?_ ?_
      .refine ZlO ?_ ?_ ?_
       .exact rfl
       .exact bj ((Be hu)) (Zd 5) (cQ Zg)
       .refine Ze ?_ ?_
        .exact Zv 6 yJ.nd (Kr (Zd 5))
        .refine Ze ?_ ?_
         .exact Zv 7 yJ.nd (cD (k:=1) (ps:=["deck"]) jU (hr.mono (by decide)) (Zc (Zd 0) Zg))
         .refine Ze ?_ ?_
          .refine Zv 8 ?_ ?_
           .exact yJ.nd
           .refine Zu ?_ ?_ ?_
            .exact vV
            .refine Zu ?_ ?_ ?_
             .exact vV
             .refine Zu ?_ ?_ ?_
              .exact vV
              .exact Zd 3
              .exact dG (id:="len") fP T.eU fj (Zc (Zd 4) Zg)
             .exact dG (id:="len") fP T.eU fj (Zc (Zd 5) Zg)
            .exact Zj
          .refine Ze ?_ ?_
           .exact Zv 9 yJ.nd (Zu dm (Zd 7) Zj)
           .refine Zm ?_;refine bW ?_ ?_ ?_
            .refine CW.ct ?_;refine nP ?_ ?_
             .exact bj uc (Zd 9) Zj
             .refine nP ?_ ?_
              .exact bj pq (Zd 6) Zj
              .exact vP (bj pq (Zd 8) Zj)
            .refine Ze ?_ ?_
             .refine fY ?_;refine jg ?_ ?_
              .exact Zd 4
              .refine Zc ?_ ?_
               .refine bA ?_ ?_ ?_
                .exact bB
                .exact cQ (Zc bG (Zc bG (Zc bG Zg)))
                .exact Zd 9
               .exact Zg
             .refine Zm ?_;refine fY ?_;refine ZgY ?_ ?_
              .exact Zd 5
              .refine Zc ?_ ?_
               .refine cQ ?_;exact Zc (Zu vV (Zd 6) Zj) (Zc (Zd 6) Zg)
               .exact Zg
            .refine Zm ?_;refine bW ?_ ?_ ?_
             .refine CW.ct ?_;refine nP ?_ ?_
              .exact bj ((eE hu)) (Zd 9) Zj
              .exact vP (bj pq (Zd 8) Zj)
             .refine Ze ?_ ?_
              .exact fY (jg (Zd 4) (Zc bG Zg))
              .exact Zm (fY (jg (Zd 5) (Zc (Zd 6) Zg)))
             .refine Zm ?_;refine bW ?_ ?_ ?_
              .exact bj uc (Zd 9) Zj
              .refine Zm ?_;refine fY ?_;refine jg ?_ ?_
               .exact Zd 4
               .refine Zc ?_ ?_
                .refine bA ?_ ?_ ?_
                 .exact bB
                 .exact Zd 1
                 .exact Zu dm (Zu iI (Zd 7) Zj) Zj
                .exact Zg
              .refine Zm ?_;refine fY ?_;refine jg ?_ ?_
               .exact Zd 4
               .refine Zc ?_ ?_
                .refine cD (k:=1) (ps:=["cell"]) ?_ ?_ ?_
                 .exact Mg
                 .exact hr.mono (by decide)
                 .exact Zc (Zu iI (Zd 7) Zj) Zg
                .exact Zg
      .refine Zm ?_;exact bY (j_ (T:="tuple") nT T.jE nU (Zc (Zd 4) Zg))
theorem K7:dM ["deck","names","cell","most","one"] ["deck","names","cell"] (Zk Ci):=⟨rfl,rfl,rfl,by decide +kernel,rfl,by decide +kernel,by decide +kernel⟩
theorem ZkR(A:bM K mg "_law_deed" Ci ["deck","names","cell"])(T:Txt K mg)(wJ:aJ P w K mg base 2 "_law_sum" ["deck","names","deep","most"] um):aJ P w K mg base 3 "_law_deed" ["deck","names","cell"] KR:=
  aJ.of (N:=["deck","names","cell","most","one"]) (k:=2) A K7 λf cdv A outer s H E hr=>by
    have hu:=gh hr;unfold Tc;refine Ze ?_ ?_
    .refine Zv 3 ?_ ?_
     .exact K7.nd
     .refine bA ?_ ?_ ?_
      .exact bB
      .refine cQ ?_;refine Zc ?_ ?_
       .exact Zj
       .exact Zc Zj (Zc Zj (Zc Zj Zg))
      .exact Zu dm (Zu iI (Zd 2) Zj) Zj
    .refine Ze ?_ ?_
     .refine bW ?_ ?_ ?_
      .refine bj ?_ ?_ ?_
       .exact(eE hu)
       .exact Zu dm (Zu iI (Zd 2) Zj) Zj
       .exact Zj
      .exact Zm (Zv 3 K7.nd Zj)
      .exact cN
     .refine Ze ?_ ?_
      .refine Zv 4 ?_ ?_
       .exact K7.nd
       .refine cD (k:=2) (ps:=["deck","names","deep","most"]) ?_ ?_ ?_
        .exact wJ
        .exact hr.mono (by decide)
        .refine Zc ?_ ?_
         .exact Zd 0
         .refine Zc ?_ ?_
          .exact Zd 1
          .refine Zc ?_ ?_
           .refine Zu ?_ ?_ ?_
            .exact dZ
            .exact Zj
            .exact Zu dm (Zu iI (Zd 2) Zj) Zj
           .exact Zc (Zd 3) Zg
      .refine Ze ?_ ?_
       .refine bW ?_ ?_ ?_
        .exact bj ((eE hu)) (Zu dm (Zd 2) Zj) Zj
        .refine Zm ?_;refine bY ?_;refine nQ ?_;refine Zc ?_ ?_
         .exact bG
         .refine Zc ?_ ?_
          .refine bA ?_ ?_ ?_
           .exact bB
           .exact Zd 1
           .exact Zu dm (Zu iI (Zd 2) Zj) Zj
          .exact Zc (Zd 4) Zg
        .exact cN
       .refine Ze ?_ ?_
        .refine bW ?_ ?_ ?_
         .exact bj ((eE hu)) (Zu dm (Zd 2) Zj) Zj
         .refine Zm ?_;refine bY ?_;refine nQ ?_;refine Zc ?_ ?_
          .exact bG
          .refine Zc ?_ ?_
           .exact Zd 4
           .refine Zc ?_ ?_
            .refine cD (k:=2) (ps:=["deck","names","deep","most"]) ?_ ?_ ?_
             .exact wJ
             .exact hr.mono (by decide)
             .refine Zc ?_ ?_
              .exact Zd 0
              .refine Zc ?_ ?_
               .exact Zd 1
               .refine Zc ?_ ?_
                .refine Zu ?_ ?_ ?_
                 .exact dZ
                 .exact Zj
                 .exact Zu dm (Zu iI (Zd 2) Zj) Zj
                .exact Zc (Zd 3) Zg
            .exact Zg
         .exact cN
        .exact Zm (bY (nQ (Zc bG (Zc (Zd 4) Zg))))
theorem Tt:dM ["deed","words","part"] ["deed"] (Zk Cj):=⟨rfl,rfl,rfl,by decide +kernel,rfl,by decide +kernel,by decide +kernel⟩
theorem Zi9(A:bM K mg "_law_words" Cj ["deed"])(T:Txt K mg):aJ P w K mg base 1 "_law_words" ["deed"] Gh:=
  aJ.of (N:=["deed","words","part"]) (k:=0) A Tt λf cdv A outer s H E hr=>by
    have hu:=gh hr;unfold Td;refine Ze ?_ ?_
    .refine Zv 1 ?_ ?_
     .exact Tt.nd
     .exact cQ (Zc (bA bB (Zd 0) Zj) Zg)
    .refine Ze ?_ ?_
     .refine Ba ?_ ?_ ?_ ?_ ?_
      .exact rfl
      .exact rfl
      .exact mU (qi qp (Zd 0) (ph Zj) rH)
      .exact jP 2 Tt.nd
      .refine Zm ?_;refine bW ?_ ?_ ?_
       .exact o_ (ud .str T.pJ T.G_ (Zd 2))
       .exact Zm (fY (jg (Zd 1) (Zc (Zd 2) Zg)))
       .refine Zm ?_;refine fY ?_;refine ZgY ?_ ?_
        .exact Zd 1
        .refine Zc ?_ ?_
         .refine qm (N':=["deed","words","part","word"]) ?_ ?_ ?_ ?_ (λC cl s H ex=>⟨?_,?_,?_⟩)
          .exact l_ rfl (by kernel_rfl)
          .exact rfl
          .exact rfl
          .exact mU (Zd 2)
          .exact jP 3 ((show jy (["deed","words","part","word"]:List aj)by decide +kernel))
          .exact mR
          .exact j_ (T:="str") ZwD T.G_ Zua (Zc (Zd 3) Zg)
         .exact Zg
     .exact Zm (bY (ZiF bG (Zc (Zd 1) Zg)))
theorem yK:dM ["stack","deeds","word","what","outer","ahead","deed"] ["stack","deeds"] (Zk Ck):=⟨rfl,rfl,rfl,by decide +kernel,rfl,by decide +kernel,by decide +kernel⟩
theorem Zi0(A:bM K mg "_law_closed" Ck ["stack","deeds"])(T:Txt K mg):aJ P w K mg base 1 "_law_closed" ["stack","deeds"] wk:=
  aJ.of (N:=["stack","deeds","word","what","outer","ahead","deed"]) (k:=0) A yK λf cdv A outer s H E hr=>by
    have hu:=gh hr;unfold Te;refine Ze ?_ ?_
    .refine R8 ?_ ?_ ?_
     .exact rfl
     .exact bA bB (Zd 0) (jO jQ Zj)
     .refine kh 2 ?_ ?_
      .exact yK.nd
      .exact kh 3 yK.nd (kh 4 yK.nd (kh 5 yK.nd yo))
    .refine Ze ?_ ?_
     .refine Zv 6 ?_ ?_
      .exact yK.nd
      .refine nQ ?_;refine Zc ?_ ?_
       .exact Zd 2
       .refine Zc ?_ ?_
        .exact Zd 3
        .refine Zc ?_ ?_
         .exact j_ (T:="tuple") nT T.jE nU (Zc (Zd 1) Zg)
         .exact Zg
     .refine Ze ?_ ?_
      .refine bW ?_ ?_ ?_
       .exact bj ((eE hu)) (Zd 2) bG
       .refine Zm ?_;refine Zv 6 ?_ ?_
        .exact yK.nd
        .refine nQ ?_;refine Zc ?_ ?_
         .exact Zd 2
         .refine Zc ?_ ?_
          .exact Zd 3
          .refine Zc ?_ ?_
           .exact Zd 5
           .refine Zc ?_ ?_
            .exact j_ (T:="tuple") nT T.jE nU (Zc (Zd 1) Zg)
            .exact Zg
       .exact cN
      .refine Zm ?_;exact bY (Zu dZ (Zd 4) (cQ (Zc (Zd 6) Zg)))
theorem yL:dM ["deck","names","stack","deeds","cell","way","what","word","deed"] ["deck","names","stack","deeds"] (Zk Cm):=⟨rfl,rfl,rfl,by decide +kernel,rfl,by decide +kernel,by decide +kernel⟩
theorem ZlP(A:bM K mg "_law_row" Cm ["deck","names","stack","deeds"])(T:Txt K mg)(jU:aJ P w K mg base 1 "_law_next" ["deck"] iu)(wJ:aJ P w K mg base 2 "_law_sum" ["deck","names","deep","most"] um)(Mq:aJ P w K mg base 3 "_law_deed" ["deck","names","cell"] KR)(GR:aJ P w K mg base 1 "_law_words" ["deed"] Gh)(yW:aJ P w K mg base 1 "_law_closed" ["stack","deeds"] wk):aJ P w K mg base 4 "_law_row" ["deck","names","stack","deeds"] yI:=
  aJ.of (N:=["deck","names","stack","deeds","cell","way","what","word","deed"]) (k:=3) A yL λf cdv A outer s H E hr=>by
    have hu:=gh hr;unfold yH;refine Ze ?_ ?_
    .exact Zv 4 yL.nd (cD (k:=1) (ps:=["deck"]) jU (hr.mono (by decide)) (Zc (Zd 0) Zg))
    .refine Ze ?_ ?_
     .exact Zv 5 yL.nd (Zu dm (Zd 4) Zj)
     .refine Ze ?_ ?_
      .refine bW ?_ ?_ ?_
       .refine CW.ct ?_;refine nP ?_ ?_
        .exact bj ((eE hu)) (Zd 5) Zj
        .refine nP ?_ ?_
         .exact bj ((Ss hu)) (Zd 2) (cQ Zg)
         .refine nP ?_ ?_
          .refine bj ?_ ?_ ?_
           .exact(eE hu)
           .refine bA ?_ ?_ ?_
            .exact bB
            .exact bA bB (Zd 2) (jO jQ Zj)
            .exact Zj
           .exact bG
          .refine vP ?_;refine bj ?_ ?_ ?_
           .exact FP
           .refine bA ?_ ?_ ?_
            .exact bB
            .exact bA bB (Zd 2) (jO jQ Zj)
            .exact Zj
           .exact mQ
       .refine Ze ?_ ?_
        .refine R0 ?_ ?_ ?_
         .exact bA bB (Zd 2) (jO jQ Zj)
         .exact Zj
         .exact j_ (T:="tuple") nT T.jE nU (Zc (Zd 3) Zg)
        .refine Zm ?_;exact bY (cQ (Zc bG (Zc (cQ Zg) Zg)))
       .exact cN
      .refine Ze ?_ ?_
       .refine bW ?_ ?_ ?_
        .refine CW.ct ?_;refine nP ?_ ?_
         .exact bj pq (Zd 5) Zj
         .refine nP ?_ ?_
          .exact bj ((Ss hu)) (Zd 2) (cQ Zg)
          .refine vP ?_;refine CW.ct ?_;refine rG ?_ ?_
           .refine bj ?_ ?_ ?_
            .exact(eE hu)
            .refine bA ?_ ?_ ?_
             .exact bB
             .exact bA bB (Zd 2) (jO jQ Zj)
             .exact Zj
            .exact bG
           .refine vQ ?_;refine bj ?_ ?_ ?_
            .exact ZsI
            .refine bA ?_ ?_ ?_
             .exact bB
             .exact bA bB (Zd 2) (jO jQ Zj)
             .exact Zj
            .exact mQ
        .refine Ze ?_ ?_
         .refine Zv 3 ?_ ?_
          .exact yL.nd
          .exact cD (k:=1) (ps:=["stack","deeds"]) yW (hr.mono (by decide)) (Zc (Zd 2) (Zc (Zd 3) Zg))
         .refine Ze ?_ ?_
          .exact fY (Kr (Zd 2))
          .exact Zm (bY (cQ (Zc bG (Zc (Zd 3) Zg))))
        .exact cN
       .refine Ze ?_ ?_
        .refine bW ?_ ?_ ?_
         .refine CW.ct ?_;refine nP ?_ ?_
          .exact Zqx Rk uc Zj (Zd 5) Zj
          .refine vP ?_;refine bj ?_ ?_ ?_
           .exact uc
           .exact dG (id:="len") fP T.eU fj (Zc (Zd 2) Zg)
           .exact Zj
         .refine Ze ?_ ?_
          .refine Zv 6 ?_ ?_
           .exact yL.nd
           .refine cD (k:=2) (ps:=["deck","names","deep","most"]) ?_ ?_ ?_
            .exact wJ
            .exact hr.mono (by decide)
            .refine Zc ?_ ?_
             .exact Zd 0
             .refine Zc ?_ ?_
              .exact Zd 1
              .refine Zc ?_ ?_
               .refine Zu ?_ ?_ ?_
                .exact dZ
                .exact Zj
                .exact Zu dm (Zu iI (Zd 4) Zj) Zj
               .refine Zc ?_ ?_
                .refine Zu ?_ ?_ ?_
                 .exact dZ
                 .exact Zj
                 .exact Zu dm (Zu iI (Zd 4) Zj) Zj
                .exact Zg
          .refine Ze ?_ ?_
           .refine Zv 7 ?_ ?_
            .exact yL.nd
            .refine bA ?_ ?_ ?_
             .exact bB
             .exact cQ (Zc bG (Zc bG (Zc bG Zg)))
             .exact Zu vV (Zd 5) Zj
           .refine Ze ?_ ?_
            .refine fY ?_;refine jg ?_ ?_
             .exact Zd 2
             .refine Zc ?_ ?_
              .refine cQ ?_;refine Zc ?_ ?_
               .exact Zd 7
               .exact Zc (Zd 6) (Zc (Zd 3) (Zc mQ Zg))
              .exact Zg
            .refine Zm ?_;refine bY ?_;refine cQ ?_;refine Zc ?_ ?_
             .refine cD (k:=1) (ps:=["deed"]) ?_ ?_ ?_
              .exact GR
              .exact hr.mono (by decide)
              .exact Zc (nQ (Zc (Zd 7) (Zc (Zd 6) Zg))) Zg
             .exact Zc (cQ Zg) Zg
         .exact cN
        .refine Ze ?_ ?_
         .refine Zv 8 ?_ ?_
          .exact yL.nd
          .refine cD (k:=3) (ps:=["deck","names","cell"]) ?_ ?_ ?_
           .exact Mq
           .exact hr.mono (by decide)
           .refine Zc ?_ ?_
            .exact Zd 0
            .exact Zc (Zd 1) (Zc (Zu iI (Zd 4) Zj) Zg)
         .refine Zm ?_;refine bY ?_;refine cQ ?_;refine Zc ?_ ?_
          .exact cD (k:=1) (ps:=["deed"]) GR (hr.mono (by decide)) (Zc (Zd 8) Zg)
          .refine Zc ?_ ?_
           .exact Zu dZ (Zd 3) (cQ (Zc (Zd 8) Zg))
           .exact Zg
theorem mX:dM ["deck","names","many","most","rows","stack","deeds","used","k","kept","row","behind"] ["deck","names","many","most"] (Zk Cp):=⟨rfl,rfl,rfl,by decide +kernel,rfl,by decide +kernel,by decide +kernel⟩
theorem ZhQ(A:bM K mg "_law_program" Cp ["deck","names","many","most"])(T:Txt K mg)(yW:aJ P w K mg base 1 "_law_closed" ["stack","deeds"] wk)(Ms:aJ P w K mg base 4 "_law_row" ["deck","names","stack","deeds"] yI):aJ P w K mg base 5 "_law_program" ["deck","names","many","most"] KY:=
  aJ.of (N:=["deck","names","many","most","rows","stack","deeds","used","k","kept","row","behind"]) (k:=4) A mX λf cdv A outer s H E hr=>by
    have hu:=gh hr;unfold Tf;refine Ze ?_ ?_
    .exact Zv 4 mX.nd (cQ Zg)
    .refine Ze ?_ ?_
     .exact Zv 5 mX.nd (cQ Zg)
     .refine Ze ?_ ?_
      .exact Zv 6 mX.nd (cQ Zg)
      .refine Ze ?_ ?_
       .exact Zv 7 mX.nd Zj
       .refine Ze ?_ ?_
        .refine Ba ?_ ?_ ?_ ?_ ?_
         .exact rfl
         .exact rfl
         .exact J5 T.G5 (Zd 2)
         .exact jP 8 mX.nd
         .refine Ze ?_ ?_
          .refine Zpq (N':=["deck","names","many","most","rows","stack","deeds","used","k","kept","row","behind","block"]) 9 ?_ ?_ ?_ ?_ ?_ (λC cl s H ex=>⟨?_,?_,?_⟩)
           .exact l_ rfl (by kernel_rfl)
           .exact rfl
           .exact rfl
           .exact mX.nd
           .exact mU (Zd 5)
           .exact jP 12 ((show jy (["deck","names","many","most","rows","stack","deeds","used","k","kept","row","behind","block"]:List aj)by decide +kernel))
           .exact mR
           .exact j_ (T:="list") Zux T.MF ZrQ (Zc (Zd 12) Zg)
          .refine Ze ?_ ?_
           .refine R8 ?_ ?_ ?_
            .exact rfl
            .refine cD (k:=4) (ps:=["deck","names","stack","deeds"]) ?_ ?_ ?_
             .exact Ms
             .exact hr.mono (by decide)
             .refine Zc ?_ ?_
              .exact Zd 0
              .exact Zc (Zd 1) (Zc (Zd 5) (Zc (Zd 6) Zg))
            .exact kh 10 mX.nd (kh 11 mX.nd yo)
           .refine Ze ?_ ?_
            .refine bW ?_ ?_ ?_
             .refine bj ?_ ?_ ?_
              .exact pq
              .refine Zu ?_ ?_ ?_
               .exact dZ
               .exact Zd 7
               .exact dG (id:="len") fP T.eU fj (Zc (Zd 10) Zg)
              .exact Zd 3
             .exact Ze (Zv 5 mX.nd (Zd 9)) (Zm ZpN)
             .exact cN
            .refine Ze ?_ ?_
             .exact Zv 6 mX.nd (Zd 11)
             .refine Ze ?_ ?_
              .refine Zv 7 ?_ ?_
               .exact mX.nd
               .refine Zu ?_ ?_ ?_
                .exact dZ
                .refine Zu ?_ ?_ ?_
                 .exact dZ
                 .exact Zd 7
                 .exact dG (id:="len") fP T.eU fj (Zc (Zd 10) Zg)
                .exact Zj
              .exact Zm (fY (jg (Zd 4) (Zc (Zd 10) Zg)))
        .refine Ze ?_ ?_
         .refine ZlO ?_ ?_ ?_
          .exact rfl
          .exact bj ((Ss hu)) (Zd 5) (cQ Zg)
          .refine Ze ?_ ?_
           .refine bW ?_ ?_ ?_
            .refine CW.ct ?_;refine nP ?_ ?_
             .refine bj ?_ ?_ ?_
              .exact(eE hu)
              .refine bA ?_ ?_ ?_
               .exact bB
               .exact bA bB (Zd 5) (jO jQ Zj)
               .exact Zj
              .exact bG
             .refine vP ?_;refine bj ?_ ?_ ?_
              .exact FP
              .refine bA ?_ ?_ ?_
               .exact bB
               .exact bA bB (Zd 5) (jO jQ Zj)
               .exact Zj
              .exact mQ
            .refine Ze ?_ ?_
             .refine R0 ?_ ?_ ?_
              .exact bA bB (Zd 5) (jO jQ Zj)
              .exact Zj
              .exact j_ (T:="tuple") nT T.jE nU (Zc (Zd 6) Zg)
             .refine Ze ?_ ?_
              .exact Zv 6 mX.nd (cQ Zg)
              .exact Zm (fY (jg (Zd 4) (Zc bG Zg)))
            .exact cN
           .refine Ze ?_ ?_
            .refine Zv 6 ?_ ?_
             .exact mX.nd
             .exact cD (k:=1) (ps:=["stack","deeds"]) yW (hr.mono (by decide)) (Zc (Zd 5) (Zc (Zd 6) Zg))
            .refine Ze ?_ ?_
             .exact fY (Kr (Zd 5))
             .exact Zm (fY (jg (Zd 4) (Zc bG Zg)))
         .refine Zm ?_;refine bY ?_;refine cQ ?_;refine Zc ?_ ?_
          .exact Zd 4
          .refine Zc ?_ ?_
           .exact j_ (T:="tuple") nT T.jE nU (Zc (Zd 6) Zg)
           .exact Zg
theorem ZfW:dM ["deck","names","cell"] ["deck","names"] (Zk Cq):=⟨rfl,rfl,rfl,by decide +kernel,rfl,by decide +kernel,by decide +kernel⟩
theorem Zjq(A:bM K mg "_law_taken" Cq ["deck","names"])(T:Txt K mg)(jU:aJ P w K mg base 1 "_law_next" ["deck"] iu):aJ P w K mg base 2 "_law_taken" ["deck","names"] KZ:=
  aJ.of (N:=["deck","names","cell"]) (k:=1) A ZfW λf cdv A outer s H E hr=>by
    have hu:=gh hr;unfold Tg;refine Ze ?_ ?_
    .exact Zv 2 ZfW.nd (cD (k:=1) (ps:=["deck"]) jU (hr.mono (by decide)) (Zc (Zd 0) Zg))
    .refine Zm ?_;refine bY ?_;refine j_ (T:="tuple") ?_ ?_ ?_ ?_
     .exact nT
     .exact T.jE
     .exact nU
     .refine Zc ?_ ?_
      .refine qm (N':=["deck","names","cell","k"]) ?_ ?_ ?_ ?_ (λC cl s H ex=>⟨?_,?_,?_⟩)
       .exact l_ rfl (by kernel_rfl)
       .exact rfl
       .exact rfl
       .exact J5 T.G5 (Zu dm (Zd 2) Zj)
       .exact jP 3 ((show jy (["deck","names","cell","k"]:List aj)by decide +kernel))
       .exact mR
       .refine bA ?_ ?_ ?_
        .exact bB
        .exact Zd 1
        .refine Zu ?_ ?_ ?_
         .exact dm
         .exact Zu dZ (Zu iI (Zd 2) Zj) (Zd 3)
         .exact Zj
      .exact Zg
theorem pD:dM ["script","deck","cell","names","taken","rows","deeds","text","row","due"] ["script"] (Zk uo):=⟨rfl,rfl,rfl,by decide +kernel,rfl,by decide +kernel,by decide +kernel⟩
theorem ZtO{f:Y1}{fd:jZ}(F:tQ K "law" "law" uo f fd)(T:Txt K mg)(G8:aJ P w K mg base 68 "read" ["text"] Bs)(jU:aJ P w K mg base 1 "_law_next" ["deck"] iu)(GZ:aJ P w K mg base 32 "_law_same" ["found","due"] Gg)(Mh:aJ P w K mg base 2 "_law_names" ["deck"] KQ)(LQ:aJ P w K mg base 5 "_law_program" ["deck","names","many","most"] KY)(Mi:aJ P w K mg base 2 "_law_taken" ["deck","names"] KZ):jr P w K mg base lH 69 f fd ["script"] (t_ K 1 ZnS):=
  Rj (N:=["script","deck","cell","names","taken","rows","deeds","text","row","due"]) (k:=68) F pD λcdv A outer s H E hr=>by
    have hu:=gh hr;unfold Th;refine Ze ?_ ?_
    .refine Zv 1 ?_ ?_
     .exact pD.nd
     .refine cQ ?_;refine Zc ?_ ?_
      .exact qi qp (Zd 0) rH (ph Zj)
      .exact Zc Zj Zg
    .refine Ze ?_ ?_
     .exact Zv 2 pD.nd (cD (k:=1) (ps:=["deck"]) jU (hr.mono (by decide)) (Zc (Zd 1) Zg))
     .refine Ze ?_ ?_
      .exact Zv 3 pD.nd (cD (k:=2) (ps:=["deck"]) Mh (hr.mono (by decide)) (Zc (Zd 1) Zg))
      .refine Ze ?_ ?_
       .refine Zv 4 ?_ ?_
        .exact pD.nd
        .exact cD (k:=2) (ps:=["deck","names"]) Mi (hr.mono (by decide)) (Zc (Zd 1) (Zc (Zd 3) Zg))
       .refine Ze ?_ ?_
        .refine R8 ?_ ?_ ?_
         .exact rfl
         .refine cD (k:=5) (ps:=["deck","names","many","most"]) ?_ ?_ ?_
          .exact LQ
          .exact hr.mono (by decide)
          .refine Zc ?_ ?_
           .exact Zd 1
           .refine Zc ?_ ?_
            .exact Zd 3
            .refine Zc ?_ ?_
             .refine dG (id:="len") ?_ ?_ ?_ ?_
              .exact fP
              .exact T.eU
              .exact fj
              .exact Zc (qi qp (Zd 0) rH (ph Zj)) Zg
             .exact Zc Zj Zg
         .exact kh 5 pD.nd (kh 6 pD.nd yo)
        .refine Ze ?_ ?_
         .refine bW ?_ ?_ ?_
          .exact bj ((Be hu)) (Zd 4) (nQ Zg)
          .refine Zm ?_;refine Zv 5 ?_ ?_
           .exact pD.nd
           .refine Zu ?_ ?_ ?_
            .exact dZ
            .refine cQ ?_;refine Zc ?_ ?_
             .refine ZlV ?_ ?_
              .exact bG
              .refine Zc ?_ ?_
               .exact Zu dZ (nQ (Zc bG Zg)) (Zd 4)
               .exact Zg
             .exact Zg
            .exact Zd 5
          .exact cN
         .refine Ze ?_ ?_
          .exact Zv 7 pD.nd (cQ Zg)
          .refine Ze ?_ ?_
           .refine Ba ?_ ?_ ?_ ?_ ?_
            .exact rfl
            .exact rfl
            .exact mU (Zd 5)
            .exact jP 8 pD.nd
            .refine Ze ?_ ?_
             .refine bW ?_ ?_ ?_
              .refine CW.ct ?_;refine nP ?_ ?_
               .exact bj pq (Zu dm (Zd 2) Zj) Zj
               .refine nP ?_ ?_
                .refine bj ?_ ?_ ?_
                 .exact(eE hu)
                 .refine Zu ?_ ?_ ?_
                  .exact dm
                  .exact cD (k:=1) (ps:=["deck"]) jU (hr.mono (by decide)) (Zc (Zd 1) Zg)
                  .exact Zj
                 .exact Zj
                .refine vP ?_;refine bj ?_ ?_ ?_
                 .exact uc
                 .exact dG (id:="len") fP T.eU fj (Zc (Zd 7) Zg)
                 .exact Zj
              .exact Zm (fY (jg (Zd 7) (Zc bG Zg)))
              .exact cN
             .exact Zm (fY (jg (Zd 7) (Zc (Zd 8) Zg)))
           .refine Ze ?_ ?_
            .refine bW ?_ ?_ ?_
             .refine bj ?_ ?_ ?_
              .exact(eE hu)
              .exact Zu dm (Zu iI (Zd 2) Zj) Zj
              .exact Zj
             .exact Zm (fY (jg (Zd 7) (Zc bG Zg)))
             .exact cN
            .refine Ze ?_ ?_
             .exact Zv 7 pD.nd (ZiF bG (Zc (Zd 7) Zg))
             .refine Ze ?_ ?_
              .exact Zv 9 pD.nd (nQ (Zc (Zd 4) (Zc (Zd 6) Zg)))
              .refine Zm ?_;refine bY ?_;refine yj ?_ ?_
               .refine cD (k:=32) (ps:=["found","due"]) ?_ ?_ ?_
                .exact GZ
                .exact hr.mono (by decide)
                .refine Zc ?_ ?_
                 .exact cD (k:=68) (ps:=["text"]) G8 (hr.mono (by decide)) (Zc (Zd 7) Zg)
                 .exact Zc (Zd 9) Zg
               .refine yh ?_;refine cD (k:=32) (ps:=["found","due"]) ?_ ?_ ?_
                .exact GZ
                .exact hr.mono (by decide)
                .refine Zc ?_ ?_
                 .exact cD (k:=68) (ps:=["text"]) G8 (hr.mono (by decide)) (Zc (Zd 7) Zg)
                 .exact Zc (Zd 9) Zg
end
end Law
set_option maxHeartbeats 200000
namespace Law
open L3
theorem Zun(c:Nat):∀(x y a b:List Nat),c∉x->c∉y->x++c::a=y++c::b->x=y/\a=b:=by
 intro x
 induction x with
 |nil=>
  intro y a b _ hy h;cases y with
  |nil=>exact⟨rfl,(iV h).2⟩|cons q y=>exact absurd (iV h).1 λe=>hy (e▸Yd ..)
 | cons p x ih=>
  intro y a b hx hy h;cases y with
  |nil=>exact absurd (iV h).1 λe=>hx (e▸Yd ..)|cons q y=>obtain⟨e1,e2⟩:=ih y a b (λz=>hx (Yc _ z)) (λz=>hy (Yc _ z)) (iV h).2;exact⟨by rw[(iV h).1,e1],e2⟩
theorem uq(s x y:List Nat)(r:List (List Nat)):glue s (x::y::r)=x++(s++glue s (y::r)):=by show x++s++glue s (y::r)=_;rw[jl]
theorem Zq9(c:Nat):∀(ts us:List (List Nat)),ts≠[]->us≠[]->(∀t∈ts,c∉t)->(∀t∈us,c∉t)->glue [c] ts=glue [c] us->ts=us:=by
 intro ts
 induction ts with
 |nil=>intro us h;exact absurd rfl h|cons t ts ih=>
  intro us _ hu ft fu h;cases us with
  |nil=>exact absurd rfl hu|cons u us=>
   have ht:=ft t (Yd ..);have hu':=fu u (Yd ..);cases ts with
   | nil=>
    cases us with
    |nil=>rw[show t=u from h]|cons v us=>rw[uq]at h;refine absurd (show c∈t from ?_) ht;rw[show t=_ from h];exact Y6 _ (Yd ..)
   | cons w ts=>
    cases us with
    |nil=>rw[uq]at h;refine absurd (show c∈u from ?_) hu';rw[show u=_ from h.symm];exact Y6 _ (Yd ..)|cons v us=>rw[uq,uq]at h;obtain⟨e1,e2⟩:=Zun c t u _ _ ht hu' h;rw[e1,ih (v::us) (λz=>nomatch z) (λz=>nomatch z) (λq hq=>ft q (Yc _ hq)) (λq hq=>fu q (Yc _ hq)) e2]
theorem Zik(x:List Nat)(c:Nat):glue [c] (nO x [c])=x:=by
 have h:=PySem.StrLaws.join_split (⟨x.toArray⟩:PySem.Str) (⟨([c]:List Nat).toArray⟩);have e:(Z8 (⟨x.toArray⟩:PySem.Str) ⟨([c]:List Nat).toArray⟩)=(nO x [c]).map λt=>(⟨t.toArray⟩:PySem.Str):=by unfold nO;rw[qO];exact(List.map_id _).symm.trans (Wy λt _=>rfl)
 rw[e,Km]at h;have q:=congrArg (λs:PySem.Str=>s.cps.toList) h;simpa using q
theorem ZhF(c:Nat)(ts:List (List Nat))(h:ts≠[])(hf:∀t∈ts,c∉t):nO (glue [c] ts) [c]=ts:=by
 have hs:∀t∈nO (glue [c] ts) [c],c∉t:=by intro t ht;obtain⟨p,hp,rfl⟩:=gJ.mp ht;exact PySem.StrLaws.split_free _ c p hp
 refine Zq9 c _ _ (λz=>?_) h hs hf (Zik _ c);have q:=Zik (glue [c] ts) c;unfold nO at z;have z1:=Dl.mp z;have z2:=PyProof.Rows.split_pos (⟨(glue [c] ts).toArray⟩:PySem.Str) ⟨([c]:List Nat).toArray⟩;rw[z1]at z2;exact absurd z2 (by decide)
noncomputable def cF(n:Nat):List Nat:=(Io 10 n).map Qg
theorem ZlM:∀d:Nat,d<10->(Nat.digitChar d).toNat=48+d:=by decide
variable{n:Nat}
theorem yM(h:n<10):cF n=[48+n]:=by unfold cF;rw[Xf h,Yu,sG,ZlM n h]
theorem Gk(h:10<=n):cF n=cF (n / 10)++[48+n % 10]:=by have hm:n % 10<10:=DR n (by decide);have t:Io 10 (n / 10)++Io 10 (n % 10)=Io 10 (10*(n / 10)+n % 10):=Nat.toDigits_append_toDigits (by decide) (by omega) hm;rw[Nat.div_add_mod]at t;unfold cF;rw[←t,jY,Xf hm,Yu,sG,ZlM _ hm]
theorem wu(n:Nat):∀c∈cF n,48<=c/\c<=57:=by
 induction n using O2 with
 | _ n ih=>
  by_cases h:n<10
  .rw[yM h];intro c hc;rw[Yz.mp hc];exact⟨jc _ _,lA 1 0x392b0302bc0a1b011 T1 h⟩
  .rw[Gk (jJ h)];intro c hc;rcases fU.mp hc with hc|hc
   .exact ih (n / 10) (Im λz=>lB 3 0x6010ad01a1b0511002 T1 z h (zJ _ _)) c hc
   .rw[Yz.mp hc];exact⟨jc _ _,lA 1 0x392b0302bc0a1b011 T1 (DR _ (by decide))⟩
theorem Gm(n:Nat):cF n≠[]:=by
 by_cases h:n<10
 .rw[yM h];exactλz=>nomatch z
 .rw[Gk (jJ h)];exactλz=>absurd (Nu.mp z).2 (λz=>nomatch z)
theorem Gn(k:Nat):∀n:Nat,n<10^(k+1)->(cF n).length<=k+1:=by
 induction k with
 |zero=>intro n h;rw[yM (by simpa using h)];exact Ys _|succ k ih=>
  intro n h;by_cases q:n<10
  .rw[yM q];exact DN 1 _
  .rw[Gk (jJ q),Ye,jb];have:=ih (n / 10) (by rw[Nat.pow_succ]at h;omega);exact lB 1 0xaa1cca0c0a1c001 T1 this
theorem Zo4(n:Nat)(h:0<n):∀r,cF n≠48::r:=by
 induction n using O2 with
 | _ n ih=>
  intro r z;by_cases q:n<10
  .rw[yM q]at z;have:=(iV z).1;exact lA 2 0x60e11302b0302bc21 T1 this h
  .rw[Gk (jJ q)]at z;cases e:cF (n / 10)with
   |nil=>exact Gm _ e|cons c l=>rw[e]at z;have:=(iV z).1;subst this;exact ih (n / 10) (Im λz=>lB 3 0x6010ad01a1b0511002 T1 z q (zJ _ _)) (by omega) l e
theorem Zla(n:Nat):DY (cF n)=n:=by
 induction n using O2 with
 | _ n ih=>
  by_cases q:n<10
  .rw[yM q];show 0*10+(48+n-48)=n;exact Y4 (lB 1 0x10a1b00dc01302bc302b0c21 T1 (gZ (jc _ _))) (lB 1 0x1a1b00dc00302b1c0302bc01 T1 (g8 _ _))
  .rw[Gk (jJ q)];have e:DY (cF (n / 10)++[48+n % 10])=DY (cF (n / 10))*10+(48+n % 10-48):=by
    unfold DY;rw[List.foldl_append];rfl
   rw[e,ih (n / 10) (Im λz=>lB 3 0x6010ad01a1b0511002 T1 z q (zJ _ _))];omega
theorem K8(n:Nat):gM (n:Int)=cF n:=by unfold gM cF;rw[XC];show(Nat.repr n).toList.map Qg=_;rw[Xn]
theorem K9(n:Nat):gM (Int.negSucc n)=45::cF (n+1):=by unfold gM cF;rw[XC];show("-" ++Nat.repr (n+1)).toList.map Qg=_;rw[String.toList_append,jY,Xn];rfl
theorem Tu(i:Int)(h:i.natAbs<10^60):HW ⟨(gM i).toArray⟩=Ya i/\(gM i).length<=61/\∀c∈gM i,45<=c:=by
 cases i with
 |ofNat n=>have hl:=Gn 59 n h;have e:gM (Int.ofNat n)=cF n:=K8 n;rw[e];refine⟨?_,qQ hl,λc hc=>Yj (by decide) (wu n c hc).1⟩;have q:=PySem.intText_digits (x:=⟨(cF n).toArray⟩) (wu n) (Gm n) (Yj (show(cF n).toArray.size<=60 by simpa using hl) (by decide));rw[q];show Ya ((DY (cF n):Nat):Int)=_;rw[Zla];rfl|negSucc n=>
  have hl:=Gn 59 (n+1) h;rw[K9];refine⟨?_,oO hl,λc hc=>?_⟩
  .have q:=PySem.intText_neg (x:=⟨(45::cF (n+1)).toArray⟩) (cs:=cF (n+1)) rfl (wu _) (Gm _) (Yj (show(45::cF (n+1)).toArray.size<=61 by simpa using hl) (by decide));rw[q,Zla];rfl
  .rcases Yo.mp hc with e|hc
   .exact jK e.symm
   .exact Yj (by decide) (wu _ c hc).1
variable{M M':Store}
theorem ZpT{d:D}(h:M'.length=M.length):dX M d M'= .ok d M':=by unfold dX;rw[qM (jK h)];split <;>rfl
theorem QJ(n d:Nat):aC n d Ym=d:=rfl
theorem Et(n d k:Nat):aC n d (Ya (k:Int))=jq k n:=by have h:¬((k:Int)<0):=(λz=>iN [_] [] 1 7211153 T1 z);simp only[aC,if_neg h,qR]
variable{α:Type}
theorem Cw(w:List α)(k:Nat):cutD w (Ya (k:Int)) Ym=w.drop k:=by
 unfold cutD;rw[Et,QJ];by_cases h:k<=w.length
 .rw[DK h,qM (by simp)]
 .rw[OD (by exact lB 1 1052737 T1 h),Hv (Ys _),Hv (by exact lB 1 1052737 T1 h)];simp
theorem ZpV(w:List α)(k:Nat):cutD w Ym (Ya (k:Int))=w.take k:=by
 unfold cutD;rw[Et,QJ];by_cases h:k<=w.length
 .rw[DK h];simp
 .rw[OD (by exact lB 1 1052737 T1 h),Nat.sub_zero,HB,qM (Ys _),qM (by exact lB 1 1052737 T1 h)]
theorem ZwC{i j:Int}(h:-(2^64)<i/\i<2^64):lK i j=true:=by unfold lK;rw[xr];left;simp only[Y5,decide_eq_true_eq];exact h
theorem mul_r{i j:Int}(h:-(2^64)<j/\j<2^64):lK i j=true:=by unfold lK;rw[xr];right;simp only[Y5,decide_eq_true_eq];exact h
theorem mY(x:Int)(m:Nat)(h:0<m):∃a:Nat,x % (m:Int)=a/\a<m:=by have h1:=pU x (b:=(m:Int)) (by exactλz=>iN [_] [] 2 416093702305 T1 z h);have h2:=sX x (b:=(m:Int)) (by exact iN [_] [] 1 149491217 T1 h);exact⟨(x % (m:Int)).toNat,(pR h1).symm,by exact iN [_,_] [_] 2 18698308976785 T1 h2 (pR h1)⟩
theorem iJ{i j:Int}(h:0<j/\j<1073741824):bH (.int i) (.int j) M= .ok (.int (i / j)) M:=by simp only[ZjX,if_pos h]
variable{ds:List D}{env:bL}
theorem cY{g:d9}(h:g env M= .ok ds M')(hl:decide (ds.length<=100)=true):bh g env M= .ok (.ref M'.length) (M'++[.lst ds]):=by have z:ds.length<=SZ:=Yj (of_decide_eq_true hl) (by decide);simp only[bh,h,R3.bind,if_pos z,alloc]
variable{xs:List D}
theorem Tv{d:D}{o t:E3}(ho:o env M= .ok (.ref n) M)(hM:M[n]?=Ya (.lst xs))(ht:t env M= .ok d M')(hM':M'[n]?=Ya (.lst xs))(hl:xs.length<SZ):
  aP (aH bf Zz o (Zb t (Zf))) env M= .nx env (M'.set n (.lst (xs++[d]))):=by
 have e:aH bf Zz o (Zb t (Zf)) env M= .ok .non (M'.set n (.lst (xs++[d]))):=by simp only[aH,ho,R3.bind,Aq,hM,Zb,ht,Zf,Q7,hM',if_pos hl,if_true]
 rw[aP,e]
theorem Zwe{op:D->D->D->Store->R3 D}{f g h:E3}{M M1 M2 M3 M4:Store}{a b c d:D}(h1:f env M= .ok a M1)(h2:g env M1= .ok b M2)(h3:h env M2= .ok c M3)(h4:op a b c M3= .ok d M4):e3 op f g h env M= .ok d M4:=by simp only[e3,h1,h2,h3,h4,R3.bind]
noncomputable def nZ(x:List Nat):Bool:=decide (x=[97,100,100]\/x=[115,117,98]\/x=[109,111,114,101]\/x=[99,101,108,108])
theorem Tw(s:Nat)(b:Nat):∀ts:List (List Nat),(∀t∈ts,t.length<=b)->j8 [s] ts<=ts.length*(b+1)/\(glue [s] ts).length<=ts.length*(b+1):=by
 intro ts
 induction ts with
 |nil=>intro _;exact⟨by simp[j8],by simp[glue]⟩|cons t ts ih=>
  intro h;have ht:=h t (Yd ..);obtain⟨i1,i2⟩:=ih λq hq=>h q (Yc _ hq);have e1:j8 [s] (t::ts)=t.length+1+j8 [s] ts:=by simp[j8]
  have e3:(ts.length+1)*(b+1)=ts.length*(b+1)+(b+1):=Nat.succ_mul ..;rw[e1,Yp,e3];refine⟨lD 2 0xa3c1c0a2cc032011001 T1 i1 ht,?_⟩;cases ts with
  |nil=>show t.length<=_;exact lC 1 0xa1c2c001001 T1 ht|cons u ts=>rw[uq,Ye,Ye];show t.length+(1+_)<=_;exact lD 2 0xa3c1c0ac2c032011001 T1 i2 ht
theorem strs_map:∀ts:List (List Nat),ir (ts.map D.str)=Ya ts
 |[]=>rfl|t::ts=>by show(ir (ts.map D.str)).map _=_;rw[strs_map ts];rfl
variable{s:Nat}
theorem Zn8{ts:List (List Nat)}(h:M[n]?=Ya (.lst (ts.map D.str)))(hz:j8 [s] ts<=SZ):Av (.str [s]) [.ref n] M= .ok (.str (glue [s] ts)) M:=by simp only[Zll,h,strs_map,if_pos hz]
variable{x:List Nat}
theorem Cy{m:D->List D->Store->R3 D}{o g:E3}{M M1 M2:Store}{d r:D}(h1:o env M= .ok (.str x) M)(h2:g env M= .ok d M1)(h3:m (.str x) [d] M1= .ok r M2):aH ig m o (Zb g Zf) env M= .ok r M2:=by simp only[aH,h1,R3.bind,Zu3,if_true,Zb,h2,Zf,h3]
theorem Znl{i:Int}(h:i.natAbs<10^60):(gM i).length<=61:=(Tu i h).2.1
theorem ZtG{i:Int}(h:i.natAbs<10^60):i.natAbs.log2<1920:=by
 by_cases z:i.natAbs=0
 .rw[z];decide
 .exact(Nat.log2_lt z).mpr (mK h (by decide +kernel))
noncomputable abbrev ur:List Nat:=[48,49,50,51,52,53,54,55,56,57]
theorem in_str(c:Nat)(y:List Nat)(M:Store):lO (.str [c]) (.str y) M= .ok (.bl (decide (c∈y))) M:=rfl
theorem all_map{p:α->Bool}{l:List α}(h:M[n]?=Ya (.lst (l.map λc=>D.bl (p c)))):q9 [.ref n] M= .ok (.bl (l.all p)) M:=by
 have a:∀l:List α,(l.map λc=>D.bl (p c)).all Am=true/\(l.map λc=>D.bl (p c)).all xZ=l.all p:=by
  intro l
  induction l with
  |nil=>exact⟨rfl,rfl⟩|cons x l ih=>exact⟨by simp only[Yu,jG,Am,ih.1,Bool.and_self],by rw[Yu,jG,jG,ih.2];cases p x<;>rfl⟩
 simp only[Ao,h,allB,(a l).1,(a l).2,if_true]
theorem Ziq{w fs:List Nat}(h1:1<=fs.length)(h2:fs.length<=60)(h3:∀r,fs≠48::r):
  (Zr (aK (eN (e2 dF (aB a_ (Zb (Za 1) (Zf))) (eC (.int 1))) (e2 cC (aB a_ (Zb (Za 1) (Zf))) (qH))) (aY (eC (.bl false))) (aX)) (Zr (aK (aH ig q_ (Za 1) (Zb (eC (.str [48])) (Zf))) (aY (e2 aW (Za 0) (eC (.str [48])))) (aX)) (aY (aB q9 (Zb (fL (cW (Za 1)) 1 (cj 2) [] (e2 lO (Za 2) (uG))) (Zf)))))) [Ya (.str w),Ya (.str fs)] M= .rt (.bl (fs.all λc=>decide (c∈ur))) (M++[.lst (fs.map λc=>D.bl (decide (c∈ur)))]):=by
 have hz:fs.length<=SZ:=Yj h2 (by decide);have ln:(aB a_ (Zb (Za 1) (Zf))) [Ya (.str w),Ya (.str fs)] M= .ok (.int fs.length) M:=b8 (a:=.str fs) rfl (by simp only[Ai,Aj,Ak,q8,if_pos hz]);have c1:(eN (e2 dF (aB a_ (Zb (Za 1) (Zf))) (eC (.int 1))) (e2 cC (aB a_ (Zb (Za 1) (Zf))) (qH))) [Ya (.str w),Ya (.str fs)] M= .ok (.bl false) M:=by rw[o5 (M1:=M) (Zh ln rfl (by simp only[lM];rw[decide_eq_false (by exactλz=>iN [_] [] 2 415002921105 T1 z h1)]))];exact Zh ln (g:=qH) (b:=.int 60) rfl (by simp only[jf];rw[decide_eq_false (by exactλz=>iN [_] [] 2 0x63c2b001083c2b91 T1 z h2)])
 have c2:(aH ig q_ (Za 1) (Zb (eC (.str [48])) (Zf))) [Ya (.str w),Ya (.str fs)] M= .ok (.bl false) M:=by
  refine Cy (d:=.str [48]) rfl rfl ?_;cases fs with
  |nil=>exact absurd h1 (by decide)|cons c r=>
   have q:¬48=c:=λe=>h3 r (by rw[e]);have e:([48]:List Nat).isPrefixOf (c::r)=false:=by show((48==c)&&NT [] r)=false;rw[beq_eq_false_iff_ne.mpr q];rfl
   simp only[Fb];rw[if_pos ⟨hz,by decide⟩,e]
 rw[Zi (cT c1),Zi (cT c2)];have hi:(cW (Za 1)) [Ya (.str w),Ya (.str fs)] M= .ok ⟨fs.map (λc=>D.str [c]),Ym⟩ M:=by simp only[cW,Za,Dk,Hu,R3.bind,if_pos hz]
 have lc:=vL (h:=λc=>D.bl (decide (c∈ur))) (own:=1) (i:=2) (elt:=(e2 lO (Za 2) (uG))) hi (λn z=>nomatch z)
  (λc hc M'=>Zh (a:=.str [c]) (b:=.str ur) rfl rfl (in_str c ur M')) (Yj h2 (by decide))
 exact di (b8 lc (all_map (Zq _ _ _)))
variable{c:Nat}
theorem Zu7(h:48<=c/\c<=57):c∈ur:=(WL:c∈uU 48 10↔_).mpr ⟨h.1,Il h.2⟩
theorem ZlT{i:Int}(h:i.natAbs<10^60)(M:Store):qx [.str (gM i)] M= .ok (.bl true) M:=by
 have go:∀(n:Nat) (w:List Nat),0<n->n<10^60->(j5 (aH ig q_ (Za 0) (Zb (eC (.str [45])) (Zf))) (eO (Za 0) (dO (eC (.int 1))) (fX)) (Za 0)) [Ya (.str w),Ym] M= .ok (.str (cF n)) M->qx [.str w] M= .ok (.bl true) M:=λn w h0 h1 hf=>by
  refine Rt.pure (G:=[.lst ((cF n).map λc=>D.bl (decide (c∈ur)))]) (env:=[Ya (.str w),Ym]) ?_ rfl;unfold Gd;rw[Zi (Zo hf)];refine(Ziq ?_ (Gn 59 n h1) (Zo4 n h0)).trans (by rw[gU.mpr λc hc=>decide_eq_true (Zu7 (wu n c hc))]);cases e:cF n with
  |nil=>exact absurd e (Gm n)|cons _ _=>exact DN 1 _
 cases i with
 | ofNat n=>
  have e:gM (Int.ofNat n)=cF n:=K8 n;have hp:(j5 (aH ig q_ (Za 0) (Zb (eC (.str [45])) (Zf))) (eO (Za 0) (dO (eC (.int 1))) (fX)) (Za 0)) [Ya (.str (cF n)),Ym] M= .ok (.str (cF n)) M:=by
   rw[Fo (M1:=M)]
   .rfl
   .refine Cy (d:=.str [45]) rfl rfl ?_;have hl:=Gn 59 n h;have e:([45]:List Nat).isPrefixOf (cF n)=false:=by
     cases q:cF n with
     |nil=>rfl|cons c r=>have qc:=wu n c (by rw[q];exact Yd ..);show((45==c)&&NT [] r)=false;rw[beq_eq_false_iff_ne.mpr (by exactλz=>lA 2 0x60302b0102d2b31 T1 z qc.1)];rfl
    simp only[Fb];rw[if_pos ⟨Yj hl (by decide),by decide⟩,e]
  rw[e];by_cases z:n=0
  .subst z;refine Rt.pure (G:=[]) (env:=[Ya (.str (cF 0)),Ym]) ?_ rfl;rw[jX];unfold Gd;rw[Zi (Zo hp),yM (by decide)];simp[Zr,aK,aY,aX,qH]
  .exact go n _ (Xk z) h hp
 | negSucc n=>
  rw[K9];have hl:=Gn 59 (n+1) h;refine go (n+1) _ (Nat.succ_pos n) h ?_;rw[Fl (M1:=M)]
  .have e:cutD (45::cF (n+1)) (Ya 1) Ym=cF (n+1):=Cw (45::cF (n+1)) 1;have hz:(45::cF (n+1)).length<=SZ:=Yj (oO hl) (by decide);simp only[eO,Za,dO,fX,eC,R3.bind,Hu,Ez,EY,Ag,Ah,if_pos hz,e]
  .refine Cy (d:=.str [45]) rfl rfl ?_;have hz:(45::cF (n+1)).length<=SZ:=Yj (oO hl) (by decide);simp only[Fb];rw[if_pos ⟨hz,by decide⟩];rfl
theorem Zlr(h1:1<=x.length)(h2:x.length<=60)(h3:∀c∈x,97<=c)(M:Store):qx [.str x] M= .ok (.bl false) M:=by
 have hz:x.length<=SZ:=Yj h2 (by decide);obtain⟨c,r,rfl⟩:∃c r,x=c::r:=by
  cases x with
  |nil=>exact absurd h1 (by decide)|cons c r=>exact⟨c,r,rfl⟩
 have hc:97<=c:=h3 c Yd;have hp:(j5 (aH ig q_ (Za 0) (Zb (eC (.str [45])) (Zf))) (eO (Za 0) (dO (eC (.int 1))) (fX)) (Za 0)) [Ya (.str (c::r)),Ym] M= .ok (.str (c::r)) M:=by
  rw[Fo (M1:=M)]
  .rfl
  .refine Cy (d:=.str [45]) rfl rfl ?_;have e:([45]:List Nat).isPrefixOf (c::r)=false:=by
    show((45==c)&&NT [] r)=false;rw[beq_eq_false_iff_ne.mpr (by exactλz=>lA 2 0x60612b0102d2b31 T1 z hc)];rfl
   simp only[Fb];rw[if_pos ⟨hz,by decide⟩,e]
 refine Rt.pure (G:=[.lst ((c::r).map λc=>D.bl (decide (c∈ur)))]) (env:=[Ya (.str (c::r)),Ym]) ?_ rfl;unfold Gd;rw[Zi (Zo hp)];refine(Ziq h1 h2 (λq e=>by have:=(iV e).1;exact lA 2 0x60612b01302b021 T1 this hc)).trans ?_;have hn:decide (c∈ur)=false:=decide_eq_false λz=>by simp only[Yo,pM,or_false]at z;omega
 rw[jG,hn,O6]
inductive Sm where
 |num (i:Int)|d7 (x:List Nat)|jh (a:Sm)|two (o:Nat) (a b:Sm)
noncomputable abbrev mZ:List Nat:=[99,101,108,108]
noncomputable def wz:Nat->List Nat
 |0=>[97,100,100]|1=>[115,117,98]|_=>[109,111,114,101]
noncomputable def Sm.flat:Sm->List D
 | .num i=>[.int i]|.d7 x=>[.str x]|.jh a=>.str mZ::a.flat|.two o a b=>.str (wz o)::(a.flat++b.flat)
noncomputable def Sm.good:Sm->Prop
 | .num _=>True|.d7 x=>nZ x=false|.jh a=>a.good|.two _ a b=>a.good/\b.good
noncomputable def Sm.all(Q:List Nat->Prop):Sm->Prop
 | .num _=>True|.d7 x=>Q x|.jh a=>a.all Q|.two _ a b=>a.all Q/\b.all Q
noncomputable def Sm.parts:Sm->List Sm
 | .num _=>[]|.d7 _=>[]|.jh a=>[a]|.two _ a b=>[a,b]
noncomputable def Sm.head:Sm->D
 | .num i=>.int i|.d7 x=>.str x|.jh _=>.str mZ|.two o _ _=>.str (wz o)
theorem Sm.G6(t:Sm):t.flat=t.head::(t.parts.map Sm.flat).flatten:=by cases t<;>simp[Sm.flat,Sm.head,Sm.parts]
noncomputable def ar:D->Nat
 | .str x=>if x=mZ then 1 else if nZ x=true then 2 else 0|_=>0
inductive qy:D->Prop
 |int (i:Int):qy (.int i)
 |str (x:List Nat):qy (.str x)
theorem Cz:∀(t:Sm),∀d∈t.flat,qy d
 | .num i,d,h=>by rw[Yz.mp h];exact .int i|.d7 x,d,h=>by rw[Yz.mp h];exact .str x|.jh a,d,h=>by
  rcases Yo.mp h with h|h
  .rw[h];exact .str _
  .exact Cz a d h
 | .two o a b,d,h=>by
  rcases Yo.mp h with h|h
  .rw[h];exact .str _
  .rcases fU.mp h with h|h
   .exact Cz a d h
   .exact Cz b d h
theorem ZpX(x:List Nat):dR x nY=if x=[97,100,100]then Ya 2 else if x=[115,117,98]then Ya 2 else if x=[109,111,114,101]then Ya 2 else if x=mZ then Ya 1 else Ym:=rfl
variable{w:D}
theorem Zur(h:qy w)(M:Store):t7 nY w (.int 0) M= .ok (.int (ar w:Nat)) M:=by
 cases h with
 |int i=>rfl|str x=>
  show(match dR x nY with|some i=>R3.ok (D.int i) M|none=>R3.ok (D.int 0) M)=_;rw[ZpX];by_cases h1:x=[97,100,100]
  .subst h1;rfl
  by_cases h2:x=[115,117,98]
  .subst h2;rfl
  by_cases h3:x=[109,111,114,101]
  .subst h3;rfl
  by_cases h4:x=mZ
  .subst h4;rfl
  have:nZ x=false:=decide_eq_false λz=>z.elim h1 λz=>z.elim h2 λz=>z.elim h3 h4;simp only[if_neg h1,if_neg h2,if_neg h3,if_neg h4,ar,this];rfl
noncomputable def stp(s:List (List D)×Nat)(w:D):List (List D)×Nat:=
 let s:=if s.2=0 then(s.1++[[]],1)else s
 (s.1.dropLast++[s.1.getLastD []++[w]],s.2-1+ar w)
theorem CJ(ds:List (List D))(cur:List D)(l:Nat)(w:D):stp (ds++[cur],l+1) w=(ds++[cur++[w]],l+ar w):=by simp[stp]
theorem Zor(ds:List (List D))(w:D):stp (ds,0) w=stp (ds++[[]],0+1) w:=by simp[stp]
theorem K_:∀(t:Sm),t.good->∀(ds:List (List D)) (cur:List D) (l:Nat) (r:List D),(t.flat++r).foldl stp (ds++[cur],l+1)=r.foldl stp (ds++[cur++t.flat],l)
 | .num i,_,ds,cur,l,r=>by simp only[Sm.flat,wU,jF,qN,CJ];rfl|.d7 x,h,ds,cur,l,r=>by
  have e:ar (.str x)=0:=by
   have h:nZ x=false:=h;have h':x≠mZ:=λz=>by subst z;exact absurd h (by decide)
   simp only[ar,if_neg h',h];rfl
  simp only[Sm.flat,wU,jF,qN,CJ,e,Ip]
 | .jh a,h,ds,cur,l,r=>by have e:ar (.str mZ)=1:=rfl;simp only[Sm.flat,wU,qN,CJ,e,K_ a h,jl,jF]|.two o a b,h,ds,cur,l,r=>by
  have e:ar (.str (wz o))=2:=by
   match o with
   |0=>rfl|1=>rfl|_+2=>rfl
  have e2:l+2=l+1+1:=rfl;simp only[Sm.flat,wU,qN,CJ,e,jl,e2,K_ a h.1,K_ b h.2,jF]
theorem Tz(t:Sm):∃w r,t.flat=w::r:=⟨_,_,t.G6⟩
theorem Zrw(t:Sm)(h:t.good)(ds:List (List D))(r:List D):(t.flat++r).foldl stp (ds,0)=r.foldl stp (ds++[t.flat],0):=by obtain⟨w,q,e⟩:=Tz t;have h1:=K_ t h ds [] 0 r;rw[jF]at h1;rw[←h1,e,wU,qN,qN,Zor]
theorem Zoj:∀(ts:List Sm),(∀t∈ts,t.good)->∀ds,(ts.map Sm.flat).flatten.foldl stp (ds,0)=(ds++ts.map Sm.flat,0)
 |[],_,ds=>by simp|t::ts,h,ds=>by rw[Yu,oM,Zrw t (h t Yd),Zoj ts λt ht=>h t (Yc _ ht)];simp
noncomputable def mq(n j:Nat):List D:=(gW j).map λk=>D.ref (n+1+k)
noncomputable def dH(M:Store)(done:List (List D)):Store:=M++ .lst (mq M.length done.length)::done.map MO.lst
theorem ZnF(M:Store)(done:List (List D)):(dH M done).length=M.length+1+done.length:=by simp only[dH,Ye,Yp,Yv];exact Y4 (lB 0 1790139547840 T1) (lB 0 0xa1c0c1a0cc0 T1)
theorem Gp(M:Store)(done:List (List D)):(dH M done)[M.length]?=Ya (.lst (mq M.length done.length)):=Zq _ _ _
theorem Zqn(M:Store)(done:List (List D))(k:Nat):(dH M done)[M.length+1+k]?=(done[k]?).map MO.lst:=by rw[dH,pQ,rD,kZ 1 k,Dk,jV]
theorem Zi3(n j:Nat):mq n (j+1)=mq n j++[D.ref (n+1+j)]:=by simp[mq,List.range_succ]
theorem ZsP(M:Store)(done:List (List D)):(dH M done++[MO.lst []]).set M.length (MO.lst (mq M.length done.length++[D.ref (dH M done).length]))=dH M (done++[[]]):=by have h:=JV M (MO.lst (mq M.length done.length)::done.map MO.lst++[MO.lst []]) 0 (MO.lst (mq M.length done.length++[D.ref (dH M done).length]));rw[Ip]at h;rw[ZnF]at h ⊢;rw[dH,jl,h,dH,Ye,jb,Zi3];simp
theorem Zrn(M:Store)(ds:List (List D))(cur:List D)(w:D):(dH M (ds++[cur])).set (M.length+1+ds.length) (MO.lst (cur++[w]))=dH M (ds++[cur++[w]]):=by rw[dH,pQ,JV,dH];simp[kZ 1]
theorem ZjD{α:Type}{enc h:α->D}{it:fV}{g:G3}{n:Nat}{elt:E3}{I:bL->Prop}{M:Store}:∀(as:List α) (acc:List D) (env:bL),I env ->
  (∀a∈as,∀env,I env->∃dg,g (enc a) env=Ya dg/\I dg/\∀x,elt dg (M.set n (.lst x))= .ok (h a) (M.set n (.lst x)))->(∀x,locked it (M.set n (.lst x))=true)->n<M.length->acc.length+as.length<=SZ ->
  iZ it g [] elt n (as.map enc) env (M.set n (.lst acc))= .ok (.ref n) (M.set n (.lst (acc++as.map h)))
 |[],acc,env,_,_,hl,_,_=>by simp only[sG,Rb,hl,if_true,jX]|a::as,acc,env,hI,hf,hl,hn,hz=>by
  obtain⟨dg,hg,hI1,he⟩:=hf a Yd env hI;have gt:(M.set n (.lst acc))[n]?=Ya (.lst acc):=by simp[hn]
  have lt:acc.length<SZ:=by simp only[Yp]at hz;exact lC 1 2204024704001 T1 hz
  have ih:=ZjD as (acc++[h a]) dg hI1 (λb hb=>hf b (Yc _ hb)) hl hn (by simp only[Ye,Yp,zu]at hz ⊢;exact lC 1 0x21aec0cc02a1c0c01 T1 hz);simp only[Yu,JT,hl,if_true,hg,Fe,Ff,R3.bind,he,gt,lt,Dp];rw[ih];simp
theorem TF{enc h:α->D}{own:Nat}{i:I3}{g:G3}{elt:E3}{M M1:Store}{lock:Option Nat}{as:List α}(I:bL->Prop)(hi:i env M= .ok ⟨as.map enc,lock⟩ M1)(MJ:∀n,lock=Ya n->M1[n]?=Ya (.lst (as.map enc)))(hI:I (env++Yq own Ym))(hf:∀a∈as,∀env,I env->∃dg,g (enc a) env=Ya dg/\I dg/\∀x,elt dg (M1++[.lst x])= .ok (h a) (M1++[.lst x]))(hz:as.length<=100000):
  fL i own g [] elt env M= .ok (.ref M1.length) (M1++[.lst (as.map h)]):=by
 have st:∀x:List D,(M1++[MO.lst []]).set M1.length (.lst x)=M1++[.lst x]:=λx=>by simp
 rw [Rc hi];have:=ZjD (enc:=enc) (h:=h) (it:=⟨as.map enc,lock⟩) (g:=g) (n:=M1.length) (elt:=elt) (I:=I) (M:=M1++[.lst []]) as [] (env++Yq own Ym) hI
  (λa ha e he=>by obtain⟨e1,h1,h2,h3⟩:=hf a ha e he;exact⟨e1,h1,h2,λx=>by rw[st];exact h3 x⟩)
  (λx=>by
   rw[st];cases lock with
   |none=>rfl|some n=>simp only[locked,decide_eq_true_eq];exact bQ (MJ n rfl) _) (by simp) (by simp;exact lA 1 0xf42405b00186a05b001 T1 hz)
 rw[st,st]at this;simpa using this
theorem ZmS{x:List D}(h:M[n]?=Ya (.lst x)):gB [.ref n] M= .ok (.tup x) M:=by simp[h]
noncomputable abbrev TJ:S3:=Zr (aK (e2 aW (Za 2) (eC (.int 0))) (Zr (aP (aH bf Zz (Za 1) (Zb (bh (Zf)) (Zf)))) (au 2 (eC (.int 1)))) (aX)) (Zr (aP (aH bf Zz (e2 Zn (Za 1) (e1 cu (eC (.int 1)))) (Zb (Za 3) (Zf)))) (au 2 (e2 aR (e2 h_ (Za 2) (eC (.int 1))) (e2 (t7 nY) (Za 3) (eC (.int 0))))))
theorem Zoz(n j:Nat):(mq n j).length=j:=by simp[mq]
theorem m5{M M' M2:Store}{d:D}{o t:E3}(ho:o env M= .ok (.ref n) M')(hM:M'[n]?=Ya (.lst xs))(ht:t env M'= .ok d M2)(hM':M2[n]?=Ya (.lst xs))(hl:xs.length<SZ):
  aP (aH bf Zz o (Zb t (Zf))) env M= .nx env (M2.set n (.lst (xs++[d]))):=by
 have e:aH bf Zz o (Zb t (Zf)) env M= .ok .non (M2.set n (.lst (xs++[d]))):=by simp only[aH,ho,R3.bind,Aq,hM,Zb,ht,Zf,Q7,hM',if_pos hl,if_true]
 rw[aP,e]
theorem ZlG(M:Store)(ds:List (List D))(cur:List D)(l:Nat)(w W:D)(hw:qy w)(h1:ds.length<1000)(h2:cur.length<1000):
  (Zr (aP (aH bf Zz (e2 Zn (Za 1) (e1 cu (eC (.int 1)))) (Zb (Za 3) (Zf)))) (au 2 (e2 aR (e2 h_ (Za 2) (eC (.int 1))) (e2 (t7 nY) (Za 3) (eC (.int 0)))))) [Ya W,Ya (.ref M.length),Ya (.int ((l+1:Nat):Int)),Ya w] (dH M (ds++[cur]))
   = .nx [Ya W,Ya (.ref M.length),Ya (.int ((l+ar w:Nat):Int)),Ya w] (dH M (ds++[cur++[w]])):=by
 have hr:mq M.length (ds++[cur]).length=mq M.length ds.length++[.ref (M.length+1+ds.length)]:=by rw[Ye,jb,Zi3]
 have hat:(dH M (ds++[cur]))[M.length+1+ds.length]?=Ya (.lst cur):=by rw[Zqn];simp
 refine(Zi (m5 (M':=dH M (ds++[cur])) (Zh rfl (fM rfl (xU 1)) (iG (Gp M _) (by rw[hr];exact getD_last _ _))) hat rfl hat (mK h2 (by decide)))).trans ?_;rw[Zrn];refine Zo (Zh (Zh rfl rfl rfl) (Zh rfl rfl (Zur hw _)) ?_);rw[tR];congr 2;exact qT (iN [_,_] [] 0 4723607885090760 T1) (iN [_,_] [] 0 6942370369178760 T1)
theorem ZoD(M:Store)(done:List (List D))(l:Nat)(w W:D)(hw:qy w)(h1:done.length<900)(h2:∀c∈done,c.length<900)(hn:l≠0->done≠[]):
  TJ [Ya W,Ya (.ref M.length),Ya (.int (l:Int)),Ya w] (dH M done)= .nx [Ya W,Ya (.ref M.length),Ya (.int ((stp (done,l) w).2:Nat)),Ya w] (dH M (stp (done,l) w).1):=by
 cases l with
 |zero=>
  rw[Zor,CJ];have hz:(mq M.length done.length).length<SZ:=by rw[Zoz];exact mK h1 (by decide)
  show Zr _ _ _ _=_;refine(Zi ((e_ (Zh rfl rfl (rE rfl))).trans ((Zi (Tv rfl (Gp M done) (cY rfl rfl) (bQ (Gp M done) _) hz)).trans (Zo (d:=.int 1) rfl)))).trans ?_;rw[ZsP];exact ZlG M done [] 0 w W hw (lA 1 0x3e83b013843b011 T1 h1) (by simp)
 |succ l=>have hd:=hn (λz=>lA 1 116001825 T1 z);have e:done=done.dropLast++[done.getLast hd]:=(List.dropLast_concat_getLast hd).symm;generalize done.dropLast=ds at e;generalize done.getLast hd=cur at e;subst e;rw[CJ];show Zr _ _ _ _=_;refine(Zi (cT (Zh rfl rfl (vK (λz=>iN [_] [] 1 1856030881 T1 z))))).trans ?_;exact ZlG M ds cur l w W hw (by simp at h1;exact lA 1 0x3e83b013843ba0c11 T1 h1) (by have:=h2 cur (by simp);exact lA 1 0x3e83b013843b011 T1 this)
theorem Znx(s:List (List D)×Nat)(w:D):(stp s w).1.length<=s.1.length+1/\(stp s w).1≠[]:=by
 unfold stp;by_cases h:s.2=0
 .simp[h]
 .simp[h]
theorem Zso(s:List (List D)×Nat)(w:D)(k:Nat)(h:∀c∈s.1,c.length<=k):∀c∈(stp s w).1,c.length<=k+1:=by
 have key:∀x:List (List D),(∀c∈x,c.length<=k)->∀c∈x.dropLast++[x.getLastD []++[w]],c.length<=k+1:=by
  intro x hx c hc;rcases fU.mp hc with hc|hc
  .exact qQ (hx c (List.dropLast_subset _ hc))
  .rw[Yz.mp hc,Ye,jb];refine oO ?_;cases x with
   |nil=>exact eZ _|cons a x=>exact hx _ (by rw[List.getLastD_cons];exact(show(x.getLastD a)∈a::x by rw[List.getLastD_eq_getLast?];cases hx':x.getLast? with|none=>simp|some y=>exact Yc _ (List.mem_of_getLast? hx')))
 unfold stp;by_cases hs:s.2=0
 .simp only[hs,if_true];exact key _ λc hc=>by
   rcases fU.mp hc with hc|hc
   .exact h c hc
   .rw[Yz.mp hc];exact eZ _
 .simp only[hs,if_false];exact key _ h
theorem Zox(M:Store)(W:D)(ws:List D)(hw:∀w∈ws,qy w)(hl:ws.length<=500)(x0:Option D)(it:fV)(hi:∀done,locked it (dH M done)=true):
  ∃x,iY it (cj 3) TJ ws [Ya W,Ya (.ref M.length),Ya (.int 0),x0] (dH M [])= .nx [Ya W,Ya (.ref M.length),Ya (.int ((ws.foldl stp ([],0)).2:Nat)),x] (dH M (ws.foldl stp ([],0)).1):=by
 have main:∀(ws:List D) (done:List (List D)) (l k:Nat) (x0:Option D),(∀w∈ws,qy w)->k+ws.length<=500->done.length<=k->(∀c∈done,c.length<=k)->(l≠0->done≠[]) ->
   ∃x,iY it (cj 3) TJ ws [Ya W,Ya (.ref M.length),Ya (.int (l:Int)),x0] (dH M done)= .nx [Ya W,Ya (.ref M.length),Ya (.int ((ws.foldl stp (done,l)).2:Nat)),x] (dH M (ws.foldl stp (done,l)).1):=by
  intro ws
  induction ws with
  |nil=>intro done l k x0 _ _ _ _ _;exact⟨x0,by rw[vI,if_pos (hi _)];rfl⟩|cons w ws ih=>intro done l k x0 hw hk h1 h2 hn;rw[Yp]at hk;obtain⟨x,hx⟩:=ih (stp (done,l) w).1 (stp (done,l) w).2 (k+1) (Ya w) (λy hy=>hw y (Yc _ hy)) (lB 1 0x1f43b1a0cc01f43ba1c0c01 T1 hk) (by have:=(Znx (done,l) w).1;simp only at this;exact lC 2 0xa2c002101a1c001 T1 this h1) (Zso (done,l) w k h2) (λ_=>(Znx (done,l) w).2);refine⟨x,?_⟩;rw[tW,if_pos (hi _)];have:=ZoD M done l w W (hw w Yd) (lC 2 0x3843b011f43ba2c1c011001 T1 h1 hk) (λc hc=>by have:=h2 c hc;exact lC 2 0x3843b011f43ba2c1c011001 T1 this hk) hn;simp only[cj,oJ,oK,this];exact hx
 exact main ws [] 0 0 x0 hw (lA 1 0x1f43b0ec01f43b001 T1 hl) (eZ _) (λc hc=>by cases hc) (λh=>absurd rfl h)
theorem ZhB(M:Store)(ts:List Sm)(hg:∀t∈ts,t.good)(hl:(ts.map Sm.flat).flatten.length<=500){W:D}{it:fV}(hit:it.items=(ts.map Sm.flat).flatten)(hi:∀done,locked it (dH M done)=true)(hv:cW (Za 0) [Ya W,Ya (.ref M.length),Ya (.int 0),Ym] (dH M [])= .ok it (dH M [])):∃G k,wg [W] M= .ok (.ref (M.length+k)) (M++G)/\G[k]?=Ya (.lst (ts.map λt=>.tup t.flat)):=by
 have hws:∀w∈(ts.map Sm.flat).flatten,qy w:=λw hw=>by obtain⟨l,h1,h2⟩:=WQ.mp hw;obtain⟨t,_,rfl⟩:=gJ.mp h1;exact Cz t w h2
 obtain⟨x,hx⟩:=Zox M W _ hws hl Ym it hi;rw[Zoj ts hg]at hx;simp only[jF]at hx;have hn:(ts.map Sm.flat).length<=100000:=by
  have:∀l:List Sm,(l.map Sm.flat).length<=(l.map Sm.flat).flatten.length:=by
   intro l
   induction l with
   |nil=>exact Ys _|cons t l ih=>rw[Yu,oM,Ye,Yp];obtain⟨w,r,e⟩:=Tz t;rw[e,Yp];exact lC 1 460474730680321 T1 ih
  have:=this ts;exact lB 2 0x186a05b001f43b1011001 T1 this hl
 let S:=dH M (ts.map Sm.flat)
 have lc:fL (cW (Za 1)) 1 (cj 4) [] (aB gB (Zb (Za 4) (Zf))) [Ya W,Ya (.ref M.length),Ya (.int ((0:Nat):Int)),x] S= .ok (.ref S.length) (S++[.lst ((gW (ts.map Sm.flat).length).map λk=>D.tup ((ts.map Sm.flat).getD k []))]):=by
  refine TF (enc:=λk=>D.ref (M.length+1+k)) (h:=λk=>D.tup ((ts.map Sm.flat).getD k [])) (as:=gW (ts.map Sm.flat).length) (M1:=S) (lock:=Ya M.length) (λe=>∃a b c d y,e=[a,b,c,d,y]) ?_ ?_ ⟨_,_,_,_,_,rfl⟩ ?_ (by rw[Hy];exact hn)
  .show(R3.ok (D.ref M.length) S).bind _=_;simp only[R3.bind];rw[show S[M.length]?=_ from Gp M _];rfl
  .intro n hn';cases hn';exact Gp M _
  .intro k hk env ⟨a,b,c,d,y,e⟩;subst e;have hk:=Hz.mp hk;refine⟨_,rfl,⟨_,_,_,_,_,rfl⟩,λz=>?_⟩;refine b8 rfl ?_;refine(ZmS (x:=(ts.map Sm.flat).getD k []) (bQ ?_ _));rw[Zqn,Y9 hk,Dj,Y9 hk];rfl
 have hlist:((gW (ts.map Sm.flat).length).map λk=>D.tup ((ts.map Sm.flat).getD k []))=ts.map λt=>D.tup t.flat:=by
  apply zp;intro j;rw[jV,jV];by_cases hj:j<ts.length
  .rw[List.getElem?_range (by simpa using hj),Y9 hj];simp[Dj,jV,Y9 hj]
  .rw[Hw (by simpa using hj),Hw (by simpa using hj)];rfl
 rw[hlist]at lc;have hS:S=M++(.lst (mq M.length (ts.map Sm.flat).length)::(ts.map Sm.flat).map MO.lst):=rfl;refine⟨(.lst (mq M.length (ts.map Sm.flat).length)::(ts.map Sm.flat).map MO.lst)++[.lst (ts.map λt=>.tup t.flat)],1+(ts.map Sm.flat).length,?_,?_⟩
 .have hlen:S.length=M.length+(1+(ts.map Sm.flat).length):=by rw[ZnF,pQ]
  refine(jC (M':=S++[.lst (ts.map λt=>.tup t.flat)]) (d:=.ref S.length) (env:=[Ya W,Ym,Ym,Ym]) ?_).trans ?_
  .unfold Su;rw[Zi (Zo (d:=.ref M.length) (M':=dH M []) (cY rfl rfl)),Zi (Zo (d:=.int 0) rfl),Zi ((x_ (it:=it) hv).trans (by rw[hit];exact hx))];exact di ((Fl (Zh rfl rfl (rE rfl))).trans lc)
  .have hb:below M.length (.ref S.length)=false:=by show decide (S.length<M.length)=false;rw[hlen];exact decide_eq_false (λz=>lB 1 25797856273 T1 z)
   rw[dX,hb,hlen,hS,jl];rfl
 .simp[kZ 1]
theorem Zna(M:Store)(ts:List Sm)(hg:∀t∈ts,t.good)(hl:(ts.map Sm.flat).flatten.length<=500):∃G k,wg [.tup (ts.map Sm.flat).flatten] M= .ok (.ref (M.length+k)) (M++G)/\G[k]?=Ya (.lst (ts.map λt=>.tup t.flat)):=ZhB M ts hg hl (it:=⟨(ts.map Sm.flat).flatten,Ym⟩) rfl (λ_=>rfl) rfl
theorem ZlQ(M:Store)(ts:List Sm)(hg:∀t∈ts,t.good)(hl:(ts.map Sm.flat).flatten.length<=500)(hn:M[n]?=Ya (.lst (ts.map Sm.flat).flatten)):∃G k,wg [.ref n] M= .ok (.ref (M.length+k)) (M++G)/\G[k]?=Ya (.lst (ts.map λt=>.tup t.flat)):=by have hS:∀done,(dH M done)[n]?=Ya (.lst (ts.map Sm.flat).flatten):=λdone=>bQ hn _;refine ZhB M ts hg hl (it:=⟨(ts.map Sm.flat).flatten,Ya n⟩) rfl (λdone=>decide_eq_true (hS done)) ?_;show(R3.ok (D.ref n) (dH M [])).bind _=_;simp only[R3.bind];rw[hS []]
theorem Zq2(M:Store)(t:Sm)(hg:t.good)(hl:t.flat.length<=500):∃G k,Kz [.tup t.flat] M= .ok (.ref (M.length+k)) (M++G)/\G[k]?=Ya (.lst (t.parts.map λt=>.tup t.flat)):=by
 have hgp:∀s∈t.parts,s.good:=by
  cases t with
  |num _=>intro s h;cases h|d7 _=>intro s h;cases h|jh a=>intro s h;rw[Yz.mp h];exact hg|two o a b=>
   intro s h;rcases Yo.mp h with h|h
   .rw[h];exact hg.1
   .rw[Yz.mp h];exact hg.2
 have e:=t.G6;have hl':(t.parts.map Sm.flat).flatten.length<=500:=by rw[e,Yp]at hl;exact lA 1 0x1f43b001f43ba0c01 T1 hl
 obtain⟨G,k,h1,h2⟩:=Zna M t.parts hgp hl';refine⟨G,k,?_,h2⟩;refine(jC (M':=M++G) (d:=.ref (M.length+k)) (env:=[Ya (.tup t.flat)]) ?_).trans ?_
 .unfold Sv;refine di (d_ (M1:=M) (a:=.tup (t.parts.map Sm.flat).flatten) ?_ h1);show R3.ok (D.tup (cutD t.flat (Ya ((1:Nat):Int)) Ym)) M=_;rw[Cw,e];rfl
 .have hb:below M.length (.ref (M.length+k))=false:=decide_eq_false (λz=>lB 1 100731921 T1 z);rw[dX,hb];rfl
noncomputable def Sm.dp:Sm->Nat
 | .num _=>1|.d7 _=>1|.jh a=>a.dp|.two _ a b=>max a.dp (b.dp+1)
noncomputable def n8:Nat->List Sm->List Int
 |_,[]=>[]|k,t::r=>((t.dp+k:Nat):Int)::n8 (k+1) r
theorem Gq{lk:List (Nat×List D)}(h:jt lk M=true)(G:Store):jt lk (M++G)=true:=by simp only[jt,gU,decide_eq_true_eq]at h ⊢;exactλq hq=>bQ (h q hq) G
theorem TQ{F:F3}{M:Store}{lk:List (Nat×List D)}(hlk:jt lk M=true){i j:Nat}(I:bL->Prop)(hI:∀env,I env->∀a b:D,I ((env.set i (Ya a)).set j (Ya b))/\∀M:Store,Za j ((env.set i (Ya a)).set j (Ya b)) M= .ok b M/\Za i ((env.set i (Ya a)).set j (Ya b)) M= .ok a M):
  ∀(ts:List Sm) (k:Nat) (acc:List D) (env:bL),I env->(∀t∈ts,∀M,F [.tup t.flat] M= .ok (.int (t.dp:Int)) M)->acc.length+ts.length<=1000 ->
  ju lk (nH [i,j]) [] (e2 aR (aN F (Zb (Za j) (Zf))) (Za i)) M.length (lW k (ts.map λt=>D.tup t.flat)) env (M++[.lst acc])= .ok (.ref M.length) (M++[.lst (acc++(n8 k ts).map D.int)])
 |[],k,acc,env,_,_,_=>by show ju _ _ _ _ _ [] _ _=_;simp only[ju,Gq hlk,if_true,n8,sG,jX]|t::ts,k,acc,env,hE,hF,hl=>by
  rw[Yp]at hl;obtain⟨hE',hv⟩:=hI env hE (.int (k:Int)) (.tup t.flat);have ih:=TQ hlk I hI ts (k+1) (acc++[.int ((t.dp+k:Nat):Int)]) _ hE' (λt ht=>hF t (Yc _ ht)) (by simp;exact lB 1 0x3e83b1a0cc03e83ba1c0c01 T1 hl);have he:e2 aR (aN F (Zb (Za j) (Zf))) (Za i) ((env.set i (Ya (.int (k:Int)))).set j (Ya (.tup t.flat))) (M++[.lst acc])= .ok (.int ((t.dp+k:Nat):Int)) (M++[.lst acc]):=by refine Zh (d_ (hv _).1 (hF t Yd _)) (hv _).2 ?_;rw[tR];rfl
  have gt:(M++[MO.lst acc])[M.length]?=Ya (.lst acc):=Zq _ _ _;have lt:acc.length<SZ:=sU (show acc.length<=1000 by exact lB 1 0x3e83b003e83ba1c0c01 T1 hl) (by decide);have st:(M++[MO.lst acc]).set M.length (.lst (acc++[.int ((t.dp+k:Nat):Int)]))=M++[.lst (acc++[.int ((t.dp+k:Nat):Int)])]:=by simpa using JV M [.lst acc] 0 _
  show ju _ _ _ _ _ (.tup [.int (k:Int),.tup t.flat]::lW (k+1) (ts.map λt=>D.tup t.flat)) _ _=_;simp only[ju,Gq hlk,if_true,nH,JS,JR,Fe,R3.bind,he,gt,lt,st];rw[ih];simp[n8]
theorem ZpK(t:Sm):v7 1 (n8 0 t.parts)=(t.dp:Int):=by
 cases t with
 |num _=>rfl|d7 _=>rfl|jh a=>rfl|two o a b=>show(if((b.dp+(0+1):Nat):Int)>((a.dp+0:Nat):Int)then((b.dp+(0+1):Nat):Int)else((a.dp+0:Nat):Int))=((max a.dp (b.dp+1):Nat):Int);split <;>omega
theorem Zq7{t s:Sm}(h:s∈t.parts):s.flat.length<t.flat.length:=by
 have e:=t.G6;have:s.flat.length<=(t.parts.map Sm.flat).flatten.length:=by
  cases t with
  |num _=>cases h|d7 _=>cases h|jh a=>rw[Yz.mp h];simp[Sm.parts]|two o a b=>
   rcases Yo.mp h with h|h
   .rw[h];simp[Sm.parts]
   .rw[Yz.mp h];simp[Sm.parts]
 rw[e,Yp];exact lB 1 43419504641 T1 this
theorem Zm7{t:Sm}(hg:t.good):∀s∈t.parts,s.good:=by
 cases t with
 |num _=>intro s h;cases h|d7 _=>intro s h;cases h|jh a=>intro s h;rw[Yz.mp h];exact hg|two o a b=>
  intro s h;rcases Yo.mp h with h|h
  .rw[h];exact hg.1
  .rw[Yz.mp h];exact hg.2
theorem Zp8(t:Sm):t.parts.length<=2:=by cases t<;>simp[Sm.parts]
theorem ZjN:∀(n:Nat) (t:Sm),t.good->t.flat.length<=n->n<=500->∀M:Store,yE n [.tup t.flat] M= .ok (.int (t.dp:Int)) M
 |0,t,_,hl,_,M=>by rw[t.G6,Yp]at hl;exact(lA 1 116001793 T1 hl).elim|n+1,t,hg,hl,hn,M=>by
  have hlp:=Zp8 t;have ih:∀s∈t.parts,∀M,yE n [.tup s.flat] M= .ok (.int (s.dp:Int)) M:=λs hs=>ZjN n s (Zm7 hg s hs) (by have:=Zq7 hs;exact lC 2 563648976195601 T1 this hl) (lA 1 0x1f43b001f43ba0c01 T1 hn);obtain⟨G,k,h1,h2⟩:=Zq2 M t hg (Yj hl hn);have h3:(M++G)[M.length+k]?=Ya (.lst (t.parts.map λt=>.tup t.flat)):=by rw[rD];exact h2
  refine Rt.pure (env:=[Ya (.tup t.flat),Ym]) (G:=G++[.lst ((n8 0 t.parts).map D.int)]) ?_ rfl;unfold Sw;refine(Zi (Zo (d_ rfl h1))).trans ?_;have lk:jt [(M.length+k,t.parts.map λt=>D.tup t.flat)] (M++G)=true:=by simp only[jt,jG,N5,Iw];exact decide_eq_true h3
  have lp:=TQ (F:=yE n) lk (i:=2) (j:=3) (λe=>∃a b c d,e=[a,b,c,d]) (λenv ⟨a,b,c,d,e⟩ x y=>by subst e;exact⟨⟨_,_,_,_,rfl⟩,λM=>⟨rfl,rfl⟩⟩) t.parts 0 [] [Ya (.tup t.flat),Ya (.ref (M.length+k)),Ym,Ym] ⟨_,_,_,_,rfl⟩ ih (by simp;exact lA 1 0x3e83b0021b001 T1 hlp);rw[jF]at lp;rw[←jl];refine di (b8 (M1:=M++G++[.lst ((n8 0 t.parts).map D.int)]) (a:=.ref (M++G).length) ?_ ?_)
  .show(R3.bind (R3.bind (R3.ok (D.ref (M.length+k)) (M++G)) _) _)=_;simp only[R3.bind,h3];exact lp
  .rw[Zma (Zq _ _ []),ZpK]
theorem ZqN{t:Sm}(hg:t.good)(hl:t.flat.length<=61)(M:Store):Ge [.tup t.flat] M= .ok (.int (t.dp:Int)) M:=by have key:∀n,t.flat.length<=n->n<=500->∀M,yE n [.tup t.flat] M= .ok (.int (t.dp:Int)) M:=λn h1 h2=>ZjN n t hg h1 h2;exact key 61 hl (by decide) M
noncomputable abbrev LET:List Nat:=[97,98,99,100,101,102,103,104,105,106,107,108,109,110,111,112,113,114,115,116,117,118,119,120,121,122]
structure gC(x:List Nat):Prop where
 pos:1<=x.length
 le:x.length<=8
 own:x∉cU
 low:∀c∈x,97<=c/\c<=122
theorem Zud(h:97<=c/\c<=122):c∈LET:=(WL:c∈uU 97 26↔_).mpr ⟨h.1,Il h.2⟩
theorem in_words(x:List Nat)(M:Store):lO (.str x) (.tup (cU.map D.str)) M= .ok (.bl (decide (x∈cU))) M:=by
 have hf:(dh (.str x)&&(cU.map D.str).all dh)=true:=rfl;have he:∀l:List (List Nat),(l.map D.str).any (λy=>dN y (.str x))=decide (x∈l):=by
  intro l
  induction l with
  |nil=>rfl|cons y l ih=>
   rw[Yu,kW,ih,Zs5];by_cases h:y=x
   .subst h;simp
   .have h':x≠y:=λe=>h e.symm;simp[h,h']
 simp only[lO,ZuN,hf,if_true,he]
variable{i:Nat}
theorem len_str(h:x.length<=1000)(hv:Za i env M= .ok (.str x) M):aB a_ (Zb (Za i) (Zf)) env M= .ok (.int (x.length:Int)) M:=b8 hv (by simp only[Ai,Aj,Ak,q8,if_pos (show x.length<=SZ from Yj h (by decide))])
noncomputable def nameB(x:List Nat):Bool:=decide (1<=x.length)&&(decide (x.length<=8)&&(!decide (x∈cU)&&x.all λc=>decide (c∈LET)))
theorem ZjL(h:x.length<=1000)(M:Store):mW [.str x] M= .ok (.bl (nameB x)) M:=by
 have hz:x.length<=SZ:=Yj h (by decide);have ln:aB a_ (Zb (Za 0) (Zf)) [Ya (.str x)] M= .ok (.int (x.length:Int)) M:=len_str h rfl;have no:∀(hb:nameB x=false),eN (e2 dF (aB a_ (Zb (Za 0) (Zf))) (eC (.int 1))) (eN (e2 cC (aB a_ (Zb (Za 0) (Zf))) (qI)) (e2 lO (Za 0) (uh))) [Ya (.str x)] M= .ok (.bl true) M->mW [.str x] M= .ok (.bl (nameB x)) M:=λhb hc=>by rw[hb];refine Rt.pure (G:=[]) (env:=[Ya (.str x)]) ?_ rfl;rw[jX];unfold KC;exact rC ((e_ hc).trans (di rfl))
 by_cases h1:x.length<1
 .exact no (by simp[nameB];omega) (Fj (Zh ln rfl (by rw[lM,decide_eq_true (by omega)])))
 have c1:=o5 (g:=eN (e2 cC (aB a_ (Zb (Za 0) (Zf))) (qI)) (e2 lO (Za 0) (uh))) (Zh (op:=dF) (g:=eC (.int 1)) ln rfl (by rw[lM,decide_eq_false (by exactλz=>iN [_] [] 2 455352125585 T1 z h1)]));by_cases h2:8<x.length
 .exact no (by simp[nameB];omega) (c1.trans (Fj (Zh ln (g:=qI) (b:=.int 8) rfl (by rw[jf,decide_eq_true (by exact iN [_] [] 1 9353248119569 T1 h2)]))))
 have c2:=c1.trans (o5 (g:=e2 lO (Za 0) (uh)) (Zh (op:=cC) ln (g:=qI) (b:=.int 8) rfl (by rw[jf,decide_eq_false (by exactλz=>iN [_] [] 2 0x6081b510881b91 T1 z h2)])));have c3:e2 lO (Za 0) (uh) [Ya (.str x)] M= .ok (.bl (decide (x∈cU))) M:=Zh rfl (g:=uh) (b:=.tup (cU.map D.str)) rfl (in_words x M);by_cases h3:x∈cU
 .exact no (by simp[nameB,h3]) (c2.trans (c3.trans (by rw[decide_eq_true h3])))
 have hb:nameB x=x.all λc=>decide (c∈LET):=by unfold nameB;rw[decide_eq_true (show 1<=x.length by exact jJ h1),decide_eq_true (show x.length<=8 by exact jJ h2),decide_eq_false h3];rfl
 rw[hb];refine Rt.pure (G:=[.lst (x.map λc=>D.bl (decide (c∈LET)))]) (env:=[Ya (.str x)]) ?_ rfl;unfold KC;refine(Zi (cT (c2.trans (c3.trans (by rw[decide_eq_false h3]))))).trans ?_;have hi:(cW (Za 0)) [Ya (.str x)] M= .ok ⟨x.map (λc=>D.str [c]),Ym⟩ M:=by simp only[cW,Za,Hu,R3.bind,if_pos hz]
 have lc:=vL (h:=λc=>D.bl (decide (c∈LET))) (own:=1) (i:=1) (elt:=(e2 lO (Za 1) (wK))) hi (λn z=>nomatch z)
  (λc hc M'=>Zh (a:=.str [c]) (b:=.str LET) rfl rfl (in_str c LET M')) (Yj h (by decide))
 exact di (b8 lc (all_map (Zq _ _ _)))
theorem gC.b(h:gC x):nameB x=true:=by unfold nameB;rw[decide_eq_true h.pos,decide_eq_true h.le,decide_eq_false h.own,gU.mpr λc hc=>decide_eq_true (Zud (h.low c hc))];rfl
theorem gC.is(h:gC x)(M:Store):mW [.str x] M= .ok (.bl true) M:=by rw[ZjL (Yj h.le (by decide)),h.b]
theorem gC.nop(h:gC x):nZ x=false:=decide_eq_false λz=>h.own (by rcases z with rfl|rfl|rfl|rfl <;>decide)
theorem Zrb(h:nZ x=true):(x=[97,100,100]\/x=[115,117,98]\/x=[109,111,114,101]\/x=[99,101,108,108]):=of_decide_eq_true h
theorem Zut(x:List Nat)(M:Store):ug nY (.str x) M= .ok (.bl (nZ x)) M:=by
 show R3.ok (D.bl (dR x nY).isSome) M=_;rw[ZpX];by_cases h1:x=[97,100,100]
 .subst h1;rfl
 by_cases h2:x=[115,117,98]
 .subst h2;rfl
 by_cases h3:x=[109,111,114,101]
 .subst h3;rfl
 by_cases h4:x=mZ
 .subst h4;rfl
 have:nZ x=false:=decide_eq_false λz=>z.elim h1 λz=>z.elim h2 λz=>z.elim h3 h4;rw[if_neg h1,if_neg h2,if_neg h3,if_neg h4,this];rfl
theorem TV(x:List Nat)(M:Store):Bq [.str x] M= .ok (.bl (nZ x)) M:=(jC (M':=M) (env:=[Ya (.str x)]) (di (fM rfl (Zut x M)))).trans (ZjJ rfl)
noncomputable def gD:D->List Nat
 | .int i=>gM i|.str x=>x|_=>[]
inductive rN:D->Prop
 |int (i:Int) (h:i.natAbs<10^60):rN (.int i)
 |d7 (x:List Nat) (h:gC x):rN (.str x)
 |op (x:List Nat) (h:nZ x=true):rN (.str x)
noncomputable def Sm.fit:Sm->Prop
 | .num i=>i.natAbs<10^60|.d7 x=>gC x|.jh a=>a.fit|.two _ a b=>a.fit/\b.fit
theorem Gr:∀t:Sm,t.fit->t.good
 | .num _,_=>trivial|.d7 _,h=>h.nop|.jh a,h=>Gr a h|.two _ a b,h=>⟨Gr a h.1,Gr b h.2⟩
theorem ZuV(o:Nat):nZ (wz o)=true:=by
 match o with
 |0=>rfl|1=>rfl|_+2=>rfl
theorem Gs:∀(t:Sm),t.fit->∀w∈t.flat,rN w
 | .num i,h,w,hw=>by rw[Yz.mp hw];exact .int i h|.d7 x,h,w,hw=>by rw[Yz.mp hw];exact .d7 x h|.jh a,h,w,hw=>by
  rcases Yo.mp hw with hw|hw
  .rw[hw];exact .op _ rfl
  .exact Gs a h w hw
 | .two o a b,h,w,hw=>by
  rcases Yo.mp hw with hw|hw
  .rw[hw];exact .op _ (ZuV o)
  .rcases fU.mp hw with hw|hw
   .exact Gs a h.1 w hw
   .exact Gs b h.2 w hw
theorem Zli{i:Int}(hc:c∈gM i):c<=57:=by
 cases i with
 |ofNat n=>rw[show gM (Int.ofNat n)=cF n from K8 n]at hc;exact(wu n c hc).2|negSucc n=>
  rw[K9]at hc;rcases Yo.mp hc with h|h
  .exact lA 1 0x392b002d2b021 T1 h
  .exact(wu _ c h).2
theorem Znz(i:Int):∃c r,gM i=c::r:=by
 cases i with
 |ofNat n=>
  rw[show gM (Int.ofNat n)=cF n from K8 n];cases e:cF n with
  |nil=>exact absurd e (Gm n)|cons c r=>exact⟨c,r,rfl⟩
 |negSucc n=>exact⟨_,_,K9 n⟩
theorem Zqj(i:Int):nZ (gM i)=false:=by obtain⟨c,r,e⟩:=Znz i;have hc:c<=57:=Zli (i:=i) (by rw[e];exact Yd);refine decide_eq_false λz=>?_;rw[e]at z;rcases z with z|z|z|z<;>(have:=(iV z).1;omega)
theorem ZqT(i:Int):nameB (gM i)=false:=by
 obtain⟨c,r,e⟩:=Znz i;have hc:c<=57:=Zli (i:=i) (by rw[e];exact Yd);have:decide (c∈LET)=false:=decide_eq_false λz=>by simp only[Yo,pM,or_false]at z;omega
 unfold nameB;rw[e,jG,this,O6,xu,xu,xu]
theorem TX(h:nZ x=true):1<=x.length/\x.length<=60/\∀c∈x,97<=c:=by rcases Zrb h with rfl|rfl|rfl|rfl <;>decide
theorem ZuI(h:rN w)(hv:∀M,Za 3 env M= .ok (.str (gD w)) M):
  eN (aN Bq (Zb (Za 3) (Zf))) (eN (aN mW (Zb (Za 3) (Zf))) (aN qx (Zb (Za 3) (Zf)))) env M= .ok (.bl true) M:=by
 cases h with
 |int i hi=>rw[o5 ((d_ (hv M) (TV _ M)).trans (by rw[show gD (.int i)=gM i from rfl,Zqj])),o5 ((d_ (hv M) (ZjL (x:=gM i) (Yj (Znl hi) (by decide)) M)).trans (by rw[ZqT]))];exact d_ (hv M) (ZlT hi M)|d7 x hx=>rw[o5 ((d_ (hv M) (TV _ M)).trans (by rw[show gD (.str x)=x from rfl,hx.nop]))];exact Fj (d_ (hv M) (hx.is M))|op x hx=>exact Fj ((d_ (hv M) (TV _ M)).trans (by rw[show gD (.str x)=x from rfl,hx]))
theorem ZtU(h:rN w)(hv:∀M,Za 3 env M= .ok (.str (gD w)) M):
  j5 (aN qx (Zb (Za 3) (Zf))) (aB tZ (Zb (Za 3) (Zf))) (Za 3) env M= .ok w M:=by
 cases h with
 |int i hi=>rw[Fl (d_ (hv M) (ZlT hi M))];have r:=Tu i hi;refine b8 (hv M) ?_;show tZ [.str (gM i)] M=_;simp only[tZ,r.1];exact if_pos (Yj r.2.1 (by decide))|d7 x hx=>rw[Fo (d_ (hv M) (Zlr hx.pos (Yj hx.le (by decide)) (λc hc=>(hx.low c hc).1) M))];exact hv M|op x hx=>have q:=TX hx;rw[Fo (d_ (hv M) (Zlr q.1 q.2.1 q.2.2 M))];exact hv M
structure Zqt(ts:List Sm):Prop where
 fit:∀t∈ts,t.fit
 len:(ts.map Sm.flat).flatten.length<=60
 dep:v7 0 (n8 0 ts)<=6
noncomputable abbrev bU(ts:List Sm):List D:=(ts.map Sm.flat).flatten
variable{ts:List Sm}
theorem Zj0(h:∀t∈ts,t.fit):∀w∈bU ts,rN w:=λw hw=>by obtain⟨l,h1,h2⟩:=WQ.mp hw;obtain⟨t,ht,rfl⟩:=gJ.mp h1;exact Gs t (h t ht) w h2
theorem TY{t:Sm}(h:t∈ts):t.flat.length<=(bU ts).length:=by
 induction ts with
 |nil=>cases h|cons a ts ih=>
  rw[bU,Yu,oM,Ye];rcases Yo.mp h with e|e
  .rw[e];exact jc _ _
  .have:=ih e;rw[bU]at this;exact lC 1 5033168897 T1 this
theorem La(ts:List Sm):ts.length<=(bU ts).length:=by
 induction ts with
 |nil=>exact Ys _|cons t l ih=>rw[bU,Yu,oM,Ye,Yp];obtain⟨w,r,e⟩:=Tz t;rw[e,Yp];rw[bU]at ih;exact lC 1 460474730680321 T1 ih
theorem ZkZ(H:Zqt ts)(hn:M[n]?=Ya (.lst ((bU ts).map λw=>D.str (gD w)))):∃G k,KH [.ref n] M= .ok (.ref (M.length+k)) (M++G)/\G[k]?=Ya (.lst (ts.map λt=>.tup t.flat)):=by
 have hfit:=Zj0 H.fit;have hz:(bU ts).length<=100000:=Yj H.len (by decide)
 let M1:=M++[MO.lst ((bU ts).map λ_=>D.bl true)]
 let M2:=M1++[MO.lst ((bU ts).map λw=>w)]
 have hn1:M1[n]?=Ya (.lst ((bU ts).map λw=>D.str (gD w))):=bQ hn _;have hi:∀{S:Store} (_:S[n]?=Ya (.lst ((bU ts).map λw=>D.str (gD w)))),(cW (Za 0)) [Ya (.ref n),Ym,Ym] S= .ok ⟨(bU ts).map (λw=>D.str (gD w)),Ya n⟩ S:=λh=>by show(R3.ok (D.ref n) _).bind _=_;simp only[R3.bind];rw[h]
 have l1:=vL (h:=λ_=>D.bl true) (own:=1) (i:=3) (elt:=eN (aN Bq (Zb (Za 3) (Zf))) (eN (aN mW (Zb (Za 3) (Zf))) (aN qx (Zb (Za 3) (Zf))))) (hi hn) (λm e=>by cases e;exact hn)
  (λw hw M'=>ZuI (hfit w hw) λ_=>rfl) hz
 have l2:=vL (h:=λw=>w) (own:=1) (i:=3) (elt:=j5 (aN qx (Zb (Za 3) (Zf))) (aB tZ (Zb (Za 3) (Zf))) (Za 3)) (hi hn1) (λm e=>by cases e;exact hn1)
  (λw hw M'=>ZtU (hfit w hw) λ_=>rfl) hz
 have pF:M2[M1.length]?=Ya (.lst (bU ts)):=(Zq M1 (MO.lst ((bU ts).map λw=>w)) []).trans (by rw[List.map_id']);obtain⟨G,k,h1,h2⟩:=ZlQ M2 ts (λt ht=>Gr t (H.fit t ht)) (Yj H.len (by decide)) pF;have h3:(M2++G)[M2.length+k]?=Ya (.lst (ts.map λt=>.tup t.flat)):=by rw[rD];exact h2
 have lk:jt [(M2.length+k,ts.map λt=>D.tup t.flat)] (M2++G)=true:=by simp only[jt,jG,N5,Iw];exact decide_eq_true h3
 have hfew:=La ts;have Vz:(bU ts).length<=60:=H.len;have lp:=TQ (F:=Ge) lk (i:=3) (j:=4) (λe=>∃a b c d f,e=[a,b,c,d,f]) (λenv ⟨a,b,c,d,f,e⟩ x y=>by subst e;exact⟨⟨_,_,_,_,_,rfl⟩,λM=>⟨rfl,rfl⟩⟩) ts 0 [] [Ya (.ref n),Ya (.ref (M2.length+k)),Ym,Ym,Ym] ⟨_,_,_,_,_,rfl⟩ (λt ht M=>ZqN (Gr t (H.fit t ht)) (by have:=TY ht;exact lB 2 0x3d2b003c2b1011001 T1 this Vz) M) (by simp;exact lB 2 0x3e83b1001013c2b001 T1 Vz hfew);rw[jF]at lp;refine⟨[MO.lst ((bU ts).map λ_=>D.bl true),MO.lst ((bU ts).map λw=>w)]++G++[.lst ((n8 0 ts).map D.int)],2+k,?_,?_⟩
 .have hlen:M2.length=M.length+2:=by simp[M2,M1]
  refine(jC (M':=M2++G++[.lst ((n8 0 ts).map D.int)]) (d:=.ref (M2.length+k)) (env:=[Ya (.ref n),Ym,Ym]) ?_).trans ?_
  .unfold Sy;have t1:=all_map (p:=λ_=>true) (l:=bU ts) (Zq M (MO.lst ((bU ts).map λ_=>D.bl true)) []);rw[show((bU ts).all λ_=>true)=true from gU.mpr λ_ _=>rfl]at t1;refine(Zi (cT (M':=M1) (fM (b8 l1 t1) rfl))).trans ?_;refine(Zi (Zo (d:=.ref (M2.length+k)) (M':=M2++G) (d_ l2 h1))).trans ?_;refine(Zi (cT (M':=M2++G) (Zh rfl rfl rfl))).trans ?_;refine(Zi (Zo (d:=.ref (M2++G).length) (M':=M2++G++[.lst ((n8 0 ts).map D.int)]) ?_)).trans ?_
   .show(R3.bind (R3.bind (R3.ok (D.ref (M2.length+k)) (M2++G)) _) _)=_;simp only[R3.bind,h3];exact lp
   .refine di ((Fl (M1:=M2++G++[.lst ((n8 0 ts).map D.int)]) (Zh (b8 rfl (Zma (Zq (M2++G) _ []))) (g:=wI) (b:=.int 6) rfl (JW H.dep))).trans rfl)
  .have hb:below M.length (.ref (M2.length+k))=false:=by show decide (M2.length+k<M.length)=false;rw[hlen];exact decide_eq_false (λz=>lB 1 6601929968657 T1 z)
   rw[dX,hb,hlen,pQ];simp[M2,M1]
 .rw[jl,kZ 2 k];show(G++[MO.lst ((n8 0 ts).map D.int)])[k]?=_;exact bQ h2 _
noncomputable abbrev ut:List Nat:=[115,101,116]
noncomputable abbrev CK:List Nat:=[112,117,116]
noncomputable abbrev Gu:List Nat:=[116,101,108,108]
noncomputable abbrev gP:List Nat:=[119,104,101,110]
noncomputable abbrev qz:List Nat:=[119,104,105,108,101]
noncomputable abbrev gj:List Nat:=[101,108,115,101]
noncomputable abbrev gQ:List Nat:=[101,110,100]
structure Rw where
 h:List Nat
 xs:List (List Nat)
 ts:List Sm
noncomputable def Rw.words(r:Rw):List (List Nat):=r.h::(r.xs++(bU r.ts).map gD)
noncomputable def Rw.deed(r:Rw):List D:=.str r.h::(r.xs.map D.str++r.ts.map λt=>D.tup t.flat)
structure fC(r:Rw):Prop where
 sm:dR r.h kE=Ya (r.ts.length:Int)
 nx:r.xs.length=if r.h=ut then 1 else 0
 nm:∀x∈r.xs,gC x
 ok:Zqt r.ts
 le:r.xs.length+(bU r.ts).length<=59
theorem Gv{o:E3}{lo hi:xX}{a b:Option Int}(ho:o env M= .ok (.ref n) M)(hl:lo env M= .ok a M)(hh:hi env M= .ok b M)(h:M[n]?=Ya (.lst ds)):eO o lo hi env M= .ok (.ref M.length) (M++[.lst (cutD ds a b)]):=by simp only[eO,ho,hl,hh,R3.bind,Ah,h];rfl
theorem ZrJ(a:α)(x y:List α):cutD (a::(x++y)) (Ya ((1:Nat):Int)) (Ya ((1+x.length:Nat):Int))=x:=by unfold cutD;rw[Et,Et,DK (show 1+x.length<=(a::(x++y)).length by simp only[Yp,Ye];exact lB 0 43231480512 T1),DK (show 1<=(a::(x++y)).length by simp),Nat.add_sub_cancel_left];simp
variable{m:Nat}
theorem Lb{x y:List D}(h1:M[n]?=Ya (.lst x))(h2:M[m]?=Ya (.lst y))(hz:x.length+y.length<=900000):aR (.ref n) (.ref m) M= .ok (.ref M.length) (M++[.lst (x++y)]):=by rw[Zra,h1,h2];exact if_pos (Yj hz (by decide))
theorem ZnN{n:Nat}:∀{l:List D},(∀w∈l,qy w)->bT n l=true
 |[],_=>rfl|w::l,h=>by
  have h1:below n w=true:=by cases h w Yd<;>rfl
  show(below n w&&bT n l)=true;rw[h1,ZnN λx hx=>h x (Yc _ hx)];rfl
theorem ZiS{n:Nat}:∀{x y:List D},bT n x=true->bT n y=true->bT n (x++y)=true
 |[],_,_,h=>h|a::x,y,h,k=>by have h:(below n a&&bT n x)=true:=h;rw[Y5]at h;show(below n a&&bT n (x++y))=true;rw[h.1,ZiS h.2 k];rfl
theorem Zh6{n:Nat}:∀ts:List Sm,bT n (ts.map λt=>D.tup t.flat)=true
 |[]=>rfl|t::ts=>by show(bT n t.flat&&bT n (ts.map λt=>D.tup t.flat))=true;rw[ZnN (Cz t),Zh6 ts];rfl
theorem Ld{n:Nat}:∀xs:List (List Nat),bT n (xs.map D.str)=true
 |[]=>rfl|_::xs=>Ld xs
theorem Rw.below{n:Nat}(r:Rw):below n (.tup r.deed)=true:=by show bT n (.str r.h::(r.xs.map D.str++r.ts.map λt=>D.tup t.flat))=true;show bT n (r.xs.map D.str++r.ts.map λt=>D.tup t.flat)=true;exact ZiS (Ld _) (Zh6 _)
variable{r:Rw}
theorem ZkX(H:fC r)(hn:M[n]?=Ya (.lst (r.words.map D.str))):Gf [.ref n] M= .ok (.tup r.deed) M:=by
 have hlen:r.words.length=1+r.xs.length+(bU r.ts).length:=by simp only[Rw.words,Yp,Ye,Yv];exact Y4 (lB 0 1145894407360 T1) (lB 0 0xa10cc10acc0 T1)
 have hle:=H.le;have e0:∀{S:Store} {a b:Option D},S[n]?=Ya (.lst (r.words.map D.str))->e2 Zn (Za 0) (eC (.int 0)) [Ya (.ref n),a,b] S= .ok (.str r.h) S:=λh=>Zh rfl rfl (iG h (fc _ 0))
 let B:Int:=((1+r.xs.length:Nat):Int)
 have hB:j5 (e2 aW (e2 Zn (Za 0) (eC (.int 0))) (eC (.str [115,101,116]))) (eC (.int 2)) (eC (.int 1)) [Ya (.ref n),Ym,Ym] M= .ok (.int B) M:=by
  by_cases h:r.h=ut
  .have e:B=2:=by show((1+r.xs.length:Nat):Int)=2;rw[H.nx,if_pos h];rfl
   rw[Fl (M1:=M) (Zh (e0 hn) rfl (by simp only[aW,xW,decide_eq_true h])),e];rfl
  .have e:B=1:=by show((1+r.xs.length:Nat):Int)=1;rw[H.nx,if_neg h];rfl
   rw[Fo (M1:=M) (Zh (e0 hn) rfl (by simp only[aW,xW,decide_eq_false h])),e];rfl
 let M1:=M++[MO.lst (r.xs.map D.str)]
 let M2:=M1++[MO.lst (r.xs.map λ_=>D.bl true)]
 let M3:=M2++[MO.lst ((bU r.ts).map λw=>D.str (gD w))]
 have hn2:M2[n]?=Ya (.lst (r.words.map D.str)):=bQ (bQ hn _) _;have ew:r.words.map D.str=D.str r.h::(r.xs.map D.str++(bU r.ts).map λw=>D.str (gD w)):=by show D.str r.h::(r.xs++(bU r.ts).map gD).map D.str=_;rw[jY,qO];rfl
 have hx:(r.xs.map D.str).length=r.xs.length:=Yv _;have c1:cutD (r.words.map D.str) (Ya ((1:Nat):Int)) (Ya B)=r.xs.map D.str:=by have:=ZrJ (D.str r.h) (r.xs.map D.str) ((bU r.ts).map λw=>D.str (gD w));rw[hx]at this;rw[ew];exact this
 have c2:cutD (r.words.map D.str) (Ya B) Ym=(bU r.ts).map λw=>D.str (gD w):=by rw[Cw,ew,kZ,List.drop_succ_cons,←hx,List.drop_left]
 have c3:cutD (r.words.map D.str) Ym (Ya B)=D.str r.h::r.xs.map D.str:=by rw[ZpV,ew,kZ,Wz,←hx,List.take_left]
 have s1:cW (eO (Za 0) (dO (eC (.int 1))) (dO (Za 1))) [Ya (.ref n),Ya (.int B),Ym] M= .ok ⟨r.xs.map D.str,Ya M.length⟩ M1:=by have:=Gv (env:=[Ya (.ref n),Ya (.int B),Ym]) (o:=Za 0) (lo:=dO (eC (.int 1))) (hi:=dO (Za 1)) (a:=Ya ((1:Nat):Int)) (b:=Ya B) rfl rfl rfl hn;rw[c1]at this;show(eO _ _ _ _ _).bind _=_;rw[this];simp only[R3.bind,Zq];rfl
 have l1:=vL (h:=λ_=>D.bl true) (own:=1) (i:=3) (elt:=aN mW (Zb (Za 3) (Zf))) s1 (λm e=>by cases e;exact Zq M _ [])
  (λx hx M'=>d_ rfl ((H.nm x hx).is M')) (lB 1 0x186a05b003b2b10c01 T1 hle)
 have t1:=all_map (p:=λ_=>true) (l:=r.xs) (Zq M1 (MO.lst (r.xs.map λ_=>D.bl true)) []);rw[show(r.xs.all λ_=>true)=true from gU.mpr λ_ _=>rfl]at t1;have s2:eO (Za 0) (dO (Za 1)) (fX) [Ya (.ref n),Ya (.int B),Ym] M2= .ok (.ref M2.length) M3:=by have:=Gv (env:=[Ya (.ref n),Ya (.int B),Ym]) (o:=Za 0) (lo:=dO (Za 1)) (hi:=fX) (a:=Ya B) (b:=Ym) rfl rfl rfl hn2;rw[c2]at this;exact this
 obtain⟨G,k,h1,h2⟩:=ZkZ H.ok (n:=M2.length) (M:=M3) (Zq M2 _ [])
 let M4:=M3++G
 have hk:M4[M3.length+k]?=Ya (.lst (r.ts.map λt=>.tup t.flat)):=by show(M3++G)[_]?=_;rw[rD];exact h2
 have hn4:M4[n]?=Ya (.lst (r.words.map D.str)):=bQ (bQ hn2 _) _
 let M5:=M4++[MO.lst (D.str r.h::r.xs.map D.str)]
 let M6:=M5++[MO.lst r.deed]
 have s3:eO (Za 0) (fX) (dO (Za 1)) [Ya (.ref n),Ya (.int B),Ya (.ref (M3.length+k))] M4= .ok (.ref M4.length) M5:=by have:=Gv (env:=[Ya (.ref n),Ya (.int B),Ya (.ref (M3.length+k))]) (o:=Za 0) (lo:=fX) (hi:=dO (Za 1)) (a:=Ym) (b:=Ya B) rfl rfl rfl hn4;rw[c3]at this;exact this
 have hfew:=La r.ts;have s4:e2 aR (eO (Za 0) (fX) (dO (Za 1))) (Za 2) [Ya (.ref n),Ya (.int B),Ya (.ref (M3.length+k))] M4= .ok (.ref M5.length) M6:=Zh s3 rfl (Lb (Zq M4 _ []) (bQ hk _) (by simp;exact lC 2 0xdbba05b0a2cc03b2b12c011001 T1 hfew hle));have hM6:M6=M++([MO.lst (r.xs.map D.str),MO.lst (r.xs.map λ_=>D.bl true),MO.lst ((bU r.ts).map λw=>D.str (gD w))]++G++[MO.lst (D.str r.h::r.xs.map D.str),MO.lst r.deed]):=by simp[M6,M5,M4,M3,M2,M1]
 refine Rt.pure (G:=[MO.lst (r.xs.map D.str),MO.lst (r.xs.map λ_=>D.bl true),MO.lst ((bU r.ts).map λw=>D.str (gD w))]++G++[MO.lst (D.str r.h::r.xs.map D.str),MO.lst r.deed]) (env:=[Ya (.ref n),Ym,Ym]) ?_ r.below;rw[←hM6];unfold SJ;have q1:e1 (Kv kE) (e2 Zn (Za 0) (eC (.int 0))) [Ya (.ref n),Ym,Ym] M= .ok (.bl false) M:=fM (e0 hn) (by show R3.ok (D.bl (!(dR r.h kE).isSome)) M=_;rw[H.sm];rfl);have q2:e2 cC (aB a_ (Zb (Za 0) (Zf))) (uF) [Ya (.ref n),Ym,Ym] M= .ok (.bl false) M:=Zh (b8 rfl (j7 hn)) (g:=uF) (b:=.int 60) rfl (by rw[jf,decide_eq_false (by rw[Yv,hlen];exactλz=>iN [_,_] [] 2 0x63b2b10c0110acc83c2b91 T1 z hle)]);refine(Zi (cT ((o5 q1).trans q2))).trans ?_;refine(Zi (Zo hB)).trans ?_;refine(Zi (cT (M':=M2) (fM (b8 l1 t1) rfl))).trans ?_;refine(Zi (Zo (d:=.ref (M3.length+k)) (M':=M4) (d_ s2 h1))).trans ?_;have q3:e2 gw (aB a_ (Zb (Za 2) (Zf))) (e1 (Gb kE) (e2 Zn (Za 0) (eC (.int 0)))) [Ya (.ref n),Ya (.int B),Ya (.ref (M3.length+k))] M4= .ok (.bl false) M4:=by
  refine Zh (M2:=M4) (b8 rfl (j7 hk)) (fM (M2:=M4) (e0 hn4) (d:=.int (r.ts.length:Int)) ?_) ?_
  .simp only[Gb,H.sm]
  .simp only[gw,xV,Yv,decide_eq_true (rfl:(r.ts.length:Int)=r.ts.length)];rfl
 refine(Zi (cT ((o5 (M1:=M4) (Zh rfl rfl rfl)).trans q3))).trans ?_;exact di (b8 s4 (o4 (Zq M5 _ [])))
noncomputable abbrev iK:List Nat:=[66,108,111,99,107]
noncomputable abbrev m9:List Nat:=[104,101,97,100]
noncomputable abbrev uv:List Nat:=[108,105,115,116,115]
structure Bk where
 r:Nat
 l:Nat
 h:List Nat
 hd:List D
 cl:List (Nat×List D)
 cn:Nat
 cur:List D
noncomputable def Bk.ads(k:Bk):List Nat:=k.r::k.l::k.cn::k.cl.map (·.1)
structure pG(S:Store)(k:Bk):Prop where
 hr:S[k.r]?=Ya (.ins iK [(m9,.tup (.str k.h::k.hd)),(uv,.ref k.l)])
 hl:S[k.l]?=Ya (.lst ((k.cl.map λp=>D.ref p.1)++[.ref k.cn]))
 hc:∀p∈k.cl,S[p.1]?=Ya (.lst p.2)
 hn:S[k.cn]?=Ya (.lst k.cur)
variable{S S':Store}
theorem pG.congr{k:Bk}(H:pG S k)(h:∀a∈k.ads,S'[a]?=S[a]?):pG S' k:=⟨by rw[h _ (by simp[Bk.ads])];exact H.hr,by rw[h _ (by simp[Bk.ads])];exact H.hl,λp hp=>by rw[h _ (by simp only[Bk.ads];exact Yc _ (Yc _ (Yc _ (pK hp))))];exact H.hc p hp,by rw[h _ (by simp[Bk.ads])];exact H.hn⟩
noncomputable abbrev gF(ks:List Bk):List Nat:=ks.flatMap Bk.ads
structure cH(S:Store)(b:Nat)(ks:List Bk):Prop where
 hb:S[b]?=Ya (.lst (ks.map λk=>D.ref k.r).reverse)
 hk:∀k∈ks,pG S k
 nb:b∉gF ks
 nd:(gF ks).Nodup
theorem pG.lt{k:Bk}(H:pG S k):∀a∈k.ads,a<S.length:=λa ha=>by
 have q:∀{i:Nat} {o:MO},S[i]?=Ya o->i<S.length:=λh=>(Yf.mp h).1;simp only[Bk.ads,Yo,gJ]at ha;rcases ha with rfl|rfl|rfl|⟨p,hp,rfl⟩
 .exact q H.hr
 .exact q H.hl
 .exact q H.hn
 .exact q (H.hc p hp)
variable{ks:List Bk}
theorem cH.lt{b:Nat}(H:cH S b ks):∀a∈gF ks,a<S.length:=λa ha=>by obtain⟨k,hk,h⟩:=uR.mp ha;exact(H.hk k hk).lt a h
theorem cH.yN{b:Nat}(H:cH S b ks):b<S.length:=(Yf.mp H.hb).1
theorem cH.frame{b:Nat}(H:cH S b ks)(h:∀a∈b::gF ks,S'[a]?=S[a]?):cH S' b ks:=⟨by rw[h b Yd];exact H.hb,λk hk=>(H.hk k hk).congr λa ha=>h a (Yc _ (uR.mpr ⟨k,hk,ha⟩)),H.nb,H.nd⟩
theorem cH.app{b:Nat}(H:cH S b ks)(G:Store):cH (S++G) b ks:=
 H.frame λa ha=>Yi (by
  rcases Yo.mp ha with e|e
  .rw[e];exact H.yN
  .exact H.lt a e)
theorem qC(k:Bk)(ks:List Bk):gF (k::ks)=k.ads++gF ks:=rfl
theorem cH.rest{b:Nat}{k:Bk}(H:cH S b (k::ks)):(∀j∈ks,pG S j)/\b∉k.ads/\b∉gF ks/\k.ads.Nodup/\(gF ks).Nodup/\∀a∈k.ads,a∉gF ks:=by have nb:=H.nb;have nd:=H.nd;rw[qC]at nb nd;rw[fU]at nb;obtain⟨n1,n2,n3⟩:=Hx.mp nd;exact⟨λj hj=>H.hk j (Yc _ hj),λz=>nb (.inl z),λz=>nb (.inr z),n1,n2,λa ha hb=>n3 a ha a hb rfl⟩
theorem cH.more{b:Nat}{k:Bk}(H:cH S b (k::ks))(d:D):cH (S.set k.cn (.lst (k.cur++[d]))) b ({k with cur:=k.cur++[d]}::ks):=by
 obtain⟨h1,h2,h3,h4,h5,h6⟩:=H.rest;have hk:=H.hk k Yd;have hcn:k.cn∈k.ads:=by simp[Bk.ads]
 have yO:k.r≠k.cn/\k.l≠k.cn/\k.cn∉k.cl.map (·.1):=by simp only[Bk.ads,iQ,Yo,not_or]at h4;exact⟨h4.1.2.1,h4.2.1.1,h4.2.2.1⟩
 have o:∀a,a≠k.cn->(S.set k.cn (.lst (k.cur++[d])))[a]?=S[a]?:=λa ha=>Yr (cP ha);refine⟨?_,?_,H.nb,H.nd⟩
 .rw[o b λe=>h2 (e▸hcn)];exact H.hb
 .intro j hj;rcases Yo.mp hj with e|e
  .rw[e];refine⟨by rw[o _ yO.1];exact hk.hr,by rw[o _ yO.2.1];exact hk.hl,λp hp=>by rw[o _ λe=>yO.2.2 (e▸pK hp)];exact hk.hc p hp,?_⟩;exact Y0 (Yf.mp hk.hn).1
  .exact(h1 j e).congr λa ha=>o a λz=>h6 k.cn hcn (uR.mpr ⟨j,e,z▸ha⟩)
theorem cH.els{b:Nat}{k:Bk}(H:cH S b (k::ks)):cH ((S++[MO.lst []]).set k.l (MO.lst ((k.cl.map λp=>D.ref p.1)++[D.ref k.cn]++[D.ref S.length]))) b ({k with cl:=k.cl++[(k.cn,k.cur)],cn:=S.length,cur:=[]}::ks):=by
 obtain⟨h1,h2,h3,h4,h5,h6⟩:=H.rest;have hk:=H.hk k Yd;have hl:k.l∈k.ads:=by simp[Bk.ads]
 have yO:k.r≠k.l/\k.cn≠k.l/\k.l∉k.cl.map (·.1):=by simp only[Bk.ads,iQ,Yo,not_or]at h4;exact⟨h4.1.1,cP h4.2.1.1,h4.2.1.2⟩
 have o:∀a,a≠k.l->a<S.length->((S++[MO.lst []]).set k.l (MO.lst ((k.cl.map λp=>D.ref p.1)++[D.ref k.cn]++[D.ref S.length])))[a]?=S[a]?:=λa ha hlt=>by rw[Yr (cP ha),Yi hlt]
 have hsz:∀a∈k.ads,a<S.length:=hk.lt;have hll:k.l<S.length:=hsz _ hl;have fresh:S.length∉gF (k::ks):=λz=>vo _ (H.lt _ z);have perm:(gF ({k with cl:=k.cl++[(k.cn,k.cur)],cn:=S.length,cur:=[]}::ks)).Perm (S.length::gF (k::ks)):=by rw[qC,qC];refine List.Perm.append_right (gF ks) (l₂:=S.length::k.ads) ?_;simp only[Bk.ads,jY,Yu,sG];have p1:(k.r::k.l::S.length::(k.cl.map (·.1)++[k.cn])).Perm (k.r::S.length::k.l::(k.cl.map (·.1)++[k.cn])):=List.Perm.cons _ (List.Perm.swap _ _ _);refine p1.trans ((List.Perm.swap _ _ _).trans (List.Perm.cons _ (List.Perm.cons _ (List.Perm.cons _ ?_))));exact List.perm_append_comm
 refine⟨?_,?_,?_,?_⟩
 .rw[o b (λe=>h2 (e▸hl)) H.yN];exact H.hb
 .intro j hj;rcases Yo.mp hj with e|e
  .rw[e];refine⟨by rw[o _ yO.1 (hsz _ (by simp[Bk.ads]))];exact hk.hr,?_,?_,?_⟩
   .rw[Y0 (by rw[Ye];exact DG _ hll)];simp
   .intro p hp;rcases fU.mp hp with q|q
    .rw[o _ (λe=>yO.2.2 (e▸pK q)) (hsz _ (by simp only[Bk.ads];exact Yc _ (Yc _ (Yc _ (pK q)))))];exact hk.hc p q
    .rw[Yz.mp q,o _ yO.2.1 (hsz _ (by simp[Bk.ads]))];exact hk.hn
   .show _[S.length]?=_;rw[Yr (by exactλz=>lB 2 26039357489 T1 z hll)];exact Zq _ _ _
  .exact(h1 j e).congr λa ha=>o a (λz=>h6 k.l hl (uR.mpr ⟨j,e,z▸ha⟩)) (H.lt a (uR.mpr ⟨j,Yc _ e,ha⟩))
 .intro z;rcases Yo.mp (perm.mem_iff.mp z)with e|e
  .have:=H.yN;exact lB 2 26041454609 T1 this e
  .exact H.nb e
 .exact perm.nodup_iff.mpr (iQ.mpr ⟨fresh,H.nd⟩)
noncomputable abbrev Le(n:Nat)(h:List Nat)(hd:List D):Bk:=⟨n,n+2,h,hd,[],n+1,[]⟩
noncomputable abbrev nObj(n:Nat)(h:List Nat)(hd:List D):Store:=[.ins iK [(m9,.tup (.str h::hd)),(uv,.ref (n+2))],.lst [],.lst [.ref (n+1)]]
theorem cH.push{b:Nat}(H:cH S b ks)(h:List Nat)(hd:List D):cH ((S++nObj S.length h hd).set b (.lst ((ks.map λk=>D.ref k.r).reverse++[.ref S.length]))) b (Le S.length h hd::ks):=by
 have hb:=H.yN;have o:∀a,a≠b->a<S.length->((S++nObj S.length h hd).set b (.lst ((ks.map λk=>D.ref k.r).reverse++[.ref S.length])))[a]?=S[a]?:=λa ha hlt=>by rw[Yr (cP ha),Yi hlt]
 have n:∀j,((S++nObj S.length h hd).set b (.lst ((ks.map λk=>D.ref k.r).reverse++[.ref S.length])))[S.length+j]?=(nObj S.length h hd)[j]?:=λj=>by rw[Yr (by exactλz=>lC 2 6666076667953 T1 z hb),rD]
 refine⟨?_,?_,?_,?_⟩
 .rw[Y0 (by rw[Ye];exact DG _ hb)];simp
 .intro j hj;rcases Yo.mp hj with e|e
  .rw[e];exact⟨(n 0).trans rfl,(n 2).trans rfl,(λp hp=>nomatch hp),(n 1).trans rfl⟩
  .exact(H.hk j e).congr λa ha=>o a (λz=>H.nb (uR.mpr ⟨j,e,z▸ha⟩)) (H.lt a (uR.mpr ⟨j,e,ha⟩))
 .rw[qC];intro z;rcases fU.mp z with z|z
  .simp[Bk.ads]at z;omega
  .exact H.nb z
 .rw[qC];refine Hx.mpr ⟨by simp[Bk.ads],H.nd,λa ha c hc e=>?_⟩;have:=H.lt c hc;simp[Bk.ads]at ha;omega
theorem cH.pop{b:Nat}{k:Bk}(H:cH S b (k::ks)):cH (S.set b (.lst (ks.map λk=>D.ref k.r).reverse)) b ks:=by obtain⟨h1,h2,h3,h4,h5,h6⟩:=H.rest;exact⟨Y0 H.yN,λj hj=>(h1 j hj).congr λa ha=>Yr λ(e:b=a)=>h3 (uR.mpr ⟨j,hj,by rw[e];exact ha⟩),h3,h5⟩
theorem Lf{d:D}(hv:Za i env M= .ok (.ref n) M)(h:M[n]?=Ya (.lst (xs++[d]))):aH bf oZ (Za i) (Zf) env M= .ok d (M.set n (.lst xs)):=by simp only[aH,hv,R3.bind,Aq,h,Zf,if_true];rw[Q8,h];simp
theorem Zqw{c f:List Nat}{fs:List (List Nat×D)}{d:D}(h:M[n]?=Ya (.ins c fs))(hf:fs.lookup f=Ya d):jw c f (.ref n) M= .ok d M:=by rw[Zl8,h];simp only[if_true,hf]
theorem pG.head{k:Bk}(H:pG S k):jw iK m9 (.ref k.r) S= .ok (.tup (.str k.h::k.hd)) S:=Zqw H.hr rfl
theorem pG.lists{k:Bk}(H:pG S k):jw iK uv (.ref k.r) S= .ok (.ref k.l) S:=Zqw H.hr rfl
theorem cH.last{b:Nat}{k:Bk}(H:cH S b (k::ks))(hv:Za i env S= .ok (.ref b) S):e2 Zn (Za i) (e1 cu (eC (.int 1))) env S= .ok (.ref k.r) S:=by refine Zh hv (fM rfl (xU 1)) (iG H.hb ?_);rw[Yu,uP];exact getD_last _ _
noncomputable def wA(h:List Nat):Int:=(dR h nW).getD 0
noncomputable def Bk.full(k:Bk):Bool:=decide (wA k.h=((k.cl.length+1:Nat):Int))
noncomputable def n_(w:List Nat):Bool:=(dR w nW).isSome
noncomputable def T4(k:Bk)(n:Nat)(w:List Nat):Bool:=if n_ w then decide (n<=12)else if w=gj then decide (k.h=gP)&&!k.full else if w=gQ then k.full else true
theorem iM{a b:List Nat}:aW (.str a) (.str b) M= .ok (.bl (decide (a=b))) M:=by simp only[aW,xW]
theorem Zkq{b:Nat}{k:Bk}(H:cH S b (k::ks))(w:List Nat):Br [.ref b,.str w] S= .ok (.bl (T4 k (ks.length+1) w)) S:=by
 have hk:=H.hk k Yd;refine(jC (M':=S) (env:=[Ya (.ref b),Ya (.str w),Ym,Ym]) ?_).trans (ZjJ rfl);unfold SM;refine(Zi (Zo (H.last rfl))).trans ?_;have h0:∀{a:Option D},e2 Zn (e1 (jw iK m9) (Za 2)) (eC (.int 0)) [Ya (.ref b),Ya (.str w),Ya (.ref k.r),a] S= .ok (.str k.h) S:=Zh (fM rfl hk.head) rfl (yc (fc _ 0));have Abh:e2 aW (e2 (t7 nW) (e2 Zn (e1 (jw iK m9) (Za 2)) (eC (.int 0))) (eC (.int 0))) (aB a_ (Zb (e1 (jw iK uv) (Za 2)) (Zf))) [Ya (.ref b),Ya (.str w),Ya (.ref k.r),Ym] S= .ok (.bl k.full) S:=by
  refine Zh (Zh h0 rfl (d:=.int (wA k.h)) (M3:=S) ?_) (b8 (fM rfl hk.lists) (j7 hk.hl)) ?_
  .show(match dR k.h nW with|some i=>R3.ok (D.int i) S|none=>R3.ok (D.int 0) S)=_
   unfold wA;cases dR k.h nW<;>rfl
  .simp only[aW,xV,Ye,Yv,jb];rfl
 refine(Zi (Zo Abh)).trans ?_;have hin:e1 (ug nW) (Za 1) [Ya (.ref b),Ya (.str w),Ya (.ref k.r),Ya (.bl k.full)] S= .ok (.bl (n_ w)) S:=fM rfl rfl;unfold T4;by_cases h1:n_ w=true
 .rw[if_pos h1];rw[h1]at hin;refine rC ((e_ hin).trans (di (Zh (b8 rfl (j7 H.hb)) (g:=wH) (b:=.int 12) rfl ?_)));rw[Q0];congr 3;simp only[Dm,Yv,Yp];exact propext ⟨λz=>iN [_] [] 1 0xc1ba0c0c1ba0c881 T1 z,λz=>iN [_] [] 1 0xc1ba0c88c1ba0c01 T1 z⟩
 rw[if_neg h1];rw[Xq]at h1;rw[h1]at hin;refine(Zi (cT hin)).trans ?_;by_cases h2:w=gj
 .rw[if_pos h2];refine rC ((e_ (M':=S) (Zh rfl rfl (iM.trans (by rw[decide_eq_true h2])))).trans (di ?_));by_cases h3:k.h=gP
  .rw[iH (M1:=S) (Zh h0 rfl (iM.trans (by rw[decide_eq_true h3]))),decide_eq_true h3];rfl
  .rw[lV (M1:=S) (Zh h0 rfl (iM.trans (by rw[decide_eq_false h3]))),decide_eq_false h3];rfl
 rw[if_neg h2];refine(Zi (cT (M':=S) (Zh rfl rfl (iM.trans (by rw[decide_eq_false h2]))))).trans ?_;by_cases h3:w=gQ
 .rw[if_pos h3];exact rC ((e_ (M':=S) (Zh rfl rfl (iM.trans (by rw[decide_eq_true h3])))).trans (di rfl))
 .rw[if_neg h3];exact(Zi (cT (M':=S) (Zh rfl rfl (iM.trans (by rw[decide_eq_false h3]))))).trans (di rfl)
variable{j:Nat}
theorem T5{d:D}{o:MO}(hj:j<M.length)(ho:M'[j]?=Ya o)(hb:vJ M.length o=false)(hne:M[j]?≠Ya o):dX M d M'= .ok d M':=by
 have ht:(M'.take M.length)[j]?=Ya o:=by rw[wQ hj];exact ho
 have h1:decide (M'.take M.length=M)=false:=decide_eq_false λe=>hne (by rw[e]at ht;exact ht);have h2:(M'.take M.length).all (vJ M.length)=false:=by rw[Bool.eq_false_iff];intro z;have:=gU.mp z o (wR ht);rw[hb]at this;cases this
 unfold dX;rw[h1,h2];simp
theorem ZlC{d:D}(hl:M.length<=M'.length):∃S,dX M d M'= .ok d S/\M.length<=S.length/\∀a,a<M.length->S[a]?=M'[a]?:=by
 unfold dX;split
 .exact⟨_,rfl,by rw[zq];omega,λa ha=>wQ ha⟩
 .exact⟨_,rfl,hl,λa _=>rfl⟩
structure pH(S S':Store)(b:Nat)(ks:List Bk):Prop where
 len:S.length<=S'.length
 old:∀a,a<S.length->a∉b::gF ks->S'[a]?=S[a]?
theorem Lg{n m:Nat}(h:n<=m):∀{l:List D},D.ref m∈l->bT n l=false
 |d::l,hm=>by
  show(below n d&&bT n l)=false;rcases Yo.mp hm with e|e
  .rw[←e,show below n (.ref m)=decide (m<n)from rfl,decide_eq_false (by exactλz=>lB 2 25786650641 T1 z h)];rfl
  .rw[Lg h e,xu]
variable{h:List Nat}
theorem ZnI{e:E3}{hd:List D}(he:e env S= .ok (.tup (.str h::hd)) S):Ay iK yF (Zb e (Zf)) env S= .ok (.ref S.length) (S++nObj S.length h hd):=by
 have hg:(Zb e Zf) env S= .ok [.tup (.str h::hd)] S:=Zx he rfl;have hF:yF [.ref S.length,.tup (.str h::hd)] (S++[.ins iK []])= .ok .non (S++nObj S.length h hd):=by
  have s1:Ft iK m9 (Za 0) (Za 1) [Ya (.ref S.length),Ya (.tup (.str h::hd))] (S++[.ins iK []])= .nx [Ya (.ref S.length),Ya (.tup (.str h::hd))] (S++[.ins iK [(m9,.tup (.str h::hd))]]):=by refine qe (d:=.non) (Zh rfl rfl ?_);rw[Rg,Zq];simp[vO]
  have s2:Ft iK uv (Za 0) (bh (Zb (bh (Zf)) (Zf))) [Ya (.ref S.length),Ya (.tup (.str h::hd))] (S++[.ins iK [(m9,.tup (.str h::hd))]])= .nx [Ya (.ref S.length),Ya (.tup (.str h::hd))] (S++nObj S.length h hd):=by
   have l1:bh (Zb (bh (Zf)) (Zf)) [Ya (.ref S.length),Ya (.tup (.str h::hd))] (S++[.ins iK [(m9,.tup (.str h::hd))]])= .ok (.ref (S.length+2)) (S++[.ins iK [(m9,.tup (.str h::hd))],.lst [],.lst [.ref (S.length+1)]]):=by
    refine(cY (M':=S++[.ins iK [(m9,.tup (.str h::hd))],.lst []]) (ds:=[.ref (S.length+1)]) (Zx ((cY rfl rfl).trans ?_) rfl) rfl).trans ?_
    .simp
    .simp
   refine qe (d:=.non) (Zh l1 rfl ?_);rw[Rg,Zq];have:=JV S [MO.ins iK [(m9,.tup (.str h::hd))],.lst [],.lst [.ref (S.length+1)]] 0 (.ins iK [(m9,.tup (.str h::hd)),(uv,.ref (S.length+2))]);rw[Ip]at this;simp[vO,this]
  refine(Fg (M':=S++nObj S.length h hd) (env:=[Ya (.ref S.length),Ya (.tup (.str h::hd))]) ((Zi s1).trans s2)).trans ?_;refine T5 (j:=S.length) (o:=.ins iK [(m9,.tup (.str h::hd)),(uv,.ref (S.length+2))]) (by simp) (Zq _ _ _) ?_ ?_
  .show bT _ [.tup (.str h::hd),.ref (S.length+2)]=false;exact Lg (m:=S.length+2) (by simp) (by simp)
  .rw[Zq];simp
 simp only[Ay,hg,R3.bind,hF]
section
variable {S:Store} {b:Nat} {k:Bk} {ks:List Bk} {w:List Nat} {d:List D}
theorem uw{v:Option D}{x:Option D}:e2 Zn (Za 1) (eC (.int 0)) [Ya (.ref b),Ya (.tup (.str w::d)),v,x] S= .ok (.str w) S:=Zh rfl rfl (yc (fc _ 0))
theorem pH.AbB{o:MO}(h:n∈b::gF ks):pH S (S.set n o) b ks:=⟨by rw[sE];exact Ys _,λa _ ha=>Yr λ(e:n=a)=>ha (e▸h)⟩
theorem pH.setG{o:MO}{G:Store}(h:n∈b::gF ks):pH S ((S++G).set n o) b ks:=⟨by rw[sE,Ye];exact jc _ _,λa hl ha=>by rw[Yr λ(e:n=a)=>ha (e▸h),Yi hl]⟩
theorem Zwp:k.cn∈b::gF (k::ks):=Yc _ (uO _ (by simp[Bk.ads]))
theorem Zxr:k.l∈b::gF (k::ks):=Yc _ (uO _ (by simp[Bk.ads]))
theorem Zk9(H:cH S b (k::ks))(h1:n_ w=false)(h2:w≠gj)(h3:w≠gQ)(hz:k.cur.length<1000):
  ∃S',ul [.ref b,.tup (.str w::d)] S= .ok .non S'/\cH S' b ({k with cur:=k.cur++[.tup (.str w::d)]}::ks)/\pH S S' b (k::ks):=by
 have hk:=H.hk k Yd;refine⟨_,(Fg (M':=S.set k.cn (.lst (k.cur++[.tup (.str w::d)]))) (env:=[Ya (.ref b),Ya (.tup (.str w::d)),Ym,Ym]) (env':=[Ya (.ref b),Ya (.tup (.str w::d)),Ya (.ref k.r),Ym]) ?_).trans (ZpT (sE ..)),H.more _,pH.AbB Zwp⟩;unfold yG;refine(Zi (Zo (H.last rfl))).trans ?_;refine(nJ (M':=S) (fM uw (by show R3.ok (D.bl (n_ w)) S=_;rw[h1]))).trans ?_;refine(nJ (M':=S) (Zh uw rfl (iM.trans (by rw[decide_eq_false h2])))).trans ?_;refine(nJ (M':=S) (Zh uw rfl (iM.trans (by rw[decide_eq_false h3])))).trans ?_;exact m5 (M':=S) (Zh (fM rfl hk.lists) (fM rfl (xU 1)) (iG hk.hl (getD_last _ _))) hk.hn rfl hk.hn (mK hz (by decide))
theorem ZoU(H:cH S b (k::ks))(h1:n_ w=true)(hz:ks.length<100):
  ∃S',ul [.ref b,.tup (.str w::d)] S= .ok .non S'/\cH S' b (Le S.length w d::k::ks)/\pH S S' b (k::ks):=by
 have hlt:=H.yN;refine⟨_,(Fg (M':=(S++nObj S.length w d).set b (.lst (((k::ks).map λk=>D.ref k.r).reverse++[.ref S.length]))) (env:=[Ya (.ref b),Ya (.tup (.str w::d)),Ym,Ym]) (env':=[Ya (.ref b),Ya (.tup (.str w::d)),Ya (.ref k.r),Ym]) ?_).trans (T5 (j:=b) hlt (Y0 (by rw[Ye];exact DG _ hlt)) (Lg (m:=S.length) (Ys _) (Y6 _ Yd)) ?_),H.push w d,pH.setG Yd⟩
 .unfold yG;refine(Zi (Zo (H.last rfl))).trans ?_;refine(e_ (M':=S) (fM uw (by show R3.ok (D.bl (n_ w)) S=_;rw[h1]))).trans ?_;exact m5 (M':=S) rfl H.hb (ZnI (h:=w) (hd:=d) rfl) (bQ H.hb _) (by simp only[Dm,Yv,Yp];exact mK (show ks.length+1<1000 by exact lA 1 0x3e83ba0c1642b011 T1 hz) (by decide))
 .rw[H.hb];intro e;have:=congrArg (λo:Option MO=>match o with|some (.lst x)=>x.length|_=>0) e;simp at this
theorem ZoA(H:cH S b (k::ks))(hz:k.cl.length<100):
  ∃S',ul [.ref b,.tup (.str gj::d)] S= .ok .non S'/\cH S' b ({k with cl:=k.cl++[(k.cn,k.cur)],cn:=S.length,cur:=[]}::ks)/\pH S S' b (k::ks):=by
 have hk:=H.hk k Yd;have hlt:k.l<S.length:=hk.lt _ (by simp[Bk.ads]);refine⟨_,(Fg (M':=(S++[MO.lst []]).set k.l (MO.lst ((k.cl.map λp=>D.ref p.1)++[D.ref k.cn]++[D.ref S.length]))) (env:=[Ya (.ref b),Ya (.tup (.str gj::d)),Ym,Ym]) (env':=[Ya (.ref b),Ya (.tup (.str gj::d)),Ya (.ref k.r),Ym]) ?_).trans (T5 (j:=k.l) hlt (Y0 (by rw[Ye];exact DG _ hlt)) (Lg (m:=S.length) (Ys _) (Y6 _ Yd)) ?_),H.els,pH.setG Zxr⟩
 .unfold yG;refine(Zi (Zo (H.last rfl))).trans ?_;refine(nJ (M':=S) (fM uw rfl)).trans ?_;refine(e_ (M':=S) (Zh uw rfl (iM.trans (by rw[decide_eq_true rfl])))).trans ?_;exact m5 (M':=S) (fM rfl hk.lists) hk.hl (cY rfl rfl) (bQ hk.hl _) (by simp only[Ye,Yv,jb];exact mK (show k.cl.length+1<1000 by exact lA 1 0x3e83ba0c1642b011 T1 hz) (by decide))
 .rw[hk.hl];intro e;have:=congrArg (λo:Option MO=>match o with|some (.lst x)=>x.length|_=>0) e;simp at this
noncomputable def Bk.whole(k:Bk):D:=.tup (.str k.h::k.hd++(k.cl++[(k.cn,k.cur)]).map λp=>D.tup p.2)
theorem Zpb{k2:Bk}(H:cH S b (k::k2::ks))(hz:k.cl.length<100)(hd:k.hd.length<100)(hc:k2.cur.length<1000):
  ∃S',ul [.ref b,.tup (.str gQ::d)] S= .ok .non S'/\cH S' b ({k2 with cur:=k2.cur++[k.whole]}::ks)/\pH S S' b (k::k2::ks):=by
 have hk:=H.hk k Yd
 let S1:=S.set b (.lst ((k2::ks).map λk=>D.ref k.r).reverse)
 have H1:cH S1 b (k2::ks):=H.pop;have hk1:pG S1 k:=hk.congr λa ha=>Yr λ(e:b=a)=>H.rest.2.1 (by rw[e];exact ha)
 let S2:=S1++[MO.lst ((k.cl++[(k.cn,k.cur)]).map λp=>D.tup p.2)]
 have H2:cH S2 b (k2::ks):=H1.app _;have hk2:=H2.hk k2 Yd
 let S3:=S2.set k2.cn (.lst (k2.cur++[k.whole]))
 have H3:cH S3 b ({k2 with cur:=k2.cur++[k.whole]}::ks):=H2.more _;have hl3:S.length<=S3.length:=by simp[S3,S2,S1]
 have lc:fL (cW (e1 (jw iK uv) (Za 2))) 1 (cj 4) [] (aB gB (Zb (Za 4) (Zf))) [Ya (.ref b),Ya (.tup (.str gQ::d)),Ya (.ref k.r),Ym] S1= .ok (.ref S1.length) S2:=by
  refine TF (enc:=λp:Nat×List D=>D.ref p.1) (h:=λp=>D.tup p.2) (as:=k.cl++[(k.cn,k.cur)]) (M1:=S1) (lock:=Ya k.l) (λe=>∃a1 a2 a3 a4 a5,e=[a1,a2,a3,a4,a5]) ?_ ?_ ⟨_,_,_,_,_,rfl⟩ ?_ (by simp;exact lA 1 0x1869f5b00642b011 T1 hz)
  .show(e1 (jw iK uv) (Za 2) _ _).bind _=_;rw[fM (d:=.ref k.l) rfl hk1.lists];simp only[R3.bind,hk1.hl,jY];rfl
  .intro n hn;cases hn;rw[jY];exact hk1.hl
  .intro p hp env ⟨a1,a2,a3,a4,a5,e⟩;subst e;refine⟨_,rfl,⟨_,_,_,_,_,rfl⟩,λx=>b8 rfl (o4 (bQ ?_ _))⟩;rcases fU.mp hp with q|q
   .exact hk1.hc p q
   .rw[Yz.mp q];exact hk1.hn
 have main:yG [Ya (.ref b),Ya (.tup (.str gQ::d)),Ym,Ym] S= .nx [Ya (.ref b),Ya (.tup (.str gQ::d)),Ya (.ref k.r),Ya k.whole] S3:=by
  unfold yG;refine(Zi (Zo (H.last rfl))).trans ?_;refine(nJ (M':=S) (fM uw rfl)).trans ?_;refine(nJ (M':=S) (Zh uw rfl (iM.trans (by rw[decide_eq_false (by decide)])))).trans ?_;refine(e_ (M':=S) (Zh uw rfl (iM.trans (by rw[decide_eq_true rfl])))).trans ?_;have hb:S[b]?=Ya (.lst (((k2::ks).map λk=>D.ref k.r).reverse++[D.ref k.r])):=by rw[H.hb,Yu,uP]
  refine(Zi (qe (Lf rfl hb))).trans ?_;refine(Zi (Zo (d:=k.whole) (M':=S2) (Zh (fM rfl hk1.head) (b8 lc (o4 (Zq S1 _ []))) ?_))).trans ?_
  .rw[Zlw];refine if_pos ?_;simp only[Yp,Yv,Ye,zu];exact Yj (show _<=1000 by exact lB 2 0x3e83baec1ca0cc0642b111642b011 T1 hd hz) (by decide)
  .exact m5 (M':=S2) (Zh (fM (H2.last rfl) hk2.lists) (fM rfl (xU 1)) (iG hk2.hl (getD_last _ _))) hk2.hn rfl hk2.hn (mK hc (by decide))
 obtain⟨S',e,l1,o1⟩:=ZlC (M:=S) (M':=S3) (d:=.non) hl3;have old:∀a,a<S.length->a∉b::gF (k::k2::ks)->S3[a]?=S[a]?:=λa hlt ha=>by have n1:k2.cn≠a:=λz=>ha (Yc _ (by rw[qC,qC,←z];exact Y6 _ (uO _ (by simp[Bk.ads]))));have n2:b≠a:=λz=>ha (by rw[z];exact Yd);show(S2.set k2.cn _)[a]?=_;rw[Yr n1];show(S1++_)[a]?=_;rw[Yi (by simp[S1];exact hlt)];exact Yr n2
 refine⟨S',(Fg main).trans e,H3.frame λa ha=>o1 a ?_,l1,λa hl ha=>(o1 a hl).trans (old a hl ha)⟩;rcases Yo.mp ha with z|z
 .rw[z];exact H.yN
 .refine H.lt a ?_;rw[qC];exact Y6 _ z
end
structure Pf where
 h:List Nat
 hd:List D
 cl:List (List D)
 cur:List D
noncomputable def Bk.pf(k:Bk):Pf:=⟨k.h,k.hd,k.cl.map (·.2),k.cur⟩
noncomputable def Pf.whole(k:Pf):D:=.tup (.str k.h::k.hd++(k.cl++[k.cur]).map D.tup)
theorem Zqz(k:Bk):k.whole=k.pf.whole:=by simp[Bk.whole,Pf.whole,Bk.pf]
noncomputable def Rw.tl(r:Rw):List D:=r.xs.map D.str++r.ts.map λt=>D.tup t.flat
theorem Lh(r:Rw):r.deed= .str r.h::r.tl:=rfl
noncomputable def stepK(r:Rw)(k:Pf)(fs:List Pf):Option (List Pf):=if n_ r.h=true then(if fs.length+1<=12 then Ya (⟨r.h,r.tl,[],[]⟩::k::fs)else Ym)
  else if r.h=gj then(if k.h=gP/\k.cl=[]then Ya (⟨k.h,k.hd,[k.cur],[]⟩::fs)else Ym)
  else if r.h=gQ then(match fs with
   |[]=>Ym|k2::fs=>if wA k.h=((k.cl.length+1:Nat):Int)/\k.hd.length<100/\k.cl.length<100/\k2.cur.length<1000 then Ya (⟨k2.h,k2.hd,k2.cl,k2.cur++[k.whole]⟩::fs)else Ym)
  else if k.cur.length<1000 then Ya (⟨k.h,k.hd,k.cl,k.cur++[.tup r.deed]⟩::fs)else Ym
noncomputable def jR(r:Rw):List Pf->Option (List Pf)
 |[]=>Ym|k::fs=>stepK r k fs
structure wB(M S:Store)(b:Nat)(ks:List Bk):Prop where
 bk:cH S b ks
 len:M.length<=S.length
 pre:∀a,a<M.length->S[a]?=M[a]?
 hi:∀a∈b::gF ks,M.length<=a
theorem wB.next{b:Nat}{ks':List Bk}(I:wB M S b ks)(h:cH S' b ks')(st:pH S S' b ks)(ha:∀a∈gF ks',a∈gF ks\/S.length<=a):wB M S' b ks':=
 ⟨h,Yj I.len st.len,λa hl=>(st.old a (Y7 hl I.len) λz=>by have:=I.hi a z;exact lB 2 25787699201 T1 this hl).trans (I.pre a hl),λa z=>by
  rcases Yo.mp z with e|e
  .exact I.hi a (by rw[e];exact Yd)
  .rcases ha a e with q|q
   .exact I.hi a (Yc _ q)
   .exact Yj I.len q⟩
theorem ZmP{b:Nat}(I:wB M S b ks){fs:List Pf}(hp:jR r (ks.map Bk.pf)=Ya fs):
  Br [.ref b,.str r.h] S= .ok (.bl true) S/\∃S' ks',ul [.ref b,.tup r.deed] S= .ok .non S'/\wB M S' b ks'/\ks'.map Bk.pf=fs:=by
 cases ks with
 |nil=>cases hp|cons k ks=>
  rw[Zkq I.bk r.h];rw[Yu]at hp;have hp:stepK r k.pf (ks.map Bk.pf)=Ya fs:=hp;unfold stepK at hp;unfold T4;by_cases h1:n_ r.h=true
  .rw[if_pos h1]at hp ⊢;by_cases hl:(ks.map Bk.pf).length+1<=12
   .rw[if_pos hl]at hp;rw[Yv]at hl;obtain⟨S',e,q1,q2⟩:=ZoU (d:=r.tl) I.bk h1 (lA 1 0x642b01c1ba0c01 T1 hl);refine⟨by rw[decide_eq_true hl],S',_,e,I.next q1 q2 λa ha=>?_,Y8 hp⟩;rw[qC]at ha;rcases fU.mp ha with z|z
    .right;simp[Bk.ads]at z;omega
    .exact .inl z
   .rw[if_neg hl]at hp;cases hp
  rw[if_neg h1]at hp ⊢;rw[Xq]at h1;by_cases h2:r.h=gj
  .rw [if_pos h2]at hp ⊢;by_cases hc:k.pf.h=gP/\k.pf.cl=[]
   .rw[if_pos hc]at hp;have hcl:k.cl=[]:=Dl.mp hc.2;have hh:k.h=gP:=hc.1;obtain⟨S',e,q1,q2⟩:=ZoA (d:=r.tl) I.bk (by rw[hcl];decide);have hf:k.full=false:=by unfold Bk.full;rw[hh,hcl];rfl
    refine⟨by rw[decide_eq_true hh,hf];rfl,S',_,by rw[Lh,h2];exact e,I.next q1 q2 λa ha=>?_,?_⟩
    .rw[qC]at ha ⊢;rcases fU.mp ha with z|z
     .simp only[Bk.ads,hcl,jF,Yu,sG,Yo,pM,or_false]at z;rcases z with z|z|z|z
      .exact .inl (uO _ (by simp[Bk.ads,z]))
      .exact .inl (uO _ (by simp[Bk.ads,z]))
      .exact .inr (jK z.symm)
      .exact .inl (uO _ (by simp[Bk.ads,z]))
     .exact .inl (Y6 _ z)
    .rw[←Y8 hp,Yu];simp[Bk.pf,hcl]
   .rw[if_neg hc]at hp;cases hp
  rw[if_neg h2]at hp ⊢;by_cases h3:r.h=gQ
  .rw [if_pos h3]at hp ⊢;cases ks with
   |nil=>cases hp|cons k2 ks=>
    simp only[Yu]at hp;by_cases hc:wA k.pf.h=((k.pf.cl.length+1:Nat):Int)/\k.pf.hd.length<100/\k.pf.cl.length<100/\k2.pf.cur.length<1000
    .rw[if_pos hc]at hp;have hcl:k.pf.cl.length=k.cl.length:=Yv _;obtain⟨c1,c2,c3,c4⟩:=hc;rw[hcl]at c1 c3;obtain⟨S',e,q1,q2⟩:=Zpb (d:=r.tl) I.bk c3 c2 c4;refine⟨by rw[show k.full=true from decide_eq_true c1],S',_,by rw[Lh,h3];exact e,I.next q1 q2 λa ha=>?_,?_⟩
     .left;rw[qC];exact Y6 _ ha
     .rw[←Y8 hp,Yu,Zqz];rfl
    .rw[if_neg hc]at hp;cases hp
  rw[if_neg h3]at hp ⊢;by_cases hc:k.pf.cur.length<1000
  .rw[if_pos hc]at hp;obtain⟨S',e,q1,q2⟩:=Zk9 (d:=r.tl) I.bk h1 h2 h3 hc;exact⟨rfl,S',_,e,I.next q1 q2 λa ha=>.inl ha,Y8 hp⟩
  .rw[if_neg hc]at hp;cases hp
noncomputable def mz:List Rw->List Pf->Option (List Pf)
 |[],fs=>Ya fs|r::rs,fs=>(jR r fs).bind (mz rs)
noncomputable abbrev rdB:S3:=Zr (au 5 (aN Gf (Zb (Za 4) (Zf)))) (Zr (aK (eN (e2 nF (Za 5) (eC .non)) (e1 p8 (aN Br (Zb (Za 2) (Zb (e2 Zn (Za 5) (eC (.int 0))) (Zf)))))) (tV) (aX)) (aP (aN ul (Zb (Za 2) (Zb (Za 5) (Zf))))))
noncomputable abbrev wC(q:Int×Nat×Rw):D:=.tup [.int q.1,.ref q.2.1]
theorem ZnC{M:Store}{b:Nat}{it:fV}(hit:∀S,(∀a,a<M.length->S[a]?=M[a]?)->locked it S=true){v0 v1:Option D}:
  ∀(L:List (Int×Nat×Rw)) (S:Store) (ks:List Bk) (fs:List Pf) (x3 x4 x5:Option D),wB M S b ks->(∀q∈L,M[q.2.1]?=Ya (.lst (q.2.2.words.map D.str))/\fC q.2.2)->mz (L.map (·.2.2)) (ks.map Bk.pf)=Ya fs ->
  ∃S' ks' y3 y4 y5,iY it (nH [3,4]) rdB (L.map wC) [v0,v1,Ya (.ref b),x3,x4,x5] S= .nx [v0,v1,Ya (.ref b),y3,y4,y5] S'/\wB M S' b ks'/\ks'.map Bk.pf=fs
 |[],S,ks,fs,x3,x4,x5,I,_,hr=>⟨S,ks,x3,x4,x5,by show iY _ _ _ [] _ _=_;rw[vI,if_pos (hit S I.pre)],I,Y8 hr⟩|q::L,S,ks,fs,x3,x4,x5,I,hL,hr=>by
  obtain⟨hw,ok⟩:=hL q Yd;rw[Yu]at hr;cases hs:jR q.2.2 (ks.map Bk.pf)with
  |none=>unfold mz at hr;rw[hs]at hr;cases hr|some f1=>
   unfold mz at hr;rw[hs]at hr;obtain⟨c1,S1,k1,p1,I1,e1⟩:=ZmP I hs;rw[←e1]at hr;obtain⟨S',ks',y3,y4,y5,h,I',e'⟩:=ZnC hit L S1 k1 fs (Ya (.int q.1)) (Ya (.ref q.2.1)) (Ya (.tup q.2.2.deed)) I1 (λp hp=>hL p (Yc _ hp)) hr;refine⟨S',ks',y3,y4,y5,?_,I',e'⟩;have hwS:S[q.2.1]?=Ya (.lst (q.2.2.words.map D.str)):=(I.pre _ (Yf.mp hw).1).trans hw;have hb:rdB [v0,v1,Ya (.ref b),Ya (.int q.1),Ya (.ref q.2.1),x5] S= .nx [v0,v1,Ya (.ref b),Ya (.int q.1),Ya (.ref q.2.1),Ya (.tup q.2.2.deed)] S1:=by refine(Zi (Zo (d_ rfl (ZkX ok hwS)))).trans ?_;refine(Zi (cT (M':=S) ((o5 (M1:=S) (Zh rfl rfl rfl)).trans (fM (tY rfl (Zh rfl rfl (yc (fc _ 0))) c1) rfl)))).trans ?_;exact qe (tY rfl rfl p1)
   rw[Yu,tW,if_pos (hit S I.pre)];simp only[nH,JS,JR,oJ,oK,hb];exact h
noncomputable abbrev kJ:List Nat:=[112,114,111,103,114,97,109]
theorem Zqs(M:Store):wB M (M++nObj M.length kJ []++[.lst [.ref M.length]]) (M.length+3) [Le M.length kJ []]:=by
 have n:∀j,(M++nObj M.length kJ []++[.lst [.ref M.length]])[M.length+j]?=(nObj M.length kJ []++[.lst [.ref M.length]])[j]?:=λj=>by rw[jl,rD]
 refine⟨⟨(n 3).trans rfl,λk hk=>?_,?_,?_⟩,by simp,λa ha=>by rw[jl,Yi ha],λa ha=>?_⟩
 .rw[Yz.mp hk];exact⟨(n 0).trans rfl,(n 2).trans rfl,(λp hp=>nomatch hp),(n 1).trans rfl⟩
 .simp[gF,Bk.ads]
 .simp[gF,Bk.ads]
 .simp[gF,Bk.ads]at ha;omega
theorem ZfR{L:List (Int×Nat×Rw)}{z:Int}(hn:M[n]?=Ya (.lst (L.map wC)))(hL:∀q∈L,M[q.2.1]?=Ya (.lst (q.2.2.words.map D.str))/\fC q.2.2)(hr:mz (L.map (·.2.2)) [⟨kJ,[],[],[]⟩]=Ya [⟨kJ,[],[],ds⟩])(wD:bT M.length ds=true):KJ [.ref n,.int z] M= .ok (.tup ds) M:=by
 let S0:=M++nObj M.length kJ []++[MO.lst [.ref M.length]]
 have hnl:=(Yf.mp hn).1;obtain⟨S',ks',y3,y4,y5,h,I,e⟩:=ZnC (M:=M) (it:=⟨L.map wC,Ya n⟩) (λS hS=>decide_eq_true ((hS n hnl).trans hn)) (v0:=Ya (.ref n)) (v1:=Ya (.int z)) L S0 [Le M.length kJ []] _ Ym Ym Ym (Zqs M) hL hr
 match ks',e,I with
 |k::k'::r,e,_=>exact absurd (congrArg uT e) (by simp)|[],e,_=>exact absurd (congrArg uT e) (by simp)|[k],e,I=>
  have e:=(iV e).1;have hcl:k.cl=[]:=Dl.mp (congrArg Pf.cl e);have hcur:k.cur=ds:=congrArg Pf.cur e;have hk:=I.bk.hk k Yd;refine(jC (M':=S') (d:=.tup ds) (env:=[Ya (.ref n),Ya (.int z),Ym,Ym,Ym,Ym]) ?_).trans ?_
  .unfold SN;have m1:=ZnI (env:=[Ya (.ref n),Ya (.int z),Ym,Ym,Ym,Ym]) (S:=M) (e:=fW (Zb (eC (.str kJ)) (Zf))) (h:=kJ) (hd:=[]) (lU rfl rfl);refine(Zi (Zo (d:=.ref (M.length+3)) (M':=S0) ((cY (Zx m1 rfl) rfl).trans (by simp[S0])))).trans ?_;have hi0:cW (Za 0) [Ya (.ref n),Ya (.int z),Ya (.ref (M.length+3)),Ym,Ym,Ym] S0= .ok ⟨L.map wC,Ya n⟩ S0:=by
    show(R3.ok (D.ref n) S0).bind _=_;simp only[R3.bind];rw[show S0[n]?=Ya (.lst (L.map wC))from((Zqs M).pre n hnl).trans hn]
   refine(Zi ((x_ hi0).trans h)).trans ?_;refine(Zi (cT (M':=S') (Zh (b8 rfl (j7 I.bk.hb)) rfl (by rw[jf];rfl)))).trans ?_;refine di (b8 (Zh (fM (Zh rfl rfl (iG I.bk.hb (fc _ 0))) hk.lists) rfl (iG hk.hl (d:=.ref k.cn) (by rw[hcl];exact fc _ 0))) ((o4 hk.hn).trans (by rw[hcur])))
  .have ht:S'.take M.length=M:=by
    apply zp;intro a;by_cases ha:a<M.length
    .rw[wQ ha];exact I.pre a ha
    .rw[Hw (by rw[zq];exact lC 2 137741013073 T1 ha (Xm _ _)),Hw (jJ ha)]
   unfold dX;rw[show below M.length (.tup ds)=true from wD,ht,decide_eq_true rfl];rfl
noncomputable def cJ:Option (List (List Nat))->List Nat
 |none=>[]|some ws=>glue [32] ws
structure Gw(ws:List (List Nat)):Prop where
 ne:ws≠[]
 fr:∀w∈ws,32∉w/\10∉w
 tx:glue [32] ws≠[]
 le:(glue [32] ws).length<=10000
noncomputable def rowsOf:Nat->List (Option (List (List Nat)))->List (Int×List (List Nat))
 |_,[]=>[]|k,Ym::r=>rowsOf (k+1) r|k,Ya ws::r=>((k:Nat),ws)::rowsOf (k+1) r
theorem T7:∀(k:Nat) (Ls:List (Option (List (List Nat)))),(rowsOf k Ls).map (·.2)=Ls.filterMap id
 |_,[]=>rfl|k,Ym::r=>T7 (k+1) r|k,Ya ws::r=>congrArg (ws:: ·) (T7 (k+1) r)
theorem T8:∀(k:Nat) (Ls:List (Option (List (List Nat)))),(rowsOf k Ls).length<=Ls.length
 |_,[]=>Ys _|k,Ym::r=>qQ (T8 (k+1) r)|k,Ya _::r=>oO (T8 (k+1) r)
noncomputable def jT(n:Nat):List (Int×List (List Nat))->List D
 |[]=>[]|q::r=>.tup [.int q.1,.ref n]::jT (n+1) r
noncomputable abbrev ou(L:List (Int×List (List Nat))):Store:=L.map λq=>MO.lst (q.2.map D.str)
noncomputable abbrev bO:E3:=fW (Zb (Za 4) (Zb (aH ig vM (Za 5) (Zb (eC (.str [32])) (Zf))) (Zf)))
theorem Gx{ty:D->Store->Bool}{me:D->List D->Store->R3 D}{o:E3}{g:d9}{M M1 M2 M3:Store}{a d:D}(h1:o env M= .ok a M1)(hi:ty a M1=true)(h2:g env M1= .ok ds M2)(h3:me a ds M2= .ok d M3):aH ty me o g env M= .ok d M3:=by simp only[aH,h1,R3.bind,hi,if_true,h2,h3]
theorem Zl4(h:x.length<=900000):vM (.str x) [.str [c]] M= .ok (.ref M.length) (M++[.lst ((nO x [c]).map D.str)]):=by rw[ZjH,if_pos ⟨by simp,Yj (show x.length+2<=1000000 by exact lA 1 0xf42405b21b0c0dbba05b001 T1 h) (by decide)⟩];rfl
theorem T9{M:Store}{lk:List (Nat×List D)}(hlk:jt lk M=true):∀(Ls:List (Option (List (List Nat)))) (k:Nat) (acc:List D) (W:Store) (v0 v1 v2 v3 x y:Option D),(∀ws,Ya ws∈Ls->Gw ws)->acc.length+Ls.length<=10000 ->
  ju lk (nH [4,5]) [e2 gw (Za 5) (eC (.str []))] bO M.length (lW k (Ls.map λl=>D.str (cJ l))) [v0,v1,v2,v3,x,y] (M++ .lst acc::W)
   = .ok (.ref M.length) (M++ .lst (acc++jT (M.length+1+W.length) (rowsOf k Ls))::(W++ou (rowsOf k Ls)))
 |[],k,acc,W,v0,v1,v2,v3,x,y,_,_=>by show ju _ _ _ _ _ [] _ _=_;simp only[ju,Gq hlk,if_true,rowsOf,jT,ou,sG,jX]|none::Ls,k,acc,W,v0,v1,v2,v3,x,y,hL,hl=>by rw[Yp]at hl;have ih:=T9 hlk Ls (k+1) acc W v0 v1 v2 v3 (Ya (.int (k:Nat))) (Ya (.str [])) (λws hw=>hL ws (Yc _ hw)) (lB 1 0x27104b10c027104ba1c0c01 T1 hl);have ht:e2 gw (Za 5) (eC (.str [])) [v0,v1,v2,v3,Ya (.int (k:Nat)),Ya (.str [])] (M++ .lst acc::W)= .ok (.bl false) (M++ .lst acc::W):=Zh rfl rfl (ZwE rfl);show ju _ _ _ _ _ (.tup [.int (k:Nat),.str []]::lW (k+1) (Ls.map λl=>D.str (cJ l))) _ _=_;simp only[ju,Gq hlk,if_true,nH,JS,JR,oJ,oK,Ff,ht,R3.bind,zN,if_false];exact ih|some ws::Ls,k,acc,W,v0,v1,v2,v3,x,y,hL,hl=>by
  rw[Yp]at hl;have ok:=hL ws Yd
  let S:=M++ .lst acc::W
  have hS:S.length=M.length+1+W.length:=by simp[S];exact Y4 (lB 0 1790139547840 T1) (lB 0 0xa1c0c1a0cc0 T1)
  have ih:=T9 hlk Ls (k+1) (acc++[.tup [.int (k:Nat),.ref S.length]]) (W++[.lst (ws.map D.str)]) v0 v1 v2 v3 (Ya (.int (k:Nat))) (Ya (.str (glue [32] ws))) (λws hw=>hL ws (Yc _ hw)) (by simp;exact lB 1 0x27104b1a0cc027104ba1c0c01 T1 hl);have ht:e2 gw (Za 5) (eC (.str [])) [v0,v1,v2,v3,Ya (.int (k:Nat)),Ya (.str (glue [32] ws))] S= .ok (.bl true) S:=Zh rfl rfl (Zxp ok.tx);have hsp:nO (glue [32] ws) [32]=ws:=ZhF 32 ws ok.ne λw hw=>(ok.fr w hw).1;have he:bO [v0,v1,v2,v3,Ya (.int (k:Nat)),Ya (.str (glue [32] ws))] S= .ok (.tup [.int (k:Nat),.ref S.length]) (S++[.lst (ws.map D.str)]):=by refine lU (Zx rfl (Zx (Gx rfl rfl (Zx rfl rfl) ((Zl4 (Yj ok.le (by decide))).trans (by rw[hsp]))) rfl)) rfl
  have gt:(S++[MO.lst (ws.map D.str)])[M.length]?=Ya (.lst acc):=bQ (Zq _ _ _) _;have lt:acc.length<SZ:=sU (show acc.length<=10000 by exact lB 1 0x27104b0027104ba1c0c01 T1 hl) (by decide);have st:(S++[MO.lst (ws.map D.str)]).set M.length (.lst (acc++[.tup [.int (k:Nat),.ref S.length]]))=M++ .lst (acc++[.tup [.int (k:Nat),.ref S.length]])::(W++[.lst (ws.map D.str)]):=by simp[S]
  show ju _ _ _ _ _ (.tup [.int (k:Nat),.str (glue [32] ws)]::lW (k+1) (Ls.map λl=>D.str (cJ l))) _ S=_;have hlS:jt lk S=true:=Gq hlk _;simp only[ju,hlS,if_true,nH,JS,JR,oJ,oK,Ff,Fe,ht,R3.bind,he,gt,lt,st];rw[ih];simp only[rowsOf,jT,ou,Yu,jl,wU,jF,Ye,jb,hS,pQ]
noncomputable abbrev iw:List Nat:=[116,97,107,101]
variable{tk:List (List Nat)}
theorem Zp5{z:Int}{w:Nat}(hw:M[w]?=Ya (.lst ((iw::tk).map D.str)))(h0:tk≠[])(h6:tk.length<=6)(nd:tk.Nodup)(nm:∀x∈tk,gC x):
  KD [.tup [.int z,.ref w]] M= .ok (.tup (tk.map D.str)) M:=by
 have hpos:1<=tk.length:=Xk λe=>h0 (Ws.mp e)
 let M1:=M++[MO.lst (tk.map D.str)]
 have h1:M1[M.length]?=Ya (.lst (tk.map D.str)):=Zq _ _ _;refine Rt.pure (G:=[.lst (tk.map D.str),.lst (tk.map λ_=>D.bl true)]) (env:=[Ya (.tup [.int z,.ref w]),Ym]) ?_ (Ld tk);unfold Sx;have s1:eO (e2 Zn (Za 0) (eC (.int 1))) (dO (eC (.int 1))) (fX) [Ya (.tup [.int z,.ref w]),Ym] M= .ok (.ref M.length) M1:=by refine(Gv (a:=Ya ((1:Nat):Int)) (b:=Ym) (Zh rfl rfl (yc (fc _ 1))) rfl rfl hw).trans ?_;rw[Cw];rfl
 refine(Zi (Zo s1)).trans ?_;have ln:∀{a b:Option D},aB a_ (Zb (Za 1) (Zf)) [a,Ya (.ref M.length)] M1= .ok (.int (tk.length:Int)) M1:=(b8 rfl (j7 h1)).trans (by rw[Yv]);have c1:e2 dF (aB a_ (Zb (Za 1) (Zf))) (eC (.int 1)) [Ya (.tup [.int z,.ref w]),Ya (.ref M.length)] M1= .ok (.bl false) M1:=Zh (ln (b:=Ym)) rfl (by rw[lM,decide_eq_false (by exactλz=>iN [_] [] 2 415002921105 T1 z hpos)]);have c2:e2 cC (aB a_ (Zb (Za 1) (Zf))) (uE) [Ya (.tup [.int z,.ref w]),Ya (.ref M.length)] M1= .ok (.bl false) M1:=Zh (ln (b:=Ym)) (g:=uE) (b:=.int 6) rfl (by rw[jf,decide_eq_false (by exactλz=>iN [_] [] 2 0x661b0010861b91 T1 z h6)]);have c3:e2 gw (aB Ku (Zb (Za 1) (Zf))) (aB a_ (Zb (Za 1) (Zf))) [Ya (.tup [.int z,.ref w]),Ya (.ref M.length)] M1= .ok (.bl false) M1:=by refine Zh (b8 rfl (ZmQ h1 (lA 1 22174922551297 T1 h6))) (ln (b:=Ym)) ?_;rw[ZgO (by simpa using nd)];simp
 refine(Zi (cT ((o5 c1).trans ((o5 c2).trans c3)))).trans ?_;have hi:cW (Za 1) [Ya (.tup [.int z,.ref w]),Ya (.ref M.length)] M1= .ok ⟨tk.map D.str,Ya M.length⟩ M1:=by show(R3.ok (D.ref M.length) M1).bind _=_;simp only[R3.bind,h1]
 have l1:=vL (h:=λ_=>D.bl true) (own:=1) (i:=2) (elt:=aN mW (Zb (Za 2) (Zf))) hi (λm e=>by cases e;exact h1)
  (λx hx M'=>d_ rfl ((nm x hx).is M')) (lA 1 0x186a05b0061b001 T1 h6)
 have t1:=all_map (p:=λ_=>true) (l:=tk) (Zq M1 (MO.lst (tk.map λ_=>D.bl true)) []);rw[show(tk.all λ_=>true)=true from gU.mpr λ_ _=>rfl]at t1;refine(Zi (cT (M':=M1++[.lst (tk.map λ_=>D.bl true)]) (fM (b8 l1 t1) rfl))).trans ?_;refine di ((b8 rfl (o4 (bQ h1 _))).trans ?_);simp[M1]
noncomputable def wF(n:Nat):List (Int×List (List Nat))->List Rw->List (Int×Nat×Rw)
 |q::L,r::rs=>(q.1,n,r)::wF (n+1) L rs|_,_=>[]
theorem T_:∀(n:Nat) (L:List (Int×List (List Nat))) (rs:List Rw),L.map (·.2)=rs.map Rw.words->(wF n L rs).map wC=jT n L/\(wF n L rs).map (·.2.2)=rs
 |_,[],[],_=>⟨rfl,rfl⟩|_,[],_::_,h=>nomatch h|_,_::_,[],h=>nomatch h|n,q::L,r::rs,h=>by obtain⟨h1,h2⟩:=T_ (n+1) L rs (iV h).2;exact⟨by show wC (q.1,n,r)::(wF (n+1) L rs).map wC=_;rw[h1];rfl,by show r::(wF (n+1) L rs).map (·.2.2)=_;rw[h2]⟩
theorem Ua{S:Store}:∀(n:Nat) (L:List (Int×List (List Nat))) (rs:List Rw),L.map (·.2)=rs.map Rw.words->(∀j,j<L.length->S[n+j]?=(ou L)[j]?)->(∀r∈rs,fC r) ->
  ∀q∈wF n L rs,S[q.2.1]?=Ya (.lst (q.2.2.words.map D.str))/\fC q.2.2
 |_,[],[],_,_,_,q,hq=>nomatch hq|_,[],_::_,h,_,_,_,_=>nomatch h|_,_::_,[],h,_,_,_,_=>nomatch h|n,p::L,r::rs,h,hS,ok,q,hq=>by
  rcases Yo.mp hq with e|e
  .rw[e];refine⟨(hS 0 (by simp)).trans ?_,ok r Yd⟩;show Ya (MO.lst (p.2.map D.str))=_;rw[show p.2=r.words from(iV h).1]
  .exact Ua (n+1) L rs (iV h).2 (λj hj=>by have:=hS (j+1) (by simpa using hj);rw[pQ,kZ 1 j];exact this) (λr hr=>ok r (Yc _ hr)) q e
variable{Ls:List (Option (List (List Nat)))}{rs:List Rw}
theorem Zon(hne:Ls≠[])(hLs:∀ws,Ya ws∈Ls->Gw ws)(hn:Ls.length<=5000)(ht:(glue [10] (Ls.map cJ)).length<=900000)(Abi:Ls.filterMap id=(if tk=[]then[]else[iw::tk])++rs.map Rw.words)(hok:∀r∈rs,fC r)(h6:tk.length<=6)(nd:tk.Nodup)(nm:∀x∈tk,gC x)(hr:mz rs [⟨kJ,[],[],[]⟩]=Ya [⟨kJ,[],[],ds⟩])(wD:∀n,bT n ds=true):Bs [.str (glue [10] (Ls.map cJ))] M= .ok (.tup [.tup (tk.map D.str),.tup ds]) M:=by
 let T:=glue [10] (Ls.map cJ)
 let M1:=M++[MO.lst (Ls.map λl=>D.str (cJ l))]
 let L:=rowsOf 1 Ls
 let M2:=M1++MO.lst (jT (M1.length+1) L)::ou L
 have hfree:∀t∈Ls.map cJ,10∉t:=by
  intro t hm;obtain⟨l,hl,rfl⟩:=gJ.mp hm;cases l with
  |none=>intro z;cases z|some ws=>
   have ok:=hLs ws hl;have key:∀vs:List (List Nat),(∀w∈vs,10∉w)->10∉glue [32] vs:=by
    intro vs
    induction vs with
    |nil=>intro _ z;cases z|cons v vs ih=>
     intro hv;cases vs with
     |nil=>exact hv v Yd|cons u us=>
      rw[uq];intro z;rcases fU.mp z with z|z
      .exact hv v Yd z
      .rcases fU.mp z with z|z
       .cases Yz.mp z
       .exact ih (λw hw=>hv w (Yc _ hw)) z
   exact key ws λw hw=>(ok.fr w hw).2
 have hsp:(nO T [10]).map D.str=Ls.map λl=>D.str (cJ l):=by rw[ZhF 10 _ (λe=>hne (Dl.mp e)) hfree,qO];rfl
 have s1:aH ig vM (Za 0) (Zb (eC (.str [10])) (Zf)) [Ya (.str T),Ym,Ym,Ym] M= .ok (.ref M.length) M1:=Gx rfl rfl (Zx rfl rfl) ((Zl4 ht).trans (by rw[hsp]));have h1:M1[M.length]?=Ya (.lst (Ls.map λl=>D.str (cJ l))):=Zq _ _ _;have lk:jt [(M.length,Ls.map λl=>D.str (cJ l))] M1=true:=by simp only[jt,jG,N5,Iw];exact decide_eq_true h1
 have lp:=T9 lk Ls 1 [] [] (Ya (.str T)) (Ya (.ref M.length)) Ym Ym Ym Ym hLs (by simp;exact lA 1 0x27104b0013884b001 T1 hn);have s2:vN (Rh (Za 1)) 2 (nH [4,5]) [e2 gw (Za 5) (eC (.str []))] bO [Ya (.str T),Ya (.ref M.length),Ym,Ym] M1= .ok (.ref M1.length) M2:=by show(R3.bind (R3.bind (R3.ok (D.ref M.length) M1) _) _)=_;simp only[R3.bind,h1];exact lp
 have pF:M2[M1.length]?=Ya (.lst (jT (M1.length+1) L)):=Zq _ _ _;have hobj:∀j,M2[M1.length+1+j]?=(ou L)[j]?:=λj=>by show(M1++MO.lst _::ou L)[_]?=_;rw[pQ,rD,kZ 1 j];rfl
 have hw:L.map (·.2)=(if tk=[]then[]else[iw::tk])++rs.map Rw.words:=(T7 1 Ls).trans Abi;have hLl:=T8 1 Ls;have hlen:∀{env:bL} {S:Store},Za 1 env S= .ok (.ref M.length) S->S[M.length]?=Ya (.lst (Ls.map λl=>D.str (cJ l)))->e2 aR (aB a_ (Zb (Za 1) (Zf))) (eC (.int 1)) env S= .ok (.int ((Ls.length:Int)+1)) S:=λhv h=>Zh (b8 hv (j7 h)) rfl (by rw[Yv];rfl);have VB:∀n,below n (.tup [.tup (tk.map D.str),.tup ds])=true:=λn=>by show(bT n (tk.map D.str)&&(bT n ds&&true))=true;rw[Ld,wD];rfl
 have h12:M2[M.length]?=Ya (.lst (Ls.map λl=>D.str (cJ l))):=bQ h1 _;by_cases h0:tk=[]
 .rw [if_pos h0,jF]at hw;obtain⟨p1,p2⟩:=T_ (M1.length+1) L rs hw;have pa:=Ua (S:=M2) (M1.length+1) L rs hw (λj _=>hobj j) hok;have rd:=ZfR (M:=M2) (n:=M1.length) (L:=wF (M1.length+1) L rs) (z:=(Ls.length:Int)+1) (by rw[p1];exact pF) pa (by rw[p2];exact hr) (wD _);have hM:M2=M++([MO.lst (Ls.map λl=>D.str (cJ l)),.lst (jT (M1.length+1) L)]++ou L):=by simp[M2,M1]
  refine Rt.pure (G:=[MO.lst (Ls.map λl=>D.str (cJ l)),.lst (jT (M1.length+1) L)]++ou L) (env:=[Ya (.str T),Ym,Ym,Ym]) ?_ (VB _);rw[←hM];unfold KN;refine(Zi (Zo s1)).trans ((Zi (Zo s2)).trans ((Zi (Zo (d:=.tup []) (M':=M2) (lU rfl rfl))).trans ?_));have cond:bD (e2 cC (aB a_ (Zb (Za 2) (Zf))) (eC (.int 0))) (e2 aW (e2 Zn (e2 Zn (e2 Zn (Za 2) (eC (.int 0))) (eC (.int 1))) (eC (.int 0))) (eC (.str [116,97,107,101]))) [Ya (.str T),Ya (.ref M.length),Ya (.ref M1.length),Ya (.tup [])] M2= .ok (.bl false) M2:=by
   cases hL:L with
   |nil=>exact lV (Zh (b8 rfl (j7 pF)) rfl (by rw[hL];rfl))|cons q L'=>
    rw[hL]at hw;cases rs with
    |nil=>cases hw|cons r rs=>
     have hq:q.2=r.words:=(iV hw).1;rw[iH (M1:=M2) (Zh (b8 rfl (j7 pF)) rfl (by rw[hL,jf,decide_eq_true (by show(0:Int)<((jT _ L').length+1:Nat);exact iN [_] [] 0 10537193 T1)]))];have o0:M2[M1.length+1]?=Ya (.lst (r.words.map D.str)):=by rw[←hq];exact(hobj 0).trans (by rw[hL];rfl)
     have hnt:¬r.h=iw:=λe=>by have:=(hok r Yd).sm;rw[e]at this;cases this
     refine Zh (Zh (Zh (Zh rfl rfl (iG pF (d:=.tup [.int q.1,.ref (M1.length+1)]) (by rw[hL];exact fc _ 0))) rfl (yc (fc _ 1))) rfl (iG o0 (d:=.str r.h) (fc _ 0))) rfl (iM.trans (by rw[decide_eq_false hnt]))
  refine(Zi (cT cond)).trans ?_;rw[h0];exact di (lU (Zx rfl (Zx (tY rfl (hlen rfl h12) rd) rfl)) rfl)
 .rw[if_neg h0]at hw;cases hL:L with
  |nil=>rw[hL]at hw;cases hw|cons q L'=>
   rw[hL]at hw;have hq:q.2=iw::tk:=(iV hw).1;have hw':L'.map (·.2)=rs.map Rw.words:=(iV hw).2;have o0:M2[M1.length+1]?=Ya (.lst ((iw::tk).map D.str)):=by rw[←hq];exact(hobj 0).trans (by rw[hL];rfl)
   have tkE:=Zp5 (z:=q.1) o0 h0 h6 nd nm
   let M3:=M2++[MO.lst (jT (M1.length+1+1) L')]
   obtain⟨p1,p2⟩:=T_ (M1.length+1+1) L' rs hw';have pa:=Ua (S:=M3) (M1.length+1+1) L' rs hw' (λj hj=>by have hj':(ou L')[j]?=Ya ((ou L')[j]'(by simpa using hj)):=Y9 _;rw[hj'];refine bQ ?_ _;rw[←hj',pQ (M1.length+1),kZ 1 j,hobj (j+1),hL];rfl) hok;have rd:=ZfR (M:=M3) (n:=M2.length) (L:=wF (M1.length+1+1) L' rs) (z:=(Ls.length:Int)+1) (by rw[p1];exact Zq _ _ _) pa (by rw[p2];exact hr) (wD _);have hM:M3=M++([MO.lst (Ls.map λl=>D.str (cJ l)),.lst (jT (M1.length+1) L)]++ou L++[MO.lst (jT (M1.length+1+1) L')]):=by simp[M3,M2,M1]
   refine Rt.pure (G:=[MO.lst (Ls.map λl=>D.str (cJ l)),.lst (jT (M1.length+1) L)]++ou L++[MO.lst (jT (M1.length+1+1) L')]) (env:=[Ya (.str T),Ym,Ym,Ym]) ?_ (VB _);rw[←hM];unfold KN;refine(Zi (Zo s1)).trans ((Zi (Zo s2)).trans ((Zi (Zo (d:=.tup []) (M':=M2) (lU rfl rfl))).trans ?_));have M8:M2[M1.length]?=Ya (.lst (jT (M1.length+1) (q::L'))):=by rw[←hL];exact pF
   have i0:∀{a:Option D},e2 Zn (Za 2) (eC (.int 0)) [Ya (.str T),Ya (.ref M.length),Ya (.ref M1.length),a] M2= .ok (.tup [.int q.1,.ref (M1.length+1)]) M2:=Zh rfl rfl (iG M8 (fc _ 0));have cond:bD (e2 cC (aB a_ (Zb (Za 2) (Zf))) (eC (.int 0))) (e2 aW (e2 Zn (e2 Zn (e2 Zn (Za 2) (eC (.int 0))) (eC (.int 1))) (eC (.int 0))) (eC (.str [116,97,107,101]))) [Ya (.str T),Ya (.ref M.length),Ya (.ref M1.length),Ya (.tup [])] M2= .ok (.bl true) M2:=by rw[iH (M1:=M2) (Zh (b8 rfl (j7 M8)) rfl (by rw[jf,decide_eq_true (by show(0:Int)<((jT _ L').length+1:Nat);exact iN [_] [] 0 10537193 T1)]))];exact Zh (Zh (Zh i0 rfl (yc (fc _ 1))) rfl (iG o0 (d:=.str iw) (fc _ 0))) rfl (iM.trans (by rw[decide_eq_true rfl]))
   have sl:eO (Za 2) (dO (eC (.int 1))) (fX) [Ya (.str T),Ya (.ref M.length),Ya (.ref M1.length),Ya (.tup (tk.map D.str))] M2= .ok (.ref M2.length) M3:=by refine(Gv (a:=Ya ((1:Nat):Int)) (b:=Ym) rfl rfl rfl M8).trans ?_;rw[Cw];rfl
   refine(Zi ((e_ cond).trans ((Zi (Zo (d_ i0 tkE))).trans (Zo sl)))).trans ?_;exact di (lU (Zx rfl (Zx (tY rfl (hlen rfl (bQ h12 _)) rd) rfl)) rfl)
theorem ZrM(cs:List Int)(c d:Nat)(ao:Nat)(M:Store)(hd:M[d]?=Ya (.lst [.ref c,.int (ao:Int)]))(hc:M[c]?=Ya (.lst (cs.map D.int)))(ha:ao<1000000)(hne:c≠d):
  ∃v:Int,iu [.ref d] M= .ok (.int v) (M.set d (.lst [.ref c,.int ((ao+1:Nat):Int)])):=by
 have hdl:=(Yf.mp hd).1;have hc2:(M.set d (.lst [.ref c,.int ((ao:Int)+1)]))[c]?=Ya (.lst (cs.map D.int)):=by rw[Yr (cP hne)];exact hc
 have fin:∀v:Int,Bt [Ya (.ref d),Ym,Ym] M= .rt (.int v) (M.set d (.lst [.ref c,.int ((ao:Int)+1)]))->∃v:Int,iu [.ref d] M= .ok (.int v) (M.set d (.lst [.ref c,.int ((ao+1:Nat):Int)])):=λv h=>by refine⟨v,(jC h).trans ?_⟩;unfold dX;rw[qM (by simp)];split <;>first|exact rfl|simp
 have m1:lK (ao:Int) (ao:Int)=true:=ZwC (by omega);have m2:lK ((ao:Int)*ao) 3=true:=mul_r (by omega);by_cases h1:ao<cs.length
 .exact fin cs[ao] (by simp[Bt,Zr,au,aY,aK,aX,aP,rm,hd,hc2,h1])
 .by_cases h2:cs.length=0
  .have n0:¬((ao:Int)<0):=(λz=>iN [_] [] 1 7211153 T1 z);exact fin ((ao:Int)*ao*3+ao) (by simp[Bt,Zr,au,aY,aK,aX,aP,rm,hd,hc2,h2,m1,m2,n0])
  .obtain⟨a,ha',la⟩:=mY (ao:Int) cs.length ((Oz (eZ _) (cP h2)));have p0:0<cs.length:=lB 1 31526929 T1 la;exact fin (cs[a] / 2+(ao:Int)*ao) (by simp[Bt,Zr,au,aY,aK,aX,aP,rm,hd,hc2,h1,h2,m1,p0,ha',la])
structure dw(cs:List Int)(c d:Nat)(ao:Nat)(M:Store):Prop where
 hd:M[d]?=Ya (.lst [.ref c,.int (ao:Int)])
 hc:M[c]?=Ya (.lst (cs.map D.int))
 ne:c≠d
variable{cs:List Int}{ao d:Nat}
theorem dw.next(K:dw cs c d ao M)(ha:ao<1000000):∃(v:Int) (M':Store),iu [.ref d] M= .ok (.int v) M'/\dw cs c d (ao+1) M'/\M'.length=M.length/\∀j,j≠d->M'[j]?=M[j]?:=by obtain⟨v,h⟩:=ZrM cs c d ao M K.hd K.hc ha K.ne;have hdl:=(Yf.mp K.hd).1;exact⟨v,_,h,⟨Y0 hdl,by rw[Yr (cP K.ne)];exact K.hc,K.ne⟩,by simp,λj hj=>Yr (cP hj)⟩
structure Kp(d:Nat)(M M':Store):Prop where
 len:M.length<=M'.length
 old:∀j,j<M.length->j≠d->M'[j]?=M[j]?
theorem Kp.trans{M M1 M2:Store}(a:Kp d M M1)(b:Kp d M1 M2):Kp d M M2:=⟨Yj a.len b.len,λj h1 h2=>(b.old j (Y7 h1 a.len) h2).trans (a.old j h1 h2)⟩
theorem Kp.app(d:Nat)(M G:Store):Kp d M (M++G):=⟨by simp,λj h _=>Yi h⟩
theorem Kp.get(k:Kp d M M'){o:MO}(h:M[j]?=Ya o)(hj:j≠d):M'[j]?=Ya o:=(k.old j (Yf.mp h).1 hj).trans h
theorem Kp.put(k:Kp d M M')(hj:M.length<=j)(o:MO):Kp d M (M'.set j o):=⟨by rw[sE];exact k.len,λi h1 h2=>by rw[Yr (by exactλz=>lC 3 0x6020121111021 T1 z h1 hj)];exact k.old i h1 h2⟩
theorem dw.app(K:dw cs c d ao M)(G:Store):dw cs c d ao (M++G):=⟨bQ K.hd G,bQ K.hc G,K.ne⟩
theorem dw.put(K:dw cs c d ao M)(h1:j≠d)(h2:j≠c)(o:MO):dw cs c d ao (M.set j o):=⟨by rw[Yr h1];exact K.hd,by rw[Yr h2];exact K.hc,K.ne⟩
theorem dw.lt(K:dw cs c d ao M):c<M.length/\d<M.length:=⟨(Yf.mp K.hc).1,(Yf.mp K.hd).1⟩
theorem dw.draw(K:dw cs c d ao M)(ha:ao<1000000):∃(v:Int) (M':Store),iu [.ref d] M= .ok (.int v) M'/\dw cs c d (ao+1) M'/\Kp d M M'/\M'.length=M.length:=by obtain⟨v,M',h,K',l,o⟩:=K.next ha;exact⟨v,M',h,K',⟨jK l.symm,λj _ hj=>o j hj⟩,l⟩
noncomputable abbrev Li:S3:=(Zr (au 6 (aH bf oZ (Za 5) (Zf))) (Zr (au 7 (aN iu (Zb (Za 0) (Zf)))) (Zr (au 8 (e2 h_ (e2 h_ (e2 h_ (Za 3) (aB a_ (Zb (Za 4) (Zf)))) (aB a_ (Zb (Za 5) (Zf)))) (eC (.int 1)))) (Zr (au 9 (e2 Zy (Za 7) (eC (.int 9)))) (aK (bD (e2 dF (Za 9) (eC (.int 3))) (bD (e2 cC (Za 6) (eC (.int 1))) (e2 cC (Za 8) (eC (.int 1))))) (Zr (aP (aH bf Zz (Za 4) (Zb (e2 Zn (bh (Zb (eC (.str [97,100,100])) (Zb (eC (.str [115,117,98])) (Zb (eC (.str [109,111,114,101])) (Zf))))) (Za 9)) (Zf)))) (aP (aH bf o6 (Za 5) (Zb (bh (Zb (e2 h_ (Za 6) (eC (.int 1))) (Zb (Za 6) (Zf)))) (Zf))))) (aK (bD (e2 aW (Za 9) (eC (.int 3))) (e2 cC (Za 8) (eC (.int 0)))) (Zr (aP (aH bf Zz (Za 4) (Zb (eC (.str [99,101,108,108])) (Zf)))) (aP (aH bf Zz (Za 5) (Zb (Za 6) (Zf))))) (aK (e2 dF (Za 9) (eC (.int 7))) (aP (aH bf Zz (Za 4) (Zb (e2 Zn (Za 1) (e2 Zy (e2 bH (Za 7) (eC (.int 9))) (eC (.int 12)))) (Zf)))) (aP (aH bf Zz (Za 4) (Zb (aN wj (Zb (e2 bH (Za 7) (eC (.int 9))) (Zf))) (Zf)))))))))))
theorem Zpk(c:Int):∃v:Int,v.natAbs<10^60/\∀M,wj [.int c] M= .ok (.int v) M:=by
 obtain⟨a,ea,ha⟩:=mY c 4 (by decide);have ea:c % 4=(a:Int):=ea
 let N:Int:=c / 4 % (10^59)
 let T:Int:=c / 4 % 12
 have hN0:0<=N:=pU _ (by decide);have hN1:N<10^59:=sX _ (by decide);have hT0:0<=T:=pU _ (by decide);have hT1:T<12:=sX _ (by decide);have goes:∀v:Int,([D.int T,.int (-1-T),.int N,.int (-1-N)]:List D)[a]?=Ya (.int v)->∀M,wj [.int c] M= .ok (.int v) M:=λv hv M=>by
  refine Rt.pure (G:=[.lst [.int T,.int (-1-T),.int N,.int (-1-N)]]) (env:=[Ya (.int c),Ym]) ?_ rfl;unfold SX;have hp:e2 JN (eC (.int 10)) (eC (.int 59)) [Ya (.int c),Ym] M= .ok (.int (10^59)) M:=Zh rfl rfl (by rw[ZlD,if_pos ⟨by decide,by decide,by decide⟩];rfl);refine(Zi (Zo (d:=.int N) (Zh (Zh rfl rfl (iJ (by decide))) hp (dY (by decide))))).trans ?_;have l:bh (Zb (e2 Zy (e2 bH (Za 0) (eC (.int 4))) (eC (.int 12))) (Zb (e2 h_ (e1 cu (eC (.int 1))) (e2 Zy (e2 bH (Za 0) (eC (.int 4))) (eC (.int 12)))) (Zb (Za 1) (Zb (e2 h_ (e1 cu (eC (.int 1))) (Za 1)) (Zf))))) [Ya (.int c),Ya (.int N)] M= .ok (.ref M.length) (M++[.lst [.int T,.int (-1-T),.int N,.int (-1-N)]]):=by have t:e2 Zy (e2 bH (Za 0) (eC (.int 4))) (eC (.int 12)) [Ya (.int c),Ya (.int N)] M= .ok (.int T) M:=Zh (Zh rfl rfl (iJ (by decide))) rfl (dY (by decide));exact cY (Zx t (Zx (Zh (fM rfl (xU 1)) t rfl) (Zx rfl (Zx (Zh (fM rfl (xU 1)) rfl rfl) rfl)))) rfl
  refine di (Zh l (Zh rfl rfl (dY (by decide))) (iG (Zq _ _ _) ?_));rw[ea,fc];exact hv
 match a,ha,goes with
 |0,_,goes=>exact⟨T,by omega,goes _ rfl⟩|1,_,goes=>exact⟨-1-T,by omega,goes _ rfl⟩|2,_,goes=>exact⟨N,by omega,goes _ rfl⟩|3,_,goes=>exact⟨-1-N,by omega,goes _ rfl⟩
inductive Fits:List Sm->List Nat->Prop
 |nil:Fits [] []
 |cons {t:Sm} {e:Nat} {ts:List Sm} {es:List Nat} (h:t.fit) (d:t.dp<=e) (r:Fits ts es):Fits (t::ts) (e::es)
def Lj(deep:Nat)(W:List D)(es:List Nat):Prop:=∀ts:List Sm,Fits ts es->∃t:Sm,t.fit/\t.dp<=deep/\t.flat=W++(ts.map Sm.flat).flatten
inductive yP(e:Nat)(es:List Nat):D->List Nat->Prop
 |num (i:Int) (h:i.natAbs<10^60):yP e es (.int i) es
 |d7 (x:List Nat) (h:gC x):yP e es (.str x) es
 |jh:yP e es (.str mZ) (e::es)
 |two (o:Nat) (h:1<e):yP e es (.str (wz o)) (e::(e-1)::es)
theorem ZsL(deep:Nat):Lj deep [] [deep]:=λts h=>by
 cases h with
 |cons h d r=>cases r;exact⟨_,h,d,by simp⟩
variable{e:Nat}
theorem Zmw{deep:Nat}{W:List D}{es es':List Nat}(h:Lj deep W (e::es))(he:1<=e)(t:yP e es w es'):Lj deep (W++[w]) es':=by
 cases t with
 |num i hi=>intro ts f;obtain⟨t,h1,h2,h3⟩:=h (.num i::ts) (.cons hi he f);exact⟨t,h1,h2,by rw[h3];simp[Sm.flat]⟩|d7 x hx=>intro ts f;obtain⟨t,h1,h2,h3⟩:=h (.d7 x::ts) (.cons hx he f);exact⟨t,h1,h2,by rw[h3];simp[Sm.flat]⟩|jh=>
  intro ts f;cases f with
  | @cons a _ ts _ ha hd r=>obtain⟨t,h1,h2,h3⟩:=h (.jh a::ts) (.cons ha hd r);exact⟨t,h1,h2,by rw[h3];simp[Sm.flat]⟩
 | two o ho=>
  intro ts f;cases f with
  | @cons a _ ts _ ha hd r=>
   cases r with
   | @cons b _ ts _ hb hbd r=>obtain⟨t,h1,h2,h3⟩:=h (.two o a b::ts) (.cons ⟨ha,hb⟩ (Nat.max_le.mpr ⟨hd,lC 2 0x2a0c02a1c211001 T1 hbd (gZ (zK ho))⟩) r);exact⟨t,h1,h2,by rw[h3];simp[Sm.flat]⟩
theorem ZpA{x y:List D}(h1:M[n]?=Ya (.lst x))(h2:M[m]?=Ya (.lst y))(hne:n≠m)(hz:x.length+y.length<=900000):o6 (.ref n) [.ref m] M= .ok .non (M.set n (.lst (x++y))):=by simp only[o6,h1,h2];exact if_pos ⟨hne,Yj hz (by decide)⟩
structure LS(cs:List Int)(c d:Nat)(M S:Store)(p q:Nat)(W:List D)(es:List Nat)(ao:Nat):Prop where
 hp:S[p]?=Ya (.lst W)
 hq:S[q]?=Ya (.lst (es.reverse.map λ(e:Nat)=>D.int (e:Int)))
 dk:dw cs c d ao S
 kp:Kp d M S
 lp:M.length<=p
 lq:M.length<=q
 ne:p≠q
 ld:c<M.length/\d<M.length
variable{names:List (List Nat)}{nr:Nat}
section
variable {cs:List Int} {c d:Nat} {M S:Store} {p q:Nat} {W:List D} {es:List Nat} {ao:Nat}
theorem LS.app(L:LS cs c d M S p q W es ao)(G:Store):LS cs c d M (S++G) p q W es ao:=⟨bQ L.hp G,bQ L.hq G,L.dk.app G,L.kp.trans (Kp.app d S G),L.lp,L.lq,L.ne,L.ld⟩
theorem LS.Hg(L:LS cs c d M S p q W es ao)(W':List D):LS cs c d M (S.set p (.lst W')) p q W' es ao:=⟨Y0 (Yf.mp L.hp).1,by rw[Yr L.ne];exact L.hq,L.dk.put (by have:=L.lp;have:=L.ld;omega) (by have:=L.lp;have:=L.ld;omega) _,L.kp.put L.lp _,L.lp,L.lq,L.ne,L.ld⟩
theorem LS.M_(L:LS cs c d M S p q W es ao)(es':List Nat):LS cs c d M (S.set q (.lst (es'.reverse.map λ(e:Nat)=>D.int (e:Int)))) p q W es' ao:=⟨by rw[Yr (cP L.ne)];exact L.hp,Y0 (Yf.mp L.hq).1,L.dk.put (by have:=L.lq;have:=L.ld;omega) (by have:=L.lq;have:=L.ld;omega) _,L.kp.put L.lq _,L.lp,L.lq,L.ne,L.ld⟩
theorem LS.draw(L:LS cs c d M S p q W es ao)(ha:ao<1000000):∃v S',iu [.ref d] S= .ok (.int v) S'/\LS cs c d M S' p q W es (ao+1):=by obtain⟨v,S',h,K,kp,l⟩:=L.dk.draw ha;have hd:=L.ld;exact⟨v,S',h,kp.get L.hp (by have:=L.lp;exactλz=>lC 3 0x6211102011021 T1 z this hd.2),kp.get L.hq (by have:=L.lq;exactλz=>lC 3 0x6211102011021 T1 z this hd.2),K,L.kp.trans kp,L.lp,L.lq,L.ne,L.ld⟩
theorem Zsl{most:Nat}(L:LS cs c d M S p q W (e::es) ao)(ha:ao<1000000)(hnr:M[nr]?=Ya (.lst (names.map D.str)))(nd:nr≠d)(hn:names.length=12)(hnm:∀x∈names,gC x)(hm:most<=60)(hl:W.length+es.length+1<=most){deep:Option D}(x6 x7 x8 x9:Option D):
  ∃w es' S' y6 y7 y8 y9,Li [Ya (.ref d),Ya (.ref nr),deep,Ya (.int (most:Int)),Ya (.ref p),Ya (.ref q),x6,x7,x8,x9] S= .nx [Ya (.ref d),Ya (.ref nr),deep,Ya (.int (most:Int)),Ya (.ref p),Ya (.ref q),y6,y7,y8,y9] S'/\LS cs c d M S' p q (W++[w]) es' (ao+1)/\yP e es w es'/\W.length+1+es'.length<=most:=by
 have Lk:W.length<SZ:=sU (show W.length<=60 by omega) (by decide);have hq0:S[q]?=Ya (.lst (es.reverse.map (λ(e:Nat)=>D.int (e:Int))++[D.int (e:Int)])):=by rw[L.hq,uP,jY];rfl
 have L1:LS cs c d M (S.set q (.lst (es.reverse.map λ(e:Nat)=>D.int (e:Int)))) p q W es ao:=L.M_ es;obtain⟨v,S2,hv,L2⟩:=L1.draw ha;obtain⟨way,ew,hw⟩:=mY v 9 (by decide);have ew:v % 9=(way:Int):=ew
 let room:Int:=(most:Int)-(W.length:Int)-(es.length:Int)-1
 have s8:∀{a b:Option D},e2 h_ (e2 h_ (e2 h_ (Za 3) (aB a_ (Zb (Za 4) (Zf)))) (aB a_ (Zb (Za 5) (Zf)))) (eC (.int 1)) [Ya (.ref d),Ya (.ref nr),deep,Ya (.int (most:Int)),Ya (.ref p),Ya (.ref q),Ya (.int (e:Int)),Ya (.int v),a,b] S2= .ok (.int room) S2:=by intro a b;refine Zh (Zh (Zh rfl (b8 rfl (j7 L2.hp)) rfl) (b8 rfl (j7 L2.hq)) rfl) rfl ?_;rw[Yv,Dm,QZ]
 let E:bL:=[Ya (.ref d),Ya (.ref nr),deep,Ya (.int (most:Int)),Ya (.ref p),Ya (.ref q),Ya (.int (e:Int)),Ya (.int v),Ya (.int room),Ya (.int (way:Int))]
 have start:∀{o:O3},(aK (bD (e2 dF (Za 9) (eC (.int 3))) (bD (e2 cC (Za 6) (eC (.int 1))) (e2 cC (Za 8) (eC (.int 1))))) (Zr (aP (aH bf Zz (Za 4) (Zb (e2 Zn (bh (Zb (eC (.str [97,100,100])) (Zb (eC (.str [115,117,98])) (Zb (eC (.str [109,111,114,101])) (Zf))))) (Za 9)) (Zf)))) (aP (aH bf o6 (Za 5) (Zb (bh (Zb (e2 h_ (Za 6) (eC (.int 1))) (Zb (Za 6) (Zf)))) (Zf))))) (aK (bD (e2 aW (Za 9) (eC (.int 3))) (e2 cC (Za 8) (eC (.int 0)))) (Zr (aP (aH bf Zz (Za 4) (Zb (eC (.str [99,101,108,108])) (Zf)))) (aP (aH bf Zz (Za 5) (Zb (Za 6) (Zf))))) (aK (e2 dF (Za 9) (eC (.int 7))) (aP (aH bf Zz (Za 4) (Zb (e2 Zn (Za 1) (e2 Zy (e2 bH (Za 7) (eC (.int 9))) (eC (.int 12)))) (Zf)))) (aP (aH bf Zz (Za 4) (Zb (aN wj (Zb (e2 bH (Za 7) (eC (.int 9))) (Zf))) (Zf))))))) E S2=o->Li [Ya (.ref d),Ya (.ref nr),deep,Ya (.int (most:Int)),Ya (.ref p),Ya (.ref q),x6,x7,x8,x9] S=o:=λh=>by refine(Zi (Zo (Lf rfl hq0))).trans ((Zi (Zo (d_ rfl hv))).trans ((Zi (Zo s8)).trans ((Zi (Zo (d:=.int (way:Int)) (Zh rfl rfl ((dY (by decide)).trans (by rw[ew]))))).trans h)))
 by_cases h1:way<3/\1<e/\(1:Int)<room
 .have hc:bD (e2 dF (Za 9) (eC (.int 3))) (bD (e2 cC (Za 6) (eC (.int 1))) (e2 cC (Za 8) (eC (.int 1)))) E S2= .ok (.bl true) S2:=by
   rw[iH (M1:=S2) (Zh rfl rfl (by rw[lM,decide_eq_true (by exact iN [_] [] 1 54634285740049 T1 h1.1)])),iH (M1:=S2) (Zh rfl rfl (by rw[jf,decide_eq_true (by exact iN [_] [] 1 145295889 T1 h1.2.1)]))];exact Zh rfl rfl (by rw[jf,decide_eq_true h1.2.2])
  let S3:=S2++[MO.lst [.str [97,100,100],.str [115,117,98],.str [109,111,114,101]]]
  have L3:LS cs c d M S3 p q W es (ao+1):=L2.app _;have hi:[D.str [97,100,100],.str [115,117,98],.str [109,111,114,101]][way]?=Ya (.str (wz way)):=by
   match way,h1.1 with
   |0,_=>rfl|1,_=>rfl|2,_=>rfl
  have a1:=m5 (env:=E) (M:=S2) (M':=S2) (o:=Za 4) (t:=e2 Zn (bh (Zb (eC (.str [97,100,100])) (Zb (eC (.str [115,117,98])) (Zb (eC (.str [109,111,114,101])) (Zf))))) (Za 9)) (M2:=S3) rfl L2.hp (Zh (cY (ds:=[.str [97,100,100],.str [115,117,98],.str [109,111,114,101]]) rfl rfl) rfl (iG (Zq _ _ _) (by rw[fc];exact hi))) L3.hp Lk;have L4:=L3.Hg (W++[.str (wz way)])
  let S4:=S3.set p (.lst (W++[.str (wz way)]))
  have L5:=L4.app [MO.lst [.int ((e-1:Nat):Int),.int (e:Int)]]
  let S5:=S4++[MO.lst [.int ((e-1:Nat):Int),.int (e:Int)]]
  have hql:q<S4.length:=(Yf.mp L4.hq).1;have L6:=L5.M_ (e::(e-1)::es);have a2:aP (aH bf o6 (Za 5) (Zb (bh (Zb (e2 h_ (Za 6) (eC (.int 1))) (Zb (Za 6) (Zf)))) (Zf))) E S4= .nx E (S5.set q (.lst ((e::(e-1)::es).reverse.map λ(e:Nat)=>D.int (e:Int)))):=by refine qe (d:=.non) (Gx rfl (by rw[Aq,L4.hq]) (Zx (cY (ds:=[.int ((e-1:Nat):Int),.int (e:Int)]) (Zx (Zh rfl rfl (by rw[QZ];congr 2;exact qT (iN [_,_] [] 1 433246112432129 T1 (g8 _ _)) (iN [_,_] [] 1 0xa18f0881a0c21 T1 (gZ (zK h1.2.1))))) rfl) rfl) rfl) ((ZpA L5.hq (Zq _ _ _) (dz hql) (by simp;exact lC 2 0xdbb9e5b103c2b2012a10cc01 T1 hl hm)).trans ?_));simp;rfl
  exact⟨_,_,_,_,_,_,_,start ((e_ hc).trans ((Zi a1).trans a2)),L6,.two way h1.2.1,by simp;omega⟩
 have hc1:bD (e2 dF (Za 9) (eC (.int 3))) (bD (e2 cC (Za 6) (eC (.int 1))) (e2 cC (Za 8) (eC (.int 1)))) E S2= .ok (.bl false) S2:=by
  by_cases q1:way<3
  .rw[iH (M1:=S2) (Zh rfl rfl (by rw[lM,decide_eq_true (by exact iN [_] [] 1 54634285740049 T1 q1)]))];by_cases q2:1<e
   .rw[iH (M1:=S2) (Zh rfl rfl (by rw[jf,decide_eq_true (by exact iN [_] [] 1 145295889 T1 q2)]))];exact Zh rfl rfl (by rw[jf,decide_eq_false λz=>h1 ⟨q1,q2,z⟩])
   .exact lV (Zh rfl rfl (by rw[jf,decide_eq_false (by exactλz=>iN [_] [] 2 415086185105 T1 z q2)]))
  .exact lV (Zh rfl rfl (by rw[lM,decide_eq_false (by exactλz=>iN [_] [] 2 0x631b05131b0891 T1 z q1)]))
 by_cases h2:way=3/\(0:Int)<room
 .have hc:bD (e2 aW (Za 9) (eC (.int 3))) (e2 cC (Za 8) (eC (.int 0))) E S2= .ok (.bl true) S2:=by
   rw[iH (M1:=S2) (Zh rfl rfl (rE (by exact qT (iN [_] [] 1 54634268962849 T1 h2.1) (iN [_] [] 1 9009636683825 T1 h2.1))))];exact Zh rfl rfl (by rw[jf,decide_eq_true h2.2])
  have a1:=m5 (env:=E) (M:=S2) (M':=S2) (o:=Za 4) (t:=eC (.str mZ)) (M2:=S2) rfl L2.hp rfl L2.hp Lk;have L4:=L2.Hg (W++[.str mZ]);have hz:(es.reverse.map λ(e:Nat)=>D.int (e:Int)).length<SZ:=by rw[Yv,Dm];exact sU (show es.length<=60 by exact lC 2 0x3c2b103c2b2012a10cc01 T1 hl hm) (by decide)
  have a2:=m5 (env:=E) (M:=S2.set p (.lst (W++[.str mZ]))) (M':=S2.set p (.lst (W++[.str mZ]))) (o:=Za 5) (t:=Za 6) (M2:=S2.set p (.lst (W++[.str mZ]))) rfl L4.hq rfl L4.hq hz;have L6:=L4.M_ (e::es);have e6:(es.reverse.map λ(e:Nat)=>D.int (e:Int))++[D.int (e:Int)]=(e::es).reverse.map λ(e:Nat)=>D.int (e:Int):=by simp
  rw[e6]at a2;exact⟨_,_,_,_,_,_,_,start ((nJ hc1).trans ((e_ hc).trans ((Zi a1).trans a2))),L6,.jh,by simp;omega⟩
 have hc2:bD (e2 aW (Za 9) (eC (.int 3))) (e2 cC (Za 8) (eC (.int 0))) E S2= .ok (.bl false) S2:=by
  by_cases q1:way=3
  .rw[iH (M1:=S2) (Zh rfl rfl (rE (qT (iN [_] [] 1 54634268962849 T1 q1) (iN [_] [] 1 9009636683825 T1 q1))))];exact Zh rfl rfl (by rw[jf,decide_eq_false λz=>h2 ⟨q1,z⟩])
  .exact lV (Zh rfl rfl (vK (λz=>iN [_] [] 2 0x631b01131b08b1 T1 z (Oz (iN [_] [] 1 54632036108449 T1 z) q1))))
 by_cases h3:way<7
 .obtain⟨a,ea,ha'⟩:=mY (v / 9) 12 (by decide);have ea:v / 9 % 12=(a:Int):=ea;have hga:names[a]?=Ya (names[a]'(lB 2 72552035802787857 T1 ha' hn)):=Y9 _;have hnS:S2[nr]?=Ya (.lst (names.map D.str)):=L2.kp.get hnr nd;have a1:=m5 (env:=E) (M:=S2) (M':=S2) (o:=Za 4) (t:=e2 Zn (Za 1) (e2 Zy (e2 bH (Za 7) (eC (.int 9))) (eC (.int 12)))) (M2:=S2) rfl L2.hp (Zh rfl (Zh (Zh rfl rfl (iJ (by decide))) rfl (dY (by decide))) (iG hnS (d:=.str (names[a]'(lB 2 72552035802787857 T1 ha' hn))) (by rw[ea,fc,jV,hga];rfl))) L2.hp Lk;refine⟨_,_,_,_,_,_,_,start ((nJ hc1).trans ((nJ hc2).trans ((e_ (M':=S2) (Zh rfl rfl (by rw[lM,decide_eq_true (by exact iN [_] [] 1 0x71b08971b011 T1 h3)]))).trans a1))),L2.Hg _,.d7 _ (hnm _ (uQ _)),lC 1 0x21a0cc02a10cc01 T1 hl⟩
 .obtain⟨z,hz,hzv⟩:=Zpk (v / 9);have a1:=m5 (env:=E) (M:=S2) (M':=S2) (o:=Za 4) (t:=aN wj (Zb (e2 bH (Za 7) (eC (.int 9))) (Zf))) (M2:=S2) rfl L2.hp (d_ (Zh rfl rfl (iJ (by decide))) (hzv S2)) L2.hp Lk;exact⟨_,_,_,_,_,_,_,start ((nJ hc1).trans ((nJ hc2).trans ((nJ (M':=S2) (Zh rfl rfl (by rw[lM,decide_eq_false (by exactλz=>iN [_] [] 2 0x671b05171b0891 T1 z h3)]))).trans a1))),L2.Hg _,.num z hz,lC 1 0x21a0cc02a10cc01 T1 hl⟩
end
theorem Ub{q:Nat}{X:List Int}(hv:Za i env S= .ok (.ref q) S)(hq:S[q]?=Ya (.lst (X.map D.int))):e2 gw (Za i) (bh (Zf)) env S= .ok (.bl (!X.isEmpty)) (S++[.lst []]):=by
 refine Zh hv (cY rfl rfl) ?_;have hp:(X.map D.int).all (dD DEEP)=true:=gU.mpr λd hd=>by obtain⟨x,_,rfl⟩:=gJ.mp hd;rfl
 simp only[gw,Af,bQ hq,Zq,hp];cases X with
 |nil=>rfl|cons a X=>rfl
theorem Zpj(es:List Nat):es.reverse.map (λ(e:Nat)=>D.int (e:Int))=(es.reverse.map λ(e:Nat)=>(e:Int)).map D.int:=by rw[qO];rfl
section
variable {cs:List Int} {c d:Nat} {M S:Store} {p q:Nat} {W:List D} {es:List Nat} {ao:Nat}
theorem ZqX{es es':List Nat}(t:yP e es w es')(he:1<=e)(h:∀x∈es,1<=x):∀x∈es',1<=x:=by
 cases t with
 |num _ _=>exact h|d7 _ _=>exact h|jh=>
  intro x hx;rcases Yo.mp hx with z|z
  .exact lB 2 687631044657 T1 z he
  .exact h x z
 | two o ho=>
  intro x hx;rcases Yo.mp hx with z|z
  .exact lB 2 687632093233 T1 z ho
  .rcases Yo.mp z with z|z
   .exact lC 3 0xa0a1c2012a111031 T1 z ho (g8 _ _)
   .exact h x z
theorem Zqg{most deep:Nat}(hnr:M[nr]?=Ya (.lst (names.map D.str)))(nd:nr≠d)(hn:names.length=12)(hnm:∀x∈names,gC x)(hm:most<=60){vd:Option D}:
  ∀(m fuel:Nat) (S:Store) (W:List D) (es:List Nat) (ao:Nat) (x6 x7 x8 x9:Option D),LS cs c d M S p q W es ao->W.length+m=most->m<fuel->W.length+es.length<=most->ao+m<1000000->(∀e∈es,1<=e)->Lj deep W es ->
  ∃(t:Sm) (S':Store) (at':Nat) (y6 y7 y8 y9:Option D),t.fit/\t.dp<=deep/\t.flat.length<=most/\at'<=ao+m/\rA (e2 gw (Za 5) (bh (Zf))) Li fuel [Ya (.ref d),Ya (.ref nr),vd,Ya (.int (most:Int)),Ya (.ref p),Ya (.ref q),x6,x7,x8,x9] S= .nx [Ya (.ref d),Ya (.ref nr),vd,Ya (.int (most:Int)),Ya (.ref p),Ya (.ref q),y6,y7,y8,y9] S'/\LS cs c d M S' p q t.flat [] at':=by
 intro m
 induction m with
 |zero=>
  intro fuel S W es ao x6 x7 x8 x9 L h1 h2 h3 h4 h5 hd;have:es=[]:=Ws.mp (Y4 (lC 2 0xe102e0c31210c01 T1 h3 h1) (eZ _));subst this;obtain⟨t,f1,f2,f3⟩:=hd [] .nil;have f3:t.flat=W:=by simpa using f3
  obtain⟨f,rfl⟩:∃f,fuel=f+1:=⟨fuel-1,Y4 ((g8 _ _)) (jK (gZ (lA 1 10489361 T1 h2)))⟩;refine⟨t,_,ao,x6,x7,x8,x9,f1,f2,by rw[f3];exact lC 1 8592100353 T1 h3,jc _ _,?_,by rw[f3];exact L.app [.lst []]⟩;rw[Ar,Ub (X:=[]) rfl L.hq];rfl
 | succ m ih=>
  intro fuel S W es ao x6 x7 x8 x9 L h1 h2 h3 h4 h5 hd;obtain⟨f,rfl⟩:∃f,fuel=f+1:=⟨fuel-1,Y4 ((g8 _ _)) (jK (gZ (lB 1 6981028881 T1 h2)))⟩;cases es with
  |nil=>
   obtain⟨t,f1,f2,f3⟩:=hd [] .nil;have f3:t.flat=W:=by simpa using f3
   refine⟨t,_,ao,x6,x7,x8,x9,f1,f2,by rw[f3];exact lC 1 8592100353 T1 h3,jc _ _,?_,by rw[f3];exact L.app [.lst []]⟩;rw[Ar,Ub (X:=[]) rfl L.hq];rfl
  |cons e es=>
   rw[Yp]at h3;have he:=h5 e Yd;obtain⟨w,es',S1,y6,y7,y8,y9,hb,L1,tt,hl⟩:=Zsl (most:=most) (L.app [.lst []]) (lB 1 0xf42405b01f42405ba1c0c11 T1 h4) hnr nd hn hnm hm (lC 1 0x2a10cc02a1c0c01 T1 h3) (deep:=vd) x6 x7 x8 x9;obtain⟨t,S',at',z6,z7,z8,z9,f1,f2,f3,f4,f5,f6⟩:=ih f S1 (W++[w]) es' (ao+1) y6 y7 y8 y9 L1 (by simp;exact Y4 (lC 1 0x21a0cc02a1c0c21 T1 h1) (lC 1 0x1a0cc202a1c0c31 T1 h1)) (lB 1 1106520968209 T1 h2) (by simp;exact hl) (lB 1 0xf42405b1a0cc1f42405ba1c0c11 T1 h4) (ZqX tt he λx hx=>h5 x (Yc _ hx)) (Zmw hd he tt);refine⟨t,S',at',z6,z7,z8,z9,f1,f2,f3,lC 1 0xa2c1c002a1cc001 T1 f4,?_,f6⟩;have hq:S[q]?=Ya (.lst (((e::es).reverse.map λ(e:Nat)=>(e:Int)).map D.int)):=by rw[←Zpj];exact L.hq
   have hc:=Ub (env:=[Ya (.ref d),Ya (.ref nr),vd,Ya (.int (most:Int)),Ya (.ref p),Ya (.ref q),x6,x7,x8,x9]) (i:=5) rfl hq;have hx:(!((e::es).reverse.map λ(e:Nat)=>(e:Int)).isEmpty)=true:=by simp
   rw[hx]at hc;rw[Ar,hc];show(match Li _ _ with| .nx e M'=>_| .ct e M'=>_| .bk e M'=>_|o=>o)=_;rw[hb];exact f5
structure kO(cs:List Int)(c d:Nat)(M S:Store)(ao at' n:Nat):Prop where
 dk:dw cs c d at' S
 kp:Kp d M S
 le:at'<=ao+n
theorem Gy{at':Nat}{x:D}(ld:c<M.length/\d<M.length)(hd:dw cs c d at' M')(kp:Kp d M M')(le:at'<=ao+n):∃S,dX M x M'= .ok x S/\kO cs c d M S ao at' n:=by obtain⟨S,e,l,o⟩:=ZlC (M:=M) (M':=M') (d:=x) kp.len;exact⟨S,e,⟨by rw[o d ld.2];exact hd.hd,by rw[o c ld.1];exact hd.hc,hd.ne⟩,⟨l,λj h1 h2=>(o j h1).trans (kp.old j h1 h2)⟩,le⟩
theorem Uc{most deep:Nat}(dk:dw cs c d ao M)(hnr:M[nr]?=Ya (.lst (names.map D.str)))(nd:nr≠d)(hn:names.length=12)(hnm:∀x∈names,gC x)(hm:most<=60)(h1:1<=most)(hde:1<=deep)(ha:ao+60<1000000):
  ∃(t:Sm) (S:Store) (at':Nat),t.fit/\t.dp<=deep/\t.flat.length<=most/\um [.ref d,.ref nr,.int (deep:Int),.int (most:Int)] M= .ok (.tup t.flat) S/\kO cs c d M S ao at' 60:=by
 have ld:=dk.lt
 let M1:=M++[MO.lst []]++[MO.lst [.int (deep:Int)]]
 have L0:LS cs c d M M1 M.length (M.length+1) [] [deep] ao:=⟨bQ (Zq _ _ _) _,by have:=Zq (M++[MO.lst []]) (MO.lst [.int (deep:Int)]) [];rw[Ye]at this;exact this,(dk.app _).app _,(Kp.app d M _).trans (Kp.app d _ _),Ys _,vy _,(λz=>lA 1 111198257 T1 z),ld⟩;obtain⟨t,S',at',y6,y7,y8,y9,f1,f2,f3,f4,f5,f6⟩:=Zqg (deep:=deep) hnr nd hn hnm hm (vd:=Ya (.int (deep:Int))) most 1000000 M1 [] [deep] ao Ym Ym Ym Ym L0 (by simp) (lA 1 0xf42405b013c2b001 T1 hm) (by simp;exact h1) (lB 2 0xf42405b10c13c2b101f42405b3c2b0c11 T1 ha hm) (λe he=>by rw[Yz.mp he];exact hde) (ZsL deep);obtain⟨S,e,D⟩:=Gy (ao:=ao) (x:=.tup t.flat) (n:=60) ld f6.dk f6.kp (lC 2 0x3c2b1c003c2b20121c001 T1 f4 hm);refine⟨t,S,at',f1,f2,f3,(jC (M':=S') (env:=[Ya (.ref d),Ya (.ref nr),Ya (.int (deep:Int)),Ya (.int (most:Int)),Ym,Ym,Ym,Ym,Ym,Ym]) ?_).trans e,D⟩;unfold S_;refine(Zi (Zo (d:=.ref M.length) (M':=M++[.lst []]) (cY rfl rfl))).trans ?_;refine(Zi (Zo (d:=.ref (M.length+1)) (M':=M1) ((cY (ds:=[.int (deep:Int)]) rfl rfl).trans (by rw[Ye];rfl)))).trans ?_;refine(Zi f5).trans ?_;exact di (b8 rfl (o4 f6.hp))
end
noncomputable abbrev lwB:S3:=(aK (e1 (nG .str) (Za 2)) (aP (aH bf Zz (Za 1) (Zb (Za 2) (Zf)))) (aP (aH bf o6 (Za 1) (Zb (fL (cW (Za 2)) 1 (cj 3) [] (aB yd (Zb (Za 3) (Zf)))) (Zf)))))
inductive Part:D->Prop
 |d7 (x:List Nat):Part (.str x)
 |sum (ws:List D) (h:∀w∈ws,rN w) (l:ws.length<=60):Part (.tup ws)
noncomputable def pI:D->List (List Nat)
 | .str x=>[x]|.tup ws=>ws.map gD|_=>[]
theorem Zwn(h:rN w)(M:Store):yd [w] M= .ok (.str (gD w)) M:=by
 cases h with
 |int i hi=>rw[ZnE,if_pos (ZtG hi)];rfl|d7 x _=>rfl|op x _=>rfl
theorem Zr5{P:D}(h:Part P):(pI P).length<=60:=by
 cases h with
 |d7 x=>exact(show 1<=60 by decide)|sum ws _ l=>simpa[pI]using l
theorem Znk{M:Store}{W0:Option D}{it:fV}(hi:it.lock=Ym):∀(Ps:List D) (acc:List (List Nat)) (G:Store) (x:Option D),(∀P∈Ps,Part P)->acc.length+60*Ps.length<=1000 ->
  ∃G' y,iY it (cj 2) lwB Ps [W0,Ya (.ref M.length),x] (M++ .lst (acc.map D.str)::G)= .nx [W0,Ya (.ref M.length),y] (M++ .lst ((acc++Ps.flatMap pI).map D.str)::G')
 |[],acc,G,x,_,_=>⟨G,x,by rw[vI,if_pos (by unfold locked;rw[hi])];simp⟩|P ::Ps,acc,G,x,hP,hl=>by
  rw[Yp]at hl;have hp:=hP P Yd;have hpl:=Zr5 hp
  let S:=M++ .lst (acc.map D.str)::G
  have hS:S[M.length]?=Ya (.lst (acc.map D.str)):=Zq _ _ _;have step:∃G1,lwB [W0,Ya (.ref M.length),Ya P] S= .nx [W0,Ya (.ref M.length),Ya P] (M++ .lst ((acc++pI P).map D.str)::G1):=by
   cases hp with
   |d7 y=>refine⟨G,(e_ (M':=S) (by rfl)).trans ((Tv rfl hS (d:=.str y) rfl hS (by rw[Yv];exact sU (show acc.length<=1000 by exact lB 1 0x3e83b003e83ba1c3cd0c01 T1 hl) (by decide))).trans ?_)⟩;simp[S,pI]|sum ws hw l=>
    have lc:=vL (h:=λw=>D.str (gD w)) (enc:=λw=>w) (own:=1) (i:=3) (it:=cW (Za 2)) (elt:=aB yd (Zb (Za 3) (Zf))) (env:=[W0,Ya (.ref M.length),Ya (.tup ws)]) (M:=S) (M1:=S) (lock:=Ym) (as:=ws) (by rw[List.map_id'];rfl) (λn z=>nomatch z)
     (λw hw' M'=>b8 rfl (Zwn (hw w hw') M')) (lA 1 0x186a05b003c2b001 T1 l)
    have hlt:M.length<S.length:=(Yf.mp hS).1;refine⟨G++[.lst (ws.map λw=>D.str (gD w))],(nJ (M':=S) (by rfl)).trans ((qe (d:=.non) (Gx rfl (by rw[Aq,hS]) (Zx lc rfl) (ZpA (bQ hS _) (Zq _ _ _) (dz hlt) (by simp;exact lC 2 0xdbba05b01c03e83ba2c3cd1c013c2b001 T1 l hl)))).trans ?_)⟩;simp[S,pI]
  obtain⟨G1,h1⟩:=step;obtain⟨G',y,h2⟩:=Znk hi Ps (acc++pI P) G1 (Ya P) (λQ hQ=>hP Q (Yc _ hQ)) (by rw[Ye];exact lC 2 0x3e83b23cd01cc03e83ba2c3cd1c013c2b001 T1 hpl hl);refine⟨G',y,?_⟩;rw[tW,if_pos (by unfold locked;rw[hi])];simp only[cj,oJ,oK];rw[show(M++MO.lst (acc.map D.str)::G)=S from rfl,h1];simp only;rw[h2,Nz,jl]
theorem Rw.parts(H:fC r):∀P∈r.tl,Part P:=λP hP=>by
 rcases fU.mp hP with h|h
 .obtain⟨x,_,rfl⟩:=gJ.mp h;exact .d7 x
 .obtain⟨t,ht,rfl⟩:=gJ.mp h;exact .sum _ (Gs t (H.ok.fit t ht)) (Yj (TY ht) H.ok.len)
theorem Rw.Aa9(r:Rw):r.h::r.tl.flatMap pI=r.words:=by
 unfold Rw.words Rw.tl;rw[List.flatMap_append];have e1:∀xs:List (List Nat),(xs.map D.str).flatMap pI=xs:=by
  intro xs
  induction xs with
  |nil=>rfl|cons x xs ih=>rw[Yu,Nz,ih];rfl
 have e2:∀ts:List Sm,(ts.map λt=>D.tup t.flat).flatMap pI=(bU ts).map gD:=by
  intro ts
  induction ts with
  |nil=>rfl|cons t ts ih=>rw[Yu,Nz,ih,bU,bU,Yu,oM,jY];rfl
 rw[e1,e2]
theorem Zr3(h:rN w):(gD w).length<=61:=by
 cases h with
 |int i hi=>exact Znl hi|d7 x hx=>exact Yj hx.le (by decide)|op x hx=>exact Yj (TX hx).2.1 (by decide)
theorem Ud(H:fC r):dR r.h kE≠Ym:=by rw[H.sm];exactλz=>nomatch z
theorem Zn3(k:dR h kE≠Ym):h=ut\/h=CK\/h=Gu\/h=gP\/h=gj\/h=qz\/h=gQ:=by
 by_cases h1:h=ut
 .exact .inl h1
 by_cases h2:h=CK
 .exact .inr (.inl h2)
 by_cases h3:h=Gu
 .exact .inr (.inr (.inl h3))
 by_cases h4:h=gP
 .exact .inr (.inr (.inr (.inl h4)))
 by_cases h5:h=gj
 .exact .inr (.inr (.inr (.inr (.inl h5))))
 by_cases h6:h=qz
 .exact .inr (.inr (.inr (.inr (.inr (.inl h6)))))
 by_cases h7:h=gQ
 .exact .inr (.inr (.inr (.inr (.inr (.inr h7)))))
 .exact absurd (show dR h kE=Ym by simp only[kE,dR,if_neg h1,if_neg h2,if_neg h3,if_neg h4,if_neg h5,if_neg h6,if_neg h7]) k
theorem ZlE(k:dR h kE≠Ym):1<=h.length/\h.length<=5/\∀c∈h,97<=c:=by rcases Zn3 k with rfl|rfl|rfl|rfl|rfl|rfl|rfl <;>decide
theorem Zjv(H:fC r):∀w∈r.words,w.length<=61/\32∉w/\10∉w:=λw hw=>by
 have low:∀{c:Nat} {l:List Nat},(∀x∈l,45<=x)->c<45->c∉l:=λh hc z=>by have:=h _ z;exact lA 2 0x62d2b01102d2b01 T1 this hc
 rcases Yo.mp hw with e|e
 .have q:=ZlE (Ud H);rw[e];exact⟨lA 1 67254898241537 T1 q.2.1,low (λx hx=>Yj (by decide) (q.2.2 x hx)) (by decide),low (λx hx=>Yj (by decide) (q.2.2 x hx)) (by decide)⟩
 .rcases fU.mp e with e|e
  .have q:=H.nm w e;exact⟨Yj q.le (by decide),low (λx hx=>Yj (by decide) (q.low x hx).1) (by decide),low (λx hx=>Yj (by decide) (q.low x hx).1) (by decide)⟩
  .obtain⟨v,hv,rfl⟩:=gJ.mp e;have hf:=Zj0 H.ok.fit v hv;have key:∀x∈gD v,45<=x:=by
    cases hf with
    |int i hi=>exact(Tu i hi).2.2|d7 x hx=>exactλc hc=>Yj (by decide) (hx.low c hc).1|op x hx=>exactλc hc=>Yj (by decide) ((TX hx).2.2 c hc)
   exact⟨Zr3 hf,low key (by decide),low key (by decide)⟩
theorem Zj2(H:fC r):r.words.length<=60:=by have:=H.le;simp only[Rw.words,Yp,Ye,Yv];exact lB 1 0x3c2ba10cc03b2b10c01 T1 this
theorem Zly(H:fC r):Gw r.words:=by
 have hw:=Zjv H;have hl:=(Tw 32 61 r.words λw h=>(hw w h).1).2;have hc:=Zj2 H;refine⟨(λz=>nomatch z),λw h=>(hw w h).2,λz=>?_,by omega⟩;have q:=(ZlE (Ud H)).1;have:r.h≠[]:=λe=>by rw[e]at q;exact absurd q (by decide)
 unfold Rw.words at z;cases e:r.xs++(bU r.ts).map gD with
 |nil=>rw[e]at z;exact this z|cons y ys=>rw[e,uq]at z;exact this (Nu.mp z).1
theorem Zlv(H:fC r)(M:Store):Gh [.tup r.deed] M= .ok (.str (glue [32] r.words)) M:=by
 have hfew:=La r.ts;have hle:=H.le;obtain⟨G,y,h⟩:=Znk (M:=M) (W0:=Ya (.tup r.deed)) (it:=⟨r.tl,Ym⟩) rfl r.tl [r.h] [] Ym (Rw.parts H) (by
  have:r.tl.length<=3:=by
   have hx:=H.nx;have hs:=Zn3 (Ud H);have hsm:=H.sm;have h2:r.ts.length<=2:=by rcases hs with e|e|e|e|e|e|e<;>(rw[e]at hsm;have:=Y8 hsm;omega)
   have h1:r.xs.length<=1:=by rw[hx];split <;>omega
   simp only[Rw.tl,Ye,Yv];exact lB 2 0x31b10c021b101a001 T1 h1 h2
  simp;omega)
 refine Rt.pure (G:=.lst (([r.h]++r.tl.flatMap pI).map D.str)::G) (env:=[Ya (.tup r.deed),Ym,Ym]) ?_ rfl;unfold Td;refine(Zi (Zo (d:=.ref M.length) (M':=M++[.lst [.str r.h]]) (cY (Zx (Zh rfl rfl (yc (fc _ 0))) rfl) rfl))).trans ?_;have hit:cW (eO (Za 0) (dO (eC (.int 1))) (fX)) [Ya (.tup r.deed),Ya (.ref M.length),Ym] (M++[.lst [.str r.h]])= .ok ⟨r.tl,Ym⟩ (M++[.lst [.str r.h]]):=by show R3.ok (⟨cutD r.deed (Ya ((1:Nat):Int)) Ym,Ym⟩:fV) _=_;rw[Cw];rfl
 refine(Zi ((x_ hit).trans h)).trans ?_;have ew:([r.h]++r.tl.flatMap pI)=r.words:=r.Aa9;rw[ew];have hz:=(Tw 32 61 r.words λw h=>(Zjv H w h).1).1;have hc:=Zj2 H;exact di (Cy rfl rfl (Zn8 (Zq _ _ _) (Yj (show _<=10000 by omega) (by decide))))
variable{a:Nat}
theorem kO.mono{a':Nat}(h:kO cs c d M S a a' n)(k:n<=m):kO cs c d M S a a' m:=⟨h.dk,h.kp,Yj h.le (Nat.add_le_add_left k _)⟩
theorem kO.app{G:Store}{a':Nat}(h:kO cs c d (M++G) S a a' n):kO cs c d M S a a' n:=⟨h.dk,(Kp.app d M G).trans h.kp,h.le⟩
theorem kO.trans{T:Store}{a b e n m:Nat}(h:kO cs c d M S a b n)(k:kO cs c d S T b e m):kO cs c d M T a e (n+m):=⟨k.dk,h.kp.trans k.kp,by have:=h.le;have:=k.le;omega⟩
theorem Ue{t:Sm}(hs:dR h kE=Ya 1)(hn:h≠ut)(f:t.fit)(dp:t.dp<=6)(l:t.flat.length<=50):fC ⟨h,[],[t]⟩:=by
 have el:(bU [t]).length=t.flat.length:=by simp[bU]
 refine⟨hs,by rw[if_neg hn];rfl,(λx hx=>nomatch hx),⟨λs hs=>by rw[Yz.mp hs];exact f,by show(bU [t]).length<=60;exact lB 2 0x3c2b00322b1011021 T1 el l,?_⟩,by show 0+(bU [t]).length<=59;exact lB 2 0x3b2b0ec0322b1011021 T1 el l⟩;show((t.dp+0:Nat):Int)<=6;exact iN [_] [] 1 0x61be0c8861b001 T1 dp
theorem Zu9{t:Sm}(hx:gC x)(f:t.fit)(dp:t.dp<=6)(l:t.flat.length<=50):fC ⟨ut,[x],[t]⟩:=by
 have el:(bU [t]).length=t.flat.length:=by simp[bU]
 refine⟨rfl,rfl,λy hy=>by rw[Yz.mp hy];exact hx,⟨λs hs=>by rw[Yz.mp hs];exact f,by show(bU [t]).length<=60;exact lB 2 0x3c2b00322b1011021 T1 el l,?_⟩,by show 1+(bU [t]).length<=59;exact lB 2 0x3b2b0ac0322b1011021 T1 el l⟩;show((t.dp+0:Nat):Int)<=6;exact iN [_] [] 1 0x61be0c8861b001 T1 dp
theorem ZtD{t u:Sm}(f:t.fit)(g:u.fit)(dp:t.dp<=6)(du:u.dp<=5)(l:t.flat.length<=29)(l2:u.flat.length<=29):fC ⟨CK,[],[t,u]⟩:=by
 have el:(bU [t,u]).length=t.flat.length+u.flat.length:=by simp[bU]
 refine⟨rfl,rfl,(λx hx=>nomatch hx),⟨λs hs=>?_,by show(bU [t,u]).length<=60;exact lC 3 0x3c2b001d2b1011d2b20121c021 T1 el l2 l,?_⟩,by show 0+(bU [t,u]).length<=59;exact lC 3 0x3b2b0ec01d2b1011d2b20121c021 T1 el l2 l⟩
 .rcases Yo.mp hs with e|e
  .rw[e];exact f
  .rw[Yz.mp e];exact g
 .show(if((u.dp+(0+1):Nat):Int)>((t.dp+0:Nat):Int)then((u.dp+(0+1):Nat):Int)else((t.dp+0:Nat):Int))<=6;split <;>omega
structure Znp(r:Rw):Prop where
 b:n_ r.h=false
 e:r.h≠gj
 n:r.h≠gQ
section
variable {cs:List Int} {c d:Nat} {M:Store} {ao:Nat}
theorem Zrq(dk:dw cs c d ao M)(hnr:M[nr]?=Ya (.lst (names.map D.str)))(nd:nr≠d)(hn:names.length=12)(hnm:∀x∈names,gC x)(ha:ao+120<1000000)(v:Int):
  ∃(r:Rw) (S:Store) (at':Nat),fC r/\Znp r/\KR [.ref d,.ref nr,.int v] M= .ok (.tup r.deed) S/\kO cs c d M S ao at' 120:=by
 have ld:=dk.lt;obtain⟨a,ea,ha4⟩:=mY (v / 10) 4 (by decide);have ea:v / 10 % 4=(a:Int):=ea;obtain⟨b,eb,hb⟩:=mY (v / 3) 6 (by decide);have eb:v / 3 % 6=(b:Int):=eb;obtain⟨b2,Ug,hb2⟩:=mY (v / 7) 5 (by decide);have Ug:v / 7 % 5=(b2:Int):=Ug
 let M1:=M++[MO.lst [.int 3,.int 3,.int 7,.int 20]]
 have m1:∃m:Nat,1<=m/\m<=20/\[D.int 3,.int 3,.int 7,.int 20][a]?=Ya (.int (m:Int)):=by
  match a,ha4 with
  |0,_=>exact⟨3,by decide,by decide,rfl⟩|1,_=>exact⟨3,by decide,by decide,rfl⟩|2,_=>exact⟨7,by decide,by decide,rfl⟩|3,_=>exact⟨20,by decide,by decide,rfl⟩
 obtain⟨m0,hm1,hm2,hm3⟩:=m1;have s3:au 3 (e2 Zn (bh (Zb (eC (.int 3)) (Zb (eC (.int 3)) (Zb (eC (.int 7)) (Zb (eC (.int 20)) (Zf)))))) (e2 Zy (e2 bH (Za 2) (eC (.int 10))) (eC (.int 4)))) [Ya (.ref d),Ya (.ref nr),Ya (.int v),Ym,Ym] M= .nx [Ya (.ref d),Ya (.ref nr),Ya (.int v),Ya (.int (m0:Int)),Ym] M1:=Zo (Zh (cY (ds:=[.int 3,.int 3,.int 7,.int 20]) rfl rfl) (Zh (Zh rfl rfl (iJ (by decide))) rfl (dY (by decide))) (iG (Zq _ _ _) (by rw[ea,fc];exact hm3)));have s4:∃m:Nat,1<=m/\m<=29/\aK (e2 aW (e2 Zy (e2 bH (Za 2) (eC (.int 40))) (eC (.int 11))) (eC (.int 1))) (au 3 (eC (.int 29))) (aX) [Ya (.ref d),Ya (.ref nr),Ya (.int v),Ya (.int (m0:Int)),Ym] M1= .nx [Ya (.ref d),Ya (.ref nr),Ya (.int v),Ya (.int (m:Int)),Ym] M1:=by
  by_cases z:v / 40 % 11=1
  .exact⟨29,by decide,by decide,(e_ (M':=M1) (Zh (Zh (Zh rfl rfl (iJ (by decide))) rfl (dY (by decide))) rfl (rE z))).trans (Zo rfl)⟩
  .exact⟨m0,hm1,lA 1 513128353935361 T1 hm2,cT (M':=M1) (Zh (Zh (Zh rfl rfl (iJ (by decide))) rfl (dY (by decide))) rfl (vK z))⟩
 obtain⟨m,hm1,za,s4⟩:=s4;obtain⟨t,S1,at1,f1,f2,f3,f4,D1⟩:=Uc (M:=M1) (most:=m) (deep:=1+b) (dk.app _) (bQ hnr _) nd hn hnm (lA 1 0x3c2b001d2b001 T1 za) hm1 (jc _ _) (by exact lA 1 0xf42405b3c2b0c1f42405b782b0c11 T1 ha:ao+60<1000000);have qD:kO cs c d M S1 ao at1 60:=kO.app (G:=[MO.lst [.int 3,.int 3,.int 7,.int 20]]) D1;have s5:au 4 (aN um (Zb (Za 0) (Zb (Za 1) (Zb (e2 aR (eC (.int 1)) (e2 Zy (e2 bH (Za 2) (eC (.int 3))) (eC (.int 6)))) (Zb (Za 3) (Zf)))))) [Ya (.ref d),Ya (.ref nr),Ya (.int v),Ya (.int (m:Int)),Ym] M1= .nx [Ya (.ref d),Ya (.ref nr),Ya (.int v),Ya (.int (m:Int)),Ya (.tup t.flat)] S1:=by refine Zo (Fi rfl rfl (c:=.int ((1+b:Nat):Int)) (Zh rfl (Zh (Zh rfl rfl (iJ (by decide))) rfl (dY (by decide))) ?_) rfl f4);rw[tR,eb];congr 2
 have start:∀{o:O3},(Zr (aK (e2 aW (e2 Zy (Za 2) (eC (.int 3))) (eC (.int 0))) (aY (fW (Zb (eC (.str [115,101,116])) (Zb (e2 Zn (Za 1) (e2 Zy (e2 bH (Za 2) (eC (.int 440))) (eC (.int 12)))) (Zb (Za 4) (Zf)))))) (aX)) (Zr (aK (e2 aW (e2 Zy (Za 2) (eC (.int 3))) (eC (.int 1))) (aY (fW (Zb (eC (.str [112,117,116])) (Zb (Za 4) (Zb (aN um (Zb (Za 0) (Zb (Za 1) (Zb (e2 aR (eC (.int 1)) (e2 Zy (e2 bH (Za 2) (eC (.int 7))) (eC (.int 5)))) (Zb (Za 3) (Zf)))))) (Zf)))))) (aX)) (aY (fW (Zb (eC (.str [116,101,108,108])) (Zb (Za 4) (Zf))))))) [Ya (.ref d),Ya (.ref nr),Ya (.int v),Ya (.int (m:Int)),Ya (.tup t.flat)] S1=o->Tc [Ya (.ref d),Ya (.ref nr),Ya (.int v),Ym,Ym] M=o:=λh=>(Zi s3).trans ((Zi s4).trans ((Zi s5).trans h));have m3:∀{k:Int},e2 Zy (Za 2) (eC (.int 3)) [Ya (.ref d),Ya (.ref nr),Ya (.int v),Ya (.int (m:Int)),Ya (.tup t.flat)] S1= .ok (.int (v % 3)) S1:=Zh rfl rfl (dY (by decide));by_cases h0:v % 3=0
 .obtain⟨x,ex,hx⟩:=mY (v / 440) 12 (by decide);have ex:v / 440 % 12=(x:Int):=ex;have hga:names[x]?=Ya (names[x]'(lB 2 72552035802787857 T1 hx hn)):=Y9 _;have hnS:S1[nr]?=Ya (.lst (names.map D.str)):=qD.kp.get hnr nd
  let r:Rw:=⟨ut,[names[x]'(lB 2 72552035802787857 T1 hx hn)],[t]⟩
  have goes:=start (o:=.rt (.tup r.deed) S1) (rC ((e_ (M':=S1) (Zh (m3 (k:=0)) rfl (rE h0))).trans (di (lU (Zx rfl (Zx (Zh rfl (Zh (Zh rfl rfl (iJ (by decide))) rfl (dY (by decide))) (iG hnS (d:=.str (names[x]'(lB 2 72552035802787857 T1 hx hn))) (by rw[ex,fc,jV,hga];rfl))) (Zx rfl rfl))) rfl))));obtain⟨S,e,D⟩:=Gy (ao:=ao) (x:=.tup r.deed) (n:=60) ld qD.dk qD.kp qD.le;exact⟨r,S,at1,Zu9 (hnm _ (uQ _)) f1 (lB 2 0x61b0061b1111ac001 T1 f2 hb) (lB 2 0x322b001d2b1011001 T1 f3 za),⟨rfl,show ut≠gj by decide,show ut≠gQ by decide⟩,(jC goes).trans e,D.mono (by decide)⟩
 have c0:=cT (M':=S1) (f:=aY (fW (Zb (eC (.str [115,101,116])) (Zb (e2 Zn (Za 1) (e2 Zy (e2 bH (Za 2) (eC (.int 440))) (eC (.int 12)))) (Zb (Za 4) (Zf)))))) (Zh (m3 (k:=0)) (g:=eC (.int 0)) rfl (vK h0));by_cases h1:v % 3=1
 .obtain⟨u,S2,at2,g1,g2,g3,g4,D2⟩:=Uc (most:=m) (deep:=1+b2) qD.dk (qD.kp.get hnr nd) nd hn hnm (lA 1 0x3c2b001d2b001 T1 za) hm1 (jc _ _) (by have:=qD.le;exact lB 2 0xf42405b3c2b0c1f42405b782b1c113c2b1c001 T1 this ha);have D12:=qD.trans D2
  let r:Rw:=⟨CK,[],[t,u]⟩
  have goes:=start (o:=.rt (.tup r.deed) S2) ((Zi c0).trans (rC ((e_ (M':=S1) (Zh (m3 (k:=0)) rfl (rE h1))).trans (di (lU (Zx rfl (Zx rfl (Zx (Fi rfl rfl (c:=.int ((1+b2:Nat):Int)) (Zh rfl (Zh (Zh rfl rfl (iJ (by decide))) rfl (dY (by decide))) (by rw[tR,Ug];congr 2)) rfl g4) rfl))) rfl)))));obtain⟨S,e,D⟩:=Gy (ao:=ao) (x:=.tup r.deed) (n:=120) ld D12.dk D12.kp D12.le;exact⟨r,S,at2,ZtD f1 g1 (lB 2 0x61b0061b1111ac001 T1 f2 hb) (lB 2 0x51b0051b1111ac001 T1 g2 hb2) (Yj f3 za) (Yj g3 za),⟨rfl,show CK≠gj by decide,show CK≠gQ by decide⟩,(jC goes).trans e,D⟩
 .let r:Rw:=⟨Gu,[],[t]⟩
  have goes:=start (o:=.rt (.tup r.deed) S1) ((Zi c0).trans ((Zi (cT (M':=S1) (Zh (m3 (k:=0)) rfl (vK h1)))).trans (di (lU rfl rfl))));obtain⟨S,e,D⟩:=Gy (ao:=ao) (x:=.tup r.deed) (n:=60) ld qD.dk qD.kp qD.le;exact⟨r,S,at1,Ue rfl (by decide) f1 (lB 2 0x61b0061b1111ac001 T1 f2 hb) (lB 2 0x322b001d2b1011001 T1 f3 za),⟨rfl,show Gu≠gj by decide,show Gu≠gQ by decide⟩,(jC goes).trans e,D.mono (by decide)⟩
end
structure Fr where
 e:Nat
 o:Nat
 w:List Nat
 t:Sm
 out:List D
 ah:Option (List D)
noncomputable def ux:Option (List D)->D
 |none=>.non|some a=>.tup a
noncomputable abbrev Fr.obj(f:Fr):MO:=.lst [.str f.w,.tup f.t.flat,.ref f.o,ux f.ah]
noncomputable abbrev gG(s:Nat)(fs:List Fr):List Nat:=s::fs.map (·.e)
structure bV(n0:Nat)(S:Store)(s dr:Nat)(cur:List D)(fs:List Fr):Prop where
 hs:S[s]?=Ya (.lst (fs.map λf=>D.ref f.e).reverse)
 he:∀f∈fs,S[f.e]?=Ya f.obj
 ho:∀f∈fs,S[f.o]?=Ya (.lst f.out)
 hc:S[dr]?=Ya (.lst cur)
 nd:(gG s fs).Nodup
 dj:∀a∈gG s fs,a≠dr/\∀f∈fs,a≠f.o
 lo:n0<=dr/\(∀a∈gG s fs,n0<=a)/\∀f∈fs,n0<=f.o
variable{f:Fr}{cur':List D}
section
variable {n0:Nat} {S S':Store} {s dr:Nat} {cur:List D} {fs:List Fr}
theorem bV.frame(K:bV n0 S s dr cur fs)(h:∀a,n0<=a->a<S.length->S'[a]?=S[a]?):bV n0 S' s dr cur fs:=by
 have q:∀{i:Nat} {o:MO},S[i]?=Ya o->i<S.length:=λh=>(Yf.mp h).1;refine⟨?_,λf hf=>?_,λf hf=>?_,?_,K.nd,K.dj,K.lo⟩
 .rw[h s (K.lo.2.1 s Yd) (q K.hs)];exact K.hs
 .rw[h f.e (K.lo.2.1 f.e (Yc _ (pK hf))) (q (K.he f hf))];exact K.he f hf
 .rw[h f.o (K.lo.2.2 f hf) (q (K.ho f hf))];exact K.ho f hf
 .rw[h dr K.lo.1 (q K.hc)];exact K.hc
theorem bV.app(K:bV n0 S s dr cur fs)(G:Store):bV n0 (S++G) s dr cur fs:=K.frame λa _ h=>Yi h
theorem bV.kp(K:bV n0 S s dr cur fs)(hd:d<n0)(k:Kp d S S'):bV n0 S' s dr cur fs:=K.frame λa h1 h2=>k.old a h2 (λz=>lC 3 0x6211102011021 T1 z h1 hd)
theorem bV.lt(K:bV n0 S s dr cur fs):(∀a∈gG s fs,a<S.length)/\dr<S.length/\∀f∈fs,f.o<S.length:=by
 have q:∀{i:Nat} {o:MO},S[i]?=Ya o->i<S.length:=λh=>(Yf.mp h).1;refine⟨λa ha=>?_,q K.hc,λf hf=>q (K.ho f hf)⟩;rcases Yo.mp ha with e|e
 .rw[e];exact q K.hs
 .obtain⟨f,hf,rfl⟩:=gJ.mp e;exact q (K.he f hf)
theorem bV.now(K:bV n0 S s dr cur fs){bI:Nat}(h:S[bI]?=Ya (.lst cur'))(hl:n0<=bI)(hn:bI∉gG s fs):bV n0 S s bI cur' fs:=⟨K.hs,K.he,K.ho,h,K.nd,λa ha=>⟨λe=>hn (e▸ha),(K.dj a ha).2⟩,hl,K.lo.2⟩
theorem bV.els(K:bV n0 S s dr cur (f::fs))(a:List D):bV n0 (S.set f.e (Fr.obj {f with ah:=Ya a})) s dr cur ({f with ah:=Ya a}::fs):=by
 have nd:=K.nd;simp only[gG,Yu,iQ,Yo,not_or]at nd;have hm:f.e∈gG s (f::fs):=Yc _ Yd;have dj:=K.dj f.e hm;have o:∀x,f.e≠x->(S.set f.e (Fr.obj {f with ah:=Ya a}))[x]?=S[x]?:=λx h=>Yr h;refine⟨?_,λg hg=>?_,λg hg=>?_,?_,K.nd,λx hx=>⟨(K.dj x hx).1,λg hg=>?_⟩,K.lo.1,K.lo.2.1,λg hg=>?_⟩
 .rw[o s (cP nd.1.1)];exact K.hs
 .rcases Yo.mp hg with e|e
  .rw[e];exact Y0 (K.lt.1 _ hm)
  .rw[o g.e λz=>nd.2.1 (z▸pK e)];exact K.he g (Yc _ e)
 .rcases Yo.mp hg with e|e
  .rw[e];show _=Ya (MO.lst f.out);exact(o f.o (dj.2 f Yd)).trans (K.ho f Yd)
  .rw[o g.o (dj.2 g (Yc _ e))];exact K.ho g (Yc _ e)
 .rw[o dr dj.1];exact K.hc
 .rcases Yo.mp hg with e|e
  .rw[e];exact(K.dj x hx).2 f Yd
  .exact(K.dj x hx).2 g (Yc _ e)
 .rcases Yo.mp hg with e|e
  .rw[e];exact K.lo.2.2 f Yd
  .exact K.lo.2.2 g (Yc _ e)
theorem bV.pop(K:bV n0 S s dr cur (f::fs)){bI:Nat}(h:S[bI]?=Ya (.lst cur'))(hl:n0<=bI)(hn:bI∉gG s (f::fs)):bV n0 (S.set s (.lst (fs.map λf=>D.ref f.e).reverse)) s bI cur' fs:=by
 have nd:=K.nd;simp only[gG,Yu,iQ,Yo,not_or]at nd;have hm:s∈gG s (f::fs):=Yd;have sub:∀a∈gG s fs,a∈gG s (f::fs):=λa ha=>by
  rcases Yo.mp ha with e|e
  .rw[e];exact Yd
  .exact Yc _ (Yc _ e)
 have o:∀x,s≠x->(S.set s (.lst (fs.map λf=>D.ref f.e).reverse))[x]?=S[x]?:=λx h=>Yr h;refine⟨Y0 (K.lt.1 s hm),λg hg=>?_,λg hg=>?_,?_,iQ.mpr ⟨nd.1.2,nd.2.2⟩,λx hx=>⟨λe=>hn (e▸sub x hx),λg hg=>(K.dj x (sub x hx)).2 g (Yc _ hg)⟩,hl,λa ha=>K.lo.2.1 a (sub a ha),λg hg=>K.lo.2.2 g (Yc _ hg)⟩
 .rw[o g.e λz=>nd.1.2 (z▸pK hg)];exact K.he g (Yc _ hg)
 .rw[o g.o ((K.dj s hm).2 g (Yc _ hg))];exact K.ho g (Yc _ hg)
 .rw[o bI λz=>hn (z▸hm)];exact h
theorem bV.push(K:bV n0 S s dr cur fs)(hn:n0<=S.length)(w:List Nat)(t:Sm):bV n0 (((S++[Fr.obj ⟨S.length,dr,w,t,cur,Ym⟩]).set s (.lst ((fs.map λf=>D.ref f.e).reverse++[.ref S.length])))++[.lst []]) s (S.length+1) [] (⟨S.length,dr,w,t,cur,Ym⟩::fs):=by
 have hlt:=K.lt;have hm:s∈gG s fs:=Yd;have hsl:=hlt.1 s hm
 let S1:=(S++[Fr.obj ⟨S.length,dr,w,t,cur,Ym⟩]).set s (.lst ((fs.map λf=>D.ref f.e).reverse++[.ref S.length]))
 have l1:S1.length=S.length+1:=by simp[S1]
 have o:∀x,s≠x->x<S.length->(S1++[MO.lst []])[x]?=S[x]?:=λx h hx=>by rw[Yi (by exact lC 2 564744212779025 T1 hx l1)];show((S++_).set s _)[x]?=_;rw[Yr h,Yi hx]
 have one:∀x∈gG s (⟨S.length,dr,w,t,cur,Ym⟩::fs),x=S.length\/x∈gG s fs:=λx hx=>by
  rcases Yo.mp hx with e|e
  .exact .inr (by rw[e];exact Yd)
  .rcases Yo.mp e with e|e
   .exact .inl e
   .exact .inr (Yc _ e)
 refine⟨?_,λg hg=>?_,λg hg=>?_,?_,?_,λx hx=>⟨?_,λg hg=>?_⟩,lB 1 43419439105 T1 hn,λx hx=>?_,λg hg=>?_⟩
 .show(S1++_)[s]?=_;rw[Yi (by exact lC 2 36361488941105 T1 l1 hsl)];show((S++_).set s _)[s]?=_;rw[Y0 (by rw[Ye];exact DG _ hsl)];simp
 .rcases Yo.mp hg with e|e
  .rw[e];show(S1++_)[S.length]?=_;rw[Yi (by exact lB 1 295813169 T1 l1)];show((S++_).set s _)[S.length]?=_;rw[Yr (by exactλz=>lB 2 26039357489 T1 z hsl)];exact Zq _ _ _
  .have hge:g.e∈gG s fs:=Yc _ (pK e);rw[o g.e (λz=>(iQ.mp K.nd).1 (z▸pK e)) (hlt.1 _ hge)];exact K.he g e
 .rcases Yo.mp hg with e|e
  .rw[e];show(S1++_)[dr]?=Ya (.lst cur);rw[o dr (K.dj s hm).1 hlt.2.1];exact K.hc
  .rw[o g.o ((K.dj s hm).2 g e) (hlt.2.2 g e)];exact K.ho g e
 .show(S1++_)[S.length+1]?=_;rw[←l1];exact Zq _ _ _
 .have nd:=iQ.mp K.nd;refine iQ.mpr ⟨?_,iQ.mpr ⟨?_,nd.2⟩⟩
  .intro z;rcases Yo.mp z with e|e
   .have e:s=S.length:=e;exact lB 2 26039357489 T1 e hsl
   .exact nd.1 e
  .intro z;have:=hlt.1 _ (Yc _ z);exact vo _ this
 .rcases one x hx with e|e
  .exactλz=>lB 2 6666353492017 T1 z e
  .have:=hlt.1 x e;exactλz=>lB 2 6666085056561 T1 z this
 .rcases Yo.mp hg with z|z
  .rw[z];show x≠dr;rcases one x hx with e|e
   .have:=hlt.2.1;exactλz=>lC 3 0x6203121111021 T1 z this e
   .exact(K.dj x e).1
  .rcases one x hx with e|e
   .have:=hlt.2.2 g z;exactλz=>lC 3 0x6203121111021 T1 z this e
   .exact(K.dj x e).2 g z
 .rcases one x hx with e|e
  .exact lC 2 137741013041 T1 e hn
  .exact K.lo.2.1 x e
 .rcases Yo.mp hg with z|z
  .rw[z];exact K.lo.1
  .exact K.lo.2.2 g z
end
noncomputable def gH:List D->List Fr->List Pf
 |cur,[]=>[⟨kJ,[],[],cur⟩]|cur,f::fs=>⟨f.w,[.tup f.t.flat],f.ah.toList,cur⟩::gH f.out fs
theorem ZpQ(cur:List D)(fs:List Fr):(gH cur fs).length=fs.length+1:=by
 induction fs generalizing cur with
 |nil=>rfl|cons f fs ih=>exact congrArg (· +1) (ih f.out)
def Fr.ok(f:Fr):Prop:=f.w=gP\/(f.w=qz/\f.ah=Ym)
theorem Ln(h:M.length<=n):dX M (.ref n) M'= .ok (.ref n) M':=by
 have hb:below M.length (.ref n)=false:=by show decide (n<M.length)=false;exact decide_eq_false (λz=>lB 2 25786650641 T1 z h)
 unfold dX;rw[hb];rfl
noncomputable abbrev Fr.pf(f:Fr)(cur:List D):Pf:=⟨f.w,[.tup f.t.flat],f.ah.toList,cur⟩
def Fr.done(f:Fr):Prop:=(f.w=gP/\∃a,f.ah=Ya a)\/(f.w=qz/\f.ah=Ym)
section
variable {n0:Nat} {S:Store} {s dr:Nat} {cur:List D} {fs:List Fr} {f:Fr}
theorem bV.top(K:bV n0 S s dr cur (f::fs))(hv:Za i env S= .ok (.ref s) S):e2 Zn (Za i) (e1 cu (eC (.int 1))) env S= .ok (.ref f.e) S:=by refine Zh hv (fM rfl (xU 1)) (iG K.hs ?_);rw[Yu,uP];exact getD_last _ _
theorem bV.top0(K:bV n0 S s dr cur (f::fs))(hv:Za i env S= .ok (.ref s) S):e2 Zn (e2 Zn (Za i) (e1 cu (eC (.int 1)))) (eC (.int 0)) env S= .ok (.str f.w) S:=Zh (K.top hv) rfl (iG (K.he f Yd) (fc _ 0))
theorem bV.Hh(K:bV n0 S s dr cur (f::fs))(hv:Za i env S= .ok (.ref s) S):e2 Zn (e2 Zn (Za i) (e1 cu (eC (.int 1)))) (eC (.int 3)) env S= .ok (ux f.ah) S:=Zh (K.top hv) rfl (iG (K.he f Yd) (fc _ 3))
theorem ZjS(K:bV n0 S s dr cur (f::fs))(hd:f.done)(hz:f.out.length<=1000):
  wk [.ref s,.ref dr] S= .ok (.ref (S.length+1)) (S++[.lst [(f.pf cur).whole],.lst (f.out++[(f.pf cur).whole])]):=by
 let E:bL:=[Ya (.ref s),Ya (.ref dr),Ya (.str f.w),Ya (.tup f.t.flat),Ya (.ref f.o),Ya (ux f.ah),Ym]
 have a1:qg (e2 Zn (Za 0) (e1 cu (eC (.int 1)))) [2,3,4,5] [Ya (.ref s),Ya (.ref dr),Ym,Ym,Ym,Ym,Ym] S= .nx E S:=by unfold qg;rw[K.top rfl];simp only[K.he f Yd];rfl
 have fin:∀{E':bL},E'=E.set 6 (Ya (f.pf cur).whole)->aY (e2 aR (Za 4) (bh (Zb (Za 6) (Zf)))) E' S= .rt (.ref (S.length+1)) (S++[.lst [(f.pf cur).whole],.lst (f.out++[(f.pf cur).whole])]):=λh=>by subst h;refine di ((Zh rfl (cY (Zx rfl rfl) rfl) (Lb (bQ (K.ho f Yd) _) (Zq _ _ _) (by simp;exact lA 1 0xdbb9f5b003e83b001 T1 hz))).trans ?_);simp
 refine(jC (M':=S++[.lst [(f.pf cur).whole],.lst (f.out++[(f.pf cur).whole])]) (env:=[Ya (.ref s),Ya (.ref dr),Ym,Ym,Ym,Ym,Ym]) ?_).trans (Ln (vy _));unfold Te;refine(Zi a1).trans ?_;have t1:aB gB (Zb (Za 1) (Zf)) E S= .ok (.tup cur) S:=b8 rfl (o4 K.hc);refine(Zi (Zo (d:=.tup [.str f.w,.tup f.t.flat,.tup cur]) (M':=S) (lU (Zx rfl (Zx rfl (Zx t1 rfl))) rfl))).trans ?_;rcases hd with⟨hw,a,ea⟩|⟨hw,ea⟩
 .refine(Zi ((e_ (M':=S) (Zh rfl rfl (iM.trans (by rw[decide_eq_true hw])))).trans (Zo (d:=(f.pf cur).whole) (M':=S) ((lU (ds:=[.str f.w,.tup f.t.flat,ux f.ah,.tup cur]) (Zx rfl (Zx rfl (Zx rfl (Zx (b8 rfl (o4 K.hc)) rfl)))) rfl).trans ?_)))).trans (fin rfl);simp[Pf.whole,ea,ux]
 .refine(Zi (cT (M':=S) (Zh rfl rfl (iM.trans (by rw[decide_eq_false (by rw[hw];decide)]))))).trans (fin ?_);simp[E,Pf.whole,ea]
theorem bV.CN(K:bV n0 S s dr cur fs)(hv:Za i env S= .ok (.ref s) S):e2 qt (Za i) (bh (Zf)) env S= .ok (.bl (!fs.isEmpty)) (S++[.lst []]):=by refine Zh hv (cY rfl rfl) ((Zqb (bQ K.hs _) (Zq _ _ _)).trans ?_);cases fs<;>simp
noncomputable def CP(way:Nat):List Fr->Bool
 |[]=>false|f::_=>decide (way=8)&&(decide (f.w=gP)&&f.ah.isNone)
noncomputable def isEnd(way:Nat):List Fr->Bool
 |[]=>false|f::_=>decide (7<way)&&(decide (f.w=qz)|| f.ah.isSome)
theorem Uh(a:Option (List D))(M:Store):nF (ux a) .non M= .ok (.bl a.isNone) M:=by cases a<;>simp[ux]
theorem Ztw(a:Option (List D))(M:Store):Ew (ux a) .non M= .ok (.bl a.isSome) M:=by cases a<;>simp[ux]
theorem ZqQ(K:bV n0 S s dr cur fs){way:Nat}(hv:∀M,Za 2 env M= .ok (.ref s) M)(h5:∀M,Za 5 env M= .ok (.int (way:Int)) M):
  ∃G,bD (e2 aW (Za 5) (eC (.int 8))) (bD (e2 qt (Za 2) (bh (Zf))) (bD (e2 aW (e2 Zn (e2 Zn (Za 2) (e1 cu (eC (.int 1)))) (eC (.int 0))) (eC (.str [119,104,101,110]))) (e2 nF (e2 Zn (e2 Zn (Za 2) (e1 cu (eC (.int 1)))) (eC (.int 3))) (eC .non)))) env S= .ok (.bl (CP way fs)) (S++G):=by
 by_cases h8:way=8
 .refine⟨[.lst []],?_⟩;rw[iH (M1:=S) (Zh (h5 S) rfl (rE (qT (iN [_] [] 1 0x81b08881b021 T1 h8) (iN [_] [] 1 9353239310385 T1 h8))))];cases fs with
  |nil=>exact lV (K.CN (hv S))|cons f fs=>
   rw[iH (K.CN (hv S))];have K1:=K.app [MO.lst []];by_cases hw:f.w=gP
   .rw[iH (Zh (K1.top0 (hv _)) rfl (iM.trans (by rw[decide_eq_true hw])))];refine(Zh (K1.Hh (hv _)) rfl (Uh f.ah _)).trans ?_;simp[CP,h8,hw]
   .rw[lV (Zh (K1.top0 (hv _)) rfl (iM.trans (by rw[decide_eq_false hw])))];simp[CP,hw]
 .refine⟨[],?_⟩;rw[lV (M1:=S) (Zh (h5 S) rfl (vK (λz=>iN [_] [] 2 0x681b01181b08b1 T1 z (Oz (iN [_] [] 1 0x81b0081b08a1 T1 z) h8)))),jX];cases fs<;>simp[CP,h8]
theorem Zpo(K:bV n0 S s dr cur fs){way:Nat}(hv:∀M,Za 2 env M= .ok (.ref s) M)(h5:∀M,Za 5 env M= .ok (.int (way:Int)) M):
  ∃G,bD (e2 cC (Za 5) (eC (.int 7))) (bD (e2 qt (Za 2) (bh (Zf))) (eN (e2 aW (e2 Zn (e2 Zn (Za 2) (e1 cu (eC (.int 1)))) (eC (.int 0))) (eC (.str [119,104,105,108,101]))) (e2 Ew (e2 Zn (e2 Zn (Za 2) (e1 cu (eC (.int 1)))) (eC (.int 3))) (eC .non)))) env S= .ok (.bl (isEnd way fs)) (S++G):=by
 by_cases h8:7<way
 .refine⟨[.lst []],?_⟩;rw[iH (M1:=S) (Zh (h5 S) rfl (by rw[jf,decide_eq_true (by exact iN [_] [] 1 9284528577297 T1 h8)]))];cases fs with
  |nil=>exact lV (K.CN (hv S))|cons f fs=>
   rw[iH (K.CN (hv S))];have K1:=K.app [MO.lst []];by_cases hw:f.w=qz
   .rw[Fj (Zh (K1.top0 (hv _)) rfl (iM.trans (by rw[decide_eq_true hw])))];simp[isEnd,h8,hw]
   .rw[o5 (Zh (K1.top0 (hv _)) rfl (iM.trans (by rw[decide_eq_false hw])))];refine(Zh (K1.Hh (hv _)) rfl (Ztw f.ah _)).trans ?_;simp[isEnd,h8,hw]
 .refine⟨[],?_⟩;rw[lV (M1:=S) (Zh (h5 S) rfl (by rw[jf,decide_eq_false (by exactλz=>iN [_] [] 2 0x6071b510871b91 T1 z h8)])),jX];cases fs<;>simp[isEnd,h8]
end
structure Zuc(n0:Nat)(cs:List Int)(c d:Nat)(S S':Store)(s n' bI:Nat)(r:Rw)(cur:List D)(fs:List Fr)(cur':List D)(fs':List Fr)(at' k:Nat):Prop where
 out:S'[n']?=Ya (.lst [.str (glue [32] r.words),.ref bI])
 g_:bV n0 S' s bI cur' fs'
 dk:dw cs c d at' S'
 ok:fC r
 st:jR r (gH cur fs)=Ya (gH cur' fs')
 fr:∀f∈fs',f.ok
 le:fs'.length<=12
 bd:cur'.length<=k+1/\∀f∈fs',f.out.length<=k+1
 old:∀a,a<S.length->a≠d->a∉gG s fs->S'[a]?=S[a]?
 len:S.length<=S'.length
theorem Zrc:fC ⟨gj,[],[]⟩:=⟨rfl,rfl,(λx h=>nomatch h),⟨(λt h=>nomatch h),by decide,by decide⟩,by decide⟩
theorem ZpL:fC ⟨gQ,[],[]⟩:=⟨rfl,rfl,(λx h=>nomatch h),⟨(λt h=>nomatch h),by decide,by decide⟩,by decide⟩
variable{cur:List D}
theorem ZlS{fs:List Fr}(hw:f.w=gP)(ha:f.ah=Ym):jR ⟨gj,[],[]⟩ (gH cur (f::fs))=Ya (gH [] ({f with ah:=Ya cur}::fs)):=by show stepK _ (f.pf cur) (gH f.out fs)=_;unfold stepK;rw[if_neg (by decide),if_pos rfl,if_pos ⟨hw,by simp[ha]⟩];rfl
theorem Ui(fs:List Fr)(x:List D)(w:D):∃k ks,gH x fs=k::ks/\k.cur=x/\gH (x++[w]) fs=⟨k.h,k.hd,k.cl,k.cur++[w]⟩::ks:=by
 cases fs with
 |nil=>exact⟨_,_,rfl,rfl,rfl⟩|cons f fs=>exact⟨_,_,rfl,rfl,rfl⟩
theorem Zlz{fs:List Fr}(hd:f.done)(hz:f.out.length<1000):jR ⟨gQ,[],[]⟩ (gH cur (f::fs))=Ya (gH (f.out++[(f.pf cur).whole]) fs):=by
 obtain⟨k,ks,e1,e2,e3⟩:=Ui fs f.out (f.pf cur).whole;show stepK _ (f.pf cur) (gH f.out fs)=_;rw[e1,e3];unfold stepK;rw[if_neg (by decide),if_neg (by decide),if_pos rfl];refine if_pos ⟨?_,(show 1<100 by decide),?_,by rw[e2];exact hz⟩
 .rcases hd with⟨hw,a,ea⟩|⟨hw,ea⟩
  .show wA f.w=((f.ah.toList.length+1:Nat):Int);rw[hw,ea];rfl
  .show wA f.w=((f.ah.toList.length+1:Nat):Int);rw[hw,ea];rfl
 .show f.ah.toList.length<100;cases f.ah with
  |none=>exact(show 0<100 by decide)|some _=>exact(show 1<100 by decide)
theorem Zmm{fs:List Fr}(hp:Znp r)(hz:cur.length<1000):jR r (gH cur fs)=Ya (gH (cur++[.tup r.deed]) fs):=by obtain⟨k,ks,e1,e2,e3⟩:=Ui fs cur (.tup r.deed);rw[e1,e3];show stepK r k ks=_;unfold stepK;rw[if_neg (by rw[hp.b];decide),if_neg hp.e,if_neg hp.n];exact if_pos (by rw[e2];exact hz)
theorem Zpx{w:List Nat}{t:Sm}{fs:List Fr}{o:Nat}(hw:n_ w=true)(hl:fs.length<12):jR ⟨w,[],[t]⟩ (gH cur fs)=Ya (gH [] (⟨e,o,w,t,cur,Ym⟩::fs)):=by
 obtain⟨k,ks,e1,_,_⟩:=Ui fs cur .non;have hk:ks.length=fs.length:=by have:=ZpQ cur fs;rw[e1,Yp]at this;exact Y4 (lB 1 1102226000929 T1 this) (lB 1 71433849905 T1 this)
 rw[show gH [] (⟨e,o,w,t,cur,Ym⟩::fs)=⟨w,[.tup t.flat],[],[]⟩::gH cur fs from rfl,e1];show stepK _ k ks=_;unfold stepK;rw[if_pos hw];exact if_pos (lB 2 0xc1ba0c0c1b1111021 T1 hk hl)
section
variable {n0:Nat} {S:Store} {s dr:Nat} {cur:List D} {fs:List Fr} {cs:List Int} {c d ao:Nat}
theorem Gz{L:List Nat}(h:∀a∈L,a<n){x:Nat}(hx:n<=x):x∉L:=λz=>by have:=h x z;exact lB 2 25786650641 T1 this hx
theorem len_app(M G:Store):M.length<=(M++G).length:=by rw[Ye];exact jc _ _
theorem Uj{q q':D->D->Store->R3 D}{f g h:E3}{x y z r:D}(h1:f env M= .ok x M)(h2:g env M= .ok y M)(h3:q x y M= .ok (.bl true) M)(h4:h env M= .ok z M)(h5:q' y z M= .ok r M):pB q q' f g h env M= .ok r M:=by simp only[pB,h1,h2,h3,h4,h5,R3.bind]
theorem ZrT{q q':D->D->Store->R3 D}{f g h:E3}{x y:D}(h1:f env M= .ok x M)(h2:g env M= .ok y M)(h3:q x y M= .ok (.bl false) M):pB q q' f g h env M= .ok (.bl false) M:=by simp only[pB,h1,h2,h3,R3.bind]
theorem Zs0{v x0 x1 x2 x3:D}(h:M[n]?=Ya (.lst [x0,x1,x2,x3])):Q9 v (.ref n) (.int 3) M= .ok .non (M.set n (.lst [x0,x1,x2,v])):=by simp only[Zjs,h];rfl
theorem ZuH{nr k:Nat}(K:bV n0 S s dr cur fs)(dk:dw cs c d ao S)(hnr:S[nr]?=Ya (.lst (names.map D.str)))(nd:nr≠d)(hn:names.length=12)(hnm:∀x∈names,gC x)(hd0:c<n0/\d<n0)(hn0:n0<=S.length)(GD:∀f∈fs,f.ok)(hlen:fs.length<=12)(hb:cur.length<=k/\∀f∈fs,f.out.length<=k)(hk:k<900)(ha:ao+200<1000000):
  ∃(r:Rw) (S':Store) (n' bI:Nat) (cur':List D) (fs':List Fr) (at':Nat),yI [.ref d,.ref nr,.ref s,.ref dr] S= .ok (.ref n') S'/\Zuc n0 cs c d S S' s n' bI r cur fs cur' fs' at' k/\at'<=ao+121:=by
 obtain⟨v,S1,hv,D1,uy,l1⟩:=dk.draw (lA 1 0xf42405b01f42405bc82b0c11 T1 ha);have K1:=K.kp hd0.2 uy;obtain⟨way,ew,Ad9⟩:=mY v 10 (by decide);have ew:v % 10=(way:Int):=ew
 let E:bL:=[Ya (.ref d),Ya (.ref nr),Ya (.ref s),Ya (.ref dr),Ya (.int v),Ya (.int (way:Int)),Ym,Ym,Ym]
 obtain⟨GA,cA⟩:=ZqQ K1 (env:=E) (way:=way) (λ_=>rfl) (λ_=>rfl);have h0:∀{rest:S3} {o:O3},rest E S1=o->Zr (au 4 (aN iu (Zb (Za 0) (Zf)))) (Zr (au 5 (e2 Zy (Za 4) (eC (.int 10)))) rest) [Ya (.ref d),Ya (.ref nr),Ya (.ref s),Ya (.ref dr),Ym,Ym,Ym,Ym,Ym] S=o:=λh=>(Zi (Zo (d_ rfl hv))).trans ((Zi (Zo (d:=.int (way:Int)) (Zh rfl rfl ((dY (by decide)).trans (by rw[ew]))))).trans h);have fin:∀{n':Nat} {S':Store},S.length<=n'->yH [Ya (.ref d),Ya (.ref nr),Ya (.ref s),Ya (.ref dr),Ym,Ym,Ym,Ym,Ym] S= .rt (.ref n') S'->yI [.ref d,.ref nr,.ref s,.ref dr] S= .ok (.ref n') S':=λhl h=>(jC h).trans (Ln hl)
 let S2:=S1++GA
 have K2:bV n0 S2 s dr cur fs:=K1.app GA;have D2:dw cs c d (ao+1) S2:=D1.app GA;have VD:∀a,a<S.length->a≠d->S2[a]?=S[a]?:=λa h1 h2=>by show(S1++GA)[a]?=_;rw[Yi (by exact lC 2 2203623428113 T1 h1 l1)];exact uy.old a h1 h2
 have zb:S.length<=S2.length:=by show _<=(S1++GA).length;rw[Ye];exact lC 1 8792313905 T1 l1
 cases hA:CP way fs with
 | true=>
  rw[hA]at cA;cases fs with
  |nil=>cases hA|cons f fs=>
   simp only[CP,Y5,decide_eq_true_eq,Option.isNone_iff_eq_none]at hA;obtain⟨_,hw,hah⟩:=hA;have K3:=K2.els cur
   let S3:=S2.set f.e (Fr.obj {f with ah:=Ya cur})
   have hm:f.e∈gG s (f::fs):=Yc _ Yd;have l3:S3.length=S2.length:=sE ..
   let S4:=S3++[MO.lst []]++[MO.lst [.str gj,.ref S3.length]]
   have g0:S4[S3.length]?=Ya (.lst []):=bQ (Zq _ _ _) _;have K4:bV n0 S4 s S3.length [] ({f with ah:=Ya cur}::fs):=((K3.app _).app _).now g0 (lD 3 0x30230112011031 T1 l3 zb hn0) (Gz K3.lt.1 (Ys _));have p1:rm (e2 Zn (Za 2) (e1 cu (eC (.int 1)))) (eC (.int 3)) (aB gB (Zb (Za 3) (Zf))) E S2= .nx E S3:=qe (d:=.non) (Zwe (b8 rfl (o4 K2.hc)) (K2.top rfl) rfl (Zs0 (K2.he f Yd)));have r1:aY (bh (Zb (eC (.str [101,108,115,101])) (Zb (bh (Zf)) (Zf)))) E S3= .rt (.ref (S3.length+1)) S4:=di ((cY (M':=S3++[.lst []]) (ds:=[.str gj,.ref S3.length]) (Zx rfl (Zx (cY rfl rfl) rfl)) rfl).trans (by rw[Ye];rfl));refine⟨⟨gj,[],[]⟩,S4,S3.length+1,S3.length,[],_,ao+1,fin (lC 2 0xa0c2012011031 T1 l3 zb) ?_,⟨?_,K4,((D2.put (by have:=K2.lo.2.1 _ hm;exactλz=>lC 3 0x6211102011021 T1 z this hd0.2) (by have:=K2.lo.2.1 _ hm;exactλz=>lC 3 0x6211102011021 T1 z this hd0.1) _).app _).app _,Zrc,ZlS hw hah,?_,hlen,⟨eZ _,λg hg=>?_⟩,λa h1 h2 h3=>?_,?_⟩,lA 0 520413290688 T1⟩
   .unfold yH;exact h0 (rC ((e_ cA).trans ((Zi p1).trans r1)))
   .have:=Zq (S3++[MO.lst []]) (MO.lst [.str gj,.ref S3.length]) [];rw[Ye]at this;exact this
   .intro g hg;rcases Yo.mp hg with e|e
    .rw[e];exact .inl hw
    .exact GD g (Yc _ e)
   .rcases Yo.mp hg with e|e
    .rw[e];exact qQ (hb.2 f Yd)
    .exact qQ (hb.2 g (Yc _ e))
   .show(S3++[MO.lst []]++[MO.lst [.str gj,.ref S3.length]])[a]?=_;rw[jl,Yi (by exact lD 3 0x201310132311011 T1 h1 l3 zb)];exact(Yr λ(z:f.e=a)=>h3 (z▸hm)).trans (VD a h1 h2)
   .show S.length<=(S3++[MO.lst []]++[MO.lst [.str gj,.ref S3.length]]).length;rw[Ye,Ye];exact lE 2 0x430cc2012011031 T1 l3 zb
 | false=>
  rw[hA]at cA;obtain⟨GB,cB⟩:=Zpo K2 (env:=E) (way:=way) (λ_=>rfl) (λ_=>rfl)
  let S3:=S2++GB
  have K3:bV n0 S3 s dr cur fs:=K2.app GB;have D3:dw cs c d (ao+1) S3:=D2.app GB;have jk:S.length<=S3.length:=by show _<=(S2++GB).length;rw[Ye];exact lC 1 9059700737 T1 zb
  have old3:∀a,a<S.length->a≠d->S3[a]?=S[a]?:=λa h1 h2=>by show(S2++GB)[a]?=_;rw[Yi (Y7 h1 zb)];exact VD a h1 h2
  have VF:S3[nr]?=Ya (.lst (names.map D.str)):=(old3 nr (Yf.mp hnr).1 nd).trans hnr;cases hB:isEnd way fs with
  | true=>
   rw[hB]at cB;cases fs with
   |nil=>cases hB|cons f fs=>
    simp only[isEnd,Y5,xr,decide_eq_true_eq]at hB;have hf:=GD f Yd;have hdone:f.done:=by
     rcases hB.2 with z|z
     .rcases hf with q|q
      .rw[z]at q;exact absurd q (by decide)
      .exact .inr q
     .obtain⟨a,ea⟩:=Hj.mp z;rcases hf with q|q
      .exact .inl ⟨q,a,ea⟩
      .rw[q.2]at ea;cases ea
    have hol:=hb.2 f Yd;have ce:=ZjS K3 hdone (lB 2 0x3e83b003843b1111001 T1 hol hk)
    let W:=(f.pf cur).whole
    let S4:=S3++[MO.lst [W],MO.lst (f.out++[W])]
    have K4:=K3.app [MO.lst [W],MO.lst (f.out++[W])];have g1:S4[S3.length+1]?=Ya (.lst (f.out++[W])):=by show(S3++_)[_]?=_;rw[rD];rfl
    have K5:=K4.pop g1 (lC 2 0xa1c2002011001 T1 jk hn0) (Gz K3.lt.1 (vy _))
    let S5:=S4.set s (.lst (fs.map λf=>D.ref f.e).reverse)
    have l5:S5.length=S3.length+2:=by show(S4.set s _).length=_;rw[sE];show(S3++_).length=_;rw[Ye];rfl
    let S6:=S5++[MO.lst [.str gQ,.ref (S3.length+1)]]
    have Uk:S4[s]?=Ya (.lst ((fs.map λf=>D.ref f.e).reverse++[D.ref f.e])):=by rw[K4.hs,Yu,uP]
    refine⟨⟨gQ,[],[]⟩,S6,S5.length,S3.length+1,f.out++[W],fs,ao+1,fin (lC 2 9026995324305457 T1 l5 jk) ?_,⟨Zq _ _ _,K5.app _,((D3.app _).put (by have:=K3.lo.2.1 s Yd;exactλz=>lC 3 0x6211102011021 T1 z this hd0.2) (by have:=K3.lo.2.1 s Yd;exactλz=>lC 3 0x6211102011021 T1 z this hd0.1) _).app _,ZpL,Zlz hdone (lB 2 0x3e83b013843b1111001 T1 hol hk),λg hg=>GD g (Yc _ hg),by rw[Yp]at hlen;exact lA 1 0xc1b00c1ba0c01 T1 hlen,⟨by rw[Ye];exact oO hol,λg hg=>qQ (hb.2 g (Yc _ hg))⟩,λa h1 h2 h3=>?_,?_⟩,lA 0 520413290688 T1⟩
    .unfold yH;refine h0 ((Zi (cT cA)).trans (rC ((e_ cB).trans ((Zi (Zo (tY rfl rfl ce))).trans ((Zi (qe (Lf rfl Uk))).trans ?_)))));exact di (cY (Zx rfl (Zx rfl rfl)) rfl)
    .show(S5++_)[a]?=_;rw[Yi (by exact lD 3 0x201310121b3c2311011 T1 h1 l5 jk)];refine(Yr λ(z:s=a)=>h3 (z▸Yd)).trans ?_;show(S3++_)[a]?=_;rw[Yi (Y7 h1 jk)];exact old3 a h1 h2
    .show S.length<=(S5++_).length;rw[Ye];omega
  | false=>
   rw[hB]at cB;by_cases hC:(5<=way/\way<8)/\fs.length<12
   .have ch:bD (pB nD dF (eC (.int 5)) (Za 5) (eC (.int 8))) (e2 dF (aB a_ (Zb (Za 2) (Zf))) (eC (.int 12))) E S3= .ok (.bl true) S3:=by
     have c1:pB nD dF (eC (.int 5)) (Za 5) (eC (.int 8)) E S3= .ok (.bl true) S3:=by exact Uj rfl rfl (JW (by omega)) rfl (by rw[lM,decide_eq_true (by omega)])
     rw[iH c1];exact Zh (b8 rfl (j7 K3.hs)) rfl (by rw[lM,decide_eq_true (by simp;exact iN [_] [] 1 0xc1b089c1b011 T1 hC.2)])
    obtain⟨b,eb,hb6⟩:=mY (v / 30) 6 (by decide);have eb:v / 30 % 6=(b:Int):=eb;obtain⟨m,em,hm9⟩:=mY (v / 10) 9 (by decide);have em:v / 10 % 9=(m:Int):=em;obtain⟨t,S4,yQ,f1,f2,f3,f4,D4⟩:=Uc (M:=S3) (most:=1+m) (deep:=1+b) D3 VF nd hn hnm (lA 1 0x3c2b0ac091b011 T1 hm9) (jc _ _) (jc _ _) (lA 1 0xf42405b3c2ba0cc1f42405bc82b0c11 T1 ha);have K4:=K3.kp hd0.2 D4.kp;obtain⟨w,hw1,hw2⟩:∃w:List Nat,[D.str gP,.str gP,.str qz][way-5]?=Ya (.str w)/\(w=gP\/w=qz):=by
     match way-5,(show way-5<3 by exact lB 2 0x31b11051b1c2181b011 T1 hC.1.2 (gZ hC.1.1))with
     |0,_=>exact⟨gP,rfl,.inl rfl⟩|1,_=>exact⟨gP,rfl,.inl rfl⟩|2,_=>exact⟨qz,rfl,.inr rfl⟩
    let S5:=S4++[MO.lst [.str gP,.str gP,.str qz]]
    have K5:bV n0 S5 s dr cur fs:=K4.app _;have zc:S3.length<=S5.length:=Yj D4.kp.len (len_app S4 _);have K6:=K5.push (lD 3 85606880155602945 T1 zc jk hn0) w t
    let F:Fr:=⟨S5.length,dr,w,t,cur,Ym⟩
    let S6:=(S5++[F.obj]).set s (.lst ((fs.map λf=>D.ref f.e).reverse++[.ref S5.length]))
    have l6:S6.length=S5.length+1:=by show((S5++_).set s _).length=_;rw[sE,Ye];rfl
    let S7:=S6++[MO.lst []]
    have rO:fC ⟨w,[],[t]⟩:=by
     rcases hw2 with rfl|rfl
     .exact Ue rfl (by decide) f1 (lB 2 0x61b0061b1111ac001 T1 f2 hb6) (lB 2 0x322b0091b1111ac001 T1 f3 hm9)
     .exact Ue rfl (by decide) f1 (lB 2 0x61b0061b1111ac001 T1 f2 hb6) (lB 2 0x322b0091b1111ac001 T1 f3 hm9)
    let S8:=S7++[MO.lst [.str (glue [32] (Rw.words ⟨w,[],[t]⟩)),.ref (S5.length+1)]]
    have wbl:n_ w=true:=by rcases hw2 with rfl|rfl <;>rfl
    refine⟨⟨w,[],[t]⟩,S8,S7.length,S5.length+1,[],F::fs,yQ,fin (by show _<=(S6++_).length;rw[Ye];exact lE 3 0x40c3023011201a1c031 T1 l6 zc jk) ?_,⟨Zq _ _ _,K6.app _,(((((D4.dk.app _).app _).put (by have:=K3.lo.2.1 s Yd;exactλz=>lC 3 0x6211102011021 T1 z this hd0.2) (by have:=K3.lo.2.1 s Yd;exactλz=>lC 3 0x6211102011021 T1 z this hd0.1) _).app _).app _),rO,Zpx wbl hC.2,λg hg=>?_,by rw[Yp];exact lA 1 0xc1ba0c0c1b011 T1 hC.2,⟨eZ _,λg hg=>?_⟩,λa h1 h2 h3=>?_,?_⟩,by have:=D4.le;exact lB 1 0x792b1c003c2ba1cc001 T1 this⟩
    .unfold yH;refine h0 ((Zi (cT cA)).trans ((Zi (cT cB)).trans (rC ((e_ ch).trans ?_))));refine(Zi (Zo (d:=.tup t.flat) (M':=S4) (Fi rfl rfl (c:=.int ((1+b:Nat):Int)) (Zh rfl (Zh (Zh rfl rfl (iJ (by decide))) rfl (dY (by decide))) (by rw[tR,eb];congr 2)) (d:=.int ((1+m:Nat):Int)) (Zh rfl (Zh (Zh rfl rfl (iJ (by decide))) rfl (dY (by decide))) (by rw[tR,em];congr 2)) f4))).trans ?_;refine(Zi (Zo (d:=.str w) (M':=S5) (Zh (cY (ds:=[.str gP,.str gP,.str qz]) rfl rfl) (b:=.int ((way-5:Nat):Int)) (Zh rfl rfl (by rw[QZ];congr 2;exact qT (iN [_,_] [] 1 0x1851b08f851b1c001 T1 (g8 _ _)) (iN [_,_] [] 1 0x51b18f088151b0c21 T1 (gZ hC.1.1)))) (iG (Zq _ _ _) (by rw[fc];exact hw1))))).trans ?_;refine(Zi (m5 (M':=S5) (M2:=S5++[F.obj]) (d:=.ref S5.length) rfl K5.hs (cY (ds:=[.str w,.tup t.flat,.ref dr,.non]) rfl rfl) (bQ K5.hs _) (by simp only[Dm,Yv];exact sU (show fs.length<=12 by exact zK hC.2) (by decide)))).trans ?_;refine di ((cY (M':=S7) (ds:=[.str (glue [32] (Rw.words ⟨w,[],[t]⟩)),.ref (S5.length+1)]) (Zx (d_ (M1:=S6) (a:=.tup (Rw.deed ⟨w,[],[t]⟩)) (lU rfl rfl) (Zlv rO S6)) (Zx ((cY rfl rfl).trans (by rw[l6])) rfl)) rfl))
    .rcases Yo.mp hg with e|e
     .rw[e];rcases hw2 with q|q
      .exact .inl q
      .exact .inr ⟨q,rfl⟩
     .exact GD g e
    .rcases Yo.mp hg with e|e
     .rw[e];exact qQ hb.1
     .exact qQ (hb.2 g e)
    .show(S7++_)[a]?=_;rw[Yi (by show a<(S6++_).length;rw[Ye];exact lF 4 0x52c0141013401a3c2311011 T1 h1 l6 zc jk)];show(S6++_)[a]?=_;rw[Yi (by exact lE 4 0x20141013401a3c2311011 T1 h1 l6 zc jk)];refine(Yr λ(z:s=a)=>h3 (z▸Yd)).trans ?_;rw[Yi (by exact lD 3 0x301210132011011 T1 h1 zc jk)];show(S4++_)[a]?=_;rw[Yi (by have:=D4.kp.len;exact lD 3 81349571939209217 T1 this h1 jk)];exact(D4.kp.old a (Y7 h1 jk) h2).trans (old3 a h1 h2)
    .show S.length<=(S7++_).length;rw[Ye];show S.length<=(S6++_).length+_;rw[Ye];exact lF 3 0x540cc3023011201a1c031 T1 l6 zc jk
   .have ch:∃G,bD (pB nD dF (eC (.int 5)) (Za 5) (eC (.int 8))) (e2 dF (aB a_ (Zb (Za 2) (Zf))) (eC (.int 12))) E S3= .ok (.bl false) (S3++G):=by
     refine⟨[],?_⟩;rw[jX];by_cases q1:5<=way
     .by_cases q2:way<8
      .have c1:pB nD dF (eC (.int 5)) (Za 5) (eC (.int 8)) E S3= .ok (.bl true) S3:=by
        exact Uj rfl rfl (JW (iN [_] [] 1 9147072715521 T1 q1)) rfl (by rw[lM,decide_eq_true (by exact iN [_] [] 1 0x81b08981b011 T1 q2)])
       rw[iH c1];exact Zh (b8 rfl (j7 K3.hs)) rfl (by rw[lM,decide_eq_false (by simp;omega)])
      .have c1:pB nD dF (eC (.int 5)) (Za 5) (eC (.int 8)) E S3= .ok (.bl false) S3:=by
        exact Uj rfl rfl (JW (iN [_] [] 1 9147080880209 T1 q2)) rfl (by rw[lM,decide_eq_false (by exactλz=>iN [_] [] 2 0x681b05181b0891 T1 z q2)])
       exact lV c1
     .have c1:pB nD dF (eC (.int 5)) (Za 5) (eC (.int 8)) E S3= .ok (.bl false) S3:=by
       exact ZrT rfl rfl (Zxx (λz=>iN [_] [] 2 0x6051b410851b81 T1 z q1))
      exact lV c1
    obtain⟨GC,ch⟩:=ch
    let rP:=S3++GC
    obtain⟨r,S4,yQ,rO,rpl,f4,D4⟩:=Zrq (M:=rP) (D3.app _) (bQ VF _) nd hn hnm (lA 1 0xf42405b782ba0cc1f42405bc82b0c11 T1 ha) (v / 10);have K4:=(K3.app GC).kp hd0.2 D4.kp;have Dg:S3.length<=S4.length:=Yj (len_app S3 GC) D4.kp.len
    let S5:=S4++[MO.lst [.tup r.deed]]++[MO.lst (cur++[.tup r.deed])]
    have g5:S5[S4.length+1]?=Ya (.lst (cur++[.tup r.deed])):=by have:=Zq (S4++[MO.lst [.tup r.deed]]) (MO.lst (cur++[.tup r.deed])) [];rw[Ye]at this;exact this
    have K5:bV n0 S5 s (S4.length+1) (cur++[.tup r.deed]) fs:=((K4.app _).app _).now g5 (lD 3 0xa1c30230102011001 T1 Dg jk hn0) (Gz K4.lt.1 (vy _))
    let S6:=S5++[MO.lst [.str (glue [32] r.words),.ref (S4.length+1)]]
    have hbc:=hb.1;have l5:S5.length=S4.length+2:=by show(S4++_++_).length=_;rw[Ye,Ye];rfl
    refine⟨r,S6,S5.length,S4.length+1,cur++[.tup r.deed],fs,yQ,fin (lD 3 0x302301120121b1c031 T1 l5 Dg jk) ?_,⟨Zq _ _ _,K5.app _,((D4.dk.app _).app _).app _,rO,Zmm rpl (lB 2 0x3e83b013843b1111001 T1 hbc hk),GD,hlen,⟨by rw[Ye];exact oO hbc,λg hg=>qQ (hb.2 g hg)⟩,λa h1 h2 h3=>?_,?_⟩,by have:=D4.le;exact lB 1 0x792b1c00782ba1cc001 T1 this⟩
    .unfold yH;refine h0 ((Zi (cT cA)).trans ((Zi (cT cB)).trans ((Zi (cT ch)).trans ?_)));refine(Zi (Zo (d:=.tup r.deed) (M':=S4) (Zty rfl rfl (Zh rfl rfl (iJ (by decide))) f4))).trans ?_;refine di (cY (M':=S5) (Zx (d_ rfl (Zlv rO S4)) (Zx ((Zh rfl (cY (Zx rfl rfl) rfl) (Lb (bQ K4.hc _) (Zq _ _ _) (by simp;exact lB 2 0xdbb9f5b003843b1111001 T1 hbc hk))).trans (by rw[Ye];rfl)) rfl)) rfl)
    .show(S5++_)[a]?=_;rw[Yi (by exact lE 4 0x2014101340121b3c2311011 T1 h1 l5 Dg jk)];show(S4++_++_)[a]?=_;rw[jl,Yi (by exact lD 3 0x301210132011011 T1 h1 Dg jk)];refine(D4.kp.old a (by show a<(S3++GC).length;rw[Ye];exact lD 2 892808290439185 T1 h1 jk) h2).trans ?_;show(S3++GC)[a]?=_;rw[Yi (Y7 h1 jk)];exact old3 a h1 h2
    .show S.length<=(S5++_).length;rw[Ye];exact lE 3 0x40c302301120121b1c031 T1 l5 Dg jk
end
noncomputable def qF:Nat->List Fr->List Fr
 |_,[]=>[]|n,f::L=>{f with e:=n}::qF (n+1) L
noncomputable def Fr.strip(f:Fr):List Nat×Sm×List D×Option (List D):=(f.w,f.t,f.out,f.ah)
theorem ZpI:∀(n:Nat) (L:List Fr),(qF n L).map (·.e)=uU n L.length
 |_,[]=>rfl|n,_::L=>by rw[qF,Yu,ZpI (n+1) L,Yp,WR]
theorem ZjB:∀(n:Nat) (L:List Fr),(qF n L).map Fr.strip=L.map Fr.strip
 |_,[]=>rfl|n,_::L=>by rw[qF,Yu,ZjB (n+1) L];rfl
theorem Zn7:∀(n:Nat) (L:List Fr),∀g∈qF n L,∃f∈L,∃j,L[j]?=Ya f/\g={f with e:=n+j}
 |_,[],_,h=>nomatch h|n,f::L,g,h=>by
  rcases Yo.mp h with e|e
  .exact⟨f,Yd,0,rfl,e⟩
  .obtain⟨f',h1,j,h2,h3⟩:=Zn7 (n+1) L g e;exact⟨f',Yc _ h1,j+1,h2,by rw[h3,pQ,kZ 1 j]⟩
theorem Zih:∀(fs gs:List Fr) (cur:List D),fs.map Fr.strip=gs.map Fr.strip->gH cur fs=gH cur gs
 |[],[],_,_=>rfl|[],_::_,_,h=>nomatch h|_::_,[],_,h=>nomatch h|f::fs,g::gs,cur,h=>by have h1:f.strip=g.strip:=(iV h).1;have h2:=(iV h).2;simp only[Fr.strip,Qe]at h1;show f.pf cur::gH f.out fs=g.pf cur::gH g.out gs;rw[Zih fs gs f.out h2,h1.2.2.1];simp only[Fr.pf,h1.1,h1.2.1,h1.2.2.2]
theorem ZjO{S:Store}{it:fV}(hit:∀G,locked it (S++G)=true):∀(L:List Fr) (acc:List D) (G:Store) (a0 a1 a2 a3 a4 a5 a6 a7 a8 a9 a10 a11 x:Option D),(∀f∈L,S[f.e]?=Ya f.obj)->acc.length+L.length<=100 ->
  iZ it (cj 12) [] (aB tU (Zb (Za 12) (Zf))) S.length (L.map λf=>D.ref f.e) [a0,a1,a2,a3,a4,a5,a6,a7,a8,a9,a10,a11,x] (S++ .lst acc::G)= .ok (.ref S.length) (S++ .lst (acc++(qF (S.length+1+G.length) L).map λf=>D.ref f.e)::(G++L.map Fr.obj))
 |[],acc,G,a0,a1,a2,a3,a4,a5,a6,a7,a8,a9,a10,a11,x,_,_=>by rw[sG,Rb,if_pos (hit _)];simp[qF]|f::L,acc,G,a0,a1,a2,a3,a4,a5,a6,a7,a8,a9,a10,a11,x,hL,hl=>by
  rw[Yp]at hl
  let T:=S++ .lst acc::G
  have lT:T.length=S.length+1+G.length:=by simp[T];exact Y4 (lB 0 1790139547840 T1) (lB 0 0xa1c0c1a0cc0 T1)
  have ih:=ZjO hit L (acc++[.ref T.length]) (G++[f.obj]) a0 a1 a2 a3 a4 a5 a6 a7 a8 a9 a10 a11 (Ya (.ref f.e)) (λg hg=>hL g (Yc _ hg)) (by simp;exact lB 1 0x642b1a0cc0642ba1c0c01 T1 hl);have hb:aB tU (Zb (Za 12) (Zf)) [a0,a1,a2,a3,a4,a5,a6,a7,a8,a9,a10,a11,Ya (.ref f.e)] T= .ok (.ref T.length) (T++[f.obj]):=by refine b8 rfl ?_;show(match T[f.e]? with|some (.lst x)=>alloc (.lst x) T|_=>.bad)=_;rw[show T[f.e]?=Ya f.obj from bQ (hL f Yd) _];rfl
  have gt:(T++[f.obj])[S.length]?=Ya (.lst acc):=bQ (Zq _ _ _) _;have lt:acc.length<SZ:=sU (show acc.length<=100 by exact lB 1 0x642b00642ba1c0c01 T1 hl) (by decide);have st:(T++[f.obj]).set S.length (.lst (acc++[.ref T.length]))=S++ .lst (acc++[.ref T.length])::(G++[f.obj]):=by simp[T]
  rw[Yu,JT,if_pos (hit _)];simp only[cj,oJ,oK,Fe,R3.bind,if_true];rw[show S++ .lst acc::G=T from rfl,hb];simp only[gt,lt,if_true,st];rw[ih];simp[qF,lT,pQ]
structure Kept(n0:Nat)(S S':Store)(s k dr:Nat)(cur:List D)(fs gs:List Fr):Prop where
 g_:bV n0 S' k dr cur gs
 st:gs.map Fr.strip=fs.map Fr.strip
 hi:∀a∈gG k gs,S.length<=a
 pre:S<+:S'
 oo:∀g∈gs,∀a∈gG s fs,a≠g.o
variable{dr:Nat}
theorem ZrG{n0:Nat}{fs:List Fr}(K:bV n0 S s dr cur fs)(hn:n0<=S.length)(hl:fs.length<=12){a0 a1 a2 a3 a4 a6 a7 a8 a9 a10 a11:Option D}:
  ∃S' gs,fL (cW (Za 5)) 1 (cj 12) [] (aB tU (Zb (Za 12) (Zf))) [a0,a1,a2,a3,a4,Ya (.ref s),a6,a7,a8,a9,a10,a11] S= .ok (.ref S.length) S'/\Kept n0 S S' s S.length dr cur fs gs:=by
 have hsl:(fs.map λf=>D.ref f.e).reverse=fs.reverse.map λf=>D.ref f.e:=Dn.symm;have hs:S[s]?=Ya (.lst (fs.reverse.map λf=>D.ref f.e)):=by rw[←hsl];exact K.hs
 have lp:=ZjO (S:=S) (it:=⟨fs.reverse.map λf=>D.ref f.e,Ya s⟩) (λG=>decide_eq_true (bQ hs G)) fs.reverse [] [] a0 a1 a2 a3 a4 (Ya (.ref s)) a6 a7 a8 a9 a10 a11 Ym (λf hf=>K.he f (NP.mp hf)) (by simp;exact lA 1 0x642b00c1b001 T1 hl);rw[jF,jF,zu,Ip]at lp
 let m:=S.length+1
 let S':=S++ .lst ((qF m fs.reverse).map λf=>D.ref f.e)::fs.reverse.map Fr.obj
 let gs:=(qF m fs.reverse).reverse
 have old:∀a,a<S.length->S'[a]?=S[a]?:=λa h=>Yi h;have mem:∀g∈gs,∃f∈fs,∃j,fs.reverse[j]?=Ya f/\g={f with e:=m+j}:=λg hg=>by obtain⟨f,h1,j,h2,h3⟩:=Zn7 m fs.reverse g (NP.mp hg);exact⟨f,NP.mp h1,j,h2,h3⟩
 have hi:∀a∈gG S.length gs,S.length<=a:=λa ha=>by
  rcases Yo.mp ha with e|e
  .exact jK e.symm
  .obtain⟨g,hg,rfl⟩:=gJ.mp e;obtain⟨f,_,j,_,rfl⟩:=mem g hg;show S.length<=m+j;omega
 have lt:=K.lt;refine⟨S',gs,?_,⟨?_,λg hg=>?_,λg hg=>?_,?_,?_,λa ha=>⟨?_,λg hg=>?_⟩,K.lo.1,λa ha=>Yj hn (hi a ha),λg hg=>?_⟩,?_,hi,WD _ _,λg hg a ha=>?_⟩
 .have hi0:cW (Za 5) [a0,a1,a2,a3,a4,Ya (.ref s),a6,a7,a8,a9,a10,a11] S= .ok ⟨fs.reverse.map λf=>D.ref f.e,Ya s⟩ S:=by
   show(R3.ok (D.ref s) S).bind _=_;simp only[R3.bind,hs]
  rw[Rc hi0];exact lp
 .refine(Zq S _ _).trans ?_;rw[Dn,Wx]
 .obtain⟨f,_,j,h2,rfl⟩:=mem g hg;show(S++_)[S.length+1+j]?=Ya f.obj;rw[pQ,rD,kZ 1 j,Dk,jV,h2];rfl
 .obtain⟨f,hf,j,_,rfl⟩:=mem g hg;exact(old f.o (lt.2.2 f hf)).trans (K.ho f hf)
 .exact(old dr lt.2.1).trans K.hc
 .refine iQ.mpr ⟨λz=>?_,?_⟩
  .obtain⟨g,hg,e⟩:=gJ.mp z;obtain⟨f,_,j,_,rfl⟩:=mem g hg;have e:m+j=S.length:=e;have:m=S.length+1:=rfl;exact lC 2 0x6120c21a1c031 T1 this e
  .rw[Dn,ZpI];exact(List.reverse_perm _).nodup_iff.mpr List.nodup_range'
 .have:=hi a ha;have:=lt.2.1;omega
 .obtain⟨f,hf,j,_,rfl⟩:=mem g hg;have:=hi a ha;have:=lt.2.2 f hf;show a≠f.o;omega
 .obtain⟨f,hf,j,_,rfl⟩:=mem g hg;exact K.lo.2.2 f hf
 .rw[Dn,ZjB,Dn,Wx]
 .obtain⟨f,hf,j,_,rfl⟩:=mem g hg;exact(K.dj a ha).2 f hf
noncomputable abbrev Ul:S3:=(Zr (au 9 (fL (cW (Za 5)) 1 (cj 12) [] (aB tU (Zb (Za 12) (Zf))))) (Zr (qg (aN yI (Zb (Za 0) (Zb (Za 1) (Zb (Za 5) (Zb (Za 6) (Zf)))))) [10,11]) (Zr (aK (e2 cC (e2 aR (Za 7) (aB a_ (Zb (Za 10) (Zf)))) (Za 3)) (Zr (au 5 (Za 9)) (Q_)) (aX)) (Zr (au 6 (Za 11)) (Zr (au 7 (e2 aR (e2 aR (Za 7) (aB a_ (Zb (Za 10) (Zf)))) (eC (.int 1)))) (aP (aH bf Zz (Za 4) (Zb (Za 10) (Zf)))))))))
noncomputable abbrev Um:S3:=(Zr (aK (bD (e2 aW (e2 Zn (e2 Zn (Za 5) (e1 cu (eC (.int 1)))) (eC (.int 0))) (eC (.str [119,104,101,110]))) (e2 nF (e2 Zn (e2 Zn (Za 5) (e1 cu (eC (.int 1)))) (eC (.int 3))) (eC .non))) (Zr (rm (e2 Zn (Za 5) (e1 cu (eC (.int 1)))) (eC (.int 3)) (aB gB (Zb (Za 6) (Zf)))) (Zr (au 6 (bh (Zf))) (aP (aH bf Zz (Za 4) (Zb (eC (.str [101,108,115,101])) (Zf)))))) (aX)) (Zr (au 6 (aN wk (Zb (Za 5) (Zb (Za 6) (Zf))))) (Zr (aP (aH bf oZ (Za 5) (Zf))) (aP (aH bf Zz (Za 4) (Zb (eC (.str [101,110,100])) (Zf)))))))
noncomputable abbrev bR(rs:List Rw):List (List Nat):=rs.map λr=>glue [32] r.words
noncomputable def gl(T:List (List Nat)):Nat:=(T.map λt=>t.length+1).sum
theorem Lp(T:List (List Nat))(t:List Nat):gl (T++[t])=gl T+(t.length+1):=by simp[gl]
theorem Uo:∀(rs:List Rw) (r:Rw) (x y z:List Pf),mz rs x=Ya y->jR r y=Ya z->mz (rs++[r]) x=Ya z
 |[],r,x,y,z,h,k=>by cases h;show(jR r x).bind _=_;rw[k];rfl|q::rs,r,x,y,z,h,k=>by
  show(jR q x).bind (mz (rs++[r]))=_;have h:(jR q x).bind (mz rs)=Ya y:=h;cases e:jR q x with
  |none=>rw[e]at h;cases h|some w=>rw[e]at h;exact Uo rs r w y z h k
noncomputable abbrev Lq:List Pf:=[⟨kJ,[],[],[]⟩]
structure iy(cs:List Int)(c d:Nat)(M S:Store)(s dr:Nat)(cur:List D)(fs:List Fr)(rs:List Rw)(ao k:Nat):Prop where
 g_:bV (M.length+1) S s dr cur fs
 dk:dw cs c d ao S
 kp:Kp d M S
 rw:S[M.length]?=Ya (.lst ((bR rs).map D.str))
 ok:∀r∈rs,fC r
 zf:mz rs Lq=Ya (gH cur fs)
 fr:∀f∈fs,f.ok
 le:fs.length<=12
 bd:cur.length<=k/\∀f∈fs,f.out.length<=k
 ld:c<M.length/\d<M.length
theorem iy.n0{fs:List Fr}{ao k:Nat}(P:iy cs c d M S s dr cur fs rs ao k):M.length+1<=S.length:=(Yf.mp P.rw).1
theorem Uq(h:S<+:S')(ha:a<S.length):S'[a]?=S[a]?:=by obtain⟨G,rfl⟩:=h;exact Yi ha
theorem Zqd{fs gs:List Fr}(h:gs.map Fr.strip=fs.map Fr.strip){k:Nat}(ok:∀f∈fs,f.ok)(bd:∀f∈fs,f.out.length<=k):(∀g∈gs,g.ok)/\∀g∈gs,g.out.length<=k:=by
 have key:∀g∈gs,∃f∈fs,f.strip=g.strip:=λg hg=>by
  have:g.strip∈fs.map Fr.strip:=by rw[←h];exact pK hg
  obtain⟨f,hf,e⟩:=gJ.mp this;exact⟨f,hf,e⟩
 refine⟨λg hg=>?_,λg hg=>?_⟩
 .obtain⟨f,hf,e⟩:=key g hg;simp only[Fr.strip,Qe]at e;have:=ok f hf;unfold Fr.ok at this ⊢;rw[←e.1,←e.2.2.2];exact this
 .obtain⟨f,hf,e⟩:=key g hg;simp only[Fr.strip,Qe]at e;rw[←e.2.2.1];exact bd f hf
section
variable {cs:List Int} {c d:Nat} {M S:Store} {s dr:Nat} {cur:List D} {fs:List Fr} {rs:List Rw} {ao k:Nat}
theorem iy.mono(P:iy cs c d M S s dr cur fs rs ao k){k':Nat}(h:k<=k'):iy cs c d M S s dr cur fs rs ao k':=⟨P.g_,P.dk,P.kp,P.rw,P.ok,P.zf,P.fr,P.le,⟨Yj P.bd.1 h,λf hf=>Yj (P.bd.2 f hf) h⟩,P.ld⟩
theorem Zrm(P:iy cs c d M S s dr cur fs rs ao k)(hnr:M[nr]?=Ya (.lst (names.map D.str)))(nd:nr≠d)(hn:names.length=12)(hnm:∀x∈names,gC x)(hk:k<900)(ha:ao+200<1000000)(hr:rs.length<10000)(hg:gl (bR rs)<=3401)(v2 a8 a9 a10 a11:Option D):
  (∃S' s' fs' at' y9 y10 y11,Ul [Ya (.ref d),Ya (.ref nr),v2,Ya (.int 3400),Ya (.ref M.length),Ya (.ref s),Ya (.ref dr),Ya (.int (gl (bR rs):Int)),a8,a9,a10,a11] S= .bk [Ya (.ref d),Ya (.ref nr),v2,Ya (.int 3400),Ya (.ref M.length),Ya (.ref s'),Ya (.ref dr),Ya (.int (gl (bR rs):Int)),a8,y9,y10,y11] S'/\iy cs c d M S' s' dr cur fs' rs at' k/\at'<=ao+121)\/
  (∃r S' bI cur' fs' at' y9 y10 y11,Ul [Ya (.ref d),Ya (.ref nr),v2,Ya (.int 3400),Ya (.ref M.length),Ya (.ref s),Ya (.ref dr),Ya (.int (gl (bR rs):Int)),a8,a9,a10,a11] S= .nx [Ya (.ref d),Ya (.ref nr),v2,Ya (.int 3400),Ya (.ref M.length),Ya (.ref s),Ya (.ref bI),Ya (.int (gl (bR (rs++[r])):Int)),a8,y9,y10,y11] S'/\iy cs c d M S' s bI cur' fs' (rs++[r]) at' (k+1)/\at'<=ao+121/\gl (bR (rs++[r]))<=3401):=by
 have n0:=P.n0;have ld:=P.ld;obtain⟨S1,gs,hk1,KE⟩:=ZrG P.g_ n0 P.le (a0:=Ya (.ref d)) (a1:=Ya (.ref nr)) (a2:=v2) (a3:=Ya (.int 3400)) (a4:=Ya (.ref M.length)) (a6:=Ya (.ref dr)) (a7:=Ya (.int (gl (bR rs):Int))) (a8:=a8) (a9:=a9) (a10:=a10) (a11:=a11);obtain⟨G,Ur⟩:=KE.pre;have K1:bV (M.length+1) S1 s dr cur fs:=by rw[←Ur];exact P.g_.app G
 have D1:dw cs c d ao S1:=by rw[←Ur];exact P.dk.app G
 have Hi:S.length<=S1.length:=by rw[←Ur];exact len_app S G
 have AbC:S1[nr]?=Ya (.lst (names.map D.str)):=(Uq KE.pre (Y7 (Yf.mp hnr).1 P.kp.len)).trans (P.kp.get hnr nd);obtain⟨r,S2,n',bI,cur',fs',at',hrow,O,hat⟩:=ZuH K1 D1 AbC nd hn hnm ⟨lB 1 43419504657 T1 ld.1,lB 1 43419504657 T1 ld.2⟩ (Yj n0 Hi) P.fr P.le P.bd hk ha;have pF:S2[M.length]?=Ya (.lst ((bR rs).map D.str)):=by rw[O.old M.length (lC 2 317802548367361 T1 Hi n0) (λz=>lB 2 25787699233 T1 z ld.2) (λz=>by have:=K1.lo.2.1 _ z;exact lA 1 101321729 T1 this),Uq KE.pre (by exact lB 1 4313451521 T1 n0)];exact P.rw
 have Lr:Kp d M S2:=⟨by have:=O.len;exact lD 3 0x1302a3c0102011001 T1 this Hi n0,λj h1 h2=>by rw[O.old j (lD 3 0x3012a1c0132011011 T1 h1 Hi n0) h2 (λz=>by have:=K1.lo.2.1 _ z;exact lB 2 6601651653633 T1 this h1),Uq KE.pre (by exact lC 2 564230323507217 T1 h1 n0)];exact P.kp.old j h1 h2⟩;have AbD:=(Zly O.ok).le
 let u:Int:=(gl (bR rs):Int)
 let T:=glue [32] r.words
 let E:bL:=[Ya (.ref d),Ya (.ref nr),v2,Ya (.int 3400),Ya (.ref M.length),Ya (.ref s),Ya (.ref dr),Ya (.int u),a8,Ya (.ref S.length),Ya (.str T),Ya (.ref bI)]
 have a1:qg (aN yI (Zb (Za 0) (Zb (Za 1) (Zb (Za 5) (Zb (Za 6) (Zf)))))) [10,11] [Ya (.ref d),Ya (.ref nr),v2,Ya (.int 3400),Ya (.ref M.length),Ya (.ref s),Ya (.ref dr),Ya (.int u),a8,Ya (.ref S.length),a10,a11] S1= .nx E S2:=by unfold qg;rw[Fi rfl rfl rfl rfl hrow];simp only[O.out];rfl
 let E2:bL:=[Ya (.ref d),Ya (.ref nr),v2,Ya (.int 3400),Ya (.ref M.length),Ya (.ref s),Ya (.ref bI),Ya (.int u),a8,Ya (.ref S.length),Ya (.str T),Ya (.ref bI)]
 have VG:∀{X:bL},Za 10 X S2= .ok (.str T) S2->aB a_ (Zb (Za 10) (Zf)) X S2= .ok (.int (T.length:Int)) S2:=λh=>b8 h (by simp only[Ai,Aj,Ak,q8,if_pos (show T.length<=SZ from Yj AbD (by decide))]);have c1:e2 cC (e2 aR (Za 7) (aB a_ (Zb (Za 10) (Zf)))) (Za 3) E S2= .ok (.bl (decide ((3400:Int)<u+(T.length:Int)))) S2:=Zh (Zh rfl (VG rfl) rfl) rfl (by rw[jf]);by_cases Us:(3400:Int)<u+(T.length:Int)
 .rw[decide_eq_true Us]at c1;refine .inl ⟨S2,S.length,gs,at',Ya (.ref S.length),Ya (.str T),Ya (.ref bI),(Zi (Zo hk1)).trans ((Zi a1).trans (?_)),?_,hat⟩
  .unfold Zr;rw[e_ c1];rfl
  .have q:=Zqd KE.st P.fr P.bd.2;have KK:=KE.g_;have nm:∀a,a<S1.length->a≠d->a∉gG s fs->S2[a]?=S1[a]?:=O.old;have Lw:=KK.lt;have lts:=P.g_.lt;refine⟨⟨?_,λf hf=>?_,λf hf=>?_,?_,KK.nd,KK.dj,KK.lo⟩,O.dk,Lr,pF,P.ok,by rw[P.zf,Zih gs fs cur KE.st],q.1,by have:=congrArg uT KE.st;rw[Yv,Yv]at this;have:=P.le;omega,⟨P.bd.1,q.2⟩,ld⟩
   .have h:=KE.hi _ (Yd (a:=S.length));rw[nm S.length (Lw.1 _ Yd) (λz=>lC 3 0x60a2c0121111021 T1 z ld.2 n0) (λz=>by have:=lts.1 _ z;exact lA 1 393233 T1 this)];exact KK.hs
   .have hm:f.e∈gG S.length gs:=Yc _ (pK hf);have h:=KE.hi _ hm;rw[nm f.e (Lw.1 _ hm) (λz=>lD 4 0x62a3c01311102011021 T1 z h ld.2 n0) (λz=>by have:=lts.1 _ z;exact lB 2 25786650641 T1 this h)];exact KK.he f hf
   .have h:=KK.lo.2.2 f hf;have hno:f.o∉gG s fs:=λz=>KE.oo f hf _ z rfl;rw[nm f.o (Lw.2.2 f hf) (λz=>lC 3 0x621110a2c011021 T1 z h ld.2) hno];exact KK.ho f hf
   .have h:=KK.lo.1;rw[nm dr Lw.2.1 (λz=>lC 3 0x621110a2c011021 T1 z h ld.2) (λz=>(P.g_.dj dr z).1 rfl)];exact KK.hc
 .rw[decide_eq_false Us]at c1;have hu:u=(gl (bR rs):Int):=rfl;have eg:gl (bR (rs++[r]))=gl (bR rs)+(T.length+1):=by rw[bR,jY];exact Lp _ _
  let S3:=S2.set M.length (.lst ((bR (rs++[r])).map D.str))
  have hz:((bR rs).map D.str).length<SZ:=by rw[Yv,Yv];exact mK hr (by decide)
  have a3:=m5 (env:=[Ya (.ref d),Ya (.ref nr),v2,Ya (.int 3400),Ya (.ref M.length),Ya (.ref s),Ya (.ref bI),Ya (.int (gl (bR (rs++[r])):Int)),a8,Ya (.ref S.length),Ya (.str T),Ya (.ref bI)]) (M:=S2) (M':=S2) (M2:=S2) (o:=Za 4) (t:=Za 10) (d:=.str T) rfl pF rfl pF hz;have e3:(bR rs).map D.str++[D.str T]=(bR (rs++[r])).map D.str:=by simp[bR,T]
  rw[e3]at a3;refine .inr ⟨r,S3,bI,cur',fs',at',Ya (.ref S.length),Ya (.str T),Ya (.ref bI),(Zi (Zo hk1)).trans ((Zi a1).trans ((Zi (cT c1)).trans ((Zi (Zo (d:=.ref bI) (env':=E2) rfl rfl)).trans ((Zi (Zo (d:=.int (gl (bR (rs++[r])):Int)) (Zh (Zh rfl (VG rfl) rfl) rfl (by rw[tR];congr 2;exact qT (iN [_,_,_] [_] 2 0x8a280cc8180a1a2c1c031 T1 eg hu) (iN [_,_,_] [_] 2 0xa280cc088180b1a2c1c021 T1 eg hu))) rfl)).trans a3)))),?_,hat,iN [_,_,_] [_] 3 0xd493b00280cd483bd1180b1a2c1c021 T1 eg hu Us⟩;have Jy:∀a,M.length+1<=a->a<S2.length->S3[a]?=S2[a]?:=λa h _=>Yr (λz=>lB 2 6708940312625 T1 z h);exact⟨O.g_.frame Jy,O.dk.put (by exactλz=>lB 2 25787699233 T1 z ld.2) (by omega) _,Lr.put (Ys _) _,Y0 (Yf.mp pF).1,λq hq=>by
   rcases fU.mp hq with z|z
   .exact P.ok q z
   .rw[Yz.mp z];exact O.ok,Uo _ _ _ _ _ P.zf O.st,O.fr,O.le,O.bd,ld⟩
end
section
variable {cs:List Int} {c d:Nat} {M:Store}
theorem ZnA{nr:Nat}{names:List (List Nat)}(hnr:M[nr]?=Ya (.lst (names.map D.str)))(nd:nr≠d)(hn:names.length=12)(hnm:∀x∈names,gC x){it:fV}(hi:it.lock=Ym){v2:Option D}:
  ∀(xs:List D) (S:Store) (s dr:Nat) (cur:List D) (fs:List Fr) (rs:List Rw) (ao k:Nat) (a8 a9 a10 a11:Option D),iy cs c d M S s dr cur fs rs ao k->k+xs.length<=400->rs.length<=k->ao+121*xs.length<900000->gl (bR rs)<=3401 ->
  ∃(S':Store) (s' bI:Nat) (cur':List D) (fs':List Fr) (rs':List Rw) (at':Nat) (y7 y8 y9 y10 y11:Option D),iY it (cj 8) Ul xs [Ya (.ref d),Ya (.ref nr),v2,Ya (.int 3400),Ya (.ref M.length),Ya (.ref s),Ya (.ref dr),Ya (.int (gl (bR rs):Int)),a8,a9,a10,a11] S= .nx [Ya (.ref d),Ya (.ref nr),v2,Ya (.int 3400),Ya (.ref M.length),Ya (.ref s'),Ya (.ref bI),y7,y8,y9,y10,y11] S'/\iy cs c d M S' s' bI cur' fs' rs' at' 400/\rs'.length<=400/\gl (bR rs')<=3401/\at'<=ao+121*xs.length
 |[],S,s,dr,cur,fs,rs,ao,k,a8,a9,a10,a11,P,h1,h2,h3,h4=>⟨S,s,dr,cur,fs,rs,ao,_,_,_,_,_,by rw[vI,if_pos (by unfold locked;rw[hi])],P.mono (by simpa using h1),Yj h2 (by simpa using h1),h4,jc _ _⟩|x::xs,S,s,dr,cur,fs,rs,ao,k,a8,a9,a10,a11,P,h1,h2,h3,h4=>by
  rw[Yp]at h1 h3;rcases Zrm P hnr nd hn hnm (lB 1 0x3843b011903ba1c0c01 T1 h1) (lB 1 0xf42405bc82b0c1dbba05ba1c79d0c11 T1 h3) (lC 2 0x27104b011903ba2c1c011001 T1 h2 h1) h4 v2 (Ya x) a9 a10 a11 with⟨S',s',fs',at',y9,y10,y11,hb,P',hat⟩|⟨r,S',bI,cur',fs',at',y9,y10,y11,hb,P',hat,hg⟩
  .refine⟨S',s',dr,cur,fs',rs,at',Ya (.int (gl (bR rs):Int)),Ya x,y9,y10,y11,?_,P'.mono (lB 1 0x1903b001903ba1c0c01 T1 h1),lC 2 0x1903b001903ba2c1c011001 T1 h2 h1,h4,by rw[Yp];exact lC 1 0xa2c79d1c00792b1c001 T1 hat⟩;rw[tW,if_pos (by unfold locked;rw[hi])];simp only[cj,oJ,oK];rw[hb]
  .obtain⟨S2,s2,dr2,zj,fs2,Ut,at2,z7,z8,z9,Uu,z11,hl,P2,q1,q2,q3⟩:=ZnA hnr nd hn hnm hi xs S' s bI cur' fs' (rs++[r]) at' (k+1) (Ya x) y9 y10 y11 P' (lB 1 0x1903b1a0cc01903ba1c0c01 T1 h1) (by rw[Ye];exact oO h2) (lC 2 0xdbba05b279d0c1dbba05ba2c79d1c11792b1c001 T1 hat h3) hg;refine⟨S2,s2,dr2,zj,fs2,Ut,at2,z7,z8,z9,Uu,z11,?_,P2,q1,q2,by rw[Yp];exact lD 2 0xa2c79d3c00792b3c101279d1c001 T1 q3 hat⟩;rw[tW,if_pos (by unfold locked;rw[hi])];simp only[cj,oJ,oK];rw[hb];exact hl
theorem iy.app{fs:List Fr}{ao k:Nat}(P:iy cs c d M S s dr cur fs rs ao k)(G:Store):iy cs c d M (S++G) s dr cur fs rs ao k:=⟨P.g_.app G,P.dk.app G,P.kp.trans (Kp.app d S G),bQ P.rw G,P.ok,P.zf,P.fr,P.le,P.bd,P.ld⟩
theorem iy.row{fs fs':List Fr}{ao k k':Nat}(P:iy cs c d M S s dr cur fs rs ao k){S1:Store}{bI:Nat}(K:bV (M.length+1) S1 s bI cur' fs')(D1:dw cs c d ao S1)(kp:Kp d M S1)(hw:S1[M.length]?=Ya (.lst ((bR rs).map D.str)))(ok:fC r)(st:jR r (gH cur fs)=Ya (gH cur' fs'))(fr:∀f∈fs',f.ok)(le:fs'.length<=12)(bd:cur'.length<=k'/\∀f∈fs',f.out.length<=k'):
  iy cs c d M (S1.set M.length (.lst ((bR (rs++[r])).map D.str))) s bI cur' fs' (rs++[r]) ao k':=
 ⟨K.frame λa h _=>Yr (λz=>lB 2 6708940312625 T1 z h),D1.put (by have:=P.ld;exactλz=>lB 2 25787699233 T1 z this.2) (by have:=P.ld;exactλz=>lB 2 25787699233 T1 z this.1) _,kp.put (Ys _) _,Y0 (Yf.mp hw).1,λq hq=>by
  rcases fU.mp hq with z|z
  .exact P.ok q z
  .rw[Yz.mp z];exact ok,Uo _ _ _ _ _ P.zf st,fr,le,bd,P.ld⟩
theorem Zlo{t:List Nat}{e:E3}(hv:Za 4 env S= .ok (.ref M.length) S)(he:e env S= .ok (.str t) S)(ht:t=glue [32] r.words)(hw:S[M.length]?=Ya (.lst ((bR rs).map D.str)))(hl:rs.length<=1000):
  aP (aH bf Zz (Za 4) (Zb e (Zf))) env S= .nx env (S.set M.length (.lst ((bR (rs++[r])).map D.str))):=by
 refine(m5 hv hw he hw (by rw[Yv,Yv];exact sU hl (by decide))).trans ?_;rw[show(bR rs).map D.str++[D.str t]=(bR (rs++[r])).map D.str by simp[bR,ht]]
theorem ZpE{fs:List Fr}{ao k:Nat}(P:iy cs c d M S s dr cur (f::fs) rs ao k)(hd:f.done)(hk:k<=900)(hr:rs.length<=1000)(v0 v1 v2 v3 a7 a8 a9 a10 a11:Option D):
  ∃(S':Store) (bI:Nat) (cur':List D),Zr (au 6 (aN wk (Zb (Za 5) (Zb (Za 6) (Zf))))) (Zr (aP (aH bf oZ (Za 5) (Zf))) (aP (aH bf Zz (Za 4) (Zb (eC (.str [101,110,100])) (Zf))))) [v0,v1,v2,v3,Ya (.ref M.length),Ya (.ref s),Ya (.ref dr),a7,a8,a9,a10,a11] S= .nx [v0,v1,v2,v3,Ya (.ref M.length),Ya (.ref s),Ya (.ref bI),a7,a8,a9,a10,a11] S'/\iy cs c d M S' s bI cur' fs (rs++[⟨gQ,[],[]⟩]) ao (k+1):=by
 have n0:=P.n0;have hol:=P.bd.2 f Yd;have ce:=ZjS P.g_ hd (lB 2 0x3e83b003843b1011001 T1 hol hk)
 let W:=(f.pf cur).whole
 let S4:=S++[MO.lst [W],MO.lst (f.out++[W])]
 have K4:=P.g_.app [MO.lst [W],MO.lst (f.out++[W])];have g1:S4[S.length+1]?=Ya (.lst (f.out++[W])):=by show(S++_)[_]?=_;rw[rD];rfl
 have K5:=K4.pop g1 (lB 1 0xa1ca0c01a0c01 T1 n0) (Gz P.g_.lt.1 (vy _))
 let S5:=S4.set s (.lst (fs.map λf=>D.ref f.e).reverse)
 have Uk:S4[s]?=Ya (.lst ((fs.map λf=>D.ref f.e).reverse++[D.ref f.e])):=by rw[K4.hs,Yu,uP]
 have hs0:=P.g_.lo.2.1 s Yd;have ld:=P.ld;have hw5:S5[M.length]?=Ya (.lst ((bR rs).map D.str)):=(Yr (λz=>lB 2 6640489271329 T1 z hs0)).trans (bQ P.rw _);have P2:=P.row (r:=⟨gQ,[],[]⟩) (k':=k+1) K5 ((P.dk.app _).put (by exactλz=>lC 3 0x60a2c0121111021 T1 z ld.2 hs0) (by omega) _) ((P.kp.trans (Kp.app d S _)).put (by omega) _) hw5 ZpL (Zlz hd (by omega)) (λg hg=>P.fr g (Yc _ hg)) (by have:=P.le;rw[Yp]at this;omega) ⟨by rw[Ye];exact oO hol,λg hg=>qQ (P.bd.2 g (Yc _ hg))⟩;refine⟨_,S.length+1,f.out++[W],(Zi (Zo (tY rfl rfl ce))).trans ((Zi (qe (Lf rfl Uk))).trans ?_),P2⟩;exact Zlo (r:=⟨gQ,[],[]⟩) rfl rfl rfl hw5 hr
theorem ZrF{fs:List Fr}{ao k:Nat}(P:iy cs c d M S s dr cur (f::fs) rs ao k)(hk:k<=800)(hr:rs.length<=900)(v0 v1 v2 v3 a7 a8 a9 a10 a11:Option D):
  ∃(S':Store) (bI:Nat) (cur':List D) (rs':List Rw),Um [v0,v1,v2,v3,Ya (.ref M.length),Ya (.ref s),Ya (.ref dr),a7,a8,a9,a10,a11] S= .nx [v0,v1,v2,v3,Ya (.ref M.length),Ya (.ref s),Ya (.ref bI),a7,a8,a9,a10,a11] S'/\iy cs c d M S' s bI cur' fs rs' ao (k+1)/\rs'.length<=rs.length+2/\gl (bR rs')<=gl (bR rs)+9:=by
 have K:=P.g_;have n0:=P.n0;have ld:=P.ld;have gE:∀q:List Rw,gl (bR (q++[⟨gQ,[],[]⟩]))=gl (bR q)+4:=λq=>by rw[bR,jY];exact Lp _ _
 have gL:∀q:List Rw,gl (bR (q++[⟨gj,[],[]⟩]))=gl (bR q)+5:=λq=>by rw[bR,jY];exact Lp _ _
 let E:bL:=[v0,v1,v2,v3,Ya (.ref M.length),Ya (.ref s),Ya (.ref dr),a7,a8,a9,a10,a11]
 by_cases hc:f.w=gP/\f.ah=Ym
 .have c1:bD (e2 aW (e2 Zn (e2 Zn (Za 5) (e1 cu (eC (.int 1)))) (eC (.int 0))) (eC (.str [119,104,101,110]))) (e2 nF (e2 Zn (e2 Zn (Za 5) (e1 cu (eC (.int 1)))) (eC (.int 3))) (eC .non)) E S= .ok (.bl true) S:=by
   rw[iH (M1:=S) (Zh (K.top0 rfl) rfl (iM.trans (by rw[decide_eq_true hc.1])))];exact Zh (K.Hh rfl) rfl ((Uh f.ah S).trans (by rw[hc.2];rfl))
  have K3:=K.els cur
  let S3:=S.set f.e (Fr.obj {f with ah:=Ya cur})
  have l3:S3.length=S.length:=sE ..;have hm:f.e∈gG s (f::fs):=Yc _ Yd;have hlo:=K.lo.2.1 _ hm
  let S4:=S3++[MO.lst []]
  have K4:bV (M.length+1) S4 s S3.length [] ({f with ah:=Ya cur}::fs):=(K3.app _).now (Zq _ _ _) (lC 2 0xa2c01a2c011031 T1 l3 n0) (Gz K3.lt.1 (Ys _));have p1:rm (e2 Zn (Za 5) (e1 cu (eC (.int 1)))) (eC (.int 3)) (aB gB (Zb (Za 6) (Zf))) E S= .nx E S3:=qe (d:=.non) (Zwe (b8 rfl (o4 K.hc)) (K.top rfl) rfl (Zs0 (K.he f Yd)));have hw4:S4[M.length]?=Ya (.lst ((bR rs).map D.str)):=bQ ((Yr (λz=>lB 2 6640489271329 T1 z hlo)).trans P.rw) _;have P2:=P.row (r:=⟨gj,[],[]⟩) (k':=k) K4 ((P.dk.put (by exactλz=>lC 3 0x621110a2c011021 T1 z hlo ld.2) (by omega) _).app _) ((P.kp.put (by omega) _).trans (Kp.app d _ _)) hw4 Zrc (ZlS hc.1 hc.2) (λg hg=>by
   rcases Yo.mp hg with e|e
   .rw[e];exact .inl hc.1
   .exact P.fr g (Yc _ e)) P.le ⟨eZ _,λg hg=>by
   rcases Yo.mp hg with e|e
   .rw[e];exact P.bd.2 f Yd
   .exact P.bd.2 g (Yc _ e)⟩
  obtain⟨S',bI,cur',h2,P3⟩:=ZpE P2 (.inl ⟨hc.1,cur,rfl⟩) (lA 1 0x3843b003203b001 T1 hk) (by rw[Ye];exact oO (Yj hr (by decide))) v0 v1 v2 v3 a7 a8 a9 a10 a11;refine⟨S',bI,cur',_,?_,P3,by simp,by rw[gE,gL];exact lA 0 0x91b0c41b51b0cc0 T1⟩;refine(Zi ((e_ c1).trans ((Zi p1).trans ((Zi (Zo (d:=.ref S3.length) (M':=S4) (env':=[v0,v1,v2,v3,Ya (.ref M.length),Ya (.ref s),Ya (.ref S3.length),a7,a8,a9,a10,a11]) (cY rfl rfl) rfl)).trans (Zlo (r:=⟨gj,[],[]⟩) rfl rfl rfl hw4 (lA 1 0x3e83b003843b001 T1 hr)))))).trans h2
 .have c1:bD (e2 aW (e2 Zn (e2 Zn (Za 5) (e1 cu (eC (.int 1)))) (eC (.int 0))) (eC (.str [119,104,101,110]))) (e2 nF (e2 Zn (e2 Zn (Za 5) (e1 cu (eC (.int 1)))) (eC (.int 3))) (eC .non)) E S= .ok (.bl false) S:=by
   by_cases q:f.w=gP
   .rw[iH (M1:=S) (Zh (K.top0 rfl) rfl (iM.trans (by rw[decide_eq_true q])))];refine Zh (K.Hh rfl) rfl ((Uh f.ah S).trans ?_);cases e:f.ah with
    |none=>exact absurd ⟨q,e⟩ hc|some _=>rfl
   .exact lV (Zh (K.top0 rfl) rfl (iM.trans (by rw[decide_eq_false q])))
  have hdone:f.done:=by
   rcases P.fr f Yd with q|q
   .cases e:f.ah with
    |none=>exact absurd ⟨q,e⟩ hc|some a=>exact .inl ⟨q,a,e⟩
   .exact .inr q
  obtain⟨S',bI,cur',h2,P3⟩:=ZpE P hdone (lA 1 0x3843b003203b001 T1 hk) (lA 1 0x3e83b003843b001 T1 hr) v0 v1 v2 v3 a7 a8 a9 a10 a11;exact⟨S',bI,cur',_,(Zi (cT c1)).trans h2,P3,by simp,by rw[gE];exact lA 0 0x91b0c41b0c0 T1⟩
theorem Zld:∀(fs:List Fr) (fuel:Nat) (S:Store) (s dr:Nat) (cur:List D) (rs:List Rw) (ao k:Nat) (v0 v1 v2 v3 a7 a8 a9 a10 a11:Option D),iy cs c d M S s dr cur fs rs ao k->fs.length<fuel->k+fs.length<=700->rs.length+2*fs.length<=800 ->
  ∃(S':Store) (bI:Nat) (cur':List D) (rs':List Rw),rA (e2 qt (Za 5) (bh (Zf))) Um fuel [v0,v1,v2,v3,Ya (.ref M.length),Ya (.ref s),Ya (.ref dr),a7,a8,a9,a10,a11] S= .nx [v0,v1,v2,v3,Ya (.ref M.length),Ya (.ref s),Ya (.ref bI),a7,a8,a9,a10,a11] S'/\iy cs c d M S' s bI cur' [] rs' ao (k+fs.length)/\rs'.length<=rs.length+2*fs.length/\gl (bR rs')<=gl (bR rs)+9*fs.length
 |[],fuel,S,s,dr,cur,rs,ao,k,v0,v1,v2,v3,a7,a8,a9,a10,a11,P,h1,_,_=>by obtain⟨f,rfl⟩:∃f,fuel=f+1:=⟨fuel-1,Y4 ((g8 _ _)) (jK (gZ (lB 1 27267089 T1 h1)))⟩;refine⟨S++[.lst []],dr,cur,rs,?_,P.app _,by simp,by simp⟩;rw[Ar,P.g_.CN rfl];rfl|f::fs,fuel,S,s,dr,cur,rs,ao,k,v0,v1,v2,v3,a7,a8,a9,a10,a11,P,h1,h2,h3=>by rw[Yp]at h1 h2 h3;obtain⟨n,rfl⟩:∃n,fuel=n+1:=⟨fuel-1,Y4 ((g8 _ _)) (jK (gZ (lB 1 6981028881 T1 h1)))⟩;obtain⟨S1,Uv,Nb,Uw,hb,P1,q1,q2⟩:=ZrF (P.app [.lst []]) (lB 1 0x3203b002bc3ba1c0c01 T1 h2) (lB 1 0x3843b003203ba1c02d0c01 T1 h3) v0 v1 v2 v3 a7 a8 a9 a10 a11;obtain⟨S',bI,cur',rs',hw,P',p1,p2⟩:=Zld fs n S1 s Uv Nb Uw ao (k+1) v0 v1 v2 v3 a7 a8 a9 a10 a11 P1 (lB 1 1106520968209 T1 h1) (lB 1 0x2bc3b1a0cc02bc3ba1c0c01 T1 h2) (lC 2 0x3203b202d0c03203ba2c02d1c0121b1c001 T1 q1 h3);refine⟨S',bI,cur',rs',?_,P'.mono (by rw[Yp];exact lB 0 0xa1c0c1a0cc0 T1),by rw[Yp];exact lD 2 0xa2c02d3c0021b3c101202d1c001 T1 p1 q1,by rw[Yp];exact lD 2 0xa2c09d3c0091b3c101209d1c001 T1 p2 q2⟩;rw[Ar,P.g_.CN rfl];show(match Um _ _ with| .nx e M'=>_| .ct e M'=>_| .bk e M'=>_|o=>o)=_;rw[hb];exact hw
theorem Zrx{many:Nat}(dk:dw cs c d ao M)(hnr:M[nr]?=Ya (.lst (names.map D.str)))(nd:nr≠d)(hn:names.length=12)(hnm:∀x∈names,gC x)(hm:many<=400)(ha:ao<100000):
  ∃(S:Store) (n:Nat) (rs:List Rw) (ds:List D) (at':Nat),KY [.ref d,.ref nr,.int (many:Int),.int 3400] M= .ok (.ref n) S/\S[n]?=Ya (.lst [.ref M.length,.tup ds])/\S[M.length]?=Ya (.lst ((bR rs).map D.str))/\dw cs c d at' S/\Kp d M S/\(∀r∈rs,fC r)/\mz rs Lq=Ya [⟨kJ,[],[],ds⟩]/\rs.length<=424/\gl (bR rs)<=3509/\ds.length<=412/\at'<=ao+48400:=by
 have ld:=dk.lt
 let M1:=M++[MO.lst []]
 let M2:=M1++[MO.lst []]
 let M3:=M2++[MO.lst []]
 have l1:M1.length=M.length+1:=by simp[M1]
 have l2:M2.length=M.length+2:=by simp[M2,M1]
 have K0:bV (M.length+1) M3 M1.length M2.length [] []:=⟨bQ (Zq M1 _ _) _,(λf h=>nomatch h),(λf h=>nomatch h),Zq M2 _ _,by simp,λa ha=>⟨by rw[Yz.mp ha];exactλz=>lC 3 0x6a2c02121b2c1311031 T1 z l2 l1,(λf h=>nomatch h)⟩,lB 1 0xa1c021b1c031 T1 l2,λa ha=>by rw[Yz.mp ha];exact jK l1.symm,(λf h=>nomatch h)⟩;have P0:iy cs c d M M3 M1.length M2.length [] [] [] ao 0:=⟨K0,((dk.app _).app _).app _,((Kp.app d M _).trans (Kp.app d _ _)).trans (Kp.app d _ _),bQ (bQ (Zq M _ _) _) _,(λr h=>nomatch h),rfl,(λf h=>nomatch h),eZ _,⟨Ys _,(λf h=>nomatch h)⟩,ld⟩;have AbE:(lR 0 many).length=many:=by simp[lR]
 obtain⟨S1,s1,Uv,Nb,fs1,Uw,at1,y7,y8,y9,y10,y11,hl,P1,q1,q2,q3⟩:=ZnA hnr nd hn hnm (it:=⟨lR 0 many,Ym⟩) rfl (v2:=Ya (.int (many:Int))) (lR 0 many) M3 M1.length M2.length [] [] [] ao 0 Ym Ym Ym Ym P0 (lB 2 0x1903b0ec01903b1011021 T1 AbE hm) (Ys _) (by omega) (by decide);have hf:=P1.le;obtain⟨S2,dr2,zj,Ut,hw,P2,p1,p2⟩:=Zld fs1 1000000 S1 s1 Uv Nb Uw at1 400 (Ya (.ref d)) (Ya (.ref nr)) (Ya (.int (many:Int))) (Ya (.int 3400)) y7 y8 y9 y10 y11 P1 (lA 1 0xf42405b01c1b001 T1 hf) (lA 1 0x2bc3b01903bc0c1b001 T1 hf) (lB 2 0x3203b002d1c01903b101c1b002 T1 hf q1);refine⟨S2++[.lst [.ref M.length,.tup zj]],S2.length,Ut,zj,at1,?_,Zq _ _ _,bQ P2.rw _,P2.dk.app _,P2.kp.trans (Kp.app d _ _),P2.ok,P2.zf,lC 3 0x1a83b001903b101c1b202202d1c001 T1 p1 hf q1,by omega,by have:=P2.bd.1;exact lB 2 0x19c3b00c1b10111903bc001 T1 this hf,by omega⟩;refine(jC (M':=S2++[.lst [.ref M.length,.tup zj]]) (env:=[Ya (.ref d),Ya (.ref nr),Ya (.int (many:Int)),Ya (.int 3400),Ym,Ym,Ym,Ym,Ym,Ym,Ym,Ym]) ?_).trans (Ln P2.kp.len);unfold Tf;refine(Zi (Zo (d:=.ref M.length) (M':=M1) (cY rfl rfl))).trans ((Zi (Zo (d:=.ref M1.length) (M':=M2) (cY rfl rfl))).trans ((Zi (Zo (d:=.ref M2.length) (M':=M3) (cY rfl rfl))).trans ((Zi (Zo (d:=.int 0) rfl)).trans ?_)));have hr:rn (Za 2) [Ya (.ref d),Ya (.ref nr),Ya (.int (many:Int)),Ya (.int 3400),Ya (.ref M.length),Ya (.ref M1.length),Ya (.ref M2.length),Ya (.int 0),Ym,Ym,Ym,Ym] M3= .ok ⟨lR 0 many,Ym⟩ M3:=by have:(many:Int)<=1000000/\ -1000000<=(many:Int):=⟨iN [_] [] 1 0xf42405b0881903b001 T1 hm,iN [_] [] 0 615291837336 T1⟩;simp[this]
 refine(Zi ((x_ hr).trans hl)).trans ((Zi hw).trans ?_);exact di (cY (ds:=[.ref M.length,.tup zj]) (Zx rfl (Zx (b8 rfl (o4 P2.g_.hc)) rfl)) rfl)
end
noncomputable abbrev lnB:S3:=(Zr (au 9 (e2 Zn (Za 2) (e2 Zy (e2 aR (Za 4) (Za 8)) (eC (.int 26))))) (Zr (au 10 (e2 iD (Za 9) (e2 aR (eC (.int 1)) (e2 Zy (e2 bH (Za 4) (eC (.int 26))) (eC (.int 8)))))) (Zr (aK (e2 aW (e2 Zy (Za 3) (eC (.int 4))) (eC (.int 1))) (au 10 (e2 aR (e2 Zn (Za 1) (e2 Zy (e2 aR (Za 8) (Za 4)) (eC (.int 12)))) (Za 6))) (aX)) (Zr (aK (e2 aW (e2 Zy (Za 3) (eC (.int 4))) (eC (.int 2))) (Zr (au 10 (e2 aR (e2 iD (Za 5) (e2 aR (eC (.int 1)) (e2 Zy (Za 8) (eC (.int 8))))) (e2 iD (e2 Zn (Za 2) (e2 Zy (e2 aR (Za 4) (eC (.int 1))) (eC (.int 26)))) (e2 bH (Za 8) (eC (.int 8)))))) (au 10 (eO (Za 10) (fX) (dO (eC (.int 8)))))) (aX)) (Zr (aK (e2 aW (e2 Zy (Za 3) (eC (.int 4))) (eC (.int 3))) (au 10 (e2 aR (e2 aR (Za 6) (Za 9)) (e2 iD (e2 Zn (Za 2) (e2 Zy (e2 bH (Za 4) (eC (.int 7))) (eC (.int 26)))) (e2 Zy (e2 bH (Za 4) (eC (.int 676))) (eC (.int 7)))))) (aX)) (Zr (aK (e2 yg (Za 10) (Za 1)) (au 10 (e2 aR (Za 10) (eC (.str [120])))) (aX)) (aP (aH bf Zz (Za 7) (Zb (Za 10) (Zf))))))))))
noncomputable def bN(x:Int):Nat:=97+(x % 26).toNat
theorem yR(x:Int):97<=bN x/\bN x<=122:=by have a:=pU x (b:=26) (by decide);have b:=sX x (b:=26) (by decide);unfold bN;omega
theorem GF(x:Int)(M:Store):Zn (.str LET) (.int (x % 26)) M= .ok (.str [bN x]) M:=by
 have a:=pU x (b:=26) (by decide);have b:=sX x (b:=26) (by decide);obtain⟨n,hn⟩:∃n:Nat,x % 26=(n:Int):=⟨(x % 26).toNat,by omega⟩;have hlt:n<26:=by omega
 have key:∀n:Nat,n<26->LET[n]?=Ya (97+n):=by decide
 unfold bN;rw[hn,JQ,fc,key n hlt,qR];exact if_pos (by decide)
theorem mul_str(c n:Nat)(hn:n<1000)(M:Store):iD (.str [c]) (.int (n:Int)) M= .ok (.str (Yq n c)) M:=by rw[ZpW,if_pos ⟨by show 1*n<=1000000;omega,by omega,by omega⟩];simp
theorem add_str{y:List Nat}(h:x.length+y.length<=1000)(M:Store):aR (.str x) (.str y) M= .ok (.str (x++y)) M:=by rw[Zrj,if_pos (Yj h (by decide))]
noncomputable def qG(mo:Int)(k:Nat):List Nat:=Yq (1+(mo / 26 % 8).toNat) (bN (mo+k))
noncomputable def uz(mo:Int)(k:Nat):List Nat:=cU.getD (((k:Int)+mo) % 12).toNat []++[bN (mo / 26)]
noncomputable def oA(mo:Int)(k:Nat):List Nat:=(Yq (1+k % 8) (bN mo)++Yq (k / 8) (bN (mo+1))).take 8
noncomputable def uD(mo:Int)(k:Nat):List Nat:=[bN (mo / 26)]++[bN (mo+k)]++Yq (mo / 676 % 7).toNat (bN (mo / 7))
noncomputable def jx(q:Int)(mo:Int)(k:Nat):List Nat:=if q=3 then uD mo k else if q=2 then oA mo k else if q=1 then uz mo k else qG mo k
noncomputable def ji(q mo:Int)(k:Nat):List Nat:=if jx q mo k∈cU then jx q mo k++[120]else jx q mo k
theorem CQ:∀w∈cU,3<=w.length/\w.length<=5/\(∀c∈w,97<=c/\c<=122)/\w.dropLast∉cU/\w.getLast?≠Ya 120/\w[0]?≠w[1]?:=by decide
theorem GJ(mo:Int)(k:Nat):∃j:Nat,((k:Int)+mo) % 12=(j:Int)/\j<12/\cU.getD (((k:Int)+mo) % 12).toNat []∈cU/\cU[j]?=Ya (cU.getD (((k:Int)+mo) % 12).toNat []):=by
 obtain⟨j,ej,hj⟩:=mY ((k:Int)+mo) 12 (by decide);have ej:((k:Int)+mo) % 12=(j:Int):=ej;have hj':j<cU.length:=hj;refine⟨j,ej,hj,?_,?_⟩
 .rw[ej,qR,Dj,Y9 hj'];exact uQ _
 .rw[ej,qR,Dj,Y9 hj'];rfl
theorem Lx(h:97<=c/\c<=122):∀x∈Yq n c,97<=x/\x<=122:=λx hx=>by rw[List.eq_of_mem_replicate hx];exact h
theorem GK{y:List Nat}(h:∀c∈x,97<=c/\c<=122)(k:∀c∈y,97<=c/\c<=122):∀c∈x++y,97<=c/\c<=122:=λc hc=>(fU.mp hc).elim (h c) (k c)
theorem Ly(h:97<=a/\a<=122):∀c∈[a],97<=c/\c<=122:=λc hc=>by rw[Yz.mp hc];exact h
theorem Znj(q mo:Int)(k:Nat):1<=(jx q mo k).length/\(jx q mo k).length<=8/\∀c∈jx q mo k,97<=c/\c<=122:=by
 have m8:0<=mo / 26 % 8/\mo / 26 % 8<8:=⟨pU _ (by decide),sX _ (by decide)⟩;have m7:0<=mo / 676 % 7/\mo / 676 % 7<7:=⟨pU _ (by decide),sX _ (by decide)⟩;unfold jx;by_cases h3:q=3
 .rw[if_pos h3];refine⟨by simp[uD],by simp[uD];omega,GK (GK (Ly (yR _)) (Ly (yR _))) (Lx (yR _))⟩
 rw[if_neg h3];by_cases h2:q=2
 .rw[if_pos h2];refine⟨by simp[oA];omega,by simp[oA];omega,λc hc=>GK (Lx (yR _)) (Lx (yR _)) c (List.take_subset _ _ hc)⟩
 rw[if_neg h2];by_cases h1:q=1
 .rw[if_pos h1];obtain⟨j,_,_,hm,_⟩:=GJ mo k;have w:=CQ _ hm;exact⟨by rw[uz,Ye];exact DN _ _,by rw[uz,Ye,jb];omega,GK w.2.2.1 (Ly (yR _))⟩
 .rw[if_neg h1];exact⟨by rw[qG,mG];omega,by rw[qG,mG];omega,Lx (yR _)⟩
theorem Zuj(q mo:Int)(k:Nat):gC (ji q mo k):=by
 have f:=Znj q mo k;unfold ji;by_cases h:jx q mo k∈cU
 .rw[if_pos h];have w:=CQ _ h;exact⟨by rw[Ye];exact DN _ _,by rw[Ye,jb];omega,λz=>(CQ _ z).2.2.2.2.1 (by simp),GK f.2.2 (Ly (by decide))⟩
 .rw[if_neg h];exact⟨f.1,f.2.1,h,f.2.2⟩
theorem Zny{mo:Int}(hi:i<12)(hj:j<12)(h:bN (mo+i)=bN (mo+j)):i=j:=by have a1:=pU (mo+i) (b:=26) (by decide);have a2:=pU (mo+j) (b:=26) (by decide);unfold bN at h;omega
theorem Zob{q mo:Int}{k m:Nat}(h:m<(jx q mo k).length):(ji q mo k)[m]?=(jx q mo k)[m]?:=by
 unfold ji;split
 .exact Yi h
 .rfl
theorem Zry{q mo:Int}(hi:i<12)(hj:j<12)(h:ji q mo i=ji q mo j):i=j:=by
 by_cases h3:q=3
 .have e:∀k:Nat,jx q mo k=uD mo k:=λk=>by unfold jx;rw[if_pos h3]
  have g:∀k:Nat,(ji q mo k)[1]?=Ya (bN (mo+k)):=λk=>by rw[Zob (by rw[e];simp[uD]),e];rfl
  have:=g i;rw[h,g j]at this;exact(Zny hj hi (Y8 this)).symm
 by_cases h2:q=2
 .have e:∀k:Nat,jx q mo k=oA mo k:=λk=>by unfold jx;rw[if_neg h3,if_pos h2]
  have ne:bN mo≠bN (mo+1):=λz=>by unfold bN at z;omega
  have form:∀k:Nat,k<12->(k<8/\oA mo k=Yq (k+1) (bN mo))\/(8<=k/\oA mo k=Yq (k-7) (bN mo)++[bN (mo+1)]):=λk hk=>by
   by_cases z:k<8
   .left;refine⟨z,?_⟩;rw[oA,Nat.mod_eq_of_lt z,Nat.div_eq_of_lt z,kZ 1 k,List.replicate_zero,jX,qM (by rw[mG];omega)]
   .right;refine⟨by omega,?_⟩;have d1:k / 8=1:=by omega
    have d2:1+k % 8=k-7:=by omega
    rw[oA,d1,d2,qM (by rw[Ye,mG,mG];omega)];rfl
  have nw:∀k:Nat,k<12->ji q mo k=oA mo k:=λk hk=>by
   unfold ji;rw[e,if_neg λz=>?_];have w:=CQ _ z;rcases form k hk with⟨z1,f⟩|⟨z1,f⟩
   .rw[f,mG]at w;apply w.2.2.2.2.2;rw[Di (by omega),Di (by omega)]
   .rw[f,Ye,mG,jb]at w;apply w.2.2.2.2.2;rw[Yi (by rw[mG];omega),Yi (by rw[mG];omega),Di (by omega),Di (by omega)]
  rw[nw i hi,nw j hj]at h;have hl:=congrArg uT h;have hg:=congrArg List.getLast? h;rcases form i hi with⟨z1,f1⟩|⟨z1,f1⟩<;>rcases form j hj with⟨z2,f2⟩|⟨z2,f2⟩<;>rw[f1,f2]at hl hg
  .simp at hl;exact hl
  .simp[Wt]at hg;exact absurd hg ne
  .simp[Wt]at hg;exact absurd hg.symm ne
  .simp at hl;omega
 by_cases h1:q=1
 .have e:∀k:Nat,jx q mo k=uz mo k:=λk=>by unfold jx;rw[if_neg h3,if_neg h2,if_pos h1]
  have nw:∀k:Nat,ji q mo k=uz mo k:=λk=>by unfold ji;rw[e,if_neg λz=>?_];obtain⟨_,_,_,hm,_⟩:=GJ mo k;have w:=(CQ _ z).2.2.2.1;rw[uz,List.dropLast_concat]at w;exact w hm
  rw[nw,nw]at h;have h:=List.append_cancel_right h;obtain⟨a,ea,ha,_,ga⟩:=GJ mo i;obtain⟨b,eb,hb,_,gb⟩:=GJ mo j;rw[h]at ga;have hn:cU.Nodup:=by decide
  have:=(WM (show a<cU.length from ha) hn).mp (ga.trans gb.symm);omega
 .have e:∀k:Nat,jx q mo k=qG mo k:=λk=>by unfold jx;rw[if_neg h3,if_neg h2,if_neg h1]
  have g:∀k:Nat,(ji q mo k)[0]?=Ya (bN (mo+k)):=λk=>by rw[Zob (by rw[e,qG,mG];omega),e,qG,Di (by omega)]
  have:=g i;rw[h,g j]at this;exact(Zny hj hi (Y8 this)).symm
theorem ZtB(h:M[n]?=Ya (.lst (cU.map D.str)))(x:List Nat):yg (.str x) (.ref n) M= .ok (.bl (decide (x∈cU))) M:=by
 have he:∀l:List (List Nat),(l.map D.str).any (λy=>dN y (.str x))=decide (x∈l):=by
  intro l
  induction l with
  |nil=>rfl|cons y l ih=>
   rw[Yu,kW,ih,Zs5];by_cases h:y=x
   .subst h;simp
   .have h':x≠y:=λe=>h e.symm;simp[h,h']
 have hf:(dh (.str x)&&(cU.map D.str).all dh)=true:=rfl;rw[Zqy,h];simp only[hf,if_true,he]
theorem Ux{c f:E3}{p:Prop}[Decidable p]{x y:D}(hc:c env M= .ok (.bl (decide p)) M)(hf:f env M= .ok x M)(hi:env[i]?=Ya (Ya y)):aK c (au i f) aX env M= .nx (env.set i (Ya (if p then x else y))) M:=by
 by_cases h:p
 .rw[decide_eq_true h]at hc;rw[if_pos h];exact(e_ hc).trans (Zo hf rfl)
 .rw[decide_eq_false h]at hc;rw[if_neg h];refine(cT hc).trans ?_;congr 1;apply zp;intro j;by_cases e:j=i
  .subst e;rw[Y0 (Yf.mp hi).1,hi]
  .rw[Yr (cP e)]
theorem Zse{on:Nat}{v:Int}{acc:List D}{k:Nat}(ho:M[on]?=Ya (.lst (cU.map D.str)))(hk:k<12)(hl:acc.length<100){v0 x9 x10:Option D}:
  ∃y9 y10,lnB [v0,Ya (.ref on),Ya (.str LET),Ya (.int v),Ya (.int (v / 4)),Ya (.str [bN (v / 4)]),Ya (.str [bN (v / 4 / 26)]),Ya (.ref M.length),Ya (.int (k:Int)),x9,x10] (M++[.lst acc])= .nx [v0,Ya (.ref on),Ya (.str LET),Ya (.int v),Ya (.int (v / 4)),Ya (.str [bN (v / 4)]),Ya (.str [bN (v / 4 / 26)]),Ya (.ref M.length),Ya (.int (k:Int)),y9,y10] (M++[.lst (acc++[.str (ji (v % 4) (v / 4) k)])]):=by
 let mo:=v / 4
 let S:=M++[MO.lst acc]
 have hoS:S[on]?=Ya (.lst (cU.map D.str)):=bQ ho _;have m8:0<=mo / 26 % 8/\mo / 26 % 8<8:=⟨pU _ (by decide),sX _ (by decide)⟩;have m7:0<=mo / 676 % 7/\mo / 676 % 7<7:=⟨pU _ (by decide),sX _ (by decide)⟩
 let En (n:List Nat):bL:=[v0,Ya (.ref on),Ya (.str LET),Ya (.int v),Ya (.int mo),Ya (.str [bN mo]),Ya (.str [bN (mo / 26)]),Ya (.ref M.length),Ya (.int (k:Int)),Ya (.str [bN (mo+k)]),Ya (.str n)]
 have q4:∀(n:List Nat) (c:Int),e2 aW (e2 Zy (Za 3) (eC (.int 4))) (eC (.int c)) (En n) S= .ok (.bl (decide (v % 4=c))) S:=λn c=>Zh (Zh rfl rfl (dY (by decide))) rfl (by simp only[aW,xV]);have s9:au 9 (e2 Zn (Za 2) (e2 Zy (e2 aR (Za 4) (Za 8)) (eC (.int 26)))) [v0,Ya (.ref on),Ya (.str LET),Ya (.int v),Ya (.int mo),Ya (.str [bN mo]),Ya (.str [bN (mo / 26)]),Ya (.ref M.length),Ya (.int (k:Int)),x9,x10] S= .nx [v0,Ya (.ref on),Ya (.str LET),Ya (.int v),Ya (.int mo),Ya (.str [bN mo]),Ya (.str [bN (mo / 26)]),Ya (.ref M.length),Ya (.int (k:Int)),Ya (.str [bN (mo+k)]),x10] S:=Zo (Zh rfl (Zh (Zh rfl rfl rfl) rfl (dY (by decide))) (GF _ _));obtain⟨e8,Uy⟩:∃n:Nat,mo / 26 % 8=(n:Int):=⟨(mo / 26 % 8).toNat,by exact qT ((xx _)) (xF (pR m8.1))⟩;obtain⟨e7,Lz⟩:∃n:Nat,mo / 676 % 7=(n:Int):=⟨(mo / 676 % 7).toNat,qT ((xx _)) (xF (pR m7.1))⟩;have Ke:au 10 (e2 iD (Za 9) (e2 aR (eC (.int 1)) (e2 Zy (e2 bH (Za 4) (eC (.int 26))) (eC (.int 8))))) [v0,Ya (.ref on),Ya (.str LET),Ya (.int v),Ya (.int mo),Ya (.str [bN mo]),Ya (.str [bN (mo / 26)]),Ya (.ref M.length),Ya (.int (k:Int)),Ya (.str [bN (mo+k)]),x10] S= .nx (En (qG mo k)) S:=by
  refine Zo (d:=.str (qG mo k)) (Zh (M2:=S) rfl (b:=.int ((1+e8:Nat):Int)) (Zh rfl (Zh (Zh rfl rfl (iJ (by decide))) rfl (dY (by decide))) ?_) ?_)
  .rw[tR,Uy];congr 2
  .rw[mul_str _ _ (by exact iN [_] [_] 2 0x3e83b0ac181b091080b1 T1 Uy m8.2),qG,Uy,qR]
 obtain⟨j,ej,hj,hm,hg⟩:=GJ mo k;have w1:=CQ _ hm
 let n1:=qG mo k
 let n2:=if v % 4=1 then uz mo k else n1
 let n3:=if v % 4=2 then oA mo k else n2
 let n4:=if v % 4=3 then uD mo k else n3
 have f1:e2 aR (e2 Zn (Za 1) (e2 Zy (e2 aR (Za 8) (Za 4)) (eC (.int 12)))) (Za 6) (En n1) S= .ok (.str (uz mo k)) S:=by refine Zh (Zh rfl (Zh (Zh rfl rfl rfl) rfl (dY (by decide))) (iG hoS (d:=.str (cU.getD (((k:Int)+mo) % 12).toNat [])) ?_)) rfl (add_str (by simp only[jb];exact lA 1 0x3e83ba0c051b001 T1 w1.2.1) S);rw[ej,fc,jV,hg,ej];rfl
 have Kc:=Ux (i:=10) (q4 n1 1) f1 (y:=.str n1) rfl;have k8:((k:Int)) % 8=((k % 8:Nat):Int):=by omega
 have k8d:((k:Int)) / 8=((k / 8:Nat):Int):=by omega
 have t1:e2 aR (e2 iD (Za 5) (e2 aR (eC (.int 1)) (e2 Zy (Za 8) (eC (.int 8))))) (e2 iD (e2 Zn (Za 2) (e2 Zy (e2 aR (Za 4) (eC (.int 1))) (eC (.int 26)))) (e2 bH (Za 8) (eC (.int 8)))) (En n2) S= .ok (.str (Yq (1+k % 8) (bN mo)++Yq (k / 8) (bN (mo+1)))) S:=by refine Zh (Zh rfl (b:=.int ((1+k % 8:Nat):Int)) (Zh rfl (Zh rfl rfl (dY (by decide))) (by rw[tR,k8];congr 2)) (mul_str _ _ (by exact lA 1 0x3e83b0ac181b011 T1 (DR _ (by decide))) S)) (Zh (Zh rfl (Zh (Zh rfl rfl rfl) rfl (dY (by decide))) (GF _ _)) (b:=.int ((k / 8:Nat):Int)) (Zh rfl rfl ((iJ (by decide)).trans (by rw[k8d]))) (mul_str _ _ (by exact lB 2 0x3e83b110108d01c1b011 T1 hk (zJ _ _)) S)) (add_str (by simp;exact lC 3 0x3e83b21acc00208d0181b111c1b011 T1 hk (DR _ (by decide)) (zJ _ _)) S)
 have s12:aK (e2 aW (e2 Zy (Za 3) (eC (.int 4))) (eC (.int 2))) (Zr (au 10 (e2 aR (e2 iD (Za 5) (e2 aR (eC (.int 1)) (e2 Zy (Za 8) (eC (.int 8))))) (e2 iD (e2 Zn (Za 2) (e2 Zy (e2 aR (Za 4) (eC (.int 1))) (eC (.int 26)))) (e2 bH (Za 8) (eC (.int 8)))))) (au 10 (eO (Za 10) (fX) (dO (eC (.int 8)))))) (aX) (En n2) S= .nx (En n3) S:=by
  by_cases h:v % 4=2
  .have c:=q4 n2 2;rw[decide_eq_true h]at c;have e3:n3=oA mo k:=if_pos h;rw[e3];refine(e_ c).trans ((Zi (Zo (env':=En (Yq (1+k % 8) (bN mo)++Yq (k / 8) (bN (mo+1)))) t1 rfl)).trans (Zo (d:=.str (oA mo k)) ?_ rfl));show xY (.str _) Ym (Ya ((8:Nat):Int)) S=_;rw[Ag,if_pos (by rw[Ye,mG,mG];exact Yj (show _<=100 by exact lC 3 0x642b21acc00208d0181b111c1b011 T1 hk (DR _ (by decide)) (zJ _ _)) (by decide)),ZpV];rfl
  .have c:=q4 n2 2;rw[decide_eq_false h]at c;have e3:n3=n2:=if_neg h;rw[e3];exact cT c
 have f3:e2 aR (e2 aR (Za 6) (Za 9)) (e2 iD (e2 Zn (Za 2) (e2 Zy (e2 bH (Za 4) (eC (.int 7))) (eC (.int 26)))) (e2 Zy (e2 bH (Za 4) (eC (.int 676))) (eC (.int 7)))) (En n3) S= .ok (.str (uD mo k)) S:=by refine(Zh (Zh rfl rfl (add_str (x:=[bN (mo / 26)]) (y:=[bN (mo+k)]) (show 1+1<=1000 by decide) S)) (Zh (Zh rfl (Zh (Zh rfl rfl (iJ (by decide))) rfl (dY (by decide))) (GF _ _)) (b:=.int (e7:Int)) (Zh (Zh rfl rfl (iJ (by decide))) rfl ((dY (by decide)).trans (by rw[Lz]))) (mul_str _ _ (by exact iN [_] [_] 2 0x3e83b0171b091080b1 T1 Lz m7.2) S)) (add_str (by simp;exact iN [_] [_] 2 0x3e83b021bc071b091080b1 T1 Lz m7.2) S)).trans ?_;rw[uD,Lz,qR]
 have s13:=Ux (i:=10) (q4 n3 3) f3 (y:=.str n3) rfl;have eB:n4=jx (v % 4) mo k:=by show(if v % 4=3 then uD mo k else if v % 4=2 then oA mo k else if v % 4=1 then uz mo k else qG mo k)=_;rfl
 have fB:=Znj (v % 4) mo k;have c5:e2 yg (Za 10) (Za 1) (En n4) S= .ok (.bl (decide (n4∈cU))) S:=Zh rfl rfl (ZtB hoS n4);have f5:e2 aR (Za 10) (eC (.str [120])) (En n4) S= .ok (.str (n4++[120])) S:=Zh rfl rfl (add_str (by rw[eB,jb];exact lA 1 0x3e83ba0c081b001 T1 fB.2.1) S);have s14:=Ux (i:=10) c5 f5 (y:=.str n4) rfl;have en:∀(p:Prop) [Decidable p] (a b c:List Nat),(En c).set 10 (Ya (if p then D.str a else D.str b))=En (if p then a else b):=λp _ a b c=>by by_cases h:p<;>simp[h,En]
 rw[en]at Kc s13 s14;refine⟨_,_,(Zi s9).trans ((Zi Ke).trans ((Zi Kc).trans ((Zi s12).trans ((Zi s13).trans ((Zi s14).trans (?_:_=O3.nx (En (ji (v % 4) mo k)) _))))))⟩;have eF:(if n4∈cU then n4++[120]else n4)=ji (v % 4) mo k:=by rw[eB];rfl
 rw[eF];refine(Tv rfl (Zq M _ []) rfl (Zq M _ []) (mK hl (by decide))).trans ?_;simp[mo]
theorem Znv{M:Store}{on:Nat}{v:Int}(ho:M[on]?=Ya (.lst (cU.map D.str))){it:fV}(hi:it.lock=Ym){v0:Option D}:
  ∀(m k:Nat) (acc:List D) (x8 x9 x10:Option D),k+m=12->acc.length<=k->∃y8 y9 y10,iY it (cj 8) lnB ((uU k m).map λ(i:Nat)=>D.int (i:Int)) [v0,Ya (.ref on),Ya (.str LET),Ya (.int v),Ya (.int (v / 4)),Ya (.str [bN (v / 4)]),Ya (.str [bN (v / 4 / 26)]),Ya (.ref M.length),x8,x9,x10] (M++[.lst acc])= .nx [v0,Ya (.ref on),Ya (.str LET),Ya (.int v),Ya (.int (v / 4)),Ya (.str [bN (v / 4)]),Ya (.str [bN (v / 4 / 26)]),Ya (.ref M.length),y8,y9,y10] (M++[.lst (acc++(uU k m).map λi=>D.str (ji (v % 4) (v / 4) i))])
 |0,k,acc,x8,x9,x10,_,_=>⟨x8,x9,x10,by show iY _ _ _ [] _ _=_;rw[vI,if_pos (by unfold locked;rw[hi])];simp⟩|m+1,k,acc,x8,x9,x10,h1,h2=>by obtain⟨y9,y10,hb⟩:=Zse (v:=v) (acc:=acc) (k:=k) ho (lB 1 0xc1b01c1ba1c0c21 T1 h1) (lC 2 0x642b01c1ba2c1c211001 T1 h2 h1) (v0:=v0) (x9:=x9) (x10:=x10);obtain⟨z8,z9,Uu,hl⟩:=Znv ho hi m (k+1) (acc++[.str (ji (v % 4) (v / 4) k)]) (Ya (.int (k:Int))) y9 y10 (Y4 (lB 1 0xc1b1a0cc0c1ba1c0c21 T1 h1) (lB 1 0x1a0ccc1b0c1ba1c0c31 T1 h1)) (by rw[Ye];exact oO h2);refine⟨z8,z9,Uu,?_⟩;rw[WR,Yu,Yu,tW,if_pos (by unfold locked;rw[hi])];simp only[cj,oJ,oK];rw[hb];simp only;rw[hl,jl];rfl
section
variable {cs:List Int} {c d ao:Nat} {M:Store}
theorem Zqh(dk:dw cs c d ao M)(ha:ao<900000):∃(S:Store) (n:Nat) (names:List (List Nat)),KQ [.ref d] M= .ok (.ref n) S/\S[n]?=Ya (.lst (names.map D.str))/\M.length<=n/\names.length=12/\(∀x∈names,gC x)/\names.Nodup/\dw cs c d (ao+1) S/\Kp d M S:=by
 have ld:=dk.lt
 let M1:=M++[MO.lst (cU.map D.str)]
 obtain⟨v,S1,hv,D1,uy,l1⟩:=(dk.app [MO.lst (cU.map D.str)]).draw (lA 1 0xf42405b01dbba05b011 T1 ha);have ho:S1[M.length]?=Ya (.lst (cU.map D.str)):=uy.get (Zq M _ []) (λz=>lB 2 25787699233 T1 z ld.2);obtain⟨y8,y9,y10,hl⟩:=Znv (v:=v) ho (it:=⟨lR 0 12,Ym⟩) rfl (v0:=Ya (.ref d)) 12 0 [] Ym Ym Ym rfl (Ys _)
 let names:=(uU 0 12).map λi=>ji (v % 4) (v / 4) i
 have en:(uU 0 12).map (λi=>D.str (ji (v % 4) (v / 4) i))=names.map D.str:=by rw[qO];rfl
 have er:(uU 0 12).map (λ(i:Nat)=>D.int (i:Int))=lR 0 12:=by simp[lR,List.range_eq_range']
 rw[jF,en,er]at hl;have hML:M.length<=S1.length:=by rw[l1];exact len_app M _
 refine⟨S1++[.lst (names.map D.str)],S1.length,names,?_,Zq _ _ _,hML,rfl,λx hx=>by obtain⟨i,_,rfl⟩:=gJ.mp hx;exact Zuj _ _ i,?_,D1.app _,((Kp.app d M _).trans uy).trans (Kp.app d S1 _)⟩
 .refine(jC (M':=S1++[.lst (names.map D.str)]) (env:=[Ya (.ref d),Ym,Ym,Ym,Ym,Ym,Ym,Ym,Ym,Ym,Ym]) ?_).trans (Ln hML);unfold SQ;refine(Zi (Zo (d:=.ref M.length) (M':=M1) (cY (ds:=cU.map D.str) rfl rfl))).trans ((Zi (Zo (d:=.str LET) rfl)).trans ((Zi (Zo (d_ rfl hv))).trans ((Zi (Zo (d:=.int (v / 4)) (Zh rfl rfl (iJ (by decide))))).trans ((Zi (Zo (Zh rfl (Zh rfl rfl (dY (by decide))) (GF _ _)))).trans ((Zi (Zo (Zh rfl (Zh (Zh rfl rfl (iJ (by decide))) rfl (dY (by decide))) (GF _ _)))).trans ((Zi (Zo (d:=.ref S1.length) (M':=S1++[.lst []]) (cY rfl rfl))).trans ?_))))));have hr:rn (eC (.int 12)) [Ya (.ref d),Ya (.ref M.length),Ya (.str LET),Ya (.int v),Ya (.int (v / 4)),Ya (.str [bN (v / 4)]),Ya (.str [bN (v / 4 / 26)]),Ya (.ref S1.length),Ym,Ym,Ym] (S1++[.lst []])= .ok ⟨lR 0 12,Ym⟩ (S1++[.lst []]):=by simp
  exact(Zi ((x_ hr).trans hl)).trans (di rfl)
 .have key:∀l:List Nat,l.Nodup->(∀i∈l,i<12)->(l.map λi=>ji (v % 4) (v / 4) i).Nodup:=by
   intro l
   induction l with
   |nil=>intro _ _;exact NZ|cons i l ih=>intro hn Nf;rw[Yu,iQ];refine⟨λhm=>?_,ih (iQ.mp hn).2 λj hj=>Nf j (Yc _ hj)⟩;obtain⟨j,hj,e⟩:=gJ.mp hm;have:=Zry (Nf j (Yc _ hj)) (Nf i Yd) e;exact(iQ.mp hn).1 (this▸hj)
  exact key _ (by decide) (by decide)
theorem Zp0(dk:dw cs c d ao M)(ha:ao<900000)(hnr:M[nr]?=Ya (.lst (names.map D.str)))(nd:nr≠d)(hn:names.length=12)(hnd:names.Nodup):
  ∃(S:Store) (tk:List (List Nat)),KZ [.ref d,.ref nr] M= .ok (.tup (tk.map D.str)) S/\tk.length<=6/\tk.Nodup/\(∀x∈tk,x∈names)/\kO cs c d M S ao (ao+1) 1:=by
 have ld:=dk.lt;obtain⟨v,S1,hv,D1,uy,l1⟩:=dk.draw (by exact lA 1 0xf42405b01dbba05b011 T1 ha);have hn1:S1[nr]?=Ya (.lst (names.map D.str)):=uy.get hnr nd;obtain⟨m,em,hm⟩:=mY v 7 (by decide);have em:v % 7=(m:Int):=em
 let g:Nat->List Nat:=λk=>names.getD ((v / 7+k) % 12).toNat []
 have gx:∀k:Nat,∃a:Nat,(v / 7+k) % 12=(a:Int)/\a<12/\names[a]?=Ya (g k):=λk=>by obtain⟨a,ea,ha⟩:=mY (v / 7+k) 12 (by decide);have ea:(v / 7+k) % 12=(a:Int):=ea;refine⟨a,ea,ha,?_⟩;show _=Ya (names.getD ((v / 7+k) % 12).toNat []);rw[ea,qR,Dj,Y9 (by exact lB 2 72552035802787857 T1 ha hn)];rfl
 let tk:=(gW m).map g
 have lc:fL (rn (e2 Zy (Za 2) (eC (.int 7)))) 1 (cj 3) [] (e2 Zn (Za 1) (e2 Zy (e2 aR (e2 bH (Za 2) (eC (.int 7))) (Za 3)) (eC (.int 12)))) [Ya (.ref d),Ya (.ref nr),Ya (.int v)] S1= .ok (.ref S1.length) (S1++[.lst ((gW m).map λk=>D.str (g k))]):=by
  refine TF (enc:=λ(k:Nat)=>D.int (0+(k:Int))) (h:=λk=>D.str (g k)) (as:=gW m) (M1:=S1) (lock:=Ym) (λe=>∃x,e=[Ya (.ref d),Ya (.ref nr),Ya (.int v),x]) ?_ (λn z=>nomatch z) ⟨_,rfl⟩ ?_ (by rw[Hy];exact lA 1 0x186a05b0071b011 T1 hm)
  .have hmod:e2 Zy (Za 2) (eC (.int 7)) [Ya (.ref d),Ya (.ref nr),Ya (.int v)] S1= .ok (.int (m:Int)) S1:=Zh rfl rfl ((dY (by decide)).trans (by rw[em]));have:(m:Int)<=1000000/\ -1000000<=(m:Int):=⟨iN [_] [] 1 0xf42405b08871b011 T1 hm,iN [_] [] 0 615291837336 T1⟩;simp only[rn,hmod,R3.bind];simp[this,lR]
  .intro k hk env ⟨x,e⟩;subst e;obtain⟨a,ea,Aea,hga⟩:=gx k;refine⟨_,rfl,⟨_,rfl⟩,λz=>Zh rfl (Zh (Zh (Zh rfl rfl (iJ (by decide))) rfl rfl) rfl (dY (by decide))) (iG (bQ hn1 _) ?_)⟩;rw[zP,ea,fc,jV,hga];rfl
 have etk:(gW m).map (λk=>D.str (g k))=tk.map D.str:=by rw[qO];rfl
 rw[etk]at lc;have AbF:names.length=12:=hn;obtain⟨S,e,Dr⟩:=Gy (ao:=ao) (x:=.tup (tk.map D.str)) (n:=1) ld (D1.app [.lst (tk.map D.str)]) (uy.trans (Kp.app d S1 _)) (Ys _);refine⟨S,tk,(jC (M':=S1++[.lst (tk.map D.str)]) (env:=[Ya (.ref d),Ya (.ref nr),Ym]) ?_).trans e,by simp[tk];exact lA 1 6713041334289 T1 hm,?_,λx hx=>?_,Dr⟩
 .unfold Tg;exact(Zi (Zo (d_ rfl hv))).trans (di (b8 lc (o4 (Zq _ _ _))))
 .have key:∀l:List Nat,l.Nodup->(∀i∈l,i<7)->(l.map g).Nodup:=by
   intro l
   induction l with
   |nil=>intro _ _;exact NZ|cons i l ih=>
    intro hn Uz;rw[Yu,iQ];refine⟨λhm=>?_,ih (iQ.mp hn).2 λj hj=>Uz j (Yc _ hj)⟩;obtain⟨j,hj,e⟩:=gJ.mp hm;obtain⟨a,ea,ha,ga⟩:=gx j;obtain⟨b,eb,hb,gb⟩:=gx i;rw[e]at ga;have:=(WM (show a<names.length by exact lB 2 72552035802787857 T1 ha AbF) hnd).mp (ga.trans gb.symm);have h1:=Uz j (Yc _ hj);have h2:=Uz i Yd;have:i=j:=by omega
    exact(iQ.mp hn).1 (this▸hj)
  exact key _ List.nodup_range λi hi=>by have:=Hz.mp hi;exact mK this hm
 .obtain⟨k,_,rfl⟩:=gJ.mp hx;obtain⟨a,_,_,ga⟩:=gx k;exact wR ga
end
noncomputable def gm:Nat->D->Bool
 |_,.int _=>true|_,.str _=>true|_,.bl _=>true|n+1,.tup ds=>decide (ds.length<=1000)&&ds.all (gm n)
 |_,_=>false
theorem ZqP:∀(n:Nat) (d:D) (M:Store),gm n d=true->pC (n+1) [d,d] M= .ok (.bl true) M:=by
 intro n
 induction n with
 |zero=>
  intro d M h;cases d with
  |str x=>simp[pC,rK,Zr,au,aY,aK,aX,aP,bZ,dX,below,bT,lK]|int i=>simp[pC,rK,Zr,au,aY,aK,aX,aP,bZ,dX,below,bT,lK]|bl b=>simp[pC,rK,Zr,au,aY,aK,aX,aP,bZ,dX,below,bT,lK]|_=>simp[gm]at h
 | succ n ih=>
  intro d M h;cases d with
  |str x=>simp[pC,rK,Zr,au,aY,aK,aX,aP,bZ,dX,below,bT,lK]|int i=>simp[pC,rK,Zr,au,aY,aK,aX,aP,bZ,dX,below,bT,lK]|bl b=>simp[pC,rK,Zr,au,aY,aK,aX,aP,bZ,dX,below,bT,lK]|tup ds=>
   simp only[gm,Y5,decide_eq_true_eq,gU]at h;obtain⟨hl,hd⟩:=h;show bZ 2 2 (rK (pC (n+1))) [.tup ds,.tup ds] M=_;generalize pC (n+1)=F at ih;have lc:=vL (α:=Nat) (enc:=λk=>D.int (0+(k:Int))) (h:=λ_=>D.bl true) (own:=1) (i:=2) (it:=rn (aB a_ (Zb (Za 1) (Zf)))) (elt:=aN F (Zb (e2 Zn (Za 0) (Za 2)) (Zb (e2 Zn (Za 1) (Za 2)) (Zf)))) (env:=[Ya (.tup ds),Ya (.tup ds)]) (M:=M) (M1:=M) (lock:=Ym) (as:=gW ds.length)
    (by have:(ds.length:Int)<=1000000/\ -1000000<=(ds.length:Int):=⟨iN [_] [] 1 0xf42405b0883e83b001 T1 hl,iN [_] [] 0 615291837336 T1⟩;simp[this,lR]) (λ_ h=>by cases h)
    (λk hk M=>by
     have hk':k<ds.length:=by simpa using hk
     have hg:ds[k]?=Ya ds[k]:=by simp[hk']
     have:=ih ds[k] M (hd _ (uQ hk'));have gk:gA ds (0+(k:Int))=Ya ds[k]:=by rw[zP,fc,hg]
     simp only[aN,Zb,e2,Za,Zf,wU,jF,Yq,List.set,Hu,Dk,R3.bind,Q4,Q5,JQ,Q6,gk,this]) (by simp;exact lA 1 0x186a05b003e83b001 T1 hl)
   refine Rt.pure (G:=[.lst ((gW ds.length).map λ_=>D.bl true)]) (env:=[Ya (.tup ds),Ya (.tup ds)]) ?_ rfl;unfold rK;refine rC ((e_ (M':=M) (by exact rfl)).trans ((Zi (cT (M':=M) (by exact rfl))).trans (di ((iH (M1:=M) (by simp)).trans (b8 lc ?_)))));simp[allB,Am,xZ]
  |_=>simp[gm]at h
theorem Zhx:∀(n:Nat) (d:D),gm n d=true->gm (n+1) d=true
 |0,.int _,_=>rfl|0,.str _,_=>rfl|0,.bl _,_=>rfl|n+1,.int _,_=>rfl
 |n+1,.str _,_=>rfl|n+1,.bl _,_=>rfl|n+1,.tup ds,h=>by have h:(decide (ds.length<=1000)&&ds.all (gm n))=true:=h;show(decide (ds.length<=1000)&&ds.all (gm (n+1)))=true;rw[Y5,gU]at h ⊢;exact⟨h.1,λx hx=>Zhx n x (h.2 x hx)⟩
theorem UG(h:n<=m){d:D}(p:gm n d=true):gm m d=true:=by
 induction h with
 |refl=>exact p|step _ ih=>exact Zhx _ _ ih
theorem wG(l:ds.length<=1000)(h:∀x∈ds,gm n x=true):gm (n+1) (.tup ds)=true:=by show(decide (ds.length<=1000)&&ds.all (gm n))=true;rw[Y5,gU];exact⟨decide_eq_true l,h⟩
theorem Zlg(n:Nat)(x:List Nat):gm n (.str x)=true:=by cases n<;>rfl
theorem UJ{m:Nat}:∀{l:List D},(∀x∈l,below m x=true)->bT m l=true
 |[],_=>rfl|d::l,h=>by show(below m d&&bT m l)=true;rw[h d Yd,UJ λx hx=>h x (Yc _ hx)];rfl
theorem ZhA(m:Nat):∀(n:Nat) (d:D),gm n d=true->below m d=true
 |0,.int _,_=>rfl|0,.str _,_=>rfl|0,.bl _,_=>rfl|n+1,.int _,_=>rfl
 |n+1,.str _,_=>rfl|n+1,.bl _,_=>rfl|n+1,.tup ds,h=>by have h:(decide (ds.length<=1000)&&ds.all (gm n))=true:=h;rw[Y5,gU]at h;show bT m ds=true;exact UJ λx hx=>ZhA m n x (h.2 x hx)
theorem Zsw(h:qy w):gm n w=true:=by cases h<;>cases n<;>rfl
theorem ZlX(H:fC r):∀x∈r.tl,gm 1 x=true:=λx hx=>by
 rcases fU.mp hx with h|h
 .obtain⟨y,_,rfl⟩:=gJ.mp h;rfl
 .obtain⟨t,ht,rfl⟩:=gJ.mp h;exact wG (Yj (TY ht) (Yj H.ok.len (by decide))) λw hw=>Zsw (Cz t w hw)
theorem ZtJ(H:fC r):r.tl.length<=60:=by have h1:=H.le;have h2:=La r.ts;simp only[Rw.tl,Ye,Yv];exact lC 2 0x3c2b02c03b2b12c011001 T1 h2 h1
noncomputable def GP:List Pf->Prop
 |[]=>True|k::fs=>(k.cur.length<=1000/\∀x∈k.cur,gm (2*(13-fs.length)) x=true)/\(∀l∈k.cl,l.length<=1000/\∀x∈l,gm (2*(13-fs.length)) x=true)/\(∀x∈k.hd,gm 1 x=true)/\fs.length<=12/\GP fs
theorem ZqD(H:fC r):∀{x y:List Pf},GP x->jR r x=Ya y->GP y
 |[],_,_,h=>nomatch h|k :: fs,y,P,h=>by
  have h:stepK r k fs=Ya y:=h;obtain⟨p1,p2,p3,p4,p5⟩:=P;unfold stepK at h;by_cases h1:n_ r.h=true
  .rw[if_pos h1]at h;by_cases hl:fs.length+1<=12
   .rw[if_pos hl]at h;rw[←Y8 h];exact⟨⟨eZ _,(λx hx=>nomatch hx)⟩,(λl hl=>nomatch hl),ZlX H,hl,p1,p2,p3,p4,p5⟩
   .rw[if_neg hl]at h;cases h
  rw[if_neg h1]at h;by_cases h2:r.h=gj
  .rw[if_pos h2]at h;by_cases hc:k.h=gP/\k.cl=[]
   .rw[if_pos hc]at h;rw[←Y8 h];exact⟨⟨eZ _,(λx hx=>nomatch hx)⟩,(λl hl=>by rw[Yz.mp hl];exact p1),p3,p4,p5⟩
   .rw[if_neg hc]at h;cases h
  rw[if_neg h2]at h;by_cases h3:r.h=gQ
  .rw [if_pos h3]at h;cases fs with
   |nil=>cases h|cons k2 fs=>
    simp only at h;by_cases hc:wA k.h=((k.cl.length+1:Nat):Int)/\k.hd.length<100/\k.cl.length<100/\k2.cur.length<1000
    .rw [if_pos hc]at h;rw [←Y8 h];obtain⟨q1,q2,q3,q4,q5⟩:=p5;rw[Yp]at p1 p2 p4;have ed:2*(13-fs.length)=2*(13-(fs.length+1))+1+1:=Y4 (lC 2 0xaa202dcc002d0a1c2cd1b02d1b10c22 T1 (gZ (lA 1 0xd1b00c1b001 T1 q4)) (g8 _ _)) (lC 2 0x2daa202dcc0d1ba1c2c2210cd1b02 T1 (g8 _ _) (gZ (lA 1 0xd1ba0c0c1b001 T1 q4)));have hw:gm (2*(13-fs.length)) k.whole=true:=by
      rw[ed];refine wG ?_ λx hx=>?_
      .simp only[Ye,Yp,Yv,zu];exact lB 2 0x3e83baec1ca0cc0642b111642b011 T1 hc.2.1 hc.2.2.1
      .rcases fU.mp hx with z|z
       .rcases Yo.mp z with e|e
        .rw[e];exact Zlg _ _
        .exact UG (DN _ _) (p3 x e)
       .obtain⟨l,hl,rfl⟩:=gJ.mp z;rcases fU.mp hl with e|e
        .exact wG (p2 l e).1 (p2 l e).2
        .rw[Yz.mp e];exact wG p1.1 p1.2
     refine⟨⟨by rw[Ye,jb];exact hc.2.2.2,λx hx=>?_⟩,q2,q3,q4,q5⟩;rcases fU.mp hx with z|z
     .exact q1.2 x z
     .rw[Yz.mp z];exact hw
    .rw[if_neg hc]at h;cases h
  rw[if_neg h3]at h;by_cases hc:k.cur.length<1000
  .rw[if_pos hc]at h;rw[←Y8 h];have hd:gm (2*(13-fs.length)) (.tup r.deed)=true:=by
    refine UG (n:=2) (lB 2 0x102d21b001cd1b02c1b002 T1 p4 (g8 _ _)) (wG (n:=1) ?_ λx hx=>?_)
    .rw[Lh,Yp];have:=ZtJ H;exact lA 1 0x3e83ba0c03c2b001 T1 this
    .rw[Lh]at hx;rcases Yo.mp hx with e|e
     .rw[e];rfl
     .exact ZlX H x e
   refine⟨⟨by rw[Ye,jb];exact hc,λx hx=>?_⟩,p2,p3,p4,p5⟩;rcases fU.mp hx with z|z
   .exact p1.2 x z
   .rw[Yz.mp z];exact hd
  .rw[if_neg hc]at h;cases h
theorem ZnW:∀(rs:List Rw) (x y:List Pf),(∀r∈rs,fC r)->GP x->mz rs x=Ya y->GP y
 |[],x,y,_,P,h=>by cases h;exact P|r::rs,x,y,H,P,h=>by
  have h:(jR r x).bind (mz rs)=Ya y:=h;cases e:jR r x with
  |none=>rw[e]at h;cases h|some z=>rw[e]at h;exact ZnW rs z y (λq hq=>H q (Yc _ hq)) (ZqD (H r Yd) P e) h
theorem run_plain(H:∀r∈rs,fC r)(h:mz rs Lq=Ya [⟨kJ,[],[],ds⟩]):ds.length<=1000/\∀x∈ds,gm 26 x=true:=by have:=ZnW rs Lq _ H ⟨⟨eZ _,(λx hx=>nomatch hx)⟩,(λl hl=>nomatch hl),(λx hx=>nomatch hx),eZ _,trivial⟩ h;exact this.1
noncomputable abbrev txB:S3:=(Zr (aK (bD (e2 cC (e2 Zy (Za 2) (eC (.int 3))) (eC (.int 0))) (bD (e2 aW (e2 Zy (aN iu (Zb (Za 1) (Zf))) (eC (.int 7))) (eC (.int 1))) (e2 dF (aB a_ (Zb (Za 7) (Zf))) (eC (.int 300))))) (aP (aH bf Zz (Za 7) (Zb (eC (.str [])) (Zf)))) (aX)) (aP (aH bf Zz (Za 7) (Zb (Za 8) (Zf)))))
theorem Zn4(s:Nat):∀T:List (List Nat),(glue [s] T).length<=gl T
 |[]=>Ys _|[t]=>by show t.length<=_;simp[gl]|t::u::T=>by have:=Zn4 s (u::T);rw[uq,Ye,Ye];show _<=((t::u::T).map λt=>t.length+1).sum;rw[Yu,List.sum_cons];have e:gl (u::T)=((u::T).map λt=>t.length+1).sum:=rfl;simp only[jb];omega
structure TS(cs:List Int)(c d tl rl:Nat)(its:List D)(S:Store)(Ls:List (Option (List (List Nat))))(ao:Nat):Prop where
 dk:dw cs c d ao S
 ht:S[tl]?=Ya (.lst ((Ls.map cJ).map D.str))
 hr:S[rl]?=Ya (.lst its)
 ne:tl≠d/\tl≠c/\rl≠d/\rl≠tl
section
variable {cs:List Int} {c d tl rl:Nat} {its:List D}
theorem TS.put(T:TS cs c d tl rl its S Ls ao)(l:Option (List (List Nat))):TS cs c d tl rl its (S.set tl (.lst (((Ls++[l]).map cJ).map D.str))) (Ls++[l]) ao:=⟨T.dk.put T.ne.1 T.ne.2.1 _,Y0 (Yf.mp T.ht).1,by rw[Yr (cP T.ne.2.2.2)];exact T.hr,T.ne⟩
theorem TS.app(T:TS cs c d tl rl its S Ls ao){e:E3}{l:Option (List (List Nat))}(hv:Za 7 env S= .ok (.ref tl) S)(he:e env S= .ok (.str (cJ l)) S)(hl:Ls.length<=10000):
  aP (aH bf Zz (Za 7) (Zb e (Zf))) env S= .nx env (S.set tl (.lst (((Ls++[l]).map cJ).map D.str))):=by
 refine(m5 hv T.ht he T.ht (by rw[Yv,Yv];exact sU hl (by decide))).trans ?_;rw[show(Ls.map cJ).map D.str++[D.str (cJ l)]=((Ls++[l]).map cJ).map D.str by simp]
theorem ZrI(T:TS cs c d tl rl its S Ls ao)(ha:ao<1000000){v:Int}{v0 v3 v4 v5 v6 v8 v9:Option D}:
  ∃(b:Bool) (S1:Store) (at1:Nat),bD (e2 cC (e2 Zy (Za 2) (eC (.int 3))) (eC (.int 0))) (bD (e2 aW (e2 Zy (aN iu (Zb (Za 1) (Zf))) (eC (.int 7))) (eC (.int 1))) (e2 dF (aB a_ (Zb (Za 7) (Zf))) (eC (.int 300)))) [v0,Ya (.ref d),Ya (.int v),v3,v4,v5,v6,Ya (.ref tl),v8,v9] S= .ok (.bl b) S1/\TS cs c d tl rl its S1 Ls at1/\at1<=ao+1:=by
 have m3:e2 Zy (Za 2) (eC (.int 3)) [v0,Ya (.ref d),Ya (.int v),v3,v4,v5,v6,Ya (.ref tl),v8,v9] S= .ok (.int (v % 3)) S:=Zh rfl rfl (dY (by decide));by_cases h:(0:Int)<v % 3
 .obtain⟨w,S1,hw,D1,kp,l1⟩:=T.dk.draw ha;have T1:TS cs c d tl rl its S1 Ls (ao+1):=⟨D1,kp.get T.ht T.ne.1,kp.get T.hr T.ne.2.2.1,T.ne⟩;have c1:=iH (g:=bD (e2 aW (e2 Zy (aN iu (Zb (Za 1) (Zf))) (eC (.int 7))) (eC (.int 1))) (e2 dF (aB a_ (Zb (Za 7) (Zf))) (eC (.int 300)))) (M1:=S) (Zh (op:=cC) (g:=eC (.int 0)) m3 rfl (by rw[jf,decide_eq_true h]));have m7:e2 Zy (aN iu (Zb (Za 1) (Zf))) (eC (.int 7)) [v0,Ya (.ref d),Ya (.int v),v3,v4,v5,v6,Ya (.ref tl),v8,v9] S= .ok (.int (w % 7)) S1:=Zh (d_ rfl hw) rfl (dY (by decide));by_cases h7:w % 7=1
  .exact⟨_,S1,ao+1,c1.trans ((iH (M1:=S1) (Zh m7 rfl (rE h7))).trans (Zh (b8 rfl (j7 T1.ht)) rfl (by rw[lM]))),T1,Ys _⟩
  .exact⟨false,S1,ao+1,c1.trans (lV (M1:=S1) (Zh m7 rfl (vK h7))),T1,Ys _⟩
 .exact⟨false,S,ao,lV (M1:=S) (Zh m3 rfl (by rw[jf,decide_eq_false h])),T,vy _⟩
theorem LC(Ls:List (Option (List (List Nat))))(l:Option (List (List Nat))):gl ((Ls++[l]).map cJ)=gl (Ls.map cJ)+((cJ l).length+1):=by rw[jY];exact Lp _ _
theorem Zoe{v:Int}{v0 v3 v4 v5 v6 v9:Option D}{it:fV}(hi:it.lock=Ya rl)(hit:it.items=its):∀(RW:List (List (List Nat))) (S:Store) (Ls:List (Option (List (List Nat)))) (ao:Nat) (x8:Option D),TS cs c d tl rl its S Ls ao->ao+RW.length<1000000->Ls.length+2*RW.length<=10000 ->
  ∃(S':Store) (yS:List (Option (List (List Nat)))) (at':Nat) (y8:Option D),iY it (cj 8) txB (RW.map λws=>D.str (glue [32] ws)) [v0,Ya (.ref d),Ya (.int v),v3,v4,v5,v6,Ya (.ref tl),x8,v9] S= .nx [v0,Ya (.ref d),Ya (.int v),v3,v4,v5,v6,Ya (.ref tl),y8,v9] S'/\TS cs c d tl rl its S' yS at'/\yS.filterMap id=Ls.filterMap id++RW/\(∀ws,Ya ws∈yS->Ya ws∈Ls\/ws∈RW)/\yS.length<=Ls.length+2*RW.length/\gl (yS.map cJ)<=gl (Ls.map cJ)+gl (RW.map (glue [32]))+RW.length
 |[],S,Ls,ao,x8,T,_,_=>⟨S,Ls,ao,x8,by show iY _ _ _ [] _ _=_;rw[vI,if_pos (by unfold locked;rw[hi,hit];exact decide_eq_true T.hr)],T,(jX _).symm,λws h=>.inl h,jc _ _,by omega⟩|ws::RW,S,Ls,ao,x8,T,h1,h2=>by
  rw [Yp]at h1 h2;obtain⟨b,S1,at1,hc,T1,ha1⟩:=ZrI T (by omega) (v:=v) (v0:=v0) (v3:=v3) (v4:=v4) (v5:=v5) (v6:=v6) (v8:=Ya (.str (glue [32] ws))) (v9:=v9);have step:∃S2 L2,txB [v0,Ya (.ref d),Ya (.int v),v3,v4,v5,v6,Ya (.ref tl),Ya (.str (glue [32] ws)),v9] S= .nx [v0,Ya (.ref d),Ya (.int v),v3,v4,v5,v6,Ya (.ref tl),Ya (.str (glue [32] ws)),v9] S2/\TS cs c d tl rl its S2 L2 at1/\L2.filterMap id=Ls.filterMap id++[ws]/\(∀vs,Ya vs∈L2->Ya vs∈Ls\/vs=ws)/\L2.length<=Ls.length+2/\gl (L2.map cJ)<=gl (Ls.map cJ)+((glue [32] ws).length+1)+1:=by
   cases b with
   | true=>
    have T2:=T1.put Ym;have T3:=T2.put (Ya ws);refine⟨_,Ls++[Ym]++[Ya ws],(Zi ((e_ hc).trans (T1.app (l:=Ym) rfl rfl (by omega)))).trans (T2.app (l:=Ya ws) rfl rfl (by simp;omega)),T3,by simp,λvs h=>?_,by simp,?_⟩
    .simp at h;rcases h with h|h
     .exact .inl h
     .exact .inr h
    .rw[LC,LC];show gl (Ls.map cJ)+(0+1)+((glue [32] ws).length+1)<=_;omega
   | false=>
    have T3:=T1.put (Ya ws);refine⟨_,Ls++[Ya ws],(Zi (cT hc)).trans (T1.app (l:=Ya ws) rfl rfl (by omega)),T3,by simp,λvs h=>?_,by simp,?_⟩
    .simp at h;rcases h with h|h
     .exact .inl h
     .exact .inr h
    .rw[LC];show gl (Ls.map cJ)+((glue [32] ws).length+1)<=_;omega
  obtain⟨S2,L2,hb,T2,q1,q2,q3,q4⟩:=step;obtain⟨S',yS,at',y8,hl,T',p1,p2,p3,p4⟩:=Zoe hi hit RW S2 L2 at1 (Ya (.str (glue [32] ws))) T2 (by omega) (by omega);have eg:gl ((ws::RW).map (glue [32]))=(glue [32] ws).length+1+gl (RW.map (glue [32])):=by simp[gl]
  refine⟨S',yS,at',y8,?_,T',?_,λvs h=>?_,by rw[Yp];omega,by rw[eg,Yp];omega⟩
  .rw[Yu,tW,if_pos (by unfold locked;rw[hi,hit];exact decide_eq_true T.hr)];simp only[cj,oJ,oK];rw[hb];exact hl
  .rw[p1,q1,jl];rfl
  .rcases p2 vs h with z|z
   .rcases q2 vs z with y|y
    .exact .inl y
    .exact .inr (by rw[y];exact Yd)
   .exact .inr (Yc _ z)
end
theorem Zo2(h6:tk.length<=6)(nm:∀x∈tk,gC x):Gw (iw::tk)/\(glue [32] (iw::tk)).length<=63/\j8 [32] (iw::tk)<=63:=by
 have hw:∀w∈iw::tk,w.length<=8/\∀c∈w,97<=c:=λw hw=>by
  rcases Yo.mp hw with e|e
  .rw[e];decide
  .exact⟨(nm w e).le,λc hc=>((nm w e).low c hc).1⟩
 have hl:=Tw 32 8 (iw::tk) λw h=>(hw w h).1;have e7:(iw::tk).length=tk.length+1:=rfl;rw[e7]at hl;refine⟨⟨(λz=>nomatch z),λw h=>⟨λz=>by have:=(hw w h).2 _ z;omega,λz=>by have:=(hw w h).2 _ z;omega⟩,λz=>?_,by omega⟩,by omega,by omega⟩;cases tk with
 |nil=>cases z|cons y ys=>rw[uq]at z;cases(Nu.mp z).1
theorem law_holds:∀ns:List Int,ns.length<=63->∃M',ZnS [.aZ (ns.map D.int)] []= .ok (.bl true) M':=by
 intro ns hns;refine Rt.law (env:=[Ya (.aZ (ns.map D.int)),Ym,Ym,Ym,Ym,Ym,Ym,Ym,Ym,Ym]) ?_;unfold Th
 let M0:Store:=[.lst (ns.map D.int)]
 let M1:Store:=[.lst (ns.map D.int),.lst [.ref 0,.int 0]]
 have AbG:cutD (ns.map D.int) Ym (Ya ((400:Nat):Int))=ns.map D.int:=ZsF _ _ (by rw[Yv];omega);have sl:∀{a1 a2 a3 a4 a5 a6 a7 a8 a9:Option D} (S:Store),eO (Za 0) (fX) (dO (eC (.int 400))) [Ya (.aZ (ns.map D.int)),a1,a2,a3,a4,a5,a6,a7,a8,a9] S= .ok (.ref S.length) (S++[.lst (ns.map D.int)]):=λS=>by show alloc (.lst (cutD (ns.map D.int) Ym (Ya ((400:Nat):Int)))) S=_;rw[AbG];rfl
 refine Rt.step (Zo (d:=.ref 1) (M':=M1) ((cY (M':=M0) (ds:=[.ref 0,.int 0]) (Zx (sl []) rfl) rfl).trans rfl)) ?_;have D0:dw ns 0 1 0 M1:=⟨rfl,rfl,by decide⟩;obtain⟨v,S1,hv,D1,uy,l1⟩:=D0.draw (by decide);refine Rt.step (Zo (d_ rfl hv)) ?_;obtain⟨S2,nr,names,hnm,gnm,Aeb,n12,nok,nnd,D2,Lr⟩:=Zqh D1 (by decide);have lS1:S1.length=2:=l1;have UL:nr≠1:=by omega
 refine Rt.step (Zo (d_ rfl hnm)) ?_;obtain⟨S3,tk,htk,t6,tnd,tin,LK⟩:=Zp0 D2 (by decide) gnm UL n12 nnd;have tok:∀x∈tk,gC x:=λx hx=>nok x (tin x hx);have AbH:=LK.kp.get gnm UL;refine Rt.step (Zo (tY rfl rfl htk)) ?_
 let rP:=S3++[MO.lst (ns.map D.int)]
 obtain⟨S4,n4,rs,ds,yQ,hpr,g4,gR,D4,kp4,rO,hrun,rl,rgl,dl,hat⟩:=Zrx (M:=rP) (many:=ns.length) (LK.dk.app _) (bQ AbH _) UL n12 nok (by omega) (by decide)
 let GQ:=rP.length
 have l2:2<=rP.length:=by
  have a:=Lr.len;have b:=LK.kp.len;have c:rP.length=S3.length+1:=by simp[rP]
  omega
 have l4:rP.length<S4.length:=(Yf.mp gR).1;refine Rt.step (env':=[Ya (.aZ (ns.map D.int)),Ya (.ref 1),Ya (.int v),Ya (.ref nr),Ya (.tup (tk.map D.str)),Ya (.ref GQ),Ya (.tup ds),Ym,Ym,Ym]) (M':=S4) ?_ ?_
 .unfold qg;rw[Fi (M1:=S3) (M2:=S3) (M3:=rP) (M4:=rP) rfl rfl ((b8 (sl S3) (j7 (Zq S3 _ []))).trans (by rw[Yv])) rfl hpr];simp only[g4];rfl
 let RW:List (List (List Nat)):=(if tk=[]then[]else[iw::tk])++rs.map Rw.words
 have Vw:=Zo2 t6 tok;have AdO:RW.length<=425:=by show((if tk=[]then[]else[iw::tk])++rs.map Rw.words).length<=425;rw[Ye,Yv];split <;>simp <;>omega
 have AdT:gl (RW.map (glue [32]))<=3600:=by
  have e2:gl ((rs.map Rw.words).map (glue [32]))=gl (bR rs):=by rw[qO];rfl
  have app:∀a b:List (List Nat),gl (a++b)=gl a+gl b:=λa b=>by simp[gl]
  show gl (((if tk=[]then[]else[iw::tk])++rs.map Rw.words).map (glue [32]))<=3600;rw[jY,app,e2];split
  .show 0+_<=3600;omega
  .show((glue [32] (iw::tk)).length+1+0)+_<=3600;omega
 have Abj:∀ws∈RW,Gw ws:=λws hw=>by
  rcases fU.mp hw with e|e
  .split at e
   .cases e
   .rw[Yz.mp e];exact Vw.1
  .obtain⟨r,hr,rfl⟩:=gJ.mp e;exact Zly (rO r hr)
 have Vr:(rs.map Rw.words).map (λws=>D.str (glue [32] ws))=(bR rs).map D.str:=by rw[qO,qO];rfl
 have s5:∃(S5:Store) (oE:Nat),aK (e2 gw (Za 4) (fW (Zf))) (au 5 (e2 aR (bh (Zb (aH ig v_ (eC (.str [32])) (Zb (e2 aR (fW (Zb (eC (.str [116,97,107,101])) (Zf))) (Za 4)) (Zf))) (Zf))) (Za 5))) (aX) [Ya (.aZ (ns.map D.int)),Ya (.ref 1),Ya (.int v),Ya (.ref nr),Ya (.tup (tk.map D.str)),Ya (.ref GQ),Ya (.tup ds),Ym,Ym,Ym] S4= .nx [Ya (.aZ (ns.map D.int)),Ya (.ref 1),Ya (.int v),Ya (.ref nr),Ya (.tup (tk.map D.str)),Ya (.ref oE),Ya (.tup ds),Ym,Ym,Ym] S5/\S5[oE]?=Ya (.lst (RW.map λws=>D.str (glue [32] ws)))/\S4<+:S5/\2<=oE:=by
  have hp:(tk.map D.str).all (dD DEEP)=true:=gU.mpr λx hx=>by obtain⟨y,_,rfl⟩:=gJ.mp hx;rfl
  have hne:e2 gw (Za 4) (fW (Zf)) [Ya (.aZ (ns.map D.int)),Ya (.ref 1),Ya (.int v),Ya (.ref nr),Ya (.tup (tk.map D.str)),Ya (.ref GQ),Ya (.tup ds),Ym,Ym,Ym] S4= .ok (.bl (decide (tk≠[]))) S4:=by refine Zh rfl (lU rfl rfl) ?_;simp only[gw,Eu,hp];cases tk<;>rfl
  by_cases h0:tk=[]
  .have UT:RW=rs.map Rw.words:=by show(if tk=[]then[]else[iw::tk])++_=_;rw[if_pos h0];rfl
   rw[decide_eq_false (λz=>z h0)]at hne;exact⟨S4,GQ,cT hne,by rw[UT,Vr];exact gR,List.prefix_refl _,l2⟩
  .have UT:RW=(iw::tk)::rs.map Rw.words:=by show(if tk=[]then[]else[iw::tk])++_=_;rw[if_neg h0];rfl
   rw[decide_eq_true h0]at hne
   let T:=glue [32] (iw::tk)
   let S5:=S4++[MO.lst [.str T]]++[MO.lst ([.str T]++(bR rs).map D.str)]
   have j1:aH ig v_ (eC (.str [32])) (Zb (e2 aR (fW (Zb (eC (.str [116,97,107,101])) (Zf))) (Za 4)) (Zf)) [Ya (.aZ (ns.map D.int)),Ya (.ref 1),Ya (.int v),Ya (.ref nr),Ya (.tup (tk.map D.str)),Ya (.ref GQ),Ya (.tup ds),Ym,Ym,Ym] S4= .ok (.str T) S4:=by refine Gx rfl rfl (Zx (Zh (a:=.tup [.str iw]) (lU rfl rfl) rfl (d:=.tup ((iw::tk).map D.str)) ?_) rfl) (Zo1 (Yj Vw.2.2 (by decide)));rw[Zlw,if_pos (by simp;omega)];rfl
   refine⟨S5,(S4++[MO.lst [.str T]]).length,(e_ hne).trans (Zo (Zh (cY (Zx j1 rfl) rfl) rfl (Lb (Zq _ _ []) (bQ gR _) (by simp;omega)))),?_,?_,?_⟩
   .rw[UT,Yu,Vr];exact Zq _ _ []
   .show S4<+:S4++_++_;rw[jl];exact WD _ _
   .rw[Ye];omega
 obtain⟨S5,oE,h5,g5,AbI,l5⟩:=s5;refine Rt.step h5 ?_;have D5:dw ns 0 1 yQ S5:=by obtain⟨G,rfl⟩:=AbI;exact D4.app G
 refine Rt.step (Zo (d:=.ref S5.length) (M':=S5++[.lst []]) (cY rfl rfl)) ?_;have l5':oE<S5.length:=(Yf.mp g5).1;have T0:TS ns 0 1 S5.length oE (RW.map λws=>D.str (glue [32] ws)) (S5++[.lst []]) [] yQ:=⟨D5.app _,Zq _ _ [],bQ g5 _,by omega,by omega,by omega,by omega⟩;obtain⟨S6,Ls,at6,y8,h6,T6,e6,m6,n6,gl6⟩:=Zoe (v:=v) (v0:=Ya (.aZ (ns.map D.int))) (v3:=Ya (.ref nr)) (v4:=Ya (.tup (tk.map D.str))) (v5:=Ya (.ref oE)) (v6:=Ya (.tup ds)) (v9:=Ym) (it:=⟨RW.map λws=>D.str (glue [32] ws),Ya oE⟩) rfl rfl RW (S5++[.lst []]) [] yQ Ym T0 (by have:=hat;have:=LK.le;omega) (by simp;omega);have hi5:cW (Za 5) [Ya (.aZ (ns.map D.int)),Ya (.ref 1),Ya (.int v),Ya (.ref nr),Ya (.tup (tk.map D.str)),Ya (.ref oE),Ya (.tup ds),Ya (.ref S5.length),Ym,Ym] (S5++[.lst []])= .ok ⟨RW.map λws=>D.str (glue [32] ws),Ya oE⟩ (S5++[.lst []]):=by show(R3.ok (D.ref oE) _).bind _=_;simp only[R3.bind,T0.hr]
 refine Rt.step ((x_ hi5).trans h6) ?_;have gl0:gl (([]:List (Option (List (List Nat)))).map cJ)=0:=rfl;rw[gl0]at gl6;rw[zu]at n6;have s7:∃(S7:Store) (L7:List (Option (List (List Nat)))),aK (e2 aW (e2 Zy (e2 bH (Za 2) (eC (.int 3))) (eC (.int 3))) (eC (.int 1))) (aP (aH bf Zz (Za 7) (Zb (eC (.str [])) (Zf)))) (aX) [Ya (.aZ (ns.map D.int)),Ya (.ref 1),Ya (.int v),Ya (.ref nr),Ya (.tup (tk.map D.str)),Ya (.ref oE),Ya (.tup ds),Ya (.ref S5.length),y8,Ym] S6= .nx [Ya (.aZ (ns.map D.int)),Ya (.ref 1),Ya (.int v),Ya (.ref nr),Ya (.tup (tk.map D.str)),Ya (.ref oE),Ya (.tup ds),Ya (.ref S5.length),y8,Ym] S7/\S7[S5.length]?=Ya (.lst ((L7.map cJ).map D.str))/\L7.filterMap id=RW/\(∀ws,Ya ws∈L7->ws∈RW)/\L7.length<=900/\gl (L7.map cJ)<=5000:=by
  have e6':Ls.filterMap id=RW:=e6;have m6':∀ws,Ya ws∈Ls->ws∈RW:=λws h=>(m6 ws h).elim (λz=>nomatch z) id;by_cases h:v / 3 % 3=1
  .refine⟨_,Ls++[Ym],(e_ (M':=S6) (Zh (Zh (Zh rfl rfl (iJ (by decide))) rfl (dY (by decide))) rfl (rE h))).trans (T6.app (l:=Ym) rfl rfl (by omega)),(T6.put Ym).ht,by simp[e6'],λws hw=>m6' ws (by simpa using hw),by rw[Ye,jb];omega,by rw[LC];show _+(0+1)<=5000;omega⟩
  .exact⟨S6,Ls,cT (M':=S6) (Zh (Zh (Zh rfl rfl (iJ (by decide))) rfl (dY (by decide))) rfl (vK h)),T6.ht,e6',m6',by omega,by omega⟩
 obtain⟨S7,L7,h7,g7,e7,m7,n7,gl7⟩:=s7;refine Rt.step h7 ?_
 let X:=glue [10] (L7.map cJ)
 refine Rt.step (Zo (d:=.str X) (M':=S7) (Cy rfl rfl (Zn8 g7 (Yj (show j8 [10] (L7.map cJ)<=5000 from gl7) (by decide))))) ?_;refine Rt.step (Zo (d:=.tup [.tup (tk.map D.str),.tup ds]) (M':=S7) (lU rfl rfl)) ?_;have pl:=run_plain rO hrun;have wD:∀n,bT n ds=true:=λn=>UJ λx hx=>ZhA n 26 x (pl.2 x hx);have read:∀S:Store,Bs [.str X] S= .ok (.tup [.tup (tk.map D.str),.tup ds]) S:=λS=>by
  by_cases h0:L7=[]
  .have eX:X=glue [10] ([Ym].map cJ):=by show glue [10] (L7.map cJ)=_;rw[h0];rfl
   have hRW:RW=[]:=by rw[←e7,h0];rfl
   rw[eX];exact Zon (Ls:=[Ym]) (tk:=tk) (rs:=rs) (by simp) (λws h=>by simp at h) (by decide) (by decide) (by show[]=RW;exact hRW.symm) rO t6 tnd tok hrun wD
  .exact Zon h0 (λws h=>Abj ws (m7 ws h)) (by omega) (Yj (Zn4 10 _) (by omega)) e7 rO t6 tnd tok hrun wD
 have AbJ:gm 30 (.tup [.tup (tk.map D.str),.tup ds])=true:=by
  refine UG (n:=28) (by decide) (wG (n:=27) (show 2<=1000 by decide) λx hx=>?_);rcases Yo.mp hx with e|e
  .rw[e];exact wG (n:=26) (by rw[Yv];omega) λy hy=>by obtain⟨z,_,rfl⟩:=gJ.mp hy;exact Zlg _ _
  .rw[Yz.mp e];exact wG (n:=26) pl.1 pl.2
 have same:∀S:Store,Gg [.tup [.tup (tk.map D.str),.tup ds],.tup [.tup (tk.map D.str),.tup ds]] S= .ok (.bl true) S:=λS=>ZqP 30 _ S AbJ;exact⟨S7,di ((iH (M1:=S7) (tY (d_ rfl (read S7)) rfl (same S7))).trans (tY (d_ rfl (read S7)) rfl (same S7)))⟩
end Law
set_option maxHeartbeats 400000
namespace Law
open PySem PySem.Spec PyProof.Rows L2 L3
variable{P:List Yh->Prop}
theorem uZ(h:P []):∀us:List Yh,us.length=0->P us:=λus e=>(Hs e)▸h
theorem uS{n:Nat}(h:∀a us,us.length=n->P (a::us))(us:List Yh)(e:us.length=n+1):P us:=by
 cases us with
 |nil=>exact absurd e (Nat.succ_ne_zero n).symm|cons a us=>exact h a us (Qf e)
variable{xa:aj}
theorem m_(h:∀a,P [a]):∀us:List Yh,us.length=[xa].length->P us:=uS λa=>uZ (h a)
theorem yU{xb:aj}(h:∀a b,P [a,b]):∀us:List Yh,us.length=[xa,xb].length->P us:=uS λa=>uS λb=>uZ (h a b)
theorem ub3{xb xc:aj}(h:∀a b c,P [a,b,c]):∀us:List Yh,us.length=[xa,xb,xc].length->P us:=uS λa=>uS λb=>uS λc=>uZ (h a b c)
theorem UV{xb xc xd:aj}(h:∀a b c d,P [a,b,c,d]):∀us:List Yh,us.length=[xa,xb,xc,xd].length->P us:=uS λa=>uS λb=>uS λc=>uS λd=>uZ (h a b c d)
theorem Zt4{l:PySem.W.OpenLaw}{w:bx}{K:W.Frag}{h:aO}{mg:aj->Option Yh}{fa f0 f1 f2 f3 f4 f5 f6 f7 f8 f9 UW f11 U0 U3 U4 U5 U6 U7 U8 U9 U_ Va Vb Vc Vd Ve:Y1}(X:K.In h)(G:h.Ns Yy mg)(hfa:mg "law" =Ya (.ref fa)){od0 an0 od1 an1 od2 an2 od3 an3 od4 an4 od5 an5 od6 an6 od7 an7 od8 an8 od9 an9 AbK AbL AbM AbN AbO AbP AbQ AbR AbS AbT AbU AbV AbW AbX AbY AbZ Ab0 Ab1 Ab2 Ab3 Ab4 Ab5 Ab6 Ab7 Ab8 Ab9 Aca Acb Acd Ace Acf VH:Option Y1}{sl0 sl1 sl2 sl3 sl4 sl5 sl6 sl7 sl8 sl9 Acg Ach Aci Acj Ack Acl Acm Acn Aco Acp Acq Acr Acs Acu Acv Acw:Array (Option Yh)}{oc0 kV0 dc0 pm0 cd0 ct0 oc1 kV1 dc1 pm1 cd1 ct1 oc2 kV2 dc2 pm2 cd2 ct2 oc3 kV3 dc3 pm3 cd3 ct3 oc4 kV4 dc4 pm4 cd4 ct4 oc5 kV5 dc5 pm5 cd5 ct5 oc6 kV6 dc6 pm6 cd6 ct6 oc7 kV7 dc7 pm7 cd7 ct7 oc8 kV8 dc8 pm8 cd8 ct8 oc9 kV9 dc9 pm9 cd9 ct9 Acx Acy Acz AcA VJ AcB AcC AcD AcE AcF VL AcG AcH AcI AcJ AcK VN AcL AcM AcN AcO AcP VP AcQ AcR AcS AcT AcU VR AcV AcW AcX AcY AcZ VV Ac0 Ac1 Ac2 Ac3 Ac4 V0 Ac5 Ac6 Ac7 Ac8 Ac9 V1 Ada Adb Adc Ade Adf V2 Adg Adh Adi Adj Adk V3 Adl Adm Adn Ado Adp V4 Adq Ads Adt Adu Adv V5 Adw Adx Ady Adz AdA V6 AdB AdC AdD AdE AdF V7 AdG AdH AdI AdJ AdK V8 AdL AdM V9 V_ Wa Ng Wb:Yh}{AaS AaT Aah Aaj Aad Aae Aak Aal:fH}{cO:Y1}{Vn:Y1}{Vo:Y1}{Vs:Y1}{Vp:Y1}(Vg:bJ K Yy "Block" =Ya (Ya (.ref cO)))(AaH:Ho K cO Str.empty=true)(AaI:Hl K cO=true)(AaJ:Nm K cO=true)(AaK:mD K (.ref cO) "__setattr__" =Ya (Ya (.builtin "object.__setattr__")))(AaL:Hq K cO=true)(AaM:fD K (.ref cO)=true)(Aaf:mD K (.ref cO) "head" =Ya Ym)(Aac:mD K (.ref cO) "lists" =Ya Ym)(a0:bJ K Yy "is_number" =Ya (Ya (.ref f0)))(l0:K.lookup f0=Ya ⟨oc0,od0,.func (fG "is_number" "is_number" (cV Bu) (cM Bu) (Zk Bu) .none kV0 dc0 pm0 an0 cd0 ct0),sl0⟩)(c0:fQ K cd0 "is_number" =true)(k0:fD K (.ref f0)=true)(a1:bJ K Yy "sums_in" =Ya (Ya (.ref f1)))(l1:K.lookup f1=Ya ⟨oc1,od1,.func (fG "sums_in" "sums_in" (cV Bv) (cM Bv) (Zk Bv) .none kV1 dc1 pm1 an1 cd1 ct1),sl1⟩)(c1:fQ K cd1 "sums_in" =true)(k1:fD K (.ref f1)=true)(a2:bJ K Yy "needs_sums" =Ya (Ya (.ref f2)))(l2:K.lookup f2=Ya ⟨oc2,od2,.func (fG "needs_sums" "needs_sums" (cV Bw) (cM Bw) (Zk Bw) .none kV2 dc2 pm2 an2 cd2 ct2),sl2⟩)(c2:fQ K cd2 "needs_sums" =true)(k2:fD K (.ref f2)=true)(a3:bJ K Yy "parts_of" =Ya (Ya (.ref f3)))(l3:K.lookup f3=Ya ⟨oc3,od3,.func (fG "parts_of" "parts_of" (cV Bx) (cM Bx) (Zk Bx) .none kV3 dc3 pm3 an3 cd3 ct3),sl3⟩)(c3:fQ K cd3 "parts_of" =true)(k3:fD K (.ref f3)=true)(a4:bJ K Yy "depth" =Ya (Ya (.ref f4)))(l4:K.lookup f4=Ya ⟨oc4,od4,.func (fG "depth" "depth" (cV BJ) (cM BJ) (Zk BJ) .none kV4 dc4 pm4 an4 cd4 ct4),sl4⟩)(c4:fQ K cd4 "depth" =true)(k4:fD K (.ref f4)=true)(a5:bJ K Yy "is_name" =Ya (Ya (.ref f5)))(l5:K.lookup f5=Ya ⟨oc5,od5,.func (fG "is_name" "is_name" (cV BP) (cM BP) (Zk BP) .none kV5 dc5 pm5 an5 cd5 ct5),sl5⟩)(c5:fQ K cd5 "is_name" =true)(k5:fD K (.ref f5)=true)(a6:bJ K Yy "read_taken" =Ya (Ya (.ref f6)))(l6:K.lookup f6=Ya ⟨oc6,od6,.func (fG "read_taken" "read_taken" (cV BL) (cM BL) (Zk BL) .none kV6 dc6 pm6 an6 cd6 ct6),sl6⟩)(c6:fQ K cd6 "read_taken" =true)(k6:fD K (.ref f6)=true)(a7:mD K (.ref cO) "__init__" =Ya (Ya (.ref f7)))(i7:Hr K (.ref f7)=true)(l7:K.lookup f7=Ya ⟨oc7,od7,.func (fG "__init__" "Block.__init__" (cV Cr) (cM Cr) (Zk Cr) .none kV7 dc7 pm7 an7 cd7 ct7),sl7⟩)(c7:fQ K cd7 "Block.__init__" =true)(k7:fD K (.ref f7)=true)(a8:bJ K Yy "read_sums" =Ya (Ya (.ref f8)))(l8:K.lookup f8=Ya ⟨oc8,od8,.func (fG "read_sums" "read_sums" (cV BW) (cM BW) (Zk BW) .none kV8 dc8 pm8 an8 cd8 ct8),sl8⟩)(c8:fQ K cd8 "read_sums" =true)(k8:fD K (.ref f8)=true)(a9:bJ K Yy "read_deed" =Ya (Ya (.ref f9)))(l9:K.lookup f9=Ya ⟨oc9,od9,.func (fG "read_deed" "read_deed" (cV BV) (cM BV) (Zk BV) .none kV9 dc9 pm9 an9 cd9 ct9),sl9⟩)(c9:fQ K cd9 "read_deed" =true)(k9:fD K (.ref f9)=true)(a10:bJ K Yy "can_stand" =Ya (Ya (.ref UW)))(l10:K.lookup UW=Ya ⟨Acx,AbK,.func (fG "can_stand" "can_stand" (cV BX) (cM BX) (Zk BX) .none Acy Acz AcA AbL VJ AcB),Acg⟩)(c10:fQ K VJ "can_stand" =true)(k10:fD K (.ref UW)=true)(a11:bJ K Yy "place_deed" =Ya (Ya (.ref f11)))(l11:K.lookup f11=Ya ⟨AcC,AbM,.func (fG "place_deed" "place_deed" (cV BZ) (cM BZ) (Zk BZ) .none AcD AcE AcF AbN VL AcG),Ach⟩)(c11:fQ K VL "place_deed" =true)(k11:fD K (.ref f11)=true)(a12:bJ K Yy "read_deeds" =Ya (Ya (.ref U0)))(l12:K.lookup U0=Ya ⟨AcH,AbO,.func (fG "read_deeds" "read_deeds" (cV BR) (cM BR) (Zk BR) .none AcI AcJ AcK AbP VN AcL),Aci⟩)(c12:fQ K VN "read_deeds" =true)(k12:fD K (.ref U0)=true)(a13:bJ K Yy "read" =Ya (Ya (.ref U3)))(l13:K.lookup U3=Ya ⟨AcM,AbQ,.func (fG "read" "read" (cV BK) (cM BK) (Zk BK) .none AcN AcO AcP AbR VP AcQ),Acj⟩)(c13:fQ K VP "read" =true)(k13:fD K (.ref U3)=true)(a14:bJ K Yy "_law_next" =Ya (Ya (.ref U4)))(l14:K.lookup U4=Ya ⟨AcR,AbS,.func (fG "_law_next" "_law_next" (cV B_) (cM B_) (Zk B_) .none AcS AcT AcU AbT VR AcV),Ack⟩)(c14:fQ K VR "_law_next" =true)(k14:fD K (.ref U4)=true)(a15:bJ K Yy "_law_same" =Ya (Ya (.ref U5)))(l15:K.lookup U5=Ya ⟨AcW,AbU,.func (fG "_law_same" "_law_same" (cV Ca) (cM Ca) (Zk Ca) .none AcX AcY AcZ AbV VV Ac0),Acl⟩)(c15:fQ K VV "_law_same" =true)(k15:fD K (.ref U5)=true)(a16:bJ K Yy "_law_names" =Ya (Ya (.ref U6)))(l16:K.lookup U6=Ya ⟨Ac1,AbW,.func (fG "_law_names" "_law_names" (cV Cd) (cM Cd) (Zk Cd) .none Ac2 Ac3 Ac4 AbX V0 Ac5),Acm⟩)(c16:fQ K V0 "_law_names" =true)(k16:fD K (.ref U6)=true)(a17:bJ K Yy "_law_value" =Ya (Ya (.ref U7)))(l17:K.lookup U7=Ya ⟨Ac6,AbY,.func (fG "_law_value" "_law_value" (cV Ce) (cM Ce) (Zk Ce) .none Ac7 Ac8 Ac9 AbZ V1 Ada),Acn⟩)(c17:fQ K V1 "_law_value" =true)(k17:fD K (.ref U7)=true)(a18:bJ K Yy "_law_sum" =Ya (Ya (.ref U8)))(l18:K.lookup U8=Ya ⟨Adb,Ab0,.func (fG "_law_sum" "_law_sum" (cV Cg) (cM Cg) (Zk Cg) .none Adc Ade Adf Ab1 V2 Adg),Aco⟩)(c18:fQ K V2 "_law_sum" =true)(k18:fD K (.ref U8)=true)(a19:bJ K Yy "_law_deed" =Ya (Ya (.ref U9)))(l19:K.lookup U9=Ya ⟨Adh,Ab2,.func (fG "_law_deed" "_law_deed" (cV Ci) (cM Ci) (Zk Ci) .none Adi Adj Adk Ab3 V3 Adl),Acp⟩)(c19:fQ K V3 "_law_deed" =true)(k19:fD K (.ref U9)=true)(a20:bJ K Yy "_law_words" =Ya (Ya (.ref U_)))(l20:K.lookup U_=Ya ⟨Adm,Ab4,.func (fG "_law_words" "_law_words" (cV Cj) (cM Cj) (Zk Cj) .none Adn Ado Adp Ab5 V4 Adq),Acq⟩)(c20:fQ K V4 "_law_words" =true)(k20:fD K (.ref U_)=true)(a21:bJ K Yy "_law_closed" =Ya (Ya (.ref Va)))(l21:K.lookup Va=Ya ⟨Ads,Ab6,.func (fG "_law_closed" "_law_closed" (cV Ck) (cM Ck) (Zk Ck) .none Adt Adu Adv Ab7 V5 Adw),Acr⟩)(c21:fQ K V5 "_law_closed" =true)(k21:fD K (.ref Va)=true)(a22:bJ K Yy "_law_row" =Ya (Ya (.ref Vb)))(l22:K.lookup Vb=Ya ⟨Adx,Ab8,.func (fG "_law_row" "_law_row" (cV Cm) (cM Cm) (Zk Cm) .none Ady Adz AdA Ab9 V6 AdB),Acs⟩)(c22:fQ K V6 "_law_row" =true)(k22:fD K (.ref Vb)=true)(a23:bJ K Yy "_law_program" =Ya (Ya (.ref Vc)))(l23:K.lookup Vc=Ya ⟨AdC,Aca,.func (fG "_law_program" "_law_program" (cV Cp) (cM Cp) (Zk Cp) .none AdD AdE AdF Acb V7 AdG),Acu⟩)(c23:fQ K V7 "_law_program" =true)(k23:fD K (.ref Vc)=true)(a24:bJ K Yy "_law_taken" =Ya (Ya (.ref Vd)))(l24:K.lookup Vd=Ya ⟨AdH,Acd,.func (fG "_law_taken" "_law_taken" (cV Cq) (cM Cq) (Zk Cq) .none AdI AdJ AdK Ace V8 AdL),Acv⟩)(c24:fQ K V8 "_law_taken" =true)(k24:fD K (.ref Vd)=true)(a25:bJ K Yy "law" =Ya (Ya (.ref Ve)))(l25:K.lookup Ve=Ya ⟨AdM,Acf,.func (fG "law" "law" (cV uo) (cM uo) (Zk uo) .none V9 V_ Wa VH Ng Wb),Acw⟩)(c25:fQ K Ng "law" =true)(k25:fD K (.ref Ve)=true)(Abk:bJ K Yy "all" =Ya Ym)(Aba:bJ K Yy "bool" =Ya Ym)(Aaw:bJ K Yy "enumerate" =Ya Ym)(Abl:bJ K Yy "int" =Ya Ym)(Aam:bJ K Yy "isinstance" =Ya Ym)(Abm:bJ K Yy "len" =Ya Ym)(Abb:bJ K Yy "list" =Ya Ym)(Abn:bJ K Yy "max" =Ya Ym)(AaZ:bJ K Yy "range" =Ya Ym)(Abo:bJ K Yy "set" =Ya Ym)(Abp:bJ K Yy "str" =Ya Ym)(Aa0:bJ K Yy "tuple" =Ya Ym)(uG:bJ K Yy "FIGURES" =Ya (Ya (.str "0123456789" AaS)))(wK:bJ K Yy "LETTERS" =Ya (Ya (.str "abcdefghijklmnopqrstuvwxyz" AaT)))(Aa1:bJ K Yy "LISTS" =Ya (Ya (.ref Vn)))(Aax:mj K Vn nW)(wH:bJ K Yy "MOST_BLOCKS" =Ya (Ya (.int 12 Aah)))(wI:bJ K Yy "MOST_DEPTH" =Ya (Ya (.int 6 Aaj)))(qH:bJ K Yy "MOST_FIGURES" =Ya (Ya (.int 60 Aad)))(qI:bJ K Yy "MOST_LETTERS" =Ya (Ya (.int 8 Aae)))(uE:bJ K Yy "MOST_TAKEN" =Ya (Ya (.int 6 Aak)))(uF:bJ K Yy "MOST_WORDS" =Ya (Ya (.int 60 Aal)))(Aa2:bJ K Yy "PARTS" =Ya (Ya (.ref Vo)))(Aay:mj K Vo nY)(Abd:bJ K Yy "SUMS" =Ya (Ya (.ref Vs)))(AaN:mj K Vs kE)(uh:bJ K Yy "WORDS" =Ya (Ya (.ref Vp)))(Aaz:Bj K (cU.map λy=>(⟨y.toArray⟩:aj)) (.ref Vp)=true):
  ∃fd:jZ,(∀(s:Yk) (v:Yh),zE s fd ⟨[v],[]⟩ [("script",v)])/\∀base:aO,K.In base->base.Ns Yy mg->jr l.prog w K mg base lH 69 fa fd ["script"] (t_ K 1 ZnS):=by
 have e:=hfa.symm.trans (mF X G a25);cases e;have T:Txt K mg:=⟨trivial,oH X G Abk,oH X G Aba,oH X G Aaw,oH X G Abl,oH X G Aam,oH X G Abm,oH X G Abb,oH X G Abn,oH X G AaZ,oH X G Abo,oH X G Abp,oH X G Aa0,⟨_,mF X G uG⟩,⟨_,mF X G wK⟩,⟨_,mF X G Aa1,Aax⟩,⟨_,mF X G wH⟩,⟨_,mF X G wI⟩,⟨_,mF X G qH⟩,⟨_,mF X G qI⟩,⟨_,mF X G uE⟩,⟨_,mF X G uF⟩,⟨_,mF X G Aa2,Aay⟩,⟨_,mF X G Abd,AaN⟩,⟨_,mF X G uh,Aaz⟩⟩;have cZ:Gi K mg cO:=⟨⟨by unfold L3.ClsAt;rw[show(⟨([66,108,111,99,107]:List Nat).toArray⟩:aj)= "Block" by decide +kernel];exact Vg,⟨AaH,AaI,AaJ,AaK⟩,by decide⟩,mF X G Vg,by rw[show nm [104,101,97,100]= "head" by decide +kernel];exact Aaf,by rw[show nm [108,105,115,116,115]= "lists" by decide +kernel];exact Aac⟩;have AaA:bM K mg "is_number" Bu ["word"]:=gO X G a0 l0 c0 k0 (Binds.all (m_ λ_=>rfl));have AaU:bM K mg "sums_in" Bv ["words"]:=gO X G a1 l1 c1 k1 (Binds.all (m_ λ_=>rfl));have Aan:bM K mg "needs_sums" Bw ["word"]:=gO X G a2 l2 c2 k2 (Binds.all (m_ λ_=>rfl));have AaO:bM K mg "parts_of" Bx ["words"]:=gO X G a3 l3 c3 k3 (Binds.all (m_ λ_=>rfl));have Aa3:bM K mg "depth" BJ ["words"]:=gO X G a4 l4 c4 k4 (Binds.all (m_ λ_=>rfl));have AaV:bM K mg "is_name" BP ["word"]:=gO X G a5 l5 c5 k5 (Binds.all (m_ λ_=>rfl));have Aao:bM K mg "read_taken" BL ["row"]:=gO X G a6 l6 c6 k6 (Binds.all (m_ λ_=>rfl));have Aab:Ks K cO "Block.__init__" Cr ["self","head"]:=ZrU AaL AaM a7 i7 l7 c7 k7 (Binds.all (yU λ_ _=>rfl));have AaB:bM K mg "read_sums" BW ["words"]:=gO X G a8 l8 c8 k8 (Binds.all (m_ λ_=>rfl));have AaC:bM K mg "read_deed" BV ["words"]:=gO X G a9 l9 c9 k9 (Binds.all (m_ λ_=>rfl));have AaD:bM K mg "can_stand" BX ["blocks","word"]:=gO X G a10 l10 c10 k10 (Binds.all (yU λ_ _=>rfl));have Aap:bM K mg "place_deed" BZ ["blocks","deed"]:=gO X G a11 l11 c11 k11 (Binds.all (yU λ_ _=>rfl));have Aaq:bM K mg "read_deeds" BR ["rows","behind"]:=gO X G a12 l12 c12 k12 (Binds.all (yU λ_ _=>rfl));have Abe:bM K mg "read" BK ["text"]:=gO X G a13 l13 c13 k13 (Binds.all (m_ λ_=>rfl));have AaE:bM K mg "_law_next" B_ ["deck"]:=gO X G a14 l14 c14 k14 (Binds.all (m_ λ_=>rfl));have AaF:bM K mg "_law_same" Ca ["found","due"]:=gO X G a15 l15 c15 k15 (Binds.all (yU λ_ _=>rfl));have Aar:bM K mg "_law_names" Cd ["deck"]:=gO X G a16 l16 c16 k16 (Binds.all (m_ λ_=>rfl));have Aas:bM K mg "_law_value" Ce ["cell"]:=gO X G a17 l17 c17 k17 (Binds.all (m_ λ_=>rfl))
 have AaP:bM K mg "_law_sum" Cg ["deck","names","deep","most"]:=gO X G a18 l18 c18 k18 (Binds.all (UV λ_ _ _ _=>rfl));have AaG:bM K mg "_law_deed" Ci ["deck","names","cell"]:=gO X G a19 l19 c19 k19 (Binds.all (ub3 λ_ _ _=>rfl));have Aat:bM K mg "_law_words" Cj ["deed"]:=gO X G a20 l20 c20 k20 (Binds.all (m_ λ_=>rfl));have Aai:bM K mg "_law_closed" Ck ["stack","deeds"]:=gO X G a21 l21 c21 k21 (Binds.all (yU λ_ _=>rfl));have AaQ:bM K mg "_law_row" Cm ["deck","names","stack","deeds"]:=gO X G a22 l22 c22 k22 (Binds.all (UV λ_ _ _ _=>rfl));have Aag:bM K mg "_law_program" Cp ["deck","names","many","most"]:=gO X G a23 l23 c23 k23 (Binds.all (UV λ_ _ _ _=>rfl));have Aau:bM K mg "_law_taken" Cq ["deck","names"]:=gO X G a24 l24 c24 k24 (Binds.all (yU λ_ _=>rfl));refine⟨fG "law" "law" (cV uo) (cM uo) (Zk uo) .none V9 V_ Wa VH Ng Wb,λs v=>.of_eq rfl,λbase _ _=>?_⟩;have GX:=Zkx (P:=l.prog) (w:=w) (base:=base) AaA T;have yX:=ZmN (P:=l.prog) (w:=w) (base:=base) AaU T;have LR:=Zjg (P:=l.prog) (w:=w) (base:=base) Aan T;have Mr:=ZlJ (P:=l.prog) (w:=w) (base:=base) AaO T yX;have Mw:=ZpU (P:=l.prog) (w:=w) (base:=base) Aa3 T Mr;have rQ:=Zmn (P:=l.prog) (w:=w) (base:=base) AaV T;have Ma:=Zjp (P:=l.prog) (w:=w) (base:=base) Aao T rQ;have yV:=Zgq (P:=l.prog) (w:=w) (base:=base) cZ Aab T;have Ml:=Zkl (P:=l.prog) (w:=w) (base:=base) AaB T GX yX LR Mw rQ;have Mm:=Zj7 (P:=l.prog) (w:=w) (base:=base) AaC T rQ Ml;have Mp:=Zkn (P:=l.prog) (w:=w) (base:=base) AaD T cZ;have L_:=Zjm (P:=l.prog) (w:=w) (base:=base) Aap T cZ yV;have Mf:=Zja (P:=l.prog) (w:=w) (base:=base) Aaq T cZ yV Mm Mp L_;have G8:=Zro (P:=l.prog) (w:=w) (base:=base) Abe T Ma Mf;have jU:=Zkb (P:=l.prog) (w:=w) (base:=base) AaE T;have GZ:=Zkg (P:=l.prog) (w:=w) (base:=base) AaF T;have Mh:=Zji (P:=l.prog) (w:=w) (base:=base) Aar T jU;have Mg:=Zjo (P:=l.prog) (w:=w) (base:=base) Aas T;have wJ:=Zl5 (P:=l.prog) (w:=w) (base:=base) AaP T jU Mg;have Mq:=ZkR (P:=l.prog) (w:=w) (base:=base) AaG T wJ;have GR:=Zi9 (P:=l.prog) (w:=w) (base:=base) Aat T;have yW:=Zi0 (P:=l.prog) (w:=w) (base:=base) Aai T;have Ms:=ZlP (P:=l.prog) (w:=w) (base:=base) AaQ T jU wJ Mq GR yW;have LQ:=ZhQ (P:=l.prog) (w:=w) (base:=base) Aag T yW Ms;have Mi:=Zjq (P:=l.prog) (w:=w) (base:=base) Aau T jU;exact ZtO (ZqS (st:=uo) l25 c25 k25) T G8 jU GZ Mh LQ Mi
end Law
open PySem PySem.W PyProof.Rows
set_option maxRecDepth 100000 in
set_option maxHeartbeats 0 in
theorem PySem.Challenge.cw_stepledger_k61_read_holds : PySem.Challenge.rw_stepledger_k61_read.Holds := by
 w_on;o_law;k_head;(case hw=>w_witness2)
 k_fill
 refine L3.ZvX (l:=PySem.Challenge.rw_stepledger_k61_read) (k:=69) (F:=Law.ZnS) rfl rfl ⟨rfl,by decide,by decide⟩ (λw h Y=>W.kIn_of Y) ?G Law.law_holds
 case G=>
  intro w mg fa h KX G hmg;refine' Law.Zt4 KX G hmg ?_ ?_ ?_ ?_ ?_ ?_ ?_ ?_ ?_ ?_ ?_ ?_ ?_ ?_ ?_ ?_ ?_ ?_ ?_ ?_ ?_ ?_ ?_ ?_ ?_ ?_ ?_ ?_ ?_ ?_ ?_ ?_ ?_ ?_ ?_ ?_ ?_ ?_ ?_ ?_ ?_ ?_ ?_ ?_ ?_ ?_ ?_ ?_ ?_ ?_ ?_ ?_ ?_ ?_ ?_ ?_ ?_ ?_ ?_ ?_ ?_ ?_ ?_ ?_ ?_ ?_ ?_ ?_ ?_ ?_ ?_ ?_ ?_ ?_ ?_ ?_ ?_ ?_ ?_ ?_ ?_ ?_ ?_ ?_ ?_ ?_ ?_ ?_ ?_ ?_ ?_ ?_ ?_ ?_ ?_ ?_ ?_ ?_ ?_ ?_ ?_ ?_ ?_ ?_ ?_ ?_ ?_ ?_ ?_ ?_ ?_ ?_ ?_ ?_ ?_ ?_ ?_ ?_ ?_ ?_ ?_ ?_ ?_ ?_ ?_ ?_ ?_ ?_ ?_ ?_ ?_ ?_ ?_ ?_ ?_ ?_ ?_ ?_ ?_ ?_ ?_ ?_
  all_goals try k_is
  all_goals first|rfl|decide +kernel
