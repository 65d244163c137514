import PyProof.Rows.All
import Wide.All
import OpenK.AllK
import Wide.FinOn
import Lean
import PyProof.EqAt
import PyProof.EqKinds
import PyProof.TupleCall
import PySem.Challenge.RW_stepledger_k62_whole_shown_and_read
open Option renaming some->Ya,none->Yl,isSome_iff_exists->Jr,map_eq_some_iff->Js,map_some->Qn,getD_none->YB,bind_some->YC
open PySem.W renaming Frag->Yb,findIn->nJ,kia_one->pR,emptyDict->uf,mg_none_of->pU,keepIn->ug,instObj->vP,fnOf->sH,nsIn->gF,hasDictIn->Jt,mg_of->nO,codeIn->Fp,plainGet->Ju,makesIn->Jv,kitx_tuple->Qo,methodObj->Qp,plainOver->Qq,kitx_list->Qs,kitx_dict->Qt,cellsFrom_some->YD,takerIn->Qu,isFn->Jw,lookIn->Qv,callWith_K->YF,kitx_none->YG,kitx_bool->YH,handedIn->YJ,kitx_int->YK,kitx_str->YL,kitOne->YM,WalkO->YQ,mg_of->YS,Frag->Am,keepIn->Qw
open List renaming mem_cons_self->Yc,mem_cons_of_mem->Yd,length_append->Ye,getElem?_eq_some_iff->Yf,getElem?_append_left->Yj,length_cons->Ym,mem_cons->Yo,getElem?_set_ne->Yp,size_toArray->Yq,replicate->Yr,map_cons->Ys,length_map->Yu,getElem?_set_self->Yw,mem_singleton->Yx,getElem?_eq_getElem->Y3,mem_append_right->Y9,length_singleton->iJ,mem_append->eY,append_assoc->gG,all_eq_true->h_,mem_map->dN,nodup_cons->iK,length_replicate->nP,map_append->iY,nil_append->jh,set_cons_succ->lz,set_cons_zero->lG,flatten_cons->kh,foldl_cons->jD,getElem?_map->lH,append_nil->jZ,lookup_cons->lJ,take_of_length_le->sI,map_map->ji,mem_map_of_mem->qK,all_cons->kj,range->iw,getElem?_append_right->xX,any_cons->lK,cons_append->pW,getElem?_take_of_lt->xY,replicate_succ->uh,not_mem_nil->qL,Nodup->jj,mem_append_left->vQ,prefix_append->ul,drop_eq_getElem_cons->Ao,getElem?_replicate_of_lt->Fq,mem_of_getElem?->xZ,getElem_mem->um,getD_eq_getElem?_getD->Ft,reverse_cons->vR,length_set->uo,eq_nil_of_length_eq_zero->Jx,mem_flatMap->vU,getElem?_cons_succ->Fv,length_eq_zero_iff->Fw,ext_getElem?->x_,map_congr_left->Aq,map_eq_nil_iff->Ar,nodup_append->Av,map_nil->uq,getElem?_replicate->Jy,getElem?_cons_zero->Jz,length_reverse->Fx,length_take->Aw,prefix_refl->Ax,drop_eq_nil_of_le->JB,length->ur,find?_cons->Ay,set_set->vV,getElem?_eq_none->JC,foldl_append->Yes,getElem?_of_mem->JD,map_reverse->Fy,range'->vW,length_nil->Fz,append_eq_nil_iff->Qx,lookup->yc,eraseIdxIfInBounds_toArray->YT,length_range->JF,filterMap_cons->Qy,mem_filterMap->Qz,mem_range->JG,drop_zero->JH,nodup_nil->JK,flatMap_cons->QB,prefix_iff_eq_take->YW,getLast?_replicate->YX,drop_length->QC,mem_flatten->QD,mem_reverse->QF,range_succ_eq_map->YZ,flatten_singleton->Y_,of_mem_zip->QG,dropLast_eq_take->ZC,getElem?_toArray->ZD,isPrefixOf->QH,reverse_reverse->ZF,take_succ_cons->ZG,flatten_append->ZJ,filterMap_map->ZK,take_sublist->ZL,foldl->JL,mem_range'_1->ZM,getElem?_inj->ZP,all_nil->QJ,map_id'->QK,getElem_inj->ZQ,length_drop->ZR,range'_succ->ZS,map_flatten->ZV,mem_filter->ZW,map_id->QL
open PySem renaming wpAny_bind->Yg,Value->Yh,Shared->Yk,wpAny_pure->Yv,starEach->Yy,Addr->Y2,mainGlobals->cP,Program->Yae,wpAny->ao,sizeLine->bH,model->aB,wpAny_holding->iy,Around->bU,compareOp->dO,World->bh,keywordEach->iZ,wpAny_loadPart'->sJ,wpAny_truthy_bool->qM,bootBuiltins->kI,mem_of_lookup->ut,attributeBase->nQ,wpAny_callSpecial?_slot->yd,assignEach->jE,backTo->cL,wpAny_mono->j4,wpAny_newObj_type->uv,wpAny_pyIter_list->vX,binaryOp->i_,backToKw->jb,wpAny_call_entry->vY,eval->aN,wpAny_Call_Name_kw->Az,strValues->mz,Heap->aR,wpAny_passesOwn->ye,foldedSetIterable->A_,wpAny_comprehension_free->JM,wpAny_pyIter_enum->Ba,codeAny_builtin->yg,wpAny_standAt->vZ,FuncData->lM,Stmt->Yd0,treeTable->o7,call_meets->qN,codeAny_mono->v4,wpAny_field->uw,importedModules->Bb,behindInMarks->yh,wpAny_letOwnedTupleGo_enum->QM,codeAny_call_builtin->JN,letOwnedTupleGo->FJ,wpAny_pyIter_tuple->JP,assign->jF,codeAny->nR,sliceBounds->yj,slicePicked->yo,wpAny_seqItems->FN,wpAny_tryCatch->FP,plainId_quiet->FQ,typeIs_str->yp,wpAny_execs_nil->JQ,swapsWith->v5,sizeLine_eq->Bc,getItem->qO,intText?->JR,wpAny_assign_Name->QQ,wpAny_sequenceKey->QR,wpAny_pyNext_enum_itemD->ZX,noFill_tuple_add->QS,wpAny_pyNext_list_item->ZZ,cLine->jG,codeAny_compStart_list->Z0,wpAny_pyNext_list_end->Z1,wpAny_specialOf->QT,exec_Assign_Name_used->Z2,weight_type_call_type->Z3,wpAny_updateSeq->QV,wpAny_call->FT,wpAny_newFunctionEnv->Z4,newFunctionEnv->QW,holding->v6,subscripted->JS,callerA->v7,relabel->v8,wpAny_of_eq->JT,dictGet->v9,wpAny_letGo->JV,swapsWithSole->QX,swappedStores->QZ,seq_tuple_add->Q0,wpAny_missed_other->Z5,wpAny_rule->JW,wpAny_dictEntries->Z6,Within->Q3,pyNext->ux,Result->uy,concat_meets->Q4,wpAny_typeOf->Q5,seqIndex_neg->Q6,wpAny_pyHash_int->Z7,wpAny_pyHash_str->Z8,wpAny_execs_cons->Z9,wpAny_isInstance->Z_,checkBuiltinCall->Yls,compEnvC->FW,rawInt->v_,BindsTo->Bd,seqIndex_of->Q7,valueAt->Be,wpAny_stack_any->Ymc,codeAny_of_tree->Yme,wpAny_dictEpoch->Ymf,builtinsNs->Q8,wpAny_Name->Q9,typeIs_int->Q_,call->Ra,IsEnum->yq,standAt->FZ,compPost->JX,callWith->JZ,contains->J0,pyIter->Bf,cellsFrom->Rb,seqIndex?->Rc,scanBound->Rf,spliced->J1,unaryOp->J2,evalAll->J3,bindL->wg,bindC->wj,atKey->wk,newList->J4,Str->aj,Obj->aO,Env->fH,Sem->pY,Pos->aU,Tok->gn
open Nat renaming le_trans->Yi,le_refl->Yt,le_antisymm->Y0,lt_of_lt_of_le->Y7,sub_add_cancel->Y8,ne_of_lt->dR,le_add_right->iM,zero_le->eZ,le_of_not_lt->j5,le_of_eq->j6,succ_le_succ->pZ,lt_of_le_of_lt->sO,le_succ_of_le->sS,add_comm->mC,lt_trans->nT,add_assoc->qP,eq_of_beq_eq_true->Bg,beq->iQ,lt_irrefl->wu,zero_add->wz,le_add_left->Bh,mul_div_le->Bj,lt_succ_self->F_,lt_add_right->Ga,le_succ->wA,min_eq_left->Gb,ble->nU,lt_succ_of_le->J5,le_of_ble_eq_true->Rg,le_of_lt->Bl,lt_of_not_le->J6,strongRecOn->J7,ne_of_gt->Gd,lt_of_le_of_ne->Rh,toDigits_of_lt_base->Yhm,min_eq_right->Ri,min_le_right->Rj,succ_ne_self->Rk,min_le_left->Rm,sub_eq_zero_of_le->Yin,toDigits->J8,add_zero->J9,sub_le->Ge,mod_lt->Gf,add_le_add_right->Yi3,mul_le_mul_left->Yjf,pos_of_ne_zero->Ykm,add_sub_cancel->Ykn,le_of_lt_succ->Yk1,toList_repr->Ymh,add_le_add->Ymi
open PySem.Heap renaming get?_push_of_some->Yn,get?_push_size->Y4,lt_size->Y6,get?_update_other->uz,size_push->yr,get?_update_self->J_,SameBut->Bm,ExtBut->Rn
open Classical renaming propDecidable->Yz
open Option.some renaming inj->Y1,injEq->Yk0
open Bool renaming and_eq_true->Y5,false_ne_true->mD,and_eq_true_iff->Ybb,false_eq_true->Bo,or_eq_true->yt,and_false->yu,beq_eq_decide_eq->Ka,or_false->Kc,and_true->Kd,eq_iff_iff->Ro,false_and->Rp,true_and->Rq,not_eq_true'->Ykz,not_eq_true->Ylt,false_or->Ymy
open Int renaming toNat_of_nonneg->nW,toNat_natCast->sU,emod_lt_of_pos->uD,le_antisymm->qQ,emod_nonneg->qR,self_le_toNat->wB,natCast_nonneg->Gg,le_of_eq->wC,ofNat_le->Bp,zero_add->Bq,add_zero->Br,not_le->Bs,lt_mul_ediv_self_add->Yha,le_of_lt->Ke,natCast_add->Rr,mul_zero->Kf,natCast_mul->Ru,ofNat_lt->Kg,lt_of_lt_of_le->Yj4,sub_zero->Rv,min_eq_left->Yly,mul_add->Rx,add_le_add->Ymj,not_lt->Ry
open List.cons renaming inj->jc,injEq->Yma
open Ne renaming symm->dg
open False renaming elim->jH
open PySem.Builtin.List renaming listTooLong->Bt
open PySem.Builtin.Str renaming occurrences->Bu,strSliceIndices->Kh,partsBetween->Yhb,tooLong->Yju,strKind->Yjv
open PyProof.Rows renaming slot_tuple_getitem->Kl,callWith_type1->Rz,slot_tupleiter_next->Km,signs_ofString->Ygh,evalArgs_kwB->Yg0,kindOf->nY,subscriptTail_builtinR->Yh0,AllBare->uE,envOfC->p6,entry_tupleiter_next->Yja,entry_tuple_getitem->Yjh,args_tupleiter_next->Yjw,args_tuple_getitem->Ykb,subscriptTail->RB,Subscript_->RD
open PySem.Str renaming length->mF,ofString->qT,empty->RG
open PyProof.Rows.KTD renaming datumAt->o8,TabOf->qU,tab_of_look->Ymd
open PySem.NumText renaming digitsVal->Gh
open PyProof.Rows.F renaming plain_set_update_loop->RJ,entry_set_update_loop->Yey
open PySem.F renaming plain_max_loop->yw,plainAttrs_str->Ko,slot_enumerate_next->Kq,args_tuple_add_2->RK,entry_tuple_add->RL,plainAttrs_list->RM,slot_tuple_add->RN,slot_str_join->RP,slot_dict_get->RQ,slot_dict_contains->Ygm,args_str_split_2->RT,slot_dict_getitem->Yg1,entry_str_split->RV,args_enumerate_next_1->Yhk,args_dict_get_3->Yhl,slot_str_split->RX,entry_max_loop->RZ,entry_enumerate_next->Yh3,entry_dict_get->Yh4,type_str_join->Yiq,entry_enumerate_new->Yir,args_list_extend_2->Yi8,entry_list_extend->Yjr,slot_list_extend->Ykg,called_enumerate->Yki,entry_list_pop->Ylp,slot_list_pop->Yl5,slot_int_rmul->Yl6
open PySem.Builtin.Slice renaming slicePlaces->Kr,sliceAdjust->R4,sliceApplied->Ygj
open PySem.Builtin.SmallTypes renaming nextOf->Ks
open PySem.Around renaming under_plainId->Gi,under->Ku,under_plain->Ykk
open PySem.Builtin.Tuple renaming tupleExact->Kv,tupleItemsOf->Ygk
open PySem.SeqAt renaming EqAt->sV,notIn_listAt->Ykf,in_listAt->Yl4
open Array renaming length_toList->Kw,toList->Bv,getElem?_toList->R5,mem_of_getElem?->Yiu,append_assoc->Yj5
open PySem.SeqAt.EqAt renaming str_int->Ky,int_str->R6,same->R7,none_bool->Yi4,bool_none->Yi5,bool_bool->Yi6,none_int->Yjj,none_str->Yjk,bool_int->Yjl,bool_str->Yjm,int_none->Yjn,int_bool->Yjo,str_none->Yjp,str_bool->Yjq,int_int->Ykd,str_str->Yke
open PySem.Calls renaming callWith_builtin->R8,Name_function_global->Ygi,spliced_cons->R9,evalArgs_plain->Yi7,spliced_nil->Yks
open PySem.Obj renaming mapSeq->yx,data_mapFields->Ykh
open PySem.SeqAt.RcNeAt renaming lists_lengths->Ygl
open Decidable renaming byContradiction->Ygy
open OfNat renaming ofNat->Gj
open Eq renaming trans->wD
open PySem.StrLaws renaming glued_eq_join->Yip,found_one->Ykw
open PySem.Heap.SameBut renaming update->Yjx
open PySem.Builtin.Dict renaming missed->Yj1
open PySem.Code renaming quiet_builtin->Ykj,isFrame->R_
open Prod.mk renaming injEq->Sd
open PySem.SeqAt.RcAt renaming tuples->Ykv
open PySem.Walks renaming list->Kz
open Nat.succ renaming inj->Sg
open ToString renaming toString->Gk
open PySem.Txt renaming split->Yl8,startswith->Yml
open PySem.PassesOwn renaming never->Yl9
open Char renaming toNat->Sq
open PySem.Paired renaming length->Ymu
open Min renaming min->jJ
namespace L3
set_option compiler.extract_closed false
set_option genSizeOf false in
set_option genInjectivity false in
inductive AE where
 |v (i:Nat)
 |k (n:Nat)
 |a (x y:AE)
 |m (n:Nat) (x:AE)
noncomputable def KC:List Nat->Nat->Nat
 |[],_=>0|x::_,0=>x|_::l,n+1=>KC l n
noncomputable def AE.ev(c:List Nat):AE->Nat
 | .v i=>KC c i|.k n=>n|.a x y=>x.ev c+y.ev c|.m n x=>n*x.ev c
noncomputable def aL:List Nat->List Nat->List Nat
 |[],r=>r|x::l,[]=>x::l|x::l,y::r=>(x+y)::aL l r
noncomputable def sL(n:Nat):List Nat->List Nat
 |[]=>[]|x::l=>(n*x)::sL n l
noncomputable def uL:Nat->List Nat
 |0=>[1]|n+1=>0::uL n
noncomputable def AE.li:AE->List Nat
 | .v i=>0::uL i|.k n=>[n]|.a x y=>aL x.li y.li|.m n x=>sL n x.li
noncomputable def dt:List Nat->List Nat->Nat
 |x::c,y::l=>x*y+dt c l|[],_=>0|_,[]=>0
noncomputable def yC:List Nat->List Nat->Bool
 |[],_=>true|x::l,[]=>nU x 0&&yC l []|x::l,y::r=>nU x y&&yC l r
theorem p7:∀c,dt c []=0
 |[]=>rfl|_::_=>rfl
theorem sW:∀c l r,dt c (aL l r)=dt c l+dt c r
 |c,[],r=>by rw[p7,wz];rfl|c,x::l,[]=>by rw[p7];rfl|[],x::l,y::r=>rfl|z::c,x::l,y::r=>by show z*(x+y)+dt c (aL l r)=_;rw[sW c l r,Nat.mul_add];exact Nat.add_add_add_comm _ _ _ _
theorem Gm(n:Nat):∀c l,dt c (sL n l)=n*dt c l
 |c,[]=>by rw[p7];exact p7 c|[],x::l=>rfl|z::c,x::l=>by show z*(n*x)+dt c (sL n l)=n*(z*x+dt c l);rw[Gm n c l,Nat.mul_add,Nat.mul_left_comm]
theorem ZuM:∀c i,dt c (uL i)=KC c i
 |[],0=>rfl|[],_+1=>rfl|x::c,0=>by show x*1+dt c []=x;rw[p7,Nat.mul_one];rfl|x::c,n+1=>by show x*0+dt c (uL n)=KC c n;rw[ZuM c n,Nat.mul_zero,wz]
theorem Bw:∀c l r,yC l r=true->dt c l<=dt c r
 |c,[],r,_=>by rw[p7];exact eZ _|[],x::l,r,_=>eZ _|z::c,x::l,[],h=>by have h:=(Y5 _ _).mp h;have e:x=0:=Nat.le_zero.1 (Rg h.1);have i:=Bw c l [] h.2;rw[p7]at i;show z*x+dt c l<=0;rw[e,Nat.le_zero.1 i];exact Yt 0|z::c,x::l,y::r,h=>
  have h:=(Y5 _ _).mp h
  Ymi (Yjf z (Rg h.1)) (Bw c l r h.2)
theorem AE.fG(c:List Nat):∀e:AE,dt (1::c) e.li=e.ev c
 | .v i=>(wz _).trans (ZuM c i)|.k n=>by show 1*n+dt c []=n;rw[p7,Nat.one_mul];rfl|.a x y=>(sW _ _ _).trans (congr (congrArg _ (x.fG c)) (y.fG c))|.m n x=>(Gm n _ _).trans (congrArg _ (x.fG c))
noncomputable def b7:Nat->Nat->AE×Nat
 |0,s=>(.k 0,s)|f+1,s=>bif nU (s % 16) 9 then(.v (s % 16),s / 16)else bif iQ (s % 16) 10 then(.k 1,s / 16)
  else bif iQ (s % 16) 11 then(.k (s / 256 % 16^(s / 16 % 16)),s / 256 / 16^(s / 16 % 16))
  else bif iQ (s % 16) 12 then(.a (b7 f (s / 16)).1 (b7 f (b7 f (s / 16)).2).1,(b7 f (b7 f (s / 16)).2).2)
  else bif iQ (s % 16) 13 then(.m (s / 16 % 256) (b7 f (s / 4096)).1,(b7 f (s / 4096)).2)
  else(.k 0,s / 16)
noncomputable def Gn:Nat->Nat->Nat->Prop
 |0,x,y=>x<=y|1,x,y=>x<y|2,x,y=>x=y|3,x,y=>x=y
 |4,x,y=>¬x<=y|5,x,y=>¬x<y|_,_,_=>False
noncomputable def Ss:Nat->AE->AE->List Nat
 |0,x,_=>x.li|1,x,_=>aL [1] x.li|2,x,_=>x.li|4,_,y=>aL [1] y.li
 |_,_,y=>y.li
noncomputable def Gp:Nat->AE->AE->List Nat
 |0,_,y=>y.li|1,_,y=>y.li|2,_,y=>y.li|_,x,_=>x.li
noncomputable def uF(c:List Nat):Nat->Nat->Prop
 |0,s=>Gn (s % 16) ((b7 9 (s / 16)).1.ev c) ((b7 9 (b7 9 (s / 16)).2).1.ev c)|n+1,s=>Gn (s / 16 % 16) ((b7 9 (s / 256)).1.ev c) ((b7 9 (b7 9 (s / 256)).2).1.ev c)->uF c n (b7 9 (b7 9 (s / 256)).2).2
noncomputable def gN:Nat->AE->AE->List Nat->List Nat->Bool
 |0,x,y,L,R=>yC (aL R x.li) (aL L y.li)|1,x,y,L,R=>yC (aL [1] (aL R x.li)) (aL L y.li)|_,_,_,L,R=>yC (aL [1] R) L
noncomputable def uG:Nat->Nat->List Nat->List Nat->Bool
 |0,s,L,R=>gN (s % 16) (b7 9 (s / 16)).1 (b7 9 (b7 9 (s / 16)).2).1 L R|n+1,s,L,R=>uG n (b7 9 (b7 9 (s / 256)).2).2 (aL L (sL (s % 16) (Ss (s / 16 % 16) (b7 9 (s / 256)).1 (b7 9 (b7 9 (s / 256)).2).1))) (aL R (sL (s % 16) (Gp (s / 16 % 16) (b7 9 (s / 256)).1 (b7 9 (b7 9 (s / 256)).2).1)))
theorem Gq(c l:List Nat):dt (1::c) (aL [1] l)=dt (1::c) l+1:=by rw[sW];show 1*1+dt c []+_=_;rw[p7];exact mC _ _
theorem Zry(c:List Nat)(x y:AE):∀r,Gn r (x.ev c) (y.ev c)->dt (1::c) (Ss r x y)<=dt (1::c) (Gp r x y)
 |0,h=>by show dt _ x.li<=dt _ y.li;rw[x.fG,y.fG];exact h|1,h=>by show dt _ (aL [1] x.li)<=dt _ y.li;rw[Gq,x.fG,y.fG];exact h|2,h=>by show dt _ x.li<=dt _ y.li;rw[x.fG,y.fG];exact j6 h|3,h=>by show dt _ y.li<=dt _ x.li;rw[x.fG,y.fG];exact j6 h.symm
 |4,h=>by show dt _ (aL [1] y.li)<=dt _ x.li;rw[Gq,x.fG,y.fG];exact J6 h|5,h=>by show dt _ y.li<=dt _ x.li;rw[x.fG,y.fG];exact j5 h|_+6,h=>h.elim
theorem Zyu(c:List Nat)(x y:AE)(L R:List Nat)(h:dt (1::c) L<=dt (1::c) R):∀r,gN r x y L R=true->Gn r (x.ev c) (y.ev c)
 |0,k=>by have e:=Bw (1::c) _ _ k;rw[sW,sW,x.fG,y.fG]at e;exact Nat.le_of_add_le_add_left (Yi e (Yi3 h _))|1,k=>by have e:=Bw (1::c) _ _ k;rw[Gq,sW,sW,x.fG,y.fG]at e;exact Nat.lt_of_add_lt_add_left (Yi e (Yi3 h _))|r+2,k=>by have e:=Bw (1::c) _ _ k;rw[Gq]at e;exact absurd (Yi e h) (Nat.not_succ_le_self _)
theorem arN(c:List Nat):∀(n s:Nat) (L R:List Nat),dt (1::c) L<=dt (1::c) R->uG n s L R=true->uF c n s
 |0,s,L,R,h,k=>Zyu c _ _ L R h _ k|n+1,s,L,R,h,k=>λg=>arN c n _ _ _ (by rw[sW,sW,Gm,Gm];exact Ymi h (Yjf _ (Zry c _ _ _ g))) k
end L3
theorem lN(c:List Nat)(n s:Nat)(h:L3.uG n s [] []=true):L3.uF c n s:=L3.arN c n s [] [] (Yt _) h
theorem gH(a b:Nat):a<=a-b+b:=Nat.le_add_of_sub_le (Yt _)
theorem T1:true=true:=rfl
theorem lA{a:Nat}(n s:Nat)(y:L3.uG n s [] []=true):L3.uF [a] n s:=lN _ n s y
theorem lB{a b:Nat}(n s:Nat)(y:L3.uG n s [] []=true):L3.uF [a,b] n s:=lN _ n s y
theorem lC{a b c:Nat}(n s:Nat)(y:L3.uG n s [] []=true):L3.uF [a,b,c] n s:=lN _ n s y
theorem lD{a b c d:Nat}(n s:Nat)(y:L3.uG n s [] []=true):L3.uF [a,b,c,d] n s:=lN _ n s y
theorem lE{a b c d e:Nat}(n s:Nat)(y:L3.uG n s [] []=true):L3.uF [a,b,c,d,e] n s:=lN _ n s y
theorem lF{a b c d e f:Nat}(n s:Nat)(y:L3.uG n s [] []=true):L3.uF [a,b,c,d,e,f] n s:=lN _ n s y
theorem clA(w:Int):max w 0=(w.toNat:Int):=(Int.ofNat_toNat w).symm
theorem clB(v:Int)(n:Nat)(h:¬v<0):jJ v (n:Int)=((jJ v.toNat n:Nat):Int):=by
 obtain⟨k,rfl⟩:=Int.eq_ofNat_of_zero_le (Ry.1 h);rcases Nat.le_total k n with z|z
 .rw[Yly (Bp.2 z)];exact congrArg Int.ofNat (Gb z).symm
 .rw[Int.min_eq_right (Bp.2 z)];exact congrArg Int.ofNat (Ri z).symm
theorem Su(v:Int)(n:Nat)(h:v<0):max 0 (jJ (v+(n:Int)) (n:Int))=((v+(n:Int)).toNat:Int):=by rw[Yly (Ke (Yj4 (Int.add_lt_add_right h _) (wC (Bq _)))),Int.max_comm];exact clA _
theorem Sv(v:Int)(n:Nat)(h:¬v<0):max 0 (jJ v (n:Int))=((jJ v.toNat n:Nat):Int):=by rw[clB v n h];exact Int.max_eq_right (Gg _)
namespace L3
set_option genSizeOf false in
set_option genInjectivity false in
inductive AI where
 |v (i:Nat)
 |k (n:Nat)
 |c (e:AE)
 |a (x y:AI)
 |s (x y:AI)
 |g (x:AI)
 |m (n:Nat) (x:AI)
noncomputable def Gr:List Int->Nat->Int
 |[],_=>0|x::_,0=>x|_::l,n+1=>Gr l n
noncomputable def AI.ev(c:List Nat)(d:List Int):AI->Int
 | .v i=>Gr d i|.k n=>Int.ofNat n|.c e=>((e.ev c:Nat):Int)|.a x y=>x.ev c d+y.ev c d
 | .s x y=>x.ev c d-y.ev c d|.g x=>-x.ev c d|.m n x=>Int.ofNat n*x.ev c d
noncomputable def pL(u w:List Nat×List Nat):List Nat×List Nat:=(aL u.1 w.1,aL u.2 w.2)
noncomputable def AI.li:AI->Bool->List Nat×List Nat
 | .v i,b=>bif b then([],uL i)else([],[])|.k n,b=>bif b then([n],[])else([],[])|.c e,b=>bif b then(e.li,[])else([],[])|.a x y,b=>pL (x.li b) (y.li b)
 | .s x y,b=>pL (x.li b) (y.li (!b))|.g x,b=>x.li (!b)|.m n x,b=>(sL n (x.li b).1,sL n (x.li b).2)
noncomputable def e_:List Int->List Nat->Int
 |x::c,y::l=>x*(y:Int)+e_ c l|[],_=>0|_,[]=>0
noncomputable def dI(c:List Nat)(d:List Int)(u:List Nat×List Nat):Int:=((dt (1::c) u.1:Nat):Int)+e_ d u.2
theorem ZuB(p q r s:Int):p+q+(r+s)=p+r+(q+s):=by omega
theorem p8:∀c,e_ c []=0
 |[]=>rfl|_::_=>rfl
theorem Zsg:∀c l r,e_ c (aL l r)=e_ c l+e_ c r
 |c,[],r=>by rw[p8,Bq];rfl|c,x::l,[]=>by rw[p8,Br];rfl|[],x::l,y::r=>rfl|z::c,x::l,y::r=>by show z*((x+y:Nat):Int)+e_ c (aL l r)=(z*x+e_ c l)+(z*y+e_ c r);rw[Zsg c l r,Rr,Rx];exact ZuB _ _ _ _
theorem ZsA(n:Nat):∀c l,e_ c (sL n l)=Int.ofNat n*e_ c l
 |c,[]=>by rw[p8,Kf];exact p8 c|[],x::l=>(Kf _).symm|z::c,x::l=>by show z*((n*x:Nat):Int)+e_ c (sL n l)=Int.ofNat n*(z*x+e_ c l);rw[ZsA n c l,Rx,Ru,Int.mul_left_comm];rfl
theorem ZrT:∀c i,e_ c (uL i)=Gr c i
 |[],0=>rfl|[],_+1=>rfl|x::c,0=>by show x*1+e_ c []=x;rw[p8,Int.mul_one,Br]|x::c,n+1=>by show x*0+e_ c (uL n)=Gr c n;rw[ZrT c n,Kf,Bq]
section
variable (c:List Nat) (d:List Int)
theorem lO(u w:List Nat×List Nat):dI c d (pL u w)=dI c d u+dI c d w:=by show((dt (1::c) (aL u.1 w.1):Nat):Int)+e_ d (aL u.2 w.2)=_;rw[sW,Zsg,Rr];exact ZuB _ _ _ _
theorem KD(n:Nat)(u:List Nat×List Nat):dI c d (sL n u.1,sL n u.2)=Int.ofNat n*dI c d u:=by show((dt (1::c) (sL n u.1):Nat):Int)+e_ d (sL n u.2)=_;rw[Gm,ZsA,Ru];exact(Rx _ _ _).symm
theorem Sw:dI c d ([],[])=0:=by show((dt (1::c) []:Nat):Int)+e_ d []=0;rw[p7,p8];rfl
theorem Zva(p q r s:Int):p-q+(r-s)=p+r-(q+s):=by omega
theorem ZqR(p q r s:Int):p-q-(r-s)=p+s-(q+r):=by omega
theorem AI.fG:∀e:AI,e.ev c d=dI c d (e.li true)-dI c d (e.li false)
 | .v i=>by show Gr d i=dI c d ([],uL i)-dI c d ([],[]);rw[Sw,Rv];show _=((dt (1::c) []:Nat):Int)+e_ d (uL i);rw[p7,ZrT];exact(Bq _).symm|.k n=>by show Int.ofNat n=dI c d ([n],[])-dI c d ([],[]);rw[Sw,Rv];show _=((dt (1::c) [n]:Nat):Int)+e_ d [];rw[p8,Br];show _=((1*n+dt c []:Nat):Int);rw[p7,Nat.one_mul];rfl|.c e=>by show((e.ev c:Nat):Int)=dI c d (e.li,[])-dI c d ([],[]);rw[Sw,Rv];show _=((dt (1::c) e.li:Nat):Int)+e_ d [];rw[p8,Br,e.fG]|.a x y=>by show x.ev c d+y.ev c d=dI c d (pL (x.li true) (y.li true))-dI c d (pL (x.li false) (y.li false));rw[lO,lO,x.fG,y.fG];exact Zva _ _ _ _
 | .s x y=>by show x.ev c d-y.ev c d=dI c d (pL (x.li true) (y.li false))-dI c d (pL (x.li false) (y.li true));rw[lO,lO,x.fG,y.fG];exact ZqR _ _ _ _|.g x=>by show -x.ev c d=dI c d (x.li false)-dI c d (x.li true);rw[x.fG];exact Int.neg_sub _ _|.m n x=>by show Int.ofNat n*x.ev c d=dI c d (sL n (x.li true).1,sL n (x.li true).2)-dI c d (sL n (x.li false).1,sL n (x.li false).2);rw[KD,KD,x.fG];exact Int.mul_sub _ _ _
noncomputable def cI(x y:AI):List Nat×List Nat:=pL (x.li true) (y.li false)
noncomputable def yD(u:List Nat×List Nat):List Nat×List Nat:=(aL [1] u.1,u.2)
theorem KH(u:List Nat×List Nat):dI c d (yD u)=dI c d u+1:=by show((dt (1::c) (aL [1] u.1):Nat):Int)+e_ d u.2=((dt (1::c) u.1:Nat):Int)+e_ d u.2+1;rw[Gq,Rr,Int.add_right_comm];rfl
theorem KJ(x y:AI):dI c d (cI x y)-dI c d (cI y x)=x.ev c d-y.ev c d:=by unfold cI;rw[lO,lO,x.fG,y.fG,ZqR,Int.add_comm (dI c d (y.li true))]
theorem KN{x y:AI}(h:x.ev c d<=y.ev c d):dI c d (cI x y)<=dI c d (cI y x):=by have:=KJ c d x y;omega
theorem ZyE{x y:AI}(h:dI c d (cI x y)<=dI c d (cI y x)):x.ev c d<=y.ev c d:=by have:=KJ c d x y;omega
noncomputable def ZxH:Nat->Int->Int->Prop
 |0,x,y=>x<=y|1,x,y=>x<y|2,x,y=>x=y|3,x,y=>x=y
 |4,x,y=>¬x<=y|5,x,y=>¬x<y|_,_,_=>False
noncomputable def loI:Nat->AI->AI->List Nat×List Nat
 |0,x,y=>cI x y|1,x,y=>yD (cI x y)|2,x,y=>cI x y|4,x,y=>yD (cI y x)
 |_,x,y=>cI y x
noncomputable def hiI:Nat->AI->AI->List Nat×List Nat
 |0,x,y=>cI y x|1,x,y=>cI y x|2,x,y=>cI y x|_,x,y=>cI x y
theorem Zuy{x y:AI}(h:x.ev c d<y.ev c d):dI c d (yD (cI x y))<=dI c d (cI y x):=by have:=KJ c d x y;rw[KH];omega
theorem Zvj(x y:AI):∀r,ZxH r (x.ev c d) (y.ev c d)->dI c d (loI r x y)<=dI c d (hiI r x y)
 |0,h=>KN c d h|1,h=>Zuy c d h|2,h=>KN c d (wC h)|3,h=>KN c d (wC h.symm)
 |4,h=>Zuy c d (Bs.1 h)|5,h=>KN c d (Ry.1 h)|_+6,h=>h.elim
end
noncomputable def cO:Nat->Nat->AI×Nat
 |0,s=>(.k 0,s)|f+1,s=>bif nU (s % 16) 7 then(.v (s % 16),s / 16)else bif iQ (s % 16) 8 then(.c (b7 9 (s / 16)).1,(b7 9 (s / 16)).2)
  else bif iQ (s % 16) 9 then(.g (cO f (s / 16)).1,(cO f (s / 16)).2)else bif iQ (s % 16) 10 then(.k 1,s / 16)
  else bif iQ (s % 16) 11 then(.k (s / 256 % 16^(s / 16 % 16)),s / 256 / 16^(s / 16 % 16))
  else bif iQ (s % 16) 12 then(.a (cO f (s / 16)).1 (cO f (cO f (s / 16)).2).1,(cO f (cO f (s / 16)).2).2)
  else bif iQ (s % 16) 13 then(.m (s / 16 % 256) (cO f (s / 4096)).1,(cO f (s / 4096)).2)
  else bif iQ (s % 16) 14 then(.k 0,s / 16)else(.s (cO f (s / 16)).1 (cO f (cO f (s / 16)).2).1,(cO f (cO f (s / 16)).2).2)
def hP(c:List Nat)(d:List Int)(r s:Nat):Prop:=bif nU 8 r then ZxH (r-8) ((cO 9 s).1.ev c d) ((cO 9 (cO 9 s).2).1.ev c d)else Gn r ((b7 9 s).1.ev c) ((b7 9 (b7 9 s).2).1.ev c)
noncomputable def hR(r s:Nat):Nat:=bif nU 8 r then(cO 9 (cO 9 s).2).2 else(b7 9 (b7 9 s).2).2
noncomputable def hL(r s:Nat):List Nat×List Nat:=bif nU 8 r then loI (r-8) (cO 9 s).1 (cO 9 (cO 9 s).2).1 else(Ss r (b7 9 s).1 (b7 9 (b7 9 s).2).1,[])
noncomputable def hH(r s:Nat):List Nat×List Nat:=bif nU 8 r then hiI (r-8) (cO 9 s).1 (cO 9 (cO 9 s).2).1 else(Gp r (b7 9 s).1 (b7 9 (b7 9 s).2).1,[])
theorem Zx1(c:List Nat)(d:List Int)(r s:Nat)(h:hP c d r s):dI c d (hL r s)<=dI c d (hH r s):=by
 unfold hP at h;unfold hL hH;cases e:nU 8 r<;>rw[e]at h
 .exact Int.add_le_add_right (Bp.2 (Zry c _ _ _ h)) _
 .exact Zvj c d _ _ _ h
noncomputable def zL:List Nat->Bool
 |[]=>true|x::l=>iQ x 0&&zL l
noncomputable def Sx:List Nat->List Nat->Bool
 |[],r=>zL r|x::l,[]=>iQ x 0&&zL l|x::l,y::r=>iQ x y&&Sx l r
theorem Sy:∀c l,zL l=true->e_ c l=0
 |c,[],_=>p8 c|[],x::l,_=>rfl|z::c,x::l,h=>by have h:=(Y5 _ _).mp h;show z*(x:Int)+e_ c l=0;rw[Bg h.1,Sy c l h.2,Br];exact Kf z
theorem ZsT:∀c l r,Sx l r=true->e_ c l=e_ c r
 |c,[],r,h=>(p8 c).trans (Sy c r h).symm|c,x::l,[],h=>(Sy c (x::l) h).trans (p8 c).symm|[],x::l,y::r,_=>rfl|z::c,x::l,y::r,h=>by have h:=(Y5 _ _).mp h;show z*(x:Int)+e_ c l=z*(y:Int)+e_ c r;rw[Bg h.1,ZsT c l r h.2]
noncomputable def Bx(u w:List Nat×List Nat):Bool:=yC u.1 w.1&&Sx u.2 w.2
theorem Gs(c:List Nat)(d:List Int){u w:List Nat×List Nat}(h:Bx u w=true):dI c d u<=dI c d w:=by have h:=(Y5 _ _).mp h;exact Ymj (Bp.2 (Bw _ _ _ h.1)) (wC (ZsT d _ _ h.2))
noncomputable def SJ(c:List Nat)(d:List Int):Nat->Nat->Prop
 |0,s=>hP c d (s % 16) (s / 16)|n+1,s=>hP c d (s / 16 % 16) (s / 256)->SJ c d n (hR (s / 16 % 16) (s / 256))
noncomputable def gI(r s:Nat)(L R:List Nat×List Nat):Bool:=bif iQ r 0 then Bx (pL R ((b7 9 s).1.li,[])) (pL L ((b7 9 (b7 9 s).2).1.li,[]))
 else bif iQ r 1 then Bx (yD (pL R ((b7 9 s).1.li,[]))) (pL L ((b7 9 (b7 9 s).2).1.li,[]))
 else bif iQ r 8 then Bx (pL R (cI (cO 9 s).1 (cO 9 (cO 9 s).2).1)) (pL L (cI (cO 9 (cO 9 s).2).1 (cO 9 s).1))
 else bif iQ r 9 then Bx (yD (pL R (cI (cO 9 s).1 (cO 9 (cO 9 s).2).1))) (pL L (cI (cO 9 (cO 9 s).2).1 (cO 9 s).1))
 else Bx (yD R) L
noncomputable def SM:Nat->Nat->List Nat×List Nat->List Nat×List Nat->Bool
 |0,s,L,R=>gI (s % 16) (s / 16) L R|n+1,s,L,R=>SM n (hR (s / 16 % 16) (s / 256)) (pL L (sL (s % 16) (hL (s / 16 % 16) (s / 256)).1,sL (s % 16) (hL (s / 16 % 16) (s / 256)).2)) (pL R (sL (s % 16) (hH (s / 16 % 16) (s / 256)).1,sL (s % 16) (hH (s / 16 % 16) (s / 256)).2))
theorem KQ(c:List Nat)(d:List Int)(e:AE):dI c d (e.li,[])=((e.ev c:Nat):Int):=by show((dt (1::c) e.li:Nat):Int)+e_ d []=_;rw[p8,Br,e.fG]
theorem Zsh{a b l r:Int}(h:l<=r)(e:r+a<=l+b):a<=b:=by omega
theorem Zq2{a b l r:Int}(h:l<=r)(e:r+a+1<=l+b):a<b:=by omega
theorem Zu9{l r:Int}(h:l<=r)(e:r+1<=l):False:=by omega
theorem Zyy(c:List Nat)(d:List Int)(r s:Nat)(L R:List Nat×List Nat)(h:dI c d L<=dI c d R)(k:gI r s L R=true):hP c d r s:=by
 unfold gI at k;cases e0:iQ r 0 with
 |true=>rw[Bg e0]at k ⊢;have e:=Gs c d k;rw[lO,lO,KQ,KQ]at e;exact Bp.1 (Zsh h e)|false=>
  cases e1:iQ r 1 with
  |true=>rw[Bg e1]at k ⊢;have e:=Gs c d k;rw[KH,lO,lO,KQ,KQ]at e;exact Kg.1 (Zq2 h e)|false=>
   cases e8:iQ r 8 with
   |true=>rw[Bg e8]at k ⊢;have e:=Gs c d k;rw[lO,lO]at e;exact ZyE c d (Zsh h e)|false=>
    cases e9:iQ r 9 with
    |true=>rw[Bg e9]at k ⊢;have e:=Gs c d k;rw[KH,lO,lO]at e;have z:=Zq2 h e;have y:=KJ c d (cO 9 s).1 (cO 9 (cO 9 s).2).1;show(cO 9 s).1.ev c d<(cO 9 (cO 9 s).2).1.ev c d;exact Int.lt_of_sub_neg (y▸Int.sub_neg_of_lt z)|false=>rw[e0,e1,e8,e9]at k;have e:=Gs c d k;rw[KH]at e;exact(Zu9 h e).elim
theorem arI(c:List Nat)(d:List Int):∀(n s:Nat) (L R:List Nat×List Nat),dI c d L<=dI c d R->SM n s L R=true->SJ c d n s
 |0,s,L,R,h,k=>Zyy c d _ _ L R h k|n+1,s,L,R,h,k=>λg=>arI c d n _ _ _ (by rw[lO,lO,KD,KD];exact Ymj h (Int.mul_le_mul_of_nonneg_left (Zx1 c d _ _ g) (Gg _))) k
end L3
theorem iN(c:List Nat)(d:List Int)(n s:Nat)(h:L3.SM n s ([],[]) ([],[])=true):L3.SJ c d n s:=L3.arI c d n s ([],[]) ([],[]) (Int.le_refl _) h
set_option Elab.async false
set_option linter.all false
set_option maxRecDepth 100000
namespace L2
open PySem PySem.Spec PyProof.Rows
noncomputable abbrev Key:=Sum Int aj
noncomputable def ZuQ:Key->Yh->Bool
 | .inl k,v=>Value.isInt k v|.inr x,v=>Value.isStrOf x v
noncomputable def ZzV(w:bh):Key->Int
 | .inl k=>hashInt k|.inr x=>hashStr w x
theorem uH:∀{k:Key} {v:Yh},ZuQ k v=true->(∃i t,k=Sum.inl i/\v=Value.int i t)\/(∃x t,k=Sum.inr x/\v=Value.str x t)
 | .inl i,v,h=>by obtain⟨t,e⟩:=Value.isInt_shape (k:=i) (v:=v) h;exact .inl ⟨i,t,rfl,e⟩|.inr x,v,h=>by obtain⟨t,e⟩:=Value.isStrOf_shape (x:=x) (v:=v) h;exact .inr ⟨x,t,rfl,e⟩
theorem ZwP(a b:Int):decide ((Sum.inl a:Key)=Sum.inl b)=(a==b):=by
 by_cases e:a=b
 .subst e;simp
 .have h:¬(Sum.inl a:Key)=Sum.inl b:=λq=>e (Sum.inl.inj q);rw[decide_eq_false h];exact(beq_eq_false_iff_ne.mpr e).symm
theorem ZwU(a b:aj):decide ((Sum.inr a:Key)=Sum.inr b)=decide (a=b):=by
 by_cases e:a=b
 .subst e;simp
 .have h:¬(Sum.inr a:Key)=Sum.inr b:=λq=>e (Sum.inr.inj q);rw[decide_eq_false h,decide_eq_false e]
theorem ZvD(a:Int)(b:aj):decide ((Sum.inl a:Key)=Sum.inr b)=false:=decide_eq_false (λq=>nomatch q)
theorem ZvI(a:aj)(b:Int):decide ((Sum.inr a:Key)=Sum.inl b)=false:=decide_eq_false (λq=>nomatch q)
noncomputable def Zpg(prog:Yae)(w:bh):PySem.KeyKind prog w Key where
 is:=ZuQ
 hash:=ZzV w
 inj:=λv a b ha hb=>by
  rcases uH ha with⟨i,t,rfl,rfl⟩|⟨x,t,rfl,rfl⟩
  .rcases uH hb with⟨j,u,rfl,e⟩|⟨y,u,rfl,e⟩
   .injection e with e1 _;rw[e1]
   .exact nomatch e
  .rcases uH hb with⟨j,u,rfl,e⟩|⟨y,u,rfl,e⟩
   .exact nomatch e
   .injection e with e1 _;rw[e1]
 byValue:=λk v h=>by rcases uH h with⟨i,t,rfl,rfl⟩|⟨x,t,rfl,rfl⟩<;>rfl
 pyHash:=λhv h=>by
  rcases uH hv with⟨i,t,rfl,rfl⟩|⟨x,t,rfl,rfl⟩
  .exact Z7 h
  .exact Z8 h
 eqBool:=λhu hv h=>by
  rcases uH hu with⟨i,t,rfl,rfl⟩|⟨x,t,rfl,rfl⟩
  .rcases uH hv with⟨j,u,rfl,rfl⟩|⟨y,u,rfl,rfl⟩
   .rw[ZwP]at h;exact wpAny_eqBool_int h
   .rw[ZvD]at h;exact R6 i t y u _ _ _ _ h
  .rcases uH hv with⟨j,u,rfl,rfl⟩|⟨y,u,rfl,rfl⟩
   .rw[ZvI]at h;exact Ky x t j u _ _ _ _ h
   .rw[ZwU]at h;exact wpAny_eqBool_str h
 «strs»:=λk x t v h=>by
  rcases uH h with⟨i,u,rfl,e⟩|⟨y,u,rfl,e⟩
  .exact nomatch e
  .injection e with e1 _
   subst e1;cases v<;>rfl
end L2
namespace L2
open PySem PySem.Spec PyProof.Rows
inductive V where
 |non|bl (b:Bool)|int (i:Int)|str (x:aj)|BJ (b:Array UInt8)|flt (b:UInt64)|ref (a:Y2)|ty (n:String)
 deriving DecidableEq
noncomputable def RelV:V->Yh->Prop
 | .non,u=>u=Value.none|.bl b,u=>u=Value.bool b|.int i,u=>∃t,u=Value.int i t|.str x,u=>∃t,u=Value.str x t
 | .BJ b,u=>∃t,u=Value.bytes b t|.flt b,u=>∃t,u=Value.float b t|.ref a,u=>u=Value.ref a|.ty n,u=>u=Value.type n
noncomputable abbrev Vals:List V->List Yh->Prop:=Paired RelV
theorem Vals.length{xs:List V}{us:List Yh}(r:Vals xs us):xs.length=us.length:=Ymu r
theorem Vals.get:∀{xs:List V} {us:List Yh} {i:Nat} {x:V},Vals xs us->xs[i]?=Ya x->∃u,us[i]?=Ya u/\RelV x u
 |_,_,_,_,.nil,e=>by simp at e|_,_,0,_,.cons r _,e=>by simp at e;subst e;exact⟨_,rfl,r⟩|_,_,i+1,x,.cons _ t,e=>by obtain⟨u,h1,h2⟩:=Vals.get (i:=i) (x:=x) t (by simpa using e);exact⟨u,by simpa using h1,h2⟩
theorem Vals.set{x:V}{u:Yh}(r:RelV x u):∀{xs:List V} {us:List Yh} (i:Nat),Vals xs us->Vals (xs.set i x) (us.set i u)
 |_,_,_,.nil=>.nil|_,_,0,.cons _ t=>.cons r t|_,_,i+1,.cons q t=>.cons q (Vals.set r i t)
theorem Vals.append:∀{xs ys:List V} {us ws:List Yh},Vals xs us->Vals ys ws->Vals (xs++ys) (us++ws)
 |_,_,_,_,.nil,s=>s|_,_,_,_,.cons r t,s=>.cons r (Vals.append t s)
theorem Vals.take:∀{xs:List V} {us:List Yh} (n:Nat),Vals xs us->Vals (xs.take n) (us.take n)
 |_,_,0,_=>.nil|_,_,_+1,.nil=>.nil|_,_,n+1,.cons r t=>.cons r (Vals.take n t)
theorem Vals.drop:∀{xs:List V} {us:List Yh} (n:Nat),Vals xs us->Vals (xs.drop n) (us.drop n)
 |_,_,0,r=>r|_,_,_+1,.nil=>.nil|_,_,n+1,.cons _ t=>Vals.drop n t
noncomputable def o9:Option V->Option Yh->Prop
 |some v,Ya u=>RelV v u|none,Yl=>True|_,_=>False
noncomputable def KV{κ:Type}:List (κ×V)->List (κ×Yh)->Prop:=Paired λ(p:κ×V) (q:κ×Yh)=>p.1=q.1/\RelV p.2 q.2
noncomputable def kV:Key->V
 | .inl i=>.int i|.inr x=>.str x
inductive HO where
 /--a list -/
 |lst (xs:List V)
 /--a tuple (never changes) -/
 |tup (xs:List V)
 /--a dict whose keys are ints and texts;one whose keys are tuples of ints and texts (the empty one is both) -/
 |dK (kvs:List (Key×V))|dT (kvs:List (List Key×V))
 /--a set of ints:its members,its size -/
 |set (S:Int->Bool) (n:Nat)
 /--an instance of the class at C,its dict at dx,its attributes -/
 |ins (C dx:Y2) (fs:List (aj×V))
 /--the dict of the instance at x -/
 |own (x:Y2)
 /--the dict of an exception -/
 |xd (fs:List (aj×V))
 /--a bound method,f of x -/
 |met (f x:Y2)
 /--a range object lo,lo+1,.. below hi -/
 |SN (lo hi:Int)
 /--a thing that is known to the object (the script;a dict while a loop walks it):read,never written while it is so -/
 |fc (o:aO) (u:HO)
 /--a code object's table -/
 |yE (ps:Array Yh)
 /--any other thing,by what is true of its one object (a def of one's own:AbY a S n:=HO.ext λh=>..) -/
 |ext (φ:aR->Prop)
noncomputable abbrev Hp:=Y2->Option HO
noncomputable def upd(H:Hp)(a:Y2)(o:HO):Hp:=λb=>if b=a then Ya o else H b
variable{H:Hp}
theorem qW{a:Y2}{o:HO}:upd H a o a=Ya o:=by unfold upd;rw[if_pos rfl]
theorem gq{a b:Y2}{o:HO}(h:b≠a):upd H a o b=H b:=by unfold upd;rw[if_neg h]
theorem Gu{a b:Y2}{o:HO}(h:H a=Ya o)(h':H b=Yl):a≠b:=by intro e;subst e;rw[h]at h';cases h'
section
variable (P:Yae) (w:bh)
def sX(h:aR)(a:Y2)(items:Array Yh):Prop:=∃o,h.get? a=Ya o/\(o.cls= .type "tuple" /\o.dict=Yl)/\∃n,o.data= .seq items n
theorem sX.tup{h:aR}{a:Y2}{items:Array Yh}(x:sX h a items):IsTup h a items:=let⟨o,e,c,d⟩:=x;⟨o,e,c.1,d⟩
theorem sX.new(h:aR)(items:Array Yh):sX (h.push {cls:=.type "tuple",data:=.seq items}) h.objs.size items:=⟨_,Y4 _ rfl,⟨rfl,rfl⟩,0,rfl⟩
noncomputable def gQ(H:Hp)(h:aR)(a:Y2):HO->Prop
 | .lst xs=>xs.length<=bH/\∃(its:List Yh) (n:Nat),Vals xs its/\h.get? a=Ya {cls:=.type "list",data:=.seq its.toArray n}|.tup xs=>xs.length<=bH/\∃its:List Yh,Vals xs its/\sX h a its.toArray|.dK kvs=>kvs.length<=bH/\(a==sysModules)=false/\∃vs,KV kvs vs/\h.DictOf (Zpg P w) a vs|.dT kvs=>kvs.length<=bH/\(a==sysModules)=false/\∃xs:List (List Key×Y2×Yh),
   Paired (λ(p:List Key×V) (q:List Key×Y2×Yh)=>p.1=q.1/\H q.2.1=Ya (.tup (p.1.map kV))/\RelV p.2 q.2.2) kvs xs/\
   ∃o es ep,h.get? a=Ya o/\o.ExactDict/\o.data= .dict es ep/\es.toList=xs.map (entryOfKey (tupleKind (Zpg P w)))/\(xs.map (·.1)).Nodup
 | .set S n=>h.SetOf (intKind P w) a S n|.ins C dx fs=>H dx=Ya (.own a)/\fs.length<=1000/\dx≠a/\h.get? a=Ya (vP C dx)/\
   ∃mA,h.Ns1 dx mA/\(∀f,o9 (fs.lookup f) (mA f))/\Q3 mA (fs.map (·.1))
 | .own _=>∃o,h.get? a=Ya o|.xd fs=>∃mA,h.Ns1 a mA/\∀f,o9 (fs.lookup f) (mA f)|.SN lo hi=>∃t u v,h.get? a=Ya {cls:=.type "range",data:=.fields #[.int lo t,.int hi u,.int 1 v]}|.fc o u=>h.get? a=Ya o/\gQ H h a u
 | .yE ps=>h.get? a=Ya {cls:=.none,data:=.fields ps}|.met f x=>h.get? a=Ya (Qp (.ref f) (.ref x))|.ext φ=>φ h/\(∃o,h.get? a=Ya o)/\∀h1 h2:aR,φ h1->(∀o,h1.get? a=Ya o->h2.get? a=Ya o)->φ h2
def ig(H:Hp)(h:aR):Prop:=∀a o,H a=Ya o->gQ P w H h a o
end
section
variable {P:Yae} {w:bh} {H H':Hp} {h h':aR} {a:Y2} {o:HO}
theorem gQ.lt(x:gQ P w H h a o):a<h.objs.size:=by
 cases o with
 |lst xs=>obtain⟨_,_,_,_,e⟩:=x;exact Y6 e|tup xs=>obtain⟨_,_,_,p⟩:=x;exact p.tup.lt|dK kvs=>obtain⟨_,_,_,_,o,_,_,e,_⟩:=x;exact Y6 e|dT kvs=>obtain⟨_,_,_,_,o,_,_,e,_⟩:=x;exact Y6 e
 |set S n=>obtain⟨o,_,_,_,e,_⟩:=x;exact Y6 e|ins C dx fs=>obtain⟨_,_,_,e,_⟩:=x;exact Y6 e|own y=>obtain⟨_,e⟩:=x;exact Y6 e|xd fs=>obtain⟨_,⟨_,_,_,e,_⟩,_⟩:=x;exact Y6 e
 |SN lo hi=>obtain⟨_,_,_,e⟩:=x;exact Y6 e|fc ob u=>obtain⟨e,_⟩:=x;exact Y6 e|yE ps=>exact Y6 (show h.get? a=Ya _ from x)|met f y=>exact Y6 (show h.get? a=Ya _ from x)
 |ext φ=>obtain⟨_,⟨_,e⟩,_⟩:=x;exact Y6 e
theorem Paired.Qe{α β:Type}{F G:α->β->Prop}:∀{l₁:List α} {l₂:List β},Paired F l₁ l₂->(∀a b,F a b->G a b)->Paired G l₁ l₂
 |_,_,.nil,_=>.nil|_,_,.cons r t,f=>.cons (f _ _ r) (Paired.Qe t f)
theorem gQ.stay(x:gQ P w H h a o)(k:∀b u,(b=a\/H b=Ya (.own a))->h.get? b=Ya u->h'.get? b=Ya u)(ho:∀b,H b=Ya (.own a)->H' b=Ya (.own a))(ht:∀b xs,H b=Ya (.tup xs)->H' b=Ya (.tup xs)):gQ P w H' h' a o:=by
 induction o with
 |lst xs=>obtain⟨z,its,n,r,e⟩:=x;exact⟨z,its,n,r,k _ _ (.inl rfl) e⟩|tup xs=>obtain⟨z,its,r,ob,e,c⟩:=x;exact⟨z,its,r,ob,k _ _ (.inl rfl) e,c⟩|dK kvs=>obtain⟨z,y,vs,r,ob,es,ep,e,c⟩:=x;exact⟨z,y,vs,r,ob,es,ep,k _ _ (.inl rfl) e,c⟩|dT kvs=>obtain⟨z,y,xs,r,ob,es,ep,e,c⟩:=x;exact⟨z,y,xs,Paired.Qe r λp q z=>⟨z.1,ht _ _ z.2.1,z.2.2⟩,ob,es,ep,k _ _ (.inl rfl) e,c⟩
 |set S n=>obtain⟨ob,es,ep,t,e,c⟩:=x;exact⟨ob,es,ep,t,k _ _ (.inl rfl) e,c⟩|ins C dx fs=>obtain⟨d,z,ne,e,mA,⟨od,es,ep,e2,c⟩,r⟩:=x;exact⟨ho _ d,z,ne,k _ _ (.inl rfl) e,mA,⟨od,es,ep,k _ _ (.inr d) e2,c⟩,r⟩
 |own y=>obtain⟨ob,e⟩:=x;exact⟨ob,k _ _ (.inl rfl) e⟩|xd fs=>obtain⟨mA,⟨od,es,ep,e,c⟩,r⟩:=x;exact⟨mA,⟨od,es,ep,k _ _ (.inl rfl) e,c⟩,r⟩|SN lo hi=>obtain⟨t,u,v,e⟩:=x;exact⟨t,u,v,k _ _ (.inl rfl) e⟩|fc ob u ih=>obtain⟨e,q⟩:=x;exact⟨k _ _ (.inl rfl) e,ih q⟩
 |yE ps=>have e:h.get? a=Ya {cls:=.none,data:=.fields ps}:=x;show h'.get? a=Ya {cls:=.none,data:=.fields ps};exact k a _ (.inl rfl) e|met f y=>have e:h.get? a=Ya (Qp (.ref f) (.ref y)):=x;show h'.get? a=Ya (Qp (.ref f) (.ref y));exact k a _ (.inl rfl) e|ext φ=>obtain⟨p,⟨o,e⟩,st⟩:=x;exact⟨st _ _ p λo q=>k _ _ (.inl rfl) q,⟨o,k _ _ (.inl rfl) e⟩,st⟩
theorem ig.lt(x:ig P w H h)(e:H a=Ya o):a<h.objs.size:=(x a o e).lt
theorem ig.fresh(x:ig P w H h)(e:h.objs.size<=a):H a=Yl:=by
 cases q:H a with
 |none=>rfl|some u=>exact absurd (Y7 (x.lt q) e) (wu _)
theorem ig.kept(x:ig P w H h)(k:∀b u,h.get? b=Ya u->h'.get? b=Ya u):ig P w H h':=λa o e=>(x a o e).stay (λb u _ q=>k b u q) (λ_ q=>q) λ_ _ q=>q
theorem ig.laid(x:ig P w H h)(k:∀b u,h.get? b=Ya u->h'.get? b=Ya u)(hp:h.objs.size<=a)(new:gQ P w (upd H a o) h' a o):ig P w (upd H a o) h':=λb u e=>by
 have hn:=x.fresh hp;by_cases hb:b=a
 .subst hb;rw[qW]at e;cases e;exact new
 .rw[gq hb]at e;exact(x b u e).stay (λc v _ q=>k c v q) (λc q=>by rw[gq (Gu q hn)];exact q) λc xs q=>by rw[gq (Gu q hn)];exact q
end
def Rd(H:Hp)(a:Y2)(u:HO):Prop:=H a=Ya u\/∃o,H a=Ya (.fc o u)
theorem Rd.ok{P:Yae}{w:bh}{h:aR}{a:Y2}{u:HO}(r:Rd H a u)(x:ig P w H h):gQ P w H h a u:=by
 rcases r with r|⟨o,r⟩
 .exact x a u r
 .obtain⟨_,q⟩:=x a _ r;exact q
noncomputable def KR:Option HO->Prop
 |some (.lst _)=>True|some (.dK _)=>True|some (.dT _)=>True|some (.set _ _)=>True
 |some (.ins _ _ _)=>True|some (.ext _)=>True|_=>False
section
variable {P:Yae} {w:bh} {H:Hp} {h h':aR} {x e:Y2} {o':HO}
theorem ig.write(ok:ig P w H h)(mu:KR (H x))(he:e=x\/H e=Ya (.own x))(k:∀b u,b≠e->h.get? b=Ya u->h'.get? b=Ya u)(heo:∃u,h'.get? e=Ya u)(new:gQ P w (upd H x o') h' x o'):ig P w (upd H x o') h':=λb u q=>by
 have XX:∀c y,H c=Ya (.own y)->c≠x:=λc y r z=>by subst z;rw[r]at mu;exact mu
 have Aby:∀c xs,H c=Ya (.tup xs)->c≠x:=λc xs r z=>by subst z;rw[r]at mu;exact mu
 by_cases hb:b=x
 .subst hb;rw[qW]at q;cases q;exact new
 .rw[gq hb]at q;by_cases hbe:b=e
  .have q':H b=Ya (.own x):=by
    rcases he with z|z
    .exact absurd (hbe.trans z) hb
    .rw[hbe];exact z
   rw[q]at q';cases q';obtain⟨v,hv⟩:=heo;exact⟨v,by rw[hbe];exact hv⟩
  .refine(ok b u q).stay (λc v hc r=>k c v ?_ r) (λc r=>by rw[gq (XX c b r)];exact r) λc xs r=>by rw[gq (Aby c xs r)];exact r
   rcases hc with rfl|hc
   .exact hbe
   .rintro rfl;rcases he with z|z
    .exact XX c b hc z
    .rw[hc]at z;cases z;exact hb rfl
end
structure Un(fs ex:List Y2)(H H':Hp)(h h':aR):Prop where
 keep:∀b o,h.get? b=Ya o->H b=Yl->b∉fs->b∉ex->h'.get? b=Ya o
 slot:∀b o,h.get? b=Ya o->H b=Yl->b∈fs->b∉ex->∃sl,h'.get? b=Ya {o with slots:=sl}
 free:∀b o,h.get? b=Ya o->H b=Yl->b∉ex->H' b=Yl
 there:∀b o,h.get? b=Ya o->b∉ex->∃o',h'.get? b=Ya o'
 tups:∀b xs,H b=Ya (.tup xs)->H' b=Ya (.tup xs)
 o4:∀b o u,H b=Ya (.fc o u)->H' b=Ya (.fc o u)
 pO:∀b ps,H b=Ya (.yE ps)->∃more,H' b=Ya (.yE (ps++more))
section
variable {fs fs' ex ex':List Y2} {H H1 H2:Hp} {h h1 h2 h':aR} {a x e:Y2} {o:HO}
theorem Un.any(u:Un fs ex H H1 h h1){b:Y2}{ob:aO}(q:h.get? b=Ya ob)(n:H b=Yl)(hx:b∉ex):∃sl,h1.get? b=Ya {ob with slots:=sl}:=by
 by_cases hb:b∈fs
 .exact u.slot b ob q n hb hx
 .exact⟨ob.slots,u.keep b ob q n hb hx⟩
theorem Un.trans(a:Un fs ex H H1 h h1)(b:Un fs ex H1 H2 h1 h2):Un fs ex H H2 h h2 where
 keep:=λc ob q n hc hx=>b.keep c ob (a.keep c ob q n hc hx) (a.free c ob q n hx) hc hx
 slot:=λc ob q n hc hx=>by obtain⟨sl,e1⟩:=a.slot c ob q n hc hx;obtain⟨sl',e2⟩:=b.slot c _ e1 (a.free c ob q n hx) hc hx;exact⟨sl',e2⟩
 free:=λc ob q n hx=>by obtain⟨o',e1⟩:=a.there c ob q hx;exact b.free c o' e1 (a.free c ob q n hx) hx
 there:=λc ob q hx=>by obtain⟨o',e1⟩:=a.there c ob q hx;exact b.there c o' e1 hx
 tups:=λc xs q=>b.tups c xs (a.tups c xs q)
 o4:=λc ob xs q=>b.o4 c ob xs (a.o4 c ob xs q)
 pO:=λc ps q=>by obtain⟨m1,e1⟩:=a.pO c ps q;obtain⟨m2,e2⟩:=b.pO c _ e1;exact⟨m1++m2,by rw[e2,Yj5]⟩
theorem Un.kept(k:∀b u,h.get? b=Ya u->h'.get? b=Ya u):Un fs ex H H h h':=⟨λb ob q _ _ _=>k b ob q,λb ob q _ _ _=>⟨ob.slots,k b ob q⟩,λ_ _ _ n _=>n,λb ob q _=>⟨ob,k b ob q⟩,λ_ _ q=>q,λ_ _ _ q=>q,λ_ ps q=>⟨#[],by rw[q];simp⟩⟩
theorem Un.refl:Un fs ex H H h h:=Un.kept λ_ _ q=>q
theorem Un.laid(k:∀b u,h.get? b=Ya u->h'.get? b=Ya u)(hp:h.objs.size<=a)(hn:H a=Yl):Un fs ex H (upd H a o) h h' where
 keep:=λb u q _ _ _=>k b u q
 slot:=λb u q _ _ _=>⟨u.slots,k b u q⟩
 free:=λb u q n _=>by rw[gq (dR (Y7 (Y6 q) hp))];exact n
 there:=λb u q _=>⟨u,k b u q⟩
 tups:=λb xs q=>by rw[gq (Gu q hn)];exact q
 o4:=λb u xs q=>by rw[gq (Gu q hn)];exact q
 pO:=λb ps q=>⟨#[],by rw[gq (Gu q hn),q];simp⟩
theorem Un.write(mu:KR (H x))(he:e=x\/H e=Ya (.own x))(k:∀b u,b≠e->h.get? b=Ya u->h'.get? b=Ya u)(heo:∃u,h'.get? e=Ya u):Un fs ex H (upd H x o) h h':=by
 have hx:∀b,H b=Yl->b≠x:=λb n z=>by subst z;rw[n]at mu;exact mu
 have hb:∀b,H b=Yl->b≠e:=λb n z=>by
  subst z;rcases he with r|r
  .exact hx b n r
  .rw[n]at r;cases r
 have hm:∀b u,H b=Ya u->¬KR (Ya u)->b≠x:=λb u q nm z=>by subst z;rw[q]at mu;exact nm mu
 refine⟨λb u q n _ _=>k b u (hb b n) q,λb u q n _ _=>⟨u.slots,k b u (hb b n) q⟩,λb u q n _=>by rw[gq (hx b n)];exact n,λb u q _=>?_,
  λb xs q=>by rw[gq (hm b _ q λz=>z)];exact q,λb u xs q=>by rw[gq (hm b _ q λz=>z)];exact q,λb ps q=>⟨#[],by rw[gq (hm b _ q λz=>z),q];simp⟩⟩
 by_cases hbe:b=e
 .subst hbe;exact heo
 .exact⟨u,k b u hbe q⟩
theorem Un.mono(u:Un fs ex H H1 h h1)(hs:∀b∈fs,b∈fs')(hx:∀b∈ex,b∈ex'):Un fs' ex' H H1 h h1:=⟨λb ob q n hb he=>u.keep b ob q n (λz=>hb (hs b z)) λz=>he (hx b z),λ_ _ q n _ he=>u.any q n λz=>he (hx _ z),λb ob q n he=>u.free b ob q n λz=>he (hx b z),λb ob q he=>u.there b ob q λz=>he (hx b z),u.tups,u.o4,u.pO⟩
end
noncomputable def KY(h:aR)(H:Hp):List Y2:=(iw h.objs.size).filter λa=>(H a).isSome
noncomputable def uI(h:aR)(H:Hp):aR:=PySem.W.hideAll h (KY h H)
theorem ZpS(h:aR)(H:Hp):(uI h H).objs.size=h.objs.size:=PySem.W.hideAll_size _ _
theorem ZrI{h:aR}{b:Y2}{o:aO}(e:h.get? b=Ya o)(n:H b=Yl):(uI h H).get? b=Ya o:=PySem.W.hideAll_get _ e λhm=>by have q:(H b).isSome=true:=(ZW.mp hm).2;rw[n]at q;simp at q
theorem Zux{h:aR}{b:Y2}{o:aO}(e:(uI h H).get? b=Ya o):h.get? b=Ya o/\H b=Yl:=by
 have e':h.get? b=Ya o:=PySem.W.of_hideAll (KY h H) e;refine⟨e',?_⟩;cases q:H b with
 |none=>rfl|some x=>have hm:b∈KY h H:=ZW.mpr ⟨JG.mpr (Y6 e'),by simp[q]⟩;have z:(uI h H).get? b=Yl:=PySem.W.hideAll_none (KY h H) hm;rw[z]at e;cases e
noncomputable def Zt2(g h:aR)(L:Y2):List (Y2×aO):=(iw h.objs.size).filterMap λa=>if a=L\/(g.get? a).isSome=true then Yl else(h.get? a).map λo=>(a,o)
noncomputable def rest(g h:aR)(L d:Y2):List (Y2×aO):=(Zt2 g h L).filter λp=>decide (p.1≠d)
end L2
namespace L2
open PySem PySem.Spec PyProof.Rows
structure Mod(K:Yb)(mg:aj->Option Yh)(base:aR):Prop where
 Gv:K.In base
 glob:base.Ns cP mg
 blt:∃mb,base.Ns Q8 mb/\∀x:aj,x≠ "__name__" ->mb x=kI x
 nolimit:base.NoLimit
/--the context:a def's body (or a comprehension's block) running. base:fixed through the whole law;s₀,H₀:the entry;outer:the frames whose slots others may change(a def's callers);stack:all frames that run;
  ex:iterators that were made ahead of the entry and are walked here (a comprehension's);fn:the names whose cells were made at the entry (a def:all;a comprehension's block:its own);calm:not within an except suite;pn:pins that every state bears;xe:what is wanted of an exception that leaves the code -/
structure Cx where
 prog:Yae
 w:bh
 K:Yb
 mg:aj->Option Yh
 base:aR
 A:bU
 N:List aj
 s₀:Yk
 H₀:Hp
 env:fH
 outer:List fH
 stack:List fH
 ex:List Y2
 fn:aj->Bool
 calm:Bool
 pn:List (Y2×aO)
 xe:Yh->Yk->Prop
noncomputable def frs(l:List fH):List Y2:=l.filterMap (·.frame)
noncomputable abbrev Cx.fs(X:Cx):List Y2:=frs X.outer
def KZ(sc:Scope)(x:aj):Prop:=sc.names.lookup x=Ya .local\/sc.names.lookup x=Ya .cell\/sc.names.lookup x=Ya .free
def Loc(sc:Scope)(x:aj):Prop:=sc.names.lookup x=Ya .local\/sc.names.lookup x=Ya .cell
def Look(env:fH)(h:aR)(m:aj->Option Yh)(x:aj)(u:Yh):Prop:=(env.kindOf x=Ya .local/\m x=Ya u)\/((env.kindOf x=Ya .cell\/env.kindOf x=Ya .free)/\∃c,env.cells.lookup x=Ya c/\h.IsCell c (Ya u))
structure Cx.Ok(X:Cx):Prop where
 mod:Mod X.K X.mg X.base
 kind:X.env.scope.kind= .function
 glob:X.env.globals=cP
 blt:X.env.builtins=Q8
 above:X.s₀.heap.objs.size<=X.env.locals
 inj:∀x y c,X.env.cells.lookup x=Ya c->X.env.cells.lookup y=Ya c->x=y
 has:∀x,(X.env.kindOf x=Ya .cell\/X.env.kindOf x=Ya .free)->∃c,X.env.cells.lookup x=Ya c
 cab:∀x c,X.fn x=true->X.env.cells.lookup x=Ya c->X.s₀.heap.objs.size<=c
 hd:X.calm=true->X.A.handled=Yl
 frames:X.A.frames=Ya X.stack
 iz:X.stack=X.outer\/(X.stack=X.env::X.outer/\X.env.frame=Ya X.env.locals)
 K7:∀b∈X.ex,b≠X.env.locals/\∀x c,X.env.cells.lookup x=Ya c->c≠b
 bs:∀b o,X.base.get? b=Ya o->X.s₀.heap.get? b=Ya o/\X.H₀ b=Yl
 qX:X.base.objs.size<=X.s₀.heap.objs.size
 Fi:∀b o,X.base.get? b=Ya o->b∉X.ex
 Ag:∀b∈X.ex,b∉X.fs
 o5:X.s₀.heap.FunFrames X.base X.outer
 wF:∀b∈X.fs,X.H₀ b=Yl
structure Inv(X:Cx)(pins:List (Y2×aO))(σ:List (Option V))(H:Hp)(s:Yk):Prop where
 ok:X.Ok
 os:s.os=X.s₀.os
 bare:uE s.gens
 base:Un X.fs X.ex X.H₀ H X.s₀.heap s.heap
 loc:∃m,s.heap.Ns X.env.locals m/\∀(i:Nat) (x:aj) (v:V),X.N[i]?=Ya x->σ[i]?=Ya (Ya v)->KZ X.env.scope x->∃u,RelV v u/\Look X.env s.heap m x u
 cell:∀x c,X.env.cells.lookup x=Ya c->∃v,s.heap.IsCell c v
 free:H X.env.locals=Yl
 sG:∀x c,X.env.cells.lookup x=Ya c->H c=Yl
 pin:∀p∈X.pn++pins,s.heap.get? p.1=Ya p.2/\H p.1=Yl/\p.1≠X.env.locals/\p.1∉X.fs/\∀v,p.2.data≠ .cell v
 hok:ig X.prog X.w H s.heap
 len:σ.length=X.N.length
variable{E:Yh->Yk->Prop}{ch:List Y2}{t':Nat}
section
variable {X:Cx} {pins:List (Y2×aO)} {σ:List (Option V)} {H H':Hp} {s:Yk} {h':aR}
theorem Cx.Ok.Abz(ok:X.Ok){b:Y2}{o:aO}(e:X.base.get? b=Ya o):b∉X.fs:=λhb=>by have:=(ok.o5.mem hb).1;rw[e]at this;cases this
theorem Inv.bs(I:Inv X pins σ H s):∀b o,X.base.get? b=Ya o->s.heap.get? b=Ya o/\H b=Yl:=λb o e=>⟨I.base.keep b o (I.ok.bs b o e).1 (I.ok.bs b o e).2 (I.ok.Abz e) (I.ok.Fi b o e),I.base.free b o (I.ok.bs b o e).1 (I.ok.bs b o e).2 (I.ok.Fi b o e)⟩
theorem Inv.bk(I:Inv X pins σ H s):∀b o,X.base.get? b=Ya o->s.heap.get? b=Ya o:=λb o e=>(I.bs b o e).1
theorem Inv.mod(I:Inv X pins σ H s):Mod X.K X.mg X.base:=I.ok.mod
theorem Inv.fj(I:Inv X pins σ H s):X.K.In s.heap:=I.ok.mod.Gv.keeps I.bk
theorem Inv.nolimit(I:Inv X pins σ H s):s.heap.NoLimit:=I.ok.mod.nolimit.keeps I.bk
theorem Inv.fr(I:Inv X pins σ H s):∃m,Fr X.base X.env.locals s.heap m:=
 let⟨m,hn,_⟩:=I.loc
 ⟨m,hn,I.bk,Yi I.ok.qX I.ok.above⟩
theorem Inv.lt(I:Inv X pins σ H s):X.env.locals<s.heap.objs.size:=let⟨_,hn,_⟩:=I.loc;hn.lt
theorem Inv.sz(I:Inv X pins σ H s):X.s₀.heap.objs.size<=s.heap.objs.size:=Yi I.ok.above (Bl I.lt)
theorem Inv.AbA(I:Inv X pins σ H s){a:Y2}(h:s.heap.objs.size<=a):a∉X.fs:=λhb=>by obtain⟨_,o,ho,_⟩:=I.ok.o5.mem hb;exact absurd (Y7 (Y6 ho) (Yi I.sz h)) (wu _)
theorem Inv.yF(I:Inv X pins σ H s):∀x c,X.env.cells.lookup x=Ya c->c≠X.env.locals:=λx c e z=>by obtain⟨v,o,ho,hd⟩:=I.cell x c e;obtain⟨m,⟨o',es,ep,ho',hd',_⟩,_⟩:=I.loc;rw[z,ho']at ho;cases ho;rw[hd']at hd;cases hd
theorem Inv.o5(I:Inv X pins σ H s):s.heap.FunFrames X.base X.outer:=by
 have all:∀(l:List fH),(∀b∈frs l,b∈X.fs)->X.s₀.heap.FunFrames X.base l->s.heap.FunFrames X.base l:=by
  intro l
  induction l with
  |nil=>intro _ _;trivial|cons env r ih=>intro hs hl;obtain⟨hk,⟨L,o,hf,hn,ho,hd⟩,hr⟩:=hl;have hL:L∈X.fs:=hs L (by unfold frs;rw[Qy,hf];exact Yc);obtain⟨sl,e⟩:=I.base.slot L o ho (I.ok.wF L hL) hL λz=>I.ok.Ag L z hL;exact⟨hk,⟨L,_,hf,hn,e,hd⟩,ih (λb hb=>hs b (by unfold frs;rw[Qy,hf];exact Yd _ hb)) hr⟩
 exact all X.outer (λ_ hb=>hb) I.ok.o5
theorem Inv.stack(I:Inv X pins σ H s):s.heap.FunFrames X.base X.stack:=by
 rcases I.ok.iz with e|⟨e,hf⟩
 .rw[e];exact I.o5
 .rw[e];obtain⟨m,hn,_⟩:=I.loc;refine .cons (by rw[I.ok.kind];decide) hf hn ?_ I.o5;exact Heap.get?_none_of_le (Yi I.ok.qX I.ok.above)
theorem Inv.PQ(I:Inv X pins σ H s):∀b∈frs X.stack,b∈X.env.locals::X.fs:=λb hb=>by
 rcases I.ok.iz with e|⟨e,hf⟩
 .rw[e]at hb;exact Yd _ hb
 .rw[e]at hb;unfold frs at hb;rw[Qy,hf]at hb;exact hb
theorem Inv.Xu(I:Inv X pins σ H s):∀b∈frs X.stack,H b=Yl:=λb hb=>by
 rcases Yo.mp (I.PQ b hb)with e|hb
 .rw[e];exact I.free
 .obtain⟨_,o,ho,_⟩:=I.ok.o5.mem hb;exact I.base.free b o ho (I.ok.wF b hb) λz=>I.ok.Ag b z hb
theorem Inv.step{g':Array GenState}{d':Drawn}(I:Inv X pins σ H s)(hch:∀b∈ch,(b∈X.ex\/X.s₀.heap.objs.size<=b)/\b≠X.env.locals/\(∀x c,X.env.cells.lookup x=Ya c->c≠b)/\∀p∈X.pn++pins,p.1≠b)(keep:∀b o,b≠X.env.locals->b∉X.fs->b∉ch->s.heap.get? b=Ya o->H b=Yl->h'.get? b=Ya o)(slot:∀b o,b≠X.env.locals->b∈X.fs->b∉ch->s.heap.get? b=Ya o->H b=Yl->∃sl,h'.get? b=Ya {o with slots:=sl})(free:∀b o,b∉ch->s.heap.get? b=Ya o->H b=Yl->H' b=Yl)(there:∀b o,b∉ch->s.heap.get? b=Ya o->∃o',h'.get? b=Ya o')(tups:∀b xs,H b=Ya (.tup xs)->H' b=Ya (.tup xs))(o4:∀b o u,H b=Ya (.fc o u)->H' b=Ya (.fc o u))(pO:∀b ps,H b=Ya (.yE ps)->∃more,H' b=Ya (.yE (ps++more)))(ns:∀m,s.heap.Ns X.env.locals m->h'.Ns X.env.locals m)(hok:ig X.prog X.w H' h')(hg:uE g'):
  Inv X pins σ H' {s with heap:=h',gens:=g',drawn:=d',toks:=t'}:=by
 have neL:∀b o,X.s₀.heap.get? b=Ya o->b≠X.env.locals:=λb o e=>dR (Y7 (Y6 e) I.ok.above);have K8:∀b o,X.s₀.heap.get? b=Ya o->b∉X.ex->b∉ch:=λb o e hx hb=>by
  rcases(hch b hb).1 with z|z
  .exact hx z
  .exact absurd (Y7 (Y6 e) z) (wu _)
 have cellK:∀x c,X.env.cells.lookup x=Ya c->∀v,s.heap.IsCell c v->h'.IsCell c v:=λx c e v ak=>by
  obtain⟨o,ho,hd⟩:=ak;have Gw:c∉ch:=λz=>(hch c z).2.2.1 x c e rfl;by_cases hc:c∈X.fs
  .obtain⟨sl,q⟩:=slot c o (I.yF x c e) hc Gw ho (I.sG x c e);exact⟨_,q,hd⟩
  .exact⟨o,keep c o (I.yF x c e) hc Gw ho (I.sG x c e),hd⟩
 refine⟨I.ok,I.os,hg,⟨λb o e n hb hx=>?_,λb o e n hb hx=>?_,λb o e n hx=>?_,λb o e hx=>?_,λb xs e=>tups b xs (I.base.tups b xs e),λb o xs e=>o4 b o xs (I.base.o4 b o xs e),λb ps e=>?_⟩,?_,λx c e=>?_,?_,λx c e=>?_,λp hp=>?_,hok,I.len⟩
 .exact keep b o (neL b o e) hb (K8 b o e hx) (I.base.keep b o e n hb hx) (I.base.free b o e n hx)
 .obtain⟨sl,e1⟩:=I.base.slot b o e n hb hx;obtain⟨sl',e2⟩:=slot b _ (neL b o e) hb (K8 b o e hx) e1 (I.base.free b o e n hx);exact⟨sl',e2⟩
 .obtain⟨o',e1⟩:=I.base.there b o e hx;exact free b o' (K8 b o e hx) e1 (I.base.free b o e n hx)
 .obtain⟨o',e1⟩:=I.base.there b o e hx;exact there b o' (K8 b o e hx) e1
 .obtain⟨m1,e1⟩:=I.base.pO b ps e;obtain⟨m2,e2⟩:=pO b _ e1;exact⟨m1++m2,by rw[e2,Yj5]⟩
 .obtain⟨m,hn,hl⟩:=I.loc;refine⟨m,ns m hn,λi x v e1 e2 e3=>?_⟩;obtain⟨u,r,l⟩:=hl i x v e1 e2 e3;refine⟨u,r,?_⟩;rcases l with l|⟨k,c,e,z⟩
  .exact .inl l
  .exact .inr ⟨k,c,e,cellK x c e _ z⟩
 .obtain⟨v,z⟩:=I.cell x c e;exact⟨v,cellK x c e v z⟩
 .obtain⟨m,⟨o,_,_,ho,_⟩,_⟩:=I.loc;exact free _ o (λz=>(hch _ z).2.1 rfl) ho I.free
 .obtain⟨v,o,ho,hd⟩:=I.cell x c e;exact free c o (λz=>(hch c z).2.2.1 x c e rfl) ho (I.sG x c e)
 .obtain⟨e,n,ne,nf,d⟩:=I.pin p hp;have Gw:p.1∉ch:=λz=>(hch p.1 z).2.2.2 p hp rfl;exact⟨keep p.1 p.2 ne nf Gw e n,free p.1 p.2 Gw e n,ne,nf,d⟩
theorem Inv.un(I:Inv X pins σ H s)(u:Un X.fs [] H H' s.heap h')(hok:ig X.prog X.w H' h'):Inv X pins σ H' {s with heap:=h',toks:=t'}:=by obtain⟨m,⟨o,es,ep,ho,r⟩,_⟩:=id I.loc;obtain⟨sl,hL⟩:=u.any ho I.free (by simp);exact I.step (g':=s.gens) (d':=s.drawn) (ch:=[]) (λ_ z=>nomatch z) (λb o _ hb _ e n=>u.keep b o e n hb (by simp)) (λb o _ hb _ e n=>u.slot b o e n hb (by simp)) (λb o _ e n=>u.free b o e n (by simp)) (λb o _ e=>u.there b o e (by simp)) u.tups u.o4 u.pO (λm' hm=>by obtain⟨o',es',ep',ho',r'⟩:=hm;rw[ho]at ho';cases ho';exact⟨_,es',ep',hL,r'⟩) hok I.bare
theorem Inv.call{g':Array GenState}{d':Drawn}(I:Inv X pins σ H s)(u:Un (frs X.stack) ch H H' s.heap h')(hok:ig X.prog X.w H' h')(hg:uE g')(hch:∀b∈ch,(b∈X.ex\/X.s₀.heap.objs.size<=b)/\b≠X.env.locals/\(∀x c,X.env.cells.lookup x=Ya c->c≠b)/\∀p∈X.pn++pins,p.1≠b):
  Inv X pins σ H' {s with heap:=h',gens:=g',drawn:=d',toks:=t'}:=by
 obtain⟨m,⟨o,es,ep,ho,r⟩,_⟩:=id I.loc;obtain⟨sl,hL⟩:=u.any ho I.free λz=>(hch _ z).2.1 rfl;exact I.step (ch:=ch) hch (λb o hL hb hc e n=>u.keep b o e n (λz=>(Yo.mp (I.PQ b z)).elim hL hb) hc) (λb o _ _ hc e n=>u.any e n hc) (λb o hc e n=>u.free b o e n hc) (λb o hc e=>u.there b o e hc) u.tups u.o4 u.pO (λm' hm=>by obtain⟨o',es',ep',ho',r'⟩:=hm;rw[ho]at ho';cases ho';exact⟨_,es',ep',hL,r'⟩) hok hg
theorem Inv.turned{it:Y2}(I:Inv X pins σ H s)(k:∀b o,b≠it->s.heap.get? b=Ya o->h'.get? b=Ya o)(hn:H it=Yl)(hL:it≠X.env.locals)(h1:it∈X.ex\/X.s₀.heap.objs.size<=it)(h2:∀x c,X.env.cells.lookup x=Ya c->c≠it)(h3:∀p∈X.pn++pins,p.1≠it):Inv X pins σ H {s with heap:=h',toks:=t'}:=by
 have Gx:∀b u,H b=Ya u->b≠it:=λb u e z=>by rw[z,hn]at e;cases e
 refine I.step (g':=s.gens) (d':=s.drawn) (ch:=[it]) (λb hb=>?_) (λb o _ _ hc e _=>k b o (λz=>hc (by simp[z])) e) (λb o _ _ hc e _=>⟨o.slots,k b o (λz=>hc (by simp[z])) e⟩) (λ_ _ _ _ n=>n)
  (λb o hc e=>⟨o,k b o (λz=>hc (by simp[z])) e⟩) (λ_ _ e=>e) (λ_ _ _ e=>e) (λb ps e=>⟨#[],by rw[e];simp⟩) (λm hm=>?_) (λb u e=>?_) I.bare
 .have e:b=it:=by simpa using hb
  subst e;exact⟨h1,hL,h2,h3⟩
 .obtain⟨o,es,ep,ho,r⟩:=hm;exact⟨o,es,ep,k _ o (dg hL) ho,r⟩
 .refine(I.hok b u e).stay (λc v hc q=>k c v ?_ q) (λ_ q=>q) λ_ _ q=>q;rcases hc with z|z
  .rw[z];exact Gx b u e
  .exact Gx c _ z
theorem Inv.tok(I:Inv X pins σ H s)(t:Nat):Inv X pins σ H {s with toks:=t}:=I.un (h':=s.heap) (t':=t) Un.refl I.hok
theorem Inv.kept(I:Inv X pins σ H s)(k:∀b u,s.heap.get? b=Ya u->h'.get? b=Ya u):Inv X pins σ H {s with heap:=h',toks:=t'}:=I.un (Un.kept k) (I.hok.kept k)
theorem Inv.laid{a:Y2}{o:HO}(I:Inv X pins σ H s)(k:∀b u,s.heap.get? b=Ya u->h'.get? b=Ya u)(hp:s.heap.objs.size<=a)(new:gQ X.prog X.w (upd H a o) h' a o):
  Inv X pins σ (upd H a o) {s with heap:=h',toks:=t'}:=I.un (Un.laid k hp (I.hok.fresh hp)) (I.hok.laid k hp new)
theorem Inv.write{x e:Y2}{o:HO}(I:Inv X pins σ H s)(mu:KR (H x))(he:e=x\/H e=Ya (.own x))(k:∀b u,b≠e->s.heap.get? b=Ya u->h'.get? b=Ya u)(heo:∃u,h'.get? e=Ya u)(new:gQ X.prog X.w (upd H x o) h' x o):Inv X pins σ (upd H x o) {s with heap:=h',toks:=t'}:=I.un (Un.write mu he k heo) (I.hok.write mu he k heo new)
theorem Inv.Xv{XQ:List (Y2×aO)}(I:Inv X pins σ H s)(h:∀p∈XQ,s.heap.get? p.1=Ya p.2/\H p.1=Yl/\p.1≠X.env.locals/\p.1∉X.fs/\∀v,p.2.data≠ .cell v):Inv X XQ σ H s:=⟨I.ok,I.os,I.bare,I.base,I.loc,I.cell,I.free,I.sG,λp hp=>(eY.mp hp).elim (λz=>I.pin p (vQ _ z)) (h p),I.hok,I.len⟩
theorem ZmA{N:List aj}(hN:N.Nodup){i j:Nat}{x:aj}(a:N[i]?=Ya x)(b:N[j]?=Ya x):i=j:=by obtain⟨h1,e1⟩:=Yf.mp a;obtain⟨h2,e2⟩:=Yf.mp b;exact(ZQ hN).mp (e1.trans e2.symm)
theorem SQ{M:Model}{A:bU}{i:Nat}{x:aj}{v:V}{u:Yh}{Q:Unit->Yk->Prop}(I:Inv X pins σ H s)(hN:X.N.Nodup)(hi:X.N[i]?=Ya x)(hx:Loc X.env.scope x)(r:RelV v u)(h:∀s',Inv X pins (σ.set i (Ya v)) H s'->(∃a,Bm a s.heap s'.heap/\(a=X.env.locals\/X.env.cells.lookup x=Ya a))->Q () s')(hf:X.fn x=true\/X.env.scope.names.lookup x=Ya .local:=by first|exact .inl rfl|exact .inr rfl|assumption):ao M A (storeName X.env x u) Q E s:=by
 obtain⟨m,hn,hl⟩:=id I.loc;have hcls:(X.env.scope.kind== .class|| (X.env.scope.kind== .module&&X.env.locals !=X.env.globals))=false:=by rw[I.ok.kind];rfl
 have hiσ:i<σ.length:=by rw[I.len];exact(Yf.mp hi).1
 have yF:=I.yF;have tracked:∀{a:Y2} {h':aR},(∃o,s.heap.get? a=Ya o/\H a=Yl)->Bm a s.heap h'->ig X.prog X.w H h':=λ{a h'} ha hs b ob e=>by
  obtain⟨_,_,hfree⟩:=ha;refine(I.hok b ob e).stay (λc w' hc q=>(hs.2 c ?_).trans q) (λ_ q=>q) λ_ _ q=>q;rintro rfl;rcases hc with rfl|hc
  .rw[hfree]at e;cases e
  .rw[hfree]at hc;cases hc
 rcases hx with hk|hk
 .refine wpAny_storeName_local hk hn (λh' hn' hs=>?_) hcls;obtain⟨oL,_,_,hoL,_⟩:=id hn;refine h _ ⟨I.ok,I.os,I.bare,⟨λb o e n hb hx=>?_,λb o e n hb hx=>?_,I.base.free,λb o e hx=>?_,I.base.tups,I.base.o4,I.base.pO⟩,⟨_,hn',λj y v' e1 e2 e3=>?_⟩,λy c e=>?_,I.free,I.sG,λp hp=>?_,tracked ⟨oL,hoL,I.free⟩ hs,by simpa using I.len⟩ ⟨_,hs,.inl rfl⟩
  .exact(hs.2 b (dR (Y7 (Y6 e) I.ok.above))).trans (I.base.keep b o e n hb hx)
  .obtain⟨sl,e1⟩:=I.base.slot b o e n hb hx;exact⟨sl,(hs.2 b (dR (Y7 (Y6 e) I.ok.above))).trans e1⟩
  .obtain⟨o',e1⟩:=I.base.there b o e hx;exact⟨o',(hs.2 b (dR (Y7 (Y6 e) I.ok.above))).trans e1⟩
  .by_cases hj:j=i
   .subst hj;rw[hi]at e1;cases e1;rw[Yw hiσ]at e2;cases e2;exact⟨u,r,.inl ⟨hk,by simp⟩⟩
   .rw[Yp (dg hj)]at e2;obtain⟨u',r',q⟩:=hl j y v' e1 e2 e3;refine⟨u',r',?_⟩;rcases q with⟨k,e⟩|⟨k,c,e,z⟩
    .refine .inl ⟨k,?_⟩;have:y≠x:=λe=>hj (ZmA hN e1 (e▸hi));simp[this,e]
    .exact .inr ⟨k,c,e,z.sameBut hs (yF y c e)⟩
  .obtain⟨w',z⟩:=I.cell y c e;exact⟨w',z.sameBut hs (yF y c e)⟩
  .obtain⟨e,n,ne,nf,d⟩:=I.pin p hp;exact⟨(hs.2 p.1 ne).trans e,n,ne,nf,d⟩
 .have hfn:X.fn x=true:=by
   rcases hf with z|z
   .exact z
   .rw[z]at hk;cases hk
  obtain⟨c,hc⟩:=I.ok.has x (.inl hk);obtain⟨w',z⟩:=I.cell x c hc;refine wpAny_storeName_cell I.ok.kind hk hc z (λh' hc' hs=>?_);obtain⟨oc,hoc,AbB⟩:=id z;refine h {s with heap:=h'} ⟨I.ok,I.os,I.bare,⟨λb o e n hb hx=>?_,λb o e n hb hx=>?_,I.base.free,λb o e hx=>?_,I.base.tups,I.base.o4,I.base.pO⟩,⟨m,hn.sameBut hs (dg (yF x c hc)),λj y v' e1 e2 e3=>?_⟩,λy c' e=>?_,I.free,I.sG,λp hp=>?_,tracked ⟨oc,hoc,I.sG x c hc⟩ hs,by simpa using I.len⟩ ⟨c,hs,.inr hc⟩
  .exact(hs.2 b (dR (Y7 (Y6 e) (I.ok.cab x c hfn hc)))).trans (I.base.keep b o e n hb hx)
  .obtain⟨sl,e1⟩:=I.base.slot b o e n hb hx;exact⟨sl,(hs.2 b (dR (Y7 (Y6 e) (I.ok.cab x c hfn hc)))).trans e1⟩
  .obtain⟨o',e1⟩:=I.base.there b o e hx;exact⟨o',(hs.2 b (dR (Y7 (Y6 e) (I.ok.cab x c hfn hc)))).trans e1⟩
  .by_cases hj:j=i
   .subst hj;rw[hi]at e1;cases e1;rw[Yw hiσ]at e2;cases e2;exact⟨u,r,.inr ⟨.inl hk,c,hc,hc'⟩⟩
   .rw[Yp (dg hj)]at e2;obtain⟨u',r',q⟩:=hl j y v' e1 e2 e3;refine⟨u',r',?_⟩;rcases q with q|⟨k,c',e,z'⟩
    .exact .inl q
    .refine .inr ⟨k,c',e,z'.sameBut hs ?_⟩;rintro rfl;exact hj (ZmA hN e1 (I.ok.inj _ _ _ e hc▸hi))
  .by_cases hcc:c'=c
   .subst hcc;exact⟨_,hc'⟩
   .obtain⟨w2,z2⟩:=I.cell y c' e;exact⟨w2,z2.sameBut hs hcc⟩
  .obtain⟨e,n,ne,nf,d⟩:=I.pin p hp;refine⟨(hs.2 p.1 ?_).trans e,n,ne,nf,d⟩;intro q;rw[q,hoc]at e;have q':oc=p.2:=Y1 e;exact d w' (by rw[←q'];exact AbB)
theorem Zm4{M:Model}{A:bU}{i:Nat}{x:aj}{v:V}{u:Yh}{Q:Unit->Yk->Prop}(I:Inv X pins σ H s)(hN:X.N.Nodup)(hi:X.N[i]?=Ya x)(hx:Loc X.env.scope x)(r:RelV v u)(h:∀s',Inv X pins (σ.set i (Ya v)) H s'->Q () s')(hf:X.fn x=true\/X.env.scope.names.lookup x=Ya .local:=by first|exact .inl rfl|exact .inr rfl|assumption):ao M A (storeName X.env x u) Q E s:=SQ I hN hi hx r (λs' I' _=>h s' I') hf
theorem Inv.call'{s':Yk}(I:Inv X pins σ H s)(ho:s'.os=s.os)(u:Un (frs X.stack) ch H H' s.heap s'.heap)(hok:ig X.prog X.w H' s'.heap)(hg:uE s'.gens)(hch:∀b∈ch,(b∈X.ex\/X.s₀.heap.objs.size<=b)/\b≠X.env.locals/\(∀x c,X.env.cells.lookup x=Ya c->c≠b)/\∀p∈X.pn++pins,p.1≠b):Inv X pins σ H' s':=by obtain⟨h',g',d',t',o'⟩:=s';have e:o'=s.os:=ho;subst e;exact I.call (g':=g') (t':=t') (d':=d') u hok hg hch
end
noncomputable abbrev XK:=Yh->Option Y2->Hp->Prop
noncomputable abbrev St:=List (Option V)
noncomputable abbrev VK:=V->Hp->Prop
noncomputable abbrev TE:=St->Hp->VK->Prop
noncomputable abbrev TT:=St->Hp->(Bool->Hp->Prop)->Prop
noncomputable abbrev TA:=St->Hp->(List V->Hp->Prop)->Prop
structure Ends where
 nx:St->Hp->Prop
 rt:VK
 bk:St->Hp->Prop:=λ_ _=>False
 ct:St->Hp->Prop:=λ_ _=>False
noncomputable abbrev TS:=Ends->St->Hp->Prop
inductive EP(X:Cx)(pins:List (Y2×aO))(σ:St)(Q:VK)(u:Yh)(s':Yk):Prop where
 |mk (v:V) (H':Hp) (I:Inv X pins σ H' s') (r:RelV v u) (q:Q v H'):EP X pins σ Q u s'
inductive TP(X:Cx)(pins:List (Y2×aO))(σ:St)(Q:Bool->Hp->Prop)(b:Bool)(s':Yk):Prop where
 |mk (H':Hp) (I:Inv X pins σ H' s') (q:Q b H'):TP X pins σ Q b s'
inductive AP(X:Cx)(pins:List (Y2×aO))(σ:St)(Q:List V->Hp->Prop)(us:List Yh)(s':Yk):Prop where
 |mk (vs:List V) (H':Hp) (I:Inv X pins σ H' s') (r:Vals vs us) (q:Q vs H'):AP X pins σ Q us s'
def SP(X:Cx)(pins:List (Y2×aO))(D:Ends)(f:Flow)(s':Yk):Prop:=
 match f with
 | .next=>∃σ' H',Inv X pins σ' H' s'/\D.nx σ' H'|.brk=>∃σ' H',Inv X pins σ' H' s'/\D.bk σ' H'|.cont=>∃σ' H',Inv X pins σ' H' s'/\D.ct σ' H'|.ret u=>∃v σ' H',Inv X pins σ' H' s'/\RelV v u/\D.rt v H'
def PE(X:Cx)(e:Expr)(t:TE):Prop:=∀(pins:List (Y2×aO)) (s:Yk) (σ:St) (H:Hp) (Q:VK),Inv X pins σ H s->t σ H Q->ao (aB X.prog X.w) X.A (aN e X.env) (EP X pins σ Q) X.xe s
def PT(X:Cx)(e:Expr)(t:TT):Prop:=∀(pins:List (Y2×aO)) (s:Yk) (σ:St) (H:Hp) (Q:Bool->Hp->Prop),Inv X pins σ H s->t σ H Q->ao (aB X.prog X.w) X.A (isTrue e X.env (aN e X.env)) (TP X pins σ Q) X.xe s
def PW(X:Cx)(e:Expr)(t:TT):Prop:=∀(whole:pY Yh) (pins:List (Y2×aO)) (s:Yk) (σ:St) (H:Hp) (Q:Bool->Hp->Prop),Inv X pins σ H s->t σ H Q->ao (aB X.prog X.w) X.A (isTrue e X.env whole) (TP X pins σ Q) X.xe s
theorem PW.pt{X:Cx}{e:Expr}{t:TT}(h:PW X e t):PT X e t:=h _
def PA(X:Cx)(es:List Expr)(t:TA):Prop:=∀(pos:aU) (pins:List (Y2×aO)) (s:Yk) (σ:St) (H:Hp) (Q:List V->Hp->Prop),Inv X pins σ H s->t σ H Q->ao (aB X.prog X.w) X.A (J1 (cL pos (Yy es X.env))) (AP X pins σ Q) X.xe s
def PS(X:Cx)(st:Yd0)(t:TS):Prop:=∀(pins:List (Y2×aO)) (s:Yk) (σ:St) (H:Hp) (D:Ends),Inv X pins σ H s->t D σ H->ao (aB X.prog X.w) X.A (exec st X.env) (SP X pins D) X.xe s
def kJ(X:Cx)(st:List Yd0)(t:TS):Prop:=∀(pins:List (Y2×aO)) (s:Yk) (σ:St) (H:Hp) (D:Ends),Inv X pins σ H s->t D σ H->ao (aB X.prog X.w) X.A (execs st X.env) (SP X pins D) X.xe s
theorem aK{α:Type}{t:pY α}{Q Q':α->Yk->Prop}{M:Model}{A:bU}{s:Yk}(h:ao M A t Q E s)(hQ:∀a s,Q a s->Q' a s):ao M A t Q' E s:=j4 h hQ λ_ _ x=>x
end L2
namespace L2
open PySem PySem.Spec PyProof.Rows
variable{x:aj}
section
variable {X:Cx}
def ZzN(i:Nat):TE:=λσ H Q=>∃v,σ[i]?=Ya (Ya v)/\Q v H
def tC(v:V):TE:=λ_ H Q=>Q v H
theorem ZvS{i:Nat}{pos:aU}(hN:X.N[i]?=Ya x)(hv:KZ X.env.scope x)(hd:(x==("__debug__":aj))=false:=by decide)(hcd:(x==("__classdict__":aj))=false:=by decide):PE X (.Name x pos) (ZzN i):=by
 intro pins s σ H Q I h;obtain⟨v,e,h⟩:=h;obtain⟨m,hn,hl⟩:=I.loc;obtain⟨u,r,l⟩:=hl i x v hN e hv;have fin:EP X pins σ Q u s:=⟨v,H,I,r,h⟩;rcases l with⟨hk,hm⟩|⟨hk,c,hc,hcell⟩
 .exact Q9 (wpAny_loadName_local I.ok.kind hk hn hm fin) hd
 .rcases hk with hk|hk
  .exact Q9 (wpAny_loadName_cell I.ok.kind hk hc hcell fin) hd
  .exact Q9 (wpAny_loadName_free I.ok.kind hk hc hcell fin hcd) hd
theorem SX{i j pos}:PE X (.Constant (.int i) j pos) (tC (.int i)):=λ_ _ _ H _ I h=>wpAny_Constant_int ⟨.int i,H,I.tok _,⟨_,rfl⟩,h⟩
theorem Zyi{b j pos}:PE X (.Constant (.bool b) j pos) (tC (.bl b)):=λ_ _ _ H _ I h=>Constant_bool ⟨.bl b,H,I,rfl,h⟩
theorem Zwp{j pos}:PE X (.Constant .none j pos) (tC .non):=λ_ _ _ H _ I h=>Constant_none ⟨.non,H,I,rfl,h⟩
theorem Zv7{x j pos}:PE X (.Constant (.str x) j pos) (tC (.str x)):=λ_ _ _ H _ I h=>Calls.Constant_str ⟨.str x,H,I.tok _,⟨_,rfl⟩,h⟩
def Gl(X:Cx)(x:aj):Prop:=X.env.kindOf x=Ya .globalImplicit
theorem S_{E:Yh->Yk->Prop}{pins:List (Y2×aO)}{s:Yk}{σ:St}{H:Hp}{u:Yh}{pos:aU}{Q:Yh->Yk->Prop}(I:Inv X pins σ H s)(hg:Gl X x)(hm:X.mg x=Ya u)(h:Q u s)(hd:(x==("__debug__":aj))=false:=by decide):ao (aB X.prog X.w) X.A (aN (.Name x pos) X.env) Q E s:=Ygi I.ok.kind hg (Calls.loadGlobal_global (by rw[I.ok.glob];exact I.mod.glob.keeps I.bk) hm h) hd
theorem yG{E:Yh->Yk->Prop}{pins:List (Y2×aO)}{s:Yk}{σ:St}{H:Hp}{u:Yh}{pos:aU}{Q:Yh->Yk->Prop}(I:Inv X pins σ H s)(hg:Gl X x)(hm:X.mg x=Yl)(hv:kI x=Ya u)(h:Q u s)(hn:x≠ "__name__":=by decide)(hd:(x==("__debug__":aj))=false:=by decide):ao (aB X.prog X.w) X.A (aN (.Name x pos) X.env) Q E s:=by obtain⟨mb,h1,h2⟩:=I.mod.blt;exact Ygi I.ok.kind hg (Calls.loadGlobal_builtin (by rw[I.ok.glob];exact I.mod.glob.keeps I.bk) hm (by rw[I.ok.blt];exact h1.keeps I.bk) ((h2 x hn).trans hv) h) hd
theorem BK{v:V}{u:Yh}{pos:aU}(hg:Gl X x)(hm:X.mg x=Ya u)(r:RelV v u)(hd:(x==("__debug__":aj))=false:=by decide):PE X (.Name x pos) (tC v):=λ_ _ _ H _ I h=>S_ I hg hm ⟨v,H,I,r,h⟩ hd
theorem Tc{v:V}{u:Yh}{pos:aU}(hg:Gl X x)(hm:X.mg x=Yl)(hv:kI x=Ya u)(r:RelV v u)(hn:x≠ "__name__":=by decide)(hd:(x==("__debug__":aj))=false:=by decide):PE X (.Name x pos) (tC v):=λ_ _ _ H _ I h=>yG I hg hm hv ⟨v,H,I,r,h⟩ hn hd
variable {a b:Expr} {ta tb:TE} {pos:aU}
def tB(t:TE):TT:=λσ H Q=>t σ H λx H1=>∃c,x= .bl c/\Q c H1
theorem ZwC{e:Expr}{t:TE}(h:PE X e t)(he:∀whole,isTrue e X.env whole=(do let v ←whole;FZ e.pos;v6 [v] (truthy v)):=by intro _;rfl):PT X e (tB t):=by intro pins s σ H Q I hw;refine isTrue_plain (aK (h pins s σ H _ I hw) λv s1 ak=>?_) (he _);obtain⟨x,H1,I1,r1,q1⟩:=ak;obtain⟨d,rfl,q⟩:=q1;cases r1;exact qM ⟨H1,I1,q⟩
variable {tA K9:TT} {rest:List Expr}
def Zy2(t u:TT):TT:=λσ H Q=>t σ H λc H1=>if c=true then u σ H1 Q else Q false H1
def tOr(t u:TT):TT:=λσ H Q=>t σ H λc H1=>if c=true then Q true H1 else u σ H1 Q
def ZzQ(t:TT):TT:=λσ H Q=>t σ H λc H1=>Q (!c) H1
theorem ZtZ(ha:PT X a tA):PW X (.BoolOp .And [a] pos) tA:=by
 intro wh pins s σ H Q I h;refine isTrue_and (aK (ha pins s σ H Q I h) λc s1 e=>?_);cases c with
 |true=>exact isTrue_and_nil e|false=>exact e
theorem Zv2(ha:PT X a tA):PW X (.BoolOp .Or [a] pos) tA:=by
 intro wh pins s σ H Q I h;refine isTrue_or (aK (ha pins s σ H Q I h) λc s1 e=>?_);cases c with
 |false=>exact isTrue_or_nil e|true=>exact e
theorem Zv1(ha:PT X a tA)(hb:PW X (.BoolOp .And (b::rest) pos) K9):PW X (.BoolOp .And (a::b::rest) pos) (Zy2 tA K9):=by
 intro wh pins s σ H Q I h;refine isTrue_and (aK (ha pins s σ H _ I h) λc s1 ak=>?_);obtain⟨H1,I1,q1⟩:=ak;cases c with
 |true=>exact hb wh pins s1 σ H1 Q I1 q1|false=>exact⟨H1,I1,q1⟩
theorem Zyk(ha:PT X a tA)(hb:PW X (.BoolOp .Or (b::rest) pos) K9):PW X (.BoolOp .Or (a::b::rest) pos) (tOr tA K9):=by
 intro wh pins s σ H Q I h;refine isTrue_or (aK (ha pins s σ H _ I h) λc s1 ak=>?_);obtain⟨H1,I1,q1⟩:=ak;cases c with
 |true=>exact⟨H1,I1,q1⟩|false=>exact hb wh pins s1 σ H1 Q I1 q1
theorem Zvw(ha:PT X a tA):PT X (.UnaryOp .Not a pos) (ZzQ tA):=by intro pins s σ H Q I h;exact isTrue_not (aK (ha pins s σ H (λc H1=>Q (!c) H1) I h) λc s' ⟨H',I',q⟩=>⟨H',I',q⟩)
def ZxJ(ta tb:TE):TE:=λσ H Q=>ta σ H λx H1=>∃c,x= .bl c/\if c=true then tb σ H1 Q else Q (.bl false) H1
def ZzF(ta tb:TE):TE:=λσ H Q=>ta σ H λx H1=>∃c,x= .bl c/\if c=true then Q (.bl true) H1 else tb σ H1 Q
def Zya(ta:TE):TE:=λσ H Q=>ta σ H λx H1=>∃c,x= .bl c/\Q (.bl (!c)) H1
theorem ZvM{op}{t:TE}(h:PE X a t):PE X (.BoolOp op [a] pos) t:=λpins s σ H Q I hw=>BoolOp_one (h pins s σ H Q I hw)
theorem Zu5(ha:PE X a ta)(hb:PE X (.BoolOp .And (b::rest) pos) tb):PE X (.BoolOp .And (a::b::rest) pos) (ZxJ ta tb):=by
 intro pins s σ H Q I h;refine BoolOp_and (aK (ha pins s σ H _ I h) λv s1 ak=>?_);obtain⟨x,H1,I1,r1,q1⟩:=ak;obtain⟨c,rfl,q1⟩:=q1;cases r1;refine qM ?_;cases c with
 |true=>exact hb pins s1 σ H1 Q I1 q1|false=>exact⟨.bl false,H1,I1,rfl,q1⟩
theorem Zyn(ha:PE X a ta)(hb:PE X (.BoolOp .Or (b::rest) pos) tb):PE X (.BoolOp .Or (a::b::rest) pos) (ZzF ta tb):=by
 intro pins s σ H Q I h;refine BoolOp_or (aK (ha pins s σ H _ I h) λv s1 ak=>?_);obtain⟨x,H1,I1,r1,q1⟩:=ak;obtain⟨c,rfl,q1⟩:=q1;cases r1;refine qM ?_;cases c with
 |false=>exact hb pins s1 σ H1 Q I1 q1|true=>exact⟨.bl true,H1,I1,rfl,q1⟩
theorem ZwH(ha:PE X a ta):PE X (.UnaryOp .Not a pos) (Zya ta):=by intro pins s σ H Q I h;refine UnaryOp_ (aK (ha pins s σ H _ I h) λv s1 ak=>?_);obtain⟨x,H1,I1,r1,q1⟩:=ak;obtain⟨c,rfl,q1⟩:=q1;cases r1;exact not_of (qM ⟨.bl (!c),H1,I1,rfl,q1⟩)
def Td(t:TT)(ta tb:TE):TE:=λσ H Q=>t σ H λc H1=>if c=true then ta σ H1 Q else tb σ H1 Q
theorem ZrB{c:Expr}(hc:PT X c tA)(ha:PE X a ta)(hb:PE X b tb):PE X (.IfExp c a b pos) (Td tA ta tb):=by
 intro pins s σ H Q I h;refine wpAny_IfExp (aK (hc pins s σ H _ I h) λd s1 ak=>?_);obtain⟨H1,I1,q1⟩:=ak;cases d with
 |true=>exact ha pins s1 σ H1 Q I1 q1|false=>exact hb pins s1 σ H1 Q I1 q1
end
end L2
namespace L2
open PySem PySem.Spec PyProof.Rows
def bL(K:Yb)(H:Hp)(a:Y2)(xs:List V):Prop:=
 Rd H a (.lst xs)\/
  ∃(o:aO) (its:Array Yh) (n:Nat),K.lookup a=Ya o/\o.cls= .type "list" /\o.dict=Yl/\o.data= .seq its n/\its.size<=bH/\Vals xs its.toList
def cT(K:Yb)(H:Hp)(a:Y2)(xs:List V):Prop:=
 Rd H a (.tup xs)\/
  ∃(o:aO) (its:Array Yh) (n:Nat),K.lookup a=Ya o/\(o.cls= .type "tuple" /\o.dict=Yl)/\o.data= .seq its n/\its.size<=bH/\Vals xs its.toList
noncomputable def ZzX:Yh->Option V
 | .none=>Ya .non|.bool b=>Ya (.bl b)|.int i _=>Ya (.int i)|.str x _=>Ya (.str x)
 | .bytes b _=>Ya (.BJ b)|.float b _=>Ya (.flt b)|.ref a=>Ya (.ref a)|.type n=>Ya (.ty n)
 |_=>Yl
theorem RelV.abs{x:V}{u:Yh}(r:RelV x u):ZzX u=Ya x:=by
 cases x with
 |non=>cases r;rfl|bl _=>cases r;rfl|int _=>obtain⟨t,rfl⟩:=r;rfl|str _=>obtain⟨t,rfl⟩:=r;rfl
 |BJ _=>obtain⟨t,rfl⟩:=r;rfl|flt _=>obtain⟨t,rfl⟩:=r;rfl|ref _=>cases r;rfl|ty _=>cases r;rfl
theorem RelV.inj{x y:V}{u:Yh}(r:RelV x u)(q:RelV y u):x=y:=Y1 (r.abs.symm.trans q.abs)
theorem Vals.inj:∀{xs ys:List V} {us:List Yh},Vals xs us->Vals ys us->xs=ys
 |_,_,_,.nil,.nil=>rfl|_,_,_,.cons r t,.cons r' t'=>by rw[r.inj r',Vals.inj t t']
variable{K:Yb}
section
variable {X:Cx} {pins:List (Y2×aO)} {σ:St} {H:Hp} {s:Yk} {a:Y2} {xs ys:List V}
theorem bL.of(h:H a=Ya (.lst xs)):bL K H a xs:=.inl (.inl h)
theorem cT.of(h:H a=Ya (.tup xs)):cT K H a xs:=.inl (.inl h)
theorem Inv.list(I:Inv X pins σ H s)(h:bL X.K H a xs):∃its:List Yh,Vals xs its/\PlainL s.heap a its.toArray/\xs.length<=bH:=by
 rcases h with h|⟨o,its,n,hk,hc,hd,hs,hz,r⟩
 .obtain⟨z,its,n,r,e⟩:=h.ok I.hok;exact⟨its,r,⟨_,n,e,rfl,rfl,rfl⟩,z⟩
 .refine⟨its.toList,r,⟨o,n,I.fj a o hk,hc,hd,by simpa using hs⟩,?_⟩;have e:=r.length;simp only[Kw]at e;exact lC 2 2199576973345 T1 e hz
theorem Inv.tuple(I:Inv X pins σ H s)(h:cT X.K H a xs):∃its:List Yh,Vals xs its/\IsTup s.heap a its.toArray/\xs.length<=bH:=by
 rcases h with h|⟨o,its,n,hk,hc,hs,hz,r⟩
 .obtain⟨z,its,r,p⟩:=h.ok I.hok;exact⟨its,r,p.tup,z⟩
 .refine⟨its.toList,r,⟨o,I.fj a o hk,hc.1,n,by simpa using hs⟩,?_⟩;have e:=r.length;simp only[Kw]at e;exact lC 2 2199576973345 T1 e hz
theorem Inv.PJ(I:Inv X pins σ H s)(h:bL X.K H a xs)(h':bL X.K H a ys):xs=ys:=by
 obtain⟨its,r,⟨o,n,e,_,_,d⟩,_⟩:=I.list h;obtain⟨its',r',⟨o',n',e',_,_,d'⟩,_⟩:=I.list h';rw[e]at e';cases e';rw[d]at d';injection d' with d1 _;have:its=its':=by simpa using congrArg Bv d1
 subst this;exact r.inj r'
theorem Inv.Abd(I:Inv X pins σ H s)(h:cT X.K H a xs):∃its:List Yh,Vals xs its/\sX s.heap a its.toArray/\xs.length<=bH:=by
 rcases h with h|⟨o,its,n,hk,hc,hs,hz,r⟩
 .obtain⟨z,its,r,p⟩:=h.ok I.hok;exact⟨its,r,p,z⟩
 .refine⟨its.toList,r,⟨o,I.fj a o hk,hc,n,by simpa using hs⟩,?_⟩;have e:=r.length;simp only[Kw]at e;exact lC 2 2199576973345 T1 e hz
theorem Inv.PB(I:Inv X pins σ H s)(h:cT X.K H a xs)(h':cT X.K H a ys):xs=ys:=by
 obtain⟨its,r,⟨o,e,_,n,d⟩,_⟩:=I.tuple h;obtain⟨its',r',⟨o',e',_,n',d'⟩,_⟩:=I.tuple h';rw[e]at e';cases e';rw[d]at d';injection d' with d1 _;have:its=its':=by simpa using congrArg Bv d1
 subst this;exact r.inj r'
end
noncomputable abbrev Cx.wish(X:Cx)(E:Yh->Yk->Prop):Cx:={X with xe:=E}
noncomputable abbrev Cx.yH(X:Cx):Cx:=X.wish λ_ _=>False
theorem Cx.Ok.wish{X:Cx}(ok:X.Ok)(E:Yh->Yk->Prop):(X.wish E).Ok:=⟨ok.mod,ok.kind,ok.glob,ok.blt,ok.above,ok.inj,ok.has,ok.cab,ok.hd,ok.frames,ok.iz,ok.K7,ok.bs,ok.qX,ok.Fi,ok.Ag,ok.o5,ok.wF⟩
theorem Cx.Ok.vK{X:Cx}{E:Yh->Yk->Prop}(ok:(X.wish E).Ok):X.Ok:=⟨ok.mod,ok.kind,ok.glob,ok.blt,ok.above,ok.inj,ok.has,ok.cab,ok.hd,ok.frames,ok.iz,ok.K7,ok.bs,ok.qX,ok.Fi,ok.Ag,ok.o5,ok.wF⟩
section
variable {X:Cx} {pins:List (Y2×aO)} {σ:St} {H:Hp} {s:Yk} {E:Yh->Yk->Prop}
theorem Inv.wish(I:Inv X pins σ H s)(E:Yh->Yk->Prop):Inv (X.wish E) pins σ H s:=⟨I.ok.wish E,I.os,I.bare,I.base,I.loc,I.cell,I.free,I.sG,I.pin,I.hok,I.len⟩
theorem Inv.vK(I:Inv (X.wish E) pins σ H s):Inv X pins σ H s:=⟨I.ok.vK,I.os,I.bare,I.base,I.loc,I.cell,I.free,I.sG,I.pin,I.hok,I.len⟩
theorem SP.vK{D:Ends}{f:Flow}{s':Yk}(h:SP (X.wish E) pins D f s'):SP X pins D f s':=by
 cases f with
 |next=>obtain⟨σ',H',I,q⟩:=h;exact⟨σ',H',I.vK,q⟩|brk=>obtain⟨σ',H',I,q⟩:=h;exact⟨σ',H',I.vK,q⟩|cont=>obtain⟨σ',H',I,q⟩:=h;exact⟨σ',H',I.vK,q⟩|ret u=>obtain⟨v,σ',H',I,r,q⟩:=h;exact⟨v,σ',H',I.vK,r,q⟩
theorem kJ.yH{st:List Yd0}{t:TS}(h:kJ X.yH st t):kJ X st t:=λpins s σ H D I hw=>j4 (h pins s σ H D (I.wish _) hw) (λ_ _ q=>q.vK) λ_ _ z=>jH z
end
section
variable {X:Cx} {st:Yd0} {rest:List Yd0} {t u:TS} {e:Expr} {te:TE} {pos:aU}
def ZxU:TS:=λD σ H=>D.nx σ H
def Zzh(t u:TS):TS:=λD σ H=>t {D with nx:=u D} σ H
theorem Ztg:kJ X [] ZxU:=λ_ _ σ H _ I h=>JQ ⟨σ,H,I,h⟩
theorem ZqM(h1:PS X st t)(h2:kJ X rest u):kJ X (st::rest) (Zzh t u):=by
 intro pins s σ H D I h;refine Z9 (aK (h1 pins s σ H {D with nx:=u D} I h) λf s1 q=>?_);cases f with
 |next=>obtain⟨σ',H',I',q⟩:=q;exact h2 pins s1 σ' H' D I' q|ret v=>exact q|brk=>exact q
 |cont=>exact q
theorem Ztf(h1:PS X st t):kJ X [st] t:=by
 intro pins s σ H D I h;refine Z9 (aK (h1 pins s σ H D I h) λf s1 q=>?_);cases f with
 |next=>exact JQ q|ret v=>exact q|brk=>exact q|cont=>exact q
def Zw8:TS:=λD σ H=>D.bk σ H
theorem Zro:PS X (.Break pos) Zw8:=λ_ _ σ H _ I h=>wpAny_Break ⟨σ,H,I,h⟩
theorem Inv.quiet{pins:List (Y2×aO)}{σ:St}{H:Hp}{s:Yk}(I:Inv X pins σ H s):interactive X.env=false:=by simp[interactive,I.ok.kind]
def Zyg(te:TE):TS:=λD σ H=>te σ H λ_ H1=>D.nx σ H1
theorem ZtU(he:PE X e te)(hs:v5 e Yl pos.line X.env=pure false:=by rfl):PS X (.Expr e pos) (Zyg te):=by intro pins s σ H D I h;exact wpAny_Expr_any (aK (he pins s σ H _ I h) λv s1 ⟨x,H1,I1,r1,q1⟩=>⟨σ,H1,I1,q1⟩) I.quiet hs
def Zzy(te:TE):TS:=λD σ H=>te σ H D.rt
theorem Zvz(he:PE X e te):PS X (.Return (Ya e) pos) (Zzy te):=by intro pins s σ H D I h;exact wpAny_Return_some (aK (he pins s σ H _ I h) λv s1 ⟨x,H1,I1,r1,q1⟩=>⟨x,σ,H1,I1,r1,q1⟩)
def ZzT(c:TT)(t u:TS):TS:=λD σ H=>c σ H λb H1=>if b=true then t D σ H1 else u D σ H1
theorem ZyA{c:Expr}{a b:List Yd0}{tc:TT}(hc:PT X c tc)(ha:kJ X a t)(hb:kJ X b u):PS X (.If c a b pos) (ZzT tc t u):=by
 intro pins s σ H D I h;refine wpAny_If (aK (hc pins s σ H _ I h) λd s1 ak=>?_);obtain⟨H1,I1,q1⟩:=ak;cases d with
 |true=>exact ha pins s1 σ H1 D I1 q1|false=>exact hb pins s1 σ H1 D I1 q1
end
noncomputable abbrev TG:=V->St->Hp->(St->Hp->Prop)->Prop
noncomputable abbrev qY:=List V->St->Hp->(St->Hp->Prop)->Prop
def PG(X:Cx)(target:Expr)(t:TG):Prop:=
 ∀(pins:List (Y2×aO)) (s:Yk) (σ:St) (H:Hp) (v:V) (u:Yh) (Q:St->Hp->Prop),Inv X pins σ H s->RelV v u->t v σ H Q ->
  ao (aB X.prog X.w) X.A (jF target X.env u) (λ_ s'=>∃σ' H',Inv X pins σ' H' s'/\Q σ' H') X.xe s
def qZ(X:Cx)(ts:List Expr)(t:qY):Prop:=
 ∀(pins:List (Y2×aO)) (s:Yk) (σ:St) (H:Hp) (vs:List V) (us:List Yh) (Q:St->Hp->Prop),Inv X pins σ H s->Vals vs us->t vs σ H Q ->
  ao (aB X.prog X.w) X.A (assignInOrder ((jE ts X.env).map (·.2)) us) (λ_ s'=>∃σ' H',Inv X pins σ' H' s'/\Q σ' H') X.xe s
noncomputable abbrev Te:=V->V->V->Hp->(Hp->Prop)->Prop
def Zyq(X:Cx)(t:Te):Prop:=
 ∀(pins:List (Y2×aO)) (s:Yk) (σ:St) (H:Hp) (o i v:V) (ov iv u:Yh) (Q:Hp->Prop),Inv X pins σ H s->RelV o ov->RelV i iv->RelV v u->t o i v H Q ->
  ao (aB X.prog X.w) X.A (setItem ov iv u) (λ_ s'=>∃H',Inv X pins σ H' s'/\Q H') X.xe s
variable{tg:Expr}
section
variable {X:Cx} {pos:aU}
def ZuA(i:Nat):TG:=λv σ H Q=>Q (σ.set i (Ya v)) H
theorem ZpP{i:Nat}{x:aj}(hN:X.N.Nodup)(hi:X.N[i]?=Ya x)(hx:Loc X.env.scope x)(hf:X.fn x=true\/X.env.scope.names.lookup x=Ya .local:=by first|exact .inl rfl|exact .inr rfl|assumption):PG X (.Name x pos) (ZuA i):=by intro pins s σ H v u Q I r h;exact QQ (Zm4 I hN hi hx r (λs' I'=>⟨_,H,I',h⟩) hf)
def Zzt:qY:=λvs σ H Q=>vs=[]/\Q σ H
def Zx8(t:TG)(u:qY):qY:=λvs σ H Q=>∃v r,vs=v::r/\t v σ H λσ' H'=>u r σ' H' Q
theorem Zt5:qZ X [] Zzt:=by intro pins s σ H vs us Q I r h;obtain⟨e,h⟩:=h;subst e;cases r;exact assignInOrder_nil ⟨σ,H,I,h⟩
theorem ZsQ{e:Expr}{es:List Expr}{t:TG}{u:qY}(h1:PG X e t)(h2:qZ X es u)(hs:(jE (e::es) X.env).map (·.2)=jF e X.env::(jE es X.env).map (·.2):=by rfl):qZ X (e::es) (Zx8 t u):=by
 intro pins s σ H vs us Q I r h;obtain⟨v,vr,e1,h⟩:=h;subst e1;cases r with
 |cons r rr=>rw[hs];refine assignInOrder_cons (aK (h1 pins s σ H _ _ _ I r h) λ_ s1 ak=>?_);obtain⟨σ1,H1,I1,q1⟩:=ak;exact h2 pins s1 σ1 H1 _ _ Q I1 rr q1
def ZzI(K:Yb)(n:Nat)(t:qY):TG:=λv σ H Q=>∃a xs,v= .ref a/\cT K H a xs/\xs.length=n/\t xs σ H Q
theorem ZwA{es:List Expr}{k:Nat}{t:qY}{n:Nat}(hc:X.calm=true)(h:qZ X es t)(hn:(jE es X.env).length=n:=by rfl)(hst:(jE es X.env).findIdx? (·.1)=Yl:=by rfl):PG X (.Tuple es k pos) (ZzI X.K n t):=by intro pins s σ H v u Q I r hw;obtain⟨a,xs,e1,hq,hl,hw⟩:=hw;subst e1;cases r;obtain⟨its,rv,ht,hz⟩:=I.tuple hq;refine assign_Tuple_tuple (I.ok.hd hc) ht (by simp[hn,←hl,rv.length]) hst λh' hx=>?_;have I1:Inv X pins σ H {s with heap:=h'}:=I.kept (t':=s.toks) λb o e=>hx b o (dR (Y6 e)) e;exact h pins _ σ H xs _ Q I1 (by simpa using rv) hw
def ZzM(to ti:TE)(t:Te):TG:=λv σ H Q=>to σ H λo H1=>ti σ H1 λi H2=>t o i v H2 λH3=>Q σ H3
theorem Zu0{o i:Expr}{to ti:TE}{t:Te}(ho:PE X o to)(hi:PE X i ti)(hs:Zyq X t)(ha:∀v,jF (.Subscript o i pos) X.env v=(do
   let ov ←v6 [v] (aN o X.env)
   let iv ←v6 [v,ov] (aN i X.env)
   FZ pos
   v6 [v,ov,iv] (setItem ov iv v)
   release [v,ov,iv] []):=by intro _;rfl):PG X (.Subscript o i pos) (ZzM to ti t):=by
 intro pins s σ H v u Q I r h;rw[ha];refine Yg (iy (aK (ho pins s σ H _ I h) λov s1 ak=>?_));obtain⟨x,H1,I1,r1,q1⟩:=ak;refine Yg (iy (aK (hi pins s1 σ H1 _ I1 q1) λiv s2 ak=>?_));obtain⟨y,H2,I2,r2,q2⟩:=ak;refine Yg (vZ (Yg (iy (aK (hs pins s2 σ H2 x y v ov iv u _ I2 r1 r2 r q2) λ_ s3 ak=>?_))));obtain⟨H3,I3,q3⟩:=ak;exact wpAny_release ⟨σ,H3,I3,q3⟩
def ZxI(te:TE)(g:TG):TS:=λD σ H=>te σ H λx H1=>g x σ H1 D.nx
theorem ZrA{e:Expr}{te:TE}{g:TG}(he:PE X e te)(hg:PG X tg g)(hs:QX [tg] e pos.line X.env=pure false:=by rfl)(hw:QZ [tg] e X.env=pure Yl:=by rfl)(h1:(jE [tg] X.env).map (·.2)=[jF tg X.env]:=by rfl):PS X (.Assign [tg] e pos) (ZxI te g):=by intro pins s σ H D I h;refine wpAny_Assign_stores (aK (he pins s σ H _ I h) λv s1 ak=>?_) hs hw;obtain⟨x,H1,I1,r1,q1⟩:=ak;rw[h1];exact aK (hg pins s1 σ H1 x v _ I1 r1 q1) λ_ s2 q=>q
theorem ZwS{i:Nat}{x:aj}{e:Expr}{te:TE}{pos':aU}(hN:X.N.Nodup)(hi:X.N[i]?=Ya x)(hx:Loc X.env.scope x)(he:PE X e te)(hs:v5 e (Ya (.Name x pos')) pos.line X.env=pure false:=by rfl)(hf:X.fn x=true\/X.env.scope.names.lookup x=Ya .local:=by first|exact .inl rfl|exact .inr rfl|assumption):
  PS X (.Assign [.Name x pos'] e pos) (ZxI te (ZuA i)):=by
 intro pins s σ H D I h;refine wpAny_Assign_Name (aK (he pins s σ H _ I h) λv s1 ak=>?_) hs;obtain⟨y,H1,I1,r1,q1⟩:=ak;exact Zm4 I1 hN hi hx r1 (λs2 I2=>⟨_,H1,I2,q1⟩) hf
end
section
variable {X:Cx} {pos:aU}
def ZvH(c:TT)(tb:TS):TS:=λD σ H=>∃W:Nat->St->Hp->Prop,(∃m,W m σ H)/\∀m σ H,W m σ H ->
 c σ H λb H1=>if b=true then∃N:St->Hp->Prop,(∀σ' H',N σ' H'->∃m',m'<m/\W m' σ' H')/\tb {D with nx:=N,ct:=N,bk:=D.nx} σ H1 else D.nx σ H1
theorem ZsE{c:Expr}{body:List Yd0}{tc:TT}{tb:TS}(hp:PassesOwn (aB X.prog X.w) X.A X.env X.xe)(hc:PT X c tc)(hb:kJ X body tb):PS X (.While c body [] pos) (ZvH tc tb):=by
 intro pins s σ H D I h;obtain⟨W,⟨m0,w0⟩,turn⟩:=h;refine wpAny_While (codeAny_whileLoop (λn s'=>∃σ' H',Inv X pins σ' H' s'/\W n σ' H') ?_ m0 ⟨σ,H,I,w0⟩);rintro n s1 ⟨σ1,H1,I1,w1⟩;refine ye hp (aK (hc pins s1 σ1 H1 _ I1 (turn n σ1 H1 w1)) λb s2 ak=>?_);obtain⟨H2,I2,q2⟩:=ak;cases b with
 | true=>
  obtain⟨N,hN,q2⟩:=q2;rw[if_pos rfl];refine ye hp (aK (hb pins s2 σ1 H2 _ I2 q2) λf s3 q3=>?_);cases f with
  |next=>obtain⟨σ3,H3,I3,n3⟩:=q3;obtain⟨m',hm,w3⟩:=hN σ3 H3 n3;exact⟨m',hm,σ3,H3,I3,w3⟩|cont=>obtain⟨σ3,H3,I3,n3⟩:=q3;obtain⟨m',hm,w3⟩:=hN σ3 H3 n3;exact⟨m',hm,σ3,H3,I3,w3⟩|brk=>exact q3|ret v=>exact q3
 |false=>rw[if_neg mD];exact JQ ⟨σ1,H2,I2,q2⟩
end
structure It where
 go:Nat->Hp->Prop
 K_:Nat->Hp->V->Hp->Prop
 stop:Nat->Hp->Prop
def iR(X:Cx)(pins:List (Y2×aO))(H:Hp)(b:Y2):Prop:=H b=Yl/\b≠X.env.locals/\b∉X.fs/\(b∈X.ex\/X.s₀.heap.objs.size<=b)/\(∀x c,X.env.cells.lookup x=Ya c->c≠b)/\∀p∈X.pn++pins,p.1≠b
theorem Inv.vL{X:Cx}{pins:List (Y2×aO)}{σ:St}{H H':Hp}{s:Yk}{b:Y2}(I:Inv X pins σ H s)(hb:s.heap.objs.size<=b)(hn:H' b=Yl):iR X pins H' b:=by
 refine⟨hn,Gd (Y7 I.lt hb),I.AbA hb,.inr (Yi I.sz hb),λx c e z=>?_,λp hp z=>?_⟩
 .obtain⟨v,q⟩:=I.cell x c e;exact absurd (Y7 q.lt (by rw[z];exact hb)) (wu _)
 .exact absurd (Y7 (Y6 (I.pin p hp).1) (by rw[z];exact hb)) (wu _)
structure Turn(P:Yae)(w:bh)(K:Yb)(tg:Expr)(J:It)(fp:List Y2)(it:Y2)(tn:Nat->aR->Prop):Prop where
 mem:it∈fp
 obj:∀i h,tn i h->∀b∈fp,∃o,h.get? b=Ya o/\∀v,o.data≠ .cell v
 keep:∀i h h',tn i h->(∀b∈fp,∀o,h.get? b=Ya o->h'.get? b=Ya o)->tn i h'
 item:∀(X:Cx),X.prog=P->X.w=w->X.K=K->X.calm=true->∀(i:Nat) (pins:List (Y2×aO)) (s:Yk) (σ:St) (H:Hp) (E:Yh->Yk->Prop),Inv X pins σ H s->(∀b∈fp,iR X pins H b)->tn i s.heap->J.go i H ->
  ao (aB P w) X.A (ux (.ref it)) (λr s1=>∃u,r=Ya u/\
   ao (aB P w) X.A (FJ tg (.ref it) u) (λ_ s2=>∃x H',Inv X pins σ H' s2/\RelV x u/\J.K_ i H x H'/\tn (i+1) s2.heap/\∀b∈fp,H' b=Yl) E s1) E s
 done:∀(X:Cx),X.prog=P->X.w=w->X.K=K->X.calm=true->∀(i:Nat) (pins:List (Y2×aO)) (s:Yk) (σ:St) (H:Hp) (E:Yh->Yk->Prop),Inv X pins σ H s->(∀b∈fp,iR X pins H b)->tn i s.heap->J.stop i H ->
  ao (aB P w) X.A (ux (.ref it)) (λr s1=>r=Yl/\Inv X pins σ H s1) E s
 self:∀(A:bU) (i:Nat) (s:Yk) (Q:Yh->Yk->Prop) (E:Yh->Yk->Prop),tn i s.heap->Q (.ref it) s->ao (aB P w) A (Bf (.ref it)) Q E s
noncomputable abbrev TI:=St->Hp->(It->Hp->Prop)->Prop
def PIE(X:Cx)(pins:List (Y2×aO))(σ:St)(tg:Expr)(R:It->Hp->Prop)(itv:Yh)(s2:Yk):Prop:=∃(it:Y2) (fp:List Y2) (tn:Nat->aR->Prop) (J:It) (H':Hp),itv= .ref it/\Inv X pins σ H' s2/\Turn X.prog X.w X.K tg J fp it tn/\tn 0 s2.heap/\(∀b∈fp,iR X pins H' b)/\R J H'
def PI(X:Cx)(tg iter:Expr)(wi:TI):Prop:=
 ∀(pins:List (Y2×aO)) (s:Yk) (σ:St) (H:Hp) (R:It->Hp->Prop),Inv X pins σ H s->wi σ H R ->
  ao (aB X.prog X.w) X.A (aN iter X.env) (λv s1=>ao (aB X.prog X.w) X.A (Bf v) (PIE X pins σ tg R) X.xe s1) X.xe s
theorem La{M:Model}{A:bU}{E:Yh->Yk->Prop}{s:Yk}{it:Y2}{u:Yh}{o:aO}{n:String}{vs:Array Yh}{Q:Unit->Yk->Prop}(ho:s.heap.get? it=Ya o)(hc:o.cls= .type n)(hd:o.data= .fields vs)(hn:["enumerate","zip","dict_itemiterator","dict_reverseitemiterator","odict_iterator","itertools.zip_longest","itertools.pairwise"].contains n=false)(hQ:Q () s):ao M A (FJ tg (.ref it) u) Q E s:=by
 unfold FJ;cases tg<;>first
  |exact Yv hQ
  | (cases u<;>first
    |exact Yv hQ
    | (refine Yg (wpAny_load ho ?_)
       rw[hc,hd];show ao M A (if(["enumerate","zip","dict_itemiterator","dict_reverseitemiterator","odict_iterator","itertools.zip_longest","itertools.pairwise"].contains n&&vs[0]?==Ya (v_ _))=true then _ else _) Q E s;rw[if_neg (by intro h;rw[hn,Rp]at h;cases h)];exact Yv hQ))
noncomputable def Itl(K:Yb)(a:Y2):It:=⟨λi H=>∃xs x,bL K H a xs/\xs[i]?=Ya x,λi H x H'=>H'=H/\∀xs,bL K H a xs->xs[i]?=Ya x,λi H=>∃xs,bL K H a xs/\xs.length<=i⟩
noncomputable def Itt(K:Yb)(a:Y2):It:=⟨λi H=>∃xs x,cT K H a xs/\xs[i]?=Ya x,λi H x H'=>H'=H/\∀xs,cT K H a xs->xs[i]?=Ya x,λi H=>∃xs,cT K H a xs/\xs.length<=i⟩
noncomputable def Lb(lo:Int)(n:Nat):It:=⟨λi _=>i<n,λi H x H'=>H'=H/\x= .int (lo+i),λi _=>n<=i⟩
theorem Zqd{P:Yae}{w:bh}(a it:Y2):Turn P w K tg (Itl K a) [it] it (λi h=>h.IsListIter it a i)where
 mem:=by simp
 obj:=λi h st b hb=>by
  have e:b=it:=by simpa using hb
  subst e;obtain⟨o,e,c,d⟩:=st;exact⟨o,e,λv z=>by rw[d]at z;cases z⟩
 keep:=λi h h' st k=>st.at λo e=>k it (by simp) o e
 item:=by intro X hP hw hK hc i pins s σ H E I hf st hg;subst hP hw hK;obtain⟨xs,x,hq,hx⟩:=hg;obtain⟨its,rv,p,hz⟩:=I.list hq;obtain⟨u,hu,ru⟩:=rv.get hx;obtain⟨f0,f1,f2,f3,f4,f5⟩:=hf it (by simp);refine ZZ st p.isList (x:=u) (by simpa using hu) λh' st' sb=>?_;have I1:Inv X pins σ H {s with heap:=h'}:=I.turned (t':=s.toks) (λb o hb e=>(sb.2 b hb).trans e) f0 f1 f3 f4 f5;obtain⟨o,e,c,d⟩:=id st';exact⟨u,rfl,La (s:={s with heap:=h'}) e c d (by decide) ⟨x,H,I1,ru,⟨rfl,λys hy=>by rw[I.PJ hy hq];exact hx⟩,st',λb hb=>(hf b hb).1⟩⟩
 done:=by intro X hP hw hK hc i pins s σ H E I hf st hg;subst hP hw hK;obtain⟨xs,hq,hx⟩:=hg;obtain⟨its,rv,p,hz⟩:=I.list hq;obtain⟨f0,f1,f2,f3,f4,f5⟩:=hf it (by simp);have hl:=rv.length;exact Z1 (I.ok.hd hc) st p.isList (by simp;exact lC 2 2268279672881 T1 hl hx) λh' eb=>⟨rfl,I.turned (t':=s.toks) (λb o hb e=>eb b o hb e) f0 f1 f3 f4 f5⟩
 self:=λ_ _ _ _ _ st h=>wpAny_pyIter_listiter st h
theorem Zoo{P:Yae}{w:bh}(a it:Y2):Turn P w K tg (Itt K a) [it] it (λi h=>h.IsTupleIter it a i)where
 mem:=by simp
 obj:=λi h st b hb=>by
  have e:b=it:=by simpa using hb
  subst e;obtain⟨o,e,c,d⟩:=st;exact⟨o,e,λv z=>by rw[d]at z;cases z⟩
 keep:=λi h h' st k=>st.at λo e=>k it (by simp) o e
 item:=by intro X hP hw hK hc i pins s σ H E I hf st hg;subst hP hw hK;obtain⟨xs,x,hq,hx⟩:=hg;obtain⟨its,rv,p,hz⟩:=I.tuple hq;obtain⟨u,hu,ru⟩:=rv.get hx;obtain⟨f0,f1,f2,f3,f4,f5⟩:=hf it (by simp);refine wpAny_pyNext_tuple_item st (show s.heap.IsTuple a its.toArray from p) (x:=u) (by simpa using hu) λh' st' sb=>?_;have I1:Inv X pins σ H {s with heap:=h'}:=I.turned (t':=s.toks) (λb o hb e=>(sb.2 b hb).trans e) f0 f1 f3 f4 f5;obtain⟨o,e,c,d⟩:=id st';exact⟨u,rfl,La (s:={s with heap:=h'}) e c d (by decide) ⟨x,H,I1,ru,⟨rfl,λys hy=>by rw[I.PB hy hq];exact hx⟩,st',λb hb=>(hf b hb).1⟩⟩
 done:=by intro X hP hw hK hc i pins s σ H E I hf st hg;subst hP hw hK;obtain⟨xs,hq,hx⟩:=hg;obtain⟨its,rv,p,hz⟩:=I.tuple hq;obtain⟨f0,f1,f2,f3,f4,f5⟩:=hf it (by simp);have hl:=rv.length;exact wpAny_pyNext_tuple_end (I.ok.hd hc) st (show s.heap.IsTuple a its.toArray from p) (by simp;exact lC 2 2268279672881 T1 hl hx) λh' eb=>⟨rfl,I.turned (t':=s.toks) (λb o hb e=>eb b o hb e) f0 f1 f3 f4 f5⟩
 self:=λ_ _ _ _ _ st h=>wpAny_pyIter_tupleiter st h
theorem ZnX{P:Yae}{w:bh}(it:Y2)(lo:Int)(n:Nat):Turn P w K tg (Lb lo n) [it] it (λi h=>IsRangeIter h it (lo+(i:Nat)*1) ((n:Int)-(i:Nat)) 1)where
 mem:=by simp
 obj:=λi h st b hb=>by
  have e:b=it:=by simpa using hb
  subst e;exact⟨_,st,λv z=>by have z':Data.fields _=Data.cell v:=z;cases z'⟩
 keep:=λi h h' st k=>k it (by simp) _ st
 item:=by intro X hP hw hK hc i pins s σ H E I hf st hg;subst hP hw hK;obtain⟨f0,f1,f2,f3,f4,f5⟩:=hf it (by simp);have W:=Walks.range (prog:=X.prog) (w:=X.w) (I.ok.hd hc) it lo 1 n;refine W.item i s _ _ hg st λv h' tk hv st' kk=>?_;obtain⟨t,rfl⟩:=hv;have I1:Inv X pins σ H {s with heap:=h',toks:=tk}:=I.turned (λb o hb e=>kk b o (by simpa using hb) e) f0 f1 f3 f4 f5;refine⟨_,rfl,La (s:={s with heap:=h',toks:=tk}) (n:="range_iterator") st' rfl rfl (by decide) ⟨.int (lo+i),H,I1,⟨t,?_⟩,⟨rfl,rfl⟩,st',λb hb=>(hf b hb).1⟩⟩;rw[Int.mul_one]
 done:=by intro X hP hw hK hc i pins s σ H E I hf st hg;subst hP hw hK;obtain⟨f0,f1,f2,f3,f4,f5⟩:=hf it (by simp);exact wpAny_pyNext_range_end (I.ok.hd hc) st (by have:n<=i:=hg;exact iN [_,_] [] 1 0xe1808f81001 T1 this) λh' eb=>⟨rfl,I.turned (t':=s.toks) (λb o hb e=>eb b o hb e) f0 f1 f3 f4 f5⟩
 self:=λ_ _ _ _ _ st h=>wpAny_pyIter_rangeiter st h
end L2
namespace L2
open PySem PySem.Spec PyProof.Rows
variable{fp:List Y2}{pins:List (Y2×aO)}
section
variable {X:Cx} {tg:Expr}
def Zx5(K:Yb)(tl:TE):TI:=λσ H R=>tl σ H λx H1=>∃a,x= .ref a/\(∃xs,bL K H1 a xs)/\R (Itl K a) H1
def ZzW(K:Yb)(tl:TE):TI:=λσ H R=>tl σ H λx H1=>∃a,x= .ref a/\(∃xs,cT K H1 a xs)/\R (Itt K a) H1
theorem ZtP{l:Expr}{tl:TE}(hl:PE X l tl):PI X tg l (Zx5 X.K tl):=by
 intro pins s σ H R I h;refine aK (hl pins s σ H _ I h) λv s1 ak=>?_;obtain⟨x,H1,I1,r1,q1⟩:=ak;obtain⟨a,e,⟨xs,hq⟩,q⟩:=q1;subst e;cases r1;obtain⟨its,rv,p,hz⟩:=I1.list hq;refine vX p.isList ?_;refine⟨s1.heap.objs.size,[s1.heap.objs.size],_,_,H1,rfl,I1.kept (t':=s1.toks) λb o e=>Yn _ e,Zqd a _,⟨_,Y4 _ rfl,rfl,rfl⟩,λb hb=>?_,q⟩;have e:b=s1.heap.objs.size:=by simpa using hb
 subst e;exact I1.vL (Yt _) (I1.hok.fresh (Yt _))
theorem ZvR{l:Expr}{tl:TE}(hl:PE X l tl):PI X tg l (ZzW X.K tl):=by
 intro pins s σ H R I h;refine aK (hl pins s σ H _ I h) λv s1 ak=>?_;obtain⟨x,H1,I1,r1,q1⟩:=ak;obtain⟨a,e,⟨xs,hq⟩,q⟩:=q1;subst e;cases r1;obtain⟨its,rv,p,hz⟩:=I1.tuple hq;refine JP (show s1.heap.IsTuple a its.toArray from p) ?_;refine⟨s1.heap.objs.size,[s1.heap.objs.size],_,_,H1,rfl,I1.kept (t':=s1.toks) λb o e=>Yn _ e,Zoo a _,⟨_,Y4 _ rfl,rfl,rfl⟩,λb hb=>?_,q⟩;have e:b=s1.heap.objs.size:=by simpa using hb
 subst e;exact I1.vL (Yt _) (I1.hok.fresh (Yt _))
theorem ZqN{σ:St}{H:Hp}{s:Yk}{R:It->Hp->Prop}{E:Yh->Yk->Prop}{lo hi:Int}{t u v:gn}{tk:Nat}(I:Inv X pins σ H s)(h1:-(2^62)<=lo)(h2:lo<2^62)(h3:-(2^62)<=hi)(h4:hi<2^62)(q:R (Lb lo (hi-lo).toNat) H):ao (aB X.prog X.w) X.A (Bf (.ref s.heap.objs.size)) (PIE X pins σ tg R) E {s with heap:=s.heap.push {cls:=.type "range",data:=.fields #[.int lo t,.int hi u,.int 1 v]},toks:=tk}:=by
 refine wpAny_pyIter_range (IsRange.new ..) (small_one h1 h2 h3 h4) ?_;have I1:Inv X pins σ H {s with heap:=s.heap.push {cls:=.type "range",data:=.fields #[.int lo t,.int hi u,.int 1 v]},toks:=tk}:=I.kept λb o e=>Yn _ e;refine⟨(s.heap.push {cls:=.type "range",data:=.fields #[.int lo t,.int hi u,.int 1 v]}).objs.size,[(s.heap.push {cls:=.type "range",data:=.fields #[.int lo t,.int hi u,.int 1 v]}).objs.size],_,_,H,rfl,
  I1.kept (t':=tk) λb o e=>Yn _ e,ZnX _ lo (hi-lo).toNat,?_,λb hb=>?_,q⟩
 .have e1:lo+((0:Nat):Int)*1=lo:=by simp
  have e2:(((hi-lo).toNat:Nat):Int)-((0:Nat):Int)=Builtin.Range.rangeSize lo hi 1:=by rw[rangeSize_one];split <;>omega
  show IsRangeIter _ _ (lo+((0:Nat):Int)*1) ((((hi-lo).toNat:Nat):Int)-((0:Nat):Int)) 1;rw[e1,e2];exact Y4 _ rfl
 .have e:b=(s.heap.push {cls:=.type "range",data:=.fields #[.int lo t,.int hi u,.int 1 v]}).objs.size:=by simpa using hb
  subst e;exact I1.vL (Yt _) (I1.hok.fresh (Yt _))
def ZxD(ta:TA):TI:=λσ H R=>ta σ H λvs H1=>∃j:Int,vs=[.int j]/\ -(2^62)<=j/\j<2^62/\R (Lb 0 j.toNat) H1
theorem Zqz{a:Expr}{ta:TA}{p pos:aU}(hg:Gl X "range")(hm:X.mg "range" =Yl)(ha:PA X [a] ta)(hs:Yy [a] X.env=[(false,aN a X.env)]:=by rfl):PI X tg (.Call (.Name "range" p) [a] [] pos) (ZxD ta):=by
 intro pins s σ H R I h;refine Call_ (yG I hg hm boot_range (Rz (aK (ha pos pins s σ H _ I h) λus s1 ak=>?_) hs rfl));obtain⟨vs,H1,I1,r1,q1⟩:=ak;obtain⟨j,e,q1,q2,q⟩:=q1;subst e;cases r1 with
 |cons r rr=>
  cases rr
  obtain⟨t,rfl⟩:=r;exact call_range_1 (ZqN I1 (by omega) (by omega) q1 q2 (by simpa using q))
def ZzL(wi:TI)(g:TG)(tb:TS):TS:=λD σ H=>wi σ H λJ H1=>∃W:Nat->Nat->St->Hp->Prop,(∃m,W 0 m σ H1)/\∀i m σ H,W i m σ H ->
 (J.stop i H/\D.nx σ H)\/(J.go i H/\∃N:St->Hp->Prop,(∀σ' H',N σ' H'->∃m',m'<m/\W (i+1) m' σ' H')/\∀x H',J.K_ i H x H'->g x σ H' λσ2 H2=>tb {D with nx:=N,ct:=N,bk:=D.nx} σ2 H2)
noncomputable def uJ(fp:List Y2)(h:aR):List (Y2×aO):=fp.filterMap λb=>(h.get? b).map λo=>(b,o)
theorem BP{h:aR}{b:Y2}{o:aO}(hb:b∈fp)(e:h.get? b=Ya o):(b,o)∈uJ fp h:=Qz.mpr ⟨b,hb,by rw[e];rfl⟩
theorem Zqa{h:aR}{p:Y2×aO}(hp:p∈uJ fp h):p.1∈fp/\h.get? p.1=Ya p.2:=by
 obtain⟨b,hb,e⟩:=Qz.mp hp;cases q:h.get? b with
 |none=>rw[q]at e;cases e|some o=>rw[q]at e;have e':(b,o)=p:=Y1 e;subst e';exact⟨hb,q⟩
theorem Inv.pinned{σ:St}{H:Hp}{s:Yk}(I:Inv X pins σ H s)(hf:∀b∈fp,iR X pins H b)(ho:∀b∈fp,∃o,s.heap.get? b=Ya o/\∀v,o.data≠ .cell v):Inv X (pins++uJ fp s.heap) σ H s:=I.Xv λp hp=>(eY.mp hp).elim (λz=>I.pin p (Y9 _ z)) λz=>by obtain⟨hb,e⟩:=Zqa z;obtain⟨f0,f1,f2,_⟩:=hf p.1 hb;obtain⟨o,e',d⟩:=ho p.1 hb;rw[e]at e';cases e';exact⟨e,f0,f1,f2,d⟩
theorem Inv.Fd{pl:List (Y2×aO)}{σ:St}{H:Hp}{s:Yk}(I:Inv X (pins++pl) σ H s):Inv X pins σ H s:=I.Xv λp hp=>I.pin p (Y9 _ (vQ _ hp))
theorem Zwa{iter:Expr}{body:List Yd0}{wi:TI}{g:TG}{tb:TS}{pos:aU}(hp:PassesOwn (aB X.prog X.w) X.A X.env X.xe)(hc:X.calm=true)(hi:PI X tg iter wi)(hg:PG X tg g)(hb:kJ X body tb)(hs:∀x,A_ iter X.env x=pure x:=by intro _;rfl):PS X (.For tg iter body [] pos) (ZzL wi g tb):=by
 intro pins s σ H D I h;refine wpAny_For (aK (hi pins s σ H _ I h) λv s1 h1=>aK h1 λitv s2 h2=>?_) hs;obtain⟨it,fp,tn,J,H2,e,I2,T,st2,f2,W,⟨m0,w0⟩,turn⟩:=h2;subst e;have stat:∀{H':Hp},(∀b∈fp,H' b=Yl)->∀b∈fp,iR X pins H' b:=λhn b hb=>⟨hn b hb,(f2 b hb).2⟩;refine codeAny_forLoop_any (λn s'=>∃i σ' H',Inv X pins σ' H' s'/\tn i s'.heap/\(∀b∈fp,H' b=Yl)/\W i n σ' H') ?_ m0 ⟨0,σ,H2,I2,st2,λb hb=>(f2 b hb).1,w0⟩;rintro n s3 ⟨i,σ3,H3,I3,st3,Ld,w3⟩;rcases turn i n σ3 H3 w3 with⟨stop,qn⟩|⟨go,N,hN,step⟩
 .refine ye hp (aK (T.done X rfl rfl rfl hc i pins s3 σ3 H3 X.xe I3 (stat Ld) st3 stop) λr s4 ⟨hr,I4⟩=>?_);subst hr;exact JQ ⟨σ3,H3,I4,qn⟩
 .refine ye hp (aK (T.item X rfl rfl rfl hc i pins s3 σ3 H3 X.xe I3 (stat Ld) st3 go) λr s4 ⟨u,hr,h4⟩=>?_);subst hr;refine ye hp (aK h4 λ_ s5 ak=>?_);obtain⟨x,H5,I5,r5,y5,mG,p_⟩:=ak;have I5':=I5.pinned (stat p_) (T.obj _ _ mG);refine ye hp (aK (hg _ s5 σ3 H5 x u _ I5' r5 (step x H5 y5)) λ_ s6 ak=>?_);obtain⟨σ6,H6,I6,q6⟩:=ak;refine ye hp (aK (hb _ s6 σ6 H6 _ I6 q6) λf s7 q7=>?_);have again:∀{σ7:St} {H7:Hp},Inv X (pins++uJ fp s5.heap) σ7 H7 s7->N σ7 H7->∃m,m<n/\∃i σ' H',Inv X pins σ' H' s7/\tn i s7.heap/\(∀b∈fp,H' b=Yl)/\W i m σ' H':=λ{σ7 H7} I7 n7=>by
   obtain⟨m',hm,w7⟩:=hN σ7 H7 n7;refine⟨m',hm,i+1,σ7,H7,I7.Fd,T.keep _ _ _ mG λb hb o e=>(I7.pin (b,o) (Y9 _ (Y9 _ (BP hb e)))).1,λb hb=>?_,w7⟩;obtain⟨o,e,d⟩:=T.obj _ _ mG b hb;exact(I7.pin (b,o) (Y9 _ (Y9 _ (BP hb e)))).2.1
  cases f with
  |next=>obtain⟨σ7,H7,I7,n7⟩:=q7;exact again I7 n7|cont=>obtain⟨σ7,H7,I7,n7⟩:=q7;exact again I7 n7|brk=>obtain⟨σ7,H7,I7,q7⟩:=q7;exact⟨σ7,H7,I7.Fd,q7⟩|ret v=>obtain⟨x7,σ7,H7,I7,r7,q7⟩:=q7;exact⟨x7,σ7,H7,I7.Fd,r7,q7⟩
end
end L2
namespace L2
open PySem PySem.Spec PyProof.Rows
noncomputable abbrev R2:=V->V->Hp->VK->Prop
def aP(X:Cx)(f:Yh->Yh->pY Yh)(r:R2):Prop:=
 ∀(pins:List (Y2×aO)) (s:Yk) (σ:St) (H:Hp) (x y:V) (v u:Yh) (Q:VK),Inv X pins σ H s->RelV x v->RelV y u->r x y H Q ->
  ao (aB X.prog X.w) X.A (f v u) (EP X pins σ Q) X.xe s
def uK(X:Cx)(f:Yh->pY Yh)(r:V->Hp->VK->Prop):Prop:=
 ∀(pins:List (Y2×aO)) (s:Yk) (σ:St) (H:Hp) (x:V) (v:Yh) (Q:VK),Inv X pins σ H s->RelV x v->r x H Q ->
  ao (aB X.prog X.w) X.A (f v) (EP X pins σ Q) X.xe s
def dm(X:Cx)(f:Yh)(r:List V->Hp->VK->Prop):Prop:=
 ∀(pins:List (Y2×aO)) (s:Yk) (σ:St) (H:Hp) (xs:List V) (us:List Yh) (Q:VK),Inv X pins σ H s->Vals xs us->r xs H Q ->
  ao (aB X.prog X.w) X.A (call f us) (EP X pins σ Q) X.xe s
def BR(r:R2)(ta tb:TE):TE:=λσ H Q=>ta σ H λx H1=>tb σ H1 λy H2=>r x y H2 Q
def tUn(r:V->Hp->VK->Prop)(ta:TE):TE:=λσ H Q=>ta σ H λx H1=>r x H1 Q
def rI(C:Int->Int->Prop)(g:Int->Int->V):R2:=λx y H Q=>∃i j,x= .int i/\y= .int j/\C i j/\Q (g i j) H
def yI(g:Int->Int->V):R2:=λx y H Q=>∃i j,x= .int i/\y= .int j/\Q (g i j) H
noncomputable def rU(g:Int->V):V->Hp->VK->Prop:=λx H Q=>∃i,x= .int i/\Q (g i) H
variable{f:Yh->Yh->pY Yh}{r:R2}
section
variable {X:Cx} {a b c:Expr} {ta tb tc:TE} {pos:aU}
theorem Tf(ha:PE X a ta)(hb:PE X b tb){pins:List (Y2×aO)}{s:Yk}{σ:St}{H:Hp}{R:V->V->Hp->Prop}(I:Inv X pins σ H s)(h:ta σ H λx H1=>tb σ H1 λy H2=>R x y H2){Q:Yh->Yk->Prop}(hf:∀v u s2 x y H2,Inv X pins σ H2 s2->RelV x v->RelV y u->R x y H2->ao (aB X.prog X.w) X.A (f v u) Q X.xe s2):
  ao (aB X.prog X.w) X.A (aN a X.env) (λv s₁=>ao (aB X.prog X.w) X.A (aN b X.env) (λu s₂=>ao (aB X.prog X.w) X.A (f v u) Q X.xe s₂) X.xe s₁) X.xe s:=by
 refine aK (ha pins s σ H _ I h) λv s1 ak=>?_;obtain⟨x,H1,I1,r1,q1⟩:=ak;refine aK (hb pins s1 σ H1 _ I1 q1) λu s2 ak=>?_;obtain⟨y,H2,I2,r2,q2⟩:=ak;exact hf v u s2 x y H2 I2 r1 r2 q2
theorem Zxv{op:Operator}(ho:aP X (i_ op) r)(ha:PE X a ta)(hb:PE X b tb):PE X (.BinOp a op b pos) (BR r ta tb):=by intro pins s σ H Q I h;exact wpAny_BinOp (Tf ha hb I h λv u s2 x y H2 I2 rx ry q=>ho pins s2 σ H2 x y v u Q I2 rx ry q)
theorem Zyv{op:UnaryOp}{r:V->Hp->VK->Prop}(ho:uK X (J2 op) r)(ha:PE X a ta):PE X (.UnaryOp op a pos) (tUn r ta):=by intro pins s σ H Q I h;exact UnaryOp_ (aK (ha pins s σ H _ I h) λv s1 ⟨x,H1,I1,r1,q1⟩=>ho pins s1 σ H1 x v Q I1 r1 q1)
theorem Le{C:Int->Int->Prop}{g:Int->Int->Int}(rule:∀(i j:Int) (t u:gn) (s:Yk) (Q:Yh->Yk->Prop) (E:Yh->Yk->Prop),C i j->Q (.int (g i j) s.toks) {s with toks:=s.toks+1}->ao (aB X.prog X.w) X.A (f (.int i t) (.int j u)) Q E s):
  aP X f (rI C λi j=>.int (g i j)):=by
 intro pins s σ H x y v u Q I rx ry h;obtain⟨i,j,rfl,rfl,hc,q⟩:=h;obtain⟨t,rfl⟩:=rx;obtain⟨t',rfl⟩:=ry;exact rule i j t t' s _ _ hc ⟨.int (g i j),H,I.tok _,⟨_,rfl⟩,q⟩
theorem Zyc{g:Int->Int->Int}(rule:∀(i j:Int) (t u:gn) (s:Yk) (Q:Yh->Yk->Prop) (E:Yh->Yk->Prop),Q (.int (g i j) s.toks) {s with toks:=s.toks+1}->ao (aB X.prog X.w) X.A (f (.int i t) (.int j u)) Q E s):
  aP X f (yI λi j=>.int (g i j)):=by
 intro pins s σ H x y v u Q I rx ry h;obtain⟨i,j,rfl,rfl,q⟩:=h;obtain⟨t,rfl⟩:=rx;obtain⟨t',rfl⟩:=ry;exact rule i j t t' s _ _ ⟨.int (g i j),H,I.tok _,⟨_,rfl⟩,q⟩
theorem Tg{g:Int->Int->Bool}(rule:∀(i j:Int) (t u:gn) (s:Yk) (Q:Yh->Yk->Prop) (E:Yh->Yk->Prop),Q (.bool (g i j)) s->ao (aB X.prog X.w) X.A (f (.int i t) (.int j u)) Q E s):
  aP X f (yI λi j=>.bl (g i j)):=by
 intro pins s σ H x y v u Q I rx ry h;obtain⟨i,j,rfl,rfl,q⟩:=h;obtain⟨t,rfl⟩:=rx;obtain⟨t',rfl⟩:=ry;exact rule i j t t' s _ _ ⟨.bl (g i j),H,I,rfl,q⟩
def Zzk(i j:Int):Prop:=0<j/\j<1073741824
def Zzu(i j:Int):Prop:=0<=j/\j<=1000000/\i.natAbs<2^64
def Th(i j:Int):Prop:=(-(2^64)<i/\i<2^64)\/(-(2^64)<j/\j<2^64)
theorem Th.ok{i j:Int}(h:Th i j):IntMulOk i j:=by
 rcases h with⟨h1,h2⟩|⟨h1,h2⟩
 .exact .of_left (intBits_le_64 h1 h2)
 .exact .of_right (intBits_le_64 h1 h2)
theorem Zv9:aP X (i_ .Add) (yI λi j=>.int (i+j)):=Zyc λ_ _ _ _ _ _ _ q=>add_int q
theorem Zvc:aP X (i_ .Sub) (yI λi j=>.int (i-j)):=Zyc λ_ _ _ _ _ _ _ q=>sub_int q
theorem Zu8:aP X (i_ .Mult) (rI Th λi j=>.int (i*j)):=Le λ_ _ _ _ _ _ _ hc q=>mul_int q hc.ok
theorem Zuj:aP X (i_ .FloorDiv) (rI Zzk λi j=>.int (i / j)):=Le λi j _ _ _ _ _ hc q=>by have h1:(0:Int)<j:=hc.1;have h2:j<1073741824:=hc.2;exact floordiv_int (by exactλz=>iN [] [_] 2 26014245025 T1 z h1) (by rw[Int.fdiv_eq_ediv_of_nonneg i (by exact Ke h1)];exact q) (.inl (PyProof.noPylong_small (by omega)))
theorem Zvo:aP X (i_ .Mod) (rI (λ_ j=>0<j) λi j=>.int (i % j)):=Le λi j _ _ _ _ _ hc q=>by have h1:(0:Int)<j:=hc;exact mod_int' (by exactλz=>iN [] [_] 2 26014245025 T1 z h1) (by rw[Int.fmod_eq_emod_of_nonneg i (by exact Ke h1)];exact q)
theorem ZwF:aP X (i_ .Pow) (rI Zzu λi j=>.int (i^j.toNat)):=Le λ_ _ _ _ _ _ _ hc q=>pow_int_small hc.1 hc.2.1 hc.2.2 q
theorem unI{f:Yh->pY Yh}{g:Int->Int}(rule:∀(i:Int) (t:gn) (s:Yk) (Q:Yh->Yk->Prop) (E:Yh->Yk->Prop),Q (.int (g i) s.toks) {s with toks:=s.toks+1}->ao (aB X.prog X.w) X.A (f (.int i t)) Q E s):
  uK X f (rU λi=>.int (g i)):=by
 intro pins s σ H x v Q I rx h;obtain⟨i,rfl,q⟩:=h;obtain⟨t,rfl⟩:=rx;exact rule i t s _ _ ⟨.int (g i),H,I.tok _,⟨_,rfl⟩,q⟩
theorem ZvN:uK X (J2 .USub) (rU λi=>.int (-i)):=unI λ_ _ _ _ _ q=>neg_int q
end
theorem Ti{i j:aj}:decide (V.str i=V.str j)=(i==j):=by rw[Ro];simp
section
variable {X:Cx} {a b c:Expr} {ta tb tc:TE} {pos:aU}
theorem Lf{pins:List (Y2×aO)}{σ:St}{H:Hp}{s:Yk}{Q:VK}{k k':Bool}(I:Inv X pins σ H s)(q:Q (.bl k) H)(e:k=k'):EP X pins σ Q (.bool k') s:=by subst e;exact⟨.bl k,H,I,rfl,q⟩
theorem Zyw:aP X (dO .Lt) (yI λi j=>.bl (decide (i<j))):=Tg λ_ _ _ _ _ _ _ q=>lt_int q
theorem Zxw:aP X (dO .LtE) (yI λi j=>.bl (decide (i<=j))):=Tg λ_ _ _ _ _ _ _ q=>le_int q
theorem ZxX:aP X (dO .Gt) (yI λi j=>.bl (decide (j<i))):=Tg λ_ _ _ _ _ _ _ q=>gt_int q
theorem Zp0:aP X (dO .In) (λx y H Q=>∃i j,x= .str i/\y= .str j/\Q (.bl (!(Bu j i 0 j.length 1).isEmpty)) H):=by intro pins s σ H x y v u Q I rx ry h;obtain⟨i,j,rfl,rfl,q⟩:=h;obtain⟨t,rfl⟩:=rx;obtain⟨t',rfl⟩:=ry;exact in_str (Lf I q rfl)
theorem Zu2:aP X (dO .Is) (λx y H Q=>y= .non/\Q (.bl (decide (x= .non))) H):=by
 intro pins s σ H x y v u Q I rx ry h;obtain⟨rfl,q⟩:=h;cases ry;refine is_none_gen (Lf I q ?_);cases x<;>first
  |(cases rx;rfl)
  |(obtain⟨t,rfl⟩:=rx;rfl)
theorem ZtB:aP X (dO .IsNot) (λx y H Q=>y= .non/\Q (.bl (!decide (x= .non))) H):=by
 intro pins s σ H x y v u Q I rx ry h;obtain⟨rfl,q⟩:=h;cases ry;refine isnot_none_gen (Lf I q ?_);cases x<;>first
  |(cases rx;rfl)
  |(obtain⟨t,rfl⟩:=rx;rfl)
theorem Zl9:aP X (dO .NotIn) (λx y H Q=>∃i j,x= .str i/\y= .str j/\Q (.bl (!(!(Bu j i 0 j.length 1).isEmpty))) H):=by intro pins s σ H x y v u Q I rx ry h;obtain⟨i,j,rfl,rfl,q⟩:=h;obtain⟨t,rfl⟩:=rx;obtain⟨t',rfl⟩:=ry;exact notIn_str (Lf I q rfl)
theorem aP.or{r':R2}(h:aP X f r)(h':aP X f r'):aP X f (λx y H Q=>r x y H Q\/r' x y H Q):=by
 intro pins s σ H x y v u Q I rx ry q;rcases q with q|q
 .exact h pins s σ H x y v u Q I rx ry q
 .exact h' pins s σ H x y v u Q I rx ry q
theorem Zpu{op:CmpOp}(ho:aP X (dO op) r)(ha:PE X a ta)(hb:PE X b tb)(hm:yh op b=false):PE X (.Compare a [op] [b] pos) (BR r ta tb):=by intro pins s σ H Q I h;exact wpAny_Compare1 (Tf ha hb I h λv u s2 x y H2 I2 rx ry q=>ho pins s2 σ H2 x y v u Q I2 rx ry q) hm
def ZuI(t:TE):TT:=λσ H Q=>t σ H λx H'=>∃k,x= .bl k/\Q k H'
theorem Tj{op:CmpOp}(ho:aP X (dO op) r)(ha:PE X a ta)(hb:PE X b tb)(hm:yh op b=false):PT X (.Compare a [op] [b] pos) (ZuI (BR r ta tb)):=by intro pins s σ H Q I h;refine wpAny_isTrue_Compare1 (aK (ha pins s σ H _ I h) λv s1 ⟨x,H1,I1,r1,q1⟩=>aK (hb pins s1 σ H1 _ I1 q1) λu s2 ⟨y,H2,I2,r2,q2⟩=>aK (ho pins s2 σ H2 x y v u _ I2 r1 r2 q2) λc s3 ⟨z,H3,I3,r3,k,e,q3⟩=>?_) hm;subst e;cases r3;exact qM ⟨H3,I3,q3⟩
def Zvt(r r':R2)(ta tb tc:TE):TE:=λσ H Q=>ta σ H λx H1=>tb σ H1 λy H2=>r x y H2 λz H3=>∃k,z= .bl k/\
 (if k=true then tc σ H3 λw' H4=>r' y w' H4 Q else Q (.bl false) H3)
theorem Zsi{op op':CmpOp}{r':R2}(ho:aP X (dO op) r)(ho':aP X (dO op') r')(ha:PE X a ta)(hb:PE X b tb)(hc:PE X c tc)(hm:lastMarks [op,op'] [b,c]=false:=by with_unfolding_all rfl):PT X (.Compare a [op,op'] [b,c] pos) (ZuI (Zvt r r' ta tb tc)):=by
 intro pins s σ H Q I h;refine isTrue_chain (aK (ha pins s σ H _ I h) λv s1 ⟨x,H1,I1,r1,q1⟩=>test_link (aK (hb pins s1 σ H1 _ I1 q1) λu s2 ⟨y,H2,I2,r2,q2⟩=>aK (ho pins s2 σ H2 x y v u _ I2 r1 r2 q2) λd s3 ⟨z,H3,I3,r3,k,e,q3⟩=>?_)) hm;subst e;cases r3;refine qM ?_;cases k with
 |false=>obtain⟨k',e',q'⟩:=q3;cases e';exact ite_ff ⟨H3,I3,q'⟩|true=>refine ite_tt (test_last (aK (hc pins s3 σ H3 _ I3 q3) λw' s4 ⟨z',H4,I4,r4,q4⟩=>aK (ho' pins s4 σ H4 y z' u w' _ I4 r2 r4 q4) λd' s5 ak=>?_));obtain⟨z2,H5,I5,r5,k2,e2,q5⟩:=ak;subst e2;cases r5;exact qM ⟨H5,I5,q5⟩
theorem Gy:(bH:Nat)<2^63:=by rw[Bc];decide
theorem ZnO:aP X (i_ .Add) (λx y H Q=>∃i j,x= .str i/\y= .str j/\i.length+j.length<=bH/\Q (.str (i++j)) H):=by intro pins s σ H x y v u Q I rx ry h;obtain⟨i,j,rfl,rfl,hz,q⟩:=h;obtain⟨t,rfl⟩:=rx;obtain⟨t',rfl⟩:=ry;exact add_str (λt' tk=>⟨.str (i++j),H,I.tok _,⟨_,rfl⟩,q⟩) hz
theorem vals1{x:V}{us:List Yh}(r:Vals [x] us):∃u,us=[u]/\RelV x u:=by
 cases r with
 |cons r1 r2=>cases r2;exact⟨_,rfl,r1⟩
theorem vals2{x y:V}{us:List Yh}(r:Vals [x,y] us):∃u w',us=[u,w']/\RelV x u/\RelV y w':=by
 cases r with
 |cons r1 r2=>
  cases r2 with
  |cons r3 r4=>cases r4;exact⟨_,_,rfl,r1,r3⟩
theorem Zqh:dm X (.type "int") (λxs H Q=>(∃i,xs=[.int i]/\Q (.int i) H)\/∃k,xs=[.bl k]/\Q (.int (if k then 1 else 0)) H):=by
 intro pins s σ H xs us Q I r h;rcases h with⟨i,rfl,q⟩|⟨k,rfl,q⟩
 .obtain⟨u,rfl,t,rfl⟩:=vals1 r;exact call_int_int ⟨.int i,H,I,⟨_,rfl⟩,q⟩
 .obtain⟨u,rfl,r1⟩:=vals1 r;cases r1;exact call_int_bool ⟨.int (if k then 1 else 0),H,I.tok _,⟨_,rfl⟩,q⟩
theorem Zl1:dm X (.type "str") (λxs H Q=>∃i,xs=[.int i]/\i.natAbs.log2<1920/\Q (.str (Gk i)) H):=by intro pins s σ H xs us Q I r h;obtain⟨i,rfl,hz,q⟩:=h;obtain⟨u,rfl,t,rfl⟩:=vals1 r;exact PySem.P.str_of_int hz ⟨.str _,H,I.tok _,⟨_,rfl⟩,q⟩
def Zzl(K:Yb)(x:V)(H:Hp)(n:Nat):Prop:=
 match x with
 | .str y=>y.length<=bH/\n=y.length|.BJ y=>y.size<=bH/\n=y.size|.ref p=>(∃xs,bL K H p xs/\n=xs.length)\/∃xs,cT K H p xs/\n=xs.length|_=>False
theorem Zsl:dm X (.builtin "len") (λxs H Q=>∃x n,xs=[x]/\Zzl X.K x H n/\Q (.int n) H):=by
 intro pins s σ H xs us Q I r h;obtain⟨x,n,rfl,e,q⟩:=h;obtain⟨u,rfl,rx⟩:=vals1 r;have hl:=Gy;have hs:bH=16777216:=Bc;cases x with
 |str y=>obtain⟨t,rfl⟩:=rx;obtain⟨hy,e'⟩:y.length<=bH/\n=y.length:=e;subst e';exact len_str (by omega) ⟨.int _,H,I.tok _,⟨_,rfl⟩,q⟩|BJ y=>obtain⟨t,rfl⟩:=rx;obtain⟨hy,e'⟩:y.size<=bH/\n=y.size:=e;subst e';exact PySem.W.len_bytes (by omega) ⟨.int _,H,I.tok _,⟨_,rfl⟩,q⟩|ref p=>
  cases rx
  have e':(∃xs,bL X.K H p xs/\n=xs.length)\/∃xs,cT X.K H p xs/\n=xs.length:=e;rcases e' with⟨xs,hx,e'⟩|⟨xs,hx,e'⟩
  .subst e';obtain⟨its,r',pl,hz⟩:=I.list hx;have hlen:=r'.length;exact Calls.call_len_list pl.isList (by simp only[Yq];omega) ⟨.int xs.length,H,I.tok _,⟨_,by simp only[Yq];rw[hlen]⟩,q⟩
  .subst e';obtain⟨its,r',pl,hz⟩:=I.tuple hx;have hlen:=r'.length;exact len_tuple pl (by simp only[Yq];omega) ⟨.int xs.length,H,I.tok _,⟨_,by simp only[Yq];rw[hlen]⟩,q⟩
 |_=>exact(show False from e).elim
end
end L2
namespace L2
open PySem PySem.Spec PyProof.Rows
structure BV(h:aR)(x dx C:Y2)(mA:aj->Option Yh):Prop where
 obj:h.get? x=Ya (vP C dx)
 ns:h.Ns1 dx mA
 ne:dx≠x
theorem Zql{h:aR}{dx:Y2}{mA:aj->Option Yh}(n:h.Ns1 dx mA):∃od,h.get? dx=Ya od/\∀name,Qv name od=Ya (mA name):=by
 obtain⟨o,es,ep,ho,hd,hk,_,hm⟩:=n;refine⟨o,ho,λname=>?_⟩;have e:=hm name;unfold nsFind findBy at e;rw[←Array.find?_toList]at e;unfold Qv;rw[hd];dsimp only;split
 .rename_i y q;rw[q]at e;exact congrArg Ya e
 .rename_i q;rw[q]at e;have a:es.toList.any (·.refKey)=false:=by
   rw[List.any_eq_false];intro y hy;obtain⟨z,t,hkey⟩:=hk y (Array.mem_toList_iff.mp hy);simp[DictEntry.refKey,hkey]
  have a':¬es.toList.any (·.refKey)=true:=by rw[a];exact mD
  rw[if_neg a'];exact congrArg Ya e
theorem BV.look{h:aR}{x dx C:Y2}{mA:aj->Option Yh}(I:BV h x dx C mA):∃od,PySem.W.InstAt h x (vP C dx) C (Ya od)/\∀name,Qv name od=Ya (mA name):=
 let⟨od,ho,hl⟩:=Zql I.ns
 ⟨od,⟨I.obj,rfl,rfl,ho⟩,hl⟩
variable{Q:Yh->Yk->Prop}
section
variable {prog:Yae} {w:bh} {A:bU} {E:Yh->Yk->Prop} {s:Yk} {K:Yb} {x dx C f:Y2} {mA:aj->Option Yh} {name:aj} {v:Yh}
theorem Ztk{expr:Bool}(X:K.In s.heap)(I:BV s.heap x dx C mA)(hg:Ju K C name=true)(hh:Jt K C=true)(ha:nJ K (.ref C) name=Ya Yl)(hv:mA name=Ya v)(hv':YJ v=true)(h:Q v {s with toks:=s.toks+1}):
  ao (aB prog w) A (getAttr (.ref x) name expr) Q E s:=by
 obtain⟨od,J,hl⟩:=I.look;exact PySem.W.get_value X J (PySem.W.plainGet_of hg).1 (PySem.W.findObj_own hh ha rfl (by rw[hl,hv])) hv' h
theorem ZtX{ns:List aj}{Q:Unit->Yk->Prop}(X:K.In s.heap)(I:BV s.heap x dx C mA)(hs:nJ K (.ref C) "__setattr__" =Ya (Ya (.builtin "object.__setattr__")))(hp:Qq K C=true)(ht:Qu K C name=Ya Yl)(hh:Jt K C=true)(hw:Q3 mA ns)(hsz:ns.length<=bH)(h:∀h',BV h' x dx C (λy=>if y=name then Ya v else mA y)->Bm dx s.heap h'->Q () {s with heap:=h',toks:=s.toks+2}):
  ao (aB prog w) A (setAttr (.ref x) name v) Q E s:=by
 obtain⟨od,J,hl⟩:=I.look;refine PySem.W.set_plain X J hs (PySem.W.osa_open (s:={s with toks:=s.toks+1}) (r:=Yl) X J hp ht λb=>?_);obtain⟨cd,hc,hd'⟩:=PySem.W.any_some hh;have hx:s.heap.get? x=Ya ⟨.ref C,Ya dx,.plain,#[]⟩:=I.obj;refine Yg (Yv (Yg (Yg (wpAny_loadPart hx (Yg (PySem.W.Looks.here (s:={s with toks:=s.toks+1}) (PySem.W.looks_clsIn X hc) ?_))))));rw[hd'];refine Yv (a:=Ya dx) (Yg (Yv (Yg ?_)));refine wpAny_nsSet1 (s:={s with toks:=s.toks+1}) I.ns λh' hn2 hs2=>?_;obtain⟨oD,esD,epD,hoD,hdD,hcD⟩:=hn2.count (PySem.Within.cons name v hw);refine Yg (wpAny_lookBehind hoD (by rw[hdD];exact pastItsLine_dict (Yi hcD (by rw[Ym];exact lB 1 0xa1ca0c01001 T1 hsz))) ?_);exact Yv (h _ ⟨(hs2.2 _ (dg I.ne)).trans I.obj,hn2,I.ne⟩ hs2)
theorem ZsJ{R:uy->Yk->Prop}{vs:List Yh}{kw:List (aj×Yh)}(X:K.In s.heap)(hm:Jv K C=true)(hi:nJ K (.ref C) "__init__" =Ya (Ya (.ref f)))(hf:PySem.W.typeIn K (.ref f)=Ya (.type "function"))(h:nR (aB prog w) (A.under (.builtin "type.__call__" ⟨.ref C::vs,kw⟩)) (.call (.ref f) ⟨.ref (s.heap.objs.size+1)::vs,kw⟩) (PySem.W.InitBack (s.heap.objs.size+1) R)
   {s with heap:=(s.heap.push uf).push (vP C s.heap.objs.size)}):
  nR (aB prog w) A (.call (.ref C) ⟨vs,kw⟩) R s:=by
 obtain⟨hh,g,d,t,os⟩:=s;exact PySem.W.make_core (PySem.W.makes_of X hm) (PySem.W.looks_findIn X hi) (λself=>PySem.W.bind_fn X self hf) (.inl rfl) h
end
noncomputable def jk(f:aj)(v:V):List (aj×V)->List (aj×V)
 |[]=>[(f,v)]|(g,x)::r=>if g=f then(g,v)::r else(g,x)::jk f v r
theorem Ziz(f g:aj)(v:V):∀fs:List (aj×V),(jk f v fs).lookup g=if g=f then Ya v else fs.lookup g
 | []=>by
  show yc g [(f,v)]=_;by_cases h:g=f
  .have hb:(g==f)=true:=beq_iff_eq.mpr h;simp only[yc,hb,if_pos h]
  .have hb:(g==f)=false:=beq_eq_false_iff_ne.mpr h;simp only[yc,hb,if_neg h]
 | (k,x)::r=>by
  have ih:=Ziz f g v r;rw[show jk f v ((k,x)::r)=(if k=f then(k,v)::r else(k,x)::jk f v r)from rfl];by_cases hk:k=f
  .rw[if_pos hk];by_cases h:g=k
   .have hb:(g==k)=true:=beq_iff_eq.mpr h;simp only[yc,hb,if_pos (h.trans hk)]
   .have hb:(g==k)=false:=beq_eq_false_iff_ne.mpr h;simp only[yc,hb,if_neg (λe:g=f=>h (e.trans hk.symm))]
  .rw[if_neg hk];by_cases h:g=k
   .have hb:(g==k)=true:=beq_iff_eq.mpr h;simp only[yc,hb,if_neg (λe:g=f=>hk (h.symm.trans e))]
   .have hb:(g==k)=false:=beq_eq_false_iff_ne.mpr h;simp only[yc,hb];exact ih
theorem Tn(f:aj)(v:V):∀fs:List (aj×V),f∈(jk f v fs).map (·.1)/\∀g,g∈fs.map (·.1)->g∈(jk f v fs).map (·.1)
 |[]=>⟨by simp[jk],λg h=>by simp at h⟩|(k,x)::r=>by
  obtain⟨i1,i2⟩:=Tn f v r;rw[show jk f v ((k,x)::r)=(if k=f then(k,v)::r else(k,x)::jk f v r)from rfl];by_cases hk:k=f
  .rw[if_pos hk];subst hk;exact⟨by simp,λg h=>by simpa using h⟩
  .rw[if_neg hk];refine⟨?_,λg h=>?_⟩
   .rw[Ys];exact Yd _ i1
   .rw[Ys]at h ⊢;rcases Yo.mp h with e|e
    .exact Yo.mpr (.inl e)
    .exact Yd _ (i2 g e)
theorem ZiI(f:aj)(v:V):∀fs:List (aj×V),(jk f v fs).length<=fs.length+1
 |[]=>by simp[jk]|(k,x)::r=>by
  have ih:=ZiI f v r;rw[show jk f v ((k,x)::r)=(if k=f then(k,v)::r else(k,x)::jk f v r)from rfl];by_cases hk:k=f
  .rw[if_pos hk,Ym,Ym];exact iM _ _
  .rw[if_neg hk,Ym,Ym];exact lB 1 0xaa1cca0c0a1c001 T1 ih
theorem o9.some_of{v:V}{o:Option Yh}(r:o9 (Ya v) o):∃u,o=Ya u/\RelV v u:=by
 cases o with
 |none=>exact(show False from r).elim|some u=>exact⟨u,rfl,r⟩
theorem Zqw{v:V}{u:Yh}(r:RelV v u):YJ u=true:=by
 cases v with
 |non=>cases(show u=Value.none from r);rfl|bl b=>cases(show u=Value.bool b from r);rfl|int i=>obtain⟨t,e⟩:=(show∃t,u=Value.int i t from r);cases e;rfl|str x=>obtain⟨t,e⟩:=(show∃t,u=Value.str x t from r);cases e;rfl
 |BJ b=>obtain⟨t,e⟩:=(show∃t,u=Value.bytes b t from r);cases e;rfl|flt b=>obtain⟨t,e⟩:=(show∃t,u=Value.float b t from r);cases e;rfl|ref a=>cases(show u=Value.ref a from r);rfl|ty n=>cases(show u=Value.type n from r);rfl
section
variable {P:Yae} {w:bh} {H H':Hp} {h h':aR} {a C dx:Y2} {fs fs':List (aj×V)}
theorem Tp(hok:ig P w H h)(e:H a=Ya (.ins C dx fs)):∃mA,BV h a dx C mA/\(∀f,o9 (fs.lookup f) (mA f))/\Q3 mA (fs.map (·.1))/\fs.length<=1000/\H dx=Ya (.own a):=by obtain⟨d,z,ne,ob,mA,n,r,q⟩:=(show gQ P w H h a (.ins C dx fs)from hok a _ e);exact⟨mA,⟨ob,n,ne⟩,r,q,z,d⟩
end
structure wG(K:Yb)(C:Y2):Prop where
 pg:Ju K C RG=true
 hd:Jt K C=true
 po:Qq K C=true
 sa:nJ K (.ref C) "__setattr__" =Ya (Ya (.builtin "object.__setattr__"))
theorem wG.get{K:Yb}{C:Y2}(c:wG K C)(f:aj):Ju K C f=true:=c.pg
def sY(K:Yb)(C:Y2)(f:aj):Prop:=nJ K (.ref C) f=Ya Yl
theorem sY.taker{K:Yb}{C:Y2}{f:aj}(n:sY K C f):Qu K C f=Ya Yl:=by unfold Qu;rw[show nJ K (.ref C) f=Ya Yl from n];rfl
structure Meth(K:Yb)(C:Y2)(m:aj)(f:Y2):Prop where
 aq:nJ K (.ref C) m=Ya (Ya (.ref f))
 fn:Jw K (.ref f)=true
 kp:ug K (.ref f)=true
section
variable {X:Cx} {pins:List (Y2×aO)} {σ:St} {H:Hp} {s:Yk} {a C dx:Y2} {fs:List (aj×V)} {f:aj} {v:V} {A:bU} {E:Yh->Yk->Prop}
theorem Zon{b:Bool}(I:Inv X pins σ H s)(e:H a=Ya (.ins C dx fs))(c:wG X.K C)(n:sY X.K C f)(l:fs.lookup f=Ya v)(h:∀u s',Inv X pins σ H s'->RelV v u->Q u s'):ao (aB X.prog X.w) A (getAttr (.ref a) f b) Q E s:=by obtain⟨mA,O,r,_,_,_⟩:=Tp I.hok e;obtain⟨u,hu,ru⟩:=o9.some_of (v:=v) (o:=mA f) (by rw[←l];exact r f);exact Ztk I.fj O (c.get f) c.hd n hu (Zqw ru) (h u _ (I.tok _) ru)
theorem Zog{y:V}{u:Yh}{Q:Unit->Yk->Prop}(I:Inv X pins σ H s)(e:H a=Ya (.ins C dx fs))(c:wG X.K C)(n:sY X.K C f)(hl:fs.length<1000)(ry:RelV y u)(h:∀s',Inv X pins σ (upd H a (.ins C dx (jk f y fs))) s'->Q () s'):ao (aB X.prog X.w) A (setAttr (.ref a) f u) Q E s:=by
 obtain⟨mA,O,r,wi,_,ho⟩:=Tp I.hok e;have hz:(fs.map (·.1)).length<=bH:=by rw[Yu,Bc];exact lA 1 0x10000007b003e83b011 T1 hl
 refine ZtX I.fj O c.sa c.po n.taker c.hd wi hz λh' O' sb=>h _ ?_;have hd:∃o,h'.get? dx=Ya o:=let⟨o,_,_,e',_⟩:=O'.ns;⟨o,e'⟩;refine I.write (x:=a) (e:=dx) (by rw[e];exact True.intro) (.inr ho) (λb q hb z=>(sb.2 b hb).trans z) hd ?_;refine⟨by rw[gq O.ne];exact ho,?_,O.ne,O'.obj,_,O'.ns,λg=>?_,λg hg=>?_⟩
 .have:=ZiI f y fs;exact lB 2 0x3e83b003e83b111a1c001 T1 this hl
 .show o9 ((jk f y fs).lookup g) (if g=f then Ya u else mA g);rw[Ziz];by_cases q:g=f
  .rw[if_pos q,if_pos q];exact ry
  .rw[if_neg q,if_neg q];exact r g
 .by_cases q:g=f
  .rw[q];exact(Tn f y fs).1
  .refine(Tn f y fs).2 g (wi g λz=>hg ?_);show(if g=f then Ya u else mA g)=Yl;rw[if_neg q];exact z
theorem Inv.made(I:Inv X pins σ H s):Inv X pins σ (upd (upd H s.heap.objs.size (.own (s.heap.objs.size+1))) (s.heap.objs.size+1) (.ins C s.heap.objs.size []))
  {s with heap:=(s.heap.push uf).push (vP C s.heap.objs.size)}:=by
 have e1:(s.heap.push uf).get? s.heap.objs.size=Ya uf:=Y4 s.heap rfl;have e2:((s.heap.push uf).push (vP C s.heap.objs.size)).get? (s.heap.objs.size+1)=Ya (vP C s.heap.objs.size):=by
  have:=Y4 (s.heap.push uf) (o:=vP C s.heap.objs.size) rfl
  rwa[yr]at this
 have e3:(s.heap.push uf).Ns s.heap.objs.size (λ_=>Yl):=⟨uf,#[],_,e1,rfl,(λe he=>absurd he (by simp)),λ_=>rfl⟩;have I1:=I.laid (a:=s.heap.objs.size) (o:=.own (s.heap.objs.size+1)) (h':=s.heap.push uf) (t':=s.toks) (λb u q=>Yn _ q) (Yt _) ⟨_,e1⟩;refine I1.laid (a:=s.heap.objs.size+1) (o:=.ins C s.heap.objs.size []) (t':=s.toks) (λb u q=>Yn _ q) (j6 (yr _ _)) ?_;have ne:s.heap.objs.size≠s.heap.objs.size+1:=dR (F_ _);refine⟨by rw[gq ne,qW],eZ _,ne,e2,λ_=>Yl,(Heap.Ns1.of_empty e3).at λo q=>Yn _ q,λ_=>True.intro,λy hy=>absurd rfl hy⟩
theorem Zuf{prog:Yae}{w:bh}{env:fH}{e:Expr}{f:aj}{pos:aU}{s:Yk}(hb:nQ e f env (aN e env)=aN e env)(h:ao (aB prog w) A (aN e env) (λo s₁=>ao (aB prog w) A (getAttr o f true) Q E s₁) E s):ao (aB prog w) A (aN (.Attribute e f pos) env) Q E s:=Attribute_any_ h (by rw[arm_eval_Attribute,hb])
end
def Zy5(K:Yb)(ta:TE)(f:aj):TE:=λσ H Q=>ta σ H λx H1=>∃a C dx fs v,x= .ref a/\H1 a=Ya (.ins C dx fs)/\wG K C/\sY K C f/\fs.lookup f=Ya v/\Q v H1
def Zzf(K:Yb)(ta tv:TE)(f:aj):TS:=λD σ H=>tv σ H λy H1=>ta σ H1 λx H2=>∃a C dx fs,x= .ref a/\H2 a=Ya (.ins C dx fs)/\wG K C/\sY K C f/\fs.length<1000/\
 D.nx σ (upd H2 a (.ins C dx (jk f y fs)))
section
variable {X:Cx} {o e value:Expr} {f:aj} {pos pos' tpos:aU} {ta tv:TE}
theorem Zwl(he:PE X e ta)(hb:nQ e f X.env (aN e X.env)=aN e X.env):PE X (.Attribute e f pos) (Zy5 X.K ta f):=by intro pins s σ H Q I h;refine Zuf hb (aK (he pins s σ H _ I h) λu s1 ak=>?_);obtain⟨x,H1,I1,rx,a,C,dx,fs,v,ex,ea,c,n,l,q⟩:=ak;subst ex;obtain rfl:u=Value.ref a:=rx;exact Zon I1 ea c n l λu' s2 I2 ru=>⟨v,H1,I2,ru,q⟩
theorem Zvl(ha:PE X o ta)(hv:PE X value tv)(hs:v5 value (Ya (.Attribute o f pos')) pos.line X.env=pure false):PS X (.Assign [.Attribute o f pos'] value pos) (Zzf X.K ta tv f):=by intro pins s σ H D I h;refine plainObj_wpAny_Assign_Attribute (aK (hv pins s σ H _ I h) λu s1 ⟨y,H1,I1,ry,q⟩=>aK (ha pins s1 σ H1 _ I1 q) λov s2 ak=>?_) hs;obtain⟨x,H2,I2,rx,a,C,dx,fs,ex,ea,c,n,l,q2⟩:=ak;subst ex;obtain rfl:ov=Value.ref a:=rx;exact Zog I2 ea c n l ry λs3 I3=>⟨σ,_,I3,q2⟩
end
section
variable {X:Cx} {pins:List (Y2×aO)} {σ:St} {H:Hp} {s:Yk} {A:bU} {E:Yh->Yk->Prop} {Q:Yh->Yk->Prop} {c:Yh} {b:Bool}
inductive qd(K:Yb)(H:Hp):V->Yh->Prop where
 |non:qd K H .non (.type "NoneType")
 |bl (x:Bool):qd K H (.bl x) (.type "bool")
 |int (i:Int):qd K H (.int i) (.type "int")
 |str (x:aj):qd K H (.str x) (.type "str")
 |flt (x:UInt64):qd K H (.flt x) (.type "float")
 |lst {a:Y2} {xs:List V} (e:H a=Ya (.lst xs)):qd K H (.ref a) (.type "list")
 |fc {a:Y2} {o:aO} {xs:List V} (e:H a=Ya (.fc o (.lst xs))):qd K H (.ref a) (.type "list")
 |tup {a:Y2} {xs:List V} (e:H a=Ya (.tup xs)):qd K H (.ref a) (.type "tuple")
 |dK {a:Y2} {kvs:List (Key×V)} (e:H a=Ya (.dK kvs)):qd K H (.ref a) (.type "dict")
 |dT {a:Y2} {kvs:List (List Key×V)} (e:H a=Ya (.dT kvs)):qd K H (.ref a) (.type "dict")
 | ins {a C dx:Y2} {fs:List (aj×V)} (e:H a=Ya (.ins C dx fs)) (cl:wG K C) (ha:nJ K (.ref C) "__class__" =Ya (Ya (.builtin "object.__class__")))
   (hn:PySem.W.specialIn K (.builtin "object.__class__") "__get__" =Ya (Ya (.builtin "getset_descriptor.__get__"))) (htk:PySem.W.takesIn K (.builtin "object.__class__")=Ya true)
   (hm:PySem.W.mroIn K C (.type "object")=Ya true):qd K H (.ref a) (.ref C)
theorem BW{x:V}{u t:Yh}(I:Inv X pins σ H s)(rx:RelV x u)(ty:qd X.K H x t)(e:YM X.K t c=Ya b)(h:∀tk,Q (.bool b) {s with toks:=tk}):
  ao (aB X.prog X.w) A (call (.builtin "isinstance") [u,c]) Q E s:=by
 cases ty with
 |non=>cases(show u=Value.none from rx);exact pR YG I.fj True.intro e (λz=>nomatch z) h|bl y=>cases(show u=Value.bool y from rx);exact pR YH I.fj True.intro e (λz=>nomatch z) h|int i=>obtain⟨t,q⟩:=(show∃t,u=Value.int i t from rx);cases q;exact pR YK I.fj True.intro e (λz=>nomatch z) h|str y=>obtain⟨t,q⟩:=(show∃t,u=Value.str y t from rx);cases q;exact pR YL I.fj True.intro e (λz=>nomatch z) h
 |flt y=>obtain⟨t,q⟩:=(show∃t,u=Value.float y t from rx);cases q;exact pR PySem.W.kitx_float I.fj True.intro e (λz=>nomatch z) h|@lst a xs ea=>
  cases(show u=Value.ref a from rx)
  obtain⟨_,_,n,_,h1⟩:=(show gQ X.prog X.w H s.heap a (.lst xs)from I.hok a _ ea);exact pR Qs I.fj ⟨_,h1,rfl⟩ e (λz=>nomatch z) h
 | @fc a ob xs ea=>
  cases(show u=Value.ref a from rx)
  obtain⟨_,_,_,n,_,h1⟩:=(show gQ X.prog X.w H s.heap a (.fc ob (.lst xs))from I.hok a _ ea);exact pR Qs I.fj ⟨_,h1,rfl⟩ e (λz=>nomatch z) h
 | @tup a xs ea=>
  cases(show u=Value.ref a from rx)
  obtain⟨_,_,_,p⟩:=(show gQ X.prog X.w H s.heap a (.tup xs)from I.hok a _ ea);obtain⟨o,h1,h2,_⟩:=p;exact pR Qo I.fj ⟨o,h1,h2.1⟩ e (λz=>nomatch z) h
 | @dK a kvs ea=>
  cases(show u=Value.ref a from rx)
  obtain⟨_,_,vs,_,p⟩:=(show gQ X.prog X.w H s.heap a (.dK kvs)from I.hok a _ ea);obtain⟨o,es,ep,h1,h2,_⟩:=p;exact pR Qt I.fj ⟨o,h1,h2.1⟩ e (λz=>nomatch z) h
 | @dT a kvs ea=>
  cases(show u=Value.ref a from rx)
  obtain⟨_,_,xs,_,o,es,ep,h1,h2,_⟩:=(show gQ X.prog X.w H s.heap a (.dT kvs)from I.hok a _ ea);exact pR Qt I.fj ⟨o,h1,h2.1⟩ e (λz=>nomatch z) h
 | @ins a C dx fs ea cl ha hn htk hm=>
  cases(show u=Value.ref a from rx)
  obtain⟨mA,O,_⟩:=Tp I.hok ea;obtain⟨od,J,_⟩:=O.look;exact pR (PySem.W.kitx_own (cl.get _) cl.hd ha hn htk hm) I.fj J e (λz=>nomatch z) h
end
end L2
namespace L2
open PySem PySem.Spec PyProof.Rows
structure dU(k:Nat)(A:bU):Prop where
 hd:A.handled=Yl
 dp:A.depth+3*k+5<recursionLimit
 un:A.units+16*k+200<jG
 gd:A.guards=Ya []
variable{A:bU}
theorem dU.mono{j k:Nat}(r:dU k A)(h:j<=k):dU j A:=⟨r.hd,by have:=r.dp;exact lD 2 0x251b303d0cc11303251b103d0cc11 T1 this h,by have:=r.un;omega,r.gd⟩
theorem dU.deeper{k:Nat}(r:dU (k+1) A)(env:fH):dU k (A.deeper env):=⟨r.hd,by have:=r.dp;show A.depth+1+3*k+5<_;exact lC 1 0x251b103da0ccc1251ba1c03d0cc11 T1 this,by have:=r.un;show A.units+3+16*k+200<_;exact lC 1 0x2c82b110d31b0ccc12c82ba1c10d0cc11 T1 this,r.gd⟩
theorem dU.in1{k:Nat}(r:dU (k+1) A):dU k A.in1:=⟨r.hd,by have:=r.dp;show A.depth+3*k+5<_;exact lC 1 0x251b103d0cc1251ba1c03d0cc11 T1 this,by have:=r.un;show A.units+1+16*k+200<_;exact lC 1 0x2c82b110da0ccc12c82ba1c10d0cc11 T1 this,r.gd⟩
variable{us:List Yh}
theorem ZoD{C:Y2}{kw:List (aj×Yh)}:(A.under (.builtin "type.__call__" ⟨.ref C::us,kw⟩)).depth=A.depth+1:=by first|rfl|simp[Ku,Code.weight,Code.isCreation,Code.isGuard,Code.isCaller,Code.frames,R_,guardIds]
theorem Zou{C:Y2}{kw:List (aj×Yh)}:(A.under (.builtin "type.__call__" ⟨.ref C::us,kw⟩)).units=A.units+1:=by first|rfl|simp[Ku,Code.cUnits,Code.frames,R_]
theorem dU.make{k:Nat}(r:dU (k+1) A)(C:Y2)(us:List Yh)(kw:List (aj×Yh)):dU k (A.under (.builtin "type.__call__" ⟨.ref C::us,kw⟩)):=⟨r.hd,by have:=r.dp;rw[ZoD];exact lC 1 0x251b103da0ccc1251ba1c03d0cc11 T1 this,by have:=r.un;rw[Zou];exact lC 1 0x2c82b110da0ccc12c82ba1c10d0cc11 T1 this,by have:=r.gd;first|exact this|simpa[Ku,Code.isGuard,guardIds]using this⟩
theorem dU.depth{k:Nat}(r:dU k A):A.depth<recursionLimit:=by have:=r.dp;exact lC 1 0x201251b103d0cc11 T1 this
theorem dU.units{k:Nat}(r:dU k A):A.units+64<jG:=by have:=r.un;exact lC 1 0x2402b0c12c82b110d0cc11 T1 this
def ZxQ:TA:=λ_ H Q=>Q [] H
def ZuE(ta:TE)(tr:TA):TA:=λσ H Q=>ta σ H λx H1=>tr σ H1 λxs H2=>Q (x::xs) H2
section
variable {X:Cx} {e:Expr} {es:List Expr} {te:TE} {t:TA} {pos:aU}
theorem Gz:PA X [] ZxQ:=λ_ _ _ _ H Q I h=>Yks ⟨[],H,I,.nil,h⟩
theorem wH(ha:PE X e te)(hr:PA X es t)(hs:Yy (e::es) X.env=(false,aN e X.env)::Yy es X.env:=by rfl):PA X (e::es) (ZuE te t):=by intro pos pins s σ H Q I h;rw[hs];show ao _ _ (J1 ((false,aN e X.env)::cL pos (Yy es X.env))) _ _ s;refine R9 (aK (ha pins s σ H _ I h) λu s1 ak=>?_);obtain⟨x,H1,I1,r1,q1⟩:=ak;exact aK (hr pos pins s1 σ H1 _ I1 q1) λus s2 ⟨xs,H2,I2,r2,q2⟩=>⟨x::xs,H2,I2,.cons r1 r2,q2⟩
def Zzz(t:TA):TE:=λσ H Q=>t σ H λxs H1=>xs.length<=bH/\∀p,H1 p=Yl->Q (.ref p) (upd H1 p (.tup xs))
def Zy7(t:TA):TE:=λσ H Q=>t σ H λxs H1=>xs.length<=bH/\∀p,H1 p=Yl->Q (.ref p) (upd H1 p (.lst xs))
theorem Zrb{x1}(h:PA X es t):PE X (.Tuple es x1 pos) (Zzz t):=by intro pins s σ H Q I hq;refine wpAny_Tuple_spliced (aK (h pos pins s σ H _ I hq) λus s1 ⟨xs,H1,I1,r,z,q⟩=>⟨by rw[←r.length];exact z,?_⟩);have hf:H1 s1.heap.objs.size=Yl:=I1.hok.fresh (Yt _);refine⟨.ref s1.heap.objs.size,upd H1 s1.heap.objs.size (.tup xs),I1.laid (t':=s1.toks) (λb u e=>Yn _ e) (Yt _) ?_,rfl,q _ hf⟩;exact⟨z,us,r,⟨_,Y4 _ rfl,⟨rfl,rfl⟩,_,rfl⟩⟩
theorem ZwR(h:PA X es t):PE X (.List es pos) (Zy7 t):=by intro pins s σ H Q I hq;refine wpAny_List_spliced (aK (h pos pins s σ H _ I hq) λus s1 ⟨xs,H1,I1,r,z,q⟩=>⟨by rw[←r.length];exact z,?_⟩);have hf:H1 s1.heap.objs.size=Yl:=I1.hok.fresh (Yt _);refine⟨.ref s1.heap.objs.size,upd H1 s1.heap.objs.size (.lst xs),I1.laid (t':=s1.toks) (λb u e=>Yn _ e) (Yt _) ?_,rfl,q _ hf⟩;exact⟨z,us,0,r,Y4 _ rfl⟩
end
noncomputable abbrev Sp:=List V->Hp->VK->XK->Prop
noncomputable abbrev qe:=List fH->Hp->Yk->XK->Yh->Yk->Prop
structure sZ(P:Yae)(w:bh)(K:Yb)(mg:aj->Option Yh)(base:aR)(A:bU)(outer:List fH)(s:Yk)(H:Hp):Prop where
 frames:A.frames=Ya outer
 mod:Mod K mg base
 bs:∀b o,base.get? b=Ya o->s.heap.get? b=Ya o/\H b=Yl
 qX:base.objs.size<=s.heap.objs.size
 o5:s.heap.FunFrames base outer
 wF:∀b∈frs outer,H b=Yl
 hok:ig P w H s.heap
 bare:uE s.gens
def CE(outer:List fH)(P:Yae)(w:bh)(H:Hp)(s:Yk)(Q:VK)(u:Yh)(s':Yk):Prop:=∃v H',s'.os=s.os/\uE s'.gens/\Un (frs outer) [] H H' s.heap s'.heap/\ig P w H' s'.heap/\RelV v u/\Q v H'
def CR(CX:qe)(outer:List fH)(P:Yae)(w:bh)(H:Hp)(s:Yk)(Q:VK)(E:XK)(r:uy)(s':Yk):Prop:=
 match r with
 | .ok (.ret u)=>CE outer P w H s Q u s'|.ok _=>False|.error e=>CX outer H s E e s'
structure jK(P:Yae)(w:bh)(K:Yb)(mg:aj->Option Yh)(base:aR)(CX:qe)(k:Nat)(f:Y2)(fd:lM)(ps:List aj)(sp:Sp):Prop where
 len:∀vs H Q E,sp vs H Q E->vs.length=ps.length
 run:∀(A:bU) (outer:List fH) (s:Yk) (H:Hp) (args:Args) (us:List Yh) (vs:List V) (Q:VK) (E:XK),dU k A->sZ P w K mg base A outer s H->Bd s fd args (ps.zip us)->Vals vs us->sp vs H Q E ->
  nR (aB P w) A (.call (.ref f) args) (CR CX outer P w H s Q E) s
variable{K:Yb}{base:aR}{mg:aj->Option Yh}{ps:List aj}{w:bh}{P:Yae}
theorem jK.mono{CX:qe}{j k:Nat}{f:Y2}{fd:lM}{sp:Sp}(F:jK P w K mg base CX j f fd ps sp)(h:j<=k):
  jK P w K mg base CX k f fd ps sp:=⟨F.len,λA outer s H args us vs Q E hr=>F.run A outer s H args us vs Q E (hr.mono h)⟩
variable{H:Hp}{s:Yk}{outer:List fH}
theorem sZ.make(e:sZ P w K mg base A outer s H)(C:Y2)(us:List Yh)(kw:List (aj×Yh)):
  sZ P w K mg base (A.under (.builtin "type.__call__" ⟨.ref C::us,kw⟩)) outer s H:=⟨by first|exact e.frames|(simpa[Ku,Code.envs,R_,pushEnvs]using e.frames),e.mod,e.bs,e.qX,e.o5,e.wF,e.hok,e.bare⟩
theorem sZ.in1(e:sZ P w K mg base A outer s H):
  sZ P w K mg base A.in1 outer s H:=⟨e.frames,e.mod,e.bs,e.qX,e.o5,e.wF,e.hok,e.bare⟩
section
variable {X:Cx} {pins:List (Y2×aO)} {σ:St} {H:Hp} {s s':Yk}
theorem Inv.env0(I:Inv X pins σ H s):sZ X.prog X.w X.K X.mg X.base X.A X.stack s H:=⟨I.ok.frames,I.ok.mod,I.bs,Yi I.ok.qX I.sz,I.stack,I.Xu,I.hok,I.bare⟩
theorem Inv.after{Q:VK}{u:Yh}(I:Inv X pins σ H s)(h:CE X.stack X.prog X.w H s Q u s'):EP X pins σ Q u s':=by obtain⟨v,H',os,bare,un,hok,r,q⟩:=h;obtain⟨hh,g,d,t,os'⟩:=s';obtain rfl:os'=s.os:=os;exact⟨v,H',I.call (h':=hh) (g':=g) (d':=d) (t':=t) (ch:=[]) un hok bare (λb z=>absurd z (by simp)),r,q⟩
end
def ZxK(sp:Sp)(mH:List V)(E:XK)(t:TA):TE:=λσ H Q=>t σ H λvs H1=>sp (vs++mH) H1 Q E
def Zyp(C:Y2)(sp:Sp)(mH:List V)(E:XK)(t:TA):TE:=λσ H Q=>t σ H λvs H1=>∀x dx,H1 x=Yl->H1 dx=Yl->dx≠x ->
 sp (.ref x::(vs++mH)) (upd (upd H1 dx (.own x)) x (.ins C dx [])) (λv H2=>v= .non/\Q (.ref x) H2) E
def Binds(K:Yb)(fd:lM)(ps:List aj)(ds:List Yh):Prop:=∀(s:Yk) (us:List Yh),K.In s.heap->(us++ds).length=ps.length->Bd s fd ⟨us,[]⟩ (ps.zip (us++ds))
theorem Binds.all{fd:lM}(h:∀us:List Yh,us.length=ps.length->bindArgs fd ⟨us,[]⟩=pure (ps.zip us)):Binds K fd ps []:=λs us _ hl=>by rw[jZ]at hl ⊢;exact .of_eq (h us hl)
def GD(CX:qe)(X:Cx)(E:XK):Prop:=∀(pins:List (Y2×aO)) (σ:St) (H:Hp) (s:Yk) (e:Yh) (s':Yk),Inv X pins σ H s->CX X.stack H s E e s'->X.xe e s'
variable{vs:List V}
section
variable {X:Cx} {CX:qe} {k:Nat} {f C:Y2} {fd:lM} {ps:List aj} {sp:Sp} {mH:List V} {ds:List Yh} {E:XK} {x m:aj} {p pos apos:aU} {e o:Expr} {es:List Expr} {ta:TE} {t:TA}
theorem Zxb{pins:List (Y2×aO)}{σ:St}{Q:VK}(F:jK X.prog X.w X.K X.mg X.base CX k f fd ps sp)(hr:dU k X.A)(hb:Binds X.K fd ps ds)(hd:Vals mH ds)(hx:GD CX X E)(I:Inv X pins σ H s)(r:Vals vs us)(h:sp (vs++mH) H Q E):ao (aB X.prog X.w) X.A (call (.ref f) us) (EP X pins σ Q) X.xe s:=by
 have r2:Vals (vs++mH) (us++ds):=r.append hd;have hl:(us++ds).length=ps.length:=by rw[←r2.length];exact F.len _ _ _ _ h
 refine FT (v4 (F.run X.A X.stack s H ⟨us,[]⟩ (us++ds) (vs++mH) Q E hr I.env0 (hb s us I.fj hl) r2 h) λr s' hq=>?_);cases r with
 |error e=>exact hx pins σ H s e s' I hq|ok fl=>
  cases fl with
  |ret u=>exact I.after hq|next=>exact jH hq|brk=>exact jH hq|cont=>exact jH hq
theorem Ztt(F:jK X.prog X.w X.K X.mg X.base CX k f fd ps sp)(hr:dU k X.A)(hg:Gl X x)(hm:X.mg x=Ya (.ref f))(hk:ug X.K (.ref f)=true)(hb:Binds X.K fd ps ds)(hd:Vals mH ds)(hx:GD CX X E)(ha:PA X (e::es) t)(hdb:(x==("__debug__":aj))=false:=by decide)(he:Yy (e::es) X.env=(false,aN e X.env)::Yy es X.env:=by rfl)(hpl:(cL pos (Yy es X.env)).any (·.1)=false:=by rfl):
  PE X (.Call (.Name x p) (e::es) [] pos) (ZxK sp mH E t):=by
 intro pins s σ H Q I h;refine Az (S_ I hg hm ?_ hdb);refine YF (h₀:=X.base) I.ok.mod.Gv hk (aK (ha pos pins s σ H _ I h) λus s1 ⟨vs,H1,I1,r,q⟩=>⟨I1.fj,?_⟩) he hpl;exact Zxb F hr hb hd hx I1 r q
structure Mk(K:Yb)(C f:Y2):Prop where
 makes:Jv K C=true
 init:nJ K (.ref C) "__init__" =Ya (Ya (.ref f))
 fn:Jw K (.ref f)=true
 kp:ug K (.ref C)=true
theorem ZqV{pins:List (Y2×aO)}{σ:St}{Q:VK}(M:Mk X.K C f)(F:jK X.prog X.w X.K X.mg X.base CX k f fd ps sp)(hr:dU (k+1) X.A)(hb:Binds X.K fd ps ds)(hd:Vals mH ds)(hx:GD CX X E)(I:Inv X pins σ H s)(r:Vals vs us)(h:∀x dx,H x=Yl->H dx=Yl->dx≠x->sp (.ref x::(vs++mH)) (upd (upd H dx (.own x)) x (.ins C dx [])) (λv H2=>v= .non/\Q (.ref x) H2) E):
  ao (aB X.prog X.w) X.A (call (.ref C) us) (EP X pins σ Q) X.xe s:=by
 have hq:=h (s.heap.objs.size+1) s.heap.objs.size (I.hok.fresh (wA _)) (I.hok.fresh (Yt _)) (dR (F_ _));have I2:=Inv.made (C:=C) I;have r2:Vals (V.ref (s.heap.objs.size+1)::(vs++mH)) (Value.ref (s.heap.objs.size+1)::(us++ds)):=.cons rfl (r.append hd);have hl:(Value.ref (s.heap.objs.size+1)::us++ds).length=ps.length:=by have e:=r2.length;rw[F.len _ _ _ _ hq]at e;exact e.symm
 refine FT (ZsJ (f:=f) I.fj M.makes M.init (beq_iff_eq.mp M.fn) (v4 (F.run _ X.stack _ _ ⟨Value.ref (s.heap.objs.size+1)::us,[]⟩ (Value.ref (s.heap.objs.size+1)::(us++ds)) _ _ E (hr.make C us [])
  (I2.env0.make C us []) (hb _ (Value.ref (s.heap.objs.size+1)::us) I2.fj hl) r2 hq) λr s' hq'=>?_))
 cases r with
 |error e=>exact hx pins σ _ _ e s' I2 hq'|ok fl=>
  cases fl with
  |ret u=>obtain⟨v,H',I3,rv,ev,q3⟩:=I2.after hq';subst ev;exact⟨rv,⟨V.ref (s.heap.objs.size+1),H',I3,rfl,q3⟩⟩|next=>exact jH hq'|brk=>exact jH hq'
  |cont=>exact jH hq'
theorem ZtM(M:Mk X.K C f)(F:jK X.prog X.w X.K X.mg X.base CX k f fd ps sp)(hr:dU (k+1) X.A)(hg:Gl X x)(hm:X.mg x=Ya (.ref C))(hb:Binds X.K fd ps ds)(hd:Vals mH ds)(hx:GD CX X E)(ha:PA X (e::es) t)(hdb:(x==("__debug__":aj))=false:=by decide)(he:Yy (e::es) X.env=(false,aN e X.env)::Yy es X.env:=by rfl)(hpl:(cL pos (Yy es X.env)).any (·.1)=false:=by rfl):
  PE X (.Call (.Name x p) (e::es) [] pos) (Zyp C sp mH E t):=by
 intro pins s σ H Q I h;refine Az (S_ I hg hm ?_ hdb);refine YF (h₀:=X.base) I.ok.mod.Gv M.kp (aK (ha pos pins s σ H _ I h) λus s1 ⟨vs,H1,I1,r,q⟩=>⟨I1.fj,?_⟩) he hpl;exact ZqV M F hr hb hd hx I1 r q
end
def PK(X:Cx)(kws:List Keyword)(t:TA):Prop:=∀(pos:aU) (pins:List (Y2×aO)) (s:Yk) (σ:St) (H:Hp) (Q:List V->Hp->Prop),Inv X pins σ H s->t σ H Q->ao (aB X.prog X.w) X.A (J3 ((jb pos (iZ kws X.env)).map (·.2))) (AP X pins σ Q) X.xe s
section
variable {X:Cx} {CX:qe} {k:Nat} {f C:Y2} {fd:lM} {ps ks:List aj} {sp:Sp} {E:XK} {x m:aj} {p pos apos kpos:aU} {e o:Expr} {es:List Expr} {kws:List Keyword} {te ta:TE} {t tk:TA} {nm:Option aj}
theorem Zr5:PK X [] ZxQ:=λ_ _ _ _ H Q I h=>wpAny_evalAll_nil ⟨[],H,I,.nil,h⟩
theorem Zpo(ha:PE X e te)(hr:PK X kws t):PK X (⟨nm,e,kpos⟩::kws) (ZuE te t):=by intro pos pins s σ H Q I h;show ao _ _ (J3 ((do let v ←aN e X.env;FZ pos;pure v)::(jb pos (iZ kws X.env)).map (·.2))) _ _ s;refine wpAny_evalAll_cons (Yg (aK (ha pins s σ H _ I h) λu s1 ⟨x,H1,I1,r1,q1⟩=>Yg (vZ (Yv ?_))));exact aK (hr pos pins s1 σ H1 _ I1 q1) λus s2 ⟨xs,H2,I2,r2,q2⟩=>⟨x::xs,H2,I2,.cons r1 r2,q2⟩
variable {g:List Yh->List Yh->List Yh} {gV:List V->List V->List V}
end
structure cU(N P:List aj)(sc:Scope):Prop where
 kind:sc.kind= .function
 co:sc.isCoroutine=false
 gen:sc.isGenerator=false
 nd:N.Nodup
 pre:N.take P.length=P
 par:∀x∈P,sc.names.lookup x=Ya .local\/sc.names.lookup x=Ya .cell
 Abe:∀y∈sc.names,y.2≠ .free
theorem ZkV{nY:aj->Option NameKind}{x:aj}:∀{binds:List (aj×Yh)} {m:aj->Option Yh},(∀v,(x,v)∉binds)->wg nY binds m x=m x
 |[],_,_=>rfl|(n,v)::r,m,h=>by
  unfold wg;rw[ZkV λw hw=>h w (Yd _ hw)];split
  .have:x≠n:=by rintro rfl;exact h v Yc
   simp[this]
  .rfl
theorem Zlb{nY:aj->Option NameKind}{x:aj}:∀{binds:List (aj×Yh)} {m:aj->Option Yh},(∀v,(x,v)∉binds)->wj nY binds m x=m x
 |[],_,_=>rfl|(n,v)::r,m,h=>by
  unfold wj;rw[Zlb λw hw=>h w (Yd _ hw)];split
  .rfl
  .have:x≠n:=by rintro rfl;exact h v Yc
   simp[this]
theorem ZkH{nY:aj->Option NameKind}{x:aj}{v:Yh}:∀{P:List aj} {vs:List Yh} {i:Nat} {m:aj->Option Yh},P.Nodup->P[i]?=Ya x->vs[i]?=Ya v->nY x=Ya .local ->
  wg nY (P.zip vs) m x=Ya v
 |[],_,_,_,_,h,_,_=>by simp at h|_::_,[],_,_,_,_,h,_=>by simp at h|p::P,w::vs,0,m,nd,h1,h2,hk=>by simp at h1 h2;subst h1;subst h2;show wg nY ((p,w)::P.zip vs) m p=_;unfold wg;rw[ZkV λv hv=>(iK.mp nd).1 (QG hv).1,if_pos hk];simp|p::P,w::vs,i+1,m,nd,h1,h2,hk=>by show wg nY ((p,w)::P.zip vs) m x=_;unfold wg;exact ZkH (i:=i) (iK.mp nd).2 (by simpa using h1) (by simpa using h2) hk
theorem Zk9{nY:aj->Option NameKind}{x:aj}{v:Yh}:∀{P:List aj} {vs:List Yh} {i:Nat} {m:aj->Option Yh},P.Nodup->P[i]?=Ya x->vs[i]?=Ya v->nY x≠Ya .local ->
  wj nY (P.zip vs) m x=Ya v
 |[],_,_,_,_,h,_,_=>by simp at h|_::_,[],_,_,_,_,h,_=>by simp at h|p::P,w::vs,0,m,nd,h1,h2,hk=>by simp at h1 h2;subst h1;subst h2;show wj nY ((p,w)::P.zip vs) m p=_;unfold wj;rw[Zlb λv hv=>(iK.mp nd).1 (QG hv).1,if_neg hk];simp|p::P,w::vs,i+1,m,nd,h1,h2,hk=>by show wj nY ((p,w)::P.zip vs) m x=_;unfold wj;exact Zk9 (i:=i) (iK.mp nd).2 (by simpa using h1) (by simpa using h2) hk
noncomputable def start(N:List aj)(vs:List V):St:=vs.map Ya++Yr (N.length-vs.length) Yl
noncomputable def uM(CX:qe)(P:Yae)(w:bh)(K:Yb)(mg:aj->Option Yh)(base:aR)(N:List aj)(qual:aj)(scope:Scope)(f:Y2)(cd:Yh)(A:bU)(outer:List fH)(s:Yk)(H:Hp)(E:XK):Cx where
 prog:=P
 w:=w
 K:=K
 mg:=mg
 base:=base
 A:=A.deeper (p6 qual scope s.heap.objs.size f cd)
 N:=N
 s₀:=s
 H₀:=H
 env:=p6 qual scope s.heap.objs.size f cd
 outer:=outer
 stack:=p6 qual scope s.heap.objs.size f cd::outer
 ex:=[]
 calm:=true
 fn:=λ_=>true
 pn:=[]
 xe:=λe s'=>ao (aB P w) (A.deeper (p6 qual scope s.heap.objs.size f cd)) (leaving (p6 qual scope s.heap.objs.size f cd) e) (λ_ s''=>CX outer H s E e s'') (λe' s''=>CX outer H s E e' s'') s'
theorem ZmC{sc:Scope}{n:Nat}{x:aj}(h:sc.names.lookup x=Ya .cell):∃c,(Rb n sc.names []).lookup x=Ya c:=by have q:=YD sc.names n [] (.inl h);exact Jr.mp q
theorem Zqb{CX:qe}{N:List aj}{qual:aj}{scope:Scope}{f:Y2}{cd:Yh}{s1:Yk}{E:XK}(S:cU N ps scope)(hd:A.handled=Yl)(e0:sZ P w K mg base A outer s H)(hl:vs.length=ps.length)(r:Vals vs us)(x:InCallC s s.heap.objs.size (wg (p6 qual scope s.heap.objs.size f cd).kindOf (ps.zip us) λ_=>Yl) (Rb (s.heap.objs.size+1) scope.names []) (wj (p6 qual scope s.heap.objs.size f cd).kindOf (ps.zip us) λ_=>Yl) s1):
  Inv (uM CX P w K mg base N qual scope f cd A outer s H E) [] (start N vs) H s1:=by
 have hpl:ps.length<=N.length:=by have:=congrArg ur S.pre;rw[Aw]at this;omega
 obtain⟨h1,tk,rfl,hk⟩:=x.done;have GF:∀b:Y2,b∉(uM CX P w K mg base N qual scope f cd A outer s H E).ex:=λb z=>absurd (show b∈([]:List Y2)from z) (by simp);refine⟨⟨e0.mod,S.kind,rfl,rfl,Yt _,λy z c h1 h2=>?_,λy hy=>?_,λy c _ h=>?_,λ_=>hd,Around.frames_deeper e0.frames,.inr ⟨rfl,rfl⟩,λb z=>absurd z (GF b),e0.bs,e0.qX,λb _ _=>GF b,λb z=>absurd z (GF b),e0.o5,e0.wF⟩,
  rfl,e0.bare,Un.kept hk,⟨_,x.toInCall.ns,λi y v h1 h2 h3=>?_⟩,λy c h=>⟨_,x.cell y c h⟩,e0.hok.fresh (Yt _),λy c h=>?_,λp hp=>absurd (show p∈([]:List (Y2×aO))from hp) (by simp),e0.hok.kept hk,?_⟩
 .exact name_of_addr x.apart (ut h1) (ut h2)
 .have hy:scope.names.lookup y=Ya .cell\/scope.names.lookup y=Ya .free:=hy;rcases hy with hy|hy
  .exact ZmC hy
  .exact absurd rfl (S.Abe _ (ut hy))
 .exact Bl (x.above y c (ut h))
 .have hi:i<vs.length:=by
   unfold start at h2;by_cases hi:i<vs.length
   .exact hi
   .rw[xX (by simpa using hi)]at h2;rw[Jy]at h2;split at h2<;>cases h2
  have ha:vs[i]?=Ya v:=by
   unfold start at h2;rw[Yj (by simpa using hi),lH]at h2;cases e:vs[i]? with
   |none=>rw[e]at h2;cases h2|some a=>rw[e]at h2;cases h2;rfl
  obtain⟨u,hu,rv⟩:=r.get ha;have hp:ps[i]?=Ya y:=by rw[←S.pre,xY (by exact lC 2 2203874037777 T1 hi hl)];exact h1
  have ndP:ps.Nodup:=by rw[←S.pre];exact S.nd.sublist (ZL _ _)
  refine⟨u,rv,?_⟩;rcases S.par y (xZ hp)with k|k
  .exact .inl ⟨k,ZkH ndP hp hu k⟩
  .obtain⟨c,e⟩:=ZmC (n:=s.heap.objs.size+1) k;refine .inr ⟨.inl k,c,e,?_⟩;have q:=x.cell y c e;rw[Zk9 ndP hp hu (by show scope.names.lookup y≠_;rw[k];decide)]at q;exact q
 .exact e0.hok.fresh (Bl (x.above y c (ut h)))
 .unfold start;show _=N.length;rw[Ye,Yu,nP];exact Y0 (lC 1 2206541614113 T1 (Y8 (lC 2 1236986302465 T1 hpl hl))) (lC 1 1288492400641 T1 (gH _ _))
theorem Zxx{CX:qe}{k:Nat}{f:Y2}{name qual:aj}{params:Arguments}{body:List Yd0}{scope:Scope}{dV kV doc pm cdv ct oc:Yh}{an od:Option Y2}{osl:Array (Option Yh)}{N:List aj}{sp:Sp}(lk:K.lookup f=Ya ⟨oc,od,.func (sH name qual params body scope dV kV doc pm an cdv ct),osl⟩)(hcd:Fp K cdv qual=true)(S:cU N ps scope)(len:∀vs H Q E,sp vs H Q E->vs.length=ps.length)(hbody:∀(A:bU) (outer:List fH) (s:Yk) (H:Hp) (vs:List V) (Q:VK) (E:XK),dU k (A.deeper (p6 qual scope s.heap.objs.size f cdv))->sp vs H Q E ->
   ∃t,kJ (uM CX P w K mg base N qual scope f cdv A outer s H E) body t/\t {nx:=λ_ H'=>Q .non H',rt:=Q} (start N vs) H):
  jK P w K mg base CX (k+1) f (sH name qual params body scope dV kV doc pm an cdv ct) ps sp:=by
 refine⟨len,λA outer s H args us vs Q E hr e0 hb r hsp=>?_⟩;have hl:=len _ _ _ _ hsp;have KX:K.In s.heap:=e0.mod.Gv.keeps λb o e=>(e0.bs b o e).1;have lim:s.heap.NoLimit:=e0.mod.nolimit.keeps λb o e=>(e0.bs b o e).1;have hkind:∀y∈ps.zip us,scope.names.lookup y.1=Ya .local\/(scope.names.lookup y.1=Ya .cell/\((Rb (s.heap.objs.size+1) scope.names []).lookup y.1).isSome=true):=λ⟨n,v⟩ hy=>by
  rcases S.par n (QG hy).1 with q|q
  .exact .inl q
  .exact .inr ⟨q,YD _ _ _ (.inl q)⟩
 refine codeAny_call_function hr.depth (KX _ _ lk) rfl S.co S.gen rfl (PySem.W.codeRec_of KX hcd) (hb _ _ _ _ ?_);refine wpAny_newFunctionEnv_cells S.kind hkind λenv he s1 x=>?_;subst he;refine⟨lim.keeps x.toInCall.keep,codeAny_func ?_⟩;obtain⟨t,ht,hq⟩:=hbody A outer s H vs Q E (hr.deeper _) hsp;have I:Inv (uM CX P w K mg base N qual scope f cdv A outer s H E) [] (start N vs) H s1:=Zqb S hr.hd e0 hl r x;refine j4 (ht [] s1 (start N vs) H _ I hq) (λfl s' hs=>?_) λe s' hs=>hs;have fin:∀{σ':St} {H':Hp} {v:V} {u:Yh},Inv (uM CX P w K mg base N qual scope f cdv A outer s H E) [] σ' H' s'->RelV v u->Q v H'->CE outer P w H s Q u s':=λ{σ' H' v u} J rv q=>⟨v,H',J.os,J.bare,J.base,J.hok,rv,q⟩;cases fl with
 |ret u=>obtain⟨v,σ',H',J,rv,q⟩:=hs;exact fin J rv q|next=>obtain⟨σ',H',J,q⟩:=hs;exact fin (v:=V.non) (u:=Value.none) J rfl q|brk=>obtain⟨_,_,_,q⟩:=hs;exact jH q|cont=>obtain⟨_,_,_,q⟩:=hs;exact jH q
end L2
namespace L2
open PySem PySem.Spec PyProof.Rows
section
variable {X:Cx} {x:aj} {p pos:aU} {e:Expr} {es:List Expr} {t:TA} {id T:String} {r:List V->Hp->VK->Prop}
def Tq(r:List V->Hp->VK->Prop)(t:TA):TE:=λσ H Q=>t σ H λvs H1=>r vs H1 Q
theorem Lg(hc:dm X (.builtin id) r)(hg:Gl X x)(hm:X.mg x=Yl)(hv:kI x=Ya (.builtin id))(ha:PA X (e::es) t)(hn:x≠ "__name__":=by decide)(hdb:(x==("__debug__":aj))=false:=by decide)(he:Yy (e::es) X.env=(false,aN e X.env)::Yy es X.env:=by rfl)(hpl:(cL pos (Yy es X.env)).any (·.1)=false:=by rfl):PE X (.Call (.Name x p) (e::es) [] pos) (Tq r t):=by intro pins s σ H Q I h;refine Az (yG I hg hm hv ?_ hn hdb);exact PyProof.Rows.callWith_builtin1 (aK (ha pos pins s σ H _ I h) λus s1 ⟨vs,H1,I1,r1,q1⟩=>hc pins s1 σ H1 vs us Q I1 r1 q1) he hpl
theorem Zk3(hc:dm X (.type T) r)(hg:Gl X x)(hm:X.mg x=Yl)(hv:kI x=Ya (.type T))(ha:PA X (e::es) t)(hn:x≠ "__name__":=by decide)(hdb:(x==("__debug__":aj))=false:=by decide)(he:Yy (e::es) X.env=(false,aN e X.env)::Yy es X.env:=by rfl)(hpl:(cL pos (Yy es X.env)).any (·.1)=false:=by rfl):PE X (.Call (.Name x p) (e::es) [] pos) (Tq r t):=by intro pins s σ H Q I h;refine Az (yG I hg hm hv ?_ hn hdb);exact Rz (aK (ha pos pins s σ H _ I h) λus s1 ⟨vs,H1,I1,r1,q1⟩=>hc pins s1 σ H1 vs us Q I1 r1 q1) he hpl
end
end L2
namespace HT
open PySem PyProof.Rows
section
variable {prog:Yae} {w:bh} {A:bU} {E:Yh->Yk->Prop} {s:Yk}
theorem Aa3{t b:Y2}{vs ws:List Yh}{Q:Yh->Yk->Prop}(ht:IsTup s.heap t vs.toArray)(hb:IsTup s.heap b ws.toArray)(hv:vs≠[])(h1:ws=[]->Q (.ref t) s)(h2:ws≠[]->Q (.ref s.heap.objs.size) {s with heap:=s.heap.push {cls:=.type "tuple",data:=.seq (vs++ws).toArray}})(hsz:vs.length+ws.length<=bH):ao (aB prog w) A (i_ .Add (.ref t) (.ref b)) Q E s:=by
 obtain⟨⟨cls,dd,data,sl⟩,ho,hc,n,hd⟩:=id ht;obtain⟨⟨cls2,dd2,data2,sl2⟩,ho2,hc2,n2,hd2⟩:=id hb;simp only at hc hd hc2 hd2;subst hc hd hc2 hd2;have e:vs.toArray++ws.toArray=(vs++ws).toArray:=by simp
 by_cases hw:ws=[]
 .exact Q4 ⟨_,ho,rfl⟩ ⟨_,ho2,rfl⟩ QS Q0 RN RL (RK _ _)
   (tuple_addW1 t b vs.toArray ws.toArray n n2 dd dd2 sl sl2 (by simpa using hv) (by simp[hw])) ⟨ho,ho2,h1 hw⟩
 .refine Q4 ⟨_,ho,rfl⟩ ⟨_,ho2,rfl⟩ QS Q0 RN RL (RK _ _)
   (tuple_addW2 t b vs.toArray ws.toArray n n2 dd dd2 sl sl2 (by simpa using hv) (by simpa using hw) (by rw[Yq,Yq];exact hsz)) ⟨ho,ho2,?_⟩
  rw[e];exact h2 hw
noncomputable def aF(n d:Nat):Option Int->Nat
 |none=>d|some v=>if v<0 then(v+(n:Int)).toNat else jJ v.toNat n
theorem Tr(n d:Nat):aF n d Yl=d:=rfl
theorem GJ(n d k:Nat):aF n d (Ya (k:Int))=jJ k n:=by show(if(k:Int)<0 then((k:Int)+(n:Int)).toNat else jJ (k:Int).toNat n)=jJ k n;rw[if_neg (Ry.2 (Gg _)),sU]
theorem Lh(n d:Nat)(hd:d<=n)(o:Option Int):aF n d o<=n:=by
 cases o with
 |none=>exact hd|some v=>
  show(if v<0 then(v+(n:Int)).toNat else jJ v.toNat n)<=n;by_cases hv:v<0
  .rw[if_pos hv];omega
  .rw[if_neg hv];exact Rj _ _
theorem ZoQ(v:Int)(n d:Nat):(if v<0 then max (v+(n:Int)) 0 else jJ v (n:Int))=((aF n d (Ya v):Nat):Int):=by
 show(if v<0 then max (v+(n:Int)) 0 else jJ v (n:Int))=(((if v<0 then(v+(n:Int)).toNat else jJ v.toNat n):Nat):Int);by_cases hv:v<0
 .simp only[if_pos hv];exact clA _
 .simp only[if_neg hv];exact clB _ _ hv
theorem ZnR(lo hi:Option Int)(n:Nat):R4 lo hi 1 (n:Int)=(((aF n 0 lo:Nat):Int),((aF n n hi:Nat):Int)):=by
 have h1:¬((1:Int)<0):=by decide
 unfold R4;simp only[h1,if_false];refine Prod.ext ?_ ?_
 .cases lo with
  |none=>rfl|some v=>exact ZoQ v n 0
 .cases hi with
  |none=>rfl|some v=>exact ZoQ v n n
theorem Zoe(i j:Nat):Kr (i:Int) (j:Int) 1=j-i:=by
 unfold Kr;have h1:(1:Int)>0:=by decide
 simp only[h1,if_true,Int.ediv_one];split <;>omega
theorem Zj8{v:Yh}{o:Option Int}{Q:Option Int->Yk->Prop}(p:IsPart v o)(h:Q o s):ao (aB prog w) A (Builtin.Slice.slicePartIndex v) Q E s:=by
 cases p with
 |none=>exact slicePart_none h|int i t=>exact slicePart_int h
theorem Xq{sl:Y2}{vl vu:Yh}{lo hi:Option Int}{n:Nat}{Q:Int×Int×Nat->Yk->Prop}(hs:s.heap.IsSliceOf sl vl vu .none)(pl:IsPart vl lo)(pu:IsPart vu hi)(h:Q (((aF n 0 lo:Nat):Int),1,aF n n hi-aF n 0 lo) s):ao (aB prog w) A (Ygj (.ref sl) (pure (n:Int))) Q E s:=by obtain⟨os,hos,hcs,hds⟩:=id hs;unfold Ygj Builtin.Slice.sliceFields;refine Yg (Yg (uw hos hds (x:=vl) rfl (Yg (uw hos hds (x:=vu) rfl (Yg (uw hos hds (x:=.none) rfl (Yv ?_)))))));refine Yg (slicePart_none ?_);show ao _ _ (if((1:Int)==0)=true then _ else _) _ _ s;rw[if_neg (by decide)];refine Yg (Zj8 pl (Yg (Zj8 pu (Yg (Yv ?_)))));show ao _ _ (match R4 lo hi 1 (n:Int)with|(lo,hi)=>pure (lo,(1:Int),Kr lo hi 1)) _ _ s;rw[ZnR lo hi n];show ao _ _ (pure (((aF n 0 lo:Nat):Int),(1:Int),Kr ((aF n 0 lo:Nat):Int) ((aF n n hi:Nat):Int) 1)) _ _ s;rw[Zoe];exact Yv h
theorem ZrZ(xs:Array Yh)(i k:Nat):((iw k).filterMap λ(m:Nat)=>xs[((i:Int)+(m:Int)*1).toNat]?).toArray=((xs.toList.drop i).take k).toArray:=by
 have e:(λ(m:Nat)=>xs[((i:Int)+(m:Int)*1).toNat]?)=λm=>xs[i+m]?:=by
  funext m;have:((i:Int)+(m:Int)*1).toNat=i+m:=by omega
  rw[this]
 rw[e];have:=pick_run xs i k;rw[ZK]at this;have e2:((λx=>xs[x]?) ∘ λx=>i+x)=λm=>xs[i+m]?:=rfl;rw[e2]at this;rw[this]
theorem Aad{t sl:Y2}{items:Array Yh}{vl vu:Yh}{lo hi:Option Int}{Q:Yh->Yk->Prop}(ht:IsTup s.heap t items)(hs:s.heap.IsSliceOf sl vl vu .none)(pl:IsPart vl lo)(pu:IsPart vu hi)(hw:¬(aF items.size 0 lo=0/\aF items.size items.size hi=items.size))(h:Q (.ref s.heap.objs.size) {s with heap:=s.heap.push {cls:=.type "tuple",data:=.seq ((items.toList.drop (aF items.size 0 lo)).take (aF items.size items.size hi-aF items.size 0 lo)).toArray}})(hsz:items.size<=bH):ao (aB prog w) A (qO (.ref t) (.ref sl)) Q E s:=by
 have Ji:sizeOk (.seq ((items.toList.drop (aF items.size 0 lo)).take (aF items.size items.size hi-aF items.size 0 lo)).toArray):=by show((items.toList.drop (aF items.size 0 lo)).take (aF items.size items.size hi-aF items.size 0 lo)).toArray.size<=bH;rw[Yq,Aw,ZR,Kw];exact lD 3 85606880155602945 T1 hsz (Ge _ _) (Rj _ _)
 have hj:aF items.size items.size hi<=items.size:=Lh _ _ (Yt _) hi;obtain⟨os,hos,hcs,hds⟩:=id hs;have hTs:s.TypeIs (.ref sl) "slice":=⟨os,hos,hcs⟩;unfold qO
 try with_reducible refine iy ?_
 first|refine Yg (Yv ?_)|skip
 refine Yg (QR ht.typeIs (by decide) ?_);refine Yg (yd (name:=qT "__getitem__") ht.typeIs Kl
  (vY Kl ht.typeIs Yjh ?_ (Ykb _ _)))
 show ao _ _ (Ygk (.ref t)>>=_) _ _ s;refine Yg (tupleItemsOf_ ht ?_);refine Yg (Q5 hTs ?_);rw[if_pos (by decide)];refine Yg (Xq hs pl pu ?_);have hno:¬((((aF items.size 0 lo:Nat):Int)==0&&(1:Int)==1&&(aF items.size items.size hi-aF items.size 0 lo)==items.size)=true):=by intro q;rw[Y5,Y5]at q;have q1:((aF items.size 0 lo:Nat):Int)=0:=eq_of_beq q.1.1;have q2:aF items.size items.size hi-aF items.size 0 lo=items.size:=eq_of_beq q.2;exact hw ⟨by exact Y0 (iN [_] [] 1 3759016097 T1 q1) (eZ _),by exact Y0 hj (lC 2 2268279672881 T1 q2 (Ge _ _))⟩
 show ao _ _ (if(((aF items.size 0 lo:Nat):Int)==0&&(1:Int)==1&&(aF items.size items.size hi-aF items.size 0 lo)==items.size)=true then _ else _) _ _ s;rw[if_neg hno,ZrZ]
 first
  |exact Yg (m:=Kv _) (uv (Yv ⟨_,rfl,Yv h⟩) Ji)
  |exact Yg (m:=Kv _) (uv (Yg (Yv (Yv ⟨_,rfl,Yv h⟩))) Ji)
  |exact Yg (Yg (m:=Kv _) (uv (Yv (Yv ⟨_,rfl,Yv h⟩)) Ji))
  |exact Yg (Yg (m:=Kv _) (uv (Yv ⟨_,rfl,Yv h⟩) Ji))
end
end HT
namespace L2
open PySem PySem.Spec PyProof.Rows
noncomputable abbrev TO:=St->Hp->(Option Int->Hp->Prop)->Prop
def PO(X:Cx)(e:Option Expr)(t:TO):Prop:=
 ∀(pins:List (Y2×aO)) (s:Yk) (σ:St) (H:Hp) (Q:Option Int->Hp->Prop),Inv X pins σ H s->t σ H Q ->
  ao (aB X.prog X.w) X.A (evalPart e X.env) (λu s'=>∃o H',Inv X pins σ H' s'/\IsPart u o/\Q o H') X.xe s
def Zud:TO:=λ_ H Q=>Q Yl H
def ZxM(t:TE):TO:=λσ H Q=>t σ H λx H1=>∃i,x= .int i/\Q (Ya i) H1
section
variable {X:Cx} {e:Expr} {te:TE} {lo hi:Option Expr} {tl th:TO} {pos p2:aU}
theorem ZtD:PO X Yl Zud:=by intro pins s σ H Q I h;rw[evalPart_none];exact Yv ⟨Yl,H,I,.none,h⟩
theorem ZtV(h:PE X e te):PO X (Ya e) (ZxM te):=by intro pins s σ H Q I hw;rw[evalPart_some];refine aK (h pins s σ H _ I hw) λu s1 ak=>?_;obtain⟨x,H1,I1,r1,q1⟩:=ak;obtain⟨i,rfl,q⟩:=q1;obtain⟨t,rfl⟩:=r1;exact⟨Ya i,H1,I1,.int i t,q⟩
def j7(X:Cx)(r:V->Option Int->Option Int->Hp->VK->Prop):Prop:=
 ∀(pins:List (Y2×aO)) (s:Yk) (σ:St) (H:Hp) (x:V) (v vl vu:Yh) (lo hi:Option Int) (sl:Y2) (Q:VK),Inv X pins σ H s->RelV x v->s.heap.IsSliceOf sl vl vu .none->IsPart vl lo->IsPart vu hi->r x lo hi H Q ->
  ∃T id,typeLookup (.type T) "__getitem__" =pure (Ya (.builtin id))/\s.TypeIs v T/\ao (aB X.prog X.w) X.A (qO v (.ref sl)) (EP X pins σ Q) X.xe s
theorem j7.or{r r':V->Option Int->Option Int->Hp->VK->Prop}(h:j7 X r)(h':j7 X r'):j7 X (λx lo hi H Q=>r x lo hi H Q\/r' x lo hi H Q):=by
 intro pins s σ H x v vl vu lo hi sl Q I rx hs pl pu q;rcases q with q|q
 .exact h pins s σ H x v vl vu lo hi sl Q I rx hs pl pu q
 .exact h' pins s σ H x v vl vu lo hi sl Q I rx hs pl pu q
def tSl(r:V->Option Int->Option Int->Hp->VK->Prop)(te:TE)(tl th:TO):TE:=λσ H Q=>te σ H λx H1=>tl σ H1 λl H2=>th σ H2 λu H3=>r x l u H3 Q
theorem ZrK{r:V->Option Int->Option Int->Hp->VK->Prop}(hr:j7 X r)(he:PE X e te)(hl:PO X lo tl)(hu:PO X hi th):PE X (.Subscript e (.Slice lo hi Yl p2) pos) (tSl r te tl th):=by intro pins s σ H Q I h;refine RD (aK (he pins s σ H _ I h) λv s1 ak=>?_);obtain⟨x,H1,I1,r1,q1⟩:=ak;refine wpAny_Slice (aK (hl pins s1 σ H1 _ I1 q1) λvl s2 ⟨l,H2,I2,pl,q2⟩=>aK (hu pins s2 σ H2 _ I2 q2) λvu s3 ak=>?_);obtain⟨u,H3,I3,pu,q3⟩:=ak;rw[evalPart_none];refine Yv ?_;have I4:Inv X pins σ H3 {s3 with heap:=s3.heap.push {cls:=.type "slice",data:=.fields #[vl,vu,.none]}}:=I3.kept (t':=s3.toks) λb ob q=>Yn _ q;obtain⟨T,id,hT,ht,hg⟩:=hr pins {s3 with heap:=s3.heap.push {cls:=.type "slice",data:=.fields #[vl,vu,.none]}} σ H3 x v vl vu l u s3.heap.objs.size Q I4 r1 (Heap.IsSliceOf.new ..) pl pu q3;show ao (aB X.prog X.w) X.A (RB e (.Slice lo hi Yl p2) v (.ref s3.heap.objs.size)) (EP X pins σ Q) X.xe {s3 with heap:=s3.heap.push {cls:=.type "slice",data:=.fields #[vl,vu,.none]}};exact tail_any (ops:=[.ref s3.heap.objs.size,v]) ht hT hg (by with_unfolding_all rfl)
noncomputable def wI(xs:List V)(lo hi:Option Int):List V:=(xs.drop (HT.aF xs.length 0 lo)).take (HT.aF xs.length xs.length hi-HT.aF xs.length 0 lo)
theorem ZiA(xs:List V)(lo hi:Option Int):(wI xs lo hi).length<=xs.length:=by unfold wI;rw[Aw,ZR];exact Yi (Rj _ _) (Ge _ _)
noncomputable def ZzG(K:Yb):V->Option Int->Option Int->Hp->VK->Prop:=λx lo hi H Q=>∃a xs,x= .ref a/\cT K H a xs/\
 ¬(HT.aF xs.length 0 lo=0/\HT.aF xs.length xs.length hi=xs.length)/\∀p,H p=Yl->Q (.ref p) (upd H p (.tup (wI xs lo hi)))
theorem ZvO:j7 X (ZzG X.K):=by
 intro pins s σ H x v vl vu lo hi sl Q I rx hs pl pu h;obtain⟨a,xs,rfl,hx,hw,q⟩:=h;cases rx;obtain⟨its,r,ht,hz⟩:=I.tuple hx;have hlen:its.toArray.size=xs.length:=by rw[Yq];exact r.length.symm
 refine⟨"tuple",_,PyProof.Rows.slot_tuple_getitem.lookup,ht.typeIs,?_⟩;refine HT.Aad ht hs pl pu (by rw[hlen];exact hw) ?_ (by rw[hlen];exact hz);rw[hlen];refine⟨.ref s.heap.objs.size,_,I.laid (t':=s.toks) (o:=.tup (wI xs lo hi)) (λb ob q=>Yn _ q) (Yt _) ?_,rfl,q _ (I.hok.fresh (Yt _))⟩;exact⟨Yi (ZiA xs lo hi) hz,_,(r.drop (HT.aF xs.length 0 lo)).take (HT.aF xs.length xs.length hi-HT.aF xs.length 0 lo),sX.new _ _⟩
def ZxN(K:Yb):R2:=λx y H Q=>∃a b xs ys,x= .ref a/\y= .ref b/\cT K H a xs/\cT K H b ys/\xs≠[]/\xs.length+ys.length<=bH/\
 (ys=[]->Q (.ref a) H)/\(ys≠[]->∀p,H p=Yl->Q (.ref p) (upd H p (.tup (xs++ys))))
theorem Vals.PL{xs:List V}{us:List Yh}(r:Vals xs us):us=[]↔xs=[]:=by
 cases r with
 |nil=>simp|cons _ _=>simp
theorem Ztz:aP X (i_ .Add) (ZxN X.K):=by intro pins s σ H x y v u Q I rx ry h;obtain⟨a,b,xs,ys,rfl,rfl,ha,hb,hx,hz,q1,q2⟩:=h;cases rx;cases ry;obtain⟨its,r1,p1,_⟩:=I.tuple ha;obtain⟨its2,r2,p2,_⟩:=I.tuple hb;refine HT.Aa3 p1 p2 (λz=>hx (r1.PL.mp z)) (λz=>⟨.ref a,H,I,rfl,q1 (r2.PL.mp z)⟩) (λz=>?_) (by rw[←r1.length,←r2.length];exact hz);refine⟨.ref s.heap.objs.size,_,I.laid (t':=s.toks) (o:=.tup (xs++ys)) (λb ob q=>Yn _ q) (Yt _) ?_,rfl,q2 (λw=>z (r2.PL.mpr w)) _ (I.hok.fresh (Yt _))⟩;exact⟨by rw[Ye];exact hz,_,r1.append r2,sX.new _ _⟩
end
end L2
namespace L2
open PySem PySem.Spec PyProof.Rows
noncomputable def BX(n:Nat)(i:Int):Option Nat:=if 0<=i then(if i<n then Ya i.toNat else Yl)else if -(n:Int)<=i then Ya (i+n).toNat else Yl
noncomputable def yJ{α:Type}(xs:List α)(i:Int):Option α:=(BX xs.length i).bind λj=>xs[j]?
theorem Tt{n:Nat}{i:Int}{j:Nat}(h:BX n i=Ya j):Rc i n=Ya j/\j<n/\ -(n:Int)<=i/\i<n:=by
 unfold BX at h;by_cases h0:0<=i
 .rw[if_pos h0]at h;by_cases h1:i<n
  .rw[if_pos h1]at h;have e:i.toNat=j:=Y1 h;exact⟨by rw[Q7 h0 h1,e],by exact iN [_,_,_] [_] 3 0x211008a1280911031 T1 e h1 (nW h0),by exact iN [_] [_] 1 144182913 T1 h0,h1⟩
  .rw[if_neg h1]at h;cases h
 .rw[if_neg h0]at h;by_cases h1:-(n:Int)<=i
  .rw[if_pos h1]at h;have e:(i+n).toNat=j:=Y1 h;exact⟨by rw[Q6 (by exact Bs.1 h0) h1,e],by exact iN [_,_,_] [_] 3 0x211280c08a10ec11031 T1 e h0 (nW (iN [_] [_] 1 8851524979073 T1 h1)),h1,by exact iN [_] [_] 1 134811329 T1 h0⟩
  .rw[if_neg h1]at h;cases h
theorem Tu{α:Type}{xs:List α}{i:Int}{v:α}(h:yJ xs i=Ya v):∃j,Rc i xs.length=Ya j/\xs[j]?=Ya v/\j<xs.length/\ -(xs.length:Int)<=i/\i<xs.length:=by
 unfold yJ at h;cases e:BX xs.length i with
 |none=>rw[e]at h;cases h|some j=>rw[e]at h;obtain⟨h1,h2,h3,h4⟩:=Tt e;exact⟨j,h1,h,h2,h3,h4⟩
def Zpk(b:Expr):Prop:=∀o i,JS b false o i=operate [o,i] (qO o i)
def mJ(X:Cx)(r:R2):Prop:=
 ∀(value slice:Expr) (pins:List (Y2×aO)) (s:Yk) (σ:St) (H:Hp) (x y:V) (v u:Yh) (Q:VK),Inv X pins σ H s->RelV x v->RelV y u->r x y H Q ->
  JS slice false v u=operate [v,u] (qO v u)->ao (aB X.prog X.w) X.A (RB value slice v u) (EP X pins σ Q) X.xe s
def kO(X:Cx)(id:String)(r:V->List V->Hp->VK->Prop):Prop:=
 ∀(pins:List (Y2×aO)) (s:Yk) (σ:St) (H:Hp) (x:V) (xs:List V) (v:Yh) (us:List Yh) (Q:VK),Inv X pins σ H s->RelV x v->Vals xs us->r x xs H Q ->
  ao (aB X.prog X.w) X.A (call (.builtin id) (v::us)) (EP X pins σ Q) X.xe s
section
variable {X:Cx} {a b:Expr} {ta tb:TE} {pos:aU}
theorem mJ.or{r r':R2}(h:mJ X r)(h':mJ X r'):mJ X (λx y H Q=>r x y H Q\/r' x y H Q):=by
 intro value slice pins s σ H x y v u Q I rx ry q hs;rcases q with q|q
 .exact h value slice pins s σ H x y v u Q I rx ry q hs
 .exact h' value slice pins s σ H x y v u Q I rx ry q hs
theorem ZxY{r:R2}(hr:mJ X r)(ha:PE X a ta)(hb:PE X b tb)(hs:Zpk b):PE X (.Subscript a b pos) (BR r ta tb):=by intro pins s σ H Q I h;exact RD (Tf ha hb I h λv u s2 x y H2 I2 rx ry q=>hr a b pins s2 σ H2 x y v u Q I2 rx ry q (hs _ _))
def Zym(K:Yb):R2:=λx y H Q=>∃p xs i v,x= .ref p/\y= .int i/\bL K H p xs/\yJ xs i=Ya v/\Q v H
def Zxy(K:Yb):R2:=λx y H Q=>∃p xs i v,x= .ref p/\y= .int i/\cT K H p xs/\yJ xs i=Ya v/\Q v H
def ZxC:R2:=λx y H Q=>∃z i c,x= .str z/\y= .int i/\z.length<=bH/\yJ z.cps.toList i=Ya c/\Q (.str ⟨#[c]⟩) H
theorem ZtF:mJ X (Zym X.K):=by
 intro value slice pins s σ H x y v u Q I rx ry h hs;obtain⟨p,xs,i,z,rfl,rfl,hq,he,q⟩:=h;cases rx;obtain⟨t,rfl⟩:=ry;obtain⟨its,r,pl,hz⟩:=I.list hq;obtain⟨j,h1,h2,h3,h4,h5⟩:=Tu he;obtain⟨w,ew,kW⟩:=r.get h2;have hl:=r.length;have hn:=Gy;have fin:EP X pins σ Q w s:=⟨z,H,I,kW,q⟩;by_cases h0:0<=i
 .have hj:i.toNat=j:=by
   rw[Q7 h0 h5]at h1;exact Y1 h1
  exact item_listR pl.isList h0 (by omega) (by rw[hj];simpa using ew) fin hs
 .have hj:(i+(its.toArray.size:Int)).toNat=j:=by
   rw[Q6 (by exact Bs.1 h0) h4]at h1;rw[Yq,←hl];exact Y1 h1
  exact Yh0 (x:=w) pl.isList.typeIs slot_list_getitem.lookup
   (wpAny_getItem_list_neg (Q:=λr s'=>r=w/\EP X pins σ Q r s') pl.isList (by exact Bs.1 h0) (by rw[Yq]<;>exact iN [_,_] [_] 2 6922527515414561 T1 hl h4) (by omega) (by rw[hj];simpa using ew) ⟨rfl,fin⟩) hs
theorem Zwk:mJ X (Zxy X.K):=by
 intro value slice pins s σ H x y v u Q I rx ry h hs;obtain⟨p,xs,i,z,rfl,rfl,hq,he,q⟩:=h;cases rx;obtain⟨t,rfl⟩:=ry;obtain⟨its,r,pl,hz⟩:=I.tuple hq;obtain⟨j,h1,h2,h3,h4,h5⟩:=Tu he;obtain⟨w,ew,kW⟩:=r.get h2;have hl:=r.length;have hn:=Gy;have fin:EP X pins σ Q w s:=⟨z,H,I,kW,q⟩;exact Yh0 (x:=w) pl.typeIs slot_tuple_getitem.lookup
  (getItem_tuple (j:=j) (Q:=λr s'=>r=w/\EP X pins σ Q r s') pl (by omega) (by omega) (by rw[Yq,←hl];exact h1) (by simpa using ew) ⟨rfl,fin⟩) hs
theorem Zv8:mJ X ZxC:=by
 intro value slice pins s σ H x y v u Q I rx ry h hs;obtain⟨z,i,c,rfl,rfl,hz,he,q⟩:=h;obtain⟨t,rfl⟩:=rx;obtain⟨t',rfl⟩:=ry;obtain⟨j,h1,h2,h3,h4,h5⟩:=Tu he;have hl:z.cps.toList.length=z.length:=by simp[mF]
 rw[hl]at h1 h4 h5;have hn:=Gy;exact tail_any (yp s z t) slot_str_getitem.lookup (getItem_str (c:=c) (by have e1:decide (i< -(2^63:Int))=false:=decide_eq_false (by omega);have e2:decide (i>=2^63)=false:=decide_eq_false (by omega);rw[e1,e2,Kc]) (by rw[h1];simpa using h2) ⟨.str ⟨#[c]⟩,H,I.tok _,⟨_,rfl⟩,q⟩) hs
def rIx(K:Yb):R2:=λx y H Q=>Zym K x y H Q\/Zxy K x y H Q\/ZxC x y H Q
theorem ZwL:mJ X (rIx X.K):=ZtF.or (Zwk.or Zv8)
theorem ZnL(its:List Yh)(n j:Nat)(u:Yh):yx (·.setIfInBounds j u) {cls:=.type "list",data:=.seq its.toArray n}={cls:=.type "list",data:=.seq (its.set j u).toArray n}:=by simp[yx]
theorem Inv.lst{pins:List (Y2×aO)}{σ:St}{H:Hp}{s:Yk}{p:Y2}{xs:List V}(I:Inv X pins σ H s)(h:H p=Ya (.lst xs)):
  ∃(its:List Yh) (n:Nat),Vals xs its/\s.heap.get? p=Ya {cls:=.type "list",data:=.seq its.toArray n}/\xs.length<=bH:=by
 obtain⟨z,its,n,r,e⟩:=I.hok p _ h;exact⟨its,n,r,e,z⟩
theorem Inv.Abf{pins:List (Y2×aO)}{σ:St}{H:Hp}{s:Yk}{p:Y2}{xs ys:List V}{its its':List Yh}{n n':Nat}{f:aO->aO}(I:Inv X pins σ H s)(h:H p=Ya (.lst xs))(ho:s.heap.get? p=Ya {cls:=.type "list",data:=.seq its.toArray n})(hf:f {cls:=.type "list",data:=.seq its.toArray n}={cls:=.type "list",data:=.seq its'.toArray n'})(r:Vals ys its')(hz:ys.length<=bH)(t:Nat):
  Inv X pins σ (upd H p (.lst ys)) {s with heap:=s.heap.update p f,toks:=t}:=by
 have e:(s.heap.update p f).get? p=Ya {cls:=.type "list",data:=.seq its'.toArray n'}:=by rw[J_ f ho (by rw[hf]<;>rfl),hf]
 refine I.write (x:=p) (e:=p) (by rw[h];trivial) (.inl rfl) (λb u hb q=>(uz _ _ (dg hb)).trans q) ⟨_,e⟩ ?_;exact⟨hz,its',n',r,e⟩
noncomputable def ZxE:V->V->V->Hp->(Hp->Prop)->Prop:=λo i v H Q=>∃p xs k j,o= .ref p/\i= .int k/\H p=Ya (.lst xs)/\BX xs.length k=Ya j/\Q (upd H p (.lst (xs.set j v)))
theorem set_list:Zyq X ZxE:=by
 intro pins s σ H o i v ov iv u Q I ro ri rv h;obtain⟨p,xs,k,j,rfl,rfl,hp,hj,q⟩:=h;cases ro;obtain⟨t,rfl⟩:=ri;obtain⟨its,n,r,ho,hz⟩:=I.lst hp;obtain⟨h1,h2,h3,h4⟩:=Tt hj;have hl:=r.length;have hn:=Gy;have I':Inv X pins σ (upd H p (.lst (xs.set j v))) {s with heap:=s.heap.update p (yx (·.setIfInBounds j u))}:=I.Abf hp ho (ZnL its n j u) (r.set rv j) (by rw[uo];exact hz) s.toks;by_cases h0:0<=k
 .have hk:k.toNat=j:=by
   rw[Q7 h0 h4]at h1;exact Y1 h1
  exact PySem.W.ki_setAt ho h0 (by omega) (by rw[Yq,←hl];exact h4) (by rw[hk];exact⟨_,I',q⟩)
 .have hk:(k+(its.toArray.size:Int)).toNat=j:=by
   rw[Q6 (by exact Bs.1 h0) h3]at h1;rw[Yq,←hl];exact Y1 h1
  exact PySem.W.ki_setBack ho (by exact Bs.1 h0) (by rw[Yq,←hl];exact h3) (by omega) (by rw[hk];exact⟨_,I',q⟩)
theorem ZlR(lo hi:Option Int)(n:Nat):(yj lo hi Yl n).1=((HT.aF n 0 lo:Nat):Int)/\(yj lo hi Yl n).2.1=((HT.aF n n hi:Nat):Int)/\(yj lo hi Yl n).2.2=1:=by
 refine⟨?_,?_,rfl⟩
 .cases lo with
  |none=>simp[yj,HT.aF]|some i=>
   simp only[yj,HT.aF,YB,show(1:Int)>0 by decide,if_true];by_cases h:i<0
   .simp only[h,if_true]<;>exact Su _ _ h
   .simp only[h,if_false]<;>exact Sv _ _ h
 .cases hi with
  |none=>simp[yj,HT.aF]|some i=>
   simp only[yj,HT.aF,YB,show(1:Int)>0 by decide,if_true];by_cases h:i<0
   .simp only[h,if_true]<;>exact Su _ _ h
   .simp only[h,if_false]<;>exact Sv _ _ h
theorem Zki(its:List Yh)(lo hi:Option Int):slicePick its.toArray lo hi Yl=((its.drop (HT.aF its.length 0 lo)).take (HT.aF its.length its.length hi-HT.aF its.length 0 lo)).toArray:=by obtain⟨h1,h2,h3⟩:=ZlR lo hi its.toArray.size;unfold slicePick;rw[h1,h2,h3];simp only[sliceRange_one,pick_run,Yq]<;>rfl
noncomputable def Zzv(K:Yb):V->Option Int->Option Int->Hp->VK->Prop:=λx lo hi H Q=>∃a xs,x= .ref a/\bL K H a xs/\∀p,H p=Yl->Q (.ref p) (upd H p (.lst (wI xs lo hi)))
theorem Ztc:j7 X (Zzv X.K):=by intro pins s σ H x v vl vu lo hi sl Q I rx hs pl pu h;obtain⟨a,xs,rfl,hx,q⟩:=h;cases rx;obtain⟨its,r,ht,hz⟩:=I.list hx;have hlen:=r.length;refine⟨"list",_,slot_list_getitem.lookup,ht.isList.typeIs,?_⟩;refine wpAny_getItem_list_slice ht.isList hs pl pu .none (by simp) ?_ (by rw[Yq]<;>exact lC 2 2268279672881 T1 hlen hz);rw[Zki,←hlen];refine⟨.ref s.heap.objs.size,_,I.laid (t':=s.toks) (o:=.lst (wI xs lo hi)) (λb ob q=>Yn _ q) (Yt _) ?_,rfl,q _ (I.hok.fresh (Yt _))⟩;exact⟨Yi (ZiA xs lo hi) hz,_,0,(r.drop (HT.aF xs.length 0 lo)).take (HT.aF xs.length xs.length hi-HT.aF xs.length 0 lo),Y4 _ rfl⟩
noncomputable def tu:V->Bool
 | .non=>true|.bl _=>true|.int _=>true|.str _=>true
 |_=>false
noncomputable def uN:V->V->Bool
 | .non,.non=>true|.bl a,.bl b=>a==b|.bl a,.int b=>(if a then 1 else 0)==b|.int a,.bl b=>a==(if b then 1 else 0)
 | .int a,.int b=>a==b|.str a,.str b=>a==b|_,_=>false
theorem ZvZ{A:bU}{s:Yk}{y x:V}{u v:Yh}(ry:RelV y u)(rx:RelV x v)(fy:tu y=true)(fx:tu x=true):sV A s u v (uN y x):=by
 cases y with
 |non=>
  cases ry
  cases x with
  |non=>cases rx;exact R7 _|bl b=>cases rx;exact Yi4 b|int b=>obtain⟨t,rfl⟩:=rx;exact Yjj b t|str b=>obtain⟨t,rfl⟩:=rx;exact Yjk b t
  |_=>exact absurd (show false=true from fx) mD
 |bl a=>
  cases ry
  cases x with
  |non=>cases rx;exact Yi5 a|bl b=>cases rx;exact Yi6 a b|int b=>obtain⟨t,rfl⟩:=rx;exact Yjl a b t|str b=>obtain⟨t,rfl⟩:=rx;exact Yjm a b t
  |_=>exact absurd (show false=true from fx) mD
 |int a=>
  obtain⟨t',rfl⟩:=ry;cases x with
  |non=>cases rx;exact Yjn a t'|bl b=>cases rx;exact Yjo a t' b|int b=>obtain⟨t,rfl⟩:=rx;exact Ykd a t' b t|str b=>obtain⟨t,rfl⟩:=rx;exact R6 a t' b t
  |_=>exact absurd (show false=true from fx) mD
 |str a=>
  obtain⟨t',rfl⟩:=ry;cases x with
  |non=>cases rx;exact Yjp a t'|bl b=>cases rx;exact Yjq a t' b|int b=>obtain⟨t,rfl⟩:=rx;exact Ky a t' b t|str b=>obtain⟨t,rfl⟩:=rx;exact Yke a t' b t
  |_=>exact absurd (show false=true from fx) mD
 |_=>exact absurd (show false=true from fy) mD
noncomputable def mK(x:V)(u:Yh):Bool:=match u with
 | .none=>uN .non x|.bool b=>uN (.bl b) x|.int i _=>uN (.int i) x|.str z _=>uN (.str z) x
 |_=>false
theorem Zrh{x y:V}{u:Yh}(r:RelV y u)(f:tu y=true):mK x u=uN y x:=by
 cases y with
 |non=>cases r;rfl|bl b=>cases r;rfl|int i=>obtain⟨t,rfl⟩:=r;rfl|str z=>obtain⟨t,rfl⟩:=r;rfl
 |_=>exact absurd (show false=true from f) mD
theorem GK{x:V}:∀{xs:List V} {us:List Yh},Vals xs us->xs.all tu=true->us.any (mK x)=xs.any λy=>uN y x
 |_,_,.nil,_=>rfl|y::xs,u::us,.cons r t,f=>by rw[kj,Y5]at f;rw[lK,lK,Zrh r f.1,GK t f.2]
theorem GP{A:bU}{s:Yk}{x:V}{v:Yh}(rx:RelV x v)(fx:tu x=true):∀{xs:List V} {us:List Yh},Vals xs us->xs.all tu=true->∀u∈us,sV A s u v (mK x u)
 |_,_,.nil,_=>λu hu=>by cases hu|y::xs,u::us,.cons r t,f=>λu' hu=>by
  rw[kj,Y5]at f;rcases Yo.mp hu with rfl|hu
  .rw[Zrh r f.1];exact ZvZ r rx f.1 fx
  .exact GP rx fx t f.2 u' hu
noncomputable def inV(x:V)(xs:List V):Bool:=xs.any λy=>uN y x
def Tv(K:Yb)(neg:Bool):R2:=λx y H Q=>∃p xs,y= .ref p/\(bL K H p xs\/cT K H p xs)/\tu x=true/\xs.all tu=true/\Q (.bl (if neg then !inV x xs else inV x xs)) H
theorem Zqn:aP X (dO .In) (Tv X.K false):=by
 intro pins s σ H x y v u Q I rx ry h;obtain⟨p,xs,rfl,hq,fx,fs,q⟩:=h;cases ry;rcases hq with hq|hq
 .obtain⟨its,r,pl,hz⟩:=I.list hq;refine Yl4 (mK x) pl.isList (λw hw=>GP rx fx r fs w (by simpa using hw)) ⟨.bl _,H,I,rfl,?_⟩;rw[show its.toArray.any (mK x)=its.any (mK x)by simp,GK r fs];exact q
 .obtain⟨its,r,pl,hz⟩:=I.tuple hq;refine SeqAt.in_tupleAt (mK x) pl (λw hw=>GP rx fx r fs w (by simpa using hw)) ⟨.bl _,H,I,rfl,?_⟩;rw[show its.toArray.any (mK x)=its.any (mK x)by simp,GK r fs];exact q
theorem Zlj:aP X (dO .NotIn) (Tv X.K true):=by
 intro pins s σ H x y v u Q I rx ry h;obtain⟨p,xs,rfl,hq,fx,fs,q⟩:=h;cases ry;rcases hq with hq|hq
 .obtain⟨its,r,pl,hz⟩:=I.list hq;refine Ykf (mK x) pl.isList (λw hw=>GP rx fx r fs w (by simpa using hw)) ⟨.bl _,H,I,rfl,?_⟩;rw[show its.toArray.any (mK x)=its.any (mK x)by simp,GK r fs];exact q
 .obtain⟨its,r,pl,hz⟩:=I.tuple hq;refine SeqAt.notIn_tupleAt (mK x) pl (λw hw=>GP rx fx r fs w (by simpa using hw)) ⟨.bl _,H,I,rfl,?_⟩;rw[show its.toArray.any (mK x)=its.any (mK x)by simp,GK r fs];exact q
theorem dm.or{f:Yh}{r r':List V->Hp->VK->Prop}(h:dm X f r)(h':dm X f r'):dm X f (λxs H Q=>r xs H Q\/r' xs H Q):=by
 intro pins s σ H xs us Q I rs q;rcases q with q|q
 .exact h pins s σ H xs us Q I rs q
 .exact h' pins s σ H xs us Q I rs q
theorem Zmg:dm X (.type "list") (λxs H Q=>∃p ys,xs=[.ref p]/\(bL X.K H p ys\/cT X.K H p ys)/\∀l,H l=Yl->Q (.ref l) (upd H l (.lst ys))):=by
 intro pins s σ H xs us Q I r h;obtain⟨p,ys,rfl,hq,q⟩:=h;obtain⟨u,rfl,rx⟩:=vals1 r;cases rx;have fin:∀(its:List Yh),Vals ys its->ys.length<=bH->∀(h':aR) (c':Nat),(∀b o',s.heap.get? b=Ya o'->h'.get? b=Ya o') ->
   h'.get? s.heap.objs.size=Ya {cls:=.type "list",dict:=Yl,data:=.seq its.toArray c',slots:=#[]}->EP X pins σ Q (.ref s.heap.objs.size) {s with heap:=h'}:=λits r' hz h' c' kp e=>
  ⟨.ref s.heap.objs.size,_,I.laid (t':=s.toks) kp (Yt _) (show gQ X.prog X.w _ h' _ (.lst ys)from⟨hz,its,c',r',e⟩),rfl,q _ (I.hok.fresh (Yt _))⟩
 rcases hq with hq|hq
 .obtain⟨its,r',pl,hz⟩:=I.list hq;have hlen:=r'.length;obtain⟨o,ho,hc,n,hd⟩:=pl.isList;exact call_list_seq p (.inl rfl) ho hc hd (λh' c' kp e=>fin its r' hz h' c' kp e) (by simp only[Yq]<;>exact lC 2 2268279672881 T1 hlen hz)
 .obtain⟨its,r',pl,hz⟩:=I.tuple hq;have hlen:=r'.length;obtain⟨o,ho,hc,n,hd⟩:=pl;exact call_list_seq p (.inr rfl) ho hc hd (λh' c' kp e=>fin its r' hz h' c' kp e) (by simp only[Yq]<;>exact lC 2 2268279672881 T1 hlen hz)
theorem Zks:dm X (.type "tuple") (λxs H Q=>∃p ys,xs=[.ref p]/\((bL X.K H p ys/\∀l,H l=Yl->Q (.ref l) (upd H l (.tup ys)))\/(cT X.K H p ys/\Q (.ref p) H))):=by
 intro pins s σ H xs us Q I r h;obtain⟨p,ys,rfl,h⟩:=h;obtain⟨u,rfl,rx⟩:=vals1 r;cases rx;rcases h with⟨hq,q⟩|⟨hq,q⟩
 .obtain⟨its,r',pl,hz⟩:=I.list hq;have hlen:=r'.length;refine call_tuple_list pl.isList (λh' kp=>?_) (by simp only[Yq]<;>exact lC 2 2268279672881 T1 hlen hz);have I1:Inv X pins σ H {s with heap:=h'}:=I.kept (t':=s.toks) kp;have I2:Inv X pins σ (upd H h'.objs.size (.tup ys)) {s with heap:=h'.push {cls:=.type "tuple",data:=.seq its.toArray}}:=
   I1.laid (t':=s.toks) (λb o e=>Yn _ e) (Yt _) (show gQ X.prog X.w _ _ _ (.tup ys)from⟨hz,its,r',sX.new _ _⟩)
  exact⟨.ref h'.objs.size,_,I2,rfl,q _ (I1.hok.fresh (Yt _))⟩
 .obtain⟨its,r',pl,hz⟩:=I.tuple hq;exact call_tuple_same pl ⟨.ref p,H,I,rfl,q⟩
def yK(K:Yb)(T:String)(x:V)(H:Hp):Prop:=match x with
 | .str _=>T= "str"|.int _=>T= "int"|.ref p=>(T= "list" /\∃xs,bL K H p xs)\/(T= "tuple" /\∃o,K.lookup p=Ya o/\o.cls= .type "tuple" /\o.dict=Yl)\/
   (T= "dict" /\((∃kvs,H p=Ya (.dK kvs))\/∃kvs,H p=Ya (.dT kvs)))\/(T= "set" /\∃S n,H p=Ya (.set S n))
 |_=>False
theorem Zrk{pins:List (Y2×aO)}{σ:St}{H:Hp}{s:Yk}{T:String}{x:V}{v:Yh}(I:Inv X pins σ H s)(r:RelV x v)(ty:yK X.K T x H):
  s.TypeIs v T/\∀a,v= .ref a->∃ob,s.heap.get? a=Ya ob/\ob.dict=Yl:=by
 cases x with
 |str z=>obtain⟨t,rfl⟩:=r;cases(show T= "str" from ty);exact⟨yp s z t,λ_ e=>nomatch e⟩|int i=>obtain⟨t,rfl⟩:=r;cases(show T= "int" from ty);exact⟨Q_ s i t,λ_ e=>nomatch e⟩|ref p=>
  cases r
  rcases ty with⟨rfl,xs,hq⟩|⟨rfl,o,hk,hc,hd⟩|⟨rfl,hk⟩|⟨rfl,S,n,hk⟩
  .obtain⟨its,_,pl,_⟩:=I.list hq;refine⟨pl.isList.typeIs,λa e=>?_⟩;cases e;obtain⟨o,n,e,c,hd,_⟩:=pl;exact⟨o,e,hd⟩
  .refine⟨⟨o,I.fj p o hk,hc⟩,λa e=>?_⟩;cases e;exact⟨o,I.fj _ o hk,hd⟩
  .have z:∃o,s.heap.get? p=Ya o/\o.ExactDict:=by
    rcases hk with⟨kvs,hk⟩|⟨kvs,hk⟩
    .obtain⟨_,_,_,_,o,_,_,e,ex,_⟩:=I.hok p _ hk;exact⟨o,e,ex⟩
    .obtain⟨_,_,_,_,o,_,_,e,ex,_⟩:=I.hok p _ hk;exact⟨o,e,ex⟩
   obtain⟨o,e,ex⟩:=z;refine⟨⟨o,e,ex.1⟩,λa e2=>?_⟩;cases e2;exact⟨o,e,ex.2.1⟩
  .obtain⟨o,_,_,_,e,ex,_⟩:=I.hok p _ hk;refine⟨⟨o,e,ex.1⟩,λa e2=>?_⟩;cases e2;exact⟨o,e,ex.2.1⟩
 |_=>exact jH ty
def Zys(K:Yb)(T:String)(r:V->List V->Hp->VK->Prop)(to:TE):TE:=λσ H Q=>to σ H λx H1=>yK K T x H1/\r x [] H1 Q
def tBM(K:Yb)(T:String)(r:V->List V->Hp->VK->Prop)(to:TE)(t:TA):TE:=λσ H Q=>to σ H λx H1=>yK K T x H1/\t σ H1 λxs H2=>r x xs H2 Q
variable {o e:Expr} {es:List Expr} {to:TE} {t:TA} {name:aj} {apos cpos:aU} {T id:String} {r:V->List V->Hp->VK->Prop}
theorem ZvF(pa:PlainAttrs T)(slot:Slot T name id)(hty:typeOf (.builtin id)=pure (.type "method_descriptor"))(hm:kO X id r)(ho:PE X o to)(hbase:nQ o name X.env (aN o X.env)=aN o X.env:=by rfl)(hline:(apos.endLine==cpos.line)=true:=by rfl):PE X (.Call (.Attribute o name apos) [] [] cpos) (Zys X.K T r to):=by intro pins s σ H Q I h;refine wpAny_Call_method0_late hbase hline (aK (ho pins s σ H _ I h) λv s1 ak=>?_);obtain⟨x,H1,I1,r1,ty,q1⟩:=ak;obtain⟨h1,h2⟩:=Zrk I1 r1 ty;exact⟨T,id,pa,slot,hty,h1,h2,R8 rfl (PySem.evalArgs_none (hm pins s1 σ H1 x [] v [] Q I1 r1 .nil q1))⟩
theorem BZ(pa:PlainAttrs T)(slot:Slot T name id)(hty:typeOf (.builtin id)=pure (.type "method_descriptor"))(hm:kO X id r)(ho:PE X o to)(ha:PA X (e::es) t)(hbase:nQ o name X.env (aN o X.env)=aN o X.env:=by rfl)(hfew:((cL cpos (Yy (e::es) X.env)).all (λx=>!x.1)&&(jb cpos (iZ [] X.env)).all (λx=>x.1.isSome)
   &&decide ((e::es).length+([]:List Keyword).length+(if([]:List Keyword).isEmpty then 0 else 1)<30))=true:=by rfl)(hline:(apos.endLine==cpos.line)=true:=by rfl)(hs:Yy (e::es) X.env=(false,aN e X.env)::Yy es X.env:=by rfl)(hplain:(cL cpos (Yy es X.env)).any (·.1)=false:=by rfl):
  PE X (.Call (.Attribute o name apos) (e::es) [] cpos) (tBM X.K T r to t):=by
 intro pins s σ H Q I h;refine wpAny_Call_method_late hbase hfew hline rfl (aK (ho pins s σ H _ I h) λv s1 ak=>?_);obtain⟨x,H1,I1,r1,ty,q1⟩:=ak;obtain⟨h1,h2⟩:=Zrk I1 r1 ty;refine⟨T,id,pa,slot,hty,h1,h2,?_⟩;have hA:=ha cpos pins s1 σ H1 _ I1 q1;rw[hs]at hA ⊢;refine R8 (by show(false|| (cL cpos (Yy es X.env)).any (·.1))=false;rw[hplain]<;>rfl) (Yi7 ?_);exact aK hA λus s2 ⟨vs,H2,I2,r2,q2⟩=>hm pins s2 σ H2 x vs v us Q I2 r1 r2 q2
/-xs.append(e),list.index on a module's tuple .. are kO facts of 06m -/
end
end L2
namespace L2
open PySem PySem.Spec PyProof.Rows
def Li(X:Cx)(id:String)(r:V->List V->Hp->VK->Prop):Prop:=
 ∀(pins:List (Y2×aO)) (s:Yk) (σ:St) (H:Hp) (x:V) (xs:List V) (v:Yh) (us:List Yh) (Q:VK),Inv X pins σ H s->RelV x v->Vals xs us->r x xs H Q ->
  ao (aB X.prog X.w) X.A (call (.builtin id) (v::us)) (EP X pins σ Q) X.xe s
theorem Vals.one{x:V}{us:List Yh}(h:Vals [x] us):∃u,us=[u]/\RelV x u:=by
 cases h with
 |cons r h=>cases h;exact⟨_,rfl,r⟩
theorem Vals.two{x y:V}{us:List Yh}(h:Vals [x,y] us):∃u v,us=[u,v]/\RelV x u/\RelV y v:=by
 cases h with
 |cons r h=>obtain⟨v,rfl,q⟩:=Vals.one h;exact⟨_,v,rfl,r,q⟩
theorem Vals.zero:∀{us:List Yh},Vals [] us->us=[]
 |_,.nil=>rfl
variable{xs:List V}{us:List Yh}
theorem Vals.dropLast(h:Vals xs us):Vals xs.dropLast us.dropLast:=by
 induction h with
 |nil=>exact .nil|cons r t ih=>
  cases t with
  |nil=>exact .nil|cons q t'=>exact .cons r ih
theorem Vals.eraseIdx:∀{xs:List V} {us:List Yh} (i:Nat),Vals xs us->Vals (xs.eraseIdx i) (us.eraseIdx i)
 |_,_,_,.nil=>.nil|_,_,0,.cons _ t=>t|_,_,i+1,.cons r t=>.cons r (Vals.eraseIdx i t)
theorem Vals.reverse(h:Vals xs us):Vals xs.reverse us.reverse:=by
 induction h with
 |nil=>exact .nil|cons r t ih=>rw[vR,vR];exact Vals.append ih (.cons r .nil)
theorem Vals.rep(h:Vals xs us):∀k:Nat,Vals (Yr k xs).flatten (Yr k us).flatten
 |0=>.nil|k+1=>by rw[uh,uh,kh,kh];exact Vals.append h (Vals.rep h k)
theorem ZnJ{α:Type}(l:List α):l.eraseIdx (l.length-1)=l.dropLast:=by
 induction l with
 |nil=>rfl|cons a r ih=>
  cases r with
  |nil=>rfl|cons b r=>
   have e:(a::b::r).length-1=((b::r).length-1)+1:=by have h1:(a::b::r).length=r.length+2:=rfl;have h2:(b::r).length=r.length+1:=rfl;exact Y0 (lE 4 0xa4c30a4c0012a3c2121b1c221a1c031 T1 h2 h1 (Y8 (lB 1 687760064561 T1 h1)) (gH _ _)) (lE 4 0x3a4c00a4c21a3c20121b1c231a1c021 T1 h2 h1 (gH _ _) (Y8 (lB 1 2694955057 T1 h2)))
   rw[e,List.eraseIdx_cons_succ,ih]
   all_goals rfl
theorem ZkF{α:Type}:∀(l:List α) (i:Nat),(l.eraseIdx i).length<=l.length
 |[],_=>Yt _|_::_,0=>wA _|_::r,i+1=>pZ (ZkF r i)
theorem foldl_rep(its:List Yh):∀(k:Nat) (acc:List Yh),
  JL (λx1 x2=>x1++x2) acc.toArray (Yr k its.toArray)=(acc++(Yr k its).flatten).toArray
 |0,acc=>by simp|k+1,acc=>by
  have e:acc.toArray++its.toArray=(acc++its).toArray:=by simp
  have e2:(acc++its)++(Yr k its).flatten=acc++(Yr (k+1) its).flatten:=by rw[uh,kh,gG]
  rw[←e2,←foldl_rep its k (acc++its),←e,uh,jD]
section
variable {X:Cx} {pins:List (Y2×aO)} {σ:St} {H:Hp} {s:Yk} {l b:Y2} {xs ys zs:List V}
theorem Inv.Fj{its its':List Yh}{n:Nat}{f:Array Yh->Array Yh}{t':Nat}(I:Inv X pins σ H s)(hH:H l=Ya (.lst xs))(e:s.heap.get? l=Ya {cls:=.type "list",data:=.seq its.toArray n})(hf:f its.toArray=its'.toArray)(hv:Vals ys its')(hz:ys.length<=bH):
  Inv X pins σ (upd H l (.lst ys)) {s with heap:=s.heap.update l (yx f),toks:=t'}:=by
 have q:=PySem.IsL.update e f;rw[hf]at q;refine I.write (x:=l) (e:=l) (by rw[hH];exact trivial) (.inl rfl) (λb' u hb hu=>(uz s.heap (yx f) (dg hb)).trans hu) ⟨_,q⟩ ?_;exact⟨hz,its',_,hv,q⟩
theorem Inv.X4{its:List Yh}{t':Nat}(I:Inv X pins σ H s)(hv:Vals ys its)(hz:ys.length<=bH):
  Inv X pins σ (upd H s.heap.objs.size (.lst ys)) {s with heap:=s.heap.push {cls:=.type "list",data:=.seq its.toArray},toks:=t'}:=
 I.laid (λ_ _ q=>Yn _ q) (Yt _) ⟨hz,its,0,hv,Y4 _ rfl⟩
theorem Inv.fresh(I:Inv X pins σ H s):H s.heap.objs.size=Yl:=I.hok.fresh (Yt _)
theorem Inv.t_(I:Inv X pins σ H s)(hH:H l=Ya (.lst xs)):xs.length<=bH/\∃(its:List Yh) (n:Nat),Vals xs its/\xs.length=its.length/\s.heap.get? l=Ya {cls:=.type "list",data:=.seq its.toArray n}:=by obtain⟨z,its,n,r,e⟩:=I.hok l _ hH;exact⟨z,its,n,r,r.length,e⟩
theorem Tw{n:Nat}(h:n<=bH):Bt n=false:=by unfold Bt;exact decide_eq_false (by omega)
end
section
variable {X:Cx}
noncomputable def Zpj:V->List V->Hp->VK->Prop:=λx vs H Q=>∃l xs y,x= .ref l/\vs=[y]/\H l=Ya (.lst xs)/\xs.length<bH/\Q .non (upd H l (.lst (xs++[y])))
theorem Tz:Li X "list.append" Zpj:=by intro pins s σ H x vs v us Q I rx rv h;obtain⟨l,xs,y,rfl,rfl,hH,hz,q⟩:=h;cases rx;obtain⟨u,rfl,ru⟩:=rv.one;obtain⟨z,its,n,r,hl,e⟩:=I.t_ hH;refine qN F.slot_list_append ⟨_,e,rfl⟩ F.entry_list_append (F.args_list_append_2 _ _) (PySem.list_append l its.toArray n u (by rw[Yq];exact lC 2 2268279672881 T1 hl z)) ⟨e,?_⟩;refine⟨.non,_,I.Fj (its':=its++[u]) hH e (by simp) (r.append (.cons ru .nil)) ?_,rfl,q⟩;rw[Ye,iJ];exact lB 1 6991908881 T1 hz
noncomputable def ZpO:V->List V->Hp->VK->Prop:=λx vs H Q=>∃l b xs zs,x= .ref l/\vs=[.ref b]/\H l=Ya (.lst xs)/\H b=Ya (.lst zs)/\xs.length+zs.length<=bH/\Q .non (upd H l (.lst (xs++zs)))
theorem Zp5:Li X "list.extend" ZpO:=by
 intro pins s σ H x vs v us Q I rx rv h;obtain⟨l,b,xs,zs,rfl,rfl,hH,hB,hz,q⟩:=h;cases rx;obtain⟨u,rfl,ru⟩:=rv.one;cases ru;obtain⟨z,its,n,r,hl,e⟩:=I.t_ hH;obtain⟨z2,its2,n2,r2,hl2,e2⟩:=I.t_ hB;have hsz:its.toArray.size+its2.toArray.size<=bH:=by rw[Yq,Yq];exact lE 3 0x413c0402c0132311031 T1 hl2 hl hz
 have Fg:¬(!its.toArray.isEmpty&&Bt (its.toArray.size+its2.toArray.size))=true:=by rw[Tw hsz,yu];exact mD
 refine qN Ykg ⟨_,e,rfl⟩ Yjr (Yi8 _ _)
  (AutoSeq1.list_extend_list_list_0 l its.toArray n b its2.toArray n2 Fg (by rw[Yq];exact lC 2 2268279672881 T1 hl z) (by exact lC 1 0xa2c10c0210c01 T1 hsz)) ⟨e,e2,?_⟩
 refine⟨.non,_,I.Fj (its':=its++its2) hH e (by simp) (r.append r2) ?_,rfl,q⟩;rw[Ye];exact hz
noncomputable def Zyl:V->List V->Hp->VK->Prop:=λx vs H Q=>∃l xs y,x= .ref l/\vs=[]/\H l=Ya (.lst xs)/\xs[xs.length-1]?=Ya y/\Q y (upd H l (.lst xs.dropLast))
theorem ZvT:Li X "list.pop" Zyl:=by
 intro pins s σ H x vs v us Q I rx rv h;obtain⟨l,xs,y,rfl,rfl,hH,hy,q⟩:=h;cases rx;have hus:=rv.zero;subst hus;obtain⟨z,its,n,r,hl,e⟩:=I.t_ hH;obtain⟨u,hu,ru⟩:=r.get hy;have hy':its.toArray[its.toArray.size-1]?=Ya u:=by show its.toArray[its.length-1]?=Ya u;rw[←R5,←hl];exact hu
 refine qN Yl5 ⟨_,e,rfl⟩ Ylp (F.args_list_pop_1 _) (MeetsSeq.list_pop_last l its.toArray n u hy' (by rw[Yq];exact lC 2 2268279672881 T1 hl z)) ⟨e,?_⟩;refine⟨y,_,I.Fj (its':=its.dropLast) hH e ?_ r.dropLast ?_,ru,q⟩
 .show its.toArray.eraseIdxIfInBounds (its.toArray.size-1)=its.dropLast.toArray;rw[Yq,YT,ZnJ]
 .rw[List.length_dropLast];exact Yi (Ge _ _) z
noncomputable def Zr0:V->List V->Hp->VK->Prop:=λx vs H Q=>∃l xs i k y,x= .ref l/\vs=[.int i]/\H l=Ya (.lst xs)/\ -(2^63)<=i/\i<2^63/\Rc i xs.length=Ya k/\xs[k]?=Ya y/\Q y (upd H l (.lst (xs.eraseIdx k)))
theorem Zrn:Li X "list.pop" Zr0:=by
 intro pins s σ H x vs v us Q I rx rv h;obtain⟨l,xs,i,k,y,rfl,rfl,hH,h1,h2,hk,hy,q⟩:=h;cases rx;obtain⟨u,rfl,ru⟩:=rv.one;obtain⟨t,rfl⟩:=ru;obtain⟨z,its,n,r,hl,e⟩:=I.t_ hH;obtain⟨w,hw,kW⟩:=r.get hy;refine qN Yl5 ⟨_,e,rfl⟩ Ylp (F.args_list_pop_2 _ _)
  (MeetsSeq.list_pop_at l its.toArray n i t k w (fitsIndex_both h1 h2) (by rw[Yq,←hl];exact hk) (by rw[←R5];exact hw) (by rw[Yq];exact lC 2 2268279672881 T1 hl z)) ⟨e,?_⟩
 refine⟨y,_,I.Fj (its':=its.eraseIdx k) hH e ?_ (r.eraseIdx k) ?_,kW,q⟩
 .show its.toArray.eraseIdxIfInBounds k=(its.eraseIdx k).toArray;rw[YT]
 .have:=ZkF xs k;exact Yi this z
def ZzH:R2:=λx y H Q=>∃l b xs zs,x= .ref l/\y= .ref b/\H l=Ya (.lst xs)/\H b=Ya (.lst zs)/\xs.length+zs.length<=bH/\∀p,H p=Yl->Q (.ref p) (upd H p (.lst (xs++zs)))
theorem Zv6:aP X (i_ .Add) ZzH:=by
 intro pins s σ H x y v u Q I rx ry h;obtain⟨l,b,xs,zs,rfl,rfl,hH,hB,hz,q⟩:=h;cases rx;cases ry;obtain⟨z,its,n,r,hl,e⟩:=I.t_ hH;obtain⟨z2,its2,n2,r2,hl2,e2⟩:=I.t_ hB;refine PySem.P.add_list e e2 ?_ (by rw[Yq,Yq];exact lE 3 0x413c0402c0132311031 T1 hl2 hl hz);have ea:its.toArray++its2.toArray=(its++its2).toArray:=by simp
 rw[ea];exact⟨.ref _,_,I.X4 (t':=s.toks) (r.append r2) (by rw[Ye];exact hz),rfl,q _ I.fresh⟩
def Zzr:R2:=λx y H Q=>∃l k xs,x= .ref l/\y= .int k/\H l=Ya (.lst xs)/\ -(2^63)<=k/\k<2^63/\xs.length*k.toNat<=bH/\
 ∀p,H p=Yl->Q (.ref p) (upd H p (.lst (Yr k.toNat xs).flatten))
theorem len_rep{α:Type}(xs:List α)(k:Nat):(Yr k xs).flatten.length=k*xs.length:=by
 induction k with
 |zero=>simp|succ k ih=>rw[uh,kh,Ye,ih,Nat.succ_mul,mC]
theorem ZvA:aP X (i_ .Mult) Zzr:=by
 intro pins s σ H x y v u Q I rx ry h;obtain⟨l,k,xs,rfl,rfl,hH,h1,h2,hz,q⟩:=h;cases rx;obtain⟨t,rfl⟩:=ry;obtain⟨z,its,n,r,hl,e⟩:=I.t_ hH;have hlen:its.toArray.size*k.toNat<=bH:=by rw[Yq,←hl];exact hz
 have AbC:¬its.toArray.size*k.toNat>(2^63-1) / 8:=by
  have:(bH:Nat)<=(2^63-1) / 8:=by decide
  omega
 have hfit:¬(!Builtin.List.listFitsIndex k)=true:=by rw[fitsIndex_both h1 h2];exact mD
 have Fg:¬Bt (its.toArray.size*k.toNat)=true:=by rw[Tw hlen];exact mD
 have hnew:JL (λx1 x2=>x1++x2) #[] (Yr (if its.toArray.isEmpty=true then 0 else k.toNat) its.toArray)=(Yr k.toNat its).flatten.toArray:=by
  have f0:∀m:Nat,JL (λx1 x2=>x1++x2) #[] (Yr m its.toArray)=(Yr m its).flatten.toArray:=λm=>by have:=foldl_rep its m [];rw[jh]at this;exact this
  rw[f0];cases its with
  |nil=>simp|cons a r'=>rw[if_neg (by simp)]
 refine wpAny_binaryOp_repeat_ref (T:="list") (U:="int") (by decide) ⟨_,e,rfl⟩ (λs'=>Q_ s' k t) noFill_list_mul F.fills_int_mul Yl6 repeat_list F.slot_int_index.lookup
  (qN Yl6 (Q_ s k t) F.entry_int_rmul (F.args_int_rmul_2 _ _) (int___rmul___int_list k t l its.toArray n)
   ⟨e,rfl,⟨_,e,rfl⟩,qN F.slot_list_mul ⟨_,e,rfl⟩ F.entry_list_mul (F.args_list_mul_2 _ _) (AutoListH.list___mul___list_int_3 l its.toArray n k t hfit AbC Fg) ⟨e,?_⟩⟩)
 rw[hnew];exact⟨.ref _,_,I.X4 (t':=s.toks) (r.rep k.toNat) (by rw[len_rep,Nat.mul_comm];exact hz),rfl,q _ I.fresh⟩
end
end L2
namespace Att
open PySem PySem.W PySem.Calls PyProof.Rows
theorem Zi0{P:Params}{h:aR}:∀(ns:List Int) (vs:List Yh),WellAll P h vs (ns.map WData.int)->IntsAre vs ns:=by
 intro ns
 induction ns with
 |nil=>intro vs w;rw[uq]at w;cases w;exact .nil|cons n ns ih=>
  intro vs w;rw[Ys]at w;cases w with
  |cons a b=>
   cases a
   exact .cons _ _ (ih _ b)
theorem Zqy{l:OpenLaw}{n:Nat}(hn:l.most=Ya n){P:Params}{h:aR}{args:List WData}{vals:List Yh}(hpre:l.row.toRowW.claim.pre args=true)(hwl:WellAll P h vals args):
  ∃a vs ns,vals=[Value.ref a]/\args=[WData.list (ns.map WData.int)]/\h.get? a=Ya {cls:=.type "list",data:=.seq vs.toArray}/\IntsAre vs ns/\ns.length<=n:=by
 have hsh:WShape.hasAll [] args [.list .int]=true:=(pre_splitW hpre).1;have hc:l.pre.holds [] {args:=args}=true:=(pre_splitW hpre).2;obtain⟨d,r,rfl,h1,h2⟩:=hasAllW_cons hsh;obtain rfl:=hasAllW_nil h2;obtain⟨xs,rfl,h3⟩:=hasW_list h1;obtain⟨ns,rfl⟩:=items_int h3;have hlen:ns.length<=n:=by
  unfold OpenLaw.pre at hc;have h4:(WTm.not (.lt (.lit (.int (n:Int))) (.len (.arg 0)))).holds [] {args:=[.list (ns.map .int)]}=true:=by have h4:=(holds_andW hc).1;rw[hn]at h4;exact h4
  have h5:=condW_of h4 (w_not (w_lt w_lit (w_len_list (w_arg rfl))));rw[Yu]at h5;refine j5 λq=>?_;have q':(n:Int)<((ns.length:Nat):Int):=by exact Kg.2 q
  first
   |(rw[decide_eq_true q']at h5;exact absurd h5 (by decide))
   |(simp at h5;omega)
 cases hwl with
 |cons w1 w2=>
  cases w2
  cases w1 with
  |list ho hall=>exact⟨_,_,ns,rfl,rfl,ho,Zi0 ns _ hall,hlen⟩
theorem Zqg(l:OpenLaw)(args:List WData):l.row.toRowW.claim.post args (.bool true) args=true:=
 postW_of (r:=l.row.toRowW) (X:=(true==true))
  (show WShape.has [] (.bool true) .bool=true by first|rfl|decide|simp[WShape.has,WShape.arms,WShape.armsAll])
  (show(WTm.eq .res (.lit (.bool true))).value [] {args:=args,res:=Ya (.bool true),after:=args}=Ya (.bool (true==true))from w_eq_bool (w_res rfl) w_lit) rfl
theorem Aaz{l:OpenLaw}{n:Nat}{q:Yae}{loose:List aj}{XP:(aj->Option Yh)->aR->Prop}{YP:bh->aR->Prop}{d:DefRec}(hn:l.most=Ya n)(hdf:d.params.defaults=[])(call:∀(w:bh) (s₀ s₁:Yk) (mg mb:aj->Option Yh) (fa:Y2) (o:aO) (pm cd doc:Yh) (a:Y2) (vs:List Yh) (ns:List Int),
   Ground q loose [] XP w s₀ mg mb s₁.heap->YP w s₁.heap ->
   s₁.heap.get? fa=Ya o->o.data= .func (docDef d.name d.params d.body d.scope pm cd doc)->s₁.heap.CodeRec cd d.name->mg d.name=Ya (.ref fa) ->
   s₁.heap.get? a=Ya {cls:=.type "list",data:=.seq vs.toArray}->IntsAre vs ns->ns.length<=n->s₁.gens= #[] ->
   nR (aB l.prog w) v7 (.call (.ref fa) ⟨[.ref a],[]⟩) (λr s'=>r= .ok (.ret (.bool true))/\OldK s₁.heap s'.heap/\s'.os=s₁.os/\uE s'.gens) s₁):
  WalkO q loose XP YP l.row.toRowW d [] (λf vs=>Ra f vs):=by
 intro w s₀ s₁ mg mb G Y fa o pm cd doc dV kV ho hd hcd hD hmg hg args vals as hpre hlay hrd hwl hlo;obtain rfl:dV= .none:=Dflts.none hD hdf;obtain rfl:kV= .none:=Dflts.noKw hD;obtain⟨a,vs,ns,rfl,rfl,hobj,hints,hlen⟩:=Zqy hn hpre hwl;refine enter_call (v4 (call w s₀ s₁ mg mb fa o pm cd doc a vs ns G Y ho (fd_plain hd) hcd hmg hobj hints hlen hg) λr s' hq=>?_);obtain⟨rfl,h2,h3,h4⟩:=hq;exact⟨.inl ⟨.bool true,.bool true,[],rfl,λ_=>rfl,.bool true,Zqg l _,λ_=>⟨List.Pairwise.nil,λ_ hm=>(nomatch hm)⟩⟩,h2,h3,h4⟩
end Att
namespace L2
open PySem PySem.Spec PyProof.Rows
theorem ZkB:∀{vs:List Yh} {ns:List Int},IntsAre vs ns->Vals (ns.map V.int) vs
 |_,_,.nil=>.nil|_,_,.cons n t h=>.cons ⟨t,rfl⟩ (ZkB h)
def Only(H:Hp):Prop:=∀b,H b=Yl\/∃o xs,H b=Ya (.fc o (.lst xs))
theorem ZrX{P:Yae}{w:bh}{K:Yb}{mg mb:aj->Option Yh}{CX:qe}{k:Nat}{fa a:Y2}{fd:lM}{x:aj}{sp:Sp}{s₁:Yk}{vs:List Yh}{ns:List Int}(KX:K.In s₁.heap)(hns:s₁.heap.Ns cP mg)(hb:s₁.heap.Ns Q8 mb)(hbb:∀x:aj,x≠ "__name__" ->mb x=kI x)(hlim:s₁.heap.NoLimit)(hg:s₁.gens= #[])(ha:s₁.heap.get? a=Ya {cls:=.type "list",data:=.seq vs.toArray})(hi:IntsAre vs ns)(hl:ns.length<=bH)(hr:dU k v7)(F:∀base:aR,K.In base->base.Ns cP mg->jK P w K mg base CX k fa fd [x] sp)(hbind:∀(s:Yk) (u:Yh),Bd s fd ⟨[u],[]⟩ [(x,u)])(hsp:∀H:Hp,Only H->bL K H a (ns.map V.int)->sp [.ref a] H (λv _=>v= .bl true) λ_ _ _=>False)(TF:∀H e s',CX [] H s₁ (λ_ _ _=>False) e s'->False):
  nR (aB P w) v7 (.call (.ref fa) ⟨[.ref a],[]⟩) (λr s'=>r= .ok (.ret (.bool true))/\OldK s₁.heap s'.heap/\s'.os=s₁.os/\uE s'.gens) s₁:=by
 have rv:=ZkB hi;have lenV:=hi.length;have core:∀H:Hp,Only H->bL K H a (ns.map V.int)->ig P w H s₁.heap->(∀b,H b≠Yl->b=a)->(H a≠Yl->K.lookup a=Yl) ->
   nR (aB P w) v7 (.call (.ref fa) ⟨[.ref a],[]⟩) (λr s'=>r= .ok (.ret (.bool true))/\OldK s₁.heap s'.heap/\s'.os=s₁.os/\uE s'.gens) s₁:=by
  intro H hO hS hok hA hK;have Xw:∀{b:Y2} {o:aO},s₁.heap.get? b=Ya o->H b=Yl->(uI s₁.heap H).get? b=Ya o:=λe n=>ZrI e n;have GF:∀{b:Y2} {o:aO} {es:Array DictEntry} {ep:Nat},s₁.heap.get? b=Ya o->o.data= .dict es ep->H b=Yl:=λ{b o es ep} e d=>by
   cases q:H b with
   |none=>rfl|some u=>have e':b=a:=hA b (by rw[q];simp);subst e';rw[ha]at e;cases e;have d':Data.seq vs.toArray _=Data.dict es ep:=d;cases d'
  have Lj:∀{b:Y2} {m:aj->Option Yh},s₁.heap.Ns b m->(uI s₁.heap H).Ns b m:=λ{b m} ⟨o,es,ep,e,d,r⟩=>⟨o,es,ep,Xw e (GF e d),d,r⟩;have hKb:K.In (uI s₁.heap H):=λb o e=>Xw (KX b o e) (by
   cases q:H b with
   |none=>rfl|some u=>have e':b=a:=hA b (by rw[q];simp);subst e';rw[hK (by rw[q];simp)]at e;cases e)
  have hM:Mod K mg (uI s₁.heap H):=⟨hKb,Lj hns,⟨mb,Lj hb,hbb⟩,let⟨mc,h1,h2⟩:=hlim;⟨mc,Lj h1,h2⟩⟩;have e0:sZ P w K mg (uI s₁.heap H) v7 [] s₁ H:=⟨rfl,hM,λb o e=>Zux e,j6 (ZpS _ _),trivial,λb hb=>absurd (show b∈([]:List Y2)from hb) (by simp),hok,.of_eq hg⟩;refine v4 ((F _ hKb (Lj hns)).run v7 [] s₁ H ⟨[.ref a],[]⟩ [.ref a] [.ref a] _ _ hr e0 (hbind s₁ (.ref a)) (.cons rfl .nil) (hsp H hO hS)) λr s' h=>?_;cases r with
  |error e=>exact(TF H e s' h).elim|ok fl=>
   cases fl with
   |next=>exact jH h|brk=>exact jH h|cont=>exact jH h|ret u=>
    obtain⟨v,H',os,bare,un,hok',r',q⟩:=h;have q':v= .bl true:=q;subst q';obtain rfl:u=Value.bool true:=r';refine⟨rfl,OldK.of_keep λb o e=>?_,os,bare⟩;cases q:H b with
    |none=>exact un.keep b o e q (by intro z;exact absurd (show b∈([]:List Y2)from z) (by simp)) (by simp)|some u=>
     rcases hO b with z|⟨ob,xs,z⟩
     .rw[q]at z;cases z
     .have z2:=un.o4 b ob _ z;obtain⟨e1,_⟩:=hok b _ z;obtain⟨e2,_⟩:=hok' b _ z2;rw[e]at e1;cases e1;exact e2
 cases hk:K.lookup a with
 |some o=>have e:=KX a o hk;rw[ha]at e;cases e;refine core (λ_=>Yl) (λ_=>.inl rfl) (.inr ⟨_,vs.toArray,_,hk,rfl,rfl,rfl,by rw[Yq,lenV];exact hl,by simpa using rv⟩) (λb u z=>by have z':(Yl:Option HO)=Ya u:=z;cases z') (λb z=>absurd rfl z) λz=>absurd rfl z|none=>
  refine core (λb=>if b=a then Ya (.fc {cls:=.type "list",data:=.seq vs.toArray} (.lst (ns.map V.int)))else Yl) (λb=>?_) (.inl (.inr ⟨{cls:=.type "list",data:=.seq vs.toArray},if_pos rfl⟩)) (λb u z=>?_) (λb z=>?_) λ_=>hk
  .by_cases hb:b=a
   .exact .inr ⟨_,_,if_pos hb⟩
   .exact .inl (if_neg hb)
  .by_cases hb:b=a
   .have z':=(if_pos hb).symm.trans z;cases z';subst hb;exact⟨ha,by rw[Yu];exact hl,vs,_,rv,ha⟩
   .have z':=(if_neg hb).symm.trans z;cases z'
  .by_cases hb:b=a
   .exact hb
   .exact absurd (if_neg hb) z
end L2
namespace L2
open PySem PySem.Spec PyProof.Rows
theorem ZpJ{l:PySem.W.OpenLaw}{n k:Nat}{q:Yae}{loose:List aj}{XP:(aj->Option Yh)->aR->Prop}{YP:bh->aR->Prop}{d:DefRec}{K:Params->Yb}{CX:bh->qe}{sp:bh->Sp}{x:aj}(hn:l.most=Ya n)(hn2:n<=bH)(hdf:d.params.defaults=[])(hr:dU k v7)(hY:∀(w:bh) (h:aR),YP w h->(K w.params).In h)(F:∀(w:bh) (mg:aj->Option Yh) (fa:Y2) (h:aR),(K w.params).In h->h.Ns cP mg->mg d.name=Ya (.ref fa) ->
   ∃fd:lM,(∀(s:Yk) (u:Yh),Bd s fd ⟨[u],[]⟩ [(x,u)])/\
    ∀base:aR,(K w.params).In base->base.Ns cP mg->jK l.prog w (K w.params) mg base (CX w) k fa fd [x] (sp w))(hsp:∀(w:bh) (H:Hp) (a:Y2) (ns:List Int),ns.length<=n->Only H->bL (K w.params) H a (ns.map V.int)->sp w [.ref a] H (λv _=>v= .bl true) λ_ _ _=>False)(TF:∀(w:bh) (H:Hp) (s:Yk) (e:Yh) (s':Yk),CX w [] H s (λ_ _ _=>False) e s'->False):
  YQ q loose XP YP l.row.toRowW d [] (λf vs=>Ra f vs):=by
 refine Att.Aaz hn hdf λw s₀ s₁ mg mb fa o pm cd doc a vs ns G Y ho hd hcd hmg hobj hints hlen hg=>?_;have KX:=hY w _ Y;obtain⟨fd,hb,hF⟩:=F w mg fa _ KX G.T.g hmg;exact ZrX KX G.T.g G.T.b G.T.builtins G.T.nolimit hg hobj hints (Yi hlen hn2) hr hF hb (λH hO hS=>hsp w H a ns hlen hO hS) λH e s'=>TF w H s₁ e s'
end L2
/-THE LAST THEOREM (shape;LID,My.*are AbU):
  My.Adr:a structure of the addresses that your layer names (classes,functions);My.Txt K t:a structure (Prop) of the equations over K;
  My.Abg:{K} {implicit addresses ..} (e1:nsIn K cP "law" =Ya (Ya (.ref f))) (e2:K.lookup f=Ya ⟨oc,od,.func (fnOf "law" "law" params body scope dV kV doc pm an cdv ct),sl⟩) (e3:codeIn K cdv "law" =true) ..:∃t,My.Txt K t
set_option maxRecDepth 100000 in
set_option maxHeartbeats 0 in
theorem PySem.Challenge.cw_LID_holds : PySem.Challenge.rw_LID.Holds := by
 w_on;o_law;k_head;(case hw=>w_witness2)
 k_fill
 refine L2.ZpJ (l:=PySem.Challenge.rw_LID) (n:=63) (k:=40) (x:="script") (CX:=λw=>..) (sp:=λ_=>My.sp_law) rfl (by decide) rfl ⟨rfl,by decide,by decide⟩ (λw h Y=>PySem.W.kIn_of Y) ?F ?S ?C
 case F=>
  intro w mg fa h KX G hmg;have T:∃t,My.Txt (L2.KOf KX) t:=by
   dsimp only[L2.KOf]                          --K must stand as «<heap const>w.params» for k_is;refine' My.Abg ?e1 ?e2 ?e3 ..
   (case e1=>PySem.W.k_is)                    --in the order:a name->its address->its object->its parts
   (case e2=>PySem.W.k_is)
   ..
  obtain⟨t,T⟩:=T;have e0:=hmg.symm.trans (YS KX G T.law);cases e0                                       --fa is the law's own address;exact⟨_,λs u=>.of_eq rfl,λbase kb nb=>My.Abh T kb nb⟩     --if «.of_eq rfl» comes too early:refine'⟨_,?b,λbase kb nb=>My.Abh T kb nb⟩;exactλs u=>.of_eq rfl
 case S=>exactλw H a ns hl hO hS=>..
 case C=>exact ..
(the tactic k_is has no namespace:write k_is) -/
namespace L2
open PySem PySem.Spec PyProof.Rows
noncomputable def q8(s:Yd0):Arguments:=match s with
 | .FunctionDef _ a _ _ _ _ _ _ _ _=>a|_=>{posonlyargs:=[],args:=[],vararg:=Yl,kwonlyargs:=[],kw_defaults:=[],kwarg:=Yl,defaults:=[]}
noncomputable def mL(s:Yd0):List Yd0:=match s with
 | .FunctionDef _ _ b _ _ _ _ _ _ _=>b|_=>[]
noncomputable def Zt(s:Yd0):Scope:=match s with
 | .FunctionDef _ _ _ _ _ _ sc _ _ _=>sc|_=>{kind:=.function,names:=[],isGenerator:=false,isCoroutine:=false}
noncomputable abbrev mO:qe:=λ_ _ _ _ _ _=>False
noncomputable abbrev E0:XK:=λ_ _ _=>False
theorem ZuN{X:Cx}:GD mO X E0:=λ_ _ _ _ _ _ _ h=>h.elim
structure uO(K:Yb)(x qual:aj)(st:Yd0)(f:Y2)(fd:lM):Prop where
 ex:∃(oc:Yh) (od:Option Y2) (dV kV doc pm:Yh) (an:Option Y2) (cdv ct:Yh) (osl:Array (Option Yh)),
  fd=sH x qual (q8 st) (mL st) (Zt st) dV kV doc pm an cdv ct/\K.lookup f=Ya ⟨oc,od,.func fd,osl⟩/\Fp K cdv qual=true
 kp:ug K (.ref f)=true
section
variable {P:Yae} {w:bh} {K:Yb} {mg:aj->Option Yh} {base:aR}
theorem uO.ok{x qual:aj}{st:Yd0}{f:Y2}{fd:lM}{N ps:List aj}{k:Nat}{sp:Sp}(F:uO K x qual st f fd)(S:cU N ps (Zt st))(len:∀vs H Q E,sp vs H Q E->vs.length=ps.length)(hbody:∀(cdv:Yh) (A:bU) (outer:List fH) (s:Yk) (H:Hp) (vs:List V) (Q:VK) (E:XK),dU k (A.deeper (p6 qual (Zt st) s.heap.objs.size f cdv))->sp vs H Q E ->
   ∃t,kJ (uM mO P w K mg base N qual (Zt st) f cdv A outer s H E).yH (mL st) t/\t {nx:=λ_ H'=>Q .non H',rt:=Q} (start N vs) H):jK P w K mg base mO (k+1) f fd ps sp:=by
 obtain⟨oc,od,dV,kV,doc,pm,an,cdv,ct,osl,rfl,lk,hcd⟩:=F.ex;refine Zxx lk hcd S len λA outer s H vs Q E hr hsp=>?_;obtain⟨t,h,q⟩:=hbody cdv A outer s H vs Q E hr hsp;exact⟨t,h.yH,q⟩
theorem uO.binds{x qual:aj}{st:Yd0}{f:Y2}{fd:lM}{ps:List aj}(F:uO K x qual st f fd)(h:∀(dV kV doc pm:Yh) (an:Option Y2) (cdv ct:Yh) (us:List Yh),us.length=ps.length->bindArgs (sH x qual (q8 st) (mL st) (Zt st) dV kV doc pm an cdv ct) ⟨us,[]⟩=pure (ps.zip us)):Binds K fd ps []:=by obtain⟨oc,od,dV,kV,doc,pm,an,cdv,ct,osl,rfl,lk,hcd⟩:=F.ex;exact .all (h dV kV doc pm an cdv ct)
theorem Zss{x qual:aj}{st:Yd0}{f:Y2}{oc:Yh}{od an:Option Y2}{osl:Array (Option Yh)}{dV kV doc pm cdv ct:Yh}(l:K.lookup f=Ya ⟨oc,od,.func (sH x qual (q8 st) (mL st) (Zt st) dV kV doc pm an cdv ct),osl⟩)(c:Fp K cdv qual=true)(k:ug K (.ref f)=true):uO K x qual st f (sH x qual (q8 st) (mL st) (Zt st) dV kV doc pm an cdv ct):=⟨⟨oc,od,dV,kV,doc,pm,an,cdv,ct,osl,rfl,l,c⟩,k⟩
end
def wJ(H H':Hp):Prop:=∀b o,H b=Ya o->H' b=Ya o
theorem wJ.trans{H H1 H2:Hp}(a:wJ H H1)(b:wJ H1 H2):wJ H H2:=λc o h=>b c o (a c o h)
theorem wJ.free{H H':Hp}(e:wJ H H'){l:Y2}(h:H' l=Option.none):H l=Option.none:=by
 cases q:H l with
 |none=>rfl|some o=>rw[e l o q]at h;cases h
theorem wJ.seq{K:Yb}{H H':Hp}{a:Y2}{xs:List V}(e:wJ H H')(h:bL K H a xs):bL K H' a xs:=by
 rcases h with(h|⟨o,h⟩)|h
 .exact .inl (.inl (e _ _ h))
 .exact .inl (.inr ⟨o,e _ _ h⟩)
 .exact .inr h
end L2
namespace L2
open PySem PySem.Spec PyProof.Rows
section
variable {κ:Type} [DecidableEq κ]
noncomputable def mQ(kvs:List (κ×V))(k:κ):Option V:=(kvs.find? λkv=>decide (kv.1=k)).map (·.2)
noncomputable def putK(kvs:List (κ×V))(k:κ)(v:V):List (κ×V):=if(kvs.any λkv=>decide (kv.1=k))=true then kvs.map (λkv=>if kv.1=k then(kv.1,v)else kv)else kvs++[(k,v)]
theorem ZrD{k:κ}:mQ ([]:List (κ×V)) k=Yl:=rfl
theorem Lk{p:κ×V}{r:List (κ×V)}{k:κ}(e:p.1=k):mQ (p::r) k=Ya p.2:=by simp[mQ,Ay,e]
theorem Ln{p:κ×V}{r:List (κ×V)}{k:κ}(e:¬p.1=k):mQ (p::r) k=mQ r k:=by simp[mQ,Ay,e]
theorem ZmI(k:κ):∀kvs:List (κ×V),(kvs.any λkv=>decide (kv.1=k))=(mQ kvs k).isSome
 |[]=>rfl|p::r=>by
  rw[lK];by_cases e:p.1=k
  .simp only[Lk e,decide_eq_true e,Bool.true_or,Option.isSome_some]
  .rw[Ln e,decide_eq_false e,Ymy];exact ZmI k r
theorem o9.AaY{o:Option V}{u:Option Yh}(r:o9 o u):o.isSome=u.isSome:=by
 cases o with
 |none=>cases u with
  |none=>rfl|some _=>exact(show False from r).elim
 |some _=>cases u with
  |none=>exact(show False from r).elim|some _=>rfl
theorem o9.getD{o:Option V}{u:Option Yh}{d:V}{d':Yh}(r:o9 o u)(rd:RelV d d'):RelV (o.getD d) (u.getD d'):=by
 cases o with
 |none=>cases u with
  |none=>exact rd|some _=>exact(show False from r).elim
 |some _=>cases u with
  |none=>exact(show False from r).elim|some _=>exact r
theorem KV.val{kvs:List (κ×V)}{vs:List (κ×Yh)}(r:KV kvs vs)(k:κ):o9 (mQ kvs k) (Be vs k):=by
 unfold KV at r
 induction r with
 |nil=>exact True.intro|@cons p q ps qs h t ih=>
  obtain⟨h1,h2⟩:=h;by_cases e:p.1=k
  .have e':q.1=k:=h1.symm.trans e;have b:Be (q::qs) k=Ya q.2:=by simp[Be,Ay,e']
   rw[Lk e,b];exact h2
  .have e':¬q.1=k:=λz=>e (h1.trans z);have b:Be (q::qs) k=Be qs k:=by simp[Be,Ay,e']
   rw[Ln e,b];exact ih
theorem KV.any{kvs:List (κ×V)}{vs:List (κ×Yh)}(r:KV kvs vs)(k:κ):(kvs.any λkv=>decide (kv.1=k))=vs.any λkv=>decide (kv.1=k):=by
 unfold KV at r
 induction r with
 |nil=>rfl|cons h t ih=>rw[lK,lK,ih,h.1]
theorem KV.repl{kvs:List (κ×V)}{vs:List (κ×Yh)}(r:KV kvs vs)(k:κ){y:V}{u:Yh}(ry:RelV y u):
  KV (kvs.map λkv=>if kv.1=k then(kv.1,y)else kv) (vs.map λkv=>if kv.1=k then(kv.1,u)else kv):=by
 unfold KV at r ⊢
 induction r with
 |nil=>exact .nil|@cons p q ps qs h t ih=>
  rw[Ys,Ys];refine .cons ?_ ih;obtain⟨h1,h2⟩:=h;by_cases e:p.1=k
  .rw[if_pos e,if_pos (h1.symm.trans e)];exact⟨h1,ry⟩
  .rw[if_neg e,if_neg (λz=>e (h1.trans z))];exact⟨h1,h2⟩
theorem KV.put{kvs:List (κ×V)}{vs:List (κ×Yh)}(r:KV kvs vs)(k:κ){y:V}{u:Yh}(ry:RelV y u):KV (putK kvs k y) (stored vs k u):=by
 unfold putK stored;rw[r.any k];by_cases e:(vs.any λkv=>decide (kv.1=k))=true
 .rw[if_pos e,if_pos e];exact r.repl k ry
 .rw[if_neg e,if_neg e];exact Paired.snoc r ⟨rfl,ry⟩
theorem KV.length{kvs:List (κ×V)}{vs:List (κ×Yh)}(r:KV kvs vs):kvs.length=vs.length:=Ymu r
end
noncomputable abbrev KT(H:Hp):List (List Key×V)->List (List Key×Y2×Yh)->Prop:=Paired λp q=>p.1=q.1/\H q.2.1=Ya (.tup (p.1.map kV))/\RelV p.2 q.2.2
variable{xs:List (List Key×Y2×Yh)}{H:Hp}{kvs:List (List Key×V)}
theorem KT.val(r:KT H kvs xs)(k:List Key):o9 (mQ kvs k) ((wk xs k).map (·.2)):=by
 induction r with
 |nil=>exact True.intro|@cons p q ps qs h t ih=>
  obtain⟨h1,_,h2⟩:=h;by_cases e:p.1=k
  .have e':q.1=k:=h1.symm.trans e;have b:wk (q::qs) k=Ya q.2:=by simp[wk,Ay,e']
   rw[Lk e,b];exact h2
  .have e':¬q.1=k:=λz=>e (h1.trans z);have b:wk (q::qs) k=wk qs k:=by simp[wk,Ay,e']
   rw[Ln e,b];exact ih
theorem KT.repl(r:KT H kvs xs)(k:List Key){y:V}{u:Yh}(ry:RelV y u):
  KT H (kvs.map λkv=>if kv.1=k then(kv.1,y)else kv) (xs.map (putAt k u)):=by
 induction r with
 |nil=>exact .nil|@cons p q ps qs h t ih=>
  rw[Ys,Ys];refine .cons ?_ ih;obtain⟨h1,h2,h3⟩:=h;unfold putAt;by_cases e:p.1=k
  .rw[if_pos e,if_pos (h1.symm.trans e)];exact⟨h1,h2,ry⟩
  .rw[if_neg e,if_neg (λz=>e (h1.trans z))];exact⟨h1,h2,h3⟩
theorem KT.put(r:KT H kvs xs)(k:List Key){b:Y2}{y:V}{u:Yh}(hb:H b=Ya (.tup (k.map kV)))(ry:RelV y u):
  KT H (putK kvs k y) (storedH xs k b u):=by
 have e:(kvs.any λkv=>decide (kv.1=k))=(wk xs k).isSome:=by rw[ZmI,(r.val k).AaY,Option.isSome_map]
 unfold putK storedH;rw[e];by_cases q:(wk xs k).isSome=true
 .rw[if_pos q,if_pos q];exact r.repl k ry
 .rw[if_neg q,if_neg q];exact Paired.snoc r ⟨rfl,hb,ry⟩
theorem KT.keeps{H':Hp}(r:KT H kvs xs)(ht:∀b ys,H b=Ya (.tup ys)->H' b=Ya (.tup ys)):KT H' kvs xs:=Paired.Qe r λ_ _ z=>⟨z.1,ht _ _ z.2.1,z.2.2⟩
def Lp(H:Hp)(a:Y2)(y:V)(r:Option V):Prop:=(∃kvs k,Rd H a (.dK kvs)/\y=kV k/\r=mQ kvs k)\/∃kvs k b,Rd H a (.dT kvs)/\y= .ref b/\H b=Ya (.tup (k.map kV))/\r=mQ kvs k
def Lq(H:Hp)(a:Y2)(y v:V)(H':Hp):Prop:=
 (∃kvs k,H a=Ya (.dK kvs)/\y=kV k/\kvs.length<bH/\H'=upd H a (.dK (putK kvs k v)))\/
 ∃kvs k b,H a=Ya (.dT kvs)/\y= .ref b/\H b=Ya (.tup (k.map kV))/\kvs.length<bH/\H'=upd H a (.dT (putK kvs k v))
theorem Lp.k{H:Hp}{a:Y2}{kvs:List (Key×V)}{k:Key}(e:H a=Ya (.dK kvs)):Lp H a (kV k) (mQ kvs k):=.inl ⟨kvs,k,.inl e,rfl,rfl⟩
theorem Lp.t{a b:Y2}{k:List Key}(e:H a=Ya (.dT kvs))(eb:H b=Ya (.tup (k.map kV))):Lp H a (.ref b) (mQ kvs k):=.inr ⟨kvs,k,b,.inl e,rfl,eb,rfl⟩
theorem Lq.k{H:Hp}{a:Y2}{kvs:List (Key×V)}{k:Key}{v:V}(e:H a=Ya (.dK kvs))(hl:kvs.length<bH):Lq H a (kV k) v (upd H a (.dK (putK kvs k v))):=.inl ⟨kvs,k,e,rfl,hl,rfl⟩
theorem Lq.t{a b:Y2}{k:List Key}{v:V}(e:H a=Ya (.dT kvs))(eb:H b=Ya (.tup (k.map kV)))(hl:kvs.length<bH):
  Lq H a (.ref b) v (upd H a (.dT (putK kvs k v))):=.inr ⟨kvs,k,b,e,rfl,eb,hl,rfl⟩
def Lr(i:Expr):Prop:=∀ov iv,JS i false ov iv=operate [ov,iv] (qO ov iv)
theorem Zui{prog:Yae}{w:bh}{A:bU}{E:Yh->Yk->Prop}{s:Yk}{env:fH}{value slice:Expr}{pos:aU}{T id:String}{Q:Yh->Yk->Prop}(hl:typeLookup (.type T) "__getitem__" =pure (Ya (.builtin id)))(hs:Lr slice)(h:ao (aB prog w) A (aN value env) (λo s₁=>ao (aB prog w) A (aN slice env) (λi s₂=>s₂.TypeIs o T/\ao (aB prog w) A (qO o i) Q E s₂) E s₁) E s):
  ao (aB prog w) A (aN (.Subscript value slice pos) env) Q E s:=by
 refine RD (j4 h (λo s₁ h₁=>j4 h₁ (λi s₂ h₂=>?_) λ_ _ x=>x) λ_ _ x=>x);obtain⟨hT,h₂⟩:=h₂;unfold RB;refine Yg ?_;rw[getitemInPython_of_ne hT.not_modules];refine Yg (QT hT hl ?_);have fin:ao (aB prog w) A (JS slice false o i) (λr s₃=>ao (aB prog w) A (letTemporaryGo value o r>>=λ_=>pure r) Q E s₃) E s₂:=by rw[hs o i];exact wpAny_operating (j4 h₂ (λr s₃ h₃=>Yg (wpAny_letTemporaryGo (Yv h₃))) λ_ _ x=>x)
 first
  |exact Yv (Yg fin)
  |exact Yg (Yv (Yg fin))
  |exact Yg fin
structure M1(X:Cx)(o:Expr)(m:aj)(apos:aU)(e:Expr)(cpos:aU):Prop where
 base:nQ o m X.env (aN o X.env)=aN o X.env
 few:((cL cpos (Yy [e] X.env)).all (λx=>!x.1)&&(jb cpos (iZ [] X.env)).all (λx=>x.1.isSome)
  &&decide (([e]:List Expr).length+([]:List Keyword).length+(if([]:List Keyword).isEmpty then 0 else 1)<30))=true
 line:(apos.endLine==cpos.line)=true
 trees:cL cpos (Yy [e] X.env)=[(false,aN e X.env)]
structure M2(X:Cx)(o:Expr)(m:aj)(apos:aU)(e f:Expr)(cpos:aU):Prop where
 base:nQ o m X.env (aN o X.env)=aN o X.env
 few:((cL cpos (Yy [e,f] X.env)).all (λx=>!x.1)&&(jb cpos (iZ [] X.env)).all (λx=>x.1.isSome)
  &&decide (([e,f]:List Expr).length+([]:List Keyword).length+(if([]:List Keyword).isEmpty then 0 else 1)<30))=true
 line:(apos.endLine==cpos.line)=true
 trees:cL cpos (Yy [e,f] X.env)=[(false,aN e X.env),(false,aN f X.env)]
end L2
namespace L3
open PySem
variable{T:o_}{env:bJ}{hi lo:Option Int}{M:Store}{it:fZ}
noncomputable section
inductive D where
 |non|bl (b:Bool)|int (i:Int)|str (x:List Nat)|tup (ds:List D)|bF (ds:List D)|ref (n:Nat)
 deriving Inhabited
noncomputable abbrev gU:=Sum Int (List Nat)
inductive MO where
 |lst (xs:List D)|dct (kvs:List (gU×D))|cR (kvs:List (gU×D))|ins (c:List Nat) (fs:List (List Nat×D))
 deriving Inhabited
noncomputable abbrev Store:=List MO
structure X3 where
 cls:List Nat
 arg:D
inductive R3(α:Type)where
 |ok (a:α) (M:Store)|exc (x:X3) (M:Store)|bad
@[simp] noncomputable def R3.bind{α β:Type}(r:R3 α)(k:α->Store->R3 β):R3 β:=match r with
 | .ok a M=>k a M|.exc x M=>.exc x M|.bad=>.bad
theorem R3.Aa4{α β:Type}(a:α)(M:Store)(k:α->Store->R3 β):(R3.ok a M).bind k=k a M:=rfl
theorem ft{C:Prop}(h:false=true):C:=Bool.noConfusion h
theorem jl{α:Type}{C:Prop}{k:α}(h:Yl=Ya k):C:=by cases h
noncomputable def dz:Nat->D->Bool
 |_,.non=>true|_,.bl _=>true|_,.int _=>true|_,.str _=>true
 |n+1,.tup ds=>ds.all (dz n)|_,_=>false
noncomputable abbrev DEEP:Nat:=60
mutual
noncomputable def cY:D->D->Bool
 | .non,.non=>true|.bl a,.bl b=>a==b|.int a,.int b=>a==b|.str a,.str b=>a==b
 | .tup a,.tup b=>iT a b|.bl a,.int b=>(if a then 1 else 0)==b|.int a,.bl b=>a==(if b then 1 else 0)|_,_=>false
noncomputable def iT:List D->List D->Bool
 |[],[]=>true|a::x,b::y=>cY a b&&iT x y|_,_=>false
end
theorem TJ(a b:List Nat):cY (.str a) (.str b)=(a==b):=rfl
theorem ZuV(a b:List D):cY (.tup a) (.tup b)=iT a b:=rfl
theorem Zvu:iT [] []=true:=rfl
theorem TQ(a b:D)(x y:List D):iT (a::x) (b::y)=(cY a b&&iT x y):=rfl
mutual
noncomputable def below(n:Nat):D->Bool
 | .tup ds=>bZ n ds|.bF ds=>bZ n ds|.ref k=>k<n|.non=>true| .bl _=>true| .int _=>true| .str _=>true
noncomputable def bZ(n:Nat):List D->Bool
 |[]=>true|d::ds=>below n d&&bZ n ds
end
mutual
noncomputable def same:D->D->Bool
 | .non,.non=>true|.bl a,.bl b=>a==b|.int a,.int b=>a==b|.str a,.str b=>a==b
 | .tup a,.tup b=>B_ a b|.bF a,.bF b=>B_ a b|.ref a,.ref b=>a==b|_,_=>false
noncomputable def B_:List D->List D->Bool
 |[],[]=>true|a::x,b::y=>same a b&&B_ x y|_,_=>false
end
mutual
theorem Zps:∀{a b:D},same a b=true->a=b
 | .non,b,h=>by cases b<;>first|exact rfl|exact ft h
 | .bl a,b,h=>by cases b<;>first|exact congrArg D.bl (beq_iff_eq.mp h)|exact ft h
 | .int a,b,h=>by cases b<;>first|exact congrArg D.int (beq_iff_eq.mp h)|exact ft h
 | .str a,b,h=>by cases b<;>first|exact congrArg D.str (beq_iff_eq.mp h)|exact ft h
 | .tup a,b,h=>by cases b<;>first|exact congrArg D.tup (TV h)|exact ft h
 | .bF a,b,h=>by cases b<;>first|exact congrArg D.bF (TV h)|exact ft h
 | .ref a,b,h=>by cases b<;>first|exact congrArg D.ref (beq_iff_eq.mp h)|exact ft h
theorem TV:∀{x y:List D},B_ x y=true->x=y
 |[],y,h=>by cases y<;>first|exact rfl|exact ft h
 |a::x,y,h=>by
  cases y with
  |nil=>exact ft h|cons b y=>exact have w:=Ybb.mp (h:(same a b&&B_ x y)=true);congr (congrArg _ (Zps w.1)) (TV w.2)
end
mutual
theorem ZoN:∀(a:D),same a a=true
 | .non=>rfl|.bl a=>beq_self_eq_true a|.int a=>beq_self_eq_true a|.str a=>beq_self_eq_true a
 | .tup a=>TX a|.bF a=>TX a|.ref a=>beq_self_eq_true a
theorem TX:∀(x:List D),B_ x x=true
 |[]=>rfl|a::x=>Ybb.mpr ⟨ZoN a,TX x⟩
end
theorem same_iff{a b:D}:same a b=true↔a=b:=⟨Zps,λh=>h▸ZoN a⟩
noncomputable instance:DecidableEq D:=λa b=>decidable_of_iff (same a b=true) same_iff
noncomputable instance:DecidableEq MO:=λa b=>match a,b with
 | .lst x,.lst y=>if h:x=y then isTrue (by rw[h])else isFalse (by intro e;cases e;exact h rfl)|.dct x,.dct y=>if h:x=y then isTrue (by rw[h])else isFalse (by intro e;cases e;exact h rfl)|.cR x,.cR y=>if h:x=y then isTrue (by rw[h])else isFalse (by intro e;cases e;exact h rfl)|.ins c x,.ins d y=>if h:c=d/\x=y then isTrue (by rw[h.1,h.2])else isFalse (by intro e;cases e;exact h ⟨rfl,rfl⟩)
 | .ins _ _,.lst _=>isFalse (by intro e;cases e)|.ins _ _,.dct _=>isFalse (by intro e;cases e)|.ins _ _,.cR _=>isFalse (by intro e;cases e)|.lst _,.ins _ _=>isFalse (by intro e;cases e)
 | .dct _,.ins _ _=>isFalse (by intro e;cases e)|.cR _,.ins _ _=>isFalse (by intro e;cases e)|.lst _,.dct _=>isFalse (by intro e;cases e)|.lst _,.cR _=>isFalse (by intro e;cases e)
 | .dct _,.lst _=>isFalse (by intro e;cases e)|.dct _,.cR _=>isFalse (by intro e;cases e)|.cR _,.lst _=>isFalse (by intro e;cases e)|.cR _,.dct _=>isFalse (by intro e;cases e)
@[simp] noncomputable abbrev SZ:Nat:=1000000
noncomputable abbrev bJ:=List (Option D)
noncomputable abbrev E3:=bJ->Store->R3 D
noncomputable abbrev d_:=bJ->Store->R3 (List D)
noncomputable abbrev F3:=List D->Store->R3 D
inductive O3 where
 |nx (env:bJ) (M:Store)|rt (d:D) (M:Store)|bk (env:bJ) (M:Store)|ct (env:bJ) (M:Store)|exc (x:X3) (M:Store)|bad
noncomputable abbrev S3:=bJ->Store->O3
@[simp] noncomputable def Za(i:Nat):E3:=λenv M=>match env[i]? with
 |some (Ya d)=>.ok d M|_=>.bad
@[simp] noncomputable def eC(d:D):E3:=λ_ M=>.ok d M
@[simp] noncomputable def e1(op:D->Store->R3 D)(f:E3):E3:=λenv M=>(f env M).bind op
@[simp] noncomputable def e2(op:D->D->Store->R3 D)(f g:E3):E3:=λenv M=>(f env M).bind λa M1=>(g env M1).bind λb M2=>op a b M2
@[simp] noncomputable def Ze:d_:=λ_ M=>.ok [] M
@[simp] noncomputable def Zb(f:E3)(g:d_):d_:=λenv M=>(f env M).bind λa M1=>(g env M1).bind λb M2=>.ok (a::b) M2
@[simp] noncomputable def alloc(o:MO)(M:Store):R3 D:=.ok (.ref M.length) (M++[o])
section
local instance (priority:=100000) AbZ (p:Prop):Decidable p:=Yz p
@[simp] noncomputable def bV(g:d_):E3:=λenv M=>(g env M).bind λds M1=>if ds.length<=SZ then .ok (.tup ds) M1 else .bad
end
section
local instance (priority:=100000) Ab0 (p:Prop):Decidable p:=Yz p
@[simp] noncomputable def aX(g:d_):E3:=λenv M=>(g env M).bind λds M1=>if ds.length<=SZ then alloc (.lst ds) M1 else .bad
end
@[simp] noncomputable def bN(f g:E3):E3:=λenv M=>(f env M).bind λa M1=>match a with
 | .bl true=>g env M1|.bl false=>.ok (.bl false) M1|_=>.bad
@[simp] noncomputable def eE(f g:E3):E3:=λenv M=>(f env M).bind λa M1=>match a with
 | .bl false=>g env M1|.bl true=>.ok (.bl true) M1|_=>.bad
noncomputable def jm(a:D)(M:Store):R3 D:=match a with
 | .bl b=>.ok (.bl (!b)) M|_=>.bad
@[simp] theorem Zyx:∀b,jm (.bl b) M= .ok (.bl (!b)) M:=λ_=>rfl
@[simp] noncomputable def jL(c f g:E3):E3:=λenv M=>(c env M).bind λa M1=>match a with
 | .bl true=>f env M1|.bl false=>g env M1|_=>.bad
@[simp] noncomputable def Zz(F:F3)(g:d_):E3:=λenv M=>(g env M).bind λds M1=>F ds M1
section
local instance (priority:=100000) Ab1 (p:Prop):Decidable p:=Yz p
noncomputable def aM(a b:D)(M:Store):R3 D:=match a,b with
 | .int i,.int j=>.ok (.int (i+j)) M|.str x,.str y=>if x.length+y.length<=SZ then .ok (.str (x++y)) M else .bad|.tup x,.tup y=>if x.length+y.length<=SZ then .ok (.tup (x++y)) M else .bad|.ref n,.ref m=>match M[n]?,M[m]? with
  |some (.lst x),Ya (.lst y)=>if x.length+y.length<=SZ then alloc (.lst (x++y)) M else .bad|_,_=>.bad
 |_,_=>.bad
@[simp] theorem uP:∀i j,aM (.int i) (.int j) M= .ok (.int (i+j)) M:=λ_ _=>rfl
@[simp] theorem ZsW:∀x y,aM (.str x) (.str y) M=(if x.length+y.length<=SZ then .ok (.str (x++y)) M else .bad):=λ_ _=>rfl
@[simp] theorem TY:∀x y,aM (.tup x) (.tup y) M=(if x.length+y.length<=SZ then .ok (.tup (x++y)) M else .bad):=λ_ _=>rfl
@[simp] theorem ZsN:∀n m,aM (.ref n) (.ref m) M=(match M[n]?,M[m]? with
  |some (.lst x),Ya (.lst y)=>if x.length+y.length<=SZ then alloc (.lst (x++y)) M else .bad|_,_=>.bad):=λ_ _=>rfl
end
noncomputable def iB(a b:D)(M:Store):R3 D:=match a,b with
 | .int i,.int j=>.ok (.int (i-j)) M|_,_=>.bad
@[simp] theorem T3:∀i j,iB (.int i) (.int j) M= .ok (.int (i-j)) M:=λ_ _=>rfl
section
local instance (priority:=100000) Ab2 (p:Prop):Decidable p:=Yz p
noncomputable def mR(i j:Int):Bool:=(decide (-(2^64)<i)&&decide (i<2^64))|| (decide (-(2^64)<j)&&decide (j<2^64))
end
section
local instance (priority:=100000) Ab3 (p:Prop):Decidable p:=Yz p
noncomputable def iU(a b:D)(M:Store):R3 D:=match a,b with
 | .int i,.int j=>if mR i j then .ok (.int (i*j)) M else .bad|.str x,.int k=>if x.length*k.toNat<=SZ/\k<1000000/\ -1000000<k then .ok (.str (Yr k.toNat x).flatten) M else .bad|.ref n,.int k=>match M[n]? with
  |some (.lst x)=>if x.length*k.toNat<=SZ/\k<1000000/\ -1000000<k then alloc (.lst (Yr k.toNat x).flatten) M else .bad|_=>.bad
 |_,_=>.bad
@[simp] theorem ZxL:∀i j,iU (.int i) (.int j) M=(if mR i j then .ok (.int (i*j)) M else .bad):=λ_ _=>rfl
@[simp] theorem Zrt:∀x k,iU (.str x) (.int k) M=(if x.length*k.toNat<=SZ/\k<1000000/\ -1000000<k then .ok (.str (Yr k.toNat x).flatten) M else .bad):=λ_ _=>rfl
@[simp] theorem Zyz:∀n k,iU (.ref n) (.int k) M=(match M[n]? with
  |some (.lst x)=>if x.length*k.toNat<=SZ/\k<1000000/\ -1000000<k then alloc (.lst (Yr k.toNat x).flatten) M else .bad|_=>.bad):=λ_ _=>rfl
end
noncomputable def aZ(a b:D)(M:Store):R3 D:=match a,b with
 | .int i,.int j=>if 0<j then .ok (.int (i % j)) M else .bad|_,_=>.bad
@[simp] theorem Zmt:∀i j,aZ (.int i) (.int j) M=(if 0<j then .ok (.int (i % j)) M else .bad):=λ_ _=>rfl
section
local instance (priority:=100000) Ab4 (p:Prop):Decidable p:=Yz p
noncomputable def b8(a b:D)(M:Store):R3 D:=match a,b with
 | .int i,.int j=>if 0<j/\j<1073741824 then .ok (.int (i / j)) M else .bad|_,_=>.bad
@[simp] theorem Zk5:∀i j,b8 (.int i) (.int j) M=(if 0<j/\j<1073741824 then .ok (.int (i / j)) M else .bad):=λ_ _=>rfl
end
noncomputable def Lw(a b:D)(M:Store):R3 D:=match a,b with
 | .int i,.int j=>if 0<=j/\j<=1000/\i.natAbs<1000 then .ok (.int (i^j.toNat)) M else .bad|_,_=>.bad
@[simp] theorem ZmW:∀i j,Lw (.int i) (.int j) M=(if 0<=j/\j<=1000/\i.natAbs<1000 then .ok (.int (i^j.toNat)) M else .bad):=λ_ _=>rfl
noncomputable def cH(a:D)(M:Store):R3 D:=match a with
 | .int i=>.ok (.int (-i)) M|_=>.bad
@[simp] theorem yL:∀i,cH (.int i) M= .ok (.int (-i)) M:=λ_=>rfl
noncomputable def fQ(a b:D)(M:Store):R3 D:=match a,b with
 | .int i,.int j=>.ok (.bl (decide (i<j))) M|_,_=>.bad
@[simp] theorem nZ:∀i j,fQ (.int i) (.int j) M= .ok (.bl (decide (i<j))) M:=λ_ _=>rfl
noncomputable def n6(a b:D)(M:Store):R3 D:=match a,b with
 | .int i,.int j=>.ok (.bl (decide (i<=j))) M|_,_=>.bad
@[simp] theorem T4:∀i j,n6 (.int i) (.int j) M= .ok (.bl (decide (i<=j))) M:=λ_ _=>rfl
noncomputable def cV(a b:D)(M:Store):R3 D:=match a,b with
 | .int i,.int j=>.ok (.bl (decide (j<i))) M|_,_=>.bad
@[simp] theorem jM:∀i j,cV (.int i) (.int j) M= .ok (.bl (decide (j<i))) M:=λ_ _=>rfl
noncomputable def q9(a b:D)(M:Store):Option Bool:=match a,b with
 | .ref n,.ref m=>match M[n]?,M[m]? with
  |some (.lst x),Ya (.lst y)=>if x.all (dz DEEP)&&y.all (dz DEEP)then Ya (iT x y)else Yl|_,_=>Yl
 | .int i,.int j=>Ya (decide (i=j))|.str x,.str y=>Ya (decide (x=y))|.bl x,.bl y=>Ya (decide (x=y))|.tup x,.tup y=>if x.all (dz DEEP)&&y.all (dz DEEP)then Ya (iT x y)else Yl
 |_,_=>Yl
@[simp] theorem Ca:∀n m,q9 (.ref n) (.ref m) M=(match M[n]?,M[m]? with
  |some (.lst x),Ya (.lst y)=>if x.all (dz DEEP)&&y.all (dz DEEP)then Ya (iT x y)else Yl|_,_=>Yl):=λ_ _=>rfl
@[simp] theorem yM:∀i j,q9 (.int i) (.int j) M=Ya (decide (i=j)):=λ_ _=>rfl
@[simp] theorem wK:∀x y,q9 (.str x) (.str y) M=Ya (decide (x=y)):=λ_ _=>rfl
@[simp] theorem Lx:∀x y,q9 (.bl x) (.bl y) M=Ya (decide (x=y)):=λ_ _=>rfl
@[simp] theorem GQ:∀x y,q9 (.tup x) (.tup y) M=(if x.all (dz DEEP)&&y.all (dz DEEP)then Ya (iT x y)else Yl):=λ_ _=>rfl
@[simp] noncomputable def bj(a b:D)(M:Store):R3 D:=match q9 a b M with
 |some r=>.ok (.bl r) M|none=>.bad
@[simp] noncomputable def fJ(a b:D)(M:Store):R3 D:=match q9 a b M with
 |some r=>.ok (.bl (!r)) M|none=>.bad
noncomputable def n8(a b:D)(M:Store):R3 D:=match b with
 | .non=>.ok (.bl (decide (a= .non))) M|_=>.bad
@[simp] theorem ZyS{a:D}:n8 a (.non) M= .ok (.bl (decide (a= .non))) M:=rfl
noncomputable def GR(a b:D)(M:Store):R3 D:=match b with
 | .non=>.ok (.bl (!decide (a= .non))) M|_=>.bad
@[simp] theorem ZwJ{a:D}:GR a (.non) M= .ok (.bl (!decide (a= .non))) M:=rfl
noncomputable def cF:D->Bool
 | .non=>true| .bl _=>true| .int _=>true| .str _=>true|_=>false
noncomputable def T5(a:D)(y:List Nat):Option Bool:=match a with
 | .str [c]=>Ya (decide (c∈y))|_=>Yl
@[simp] theorem ZzA{y:List Nat}:∀c,T5 (.str [c]) y=Ya (decide (c∈y)):=λ_=>rfl
noncomputable def inD(a b:D):Option Bool:=match b with
 | .str y=>T5 a y|.tup ys=>if cF a&&ys.all cF then Ya (ys.any λy=>cY y a)else Yl|_=>Yl
@[simp] theorem Zy3{a:D}:∀y,inD a (.str y)=T5 a y:=λ_=>rfl
@[simp] theorem ZwK{a:D}:∀ys,inD a (.tup ys)=(if cF a&&ys.all cF then Ya (ys.any λy=>cY y a)else Yl):=λ_=>rfl
@[simp] noncomputable def mU(a b:D)(M:Store):R3 D:=match inD a b with
 |some r=>.ok (.bl r) M|none=>.bad
@[simp] noncomputable def Cd(a b:D)(M:Store):R3 D:=match inD a b with
 |some r=>.ok (.bl (!r)) M|none=>.bad
noncomputable def lQ(n:Nat)(i:Int):Option Nat:=if 0<=i then(if i<n then Ya i.toNat else Yl)else if -(n:Int)<=i then Ya (i+n).toNat else Yl
noncomputable def gW{α:Type}(xs:List α)(i:Int):Option α:=(lQ xs.length i).bind λj=>xs[j]?
noncomputable def T6:D->Option gU
 | .int i=>Ya (.inl i)|.str x=>Ya (.inr x)|_=>Yl
noncomputable def GX:List (gU×D)->gU->Option D
 |[],_=>Yl|(k,v)::r,x=>if k=x then Ya v else GX r x
section
local instance (priority:=100000) Ab5 (p:Prop):Decidable p:=Yz p
noncomputable def Zm(a b:D)(M:Store):R3 D:=match a,b with
 | .tup ds,.int i=>match gW ds i with
  |some d=>.ok d M|none=>.bad
 | .bF ds,.int i=>match gW ds i with
  |some d=>.ok d M|none=>.bad
 | .str x,.int i=>match gW x i with
  |some c=>if x.length<=SZ then .ok (.str [c]) M else .bad|none=>.bad
 | .ref n,.int i=>match M[n]? with
  |some (.lst ds)=>match gW ds i with
   |some d=>.ok d M|none=>.bad
  |_=>.bad
 |_,_=>.bad
@[simp] theorem T7:∀ds i,Zm (.tup ds) (.int i) M=(match gW ds i with
  |some d=>.ok d M|none=>.bad):=λ_ _=>rfl
@[simp] theorem T8:∀ds i,Zm (.bF ds) (.int i) M=(match gW ds i with
  |some d=>.ok d M|none=>.bad):=λ_ _=>rfl
@[simp] theorem Ly:∀x i,Zm (.str x) (.int i) M=(match gW x i with
  |some c=>if x.length<=SZ then .ok (.str [c]) M else .bad|none=>.bad):=λ_ _=>rfl
@[simp] theorem T9:∀n i,Zm (.ref n) (.int i) M=(match M[n]? with
  |some (.lst ds)=>match gW ds i with
   |some d=>.ok d M|none=>.bad
  |_=>.bad):=λ_ _=>rfl
end
noncomputable def ZuH:Option MO->Option (List (gU×D))
 |some (.dct kvs)=>Ya kvs|some (.cR kvs)=>Ya kvs|_=>Yl
noncomputable def ZwX(a b:D)(M:Store):R3 D:=match a with
 | .ref n=>match ZuH M[n]?,T6 b with
  |some kvs,Ya x=>match GX kvs x with
   |some d=>.ok d M|none=>.bad
  |_,_=>.bad
 |_=>.bad
@[simp] theorem Zxf{b:D}:∀n,ZwX (.ref n) b M=(match ZuH M[n]?,T6 b with
  |some kvs,Ya x=>match GX kvs x with
   |some d=>.ok d M|none=>.bad
  |_,_=>.bad):=λ_=>rfl
noncomputable def aF(n d:Nat):Option Int->Nat
 |none=>d|some v=>if v<0 then(v+(n:Int)).toNat else jJ v.toNat n
noncomputable def cutD{α:Type}(xs:List α)(lo hi:Option Int):List α:=(xs.drop (aF xs.length 0 lo)).take (aF xs.length xs.length hi-aF xs.length 0 lo)
noncomputable abbrev yN:=bJ->Store->R3 (Option Int)
@[simp] noncomputable def fK:yN:=λ_ M=>.ok Yl M
@[simp] noncomputable def dw(f:E3):yN:=λenv M=>(f env M).bind λa M1=>match a with
 | .int i=>.ok (Ya i) M1|_=>.bad
section
local instance (priority:=100000) Ab6 (p:Prop):Decidable p:=Yz p
noncomputable def yO(a:D)(lo hi:Option Int)(M:Store):R3 D:=match a with
 | .tup ds=>.ok (.tup (cutD ds lo hi)) M|.bF ds=>alloc (.lst (cutD ds lo hi)) M|.str x=>if x.length<=SZ then .ok (.str (cutD x lo hi)) M else .bad|.ref n=>match M[n]? with
  |some (.lst ds)=>alloc (.lst (cutD ds lo hi)) M|_=>.bad
 |_=>.bad
@[simp] theorem GZ:∀ds,yO (.tup ds) lo hi M= .ok (.tup (cutD ds lo hi)) M:=λ_=>rfl
@[simp] theorem G4:∀ds,yO (.bF ds) lo hi M=alloc (.lst (cutD ds lo hi)) M:=λ_=>rfl
@[simp] theorem Ce:∀x,yO (.str x) lo hi M=(if x.length<=SZ then .ok (.str (cutD x lo hi)) M else .bad):=λ_=>rfl
@[simp] theorem Cg:∀n,yO (.ref n) lo hi M=(match M[n]? with
  |some (.lst ds)=>alloc (.lst (cutD ds lo hi)) M|_=>.bad):=λ_=>rfl
end
@[simp] noncomputable def dW(f:E3)(lo hi:yN):E3:=λenv M=>(f env M).bind λa M1=>(lo env M1).bind λl M2=>(hi env M2).bind λh M3=>yO a l h M3
section
local instance (priority:=100000) Ab7 (p:Prop):Decidable p:=Yz p
noncomputable def bw(ds:List D)(M:Store):R3 D:=match ds with
 |[.tup x]=>.ok (.int x.length) M|[.bF x]=>.ok (.int x.length) M|[.str x]=>if x.length<=SZ then .ok (.int x.length) M else .bad|[.ref n]=>match M[n]? with
  |some (.lst x)=>.ok (.int x.length) M|_=>.bad
 |_=>.bad
@[simp] theorem yP:∀x,bw ([.tup x]) M= .ok (.int x.length) M:=λ_=>rfl
@[simp] theorem yQ:∀x,bw ([.bF x]) M= .ok (.int x.length) M:=λ_=>rfl
@[simp] theorem yR:∀x,bw ([.str x]) M=(if x.length<=SZ then .ok (.int x.length) M else .bad):=λ_=>rfl
@[simp] theorem q_:∀n,bw ([.ref n]) M=(match M[n]? with
  |some (.lst x)=>.ok (.int x.length) M|_=>.bad):=λ_=>rfl
end
noncomputable def gh(ds:List D)(M:Store):R3 D:=match ds with
 |[.tup x]=>.ok (.tup x) M|[.bF x]=>.ok (.tup x) M|[.ref n]=>match M[n]? with
  |some (.lst x)=>.ok (.tup x) M|_=>.bad
 |_=>.bad
@[simp] theorem ZkM:∀x,gh ([.tup x]) M= .ok (.tup x) M:=λ_=>rfl
@[simp] theorem ZkG:∀x,gh ([.bF x]) M= .ok (.tup x) M:=λ_=>rfl
@[simp] theorem Ci:∀n,gh ([.ref n]) M=(match M[n]? with
  |some (.lst x)=>.ok (.tup x) M|_=>.bad):=λ_=>rfl
noncomputable def tD(ds:List D)(M:Store):R3 D:=match ds with
 |[.tup x]=>alloc (.lst x) M|[.bF x]=>alloc (.lst x) M|[.ref n]=>match M[n]? with
  |some (.lst x)=>alloc (.lst x) M|_=>.bad
 |_=>.bad
@[simp] theorem Zra:∀x,tD ([.tup x]) M=alloc (.lst x) M:=λ_=>rfl
@[simp] theorem Zq6:∀x,tD ([.bF x]) M=alloc (.lst x) M:=λ_=>rfl
@[simp] theorem G5:∀n,tD ([.ref n]) M=(match M[n]? with
  |some (.lst x)=>alloc (.lst x) M|_=>.bad):=λ_=>rfl
inductive o_ where
 |int|bool|str|list|tuple
 deriving DecidableEq
noncomputable def kY(T:o_)(d:D)(M:Store):Option Bool:=match d with
 | .non=>Ya false|.bl _=>Ya (T== .bool|| T== .int)|.int _=>Ya (T== .int)|.str _=>Ya (T== .str)
 | .tup _=>Ya (T== .tuple)|.bF _=>Yl|.ref n=>match M[n]? with
  |some (.lst _)=>Ya (T== .list)|some (.dct _)=>Ya false|some (.cR _)=>Yl|some (.ins _ _)=>Yl
  |none=>Yl
@[simp] theorem Zo8:kY T (.non) M=Ya false:=rfl
@[simp] theorem ZpD:∀w0,kY T (.bl w0) M=Ya (T== .bool|| T== .int):=λ_=>rfl
@[simp] theorem ZoO:∀w0,kY T (.int w0) M=Ya (T== .int):=λ_=>rfl
@[simp] theorem Zpi:∀w0,kY T (.str w0) M=Ya (T== .str):=λ_=>rfl
@[simp] theorem ZoR:∀w0,kY T (.tup w0) M=Ya (T== .tuple):=λ_=>rfl
@[simp] theorem Zpx:∀w0,kY T (.bF w0) M=Yl:=λ_=>rfl
@[simp] theorem Zo3:∀n,kY T (.ref n) M=(match M[n]? with
  |some (.lst _)=>Ya (T== .list)|some (.dct _)=>Ya false|some (.cR _)=>Yl|some (.ins _ _)=>Yl
  |none=>Yl):=λ_=>rfl
@[simp] noncomputable def jo(T:o_)(d:D)(M:Store):R3 D:=match kY T d M with
 |some b=>.ok (.bl b) M|none=>.bad
noncomputable def Cj:D->Bool
 | .bl _=>true|_=>false
noncomputable def yS:D->Bool
 | .bl b=>b|_=>false
noncomputable def allB(l:List D):Option Bool:=if l.all Cj then Ya (l.all yS)else Yl
noncomputable def tE(ds:List D)(M:Store):R3 D:=match ds with
 | [.ref n]=>match M[n]? with
  |some (.lst x)=>match allB x with
   |some b=>.ok (.bl b) M|none=>.bad
  |_=>.bad
 |_=>.bad
@[simp] theorem Ck:∀n,tE ([.ref n]) M=(match M[n]? with
  |some (.lst x)=>match allB x with
   |some b=>.ok (.bl b) M|none=>.bad
  |_=>.bad):=λ_=>rfl
noncomputable def tG(o:D)(ds:List D)(M:Store):R3 D:=match o,ds with
 | .str x,[.str y]=>if x.length<=SZ/\y.length<=SZ then .ok (.bl (y.isPrefixOf x)) M else .bad|_,_=>.bad
@[simp] theorem G6:∀x y,tG (.str x) ([.str y]) M=(if x.length<=SZ/\y.length<=SZ then .ok (.bl (y.isPrefixOf x)) M else .bad):=λ_ _=>rfl
section
local instance (priority:=100000) AbV (p:Prop):Decidable p:=Yz p
noncomputable def cg(o:D)(ds:List D)(M:Store):R3 D:=match o,ds with
 | .ref n,[d]=>match M[n]? with
  |some (.lst x)=>if x.length<SZ then .ok .non (M.set n (.lst (x++[d])))else .bad|_=>.bad
 |_,_=>.bad
@[simp] theorem T_:∀n d,cg (.ref n) ([d]) M=(match M[n]? with
  |some (.lst x)=>if x.length<SZ then .ok .non (M.set n (.lst (x++[d])))else .bad|_=>.bad):=λ_ _=>rfl
end
section
local instance (priority:=100000) Ab8 (p:Prop):Decidable p:=Yz p
noncomputable def qg(o:D)(ds:List D)(M:Store):R3 D:=match o,ds with
 | .ref n,[.int i]=>match M[n]? with
  | some (.lst x)=>if -1000000<=i/\i<=1000000 then match lQ x.length i with
   |some k=>match x[k]? with
    |some d=>.ok d (M.set n (.lst (x.eraseIdx k)))|none=>.bad
   |none=>.bad
   else .bad
  |_=>.bad
 | .ref n,[]=>match M[n]? with
  |some (.lst x)=>match x[x.length-1]? with
   |some d=>.ok d (M.set n (.lst x.dropLast))|none=>.bad
  |_=>.bad
 |_,_=>.bad
@[simp] theorem Zpa:∀n i,qg (.ref n) ([.int i]) M=(match M[n]? with
  | some (.lst x)=>if -1000000<=i/\i<=1000000 then match lQ x.length i with
   |some k=>match x[k]? with
    |some d=>.ok d (M.set n (.lst (x.eraseIdx k)))|none=>.bad
   |none=>.bad
   else .bad
  |_=>.bad):=λ_ _=>rfl
@[simp] theorem Ua:∀n,qg (.ref n) ([]) M=(match M[n]? with
  |some (.lst x)=>match x[x.length-1]? with
   |some d=>.ok d (M.set n (.lst x.dropLast))|none=>.bad
  |_=>.bad):=λ_=>rfl
end
noncomputable def fL(a:D)(_:Store):Bool:=match a with
 | .str _=>true|_=>false
@[simp] theorem Zw3{w_:Store}:∀w0,fL (.str w0) w_=true:=λ_=>rfl
noncomputable def bx(a:D)(M:Store):Bool:=match a with
 | .ref n=>match M[n]? with
  |some (.lst _)=>true|_=>false
 |_=>false
@[simp] theorem yU:∀n,bx (.ref n) M=(match M[n]? with
  |some (.lst _)=>true|_=>false):=λ_=>rfl
@[simp] noncomputable def aG(ty:D->Store->Bool)(m:D->List D->Store->R3 D)(o:E3)(g:d_):E3:=λenv M=>(o env M).bind λa M1=>if ty a M1 then(g env M1).bind λds M2=>m a ds M2 else .bad
@[simp] noncomputable def aC(b:List D->Store->R3 D)(g:d_):E3:=λenv M=>(g env M).bind λds M1=>b ds M1
noncomputable def putD(k:gU)(v:D)(kvs:List (gU×D)):List (gU×D):=if(kvs.any λp=>decide (p.1=k))=true then kvs.map (λp=>if p.1=k then(p.1,v)else p)else kvs++[(k,v)]
noncomputable def dictOf(l:List (gU×D)):List (gU×D):=l.foldl (λacc p=>putD p.1 p.2 acc) []
@[simp] noncomputable def e3(op:D->D->D->Store->R3 D)(f g h:E3):E3:=λenv M=>(f env M).bind λa M1=>(g env M1).bind λb M2=>(h env M2).bind λc M3=>op a b c M3
noncomputable def Ub(v a b:D)(M:Store):R3 D:=match a,b with
 | .ref n,.int i=>match M[n]? with
  |some (.lst xs)=>match lQ xs.length i with
   |some j=>.ok .non (M.set n (.lst (xs.set j v)))|none=>.bad
  |_=>.bad
 |_,_=>.bad
@[simp] theorem ZkA{v:D}:∀n i,Ub v (.ref n) (.int i) M=(match M[n]? with
  |some (.lst xs)=>match lQ xs.length i with
   |some j=>.ok .non (M.set n (.lst (xs.set j v)))|none=>.bad
  |_=>.bad):=λ_ _=>rfl
noncomputable def ZrJ:List D->Option (List (gU×D))
 |[]=>Ya []|.tup [a,b]::r=>match T6 a with
  |some k=>(ZrJ r).map λl=>(k,b)::l|none=>Yl
 |_::_=>Yl
noncomputable def G7(ds:List D)(M:Store):R3 D:=match ds with
 |[.int i]=>.ok (.int i) M|[.bl b]=>.ok (.int (if b then 1 else 0)) M|_=>.bad
@[simp] theorem Zy0:∀i,G7 ([.int i]) M= .ok (.int i) M:=λ_=>rfl
@[simp] theorem ZyP:∀b,G7 ([.bl b]) M= .ok (.int (if b then 1 else 0)) M:=λ_=>rfl
noncomputable def mV:List D->Option (List Int)
 |[]=>Ya []|.int i::r=>(mV r).map (i:: ·)|_::_=>Yl
noncomputable def aW:S3:=λenv M=>.nx env M
noncomputable def rm:S3:=λ_ _=>.bad
noncomputable def Zq(f g:S3):S3:=λenv M=>match f env M with
 | .nx env' M'=>g env' M'|o=>o
noncomputable def aJ(c:E3)(f g:S3):S3:=λenv M=>match c env M with
 | .ok (.bl true) M1=>f env M1|.ok (.bl false) M1=>g env M1|.exc x M1=>.exc x M1|_=>.bad
noncomputable def aQ(f:E3):S3:=λenv M=>match f env M with
 | .ok d M1=>.rt d M1|.exc x M1=>.exc x M1|.bad=>.bad
noncomputable def aV(f:E3):S3:=λenv M=>match f env M with
 | .ok _ M1=>.nx env M1|.exc x M1=>.exc x M1|.bad=>.bad
noncomputable def aA(i:Nat)(f:E3):S3:=λenv M=>match f env M with
 | .ok d M1=>.nx (env.set i (Ya d)) M1|.exc x M1=>.exc x M1|.bad=>.bad
noncomputable def tH(o i f:E3):S3:=aV (e3 Ub f o i)
noncomputable def Uc:S3:=λenv M=>.bk env M
noncomputable abbrev G3:=D->bJ->Option bJ
@[simp] noncomputable def bB(i:Nat):G3:=λd env=>Ya (env.set i (Ya d))
noncomputable def bindAll:List Nat->List D->bJ->Option bJ
 |[],[],env=>Ya env|i::is,d::ds,env=>bindAll is ds (env.set i (Ya d))|_,_,_=>Yl
@[simp] theorem Lz:∀env,bindAll ([]) ([]) (env)=Ya env:=λ_=>rfl
@[simp] theorem LC:∀i is d ds env,bindAll (i::is) (d::ds) (env)=bindAll is ds (env.set i (Ya d)):=λ_ _ _ _ _=>rfl
@[simp] noncomputable def ph(is:List Nat):G3:=λd env=>match d with
 | .tup ds=>bindAll is ds env|_=>Yl
structure fZ where
 items:List D
 lock:Option Nat
noncomputable abbrev I3:=bJ->Store->R3 fZ
section
local instance (priority:=100000) AbW (p:Prop):Decidable p:=Yz p
@[simp] noncomputable def bW(f:E3):I3:=λenv M=>(f env M).bind λa M1=>match a with
 | .tup ds=>.ok ⟨ds,Yl⟩ M1|.bF ds=>.ok ⟨ds,Yl⟩ M1|.str x=>if x.length<=SZ then .ok ⟨x.map λc=>.str [c],Yl⟩ M1 else .bad|.ref n=>match M1[n]? with
  |some (.lst ds)=>.ok ⟨ds,Ya n⟩ M1|_=>.bad
 |_=>.bad
end
noncomputable def mW(lo:Int)(n:Nat):List D:=(iw n).map λ(k:Nat)=>D.int (lo+(k:Int))
section
local instance (priority:=100000) AbX (p:Prop):Decidable p:=Yz p
@[simp] noncomputable def tK(f:E3):I3:=λenv M=>(f env M).bind λa M1=>match a with
 | .int j=>if j<=1000000/\ -1000000<=j then .ok ⟨mW 0 j.toNat,Yl⟩ M1 else .bad|_=>.bad
end
noncomputable def locked(it:fZ)(M:Store):Bool:=match it.lock with
 |none=>true|some n=>decide (M[n]?=Ya (.lst it.items))
noncomputable def dB(it:fZ)(g:G3)(body:S3):List D->bJ->Store->O3
 |[],env,M=>if locked it M then .nx env M else .bad|d::ds,env,M=>if locked it M then match g d env with
  |none=>.bad|some dJ=>match body dJ M with
   | .nx e M'=>dB it g body ds e M'|.ct e M'=>dB it g body ds e M'|.bk e M'=>.nx e M'|o=>o
  else .bad
theorem qi{g:G3}{body:S3}:dB it g body [] env M=if locked it M then .nx env M else .bad:=rfl
theorem pq{g:G3}{body:S3}{d:D}{ds:List D}:dB it g body (d::ds) env M=if locked it M then match g d env with
  |none=>.bad|some dJ=>match body dJ M with
   | .nx e M'=>dB it g body ds e M'|.ct e M'=>dB it g body ds e M'|.bk e M'=>.nx e M'|o=>o
  else .bad:=rfl
noncomputable def kZ(i:I3)(g:G3)(body:S3):S3:=λenv M=>match i env M with
 | .ok it M1=>dB it g body it.items env M1|.exc x M1=>.exc x M1|.bad=>.bad
noncomputable def tL(c:E3)(body:S3):Nat->bJ->Store->O3
 |0,_,_=>.bad|n+1,env,M=>match c env M with
  | .ok (.bl true) M1=>match body env M1 with
   | .nx e M'=>tL c body n e M'|.ct e M'=>tL c body n e M'|.bk e M'=>.nx e M'|o=>o
  | .ok (.bl false) M1=>.nx env M1|.exc x M1=>.exc x M1|_=>.bad
theorem Cm{c:E3}{body:S3}{n:Nat}:tL c body (n+1) env M=match c env M with
  | .ok (.bl true) M1=>match body env M1 with
   | .nx e M'=>tL c body n e M'|.ct e M'=>tL c body n e M'|.bk e M'=>.nx e M'|o=>o
  | .ok (.bl false) M1=>.nx env M1|.exc x M1=>.exc x M1|_=>.bad:=rfl
noncomputable def Ud(c:E3)(body:S3):S3:=tL c body 1000000
noncomputable def uQ:List E3->bJ->Store->R3 Bool
 |[],_,M=>.ok true M|c::cs,env,M=>(c env M).bind λa M1=>match a with
  | .bl true=>uQ cs env M1|.bl false=>.ok false M1|_=>.bad
theorem G8:uQ [] env M= .ok true M:=rfl
theorem G9{c:E3}{cs:List E3}:uQ (c::cs) env M=(c env M).bind λa M1=>match a with
  | .bl true=>uQ cs env M1|.bl false=>.ok false M1|_=>.bad:=rfl
section
local instance (priority:=100000) Abn (p:Prop):Decidable p:=Yz p
noncomputable def jd(it:fZ)(g:G3)(ifs:List E3)(elt:E3)(n:Nat):List D->bJ->Store->R3 D
 |[],_,M=>if locked it M then .ok (.ref n) M else .bad|d::ds,env,M=>if locked it M then match g d env with
  |none=>.bad|some dJ=>(uQ ifs dJ M).bind λb M1=>if b then(elt dJ M1).bind λe M2=>match M2[n]? with
    |some (.lst x)=>if x.length<SZ then jd it g ifs elt n ds dJ (M2.set n (.lst (x++[e])))else .bad|_=>.bad
   else jd it g ifs elt n ds dJ M1
  else .bad
theorem Ue{g:G3}{ifs:List E3}{elt:E3}{n:Nat}:jd it g ifs elt n [] env M=if locked it M then .ok (.ref n) M else .bad:=rfl
theorem LK{g:G3}{ifs:List E3}{elt:E3}{n:Nat}{d:D}{ds:List D}:jd it g ifs elt n (d::ds) env M=if locked it M then match g d env with
  |none=>.bad|some dJ=>(uQ ifs dJ M).bind λb M1=>if b then(elt dJ M1).bind λe M2=>match M2[n]? with
    |some (.lst x)=>if x.length<SZ then jd it g ifs elt n ds dJ (M2.set n (.lst (x++[e])))else .bad|_=>.bad
   else jd it g ifs elt n ds dJ M1
  else .bad:=rfl
end
noncomputable def fU(i:I3)(own:Nat)(g:G3)(ifs:List E3)(elt:E3):E3:=λenv M=>(i env M).bind λit M1=>jd it g ifs elt M1.length it.items (env++Yr own Yl) (M1++[.lst []])
noncomputable def wL(n:Nat):MO->Bool
 | .lst xs=>bZ n xs|.dct kvs=>bZ n (kvs.map (·.2))|.cR kvs=>bZ n (kvs.map (·.2))|.ins _ fs=>bZ n (fs.map (·.2))
noncomputable def eG(M:Store)(d:D)(M':Store):R3 D:=if below M.length d&&(decide (M'.take M.length=M)|| (M'.take M.length).all (wL M.length))then .ok d (M'.take M.length)else .ok d M'
noncomputable def bG(ps n:Nat)(body:S3):F3:=λds M=>if ds.length=ps then match body (ds.map Ya++Yr (n-ps) Yl) M with
  | .nx _ M'=>eG M .non M'|.rt d M'=>eG M d M'|.exc x M'=>.exc x M'|_=>.bad
 else .bad
end
end L3
namespace L3
variable{i n:Nat}
theorem ZqY{it:fZ}{elt:E3}{R:D->D->Prop}{env0:bJ}:∀(ds:List D) (acc:List D) (env:bJ) (M:Store),(∀d,env.set i (Ya d)=env0.set i (Ya d)) ->
  (∀d∈ds,∀x,∃e,elt (env0.set i (Ya d)) (M.set n (.lst x))= .ok e (M.set n (.lst x))/\R d e)->(∀x,locked it (M.set n (.lst x))=true)->M[n]?=Ya (.lst acc)->acc.length+ds.length<=SZ ->
  ∃es,es.length=ds.length/\(∀(j:Nat) d e,ds[j]?=Ya d->es[j]?=Ya e->R d e)/\jd it (bB i) [] elt n ds env M= .ok (.ref n) (M.set n (.lst (acc++es))):=by
 intro ds
 induction ds with
 | nil=>
  intro acc env M _ _ hl hM _;have e:M.set n (.lst acc)=M:=by
   apply x_;intro j;by_cases hj:j=n
   .subst hj;rw[Yw (Yf.mp hM).1,hM]
   .rw[Yp (dg hj)]
  have hl':=hl acc;rw[e]at hl';exact⟨[],rfl,λj d e h=>by simp at h,by simp only[Ue,LK,hl',if_true,jZ,e]⟩
 | cons d ds ih=>
  intro acc env M he hf hl hM hz;have hn:n<M.length:=(Yf.mp hM).1;have e:M.set n (.lst acc)=M:=by
   apply x_;intro j;by_cases hj:j=n
   .subst hj;rw[Yw hn,hM]
   .rw[Yp (dg hj)]
  have hl':=hl acc;rw[e]at hl';obtain⟨v,hf',hR⟩:=hf d Yc acc;rw[e]at hf';have hz':acc.length<SZ:=by simp at hz ⊢;exact lB 1 0xf42405b01f42405ba1c0c01 T1 hz
  obtain⟨es,le,re,h⟩:=ih (acc++[v]) (env0.set i (Ya d)) (M.set n (.lst (acc++[v]))) (λd'=>by rw[vV]) (λd' hd' x=>by rw[vV];exact hf d' (Yd _ hd') x) (λx=>by rw[vV];exact hl x) (by rw[Yw hn]) (by simp at hz ⊢;exact lB 1 0xf42405b1a0cc0f42405ba1c0c01 T1 hz);refine⟨v::es,by simp[le],λj d' e' h1 h2=>?_,?_⟩
  .cases j with
   |zero=>simp at h1 h2;subst h1 h2;exact hR|succ j=>exact re j d' e' (by simpa using h1) (by simpa using h2)
  .simp only[LK,hl',if_true,bB,he d,G8,G9,R3.Aa4,hf',hM,hz'];rw[h,vV];simp
variable{env env':bJ}{M M':Store}
theorem Zi{f g:S3}(h:f env M= .nx env' M'):Zq f g env M=g env' M':=by rw[Zq,h]
variable{d:D}
theorem rn{f g:S3}(h:f env M= .rt d M'):Zq f g env M= .rt d M':=by rw[Zq,h]
theorem fV{c:E3}{f g:S3}(h:c env M= .ok (.bl true) M'):aJ c f g env M=f env M':=by rw[aJ,h]
theorem pB{c:E3}{f g:S3}(h:c env M= .ok (.bl false) M'):aJ c f g env M=g env M':=by rw[aJ,h]
variable{f:E3}
theorem cZ(h:f env M= .ok d M'):aQ f env M= .rt d M':=by rw[aQ,h]
theorem Zo(h:f env M= .ok d M')(he:env.set i (Ya d)=env':=by first|(dsimp only[lz,lG]<;>exact rfl)|exact rfl):aA i f env M= .nx env' M':=by rw[aA,h];simp only[he]
theorem cW{c:E3}{f:S3}(h:c env M= .ok (.bl false) M'):aJ c f aW env M= .nx env M':=by rw[aJ,h];rfl
theorem qj(h:f env M= .ok d M'):aV f env M= .nx env M':=by rw[aV,h]
theorem rA{i:I3}{g:G3}{u:S3}{it:fZ}(h:i env M= .ok it M'):kZ i g u env M=dB it g u it.items env M':=by rw[kZ,h]
theorem Ug{i:I3}{own:Nat}{g:G3}{ts:List E3}{it:fZ}(h:i env M= .ok it M'):fU i own g ts f env M=jd it g ts f M'.length it.items (env++Yr own Yl) (M'++[.lst []]):=by rw[fU,h];rfl
variable{body:S3}{ds:List D}
theorem jN{ps:Nat}(h:body env M= .rt d M')(hl:ds.length=ps:=by rfl)(he:ds.map Ya++Yr (n-ps) Yl=env:=by rfl):bG ps n body ds M=eG M d M':=by rw[bG,if_pos hl,he,h]
theorem G_{ps:Nat}(h:body env M= .nx env' M')(hl:ds.length=ps:=by rfl)(he:ds.map Ya++Yr (n-ps) Yl=env:=by rfl):bG ps n body ds M=eG M .non M':=by rw[bG,if_pos hl,he,h]
theorem Zso{G:Store}(h:below M.length d=true):eG M d (M++G)= .ok d M:=by simp[eG,h]
theorem ZkR(h:below M.length d=true):eG M d M= .ok d M:=by simp[eG,h]
variable{α:Type}
theorem Zn(M:List α)(x:α)(xs:List α):(M++x::xs)[M.length]?=Ya x:=by simp
theorem rC(M xs:List α)(k:Nat):(M++xs)[M.length+k]?=xs[k]?:=by rw[xX (iM _ _)];congr 1;exact Y0 (lC 1 2199589555233 T1 (Y8 (iM _ _))) (lC 1 2267788938241 T1 (gH _ _))
theorem Hf(M xs:List α)(k:Nat)(o:α):(M++xs).set (M.length+k) o=M++xs.set k o:=by rw[List.set_append_right _ _ (iM _ _)];congr 2;exact Y0 (lC 1 2199589555233 T1 (Y8 (iM _ _))) (lC 1 2267788938241 T1 (gH _ _))
theorem bK{M:List α}{o:α}(h:M[n]?=Ya o)(xs:List α):(M++xs)[n]?=Ya o:=by rw[Yj (Yf.mp h).1,h]
theorem fW(xs:List α)(k:Nat):gW xs (k:Int)=xs[k]?:=by
 unfold gW lQ;rw[if_pos (Gg k)];by_cases h:k<xs.length
 .rw[if_pos (Kg.2 h)];simp
 .rw[if_neg (by exactλz=>iN [_,_] [] 2 6667149772945 T1 z h)];simp at h ⊢;exact h
@[simp] theorem Zxh(xs:List α)(k:Nat):gW xs (k:Int)=xs[k]?:=fW xs k
@[simp] theorem Zyb(xs:List α)(n:Nat):gW xs (no_index (Gj n:Int))=xs[(Gj n:Nat)]?:=fW xs n
@[simp] theorem Zxq(xs:List α):gW xs (-1)=xs.getLast?:=by
 unfold gW lQ;rw[if_neg (by decide),List.getLast?_eq_getElem?];by_cases h:0<xs.length
 .rw[if_pos (by exact iN [_] [] 1 725993655825 T1 h)];simp only[YC];congr 1;exact Y0 (iN [_,_,_] [] 2 0x200a2c10118a9c08a1 T1 (nW (iN [_] [] 1 595337940497 T1 h)) (gH _ _)) (iN [_,_,_] [] 2 0x1200a2c211808a9c81 T1 (wB _) (Y8 (lA 1 10489361 T1 h)))
 .have:xs=[]:=by simpa using h
  subst this;rfl
theorem ZoG(n k:Nat):lQ n (k:Int)=if k<n then Ya k else Yl:=by
 unfold lQ;rw[if_pos (Gg k)];by_cases h:k<n
 .rw[if_pos (Kg.2 h),if_pos h];simp
 .rw[if_neg (by exactλz=>iN [_,_] [] 2 6667149772945 T1 z h),if_neg h]
@[simp] theorem ZxG(n k:Nat):lQ n (k:Int)=if k<n then Ya k else Yl:=ZoG n k
@[simp] theorem ZyY(m n:Nat):lQ m (no_index (Gj n:Int))=if(Gj n:Nat)<m then Ya (Gj n:Nat)else Yl:=ZoG m n
theorem getD_last(xs:List α)(x:α):gW (xs++[x]) (-1)=Ya x:=by
 unfold gW lQ;rw[if_neg (by decide),if_pos (by simp;exact iN [_] [] 0 10521768 T1)];have:(-1+((xs++[x]).length:Int)).toNat=xs.length:=by simp;exact Y0 (iN [_,_] [] 1 4514701222086817 T1 (nW (iN [_] [] 0 43097169128 T1))) (iN [_,_] [] 1 4505291991981185 T1 (wB _))
 simp only[YC,this];simp
theorem Zuh(xs:List α)(k:Nat)(h:xs.length<=k):cutD xs Yl (Ya (k:Int))=xs:=by unfold cutD aF;simp only[JH];rw[if_neg (by exactλz=>iN [_] [] 1 7211153 T1 z),sI (by simp;omega)]
inductive Row where
 |put (a:Nat) (n:Int)|add (a b c:Nat)|sub (a b c:Nat)|more (a b c:Nat)|get (a b:Nat)|set (a b:Nat)|jump (k:Nat)|when (a k:Nat)|tell (a:Nat)|halt
 deriving Inhabited
noncomputable def Row.ok(many:Nat):Row->Prop
 | .put a _=>a<8|.add a b c=>a<8/\b<8/\c<8|.sub a b c=>a<8/\b<8/\c<8|.more a b c=>a<8/\b<8/\c<8
 | .get a b=>a<8/\b<8|.set a b=>a<8/\b<8|.jump k=>k<many|.when a k=>a<8/\k<many
 | .tell a=>a<8|.halt=>True
noncomputable def Row.tells(bs:List Int):Row->Option Int
 | .tell a=>bs[a]?|_=>Yl
noncomputable def Row.sE:Row->Bool
 | .halt=>true|_=>false
variable{a:Nat}
@[simp] theorem Zxo{n:Int}{bs:List Int}:(Row.put a n).tells bs=Yl:=rfl
@[simp] theorem Zw6{n:Int}:(Row.put a n).sE=false:=rfl
variable{c:Nat}
@[simp] theorem Zxl{b:Nat}{bs:List Int}:(Row.add a b c).tells bs=Yl:=rfl
@[simp] theorem ZwO{b:Nat}:(Row.add a b c).sE=false:=rfl
@[simp] theorem Zxr{b:Nat}{bs:List Int}:(Row.sub a b c).tells bs=Yl:=rfl
@[simp] theorem Zw1{b:Nat}:(Row.sub a b c).sE=false:=rfl
@[simp] theorem Zvb{b:Nat}{bs:List Int}:(Row.more a b c).tells bs=Yl:=rfl
@[simp] theorem Zuz{b:Nat}:(Row.more a b c).sE=false:=rfl
@[simp] theorem Zxp{b:Nat}{bs:List Int}:(Row.get a b).tells bs=Yl:=rfl
@[simp] theorem Zvn{b:Nat}:(Row.get a b).sE=false:=rfl
@[simp] theorem Zxi{b:Nat}{bs:List Int}:(Row.set a b).tells bs=Yl:=rfl
@[simp] theorem Zwy{b:Nat}:(Row.set a b).sE=false:=rfl
@[simp] theorem Zww{k:Nat}{bs:List Int}:(Row.jump k).tells bs=Yl:=rfl
@[simp] theorem ZuR{k:Nat}:(Row.jump k).sE=false:=rfl
@[simp] theorem Zwr{k:Nat}{bs:List Int}:(Row.when a k).tells bs=Yl:=rfl
@[simp] theorem ZuC{k:Nat}:(Row.when a k).sE=false:=rfl
@[simp] theorem ZwZ{bs:List Int}:(Row.tell a).tells bs=bs[a]?:=rfl
@[simp] theorem ZuU:(Row.tell a).sE=false:=rfl
@[simp] theorem Zvq{bs:List Int}:(Row.halt).tells bs=Yl:=rfl
@[simp] theorem ZuD :(Row.halt).sE=true:=rfl
mutual
theorem Zqo:∀(n:Nat) (d:D),dz n d=true->cY d d=true
 |_,.non,_=>rfl|_,.bl b,_=>beq_self_eq_true b|_,.int b,_=>beq_self_eq_true b|_,.str b,_=>beq_self_eq_true b
 |0,.tup _,h=>ft h|n+1,.tup ds,h=>ZjV n ds (h_.mp h)|n,.bF _,h=>by cases n<;>exact ft h|n,.ref _,h=>by cases n<;>exact ft h
theorem ZjV:∀(n:Nat) (ds:List D),(∀d∈ds,dz n d=true)->iT ds ds=true
 |_,[],_=>rfl|n,d::ds,h=>by simp only[Zvu,TQ,Y5];exact⟨Zqo n d (h d Yc),ZjV n ds λx hx=>h x (Yd _ hx)⟩
end
def Rt(o:O3)(d:D):Prop:=∃M',o= .rt d M'
theorem Rt.set{g:S3}{r:D}(h:f env M= .ok d M')(k:Rt (g env' M') r)(he:env.set i (Ya d)=env':=by first|(dsimp only[lz,lG]<;>exact rfl)|exact rfl):Rt (Zq (aA i f) g env M) r:=by rw[Rt,Zi (Zo h he)];exact k
theorem Rt.expr{g:S3}{r:D}(h:f env M= .ok d M')(k:Rt (g env M') r):Rt (Zq (aV f) g env M) r:=by rw[Rt,Zi (qj h)];exact k
theorem Rt.skip{c:E3}{u g:S3}{r:D}(h:c env M= .ok (.bl false) M')(k:Rt (g env M') r):Rt (Zq (aJ c u aW) g env M) r:=by rw[Rt,Zi (cW h)];exact k
theorem Rt.loop{i:I3}{t:G3}{u g:S3}{M M' M1:Store}{it:fZ}{r:D}(h:i env M= .ok it M1)(hl:dB it t u it.items env M1= .nx env' M')(k:Rt (g env' M') r):Rt (Zq (kZ i t u) g env M) r:=by rw[Rt,Zi ((rA h).trans hl)];exact k
theorem Rt.step{f g:S3}{r:D}(h:f env M= .nx env' M')(k:Rt (g env' M') r):Rt (Zq f g env M) r:=by rw[Rt,Zi h];exact k
theorem Rt.law{ps:Nat}{b:Bool}(h:Rt (body env []) (.bl b))(hl:ds.length=ps:=by rfl)(he:ds.map Ya++Yr (n-ps) Yl=env:=by rfl):∃M',bG ps n body ds []= .ok (.bl b) M':=by obtain⟨M',h⟩:=h;exact⟨_,(jN h hl he).trans (by rw[eG,if_pos (by simp[below])])⟩
theorem Rt.pure{ps:Nat}{G:Store}(h:body env M= .rt d (M++G))(hd:below M.length d=true)(hl:ds.length=ps:=by rfl)(he:ds.map Ya++Yr (n-ps) Yl=env:=by rfl):bG ps n body ds M= .ok d M:=(jN h hl he).trans (Zso hd)
variable{g:E3}
theorem Zh{op:D->D->Store->R3 D}{M M1 M2 M3:Store}{a b d:D}(h1:f env M= .ok a M1)(h2:g env M1= .ok b M2)(h3:op a b M2= .ok d M3):e2 op f g env M= .ok d M3:=by simp only[e2,h1,h2,h3,R3.bind]
variable{F:F3}
theorem dD{M M1 M2:Store}{a:D}(h1:f env M= .ok a M1)(h2:F [a] M1= .ok d M2):Zz F (Zb f Ze) env M= .ok d M2:=by simp only[Zz,Zb,Ze,h1,h2,R3.bind]
theorem rD{M M1 M2 M3:Store}{a b d:D}(h1:f env M= .ok a M1)(h2:g env M1= .ok b M2)(h3:F [a,b] M2= .ok d M3):Zz F (Zb f (Zb g Ze)) env M= .ok d M3:=by simp only[Zz,Zb,Ze,h1,h2,h3,R3.bind]
theorem Zvm{h:E3}{M M1 M2 M3 M4:Store}{a b c d:D}(h1:f env M= .ok a M1)(h2:g env M1= .ok b M2)(h3:h env M2= .ok c M3)(h4:F [a,b,c] M3= .ok d M4):Zz F (Zb f (Zb g (Zb h Ze))) env M= .ok d M4:=by simp only[Zz,Zb,Ze,h1,h2,h3,h4,R3.bind]
@[simp] theorem Zzg(a b:o_):(a==b)=decide (a=b):=by cases a<;>cases b<;>rfl
theorem Hg{f g h k:E3}{M M1 M2 M3 M4 M5:Store}{a b c d e:D}(h1:f env M= .ok a M1)(h2:g env M1= .ok b M2)(h3:h env M2= .ok c M3)(h4:k env M3= .ok d M4)(h5:F [a,b,c,d] M4= .ok e M5):Zz F (Zb f (Zb g (Zb h (Zb k Ze)))) env M= .ok e M5:=by simp only[Zz,Zb,Ze,h1,h2,h3,h4,h5,R3.bind]
theorem cj{b:List D->Store->R3 D}{M M1 M2:Store}{a:D}(h1:f env M= .ok a M1)(h2:b [a] M1= .ok d M2):aC b (Zb f Ze) env M= .ok d M2:=by simp only[aC,Zb,Ze,h1,h2,R3.bind]
theorem dF{op:D->Store->R3 D}{M M1 M2:Store}{a:D}(h1:f env M= .ok a M1)(h2:op a M1= .ok d M2):e1 op f env M= .ok d M2:=by simp only[e1,h1,h2,R3.bind]
theorem Zr{g:d_}{M M1 M2:Store}(h1:f env M= .ok d M1)(h2:g env M1= .ok ds M2):Zb f g env M= .ok (d::ds) M2:=by simp only[Zb,h1,h2,R3.bind]
theorem gJ{g:d_}(h:g env M= .ok ds M')(hl:decide (ds.length<=100)=true):bV g env M= .ok (.tup ds) M':=by have:=of_decide_eq_true hl;simp only[bV,h,R3.bind];rw[if_pos (Yi this (by decide))]
variable{xs:List D}
theorem mX(h:M[n]?=Ya (.lst xs)):bw [.ref n] M= .ok (.int (xs.length:Int)) M:=by simp only[yP,yQ,yR,q_,h]
theorem n_(h:M[n]?=Ya (.lst xs)):gh [.ref n] M= .ok (.tup xs) M:=by simp only[ZkM,ZkG,Ci,h]
theorem iC{i:Int}(h:M[n]?=Ya (.lst xs))(hd:gW xs i=Ya d):Zm (.ref n) (.int i) M= .ok d M:=by simp only[T7,T8,Ly,T9,h,hd]
theorem yV{i:Int}(hd:gW xs i=Ya d):Zm (.tup xs) (.int i) M= .ok d M:=by simp only[T7,T8,Ly,T9,hd]
theorem LQ{a b:Int}(h:a<=b):n6 (.int a) (.int b) M= .ok (.bl true) M:=by simp only[T4,decide_eq_true h]
theorem ZzJ{a b:Int}(h:¬a<=b):n6 (.int a) (.int b) M= .ok (.bl false) M:=by simp only[T4,decide_eq_false h]
theorem wM{a b:Int}(h:a=b):bj (.int a) (.int b) M= .ok (.bl true) M:=by simp only[bj,Ca,yM,wK,Lx,GQ,decide_eq_true h]
theorem Cp{a b:Int}(h:¬a=b):bj (.int a) (.int b) M= .ok (.bl false) M:=by simp only[bj,Ca,yM,wK,Lx,GQ,decide_eq_false h]
theorem ZzB{a b:List Nat}(h:¬a=b):fJ (.str a) (.str b) M= .ok (.bl true) M:=by simp only[fJ,Ca,yM,wK,Lx,GQ,decide_eq_false h];rfl
theorem ZyH{a b:List Nat}(h:a=b):fJ (.str a) (.str b) M= .ok (.bl false) M:=by simp only[fJ,Ca,yM,wK,Lx,GQ,decide_eq_true h];rfl
theorem gw{i j:Int}(h:0<j):aZ (.int i) (.int j) M= .ok (.int (i % j)) M:=by simp only[Zmt,if_pos h]
theorem ou{M M1:Store}(h1:f env M= .ok (.bl false) M1):eE f g env M=g env M1:=by simp only[eE,h1,R3.bind]
theorem Hh{M M1:Store}(h1:f env M= .ok (.bl true) M1):eE f g env M= .ok (.bl true) M1:=by simp only[eE,h1,R3.bind]
theorem gY{M M1:Store}(h1:f env M= .ok (.bl true) M1):bN f g env M=g env M1:=by simp only[bN,h1,R3.bind]
theorem lR{M M1:Store}(h1:f env M= .ok (.bl false) M1):bN f g env M= .ok (.bl false) M1:=by simp only[bN,h1,R3.bind]
theorem Cq{c:E3}{M M1:Store}(h1:c env M= .ok (.bl true) M1):jL c f g env M=f env M1:=by simp only[jL,h1,R3.bind]
theorem Cr{c:E3}{M M1:Store}(h1:c env M= .ok (.bl false) M1):jL c f g env M=g env M1:=by simp only[jL,h1,R3.bind]
theorem tM{enc:α->D}{h:α->D}{own:Nat}{it:I3}{elt:E3}{M M1:Store}{lock:Option Nat}{as:List α}(hi:it env M= .ok ⟨as.map enc,lock⟩ M1)(Qa:∀n,lock=Ya n->M1[n]?=Ya (.lst (as.map enc)))(he:∀a∈as,∀M,elt ((env++Yr own Yl).set i (Ya (enc a))) M= .ok (h a) M)(hz:as.length<=100000):fU it own (bB i) [] elt env M= .ok (.ref M1.length) (M1++[.lst (as.map h)]):=by
 rw [Ug hi];obtain⟨es,le,re,hh⟩:=ZqY (it:=⟨as.map enc,lock⟩) (i:=i) (n:=M1.length) (elt:=elt) (R:=λd e=>∀a∈as,d=enc a->e=h a) (env0:=env++Yr own Yl) (as.map enc) [] (env++Yr own Yl) (M1++[.lst []]) (λ_=>rfl)
  (λd hd x=>by obtain⟨a,ha,rfl⟩:=dN.mp hd;refine⟨h a,he a ha _,λb hb e=>?_⟩;have h1:=he a ha [];have h2:=he b hb [];rw[e,h2]at h1;injection h1 with h1 _;exact h1.symm)
  (λx=>by
   cases lock with
   |none=>rfl|some n=>have hn:=Qa n rfl;have hlt:=(Yf.mp hn).1;simp only[locked,decide_eq_true_eq];rw[Yp (by exactλz=>lB 2 25787699233 T1 z hlt),Yj hlt,hn]) (by simp) (by simp;exact lA 1 0xf42405b00186a05b001 T1 hz)
 rw [show(⟨as.map enc,lock⟩:fZ).items=as.map enc from rfl,hh];have:es=as.map h:=by
  apply x_;intro j;rw[lH];cases ha:as[j]? with
  |none=>
   have:as.length<=j:=by simpa using ha
   simp[le];exact this
  | some a=>
   have hj:j<es.length:=by have:=(Yf.mp ha).1;simpa[le]using this
   have h2:=re j (enc a) es[j] (by simp[ha]) (by simp[hj]) a (xZ ha) rfl;rw[Y3 hj,h2];rfl
 rw[this];simp
noncomputable def Zth(cs:List (Int×Int))(n v:Int):List (Int×Int):=cs.filter (λc=>decide (c.1<n))++(if v≠0 then[(n,v)]else[])++cs.filter (λc=>decide (n<c.1))
noncomputable def Row.cells(bs:List Int)(cs:List (Int×Int)):Row->List (Int×Int)
 | .set a b=>Zth cs (bs.getD a 0) (bs.getD b 0)|_=>cs
noncomputable def gA(i:Int):List Nat:=(PySem.Str.ofString (Gk i)).cps.toList
noncomputable section
local instance (priority:=100000) Ab9 (p:Prop):Decidable p:=Yz p
noncomputable def tO(ds:List D)(M:Store):R3 D:=match ds with
 |[.int i]=>if i.natAbs.log2<1920 then .ok (.str (gA i)) M else .bad|[.str x]=>.ok (.str x) M|_=>.bad
@[simp] theorem Zo4:∀i,tO ([.int i]) M=(if i.natAbs.log2<1920 then .ok (.str (gA i)) M else .bad):=λ_=>rfl
@[simp] theorem Zup:∀x,tO ([.str x]) M= .ok (.str x) M:=λ_=>rfl
noncomputable def iD:List D->Option (List (List Nat))
 |[]=>Ya []|.str x::ds=>(iD ds).map (x:: ·)|_=>Yl
noncomputable def glue(sep:List Nat):List (List Nat)->List Nat
 |[]=>[]|[x]=>x|x::y::xs=>x++sep++glue sep (y::xs)
noncomputable def k_(sep:List Nat)(ts:List (List Nat)):Nat:=(ts.map λt=>t.length+sep.length).sum
noncomputable def uR(o:D)(ds:List D)(M:Store):R3 D:=match o,ds with
 | .str sep,[.ref n]=>match M[n]? with
  |some (.lst x)=>match iD x with
   |some ts=>if k_ sep ts<=SZ then .ok (.str (glue sep ts)) M else .bad|none=>.bad
  |_=>.bad
 |_,_=>.bad
@[simp] theorem ZmD:∀sep n,uR (.str sep) ([.ref n]) M=(match M[n]? with
  |some (.lst x)=>match iD x with
   |some ts=>if k_ sep ts<=SZ then .ok (.str (glue sep ts)) M else .bad|none=>.bad
  |_=>.bad):=λ_ _=>rfl
noncomputable def pC(x y:List Nat):List (List Nat):=(Yl8 ⟨x.toArray⟩ ⟨y.toArray⟩).map λt=>t.cps.toList
noncomputable def ql(o:D)(ds:List D)(M:Store):R3 D:=match o,ds with
 | .str x,[.str y]=>if 0<y.length/\x.length+2<=SZ then alloc (.lst ((pC x y).map D.str)) M else .bad|_,_=>.bad
@[simp] theorem ZkP:∀x y,ql (.str x) ([.str y]) M=(if 0<y.length/\x.length+2<=SZ then alloc (.lst ((pC x y).map D.str)) M else .bad):=λ_ _=>rfl
noncomputable def uT(ds:List D)(M:Store):R3 D:=match ds with
 |[.str x]=>match JR ⟨x.toArray⟩with
  |some n=>if x.length<=640 then .ok (.int n) M else .bad|none=>.bad
 |ds=>G7 ds M
@[simp] theorem ZrW:∀x,uT ([.str x]) M=(match JR ⟨x.toArray⟩with
  |some n=>if x.length<=640 then .ok (.int n) M else .bad|none=>.bad):=λ_=>rfl
@[simp] theorem ZqW:∀i,uT [.int i] M= .ok (.int i) M:=λ_=>rfl
@[simp] theorem Zyd:∀b,uT [.bl b] M=G7 [.bl b] M:=λ_=>rfl
@[simp] noncomputable def Hi(T1 T2:o_)(d:D)(M:Store):R3 D:=match kY T1 d M,kY T2 d M with
 |some a,Ya b=>.ok (.bl (a|| b)) M|_,_=>.bad
end
noncomputable section
noncomputable def Aca(f:E3)(g:G3):S3:=λenv M=>match f env M with
 | .ok d M1=>match g d env with
  |some dJ=>.nx dJ M1|none=>.bad
 | .exc x M1=>.exc x M1|.bad=>.bad
structure Hj where
 items:List D
 lk:List (Nat×List D)
noncomputable def jO(lk:List (Nat×List D))(M:Store):Bool:=lk.all λq=>decide (M[q.1]?=Ya (.lst q.2))
noncomputable abbrev yW:=bJ->Store->R3 Hj
noncomputable def mY:Nat->List D->List D
 |_,[]=>[]|k,d::ds=>.tup [.int k,d]::mY (k+1) ds
@[simp] noncomputable def Uh(f:E3):yW:=λenv M=>(f env M).bind λa M1=>match a with
 | .tup ds=>.ok ⟨mY 0 ds,[]⟩ M1|.ref n=>match M1[n]? with
  |some (.lst ds)=>.ok ⟨mY 0 ds,[(n,ds)]⟩ M1|_=>.bad
 |_=>.bad
noncomputable def rE(f:E3)(is:List Nat):S3:=λenv M=>match f env M with
 | .ok (.ref n) M1=>(match M1[n]? with
  |some (.lst ds)=>(match bindAll is ds env with
   |some dJ=>.nx dJ M1|none=>.bad)
  |_=>.bad)
 |_=>.bad
noncomputable def rF(a b:D)(M:Store):R3 D:=match b with
 | .ref n=>match M[n]? with
  |some (.lst ys)=>if cF a&&ys.all cF then .ok (.bl (ys.any λy=>cY y a)) M else .bad|_=>.bad
 |_=>.bad
@[simp] theorem Zm1{a:D}:∀n,rF a (.ref n) M=(match M[n]? with
  |some (.lst ys)=>if cF a&&ys.all cF then .ok (.bl (ys.any λy=>cY y a)) M else .bad|_=>.bad):=λ_=>rfl
theorem LR:∀(k:Nat) (ds:List D) (i:Nat),(mY k ds)[i]?=(ds[i]?).map λd=>.tup [.int ((k+i:Nat):Int),d]
 |_,[],_=>by simp[mY]|k,d::ds,0=>by simp[mY]|k,d::ds,i+1=>by simp only[mY,Fv,LR (k+1) ds i];rw[show k+1+i=k+(i+1)by exact Y0 (lB 0 0xa1c0c1a0cc0 T1) (lB 0 1790139547840 T1)]
theorem L_:∀(k:Nat) (ds:List D),(mY k ds).length=ds.length
 |_,[]=>rfl|k,d::ds=>by simp[mY,L_ (k+1) ds]
end
noncomputable section
noncomputable def Ui:List D->List D->List D
 |a::x,b::y=>.tup [a,b]::Ui x y|_,_=>[]
@[simp] noncomputable def Acb(f g:E3):yW:=λenv M=>(f env M).bind λa M1=>(g env M1).bind λb M2=>match a,b with
 | .ref n,.ref m=>match M2[n]?,M2[m]? with
  |some (.lst x),Ya (.lst y)=>.ok ⟨Ui x y,[(n,x),(m,y)]⟩ M2|_,_=>.bad
 |_,_=>.bad
section
local instance (priority:=100000) Acd (p:Prop):Decidable p:=Yz p
noncomputable def jP(lk:List (Nat×List D))(g:G3)(ifs:List E3)(elt:E3)(n:Nat):List D->bJ->Store->R3 D
 |[],_,M=>if jO lk M then .ok (.ref n) M else .bad|d::ds,env,M=>if jO lk M then match g d env with
  |none=>.bad|some dJ=>(uQ ifs dJ M).bind λb M1=>if b then(elt dJ M1).bind λv M2=>match M2[n]? with
    |some (.lst xs)=>if xs.length<SZ then jP lk g ifs elt n ds dJ (M2.set n (.lst (xs++[v])))else .bad|_=>.bad
   else jP lk g ifs elt n ds dJ M1
  else .bad
end
noncomputable def wN(i:yW)(own:Nat)(g:G3)(ifs:List E3)(elt:E3):E3:=λenv M=>(i env M).bind λit M1=>jP it.lk g ifs elt M1.length it.items (env++Yr own Yl) (M1++[.lst []])
section
local instance (priority:=100000) Ace (p:Prop):Decidable p:=Yz p
noncomputable def mZ(o:D)(ds:List D)(M:Store):R3 D:=match o,ds with
 | .ref n,[.ref m]=>match M[n]?,M[m]? with
  |some (.lst x),Ya (.lst y)=>if n≠m/\x.length+y.length<=SZ then .ok .non (M.set n (.lst (x++y)))else .bad|_,_=>.bad
 | .ref n,[.tup y]=>match M[n]? with
  |some (.lst x)=>if x.length+y.length<=SZ then .ok .non (M.set n (.lst (x++y)))else .bad|_=>.bad
 |_,_=>.bad
@[simp] theorem yX:∀n m,mZ (.ref n) ([.ref m]) M=(match M[n]?,M[m]? with
  |some (.lst x),Ya (.lst y)=>if n≠m/\x.length+y.length<=SZ then .ok .non (M.set n (.lst (x++y)))else .bad|_,_=>.bad):=λ_ _=>rfl
@[simp] theorem Cu:∀n y,mZ (.ref n) ([.tup y]) M=(match M[n]? with
  |some (.lst x)=>if x.length+y.length<=SZ then .ok .non (M.set n (.lst (x++y)))else .bad|_=>.bad):=λ_ _=>rfl
end
end
noncomputable section
end
noncomputable def wO(f:List Nat)(d:D):List (List Nat×D)->List (List Nat×D)
 |[]=>[(f,d)]|(g,x)::r=>if g=f then(g,d)::r else(g,x)::wO f d r
noncomputable def jQ(c f:List Nat)(a:D)(M:Store):R3 D:=match a with
 | .ref n=>match M[n]? with
  |some (.ins c' fs)=>if c'=c then(match fs.lookup f with
   |some d=>.ok d M|none=>.bad)else .bad
  |_=>.bad
 |_=>.bad
@[simp] theorem Zns{c:List Nat}{f:List Nat}:∀n,jQ c f (.ref n) M=(match M[n]? with
  |some (.ins c' fs)=>if c'=c then(match fs.lookup f with
   |some d=>.ok d M|none=>.bad)else .bad
  |_=>.bad):=λ_=>rfl
noncomputable def Zsm(c f:List Nat)(v a:D)(M:Store):R3 D:=match a with
 | .ref n=>match M[n]? with
  |some (.ins c' fs)=>if c'=c/\fs.length<1000 then .ok .non (M.set n (.ins c (wO f v fs)))else .bad|_=>.bad
 |_=>.bad
@[simp] theorem Uj{c:List Nat}{f:List Nat}{v:D}:∀n,Zsm c f v (.ref n) M=(match M[n]? with
  |some (.ins c' fs)=>if c'=c/\fs.length<1000 then .ok .non (M.set n (.ins c (wO f v fs)))else .bad|_=>.bad):=λ_=>rfl
noncomputable def Hl(c f:List Nat)(o v:E3):S3:=aV (e2 (Zsm c f) v o)
@[simp] noncomputable def Cv(c:List Nat)(F:F3)(g:d_):E3:=λenv M=>(g env M).bind λds M1=>match F (.ref M1.length::ds) (M1++[.ins c []])with
 | .ok .non M2=>.ok (.ref M1.length) M2|_=>.bad
noncomputable section
end
noncomputable section
end
noncomputable section
noncomputable abbrev Ma:=List (List Nat×List (List Nat))
noncomputable def Uk(f:E3):yW:=λenv M=>(f env M).bind λa M1=>match a with
 | .ref n=>match M1[n]? with
  |some (.lst ds)=>.ok ⟨mY 1 ds,[(n,ds)]⟩ M1|_=>.bad
 |_=>.bad
noncomputable def Zyf(M:Store):D->Option (List D×List (Nat×List D))
 | .tup x=>Ya (x,[])|.ref n=>match M[n]? with
  |some (.lst x)=>Ya (x,[(n,x)])|_=>Yl
 |_=>Yl
end
noncomputable section
noncomputable abbrev lU:=List (List Nat×Int)
noncomputable def dh(x:List Nat):lU->Option Int
 |[]=>Yl|(k,v)::r=>if x=k then Ya v else dh x r
noncomputable def uU(t:lU)(d e:D)(M:Store):R3 D:=match d with
 | .str x=>match dh x t with
  |some i=>.ok (.int i) M|none=>.ok e M
 | .int _=>.ok e M|_=>.bad
noncomputable def Zzq(x y:List D)(M:Store):R3 D:=match ZrJ (Ui x y)with
 |some l=>if l.length<=100000 then alloc (.dct (dictOf l)) M else .bad|none=>.bad
noncomputable def ZyD(f g:E3):E3:=λenv M=>(f env M).bind λa M1=>(g env M1).bind λb M2=>match Zyf M2 a,Zyf M2 b with
 |some (x,_),Ya (y,_)=>Zzq x y M2|_,_=>.bad
noncomputable def ZsM:D->Option (Nat×Int)
 | .tup [.ref n,.int i]=>Ya (n,i)|_=>Yl
noncomputable def ZzS(x y:List D)(r:Bool)(M:Store):R3 D:=if x.all (dz 50)=true/\y.all (dz 50)=true then .ok (.bl (iT x y&&r)) M else .bad
noncomputable def Acf(a b:D)(M:Store):R3 D:=match ZsM a,ZsM b with
 |some (n,i),Ya (m,j)=>match M[n]?,M[m]? with
  |some (.lst x),Ya (.lst y)=>if n=m then .bad else ZzS x y (i==j) M|_,_=>.bad
 |_,_=>.bad
noncomputable def uV(a b:D)(M:Store):R3 D:=match b with
 | .ref n=>match M[n]? with
  |some (.lst ys)=>if cF a&&ys.all cF then .ok (.bl (!ys.any λy=>cY y a)) M else .bad|_=>.bad
 |_=>.bad
end
noncomputable section
end
noncomputable section
local instance (priority:=100000) Acg (p:Prop):Decidable p:=Yz p
end
open PySem PySem.Spec PyProof.Rows L2
noncomputable abbrev St:=L2.St
theorem j8:SZ<=bH:=by rw[Bc];decide
def qm(K:Yb)(H:Hp)(a:Y2)(xs:List V):Prop:=
 (∃o,H a=Ya (.fc o (.lst xs)))\/
  ∃(o:aO) (its:Array Yh) (n:Nat),K.lookup a=Ya o/\o.cls= .type "list" /\o.dict=Yl/\o.data= .seq its n/\its.size<=bH/\Vals xs its.toList
variable{K:Yb}{H:Hp}
theorem qm.sq{a:Y2}{xs:List V}(h:qm K H a xs):bL K H a xs:=by
 rcases h with⟨o,h⟩|h
 .exact .inl (.inr ⟨o,h⟩)
 .exact .inr h
mutual
noncomputable def Rep(K:Yb)(H:Hp)(ι:List Y2):D->V->Prop
 | .non,v=>v= .non|.bl b,v=>v= .bl b|.int i,v=>v= .int i|.str x,v=>v= .str ⟨x.toArray⟩
 | .tup ds,v=>∃a vs,v= .ref a/\cT K H a vs/\au K H ι ds vs|.bF ds,v=>∃a vs,v= .ref a/\qm K H a vs/\au K H ι ds vs|.ref n,v=>∃a,ι[n]?=Ya a/\v= .ref a
noncomputable def au(K:Yb)(H:Hp)(ι:List Y2):List D->List V->Prop
 |[],vs=>vs=[]|d::ds,vs=>∃v ws,vs=v::ws/\Rep K H ι d v/\au K H ι ds ws
end
structure Ext(K:Yb)(H:Hp)(ι:List Y2)(H':Hp)(ι':List Y2):Prop where
 tup:∀a xs,cT K H a xs->cT K H' a xs
 bF:∀a xs,qm K H a xs->qm K H' a xs
 pre:∀(n:Nat) (a:Y2),ι[n]?=Ya a->ι'[n]?=Ya a
 fc:∀a o u,H a=Ya (.fc o u)->H' a=Ya (.fc o u)
variable{v:V}{vs:List V}
section
variable {K:Yb} {H H' H1 H2:Hp} {ι ι' ι1 ι2:List Y2}
theorem Ext.refl:Ext K H ι H ι:=⟨λ_ _ h=>h,λ_ _ h=>h,λ_ _ h=>h,λ_ _ _ h=>h⟩
theorem Ext.trans(a:Ext K H ι H1 ι1)(b:Ext K H1 ι1 H2 ι2):Ext K H ι H2 ι2:=⟨λx xs h=>b.tup x xs (a.tup x xs h),λx xs h=>b.bF x xs (a.bF x xs h),λn x h=>b.pre n x (a.pre n x h),λx o u h=>b.fc x o u (a.fc x o u h)⟩
mutual
theorem Rep.mono(e:Ext K H ι H' ι'):∀{d:D} {v:V},Rep K H ι d v->Rep K H' ι' d v
 | .non,_,h=>h|.bl _,_,h=>h|.int _,_,h=>h|.str _,_,h=>h
 | .tup ds,_,h=>by obtain⟨a,vs,rfl,s,r⟩:=h;exact⟨a,vs,rfl,e.tup _ _ s,au.mono e (ds:=ds) r⟩|.bF ds,_,h=>by obtain⟨a,vs,rfl,s,r⟩:=h;exact⟨a,vs,rfl,e.bF _ _ s,au.mono e (ds:=ds) r⟩|.ref n,_,h=>by obtain⟨a,s,rfl⟩:=h;exact⟨a,e.pre _ _ s,rfl⟩
theorem au.mono(e:Ext K H ι H' ι'):∀{ds:List D} {vs:List V},au K H ι ds vs->au K H' ι' ds vs
 |[],_,h=>h|d::ds,_,h=>by obtain⟨v,ws,rfl,r,q⟩:=h;exact⟨v,ws,rfl,Rep.mono e (d:=d) r,au.mono e (ds:=ds) q⟩
end
mutual
theorem Rep.keep(ht:∀a xs,cT K H a xs->cT K H' a xs)(hs:∀a xs,qm K H a xs->qm K H' a xs):∀{d:D} {v:V},Rep K H ι d v->Rep K H' ι d v
 | .non,_,h=>h|.bl _,_,h=>h|.int _,_,h=>h|.str _,_,h=>h
 | .tup ds,_,h=>by obtain⟨a,vs,rfl,s,r⟩:=h;exact⟨a,vs,rfl,ht _ _ s,au.keep ht hs (ds:=ds) r⟩|.bF ds,_,h=>by obtain⟨a,vs,rfl,s,r⟩:=h;exact⟨a,vs,rfl,hs _ _ s,au.keep ht hs (ds:=ds) r⟩|.ref n,_,h=>h
theorem au.keep(ht:∀a xs,cT K H a xs->cT K H' a xs)(hs:∀a xs,qm K H a xs->qm K H' a xs):∀{ds:List D} {vs:List V},au K H ι ds vs->au K H' ι ds vs
 |[],_,h=>h|d::ds,_,h=>by obtain⟨v,ws,rfl,r,q⟩:=h;exact⟨v,ws,rfl,Rep.keep ht hs (d:=d) r,au.keep ht hs (ds:=ds) q⟩
end
theorem au.nil:au K H ι [] []:=rfl
theorem au.cons{d:D}{ds:List D}{v:V}{vs:List V}(h:Rep K H ι d v)(t:au K H ι ds vs):au K H ι (d::ds) (v::vs):=⟨v,vs,rfl,h,t⟩
theorem au.nil_inv(h:au K H ι [] vs):vs=[]:=h
theorem au.cons_inv(h:au K H ι (d::ds) vs):∃v ws,vs=v::ws/\Rep K H ι d v/\au K H ι ds ws:=h
theorem au.length:∀{ds:List D} {vs:List V},au K H ι ds vs->vs.length=ds.length
 |[],_,h=>by rw[h.nil_inv];rfl|d::ds,_,h=>by obtain⟨v,ws,rfl,_,q⟩:=h.cons_inv;exact congrArg Nat.succ q.length
theorem au.append:∀{ds es:List D} {vs ws:List V},au K H ι ds vs->au K H ι es ws->au K H ι (ds++es) (vs++ws)
 |[],_,_,_,h,q=>by rw[h.nil_inv];exact q|d::ds,_,_,_,h,q=>by obtain⟨v,us,rfl,r,t⟩:=h.cons_inv;exact au.cons r (t.append q)
theorem au.drop:∀{ds:List D} {vs:List V} (n:Nat),au K H ι ds vs->au K H ι (ds.drop n) (vs.drop n)
 |_,_,0,h=>h|[],_,n+1,h=>by rw[h.nil_inv];exact au.nil|d::ds,_,n+1,h=>by obtain⟨v,us,rfl,r,t⟩:=h.cons_inv;exact t.drop n
theorem au.take:∀{ds:List D} {vs:List V} (n:Nat),au K H ι ds vs->au K H ι (ds.take n) (vs.take n)
 |_,_,0,h=>au.nil|[],_,n+1,h=>by rw[h.nil_inv];exact au.nil|d::ds,_,n+1,h=>by obtain⟨v,us,rfl,r,t⟩:=h.cons_inv;exact au.cons r (t.take n)
theorem au.get:∀{ds:List D} {vs:List V} {i:Nat} {d:D},au K H ι ds vs->ds[i]?=Ya d->∃v,vs[i]?=Ya v/\Rep K H ι d v
 |[],_,_,_,_,e=>by simp at e|d::ds,_,0,_,h,e=>by obtain⟨v,us,rfl,r,t⟩:=h.cons_inv;simp at e;subst e;exact⟨v,rfl,r⟩
 |d::ds,_,i+1,_,h,e=>by obtain⟨v,us,rfl,r,t⟩:=h.cons_inv;obtain⟨w,q,z⟩:=t.get (i:=i) (by simpa using e);exact⟨w,by simpa using q,z⟩
theorem au.set:∀{ds:List D} {vs:List V} {d:D} {v:V} (i:Nat),au K H ι ds vs->Rep K H ι d v->au K H ι (ds.set i d) (vs.set i v)
 |[],_,_,_,_,h,_=>by rw[h.nil_inv];exact au.nil|d::ds,_,_,_,0,h,q=>by obtain⟨v,us,rfl,r,t⟩:=h.cons_inv;exact au.cons q t
 |d::ds,_,_,_,i+1,h,q=>by obtain⟨v,us,rfl,r,t⟩:=h.cons_inv;exact au.cons r (t.set i q)
theorem au.ints:∀(ns:List Int),au K H ι (ns.map D.int) (ns.map V.int)
 |[]=>au.nil|n::ns=>au.cons rfl (au.ints ns)
theorem Rep.jA(h:Rep K H ι .non v):v= .non:=h
theorem Rep.gP{b:Bool}(h:Rep K H ι (.bl b) v):v= .bl b:=h
theorem Rep.int_inv{i:Int}(h:Rep K H ι (.int i) v):v= .int i:=h
theorem Rep.str_inv{x:List Nat}(h:Rep K H ι (.str x) v):v= .str ⟨x.toArray⟩:=h
theorem Rep.jg(h:Rep K H ι (.tup ds) v):∃a vs,v= .ref a/\cT K H a vs/\au K H ι ds vs:=h
theorem Rep.t8(h:Rep K H ι (.bF ds) v):∃a vs,v= .ref a/\qm K H a vs/\au K H ι ds vs:=h
theorem Rep.dM(h:Rep K H ι (.ref n) v):∃a,ι[n]?=Ya a/\v= .ref a:=h
theorem Rep.non:Rep K H ι .non .non:=rfl
theorem Rep.bl{b:Bool}:Rep K H ι (.bl b) (.bl b):=rfl
theorem Rep.int{i:Int}:Rep K H ι (.int i) (.int i):=rfl
theorem Rep.str{x:List Nat}:Rep K H ι (.str x) (.str ⟨x.toArray⟩):=rfl
theorem Rep.tup{a:Y2}{vs:List V}{ds:List D}(s:cT K H a vs)(r:au K H ι ds vs):Rep K H ι (.tup ds) (.ref a):=⟨a,vs,rfl,s,r⟩
theorem Rep.ref{a:Y2}(s:ι[n]?=Ya a):Rep K H ι (.ref n) (.ref a):=⟨a,s,rfl⟩
end
def ExO(e C:Y2)(dd:Option Y2)(h:aR):Prop:=∃o vs,h.get? e=Ya o/\o.cls= .ref C/\o.data= .fields vs/\o.dict=dd
noncomputable abbrev exH(e C:Y2)(dd:Option Y2):HO:=.ext (ExO e C dd)
noncomputable def dk:gU->Key
 | .inl i=>.inl i|.inr x=>.inr ⟨x.toArray⟩
def dG(K:Yb)(H:Hp)(ι:List Y2)(kvs:List (gU×D))(ws:List (Key×V)):Prop:=ws.map (·.1)=kvs.map (λp=>dk p.1)/\au K H ι (kvs.map (·.2)) (ws.map (·.2))
def gj(K:Yb)(H:Hp)(ι:List Y2)(fs:List (List Nat×D))(gs:List (aj×V)):Prop:=gs.map (·.1)=fs.map (λp=>(⟨p.1.toArray⟩:aj))/\au K H ι (fs.map (·.2)) (gs.map (·.2))
def ClsAt(K:Yb)(c:List Nat)(C:Y2):Prop:=PySem.W.nsIn K cP ⟨c.toArray⟩=Ya (Ya (.ref C))
def Mf(K:Yb)(H:Hp)(ι:List Y2)(fs:List (List Nat×D))(dd:Option Y2):Prop:=fs=[]\/∃dx o gs,dd=Ya dx/\H dx=Ya (.fc o (.xd gs))/\gj K H ι fs gs
variable{ι:List Y2}
theorem Mf.up{H':Hp}{ι':List Y2}{fs:List (List Nat×D)}{dd:Option Y2}(hf:∀b o gs,H b=Ya (.fc o (.xd gs))->H' b=Ya (.fc o (.xd gs)))(hr:∀ds vs,au K H ι ds vs->au K H' ι' ds vs)(h:Mf K H ι fs dd):Mf K H' ι' fs dd:=h.imp id λz=>let⟨dx,o,gs,e,q,r1,r2⟩:=z;⟨dx,o,gs,e,hf _ _ _ q,r1,hr _ _ r2⟩
noncomputable def m_(K:Yb)(H:Hp)(ι:List Y2):MO->Y2->Prop
 | .lst xs,a=>∃vs,H a=Ya (.lst vs)/\au K H ι xs vs|.dct kvs,a=>∃ws,H a=Ya (.dK ws)/\dG K H ι kvs ws|.cR kvs,a=>∃ws,(∃o,H a=Ya (.fc o (.dK ws)))/\dG K H ι kvs ws|.ins c fs,a=>(∃C dx gs,H a=Ya (.ins C dx gs)/\(ClsAt K c C/\c.head?≠Ya 0)/\gj K H ι fs gs)\/∃C dd,H a=Ya (exH a C dd)/\c.head?=Ya 0/\ClsAt K c.tail C/\Mf K H ι fs dd
structure aH(K:Yb)(H:Hp)(ι:List Y2)(M:Store):Prop where
 len:ι.length=M.length
 nd:ι.Nodup
 obj:∀(n:Nat) o a,M[n]?=Ya o->ι[n]?=Ya a->m_ K H ι o a
def Loose(H:Hp)(p:Y2):Prop:=H p=Yl\/(∃vs,H p=Ya (.lst vs))\/(∃ws,H p=Ya (.dK ws))\/∃C dx gs,H p=Ya (.ins C dx gs)
variable{m:MO}
section
variable {K:Yb} {H H':Hp} {ι ι':List Y2} {M:Store} {p:Y2} {o:HO}
theorem Loose.ne{a:Y2}{u:HO}(l:Loose H p)(h:H a=Ya u)(h1:∀vs,u≠ .lst vs)(h2:∀ws,u≠ .dK ws)(h3:∀C dx gs,u≠ .ins C dx gs:=by exactλ_ _ _ z=>nomatch z):a≠p:=by
 rintro rfl;rcases l with l|⟨vs,l⟩|⟨ws,l⟩|⟨C,dx,gs,l⟩
 .rw[h]at l;cases l
 .rw[h]at l;exact h1 vs (Y1 l)
 .rw[h]at l;exact h2 ws (Y1 l)
 .rw[h]at l;exact h3 C dx gs (Y1 l)
theorem Loose.tup(l:Loose H p){a:Y2}{xs:List V}(h:cT K H a xs):cT K (upd H p o) a xs:=by
 rcases h with(h|⟨ob,h⟩)|h
 .exact .inl (.inl (by rw[gq (l.ne h (λ_ z=>nomatch z) (λ_ z=>nomatch z))];exact h))
 .exact .inl (.inr ⟨ob,by rw[gq (l.ne h (λ_ z=>nomatch z) (λ_ z=>nomatch z))];exact h⟩)
 .exact .inr h
theorem Loose.bF(l:Loose H p){a:Y2}{xs:List V}(h:qm K H a xs):qm K (upd H p o) a xs:=by
 rcases h with⟨ob,h⟩|h
 .exact .inl ⟨ob,by rw[gq (l.ne h (λ_ z=>nomatch z) (λ_ z=>nomatch z))];exact h⟩
 .exact .inr h
theorem Loose.fc(l:Loose H p){a:Y2}{ob:aO}{u:HO}(h:H a=Ya (.fc ob u)):upd H p o a=Ya (.fc ob u):=by rw[gq (l.ne h (λ_ z=>nomatch z) (λ_ z=>nomatch z))];exact h
theorem Loose.ext(l:Loose H p):Ext K H ι (upd H p o) ι:=⟨λ_ _ h=>l.tup h,λ_ _ h=>l.bF h,λ_ _ h=>h,λ_ _ _ h=>l.fc h⟩
theorem Loose.Jk(l:Loose H p):Ext K H ι (upd H p o) (ι++[p]):=⟨λ_ _ h=>l.tup h,λ_ _ h=>l.bF h,λn a h=>by rw[Yj (Yf.mp h).1];exact h,λ_ _ _ h=>l.fc h⟩
theorem m_.mono{a:Y2}(e:Ext K H ι H' ι')(h:m_ K H ι m a)(k:H' a=H a):m_ K H' ι' m a:=by
 cases m with
 |lst xs=>obtain⟨vs,q,r⟩:=h;exact⟨vs,k.trans q,r.mono e⟩|dct kvs=>obtain⟨ws,q,r1,r2⟩:=h;exact⟨ws,k.trans q,r1,r2.mono e⟩|cR kvs=>obtain⟨ws,⟨o,q⟩,r1,r2⟩:=h;exact⟨ws,⟨o,k.trans q⟩,r1,r2.mono e⟩|ins c fs=>
  rcases h with⟨C,dx,gs,q,c,r1,r2⟩|⟨C,dd,q,z,c,r⟩
  .exact .inl ⟨C,dx,gs,k.trans q,c,r1,r2.mono e⟩
  .exact .inr ⟨C,dd,k.trans q,z,c,r.up (λb o g q=>e.fc b o _ q) λ_ _ r=>r.mono e⟩
theorem m_.ne{a:Y2}(h:m_ K H ι m a):H a≠Yl:=by
 cases m with
 |lst xs=>obtain⟨vs,q,r⟩:=h;rw[q];simp|dct kvs=>obtain⟨ws,q,r⟩:=h;rw[q];simp|cR kvs=>obtain⟨ws,⟨o,q⟩,r⟩:=h;rw[q];simp|ins c fs=>rcases h with⟨C,dx,gs,q,r⟩|⟨C,dd,q,r⟩<;>(rw[q];simp)
theorem aH.at(S:aH K H ι M)(h:M[n]?=Ya m):∃a,ι[n]?=Ya a/\m_ K H ι m a:=by
 have hn:n<ι.length:=by rw[S.len];exact(Yf.mp h).1
 exact⟨ι[n],by simp[hn],S.obj n m _ h (by simp[hn])⟩
theorem aH.there(S:aH K H ι M){a:Y2}(h:ι[n]?=Ya a):∃m,M[n]?=Ya m/\m_ K H ι m a:=by
 have hn:n<M.length:=by rw[←S.len];exact(Yf.mp h).1
 exact⟨M[n],by simp[hn],S.obj n _ _ (by simp[hn]) h⟩
theorem aH.fresh(S:aH K H ι M)(hp:H p=Yl):p∉ι:=λh=>by obtain⟨n,hn⟩:=JD h;obtain⟨m,_,q⟩:=S.there hn;exact q.ne hp
theorem aH.other(S:aH K H ι M)(l:Loose H p)(hp:p∉ι):aH K (upd H p o) ι M:=⟨S.len,S.nd,λn m a h1 h2=>(S.obj n m a h1 h2).mono l.ext (by rw[gq];rintro rfl;exact hp (xZ h2))⟩
theorem aH.new(S:aH K H ι M)(hp:H p=Yl)(h:m_ K (upd H p o) (ι++[p]) m p):aH K (upd H p o) (ι++[p]) (M++[m]):=by
 have hf:=S.fresh hp;refine⟨by simp[S.len],?_,λn m' a h1 h2=>?_⟩
 .exact Av.mpr ⟨S.nd,by simp,λx hx y hy=>by
   have e:y=p:=by simpa using hy
   subst e;rintro rfl;exact hf hx⟩
 .by_cases hn:n<ι.length
  .rw[Yj hn]at h2;rw[Yj (by rw[←S.len];exact hn)]at h1;refine(S.obj n m' a h1 h2).mono (Loose.Jk (.inl hp)) ?_;rw[gq];rintro rfl;exact hf (xZ h2)
  .rw[xX (j5 hn)]at h2;rw[xX (by rw[←S.len];exact j5 hn)]at h1;have hlt:n-ι.length<1:=by
    have:=(Yf.mp h2).1;simpa using this
   have e0:n-ι.length=0:=Y0 (lA 1 234922001 T1 hlt) (eZ _);rw[e0]at h2;rw[←S.len,e0]at h1;simp at h1 h2;subst h1 h2;exact h
theorem aH.put(S:aH K H ι M)(l0:Loose H p)(hn:ι[n]?=Ya p)(h:m_ K (upd H p o) ι m p):aH K (upd H p o) ι (M.set n m):=by
 obtain⟨m0,hm0,q0⟩:=S.there hn;refine⟨by simp[S.len],S.nd,λk m' a h1 h2=>?_⟩;by_cases hk:k=n
 .subst hk;rw[hn]at h2;cases h2;have hlt:k<M.length:=(Yf.mp hm0).1;rw[Yw hlt]at h1;cases h1;exact h
 .rw[Yp (dg hk)]at h1;refine(S.obj k m' a h1 h2).mono (Loose.ext l0) ?_;rw[gq];rintro rfl;have hlt1:=(Yf.mp h2);have hlt2:=(Yf.mp hn);exact hk ((ZQ S.nd).mp (hlt1.2.trans hlt2.2.symm))
theorem aH.lst(S:aH K H ι M)(hp:H p=Yl){xs:List D}{vs:List V}(r:au K H ι xs vs):Ext K H ι (upd H p (.lst vs)) (ι++[p])/\aH K (upd H p (.lst vs)) (ι++[p]) (M++[.lst xs])/\Rep K (upd H p (.lst vs)) (ι++[p]) (.ref M.length) (.ref p):=by have e:Ext K H ι (upd H p (.lst vs)) (ι++[p]):=Loose.Jk (.inl hp);refine⟨e,S.new hp ⟨vs,qW,r.mono e⟩,Rep.ref ?_⟩;rw[←S.len];simp
theorem aH.vM(S:aH K H ι M)(hp:H p=Yl)(r:au K H ι xs vs):Ext K H ι (upd H p (.tup vs)) ι/\aH K (upd H p (.tup vs)) ι M/\Rep K (upd H p (.tup vs)) ι (.tup xs) (.ref p):=by have e:Ext K H ι (upd H p (.tup vs)) ι:=Loose.ext (.inl hp);exact⟨e,S.other (.inl hp) (S.fresh hp),Rep.tup (cT.of qW) (r.mono e)⟩
theorem aH.vN(S:aH K H ι M)(l0:Loose H p)(hn:ι[n]?=Ya p)(r:au K H ι xs vs):Ext K H ι (upd H p (.lst vs)) ι/\aH K (upd H p (.lst vs)) ι (M.set n (.lst xs)):=by have e:Ext K H ι (upd H p (.lst vs)) ι:=Loose.ext l0;exact⟨e,S.put l0 hn ⟨vs,qW,r.mono e⟩⟩
end
def cM(K:Yb)(H:Hp)(ι:List Y2)(env:bJ)(σ:St):Prop:=env.length=σ.length/\∀(i:Nat) d,env[i]?=Ya (Ya d)->∃v,σ[i]?=Ya (Ya v)/\Rep K H ι d v
variable{σ:St}
theorem cM.mono{H':Hp}{ι':List Y2}(r:cM K H ι env σ)(e:Ext K H ι H' ι'):cM K H' ι' env σ:=⟨r.1,λi d h=>let⟨v,q,z⟩:=r.2 i d h;⟨v,q,z.mono e⟩⟩
theorem cM.set(r:cM K H ι env σ)(i:Nat)(h:Rep K H ι d v):cM K H ι (env.set i (Ya d)) (σ.set i (Ya v)):=by
 refine⟨by simp[r.1],λj e hj=>?_⟩;by_cases hij:j=i
 .subst hij;have hlt:j<env.length:=by
   have:=(Yf.mp hj).1;simpa using this
  rw[Yw hlt]at hj;cases hj;exact⟨v,by rw[Yw (by rw[←r.1];exact hlt)],h⟩
 .rw[Yp (dg hij)]at hj;obtain⟨w,q,z⟩:=r.2 j e hj;exact⟨w,by rw[Yp (dg hij)];exact q,z⟩
def Zv(K:Yb)(H:Hp)(ι:List Y2)(Q:VK)(r:R3 D):Prop:=match r with
 | .ok d M'=>∀v H' ι',Ext K H ι H' ι'->aH K H' ι' M'->Rep K H' ι' d v->Q v H'|_=>False
inductive TOf(K:Yb)(f:E3)(σ:St)(H:Hp)(Q:VK):Prop where
 |mk (ι:List Y2) (M:Store) (env:bJ) (S:aH K H ι M) (E:cM K H ι env σ) (h:Zv K H ι Q (f env M)):TOf K f σ H Q
def ni(K:Yb)(f:E3):TE:=λσ H Q=>TOf K f σ H Q
def nj(K:Yb)(H:Hp)(ι:List Y2)(Q:Bool->Hp->Prop)(r:R3 D):Prop:=match r with
 | .ok (.bl b) M'=>∀H' ι',Ext K H ι H' ι'->aH K H' ι' M'->Q b H'|_=>False
inductive TTf(K:Yb)(f:E3)(σ:St)(H:Hp)(Q:Bool->Hp->Prop):Prop where
 |mk (ι:List Y2) (M:Store) (env:bJ) (S:aH K H ι M) (E:cM K H ι env σ) (h:nj K H ι Q (f env M)):TTf K f σ H Q
def tTf(K:Yb)(f:E3):TT:=λσ H Q=>TTf K f σ H Q
def Cw(K:Yb)(H:Hp)(ι:List Y2)(Q:List V->Hp->Prop)(r:R3 (List D)):Prop:=match r with
 | .ok ds M'=>∀vs H' ι',Ext K H ι H' ι'->aH K H' ι' M'->au K H' ι' ds vs->Q vs H'|_=>False
inductive TAf(K:Yb)(f:d_)(σ:St)(H:Hp)(Q:List V->Hp->Prop):Prop where
 |mk (ι:List Y2) (M:Store) (env:bJ) (S:aH K H ι M) (E:cM K H ι env σ) (h:Cw K H ι Q (f env M)):TAf K f σ H Q
def Ul(K:Yb)(f:d_):TA:=λσ H Q=>TAf K f σ H Q
def Ho(K:Yb)(H:Hp)(ι:List Y2)(Q:Option Int->Hp->Prop)(r:R3 (Option Int)):Prop:=match r with
 | .ok o M'=>∀H' ι',Ext K H ι H' ι'->aH K H' ι' M'->Q o H'|_=>False
def tOo(K:Yb)(f:yN):TO:=λσ H Q=>∃ι M env,aH K H ι M/\cM K H ι env σ/\Ho K H ι Q (f env M)
def qp(K:Yb)(H:Hp)(ι:List Y2)(E:Ends)(r:O3):Prop:=match r with
 | .nx env' M'=>∀σ' H' ι',Ext K H ι H' ι'->aH K H' ι' M'->cM K H' ι' env' σ'->E.nx σ' H'|.bk env' M'=>∀σ' H' ι',Ext K H ι H' ι'->aH K H' ι' M'->cM K H' ι' env' σ'->E.bk σ' H'|.ct env' M'=>∀σ' H' ι',Ext K H ι H' ι'->aH K H' ι' M'->cM K H' ι' env' σ'->E.ct σ' H'|.rt d M'=>∀v H' ι',Ext K H ι H' ι'->aH K H' ι' M'->Rep K H' ι' d v->E.rt v H'
 |_=>False
inductive TSf(K:Yb)(f:S3)(D:Ends)(σ:St)(H:Hp):Prop where
 |mk (ι:List Y2) (M:Store) (env:bJ) (S:aH K H ι M) (E:cM K H ι env σ) (h:qp K H ι D (f env M)):TSf K f D σ H
def tSf(K:Yb)(f:S3):TS:=λE σ H=>TSf K f E σ H
def C3(X:Cx)(e:Expr)(f:E3):Prop:=PE X e (ni X.K f)
def CT(X:Cx)(e:Expr)(f:E3):Prop:=PT X e (tTf X.K f)
def CA(X:Cx)(es:List Expr)(f:d_):Prop:=PA X es (Ul X.K f)
def CO(X:Cx)(e:Option Expr)(f:yN):Prop:=PO X e (tOo X.K f)
def CS(X:Cx)(st:Yd0)(f:S3):Prop:=PS X st (tSf X.K f)
def qt(X:Cx)(st:List Yd0)(f:S3):Prop:=kJ X st (tSf X.K f)
variable{X:Cx}{e:Expr}
theorem _root_.L2.PE.imp{t t':TE}(h:PE X e t)(i:∀σ H Q,t' σ H Q->t σ H Q):PE X e t':=λpins s σ H Q I q=>h pins s σ H Q I (i σ H Q q)
theorem _root_.L2.PT.imp{t t':TT}(h:PT X e t)(i:∀σ H Q,t' σ H Q->t σ H Q):PT X e t':=λpins s σ H Q I q=>h pins s σ H Q I (i σ H Q q)
theorem _root_.L2.PA.imp{e:List Expr}{t t':TA}(h:PA X e t)(i:∀σ H Q,t' σ H Q->t σ H Q):PA X e t':=λpos pins s σ H Q I q=>h pos pins s σ H Q I (i σ H Q q)
theorem _root_.L2.PO.imp{e:Option Expr}{t t':TO}(h:PO X e t)(i:∀σ H Q,t' σ H Q->t σ H Q):PO X e t':=λpins s σ H Q I q=>h pins s σ H Q I (i σ H Q q)
theorem _root_.L2.PS.imp{e:Yd0}{t t':TS}(h:PS X e t)(i:∀D σ H,t' D σ H->t D σ H):PS X e t':=λpins s σ H D I q=>h pins s σ H D I (i D σ H q)
theorem _root_.L2.kJ.imp{e:List Yd0}{t t':TS}(h:kJ X e t)(i:∀D σ H,t' D σ H->t D σ H):kJ X e t':=λpins s σ H D I q=>h pins s σ H D I (i D σ H q)
theorem _root_.L2.aP.imp{f:Yh->Yh->pY Yh}{r r':R2}(h:aP X f r)(i:∀x y H Q,r' x y H Q->r x y H Q):aP X f r':=λpins s σ H x y v u Q I rx ry q=>h pins s σ H x y v u Q I rx ry (i x y H Q q)
theorem _root_.L2.uK.imp{f:Yh->pY Yh}{r r':V->Hp->VK->Prop}(h:uK X f r)(i:∀x H Q,r' x H Q->r x H Q):uK X f r':=λpins s σ H x v Q I rx q=>h pins s σ H x v Q I rx (i x H Q q)
theorem _root_.L2.dm.imp{f:Yh}{r r':List V->Hp->VK->Prop}(h:dm X f r)(i:∀x H Q,r' x H Q->r x H Q):dm X f r':=λpins s σ H xs us Q I rx q=>h pins s σ H xs us Q I rx (i xs H Q q)
theorem _root_.L2.mJ.imp{r r':R2}(h:mJ X r)(i:∀x y H Q,r' x y H Q->r x y H Q):mJ X r':=λvalue slice pins s σ H x y v u Q I rx ry q hs=>h value slice pins s σ H x y v u Q I rx ry (i x y H Q q) hs
theorem _root_.L2.j7.imp{r r':V->Option Int->Option Int->Hp->VK->Prop}(h:j7 X r)(i:∀x lo hi H Q,r' x lo hi H Q->r x lo hi H Q):j7 X r':=λpins s σ H x v vl vu lo hi sl Q I rx hs pl pu q=>h pins s σ H x v vl vu lo hi sl Q I rx hs pl pu (i x lo hi H Q q)
variable{r:R3 D}
section
variable {K:Yb} {H H1:Hp} {ι ι1:List Y2}
theorem Zv.up{Q:VK}(e:Ext K H ι H1 ι1)(h:Zv K H ι Q r):Zv K H1 ι1 Q r:=by
 cases r with
 |ok d M=>exactλv H' ι' e' S r=>h v H' ι' (e.trans e') S r|exc x M=>exact h|bad=>exact h
theorem nj.up{Q:Bool->Hp->Prop}(e:Ext K H ι H1 ι1)(h:nj K H ι Q r):nj K H1 ι1 Q r:=by
 cases r with
 |ok d M=>cases d<;>first|exact h|exactλH' ι' e' S=>h H' ι' (e.trans e') S
 |exc x M=>exact h|bad=>exact h
theorem qp.up{Q:Ends}{r:O3}(e:Ext K H ι H1 ι1)(h:qp K H ι Q r):qp K H1 ι1 Q r:=by
 cases r with
 |nx d M=>exactλv H' ι' e' S r=>h v H' ι' (e.trans e') S r|bk d M=>exactλv H' ι' e' S r=>h v H' ι' (e.trans e') S r|ct d M=>exactλv H' ι' e' S r=>h v H' ι' (e.trans e') S r|rt d M=>exactλv H' ι' e' S r=>h v H' ι' (e.trans e') S r
 |exc x M=>exact h|bad=>exact h
theorem Zv.ok{Q:VK}(h:Zv K H ι Q (.ok d M))(S:aH K H ι M)(r:Rep K H ι d v):Q v H:=h v H ι Ext.refl S r
theorem Zv.bind{Q:VK}{r:R3 α}{k:α->Store->R3 D}(h:Zv K H ι Q (r.bind k)):∃a M,r= .ok a M/\Zv K H ι Q (k a M):=by
 cases r with
 |ok a M=>exact⟨a,M,rfl,h⟩|exc x M=>exact h.elim|bad=>exact h.elim
theorem Cw.bind{Q:List V->Hp->Prop}{r:R3 α}{k:α->Store->R3 (List D)}(h:Cw K H ι Q (r.bind k)):∃a M,r= .ok a M/\Cw K H ι Q (k a M):=by
 cases r with
 |ok a M=>exact⟨a,M,rfl,h⟩|exc x M=>exact h.elim|bad=>exact h.elim
theorem Ho.bind{Q:Option Int->Hp->Prop}{r:R3 α}{k:α->Store->R3 (Option Int)}(h:Ho K H ι Q (r.bind k)):∃a M,r= .ok a M/\Ho K H ι Q (k a M):=by
 cases r with
 |ok a M=>exact⟨a,M,rfl,h⟩|exc x M=>exact h.elim|bad=>exact h.elim
theorem nj.bind{Q:Bool->Hp->Prop}{r:R3 α}{k:α->Store->R3 D}(h:nj K H ι Q (r.bind k)):∃a M,r= .ok a M/\nj K H ι Q (k a M):=by
 cases r with
 |ok a M=>exact⟨a,M,rfl,h⟩|exc x M=>exact h.elim|bad=>exact h.elim
end
inductive R2I(K:Yb)(op:D->D->Store->R3 D)(x y:V)(H:Hp)(Q:VK):Prop where
 |mk (ι:List Y2) (M:Store) (a b:D) (S:aH K H ι M) (ra:Rep K H ι a x) (rb:Rep K H ι b y) (h:Zv K H ι Q (op a b M)):R2I K op x y H Q
def r2(K:Yb)(op:D->D->Store->R3 D):R2:=λx y H Q=>R2I K op x y H Q
noncomputable def r1(K:Yb)(op:D->Store->R3 D):V->Hp->VK->Prop:=λx H Q=>∃ι M a,aH K H ι M/\Rep K H ι a x/\Zv K H ι Q (op a M)
inductive RBI(K:Yb)(b:List D->Store->R3 D)(xs:List V)(H:Hp)(Q:VK):Prop where
 |mk (ι:List Y2) (M:Store) (ds:List D) (S:aH K H ι M) (r:au K H ι ds xs) (h:Zv K H ι Q (b ds M)):RBI K b xs H Q
noncomputable def rB(K:Yb)(b:List D->Store->R3 D):List V->Hp->VK->Prop:=λxs H Q=>RBI K b xs H Q
noncomputable def rM(K:Yb)(m:D->List D->Store->R3 D):V->List V->Hp->VK->Prop:=λx xs H Q=>∃ι M a ds,aH K H ι M/\Rep K H ι a x/\au K H ι ds xs/\Zv K H ι Q (m a ds M)
noncomputable def rS(K:Yb):V->Option Int->Option Int->Hp->VK->Prop:=λx lo hi H Q=>∃ι M a,aH K H ι M/\Rep K H ι a x/\Zv K H ι Q (yO a lo hi M)
theorem Mg{op:D->D->Store->R3 D}(σ:St)(H:Hp)(Q:VK)(h:ni K (e2 op f g) σ H Q):BR (r2 K op) (ni K f) (ni K g) σ H Q:=by obtain⟨ι,M,env,S,E,h⟩:=h;obtain⟨a,M1,e1,h⟩:=Zv.bind h;obtain⟨b,M2,e2,h⟩:=Zv.bind h;refine⟨ι,M,env,S,E,?_⟩;rw[e1];intro v H1 ι1 x1 S1 r1;refine⟨ι1,M1,env,S1,E.mono x1,?_⟩;rw[e2];intro u H2 ι2 x2 S2 r2;exact⟨ι2,M2,a,b,S2,r1.mono x2,r2,(h.up x1).up x2⟩
theorem ZwB{op:D->Store->R3 D}(σ:St)(H:Hp)(Q:VK)(h:ni K (e1 op f) σ H Q):tUn (r1 K op) (ni K f) σ H Q:=by obtain⟨ι,M,env,S,E,h⟩:=h;obtain⟨a,M1,e1,h⟩:=Zv.bind h;refine⟨ι,M,env,S,E,?_⟩;rw[e1];intro v H1 ι1 x1 S1 r1;exact⟨ι1,M1,a,S1,r1,h.up x1⟩
variable{x:aj}{u:Yh}
section
variable {X:Cx} {a b c e o:Expr} {es:List Expr} {pos p:aU} {f g h:E3} {gl:d_}
theorem Zd(i:Nat)(hN:X.N[i]?=Ya x:=by rfl)(hv:KZ X.env.scope x:=by first|exact Or.inl rfl|exact Or.inr (Or.inl rfl)|exact Or.inr (Or.inr rfl))(hd:(x==("__debug__":aj))=false:=by decide)(hcd:(x==("__classdict__":aj))=false:=by decide):C3 X (.Name x pos) (Za i):=(ZvS hN hv hd hcd).imp λσ H Q ak=>by
 obtain⟨ι,M,env,S,E,h⟩:=ak;unfold Za at h;cases q:env[i]? with
 |none=>rw[q]at h;exact h.elim|some od=>
  cases od with
  |none=>rw[q]at h;exact h.elim|some d=>rw[q]at h;obtain⟨v,e1,r⟩:=E.2 i d q;exact⟨v,e1,Zv.ok h S r⟩
theorem Zj{i j}:C3 X (.Constant (.int i) j pos) (eC (.int i)):=SX.imp λσ H Q ⟨ι,M,env,S,E,h⟩=>Zv.ok h S Rep.int
theorem yZ{i j}:C3 X (.Constant (.bool i) j pos) (eC (.bl i)):=Zyi.imp λσ H Q ⟨ι,M,env,S,E,h⟩=>Zv.ok h S Rep.bl
theorem oA{j}:C3 X (.Constant .none j pos) (eC .non):=Zwp.imp λσ H Q ⟨ι,M,env,S,E,h⟩=>Zv.ok h S Rep.non
theorem bC{cs:List Nat}{j}(hx:x=⟨cs.toArray⟩:=by decide +kernel):C3 X (.Constant (.str x) j pos) (eC (.str cs)):=Zv7.imp λσ H Q ak=>by obtain⟨ι,M,env,S,E,h⟩:=ak;subst hx;exact Zv.ok h S Rep.str
theorem uW(hm:X.mg x=Ya u)(r:RelV v u)(hr:∀H ι,Rep X.K H ι d v)(hg:Gl X x:=by rfl)(hd:(x==("__debug__":aj))=false:=by decide):C3 X (.Name x pos) (eC d):=(BK hg hm r hd).imp λσ H Q ⟨ι,M,env,S,E,h⟩=>Zv.ok h S (hr H ι)
theorem Zu{op:Operator}{q:D->D->Store->R3 D}(ho:aP X (i_ op) (r2 X.K q))(ha:C3 X a f)(hb:C3 X b g):C3 X (.BinOp a op b pos) (e2 q f g):=(Zxv ho ha hb).imp Mg
theorem jR{op:UnaryOp}{q:D->Store->R3 D}(ho:uK X (J2 op) (r1 X.K q))(ha:C3 X a f):C3 X (.UnaryOp op a pos) (e1 q f):=(Zyv ho ha).imp ZwB
theorem rG{op:CmpOp}{q:D->D->Store->R3 D}(ho:aP X (dO op) (r2 X.K q))(ha:C3 X a f)(hb:C3 X b g)(hm:yh op b=false:=by rfl):C3 X (.Compare a [op] [b] pos) (e2 q f g):=(Zpu ho ha hb hm).imp Mg
theorem Hq{Q:Bool->Hp->Prop}(h:nj K H ι Q r):Zv K H ι (λx H'=>∃k,x= .bl k/\Q k H') r:=by
 cases r with
 |ok d M=>
  cases d with
  |bl b=>exactλv H' ι' e S r=>⟨b,r.gP,h H' ι' e S⟩|_=>exact h.elim
 |exc x M=>exact h.elim|bad=>exact h.elim
theorem lV(h:C3 X e f)(he:∀whole,isTrue e X.env whole=(do let v ←whole;FZ e.pos;v6 [v] (truthy v)):=by intro _;rfl):CT X e f:=(ZwC h he).imp λσ H Q ⟨ι,M,env,S,E,h⟩=>⟨ι,M,env,S,E,Hq h⟩
theorem bA{op:CmpOp}{q:D->D->Store->R3 D}(ho:aP X (dO op) (r2 X.K q))(ha:C3 X a f)(hb:C3 X b g)(hm:yh op b=false:=by rfl):CT X (.Compare a [op] [b] pos) (e2 q f g):=(Tj ho ha hb hm).imp λσ H Q ⟨ι,M,env,S,E,h⟩=>Mg σ H _ ⟨ι,M,env,S,E,Hq h⟩
end
variable{st:Yd0}{q:List D->Store->R3 D}
section
variable {X:Cx} {a b c e o:Expr} {es rest:List Expr} {pos p:aU} {f g h:E3} {gl:d_}
theorem y_{op}(h:C3 X a f):C3 X (.BoolOp op [a] pos) f:=ZvM h
theorem za(ha:C3 X a f)(hb:C3 X (.BoolOp .And (b::rest) pos) g):C3 X (.BoolOp .And (a::b::rest) pos) (bN f g):=(Zu5 ha hb).imp λσ H Q ak=>by
 obtain⟨ι,M,env,S,E,h⟩:=ak;obtain⟨d,M1,e1,h⟩:=Zv.bind h;refine⟨ι,M,env,S,E,?_⟩;rw[e1];intro v H1 ι1 x1 S1 r1;cases d with
 |bl k=>
  refine⟨k,r1.gP,?_⟩;cases k with
  |true=>rw[if_pos rfl];exact⟨ι1,M1,env,S1,E.mono x1,h.up x1⟩|false=>rw[if_neg (by decide)];exact Zv.ok (h.up x1) S1 Rep.bl
 |_=>exact h.elim
theorem Zx4(ha:C3 X a f)(hb:C3 X (.BoolOp .Or (b::rest) pos) g):C3 X (.BoolOp .Or (a::b::rest) pos) (eE f g):=(Zyn ha hb).imp λσ H Q ak=>by
 obtain⟨ι,M,env,S,E,h⟩:=ak;obtain⟨d,M1,e1,h⟩:=Zv.bind h;refine⟨ι,M,env,S,E,?_⟩;rw[e1];intro v H1 ι1 x1 S1 r1;cases d with
 |bl k=>
  refine⟨k,r1.gP,?_⟩;cases k with
  |false=>rw[if_neg (by decide)];exact⟨ι1,M1,env,S1,E.mono x1,h.up x1⟩|true=>rw[if_pos rfl];exact Zv.ok (h.up x1) S1 Rep.bl
 |_=>exact h.elim
theorem ZuY(ha:C3 X a f):C3 X (.UnaryOp .Not a pos) (e1 jm f):=(ZwH ha).imp λσ H Q ak=>by
 obtain⟨ι,M,env,S,E,h⟩:=ak;obtain⟨d,M1,e1,h⟩:=Zv.bind h;refine⟨ι,M,env,S,E,?_⟩;rw[e1];intro v H1 ι1 x1 S1 r1;cases d with
 |bl k=>exact⟨k,r1.gP,Zv.ok (h.up x1) S1 Rep.bl⟩|_=>exact h.elim
def CW(X:Cx)(e:Expr)(f:E3):Prop:=PW X e (tTf X.K f)
theorem CW.ct(h:CW X e f):CT X e f:=PW.pt h
theorem PW.imp{t t':TT}(h:PW X e t)(i:∀σ H Q,t' σ H Q->t σ H Q):PW X e t':=λwh pins s σ H Q I q=>h wh pins s σ H Q I (i σ H Q q)
theorem uX(ha:CT X a f):CW X (.BoolOp .And [a] pos) f:=ZtZ ha
theorem tQ(ha:CT X a f):CW X (.BoolOp .Or [a] pos) f:=Zv2 ha
theorem oE(ha:CT X a f)(hb:CW X (.BoolOp .And (b::rest) pos) g):CW X (.BoolOp .And (a::b::rest) pos) (bN f g):=PW.imp (Zv1 ha hb) λσ H Q ak=>by
 obtain⟨ι,M,env,S,E,h⟩:=ak;obtain⟨d,M1,e1,h⟩:=nj.bind h;refine⟨ι,M,env,S,E,?_⟩;rw[e1];cases d with
 |bl k=>
  intro H1 ι1 x1 S1;cases k with
  |true=>rw[if_pos rfl];exact⟨ι1,M1,env,S1,E.mono x1,h.up x1⟩|false=>rw[if_neg (by decide)];exact h H1 ι1 x1 S1
 |_=>exact h.elim
theorem qw(ha:CT X a f)(hb:CW X (.BoolOp .Or (b::rest) pos) g):CW X (.BoolOp .Or (a::b::rest) pos) (eE f g):=PW.imp (Zyk ha hb) λσ H Q ak=>by
 obtain⟨ι,M,env,S,E,h⟩:=ak;obtain⟨d,M1,e1,h⟩:=nj.bind h;refine⟨ι,M,env,S,E,?_⟩;rw[e1];cases d with
 |bl k=>
  intro H1 ι1 x1 S1;cases k with
  |false=>rw[if_neg (by decide)];exact⟨ι1,M1,env,S1,E.mono x1,h.up x1⟩|true=>rw[if_pos rfl];exact h H1 ι1 x1 S1
 |_=>exact h.elim
theorem uY(ha:CT X a f):CT X (.UnaryOp .Not a pos) (e1 jm f):=(Zvw ha).imp λσ H Q ak=>by
 obtain⟨ι,M,env,S,E,h⟩:=ak;obtain⟨d,M1,e1,h⟩:=nj.bind h;refine⟨ι,M,env,S,E,?_⟩;rw[e1];cases d with
 |bl k=>exactλH1 ι1 x1 S1=>h H1 ι1 x1 S1|_=>exact h.elim
theorem Cy(hc:CT X c f)(ha:C3 X a g)(hb:C3 X b h):C3 X (.IfExp c a b pos) (jL f g h):=(ZrB hc ha hb).imp λσ H Q ak=>by
 obtain⟨ι,M,env,S,E,h⟩:=ak;obtain⟨d,M1,e1,h⟩:=Zv.bind h;refine⟨ι,M,env,S,E,?_⟩;rw[e1];cases d with
 |bl k=>
  intro H1 ι1 x1 S1;cases k with
  |true=>rw[if_pos rfl];exact⟨ι1,M1,env,S1,E.mono x1,h.up x1⟩|false=>rw[if_neg (by decide)];exact⟨ι1,M1,env,S1,E.mono x1,h.up x1⟩
 |_=>exact h.elim
theorem Zf:CA X [] Ze:=Gz.imp λσ H Q ⟨ι,M,env,S,E,h⟩=>h [] H ι Ext.refl S au.nil
theorem Zc(ha:C3 X e f)(hr:CA X es gl)(hs:Yy (e::es) X.env=(false,aN e X.env)::Yy es X.env:=by rfl):CA X (e::es) (Zb f gl):=(wH ha hr hs).imp λσ H Q ak=>by obtain⟨ι,M,env,S,E,h⟩:=ak;obtain⟨d,M1,e1,h⟩:=Cw.bind h;obtain⟨ds,M2,e2,h⟩:=Cw.bind h;refine⟨ι,M,env,S,E,?_⟩;rw[e1];intro v H1 ι1 x1 S1 r1;refine⟨ι1,M1,env,S1,E.mono x1,?_⟩;rw[e2];intro vs H2 ι2 x2 S2 r2;exact h (v::vs) H2 ι2 (x1.trans x2) S2 (au.cons (r1.mono x2) r2)
theorem gB{x1}(h:CA X es gl):C3 X (.Tuple es x1 pos) (bV gl):=(Zrb h).imp λσ H Q ak=>by
 obtain⟨ι,M,env,S,E,h⟩:=ak;obtain⟨ds,M1,e1,h⟩:=Zv.bind h;refine⟨ι,M,env,S,E,?_⟩;rw[e1];intro vs H1 ι1 x1 S1 r1;by_cases hz:ds.length<=SZ
 .rw[if_pos hz]at h;refine⟨by rw[r1.length];exact Yi hz j8,λp hp=>?_⟩;obtain⟨x2,S2,r2⟩:=S1.vM hp r1;exact h _ _ _ (x1.trans x2) S2 r2
 .rw[if_neg hz]at h;exact h.elim
theorem cD(h:CA X es gl):C3 X (.List es pos) (aX gl):=(ZwR h).imp λσ H Q ak=>by
 obtain⟨ι,M,env,S,E,h⟩:=ak;obtain⟨ds,M1,e1,h⟩:=Zv.bind h;refine⟨ι,M,env,S,E,?_⟩;rw[e1];intro vs H1 ι1 x1 S1 r1;by_cases hz:ds.length<=SZ
 .rw[if_pos hz]at h;refine⟨by rw[r1.length];exact Yi hz j8,λp hp=>?_⟩;obtain⟨x2,S2,r2⟩:=S1.lst hp r1;exact h _ _ _ (x1.trans x2) S2 r2
 .rw[if_neg hz]at h;exact h.elim
theorem Zr1(σ:St)(H:Hp)(Q:VK)(h:ni K (aC q gl) σ H Q):Tq (rB K q) (Ul K gl) σ H Q:=by obtain⟨ι,M,env,S,E,h⟩:=h;obtain⟨ds,M1,e1,h⟩:=Zv.bind h;refine⟨ι,M,env,S,E,?_⟩;rw[e1];intro vs H1 ι1 x1 S1 r1;exact⟨ι1,M1,ds,S1,r1,h.up x1⟩
theorem dX{id:String}(hc:dm X (.builtin id) (rB X.K q))(hm:X.mg x=Yl)(hv:kI x=Ya (.builtin id))(ha:CA X (e::es) gl)(hg:Gl X x:=by rfl)(hn:x≠ "__name__":=by decide)(hdb:(x==("__debug__":aj))=false:=by decide)(he:Yy (e::es) X.env=(false,aN e X.env)::Yy es X.env:=by rfl)(hpl:(cL pos (Yy es X.env)).any (·.1)=false:=by rfl):C3 X (.Call (.Name x p) (e::es) [] pos) (aC q gl):=(Lg hc hg hm hv ha hn hdb he hpl).imp Zr1
theorem jq{T:String}(hc:dm X (.type T) (rB X.K q))(hm:X.mg x=Yl)(hv:kI x=Ya (.type T))(ha:CA X (e::es) gl)(hg:Gl X x:=by rfl)(hn:x≠ "__name__":=by decide)(hdb:(x==("__debug__":aj))=false:=by decide)(he:Yy (e::es) X.env=(false,aN e X.env)::Yy es X.env:=by rfl)(hpl:(cL pos (Yy es X.env)).any (·.1)=false:=by rfl):C3 X (.Call (.Name x p) (e::es) [] pos) (aC q gl):=(Zk3 hc hg hm hv ha hn hdb he hpl).imp Zr1
theorem a_(hr:mJ X (r2 X.K Zm))(ha:C3 X a f)(hb:C3 X b g)(hs:Zpk b:=by exactλ_ _=>rfl):C3 X (.Subscript a b pos) (e2 Zm f g):=(ZxY hr ha hb hs).imp Mg
theorem rH:CO X Yl fK:=ZtD.imp λσ H Q ⟨ι,M,env,S,E,h⟩=>h H ι Ext.refl S
theorem pD(h:C3 X e f):CO X (Ya e) (dw f):=(ZtV h).imp λσ H Q ak=>by
 obtain⟨ι,M,env,S,E,h⟩:=ak;obtain⟨d,M1,e1,h⟩:=Ho.bind h;refine⟨ι,M,env,S,E,?_⟩;rw[e1];intro v H1 ι1 x1 S1 r1;cases d with
 |int i=>exact⟨i,r1.int_inv,h H1 ι1 x1 S1⟩|_=>exact h.elim
theorem qx{lo hi:Option Expr}{ol oh:yN}{p2:aU}(hr:j7 X (rS X.K))(he:C3 X e f)(hl:CO X lo ol)(hu:CO X hi oh):C3 X (.Subscript e (.Slice lo hi Yl p2) pos) (dW f ol oh):=(ZrK hr he hl hu).imp λσ H Q ak=>by obtain⟨ι,M,env,S,E,h⟩:=ak;obtain⟨d,M1,e1,h⟩:=Zv.bind h;obtain⟨l,M2,e2,h⟩:=Zv.bind h;obtain⟨u,M3,e3,h⟩:=Zv.bind h;refine⟨ι,M,env,S,E,?_⟩;rw[e1];intro v H1 ι1 x1 S1 r1;refine⟨ι1,M1,env,S1,E.mono x1,?_⟩;rw[e2];intro H2 ι2 x2 S2;refine⟨ι2,M2,env,S2,(E.mono x1).mono x2,?_⟩;rw[e3];intro H3 ι3 x3 S3;exact⟨ι3,M3,d,S3,(r1.mono x2).mono x3,((h.up x1).up x2).up x3⟩
theorem cJ:qt X [] aW:=Ztg.imp λD σ H ⟨ι,M,env,S,E,h⟩=>h σ H ι Ext.refl S E
theorem Zk{u:S3}(h:CS X st u):qt X [st] u:=Ztf h
theorem Zg{sts:List Yd0}{u w:S3}(h1:CS X st u)(h2:qt X sts w):qt X (st::sts) (Zq u w):=(ZqM h1 h2).imp λD σ H ak=>by
 obtain⟨ι,M,env,S,E,h⟩:=ak;refine⟨ι,M,env,S,E,?_⟩;have h':qp X.K H ι D (match u env M with| .nx env' M'=>w env' M'|o=>o):=h;cases q:u env M with
 |nx env' M'=>rw[q]at h';exactλσ' H' ι' x S' E'=>⟨ι',M',env',S',E',h'.up x⟩|_=>rw[q]at h';exact h'
theorem bQ{c1:Expr}{x y:List Yd0}{u w:S3}(hc:CT X c1 f)(ha:qt X x u)(hb:qt X y w):CS X (.If c1 x y pos) (aJ f u w):=(ZyA hc ha hb).imp λD σ H ak=>by
 obtain⟨ι,M,env,S,E,h⟩:=ak;refine⟨ι,M,env,S,E,?_⟩;unfold aJ at h;cases q:f env M with
 | ok d M1=>
  rw[q]at h;cases d with
  |bl k=>
   intro H1 ι1 x1 S1;cases k with
   |true=>rw[if_pos rfl];exact⟨ι1,M1,env,S1,E.mono x1,h.up x1⟩|false=>rw[if_neg (by decide)];exact⟨ι1,M1,env,S1,E.mono x1,h.up x1⟩
  |_=>exact h.elim
 |exc x M1=>rw[q]at h;exact h.elim|bad=>rw[q]at h;exact h.elim
theorem bI(h:C3 X e f):CS X (.Return (Ya e) pos) (aQ f):=(Zvz h).imp λD σ H ak=>by
 obtain⟨ι,M,env,S,E,h⟩:=ak;refine⟨ι,M,env,S,E,?_⟩;unfold aQ at h;cases q:f env M with
 |ok d M1=>rw[q]at h;exact h|exc x M1=>rw[q]at h;exact h.elim|bad=>rw[q]at h;exact h.elim
theorem gK(h:C3 X e f)(hs:v5 e Yl pos.line X.env=pure false:=by rfl):CS X (.Expr e pos) (aV f):=(ZtU h hs).imp λD σ H ak=>by
 obtain⟨ι,M,env,S,E,h⟩:=ak;refine⟨ι,M,env,S,E,?_⟩;unfold aV at h;cases q:f env M with
 |ok d M1=>rw[q]at h;exactλv H1 ι1 x1 S1 r1=>h σ H1 ι1 x1 S1 (E.mono x1)|exc x M1=>rw[q]at h;exact h.elim|bad=>rw[q]at h;exact h.elim
theorem Zw(i:Nat){pos':aU}(hN:X.N.Nodup)(he:C3 X e f)(hi:X.N[i]?=Ya x:=by rfl)(hx:Loc X.env.scope x:=by first|exact Or.inl rfl|exact Or.inr rfl)(hs:v5 e (Ya (.Name x pos')) pos.line X.env=pure false:=by rfl)(hf:X.fn x=true\/X.env.scope.names.lookup x=Ya .local:=by first|exact .inl rfl|exact .inr rfl):CS X (.Assign [.Name x pos'] e pos) (aA i f):=(ZwS hN hi hx he hs hf).imp λD σ H ak=>by
 obtain⟨ι,M,env,S,E,h⟩:=ak;refine⟨ι,M,env,S,E,?_⟩;unfold aA at h;cases q:f env M with
 |ok d M1=>rw[q]at h;exactλv H1 ι1 x1 S1 r1=>h _ H1 ι1 x1 S1 ((E.mono x1).set i r1)|exc x M1=>rw[q]at h;exact h.elim|bad=>rw[q]at h;exact h.elim
theorem Mh:CS X st rm:=λ_ _ _ _ _ _ ⟨_,_,_,_,_,h⟩=>h.elim
theorem Zri:CS X (.Break pos) Uc:=Zro.imp λD σ H ⟨ι,M,env,S,E,h⟩=>h σ H ι Ext.refl S E
end
noncomputable def u0(K:Yb)(n:Nat)(F:F3):Sp:=λvs H Q _=>∃ι M ds,aH K H ι M/\au K H ι ds vs/\ds.length=n/\Zv K H ι Q (F ds M)
section
variable {K:Yb} {H H':Hp} {ι ι':List Y2} {M M':Store}
mutual
theorem Rep.below:∀{d:D} {v:V},Rep K H ι d v->L3.below ι.length d=true
 | .non,_,_=>rfl|.bl _,_,_=>rfl|.int _,_,_=>rfl|.str _,_,_=>rfl
 | .tup ds,_,h=>by obtain⟨a,vs,_,_,r⟩:=h.jg;exact au.bZ (ds:=ds) r|.bF ds,_,h=>by obtain⟨a,vs,_,_,r⟩:=h.t8;exact au.bZ (ds:=ds) r|.ref n,_,h=>by obtain⟨a,q,_⟩:=h.dM;exact decide_eq_true (Yf.mp q).1
theorem au.bZ:∀{ds:List D} {vs:List V},au K H ι ds vs->L3.bZ ι.length ds=true
 |[],_,_=>rfl|d::ds,_,h=>by obtain⟨v,ws,_,r,q⟩:=h.cons_inv;exact Ybb.mpr ⟨Rep.below (d:=d) r,au.bZ (ds:=ds) q⟩
end
mutual
theorem Rep.cut{n:Nat}:∀{d:D} {v:V},L3.below n d=true->Rep K H ι d v->Rep K H (ι.take n) d v
 | .non,_,_,h=>h|.bl _,_,_,h=>h|.int _,_,_,h=>h|.str _,_,_,h=>h
 | .tup ds,_,hb,h=>by obtain⟨a,vs,rfl,s,r⟩:=h.jg;exact Rep.tup s (au.cut (ds:=ds) hb r)|.bF ds,_,hb,h=>by obtain⟨a,vs,rfl,s,r⟩:=h.t8;exact⟨a,vs,rfl,s,au.cut (ds:=ds) hb r⟩|.ref k,_,hb,h=>by obtain⟨a,q,rfl⟩:=h.dM;refine Rep.ref ?_;rw[xY (of_decide_eq_true hb)];exact q
theorem au.cut{n:Nat}:∀{ds:List D} {vs:List V},L3.bZ n ds=true->au K H ι ds vs->au K H (ι.take n) ds vs
 |[],_,_,h=>h|d::ds,_,hb,h=>by obtain⟨v,ws,rfl,r,q⟩:=h.cons_inv;exact have w:=Ybb.mp (hb:(L3.below n d&&L3.bZ n ds)=true);au.cons (Rep.cut (d:=d) w.1 r) (au.cut (ds:=ds) w.2 q)
end
theorem m_.below{a:Y2}(h:m_ K H ι m a):wL ι.length m=true:=by
 cases m with
 |lst xs=>obtain⟨vs,_,r⟩:=h;exact r.bZ|dct kvs=>obtain⟨ws,_,_,r⟩:=h;exact r.bZ|cR kvs=>obtain⟨ws,_,_,r⟩:=h;exact r.bZ|ins c fs=>
  rcases h with⟨_,_,gs,_,_,_,r⟩|⟨_,_,_,_,_,rfl|⟨_,_,_,_,_,_,r⟩⟩
  .exact r.bZ
  .rfl
  .exact r.bZ
theorem m_.cut{a:Y2}(hb:wL n m=true)(h:m_ K H ι m a):m_ K H (ι.take n) m a:=by
 cases m with
 |lst xs=>obtain⟨vs,q,r⟩:=h;exact⟨vs,q,r.cut hb⟩|dct kvs=>obtain⟨ws,q,r1,r2⟩:=h;exact⟨ws,q,r1,r2.cut hb⟩|cR kvs=>obtain⟨ws,q,r1,r2⟩:=h;exact⟨ws,q,r1,r2.cut hb⟩|ins c fs=>
  rcases h with⟨C,dx,gs,q,c,r1,r2⟩|⟨C,dd,q,z,c,h|⟨dx,o,gs,e,f,r1,r2⟩⟩
  .exact .inl ⟨C,dx,gs,q,c,r1,r2.cut hb⟩
  .exact .inr ⟨C,dd,q,z,c,.inl h⟩
  .exact .inr ⟨C,dd,q,z,c,.inr ⟨dx,o,gs,e,f,r1,r2.cut hb⟩⟩
theorem aH.cut(S:aH K H ι M)(h:(M.take n).all (wL n)=true):aH K H (ι.take n) (M.take n):=by
 refine⟨by simp[S.len],S.nd.sublist (ZL _ _),λk m a h1 h2=>?_⟩;have hk:k<n:=by have:=(Yf.mp h1).1;rw[Aw]at this;exact Y7 this (Rm _ _)
 have hb:wL n m=true:=h_.mp h m (xZ h1);rw[xY hk]at h1 h2;exact(S.obj k m a h1 h2).cut hb
theorem ZpB{Q:VK}(S:aH K H ι M)(x:Ext K H ι H' ι')(S':aH K H' ι' M')(r:Rep K H' ι' d v)(h:Zv K H ι Q (eG M d M')):Q v H':=by
 unfold eG at h;split at h
 .rename_i c;simp only[Y5,yt,decide_eq_true_eq]at c;have hall:(M'.take M.length).all (wL M.length)=true:=by
   rcases c.2 with e|e
   .rw[e,h_];intro m hm;obtain⟨n,hn⟩:=JD hm;obtain⟨a,q,w⟩:=S.at hn;rw[←S.len];exact w.below
   .exact e
  refine h v H' (ι'.take M.length) ⟨x.tup,x.bF,λn a q=>?_,x.fc⟩ (S'.cut hall) (r.cut c.1);rw[xY (by rw[←S.len];exact(Yf.mp q).1)];exact x.pre n a q
 .exact h v H' ι' x S' r
end
theorem cM.start(r:au K H ι ds vs)(n:Nat):cM K H ι (ds.map Ya++Yr n Yl) (vs.map Ya++Yr n Yl):=by
 refine⟨by simp[r.length],λi d h=>?_⟩;by_cases hi:i<ds.length
 .rw[Yj (by simpa using hi),lH]at h;cases q:ds[i]? with
  |none=>rw[q]at h;simp at h|some d'=>rw[q]at h;simp at h;subst h;obtain⟨v,e,z⟩:=r.get q;refine⟨v,?_,z⟩;rw[Yj (by simpa[r.length]using hi),lH,e];rfl
 .rw[xX (by simpa using hi),Jy]at h;split at h<;>simp at h
variable{ps:List aj}
section
variable {P:Yae} {w:bh} {K:Yb} {mg:aj->Option Yh} {base:aR}
theorem Um{qual:aj}{f:Y2}{fd:lM}{N:List aj}{k:Nat}(F:uO K x qual st f fd)(S:cU N ps (Zt st))(hb:∀(cdv:Yh) (A:bU) (outer:List fH) (s:Yk) (H:Hp) (E:XK),dU k (A.deeper (p6 qual (Zt st) s.heap.objs.size f cdv))->qt (uM mO P w K mg base N qual (Zt st) f cdv A outer s H E).yH (mL st) body):
  jK P w K mg base mO (k+1) f fd ps (u0 K ps.length (bG ps.length N.length body)):=by
 refine F.ok S (λvs H Q E ⟨ι,M,ds,_,r,l,_⟩=>by rw[r.length,l]) λcdv A outer s H vs Q E hr ak=>?_;obtain⟨ι,M,ds,SR,r,l,h⟩:=ak;refine⟨_,hb cdv A outer s H E hr,ι,M,ds.map Ya++Yr (N.length-ps.length) Yl,SR,?_,?_⟩
 .have e:L2.start N vs=vs.map Ya++Yr (N.length-ps.length) Yl:=by unfold L2.start;rw[r.length,l]
  rw[e];exact cM.start r _
 .unfold bG at h;rw[if_pos l]at h;cases q:body (ds.map Ya++Yr (N.length-ps.length) Yl) M with
  |nx env' M'=>rw[q]at h;exactλσ' H' ι' x S' E'=>ZpB SR x S' Rep.non h|rt d M'=>rw[q]at h;exactλv H' ι' x S' r'=>ZpB SR x S' r' h|bk _ _=>rw[q]at h;exact h.elim|ct _ _=>rw[q]at h;exact h.elim
  |exc _ _=>rw[q]at h;exact h.elim|bad=>rw[q]at h;exact h.elim
def aD(P:Yae)(w:bh)(K:Yb)(mg:aj->Option Yh)(base:aR)(k:Nat)(x:aj)(ps:List aj)(F:F3):Prop:=(∀ds M,ds.length≠ps.length->F ds M= .bad)/\∃f fd,mg x=Ya (.ref f)/\ug K (.ref f)=true/\Binds K fd ps []/\jK P w K mg base mO k f fd ps (u0 K ps.length F)
def bD(K:Yb)(mg:aj->Option Yh)(x:aj)(st:Yd0)(ps:List aj):Prop:=∃f fd,uO K x x st f fd/\mg x=Ya (.ref f)/\Binds K fd ps []
theorem aD.mono{j k:Nat}(h:aD P w K mg base j x ps F)(l:j<=k):aD P w K mg base k x ps F:=let⟨n,f,fd,a,b,c,d⟩:=h;⟨n,f,fd,a,b,c,d.mono l⟩
theorem aD.of{N:List aj}{k:Nat}(d:bD K mg x st ps)(S:cU N ps (Zt st))(hb:∀(f:Y2) (cdv:Yh) (A:bU) (outer:List fH) (s:Yk) (H:Hp) (E:XK),dU k (A.deeper (p6 x (Zt st) s.heap.objs.size f cdv))->qt (uM mO P w K mg base N x (Zt st) f cdv A outer s H E).yH (mL st) body):
  aD P w K mg base (k+1) x ps (bG ps.length N.length body):=by
 obtain⟨f,fd,F,m,bi⟩:=d;exact⟨λds M h=>if_neg h,f,fd,m,F.kp,bi,Um F S (hb f)⟩
end
section
variable {X:Cx} {e:Expr} {es:List Expr} {pos p:aU} {gl:d_} {x:aj} {k:Nat} {ps:List aj} {F:F3}
theorem bO(G:aD X.prog X.w X.K X.mg X.base k x ps F)(hr:dU k X.A)(ha:CA X (e::es) gl)(hg:Gl X x:=by rfl)(hdb:(x==("__debug__":aj))=false:=by decide)(he:Yy (e::es) X.env=(false,aN e X.env)::Yy es X.env:=by rfl)(hpl:(cL pos (Yy es X.env)).any (·.1)=false:=by rfl):C3 X (.Call (.Name x p) (e::es) [] pos) (Zz F gl):=by
 obtain⟨hn,f,fd,m,kp,bi,ok⟩:=G;refine(Ztt ok hr hg m kp bi .nil ZuN ha hdb he hpl).imp λσ H Q ak=>?_;obtain⟨ι,M,env,S,E,h⟩:=ak;obtain⟨ds,M1,e1,h⟩:=Zv.bind h;refine⟨ι,M,env,S,E,?_⟩;rw[e1];intro vs H1 ι1 x1 S1 r1;have hl:ds.length=ps.length:=by refine Ygy λq=>?_;rw[hn ds M1 q]at h;exact h.elim
 exact⟨ι1,M1,ds,S1,by rw[jZ];exact r1,hl,h.up x1⟩
end
def tGf(K:Yb)(g:G3):TG:=λv σ H Q=>∃ι M env d env',aH K H ι M/\cM K H ι env σ/\Rep K H ι d v/\g d env=Ya env'/\∀σ',cM K H ι env' σ'->Q σ' H
def tGs(K:Yb)(is:List Nat):qY:=λvs σ H Q=>∃ι M env ds env',aH K H ι M/\cM K H ι env σ/\au K H ι ds vs/\bindAll is ds env=Ya env'/\∀σ',cM K H ι env' σ'->Q σ' H
def CG(X:Cx)(tg:Expr)(g:G3):Prop:=PG X tg (tGf X.K g)
def Hr(X:Cx)(tg:List Expr)(is:List Nat):Prop:=qZ X tg (tGs X.K is)
theorem PG.imp{t t':TG}(h:PG X e t)(i:∀v σ H Q,t' v σ H Q->t v σ H Q):PG X e t':=λpins s σ H v u Q I r q=>h pins s σ H v u Q I r (i v σ H Q q)
theorem qZ.imp{e:List Expr}{t t':qY}(h:qZ X e t)(i:∀v σ H Q,t' v σ H Q->t v σ H Q):qZ X e t':=λpins s σ H v u Q I r q=>h pins s σ H v u Q I r (i v σ H Q q)
section
variable {X:Cx} {e:Expr} {es:List Expr} {pos:aU}
theorem iG(i:Nat)(hN:X.N.Nodup)(hi:X.N[i]?=Ya x:=by rfl)(hx:Loc X.env.scope x:=by first|exact Or.inl rfl|exact Or.inr rfl)(hf:X.fn x=true\/X.env.scope.names.lookup x=Ya .local:=by first|exact .inl rfl|exact .inr rfl):CG X (.Name x pos) (bB i):=PG.imp (ZpP hN hi hx hf) λv σ H Q ak=>by obtain⟨ι,M,env,d,env',S,E,r,q,h⟩:=ak;cases q;exact h _ (E.set i r)
theorem zb:Hr X [] []:=qZ.imp Zt5 λv σ H Q ak=>by
 obtain⟨ι,M,env,ds,env',S,E,r,q,h⟩:=ak;cases ds with
 |nil=>cases q;exact⟨r.nil_inv,h σ E⟩|cons d ds=>cases q
theorem lW(i:Nat){is:List Nat}(hN:X.N.Nodup)(ht:Hr X es is)(hi:X.N[i]?=Ya x:=by rfl)(hx:Loc X.env.scope x:=by first|exact Or.inl rfl|exact Or.inr rfl)(hf:X.fn x=true\/X.env.scope.names.lookup x=Ya .local:=by first|exact .inl rfl|exact .inr rfl)(hs:(jE (.Name x pos::es) X.env).map (·.2)=jF (.Name x pos) X.env::(jE es X.env).map (·.2):=by rfl):
  Hr X (.Name x pos::es) (i::is):=qZ.imp (ZsQ (ZpP hN hi hx hf) ht hs) λv σ H Q ak=>by
 obtain⟨ι,M,env,ds,env',S,E,r,q,h⟩:=ak;cases ds with
 |nil=>cases q|cons d ds=>obtain⟨v,ws,rfl,r1,r2⟩:=r.cons_inv;exact⟨v,ws,rfl,ι,M,env.set i (Ya d),ds,env',S,E.set i r1,r2,q,h⟩
theorem Mi{is:List Nat}{k:Nat}(hc:X.calm=true)(h:Hr X es is)(hl:es.length=is.length:=by rfl)(hn:(jE es X.env).length=is.length:=by rfl)(hst:(jE es X.env).findIdx? (·.1)=Yl:=by rfl):CG X (.Tuple es k pos) (ph is):=
 PG.imp (ZwA (n:=is.length) hc h hn hst) λv σ H Q ak=>by
  obtain⟨ι,M,env,d,env',S,E,r,q,h⟩:=ak;cases d with
  | tup ds=>
   obtain⟨a,vs,rfl,s,r⟩:=r.jg;have hlen:∀(is:List Nat) (ds:List D) (env env':bJ),bindAll is ds env=Ya env'->ds.length=is.length:=by
    intro is
    induction is with
    |nil=>intro ds env env' h;cases ds with|nil=>rfl|cons d ds=>cases h
    |cons i is ih=>intro ds env env' h;cases ds with|nil=>cases h|cons d ds=>simp[ih ds _ _ h]
   exact⟨a,vs,rfl,s,by rw[r.length];exact hlen _ _ _ _ q,ι,M,env,ds,env',S,E,r,q,h⟩
  |_=>cases q
end
def rJ(K:Yb)(H:Hp)(ι:List Y2)(it:fZ)(J:It):Prop:=∀(i:Nat) H2 ι2 M2,Ext K H ι H2 ι2->aH K H2 ι2 M2->locked it M2=true ->
 (∀d,it.items[i]?=Ya d->J.go i H2/\∀x H3,J.K_ i H2 x H3->H3=H2/\Rep K H2 ι2 d x)/\(i=it.items.length->J.stop i H2)
def Cz(K:Yb)(H:Hp)(ι:List Y2)(R:It->Hp->Prop)(r:R3 fZ):Prop:=match r with
 | .ok it M'=>∀J H' ι',Ext K H ι H' ι'->aH K H' ι' M'->rJ K H' ι' it J->R J H'|_=>False
def Td(K:Yb)(g:I3):TI:=λσ H R=>∃ι M env,aH K H ι M/\cM K H ι env σ/\Cz K H ι R (g env M)
def CI(X:Cx)(tg e:Expr)(g:I3):Prop:=PI X tg e (Td X.K g)
theorem PI.imp{tg:Expr}{t t':TI}(h:PI X tg e t)(i:∀σ H Q,t' σ H Q->t σ H Q):PI X tg e t':=λpins s σ H Q I q=>h pins s σ H Q I (i σ H Q q)
theorem PI.or{tg:Expr}{t t':TI}(h:PI X tg e t)(h':PI X tg e t'):PI X tg e (λσ H R=>t σ H R\/t' σ H R):=λpins s σ H Q I q=>q.elim (h pins s σ H Q I) (h' pins s σ H Q I)
theorem Cz.bind{Q:It->Hp->Prop}{r:R3 α}{k:α->Store->R3 fZ}(h:Cz K H ι Q (r.bind k)):∃a M,r= .ok a M/\Cz K H ι Q (k a M):=by
 cases r with
 |ok a M=>exact⟨a,M,rfl,h⟩|exc x M=>exact h.elim|bad=>exact h.elim
section
variable {X:Cx} {tg e a b:Expr} {pos p:aU} {f g:E3}
theorem ZwQ(h:C3 X e f)(hs:PI X tg e (λσ H R=>ni X.K f σ H λx H1=>∃z:aj,x= .str z/\z.length<=SZ/\∀J,(∀ι,rJ X.K H1 ι ⟨z.cps.toList.map λc=>.str [c],Yl⟩ J)->R J H1)):CI X tg e (bW f):=
 PI.imp (PI.or (ZvR h) (PI.or (ZtP h) hs)) λσ H R ak=>by
  obtain⟨ι,M,env,S,E,h⟩:=ak;obtain⟨d,M1,e1,h⟩:=Cz.bind h;cases d with
  |tup ds=>refine .inl ⟨ι,M,env,S,E,?_⟩;rw[e1];intro v H1 ι1 x1 S1 r1;obtain⟨a,vs,rfl,s,r⟩:=r1.jg;refine⟨a,rfl,⟨vs,s⟩,h _ H1 ι1 x1 S1 ?_⟩;intro i H2 ι2 M2 x S2 _;refine⟨λd hd=>?_,λhl=>⟨vs,x.tup _ _ s,by rw[r.length,hl];exact Yt _⟩⟩;obtain⟨v,hv,rv⟩:=r.get hd;refine⟨⟨vs,v,x.tup _ _ s,hv⟩,λy H3 hy=>⟨hy.1,?_⟩⟩;have e:=hy.2 vs (x.tup _ _ s);rw[hv]at e;cases e;exact rv.mono x|bF ds=>refine .inr (.inl ⟨ι,M,env,S,E,?_⟩);rw[e1];intro v H1 ι1 x1 S1 r1;obtain⟨a,vs,rfl,s,r⟩:=r1.t8;refine⟨a,rfl,⟨vs,s.sq⟩,h _ H1 ι1 x1 S1 ?_⟩;intro i H2 ι2 M2 x S2 _;refine⟨λd hd=>?_,λhl=>⟨vs,(x.bF _ _ s).sq,by rw[r.length,hl];exact Yt _⟩⟩;obtain⟨v,hv,rv⟩:=r.get hd;refine⟨⟨vs,v,(x.bF _ _ s).sq,hv⟩,λy H3 hy=>⟨hy.1,?_⟩⟩;have e:=hy.2 vs (x.bF _ _ s).sq;rw[hv]at e;cases e;exact rv.mono x|ref n=>
   refine .inr (.inl ⟨ι,M,env,S,E,?_⟩);rw[e1];intro v H1 ι1 x1 S1 r1;cases hm:M1[n]? with
   |none=>simp only[hm]at h;exact h.elim|some o=>
    cases o with
    |dct kvs=>simp only[hm]at h;exact h.elim|cR kvs=>simp only[hm]at h;exact h.elim|ins _ _=>simp only[hm]at h;exact h.elim|lst ds=>simp only[hm]at h;obtain⟨a,ha,rfl⟩:=r1.dM;obtain⟨vs,q,r⟩:=S1.obj n _ a hm ha;refine⟨a,rfl,⟨vs,bL.of q⟩,h _ H1 ι1 x1 S1 ?_⟩;intro i H2 ι2 M2 x S2 lk;have Hs:M2[n]?=Ya (.lst ds):=of_decide_eq_true lk;obtain⟨vs2,q2,r2⟩:=S2.obj n _ a Hs (x.pre _ _ ha);refine⟨λd hd=>?_,λhl=>⟨vs2,bL.of q2,by rw[r2.length,hl];exact Yt _⟩⟩;obtain⟨v,hv,rv⟩:=r2.get hd;refine⟨⟨vs2,v,bL.of q2,hv⟩,λy H3 hy=>⟨hy.1,?_⟩⟩;have e:=hy.2 vs2 (bL.of q2);rw[hv]at e;cases e;exact rv
  | str z=>
   refine .inr (.inr ⟨ι,M,env,S,E,?_⟩);rw[e1];intro v H1 ι1 x1 S1 r1;have hv:=r1.str_inv;subst hv;by_cases hz:z.length<=SZ
   .simp only[if_pos hz]at h;refine⟨_,rfl,by simpa[mF]using hz,λJ hJ=>h J H1 ι1 x1 S1 ?_⟩;simpa using hJ ι1
   .simp only[if_neg hz]at h;exact h.elim
  |non=>exact h.elim|bl b=>exact h.elim|int i=>exact h.elim
theorem Zr4(lo:Int)(n:Nat):rJ K H ι ⟨mW lo n,Yl⟩ (Lb lo n):=by
 intro i H2 ι2 M2 x S _;refine⟨λd hd=>?_,λhl=>?_⟩
 .unfold mW at hd;rw[lH]at hd;cases q:(iw n)[i]? with
  |none=>rw[q]at hd;cases hd|some k=>
   rw[q]at hd;obtain⟨hi,e⟩:=Yf.mp q;rw[List.getElem_range]at e;subst e;have hd':D.int (lo+(i:Int))=d:=by simpa using hd
   subst hd';exact⟨(by show i<n;simpa using hi),λy H3 hy=>⟨hy.1,by rw[hy.2];exact Rep.int⟩⟩
 .show n<=i;rw[hl];simp[mW]
theorem Mj(hm:X.mg "range" =Yl)(h:C3 X a f)(hg:Gl X "range":=by rfl)(hs:Yy [a] X.env=[(false,aN a X.env)]:=by rfl)(hs':Yy (a::[]) X.env=(false,aN a X.env)::Yy [] X.env:=by rfl):CI X tg (.Call (.Name "range" p) [a] [] pos) (tK f):=
 PI.imp (Zqz hg hm (Zc h Zf hs') hs) λσ H R ak=>by
  obtain⟨ι,M,env,S,E,h⟩:=ak;obtain⟨d,M1,e1,h⟩:=Cz.bind h;refine⟨ι,M,env,S,E,?_⟩;have e2:Zb f Ze env M= .ok [d] M1:=by unfold Zb;rw[e1];rfl
  rw[e2];intro vs H1 ι1 x1 S1 r1;obtain⟨v,ws,rfl,r,q⟩:=r1.cons_inv;have:=q.nil_inv;subst this;cases d with
  | int j=>
   have hv:=r.int_inv;subst hv;by_cases hj:j<=1000000/\ -1000000<=j
   .simp only[if_pos hj]at h;exact⟨j,rfl,by omega,by omega,h _ H1 ι1 x1 S1 (Zr4 0 j.toNat)⟩
   .simp only[if_neg hj]at h;exact h.elim
  |_=>exact h.elim
theorem tR{iter:Expr}{body:List Yd0}{i:I3}{g:G3}{u:S3}(zc:X.xe=λ_ _=>False)(hc:X.calm=true)(hi:CI X tg iter i)(hg:CG X tg g)(hb:qt X body u)(hs:∀x,A_ iter X.env x=pure x:=by intro _;rfl):
  CS X (.For tg iter body [] pos) (kZ i g u):=(Zwa (by rw[zc];exact Yl9) hc hi hg hb hs).imp λD σ H ak=>by
 obtain⟨ι,M,env,S,E,h⟩:=ak;unfold kZ at h;cases q:i env M with
 |exc x M1=>rw[q]at h;exact h.elim|bad=>rw[q]at h;exact h.elim|ok it M1=>
  rw[q]at h;refine⟨ι,M,env,S,E,?_⟩;rw[q];intro J H1 ι1 x1 S1 ok;refine⟨λi m σ2 H2=>m=it.items.length-i/\i<=it.items.length/\∃ι2 M2 o6,Ext X.K H1 ι1 H2 ι2/\aH X.K H2 ι2 M2/\cM X.K H2 ι2 o6 σ2/\qp X.K H2 ι2 D (dB it g u (it.items.drop i) o6 M2),
   ⟨_,rfl,eZ _,ι1,M1,env,Ext.refl,S1,E.mono x1,qp.up x1 h⟩,?_⟩
  rintro i m σ2 H2 ⟨rfl,hi,ι2,M2,o6,x2,S2,E2,h2⟩;by_cases hlt:i<it.items.length
  .have hd:it.items[i]?=Ya it.items[i]:=by simp[hlt]
   rw[Ao hlt]at h2
   first|rw[pq]at h2|rw[qi]at h2
   by_cases lk:locked it M2=true
   .rw[if_pos lk]at h2;obtain⟨go,yl⟩:=(ok i H2 ι2 M2 x2 S2 lk).1 _ hd;cases eg:g it.items[i] o6 with
    |none=>rw[eg]at h2;exact h2.elim|some Qf=>
     rw[eg]at h2;refine .inr ⟨go,λσ' H'=>∃ι3 M3 xW,Ext X.K H2 ι2 H' ι3/\aH X.K H' ι3 M3/\cM X.K H' ι3 xW σ'/\qp X.K H' ι3 D (dB it g u (it.items.drop (i+1)) xW M3),
      λσ' H' ⟨ι3,M3,xW,x3,S3,E3,h3⟩=>⟨it.items.length-(i+1),lD 2 0x30113c2012a1c0c21 T1 (Y8 (lB 1 6991908881 T1 hlt)) (gH _ _),rfl,hlt,ι3,M3,xW,x2.trans x3,S3,E3,h3⟩,λx H' hy=>?_⟩
     obtain⟨rfl,rx⟩:=yl x H' hy;refine⟨ι2,M2,o6,_,Qf,S2,E2,rx,eg,λσ' E'=>⟨ι2,M2,Qf,S2,E',?_⟩⟩;cases qu:u Qf M2 with
     |nx e' M'=>simp only[qu]at h2;exactλσ' H' ι' x' S' E'=>⟨ι',M',e',x',S',E',h2.up x'⟩|ct e' M'=>simp only[qu]at h2;exactλσ' H' ι' x' S' E'=>⟨ι',M',e',x',S',E',h2.up x'⟩|bk e' M'=>simp only[qu]at h2;exact h2|rt d M'=>simp only[qu]at h2;exact h2
     |exc x' M'=>simp only[qu]at h2;exact h2.elim|bad=>simp only[qu]at h2;exact h2.elim
   .rw[if_neg lk]at h2;exact h2.elim
  .have e0:i=it.items.length:=Y0 hi (j5 hlt);subst e0;rw[QC]at h2
   first|rw[pq]at h2|rw[qi]at h2
   by_cases lk:locked it M2=true
   .rw[if_pos lk]at h2;exact .inl ⟨(ok _ H2 ι2 M2 x2 S2 lk).2 rfl,h2 σ2 H2 ι2 Ext.refl S2 E2⟩
   .rw[if_neg lk]at h2;exact h2.elim
theorem Zm5{c1:Expr}{body:List Yd0}{u:S3}(zc:X.xe=λ_ _=>False)(hc:CT X c1 f)(hb:qt X body u):CS X (.While c1 body [] pos) (Ud f u):=(ZsE (by rw[zc];exact Yl9) hc hb).imp λD σ H ak=>by
 obtain⟨ι,M,env,S,E,h⟩:=ak;refine⟨λm σ2 H2=>∃ι2 M2 o6,aH X.K H2 ι2 M2/\cM X.K H2 ι2 o6 σ2/\qp X.K H2 ι2 D (tL f u m o6 M2),⟨1000000,ι,M,env,S,E,h⟩,?_⟩;rintro m σ2 H2 ⟨ι2,M2,o6,S2,E2,h2⟩;cases m with
 |zero=>exact h2.elim|succ m=>
  refine⟨ι2,M2,o6,S2,E2,?_⟩;rw[Cm]at h2;cases q:f o6 M2 with
  |exc x M1=>rw[q]at h2;exact h2.elim|bad=>rw[q]at h2;exact h2.elim|ok d M1=>
   rw[q]at h2;cases d with
   | bl k=>
    cases k with
    |false=>intro H3 ι3 x3 S3;rw[if_neg (by decide)];exact h2 σ2 H3 ι3 x3 S3 (E2.mono x3)|true=>
     intro H3 ι3 x3 S3;rw[if_pos rfl];refine⟨λσ' H'=>∃ι4 M4 xW,aH X.K H' ι4 M4/\cM X.K H' ι4 xW σ'/\qp X.K H' ι4 D (tL f u m xW M4),λσ' H' q=>⟨m,F_ _,q⟩,ι3,M1,o6,S3,E2.mono x3,?_⟩;have h3:=qp.up x3 h2;cases qu:u o6 M1 with
     |nx e' M'=>simp only[qu]at h3;exactλσ' H' ι' x' S' E'=>⟨ι',M',e',S',E',h3.up x'⟩|ct e' M'=>simp only[qu]at h3;exactλσ' H' ι' x' S' E'=>⟨ι',M',e',S',E',h3.up x'⟩|bk e' M'=>simp only[qu]at h3;exact h3|rt d M'=>simp only[qu]at h3;exact h3
     |exc x' M'=>simp only[qu]at h3;exact h3.elim|bad=>simp only[qu]at h3;exact h3.elim
   |_=>exact h2.elim
end
theorem Rep.Xx(r:Rep K H ι d v):decide (v=V.non)=decide (d=D.non):=by
 cases d with
 |non=>rw[r.jA];rfl|bl b=>rw[r.gP];rfl|int i=>rw[r.int_inv];rfl|str x=>rw[r.str_inv];rfl
 |tup ds=>obtain⟨a,vs,e,_⟩:=r.jg;rw[e];rfl|bF ds=>obtain⟨a,vs,e,_⟩:=r.t8;rw[e];rfl|ref n=>obtain⟨a,_,e⟩:=r.dM;rw[e];rfl
theorem Zjh{x y:List Nat}:decide (V.str ⟨x.toArray⟩=V.str ⟨y.toArray⟩)=(x==y):=by
 by_cases h:x=y
 .subst h;simp
 .rw[decide_eq_false (λe=>h (by injection e with e1;injection e1 with e2;simpa using congrArg Bv e2))]
  exact(beq_eq_false_iff_ne.mpr h).symm
section
variable {X:Cx}
theorem Zsa:aP X (i_ .Add) (λx y H Q=>∃a b ys,x= .ref a/\y= .ref b/\cT X.K H a []/\cT X.K H b ys/\Q (.ref b) H):=by
 intro pins s σ H x y v u Q I rx ry h;obtain⟨a,b,ys,rfl,rfl,ha,hb,q⟩:=h;cases rx;cases ry;obtain⟨its,r1,p1,_⟩:=I.tuple ha;obtain⟨its2,r2,p2,_⟩:=I.tuple hb;cases r1;obtain⟨⟨cls,dd,data,sl⟩,ho,hc,n,hd⟩:=id p1;obtain⟨⟨cls2,dd2,data2,sl2⟩,ho2,hc2,n2,hd2⟩:=id p2;simp only at hc hd hc2 hd2;subst hc hd hc2 hd2;exact Q4 ⟨_,ho,rfl⟩ ⟨_,ho2,rfl⟩ QS Q0 RN RL (RK _ _)
   (tuple_addW0 a b _ its2.toArray n n2 dd dd2 sl sl2 (by simp)) ⟨ho,ho2,⟨.ref b,H,I,rfl,q⟩⟩
theorem Zul(x y:List Nat):(⟨x.toArray⟩:aj)++⟨y.toArray⟩=⟨(x++y).toArray⟩:=by show Str.append _ _=_;unfold Str.append;simp
noncomputable def wQ(o:Option D)(f:D->R3 D):R3 D:=match o with
 |some d=>f d|none=>.bad
theorem Ht{Q:VK}{o:Option D}{f:D->R3 D}(h:Zv K H ι Q (wQ o f)):∃x,o=Ya x/\Zv K H ι Q (f x):=by
 cases o with
 |none=>exact h.elim|some x=>exact⟨x,rfl,h⟩
noncomputable def onN(o:Option Nat)(f:Nat->R3 D):R3 D:=match o with
 |some d=>f d|none=>.bad
theorem ZtS{Q:VK}{o:Option Nat}{f:Nat->R3 D}(h:Zv K H ι Q (onN o f)):∃x,o=Ya x/\Zv K H ι Q (f x):=by
 cases o with
 |none=>exact h.elim|some x=>exact⟨x,rfl,h⟩
noncomputable def zf(o:Option MO)(f:List D->R3 D):R3 D:=match o with
 |some (.lst x)=>f x|_=>.bad
theorem Ml{Q:VK}{o:Option MO}{f:List D->R3 D}(h:Zv K H ι Q (zf o f)):∃x,o=Ya (.lst x)/\Zv K H ι Q (f x):=by
 cases o with
 |none=>exact h.elim|some o=>cases o with
  |lst x=>exact⟨x,rfl,h⟩|_=>exact h.elim
noncomputable def ZxR(a b:Option MO)(f:List D->List D->R3 D):R3 D:=match a,b with
 |some (.lst x),Ya (.lst y)=>f x y|_,_=>.bad
theorem Zsw{Q:VK}{a b:Option MO}{f:List D->List D->R3 D}(h:Zv K H ι Q (ZxR a b f)):∃x y,a=Ya (.lst x)/\b=Ya (.lst y)/\Zv K H ι Q (f x y):=by
 cases a with
 |none=>exact h.elim|some a=>cases a with
  | lst x=>cases b with
   |none=>exact h.elim|some b=>cases b with
    |lst y=>exact⟨x,y,rfl,rfl,h⟩|_=>exact h.elim
  |_=>exact h.elim
theorem wR{Q:VK}{c:Prop}{_:Decidable c}(h:Zv K H ι Q (if c then r else .bad)):c/\Zv K H ι Q r:=by
 by_cases hc:c
 .rw[if_pos hc]at h;exact⟨hc,h⟩
 .rw[if_neg hc]at h;exact h.elim
theorem ZmM(r:au K H ι ds []):ds=[]:=Jx r.length.symm
theorem cN:aP X (i_ .Add) (r2 X.K aM):=aP.imp (aP.or Zv9 (aP.or ZnO (aP.or Zv6 (aP.or Ztz Zsa)))) λx y H Q ak=>by
 obtain⟨ι,M,a,b,S,ra,rb,h⟩:=ak;cases a with
 |int i=>cases b with
  |int j=>exact .inl ⟨i,j,ra.int_inv,rb.int_inv,Zv.ok h S Rep.int⟩|_=>exact h.elim
 | str x=>cases b with
  |str y=>obtain⟨hz,h⟩:=wR h;exact .inr (.inl ⟨_,_,ra.str_inv,rb.str_inv,Yi hz j8,by rw[Zul];exact Zv.ok h S Rep.str⟩)|_=>exact h.elim
 | tup x=>cases b with
  | tup y=>
   obtain⟨hz,h⟩:=wR h;obtain⟨p,vs,e,s,r⟩:=ra.jg;obtain⟨q,ws,e',s',r'⟩:=rb.jg;by_cases hv:vs=[]
   .rw[hv]at r s;rw[ZmM r]at h;exact .inr (.inr (.inr (.inr ⟨p,q,ws,e,e',s,s',Zv.ok h S (Rep.tup s' r')⟩)))
   .refine .inr (.inr (.inr (.inl ⟨p,q,vs,ws,e,e',s,s',hv,by rw[r.length,r'.length];exact Yi hz j8,λhw=>?_,λhw p' hp=>?_⟩)))
    .rw[hw]at r';rw[ZmM r',jZ]at h;exact Zv.ok h S (Rep.tup s r)
    .obtain⟨x2,S2,r2⟩:=S.vM hp (r.append r');exact h _ _ _ x2 S2 r2
  |_=>exact h.elim
 | ref n=>cases b with
  |ref m=>have h:Zv X.K H ι Q (ZxR M[n]? M[m]? λx y=>@ite _ (x.length+y.length<=SZ) (Yz _) (alloc (.lst (x++y)) M) .bad):=h;obtain⟨x,y,hn,hm,h⟩:=Zsw h;obtain⟨hz,h⟩:=wR h;obtain⟨p,hp,e⟩:=ra.dM;obtain⟨q,hq,e'⟩:=rb.dM;obtain⟨vs,e1,r1⟩:=S.obj n _ p hn hp;obtain⟨ws,e2,r2⟩:=S.obj m _ q hm hq;refine .inr (.inr (.inl ⟨p,q,vs,ws,e,e',e1,e2,by rw[r1.length,r2.length];exact Yi hz j8,λp' hp'=>?_⟩));obtain⟨x2,S2,r3⟩:=S.lst hp' (r1.append r2);exact h _ _ _ x2 S2 r3|_=>exact h.elim
 |_=>cases b<;>exact h.elim
theorem wU:aP X (i_ .Sub) (r2 X.K iB):=aP.imp Zvc λx y H Q ak=>by obtain⟨ι,M,a,b,S,ra,rb,h⟩:=ak;cases a<;>cases b<;>first|exact h.elim|exact⟨_,_,ra.int_inv,rb.int_inv,Zv.ok h S Rep.int⟩
theorem fC:aP X (i_ .Mod) (r2 X.K aZ):=aP.imp Zvo λx y H Q ak=>by
 obtain⟨ι,M,a,b,S,ra,rb,h⟩:=ak;cases a with
 | int i=>cases b with
  | int j=>
   simp only[Zmt]at h;split at h
   .rename_i hj;exact⟨i,j,ra.int_inv,rb.int_inv,hj,Zv.ok h S Rep.int⟩
   .exact h.elim
  |_=>exact h.elim
 |_=>cases b<;>exact h.elim
theorem je:aP X (i_ .FloorDiv) (r2 X.K b8):=aP.imp Zuj λx y H Q ak=>by
 obtain⟨ι,M,a,b,S,ra,rb,h⟩:=ak;cases a with
 | int i=>cases b with
  | int j=>
   simp only[Zk5]at h;split at h
   .rename_i hj;exact⟨i,j,ra.int_inv,rb.int_inv,hj,Zv.ok h S Rep.int⟩
   .exact h.elim
  |_=>exact h.elim
 |_=>cases b<;>exact h.elim
theorem Zyh:aP X (i_ .Pow) (r2 X.K Lw):=aP.imp ZwF λx y H Q ak=>by
 obtain⟨ι,M,a,b,S,ra,rb,h⟩:=ak;cases a with
 | int i=>cases b with
  | int j=>
   simp only[ZmW]at h;split at h
   .rename_i hj;exact⟨i,j,ra.int_inv,rb.int_inv,⟨hj.1,iN [] [_] 1 0xf42405b083e83b081 T1 hj.2.1,by have:=hj.2.2;omega⟩,Zv.ok h S Rep.int⟩
   .exact h.elim
  |_=>exact h.elim
 |_=>cases b<;>exact h.elim
theorem jT:uK X (J2 .USub) (r1 X.K cH):=uK.imp ZvN λx H Q ak=>by
 obtain⟨ι,M,a,S,ra,h⟩:=ak;cases a with
 |int i=>exact⟨i,ra.int_inv,Zv.ok h S Rep.int⟩|_=>exact h.elim
theorem wV:aP X (dO .Lt) (r2 X.K fQ):=aP.imp Zyw λx y H Q ak=>by obtain⟨ι,M,a,b,S,ra,rb,h⟩:=ak;cases a<;>cases b<;>first|exact h.elim|exact⟨_,_,ra.int_inv,rb.int_inv,Zv.ok h S Rep.bl⟩
theorem Uo:aP X (dO .LtE) (r2 X.K n6):=aP.imp Zxw λx y H Q ak=>by obtain⟨ι,M,a,b,S,ra,rb,h⟩:=ak;cases a<;>cases b<;>first|exact h.elim|exact⟨_,_,ra.int_inv,rb.int_inv,Zv.ok h S Rep.bl⟩
theorem qy:aP X (dO .Gt) (r2 X.K cV):=aP.imp ZxX λx y H Q ak=>by obtain⟨ι,M,a,b,S,ra,rb,h⟩:=ak;cases a<;>cases b<;>first|exact h.elim|exact⟨_,_,ra.int_inv,rb.int_inv,Zv.ok h S Rep.bl⟩
theorem Hu:aP X (dO .Is) (r2 X.K n8):=aP.imp Zu2 λx y H Q ak=>by
 obtain⟨ι,M,a,b,S,ra,rb,h⟩:=ak;cases b with
 |non=>exact⟨rb.jA,by rw[ra.Xx];exact Zv.ok h S Rep.bl⟩|_=>exact h.elim
theorem Zuk:aP X (dO .IsNot) (r2 X.K GR):=aP.imp ZtB λx y H Q ak=>by
 obtain⟨ι,M,a,b,S,ra,rb,h⟩:=ak;cases b with
 |non=>exact⟨rb.jA,by rw[ra.Xx];exact Zv.ok h S Rep.bl⟩|_=>exact h.elim
end
theorem units_in1(A:bU):A.in1.units=A.units+1:=rfl
variable{es:List D}{A:bU}
section
variable {X:Cx} {pins:List (Y2×aO)} {σ:St} {H:Hp} {s:Yk} {ι:List Y2}
theorem Zmi{e:Nat->Bool}:∀{x y:List D},x.length=y.length->(∀(j:Nat) a b,x[j]?=Ya a->y[j]?=Ya b->e j=cY a b)->(iw x.length).all e=iT x y:=by
 intro x
 induction x generalizing e with
 |nil=>intro y h _;cases y with|nil=>rfl|cons _ _=>simp at h
 | cons a x ih=>
  intro y h he;cases y with
  |nil=>simp at h|cons b y=>rw[Ym,YZ,kj,List.all_map,he 0 a b rfl rfl];rw[TQ];congr 1;exact ih (e:=e ∘ Nat.succ) (by simpa using h) λj a' b' h1 h2=>he (j+1) a' b' (by simpa using h1) (by simpa using h2)
theorem Znl:∀{x y:List D},iT x y=true->x.length=y.length
 |[],[],_=>rfl|[],_::_,h=>ft h|_::_,[],h=>ft h|a::x,b::y,h=>congrArg Nat.succ (Znl (Ybb.mp (h:(cY a b&&iT x y)=true)).2)
theorem Mm(h:dz 0 d=true):cF d=true:=by cases d<;>first|exact rfl|exact h
theorem CJ(h:dz (n+1) d=true):cF d=true\/∃ds,d= .tup ds:=by
 cases d with
 |tup ds=>exact .inr ⟨ds,rfl⟩|bF _=>exact ft h|ref _=>exact ft h|_=>exact .inl rfl
theorem Zlc{a b:D}(fa:cF a=true)(fb:cF b=true)(r:Rep K H ι a v)(q:Rep K H ι b v):cY a b=true:=by
 cases a with
 |non=>have e:=r.jA;cases b with
  |non=>rfl|bl _=>cases e.symm.trans q.gP|int _=>cases e.symm.trans q.int_inv|str _=>cases e.symm.trans q.str_inv
  |_=>exact ft fb
 |bl x=>have e:=r.gP;cases b with
  |non=>cases e.symm.trans q.jA|bl _=>exact beq_iff_eq.mpr (V.bl.inj (e.symm.trans q.gP))|int _=>cases e.symm.trans q.int_inv|str _=>cases e.symm.trans q.str_inv
  |_=>exact ft fb
 |int x=>have e:=r.int_inv;cases b with
  |non=>cases e.symm.trans q.jA|bl _=>cases e.symm.trans q.gP|int _=>exact beq_iff_eq.mpr (V.int.inj (e.symm.trans q.int_inv))|str _=>cases e.symm.trans q.str_inv
  |_=>exact ft fb
 |str x=>have e:=r.str_inv;cases b with
  |non=>cases e.symm.trans q.jA|bl _=>cases e.symm.trans q.gP|int _=>cases e.symm.trans q.int_inv|str _=>exact Zjh.symm.trans (decide_eq_true (e.symm.trans q.str_inv))
  |_=>exact ft fb
 |_=>exact ft fa
theorem ZmN{a:D}{p:Y2}(fa:cF a=true)(r:Rep K H ι a v)(e:v= .ref p):False:=by
 cases a with
 |non=>cases e.symm.trans r.jA|bl x=>cases e.symm.trans r.gP|int x=>cases e.symm.trans r.int_inv|str x=>cases e.symm.trans r.str_inv
 |_=>exact ft fa
theorem Rep.fun1(I:Inv X pins σ H s):∀(n:Nat) (a b:D) (v:V),dz n a=true->dz n b=true->Rep X.K H ι a v->Rep X.K H ι b v->cY a b=true:=by
 intro n
 induction n with
 |zero=>intro a b v ha hb r q;exact Zlc (Mm ha) (Mm hb) r q|succ n ih=>
  intro a b v ha hb r q;rcases CJ ha with fa|⟨ds,ea⟩
  .rcases CJ hb with fb|⟨es,eb⟩
   .exact Zlc fa fb r q
   .rw[eb]at q;obtain⟨p,vs,e,_⟩:=q.jg;exact(ZmN fa r e).elim
  .rw [ea]at r ha ⊢;obtain⟨p,vs,e,s1,r1⟩:=r.jg;rcases CJ hb with fb|⟨es,eb⟩
   .exact(ZmN fb q e).elim
   .rw[eb]at q hb ⊢;obtain⟨p',ws,e',s2,r2⟩:=q.jg;rw[←V.ref.inj (e.symm.trans e')]at s2;rw[←I.PB s1 s2]at r2;clear s1 s2 e e' q r eb ea;rw[ZuV];revert ha hb r1 r2
    induction ds generalizing es vs with
    |nil=>
     intro _ r1 _ r2;cases es with
     |nil=>rfl|cons _ _=>obtain⟨_,_,e,_⟩:=r2.cons_inv;cases r1.nil_inv.symm.trans e
    | cons d ds ih2=>
     intro h1 r1 h2 r2;obtain⟨v,ws,e,q1,q2⟩:=r1.cons_inv;cases es with
     |nil=>cases r2.nil_inv.symm.trans e|cons e' es=>obtain⟨v',ws',z,q3,q4⟩:=r2.cons_inv;obtain⟨z1,z2⟩:=jc (z.symm.trans e);rw[z1]at q3;rw[z2]at q4;have g1:=Ybb.mp (h1:(dz n d&&ds.all (dz n))=true);have g2:=Ybb.mp (h2:(dz n e'&&es.all (dz n))=true);rw[TQ,ih d e' v g1.1 g2.1 q1 q3];exact ih2 ws es g1.2 q2 g2.2 q4
theorem CK{x:V}(r:Rep K H ι .non x)(e:RelV x u):u= .none:=by rw[r.jA]at e;cases e;rfl
theorem wW{b:Bool}{x:V}(r:Rep K H ι (.bl b) x)(e:RelV x u):u= .bool b:=by rw[r.gP]at e;cases e;rfl
theorem wX{i:Int}{x:V}(r:Rep K H ι (.int i) x)(e:RelV x u):∃t,u= .int i t:=by rw[r.int_inv]at e;exact e
theorem wY{i:List Nat}{x:V}(r:Rep K H ι (.str i) x)(e:RelV x u):∃t,u= .str ⟨i.toArray⟩ t:=by rw[r.str_inv]at e;exact e
inductive Uq(X:Cx)(H:Hp)(ι:List Y2)(T:Y2->Array Yh->Prop)(ds:List D)(x:V)(u:Yh):Prop
 |mk (p:Y2) (vs:List V) (its:List Yh):x= .ref p->u= .ref p->T p its.toArray->au X.K H ι ds vs->Vals vs its->Uq X H ι T ds x u
theorem zj(I:Inv X pins σ H s){x:V}(r:Rep X.K H ι (.tup ds) x)(e:RelV x u):Uq X H ι s.heap.IsTuple ds x u:=by obtain⟨p,vs,ex,s1,r1⟩:=r.jg;obtain⟨its,rvs,ht,_⟩:=I.tuple s1;rw[ex]at e;exact⟨p,vs,its,ex,e,ht,r1,rvs⟩
theorem Ti{i k:List Nat}:decide (i=k)=((⟨i.toArray⟩:aj)==⟨k.toArray⟩):=by
 rw[←Ka,←Zjh];by_cases h:(⟨i.toArray⟩:aj)=⟨k.toArray⟩
 .rw[h,beq_self_eq_true];exact decide_eq_true rfl
 .rw[beq_eq_false_iff_ne.mpr h];exact decide_eq_false λe=>h (V.str.inj e)
theorem ZtL{i k:List Nat}:cY (.str i) (.str k)=((⟨i.toArray⟩:aj)==⟨k.toArray⟩):=wD (show(i==k)=decide (i=k)from Ka i k) Ti
theorem Mp(A:bU)(a b:D)(x y:V)(u v:Yh)(ha:cF a=true)(hb:cF b=true)(ra:Rep X.K H ι a x)(rb:Rep X.K H ι b y)(ru:RelV x u)(rv:RelV y v):sV A s u v (cY a b):=by
 cases a with
 |non=>rw[CK ra ru];cases b with
  |non=>rw[CK rb rv];exact R7 _|bl k=>rw[wW rb rv];exact Yi4 _|int k=>obtain⟨t,e⟩:=wX rb rv;rw[e];exact Yjj _ _|str k=>obtain⟨t,e⟩:=wY rb rv;rw[e];exact Yjk _ _
  |_=>exact ft hb
 |bl i=>rw[wW ra ru];cases b with
  |non=>rw[CK rb rv];exact Yi5 _|bl k=>rw[wW rb rv];exact Yi6 _ _|int k=>obtain⟨t,e⟩:=wX rb rv;rw[e];exact Yjl _ _ _|str k=>obtain⟨t,e⟩:=wY rb rv;rw[e];exact Yjm _ _ _
  |_=>exact ft hb
 |int i=>obtain⟨t0,e0⟩:=wX ra ru;rw[e0];cases b with
  |non=>rw[CK rb rv];exact Yjn _ _|bl k=>rw[wW rb rv];exact Yjo _ _ _|int k=>obtain⟨t,e⟩:=wX rb rv;rw[e];exact Ykd _ _ _ _|str k=>obtain⟨t,e⟩:=wY rb rv;rw[e];exact R6 _ _ _ _
  |_=>exact ft hb
 |str i=>obtain⟨t0,e0⟩:=wY ra ru;rw[e0];cases b with
  |non=>rw[CK rb rv];exact Yjp _ _|bl k=>rw[wW rb rv];exact Yjq _ _ _|int k=>obtain⟨t,e⟩:=wX rb rv;rw[e];exact Ky _ _ _ _|str k=>obtain⟨t,e⟩:=wY rb rv;rw[e,ZtL];exact Yke _ _ _ _
  |_=>exact ft hb
 |_=>exact ft ha
noncomputable def Hv(ds es:List D)(j:Nat):Bool:=match ds[j]?,es[j]? with|some a,Ya b=>cY a b|_,_=>false
theorem ZpC(hl:ds.length≠es.length):iT ds es=false:=by
 cases q:iT ds es with
 |false=>rfl|true=>exact absurd (Znl q) hl
theorem ZpN(hn:n=ds.length)(hl:ds.length=es.length):(iw n).all (Hv ds es)=iT ds es:=by rw[hn];exact Zmi hl λj a b h1 h2=>by unfold Hv;rw[h1,h2]
theorem Zpn{m:Nat}(hn:n=ds.length)(hm:m=es.length):((iw (jJ n m)).all (Hv ds es)&&n==m)=iT ds es:=by
 by_cases hl:ds.length=es.length
 .have e:n=m:=hn.trans (hl.trans hm.symm);rw[←e,Nat.min_self,beq_self_eq_true,Kd];exact ZpN hn hl
 .rw[ZpC hl,beq_eq_false_iff_ne.mpr λe=>hl (hn.symm.trans (e.trans hm)),yu]
theorem pF{its:List Yh}(r:au X.K H ι ds vs)(v:Vals vs its):its.toArray.size=ds.length:=Yq.trans (v.length.symm.trans r.length)
theorem Ur{ws:List V}{its its2:List Yh}(ih:∀(a b:D) (x y:V) (u v:Yh),dz n a=true->dz n b=true->Rep X.K H ι a x->Rep X.K H ι b y->RelV x u->RelV y v->sV A s u v (cY a b))(p1:ds.all (dz n)=true)(p2:es.all (dz n)=true)(r1:au X.K H ι ds vs)(r2:au X.K H ι es ws)(v1:Vals vs its)(v2:Vals ws its2)(j:Nat)(h1:j<its.toArray.size)(h2:j<its2.toArray.size):sV A s its.toArray[j] its2.toArray[j] (Hv ds es j):=by
 have k1:j<ds.length:=by rw[←pF r1 v1];exact h1
 have k2:j<es.length:=by rw[←pF r2 v2];exact h2
 have q1:=Y3 k1;have q2:=Y3 k2;obtain⟨x,g1,z1⟩:=r1.get q1;obtain⟨y,g2,z2⟩:=r2.get q2;obtain⟨u,e1,l1⟩:=v1.get g1;obtain⟨v,e2,l2⟩:=v2.get g2;unfold Hv;rw[q1,q2];obtain⟨_,e1⟩:=Yf.mp e1;obtain⟨_,e2⟩:=Yf.mp e2;exact ih _ _ x y _ _ (h_.mp p1 _ (um k1)) (h_.mp p2 _ (um k2)) z1 z2 (e1▸l1) (e2▸l2)
theorem Zmp(A:bU)(hu1:A.units<jG){a:D}{x:V}{p:Y2}{its:Array Yh}(ha:cF a=true)(ra:Rep X.K H ι a x)(ru:RelV x u)(it:s.heap.IsTuple p its):sV A s u (.ref p) (cY a (.tup es))/\sV A s (.ref p) u (cY (.tup es) a):=by
 cases a with
 |non=>rw[CK ra ru];exact⟨SeqAt.EqAt.none_tuple it hu1,SeqAt.EqAt.tuple_none it hu1⟩|bl k=>rw[wW ra ru];exact⟨SeqAt.EqAt.bool_tuple _ it hu1,SeqAt.EqAt.tuple_bool _ it hu1⟩|int k=>obtain⟨t,e⟩:=wX ra ru;rw[e];exact⟨SeqAt.EqAt.int_tuple _ _ it hu1,SeqAt.EqAt.tuple_int _ _ it hu1⟩|str k=>obtain⟨t,e⟩:=wY ra ru;rw[e];exact⟨SeqAt.EqAt.str_tuple _ _ it hu1,SeqAt.EqAt.tuple_str _ _ it hu1⟩
 |_=>exact ft ha
theorem ZrE(I:Inv X pins σ H s):∀(n:Nat) (A:bU) (_:A.units+n+1<jG) (a b:D) (x y:V) (u v:Yh),dz n a=true->dz n b=true->Rep X.K H ι a x->Rep X.K H ι b y->RelV x u->RelV y v->sV A s u v (cY a b):=by
 intro n
 induction n with
 |zero=>intro A hu a b x y u v ha hb ra rb ru rv;exact Mp A a b x y u v (Mm ha) (Mm hb) ra rb ru rv|succ n ih=>
  intro A hu a b x y u v ha hb ra rb ru rv;have hu0:A.units+0+1<jG:=lC 1 0x2ae0cc12aa1c0cc11 T1 hu;have hu1:A.units<jG:=lB 1 1104257534993 T1 hu0;rcases CJ ha with fa|⟨ds,ea⟩
  .rcases CJ hb with fb|⟨es,eb⟩
   .exact Mp A a b x y u v fa fb ra rb ru rv
   .rw[eb]at rb ⊢;obtain⟨p,vs,its,ex,eu,t,_⟩:=zj I rb rv;rw[eu];exact(Zmp A hu1 fa ra ru t).1
  .rw[ea]at ra ha ⊢;obtain⟨p,vs,its,ex,eu,t,r1,v1⟩:=zj I ra ru;rw[eu];rcases CJ hb with fb|⟨es,eb⟩
   .exact(Zmp A hu1 fb rb rv t).2
   .rw[eb]at rb hb ⊢;obtain⟨q,ws,its2,ey,ev,t',r2,v2⟩:=zj I rb rv;rw[ev];by_cases hp:p=q
    .rw[ey,←hp,←ex]at rb;rw[Rep.fun1 I (n+1) _ _ _ ha hb ra rb,hp];exact R7 _
    .refine SeqAt.EqAt.of_refs hp ?_;rw[ZuV,←Zpn (pF r1 v1) (pF r2 v2)];exact Ykv t t' hu1 (Ur (ih A.in1 (by rw[units_in1];exact lC 1 0x2a1a0ccc12aa1c0cc11 T1 hu)) ha hb r1 r2 v1 v2)
end
section
variable {X:Cx}
section
variable {pins:List (Y2×aO)} {σ:St} {H:Hp} {s:Yk} {ι:List Y2}
theorem Mq(I:Inv X pins σ H s)(S:aH X.K H ι M){x:V}(h:M[n]?=Ya (.lst ds))(r:Rep X.K H ι (.ref n) x)(e:RelV x u):Uq X H ι s.heap.IsList ds x u:=by obtain⟨p,hp1,ex⟩:=r.dM;obtain⟨vs,e1,r1⟩:=S.obj n _ p h hp1;obtain⟨its,rvs,pl1,_⟩:=I.list (bL.of e1);rw[ex]at e;exact⟨p,vs,its,ex,e,pl1.isList,r1,rvs⟩
inductive zm(M:Store)(a b:D)(k:Bool):Prop
 |ref {n m:Nat} (ds es:List D):a= .ref n->b= .ref m->iT ds es=k->M[n]?=Ya (.lst ds)->M[m]?=Ya (.lst es)->ds.all (dz DEEP)=true/\es.all (dz DEEP)=true->zm M a b k
 |int (i j:Int):a= .int i->b= .int j->decide (i=j)=k->zm M a b k
 |str (i j:List Nat):a= .str i->b= .str j->decide (i=j)=k->zm M a b k
 |bl (i j:Bool):a= .bl i->b= .bl j->decide (i=j)=k->zm M a b k
 |tup {ds es:List D}:a= .tup ds->b= .tup es->iT ds es=k->ds.all (dz DEEP)=true/\es.all (dz DEEP)=true->zm M a b k
theorem Us{c d:Bool}{a k:α}(h:(if c&&d then Ya a else Yl)=Ya k):a=k/\c=true/\d=true:=by
 cases c with
 |false=>exact jl h|true=>cases d with
  |false=>exact jl h|true=>exact⟨Y1 h,rfl,rfl⟩
noncomputable def Zzd(a b:Option MO):Option Bool:=match a,b with
 |some (.lst x),Ya (.lst y)=>if x.all (dz DEEP)&&y.all (dz DEEP)then Ya (iT x y)else Yl|_,_=>Yl
theorem ZtO{m:Nat}{k:Bool}(h:Zzd M[n]? M[m]?=Ya k):zm M (.ref n) (.ref m) k:=by
 cases e1:M[n]? with
 |none=>rw[e1]at h;exact jl h|some o=>cases o with
  | lst x=>cases e2:M[m]? with
   |none=>rw[e1,e2]at h;exact jl h|some o=>cases o with
    |lst y=>rw[e1,e2]at h;exact have w:=Us h;.ref x y rfl rfl w.1 e1 e2 w.2|_=>rw[e1,e2]at h;exact jl h
  |_=>rw[e1]at h;exact jl h
theorem eqK{a b:D}{k:Bool}(h:q9 a b M=Ya k):zm M a b k:=by
 cases a with
 |ref n=>cases b with
  |ref m=>exact ZtO h|_=>exact jl h
 |int i=>cases b with
  |int j=>exact .int i j rfl rfl (Y1 h)|_=>exact jl h
 |str i=>cases b with
  |str j=>exact .str i j rfl rfl (Y1 h)|_=>exact jl h
 |bl i=>cases b with
  |bl j=>exact .bl i j rfl rfl (Y1 h)|_=>exact jl h
 |tup ds=>cases b with
  |tup es=>exact have w:=Us h;.tup rfl rfl w.1 w.2|_=>exact jl h
 |_=>cases b<;>exact jl h
theorem Ut{a b:D}{x y:V}{v:Yh}{k:Bool}(hu:X.A.units+80<jG)(I:Inv X pins σ H s)(S:aH X.K H ι M)(ra:Rep X.K H ι a x)(rb:Rep X.K H ι b y)(ru:RelV x u)(rv:RelV y v)(h:q9 a b M=Ya k):SeqAt.RcAt X.A s u v k/\SeqAt.RcNeAt X.A s u v (!k):=by
 have hu1:X.A.units<jG:=lB 1 17666545486865 T1 hu;have hu2:X.A.in1.units+DEEP+1<jG:=by rw[units_in1];exact(show X.A.units+1+60+1<jG from lB 1 0x1a3c2ba0ccc11502b0c11 T1 hu)
 rcases eqK h with⟨ds,es,ea,eb,ek,e1,e2,p1,p2⟩|⟨i,j,ea,eb,ek⟩|⟨i,j,ea,eb,ek⟩|⟨i,j,ea,eb,ek⟩|⟨ea,eb,ek,p1,p2⟩
 .rw[ea]at ra;rw[eb]at rb;rw[←ek];obtain⟨p,vs,its,_,eu,t,r1,v1⟩:=Mq I S e1 ra ru;obtain⟨q,ws,its2,_,ev,t',r2,v2⟩:=Mq I S e2 rb rv;rw[eu,ev];by_cases hl:ds.length=es.length
  .rw[←ZpN (pF r1 v1) hl];have hz:=(pF r1 v1).trans (hl.trans (pF r2 v2).symm);have w:=Ur (ZrE I DEEP X.A.in1 hu2) p1 p2 r1 r2 v1 v2;exact⟨SeqAt.RcAt.lists t t' hz hu1 w,SeqAt.RcNeAt.lists t t' hz hu1 w⟩
  .rw[ZpC hl];have hz:(its.toArray.size !=its2.toArray.size)=true:=bne_iff_ne.mpr λe=>hl ((pF r1 v1).symm.trans (e.trans (pF r2 v2)));exact⟨SeqAt.RcAt.lists_lengths t t' hz hu1,Ygl t t' hz hu1⟩
 .rw[ea]at ra;rw[eb]at rb;obtain⟨t,e⟩:=wX ra ru;obtain⟨t',e'⟩:=wX rb rv;rw[e,e',←ek,←Ka];exact⟨SeqAt.RcAt.int_int _ _ _ _,SeqAt.RcNeAt.int_int _ _ _ _⟩
 .rw[ea]at ra;rw[eb]at rb;obtain⟨t,e⟩:=wY ra ru;obtain⟨t',e'⟩:=wY rb rv;rw[e,e',←ek,Ti];exact⟨SeqAt.RcAt.str_str _ _ _ _,SeqAt.RcNeAt.str_str _ _ _ _⟩
 .rw[ea]at ra;rw[eb]at rb;rw[wW ra ru,wW rb rv,←ek,←Ka];exact⟨SeqAt.RcAt.bool_bool _ _,SeqAt.RcNeAt.bool_bool _ _⟩
 .rw[ea]at ra;rw[eb]at rb;obtain⟨p,vs,its,_,eu,t,r1,v1⟩:=zj I ra ru;obtain⟨q,ws,its2,_,ev,t',r2,v2⟩:=zj I rb rv;rw[eu,ev,←ek,←Zpn (pF r1 v1) (pF r2 v2)];have w:=Ur (ZrE I DEEP X.A.in1 hu2) p1 p2 r1 r2 v1 v2;exact⟨Ykv t t' hu1 w,SeqAt.RcNeAt.tuples t t' hu1 w⟩
end
theorem eN(hu:X.A.units+80<jG):aP X (dO .Eq) (r2 X.K bj):=by
 intro pins s σ H x y v u Q I rx ry h;obtain⟨ι,M,a,b,S,ra,rb,h⟩:=h;unfold bj at h;cases q:q9 a b M with
 |none=>rw[q]at h;exact h.elim|some k=>rw[q]at h;exact(Ut hu I S ra rb rx ry q).1 X.prog X.w X.xe _ ⟨.bl k,H,I,rfl,Zv.ok h S Rep.bl⟩
theorem Uu{i:Int}(r:au K H ι ds vs)(h:gW ds i=Ya d):∃v,yJ vs i=Ya v/\Rep K H ι d v:=by
 unfold gW at h;unfold yJ;have e:BX vs.length i=lQ ds.length i:=by rw[r.length];rfl
 rw[e];cases q:lQ ds.length i with
 |none=>rw[q]at h;cases h|some j=>rw[q]at h;exact r.get h
theorem bf:mJ X (r2 X.K Zm):=mJ.imp ZwL λx y H Q ak=>by
 obtain⟨ι,M,a,b,S,ra,rb,h⟩:=ak;cases a with
 | tup ds=>cases b with
  |int i=>have h:Zv X.K H ι Q (wQ (gW ds i) (λd=>.ok d M)):=h;obtain⟨d,q,h⟩:=Ht h;obtain⟨p,vs,e',s1,r1⟩:=ra.jg;obtain⟨v,e,rv⟩:=Uu r1 q;exact .inr (.inl ⟨p,vs,i,v,e',rb.int_inv,s1,e,Zv.ok h S rv⟩)|_=>exact h.elim
 | bF ds=>cases b with
  |int i=>have h:Zv X.K H ι Q (wQ (gW ds i) (λd=>.ok d M)):=h;obtain⟨d,q,h⟩:=Ht h;obtain⟨p,vs,e',s1,r1⟩:=ra.t8;obtain⟨v,e,rv⟩:=Uu r1 q;exact .inl ⟨p,vs,i,v,e',rb.int_inv,s1.sq,e,Zv.ok h S rv⟩|_=>exact h.elim
 | str z=>cases b with
  |int i=>have h:Zv X.K H ι Q (onN (gW z i) (λc=>@ite _ (z.length<=SZ) (Yz _) (.ok (.str [c]) M) .bad)):=h;obtain⟨c,q,h⟩:=ZtS h;obtain⟨hz,h⟩:=wR h;exact .inr (.inr ⟨_,i,c,ra.str_inv,rb.int_inv,Yi hz j8,q,Zv.ok h S Rep.str⟩)|_=>exact h.elim
 | ref n=>cases b with
  |int i=>have h:Zv X.K H ι Q (zf (M[n]?) (λds=>wQ (gW ds i) λd=>.ok d M)):=h;obtain⟨ds,hn,h⟩:=Ml h;obtain⟨d,q,h⟩:=Ht h;obtain⟨p,hp,e'⟩:=ra.dM;obtain⟨vs,e1,r1⟩:=S.obj n _ p hn hp;obtain⟨v,e,rv⟩:=Uu r1 q;exact .inl ⟨p,vs,i,v,e',rb.int_inv,bL.of e1,e,Zv.ok h S rv⟩|_=>exact h.elim
 |_=>cases b<;>exact h.elim
theorem Uv(r:au K H ι ds vs)(lo hi:Option Int):au K H ι (cutD ds lo hi) (wI vs lo hi):=by
 have e:∀n d o,HT.aF n d o=aF n d o:=λn d o=>by cases o<;>rfl
 unfold cutD wI;rw[e,e,r.length];exact(r.drop _).take _
end
noncomputable def gM(cells:List (aj×Y2)):List (aj×NameKind)->List (aj×Y2)->List (aj×Y2)
 |[],cs=>cs|(n,k)::r,cs=>gM cells r (if k== .free then(n,(cells.lookup n).getD 0)::cs else cs)
theorem Hw{cells:List (aj×Y2)}{n:aj}{k:NameKind}{r:List (aj×NameKind)}{cs:List (aj×Y2)}:gM cells ((n,k)::r) cs=gM cells r (if k== .free then(n,(cells.lookup n).getD 0)::cs else cs):=rfl
theorem Mr{scope:Scope}{env:fH}(h:∀y∈scope.names,y.2= .free->∃c,env.cells.lookup y.1=Ya c):closureFor scope env=pure (gM env.cells scope.names []):=by
 unfold closureFor;have key:∀(names:List (aj×NameKind)) (cs:List (aj×Y2)),(∀y∈names,y.2= .free->∃c,env.cells.lookup y.1=Ya c) ->
   (forIn names cs λx r=>match x with|(name,kind)=>if(kind==NameKind.free)=true then do let c ←cellOf env name;pure (ForInStep.yield ((name,c)::r))else pure (ForInStep.yield r):pY (List (aj×Y2)))=pure (gM env.cells names cs):=by
  intro names
  induction names with
  |nil=>intro cs _;rfl|cons y r ih=>
   intro cs hy;obtain⟨n,k⟩:=y;rw[List.forIn_cons];by_cases hk:k= .free
   .subst hk;obtain⟨c,hc⟩:=hy (n,.free) Yc rfl;have e1:cellOf env n=pure c:=by unfold cellOf;rw[hc]
    simp only[beq_self_eq_true,if_true,e1,pure_bind];rw[ih _ λz hz=>hy z (Yd _ hz)];rw[Hw,hc];rfl
   .have hb:(k==NameKind.free)=false:=by simpa using hk
    simp only[hb,Bo,if_false,pure_bind];rw[ih _ λz hz=>hy z (Yd _ hz)];rw[Hw,hb];rfl
 have:=key scope.names [] h
 first
  |exact this
  |(simp only[bind_pure];exact this)
theorem ZpZ{cells:List (aj×Y2)}{c:Y2}:∀(names:List (aj×NameKind)) (cs:List (aj×Y2)),(∀y∈names,y.2= .free->∃c,cells.lookup y.1=Ya c)->(gM cells names cs).lookup x=Ya c->cs.lookup x=Ya c\/cells.lookup x=Ya c:=by
 intro names
 induction names with
 |nil=>intro cs _ h;exact .inl h|cons y r ih=>
  intro cs hy h;obtain⟨n,k⟩:=y;rw[Hw]at h;rcases ih _ (λz hz=>hy z (Yd _ hz)) h with q|q
  .by_cases hk:k= .free
   .subst hk;obtain⟨c0,hc⟩:=hy (n,.free) Yc rfl;simp only[beq_self_eq_true,if_true,hc,Option.getD_some,lJ]at q;cases hx:x==n with
    |true=>
     simp only[hx]at q;cases q;have:x=n:=by simpa using hx
     subst this;exact .inr hc
    |false=>simp only[hx]at q;exact .inl q
   .have hb:(k==NameKind.free)=false:=by simpa using hk
    simp only[hb,Bo,if_false]at q;exact .inl q
  .exact .inr q
theorem ZnY{cells:List (aj×Y2)}:∀(names:List (aj×NameKind)) (cs:List (aj×Y2)),(cs.lookup x).isSome=true->((gM cells names cs).lookup x).isSome=true:=by
 intro names
 induction names with
 |nil=>intro cs h;exact h|cons y r ih=>
  intro cs h;obtain⟨n,k⟩:=y;rw[Hw];refine ih _ ?_;split
  .rw[lJ];split
   .rfl
   .exact h
  .exact h
theorem ZkQ{cells:List (aj×Y2)}:∀(names:List (aj×NameKind)) (cs:List (aj×Y2)),(x,NameKind.free)∈names->((gM cells names cs).lookup x).isSome=true:=by
 intro names
 induction names with
 |nil=>intro cs h;cases h|cons y r ih=>
  intro cs h;obtain⟨n,k⟩:=y;rw[Hw];rcases Yo.mp h with e|h
  .cases e
   refine ZnY _ _ ?_;simp
  .exact ih _ h
noncomputable def fM(X:Cx)(scope:Scope)(N':List aj)(C:Y2)(cl:List (aj×Y2))(s:Yk)(H:Hp)(ex:List Y2):Cx:={X with N:=N',s₀:=s,H₀:=H,env:=FW scope cl C X.env,outer:=X.stack,stack:=X.stack,ex:=ex,fn:=λ_=>false,pn:=[],xe:=λ_ _=>False}
noncomputable def Uw(N N':List aj)(scope:Scope):Bool:=(iw N.length).all λi=>match N'[i]? with
 |some x=>(scope.names.lookup x).isNone|| (decide (N[i]?=Ya x)&&decide (scope.names.lookup x=Ya .free))|none=>false
def qz(X:Cx)(ifs:List Expr)(ts:List E3):Prop:=∀(pins:List (Y2×aO)) (s:Yk) (σ:St) (H:Hp) (Q:Bool->Hp->Prop),Inv X pins σ H s ->
 (∃ι M env,aH X.K H ι M/\cM X.K H ι env σ/\match uQ ts env M with| .ok b M'=>∀H' ι',Ext X.K H ι H' ι'->aH X.K H' ι' M'->Q b H'|_=>False) ->
 ao (aB X.prog X.w) X.A (forIn ifs true λc r=>if r=true then do let ok ←isTrue c X.env (aN c X.env);pure (ForInStep.yield ok)else pure (ForInStep.yield r)) (TP X pins σ Q) X.xe s
theorem lX:qz X [] []:=λpins s σ H Q I ⟨ι,M,env,S,E,h⟩=>wpAny_tests_nil ⟨H,I,h H ι Ext.refl S⟩
theorem ZtN{c:Expr}(hc:CT X c f):qz X [c] [f]:=λpins s σ H Q I ak=>by
 obtain⟨ι,M,env,S,E,h⟩:=ak;refine wpAny_tests_one (hc pins s σ H Q I ⟨ι,M,env,S,E,?_⟩);rw[G9]at h;cases q:f env M with
 | ok d M1=>
  rw[q]at h;cases d with
  |bl b=>cases b with
   |true=>exact h|false=>exact h
  |_=>exact h.elim
 |exc x M1=>rw[q]at h;exact h.elim|bad=>rw[q]at h;exact h.elim
section
variable {prog:Yae} {w:bh} {A:bU} {R:uy->Yk->Prop} {s:Yk}
theorem Zia{elt target iter:Expr}{ifs:List Expr}{scope:Scope}{pos:aU}{it acc:Yh}{env:fH}(I:Nat->Yk->Prop)(turn:∀n s,I n s->ao (aB prog w) A (ux it) (λr s₁=>match r with
   |none=>R (.ok .next) s₁|some v=>ao (aB prog w) A (FJ target it v) (λ_ s₁'=>ao (aB prog w) A (jF target env v) (λ_ s₂=>
     ao (aB prog w) A (forIn ifs true λc r=>if r=true then do let ok ←isTrue c env (aN c env);pure (ForInStep.yield ok)else pure (ForInStep.yield r)) (λok s₃=>
      if ok=true then ao (aB prog w) A (aN elt env) (λx s₄=>ao (aB prog w) A (call (.builtin "list.append") [acc,x]) (λ_ s₅=>∃m,m<n/\I m s₅) (λ_ _=>False) s₄) (λ_ _=>False) s₃
      else∃m,m<n/\I m s₃) (λ_ _=>False) s₂) (λ_ _=>False) s₁') (λ_ _=>False) s₁) (λ_ _=>False) s)(n:Nat)(h:I n s):nR (aB prog w) A (.compLoop (.ListComp elt [⟨target,iter,ifs,0⟩] scope pos) 0 it acc env) R s:=by
 refine codeAny_loop rfl I (λn s hI=>?_) n h;show ao _ A ((compTurn (.ListComp elt [⟨target,iter,ifs,0⟩] scope pos) 0 it acc env).onRaise (λx=>do noteFrame x env;theTreesLotGoes x)) _ _ s;refine wpAny_noted ?_;rw[compTurn_list];refine Yg (vZ (Yg (j4 (turn n s hI) (λr s₁ h₁=>?_) λ_ _ h'=>jH h')));cases r with
 |none=>exact Yv h₁|some v=>
  refine Yg (j4 h₁ (λ_ s₁' h₁'=>?_) λ_ _ h'=>jH h');refine Yg (j4 h₁' (λ_ s₂ h₂=>Yg (j4 h₂ (λok s₃ h₃=>?_) λ_ _ h'=>jH h')) λ_ _ h'=>jH h');cases ok with
  |false=>exact Yv ⟨rfl,h₃⟩|true=>exact Yg (Yg (j4 h₃ (λx s₄ h₄=>Yg (j4 h₄ (λ_ s₅ h₅=>Yv (Yv ⟨rfl,h₅⟩)) λ_ _ h'=>jH h')) λ_ _ h'=>jH h'))
end
theorem Ux{env:fH}{k:NameKind}:∀{names:List (aj×NameKind)},(names.map λ(n,k)=>if(k==NameKind.free&&env.scope.kind== .function&&env.kindOf n==Ya .cell)then(n,NameKind.cell)else(n,k)).lookup x=Ya k ->
  ∃k0,names.lookup x=Ya k0/\(k0=k\/(k0= .free/\k= .cell)):=by
 intro names
 induction names with
 |nil=>intro h;simp at h|cons y r ih=>
  intro h;obtain⟨n,k1⟩:=y;rw[Ys]at h;cases hx:x==n with
  | true=>
   refine⟨k1,by simp[lJ,hx],?_⟩;by_cases hc:(k1==NameKind.free&&env.scope.kind== .function&&env.kindOf n==Ya .cell)=true
   .simp only[if_pos hc,lJ,hx]at h;cases h;simp only[Y5,beq_iff_eq]at hc;exact .inr ⟨hc.1.1,rfl⟩
   .simp only[if_neg hc,lJ,hx]at h;cases h;exact .inl rfl
  | false=>
   have h':(r.map λ(n,k)=>if(k==NameKind.free&&env.scope.kind== .function&&env.kindOf n==Ya .cell)then(n,NameKind.cell)else(n,k)).lookup x=Ya k:=by
    by_cases hc:(k1==NameKind.free&&env.scope.kind== .function&&env.kindOf n==Ya .cell)=true
    .simp only[if_pos hc,lJ,hx]at h;exact h
    .simp only[if_neg hc,lJ,hx]at h;exact h
   obtain⟨k0,e,q⟩:=ih h';exact⟨k0,by simp[lJ,hx,e],q⟩
theorem Zmb{env:fH}:∀{names:List (aj×NameKind)},names.lookup x=Ya .free ->
  (names.map λ(n,k)=>if(k==NameKind.free&&env.scope.kind== .function&&env.kindOf n==Ya .cell)then(n,NameKind.cell)else(n,k)).lookup x=Ya .free\/
  (names.map λ(n,k)=>if(k==NameKind.free&&env.scope.kind== .function&&env.kindOf n==Ya .cell)then(n,NameKind.cell)else(n,k)).lookup x=Ya .cell:=by
 intro names
 induction names with
 |nil=>intro h;simp at h|cons y r ih=>
  intro h;obtain⟨n,k1⟩:=y;rw[Ys];cases hx:x==n with
  |true=>
   simp only[lJ,hx]at h;cases h;by_cases hc:(NameKind.free==NameKind.free&&env.scope.kind== .function&&env.kindOf n==Ya .cell)=true
   .simp only[if_pos hc,lJ,hx];exact .inr trivial
   .simp only[if_neg hc,lJ,hx];exact .inl trivial
  |false=>
   simp only[lJ,hx]at h;by_cases hc:(k1==NameKind.free&&env.scope.kind== .function&&env.kindOf n==Ya .cell)=true
   .simp only[if_pos hc,lJ,hx];exact ih h
   .simp only[if_neg hc,lJ,hx];exact ih h
section
variable {X:Cx} {pins:List (Y2×aO)} {σ:St} {H:Hp} {s:Yk} {scope:Scope} {N':List aj} {own:Nat} {fp:List Y2}
theorem Zmx(I:Inv X pins σ H s)(hk:scope.kind= .function)(hcell:∀y∈scope.names,y.2≠ .cell)(hfree:∀y∈scope.names,y.2= .free->X.env.kindOf y.1=Ya .cell\/X.env.kindOf y.1=Ya .free)(hN:N'.length=X.N.length+own)(hv:Uw X.N N' scope=true)(hfp:∀b∈fp,iR X pins H b)(hlt:∀b∈fp,b<s.heap.objs.size){h1:aR}{tk:Nat}(hns:h1.Ns s.heap.objs.size λ_=>Yl)(keep:∀b o,s.heap.get? b=Ya o->h1.get? b=Ya o):
  Inv (fM X scope N' s.heap.objs.size (gM X.env.cells scope.names []) s H fp) [] (σ++Yr own Yl) H {s with heap:=h1,toks:=tk}:=by
 have hc0:∀y∈scope.names,y.2= .free->∃c,X.env.cells.lookup y.1=Ya c:=λy hy e=>I.ok.has y.1 (hfree y hy e);have sub:∀x c,(gM X.env.cells scope.names []).lookup x=Ya c->X.env.cells.lookup x=Ya c:=λx c h=>by
  rcases ZpZ scope.names [] hc0 h with q|q
  .simp at q
  .exact q
 have cellK:∀{c:Y2} {v:Option Yh},s.heap.IsCell c v->h1.IsCell c v:=λ⟨o,ho,hd⟩=>⟨o,keep _ o ho,hd⟩;refine⟨⟨I.ok.mod,hk,I.ok.glob,I.ok.blt,Yt _,λx y c h1 h2=>I.ok.inj x y c (sub x c h1) (sub y c h2),λx hx=>?_,λx c h=>?_,I.ok.hd,I.ok.frames,.inl rfl,λb hb=>⟨dR (hlt b hb),λx c h=>(hfp b hb).2.2.2.2.1 x c (sub x c h)⟩,
   I.bs,Yi I.ok.qX I.sz,λb o e hb=>?_,λb hb hz=>?_,I.stack,I.Xu⟩,rfl,I.bare,Un.kept keep,⟨_,hns,λi x v h1 h2 h3=>?_⟩,λx c h=>?_,I.hok.fresh (Yt _),λx c h=>I.sG x c (sub x c h),
  λp hp=>absurd (show p∈([]:List (Y2×aO))from hp) (by simp),I.hok.kept keep,?_⟩
 .have hx':(v8 scope X.env).names.lookup x=Ya .cell\/(v8 scope X.env).names.lookup x=Ya .free:=hx;have:scope.names.lookup x=Ya .free:=by
   rcases hx' with hx'|hx'
   .obtain⟨k0,e,q⟩:=Ux (names:=scope.names) hx';rcases q with q|⟨q,_⟩
    .subst q;exact absurd rfl (hcell _ (ut e))
    .rw[e,q]
   .obtain⟨k0,e,q⟩:=Ux (names:=scope.names) hx';rcases q with q|⟨_,q⟩
    .rw[e,q]
    .cases q
  exact Jr.mp (ZkQ scope.names [] (ut this))
 .cases h
 .obtain⟨_,_,_,q,_⟩:=hfp b hb;rcases q with q|q
  .exact I.ok.Fi b o e q
  .exact absurd (Y7 (Y6 e) (Yi I.ok.qX q)) (wu _)
 .have hz':b∈frs X.stack:=hz;obtain⟨_,q1,q2,_⟩:=hfp b hb;rcases Yo.mp (I.PQ b hz')with e|e
  .exact q1 e
  .exact q2 e
 .have hi:i<σ.length:=by
   by_cases hi:i<σ.length
   .exact hi
   .rw[xX (j5 hi),Jy]at h2;split at h2<;>cases h2
  rw[Yj hi]at h2;have Gp:i<X.N.length:=by rw[←I.len];exact hi
  have hN':N'[i]?=Ya x:=h1;have vq:=h_.mp hv i (JG.mpr Gp);rw[hN']at vq;have h3':(v8 scope X.env).names.lookup x=Ya .local\/(v8 scope X.env).names.lookup x=Ya .cell\/(v8 scope X.env).names.lookup x=Ya .free:=h3;have some_of:∃k0,scope.names.lookup x=Ya k0:=by rcases h3' with q|q|q<;>(obtain⟨k0,e,_⟩:=Ux (names:=scope.names) q;exact⟨k0,e⟩)
  obtain⟨k0,ek⟩:=some_of;simp only[ek,Option.isNone_some,Ymy,Y5,decide_eq_true_eq]at vq;obtain⟨vq1,vq2⟩:=vq;cases vq2;have hkind:=hfree (x,.free) (ut ek) rfl;obtain⟨m,hn,hl⟩:=I.loc;have AbD:KZ X.env.scope x:=by
   rcases hkind with q|q
   .exact .inr (.inl q)
   .exact .inr (.inr q)
  obtain⟨u,ru,lk⟩:=hl i x v vq1 h2 AbD;refine⟨u,ru,?_⟩;rcases lk with⟨kl,_⟩|⟨_,c,ec,ic⟩
  .rcases hkind with q|q<;>(rw[q]at kl;cases kl)
  .have hkk:(FW scope (gM X.env.cells scope.names []) s.heap.objs.size X.env).kindOf x=Ya .cell\/(FW scope (gM X.env.cells scope.names []) s.heap.objs.size X.env).kindOf x=Ya .free:=by
    rcases Zmb (env:=X.env) ek with q|q
    .exact .inr q
    .exact .inl q
   obtain⟨c',ec'⟩:=Jr.mp (ZkQ (cells:=X.env.cells) scope.names [] (ut ek));have e2:=sub x c' ec';rw[ec]at e2;cases e2;exact .inr ⟨hkk,c,ec',cellK ic⟩
 .obtain⟨v,ic⟩:=I.cell x c (sub x c h);exact⟨v,cellK ic⟩
 .show(σ++Yr own Yl).length=N'.length;rw[Ye,nP,I.len,hN]
theorem cM.grow{H:Hp}{σ:St}(E:cM K H ι env σ)(n:Nat):cM K H ι (env++Yr n Yl) (σ++Yr n Yl):=by
 refine⟨by simp[E.1],λi d h=>?_⟩;by_cases hi:i<env.length
 .rw[Yj hi]at h;obtain⟨v,e,r⟩:=E.2 i d h;exact⟨v,by rw[Yj (by rw[←E.1];exact hi)];exact e,r⟩
 .rw[xX (j5 hi),Jy]at h;split at h<;>cases h
end
section
structure Cb where
 Y:Cx
 fp:List Y2
 tn:Nat->aR->Prop
 aY:fZ
 H2:Hp
 ι2:List Y2
 Q:VK
 g:G3
 ts:List E3
 f:E3
 nM:Nat
 acc:Y2
inductive Uy(P:Cb)(n:Nat)(s':Yk):Prop
 | mk (k:Nat) (σ5:St) (H5:Hp) (ι5:List Y2) (M5:Store) (uc:bJ) (I5:Inv P.Y [] σ5 H5 s') (mG:P.tn k s'.heap) (p_:∀b∈P.fp,H5 b=Yl) (hn:P.aY.items.length-k=n) (hk:k<=P.aY.items.length)
   (x5:Ext P.Y.K P.H2 P.ι2 H5 ι5) (S5:aH P.Y.K H5 ι5 M5) (E5:cM P.Y.K H5 ι5 uc σ5) (hι:ι5[P.nM]?=Ya P.acc) (h5:Zv P.Y.K H5 ι5 P.Q (jd P.aY P.g P.ts P.f P.nM (P.aY.items.drop k) uc M5))
def Ms(P:Cb)(n:Nat)(s':Yk):Prop:=∃m,m<n/\Uy P m s'
section
noncomputable local instance (priority:=100000) AbT (p:Prop):Decidable p:=Abn p
noncomputable def Mt(P:Cb)(k:Nat)(env:bJ)(e:D)(M2:Store):R3 D:=match M2[P.nM]? with
 |some (.lst x)=>if x.length<SZ then jd P.aY P.g P.ts P.f P.nM (P.aY.items.drop (k+1)) env (M2.set P.nM (.lst (x++[e])))else .bad|_=>.bad
noncomputable def Uz(P:Cb)(k:Nat)(env:bJ)(b:Bool)(M1:Store):R3 D:=if b then(P.f env M1).bind (Mt P k env)else jd P.aY P.g P.ts P.f P.nM (P.aY.items.drop (k+1)) env M1
end
def cbF(P:Cb)(n:Nat)(xv:Yh)(s:Yk):Prop:=ao (aB P.Y.prog P.Y.w) P.Y.A (call (.builtin "list.append") [.ref P.acc,xv]) (λ_ s'=>Ms P n s') P.Y.xe s
def cbO(P:Cb)(elt:Expr)(n:Nat)(ok:Bool)(s:Yk):Prop:=if ok=true then ao (aB P.Y.prog P.Y.w) P.Y.A (aN elt P.Y.env) (cbF P n) P.Y.xe s else Ms P n s
def cbS(P:Cb)(elt:Expr)(ifs:List Expr)(n:Nat)(s:Yk):Prop:=ao (aB P.Y.prog P.Y.w) P.Y.A (forIn ifs true λc r=>if r=true then do let ok ←isTrue c P.Y.env (aN c P.Y.env);pure (ForInStep.yield ok)else pure (ForInStep.yield r)) (cbO P elt n) P.Y.xe s
def cbA(P:Cb)(tg elt:Expr)(ifs:List Expr)(n:Nat)(u:Yh)(s:Yk):Prop:=ao (aB P.Y.prog P.Y.w) P.Y.A (jF tg P.Y.env u) (λ_=>cbS P elt ifs n) P.Y.xe s
def cbN(P:Cb)(tg elt:Expr)(ifs:List Expr)(it:Y2)(n:Nat)(F:Yk->Prop)(r:Option Yh)(s:Yk):Prop:=match r with
 |none=>F s|some v=>ao (aB P.Y.prog P.Y.w) P.Y.A (FJ tg (.ref it) v) (λ_=>cbA P tg elt ifs n v) P.Y.xe s
variable {P:Cb} {tg elt:Expr} {ifs:List Expr} {J:It} {it:Y2} {k:Nat} {h7:aR} {σ:St} {H H':Hp} {s:Yk} {ι:List Y2} {M M1:Store} {env:bJ}
theorem ZpA(T:Turn P.Y.prog P.Y.w P.Y.K tg J P.fp it P.tn)(lY:P.tn (k+1) h7)(hlt:k<P.aY.items.length)(I':Inv P.Y ([]++uJ P.fp h7) σ H s)(x:Ext P.Y.K P.H2 P.ι2 H ι)(S:aH P.Y.K H ι M)(E:cM P.Y.K H ι env σ)(hι:ι[P.nM]?=Ya P.acc)(h:Zv P.Y.K H ι P.Q (jd P.aY P.g P.ts P.f P.nM (P.aY.items.drop (k+1)) env M)):Ms P (P.aY.items.length-k) s:=⟨P.aY.items.length-(k+1),lD 2 0x30113c2012a1c0c21 T1 (Y8 (lB 1 6991908881 T1 hlt)) (gH _ _),⟨k+1,σ,H,ι,M,env,I'.Fd,T.keep _ _ _ lY λb hb o e=>(I'.pin (b,o) (Y9 _ (Y9 _ (BP hb e)))).1,λb hb=>(T.obj _ _ lY b hb).elim λo e=>(I'.pin (b,o) (Y9 _ (Y9 _ (BP hb e.1)))).2.1,rfl,hlt,x,S,E,hι,h⟩⟩
theorem ZxV:Uz P k env true M=(P.f env M).bind (Mt P k env):=if_pos rfl
theorem ZyB:Uz P k env false M=jd P.aY P.g P.ts P.f P.nM (P.aY.items.drop (k+1)) env M:=if_neg (by decide)
theorem Zv.iff{H:Hp}{ι:List Y2}{Q:VK}{c:Prop}{dc:Decidable c}(h:Zv K H ι Q (if c then r else .bad)):c/\Zv K H ι Q r:=by
 by_cases hc:c
 .rw[if_pos hc]at h;exact⟨hc,h⟩
 .rw[if_neg hc]at h;exact h.elim
theorem ZvY{xv:Yh}(T:Turn P.Y.prog P.Y.w P.Y.K tg J P.fp it P.tn)(lY:P.tn (k+1) h7)(hlt:k<P.aY.items.length)(I':Inv P.Y ([]++uJ P.fp h7) σ H s)(r:RelV v xv)(x:Ext P.Y.K P.H2 P.ι2 H ι)(S:aH P.Y.K H ι M)(E:cM P.Y.K H ι env σ)(rd:Rep P.Y.K H ι d v)(hι:ι[P.nM]?=Ya P.acc)(hm:M[P.nM]?=Ya (.lst xs))(hz:xs.length<SZ)(h:Zv P.Y.K H ι P.Q (jd P.aY P.g P.ts P.f P.nM (P.aY.items.drop (k+1)) env (M.set P.nM (.lst (xs++[d]))))):
  cbF P (P.aY.items.length-k) xv s:=by
 obtain⟨vs,ev,rvs⟩:=S.obj _ _ _ hm hι;obtain⟨x11,UG⟩:=S.vN (.inr (.inl ⟨_,ev⟩)) hι (rvs.append (au.cons rd au.nil));refine aK (Q':=λ_ s'=>Ms P (P.aY.items.length-k) s') (Tz _ s σ H (.ref P.acc) [v] (.ref P.acc) [xv] (λ_ H'=>H'=upd H P.acc (.lst (vs++[v]))) I' rfl (.cons r .nil) ⟨_,vs,v,rfl,rfl,ev,by rw[rvs.length];exact Y7 hz j8,rfl⟩) λ_ Mu ak=>?_;obtain⟨_,H11,Mv,_,eH⟩:=ak;rw[eH]at Mv;exact ZpA T lY hlt Mv (x.trans x11) UG (E.mono x11) (x11.pre _ _ hι) (h.up x11)
theorem Zwz(T:Turn P.Y.prog P.Y.w P.Y.K tg J P.fp it P.tn)(helt:C3 P.Y elt P.f)(lY:P.tn (k+1) h7)(hlt:k<P.aY.items.length)(I':Inv P.Y ([]++uJ P.fp h7) σ H s)(x:Ext P.Y.K P.H2 P.ι2 H ι)(S:aH P.Y.K H ι M)(E:cM P.Y.K H ι env σ)(hι:ι[P.nM]?=Ya P.acc)(h:Zv P.Y.K H ι P.Q ((P.f env M).bind (Mt P k env))):
  ao (aB P.Y.prog P.Y.w) P.Y.A (aN elt P.Y.env) (cbF P (P.aY.items.length-k)) P.Y.xe s:=by
 obtain⟨d,Hx,e10,h10⟩:=Zv.bind h;refine aK (Q':=cbF P (P.aY.items.length-k)) (helt _ s σ H (λv H'=>∃rK,Ext P.Y.K H ι H' rK/\aH P.Y.K H' rK Hx/\Rep P.Y.K H' rK d v) I' ⟨ι,M,env,S,E,by rw[e10];exactλv H' ι' x' S' r'=>⟨ι',x',S',r'⟩⟩) λxv Mw ak=>?_;obtain⟨v,UJ,UL,r10,rK,x10,Mx,rd⟩:=ak;unfold Mt at h10;cases hm:Hx[P.nM]? with
 |none=>rw[hm]at h10;exact h10.elim|some o=>
  rw[hm]at h10;cases o with
  |dct _=>exact h10.elim|cR _=>exact h10.elim|ins _ _=>exact h10.elim|lst xs=>exact ZvY T lY hlt UL r10 (x.trans x10) Mx (E.mono x10) rd (x10.pre _ _ hι) hm (Zv.iff h10).1 ((Zv.iff h10).2.up x10)
theorem ZvK(T:Turn P.Y.prog P.Y.w P.Y.K tg J P.fp it P.tn)(hts:qz P.Y ifs P.ts)(helt:C3 P.Y elt P.f)(lY:P.tn (k+1) h7)(hlt:k<P.aY.items.length)(I':Inv P.Y ([]++uJ P.fp h7) σ H s)(x:Ext P.Y.K P.H2 P.ι2 H ι)(S:aH P.Y.K H ι M)(E:cM P.Y.K H ι env σ)(hι:ι[P.nM]?=Ya P.acc)(h:Zv P.Y.K H ι P.Q ((uQ P.ts env M).bind (Uz P k env))):
  cbS P elt ifs (P.aY.items.length-k) s:=by
 obtain⟨b,M9,e9,h9⟩:=Zv.bind h;refine aK (Q':=cbO P elt (P.aY.items.length-k)) (hts _ s σ H (λb' H'=>b'=b/\∃ι9,Ext P.Y.K H ι H' ι9/\aH P.Y.K H' ι9 M9) I' ⟨ι,M,env,S,E,by rw[e9];exactλH' ι' x' S'=>⟨rfl,ι',x',S'⟩⟩) λb' s9 ak=>?_;obtain⟨H9,I9,eb,ι9,x9,S9⟩:=ak;rw[←eb]at h9;cases b' with
 |false=>exact ZpA T lY hlt I9 (x.trans x9) S9 (E.mono x9) (x9.pre _ _ hι) (Zv.up x9 (ZyB▸h9))|true=>exact Zwz T helt lY hlt I9 (x.trans x9) S9 (E.mono x9) (x9.pre _ _ hι) (Zv.up x9 (ZxV▸h9))
theorem Zye(T:Turn P.Y.prog P.Y.w P.Y.K tg J P.fp it P.tn)(hc:P.Y.calm=true)(hfp:∀{H':Hp},(∀b∈P.fp,H' b=Yl)->∀b∈P.fp,iR P.Y [] H' b)(hg:CG P.Y tg P.g)(hts:qz P.Y ifs P.ts)(helt:C3 P.Y elt P.f)(hlt:k<P.aY.items.length)(I5:Inv P.Y [] σ H s)(mG:P.tn k s.heap)(p_:∀b∈P.fp,H b=Yl)(x:Ext P.Y.K P.H2 P.ι2 H ι)(S:aH P.Y.K H ι M)(E:cM P.Y.K H ι env σ)(hι:ι[P.nM]?=Ya P.acc)(ok:rJ P.Y.K P.H2 P.ι2 P.aY J)(h:Zv P.Y.K H ι P.Q (jd P.aY P.g P.ts P.f P.nM (P.aY.items[k]::P.aY.items.drop (k+1)) env M))(F:Yk->Prop):
  ao (aB P.Y.prog P.Y.w) P.Y.A (ux (.ref it)) (cbN P tg elt ifs it (P.aY.items.length-k) F) P.Y.xe s:=by
 obtain⟨lk,h⟩:=Zv.iff h;obtain⟨go,yl⟩:=(ok k H ι M x S lk).1 _ (Y3 hlt);cases eg:P.g P.aY.items[k] env with
 |none=>rw[eg]at h;exact h.elim|some ud=>rw[eg]at h;refine aK (T.item P.Y rfl rfl rfl hc k [] s σ H P.Y.xe I5 (hfp p_) mG go) λr s6 ak=>?_;obtain⟨u,hr,h6⟩:=ak;rw[hr];refine aK (Q':=λ_=>cbA P tg elt ifs (P.aY.items.length-k) u) h6 λ_ s7 ak=>?_;obtain⟨y,H7,I7,r7,y7,lY,Mz⟩:=ak;obtain⟨e7,rx⟩:=yl y H7 y7;rw[e7]at I7 Mz;refine aK (Q':=λ_=>cbS P elt ifs (P.aY.items.length-k)) (hg _ s7 σ H y u (λσ' H'=>H'=H/\cM P.Y.K H ι ud σ') (I7.pinned (hfp Mz) (T.obj _ _ lY)) r7 ⟨ι,M,env,_,ud,S,E,rx,eg,λσ' E'=>⟨rfl,E'⟩⟩) λ_ s8 ak=>?_;obtain⟨σ8,H8,I8,e8,E8⟩:=ak;rw[e8]at I8;exact ZvK T hts helt lY hlt I8 x S E8 hι h
theorem Zuq(T:Turn P.Y.prog P.Y.w P.Y.K tg J P.fp it P.tn)(hc:P.Y.calm=true)(hfp:∀{H':Hp},(∀b∈P.fp,H' b=Yl)->∀b∈P.fp,iR P.Y [] H' b)(I5:Inv P.Y [] σ H s)(mG:P.tn P.aY.items.length s.heap)(p_:∀b∈P.fp,H b=Yl)(x:Ext P.Y.K P.H2 P.ι2 H ι)(S:aH P.Y.K H ι M)(hι:ι[P.nM]?=Ya P.acc)(ok:rJ P.Y.K P.H2 P.ι2 P.aY J)(h:Zv P.Y.K H ι P.Q (jd P.aY P.g P.ts P.f P.nM [] env M)){F:Yk->Prop}(hF:∀s6,Inv P.Y [] σ H s6->P.Q (.ref P.acc) H->F s6):
  ao (aB P.Y.prog P.Y.w) P.Y.A (ux (.ref it)) (cbN P tg elt ifs it n F) P.Y.xe s:=by
 obtain⟨lk,h⟩:=Zv.iff h;refine aK (T.done P.Y rfl rfl rfl hc _ [] s σ H P.Y.xe I5 (hfp p_) mG ((ok _ H ι M x S lk).2 rfl)) λr s6 ak=>?_;rw[ak.1];exact hF s6 ak.2 (h _ H ι Ext.refl S (Rep.ref hι))
end
variable{E:Yh->Yk->Prop}{s:Yk}{pins:List (Y2×aO)}{it:Y2}{fp:List Y2}
section
variable {X:Cx} {elt tg iter:Expr} {ifs:List Expr} {scope:Scope} {pos:aU} {i:I3} {own:Nat} {g:G3} {ts:List E3} {f:E3} {N':List aj}
structure wZ(X:Cx)(scope:Scope)(N':List aj)(own:Nat):Prop where
 kind:scope.kind= .function
 cell:∀y∈scope.names,y.2≠ .cell
 free:∀y∈scope.names,y.2= .free->X.env.kindOf y.1=Ya .cell\/X.env.kindOf y.1=Ya .free
 names:∀y∈scope.names,y.2= .local->scope.names.lookup y.1=Ya .local
 len:N'.length=X.N.length+own
 vis:Uw X.N N' scope=true
theorem Zt0{P:Cb}{J:It}{F:Yk->Prop}(T:Turn P.Y.prog P.Y.w P.Y.K tg J P.fp it P.tn)(hc:P.Y.calm=true)(hfp:∀{H':Hp},(∀b∈P.fp,H' b=Yl)->∀b∈P.fp,iR P.Y [] H' b)(hb:CG P.Y tg P.g/\qz P.Y ifs P.ts/\C3 P.Y elt P.f)(ok:rJ P.Y.K P.H2 P.ι2 P.aY J)(z:Uy P n s)(fin:∀σ H s',Inv P.Y [] σ H s'->P.Q (.ref P.acc) H->F s'):ao (aB P.Y.prog P.Y.w) P.Y.A (ux (.ref it)) (cbN P tg elt ifs it n F) P.Y.xe s:=by
 obtain⟨k,σ5,H5,ι5,M5,uc,I5,mG,p_,hn,hk,x5,S5,E5,hι,h5⟩:=z;by_cases hlt:k<P.aY.items.length
 .rw[Ao hlt]at h5;exact hn▸Zye T hc hfp hb.1 hb.2.1 hb.2.2 hlt I5 mG p_ x5 S5 E5 hι ok h5 _
 .rw[Y0 hk (j5 hlt)]at mG h5;rw[QC]at h5;exact Zuq T hc hfp I5 mG p_ x5 S5 hι ok h5 λs6 I6 q=>fin σ5 H5 s6 I6 q
theorem Znj{s3:Yk}{H2 H3:Hp}{ι2 ι3:List Y2}{M3:Store}{nM:Nat}{D:Y2}{tn:Nat->aR->Prop}{J:It}{aY:fZ}{Q:VK}(O:wZ X scope N' own)(hc:X.calm=true)(hb:∀C cl s H ex,CG (fM X scope N' C cl s H ex) tg g/\qz (fM X scope N' C cl s H ex) ifs ts/\C3 (fM X scope N' C cl s H ex) elt f)(T:Turn X.prog X.w X.K tg J fp it tn)(st3:tn 0 s3.heap)(vO:∀b∈fp,b<s3.heap.objs.size)(I3:Inv X pins σ H3 s3)(nH:∀b∈fp,iR X pins H3 b)(x3:Ext X.K H2 ι2 H3 ι3)(S3:aH X.K H3 ι3 M3)(E2:cM X.K H3 ι3 env σ)(ok:rJ X.K H2 ι2 aY J)(h:Zv X.K H3 ι3 Q (jd aY g ts f nM aY.items (env++Yr own Yl) M3))(hι:ι3[nM]?=Ya D)(RR:Yh->Y2->uy->Yk->Prop)(fin:∀(acc C:Y2) (s':Yk) (m:aj->Option Yh) (H':Hp),s'.heap.Ns C m->iR X pins H' C->Inv X pins σ H' s'->Q (.ref acc) H'->RR (.ref acc) C (.ok .next) s'):
  ao (aB X.prog X.w) X.A (QW scope X.env.globals (gM X.env.cells scope.names []) [] X.env.qual Yl .none (Ya X.env)) (λcenv s₄=>nR (aB X.prog X.w) X.A (.compStart (.ListComp elt [⟨tg,iter,ifs,0⟩] scope pos) 0 (.ref it) (.ref D) {cenv with scope:=v8 scope X.env}) (RR (.ref D) cenv.locals) s₄) E s3:=by
 refine Z4 O.cell (by intro y hy;cases hy) (λh4 hns hsb=>?_) O.kind;have Ff:∀b o,s3.heap.get? b=Ya o->h4.get? b=Ya o:=λb o e=>hsb.extBut b o (dR (Y6 e)) (Yn _ e);have I4:=Zmx (own:=own) (N':=N') (tk:=s3.toks+([]:List (aj×Yh)).length) I3 O.kind O.cell O.free O.len O.vis nH vO hns Ff;have Hy:tn 0 h4:=T.keep _ _ _ st3 λb hb o e=>Ff b o e;have L:=Zia (prog:=X.prog) (w:=X.w) (A:=X.A) (R:=RR (.ref D) s3.heap.objs.size) (scope:=scope) (pos:=pos) (iter:=iter) (elt:=elt) (target:=tg) (ifs:=ifs) (env:=FW scope (gM X.env.cells scope.names []) s3.heap.objs.size X.env) (Uy ⟨fM X scope N' s3.heap.objs.size (gM X.env.cells scope.names []) s3 H3 fp,fp,tn,aY,H2,ι2,Q,g,ts,f,nM,D⟩) (λn s5 z=>Zt0 (P:=⟨fM X scope N' s3.heap.objs.size (gM X.env.cells scope.names []) s3 H3 fp,fp,tn,aY,H2,ι2,Q,g,ts,f,nM,D⟩) T hc
  (λhn b hb=>⟨hn b hb,dR (vO b hb),λhz=>I4.ok.Ag b hb hz,.inl hb,λx c hx=>(I4.ok.K7 b hb).2 x c hx,λp hp=>absurd (show p∈([]:List (Y2×aO))from hp) (by simp)⟩)
  (hb _ _ _ _ _) ok z
  λσ' H' s6 I6 q=>I6.loc.elim λm6 UT=>fin _ _ s6 m6 H' UT.1 (I3.vL (Yt _) I6.free) (I3.call' (ch:=fp) I6.os I6.base I6.hok I6.bare λb hb=>⟨(nH b hb).2.2.2.1,(nH b hb).2.1,(nH b hb).2.2.2.2.1,(nH b hb).2.2.2.2.2⟩) q) _
  ⟨0,_,_,_,_,_,I4,Hy,λb hb=>(nH b hb).1,rfl,eZ _,x3,S3,E2.grow own,hι,h⟩
 exact Z0 L (T.self _ 0 _ _ _ Hy L)
theorem ZjK{s2:Yk}{H2:Hp}{ι2:List Y2}{M2:Store}{tn:Nat->aR->Prop}{J:It}{aY:fZ}{Q:VK}(O:wZ X scope N' own)(hc:X.calm=true)(hb:∀C cl s H ex,CG (fM X scope N' C cl s H ex) tg g/\qz (fM X scope N' C cl s H ex) ifs ts/\C3 (fM X scope N' C cl s H ex) elt f)(I2:Inv X pins σ H2 s2)(T:Turn X.prog X.w X.K tg J fp it tn)(st0:tn 0 s2.heap)(hfp:∀b∈fp,iR X pins H2 b)(S2:aH X.K H2 ι2 M2)(E2:cM X.K H2 ι2 env σ)(ok:rJ X.K H2 ι2 aY J)(h:Zv X.K H2 ι2 Q (jd aY g ts f M2.length aY.items (env++Yr own Yl) (M2++[.lst []])))(RR:Yh->Y2->uy->Yk->Prop)(fin:∀(acc C:Y2) (s':Yk) (m:aj->Option Yh) (H':Hp),s'.heap.Ns C m->iR X pins H' C->Inv X pins σ H' s'->Q (.ref acc) H'->RR (.ref acc) C (.ok .next) s'):
  ao (aB X.prog X.w) X.A (J4 []) (λacc s₃=>ao (aB X.prog X.w) X.A (QW scope X.env.globals (gM X.env.cells scope.names []) [] X.env.qual Yl .none (Ya X.env)) (λcenv s₄=>nR (aB X.prog X.w) X.A (.compStart (.ListComp elt [⟨tg,iter,ifs,0⟩] scope pos) 0 (.ref it) acc {cenv with scope:=v8 scope X.env}) (RR acc cenv.locals) s₄) E s₃) E s2:=by
 refine uv ?_;have hD:H2 s2.heap.objs.size=Yl:=I2.hok.fresh (Yt _);obtain⟨x3,S3,r3⟩:=S2.lst hD (au.nil (K:=X.K) (H:=H2) (ι:=ι2));have I3:Inv X pins σ (upd H2 s2.heap.objs.size (.lst [])) {s2 with heap:=s2.heap.push {cls:=.type "list",data:=.seq ([]:List Yh).toArray}}:=I2.laid (t':=s2.toks) (λb u e=>Yn _ e) (Yt _) ⟨eZ _,[],0,.nil,Y4 _ rfl⟩;have xV:∀b o,s2.heap.get? b=Ya o->(s2.heap.push {cls:=.type "list",data:=.seq ([]:List Yh).toArray}).get? b=Ya o:=λb o e=>Yn _ e;generalize hs3:({s2 with heap:=s2.heap.push {cls:=.type "list",data:=.seq ([]:List Yh).toArray}}:Yk)=s3 at I3 ⊢;have xV:∀b o,s2.heap.get? b=Ya o->s3.heap.get? b=Ya o:=by rw[←hs3];exact xV
 have lt2:∀b∈fp,b<s2.heap.objs.size:=λb hb=>(T.obj _ _ st0 b hb).elim λo e=>Y6 e.1;have vO:∀b∈fp,b<s3.heap.objs.size:=λb hb=>(T.obj _ _ st0 b hb).elim λo e=>Y6 (xV b o e.1);exact Znj O hc hb (T:=T) (st3:=T.keep _ _ _ st0 λb hb o e=>xV b o e) (vO:=vO) (I3:=I3) (nH:=λb hb=>⟨(gq (dR (lt2 b hb))).trans (hfp b hb).1,(hfp b hb).2⟩) (x3:=x3) (S3:=S3) (E2:=E2.mono x3) (ok:=ok) (h:=h.up x3) (hι:=by rw[←S2.len];simp) RR fin
theorem pG(O:wZ X scope N' own)(zc:X.xe=λ_ _=>False)(hc:X.calm=true)(hi:CI X tg iter i)(hb:∀C cl s H ex,CG (fM X scope N' C cl s H ex) tg g/\qz (fM X scope N' C cl s H ex) ifs ts/\C3 (fM X scope N' C cl s H ex) elt f)(hs:∀x,A_ iter X.env x=pure x:=by intro _;rfl):C3 X (.ListComp elt [⟨tg,iter,ifs,0⟩] scope pos) (fU i own g ts f):=by intro pins s σ H Q I h;obtain⟨ι,M,env,S,E,h⟩:=h;obtain⟨aY,M1,e1,h⟩:=Zv.bind h;have hc0:∀y∈scope.names,y.2= .free->∃c,X.env.cells.lookup y.1=Ya c:=λy hy e=>I.ok.has y.1 (O.free y hy e);rw[eval_ListComp];refine JM (use:=Yl) rfl hs (Mr hc0) O.kind O.names ?_;refine aK (hi pins s σ H (λJ H'=>∃ι',Ext X.K H ι H' ι'/\aH X.K H' ι' M1/\rJ X.K H' ι' aY J) I ⟨ι,M,env,S,E,by rw[e1];exactλJ H' ι' x S' o=>⟨ι',x,S',o⟩⟩) λv s1 h1=>aK h1 λitv s2 h2=>?_;obtain⟨it,fp,tn,J,H2,rfl,I2,T,st2,f2,ι2,x2,S2,ok⟩:=h2;refine ZjK (own:=own) (g:=g) (ts:=ts) (f:=f) O hc hb I2 T st2 f2 S2 (E.mono x2) ok (h.up x2) (λacc C=>JX (aB X.prog X.w) X.A X.xe Yl (EP X pins σ Q) acc C) ?_;intro acc C s' m H' hn hf I' hq;obtain⟨f0,f1,UV,f3,f4,f5⟩:=hf;exact⟨m,hn,λh' sb=>⟨.ref acc,H',I'.turned (t':=s'.toks) (λb o hb e=>(sb.2 b hb).trans e) f0 f1 f3 f4 f5,rfl,hq⟩⟩
theorem ZqS(j:Nat){pos' spos:aU}(O:wZ X scope N' own)(zc:X.xe=λ_ _=>False)(hc:X.calm=true)(hN:X.N.Nodup)(hi:CI X tg iter i)(hb:∀C cl s H ex,CG (fM X scope N' C cl s H ex) tg g/\qz (fM X scope N' C cl s H ex) ifs ts/\C3 (fM X scope N' C cl s H ex) elt f)(hj:X.N[j]?=Ya x:=by rfl)(hx:Loc X.env.scope x:=by first|exact Or.inl rfl|exact Or.inr rfl)(hf:X.fn x=true\/X.env.scope.names.lookup x=Ya .local:=by first|exact .inl rfl|exact .inr rfl)(hsw:v5 (.ListComp elt [⟨tg,iter,ifs,0⟩] scope pos) (Ya (.Name x pos')) spos.line X.env=pure true:=by rfl)(hs:∀x,A_ iter X.env x=pure x:=by intro _;rfl):CS X (.Assign [.Name x pos'] (.ListComp elt [⟨tg,iter,ifs,0⟩] scope pos) spos) (aA j (fU i own g ts f)):=by
 intro pins s σ H D I h;obtain⟨ι,M,env,S,E,h⟩:=h;have h0:Zv X.K H ι (λv H'=>D.nx (σ.set j (Ya v)) H') (fU i own g ts f env M):=by
  unfold aA at h;cases q:fU i own g ts f env M with
  |ok d M1=>rw[q]at h;exactλv H1 ι1 x1 S1 r1=>h _ H1 ι1 x1 S1 ((E.mono x1).set j r1)|exc _ _=>rw[q]at h;exact h.elim|bad=>rw[q]at h;exact h.elim
 obtain⟨aY,M1,e1,h1⟩:=Zv.bind h0;have hc0:∀y∈scope.names,y.2= .free->∃c,X.env.cells.lookup y.1=Ya c:=λy hy e=>I.ok.has y.1 (O.free y hy e);rw[Z2 _ _ _ _ hsw];refine Yg (vZ (Yg ?_));show ao _ X.A (do let _ ←comprehension (.ListComp elt [⟨tg,iter,ifs,0⟩] scope pos) scope X.env _ (J4 []) false (aN iter X.env) (Ya (jF (.Name x pos') X.env))) _ _ s;refine Yg (j4 (JM (use:=Ya (jF (.Name x pos') X.env)) (Q:=λ_ s'=>SP X pins D .next s') rfl hs (Mr hc0) O.kind O.names ?_) (λ_ s' hq=>Yv (Yv hq)) λ_ _ e=>e);refine aK (hi pins s σ H (λJ H'=>∃ι',Ext X.K H ι H' ι'/\aH X.K H' ι' M1/\rJ X.K H' ι' aY J) I ⟨ι,M,env,S,E,by rw[e1];exactλJ H' ι' x S' o=>⟨ι',x,S',o⟩⟩) λv s1 h1'=>aK h1' λitv s2 h2=>?_;obtain⟨it,fp,tn,J,H2,rfl,I2,T,st2,f2,ι2,x2,S2,ok⟩:=h2;refine ZjK (own:=own) (g:=g) (ts:=ts) (f:=f) O hc hb I2 T st2 f2 S2 (E.mono x2) ok (h1.up x2) (λacc C=>JX (aB X.prog X.w) X.A X.xe (Ya (jF (.Name x pos') X.env)) (λ_ s'=>SP X pins D .next s') acc C) ?_;intro acc C s' m H' hn UW I' hq;obtain⟨f0,f1,UV,f3,f4,f5⟩:=UW;show ao _ X.A (jF (.Name x pos') X.env (.ref acc)) _ _ s';refine QQ (SQ I' hN hj hx (show RelV (.ref acc) (.ref acc)from rfl) (λs'' U0 ⟨a,sb,ha⟩=>?_) hf);have U3:C≠a:=by
  rcases ha with rfl|ha
  .exact f1
  .exact dg (f4 x a ha)
 exact⟨m,hn.sameBut sb U3,λh' U4=>⟨_,H',U0.turned (t':=s''.toks) (λb o hb e=>(U4.2 b hb).trans e) f0 f1 f3 f4 f5,hq⟩⟩
end
theorem dY{k:Nat}(r:dU k A):A.units+80<jG:=by have:=r.un;exact lC 1 0x2502b0c12c82b110d0cc11 T1 this
noncomputable def Its(x:aj):It:=⟨λi _=>i<x.cps.size,λi H y H'=>H'=H/\∃c,x.cps[i]?=Ya c/\y= .str ⟨#[c]⟩,λi _=>i=x.cps.size⟩
variable{w:bh}
theorem ZqX{P:Yae}{tg:Expr}{t:gn}{ty:String}(W:∀A':bU,A'.handled=Yl->Walks P w A' it [it] [it] x.cps.size (SignAt x) (λi h=>h.IsStrIter it ty x t i))(hs:∀(A:bU) (i:Nat) (s:Yk) (Q:Yh->Yk->Prop) (E:Yh->Yk->Prop),s.heap.IsStrIter it ty x t i->Q (.ref it) s->ao (aB P w) A (Bf (.ref it)) Q E s)(hty:["enumerate","zip","dict_itemiterator","dict_reverseitemiterator","odict_iterator","itertools.zip_longest","itertools.pairwise"].contains ty=false):Turn P w K tg (Its x) [it] it (λi h=>h.IsStrIter it ty x t i)where
 mem:=by simp
 obj:=λi h st b hb=>by
  have e:b=it:=by simpa using hb
  subst e;obtain⟨o,e,c,d⟩:=st;exact⟨o,e,λv z=>by rw[d]at z;cases z⟩
 keep:=λi h h' st k=>let⟨o,e,r⟩:=st;⟨o,k it (by simp) o e,r⟩
 item:=by intro X hP hw hK hc i pins s σ H E I hf st hg;subst hP hw hK;obtain⟨f0,f1,f2,f3,f4,f5⟩:=hf it (by simp);refine(W X.A (I.ok.hd hc)).item i s _ _ hg st λv h' tk hv st' kk=>?_;obtain⟨c,u,hx,rfl⟩:=hv;have I1:Inv X pins σ H {s with heap:=h',toks:=tk}:=I.turned (λb o hb e=>kk b o (by simpa using hb) e) f0 f1 f3 f4 f5;obtain⟨o,e,cc,d⟩:=id st';exact⟨_,rfl,La (s:={s with heap:=h',toks:=tk}) e cc d hty ⟨.str ⟨#[c]⟩,H,I1,⟨u,rfl⟩,⟨rfl,c,hx,rfl⟩,st',λb hb=>(hf b hb).1⟩⟩
 done:=by intro X hP hw hK hc i pins s σ H E I hf st hg;subst hP hw hK;obtain⟨f0,f1,f2,f3,f4,f5⟩:=hf it (by simp);have e:i=x.cps.size:=hg;subst e;exact(W X.A (I.ok.hd hc)).done s _ _ st λh' tk kk=>⟨rfl,I.turned (λb o hb e=>kk b o (by simpa using hb) e) f0 f1 f3 f4 f5⟩
 self:=hs
section
variable {X:Cx} {tg e o:Expr} {es:List Expr} {pos p apos cpos:aU} {f:E3} {gl:d_}
theorem ZwI(h:C3 X e f):PI X tg e (λσ H R=>ni X.K f σ H λx H1=>∃z:aj,x= .str z/\z.length<=SZ/\∀J,(∀ι,rJ X.K H1 ι ⟨z.cps.toList.map λc=>.str [c],Yl⟩ J)->R J H1):=by
 intro pins s σ H R I hw;refine aK (h pins s σ H _ I hw) λv s1 ak=>?_;obtain⟨x,H1,I1,r1,z,ex,hz,q⟩:=ak;subst ex;obtain⟨t,rfl⟩:=r1;have key:∀(ty:String) (o:aO),(∀A':bU,A'.handled=Yl->Walks X.prog X.w A' s1.heap.objs.size [s1.heap.objs.size] [s1.heap.objs.size] z.cps.size (SignAt z) (λi h=>h.IsStrIter s1.heap.objs.size ty z t i)) ->
   (∀(A:bU) (i:Nat) (s:Yk) (Q:Yh->Yk->Prop) (E:Yh->Yk->Prop),s.heap.IsStrIter s1.heap.objs.size ty z t i->Q (.ref s1.heap.objs.size) s->ao (aB X.prog X.w) A (Bf (.ref s1.heap.objs.size)) Q E s) ->
   ["enumerate","zip","dict_itemiterator","dict_reverseitemiterator","odict_iterator","itertools.zip_longest","itertools.pairwise"].contains ty=false->(s1.heap.push o).IsStrIter s1.heap.objs.size ty z t 0 ->
   PIE X pins σ tg R (.ref s1.heap.objs.size) {s1 with heap:=s1.heap.push o}:=by
  intro ty o W hs hty st;refine⟨s1.heap.objs.size,[s1.heap.objs.size],_,_,H1,rfl,I1.kept (t':=s1.toks) λb o e=>Yn _ e,ZqX W hs hty,st,λb hb=>?_,q _ λι=>?_⟩
  .have e:b=s1.heap.objs.size:=by simpa using hb
   subst e;exact I1.vL (Yt _) (I1.hok.fresh (Yt _))
  .intro i H2 ι2 M2 x S _;refine⟨λd hd=>?_,λhl=>?_⟩
   .rw[lH]at hd;cases hq:z.cps.toList[i]? with
    |none=>rw[hq]at hd;cases hd|some c=>
     rw[hq]at hd;have hd':D.str [c]=d:=by simpa using hd
     subst hd';have hi:i<z.cps.size:=by have:=(Yf.mp hq).1;simpa using this
     refine⟨hi,λy H3 hy=>⟨hy.1,?_⟩⟩;obtain⟨_,c',hc',rfl⟩:=hy;have:c'=c:=by rw[←R5,hq]at hc';exact(Y1 hc').symm
     subst this;exact Rep.str
   .show i=z.cps.size;rw[hl];simp
 cases ha:z.cps.all (· <128)
 .exact wpAny_pyIter_wide ha (key "str_iterator" _ (λA' hA=>Walks.strWide hA _ z t) (λ_ _ _ _ _ st h=>wpAny_pyIter_striter_wide st h) (by decide) ⟨_,Y4 _ rfl,rfl,rfl⟩)
 .exact wpAny_pyIter_ascii ha (key "str_ascii_iterator" _ (λA' hA=>Walks.strAscii hA _ z t) (λ_ _ _ _ _ st h=>wpAny_pyIter_striter_ascii st h) (by decide) ⟨_,Y4 _ rfl,rfl,rfl⟩)
theorem jr(h:C3 X e f):CI X tg e (bW f):=ZwQ h (ZwI h)
theorem CN{T:String}{ty:D->Store->Bool}{m:D->List D->Store->R3 D}(hty:∀H ι M a x,aH K H ι M->Rep K H ι a x->ty a M=true->yK K T x H)(σ:St)(H:Hp)(Q:VK)(h:ni K (aG ty m f gl) σ H Q):tBM K T (rM K m) (ni K f) (Ul K gl) σ H Q:=by
 obtain⟨ι,M,env,S,E,h⟩:=h;obtain⟨a,M1,e1,h⟩:=Zv.bind h;refine⟨ι,M,env,S,E,?_⟩;rw[e1];intro v H1 ι1 x1 S1 r1;by_cases ht:ty a M1=true
 .rw[if_pos ht]at h;obtain⟨ds,M2,e2,h⟩:=Zv.bind h;refine⟨hty _ _ _ _ _ S1 r1 ht,ι1,M1,env,S1,E.mono x1,?_⟩;rw[e2];intro vs H2 ι2 x2 S2 r2;exact⟨ι2,M2,a,ds,S2,r1.mono x2,r2,(h.up x1).up x2⟩
 .rw[if_neg ht]at h;exact h.elim
theorem MF(H:Hp)(ι:List Y2)(M:Store)(a:D)(x:V)(_:aH K H ι M)(r:Rep K H ι a x)(h:fL a M=true):yK K "str" x H:=by
 cases a with
 |str z=>rw[r.str_inv];rfl|_=>exact ft h
theorem U5(H:Hp)(ι:List Y2)(M:Store)(a:D)(x:V)(S:aH K H ι M)(r:Rep K H ι a x)(h:bx a M=true):yK K "list" x H:=by
 cases a with
 | ref n=>
  rw[yU]at h;cases hn:M[n]? with
  |none=>rw[hn]at h;exact ft h|some o=>
   cases o with
   |dct _=>rw[hn]at h;exact ft h|cR _=>rw[hn]at h;exact ft h|ins _ _=>rw[hn]at h;exact ft h|lst xs=>obtain⟨p,hp,rfl⟩:=r.dM;obtain⟨vs,e,_⟩:=S.obj n _ p hn hp;exact .inl ⟨rfl,vs,bL.of e⟩
 |_=>exact ft h
theorem _root_.L2.kO.imp{id:String}{r r':V->List V->Hp->VK->Prop}(h:kO X id r)(i:∀x xs H Q,r' x xs H Q->r x xs H Q):kO X id r':=λpins s σ H x xs v us Q I rx rs q=>h pins s σ H x xs v us Q I rx rs (i x xs H Q q)
theorem Zsb:kO X "list.append" (rM X.K cg):=kO.imp (r:=Zpj) Tz λx xs H Q ak=>by
 obtain⟨ι,M,a,ds,S,ra,rd,h⟩:=ak;cases a with
 | ref n=>
  cases ds with
  |nil=>exact h.elim|cons d ds=>
   cases ds with
   |cons _ _=>exact h.elim|nil=>
    simp only[T_]at h;cases hn:M[n]? with
    |none=>simp only[hn]at h;exact h.elim|some o=>
     cases o with
     |dct _=>simp only[hn]at h;exact h.elim|cR _=>simp only[hn]at h;exact h.elim|ins _ _=>simp only[hn]at h;exact h.elim|lst z=>
      simp only[hn]at h;split at h
      .rename_i hz;obtain⟨p,hp,rfl⟩:=ra.dM;obtain⟨v,ws,rfl,r1,r2⟩:=rd.cons_inv;have:=r2.nil_inv;subst this;obtain⟨vs,e,rv⟩:=S.obj n _ p hn hp;obtain⟨x2,S2⟩:=S.vN (.inr (.inl ⟨_,e⟩)) hp (rv.append (au.cons r1 au.nil));exact⟨p,vs,v,rfl,rfl,e,by rw[rv.length];exact Y7 hz j8,h _ _ _ x2 S2 Rep.non⟩
      .exact h.elim
 |_=>exact h.elim
theorem jU(ho:C3 X o f)(ha:CA X (e::es) gl)(hbase:nQ o "append" X.env (aN o X.env)=aN o X.env:=by rfl)(hfew:((cL cpos (Yy (e::es) X.env)).all (λx=>!x.1)&&(jb cpos (iZ [] X.env)).all (λx=>x.1.isSome)
   &&decide ((e::es).length+([]:List Keyword).length+(if([]:List Keyword).isEmpty then 0 else 1)<30))=true:=by rfl)(hline:(apos.endLine==cpos.line)=true:=by rfl)(hs:Yy (e::es) X.env=(false,aN e X.env)::Yy es X.env:=by rfl)(hplain:(cL cpos (Yy es X.env)).any (·.1)=false:=by rfl):
  C3 X (.Call (.Attribute o "append" apos) (e::es) [] cpos) (aG bx cg f gl):=
 (BZ RM PySem.F.slot_list_append PySem.F.type_list_append Zsb ho ha hbase hfew hline hs hplain).imp (CN U5)
theorem Zub(x y:List Nat):Yml (⟨x.toArray⟩:aj) ⟨y.toArray⟩=y.isPrefixOf x:=by
 unfold Yml Builtin.Str.subAt;simp only[mF,Yq,wz];rw[Ro];simp only[Y5,decide_eq_true_eq,beq_iff_eq,List.isPrefixOf_iff_prefix];constructor
 .rintro⟨_,h⟩;have h':=congrArg Bv h;simp at h';rw[YW];exact h'.symm
 .intro h;refine⟨h.length_le,?_⟩;rw[YW]at h;apply Array.toList_inj.mp;simp;exact h.symm
theorem m_startswith:kO X "str.startswith" (rM X.K tG):=by
 intro pins s σ H x xs v us Q I rx rs h;obtain⟨ι,M,a,ds,S,ra,rd,h⟩:=h;cases a with
 | str z=>
  cases ds with
  |nil=>exact h.elim|cons d ds=>
   cases ds with
   |cons _ _=>cases d<;>exact h.elim|nil=>
    cases d with
    | str y=>
     simp only[G6]at h;split at h
     .have:=ra.str_inv;subst this;obtain⟨w',ws,rfl,r1,r2⟩:=rd.cons_inv;have:=r2.nil_inv;subst this;have:=r1.str_inv;subst this;obtain⟨t,rfl⟩:=rx;obtain⟨u,rfl,ru⟩:=vals1 rs;obtain⟨t',rfl⟩:=ru;refine SC.startswith ?_;rw[Zub];exact⟨.bl _,H,I,rfl,Zv.ok h S Rep.bl⟩
     .exact h.elim
    |_=>exact h.elim
 |_=>exact h.elim
theorem Zfb(ho:C3 X o f)(ha:CA X (e::es) gl)(hbase:nQ o "startswith" X.env (aN o X.env)=aN o X.env:=by rfl)(hfew:((cL cpos (Yy (e::es) X.env)).all (λx=>!x.1)&&(jb cpos (iZ [] X.env)).all (λx=>x.1.isSome)
   &&decide ((e::es).length+([]:List Keyword).length+(if([]:List Keyword).isEmpty then 0 else 1)<30))=true:=by rfl)(hline:(apos.endLine==cpos.line)=true:=by rfl)(hs:Yy (e::es) X.env=(false,aN e X.env)::Yy es X.env:=by rfl)(hplain:(cL cpos (Yy es X.env)).any (·.1)=false:=by rfl):
  C3 X (.Call (.Attribute o "startswith" apos) (e::es) [] cpos) (aG fL tG f gl):=
 (BZ Ko PySem.F.slot_str_startswith PySem.F.type_str_startswith m_startswith ho ha hbase hfew hline hs hplain).imp (CN MF)
theorem Zx0:aP X (dO .In) (r2 X.K λa b M=>match a,b with| .str [c],.str y=>.ok (.bl (decide (c∈y))) M|_,_=>.bad):=aP.imp Zp0 λx y H Q ak=>by
 obtain⟨ι,M,a,b,S,ra,rb,h⟩:=ak;cases a with
 | str z=>
  cases z with
  |nil=>cases b<;>exact h.elim|cons c z=>
   cases z with
   |cons _ _=>cases b<;>exact h.elim|nil=>
    cases b with
    |str y=>refine⟨_,_,ra.str_inv,rb.str_inv,?_⟩;have e:=Ykw (⟨y.toArray⟩:aj) c;rw[show(⟨[c].toArray⟩:aj)=⟨#[c]⟩from rfl,e];exact Zv.ok h S Rep.bl|_=>exact h.elim
 |_=>cases b<;>exact h.elim
end
variable{prog:Yae}{Q:Yh->Yk->Prop}{items:Array Yh}
section
variable {X:Cx}
theorem w5(hu:X.A.units+80<jG):aP X (dO .NotEq) (r2 X.K fJ):=by
 intro pins s σ H x y v u Q I rx ry h;obtain⟨ι,M,a,b,S,ra,rb,h⟩:=h;unfold fJ at h;cases q:q9 a b M with
 |none=>rw[q]at h;exact h.elim|some k=>rw[q]at h;exact(Ut hu I S ra rb rx ry q).2 X.prog X.w X.xe _ ⟨.bl (!k),H,I,rfl,Zv.ok h S Rep.bl⟩
theorem ZmT(r:Rep K H ι d v)(h:cF d=true):tu v=true:=by
 cases d with
 |non=>rw[r.jA];rfl|bl b=>rw[r.gP];rfl|int i=>rw[r.int_inv];rfl|str x=>rw[r.str_inv];rfl
 |_=>exact ft h
theorem ZtE(x y:List Nat):((⟨x.toArray⟩:aj)==⟨y.toArray⟩)=(x==y):=by rw[Ro];simp
theorem Zut{e:D}{w:V}(r:Rep K H ι d v)(q:Rep K H ι e w)(h:cF d=true)(h':cF e=true):uN v w=cY d e:=by
 cases d with
 |non=>rw[r.jA];cases e with
  |non=>rw[q.jA];rfl|bl _=>rw[q.gP];rfl|int _=>rw[q.int_inv];rfl|str _=>rw[q.str_inv];rfl
  |_=>exact ft h'
 |bl _=>rw[r.gP];cases e with
  |non=>rw[q.jA];rfl|bl _=>rw[q.gP];rfl|int _=>rw[q.int_inv];rfl|str _=>rw[q.str_inv];rfl
  |_=>exact ft h'
 |int _=>rw[r.int_inv];cases e with
  |non=>rw[q.jA];rfl|bl _=>rw[q.gP];rfl|int _=>rw[q.int_inv];rfl|str _=>rw[q.str_inv];rfl
  |_=>exact ft h'
 |str _=>rw[r.str_inv];cases e with
  |non=>rw[q.jA];rfl|bl _=>rw[q.gP];rfl|int _=>rw[q.int_inv];rfl|str _=>rw[q.str_inv];exact ZtE _ _
  |_=>exact ft h'
 |_=>exact ft h
theorem Zpv{K:Yb}{H:Hp}{ι:List Y2}{d:D}{v:V}(r:Rep K H ι d v)(h:cF d=true):∀{ds:List D} {vs:List V},au K H ι ds vs->ds.all cF=true->vs.all tu=true/\inV v vs=ds.any λy=>cY y d
 |[],_,q,_=>by rw[q.nil_inv];exact⟨rfl,rfl⟩|e::ds,_,q,hd=>by obtain⟨w,ws,rfl,r1,r2⟩:=q.cons_inv;rw[kj,Y5]at hd;obtain⟨h1,h2⟩:=Zpv r h r2 hd.2;refine⟨by rw[kj,ZmT r1 hd.1,h1];rfl,?_⟩;unfold inV at h2 ⊢;rw[lK,lK,h2,Zut r1 r hd.1 h]
inductive InK(a b:D)(k:Bool):Prop
 |tup (ys:List D):b= .tup ys->(ys.any λy=>cY y a)=k->cF a=true->ys.all cF=true->InK a b k
 |str (c:Nat) (y:List Nat):a= .str [c]->b= .str y->decide (c∈y)=k->InK a b k
theorem inK{a b:D}{k:Bool}(h:inD a b=Ya k):InK a b k:=by
 cases b with
 |tup ys=>exact have w:=Us h;.tup ys rfl w.1 w.2.1 w.2.2|str y=>
  cases a with
  | str z=>cases z with
   |nil=>exact jl h|cons c z=>cases z with
    |nil=>exact .str c y rfl rfl (Y1 h)|cons _ _=>exact jl h
  |_=>exact jl h
 |_=>exact jl h
theorem Zrj{Q:VK}{a:D}{ys:List D}{x y:V}(n:Bool)(ra:Rep K H ι a x)(rb:Rep K H ι (.tup ys) y)(fa:cF a=true)(fs:ys.all cF=true)(q:Q (.bl (if n then !(ys.any λy=>cY y a)else ys.any λy=>cY y a)) H):Tv K n x y H Q:=by obtain⟨p,vs,e,s,r⟩:=rb.jg;obtain⟨h1,h2⟩:=Zpv ra fa r fs;exact⟨p,vs,e,.inr s,ZmT ra fa,h1,by rw[h2];exact q⟩
theorem U6(hu:X.A.units+80<jG):aP X (dO .In) (r2 X.K mU):=aP.imp (aP.or Zx0 Zqn) λx y H Q ak=>by
 obtain⟨ι,M,a,b,S,ra,rb,h⟩:=ak;unfold mU at h;cases q:inD a b with
 |none=>rw[q]at h;exact h.elim|some k=>
  rw[q]at h;rcases inK q with⟨ys,eb,ek,fa,fs⟩|⟨c,z,ea,eb,ek⟩
  .rw[eb]at rb;rw[←ek]at h;exact .inr (Zrj false ra rb fa fs (Zv.ok h S Rep.bl))
  .rw[ea]at ra;rw[eb]at rb;rw[←ek]at h;exact .inl ⟨ι,M,_,_,S,ra,rb,h⟩
theorem ZsL:aP X (dO .NotIn) (r2 X.K λa b M=>match a,b with| .str [c],.str y=>.ok (.bl (!decide (c∈y))) M|_,_=>.bad):=aP.imp Zl9 λx y H Q ak=>by
 obtain⟨ι,M,a,b,S,ra,rb,h⟩:=ak;cases a with
 | str z=>
  cases z with
  |nil=>cases b<;>exact h.elim|cons c z=>
   cases z with
   |cons _ _=>cases b<;>exact h.elim|nil=>
    cases b with
    |str y=>refine⟨_,_,ra.str_inv,rb.str_inv,?_⟩;have e:=Ykw (⟨y.toArray⟩:aj) c;rw[show(⟨[c].toArray⟩:aj)=⟨#[c]⟩from rfl,e];exact Zv.ok h S Rep.bl|_=>exact h.elim
 |_=>cases b<;>exact h.elim
theorem ZtI(hu:X.A.units+80<jG):aP X (dO .NotIn) (r2 X.K Cd):=aP.imp (aP.or ZsL Zlj) λx y H Q ak=>by
 obtain⟨ι,M,a,b,S,ra,rb,h⟩:=ak;unfold Cd at h;cases q:inD a b with
 |none=>rw[q]at h;exact h.elim|some k=>
  rw[q]at h;rcases inK q with⟨ys,eb,ek,fa,fs⟩|⟨c,z,ea,eb,ek⟩
  .rw[eb]at rb;rw[←ek]at h;exact .inr (Zrj true ra rb fa fs (Zv.ok h S Rep.bl))
  .rw[ea]at ra;rw[eb]at rb;rw[←ek]at h;exact .inl ⟨ι,M,_,_,S,ra,rb,h⟩
theorem Zsv(x:List Nat)(n:Nat)(a:List Nat):(Yr n x.toArray).foldl (· ++ ·) a.toArray=(a++(Yr n x).flatten).toArray:=by
 induction n generalizing a with
 |zero=>simp|succ n ih=>rw[uh,jD,uh,kh];have:=ih (a++x);simp only[List.append_toArray]at this ⊢;rw[this];simp
theorem Zw5(x:List Nat)(k:Int):Txt.mul (⟨x.toArray⟩:aj) k=⟨(Yr k.toNat x).flatten.toArray⟩:=by
 unfold Txt.mul;split
 .rename_i h;have:k.toNat=0:=Y0 (j6 (Int.toNat_of_nonpos (iN [] [_] 1 235446417 T1 h))) (eZ _);rw[this];rfl
 .split
  .rename_i h1 h2;simp only[yt,beq_iff_eq,mF,Yq]at h2;rcases h2 with h2|h2
   .subst h2;simp
   .have:x=[]:=Jx h2;subst this;simp
  .have:=Zsv x k.toNat [];rw[jh]at this;exact congrArg Str.mk this
theorem au.repl(r:au K H ι ds vs):∀k:Nat,au K H ι (Yr k ds).flatten (Yr k vs).flatten
 |0=>au.nil|k+1=>by rw[uh,uh,kh,kh];exact r.append (au.repl r k)
theorem zp:aP X (i_ .Mult) (r2 X.K iU):=by
 have hs:aP X (i_ .Mult) (λx y H Q=>∃(z:List Nat) (k:Int),x= .str ⟨z.toArray⟩/\y= .int k/\z.length*k.toNat<=1000000/\k<1000000/\ -1000000<k/\Q (.str ⟨(Yr k.toNat z).flatten.toArray⟩) H):=by
  intro pins s σ H x y v u Q I rx ry h;obtain⟨z,k,rfl,rfl,h1,h2,h3,q⟩:=h;obtain⟨t,rfl⟩:=rx;obtain⟨t',rfl⟩:=ry;refine SB.mul ⟨?_,λh4 h5=>?_,λh4 h5=>?_⟩ λt'' tk=>?_
  .simp;omega
  .simp only[mF,Yq];simp at h4 h5;have hk:2<=k:=by
    simp only[mF,Yq]at h5;omega
   have e:(k.toNat:Int)=k:=qQ (wC (nW (iN [] [_] 1 3892452225 T1 hk))) ((wB _));have hm:(z.length:Int)*k<=1000000:=by have h1':((z.length*k.toNat:Nat):Int)<=1000000:=Bp.mpr h1;rw[Ru,e]at h1';exact h1'
   have hd:(z.length:Int)<=9223372036854775807 / k:=Int.le_ediv_of_mul_le (iN [] [_] 1 3909229441 T1 hk) (by omega);show¬((z.length:Int)>(2^63-1) / k);have e3:((2:Int)^63-1)=9223372036854775807:=by decide
   rw[e3];exactλz=>iN [_] [_] 2 6599352549521 T1 z hd
  .unfold Yju;simp only[mF,Yq,decide_eq_false_iff_not];have hsz:(1000000:Nat)<=bH:=j8;exactλz=>lB 3 0x6f42405b1010f42405b011011 T1 z hsz h1
  .rw[Zw5];exact⟨.str _,H,I.tok _,⟨_,rfl⟩,q⟩
 refine aP.imp (aP.or Zu8 (aP.or hs ZvA)) λx y H Q ak=>?_;obtain⟨ι,M,a,b,S,ra,rb,h⟩:=ak;cases a with
 | int i=>cases b with
  |int j=>obtain⟨hm,h⟩:=wR h;refine .inl ⟨i,j,ra.int_inv,rb.int_inv,?_,Zv.ok h S Rep.int⟩;simp only[mR,yt,Y5,decide_eq_true_eq]at hm;exact hm|_=>exact h.elim
 | str z=>cases b with
  |int k=>obtain⟨hz,h⟩:=wR h;exact .inr (.inl ⟨z,k,ra.str_inv,rb.int_inv,hz.1,hz.2.1,hz.2.2,Zv.ok h S Rep.str⟩)|_=>exact h.elim
 | ref n=>cases b with
  |int k=>
   have h:Zv X.K H ι Q (zf M[n]? λx=>@ite _ (x.length*k.toNat<=SZ/\k<1000000/\ -1000000<k) (Yz _) (alloc (.lst (Yr k.toNat x).flatten) M) .bad):=h;obtain⟨z,hn,h⟩:=Ml h;obtain⟨hz,h⟩:=wR h;obtain⟨p,hp,e'⟩:=ra.dM;obtain⟨vs,e,r⟩:=S.obj n _ p hn hp;refine .inr (.inr ⟨p,k,vs,e',rb.int_inv,e,?_,?_,by rw[r.length];exact Yi hz.1 j8,λq hq=>?_⟩)
   .exact Int.le_trans (by decide) (Ke hz.2.2)
   .exact Yj4 hz.2.1 (by decide)
   obtain⟨x2,S2,r2⟩:=S.lst hq (au.repl r k.toNat);exact h _ _ _ x2 S2 r2
  |_=>exact h.elim
 |_=>cases b<;>exact h.elim
theorem Zpy(n d:Nat)(hd:d<=n)(o:Option Int):(match o with|none=>(d:Int)|some i=>max 0 (jJ (if i<0 then i+(n:Int)else i) (n:Int)))=((aF n d o:Nat):Int):=by
 cases o with
 |none=>rfl|some v=>
  show max 0 (jJ (if v<0 then v+(n:Int)else v) (n:Int))=(((if v<0 then(v+(n:Int)).toNat else jJ v.toNat n):Nat):Int);by_cases h:v<0
  .rw[if_pos h,if_pos h];exact Su v n h
  .rw[if_neg h,if_neg h];exact Sv v n h
theorem ZiB(lo hi:Option Int)(n:Nat):Kh lo hi 1 n=(iw (aF n n hi-aF n 0 lo)).map (λk=>aF n 0 lo+k):=by
 have e1:=Zpy n 0 (eZ _) lo;have e2:=Zpy n n (Yt _) hi;have key:Kh lo hi 1 n=sliceRange ((aF n 0 lo:Nat):Int) ((aF n n hi:Nat):Int) 1:=by rw[←e1,←e2];simp only[Kh,show((1:Int)>0)=True from by simp,if_true];cases lo<;>cases hi<;>rfl
 rw[key];generalize aF n 0 lo=a;generalize aF n n hi=b;simp only[sliceRange,show((1:Int)>0)=True from by simp,if_true];by_cases hlt:(a:Int)<b
 .have e3:(((b:Int)-a+1-1) / 1).toNat=b-a:=by first|exact Y0 (iN [_,_,_,_] [_] 3 0x230038a112c001aa1808fcf001d81 T1 (Int.mul_ediv_self_le (by decide)) (gH _ _) (nW (iN [_,_] [_] 2 0xe8a001dcaa0818fcf91180891 T1 hlt (Yha (by decide))))) (iN [_,_,_,_] [_] 3 0x230013c2128081a001dcaa1808fcf91 T1 (Yha (by decide)) (wB _) (Y8 (iN [_,_] [] 1 4296542353 T1 hlt)))|(simp;done)|(simp;omega)
  simp only[hlt,if_true,e3];refine Aq λk _=>?_;exact Y0 (iN [_,_,_] [] 1 0x21c002801d18c08a1 T1 (nW (iN [_,_] [] 0 103109659880 T1))) (iN [_,_,_] [] 1 0x210c0281801d08c81 T1 (wB _))
 .have:b-a=0:=Y0 (j6 (Yin (iN [_,_] [] 1 270010577 T1 hlt))) (eZ _);simp[hlt,this]
theorem Lh(n d:Nat)(hd:d<=n)(o:Option Int):aF n d o<=n:=by
 cases o with
 |none=>exact hd|some v=>simp only[aF];split <;>omega
theorem ZnQ(z:List Nat)(lo hi:Option Int)(l u:Option (Int×gn))(hl:l.map (·.1)=lo)(hu:u.map (·.1)=hi):
  (if((1:Int)==1&&(yo ⟨z.toArray⟩ l u Yl).length==(⟨z.toArray⟩:aj).length)=true then(⟨z.toArray⟩:aj)else⟨((yo ⟨z.toArray⟩ l u Yl).filterMap ((⟨z.toArray⟩:aj).cps[·]?)).toArray⟩)=⟨(cutD z lo hi).toArray⟩:=by
 have e0:yo ⟨z.toArray⟩ l u Yl=(iw (aF z.length z.length hi-aF z.length 0 lo)).map (λk=>aF z.length 0 lo+k):=by unfold yo;rw[hl,hu];simp only[mF,Yq];exact ZiB lo hi z.length
 have hb:=Lh z.length z.length (Yt _) hi;rw[e0];have pick:((iw (aF z.length z.length hi-aF z.length 0 lo)).map (λk=>aF z.length 0 lo+k)).filterMap ((⟨z.toArray⟩:aj).cps[·]?)=cutD z lo hi:=by
  unfold cutD;by_cases hab:aF z.length 0 lo<=aF z.length z.length hi
  .have h:=StrLaws.picks z (aF z.length z.length hi-aF z.length 0 lo) (aF z.length 0 lo) (lD 2 82120338080600065 T1 hb (Y8 hab));simpa using h
  .have:aF z.length z.length hi-aF z.length 0 lo=0:=Y0 (j6 (Yin (lB 1 1052737 T1 hab))) (eZ _);rw[this];simp
 rw[pick];split
 .rename_i hc;simp only[Yu,JF,mF,Yq,Y5,beq_iff_eq]at hc;have hc2:=hc.2;have h0:aF z.length 0 lo=0\/z.length=0:=by omega
  have:cutD z lo hi=z:=by
   unfold cutD;rcases h0 with h0|h0
   .rw[h0,JH,sI (by exact lD 3 0x3102001e3c2011031 T1 hc2 (gH _ _) (Ge _ _))]
   .have:z=[]:=Jx h0;subst this;simp
  rw[this]
 .rfl
theorem Zu7:j7 X (λx lo hi H Q=>∃z:List Nat,x= .str ⟨z.toArray⟩/\z.length<=SZ/\Q (.str ⟨(cutD z lo hi).toArray⟩) H):=by
 intro pins s σ H x v vl vu lo hi sl Q I rx hs pl pu h;obtain⟨z,rfl,hz,q⟩:=h;obtain⟨t,rfl⟩:=rx;have part:∀{v:Yh} {o:Option Int},IsPart v o->∃p:Option (Int×gn),v=partValue p/\p.map (·.1)=o:=by
  intro v o h;cases h with
  |none=>exact⟨Yl,rfl,rfl⟩|int i t=>exact⟨Ya (i,t),rfl,rfl⟩
 obtain⟨l,rfl,hl⟩:=part pl;obtain⟨u,rfl,hu⟩:=part pu;refine⟨"str",_,PySem.F.slot_str_getitem.lookup,yp _ _ _,?_⟩;refine wpAny_getItem_str_slice (l:=l) (u:=u) (st:=Yl) hs rfl ?_;unfold sliceMade;refine post_val_or_made (λ_=>?_) λt' k=>?_
 .show((yo ⟨z.toArray⟩ l u Yl).filterMap ((⟨z.toArray⟩:aj).cps[·]?)).toArray.size<=bH;rw[Yq];refine Yi (List.length_filterMap_le _ _) ?_;show(Kh (l.map (·.1)) (u.map (·.1)) 1 (⟨z.toArray⟩:aj).length).length<=bH;rw[ZiB];simp only[Yu,JF,mF,Yq];have:=Lh z.length z.length (Yt _) (u.map (·.1));have:=j8;omega
 .have e:=ZnQ z lo hi l u hl hu;have e':(if(((Yl:Option (Int×gn)).map (·.1)).getD 1==1&&(yo ⟨z.toArray⟩ l u Yl).length==(⟨z.toArray⟩:aj).length)=true then(⟨z.toArray⟩:aj)else⟨((yo ⟨z.toArray⟩ l u Yl).filterMap ((⟨z.toArray⟩:aj).cps[·]?)).toArray⟩)=⟨(cutD z lo hi).toArray⟩:=e;rw[e'];exact⟨.str _,H,I.tok _,⟨_,rfl⟩,q⟩
theorem Zg7{t sl:Y2}{vl vu:Yh}{lo hi:Option Int}(ht:IsTup s.heap t items)(hs:s.heap.IsSliceOf sl vl vu .none)(pl:IsPart vl lo)(pu:IsPart vu hi)(hw:HT.aF items.size 0 lo=0/\HT.aF items.size items.size hi=items.size)(h:Q (.ref t) s):ao (aB prog w) A (qO (.ref t) (.ref sl)) Q E s:=by
 obtain⟨os,hos,hcs,hds⟩:=id hs;have hTs:s.TypeIs (.ref sl) "slice":=⟨os,hos,hcs⟩;unfold qO
 try with_reducible refine iy ?_
 first|refine Yg (Yv ?_)|skip
 refine Yg (QR ht.typeIs (by decide) ?_);refine Yg (yd (name:=qT "__getitem__") ht.typeIs Kl
  (vY Kl ht.typeIs Yjh ?_ (Ykb _ _)))
 show ao _ _ (Ygk (.ref t)>>=_) _ _ s;refine Yg (tupleItemsOf_ ht ?_);refine Yg (Q5 hTs ?_);rw[if_pos (by decide)];refine Yg (HT.Xq hs pl pu ?_);have AbE:(((HT.aF items.size 0 lo:Nat):Int)==0&&(1:Int)==1&&(HT.aF items.size items.size hi-HT.aF items.size 0 lo)==items.size)=true:=by rw[hw.1,hw.2];simp
 show ao _ _ (if(((HT.aF items.size 0 lo:Nat):Int)==0&&(1:Int)==1&&(HT.aF items.size items.size hi-HT.aF items.size 0 lo)==items.size)=true then _ else _) _ _ s;rw[if_pos AbE];unfold Builtin.Tuple.tupleIsExact;refine Yg (Yg (Q5 ht.typeIs (Yv ?_)));rw[if_pos (by decide)];exact Yg (JW (Yv ⟨_,rfl,Yv h⟩))
theorem Zua:j7 X (λx lo hi H Q=>∃a xs,x= .ref a/\cT X.K H a xs/\(HT.aF xs.length 0 lo=0/\HT.aF xs.length xs.length hi=xs.length)/\Q (.ref a) H):=by
 intro pins s σ H x v vl vu lo hi sl Q I rx hs pl pu h;obtain⟨a,xs,rfl,hx,hw,q⟩:=h;cases rx;obtain⟨its,r,ht,hz⟩:=I.tuple hx;have hlen:its.toArray.size=xs.length:=by rw[Yq];exact r.length.symm
 refine⟨"tuple",_,PyProof.Rows.slot_tuple_getitem.lookup,ht.typeIs,?_⟩;exact Zg7 ht hs pl pu (by rw[hlen];exact hw) ⟨.ref a,H,I,rfl,q⟩
theorem qC:j7 X (rS X.K):=j7.imp (j7.or (j7.or ZvO Zua) (j7.or Ztc Zu7)) λx lo hi H Q ak=>by
 obtain⟨ι,M,a,S,ra,h⟩:=ak;have ex:∀n d o,HT.aF n d o=aF n d o:=λn d o=>by cases o<;>rfl
 cases a with
 | tup ds=>
  simp only[GZ,G4,Ce,Cg]at h;obtain⟨p,vs,rfl,s,r⟩:=ra.jg;by_cases hw:aF ds.length 0 lo=0/\aF ds.length ds.length hi=ds.length
  .refine .inl (.inr ⟨p,vs,rfl,s,by rw[ex,ex,r.length];exact hw,?_⟩);have e:cutD ds lo hi=ds:=by unfold cutD;rw[hw.1,hw.2];simp
   rw[e]at h;exact Zv.ok h S (Rep.tup s r)
  .refine .inl (.inl ⟨p,vs,rfl,s,by rw[ex,ex,r.length];exact hw,λq hq=>?_⟩);obtain⟨x2,S2,r2⟩:=S.vM hq (Uv r lo hi);exact h _ _ _ x2 S2 r2
 |bF ds=>simp only[GZ,G4,Ce,Cg]at h;obtain⟨p,vs,rfl,s,r⟩:=ra.t8;refine .inr (.inl ⟨p,vs,rfl,s.sq,λq hq=>?_⟩);obtain⟨x2,S2,r2⟩:=S.lst hq (Uv r lo hi);exact h _ _ _ x2 S2 r2|str z=>
  simp only[GZ,G4,Ce,Cg]at h;split at h
  .rename_i hz;exact .inr (.inr ⟨z,ra.str_inv,hz,Zv.ok h S Rep.str⟩)
  .exact h.elim
 | ref n=>
  simp only[GZ,G4,Ce,Cg]at h;cases hn:M[n]? with
  |none=>simp only[hn]at h;exact h.elim|some o=>
   cases o with
   |dct _=>simp only[hn]at h;exact h.elim|cR _=>simp only[hn]at h;exact h.elim|ins _ _=>simp only[hn]at h;exact h.elim|lst ds=>simp only[hn]at h;obtain⟨p,hp,rfl⟩:=ra.dM;obtain⟨vs,e,r⟩:=S.obj n _ p hn hp;refine .inr (.inl ⟨p,vs,rfl,bL.of e,λq hq=>?_⟩);obtain⟨x2,S2,r2⟩:=S.lst hq (Uv r lo hi);exact h _ _ _ x2 S2 r2
 |_=>exact h.elim
theorem zq{xs:List V}(r:au K H ι [d] xs):∃x,xs=[x]/\Rep K H ι d x:=by obtain⟨v,ws,rfl,r1,r2⟩:=r.cons_inv;have:=r2.nil_inv;subst this;exact⟨v,rfl,r1⟩
theorem gC:dm X (.builtin "len") (rB X.K bw):=dm.imp Zsl λxs H Q ak=>by
 obtain⟨ι,M,ds,S,rd,h⟩:=ak;cases ds with
 |nil=>exact h.elim|cons d ds=>
  cases ds with
  |cons _ _=>cases d<;>exact h.elim|nil=>
   obtain⟨x,rfl,r⟩:=zq rd;cases d with
   |tup z=>obtain⟨p,vs,rfl,s,r'⟩:=r.jg;exact⟨_,vs.length,rfl,.inr ⟨vs,s,rfl⟩,by rw[r'.length];exact Zv.ok h S Rep.int⟩|bF z=>obtain⟨p,vs,rfl,s,r'⟩:=r.t8;exact⟨_,vs.length,rfl,.inl ⟨vs,s.sq,rfl⟩,by rw[r'.length];exact Zv.ok h S Rep.int⟩|str z=>
    simp only[yP,yQ,yR,q_]at h;split at h
    .rename_i hz;have:=r.str_inv;subst this;refine⟨_,z.length,rfl,⟨?_,?_⟩,Zv.ok h S Rep.int⟩
     .show z.toArray.size<=bH;rw[Yq];exact Yi hz j8
     .show z.length=z.toArray.size;rw[Yq]
    .exact h.elim
   | ref n=>
    cases hn:M[n]? with
    |none=>rw[q_,hn]at h;exact h.elim|some o=>
     cases o with
     |dct _=>rw[q_,hn]at h;exact h.elim|cR _=>rw[q_,hn]at h;exact h.elim|ins _ _=>rw[q_,hn]at h;exact h.elim|lst z=>simp only[yP,yQ,yR,q_,hn]at h;obtain⟨p,hp,rfl⟩:=r.dM;obtain⟨vs,e,r'⟩:=S.obj n _ p hn hp;exact⟨_,vs.length,rfl,.inl ⟨vs,bL.of e,rfl⟩,by rw[r'.length];exact Zv.ok h S Rep.int⟩
   |_=>exact h.elim
theorem nq:dm X (.type "tuple") (rB X.K gh):=dm.imp Zks λxs H Q ak=>by
 obtain⟨ι,M,ds,S,rd,h⟩:=ak;cases ds with
 |nil=>exact h.elim|cons d ds=>
  cases ds with
  |cons _ _=>cases d<;>exact h.elim|nil=>
   obtain⟨x,rfl,r⟩:=zq rd;cases d with
   |tup z=>obtain⟨p,vs,rfl,s,r'⟩:=r.jg;exact⟨p,vs,rfl,.inr ⟨s,Zv.ok h S (Rep.tup s r')⟩⟩|bF z=>obtain⟨p,vs,rfl,s,r'⟩:=r.t8;refine⟨p,vs,rfl,.inl ⟨s.sq,λq hq=>?_⟩⟩;obtain⟨x2,S2,r2⟩:=S.vM hq r';exact h _ _ _ x2 S2 r2|ref n=>
    cases hn:M[n]? with
    |none=>rw[Ci,hn]at h;exact h.elim|some o=>
     cases o with
     |dct _=>rw[Ci,hn]at h;exact h.elim|cR _=>rw[Ci,hn]at h;exact h.elim|ins _ _=>rw[Ci,hn]at h;exact h.elim|lst z=>simp only[ZkM,ZkG,Ci,hn]at h;obtain⟨p,hp,rfl⟩:=r.dM;obtain⟨vs,e,r'⟩:=S.obj n _ p hn hp;refine⟨p,vs,rfl,.inl ⟨bL.of e,λq hq=>?_⟩⟩;obtain⟨x2,S2,r2⟩:=S.vM hq r';exact h _ _ _ x2 S2 r2
   |_=>exact h.elim
theorem Zse:dm X (.type "list") (rB X.K tD):=dm.imp Zmg λxs H Q ak=>by
 obtain⟨ι,M,ds,S,rd,h⟩:=ak;cases ds with
 |nil=>exact h.elim|cons d ds=>
  cases ds with
  |cons _ _=>cases d<;>exact h.elim|nil=>
   obtain⟨x,rfl,r⟩:=zq rd;cases d with
   |tup z=>obtain⟨p,vs,rfl,s,r'⟩:=r.jg;refine⟨p,vs,rfl,.inr s,λq hq=>?_⟩;obtain⟨x2,S2,r2⟩:=S.lst hq r';exact h _ _ _ x2 S2 r2|bF z=>obtain⟨p,vs,rfl,s,r'⟩:=r.t8;refine⟨p,vs,rfl,.inl s.sq,λq hq=>?_⟩;obtain⟨x2,S2,r2⟩:=S.lst hq r';exact h _ _ _ x2 S2 r2|ref n=>
    cases hn:M[n]? with
    |none=>rw[G5,hn]at h;exact h.elim|some o=>
     cases o with
     |dct _=>rw[G5,hn]at h;exact h.elim|cR _=>rw[G5,hn]at h;exact h.elim|ins _ _=>rw[G5,hn]at h;exact h.elim|lst z=>simp only[Zra,Zq6,G5,hn]at h;obtain⟨p,hp,rfl⟩:=r.dM;obtain⟨vs,e,r'⟩:=S.obj n _ p hn hp;refine⟨p,vs,rfl,.inl (bL.of e),λq hq=>?_⟩;obtain⟨x2,S2,r2⟩:=S.lst hq r';exact h _ _ _ x2 S2 r2
   |_=>exact h.elim
end
theorem gm:kI "len" =Ya (.builtin "len"):=by decide +kernel
theorem CP:kI "all" =Ya (.builtin "all"):=by decide +kernel
theorem ZgR:kI "isinstance" =Ya (.builtin "isinstance"):=by decide +kernel
theorem Zwq:kI "int" =Ya (.type "int"):=by decide +kernel
theorem ZrF:kI "str" =Ya (.type "str"):=by decide +kernel
theorem Zo1:kI "list" =Ya (.type "list"):=by decide +kernel
theorem nu:kI "tuple" =Ya (.type "tuple"):=by decide +kernel
section
variable {X:Cx} {a:Expr} {pos p p2:aU} {f:E3}
noncomputable def fX:o_->String
 | .int=>"int" | .bool=>"bool" | .str=>"str" | .list=>"list" | .tuple=>"tuple"
theorem zr(K:Yb)(t:String)(T:o_)(ht:t∈["NoneType","bool","int","str","list","tuple","dict"]):
  YM K (.type t) (.type (fX T))=Ya (t==fX T|| (t== "bool" &&fX T== "int")):=by
 simp only[Yo,qL,or_false]at ht;rcases ht with rfl|rfl|rfl|rfl|rfl|rfl|rfl <;>cases T<;>kernel_rfl
theorem U7(T:o_):kI (fX T)=Ya (.type (fX T)):=by cases T<;>decide +kernel
noncomputable def Zxz(T:o_)(o:Option MO):Option Bool:=match o with
 |some (.lst _)=>Ya (T== .list)|some (.dct _)=>Ya false|some (.cR _)=>Yl|some (.ins _ _)=>Yl
 |none=>Yl
theorem Zte{T:o_}{x:V}{b:Bool}(I:Inv X pins σ H s)(S:aH X.K H ι M)(r:Rep X.K H ι d x)(ru:RelV x u)(e:kY T d M=Ya b)(h:∀tk,Q (.bool b) {s with toks:=tk}):ao (aB X.prog X.w) A (call (.builtin "isinstance") [u,.type (fX T)]) Q E s:=by
 cases d with
 |non=>rw[r.jA]at ru;exact BW I ru .non ((zr X.K "NoneType" T (by decide)).trans (wD (by cases T<;>rfl) e)) h|bl c=>rw[r.gP]at ru;exact BW I ru (.bl c) ((zr X.K "bool" T (by decide)).trans (wD (by cases T<;>rfl) e)) h|int i=>rw[r.int_inv]at ru;exact BW I ru (.int i) ((zr X.K "int" T (by decide)).trans (wD (by cases T<;>rfl) e)) h|str z=>rw[r.str_inv]at ru;exact BW I ru (.str _) ((zr X.K "str" T (by decide)).trans (wD (by cases T<;>rfl) e)) h
 |tup ds=>obtain⟨p,vs,its,_,eu,⟨o,h1,h2,_⟩,_⟩:=zj I r ru;rw[eu];exact pR Qo I.fj ⟨o,h1,h2⟩ ((zr X.K "tuple" T (by decide)).trans (wD (by cases T<;>rfl) e)) (λz=>nomatch z) h|bF ds=>exact jl e|ref n=>
  have e:Zxz T M[n]?=Ya b:=e;obtain⟨a,ha,ex⟩:=r.dM;rw[ex]at ru;cases hn:M[n]? with
  |none=>rw[hn]at e;exact jl e|some o=>
   rw[hn]at e;cases o with
   |lst z=>obtain⟨vs,ev,_⟩:=S.obj n _ a hn ha;exact BW I ru (.lst ev) ((zr X.K "list" T (by decide)).trans (wD (by cases T<;>rfl) e)) h|dct z=>obtain⟨vs,ev,_⟩:=S.obj n _ a hn ha;exact BW I ru (.dK ev) ((zr X.K "dict" T (by decide)).trans (wD (by cases T<;>rfl) e)) h|cR z=>exact jl e|ins _ _=>exact jl e
theorem rN(T:o_)(hm:X.mg "isinstance" =Yl)(hm2:X.mg x=Yl)(h:C3 X a f)(hx:x=(qT (fX T)):=by rfl)(hg:Gl X "isinstance":=by rfl)(hg2:Gl X x:=by rfl)(hn:x≠ "__name__":=by decide)(hd:(x==("__debug__":aj))=false:=by decide)(hs:Yy (a::[.Name x p2]) X.env=(false,aN a X.env)::Yy [.Name x p2] X.env:=by rfl)(hs2:Yy (.Name x p2::[]) X.env=(false,aN (.Name x p2) X.env)::Yy [] X.env:=by rfl)(hpl:(cL pos (Yy [.Name x p2] X.env)).any (·.1)=false:=by rfl):C3 X (.Call (.Name "isinstance" p) [a,.Name x p2] [] pos) (e1 (jo T) f):=by
 subst hx;have hc:dm X (.builtin "isinstance") (λxs H Q=>∃ι M d x,xs=[x,.ty (fX T)]/\aH X.K H ι M/\Rep X.K H ι d x/\Zv X.K H ι Q (jo T d M)):=by
  intro pins s σ H xs us Q I r q;obtain⟨ι,M,d,x,rfl,S,rd,q⟩:=q;obtain⟨u,w',rfl,ru,kW⟩:=vals2 r;cases kW;unfold jo at q;cases e:kY T d M with
  |none=>rw[e]at q;exact q.elim|some b=>rw[e]at q;exact Zte I S rd ru e λtk=>⟨.bl b,H,I.tok _,rfl,Zv.ok q S Rep.bl⟩
 refine(Lg hc hg hm ZgR (wH h (wH (Tc hg2 hm2 (U7 T) (v:=.ty (fX T)) rfl hn hd) Gz hs2) hs) (by decide) (by decide) hs hpl).imp λσ H Q ak=>?_;obtain⟨ι,M,env,S,E,h⟩:=ak;obtain⟨d,M1,e1,h⟩:=Zv.bind h;refine⟨ι,M,env,S,E,?_⟩;rw[e1];intro v H1 ι1 x1 S1 r1;exact⟨ι1,M1,d,v,rfl,S1,r1,h.up x1⟩
theorem ZgY{p:D->Bool}:∀{l:List D} {e:Nat->Bool},(∀(j:Nat) d,l[j]?=Ya d->e j=p d)->(iw l.length).all e=l.all p
 |[],_,_=>rfl|d::l,e,h=>by rw[Ym,YZ,kj,List.all_map,h 0 d rfl,kj];congr 1;exact ZgY λj d' hj=>h (j+1) d' (by simpa using hj)
theorem CQ(hc:X.calm=true):dm X (.builtin "all") (rB X.K tE):=by
 intro pins s σ H xs us Q I rs h;obtain⟨ι,M,ds,S,rd,h⟩:=h;cases ds with
 |nil=>exact h.elim|cons d ds=>
  cases ds with
  |cons _ _=>cases d<;>exact h.elim|nil=>
   obtain⟨x,rfl,r⟩:=zq rd;obtain⟨u,rfl,ru⟩:=vals1 rs;cases d with
   | ref n=>
    cases hn:M[n]? with
    |none=>rw[Ck,hn]at h;exact h.elim|some o=>
     cases o with
     |dct _=>rw[Ck,hn]at h;exact h.elim|cR _=>rw[Ck,hn]at h;exact h.elim|ins _ _=>rw[Ck,hn]at h;exact h.elim|lst z=>
      simp only[Ck,hn]at h;cases q:allB z with
      |none=>rw[q]at h;exact h.elim|some b=>
       rw[q]at h;obtain⟨a,ha,rfl⟩:=r.dM;cases ru;obtain⟨vs,ev,rv⟩:=S.obj n _ a hn ha;obtain⟨its,rr,pl,_⟩:=I.list (bL.of ev);have hz:z.all Cj=true/\z.all yS=b:=by
        unfold allB at q;split at q
        .rename_i hz;exact⟨hz,Y1 q⟩
        .cases q
       have hlen:its.toArray.size=z.length:=by rw[Yq,←rr.length,rv.length]
       have hhd:X.A.in1.handled=Yl:=I.ok.hd hc;refine call_all_walk (vX pl.isList ⟨s.heap.objs.size,_,_,_,_,_,(λj=>match z[j]? with|some d=>yS d|none=>true),rfl,Kz hhd s.heap.objs.size a (dR (I.hok.lt ev)) its.toArray,⟨⟨_,Y4 _ rfl,rfl,rfl⟩,pl.isList.at λo e=>Yn _ e⟩,?_,?_⟩)
       .intro j v s' Q' E' hv hq;have hv':its[j]?=Ya v:=by simpa using hv
        have hj:j<z.length:=by have:=(Yf.mp hv').1;rw[←Yq,hlen]at this;exact this
        have e1:z[j]?=Ya z[j]:=by simp[hj]
        have hb:=h_.mp hz.1 _ (um hj);obtain⟨w,g1,g2⟩:=rv.get e1;obtain⟨u',k1,k2⟩:=rr.get g1;rw[hv']at k1;cases k1;have hq':Q' (yS z[j]) s':=by have:=hq;simp only[e1]at this;exact this
        generalize z[j]=dj at hb g2 hq';cases dj with
        |bl c=>have:=g2.gP;subst this;cases k2;exact qM hq'|_=>simp[Cj]at hb
       .intro h' tk kk;rw[hlen,ZgY (p:=yS) (λj d hd=>by rw[hd]),hz.2];exact⟨.bl b,H,I.kept (λc o e=>kk c o (by simp;exact dR (Y6 e)) (Yn _ e)),rfl,Zv.ok h S Rep.bl⟩
   |_=>exact h.elim
end
noncomputable def ZuJ(outer:List (aj×NameKind))(N:List aj)(scope:Scope)(N':List aj)(own:Nat):Bool:=
 (scope.names.all λy=>decide (y.2≠ .cell)&&(decide (y.2≠ .free)|| decide (outer.lookup y.1=Ya .cell)|| decide (outer.lookup y.1=Ya .free))&&(decide (y.2≠ .local)|| decide (scope.names.lookup y.1=Ya .local)))&&
  decide (N'.length=N.length+own)&&Uw N N' scope
theorem lg{scope:Scope}{N':List aj}{own:Nat}(hk:scope.kind= .function)(h:ZuJ X.env.scope.names X.N scope N' own=true):wZ X scope N' own:=by
 simp only[ZuJ,Y5,decide_eq_true_eq,h_,yt]at h;obtain⟨⟨h1,h2⟩,h3⟩:=h;refine⟨hk,λy hy=>(h1 y hy).1.1,λy hy e=>?_,λy hy e=>?_,h2,h3⟩
 .rcases(h1 y hy).1.2 with(q|q)|q
  .exact absurd e q
  .exact .inl q
  .exact .inr q
 .rcases(h1 y hy).2 with q|q
  .exact absurd e q
  .exact q
theorem fD{h:aR}{mg:aj->Option Yh}(KX:K.In h)(G:h.Ns cP mg){f:Y2}{oc:Yh}{od an:Option Y2}{osl:Array (Option Yh)}{dV kV doc pm cdv ct:Yh}(a:PySem.W.nsIn K cP x=Ya (Ya (.ref f)))(l:K.lookup f=Ya ⟨oc,od,.func (sH x x (q8 st) (mL st) (Zt st) dV kV doc pm an cdv ct),osl⟩)(c:Fp K cdv x=true)(k:ug K (.ref f)=true)(b:Binds K (sH x x (q8 st) (mL st) (Zt st) dV kV doc pm an cdv ct) ps []):bD K mg x st ps:=⟨f,_,Zss l c k,YS KX G a,b⟩
theorem Zx2{l:PySem.W.OpenLaw}{k:Nat}{q:Yae}{loose:List aj}{XP:(aj->Option Yh)->aR->Prop}{YP:bh->aR->Prop}{d:DefRec}{K:Params->Yb}(hn:l.most=Ya 63)(hdf:d.params.defaults=[])(hr:dU k v7)(hY:∀(w:bh) (h:aR),YP w h->(K w.params).In h)(G:∀(w:bh) (mg:aj->Option Yh) (fa:Y2) (h:aR),(K w.params).In h->h.Ns cP mg->mg d.name=Ya (.ref fa) ->
   ∃fd:lM,(∀(s:Yk) (u:Yh),Bd s fd ⟨[u],[]⟩ [("script",u)])/\∀base:aR,(K w.params).In base->base.Ns cP mg->jK l.prog w (K w.params) mg base mO k fa fd ["script"] (u0 (K w.params) 1 F))(hF:∀ns:List Int,ns.length<=63->∃M',F [.bF (ns.map D.int)] []= .ok (.bl true) M'):
  YQ q loose XP YP l.row.toRowW d [] (λf vs=>Ra f vs):=
 L2.ZpJ (n:=63) (k:=k) (x:="script") (CX:=λ_=>mO) (sp:=λw=>u0 (K w.params) 1 F) hn (by decide) hdf hr hY G (λw H a ns hl hO hS=>by
  obtain⟨M',e⟩:=hF ns hl;refine⟨[],[],[.bF (ns.map D.int)],⟨rfl,JK,λn o a h=>by simp at h⟩,au.cons ?_ au.nil,rfl,?_⟩
  .refine⟨a,ns.map V.int,rfl,?_,au.ints ns⟩;rcases hS with(h|⟨o,h⟩)|h
   .rcases hO a with z|⟨ob,xs,z⟩
    .rw[h]at z;cases z
    .rw[h]at z;cases z
   .exact .inl ⟨o,h⟩
   .exact .inr h
  .rw[e]
   exactλv H' ι' _ _ r=>r.gP) λ_ _ _ _ _ z=>z
theorem U8{a b:gU}(h:dk a=dk b):a=b:=by
 cases a with
 |inl i=>cases b with
  |inl j=>simp only[dk,Sum.inl.injEq]at h;rw[h]|inr y=>simp[dk]at h
 | inr x=>cases b with
  |inl j=>simp[dk]at h|inr y=>simp only[dk,Sum.inr.injEq,Str.mk.injEq]at h;have:=congrArg Bv h;simp at this;rw[this]
variable{kvs:List (gU×D)}{ws:List (Key×V)}
section
variable {K:Yb} {H H':Hp} {ι ι':List Y2} {M:Store} {p:Y2}
theorem dG.nil:dG K H ι [] []:=⟨rfl,au.nil⟩
theorem dG.cons{k:gU}{d:D}{v:V}{kvs:List (gU×D)}{ws:List (Key×V)}(h:Rep K H ι d v)(r:dG K H ι kvs ws):dG K H ι ((k,d)::kvs) ((dk k,v)::ws):=⟨by simp[r.1],au.cons h r.2⟩
theorem dG.cons_inv{q:gU×D}(r:dG K H ι (q::kvs) ws):∃v ws',ws=(dk q.1,v)::ws'/\Rep K H ι q.2 v/\dG K H ι kvs ws':=by
 obtain⟨h1,h2⟩:=r;cases ws with
 |nil=>simp at h1|cons w ws=>simp only[Ys,Yma]at h1;obtain⟨v,us,e,r1,r2⟩:=au.cons_inv h2;simp only[Ys,Yma]at e;exact⟨w.2,ws,by rw[←h1.1],e.1▸r1,h1.2,e.2▸r2⟩
theorem dG.nil_inv(r:dG K H ι [] ws):ws=[]:=by simpa using r.1
theorem dG.mono(r:dG K H ι kvs ws)(e:Ext K H ι H' ι'):dG K H' ι' kvs ws:=⟨r.1,r.2.mono e⟩
theorem dG.length(r:dG K H ι kvs ws):ws.length=kvs.length:=by have:=congrArg ur r.1;simpa using this
theorem dG.val(k:gU):∀{ws:List (Key×V)},dG K H ι kvs ws->match GX kvs k with|some d=>∃v,mQ ws (dk k)=Ya v/\Rep K H ι d v|none=>mQ ws (dk k)=Yl:=by
 induction kvs with
 |nil=>intro ws r;rw[r.nil_inv];exact ZrD|cons q kvs ih=>
  intro ws r;obtain⟨v,ws',rfl,r1,r2⟩:=r.cons_inv;obtain⟨k',d⟩:=q;unfold GX;by_cases e:k'=k
  .rw[if_pos e];exact⟨v,Lk (by rw[e]),r1⟩
  .rw[if_neg e,Ln λz=>e (U8 z)];exact ih r2
theorem dG.append{k1 k2:List (gU×D)}{w1 w2:List (Key×V)}(a:dG K H ι k1 w1)(b:dG K H ι k2 w2):dG K H ι (k1++k2) (w1++w2):=⟨by simp[a.1,b.1],by rw[iY,iY];exact a.2.append b.2⟩
theorem dG.any(k:gU):∀{ws:List (Key×V)},dG K H ι kvs ws->(ws.any λkv=>decide (kv.1=dk k))=(kvs.any λq=>decide (q.1=k)):=by
 induction kvs with
 |nil=>intro ws r;rw[r.nil_inv];rfl|cons q kvs ih=>
  intro ws r;obtain⟨v,ws',rfl,r1,r2⟩:=r.cons_inv;rw[lK,lK,ih r2];congr 1;by_cases e:q.1=k
  .simp[e]
  .simp[e];exactλz=>e (U8 z)
theorem dG.put{k:gU}(r:dG K H ι kvs ws)(rd:Rep K H ι d v):dG K H ι (putD k d kvs) (putK ws (dk k) v):=by
 unfold putD putK;rw[r.any k];by_cases c:(kvs.any λq=>decide (q.1=k))=true
 .rw[if_pos c,if_pos c];clear c
  induction kvs generalizing ws with
  |nil=>rw[r.nil_inv];exact dG.nil|cons q kvs ih=>
   obtain⟨u,ws',rfl,r1,r2⟩:=r.cons_inv;rw[Ys,Ys];by_cases e:q.1=k
   .rw[if_pos e,if_pos (by rw[e])];exact dG.cons rd (ih r2)
   .rw[if_neg e,if_neg λz=>e (U8 z)];exact dG.cons r1 (ih r2)
 .rw[if_neg c,if_neg c];exact r.append (dG.cons rd dG.nil)
theorem aH.dct(S:aH K H ι M)(hp:H p=Yl)(r:dG K H ι kvs ws):Ext K H ι (upd H p (.dK ws)) (ι++[p])/\aH K (upd H p (.dK ws)) (ι++[p]) (M++[.dct kvs])/\Rep K (upd H p (.dK ws)) (ι++[p]) (.ref M.length) (.ref p):=by have e:Ext K H ι (upd H p (.dK ws)) (ι++[p]):=Loose.Jk (.inl hp);exact⟨e,S.new hp ⟨ws,qW,r.mono e⟩,Rep.ref (by rw[←S.len];simp)⟩
end
section
variable {X:Cx} {a b c e o:Expr} {es:List Expr} {pos p pos' apos cpos:aU} {f g h:E3} {gl:d_}
def U9(K:Yb)(H:Hp)(ι:List Y2)(Q:List (V×V)->Hp->Prop)(r:R3 (List (gU×D))):Prop:=match r with
 | .ok l M'=>∀ws H' ι',Ext K H ι H' ι'->aH K H' ι' M'->dG K H' ι' l ws->Q (ws.map λkv=>(kV kv.1,kv.2)) H'|_=>False
theorem U9.bind{Q:List (V×V)->Hp->Prop}{r:R3 α}{k:α->Store->R3 (List (gU×D))}(h:U9 K H ι Q (r.bind k)):∃a M,r= .ok a M/\U9 K H ι Q (k a M):=by
 cases r with
 |ok a M=>exact⟨a,M,rfl,h⟩|exc x M=>exact h.elim|bad=>exact h.elim
theorem hu1(hu:X.A.units+80<jG):X.A.units+1<jG:=lB 1 7331617893452817 T1 hu
theorem Ztq{op:D->D->D->Store->R3 D}{Q:VK}(h':Zv K H ι Q (e3 op f g h env M)):
  ∃a M1 b M2 c M3,f env M= .ok a M1/\g env M1= .ok b M2/\h env M2= .ok c M3/\Zv K H ι Q (op a b c M3):=by
 obtain⟨a,M1,e1,h'⟩:=Zv.bind h';obtain⟨b,M2,e2,h'⟩:=Zv.bind h';obtain⟨c,M3,e3,h'⟩:=Zv.bind h';exact⟨a,M1,b,M2,c,M3,e1,e2,e3,h'⟩
theorem ZmH{D':Ends}(E:cM K H ι env σ)(h':qp K H ι D' (aV f env M)):Zv K H ι (λ_ H'=>D'.nx σ H') (f env M):=by
 unfold aV at h';cases q:f env M with
 |ok d M1=>rw[q]at h';exactλv H1 ι1 x1 S1 r1=>h' σ H1 ι1 x1 S1 (E.mono x1)|exc x M1=>rw[q]at h';exact h'.elim|bad=>rw[q]at h';exact h'.elim
theorem U_{i:Expr}{spos:aU}(ho:C3 X o f)(hi:C3 X i g)(hv:C3 X e h)(ha:∀v,jF (.Subscript o i spos) X.env v=(do
   let ov ←v6 [v] (aN o X.env)
   let iv ←v6 [v,ov] (aN i X.env)
   FZ spos
   v6 [v,ov,iv] (setItem ov iv v)
   release [v,ov,iv] []):=by intro _;rfl)(hs:QX [.Subscript o i spos] e pos.line X.env=pure false:=by rfl)(hw:QZ [.Subscript o i spos] e X.env=pure Yl:=by rfl)(h1:(jE [.Subscript o i spos] X.env).map (·.2)=[jF (.Subscript o i spos) X.env]:=by rfl):CS X (.Assign [.Subscript o i spos] e pos) (tH f g h):=(ZrA hv (Zu0 ho hi set_list ha) hs hw h1).imp λD' σ H ak=>by
 obtain⟨ι,M,env,S,E,hh⟩:=ak;obtain⟨d,M1,b,M2,k,M3,e1,e2,e3,hh⟩:=Ztq (ZmH E hh);refine⟨ι,M,env,S,E,?_⟩;rw[e1];intro v H1 ι1 x1 S1 r1;refine⟨ι1,M1,env,S1,E.mono x1,?_⟩;rw[e2];intro x H2 ι2 x2 S2 r2;refine⟨ι2,M2,env,S2,(E.mono x1).mono x2,?_⟩;rw[e3];intro y H3 ι3 x3 S3 r3;cases b with
 | ref n=>
  cases k with
  | int j=>
   simp only[ZkA]at hh;cases hn:M3[n]? with
   |none=>simp only[hn]at hh;exact hh.elim|some ob=>
    cases ob with
    |dct _=>simp only[hn]at hh;exact hh.elim|cR _=>simp only[hn]at hh;exact hh.elim|ins _ _=>simp only[hn]at hh;exact hh.elim|lst xs=>
     simp only[hn]at hh;cases hj:lQ xs.length j with
     |none=>simp only[hj]at hh;exact hh.elim|some q=>simp only[hj]at hh;obtain⟨ad,ha,rfl⟩:=(r2.mono x3).dM;obtain⟨ws,hw,kr⟩:=S3.obj n _ ad hn ha;obtain⟨x4,S4⟩:=S3.vN (.inr (.inl ⟨_,hw⟩)) ha (kr.set q ((r1.mono x2).mono x3));exact⟨ad,ws,j,q,rfl,r3.int_inv,hw,by rw[kr.length];exact hj,hh .non _ _ (((x1.trans x2).trans x3).trans x4) S4 Rep.non⟩
  |_=>exact hh.elim
 |_=>exact hh.elim
end
section
variable {X:Cx} {a b c e o:Expr} {es:List Expr} {pos p apos cpos:aU} {f g h:E3} {gl:d_}
theorem Zx3:dm X (.type "int") (rB X.K G7):=dm.imp Zqh λxs H Q ak=>by
 obtain⟨ι,M,ds,S,rd,h⟩:=ak;cases ds with
 |nil=>exact h.elim|cons d ds=>
  cases ds with
  |cons _ _=>cases d<;>exact h.elim|nil=>
   obtain⟨x,rfl,r⟩:=zq rd;cases d with
   |int i=>exact .inl ⟨i,by rw[r.int_inv],Zv.ok h S Rep.int⟩|bl k=>exact .inr ⟨k,by rw[r.gP],Zv.ok h S Rep.int⟩|_=>exact h.elim
theorem Zk2{K:Yb}{H:Hp}{ι:List Y2}:∀{x:List D} {ns:List Int} {vs:List V} {us:List Yh},mV x=Ya ns->au K H ι x vs->Vals vs us->IntsAre us ns
 |[],ns,vs,us,h,r,v=>by
  have e:=r.nil_inv;subst e;cases v;have:ns=[]:=by simpa[mV]using h.symm
  subst this;exact .nil
 | .int i::x,ns,vs,us,h,r,v=>by
  obtain⟨u,vs',rfl,r1,r2⟩:=r.cons_inv;have e:=r1.int_inv;subst e;cases v with
  | @cons _ z _ us' rz Va=>
  obtain⟨t,rfl⟩:=rz;simp only[mV]at h;cases hx:mV x with
  |none=>rw[hx]at h;cases h|some ms=>
   rw[hx]at h;have:ns=i::ms:=by simpa using h.symm
   subst this;exact .cons i t (Zk2 hx r2 Va)
 | .non::_,_,_,_,h,_,_=>by simp[mV]at h|.bl _::_,_,_,_,h,_,_=>by simp[mV]at h|.str _::_,_,_,_,h,_,_=>by simp[mV]at h|.tup _::_,_,_,_,h,_,_=>by simp[mV]at h
 | .bF _::_,_,_,_,h,_,_=>by simp[mV]at h|.ref _::_,_,_,_,h,_,_=>by simp[mV]at h
end
theorem MJ{sts:List Yd0}:qt X sts rm:=λ_ _ _ _ _ _ ⟨_,_,_,_,_,h⟩=>h.elim
section
variable {X:Cx} {o e:Expr} {es:List Expr} {apos cpos:aU} {f:E3} {gl:d_}
theorem au.erase:∀{ds:List D} {vs:List V} (i:Nat),au K H ι ds vs->au K H ι (ds.eraseIdx i) (vs.eraseIdx i)
 |[],_,_,h=>by rw[h.nil_inv];exact au.nil|d::ds,_,0,h=>by obtain⟨v,us,rfl,r,t⟩:=h.cons_inv;exact t|d::ds,_,i+1,h=>by obtain⟨v,us,rfl,r,t⟩:=h.cons_inv;exact au.cons r (t.erase i)
theorem au.dropLast(r:au K H ι ds vs):au K H ι ds.dropLast vs.dropLast:=by rw[ZC,ZC,r.length];exact r.take _
theorem ZxO:kO X "list.pop" (rM X.K qg):=kO.imp (r:=λx xs H Q=>Zr0 x xs H Q\/Zyl x xs H Q) (λpins s σ H x xs v us Q I rx rs q=>q.elim (Zrn pins s σ H x xs v us Q I rx rs) (ZvT pins s σ H x xs v us Q I rx rs)) λx xs H Q ak=>by
 obtain⟨ι,M,a,ds,S,ra,rd,h⟩:=ak;cases a with
 | ref n=>
  cases ds with
  | nil=>
   simp only[Zpa,Ua]at h;cases hn:M[n]? with
   |none=>simp only[hn]at h;exact h.elim|some ob=>
    cases ob with
    |dct _=>simp only[hn]at h;exact h.elim|cR _=>simp only[hn]at h;exact h.elim|ins _ _=>simp only[hn]at h;exact h.elim|lst z=>
     simp only[hn]at h;cases hx:z[z.length-1]? with
     |none=>simp only[hx]at h;exact h.elim|some d=>simp only[hx]at h;obtain⟨p,hp,rfl⟩:=ra.dM;have:=rd.nil_inv;subst this;obtain⟨vs,e,rv⟩:=S.obj n _ p hn hp;obtain⟨y,hy,ry⟩:=rv.get hx;obtain⟨x2,S2⟩:=S.vN (.inr (.inl ⟨_,e⟩)) hp rv.dropLast;exact .inr ⟨p,vs,y,rfl,rfl,e,by rw[rv.length];exact hy,h _ _ _ x2 S2 (ry.mono x2)⟩
  | cons d ds=>
   cases ds with
   |cons _ _=>cases d<;>exact h.elim|nil=>
    cases d with
    | int i=>
     simp only[Zpa,Ua]at h;cases hn:M[n]? with
     |none=>simp only[hn]at h;exact h.elim|some ob=>
      cases ob with
      |dct _=>simp only[hn]at h;exact h.elim|cR _=>simp only[hn]at h;exact h.elim|ins _ _=>simp only[hn]at h;exact h.elim|lst z=>
       simp only[hn]at h;by_cases hb:-1000000<=i/\i<=1000000
       .rw[if_pos hb]at h;cases hk:lQ z.length i with
        |none=>simp only[hk]at h;exact h.elim|some k=>
         simp only[hk]at h;cases hx:z[k]? with
         |none=>simp only[hx]at h;exact h.elim|some d=>simp only[hx]at h;obtain⟨p,hp,rfl⟩:=ra.dM;obtain⟨v,ws,rfl,r1,r2⟩:=rd.cons_inv;have:=r2.nil_inv;subst this;have:=r1.int_inv;subst this;obtain⟨vs,e,rv⟩:=S.obj n _ p hn hp;obtain⟨y,hy,ry⟩:=rv.get hx;obtain⟨x2,S2⟩:=S.vN (.inr (.inl ⟨_,e⟩)) hp (rv.erase k);obtain⟨q1,q2,q3,q4⟩:=Tt (n:=z.length) (i:=i) (j:=k) hk;exact .inl ⟨p,vs,i,k,y,rfl,rfl,e,by omega,by omega,by rw[rv.length];exact q1,hy,h _ _ _ x2 S2 (ry.mono x2)⟩
       .rw[if_neg hb]at h;exact h.elim
    |_=>exact h.elim
 |_=>cases ds<;>exact h.elim
end
section
variable {X:Cx} {a b c e o:Expr} {es:List Expr} {pos p apos cpos:aU} {f g h:E3} {gl:d_}
theorem ZpU:dm X (.type "str") (λxs H Q=>(∃i,xs=[.int i]/\i.natAbs.log2<1920/\Q (.str (Gk i)) H)\/∃x,xs=[.str x]/\Q (.str x) H):=by
 intro pins s σ H xs us Q I r h;rcases h with h|⟨x,rfl,q⟩
 .exact Zl1 pins s σ H xs us Q I r h
 .obtain⟨u,rfl,t,rfl⟩:=vals1 r;exact PySem.P.str_of_str ⟨.str x,H,I,⟨t,rfl⟩,q⟩
theorem ZuZ:dm X (.type "str") (rB X.K tO):=dm.imp ZpU λxs H Q ak=>by
 obtain⟨ι,M,ds,S,rd,h⟩:=ak;cases ds with
 |nil=>exact h.elim|cons d ds=>
  cases ds with
  |cons _ _=>cases d<;>exact h.elim|nil=>
   obtain⟨x,rfl,r⟩:=zq rd;cases d with
   | int i=>
    simp only[Zo4,Zup]at h;split at h
    .rename_i hz;refine .inl ⟨i,by rw[r.int_inv],hz,Zv.ok h S ?_⟩;have:=Rep.str (K:=X.K) (H:=H) (ι:=ι) (x:=gA i);exact this
    .exact h.elim
   |str z=>exact .inr ⟨_,by rw[r.str_inv],Zv.ok h S Rep.str⟩|_=>exact h.elim
theorem MK{K:Yb}{H:Hp}{ι:List Y2}:∀{x:List D} {ts:List (List Nat)} {vs:List V} {us:List Yh},iD x=Ya ts->au K H ι x vs->Vals vs us->∃l:List (aj×gn),us=mz l/\l.map (·.1)=ts.map λt=>(⟨t.toArray⟩:aj)
 |[],ns,vs,us,h,r,v=>by
  have e:=r.nil_inv;subst e;cases v;have:ns=[]:=by simpa[iD]using h.symm
  subst this;exact⟨[],rfl,rfl⟩
 | .str i::x,ns,vs,us,h,r,v=>by
  obtain⟨u,vs',rfl,r1,r2⟩:=r.cons_inv;have e:=r1.str_inv;subst e;cases v with
  | @cons _ z _ us' rz Va=>
  obtain⟨t,rfl⟩:=rz;simp only[iD]at h;cases hx:iD x with
  |none=>rw[hx]at h;cases h|some ms=>
   rw[hx]at h;have:ns=i::ms:=by simpa using h.symm
   subst this;obtain⟨l,rfl,e⟩:=MK hx r2 Va;exact⟨(_,t)::l,rfl,by simp[e]⟩
 | .non::_,_,_,_,h,_,_=>by simp[iD]at h|.bl _::_,_,_,_,h,_,_=>by simp[iD]at h|.int _::_,_,_,_,h,_,_=>by simp[iD]at h|.tup _::_,_,_,_,h,_,_=>by simp[iD]at h
 | .bF _::_,_,_,_,h,_,_=>by simp[iD]at h|.ref _::_,_,_,_,h,_,_=>by simp[iD]at h
theorem MN(sep:List Nat):∀ts:List (List Nat),Str.join (⟨sep.toArray⟩:aj) (ts.map λt=>(⟨t.toArray⟩:aj))=⟨(glue sep ts).toArray⟩
 |[]=>rfl|[x]=>rfl|x::y::xs=>by have ih:=MN sep (y::xs);simp only[Ys]at ih ⊢;simp only[Str.join,glue]at ih ⊢;rw[ih];show(⟨(x.toArray++sep.toArray)++(glue sep (y::xs)).toArray⟩:aj)=_;simp
theorem ZsS{sep:List Nat}{ts:List (List Nat)}(h:k_ sep ts<=SZ):JoinOk (⟨sep.toArray⟩:aj) (ts.map λt=>(⟨t.toArray⟩:aj))=true:=by
 have gen:∀(ts:List (List Nat)) (k:Nat),JL (λx1 (x2:aj)=>x1+x2.length+(⟨sep.toArray⟩:aj).length) k (ts.map λt=>(⟨t.toArray⟩:aj))=k+k_ sep ts:=by
  intro ts
  induction ts with
  |nil=>intro k;simp[k_]|cons t ts ih=>intro k;simp only[Ys,jD,ih];simp[k_,mF];exact Y0 (lD 0 0x321cc0c3210ccc0 T1) (lD 0 0x3210ccc321cc0c0 T1)
 unfold JoinOk Yju;rw[List.foldl_toArray,gen];have:bH>=SZ:=j8;simp only[wz,Ykz,decide_eq_false_iff_not];exactλz=>lC 3 0x6210102011011 T1 z this h
theorem Zwf:kO X "str.join" (rM X.K uR):=by
 intro pins s σ H x xs v us Q I rx rs h;obtain⟨ι,M,a,ds,S,ra,rd,h⟩:=h;cases a with
 | str sep=>
  cases ds with
  |nil=>exact h.elim|cons d ds=>
   cases ds with
   |cons _ _=>cases d<;>exact h.elim|nil=>
    cases d with
    | ref n=>
     simp only[ZmD]at h;cases hn:M[n]? with
     |none=>simp only[hn]at h;exact h.elim|some ob=>
      cases ob with
      |dct _=>simp only[hn]at h;exact h.elim|cR _=>simp only[hn]at h;exact h.elim|ins _ _=>simp only[hn]at h;exact h.elim|lst z=>
       simp only[hn]at h;cases hs:iD z with
       |none=>simp only[hs]at h;exact h.elim|some ts=>
        simp only[hs]at h;split at h
        .rename_i hz;have:=ra.str_inv;subst this;obtain⟨w',ws,rfl,r1,r2⟩:=rd.cons_inv;have:=r2.nil_inv;subst this;obtain⟨p,hp,rfl⟩:=r1.dM;obtain⟨t,rfl⟩:=rx;obtain⟨u,rfl,ru⟩:=vals1 rs;cases ru;obtain⟨vs,e,rv⟩:=S.obj n _ p hn hp;obtain⟨its,rr,pl,zl⟩:=I.list (bL.of e);obtain⟨l,rfl,el⟩:=MK hs rv rr;refine SC.join pl.isList el (ZsS hz) λt' k=>⟨.str _,H,I.tok _,⟨t',rfl⟩,?_⟩;rw[Txt.join,Yip,MN];exact Zv.ok h S Rep.str
        .exact h.elim
    |_=>exact h.elim
 |_=>exact h.elim
theorem MP(ho:C3 X o f)(ha:CA X (e::es) gl)(hbase:nQ o "join" X.env (aN o X.env)=aN o X.env:=by rfl)(hfew:((cL cpos (Yy (e::es) X.env)).all (λx=>!x.1)&&(jb cpos (iZ [] X.env)).all (λx=>x.1.isSome)
   &&decide ((e::es).length+([]:List Keyword).length+(if([]:List Keyword).isEmpty then 0 else 1)<30))=true:=by rfl)(hline:(apos.endLine==cpos.line)=true:=by rfl)(hs:Yy (e::es) X.env=(false,aN e X.env)::Yy es X.env:=by rfl)(hplain:(cL cpos (Yy es X.env)).any (·.1)=false:=by rfl):
  C3 X (.Call (.Attribute o "join" apos) (e::es) [] cpos) (aG fL uR f gl):=
 (BZ Ko RP Yiq Zwf ho ha hbase hfew hline hs hplain).imp (CN MF)
end
section
variable {X:Cx} {a b c e o:Expr} {es:List Expr} {pos p apos cpos:aU} {f g h:E3} {gl:d_}
theorem Zqr{t:gn}{y:aj}{u:gn}(hy:(y.length==0)=false)(hz:x.length+2<=bH)(h:∀(l:List (aj×gn)) (k:Nat),l.map (·.1)=Txt.split x y->l.length<=x.length+2->Q (.ref s.heap.objs.size) {s with heap:=s.heap.push {cls:=.type "list",data:=.seq (mz l).toArray},toks:=k}):
  ao (aB prog w) A (call (.builtin "str.split") [.str x t,.str y u]) Q E s:=by
 have e1:=StrLaws.occ_length_le x y 0 x.length (x.length+1);have e2:=length_partsBetween x (Bu x y 0 x.length (x.length+1)) y.length;have hn:(Yhb x (Bu x y 0 x.length (x.length+1)) y.length).length<=bH:=lD 3 0x300321b2c01a2c101a1c021 T1 e2 e1 hz;cases h1:(decide (x.length<y.length)|| decide (Yjv x<Yjv y))with
 | true=>
  exact qN RX (yp s x t) RV (RT (.str x t) (.str y u)) (meets_str_split_cannot_occur x y t u h1)
   (h [(x,t)] s.toks (if_pos h1).symm (by simp))
 | false=>
  cases hf:(Bu x y 0 x.length (x.length+1)).isEmpty with
  | true=>
   exact qN RX (yp s x t) RV (RT (.str x t) (.str y u)) (meets_str_split_not_found x y t u h1 hy hf)
    (h [(x,t)] s.toks ((if_neg (ne_true_of_eq_false h1)).trans (if_pos hf)).symm (by simp))
  |false=>refine qN RX (yp s x t) RV (RT (.str x t) (.str y u)) (meets_str_split_sep x y t u h1 hy hf (lB 1 1099815390209 T1 hz) hn) ?_;rw[strsFrom_eq];refine h (numbered s.toks _) _ ((numbered_texts s.toks _).trans ((if_neg (ne_true_of_eq_false h1)).trans (if_neg (ne_true_of_eq_false hf))).symm) ?_;have e3:=congrArg ur (numbered_texts s.toks (Yhb x (Bu x y 0 x.length (x.length+1)) y.length));rw[Yu]at e3;exact lD 3 0x21b3c00a3c201a2c1211021 T1 e3 e2 e1
theorem Zkr:dm X (.type "int") (λxs H Q=>∃x n,xs=[.str x]/\intText? x=Ya n/\x.length<=640/\Q (.int n) H):=by intro pins s σ H xs us Q I r h;obtain⟨x,n,rfl,hn,hz,q⟩:=h;obtain⟨u,rfl,t,rfl⟩:=vals1 r;exact PySem.W.KIN.call_text hn hz ⟨.int n,H,I.tok _,⟨_,rfl⟩,q⟩
theorem Zwj:dm X (.type "int") (rB X.K uT):=dm.imp (dm.or Zx3 Zkr) λxs H Q ak=>by
 obtain⟨ι,M,ds,S,rd,h⟩:=ak
 match ds,rd,h with
 | [.str x],rd,h=>
  obtain⟨v,rfl,r⟩:=zq rd;simp only[ZrW,ZqW]at h;cases hn:JR ⟨x.toArray⟩with
  |none=>rw[hn]at h;exact h.elim|some n=>
   rw[hn]at h;dsimp only at h;split at h
   .rename_i hz;exact .inr ⟨_,n,by rw[r.str_inv],hn,by simpa[mF]using hz,Zv.ok h S Rep.int⟩
   .exact h.elim
 |[],rd,h=>exact h.elim|[.int i],rd,h=>exact .inl ⟨ι,M,_,S,rd,h⟩|[.bl i],rd,h=>exact .inl ⟨ι,M,_,S,rd,h⟩|[.non],rd,h=>exact h.elim
 |[.tup _],rd,h=>exact h.elim|[.bF _],rd,h=>exact h.elim|[.ref _],rd,h=>exact h.elim|.str _::_::_,rd,h=>exact h.elim
 | .int _::_::_,rd,h=>exact h.elim|.bl _::_::_,rd,h=>exact h.elim|.non::_::_,rd,h=>exact h.elim|.tup _::_::_,rd,h=>exact h.elim
 | .bF _::_::_,rd,h=>exact h.elim|.ref _::_::_,rd,h=>exact h.elim
theorem Vb{K:Yb}{H:Hp}{ι:List Y2}:∀(l:List (aj×gn)),Vals (l.map λp=>V.str p.1) (mz l)/\au K H ι ((l.map λp=>p.1.cps.toList).map D.str) (l.map λp=>V.str p.1)
 |[]=>⟨.nil,au.nil⟩|p::l=>⟨.cons ⟨p.2,rfl⟩ (Vb (K:=K) (H:=H) (ι:=ι) l).1,au.cons (Rep.str (x:=p.1.cps.toList)) (Vb l).2⟩
theorem m_split:kO X "str.split" (rM X.K ql):=by
 intro pins s σ H x xs v us Q I rx rs h;obtain⟨ι,M,a,ds,S,ra,rd,h⟩:=h;cases a with
 | str z=>
  cases ds with
  |nil=>exact h.elim|cons d ds=>
   cases ds with
   |cons _ _=>cases d<;>exact h.elim|nil=>
    cases d with
    | str y=>
     simp only[ZkP]at h;split at h
     .rename_i hz;have:=ra.str_inv;subst this;obtain⟨w',ws,rfl,r1,r2⟩:=rd.cons_inv;have:=r2.nil_inv;subst this;have:=r1.str_inv;subst this;obtain⟨t,rfl⟩:=rx;obtain⟨u,rfl,ru⟩:=vals1 rs;obtain⟨t',rfl⟩:=ru;have zl:=j8;refine Zqr ?_ ?_ λl k hl hn=>?_
      .have:=hz.1;simp[mF];intro e;subst e;simp at this
      .simp only[mF,Yq];exact Yi hz.2 zl
      .have hq:=I.fresh;obtain⟨v1,r'⟩:=Vb (K:=X.K) (H:=H) (ι:=ι) l;have e1:(l.map λp=>p.1.cps.toList)=pC z y:=by
        rw[pC,←hl,ji];rfl
       rw[e1]at r';obtain⟨x2,S2,r2⟩:=S.lst hq r';refine⟨.ref s.heap.objs.size,_,I.laid (λb o' e=>Yn _ e) (Yt _) (show gQ X.prog X.w _ _ _ (.lst (l.map λp=>V.str p.1))from⟨?_,mz l,_,v1,Y4 _ rfl⟩),rfl,h _ _ _ x2 S2 r2⟩;simp only[Yu,mF,Yq]at hn ⊢;exact lD 3 0x300221b1c01320121b1c001 T1 hn zl hz.2
     .exact h.elim
    |_=>exact h.elim
 |_=>exact h.elim
theorem Vc(ho:C3 X o f)(ha:CA X (e::es) gl)(hbase:nQ o "split" X.env (aN o X.env)=aN o X.env:=by rfl)(hfew:((cL cpos (Yy (e::es) X.env)).all (λx=>!x.1)&&(jb cpos (iZ [] X.env)).all (λx=>x.1.isSome)
   &&decide ((e::es).length+([]:List Keyword).length+(if([]:List Keyword).isEmpty then 0 else 1)<30))=true:=by rfl)(hline:(apos.endLine==cpos.line)=true:=by rfl)(hs:Yy (e::es) X.env=(false,aN e X.env)::Yy es X.env:=by rfl)(hplain:(cL cpos (Yy es X.env)).any (·.1)=false:=by rfl):
  C3 X (.Call (.Attribute o "split" apos) (e::es) [] cpos) (aG fL ql f gl):=
 (BZ Ko PySem.F.slot_str_split PySem.F.type_str_split m_split ho ha hbase hfew hline hs hplain).imp (CN MF)
end
section
variable {X:Cx} {a b c e o:Expr} {es:List Expr} {pos p p1 p2 p3 pt apos cpos:aU} {f g h:E3} {gl:d_}
theorem ZtH(K:Yb)(t:String)(T1 T2:o_)(ht:t∈["NoneType","bool","int","str","list","tuple","dict"]):
  PySem.W.kitAny K (.type t) [.type (fX T1),.type (fX T2)]=Ya ((t==fX T1|| (t== "bool" &&fX T1== "int"))|| (t==fX T2|| (t== "bool" &&fX T2== "int"))):=by
 simp only[Yo,qL,or_false]at ht;rcases ht with rfl|rfl|rfl|rfl|rfl|rfl|rfl <;>cases T1<;>cases T2<;>kernel_rfl
theorem Ztu{x:V}(I:Inv X pins σ H s)(S:aH X.K H ι M)(r:Rep X.K H ι d x)(ru:RelV x u)(hd:kY .int d M≠Yl):
  ∃(t:String) (Hc:aR->Prop),PySem.W.KitX X.K u (.type t) Hc/\Hc s.heap/\u≠ .builtin "__main__.__loader__#opaque" /\t∈["NoneType","bool","int","str","list","tuple","dict"]/\∀T b,kY T d M=Ya b->b=(t==fX T|| (t== "bool" &&fX T== "int")):=by
 cases d with
 | non=>
  have:=r.jA;subst this;cases(show u=Value.none from ru);exact⟨"NoneType",_,YG,True.intro,(λz=>nomatch z),by simp,λT b e=>by
   have hb:b=false:=by simpa  using e.symm
   subst hb;cases T<;>rfl⟩
 | bl c=>
  have:=r.gP;subst this;cases(show u=Value.bool c from ru);exact⟨"bool",_,YH,True.intro,(λz=>nomatch z),by simp,λT b e=>by
   have hb:b=(T== .bool|| T== .int):=by simpa  using e.symm
   subst hb;cases T<;>rfl⟩
 | int i=>
  have:=r.int_inv;subst this;obtain⟨t,q⟩:=(show∃t,u=Value.int i t from ru);cases q;exact⟨"int",_,YK,True.intro,(λz=>nomatch z),by simp,λT b e=>by
   have hb:b=(T== .int):=by simpa  using e.symm
   subst hb;cases T<;>rfl⟩
 | str z=>
  have:=r.str_inv;subst this;obtain⟨t,q⟩:=(show∃t,u=Value.str _ t from ru);cases q;exact⟨"str",_,YL,True.intro,(λz=>nomatch z),by simp,λT b e=>by
   have hb:b=(T== .str):=by simpa  using e.symm
   subst hb;cases T<;>rfl⟩
 | tup ds=>
  obtain⟨a,vs,rfl,st,rr⟩:=r.jg;cases ru;obtain⟨its,_,pt,_⟩:=I.tuple st;obtain⟨o,h1,h2,_⟩:=pt;exact⟨"tuple",_,Qo,⟨o,h1,h2⟩,(λz=>nomatch z),by simp,λT b e=>by
   have hb:b=(T== .tuple):=by simpa  using e.symm
   subst hb;cases T<;>rfl⟩
 |bF ds=>exact absurd (by simp) hd|ref n=>
  simp only[Zo8,ZpD,ZoO,Zpi,ZoR,Zpx,Zo3]at hd;cases hn:M[n]? with
  |none=>exact absurd (by simp[hn]) hd|some o=>
   obtain⟨a,ha,rfl⟩:=r.dM;cases o with
   | lst z=>
    obtain⟨vs,ev,_⟩:=S.obj n _ a hn ha;cases(show u=Value.ref a from ru);obtain⟨_,_,n',_,h1⟩:=(show gQ X.prog X.w H s.heap a (.lst vs)from I.hok a _ ev);exact⟨"list",_,Qs,⟨_,h1,rfl⟩,(λz=>nomatch z),by simp,λT b e=>by
     have hb:b=(T== .list):=by simpa[hn]using e.symm
     subst hb;cases T<;>rfl⟩
   | dct z=>
    obtain⟨vs,ev,_⟩:=S.obj n _ a hn ha;cases(show u=Value.ref a from ru);obtain⟨_,_,vs',_,q⟩:=(show gQ X.prog X.w H s.heap a (.dK vs)from I.hok a _ ev);obtain⟨o,es,ep,h1,h2,_⟩:=q;exact⟨"dict",_,Qt,⟨o,h1,h2.1⟩,(λz=>nomatch z),by simp,λT b e=>by
     have hb:b=false:=by simpa[hn]using e.symm
     subst hb;cases T<;>rfl⟩
   |cR z=>exact absurd (by simp[hn]) hd|ins _ _=>exact absurd (by simp[hn]) hd
theorem Zpb(T1 T2:o_){y:aj}{k}(hm:X.mg "isinstance" =Yl)(hm1:X.mg x=Yl)(hm2:X.mg y=Yl)(h:C3 X a f)(hx:x=(qT (fX T1)):=by rfl)(hy:y=(qT (fX T2)):=by rfl)(hg:Gl X "isinstance":=by rfl)(hg1:Gl X x:=by rfl)(hg2:Gl X y:=by rfl)(hn:x≠ "__name__":=by decide)(hd:(x==("__debug__":aj))=false:=by decide)(hn':y≠ "__name__":=by decide)(hd':(y==("__debug__":aj))=false:=by decide)(hs:Yy (a::[.Tuple [.Name x p1,.Name y p2] k pt]) X.env=(false,aN a X.env)::Yy [.Tuple [.Name x p1,.Name y p2] k pt] X.env:=by rfl)(hs1:Yy (.Tuple [.Name x p1,.Name y p2] k pt::[]) X.env=(false,aN (.Tuple [.Name x p1,.Name y p2] k pt) X.env)::Yy [] X.env:=by rfl)(hs2:Yy (.Name x p1::[.Name y p2]) X.env=(false,aN (.Name x p1) X.env)::Yy [.Name y p2] X.env:=by rfl)(hs3:Yy (.Name y p2::[]) X.env=(false,aN (.Name y p2) X.env)::Yy [] X.env:=by rfl)(hpl:(cL pos (Yy [.Tuple [.Name x p1,.Name y p2] k pt] X.env)).any (·.1)=false:=by rfl):C3 X (.Call (.Name "isinstance" p) [a,.Tuple [.Name x p1,.Name y p2] k pt] [] pos) (e1 (Hi T1 T2) f):=by
 subst hx hy;have hc:dm X (.builtin "isinstance") (λxs H Q=>∃ι M d x q,xs=[x,.ref q]/\H q=Ya (.tup [.ty (fX T1),.ty (fX T2)])/\aH X.K H ι M/\Rep X.K H ι d x/\Zv X.K H ι Q (Hi T1 T2 d M)):=by
  intro pins s σ H xs us Q I r q;obtain⟨ι,M,d,x,tp,rfl,et,S,rd,q⟩:=q;obtain⟨u,w',rfl,ru,kW⟩:=vals2 r;cases kW;unfold Hi at q;cases e1:kY T1 d M with
  |none=>rw[e1]at q;exact q.elim|some b1=>
   cases e2:kY T2 d M with
   |none=>rw[e1,e2]at q;exact q.elim|some b2=>
    rw[e1,e2]at q;have hd:kY .int d M≠Yl:=λz=>by
     cases d with
     |ref n=>
      simp only[Zo8,ZpD,ZoO,Zpi,ZoR,Zpx,Zo3]at z e1;cases hn:M[n]? with
      |none=>simp[hn]at e1|some o=>cases o<;>simp[hn]at z e1
     |bF _=>simp  at e1|_=>simp  at z
    obtain⟨t,Hc,kx,hh,hl,ht,hb⟩:=Ztu I S rd ru hd;obtain⟨_,its,rt,pt⟩:=(show gQ X.prog X.w H s.heap tp (.tup [.ty (fX T1),.ty (fX T2)])from I.hok tp _ et);obtain⟨v1,v2,rfl,q1,q2⟩:=vals2 rt;cases q1;cases q2;obtain⟨ob,g1,⟨g2,g3⟩,n,g4⟩:=pt;have ho:ob={cls:=.type "tuple",dict:=ob.dict,data:=.seq [.type (fX T1),.type (fX T2)].toArray n,slots:=ob.slots}:=by cases ob;simp only at g2 g4;subst g2 g4;rfl
    rw[ho]at g1;refine PySem.W.kia_tup kx I.fj hh g1 ((ZtH X.K t T1 T2 ht).trans ?_) hl λtk=>⟨.bl (b1|| b2),H,I.tok _,rfl,Zv.ok q S Rep.bl⟩;rw[hb T1 b1 e1,hb T2 b2 e2]
 refine(Lg hc hg hm ZgR (wH h (wH (Zrb (wH (Tc hg1 hm1 (U7 T1) (v:=.ty (fX T1)) rfl hn hd) (wH (Tc hg2 hm2 (U7 T2) (v:=.ty (fX T2)) rfl hn' hd') Gz hs3) hs2)) Gz hs1) hs) (by decide) (by decide) hs hpl).imp λσ H Q ak=>?_;obtain⟨ι,M,env,S,E,h⟩:=ak;obtain⟨d,M1,e1,h⟩:=Zv.bind h;refine⟨ι,M,env,S,E,?_⟩;rw[e1];intro v H1 ι1 x1 S1 r1;refine⟨by simp;exact Yi (by decide) j8,λq hq=>?_⟩;have x2:Ext X.K H1 ι1 (upd H1 q (.tup [.ty (fX T1),.ty (fX T2)])) ι1:=Loose.ext (.inl hq);exact⟨ι1,M1,d,v,q,rfl,qW,S1.other (.inl hq) (S1.fresh hq),r1.mono x2,h.up (x1.trans x2)⟩
end
def MT(K:Yb)(H:Hp)(ι:List Y2)(it:Hj)(J:It):Prop:=∀(i:Nat) H2 ι2 M2,Ext K H ι H2 ι2->aH K H2 ι2 M2->jO it.lk M2=true ->
 (∀d,it.items[i]?=Ya d->J.go i H2/\∀x H3,J.K_ i H2 x H3->Ext K H2 ι2 H3 ι2/\aH K H3 ι2 M2/\Rep K H3 ι2 d x)/\(i=it.items.length->J.stop i H2)
def CV(K:Yb)(H:Hp)(ι:List Y2)(R:It->Hp->Prop)(r:R3 Hj):Prop:=match r with
 | .ok it M'=>∀J H' ι',Ext K H ι H' ι'->aH K H' ι' M'->MT K H' ι' it J->R J H'|_=>False
def tIL(K:Yb)(g:yW):TI:=λσ H R=>∃ι M env,aH K H ι M/\cM K H ι env σ/\CV K H ι R (g env M)
def CIL(X:Cx)(tg e:Expr)(g:yW):Prop:=PI X tg e (tIL X.K g)
theorem CV.bind{Q:It->Hp->Prop}{r:R3 α}{k:α->Store->R3 Hj}(h:CV K H ι Q (r.bind k)):∃a M,r= .ok a M/\CV K H ι Q (k a M):=by
 cases r with
 |ok a M=>exact⟨a,M,rfl,h⟩|exc x M=>exact h.elim|bad=>exact h.elim
theorem _root_.L2.Inv.Jd{h':aR}{t':Nat}(I:Inv X pins σ H s)(k:∀b o,b∉fp->s.heap.get? b=Ya o->h'.get? b=Ya o)(hf:∀b∈fp,iR X pins H b):
  Inv X pins σ H {s with heap:=h',toks:=t'}:=by
 have Gx:∀b u,H b=Ya u->b∉fp:=λb u e z=>by rw[(hf b z).1]at e;cases e
 refine I.step (g':=s.gens) (d':=s.drawn) (ch:=fp) (λb hb=>⟨(hf b hb).2.2.2.1,(hf b hb).2.1,(hf b hb).2.2.2.2.1,(hf b hb).2.2.2.2.2⟩) (λb o _ _ hc e _=>k b o hc e) (λb o _ _ hc e _=>⟨o.slots,k b o hc e⟩) (λ_ _ _ _ n=>n)
  (λb o hc e=>⟨o,k b o hc e⟩) (λ_ _ e=>e) (λ_ _ _ e=>e) (λb ps e=>⟨#[],by rw[e];simp⟩) (λm hm=>?_) (λb u e=>?_) I.bare
 .obtain⟨o,es,ep,ho,r⟩:=hm;exact⟨o,es,ep,k _ o (λz=>(hf _ z).2.1 rfl) ho,r⟩
 .refine(I.hok b u e).stay (λc v hc q=>k c v ?_ q) (λ_ q=>q) λ_ _ q=>q;rcases hc with z|z
  .rw[z];exact Gx b u e
  .exact Gx c _ z
noncomputable def Ite(S:Hp->List V->Prop):It:=⟨λi H=>∃xs x,S H xs/\xs[i]?=Ya x,λi H x H'=>∃T y,x= .ref T/\H T=Yl/\H'=upd H T (.tup [.int i,y])/\∀xs,S H xs->xs[i]?=Ya y,λi H=>∃xs,S H xs/\xs.length<=i⟩
theorem Vd{h' h'':aR}{e:Y2}{x:V}{tk tk':Nat}(I:Inv X pins σ H s)(hf:∀b∈[e,it],iR X pins H b)(he:e<s.heap.objs.size)(hi:it<s.heap.objs.size)(ru:RelV x u)(hT:h'.get? s.heap.objs.size=Ya {cls:=.type "tuple",data:=.seq #[.int i tk,u]})(hk:∀b o,b≠e->b≠it->s.heap.get? b=Ya o->h'.get? b=Ya o)(hs:Bm e h' h''):
  Inv X pins σ (upd H s.heap.objs.size (.tup [.int i,x])) {s with heap:=h'',toks:=tk'}/\∀b∈[e,it],upd H s.heap.objs.size (.tup [.int i,x]) b=Yl:=by
 have hn:∀b∈[e,it],upd H s.heap.objs.size (.tup [.int i,x]) b=Yl:=λb hb=>by
  have:b≠s.heap.objs.size:=by
   simp only[Yo,qL,or_false]at hb;rcases hb with rfl|rfl
   .exact dR he
   .exact dR hi
  rw[gq this];exact(hf b hb).1
 refine⟨?_,hn⟩;have I1:Inv X pins σ (upd H s.heap.objs.size (.tup [.int i,x])) {s with heap:=s.heap.push {cls:=.type "tuple",data:=.seq ([.int i tk,u]:List Yh).toArray},toks:=s.toks}:=I.laid (t':=s.toks) (λb o e=>Yn _ e) (Yt _) (show gQ X.prog X.w _ _ _ (.tup [.int i,x])from⟨by rw[Bc];show 2<=_;decide,[.int i tk,u],.cons ⟨tk,rfl⟩ (.cons ru .nil),sX.new _ _⟩);have I3:=I1.Jd (t':=tk') (h':=h'') (fp:=[e,it]) (λb o hb q=>by
  have hbe:b≠e:=λz=>hb (by simp[z]);have hbi:b≠it:=λz=>hb (by simp[z]);rcases Heap.get?_push_cases q with⟨rfl,rfl⟩|q
  .exact(hs.2 _ (Gd he)).trans hT
  .exact(hs.2 _ hbe).trans (hk b o hbe hbi q)) λb hb=>⟨hn b hb,(hf b hb).2⟩
 exact I3
theorem ZnV{P:Yae}{es:List Expr}{k:Nat}{pos:aU}(a e it:Y2)(hne:e≠it):
  Turn P w K (.Tuple es k pos) (Ite λH xs=>bL K H a xs) [e,it] e (λi h=>(∃old,yq h e it i old)/\h.IsListIter it a i)where
 mem:=by simp
 obj:=λi h st b hb=>by
  obtain⟨⟨old,he⟩,o,ho,c,d⟩:=st;simp only[Yo,qL,or_false]at hb;rcases hb with rfl|rfl
  .exact⟨_,he,λv z=>by cases z⟩
  .exact⟨o,ho,λv z=>by rw[d]at z;cases z⟩
 keep:=λi h h' st k=>by obtain⟨⟨old,he⟩,hit⟩:=st;exact⟨⟨old,k e (by simp) _ he⟩,hit.at λo q=>k it (by simp) o q⟩
 item:=by
  intro X hP hw hK hc i pins s σ H E I hf st hg;subst hP hw hK;obtain⟨xs,x,hq,hx⟩:=hg;obtain⟨its,rv,p,hz⟩:=I.list hq;obtain⟨u,hu,ru⟩:=rv.get hx;obtain⟨⟨old,he⟩,hit⟩:=st;have hel:=Y6 he;have hil:it<s.heap.objs.size:=by obtain⟨o,ho,_⟩:=id hit;exact Y6 ho
  refine wpAny_pyNext_enum_item he hit p.isList (x:=u) (by simpa using hu) hne λh' ho hit' hT hsz hk=>?_;refine⟨_,rfl,QM (s:={s with heap:=h',toks:=s.toks+1}) ho λh'' Fl hs''=>?_⟩;obtain⟨I2,n2⟩:=Vd (x:=x) (tk':=s.toks+1) I hf hel hil ru hT hk hs'';exact⟨.ref s.heap.objs.size,_,I2,rfl,⟨_,x,rfl,I.hok.fresh (Yt _),rfl,λys hy=>by rw[I.PJ hy hq];exact hx⟩,⟨⟨_,by simpa using Fl⟩,hit'.extBut hs''.extBut (dg hne)⟩,n2⟩
 done:=by intro X hP hw hK hc i pins s σ H E I hf st hg;subst hP hw hK;obtain⟨xs,hq,hx⟩:=hg;obtain⟨its,rv,p,hz⟩:=I.list hq;obtain⟨⟨old,he⟩,hit⟩:=st;have hl:=rv.length;exact wpAny_pyNext_enum_end (I.ok.hd hc) he hit p.isList (by simp;exact lC 2 2268279672881 T1 hl hx) λh' eb=>⟨rfl,I.Jd (t':=s.toks) (λb o hb q=>eb b o (λz=>hb (by simp[z])) q) hf⟩
 self:=λ_ _ _ _ _ st h=>by obtain⟨⟨old,he⟩,_⟩:=st;exact Ba he h
theorem boot_enumerate:kI "enumerate" =Ya (.type "enumerate"):=by decide +kernel
open AutoSeq1 (wpAny_loadPart')
set_option maxRecDepth 100000
section
variable {prog:Yae} {w:bh} {A:bU} {E:Yh->Yk->Prop} {s:Yk}
theorem ZhF{it t:Y2}{x:Yh}(hit:s.heap.IsTupleIter it t i)(ht:s.heap.IsTuple t items)(hx:items[i]?=Ya x)(hQ:∀h',h'.IsTupleIter it t (i+1)->Bm it s.heap h'->Q x {s with heap:=h'}):ao (aB prog w) A (Ks (.ref it)) Q E s:=by
 obtain⟨o,ho,hc,hd⟩:=id hit;obtain⟨ol,hol,_,nl,hdl⟩:=ht;unfold Ks;refine Yg (yd (name:=qT "__next__") hit.typeIs Km
  (vY Km hit.typeIs Yja ?_ (Yjw _)))
 show ao _ _ (field (.ref it) 0>>=_) _ _ s;refine Yg (uw ho hd (x:=.ref t) rfl ?_);show ao _ _ (if(Value.ref t==Value.none)=true then _ else _) _ _ s;rw[if_neg (show¬((Value.ref t==Value.none)=true)from mD)];show ao _ _ (field (.ref it) 1>>=_) _ _ s;refine Yg (uw ho hd (x:=.int i 0) rfl ?_);show ao _ _ (seqItems? (.ref t)>>=_) _ _ s;refine Yg (FN hol hdl ?_);simp only[sU,hx];refine Yg (wpAny_setField ho hd (by simp) (Yv ⟨x,rfl,Yv (hQ _ ?_ (Yjx ..))⟩));exact⟨_,J_ _ ho (Obj.isFreed_of_fields (Ykh hd _)),(Obj.cls_mapFields ..).trans hc,by rw[Ykh hd];simp[v_]⟩
theorem Zfg{it t:Y2}(hh:A.handled=Yl)(hit:s.heap.IsTupleIter it t i)(ht:s.heap.IsTuple t items)(hx:items[i]?=Yl)(hE:∀h' e,Rn it s.heap h'->(∃o,h'.get? e=Ya o/\o.cls= .type "StopIteration")->E (.ref e) {s with heap:=h'}):ao (aB prog w) A (Ks (.ref it)) Q E s:=by
 obtain⟨o,ho,hc,hd⟩:=id hit;obtain⟨ol,hol,_,nl,hdl⟩:=ht;unfold Ks;refine Yg (yd (name:=qT "__next__") hit.typeIs Km
  (vY Km hit.typeIs Yja ?_ (Yjw _)))
 show ao _ _ (field (.ref it) 0>>=_) _ _ s;refine Yg (uw ho hd (x:=.ref t) rfl ?_);show ao _ _ (if(Value.ref t==Value.none)=true then _ else _) _ _ s;rw[if_neg (show¬((Value.ref t==Value.none)=true)from mD)];show ao _ _ (field (.ref it) 1>>=_) _ _ s;refine Yg (uw ho hd (x:=.int i 0) rfl ?_);show ao _ _ (seqItems? (.ref t)>>=_) _ _ s;refine Yg (FN hol hdl ?_);simp only[sU,hx];refine Yg (JW (Yg (wpAny_setField ho hd (by simp) ?_)));show ao _ _ (newExc (.type "StopIteration") []>>=_) _ _ _;refine Yg ?_;simp only[newExc,newTuple];refine Yg (uv ?_ (by size_fits));refine Yg (m:=firstArgMember _ _) (JT (a:=Value.none) (by first|rfl|(simp only[firstArgMember];rfl)) ?_);refine uv ?_ (by size_fits);simp only[raiseNew];refine Yg (wpAny_handled ?_)
 first|rw[show A.in1.handled=Yl from hh]|rw[hh]
 refine Yg (Yv (wpAny_throw ?_));exact hE _ _ (((Yjx ..).extBut.push _).push _) ⟨_,Y4 _ rfl,rfl⟩
end
theorem Zmu(hh:A.handled=Yl)(it l:Y2)(hne:l≠it)(items:Array Yh):
  Draws prog w A it [it,l] items.size (λi v=>items[i]?=Ya v) (λi h=>h.IsTupleIter it l i/\h.IsTuple l items)where
 live:=λ_ _ st=>let⟨o,ho,_⟩:=st.1;⟨o,ho⟩
 frame:=λ_ _ _ st hk=>⟨st.1.at λo e=>hk it (by simp) o e,st.2.at λo e=>hk l (by simp) o e⟩
 item:=λi s Q E hi st hQ=>by refine ZhF st.1 st.2 (x:=items[i]) (by simp[hi]) λh' hit' hs'=>?_;exact hQ _ h' s.toks (by simp[hi]) ⟨hit',st.2.extBut hs'.extBut hne⟩ hs'
 done:=λs Q E st hE=>Zfg hh st.1 st.2 (by simp) hE
theorem Zgd(l:Y2)(items:Array Yh)(n:Nat)(dct:Option Y2)(sl:Array (Option Yh)):
  Meets (Builtin.«enumerate.__new__» ⟨[.type "enumerate",.ref l],[]⟩) (λ_ R s=>s.heap.get? l=Ya {cls:=.type "tuple",dict:=dct,data:=.seq items n,slots:=sl}/\
   R (.ok (.ret (.ref (s.heap.push {cls:=.type "tuple_iterator",data:=.fields #[.ref l,.int 0 0]}).objs.size)))
    {s with heap:=(s.heap.push {cls:=.type "tuple_iterator",data:=.fields #[.ref l,.int 0 0]}).push {cls:=.type "enumerate",data:=.fields #[.none,.bool false,.ref s.heap.objs.size,v_ 0,.none,.none]}}):=
 .of_wp λprog w A R s h=>by
  obtain⟨hp,g,d,tk,os⟩:=s;obtain⟨hl,h⟩:=h;have hsub:=sub_enumerate;have hL:Heap.IsTuple (Shared.heap ⟨hp,g,d,tk,os⟩) l items:=⟨_,hl,rfl,n,rfl⟩
  wp_walk using sJ hl
  refine Ymc λst=>Yv ?_;split
  .rename_i c _ _ _ _ _;cases(c==Value.type "enumerate")
   .wp_walk using sJ hl,JP hL
    exact⟨_,rfl,h⟩
   .wp_walk using sJ hl,JP hL
    exact⟨_,rfl,h⟩
  .wp_walk using sJ hl,JP hL
   exact⟨_,rfl,h⟩
theorem Zga{l:Y2}(hL:s.heap.IsTuple l items)(h:∀h',yq h' (s.heap.objs.size+1) s.heap.objs.size 0 .none->h'.IsTupleIter s.heap.objs.size l 0->h'.objs.size=s.heap.objs.size+2 ->
   (∀b o,s.heap.get? b=Ya o->h'.get? b=Ya o)->Q (.ref (s.heap.objs.size+1)) {s with heap:=h'}):
  ao (aB prog w) A (call (.type "enumerate") [.ref l]) Q E s:=by
 obtain⟨⟨c,dct,dt,sl⟩,hl,hc,n,hd⟩:=hL;replace hc:c= .type "tuple":=hc;replace hd:dt= .seq items n:=hd;subst hc hd;refine callType_new Yki (by decide) (F.typeCall_enumerate_1 _) (F.newCall_enumerate_1 _) (λobj=>F.args_object_init_2 obj _) Yir
  (Zgd l items n dct sl) ⟨hl,?_⟩
 have hz:(s.heap.push {cls:=.type "tuple_iterator",data:=.fields #[.ref l,.int 0 0]}).objs.size=s.heap.objs.size+1:=yr ..;show _/\_;rw[hz];have he:yq ((s.heap.push {cls:=.type "tuple_iterator",data:=.fields #[.ref l,.int 0 0]}).push
   {cls:=.type "enumerate",data:=.fields #[.none,.bool false,.ref s.heap.objs.size,v_ 0,.none,.none]}) (s.heap.objs.size+1) s.heap.objs.size 0 .none:=by
  have:=Y4 (s.heap.push {cls:=.type "tuple_iterator",data:=.fields #[.ref l,.int 0 0]})
   (o:={cls:=.type "enumerate",data:=.fields #[.none,.bool false,.ref s.heap.objs.size,v_ 0,.none,.none]}) rfl
  rw[hz]at this;exact this
 refine⟨⟨_,he,rfl⟩,h _ he ⟨_,Yn _ (Y4 _ rfl),rfl,rfl⟩ (by rw[yr,hz]) λb o x=>Yn _ (Yn _ x)⟩
theorem ZnW{P:Yae}{es:List Expr}{k:Nat}{pos:aU}(a e it:Y2)(hne:e≠it):
  Turn P w K (.Tuple es k pos) (Ite λH xs=>cT K H a xs) [e,it] e (λi h=>(∃old,yq h e it i old)/\h.IsTupleIter it a i)where
 mem:=by simp
 obj:=λi h st b hb=>by
  obtain⟨⟨old,he⟩,o,ho,c,d⟩:=st;simp only[Yo,qL,or_false]at hb;rcases hb with rfl|rfl
  .exact⟨_,he,λv z=>by cases z⟩
  .exact⟨o,ho,λv z=>by rw[d]at z;cases z⟩
 keep:=λi h h' st k=>by obtain⟨⟨old,he⟩,hit⟩:=st;exact⟨⟨old,k e (by simp) _ he⟩,hit.at λo q=>k it (by simp) o q⟩
 item:=by
  intro X hP hw hK hc i pins s σ H E I hf st hg;subst hP hw hK;obtain⟨xs,x,hq,hx⟩:=hg;obtain⟨its,rv,p,hz⟩:=I.tuple hq;obtain⟨u,hu,ru⟩:=rv.get hx;obtain⟨⟨old,he⟩,hit⟩:=st;have hel:=Y6 he;have hil:it<s.heap.objs.size:=by obtain⟨o,ho,_⟩:=id hit;exact Y6 ho
  have pt:s.heap.IsTuple a its.toArray:=p;have Ve:e≠a:=by rintro rfl;obtain⟨o,ho,hc,_⟩:=pt;rw[he]at ho;cases ho;exact absurd hc (by simp)
  have hai:a≠it:=by rintro rfl;obtain⟨o,ho,hc,_⟩:=pt;obtain⟨o',ho',hc',_⟩:=hit;rw[ho']at ho;cases ho;rw[hc']at hc;exact absurd hc (by simp)
  have D:=Zmu (prog:=X.prog) (w:=X.w) (A:=X.A.in1) (I.ok.hd hc) it a hai its.toArray;refine ZX D he ⟨hit,pt⟩ (by simpa using(Yf.mp hu).1) hne (by simp[hne,Ve]) λy h' tk hy ho hst hT hsz hk=>?_;have ey:y=u:=by
   have:its.toArray[i]?=Ya u:=by simpa using hu
   rw[this]at hy;cases hy;rfl
  subst ey;refine⟨_,rfl,QM (s:={s with heap:=h',toks:=tk+1}) ho λh'' Fl hs''=>?_⟩;obtain⟨I2,n2⟩:=Vd (x:=x) (tk':=tk+1) I hf hel hil ru hT hk hs'';exact⟨.ref s.heap.objs.size,_,I2,rfl,⟨_,x,rfl,I.hok.fresh (Yt _),rfl,λys hy=>by rw[I.PB hy hq];exact hx⟩,⟨⟨_,by simpa using Fl⟩,hst.1.extBut hs''.extBut (dg hne)⟩,n2⟩
 done:=by
  intro X hP hw hK hc i pins s σ H E I hf st hg;subst hP hw hK;obtain⟨xs,hq,hx⟩:=hg;obtain⟨its,rv,p,hz⟩:=I.tuple hq;obtain⟨⟨old,he⟩,hit⟩:=st;have hl:=rv.length;have pt:s.heap.IsTuple a its.toArray:=p;have hT:s.TypeIs (.ref e) "enumerate":=⟨_,he,rfl⟩;unfold ux;refine Yg (wpAny_attempt (yd (name:=qT "__next__") hT Kq
   (vY Kq hT Yh3 ?_ (Yhk _))))
  show ao _ _ (field (.ref e) 2>>=_) _ _ _;refine Yg (uw he rfl (x:=.ref it) rfl ?_);refine Yg (Zfg (I.ok.hd hc) hit pt (by simp;exact lC 2 2268279672881 T1 hl hx) λh' x he' hx'=>?_);obtain⟨o,ho,hc⟩:=hx';refine Yg (Z_ (T:="StopIteration") (b:=true) ⟨o,ho,hc⟩ isSubtype_stop ?_);exact Yv ⟨rfl,I.Jd (t':=s.toks) (λb o hb q=>he' b o (λz=>hb (by simp[z])) q) hf⟩
 self:=λ_ _ _ _ _ st h=>by obtain⟨⟨old,he⟩,_⟩:=st;exact Ba he h
section
variable {X:Cx} {es:List Expr} {k:Nat} {a:Expr} {p pos tpos:aU} {f:E3}
def Zvg(K:Yb)(ta:TA):TI:=λσ H R=>ta σ H λvs H1=>∃b,vs=[.ref b]/\((∃xs,bL K H1 b xs/\R (Ite λH xs=>bL K H b xs) H1)\/∃xs,cT K H1 b xs/\R (Ite λH xs=>cT K H b xs) H1)
theorem ZtC{ta:TA}(hg:Gl X "enumerate")(hm:X.mg "enumerate" =Yl)(ha:PA X [a] ta)(hs:Yy [a] X.env=[(false,aN a X.env)]:=by rfl):PI X (.Tuple es k tpos) (.Call (.Name "enumerate" p) [a] [] pos) (Zvg X.K ta):=by
 intro pins s σ H R I h;refine Call_ (yG I hg hm boot_enumerate (Rz (aK (ha pos pins s σ H _ I h) λus s1 ⟨vs,H1,I1,r1,q1⟩=>?_) hs rfl));obtain⟨b,e,q⟩:=q1;subst e;cases r1 with
 | cons r rr=>
  cases rr
  cases r
  have fp:∀{h':aR} {s2:Yk},∀c∈[s1.heap.objs.size+1,s1.heap.objs.size],iR X pins H1 c:=λ{h' s2} c hc=>by
   have hc':s1.heap.objs.size<=c:=by simp only[Yo,qL,or_false]at hc;rcases hc with rfl|rfl <;>omega
   exact I1.vL hc' (I1.hok.fresh hc')
  rcases q with⟨xs,hq,q⟩|⟨xs,hq,q⟩
  .obtain⟨its,rv,pl,hz⟩:=I1.list hq;refine call_enumerate_list pl.isList λh' hE hI hsz hk=>?_;have I2:Inv X pins σ H1 {s1 with heap:=h'}:=I1.kept (t':=s1.toks) hk;exact Ba (s:={s1 with heap:=h'}) hE ⟨_,[s1.heap.objs.size+1,s1.heap.objs.size],_,_,H1,rfl,I2,ZnV b _ _ (Rk _),⟨⟨_,hE⟩,hI⟩,fp (h':=h') (s2:=s1),q⟩
  .obtain⟨its,rv,pl,hz⟩:=I1.tuple hq;refine Zga (show s1.heap.IsTuple b its.toArray from pl) λh' hE hI hsz hk=>?_;have I2:Inv X pins σ H1 {s1 with heap:=h'}:=I1.kept (t':=s1.toks) hk;exact Ba (s:={s1 with heap:=h'}) hE ⟨_,[s1.heap.objs.size+1,s1.heap.objs.size],_,_,H1,rfl,I2,ZnW b _ _ (Rk _),⟨⟨_,hE⟩,hI⟩,fp (h':=h') (s2:=s1),q⟩
theorem Zpp(hm:X.mg "enumerate" =Yl)(h:C3 X a f)(hg:Gl X "enumerate":=by rfl)(hs:Yy [a] X.env=[(false,aN a X.env)]:=by rfl)(hs':Yy (a::[]) X.env=(false,aN a X.env)::Yy [] X.env:=by rfl):CIL X (.Tuple es k tpos) (.Call (.Name "enumerate" p) [a] [] pos) (Uh f):=
 PI.imp (ZtC hg hm (Zc h Zf hs') hs) λσ H R ak=>by
  obtain⟨ι,M,env,S,E,h⟩:=ak;obtain⟨d,M1,e1,h⟩:=CV.bind h;refine⟨ι,M,env,S,E,?_⟩;have e2:Zb f Ze env M= .ok [d] M1:=by unfold Zb;rw[e1];rfl
  rw[e2];intro vs H1 ι1 x1 S1 r1;obtain⟨v,ws,rfl,r,q⟩:=r1.cons_inv;have:=q.nil_inv;subst this;cases d with
  | tup ds=>
   obtain⟨b,vs,rfl,s,r⟩:=r.jg;refine⟨b,rfl,.inr ⟨vs,s,h _ H1 ι1 x1 S1 ?_⟩⟩;intro i H2 ι2 M2 x S2 _;refine⟨λd hd=>?_,λhl=>⟨vs,x.tup _ _ s,by rw[r.length,hl,L_];exact Yt _⟩⟩;rw[LR]at hd;cases hq:ds[i]? with
   |none=>rw[hq]at hd;cases hd|some d0=>rw[hq]at hd;simp only[Qn,wz,Yk0]at hd;subst hd;obtain⟨v,hv,rv⟩:=r.get hq;refine⟨⟨vs,v,x.tup _ _ s,hv⟩,λy H3 hy=>?_⟩;obtain⟨T,y',rfl,hT,rfl,hall⟩:=hy;have e:=hall vs (x.tup _ _ s);rw[hv]at e;cases e;exact S2.vM hT (au.cons Rep.int (au.cons (rv.mono x) au.nil))
  | ref n=>
   cases hm:M1[n]? with
   |none=>simp only[hm]at h;exact h.elim|some o=>
    cases o with
    |dct kvs=>simp only[hm]at h;exact h.elim|cR kvs=>simp only[hm]at h;exact h.elim|ins _ _=>simp only[hm]at h;exact h.elim|lst ds=>
     simp only[hm]at h;obtain⟨b,ha,rfl⟩:=r.dM;obtain⟨vs,q,r⟩:=S1.obj n _ b hm ha;refine⟨b,rfl,.inl ⟨vs,bL.of q,h _ H1 ι1 x1 S1 ?_⟩⟩;intro i H2 ι2 M2 x S2 lk;have Hs:M2[n]?=Ya (.lst ds):=by simpa[jO]using lk
     obtain⟨vs2,q2,r2⟩:=S2.obj n _ b Hs (x.pre _ _ ha);refine⟨λd hd=>?_,λhl=>⟨vs2,bL.of q2,by rw[r2.length,hl,L_];exact Yt _⟩⟩;rw[LR]at hd;cases hq:ds[i]? with
     |none=>rw[hq]at hd;cases hd|some d0=>rw[hq]at hd;simp only[Qn,wz,Yk0]at hd;subst hd;obtain⟨v,hv,rv⟩:=r2.get hq;refine⟨⟨vs2,v,bL.of q2,hv⟩,λy H3 hy=>?_⟩;obtain⟨T,y',rfl,hT,rfl,hall⟩:=hy;have e:=hall vs2 (bL.of q2);rw[hv]at e;cases e;exact S2.vM hT (au.cons Rep.int (au.cons rv au.nil))
  |_=>exact h.elim
end
end L3
namespace L3
open PySem PySem.Spec PyProof.Rows L2
section
variable {X:Cx}
noncomputable def CZ:Yh->D
 | .int i _=>.int i|.bool b=>.bl b|.str x _=>.str x.cps.toList|_=>.non
theorem Vf{K:Yb}{H:Hp}{ι:List Y2}{d:D}{v:V}{y:Yh}(hf:cF d=true)(r:Rep K H ι d v)(rv:RelV v y):CZ y=d:=by
 cases d with
 |non=>have:=r.jA;subst this;cases rv;rfl|bl b=>have:=r.gP;subst this;cases rv;rfl|int i=>have:=r.int_inv;subst this;obtain⟨t,rfl⟩:=rv;rfl|str x=>have:=r.str_inv;subst this;obtain⟨t,rfl⟩:=rv;rfl
 |_=>simp[cF]at hf
theorem Vg{K:Yb}{H:Hp}{ι:List Y2}{a:D}:∀{ds:List D} {vs:List V} {its:List Yh},au K H ι ds vs->Vals vs its->ds.all cF=true->(ds.any λy=>cY y a)=its.any λy=>cY (CZ y) a
 |[],vs,its,r,rv,_=>by have:=r.nil_inv;subst this;cases rv;rfl|d::ds,vs,its,r,rv,hf=>by
  obtain⟨v,ws,rfl,r1,r2⟩:=r.cons_inv;cases rv with
  |cons q rv=>simp only[kj,Y5]at hf;simp only[lK,Vg r2 rv hf.2,Vf hf.1 r1 q]
theorem ZuF:aP X (dO .In) (r2 X.K rF):=by
 intro pins s σ H x y v u Q I rx ry ⟨ι,M,a,b,S,ra,rb,h⟩;unfold rF at h;cases b with
 | ref n=>
  cases hn:M[n]? with
  |none=>simp only[hn]at h;exact h.elim|some ob=>
   cases ob with
   |dct _=>simp only[hn]at h;exact h.elim|cR _=>simp only[hn]at h;exact h.elim|ins _ _=>simp only[hn]at h;exact h.elim|lst ds=>
    simp only[hn]at h;by_cases hf:(cF a&&ds.all cF)=true
    .rw[if_pos hf]at h;rw[Y5]at hf;obtain⟨p,hp,rfl⟩:=rb.dM;cases ry;obtain⟨vs,e1,r1⟩:=S.obj n _ p hn hp;obtain⟨its,rvs,pl,_⟩:=I.list (bL.of e1);have he:∀y,y∈its.toArray->sV X.A.in1 s y v (cY (CZ y) a):=λy hy=>by
      have hy:y∈its:=by simpa using hy
      obtain⟨j,hj⟩:=JD hy;have hjl:j<vs.length:=by rw[rvs.length];exact(Yf.mp hj).1
      obtain⟨w,hw,kW⟩:=rvs.get (Y3 hjl);rw[hj]at hw;cases hw;have Hz:j<ds.length:=by rw[←r1.length];exact hjl
      obtain⟨z,hz,rz⟩:=r1.get (Y3 Hz);rw[Y3 hjl]at hz;cases hz;have hfl:=h_.mp hf.2 _ (um Hz);rw[Vf hfl rz kW];exact Mp X.A.in1 ds[j] a _ x y v hfl hf.1 rz ra kW rx
     refine Yl4 (λy=>cY (CZ y) a) pl.isList he ⟨.bl (ds.any λy=>cY y a),H,I,?_,h _ H ι Ext.refl S Rep.bl⟩;show(.bool _:Yh)= .bool _;rw[Vg r1 rvs hf.2];simp
    .rw[if_neg hf]at h;exact h.elim
 |_=>exact h.elim
end
section
variable {prog:Yae} {w:bh} {A:bU} {E:Yh->Yk->Prop} {s:Yk}
theorem Zla{it t:Y2}{items:Array Yh}(hne:t≠it):∀(n i:Nat) (s:Yk) (Q:List Yh->Yk->Prop),s.heap.IsListIter it t i->s.heap.IsList t items->i+n<=items.size ->
  (∀h',h'.IsListIter it t (i+n)->Bm it s.heap h'->Q ((items.toList.drop i).take n) {s with heap:=h'})->ao (aB prog w) A (draw (.ref it) n) Q E s
 |0,i,s,Q,hit,_,_,hQ=>by show ao _ _ (pure []) Q E s;exact Yv (by simpa using hQ s.heap hit (Heap.SameBut.refl ..))|n+1,i,s,Q,hit,ht,hle,hQ=>by
  have hlt:i<items.size:=lC 1 2204024704001 T1 hle;show ao _ _ (ux (.ref it)>>=_) Q E s;refine Yg (ZZ hit ht (x:=items[i]) (by simp[hlt]) λh₁ Qg HB=>?_);refine Yg (iy (Zla hne n (i+1) _ _ Qg (ht.extBut HB.extBut hne) (lC 1 0x21a0cc02a1c0c01 T1 hle) λh₂ AbF hs₂=>Yv ?_));have hd:items.toList.drop i=items[i]::items.toList.drop (i+1):=by simp[Ao,hlt]
  have:=hQ h₂ (by rw[show i+(n+1)=i+1+n by exact Y0 (lB 0 1790139547840 T1) (lB 0 0xa1c0c1a0cc0 T1)];exact AbF) (HB.trans hs₂);rw[hd,ZG]at this;exact this
theorem Zin{t:Y2}{items:Array Yh}{Q:List Yh->Yk->Prop}(hh:A.handled=Yl)(ht:s.heap.IsList t items)(hQ:∀h',Rn s.heap.objs.size s.heap h'->Q items.toList {s with heap:=h'}):ao (aB prog w) A (unpackItems (.ref t) items.size Yl) Q E s:=by
 have hlt:t≠s.heap.objs.size:=by obtain⟨o,ho,_⟩:=ht;exact dR (Y6 ho)
 have hT:s.TypeIs (.ref t) "list":=by obtain⟨o,ho,hc,_⟩:=ht;exact⟨o,ho,hc⟩
 unfold unpackItems;refine Yg ?_
 .unfold notIterableAtAll;refine Yg (QT hT F.slot_list_iter.lookup ?_);refine Yv ?_;simp only[Bo,if_false];refine Yg (iy (vX ht ?_));have htp:(s.heap.push {cls:=.type "list_iterator",data:=.fields #[.ref t,.int 0 0]}).IsList t items:=ht.at λo e=>Yn _ e;refine Yg (iy (Zla hlt items.size 0 _ _ ⟨_,Y4 _ rfl,rfl,rfl⟩ htp (lA 0 3776 T1) λh₁ Qg HB=>?_));have hall:List.take items.size (List.drop 0 items.toList)=items.toList:=by
   rw[JH];exact sI (by simp)
  rw[hall];rw[if_neg (by simp)];have ht₁:h₁.IsList t items:=htp.extBut HB.extBut hlt;refine Yg (iy (Z1 hh Qg ht₁ (by simp) λh₂ he₂=>?_));simp only[Option.isSome_none,Bo,if_false];refine Yv (hQ h₂ λb o hb e=>he₂ b o hb (HB.extBut b o hb (Yn _ e)))
theorem ZhE{env:fH}{elts:List Expr}{x1}{pos:aU}{t:Y2}{items:Array Yh}{Q:Unit->Yk->Prop}(hh:A.handled=Yl)(ht:s.heap.IsList t items)(hn:(jE elts env).length=items.size)(hstar:(jE elts env).findIdx? (·.1)=Yl)(h:∀h',Rn s.heap.objs.size s.heap h'->ao (aB prog w) A (assignInOrder ((jE elts env).map (·.2)) items.toList) Q E {s with heap:=h'}):
  ao (aB prog w) A (jF (.Tuple elts x1 pos) env (.ref t)) Q E s:=by
 rw[assign_Tuple];refine Yg (vZ ?_);unfold unpack;rw[hn,hstar];exact Yg (iy (Zin hh ht h))
end
section
variable {X:Cx} {e:Expr} {es:List Expr} {pos:aU} {f:E3}
def Zzi(K:Yb)(n:Nat)(t:qY):TG:=λv σ H Q=>∃a xs,v= .ref a/\bL K H a xs/\xs.length=n/\t xs σ H Q
theorem Zu3{k:Nat}{t:qY}{n:Nat}(hc:X.calm=true)(h:qZ X es t)(hn:(jE es X.env).length=n:=by rfl)(hst:(jE es X.env).findIdx? (·.1)=Yl:=by rfl):PG X (.Tuple es k pos) (Zzi X.K n t):=by intro pins s σ H v u Q I r hw;obtain⟨a,xs,e1,hq,hl,hw⟩:=hw;subst e1;cases r;obtain⟨its,rv,ht,hz⟩:=I.list hq;refine ZhE (I.ok.hd hc) ht.isList (by simp[hn,←hl,rv.length]) hst λh' hx=>?_;have I1:Inv X pins σ H {s with heap:=h'}:=I.kept (t':=s.toks) λb o e=>hx b o (dR (Y6 e)) e;exact h pins _ σ H xs _ Q I1 (by simpa using rv) hw
theorem ZmF:∀(is:List Nat) (ds:List D) (env env':bJ),bindAll is ds env=Ya env'->ds.length=is.length:=by
 intro is
 induction is with
 |nil=>intro ds env env' h;cases ds with|nil=>rfl|cons d ds=>cases h
 |cons i is ih=>intro ds env env' h;cases ds with|nil=>cases h|cons d ds=>simp[ih ds _ _ h]
theorem Vh{is:List Nat}{k:Nat}{tpos:aU}(hc:X.calm=true)(he:C3 X e f)(h:Hr X es is)(hs:QX [.Tuple es k tpos] e pos.line X.env=pure false:=by rfl)(hw:QZ [.Tuple es k tpos] e X.env=pure Yl:=by rfl)(h1:(jE [.Tuple es k tpos] X.env).map (·.2)=[jF (.Tuple es k tpos) X.env]:=by rfl)(hn:(jE es X.env).length=is.length:=by rfl)(hst:(jE es X.env).findIdx? (·.1)=Yl:=by rfl):CS X (.Assign [.Tuple es k tpos] e pos) (rE f is):=
 (ZrA he (Zu3 (n:=is.length) hc h hn hst) hs hw h1).imp λD σ H ak=>by
 obtain⟨ι,M,env,S,E,hh⟩:=ak;refine⟨ι,M,env,S,E,?_⟩;unfold rE at hh;cases q:f env M with
 |exc x M1=>rw[q]at hh;exact hh.elim|bad=>rw[q]at hh;exact hh.elim|ok d M1=>
  rw[q]at hh;cases d with
  | ref n=>
   simp only at hh;cases hm:M1[n]? with
   |none=>simp only[hm]at hh;exact hh.elim|some o=>
    cases o with
    |dct _=>simp only[hm]at hh;exact hh.elim|cR _=>simp only[hm]at hh;exact hh.elim|ins _ _=>simp only[hm]at hh;exact hh.elim|lst ds=>
     simp only[hm]at hh;cases qb:bindAll is ds env with
     |none=>simp only[qb]at hh;exact hh.elim|some dJ=>simp only[qb]at hh;intro v H1 ι1 x1 S1 r1;obtain⟨a,ha,rfl⟩:=r1.dM;obtain⟨vs,hv,rv⟩:=S1.obj n _ a hm ha;exact⟨a,vs,rfl,bL.of hv,by rw[rv.length];exact ZmF _ _ _ _ qb,ι1,M1,env,ds,dJ,S1,E.mono x1,rv,qb,λσ' E'=>hh σ' H1 ι1 x1 S1 E'⟩
  |_=>exact hh.elim
end
open AutoSeq1 (wpAny_loadPart')
set_option maxRecDepth 100000
theorem Zhi(l:Y2)(items:Array Yh)(n:Nat)(b:Y2)(items2:Array Yh)(n2:Nat)(sl:Array (Option Yh))(hl:¬(!items.isEmpty&&Bt (items.size+items2.size))=true)(hz:items.size<=bH)(hz2:items.size+items2.size<=bH+1):
  Meets (Builtin.«list.extend» ⟨[.ref l,.ref b],[]⟩) (λ_ R s=>s.heap.get? l=Ya {cls:=.type "list",data:=.seq items n}/\s.heap.get? b=Ya {cls:=.type "tuple",data:=.seq items2 n2,slots:=sl}/\
   R (.ok (.ret .none)) {s with heap:=s.heap.update l (yx λx=>x++items2)}):=
 .of_wp λprog w A R s h=>by
  obtain⟨hp,g,d,tk,os⟩:=s;obtain⟨h1,h2,h⟩:=h
  wp_walk using sJ h1,sJ h2
  rw[show(yx (λx=>x++items2) {cls:=Value.type "list",data:=Data.seq items n}).data.pastItsLine=Yl by show(if(items++items2).size>bH+1 then Ya "sequence:memory" else Yl)=Yl;rw[if_neg (by rw[Array.size_append];exactλz=>lC 2 0x6a0c21c0121ca0c11 T1 z hz2)]];exact Yv (Yv ⟨_,rfl,h⟩)
section
variable {X:Cx} {o e:Expr} {es:List Expr} {apos cpos:aU} {f:E3} {gl:d_}
noncomputable def Znd(K:Yb):V->List V->Hp->VK->Prop:=λx vs H Q=>∃l b xs zs,x= .ref l/\vs=[.ref b]/\H l=Ya (.lst xs)/\cT K H b zs/\xs.length+zs.length<=bH/\Q .non (upd H l (.lst (xs++zs)))
theorem Zor:kO X "list.extend" (Znd X.K):=by
 intro pins s σ H x vs v us Q I rx rv h;obtain⟨l,b,xs,zs,rfl,rfl,hH,hB,hz,q⟩:=h;cases rx;obtain⟨u,rfl,ru⟩:=rv.one;cases ru;obtain⟨z,its,n,r,hl,e⟩:=I.t_ hH;obtain⟨its2,r2,⟨⟨c,dc,dt,sl⟩,e2,⟨hc,hd⟩,n2,hs⟩,z2⟩:=I.Abd hB;replace hc:c= .type "tuple":=hc;replace hd:dc=Yl:=hd;replace hs:dt= .seq its2.toArray n2:=hs;subst hc hd hs;have hl2:=r2.length;have hsz:its.toArray.size+its2.toArray.size<=bH:=by rw[Yq,Yq];exact lE 3 0x413c0402c0132311031 T1 hl2 hl hz
 have Fg:¬(!its.toArray.isEmpty&&Bt (its.toArray.size+its2.toArray.size))=true:=by rw[Tw hsz,yu];exact mD
 refine qN Ykg ⟨_,e,rfl⟩ Yjr (Yi8 _ _)
  (Zhi l its.toArray n b its2.toArray n2 sl Fg (by rw[Yq];exact lC 2 2268279672881 T1 hl z) (lC 1 0xa2c10c0210c01 T1 hsz)) ⟨e,e2,?_⟩
 refine⟨.non,_,I.Fj (its':=its++its2) hH e (by simp) (r.append r2) ?_,rfl,q⟩;rw[Ye];exact hz
theorem Zsd:kO X "list.extend" (rM X.K mZ):=kO.imp (r:=λx xs H Q=>ZpO x xs H Q\/Znd X.K x xs H Q) (λpins s σ H x xs v us Q I rx rs q=>q.elim (Zp5 pins s σ H x xs v us Q I rx rs) (Zor pins s σ H x xs v us Q I rx rs)) λx xs H Q ak=>by
 obtain⟨ι,M,a,ds,S,ra,rd,h⟩:=ak;cases a with
 | ref n=>
  cases ds with
  |nil=>exact h.elim|cons d ds=>
   cases ds with
   |cons _ _=>cases d<;>exact h.elim|nil=>
    obtain⟨v,ws,rfl,r1,r2⟩:=rd.cons_inv;have:=r2.nil_inv;subst this;obtain⟨p,hp,rfl⟩:=ra.dM;cases hn:M[n]? with
    |none=>cases d<;>first|exact h.elim|(rw[yX,hn]at h;exact h.elim)|(rw[Cu,hn]at h;exact h.elim)
    | some o=>
     cases o with
     |dct _=>cases d<;>first|exact h.elim|(rw[yX,hn]at h;exact h.elim)|(rw[Cu,hn]at h;exact h.elim)
     |cR _=>cases d<;>first|exact h.elim|(rw[yX,hn]at h;exact h.elim)|(rw[Cu,hn]at h;exact h.elim)
     |ins _ _=>cases d<;>first|exact h.elim|(rw[yX,hn]at h;exact h.elim)|(rw[Cu,hn]at h;exact h.elim)
     | lst z=>
      obtain⟨vs,e,rv⟩:=S.obj n _ p hn hp;cases d with
      | tup y=>
       simp only[yX,Cu,hn]at h;split at h
       .rename_i hz;obtain⟨b,ys,rfl,sb,ry⟩:=r1.jg;obtain⟨x2,S2⟩:=S.vN (.inr (.inl ⟨_,e⟩)) hp (rv.append ry);exact .inr ⟨p,b,vs,ys,rfl,rfl,e,sb,by rw[rv.length,ry.length];exact Yi hz (Yk1 (J5 j8)),h _ _ _ x2 S2 Rep.non⟩
       .exact h.elim
      | ref m=>
       simp only[yX,Cu,hn]at h;cases hm:M[m]? with
       |none=>simp only[hm]at h;exact h.elim|some o2=>
        cases o2 with
        |dct _=>simp only[hm]at h;exact h.elim|cR _=>simp only[hm]at h;exact h.elim|ins _ _=>simp only[hm]at h;exact h.elim|lst y=>
         simp only[hm]at h;split at h
         .rename_i hz;obtain⟨b,hb,rfl⟩:=r1.dM;obtain⟨ys,eb,ry⟩:=S.obj m _ b hm hb;obtain⟨x2,S2⟩:=S.vN (.inr (.inl ⟨_,e⟩)) hp (rv.append ry);exact .inl ⟨p,b,vs,ys,rfl,rfl,e,eb,by rw[rv.length,ry.length];exact Yi hz.2 (Yk1 (J5 j8)),h _ _ _ x2 S2 Rep.non⟩
         .exact h.elim
      |_=>exact h.elim
 |_=>cases ds<;>exact h.elim
theorem Vi(ho:C3 X o f)(ha:CA X (e::es) gl)(hbase:nQ o "extend" X.env (aN o X.env)=aN o X.env:=by rfl)(hfew:((cL cpos (Yy (e::es) X.env)).all (λx=>!x.1)&&(jb cpos (iZ [] X.env)).all (λx=>x.1.isSome)
   &&decide ((e::es).length+([]:List Keyword).length+(if([]:List Keyword).isEmpty then 0 else 1)<30))=true:=by rfl)(hline:(apos.endLine==cpos.line)=true:=by rfl)(hs:Yy (e::es) X.env=(false,aN e X.env)::Yy es X.env:=by rfl)(hplain:(cL cpos (Yy es X.env)).any (·.1)=false:=by rfl):
  C3 X (.Call (.Attribute o "extend" apos) (e::es) [] cpos) (aG bx mZ f gl):=
 (BZ RM PySem.F.slot_list_extend PySem.F.type_list_extend Zsd ho ha hbase hfew hline hs hplain).imp (CN U5)
theorem Zue{K:Yb}{T:String}{ty:D->Store->Bool}{m:D->List D->Store->R3 D}(hty:∀H ι M a x,aH K H ι M->Rep K H ι a x->ty a M=true->yK K T x H)(σ:St)(H:Hp)(Q:VK)(h:ni K (aG ty m f Ze) σ H Q):Zys K T (rM K m) (ni K f) σ H Q:=by
 obtain⟨ι,M,env,S,E,h⟩:=h;obtain⟨a,M1,e1,h⟩:=Zv.bind h;refine⟨ι,M,env,S,E,?_⟩;rw[e1];intro v H1 ι1 x1 S1 r1;by_cases ht:ty a M1=true
 .rw[if_pos ht]at h;exact⟨hty _ _ _ _ _ S1 r1 ht,ι1,M1,a,[],S1,r1,au.nil,h.up x1⟩
 .rw[if_neg ht]at h;exact h.elim
theorem M7(ho:C3 X o f)(hbase:nQ o "pop" X.env (aN o X.env)=aN o X.env:=by rfl)(hline:(apos.endLine==cpos.line)=true:=by rfl):C3 X (.Call (.Attribute o "pop" apos) [] [] cpos) (aG bx qg f Ze):=(ZvF RM PySem.F.slot_list_pop PySem.F.type_list_pop ZxO ho hbase hline).imp (Zue U5)
end
end L3
namespace L3
open PySem PySem.Spec PyProof.Rows L2
set_option maxRecDepth 100000
section
variable {X:Cx} {elt tg iter:Expr} {ifs:List Expr} {scope:Scope} {pos:aU} {i:yW} {own:Nat} {g:G3} {ts:List E3} {f:E3} {N':List aj}
theorem ZiK{pins:List (Y2×aO)}{σ:St}{s2:Yk}{H2:Hp}{ι2:List Y2}{M2:Store}{env:bJ}{it:Y2}{fp:List Y2}{tn:Nat->aR->Prop}{J:It}{aY:Hj}{Q:VK}{E:Yh->Yk->Prop}(O:wZ X scope N' own)(hc:X.calm=true)(hb:∀C cl s H ex,CG (fM X scope N' C cl s H ex) tg g/\qz (fM X scope N' C cl s H ex) ifs ts/\C3 (fM X scope N' C cl s H ex) elt f)(I2:Inv X pins σ H2 s2)(T:Turn X.prog X.w X.K tg J fp it tn)(st0:tn 0 s2.heap)(hfp:∀b∈fp,iR X pins H2 b)(S2:aH X.K H2 ι2 M2)(E2:cM X.K H2 ι2 env σ)(ok:MT X.K H2 ι2 aY J)(h:Zv X.K H2 ι2 Q (jP aY.lk g ts f M2.length aY.items (env++Yr own Yl) (M2++[.lst []])))(RR:Yh->Y2->uy->Yk->Prop)(fin:∀(acc C:Y2) (s':Yk) (m:aj->Option Yh) (H':Hp),s'.heap.Ns C m->iR X pins H' C->Inv X pins σ H' s'->Q (.ref acc) H'->RR (.ref acc) C (.ok .next) s'):
  ao (aB X.prog X.w) X.A (J4 []) (λacc s₃=>ao (aB X.prog X.w) X.A (QW scope X.env.globals (gM X.env.cells scope.names []) [] X.env.qual Yl .none (Ya X.env)) (λcenv s₄=>nR (aB X.prog X.w) X.A (.compStart (.ListComp elt [⟨tg,iter,ifs,0⟩] scope pos) 0 (.ref it) acc {cenv with scope:=v8 scope X.env}) (RR acc cenv.locals) s₄) E s₃) E s2:=by
 refine uv ?_;have hD:H2 s2.heap.objs.size=Yl:=I2.hok.fresh (Yt _);obtain⟨x3,S3,r3⟩:=S2.lst hD (au.nil (K:=X.K) (H:=H2) (ι:=ι2));have I3:Inv X pins σ (upd H2 s2.heap.objs.size (.lst [])) {s2 with heap:=s2.heap.push {cls:=.type "list",data:=.seq ([]:List Yh).toArray}}:=I2.laid (t':=s2.toks) (λb u e=>Yn _ e) (Yt _) ⟨eZ _,[],0,.nil,Y4 _ rfl⟩;generalize hs3:({s2 with heap:=s2.heap.push {cls:=.type "list",data:=.seq ([]:List Yh).toArray}}:Yk)=s3 at I3 ⊢;have xV:∀b o,s2.heap.get? b=Ya o->s3.heap.get? b=Ya o:=λb o e=>by rw[←hs3];exact Yn _ e
 have nH:∀b∈fp,iR X pins (upd H2 s2.heap.objs.size (.lst [])) b:=λb hb=>by refine⟨?_,(hfp b hb).2⟩;obtain⟨o,e,_⟩:=T.obj _ _ st0 b hb;rw[gq (dR (Y6 e))];exact(hfp b hb).1
 have vO:∀b∈fp,b<s3.heap.objs.size:=λb hb=>by obtain⟨o,e,_⟩:=T.obj _ _ st0 b hb;exact Y6 (xV b o e)
 have st3:tn 0 s3.heap:=T.keep _ _ _ st0 λb hb o e=>xV b o e;refine Z4 O.cell (by intro y hy;cases hy) (λh4 hns hsb=>?_) O.kind;have Ff:∀b o,s3.heap.get? b=Ya o->h4.get? b=Ya o:=λb o e=>hsb.extBut b o (dR (Y6 e)) (Yn _ e);have I4:=Zmx (own:=own) (N':=N') (tk:=s3.toks+([]:List (aj×Yh)).length) I3 O.kind O.cell O.free O.len O.vis nH vO hns Ff;have Hy:tn 0 h4:=T.keep _ _ _ st3 λb hb o e=>Ff b o e;have Qh:∀{H':Hp},(∀b∈fp,H' b=Yl)->∀b∈fp,iR (fM X scope N' s3.heap.objs.size (gM X.env.cells scope.names []) s3 (upd H2 s2.heap.objs.size (.lst [])) fp) [] H' b:=λhn b hb=>by have hc0:∀y∈scope.names,y.2= .free->∃c,X.env.cells.lookup y.1=Ya c:=λy hy e=>I2.ok.has y.1 (O.free y hy e);refine⟨hn b hb,dR (vO b hb),λhz=>I4.ok.Ag b hb hz,.inl hb,λx c hx=>(I4.ok.K7 b hb).2 x c hx,λp hp=>absurd (show p∈([]:List (Y2×aO))from hp) (by simp)⟩
 obtain ⟨hg,hts,helt⟩:=hb s3.heap.objs.size (gM X.env.cells scope.names []) s3 (upd H2 s2.heap.objs.size (.lst [])) fp;have loop:∀s₄:Yk,s₄={s3 with heap:=h4,toks:=s3.toks+([]:List (aj×Yh)).length} ->
   nR (aB X.prog X.w) X.A (.compLoop (.ListComp elt [⟨tg,iter,ifs,0⟩] scope pos) 0 (.ref it) (.ref s2.heap.objs.size) (FW scope (gM X.env.cells scope.names []) s3.heap.objs.size X.env)) (RR (.ref s2.heap.objs.size) s3.heap.objs.size) s₄:=by
  rintro s₄ rfl;obtain⟨W,hW⟩:∃W:Nat->Yk->Prop,∀n s',W n s'↔∀G:Prop,(∀k σ5 H5 ι5 M5 uc,Inv (fM X scope N' s3.heap.objs.size (gM X.env.cells scope.names []) s3 (upd H2 s2.heap.objs.size (.lst [])) fp) [] σ5 H5 s'->tn k s'.heap->(∀b∈fp,H5 b=Yl)->n=aY.items.length-k->k<=aY.items.length ->
   Ext X.K H2 ι2 H5 ι5->aH X.K H5 ι5 M5->cM X.K H5 ι5 uc σ5->ι5[M2.length]?=Ya s2.heap.objs.size->Zv X.K H5 ι5 Q (jP aY.lk g ts f M2.length (aY.items.drop k) uc M5)->G)->G:=⟨_,λ_ _=>Iff.rfl⟩
  refine Zia W ?_ aY.items.length
   ((hW _ _).2 λ_ c=>c 0 _ _ _ _ _ I4 Hy (λb hb=>(nH b hb).1) rfl (eZ _) x3 S3 ((E2.mono x3).grow own) ?_ (h.up x3))
  .intro n s5 hn5;refine(hW _ _).1 hn5 _ λk σ5 H5 ι5 M5 uc I5 mG p_ e hk x5 S5 E5 hι h5=>?_;subst e;by_cases hlt:k<aY.items.length
   .have hd:aY.items[k]?=Ya aY.items[k]:=by simp[hlt]
    rw[Ao hlt]at h5;unfold jP at h5;by_cases lk:jO aY.lk M5=true
    .rw [if_pos lk]at h5;obtain⟨go,yl⟩:=(ok k H5 ι5 M5 x5 S5 lk).1 _ hd;cases eg:g aY.items[k] uc with
     |none=>rw[eg]at h5;exact h5.elim|some ud=>
      rw[eg]at h5;refine aK (T.item (fM X scope N' s3.heap.objs.size (gM X.env.cells scope.names []) s3 (upd H2 s2.heap.objs.size (.lst [])) fp) rfl rfl rfl hc k [] s5 σ5 H5 (λ_ _=>False) I5 (Qh p_) mG go) λr s6 ak=>?_;obtain⟨u,hr,h6⟩:=ak;subst hr;refine aK h6 λ_ s7 ak=>?_;obtain⟨x,H7,I7,r7,y7,lY,Mz⟩:=ak;obtain⟨y8,S7,rx⟩:=yl x H7 y7;have I7':=I7.pinned (Qh Mz) (T.obj _ _ lY);refine aK (hg _ s7 σ5 H7 x u (λσ' H'=>H'=H7/\cM X.K H7 ι5 ud σ') I7' r7 ⟨ι5,M5,uc,_,ud,S7,E5.mono y8,rx,eg,λσ' E'=>⟨rfl,E'⟩⟩) λ_ s8 ak=>?_;obtain⟨σ8,H8,I8,e8,E8⟩:=ak;subst e8;replace h5:=Zv.up y8 h5;replace x5:=x5.trans y8;replace S5:=S7;have back:∀{σ':St} {H':Hp} {s':Yk},Inv (fM X scope N' s3.heap.objs.size (gM X.env.cells scope.names []) s3 (upd H2 s2.heap.objs.size (.lst [])) fp) ([]++uJ fp s7.heap) σ' H' s' ->
        Inv (fM X scope N' s3.heap.objs.size (gM X.env.cells scope.names []) s3 (upd H2 s2.heap.objs.size (.lst [])) fp) [] σ' H' s'/\tn (k+1) s'.heap/\∀b∈fp,H' b=Yl:=λ{σ' H' s'} I'=>by
       refine⟨I'.Fd,T.keep _ _ _ lY λb hb o e=>(I'.pin (b,o) (Y9 _ (Y9 _ (BP hb e)))).1,λb hb=>?_⟩;obtain⟨o,e,d⟩:=T.obj _ _ lY b hb;exact(I'.pin (b,o) (Y9 _ (Y9 _ (BP hb e)))).2.1
      obtain⟨b,M9,e9,h9⟩:=Zv.bind h5;refine aK (hts _ s8 σ8 H8 (λb' H'=>b'=b/\∃ι9,Ext X.K H8 ι5 H' ι9/\aH X.K H' ι9 M9) I8 ⟨ι5,M5,ud,S5,E8,by rw[e9];exactλH' ι' x' S'=>⟨rfl,ι',x',S'⟩⟩) λb' s9 ak=>?_;obtain⟨H9,I9,eb,ι9,x9,S9⟩:=ak;subst eb;cases b' with
      |false=>rw[if_neg (by decide)]at h9 ⊢;obtain⟨I9',st9,fr9⟩:=back I9;exact⟨aY.items.length-(k+1),lD 2 0x30113c2012a1c0c21 T1 (Y8 (lB 1 6991908881 T1 hlt)) (gH _ _),(hW _ _).2 λ_ c=>c (k+1) σ8 H9 ι9 M9 ud I9' st9 fr9 rfl hlt (x5.trans x9) S9 (E8.mono x9) (x9.pre _ _ hι) (h9.up x9)⟩|true=>
       rw[if_pos rfl]at h9 ⊢;obtain⟨d,Hx,e10,h10⟩:=Zv.bind h9;refine aK (helt _ s9 σ8 H9 (λv H'=>∃rK,Ext X.K H9 ι9 H' rK/\aH X.K H' rK Hx/\Rep X.K H' rK d v) I9 ⟨ι9,M9,ud,S9,E8.mono x9,by rw[e10];exactλv H' ι' x' S' r'=>⟨ι',x',S',r'⟩⟩) λxv Mw ak=>?_;obtain⟨v,UJ,UL,r10,rK,x10,Mx,rd⟩:=ak;have Qi:rK[M2.length]?=Ya s2.heap.objs.size:=x10.pre _ _ (x9.pre _ _ hι);cases hm:Hx[M2.length]? with
       |none=>rw[hm]at h10;exact h10.elim|some o=>
        cases o with
        |dct _=>rw[hm]at h10;exact h10.elim|cR _=>rw[hm]at h10;exact h10.elim|ins _ _=>rw[hm]at h10;exact h10.elim|lst xs=>
         rw[hm]at h10;by_cases hz:xs.length<SZ
         .simp only[if_pos hz]at h10;obtain⟨vs,ev,rvs⟩:=Mx.obj _ _ _ hm Qi;obtain⟨x11,UG⟩:=Mx.vN (.inr (.inl ⟨_,ev⟩)) Qi (rvs.append (au.cons rd au.nil));refine aK (Tz _ Mw σ8 UJ (.ref s2.heap.objs.size) [v] (.ref s2.heap.objs.size) [xv] (λ_ H'=>H'=upd UJ s2.heap.objs.size (.lst (vs++[v]))) UL rfl (.cons r10 .nil) ⟨_,vs,v,rfl,rfl,ev,by rw[rvs.length];exact Y7 hz j8,rfl⟩) λ_ Mu ak=>?_;obtain⟨_,H11,Mv,_,eH⟩:=ak;subst eH;obtain⟨AbG,AbH,AbI⟩:=back Mv;exact⟨aY.items.length-(k+1),lD 2 0x30113c2012a1c0c21 T1 (Y8 (lB 1 6991908881 T1 hlt)) (gH _ _),(hW _ _).2 λ_ c=>c (k+1) σ8 _ rK _ ud AbG AbH AbI rfl hlt (((x5.trans x9).trans x10).trans x11) UG (((E8.mono x9).mono x10).mono x11) Qi (((h10.up x9).up x10).up x11)⟩
         .simp only[if_neg hz]at h10;exact h10.elim
    .rw[if_neg lk]at h5;exact h5.elim
   .have e0:k=aY.items.length:=Y0 hk (j5 hlt);subst e0;rw[QC]at h5;unfold jP at h5;by_cases lk:jO aY.lk M5=true
    .rw[if_pos lk]at h5;refine aK (T.done (fM X scope N' s3.heap.objs.size (gM X.env.cells scope.names []) s3 (upd H2 s2.heap.objs.size (.lst [])) fp) rfl rfl rfl hc _ [] s5 σ5 H5 (λ_ _=>False) I5 (Qh p_) mG ((ok _ H5 ι5 M5 x5 S5 lk).2 rfl)) λr s6 ak=>?_;obtain⟨hr,I6⟩:=ak;subst hr;obtain⟨m6,UT,_⟩:=I6.loc;have I7:Inv X pins σ H5 s6:=I3.call' (ch:=fp) I6.os I6.base I6.hok I6.bare λb hb=>⟨(nH b hb).2.2.2.1,(nH b hb).2.1,(nH b hb).2.2.2.2.1,(nH b hb).2.2.2.2.2⟩;exact fin _ _ s6 m6 H5 UT (I3.vL (Yt _) I6.free) I7 (h5 _ H5 ι5 Ext.refl S5 (Rep.ref hι))
    .rw[if_neg lk]at h5;exact h5.elim
  .rw[←S2.len];simp
 exact Z0 (loop _ rfl) (T.self _ 0 _ _ _ Hy (loop _ rfl))
theorem ZyC(O:wZ X scope N' own)(zc:X.xe=λ_ _=>False)(hc:X.calm=true)(hi:CIL X tg iter i)(hb:∀C cl s H ex,CG (fM X scope N' C cl s H ex) tg g/\qz (fM X scope N' C cl s H ex) ifs ts/\C3 (fM X scope N' C cl s H ex) elt f)(hs:∀x,A_ iter X.env x=pure x:=by intro _;rfl):C3 X (.ListComp elt [⟨tg,iter,ifs,0⟩] scope pos) (wN i own g ts f):=by intro pins s σ H Q I h;obtain⟨ι,M,env,S,E,h⟩:=h;obtain⟨aY,M1,e1,h⟩:=Zv.bind h;have hc0:∀y∈scope.names,y.2= .free->∃c,X.env.cells.lookup y.1=Ya c:=λy hy e=>I.ok.has y.1 (O.free y hy e);rw[eval_ListComp];refine JM (use:=Yl) rfl hs (Mr hc0) O.kind O.names ?_;refine aK (hi pins s σ H (λJ H'=>∃ι',Ext X.K H ι H' ι'/\aH X.K H' ι' M1/\MT X.K H' ι' aY J) I ⟨ι,M,env,S,E,by rw[e1];exactλJ H' ι' x S' o=>⟨ι',x,S',o⟩⟩) λv s1 h1=>aK h1 λitv s2 h2=>?_;obtain⟨it,fp,tn,J,H2,rfl,I2,T,st2,f2,ι2,x2,S2,ok⟩:=h2;refine ZiK (own:=own) (g:=g) (ts:=ts) (f:=f) O hc hb I2 T st2 f2 S2 (E.mono x2) ok (h.up x2) (λacc C=>JX (aB X.prog X.w) X.A X.xe Yl (EP X pins σ Q) acc C) ?_;intro acc C s' m H' hn hf I' hq;obtain⟨f0,f1,UV,f3,f4,f5⟩:=hf;exact⟨m,hn,λh' sb=>⟨.ref acc,H',I'.turned (t':=s'.toks) (λb o hb e=>(sb.2 b hb).trans e) f0 f1 f3 f4 f5,rfl,hq⟩⟩
theorem Zk4(j:Nat){x:aj}{pos' spos:aU}(O:wZ X scope N' own)(zc:X.xe=λ_ _=>False)(hc:X.calm=true)(hN:X.N.Nodup)(hi:CIL X tg iter i)(hb:∀C cl s H ex,CG (fM X scope N' C cl s H ex) tg g/\qz (fM X scope N' C cl s H ex) ifs ts/\C3 (fM X scope N' C cl s H ex) elt f)(hj:X.N[j]?=Ya x:=by rfl)(hx:Loc X.env.scope x:=by first|exact Or.inl rfl|exact Or.inr rfl)(hf:X.fn x=true\/X.env.scope.names.lookup x=Ya .local:=by first|exact .inl rfl|exact .inr rfl)(hsw:v5 (.ListComp elt [⟨tg,iter,ifs,0⟩] scope pos) (Ya (.Name x pos')) spos.line X.env=pure true:=by rfl)(hs:∀x,A_ iter X.env x=pure x:=by intro _;rfl):CS X (.Assign [.Name x pos'] (.ListComp elt [⟨tg,iter,ifs,0⟩] scope pos) spos) (aA j (wN i own g ts f)):=by
 intro pins s σ H D I h;obtain⟨ι,M,env,S,E,h⟩:=h;have h0:Zv X.K H ι (λv H'=>D.nx (σ.set j (Ya v)) H') (wN i own g ts f env M):=by
  unfold aA at h;cases q:wN i own g ts f env M with
  |ok d M1=>rw[q]at h;exactλv H1 ι1 x1 S1 r1=>h _ H1 ι1 x1 S1 ((E.mono x1).set j r1)|exc _ _=>rw[q]at h;exact h.elim|bad=>rw[q]at h;exact h.elim
 obtain⟨aY,M1,e1,h1⟩:=Zv.bind h0;have hc0:∀y∈scope.names,y.2= .free->∃c,X.env.cells.lookup y.1=Ya c:=λy hy e=>I.ok.has y.1 (O.free y hy e);rw[Z2 _ _ _ _ hsw];refine Yg (vZ (Yg ?_));show ao _ X.A (do let _ ←comprehension (.ListComp elt [⟨tg,iter,ifs,0⟩] scope pos) scope X.env _ (J4 []) false (aN iter X.env) (Ya (jF (.Name x pos') X.env))) _ _ s;refine Yg (j4 (JM (use:=Ya (jF (.Name x pos') X.env)) (Q:=λ_ s'=>SP X pins D .next s') rfl hs (Mr hc0) O.kind O.names ?_) (λ_ s' hq=>Yv (Yv hq)) λ_ _ e=>e);refine aK (hi pins s σ H (λJ H'=>∃ι',Ext X.K H ι H' ι'/\aH X.K H' ι' M1/\MT X.K H' ι' aY J) I ⟨ι,M,env,S,E,by rw[e1];exactλJ H' ι' x S' o=>⟨ι',x,S',o⟩⟩) λv s1 h1'=>aK h1' λitv s2 h2=>?_;obtain⟨it,fp,tn,J,H2,rfl,I2,T,st2,f2,ι2,x2,S2,ok⟩:=h2;refine ZiK (own:=own) (g:=g) (ts:=ts) (f:=f) O hc hb I2 T st2 f2 S2 (E.mono x2) ok (h1.up x2) (λacc C=>JX (aB X.prog X.w) X.A X.xe (Ya (jF (.Name x pos') X.env)) (λ_ s'=>SP X pins D .next s') acc C) ?_;intro acc C s' m H' hn UW I' hq;obtain⟨f0,f1,UV,f3,f4,f5⟩:=UW;show ao _ X.A (jF (.Name x pos') X.env (.ref acc)) _ _ s';refine QQ (SQ I' hN hj hx (show RelV (.ref acc) (.ref acc)from rfl) (λs'' U0 ⟨a,sb,ha⟩=>?_) hf);have U3:C≠a:=by
  rcases ha with rfl|ha
  .exact f1
  .exact dg (f4 x a ha)
 exact⟨m,hn.sameBut sb U3,λh' U4=>⟨_,H',U0.turned (t':=s''.toks) (λb o hb e=>(U4.2 b hb).trans e) f0 f1 f3 f4 f5,hq⟩⟩
end
open PySem PySem.W PyProof.Rows
section
variable {M:Model} {A:bU} {E:Yh->Yk->Prop} {G:Yk->Prop}
def TT(M:Model)(A:bU)(E:Yh->Yk->Prop)(G:Yk->Prop){α:Type}(m:StateT SortSt pY α)(Q:α->SortSt->Prop)(st:SortSt):Prop:=∀s,G s->kasC M A E m (λa st' s'=>Q a st'/\G s') st s
end
end L3
namespace L3
open PySem PySem.Spec PyProof.Rows L2
noncomputable abbrev nm(f:List Nat):aj:=⟨f.toArray⟩
variable{f:List Nat}
theorem ZqI{g:List Nat}(h:nm f=nm g):f=g:=by have:=congrArg (λs:aj=>s.cps.toList) h;simpa using this
section
variable {K:Yb} {H H':Hp} {ι ι':List Y2} {fs:List (List Nat×D)} {gs:List (aj×V)}
theorem gj.mono(e:Ext K H ι H' ι')(h:gj K H ι fs gs):gj K H' ι' fs gs:=⟨h.1,h.2.mono e⟩
theorem gj.nil:gj K H ι [] []:=⟨rfl,au.nil⟩
theorem gj.nil_inv(h:gj K H ι [] gs):gs=[]:=Ar.mp h.1
theorem gj.cons_inv{d:D}(h:gj K H ι ((f,d)::fs) gs):∃v gs',gs=(nm f,v)::gs'/\Rep K H ι d v/\gj K H ι fs gs':=by
 cases gs with
 |nil=>cases h.1|cons p gs'=>obtain⟨g,v⟩:=p;obtain⟨h1,h2⟩:=h;rw[Ys,Ys]at h1 h2;obtain⟨e1,e2⟩:=jc h1;obtain⟨v',ws,e,r,q⟩:=h2.cons_inv;obtain⟨rfl,rfl⟩:=jc e;exact⟨v,gs',by rw[show g=nm f from e1],r,e2,q⟩
theorem gj.cons{f:List Nat}{d:D}{v:V}(r:Rep K H ι d v)(h:gj K H ι fs gs):gj K H ι ((f,d)::fs) ((nm f,v)::gs):=⟨by rw[Ys,Ys,h.1],au.cons r h.2⟩
theorem gj.length(h:gj K H ι fs gs):gs.length=fs.length:=by have:=congrArg ur h.1;simpa using this
theorem gj.look:∀{fs:List (List Nat×D)} {gs:List (aj×V)},gj K H ι fs gs->(fs.lookup f=Yl->gs.lookup (nm f)=Yl)/\∀d,fs.lookup f=Ya d->∃v,gs.lookup (nm f)=Ya v/\Rep K H ι d v
 |[],_,h=>by rw[h.nil_inv];exact⟨λ_=>rfl,λd e=>by cases e⟩|(g,x)::fs,_,h=>by
  obtain⟨v,gs',rfl,r,t⟩:=h.cons_inv;rw[lJ,lJ];by_cases e:f=g
  .subst e;rw[beq_self_eq_true,beq_self_eq_true];exact⟨λq=>(by cases q),λd q=>(by cases q;exact⟨v,rfl,r⟩)⟩
  .rw[beq_false_of_ne e,beq_false_of_ne λq=>e (ZqI q)];exact t.look
theorem gj.put{d:D}{v:V}(r:Rep K H ι d v):∀{fs:List (List Nat×D)} {gs:List (aj×V)},gj K H ι fs gs->gj K H ι (wO f d fs) (jk (nm f) v gs)
 |[],_,h=>by rw[h.nil_inv];exact gj.cons r gj.nil|(g,x)::fs,_,h=>by
  obtain⟨w,gs',rfl,r',t⟩:=h.cons_inv;unfold wO jk;by_cases e:g=f
  .subst e;rw[if_pos rfl,if_pos rfl];exact gj.cons r t
  .rw[if_neg e,if_neg λq=>e (ZqI q)];exact gj.cons r' (t.put r)
end
structure zu(K:Yb)(c:List Nat)(C:Y2):Prop where
 aq:ClsAt K c C
 cls:wG K C
 nz:c.head?≠Ya 0
variable{K:Yb}
theorem zu.same{c:List Nat}{C C':Y2}(h:zu K c C)(q:ClsAt K c C'):C'=C:=by have:=q.symm.trans h.aq;cases this;rfl
variable{ps:List aj}{w:bh}
section
variable {X:Cx} {o e:Expr} {es:List Expr} {f g:E3} {gl:d_} {c m:List Nat} {C:Y2} {fn:aj} {pos pos' apos p:aU} {x:aj}
theorem ZpR{M:Store}{n:Nat}{H:Hp}{ι:List Y2}{a:Y2}(kc:zu X.K c C)(S:aH X.K H ι M)(ha:ι[n]?=Ya a){fs:List (List Nat×D)}(hn:M[n]?=Ya (.ins c fs)):∃dx gs,H a=Ya (.ins C dx gs)/\gj X.K H ι fs gs:=by
 rcases S.obj n _ a hn ha with⟨C',dx,gs,q,ca,fr⟩|⟨_,_,_,z,_⟩
 .rw[kc.same ca.1]at q;exact⟨dx,gs,q,fr⟩
 .exact absurd z kc.nz
theorem u5(kc:zu X.K c C)(nf:sY X.K C (nm m))(he:C3 X e f)(hf:fn=nm m:=by decide +kernel)(hb:nQ e fn X.env (aN e X.env)=aN e X.env:=by rfl):C3 X (.Attribute e fn pos) (e1 (jQ c m) f):=by
 subst hf;refine(Zwl he hb).imp λσ H Q ak=>?_;obtain⟨ι,M,env,S,E,h⟩:=ak;obtain⟨d,M1,e1,hh⟩:=Zv.bind h;refine⟨ι,M,env,S,E,?_⟩;rw[e1];intro v H1 ι1 x1 S1 r1;cases d with
 | ref n=>
  simp only[Zns]at hh;cases hn:M1[n]? with
  |none=>simp only[hn]at hh;exact hh.elim|some ob=>
   cases ob with
   | ins c' fs=>
    simp only[hn]at hh;split at hh
    .rename_i ec;subst ec;obtain⟨a,ha,rfl⟩:=r1.dM;obtain⟨dx,gs,q,fr⟩:=ZpR kc S1 ha hn;split at hh
     .rename_i d hl;obtain⟨w,lw,kW⟩:=(fr.look (f:=m)).2 d hl;exact⟨a,C,dx,gs,w,rfl,q,kc.cls,nf,lw,hh w H1 ι1 x1 S1 kW⟩
     .exact hh.elim
    .exact hh.elim
   |_=>simp only[hn]at hh;exact hh.elim
 |_=>exact hh.elim
theorem ZrN(kc:zu X.K c C)(nf:sY X.K C (nm m))(ho:C3 X o f)(hv:C3 X e g)(hf:fn=nm m:=by decide +kernel)(hs:v5 e (Ya (.Attribute o fn pos')) pos.line X.env=pure false:=by rfl):CS X (.Assign [.Attribute o fn pos'] e pos) (Hl c m f g):=by
 subst hf;refine(Zvl ho hv hs).imp λD' σ H ak=>?_;obtain⟨ι,M,env,S,E,hh⟩:=ak;have hh:=ZmH E hh;obtain⟨d,M1,e1,hh⟩:=Zv.bind hh;obtain⟨b,M2,e2,hh⟩:=Zv.bind hh;refine⟨ι,M,env,S,E,?_⟩;rw[e1];intro y H1 ι1 x1 S1 r1;refine⟨ι1,M1,env,S1,E.mono x1,?_⟩;rw[e2];intro w H2 ι2 x2 S2 r2;cases b with
 | ref n=>
  simp only[Uj]at hh;cases hn:M2[n]? with
  |none=>simp only[hn]at hh;exact hh.elim|some ob=>
   cases ob with
   | ins c' fs=>
    simp only[hn]at hh;split at hh
    .rename_i ec;obtain⟨ec,lf⟩:=ec;subst ec;obtain⟨a,ha,rfl⟩:=r2.dM;obtain⟨dx,gs,q,fr⟩:=ZpR kc S2 ha hn;have l0:Loose H2 a:=.inr (.inr (.inr ⟨C,dx,gs,q⟩));have x3:Ext X.K H2 ι2 (upd H2 a (.ins C dx (jk (nm m) y gs))) ι2:=l0.ext;have S3:aH X.K (upd H2 a (.ins C dx (jk (nm m) y gs))) ι2 (M2.set n (.ins c' (wO m d fs))):=S2.put l0 ha (.inl ⟨C,dx,_,qW,⟨kc.aq,kc.nz⟩,(fr.put (r1.mono x2)).mono x3⟩);exact⟨a,C,dx,gs,rfl,q,kc.cls,nf,by rw[fr.length];exact lf,hh .non _ _ ((x1.trans x2).trans x3) S3 Rep.non⟩
    .exact hh.elim
   |_=>simp only[hn]at hh;exact hh.elim
 |_=>exact hh.elim
def Vj(P:Yae)(w:bh)(K:Yb)(mg:aj->Option Yh)(base:aR)(k:Nat)(C:Y2)(m:aj)(ps:List aj)(F:F3):Prop:=(∀ds M,ds.length≠ps.length->F ds M= .bad)/\∃f fd,Meth K C m f/\Binds K fd ps []/\jK P w K mg base mO k f fd ps (u0 K ps.length F)
theorem Vj.mono{P:Yae}{mg:aj->Option Yh}{base:aR}{C:Y2}{j k:Nat}{x:aj}{F:F3}(h:Vj P w K mg base j C x ps F)(l:j<=k):Vj P w K mg base k C x ps F:=let⟨n,f,fd,a,b,d⟩:=h;⟨n,f,fd,a,b,d.mono l⟩
theorem Zwg{k:Nat}{F:F3}{fa:Y2}{fd:lM}(aq:ClsAt X.K c C/\c.head?≠Ya 0)(Mc:Mk X.K C fa)(hF:∀ds M,ds.length≠ps.length->F ds M= .bad)(ok:jK X.prog X.w X.K X.mg X.base mO k fa fd ps (u0 X.K ps.length F))(bi:Binds X.K fd ps [])(hm:X.mg x=Ya (.ref C))(hr:dU (k+1) X.A)(ha:CA X (e::es) gl)(hg:Gl X x:=by rfl)(hdb:(x==("__debug__":aj))=false:=by decide)(he:Yy (e::es) X.env=(false,aN e X.env)::Yy es X.env:=by rfl)(hpl:(cL pos (Yy es X.env)).any (·.1)=false:=by rfl):C3 X (.Call (.Name x p) (e::es) [] pos) (Cv c F gl):=by
 refine(ZtM Mc ok hr hg hm bi .nil ZuN ha hdb he hpl).imp λσ H Q ak=>?_;obtain⟨ι,M,env,S,E,h⟩:=ak;obtain⟨ds,M1,e1,h⟩:=Zv.bind h;refine⟨ι,M,env,S,E,?_⟩;rw[e1];intro vs H1 ι1 x1 S1 r1 y dx hy hd ne;have y2:upd H1 dx (.own y) y=Yl:=by rw[gq (dg ne)];exact hy
 have x2:Ext X.K H1 ι1 (upd H1 dx (.own y)) ι1:=Loose.ext (.inl hd);have S2:aH X.K (upd H1 dx (.own y)) ι1 M1:=S1.other (.inl hd) (S1.fresh hd);have x3:Ext X.K (upd H1 dx (.own y)) ι1 (upd (upd H1 dx (.own y)) y (.ins C dx [])) (ι1++[y]):=Loose.Jk (.inl y2);have S3:aH X.K (upd (upd H1 dx (.own y)) y (.ins C dx [])) (ι1++[y]) (M1++[.ins c []]):=S2.new y2 (.inl ⟨C,dx,[],qW,aq,gj.nil⟩);have hy':(ι1++[y])[M1.length]?=Ya y:=by rw[←S1.len];simp
 have rr:Rep X.K (upd (upd H1 dx (.own y)) y (.ins C dx [])) (ι1++[y]) (.ref M1.length) (.ref y):=Rep.ref hy';cases q:F (.ref M1.length::ds) (M1++[.ins c []])with
 |bad=>simp only[q]at h;exact h.elim|exc _ _=>simp only[q]at h;exact h.elim|ok d M2=>
  have hl:(D.ref M1.length::ds).length=ps.length:=by refine Ygy λz=>?_;rw[hF _ _ z]at q;cases q
  refine⟨ι1++[y],M1++[.ins c []],.ref M1.length::ds,S3,by rw[jZ];exact au.cons rr ((r1.mono x2).mono x3),hl,?_⟩;rw[q];simp only[q]at h;cases d with
  |non=>intro v H4 ι4 x4 S4 r4;exact⟨r4.jA,h _ H4 ι4 (((x1.trans x2).trans x3).trans x4) S4 (rr.mono x4)⟩|_=>exact h.elim
end
noncomputable def ZtA(s:Yd0):List Yd0:=match s with
 | .ClassDef _ _ _ b _ _ _ _ _ _ _=>b|_=>[]
def M8(K:Yb)(C:Y2)(qual:aj)(st:Yd0)(ps:List aj):Prop:=∃f fd,uO K "__init__" qual st f fd/\Mk K C f/\Binds K fd ps []
def zx(P:Yae)(w:bh)(K:Yb)(mg:aj->Option Yh)(base:aR)(k:Nat)(C:Y2)(ps:List aj)(F:F3):Prop:=(∀ds M,ds.length≠ps.length->F ds M= .bad)/\∃f fd,Mk K C f/\Binds K fd ps []/\jK P w K mg base mO k f fd ps (u0 K ps.length F)
section
variable {P:Yae} {w:bh} {K:Yb} {mg:aj->Option Yh} {base:aR} {C f:Y2} {m qual:aj} {st:Yd0} {N ps:List aj} {k:Nat} {body:S3} {oc:Yh} {od an:Option Y2} {osl:Array (Option Yh)} {dV kV doc pm cdv ct:Yh}
theorem Ztw(mk:Jv K C=true)(kc:ug K (.ref C)=true)(a:nJ K (.ref C) "__init__" =Ya (Ya (.ref f)))(i:Jw K (.ref f)=true)(l:K.lookup f=Ya ⟨oc,od,.func (sH "__init__" qual (q8 st) (mL st) (Zt st) dV kV doc pm an cdv ct),osl⟩)(c:Fp K cdv qual=true)(kp:ug K (.ref f)=true)(b:Binds K (sH "__init__" qual (q8 st) (mL st) (Zt st) dV kV doc pm an cdv ct) ps []):M8 K C qual st ps:=⟨f,_,⟨⟨oc,od,dV,kV,doc,pm,an,cdv,ct,osl,rfl,l,c⟩,kp⟩,⟨mk,a,i,kc⟩,b⟩
theorem zx.of(d:M8 K C qual st ps)(S:cU N ps (Zt st))(hb:∀(f:Y2) (cdv:Yh) (A:bU) (outer:List fH) (s:Yk) (H:Hp) (E:XK),dU k (A.deeper (p6 qual (Zt st) s.heap.objs.size f cdv))->qt (uM mO P w K mg base N qual (Zt st) f cdv A outer s H E).yH (mL st) body):
  zx P w K mg base (k+1) C ps (bG ps.length N.length body):=by
 obtain⟨f,fd,F,mk,bi⟩:=d;exact⟨λds M h=>if_neg h,f,fd,mk,bi,Um F S (hb f)⟩
end
theorem ZxT{X:Cx}{e:Expr}{es:List Expr}{gl:d_}{c:List Nat}{C:Y2}{pos p:aU}{x:aj}{k:Nat}{F:F3}(kc:zu X.K c C)(G:zx X.prog X.w X.K X.mg X.base k C ps F)(hm:X.mg x=Ya (.ref C))(hr:dU (k+1) X.A)(ha:CA X (e::es) gl)(hg:Gl X x:=by rfl)(hdb:(x==("__debug__":aj))=false:=by decide)(he:Yy (e::es) X.env=(false,aN e X.env)::Yy es X.env:=by rfl)(hpl:(cL pos (Yy es X.env)).any (·.1)=false:=by rfl):C3 X (.Call (.Name x p) (e::es) [] pos) (Cv c F gl):=by obtain⟨hF,f,fd,mk,bi,ok⟩:=G;exact Zwg ⟨kc.aq,kc.nz⟩ mk hF ok bi hm hr ha hg hdb he hpl
noncomputable def C_(K:Yb)(d:List aj)(v:Yh):Bool:=match v with
 | .ref a=>(match K.lookup a with
  |some o=>o.cls== .type "tuple" &&o.dict.isNone&&(match o.data with| .seq vs _=>decide (vs.size<=1000)&&KTD.strsLook vs.toList d|_=>false)
  |none=>false)
 |_=>false
noncomputable def ZyF(t:Ma):List (aj×List aj):=t.map λp=>(⟨p.1.toArray⟩,p.2.map λy=>⟨y.toArray⟩)
def Zyr(K:Yb)(d:List aj)(v:Yh):Prop:=∃a,v= .ref a/\∀H,cT K H a (d.map V.str)
theorem ZpT:∀{vs:List Yh} {d:List aj},StrsAre vs d->Vals (d.map V.str) vs:=by
 intro vs d h
 induction h with
 |nil=>exact .nil|cons _ _ _ ih=>exact .cons ⟨_,rfl⟩ ih
theorem Zpf{d:List aj}{v:Yh}(h:C_ K d v=true):Zyr K d v:=by
 unfold C_ at h;split at h
 .rename_i a;refine⟨a,rfl,λH=>?_⟩;split at h
  .rename_i o ho;simp only[Y5]at h;obtain⟨⟨h1,h2⟩,h3⟩:=h;split at h3
   .rename_i vs n hd;simp only[Y5,decide_eq_true_eq]at h3;exact .inr ⟨o,vs,n,ho,⟨beq_iff_eq.mp h1,by simpa using h2⟩,hd,Yi h3.1 (by rw[Bc];decide),ZpT (KTD.strs_of_look h3.2)⟩
   .cases h3
  .cases h
 .cases h
abbrev ZxP(K:Yb)(a:Y2)(t:Ma):Prop:=KTD.tabLook (C_ K) (λb=>K.lookup b) a (ZyF t)=true
theorem ZxP.at{a:Y2}{t:Ma}{h:aR}(T:ZxP K a t)(X:K.In h):qU (Zyr K) h a (ZyF t):=Ymd (λ_ _ q=>Zpf q) X T
theorem ZmS{K:Yb}{H:Hp}{ι:List Y2}:∀ds:List (List Nat),au K H ι (ds.map D.str) ((ds.map λy=>(⟨y.toArray⟩:aj)).map V.str)
 |[]=>au.nil|_::ds=>au.cons Rep.str (ZmS ds)
section
variable {prog:Yae} {w:bh} {A:bU} {E:Yh->Yk->Prop} {s:Yk} {a:Y2} {K:Yb} {t:Ma} {x:List Nat} {tk:gn}
theorem tU{δ:Type}{R:δ->Yh->Prop}{T:List (aj×δ)}(h:qU R s.heap a T):s.TypeIs (.ref a) "dict":=let⟨_,o,_,_,ho,hc,_⟩:=h;⟨o,ho,hc.1⟩
theorem Vk{δ:Type}{R:δ->Yh->Prop}{T:List (aj×δ)}{k:aj}{Q:Option Yh->Yk->Prop}(h:qU R s.heap a T)(hs:∀d v,o8 k T=Ya d->R d v->Q (Ya v) {s with toks:=s.toks+1})(hn:o8 k T=Yl->Q Yl {s with toks:=s.toks+1}):ao (aB prog w) A (v9 a (.str k tk)) Q E s:=by
 obtain⟨_,o,es,ep,ho,hc,hd,hr⟩:=h;unfold v9
 try with_reducible refine iy ?_
 refine Yg (Z8 (Yg (KTD.kt_dictFind_strs (s:={s with toks:=s.toks+1}) ho hd (by obtain⟨es⟩:=es;simpa using hr.exact) ?_)));have key:Q (findBy (λq v=>v.isStr q) es k) {s with toks:=s.toks+1}:=by
  rw[show findBy (λq v=>v.isStr q) es k=(es.toList.find? λz=>z.key.isStr k).map (·.val)by obtain⟨es⟩:=es;simp[findBy]];cases e:o8 k T with
  |none=>rw[hr.find_none e];exact hn e|some d=>obtain⟨v,hv,r⟩:=hr.find_some e;rw[hv];exact hs d v e r
 rw[findBy_of_findIdx?]at key;cases e:es.findIdx? λz=>z.key.isStr k with
 |none=>rw[e]at key;exact Yv key|some j=>rw[e]at key;exact Yg (Z6 (s:={s with toks:=s.toks+1}) ho hd (Yv key))
end
open AutoSeq1 (wpAny_loadPart')
set_option maxRecDepth 100000
theorem Zmo{prog:Yae}{A:bU}{it:Y2}{fp:List Y2}{n:Nat}{P:Nat->Yh->Prop}{St:Nat->aR->Prop}(D:Draws prog w A it fp n P St):
  Draws prog w A it fp (n+1) (λi v=>P (i-1) v) (λi h=>∃j,i=j+1/\St j h)where
 live:=λi h ⟨j,_,st⟩=>D.live j h st
 frame:=λi h h' ⟨j,e,st⟩ hk=>⟨j,e,D.frame j h h' st hk⟩
 item:=λi s Q E hi st hQ=>by obtain⟨j,rfl,st⟩:=st;exact D.item j s Q E (Nat.lt_of_succ_lt_succ hi) st λx h' tk hp st' hs=>hQ x h' tk hp ⟨j+1,rfl,st'⟩ hs
 done:=λs Q E st hE=>by obtain⟨j,e,st⟩:=st;cases Sg e;exact D.done s Q E st hE
theorem Zno(l:Y2)(items:Array Yh)(n:Nat)(dct:Option Y2)(sl:Array (Option Yh))(t:gn):
  Meets (Builtin.«enumerate.__new__» ⟨[.type "enumerate",.ref l],[("start",.int 1 t)]⟩) (λ_ R s=>s.heap.get? l=Ya {cls:=.type "list",dict:=dct,data:=.seq items n,slots:=sl}/\
   R (.ok (.ret (.ref (s.heap.push {cls:=.type "list_iterator",data:=.fields #[.ref l,.int 0 0]}).objs.size)))
    {s with heap:=(s.heap.push {cls:=.type "list_iterator",data:=.fields #[.ref l,.int 0 0]}).push {cls:=.type "enumerate",data:=.fields #[.none,.bool false,.ref s.heap.objs.size,v_ 1,.none,.none]}}):=
 .of_wp λprog w A R s h=>by
  obtain⟨hp,g,d,tk,os⟩:=s;obtain⟨hl,h⟩:=h;have hsub:=sub_enumerate;have hL:Heap.IsList (Shared.heap ⟨hp,g,d,tk,os⟩) l items:=⟨_,hl,rfl,n,rfl⟩
  wp_walk using sJ hl
  refine Ymc λst=>Yv ?_;split
  .rename_i c _ _ _ _ _;cases(c==Value.type "enumerate")
   .wp_walk using sJ hl,vX hL
    exact⟨_,rfl,h⟩
   .wp_walk using sJ hl,vX hL
    exact⟨_,rfl,h⟩
  .wp_walk using sJ hl,vX hL
   exact⟨_,rfl,h⟩
theorem ZnM(a b:Yh):checkTypeCall "enumerate" ⟨[a],[("start",b)]⟩=pure ():=by kernel_rfl
theorem Zp3(a b:Yh):Yls "enumerate.__new__" ⟨[.type "enumerate",a],[("start",b)]⟩=pure ():=by kernel_rfl
theorem ZoB(o a b:Yh):argsOk "object.__init__" ⟨[o,a],[("start",b)]⟩:=by unfold argsOk;rw[signature?_of (id:="object.__init__") (n:=['_','_','t','i','n','i','_','_']) (o:=['t','c','e','j','b','o']) (by kernel_rfl) F.owner_object];kernel_rfl
theorem ZmY{self a b:Yh}:Meets (Builtin.«object.__init__» ⟨[self,a],[("start",b)]⟩) (λ_ R s=>s.TypeIs self "enumerate" /\R (.ok (.ret .none)) s):=by
 have hl:=F.called_enumerate.init.lookup;have hm:=F.called_enumerate.made;refine Meets.of_wp λprog w A R s hs=>?_;obtain⟨hT,hq⟩:=hs
 repeat(any_goals(first|assumption|wp_step))
 exact⟨_,rfl,hq⟩
theorem Zoh{prog:Yae}{A:bU}{E:Yh->Yk->Prop}{s:Yk}{l:Y2}{items:Array Yh}{t:gn}{Q:Yh->Yk->Prop}(hL:s.heap.IsList l items)(h:∀h',yq h' (s.heap.objs.size+1) s.heap.objs.size 1 .none->h'.IsListIter s.heap.objs.size l 0->(∀b o,s.heap.get? b=Ya o->h'.get? b=Ya o)->Q (.ref (s.heap.objs.size+1)) {s with heap:=h'}):
  ao (aB prog w) A (call (.type "enumerate") [.ref l] [("start",.int 1 t)]) Q E s:=by
 obtain⟨⟨c,dct,dt,sl⟩,hl,hc,n,hd⟩:=hL;replace hc:c= .type "list":=hc;replace hd:dt= .seq items n:=hd;subst hc hd;have ft:=Yki;obtain⟨c,tl,hmro⟩:=ft.mro;have hmade:=ft.made;have hsub:=ft.sub;have hct:=ZnM (.ref l) (.int 1 t);have hcn:=Zp3 (.ref l) (.int 1 t);refine FT (Yme (show ao _ _ (callAny (.type "enumerate") _) _ _ _ from ?_));refine Yv ⟨Ykj _ (by decide +kernel),yg F.entry_type_call (?_)⟩;rw[Ykk (Z3 _ _ _) (units_type_call_type _ _ _)];have h1:=ft.notType;have h2:=ft.canCreate
 repeat(any_goals(first|assumption|wp_step))
 have hz:(s.heap.push {cls:=.type "list_iterator",data:=.fields #[.ref l,.int 0 0]}).objs.size=s.heap.objs.size+1:=yr ..;have g0:=Zno l items n dct sl t prog w A.in1 (wants (λobj s₁=>s₁.TypeIs obj "enumerate" /\Q obj s₁) E) s ⟨hl,by
  show _/\_;rw[hz];have he:yq ((s.heap.push {cls:=.type "list_iterator",data:=.fields #[.ref l,.int 0 0]}).push {cls:=.type "enumerate",data:=.fields #[.none,.bool false,.ref s.heap.objs.size,v_ 1,.none,.none]}) (s.heap.objs.size+1) s.heap.objs.size 1 .none:=by have q:=Y4 (s.heap.push {cls:=.type "list_iterator",data:=.fields #[.ref l,.int 0 0]}) (o:={cls:=.type "enumerate",data:=.fields #[.none,.bool false,.ref s.heap.objs.size,v_ 1,.none,.none]}) rfl;rw[hz]at q;exact q
  exact⟨⟨_,he,rfl⟩,h _ he ⟨_,Yn _ (Y4 _ rfl),rfl,rfl⟩ λb o x=>Yn _ (Yn _ x)⟩⟩
 refine v4 (JN ft.plain Yir (JT hcn g0)) λr s₁ hr=>?_;cases r with
 |error e=>exact hr|ok fl=>
  cases fl with
  | ret obj=>
   obtain⟨hT,hq⟩:=hr;have hli:=ft.init.lookup;have hbi:=ft.init.bind obj
   repeat(any_goals(first|assumption|wp_step))
   refine v4 (JN ft.init.plain F.entry_object_init (ft.init.check _ _ _ _ _ _ _ _ hT (ZoB obj _ _) (ZmY prog w A.in1 (wants (λr s₂=>r= .none/\Q obj s₂) E) s₁ ⟨hT,rfl,hq⟩))) λr₂ s₂ Vl=>?_;cases r₂ with
   |error e=>exact Vl|ok fl₂=>
    cases fl₂ with
    |ret r=>
     obtain⟨rfl,hq⟩:=Vl
     repeat(any_goals(first|assumption|wp_step))
    |_=>exact Vl.elim
  |_=>exact hr.elim
noncomputable def Zx7(S:Hp->List V->Prop):It:=⟨λi H=>∃xs x,S H xs/\xs[i]?=Ya x,λi H x H'=>∃A a,x= .ref A/\H A=Yl/\H'=upd H A (.tup [.int ((i+1:Nat):Int),a])/\∀xs,S H xs->xs[i]?=Ya a,
 λi H=>∃xs,S H xs/\xs.length<=i⟩
theorem ZnA{P:Yae}{es:List Expr}{k:Nat}{pos:aU}(a e it:Y2)(hne:e≠it):
  Turn P w K (.Tuple es k pos) (Zx7 λH xs=>bL K H a xs) [e,it] e (λi h=>(∃old,yq h e it ((i+1:Nat):Int) old)/\h.IsListIter it a i)where
 mem:=by simp
 obj:=λi h st b hb=>by
  obtain⟨⟨old,he⟩,o,ho,c,d⟩:=st;simp only[Yo,qL,or_false]at hb;rcases hb with rfl|rfl
  .exact⟨_,he,λv z=>by cases z⟩
  .exact⟨o,ho,λv z=>by rw[d]at z;cases z⟩
 keep:=λi h h' st k=>by obtain⟨⟨old,he⟩,hit⟩:=st;exact⟨⟨old,k e (by simp) _ he⟩,hit.at λo q=>k it (by simp) o q⟩
 item:=by
  intro X hP hw hK hc i pins s σ H E I hf st hg;subst hP hw hK;obtain⟨xs,x,hq,hx⟩:=hg;obtain⟨its,rv,p,hz⟩:=I.list hq;obtain⟨u,hu,ru⟩:=rv.get hx;obtain⟨⟨old,he⟩,hit⟩:=st;have hel:=Y6 he;have hil:it<s.heap.objs.size:=by obtain⟨o,ho,_⟩:=id hit;exact Y6 ho
  have Ve:e≠a:=by rintro rfl;obtain⟨o,ho,hc,_⟩:=p.isList;rw[he]at ho;cases ho;exact absurd hc (by simp)
  have hai:a≠it:=by rintro rfl;obtain⟨o,ho,hc,_⟩:=p.isList;obtain⟨o',ho',hc',_⟩:=hit;rw[ho']at ho;cases ho;rw[hc']at hc;exact absurd hc (by simp)
  have D:=Zmo (Draws.list (prog:=X.prog) (w:=X.w) (A:=X.A.in1) (I.ok.hd hc) it a hai its.toArray);refine ZX (i:=i+1) D he ⟨i,rfl,hit,p.isList⟩ (by simpa using(Yf.mp hu).1) hne (by simp[hne,Ve]) λy h' tk hy ho hst hT hsz hk=>?_;have ey:y=u:=by
   have q:its.toArray[i]?=Ya u:=by simpa using hu
   have hy':its.toArray[i]?=Ya y:=hy;rw[q]at hy';cases hy';rfl
  subst ey;refine⟨_,rfl,QM (s:={s with heap:=h',toks:=tk+1}) ho λh'' Fl hs''=>?_⟩;obtain⟨I2,n2⟩:=Vd (i:=i+1) (x:=x) (tk':=tk+1) I hf hel hil ru hT hk hs'';obtain⟨j,ej,hst,_⟩:=hst;cases Sg ej;exact⟨.ref s.heap.objs.size,_,I2,rfl,⟨_,x,rfl,I.hok.fresh (Yt _),rfl,λys hy=>by rw[I.PJ hy hq];exact hx⟩,⟨⟨_,by simpa using Fl⟩,hst.extBut hs''.extBut (dg hne)⟩,n2⟩
 done:=by
  intro X hP hw hK hc i pins s σ H E I hf st hg;subst hP hw hK;obtain⟨xs,hq,hx⟩:=hg;obtain⟨its,rv,p,hz⟩:=I.list hq;obtain⟨⟨old,he⟩,hit⟩:=st;have hl:=rv.length;have hT:s.TypeIs (.ref e) "enumerate":=⟨_,he,rfl⟩;unfold ux;refine Yg (wpAny_attempt (yd (name:=qT "__next__") hT Kq
   (vY Kq hT Yh3 (show ao _ _ (field (.ref e) 2>>=λo=>_) _ _ _ from ?_) (Yhk _))))
  refine Yg (uw he rfl (x:=.ref it) rfl (Yg ?_));refine wpAny_nextOf_list_end (I.ok.hd hc) hit p.isList (by simp;exact lC 2 2268279672881 T1 hl hx) λh' x he' hx'=>?_;obtain⟨o,ho,hc⟩:=hx';refine Yg (Z_ (T:="StopIteration") (b:=true) ⟨o,ho,hc⟩ isSubtype_stop (Yv ?_));exact⟨rfl,I.Jd (t':=s.toks) (λb o hb q=>he' b o (λz=>hb (by simp[z])) q) hf⟩
 self:=λ_ _ _ _ _ st h=>by obtain⟨⟨old,he⟩,_⟩:=st;exact Ba he h
section
variable {X:Cx} {es:List Expr} {k:Nat} {a:Expr} {p pos tpos kp cp:aU} {f:E3}
def ZtW(K:Yb)(ta:TA):TI:=λσ H R=>ta σ H λvs H1=>∃b,vs=[.ref b]/\∃xs,bL K H1 b xs/\R (Zx7 λH xs=>bL K H b xs) H1
theorem Zll{M:Model}{A:bU}{E:Yh->Yk->Prop}{s:Yk}{env:fH}{T:String}{e:Expr}{kws:List Keyword}{Q:Yh->Yk->Prop}(h:ao M A (J1 (cL pos (Yy [e] env))) (λvs s₁=>ao M A (J3 ((jb pos (iZ kws env)).map (·.2)))
   (λkvs s₂=>ao M A (call (.type T) vs (((jb pos (iZ kws env)).filterMap (·.1)).zip kvs)) Q E s₂) E s₁) E s)(he:cL pos (Yy [e] env)=[(false,aN e env)])(hall:(jb pos (iZ kws env)).all (·.1.isSome)=true)(hkw:(jb pos (iZ kws env)).any (·.1.isNone)=false):
  ao M A (JZ pos (.type T) [] (cL pos (Yy [e] env)) (jb pos (iZ kws env))) Q E s:=by
 rw[he]at h ⊢;unfold JZ;refine Yg (iy (j4 (Yg0 (Q:=λa s₁=>ao M A (call (.type T) a.pos a.kw) Q E s₁) hall h) (λa s₁ h₁=>Yg (vZ ?_)) λ_ _ x=>x));simp only[hkw,lK,List.any_nil,Kc];refine Yg (Yv (Yg ?_));exact j4 h₁ (λr s₂ hr=>Yg (iy (wpAny_point (Yv hr)))) λ_ _ x=>x
theorem Zrl{ta:TA}{j}(hg:Gl X "enumerate")(hm:X.mg "enumerate" =Yl)(ha:PA X [a] ta)(he:cL pos (Yy [a] X.env)=[(false,aN a X.env)]):
  PI X (.Tuple es k tpos) (.Call (.Name "enumerate" p) [a] [⟨Ya "start",.Constant (.int 1) j cp,kp⟩] pos) (ZtW X.K ta):=by
 intro pins s σ H R I h;refine Az (yG I hg hm boot_enumerate (Zll (aK (ha pos pins s σ H _ I h) λus s1 ak=>?_) he rfl rfl));obtain⟨vs,H1,I1,r1,q1⟩:=ak;refine aK ((Zpo (nm:=Ya "start") (kpos:=kp) (SX (j:=j) (pos:=cp) (i:=1)) Zr5) pos pins s1 σ H1 (λzs H'=>zs=[.int 1]/\H'=H1) I1 ⟨rfl,rfl⟩) λws s2 HD=>?_;obtain⟨zs,H2,I2,rz,rfl,rfl⟩:=HD;obtain⟨b,e,xs,hq,q⟩:=q1;subst e;cases r1 with
 | cons r rr=>
  cases rr
  cases r
  cases rz with
  | cons r' rr=>
   cases rr
   obtain⟨t,rfl⟩:=r';have fp:∀c∈[s2.heap.objs.size+1,s2.heap.objs.size],iR X pins H2 c:=λc hc=>by
    have hc':s2.heap.objs.size<=c:=by simp only[Yo,qL,or_false]at hc;rcases hc with rfl|rfl <;>omega
    exact I2.vL hc' (I2.hok.fresh hc')
   obtain⟨its,rv,pl,hz⟩:=I2.list hq;refine Zoh (t:=t) pl.isList λh' hE hI hk=>?_;have I3:Inv X pins σ H2 {s2 with heap:=h'}:=I2.kept (t':=s2.toks) hk;exact Ba (s:={s2 with heap:=h'}) hE ⟨_,[s2.heap.objs.size+1,s2.heap.objs.size],_,_,H2,rfl,I3,ZnA b _ _ (Rk _),⟨⟨_,hE⟩,hI⟩,fp,q⟩
theorem ZqO{j}(hm:X.mg "enumerate" =Yl)(h:C3 X a f)(hg:Gl X "enumerate":=by rfl)(he:cL pos (Yy [a] X.env)=[(false,aN a X.env)]:=by rfl)(hs':Yy (a::[]) X.env=(false,aN a X.env)::Yy [] X.env:=by rfl):
  CIL X (.Tuple es k tpos) (.Call (.Name "enumerate" p) [a] [⟨Ya "start",.Constant (.int 1) j cp,kp⟩] pos) (Uk f):=
 PI.imp (Zrl hg hm (Zc h Zf hs') he) λσ H R ak=>by
  obtain⟨ι,M,env,S,E,h⟩:=ak;obtain⟨d,M1,e1,h⟩:=CV.bind h;refine⟨ι,M,env,S,E,?_⟩;have e2:Zb f Ze env M= .ok [d] M1:=by unfold Zb;rw[e1];rfl
  rw[e2];intro vs H1 ι1 x1 S1 r1;obtain⟨v,ws,rfl,r,q⟩:=r1.cons_inv;have:=q.nil_inv;subst this;cases d with
  | ref n=>
   cases hm:M1[n]? with
   |none=>simp only[hm]at h;exact h.elim|some o=>
    cases o with
    | lst ds=>
     simp only[hm]at h;obtain⟨b,ha,rfl⟩:=r.dM;obtain⟨vs,q,r⟩:=S1.obj n _ b hm ha;refine⟨b,rfl,vs,bL.of q,h _ H1 ι1 x1 S1 ?_⟩;intro i H2 ι2 M2 x S2 lk;have Hs:M2[n]?=Ya (.lst ds):=by simpa[jO]using lk
     obtain⟨vs2,q2,r2⟩:=S2.obj n _ b Hs (x.pre _ _ ha);refine⟨λd hd=>?_,λhl=>⟨vs2,bL.of q2,by rw[r2.length,hl,L_];exact Yt _⟩⟩;rw[LR,mC 1 i]at hd;cases hq:ds[i]? with
     |none=>rw[hq]at hd;cases hd|some d0=>rw[hq]at hd;cases hd;obtain⟨v,hv,rv⟩:=r2.get hq;refine⟨⟨vs2,v,bL.of q2,hv⟩,λy H3 hy=>?_⟩;obtain⟨T,y',rfl,hT,rfl,hall⟩:=hy;have e:=hall vs2 (bL.of q2);rw[hv]at e;cases e;exact S2.vM hT (au.cons Rep.int (au.cons rv au.nil))
    |_=>simp only[hm]at h;exact h.elim
  |_=>exact h.elim
end
end L3
namespace L3
open PySem PySem.Spec PyProof.Rows L2
noncomputable def Zyo(i:Int)(v:Yh):Bool:=match v with
 | .int j _=>decide (j=i)|_=>false
def ZxS(i:Int)(v:Yh):Prop:=∃t,v= .int i t
variable{i:Int}
theorem Ztd{v:Yh}(h:Zyo i v=true):ZxS i v:=by
 cases v with
 |int j t=>exact⟨t,by rw[of_decide_eq_true (show decide (j=i)=true from h)]⟩|_=>exact ft h
noncomputable def Dc(t:lU):List (aj×Int):=t.map λp=>(⟨p.1.toArray⟩,p.2)
abbrev nA(K:Yb)(a:Y2)(t:lU):Prop:=KTD.tabLook Zyo (λb=>K.lookup b) a (Dc t)=true
theorem nA.at{K:Yb}{a:Y2}{t:lU}{h:aR}(T:nA K a t)(X:K.In h):qU ZxS h a (Dc t):=Ymd (λ_ _ q=>Ztd q) X T
theorem Dd(x:List Nat):∀t:lU,o8 (⟨x.toArray⟩:aj) (Dc t)=dh x t
 |[]=>rfl|(k,v)::r=>by
  show(if decide ((⟨x.toArray⟩:aj)=⟨k.toArray⟩)=true then Ya v else o8 ⟨x.toArray⟩ (Dc r))=(if x=k then Ya v else dh x r);by_cases e:x=k
  .subst e;rw[if_pos rfl,if_pos (decide_eq_true rfl)]
  .rw[if_neg e,if_neg (by simp[e]),Dd x r]
variable{Q:Yh->Yk->Prop}{δ:Type}
section
variable {prog:Yae} {w:bh} {A:bU} {E:Yh->Yk->Prop} {s:Yk} {a:Y2} {K:Yb} {tk:gn}
theorem Zsf{R:δ->Yh->Prop}{l:List DictEntry}{T:List (aj×δ)}(h:KTD.Rows R l T):∀e∈l,∃x t,e.key= .str x t:=by
 induction h with
 |nil=>intro e he;cases he|cons hk _ _ ih=>
  intro e he;rcases Yo.mp he with q|q
  .rw[q];exact⟨_,_,hk⟩
  .exact ih e q
theorem ZpW{R:δ->Yh->Prop}{T:List (aj×δ)}{Q:Option Yh->Yk->Prop}(h:qU R s.heap a T)(hn:Q Yl {s with toks:=s.toks+1}):ao (aB prog w) A (v9 a (.int i tk)) Q E s:=by
 obtain⟨_,o,es,ep,ho,hc,hd,hr⟩:=h;have hs:∀e∈es,∃x t,e.key= .str x t:=λe he=>Zsf hr e (by simpa using he);unfold v9
 try with_reducible refine iy ?_
 refine Yg (Z7 (Yg ?_));unfold dictFind
 try with_reducible refine iy ?_
 refine Yg (Z6 (s:={s with toks:=s.toks+1}) ho hd ?_);dsimp only;rw[if_pos]
 .unfold dictWalkPlain;refine Yg ?_;refine wpAny_forIn_list _ (λ_ b s'=>s'={s with toks:=s.toks+1}/\b=(Yl,())) _ ?_ ?_ _ _ ⟨rfl,rfl⟩
  .rintro x rest b s' ⟨rfl,rfl⟩;cases he:es[x]? with
   |none=>exact Yv ⟨rfl,rfl⟩|some e=>
    obtain⟨y,t,ek⟩:=hs e (Yiu he);dsimp only;by_cases hh:(e.hash==hashInt i)=true
    .rw[if_pos hh,ek];refine Yg (Ymf (s:={s with toks:=s.toks+1}) ho hd (Yg (Ky y t i tk prog w E _ (Yg (Ymf (s:={s with toks:=s.toks+1}) ho hd ?_)))));show ao _ _ (if(ep !=ep)=true then _ else _) _ E _;rw[if_neg (by simp)];exact Yg (JW (Yv ⟨rfl,rfl⟩))
    .rw[if_neg hh];exact Yv ⟨rfl,rfl⟩
  .rintro b s' ⟨rfl,rfl⟩;exact Yv (Yv hn)
 .rw[kj];refine Ybb.mpr ⟨rfl,h_.mpr λv hv=>?_⟩;obtain⟨j,_,hj⟩:=Qz.mp hv;cases he:es[j]? with
  |none=>rw[he]at hj;cases hj|some e=>
   rw[he]at hj;obtain rfl:e.key=v:=by simpa using hj
   obtain⟨y,t,ek⟩:=hs e (Yiu he);rw[ek];rfl
theorem Zos{R:δ->Yh->Prop}{T:List (aj×δ)}{k:aj}{z:Yh}:
  MeetsIn prog w (Builtin.«dict.get» ⟨[.ref a,.str k tk,z],[]⟩) λ_ Z s=>qU R s.heap a T/\(∀d v,o8 k T=Ya d->R d v->Z (.ok (.ret v)) {s with toks:=s.toks+1})/\(o8 k T=Yl->Z (.ok (.ret z)) {s with toks:=s.toks+1}):=
 .of_wp λA Z s zz=>by obtain⟨h,h1,h2⟩:=zz;show ao _ _ (v9 a (.str k tk)>>=λo=>_) _ _ s;refine Yg (Vk h (λd v e r=>Yv ⟨v,rfl,h1 d v e r⟩) λe=>?_);show ao _ _ (Yj1 a (.str k tk)>>=λo=>_) _ _ _;exact Yg (Z5 h.1 (Yv ⟨z,rfl,h2 e⟩))
theorem Znt{R:δ->Yh->Prop}{T:List (aj×δ)}{z:Yh}:
  MeetsIn prog w (Builtin.«dict.get» ⟨[.ref a,.int i tk,z],[]⟩) λ_ Z s=>qU R s.heap a T/\Z (.ok (.ret z)) {s with toks:=s.toks+1}:=
 .of_wp λA Z s zz=>by obtain⟨h,h2⟩:=zz;show ao _ _ (v9 a (.int i tk)>>=λo=>_) _ _ s;refine Yg (ZpW h ?_);show ao _ _ (Yj1 a (.int i tk)>>=λo=>_) _ _ _;exact Yg (Z5 h.1 (Yv ⟨z,rfl,h2⟩))
theorem Zsz{R:δ->Yh->Prop}{T:List (aj×δ)}{k:aj}{z:Yh}(h:qU R s.heap a T)(h1:∀d v,o8 k T=Ya d->R d v->Q v {s with toks:=s.toks+1})(h2:o8 k T=Yl->Q z {s with toks:=s.toks+1}):ao (aB prog w) A (call (.builtin "dict.get") [.ref a,.str k tk,z]) Q E s:=call_meetsIn RQ (tU h) Yh4 (Yhl _ _ _) (Zos (R:=R) (T:=T)) ⟨h,h1,h2⟩
theorem ZqA{R:δ->Yh->Prop}{T:List (aj×δ)}{z:Yh}(h:qU R s.heap a T)(h2:Q z {s with toks:=s.toks+1}):ao (aB prog w) A (call (.builtin "dict.get") [.ref a,.int i tk,z]) Q E s:=call_meetsIn RQ (tU h) Yh4 (Yhl _ _ _) (Znt (R:=R) (T:=T)) ⟨h,h2⟩
end
section
variable {X:Cx} {e e':Expr} {x:aj} {a:Y2} {t:lU} {npos apos cpos pos:aU} {g g':E3}
inductive Zzp(t:lU)(y z:V)(H1:Hp)(Q:VK):Prop
 |str (k:List Nat) (e:y= .str ⟨k.toArray⟩) (s:∀i,dh k t=Ya i->Q (.int i) H1) (n:dh k t=Yl->Q z H1)
 |int (i:Int) (e:y= .int i) (n:Q z H1)
theorem Zre{te te':TE}(hm:X.mg x=Ya (.ref a))(ht:nA X.K a t)(he:PE X e te)(he':PE X e' te')(m:M2 X (.Name x npos) "get" apos e e' cpos)(hg:Gl X x)(hd:(x==("__debug__":aj))=false):
  PE X (.Call (.Attribute (.Name x npos) "get" apos) [e,e'] [] cpos) (λσ H Q=>te σ H λy H1=>te' σ H1 λz H2=>Zzp t y z H2 Q):=by
 intro pins s σ H Q I h;refine wpAny_Call_method m.base m.few m.line PySem.F.plainAttrs_dict RQ PySem.F.type_dict_get (aK (BK (v:=.ref a) (u:=.ref a) hg hm rfl hd pins s σ H (λv H'=>v= .ref a/\H'=H) I ⟨rfl,rfl⟩) λu s1 ak=>?_);obtain⟨v,H1,I1,r1,rfl,rfl⟩:=ak;obtain rfl:u=Value.ref a:=r1;have T1:=ht.at I1.fj;refine⟨tU T1,λb q=>?_,?_⟩
 .cases q
  obtain⟨_,ob,_,_,h1,h2,_⟩:=T1;exact⟨ob,h1,h2.2.1⟩
 rw[m.trees];refine R8 rfl (Yi7 (R9 (aK (he pins s1 σ H1 _ I1 h) λiv s2 ⟨y,H2,I2,ry,q2⟩=>R9 (aK (he' pins s2 σ H2 _ I2 q2) λfv s3 ⟨z,H3,I3,rz,q3⟩=>Yks ?_))));cases q3 with
 | str k ey hs hn=>
  rw[ey]at ry;obtain⟨tk,rfl⟩:=ry;refine Zsz (ht.at I3.fj) (λd v ed rv=>?_) λed=>?_
  .rw[Dd]at ed;obtain⟨t',rfl⟩:=rv;exact⟨.int d,H3,I3.tok _,⟨t',rfl⟩,hs d ed⟩
  .rw[Dd]at ed;exact⟨z,H3,I3.tok _,rz,hn ed⟩
 |int i ey hn=>rw[ey]at ry;obtain⟨tk,rfl⟩:=ry;exact ZqA (ht.at I3.fj) ⟨z,H3,I3.tok _,rz,hn⟩
theorem ZoU(hm:X.mg x=Ya (.ref a))(ht:nA X.K a t)(he:C3 X e g)(he':C3 X e' g')(m:M2 X (.Name x npos) "get" apos e e' cpos:=by exact⟨rfl,rfl,rfl,rfl⟩)(hg:Gl X x:=by rfl)(hd:(x==("__debug__":aj))=false:=by decide):
  C3 X (.Call (.Attribute (.Name x npos) "get" apos) [e,e'] [] cpos) (e2 (uU t) g g'):=(Zre hm ht he he' m hg hd).imp λσ H Q ak=>by
 obtain⟨ι,M,env,S,E,h⟩:=ak;obtain⟨d,M1,e1,h⟩:=Zv.bind h;obtain⟨d2,M2,e2,h⟩:=Zv.bind h;refine⟨ι,M,env,S,E,?_⟩;rw[e1];intro y H1 ι1 x1 S1 r1;refine⟨ι1,M1,env,S1,E.mono x1,?_⟩;rw[e2];intro z H2 ι2 x2 S2 r2;have h:=(h.up x1).up x2;cases d with
 | str k=>
  cases r1.str_inv
  refine .str k rfl (λi ei=>?_) λen=>?_
  .have h:Zv X.K H2 ι2 Q (match dh k t with|some i=>.ok (.int i) M2|none=>.ok d2 M2):=h
   rw[ei]at h;exact Zv.ok h S2 Rep.int
  .have h:Zv X.K H2 ι2 Q (match dh k t with|some i=>.ok (.int i) M2|none=>.ok d2 M2):=h
   rw[en]at h;exact Zv.ok h S2 r2
 |int i=>
  cases r1.int_inv
  exact .int i rfl (Zv.ok h S2 r2)
 |_=>exact h.elim
end
section
variable {X:Cx} {pos:aU}
theorem Ztm{x:aj}{a:Y2}{ds:List (List Nat)}(hm:X.mg x=Ya (.ref a))(ht:C_ X.K (ds.map λy=>(⟨y.toArray⟩:aj)) (.ref a)=true)(hg:Gl X x:=by rfl)(hd:(x==("__debug__":aj))=false:=by decide):C3 X (.Name x pos) (eC (.tup (ds.map D.str))):=by obtain⟨b,eb,sq⟩:=Zpf ht;cases eb;exact uW (v:=.ref a) hm rfl (λH ι=>Rep.tup (sq H) (ZmS ds)) hg hd
theorem Znm:aP X (dO .NotIn) (r2 X.K uV):=by
 intro pins s σ H x y v u Q I rx ry ⟨ι,M,a,b,S,ra,rb,h⟩;unfold uV at h;cases b with
 | ref n=>
  cases hn:M[n]? with
  |none=>simp only[hn]at h;exact h.elim|some ob=>
   cases ob with
   |dct _=>simp only[hn]at h;exact h.elim|cR _=>simp only[hn]at h;exact h.elim|ins _ _=>simp only[hn]at h;exact h.elim|lst ds=>
    simp only[hn]at h;by_cases hf:(cF a&&ds.all cF)=true
    .rw[if_pos hf]at h;rw[Y5]at hf;obtain⟨p,hp,rfl⟩:=rb.dM;cases ry;obtain⟨vs,e1,r1⟩:=S.obj n _ p hn hp;obtain⟨its,rvs,pl,_⟩:=I.list (bL.of e1);have he:∀y,y∈its.toArray->sV X.A.in1 s y v (cY (CZ y) a):=λy hy=>by
      have hy:y∈its:=by simpa using hy
      obtain⟨j,hj⟩:=JD hy;have hjl:j<vs.length:=by rw[rvs.length];exact(Yf.mp hj).1
      obtain⟨w,hw,kW⟩:=rvs.get (Y3 hjl);rw[hj]at hw;cases hw;have Hz:j<ds.length:=by rw[←r1.length];exact hjl
      obtain⟨z,hz,rz⟩:=r1.get (Y3 Hz);rw[Y3 hjl]at hz;cases hz;have hfl:=h_.mp hf.2 _ (um Hz);rw[Vf hfl rz kW];exact Mp X.A.in1 ds[j] a _ x y v hfl hf.1 rz ra kW rx
     refine Ykf (λy=>cY (CZ y) a) pl.isList he ⟨.bl (!ds.any λy=>cY y a),H,I,?_,h _ H ι Ext.refl S Rep.bl⟩;show(.bool _:Yh)= .bool _;rw[Vg r1 rvs hf.2];simp
    .rw[if_neg hf]at h;exact h.elim
 |_=>exact h.elim
end
variable{M:Store}
noncomputable section
noncomputable def qD(q q':D->D->Store->R3 D)(f g h:E3):E3:=λenv M=>(f env M).bind λa M1=>(g env M1).bind λb M2=>(q a b M2).bind λc M3=>match c with
 | .bl true=>(h env M3).bind λd M4=>q' b d M4|.bl false=>.ok (.bl false) M3|_=>.bad
theorem Zp4(is:List Int):mV (is.map D.int)=Ya is:=by
 induction is with
 |nil=>rfl|cons i is ih=>show(mV (is.map D.int)).map _=_;rw[ih];rfl
noncomputable def w6(k:Int):List Int->Int
 |[]=>k|a::r=>r.foldl (λm x=>if x>m then x else m) a
noncomputable def zy(k:Int)(ds:List D)(M:Store):R3 D:=match ds with
 |[.ref n]=>zf M[n]? λxs=>wQ ((mV xs).map λis=>D.int (w6 k is)) λd=>.ok d M|_=>.bad
theorem Znu{k:Int}{n:Nat}{is:List Int}(h:M[n]?=Ya (.lst (is.map D.int))):zy k [.ref n] M= .ok (.int (w6 k is)) M:=by show zf M[n]? _=_;rw[h];show wQ ((mV (is.map D.int)).map λis=>D.int (w6 k is)) _=_;rw[Zp4];rfl
theorem ZkC(xs:List (List Nat)):iD (xs.map D.str)=Ya xs:=by
 induction xs with
 |nil=>rfl|cons x xs ih=>show(iD (xs.map D.str)).map _=_;rw[ih];rfl
noncomputable def unlike:List (List Nat)->List (List Nat)->List (List Nat)
 |acc,[]=>acc|acc,x::r=>unlike (if acc.contains x then acc else acc++[x]) r
noncomputable def M_(ds:List D)(M:Store):R3 D:=match ds with
 |[.ref n]=>zf M[n]? λxs=>wQ ((iD xs).map λss=>D.int ((unlike [] ss).length:Int)) λd=>if xs.length<=20 then .ok d M else .bad|_=>.bad
theorem Zob{n:Nat}{xs:List (List Nat)}(h:M[n]?=Ya (.lst (xs.map D.str)))(hl:xs.length<=20):M_ [.ref n] M= .ok (.int ((unlike [] xs).length:Int)) M:=by show zf M[n]? _=_;rw[h];show wQ ((iD (xs.map D.str)).map λss=>D.int ((unlike [] ss).length:Int)) _=_;rw[ZkC];show(if(xs.map D.str).length<=20 then R3.ok _ M else .bad)=_;rw[Yu,if_pos hl]
theorem ZhY:∀{xs acc:List (List Nat)},(acc++xs).Nodup->unlike acc xs=acc++xs
 |[],acc,_=>(jZ acc).symm|x::r,acc,h=>by
  have hx:acc.contains x=false:=by rw[List.contains_eq_mem,decide_eq_false_iff_not];intro hm;exact(Av.mp h).2.2 x hm x Yc rfl
  show unlike (if acc.contains x then acc else acc++[x]) r=_;rw[hx,if_neg (by decide),ZhY (by rw[gG];exact h),gG];rfl
end
noncomputable section
noncomputable def u6(t:lU)(d:D)(M:Store):R3 D:=match d with
 | .str x=>.ok (.bl (dh x t).isSome) M|_=>.bad
noncomputable def Nb(t:lU)(d:D)(M:Store):R3 D:=match d with
 | .str x=>.ok (.bl (!(dh x t).isSome)) M|_=>.bad
noncomputable def Df(t:lU)(d:D)(M:Store):R3 D:=match d with
 | .str x=>(match dh x t with
  |some i=>.ok (.int i) M|none=>.bad)
 |_=>.bad
end
noncomputable section
noncomputable def rO(a b:D)(M:Store):R3 D:=match a,b with
 | .ref n,.ref m=>(match M[n]?,M[m]? with
  |some (.lst x),Ya (.lst [])=>.ok (.bl (!x.isEmpty)) M|_,_=>.bad)
 |_,_=>.bad
theorem ZrL{n m:Nat}{x:List D}(h:M[n]?=Ya (.lst x))(k:M[m]?=Ya (.lst [])):rO (.ref n) (.ref m) M= .ok (.bl (!x.isEmpty)) M:=by simp only[rO,h,k]
end
noncomputable section
noncomputable def xg(o:D)(ds:List D)(M:Store):R3 D:=match o,ds with
 | .str sep,[.tup z]=>(match iD z with
  |some ts=>if k_ sep ts<=SZ then .ok (.str (glue sep ts)) M else .bad|none=>.bad)
 |_,_=>.bad
theorem Zqp{sep:List Nat}{ts:List (List Nat)}(h:k_ sep ts<=SZ):xg (.str sep) [.tup (ts.map D.str)] M= .ok (.str (glue sep ts)) M:=by simp only[xg,ZkC,if_pos h]
end
section
variable {X:Cx} {a b c:Expr} {f g h:E3} {pos:aU}
theorem Zr7{op op':CmpOp}{q q':D->D->Store->R3 D}(ho:aP X (dO op) (r2 X.K q))(ho':aP X (dO op') (r2 X.K q'))(ha:C3 X a f)(hb:C3 X b g)(hc:C3 X c h)(hm:lastMarks [op,op'] [b,c]=false:=by rfl):CT X (.Compare a [op,op'] [b,c] pos) (qD q q' f g h):=
 (Zsi ho ho' ha hb hc hm).imp λσ H Q ak=>by
  obtain⟨ι,M,env,S,E,hh⟩:=ak;obtain⟨da,M1,e1,hh⟩:=nj.bind hh;refine⟨ι,M,env,S,E,?_⟩;rw[e1];intro v H1 ι1 x1 S1 r1;obtain⟨db,M2,e2,hh⟩:=nj.bind hh;refine⟨ι1,M1,env,S1,E.mono x1,?_⟩;rw[e2];intro u H2 ι2 x2 S2 r2;obtain⟨dc,M3,e3,hh⟩:=nj.bind hh;refine⟨ι2,M2,da,db,S2,r1.mono x2,r2,?_⟩;rw[e3];intro w H3 ι3 x3 S3 r3;cases dc with
  | bl k=>
   refine⟨k,r3.gP,?_⟩;cases k with
   |true=>rw[if_pos rfl];obtain⟨dd,M4,e4,hh⟩:=nj.bind hh;refine⟨ι3,M3,env,S3,E.mono ((x1.trans x2).trans x3),?_⟩;rw[e4];intro w' H4 ι4 x4 S4 r4;exact⟨ι4,M4,db,dd,S4,r2.mono (x3.trans x4),r4,Hq (hh.up (((x1.trans x2).trans x3).trans x4))⟩|false=>rw[if_neg (by decide)];exact⟨false,rfl,hh H3 ι3 ((x1.trans x2).trans x3) S3⟩
  |_=>exact hh.elim
end
set_option maxRecDepth 100000
theorem Zov(a d:Yh):Yls "max" ⟨[a],[("default",d)]⟩=pure ():=by kernel_rfl
theorem Nf:(Gk "max" ++Gk ".loop":String)= "max.loop":=by decide
variable{E:Yh->Yk->Prop}
theorem Zt4{prog:Yae}{w:bh}{A:bU}{s:Yk}{a b:Int}{t u:gn}(h:Q (.bool (decide (a>b))) s):ao (aB prog w) A (richCompare .Gt (.int a t) (.int b u)) Q E s:=
 CmpOf.ints_gt (P:=λi v=>if i=0 then v= .int a t else v= .int b u) (λi=>if i=0 then a else b) (λi v hv=>by
  by_cases c:i=0
  .rw[if_pos c]at hv ⊢;exact⟨t,hv⟩
  .rw[if_neg c]at hv ⊢;exact⟨u,hv⟩) 0 1 _ _ s Q E rfl rfl h
theorem Zq0{vs:List Yh}{ns:List Int}(h:IntsAre vs ns):vs.length=ns.length:=by
 induction h with
 |nil=>rfl|cons n t _ ih=>rw[Ym,Ym,ih]
section
variable {prog:Yae} {w:bh} {A:bU} {R:uy->Yk->Prop} {I L S:Y2} {vs:List Yh} {ns:List Int} {dv:Yh}
theorem Zty(hh:A.in1.handled=Yl)(hLI:L≠I)(hSI:S≠I)(Dg:S≠L)(hi:IntsAre vs ns):∀(k j:Nat) (m:Int) (s:Yk) (tb:gn) (c:Nat),vs.length-(j+1)=k->j+1<=vs.length->s.heap.IsListIter I L (j+1)->s.heap.IsList L vs.toArray ->
  s.heap.get? S=Ya {cls:=.type "list",dict:=Yl,data:=.seq #[.int m tb,.int m tb] c,slots:=#[]} ->
  (∀h' t tk,(∀b o,b≠I->b≠S->s.heap.get? b=Ya o->h'.get? b=Ya o)->R (.ok (.ret (.int ((ns.drop (j+1)).foldl (λm x=>if x>m then x else m) m) t))) {s with heap:=h',toks:=tk}) ->
  nR (aB prog w) A (.builtin "max.loop" ⟨[.ref I,.none,.ref S],[("default",dv)]⟩) R s:=by
 have W:=Kz (prog:=prog) (w:=w) (A:=A.in1) hh I L hLI vs.toArray;have len:ns.length=vs.length:=(Zq0 hi).symm;intro k
 induction k with
 |zero=>
  intro j m s tb c hk hj hst hL hS hR;have hin:vs.toArray.size=j+1:=by rw[Yq];omega
  refine yg RZ ?_;rw[Gi yw _];refine Yg (FN hS rfl ?_);refine Yg (FP (W.done s _ _ (hin▸⟨hst,hL⟩) λh' tk hk'=>?_));have hS':=hk' S _ (by simp[hSI]) hS;refine Yg ?_;refine QV hS' rfl (Yg (JV (Yv ?_)));have e:ns.drop (j+1)=[]:=JB (by omega);rw[e]at hR;exact hR _ tb _ λb o h1 h2 q=>(uz _ _ (dg h2)).trans (hk' b o (by simp[h1]) q)
 | succ k ih=>
  intro j m s tb c hk hj hst hL hS hR;have hlt:j+1<vs.length:=by omega
  refine yg RZ ?_;rw[Gi yw _];refine Yg (FN hS rfl ?_);refine Yg (FP (W.item (j+1) s _ _ (by rw[Yq];exact hlt) ⟨hst,hL⟩ λv h' tk hP hst' hk'=>?_));have hS':=hk' S _ (by simp[hSI]) hS;obtain⟨x,t,hx,rfl⟩:∃x t,ns[j+1]?=Ya x/\v= .int x t:=by rw[ZD]at hP;obtain⟨x,t,e,hx⟩:=hi.at (j+1) v hP;exact⟨x,t,hx,e⟩
  have ed:ns.drop (j+1)=x::ns.drop (j+1+1):=by have hl:j+1<ns.length:=(Yf.mp hx).1;rw[Ao hl,(Yf.mp hx).2]
  rw[ed,jD]at hR;refine Yg (Yv ?_);refine Yg (FP (iy (Yg (Zt4 ?_))));refine Yg (iy (qM ?_));refine Yg (JV (Yv ?_));by_cases hb:x>m
  .rw[if_pos hb]at hR;rw[decide_eq_true hb];simp only[if_true];refine Yg ?_;refine QV hS' rfl (Yg (JV ?_));rw[Nf];refine Yv ⟨FQ yw _,ih (j+1) x _ t _ (by omega) hlt (hst'.1.at λo e=>(uz _ _ hSI).trans e) (hst'.2.at λo e=>(uz _ _ Dg).trans e) (J_ _ hS' rfl) λh'' t' tk' hk''=>?_⟩;exact hR h'' t' tk' λb o h1 h2 q=>hk'' b o h1 h2 ((uz _ _ (dg h2)).trans (hk' b o (by simp[h1]) q))
  .rw[if_neg hb]at hR;rw[decide_eq_false hb];simp only[Bo,if_false];refine Yg (JV ?_);rw[Nf];refine Yv ⟨FQ yw _,ih (j+1) m _ tb c (by omega) hlt hst'.1 hst'.2 hS' λh'' t' tk' hk''=>?_⟩;exact hR h'' t' tk' λb o h1 h2 q=>hk'' b o h1 h2 (hk' b o (by simp[h1]) q)
end
section
variable {prog:Yae} {w:bh} {A:bU} {E:Yh->Yk->Prop} {s:Yk} {L:Y2} {vs:List Yh} {ns:List Int} {k:Int} {td:gn}
theorem Zp6(hh:A.handled=Yl)(hL:s.heap.IsList L vs.toArray)(hi:IntsAre vs ns)(h:∀h' t tk,(∀b o,s.heap.get? b=Ya o->h'.get? b=Ya o)->Q (.int (w6 k ns) t) {s with heap:=h',toks:=tk}):ao (aB prog w) A (call (.builtin "max") [.ref L] [("default",.int k td)]) Q E s:=by
 have hh1:A.in1.handled=Yl:=hh;have hlt:L<s.heap.objs.size:=by obtain⟨_,e,_⟩:=hL;exact Y6 e
 refine FT (JN F.plain_max F.entry_max (JT (Zov _ _) ?_));refine Yg (JT (show Builtin.Builtins.bindParams "max" ["key","default"] 0 ⟨[],[("default",.int k td)]⟩=pure [Yl,Ya (.int k td)]from rfl) ?_);refine Yg (Yv ?_);refine Yg (vX hL ?_);refine Yg (uv ?_);rw[Nf]
 let h1:=s.heap.push {cls:=.type "list_iterator",data:=.fields #[.ref L,.int 0 0]}
 let h2:=h1.push {cls:=.type "list",data:=.seq #[]}
 have e1:h1.objs.size=s.heap.objs.size+1:=yr ..;have up:∀b o,s.heap.get? b=Ya o->h2.get? b=Ya o:=λb o q=>Yn _ (Yn _ q);have hI:h2.IsListIter s.heap.objs.size L 0:=⟨_,Yn _ (Y4 _ rfl),rfl,rfl⟩;have hL2:h2.IsList L vs.toArray:=(hL.push _).push _;have hS:h2.get? h1.objs.size=Ya {cls:=.type "list",dict:=Yl,data:=.seq #[] 0,slots:=#[]}:=Y4 _ rfl;have hLI:L≠s.heap.objs.size:=dR hlt;have ls:s.heap.objs.size<h1.objs.size:=e1▸F_ _;have hSI:h1.objs.size≠s.heap.objs.size:=Gd ls;have Dg:h1.objs.size≠L:=Gd (nT hlt ls);have W:=Kz (prog:=prog) (w:=w) (A:=A.in1) hh1 s.heap.objs.size L hLI vs.toArray;have old:∀{h':aR},(∀b o,b≠s.heap.objs.size->b≠h1.objs.size->h2.get? b=Ya o->h'.get? b=Ya o)->∀b o,s.heap.get? b=Ya o->h'.get? b=Ya o:=λhk b o q=>by exact hk b o (dR (Y6 q)) (dR (nT (Y6 q) ls)) (up b o q)
 refine Yv ⟨FQ yw _,yg RZ ?_⟩;rw[Gi yw _];refine Yg (FN hS rfl ?_);cases hi with
 |nil=>refine Yg (FP (W.done _ _ _ ⟨hI,hL2⟩ λh' tk hk=>?_));refine Yg (JW (Yv ?_));exact h h' td tk (old λb o h1 h2 q=>hk b o (by simp[h1]) q)|cons n t hr=>
  refine Yg (FP (W.item 0 _ _ _ (by simp) ⟨hI,hL2⟩ λv h' tk hP hst hk=>?_));have hS':=hk _ _ (by simp[hSI]) hS;obtain rfl:v= .int n t:=by simpa using hP.symm
  refine Yg (Yv ?_);refine Yg ?_;refine QV hS' rfl ?_;rw[Nf];refine Yv ⟨FQ yw _,Zty hh1 hLI hSI Dg (.cons n t hr) _ 0 n _ t _ rfl (by simp) (hst.1.at λo e=>(uz _ _ hSI).trans e) (hst.2.at λo e=>(uz _ _ Dg).trans e) (J_ _ hS' rfl) λh'' t' tk' hk''=>?_⟩;exact h h'' t' tk' (old λb o h1 h2 q=>hk'' b o h1 h2 ((uz _ _ (dg h2)).trans (hk b o (by simp[h1]) q)))
end
section
variable {X:Cx} {a:Expr} {p pos kp cp:aU} {f:E3} {k:Int}
def ZxF(K:Yb)(k:Int)(ta:TA):TE:=λσ H Q=>ta σ H λvs H1=>∃b xs ns,vs=[.ref b]/\bL K H1 b xs/\(∀us,Vals xs us->IntsAre us ns)/\Q (.int (w6 k ns)) H1
theorem Zme{M:Model}{A:bU}{s:Yk}{env:fH}{T:String}{e:Expr}{kws:List Keyword}(h:ao M A (J1 (cL pos (Yy [e] env))) (λvs s₁=>ao M A (J3 ((jb pos (iZ kws env)).map (·.2)))
   (λkvs s₂=>ao M A (call (.builtin T) vs (((jb pos (iZ kws env)).filterMap (·.1)).zip kvs)) Q E s₂) E s₁) E s)(he:cL pos (Yy [e] env)=[(false,aN e env)])(hall:(jb pos (iZ kws env)).all (·.1.isSome)=true)(hkw:(jb pos (iZ kws env)).any (·.1.isNone)=false):
  ao M A (JZ pos (.builtin T) [] (cL pos (Yy [e] env)) (jb pos (iZ kws env))) Q E s:=by
 rw[he]at h ⊢;unfold JZ;refine Yg (iy (j4 (Yg0 (Q:=λa s₁=>ao M A (call (.builtin T) a.pos a.kw) Q E s₁) hall h) (λa s₁ h₁=>Yg (vZ ?_)) λ_ _ x=>x));simp only[hkw,lK,List.any_nil,Kc];refine Yg (Yv (Yg ?_));exact j4 h₁ (λr s₂ hr=>Yg (iy (wpAny_point (Yv hr)))) λ_ _ x=>x
theorem ZtT{ta:TA}{j}(hg:Gl X "max")(hm:X.mg "max" =Yl)(hc:X.calm=true)(ha:PA X [a] ta)(he:cL pos (Yy [a] X.env)=[(false,aN a X.env)]):
  PE X (.Call (.Name "max" p) [a] [⟨Ya "default",.Constant (.int k) j cp,kp⟩] pos) (ZxF X.K k ta):=by
 intro pins s σ H R I h;refine Az (yG I hg hm boot_max (Zme (aK (ha pos pins s σ H _ I h) λus s1 ak=>?_) he rfl rfl));obtain⟨vs,H1,I1,r1,q1⟩:=ak;refine aK ((Zpo (nm:=Ya "default") (kpos:=kp) (SX (j:=j) (pos:=cp) (i:=k)) Zr5) pos pins s1 σ H1 (λzs H'=>zs=[.int k]/\H'=H1) I1 ⟨rfl,rfl⟩) λws s2 HD=>?_;obtain⟨zs,H2,I2,rz,rfl,rfl⟩:=HD;obtain⟨b,xs,ns,e,hq,hi,q⟩:=q1;subst e;cases r1 with
 | cons r rr=>
  cases rr
  cases r
  cases rz with
  |cons r' rr=>
   cases rr
   obtain⟨t,rfl⟩:=r';obtain⟨its,rv,pl,hz⟩:=I2.list hq;refine Zp6 (td:=t) (I2.ok.hd hc) pl.isList (hi its rv) λh' t' tk hk=>?_;exact⟨.int (w6 k ns),H2,I2.kept (t':=tk) hk,⟨t',rfl⟩,q⟩
theorem Zq5{j}(hm:X.mg "max" =Yl)(h:C3 X a f)(hg:Gl X "max":=by rfl)(hc:X.calm=true:=by rfl)(he:cL pos (Yy [a] X.env)=[(false,aN a X.env)]:=by rfl)(hs':Yy (a::[]) X.env=(false,aN a X.env)::Yy [] X.env:=by rfl):
  C3 X (.Call (.Name "max" p) [a] [⟨Ya "default",.Constant (.int k) j cp,kp⟩] pos) (aC (zy k) (Zb f Ze)):=
 (ZtT hg hm hc (Zc h Zf hs') he).imp λσ H Q ak=>by
  obtain⟨ι,M,env,S,E,h⟩:=ak;refine⟨ι,M,env,S,E,?_⟩;have h:Zv X.K H ι Q ((Zb f Ze env M).bind λds M'=>zy k ds M'):=h;cases q:Zb f Ze env M with
  |exc _ _=>rw[q]at h;exact h.elim|bad=>rw[q]at h;exact h.elim|ok ds M1=>
   rw[q]at h;intro vs H1 ι1 x1 S1 r1;have h:Zv X.K H ι Q (zy k ds M1):=h
   match ds,h,r1 with
   |[],h,_=>exact h.elim|d1::d2::r,h,_=>cases d1<;>exact h.elim|[d],h,r1=>
    cases d with
    |ref n=>obtain⟨xs,hn,h⟩:=Ml h;obtain⟨d,hd,h⟩:=Ht h;obtain⟨ns,hns,rfl⟩:=Js.mp hd;obtain⟨v,ws,rfl,rv,Vm⟩:=r1;obtain⟨p,hp,rfl⟩:=rv.dM;obtain⟨us,e1,r2⟩:=S1.obj n _ p hn hp;rw[show ws=[]from Vm];exact⟨p,us,ns,rfl,.inl (.inl e1),λits rr=>Zk2 hns r2 rr,Zv.ok (h.up x1) S1 Rep.int⟩|_=>exact h.elim
end
set_option maxRecDepth 100000
noncomputable def oF:List aj->List aj->List aj
 |acc,[]=>acc|acc,x::r=>oF (if acc.any (· ==x)then acc else acc++[x]) r
theorem any_put(acc:List aj)(x k:aj):(if acc.any (· ==x)=true then acc else acc++[x]).any (· ==k)=(acc.any (· ==k)|| decide (k=x)):=by
 by_cases c:acc.any (· ==x)=true
 .rw[if_pos c];by_cases e:k=x
  .rw[e,c];rfl
  .rw[decide_eq_false e,Kc]
 .rw[if_neg c,List.any_append];congr 1;by_cases e:k=x
  .subst e;simp
  .rw[decide_eq_false e];simp[dg e]
section
variable {prog:Yae} {w:bh} {A:bU} {R:uy->Yk->Prop} {I L S:Y2} {l:List (aj×gn)}
theorem Zuc(hh:A.in1.handled=Yl)(hLI:L≠I)(hSI:S≠I)(Dg:S≠L)(hb:l.length<=20):∀(k i:Nat) (acc:List aj) (s:Yk),l.length-i=k->i<=l.length->acc.length<=i->s.heap.IsListIter I L i->s.heap.IsList L (mz l).toArray->s.heap.SetOf (strKind prog w) S (λk=>acc.any (· ==k)) acc.length ->
  (∀h' tk,(∀b o,b≠I->b≠S->s.heap.get? b=Ya o->h'.get? b=Ya o)->h'.SetOf (strKind prog w) S (λk=>(oF acc ((l.drop i).map (·.1))).any (· ==k)) (oF acc ((l.drop i).map (·.1))).length->R (.ok (.ret .none)) {s with heap:=h',toks:=tk}) ->
  nR (aB prog w) A (.builtin "set.update.loop" ⟨[.ref S,.ref I],[]⟩) R s:=by
 have W:=Kz (prog:=prog) (w:=w) (A:=A.in1) hh I L hLI (mz l).toArray;have sz:(mz l).toArray.size=l.length:=by simp[mz]
 intro k
 induction k with
 |zero=>
  intro i acc s hk hi ha hst hL hS hR;have hin:(mz l).toArray.size=i:=by omega
  refine yg Yey ?_;rw[Gi RJ _];refine Yg (W.done s _ _ (hin▸⟨hst,hL⟩) λh' tk hk'=>?_);have e:l.drop i=[]:=JB (by omega);rw[e]at hR;obtain⟨o,es,ep,t,ho,rest⟩:=hS;exact Yv (hR h' tk (λb o h1 _ q=>hk' b o (by simp[h1]) q) ⟨o,es,ep,t,hk' S _ (by simp[hSI]) ho,rest⟩)
 | succ k ih=>
  intro i acc s hk hi ha hst hL hS hR;have hlt:i<l.length:=by omega
  refine yg Yey ?_;rw[Gi RJ _];refine Yg (W.item i s _ _ (by omega) ⟨hst,hL⟩ λv h' tk hP hst' hk'=>?_);have hv:v= .str (l[i]'hlt).1 (l[i]'hlt).2:=by rw[ZD]at hP;simp only[mz,lH,Y3 hlt,Qn]at hP;exact(Y1 hP).symm
  have ed:l.drop i=l[i]'hlt::l.drop (i+1):=Ao hlt;rw[ed,Ys]at hR;generalize l[i]'hlt=q at hv hR;obtain⟨x,t⟩:=q;subst hv;have hS':h'.SetOf (strKind prog w) S (λk=>acc.any (· ==k)) acc.length:=by obtain⟨o,es,ep,tb,ho,rest⟩:=hS;exact⟨o,es,ep,tb,hk' S _ (by simp[hSI]) ho,rest⟩
  have hx:(strKind prog w).is x (.str x t)=true:=beq_self_eq_true x;have room:acc.length+1<Rf:=by have:Rf=4096:=rfl;omega
  refine Yg (iy ?_);unfold setAdd;refine iy ?_;refine Yg ((strKind prog w).pyHash (k:=x) hx ?_);refine wpAny_setAddHashed_of (knd:=strKind prog w) hx rfl hS' room λh'' sb hS2=>?_;refine Yv ⟨FQ RJ _,ih (i+1) (if acc.any (· ==x)=true then acc else acc++[x]) _ (by omega) hlt ?_ (hst'.1.at λo e=>(sb.2 I (dg hSI)).trans e) (hst'.2.at λo e=>(sb.2 L (dg Dg)).trans e) ?_ λh3 tk3 hk3 hS3=>?_⟩
  .by_cases c:acc.any (· ==x)=true
   .rw[if_pos c];omega
   .rw[if_neg c,Ye,iJ];omega
  .refine SetOf_congr hS2 (λk=>(any_put acc x k).symm) ?_;by_cases c:acc.any (· ==x)=true
   .rw[if_pos c,if_pos c]
   .rw[if_neg c,if_neg c,Ye,iJ]
  .exact hR h3 tk3 (λb o h1 h2 q=>hk3 b o h1 h2 ((sb.2 b h2).trans (hk' b o (by simp[h1]) q))) hS3
end
noncomputable abbrev rP(led:Bool):aO:={cls:=.type "set",dict:=Yl,data:=.set #[] 0 (.fresh 0 0 led)}
section
variable {prog:Yae} {w:bh} {A:bU} {E:Yh->Yk->Prop} {s:Yk} {L:Y2} {l:List (aj×gn)}
theorem Zp8(hh:A.handled=Yl)(hl:s.heap.IsList L (mz l).toArray)(hb:l.length<=20)(led:Bool){R:uy->Yk->Prop}(h:∀h' tk,h'.SetOf (strKind prog w) s.heap.objs.size (λk=>(oF [] (l.map (·.1))).any (· ==k)) (oF [] (l.map (·.1))).length->(∀b o,s.heap.get? b=Ya o->h'.get? b=Ya o)->R (.ok (.ret .none)) {s with heap:=h',toks:=tk}):
  ao (aB prog w) A.in1 (Builtin.«set.__init__» ⟨[.ref s.heap.objs.size,.ref L],[]⟩) (λfin s'=>match fin with| .done f=>R (.ok f) s'| .again c'=>c'.quiet=true/\nR (aB prog w) A c' R s') (λe s'=>R (.error e) s') {s with heap:=s.heap.push (rP led)}:=by
 have hS:(s.heap.push (rP led)).get? s.heap.objs.size=Ya (rP led):=Y4 _ rfl;obtain⟨ol,hol,hcl,nl,hdl⟩:=hl;obtain⟨ocls,odict,odata,oslots⟩:=ol;simp only at hcl hdl;subst hcl hdl;have hol':(s.heap.push (rP led)).get? L=Ya {cls:=.type "list",dict:=odict,data:=.seq (mz l).toArray nl,slots:=oslots}:=Yn _ hol;have f1:=PySem.F.sub_list_set;have f2:=PySem.F.sub_list_frozenset;have f3:(Value.type "list" ==Value.type "dict")=false:=by decide
 have hl1:(s.heap.push (rP led)).IsList L (mz l).toArray:=⟨_,hol',rfl,nl,rfl⟩;have hlS:L<s.heap.objs.size:=Y6 hol;have e1:(s.heap.push (rP led)).objs.size=s.heap.objs.size+1:=yr ..;have ls:s.heap.objs.size<(s.heap.push (rP led)).objs.size:=e1▸F_ _;unfold Builtin.«set.__init__» noKeywords Builtin.Frozenset.updateFrom;generalize hPI:Bf=PI
 wp_walk
 subst hPI;refine vX hl1 ?_;refine Yg (wpAny_runValue ?_);refine Zuc (by simp[hh]) (dR (nT hlS ls)) (dR ls) (Gd hlS) hb _ 0 [] _ rfl (eZ _) (Yt _) ⟨_,Y4 _ rfl,rfl,rfl⟩ (hl1.push _) ?_ λh' tk hk hS'=>?_
 .exact SetOf_congr ((setObjOf_fresh (knd:=strKind prog w) led).setOf (Yn _ hS) (by unfold Rf;omega)) (λ_=>rfl) rfl
 .refine Yv ?_;refine Yv (h h' tk hS' λb o q=>?_);have lb:=Y6 q;exact hk b o (dR (nT lb ls)) (dR lb) (Yn _ (Yn _ q))
end
set_option maxHeartbeats 1600000 in
theorem Zqm{prog:Yae}{w:bh}{A:bU}{s:Yk}{L:Y2}{l:List (aj×gn)}(hh:A.handled=Yl)(hl:s.heap.IsList L (mz l).toArray)(hb:l.length<=20)(h:∀h' tk,h'.SetOf (strKind prog w) s.heap.objs.size (λk=>(oF [] (l.map (·.1))).any (· ==k)) (oF [] (l.map (·.1))).length->(∀b o,s.heap.get? b=Ya o->h'.get? b=Ya o)->Q (.ref s.heap.objs.size) {s with heap:=h',toks:=tk}):
  ao (aB prog w) A (call (.type "set") [.ref L]) Q E s:=by
 obtain⟨c,tl,hmro⟩:=PySem.F.called_set.mro;have g1:=PySem.F.called_set.made;have g2:=PySem.F.called_set.sub;have g3:=PySem.F.called_set.notType;have g4:=PySem.F.called_set.canCreate;have g5:=PySem.F.typeCall_set_1 (.ref L);refine FT (Yme (Yv ⟨Ykj _ (by decide +kernel),yg PySem.F.entry_type_call ?_⟩));rw[Ykk (Z3 "set" [.ref L] []) rfl]
 repeat(any_goals(first|assumption|wp_step))
 refine v4 (code_set_new_1 (.ref L) (E:=E) (Q₁:=λo s1=>∃led,o= .ref s.heap.objs.size/\s1={s with heap:=s.heap.push (rP led)}) λled=>⟨led,rfl,rfl⟩) λr s1 hr=>?_;cases r with
 |error e=>exact hr|ok fl=>cases fl with
  | ret o=>
   obtain⟨led,rfl,rfl⟩:=hr;have hS:(s.heap.push (rP led)).get? s.heap.objs.size=Ya (rP led):=Y4 _ rfl;have hT:Shared.TypeIs {s with heap:=s.heap.push (rP led)} (.ref s.heap.objs.size) "set":=⟨_,hS,rfl⟩;have k1:=PySem.F.called_set.init.lookup;have k2:=PySem.F.called_set.init.bind (.ref s.heap.objs.size)
   repeat(any_goals(first|assumption|wp_step))
   refine v4 (JN (R:=wants (λr s2=>r= .none/\∃h' tk,s2={s with heap:=h',toks:=tk}/\h'.SetOf (strKind prog w) s.heap.objs.size (λk=>(oF [] (l.map (·.1))).any (· ==k)) (oF [] (l.map (·.1))).length/\∀b o,s.heap.get? b=Ya o->h'.get? b=Ya o) E) PySem.F.called_set.init.plain PySem.F.entry_set_init (check_set_init_1 hT ?_)) λr2 s2 hr2=>?_
   .exact Zp8 (by simp[hh]) hl hb led λh' tk a b=>⟨rfl,h',tk,rfl,a,b⟩
   .cases r2 with
    |error e=>exact hr2|ok f2=>cases f2 with
     |ret r=>
      obtain⟨rfl,h',tk,rfl,a,b⟩:=hr2
      repeat(any_goals(first|assumption|wp_step))
      exact h _ _ a b
     |_=>exact hr2.elim
  |_=>exact hr.elim
noncomputable def Ng(X:Cx)(p:Y2)(n:Nat):HO:=.ext λh=>∃S,h.SetOf (strKind X.prog X.w) p S n
section
variable {X:Cx} {a:Expr} {p p2 q pos:aU} {f:E3}
theorem Zkz:∀{x:List D} {ts:List (List Nat)},iD x=Ya ts->ts.length=x.length
 |[],ts,h=>by cases h;rfl|.str y::x,ts,h=>by have h:(iD x).map (y:: ·)=Ya ts:=h;obtain⟨r,hr,rfl⟩:=Js.mp h;rw[Ym,Ym,Zkz hr]
 | .non::_,_,h=>nomatch h|.bl _::_,_,h=>nomatch h|.int _::_,_,h=>nomatch h|.tup _::_,_,h=>nomatch h
 | .bF _::_,_,h=>nomatch h|.ref _::_,_,h=>nomatch h
theorem Zp7(hc:X.calm=true):L2.dm X (.type "set") (λxs H Q=>∃b ys sts,xs=[.ref b]/\bL X.K H b ys/\(∀us,Vals ys us->∃l:List (aj×gn),us=mz l/\l.map (·.1)=sts)/\sts.length<=20/\∀p,H p=Yl->Q (.ref p) (upd H p (Ng X p (oF [] sts).length))):=by
 intro pins s σ H xs us Q I r h;obtain⟨b,ys,sts,rfl,hq,hi,hl,q⟩:=h;obtain⟨u,rfl,ru⟩:=vals1 r;cases ru;obtain⟨its,rv,pl,hz⟩:=I.list hq;obtain⟨l,rfl,rfl⟩:=hi its rv;rw[Yu]at hl;refine Zqm (I.ok.hd hc) pl.isList hl λh' tk hS hk=>?_;refine⟨.ref s.heap.objs.size,_,I.laid (t':=tk) (o:=Ng X s.heap.objs.size (oF [] (l.map (·.1))).length) hk (Yt _) ⟨⟨_,hS⟩,?_,?_⟩,rfl,q _ (I.hok.fresh (Yt _))⟩
 .obtain⟨o,_,_,_,ho,_⟩:=hS;exact⟨o,ho⟩
 .intro _ _ z kk;obtain⟨S,o,es,ep,t,ho,rest⟩:=z;exact⟨S,o,es,ep,t,kk o ho,rest⟩
theorem Zqu:L2.dm X (.builtin "len") (λxs H Q=>∃p n,xs=[.ref p]/\H p=Ya (Ng X p n)/\n<=20/\Q (.int (n:Int)) H):=by intro pins s σ H xs us Q I r h;obtain⟨p,n,rfl,hp,hn,q⟩:=h;obtain⟨u,rfl,ru⟩:=vals1 r;cases ru;obtain⟨⟨S,o,es,ep,t,ho,hex,hd,_,_,_,hf,hsz⟩,_⟩:=I.hok p _ hp;subst hsz;refine call_len_set ho hex hd hf (by omega) ?_;exact⟨.int (es.size:Int),H,(I.tok _).tok _,⟨_,rfl⟩,q⟩
theorem Vn:∀(xs acc:List (List Nat)),(oF (acc.map λt=>(⟨t.toArray⟩:aj)) (xs.map λt=>(⟨t.toArray⟩:aj))).length=(unlike acc xs).length
 |[],acc=>Yu ..|x ::r,acc=>by
  have e:(acc.map λt=>(⟨t.toArray⟩:aj)).any (· ==(⟨x.toArray⟩:aj))=acc.contains x:=by
   induction acc with
   |nil=>rfl|cons y acc ih=>
    rw[Ys,lK,List.contains_cons,ih];congr 1;by_cases c:y=x
    .subst c;simp
    .have:(⟨y.toArray⟩:aj)≠⟨x.toArray⟩:=λz=>c (by injection z with z;simpa using congrArg Bv z)
     rw[beq_eq_false_iff_ne.mpr this,beq_eq_false_iff_ne.mpr (dg c)]
  show(oF (if(acc.map λt=>(⟨t.toArray⟩:aj)).any (· ==(⟨x.toArray⟩:aj))then _ else _) _).length=(unlike (if acc.contains x then acc else acc++[x]) r).length;rw[e];by_cases c:acc.contains x=true
  .rw[if_pos c,if_pos c];exact Vn r acc
  .rw[if_neg c,if_neg c];have:=Vn r (acc++[x]);rw[iY]at this;exact this
theorem Zjq:∀(xs acc:List (List Nat)),(unlike acc xs).length<=acc.length+xs.length
 |[],acc=>iM _ _|x::r,acc=>by
  show(unlike (if acc.contains x then acc else acc++[x]) r).length<=_;have h:=Zjq r (if acc.contains x then acc else acc++[x]);have k:(if acc.contains x then acc else acc++[x]).length<=acc.length+1:=by
   by_cases c:acc.contains x=true
   .rw[if_pos c];omega
   .rw[if_neg c,Ye,iJ];exact Yt _
  rw[Ym];omega
theorem ZqU(hm:X.mg "len" =Yl)(hm2:X.mg "set" =Yl)(h:C3 X a f)(hc:X.calm=true:=by rfl)(hg:Gl X "len":=by rfl)(hg2:Gl X "set":=by rfl)(hs:Yy [a] X.env=(false,aN a X.env)::Yy [] X.env:=by rfl)(hs2:Yy [.Call (.Name "set" p2) [a] [] q] X.env=(false,aN (.Call (.Name "set" p2) [a] [] q) X.env)::Yy [] X.env:=by rfl)(h1:(cL q (Yy [] X.env)).any (·.1)=false:=by rfl)(h2:(cL pos (Yy [] X.env)).any (·.1)=false:=by rfl):
  C3 X (.Call (.Name "len" p) [.Call (.Name "set" p2) [a] [] q] [] pos) (aC M_ (Zb f Ze)):=
 (Lg (r:=λxs H Q=>∃p n,xs=[.ref p]/\H p=Ya (Ng X p n)/\n<=20/\Q (.int (n:Int)) H) Zqu hg hm gm (wH (Zk3 (Zp7 hc) hg2 hm2 (by decide +kernel) (Zc h Zf hs) (by decide) (by decide) hs h1) Gz hs2) (by decide) (by decide) hs2 h2).imp λσ H Q ak=>by
  obtain⟨ι,M,env,S,E,h⟩:=ak;obtain⟨ds,M1,e1,h⟩:=Zv.bind h;refine⟨ι,M,env,S,E,?_⟩;rw[e1];intro vs H1 ι1 x1 S1 r1
  match ds,h,r1 with
  |[],h,_=>exact h.elim|d1::d2::r,h,_=>cases d1<;>exact h.elim|[d],h,r1=>
   cases d with
   |ref n=>
    obtain⟨xs,hn,h⟩:=Ml h;obtain⟨d,hd,h⟩:=Ht h;obtain⟨hl,h⟩:=wR h;obtain⟨ts,hts,rfl⟩:=Js.mp hd;obtain⟨v,ws,rfl,rv,Vm⟩:=r1;obtain⟨p,hp,rfl⟩:=rv.dM;obtain⟨us,e2,r2⟩:=S1.obj n _ p hn hp;rw[show ws=[]from Vm];have tl:ts.length<=20:=by rw[Zkz hts];exact hl
    refine⟨p,us,ts.map λt=>(⟨t.toArray⟩:aj),rfl,.inl (.inl e2),λits rr=>MK hts r2 rr,by rw[Yu];exact tl,λz hz=>?_⟩;have e3:(oF [] (ts.map λt=>(⟨t.toArray⟩:aj))).length=(unlike [] ts).length:=Vn ts [];have l3:(unlike [] ts).length<=20:=Yi (Zjq ts []) (by rw[Fz,wz];exact tl);refine⟨z,_,rfl,qW,by rw[e3];exact l3,?_⟩;rw[e3];exact h _ _ ι1 (x1.trans (Loose.ext (.inl hz))) (S1.other (.inl hz) (S1.fresh hz)) Rep.int
   |_=>exact h.elim
end
section
variable {prog:Yae} {w:bh} {A:bU} {E:Yh->Yk->Prop} {s:Yk} {a:Y2} {tk:gn}
theorem ZpL{R:δ->Yh->Prop}{T:List (aj×δ)}{k:aj}{Q:Bool->Yk->Prop}(h:qU R s.heap a T)(q:Q (o8 k T).isSome {s with toks:=s.toks+1}):ao (aB prog w) A (J0 (.ref a) (.str k tk)) Q E s:=by
 unfold J0
 try with_reducible refine iy ?_
 refine Yg (QT (tU h) PySem.F.slot_dict_contains.lookup ?_);show ao _ _ (if(Ya (Value.builtin "dict.__contains__")==Ya Value.none)=true then _ else _) _ E s;rw[if_neg (by rw[beq_builtin_none];exact mD)];refine Yg (wpAny_callSpecialUnlessNone?_slot (name:=qT "__contains__") (tU h) Ygm
  (vY Ygm (tU h) PySem.F.entry_dict_contains ?_ (args_dict_contains _ _)))
 show ao _ _ (v9 a (.str k tk)>>=_) _ _ s;refine Yg (Vk h (λd v e _=>?_) λe=>?_)
 .rw[e]at q;show ao _ _ (ret (.bool true)) _ _ _;exact Yv ⟨_,rfl,qM q⟩
 .rw[e]at q;show ao _ _ (Builtin.Dict.pendingKey? a (.str k tk)>>=_) _ _ _;exact Yg (wpAny_pendingKey_other h.1 (Yv ⟨_,rfl,qM q⟩))
theorem ZqC{R:δ->Yh->Prop}{T:List (aj×δ)}{k:aj}{d:δ}(h:qU R s.heap a T)(e:o8 k T=Ya d)(h1:∀v,R d v->Q v {s with toks:=s.toks+1}):ao (aB prog w) A (qO (.ref a) (.str k tk)) Q E s:=by
 unfold qO
 try with_reducible refine iy ?_
 refine Yg (QR (tU h) (by decide) ?_);refine Yg (yd (name:=qT "__getitem__") (tU h) Yg1
  (vY Yg1 (tU h) PySem.F.entry_dict_getitem ?_ (PySem.F.args_dict_getitem_2 _ _)))
 show ao _ _ (v9 a (.str k tk)>>=λo=>_) _ _ s;refine Yg (Vk h (λd' v e' r=>?_) λe'=>by rw[e]at e';cases e');rw[e]at e';cases e';exact Yv ⟨v,rfl,Yv (h1 v r)⟩
end
section
variable {X:Cx} {e:Expr} {x:aj} {a:Y2} {t:lU} {npos pos:aU} {g:E3}
def Vo(t:lU)(a:Y2)(p:Bool->Bool):R2:=λx y H Q=>y= .ref a/\∃k,x= .str ⟨k.toArray⟩/\Q (.bl (p (dh k t).isSome)) H
theorem Zpq(ht:nA X.K a t):aP X (dO .In) (Vo t a λb=>b):=by intro pins s σ H x y v u Q I rx ry h;obtain⟨rfl,k,rfl,q⟩:=h;obtain⟨tk,rfl⟩:=rx;obtain rfl:u= .ref a:=ry;show ao _ _ ((do return Value.bool (←J0 (.ref a) (.str ⟨k.toArray⟩ tk))):pY Yh) _ _ _;refine Yg (ZpL (ht.at I.fj) (Yv ⟨.bl (o8 (⟨k.toArray⟩:aj) (Dc t)).isSome,H,I.tok _,rfl,?_⟩));rw[Dd];exact q
theorem ZnN(ht:nA X.K a t):aP X (dO .NotIn) (Vo t a λb=>!b):=by intro pins s σ H x y v u Q I rx ry h;obtain⟨rfl,k,rfl,q⟩:=h;obtain⟨tk,rfl⟩:=rx;obtain rfl:u= .ref a:=ry;show ao _ _ ((do return Value.bool (!(←J0 (.ref a) (.str ⟨k.toArray⟩ tk)))):pY Yh) _ _ _;refine Yg (ZpL (ht.at I.fj) (Yv ⟨.bl (!(o8 (⟨k.toArray⟩:aj) (Dc t)).isSome),H,I.tok _,rfl,?_⟩));rw[Dd];exact q
theorem Vp{p:Bool->Bool}{q:D->Store->R3 D}(hq:∀d M,q d M=(match d with| .str k=>.ok (.bl (p (dh k t).isSome)) M|_=>.bad))(σ:St)(H:Hp)(Q:VK)(h:ni X.K (e1 q g) σ H Q):BR (Vo t a p) (ni X.K g) (tC (.ref a)) σ H Q:=by
 obtain⟨ι,M,env,S,E,h⟩:=h;obtain⟨d,M1,e1,h⟩:=Zv.bind h;refine⟨ι,M,env,S,E,?_⟩;rw[e1];intro y H1 ι1 x1 S1 r1;rw[hq]at h;cases d with
 |str k=>
  cases r1.str_inv
  exact⟨rfl,k,rfl,h _ H1 ι1 x1 S1 Rep.bl⟩
 |_=>exact h.elim
section
variable (hm:X.mg x=Ya (.ref a)) (ht:nA X.K a t) (he:C3 X e g)
include hm ht he
theorem Zun(hg:Gl X x:=by rfl)(hd:(x==("__debug__":aj))=false:=by decide)(hb:yh .In (.Name x npos)=false:=by rfl):C3 X (.Compare e [.In] [.Name x npos] pos) (e1 (u6 t) g):=(Zpu (Zpq ht) he (BK (v:=.ref a) hg hm rfl hd) hb).imp (Vp λd _=>by cases d<;>rfl)
theorem ZsP(hg:Gl X x:=by rfl)(hd:(x==("__debug__":aj))=false:=by decide)(hb:yh .In (.Name x npos)=false:=by rfl):CT X (.Compare e [.In] [.Name x npos] pos) (e1 (u6 t) g):=(Tj (Zpq ht) he (BK (v:=.ref a) hg hm rfl hd) hb).imp λσ H Q ak=>by obtain⟨ι,M,env,S,E,h⟩:=ak;exact Vp (λd _=>by cases d<;>rfl) σ H _ ⟨ι,M,env,S,E,Hq h⟩
theorem ZmB(hg:Gl X x:=by rfl)(hd:(x==("__debug__":aj))=false:=by decide)(hb:yh .NotIn (.Name x npos)=false:=by rfl):CT X (.Compare e [.NotIn] [.Name x npos] pos) (e1 (Nb t) g):=(Tj (ZnN ht) he (BK (v:=.ref a) hg hm rfl hd) hb).imp λσ H Q ak=>by obtain⟨ι,M,env,S,E,h⟩:=ak;exact Vp (λd _=>by cases d<;>rfl) σ H _ ⟨ι,M,env,S,E,Hq h⟩
end
theorem ZsX{te:TE}(hm:X.mg x=Ya (.ref a))(ht:nA X.K a t)(he:PE X e te)(hs:Lr e)(hg:Gl X x)(hd:(x==("__debug__":aj))=false):
  PE X (.Subscript (.Name x npos) e pos) (λσ H Q=>te σ H λy H1=>∃k i,y= .str ⟨k.toArray⟩/\dh k t=Ya i/\Q (.int i) H1):=by
 intro pins s σ H Q I h;refine Zui PySem.F.slot_dict_getitem.lookup hs (aK (BK (v:=.ref a) (u:=.ref a) hg hm rfl hd pins s σ H (λv H'=>v= .ref a/\H'=H) I ⟨rfl,rfl⟩) λu s1 ak=>?_);obtain⟨v,H1,I1,r1,rfl,rfl⟩:=ak;obtain rfl:u=Value.ref a:=r1;refine aK (he pins s1 σ H1 _ I1 h) λiv s2 HD=>?_;obtain⟨y,H2,I2,ry,k,i,rfl,et,q⟩:=HD;obtain⟨tk,rfl⟩:=ry;have T2:=ht.at I2.fj;refine⟨tU T2,ZqC T2 (d:=i) (by rw[Dd,et]) λv rv=>?_⟩;obtain⟨t',rfl⟩:=rv;exact⟨.int i,H2,I2.tok _,⟨t',rfl⟩,q⟩
theorem ZtJ(hm:X.mg x=Ya (.ref a))(ht:nA X.K a t)(he:C3 X e g)(hs:Lr e:=by exactλ_ _=>rfl)(hg:Gl X x:=by rfl)(hd:(x==("__debug__":aj))=false:=by decide):
  C3 X (.Subscript (.Name x npos) e pos) (e1 (Df t) g):=(ZsX hm ht he hs hg hd).imp λσ H Q ak=>by
 obtain⟨ι,M,env,S,E,h⟩:=ak;obtain⟨d,M1,e1,h⟩:=Zv.bind h;refine⟨ι,M,env,S,E,?_⟩;rw[e1];intro y H1 ι1 x1 S1 r1;cases d with
 | str k=>
  cases r1.str_inv
  cases et:dh k t with
  |none=>have h:Zv X.K H ι Q (match dh k t with|some i=>.ok (.int i) M1|none=>.bad):=h;rw[et]at h;exact h.elim
  |some i=>have h:Zv X.K H ι Q (match dh k t with|some i=>.ok (.int i) M1|none=>.bad):=h;rw[et]at h;exact⟨k,i,rfl,et,h _ H1 ι1 x1 S1 Rep.int⟩
 |_=>exact h.elim
end
section
variable {X:Cx}
theorem Vq(hu:X.A.units+80<jG):aP X (dO .NotEq) (r2 X.K rO):=by
 intro pins s σ H x y v u Q I rx ry h;obtain⟨ι,M,a,b,S,ra,rb,h⟩:=h;have hu1:X.A.units<jG:=by omega
 unfold rO at h;split at h
 next n m=>
  split at h
  next z h1 h2=>
   obtain⟨p,vs,its,_,eu,t,r1,v1⟩:=Mq I S h1 ra rx;obtain⟨q,ws,its2,_,ev,t',r2,v2⟩:=Mq I S h2 rb ry;cases z with
   |nil=>exact(Ut (k:=true) hu I S ra rb rx ry (by simp only[Ca,h1,h2];rfl)).2 X.prog X.w X.xe _ ⟨.bl false,H,I,rfl,Zv.ok h S Rep.bl⟩|cons d ds=>rw[eu,ev];have hz:(its.toArray.size !=its2.toArray.size)=true:=bne_iff_ne.mpr λe=>absurd ((pF r1 v1).symm.trans (e.trans (pF r2 v2))) (by simp);exact Ygl t t' hz hu1 X.prog X.w X.xe _ ⟨.bl true,H,I,rfl,Zv.ok h S Rep.bl⟩
  .exact h.elim
 .exact h.elim
end
section
variable {X:Cx} {o e:Expr} {es:List Expr} {f:E3} {gl:d_} {apos cpos:aU}
theorem Zs2:kO X "str.join" (rM X.K xg):=by
 intro pins s σ H x xs v us Q I rx rs h;obtain⟨ι,M,a,ds,S,ra,rd,h⟩:=h;unfold xg at h;split at h
 next sep z=>
  split at h
  next ts hs=>
   split at h
   next hz=>have:=ra.str_inv;subst this;obtain⟨w',ws,rfl,r1,r2⟩:=rd.cons_inv;have:=r2.nil_inv;subst this;obtain⟨t,rfl⟩:=rx;obtain⟨u,rfl,ru⟩:=vals1 rs;obtain⟨p,vs,its,ex,eu,ht,q1,v1⟩:=zj I r1 ru;subst eu;obtain⟨l,rfl,el⟩:=MK hs q1 v1;have hok:=ZsS hz;rw[←el]at hok;unfold JoinOk at hok;rw[Ykz]at hok;obtain⟨ob,ho,hc,n,hd⟩:=ht;refine qN RP (yp _ _ _) PySem.F.entry_str_join (PySem.F.args_str_join_2 _ _) (meets_str_join_tuple _ t p l hok) ⟨⟨ob,n,ho,hc,hd⟩,post_join l ⟨joinFit_length hok,λt' k=>⟨.str _,H,I.tok _,⟨t',rfl⟩,?_⟩⟩⟩;rw[el,Txt.join,Yip,MN];exact Zv.ok h S Rep.str
   .exact h.elim
  .exact h.elim
 .exact h.elim
theorem Zne(ho:C3 X o f)(ha:CA X (e::es) gl)(hbase:nQ o "join" X.env (aN o X.env)=aN o X.env:=by rfl)(hfew:((cL cpos (Yy (e::es) X.env)).all (λx=>!x.1)&&(jb cpos (iZ [] X.env)).all (λx=>x.1.isSome)
   &&decide ((e::es).length+([]:List Keyword).length+(if([]:List Keyword).isEmpty then 0 else 1)<30))=true:=by rfl)(hline:(apos.endLine==cpos.line)=true:=by rfl)(hs:Yy (e::es) X.env=(false,aN e X.env)::Yy es X.env:=by rfl)(hplain:(cL cpos (Yy es X.env)).any (·.1)=false:=by rfl):
  C3 X (.Call (.Attribute o "join" apos) (e::es) [] cpos) (aG fL xg f gl):=
 (BZ Ko RP Yiq Zs2 ho ha hbase hfew hline hs hplain).imp (CN MF)
end
end L3
set_option linter.all false
namespace L3
noncomputable section
end
open PySem
noncomputable section
end
end L3
namespace L3
open PySem
noncomputable section
local instance (priority:=100000) Ach (p:Prop):Decidable p:=Yz p
end
end L3
namespace L3
open PySem
noncomputable section
end
end L3
namespace L3
open PySem PySem.W PyProof.Rows PySem.Calls
variable{X:Yk->Bool}{ann:Option Yh}{w:bh}{L:List aj}{p:Yae}
theorem Ztr{q:Yae}{α:Type}{Y:Yk->α}{a:α}{N:Nat}{g0:Bool}{H:aR}{gs:Array GenState}{d:Drawn}{k m M:Nat}(ho:(fencedOpening o7 p w N).map (λs=>(s.heap,s.gens,s.drawn,s.toks))=Ya (H,gs,d,k))(hz:(H.isNs cP&&gs.size==0,H.objs.size,H.nsMap cP "__annotations__")=(true,m,ann))(hr:∀os,∃s,topRun o7 p w m ann M ⟨H,gs,d,k,os⟩ (topStub p)=Ya s/\(staticsOk (Bb p.main.body) H s.heap&&namesBound p s.heap&&gensDone s&&laidKept H s.heap)=true/\openSeen q L (Bb p.main.body) X g0 s=openGood q L/\Y s=a)(hl:nU M N=true):(openEnds o7 p w N).map (λs=>(openSeen q L (Bb p.main.body) X g0 s,Y s))=Ya (openGood q L,a):=by
 obtain⟨⟨h,gs',d',k',os⟩,e,e'⟩:=Js.mp ho;obtain⟨rfl,rfl,rfl,rfl⟩:h=H/\gs'=gs/\d'=d/\k'=k:=by cases e';exact⟨rfl,rfl,rfl,rfl⟩
 have z1:=congrArg (·.1) hz;have z2:=congrArg (·.2.1) hz;have z3:=congrArg (·.2.2) hz;dsimp only at z1 z2 z3;obtain⟨s,r,l1,l2,l3⟩:=hr os;have r:=topRun_mono (N-M) _ _ _ _ r;rw[show M+(N-M)=N from Nat.add_sub_cancel' (Rg hl)]at r;have t:topFrom o7 p w N ⟨h,gs',d',k',os⟩=Ya s:=by unfold topFrom;dsimp only;rw[z1,z2,z3,r];show(match staticsOk (Bb p.main.body) h s.heap&&namesBound p s.heap&&gensDone s&&laidKept h s.heap with|true=>_|false=>_)=_;rw[l1]
 unfold openEnds;rw[e];show(topFrom o7 p w N _).map _=_;rw[t];exact congrArg Ya (Prod.ext l2 l3)
theorem Zwc{m:Nat}{s:Yk}{c:Code}{pos q:aU}:topRun o7 p w m ann 2 s ⟨doneF .next,c,pos,[topFrame q]⟩=Ya s:=by obtain⟨a,b,d,e,f⟩:=s;rfl
theorem ZvC{m:Nat}{n0 n1 n:Nat}{S Sa:Yk}{T T':SharedT}{b:List Yd0}{env:fH}{q pos pos1 pos2:aU}(ha:topGo o7 p w m ann n0 S (topStub p)=Ya (Sa,⟨denote o7 (.body b env),.body b env,pos,[topFrame q]⟩))(hb:segRun o7 p w m ann 1 n1 Sa (blockOf b env (.body b env) pos [topFrame q])=Ya (.next,T.abs,.body b env,pos1))(hr:segRunT o7 p w m ann 1 n T (piecesOf b env (.body b env) pos1 [topFrame q])=Ya (.next,T',.body b env,pos2)):
  topRun o7 p w m ann (n0+(n1+(n+2))) S (topStub p)=Ya T'.abs:=by
 have h:=piece_app (rest:=[]) (segRun_of hr) (piece_nil Zwc);rw[jZ]at h;exact go_top ha (piece_block hb h)
theorem Zwt{A B C D E F:Type}{a a':A}{b b':B}{c c':C}{d d':D}{e e':E}{f f':F}(h:(a,b,c,d,e,f)=(a',b',c',d',e',f')):a=a'/\b=b'/\c=c'/\d=d'/\e=e'/\f=f':=by cases h;exact⟨rfl,rfl,rfl,rfl,rfl,rfl⟩
noncomputable def Vr:List aO->List aO
 |a::_::l=>a::Vr l|l=>l
noncomputable def Vs:Nat->List aO->BT
 |n+1,o::l=>.node o (Vs n (Vr l)) (Vs n (Vr l.tail))|_,_=>.nil
noncomputable abbrev hV(p:Yae):fH:={scope:=p.main.scope,locals:=mainNs,globals:=mainNs,cells:=[],code:=.ref 13,frame:=Ya 14}
noncomputable abbrev hO:aU:=⟨0,0,0,0⟩
noncomputable abbrev hK(p:Yae):Code:=.body (behindTheImports p) (hV p)
noncomputable abbrev hF:List Frame:=[topFrame hO]
noncomputable abbrev hS(w:bh)(os:OsState):Yk:=⟨boot_heap w.params,⟨[]⟩,boot_drawn,boot_toks,os⟩
noncomputable def hT(s:Yk):SharedT:=⟨Vs 8 s.heap.objs.toList,s.heap.objs.size,s.heap.life,s.gens,s.drawn,s.toks,s.os⟩
noncomputable abbrev hU:=Fast.tw14364793385576792824
noncomputable abbrev hW(w:bh)(b:Bool):bh:=w.withFollow "special-get-raises" b
noncomputable def Vt(p:Yae)(w:bh)(os:OsState):=Fast.tw15667345088766844465 hU p w 11 (Ya (.ref 6)) 12 (hS w os) (topStub p)
noncomputable def hSa(p:Yae)(w:bh)(os:OsState):Yk:=match Vt p w os with|some x=>x.1|none=>hS w os
noncomputable def Vu(p:Yae)(w:bh)(os:OsState):=Fast.tw14374325043358763698 hU p w 11 (Ya (.ref 6)) 1 1 (hSa p w os) (blockOf (behindTheImports p) (hV p) (hK p) hO hF)
noncomputable def Vv(p:Yae)(w:bh)(os:OsState):SharedT:=match Vu p w os with|some x=>hT x.2.1|none=>hT (hS w os)
noncomputable def Vw(p:Yae)(n:Nat)(w:bh)(os:OsState):=Fast.tw10110043849684766642 hU p w 11 (Ya (.ref 6)) 1 n (Vv p w os) (piecesOf (behindTheImports p) (hV p) (hK p) hO hF)
noncomputable def zA(p:Yae)(n:Nat)(w:bh)(os:OsState):SharedT:=match Vw p n w os with|some x=>x.2.1|none=>Vv p w os
noncomputable abbrev hSt(p q:Yae)(L:List aj)(X:Yk->Bool)(A:List Y2)(K:Params->Frag)(n:Nat)(z:aU)(w:bh):Prop:=∀os,(Vt p w os,Vu p w os,Vw p n w os,
  (staticsOk (Fast.tw5923862056798008813 p.main.body) (boot_heap w.params) (zA p n w os).abs.heap&&namesBound p (zA p n w os).abs.heap&&gensDone (zA p n w os).abs&&laidKept (boot_heap w.params) (zA p n w os).abs.heap),
  Fast.tw4187177175401517315 q L (Fast.tw5923862056798008813 p.main.body) X true (zA p n w os).abs,A.map (zA p n w os).abs.heap.get?)=
 (Ya (hSa p w os,⟨Fast.tw11892475500146522536 hU (hK p),hK p,hO,hF⟩),Ya (.next,(Vv p w os).abs,hK p,hO),Ya (.next,zA p n w os,hK p,z),true,openGood q L,(K w.params).map λp=>Ya p.2)
theorem ZqT{q:Yae}{A:List Y2}{K:Params->Frag}{n N:Nat}{z:aU}(e:opening p=plainProg p.main.scope.names)(f:∀s,fenceModules? p s=Ya s)(hN:nU 600 N=true)(hl:nU (12+(1+(n+2))) N=true)(h:hSt p q L X A K n z w):
  (openEnds o7 p w N).map (λs=>(openSeen q L (Bb p.main.body) X true s,A.map s.heap.get?))=Ya (openGood q L,(K w.params).map λp=>Ya p.2):=by
 refine Ztr (boot_open e hN f _) (m:=11) (ann:=Ya (.ref 6)) (M:=12+(1+(n+2))) (by kernel_rfl) (λos=>?_) hl;have h:=h os;unfold Vt Vu Vw hU at h;rw[←Fast.te15667345088766844465,←Fast.te14374325043358763698,←Fast.te10110043849684766642,←Fast.te14364793385576792824,←Fast.te5923862056798008813,←Fast.te4187177175401517315,←Fast.te11892475500146522536]at h;obtain⟨h1,h2,h3,h4,h5,h6⟩:=Zwt h;exact⟨_,ZvC h1 h2 h3,h4,h5,h6⟩
theorem ZvV{q:Yae}{A:List Y2}{K:Params->Frag}{n N:Nat}{z:aU}(e:opening p=plainProg p.main.scope.names)(f:∀s,fenceModules? p s=Ya s)(hN:nU 600 N=true)(hl:nU (12+(1+(n+2))) N=true)(h0:∀w,hSt p q L X A K n z (hW w false))(h1:∀w,hSt p q L X A K n z (hW w true)):
  LeftO p q L X (λs=>A.map s.heap.get?) (λw=>(K w.params).map λp=>Ya p.2) N:=λw=>
 byRow2 "special-get-raises" (P:=λw=>(openEnds o7 p w N).map (λs=>(openSeen q L (Bb p.main.body) X true s,A.map s.heap.get?))=Ya (openGood q L,(K w.params).map λp=>Ya p.2)) (λw=>ZqT e f hN hl (h0 w)) (λw=>ZqT e f hN hl (h1 w)) w
end L3
set_option maxHeartbeats 4000000
namespace Law
open PySem L3
noncomputable section
def vJ:E3:=eC (.str [48,49,50,51,52,53,54,55,56,57])
def xT:E3:=eC (.str [97,98,99,100,101,102,103,104,105,106,107,108,109,110,111,112,113,114,115,116,117,118,119,120,121,122])
def oG:lU:=[([119,104,101,110],2),([119,104,105,108,101],1)]
def xQ:E3:=eC (.int 12)
def vG:E3:=eC (.int 6)
def su:E3:=eC (.int 60)
def sy:E3:=eC (.int 8)
def vH:E3:=eC (.int 6)
def vI:E3:=eC (.int 60)
def pH:lU:=[([97,100,100],2),([115,117,98],2),([109,111,114,101],2),([99,101,108,108],1)]
def jf:lU:=[([115,101,116],1),([112,117,116],2),([116,101,108,108],1),([119,104,101,110],1),([101,108,115,101],0),([119,104,105,108,101],1),([101,110,100],0)]
def Zx:List (List Nat):=[[116,97,107,101],[115,101,116],[112,117,116],[116,101,108,108],[119,104,101,110],[101,108,115,101],[119,104,105,108,101],[101,110,100],[97,100,100],[115,117,98],[109,111,114,101],[99,101,108,108]]
def qF:E3:=eC (.tup (Zx.map D.str))
def HF:S3:=Zq (aA 1 (jL (aG fL tG (Za 0) (Zb (eC (.str [45])) (Ze))) (dW (Za 0) (dw (eC (.int 1))) (fK)) (Za 0))) (Zq (aJ (eE (e2 fQ (aC bw (Zb (Za 1) (Ze))) (eC (.int 1))) (e2 cV (aC bw (Zb (Za 1) (Ze))) (su))) (aQ (eC (.bl false))) (aW)) (Zq (aJ (aG fL tG (Za 1) (Zb (eC (.str [48])) (Ze))) (aQ (e2 bj (Za 0) (eC (.str [48])))) (aW)) (aQ (aC tE (Zb (fU (bW (Za 1)) 1 (bB 2) [] (e2 mU (Za 2) (vJ))) (Ze))))))
def rQ:F3:=bG 1 2 HF
def Vx:S3:=aQ (aG fL uR (eC (.str [32])) (Zb (fU (bW (Za 0)) 1 (bB 1) [] (aC tO (Zb (Za 1) (Ze)))) (Ze)))
def HJ:F3:=bG 1 1 Vx
def Vy:S3:=Zq (aA 1 (aX (Ze))) (Zq (aA 2 (eC (.int 0))) (Zq (kZ (bW (Za 0)) (bB 3) (Zq (aJ (e2 bj (Za 2) (eC (.int 0))) (Zq (aV (aG bx cg (Za 1) (Zb (aX (Ze)) (Ze)))) (aA 2 (eC (.int 1)))) (aW)) (Zq (aV (aG bx cg (e2 Zm (Za 1) (e1 cH (eC (.int 1)))) (Zb (Za 3) (Ze)))) (aA 2 (e2 aM (e2 iB (Za 2) (eC (.int 1))) (e2 (uU pH) (Za 3) (eC (.int 0)))))))) (aQ (jL (e2 bj (Za 2) (eC (.int 0))) (fU (bW (Za 1)) 1 (bB 4) [] (aC gh (Zb (Za 4) (Ze)))) (eC .non)))))
def xj:F3:=bG 1 4 Vy
def Zh8:S3:=aQ (e1 (u6 pH) (Za 0))
def Dh:F3:=bG 1 1 Zh8
def Vz:S3:=aQ (Zz xj (Zb (dW (Za 0) (dw (eC (.int 1))) (fK)) (Ze)))
def Nh:F3:=bG 1 1 Vz
def VB(rec:F3):S3:=Zq (aA 1 (Zz Nh (Zb (Za 0) (Ze)))) (aQ (aC (zy 1) (Zb (wN (Uh (Za 1)) 2 (ph [2,3]) [] (e2 aM (Zz rec (Zb (Za 3) (Ze))) (Za 2))) (Ze))))
def zB:Nat->F3
 |0=>bG 1 2 rm|n+1=>bG 1 2 (VB (zB n))
def HN:F3:=zB 61
def Ni:S3:=Zq (aJ (eE (e2 fQ (aC bw (Zb (Za 0) (Ze))) (eC (.int 1))) (eE (e2 cV (aC bw (Zb (Za 0) (Ze))) (sy)) (e2 mU (Za 0) (qF)))) (aQ (eC (.bl false))) (aW)) (aQ (aC tE (Zb (fU (bW (Za 0)) 1 (bB 1) [] (e2 mU (Za 1) (xT))) (Ze))))
def oH:F3:=bG 1 1 Ni
def VD:S3:=Zq (aA 1 (dW (e2 Zm (Za 0) (eC (.int 1))) (dw (eC (.int 1))) (fK))) (Zq (aJ (eE (e2 fQ (aC bw (Zb (Za 1) (Ze))) (eC (.int 1))) (eE (e2 cV (aC bw (Zb (Za 1) (Ze))) (vH)) (e2 fJ (aC M_ (Zb (Za 1) (Ze))) (aC bw (Zb (Za 1) (Ze)))))) (rm) (aW)) (Zq (aJ (e1 jm (aC tE (Zb (fU (bW (Za 1)) 1 (bB 2) [] (Zz oH (Zb (Za 2) (Ze)))) (Ze)))) (rm) (aW)) (aQ (aC gh (Zb (Za 1) (Ze))))))
def Nj:F3:=bG 1 2 VD
def Zfd:S3:=Zq (Hl [66,108,111,99,107] [104,101,97,100] (Za 0) (Za 1)) (Hl [66,108,111,99,107] [108,105,115,116,115] (Za 0) (aX (Zb (aX (Ze)) (Ze))))
def zE:F3:=bG 2 2 Zfd
def Nk:S3:=Zq (aJ (e1 jm (aC tE (Zb (fU (bW (Za 0)) 1 (bB 3) [] (eE (Zz Dh (Zb (Za 3) (Ze))) (eE (Zz oH (Zb (Za 3) (Ze))) (Zz rQ (Zb (Za 3) (Ze)))))) (Ze)))) (aQ (eC .non)) (aW)) (Zq (aA 1 (Zz xj (Zb (fU (bW (Za 0)) 1 (bB 3) [] (jL (Zz rQ (Zb (Za 3) (Ze))) (aC uT (Zb (Za 3) (Ze))) (Za 3))) (Ze)))) (Zq (aJ (e2 n8 (Za 1) (eC .non)) (aQ (eC .non)) (aW)) (Zq (aA 2 (wN (Uh (Za 1)) 2 (ph [3,4]) [] (e2 aM (Zz HN (Zb (Za 4) (Ze))) (Za 3)))) (aQ (jL (e2 n6 (aC (zy 0) (Zb (Za 2) (Ze))) (vG)) (Za 1) (eC .non))))))
def HS:F3:=bG 1 3 Nk
def Nm:S3:=Zq (aJ (eE (e1 (Nb jf) (e2 Zm (Za 0) (eC (.int 0)))) (e2 cV (aC bw (Zb (Za 0) (Ze))) (vI))) (aQ (eC .non)) (aW)) (Zq (aA 1 (jL (e2 bj (e2 Zm (Za 0) (eC (.int 0))) (eC (.str [115,101,116]))) (eC (.int 2)) (eC (.int 1)))) (Zq (aJ (e1 jm (aC tE (Zb (fU (bW (dW (Za 0) (dw (eC (.int 1))) (dw (Za 1)))) 1 (bB 3) [] (Zz oH (Zb (Za 3) (Ze)))) (Ze)))) (aQ (eC .non)) (aW)) (Zq (aA 2 (Zz HS (Zb (dW (Za 0) (dw (Za 1)) (fK)) (Ze)))) (Zq (aJ (eE (e2 n8 (Za 2) (eC .non)) (e2 fJ (aC bw (Zb (Za 2) (Ze))) (e1 (Df jf) (e2 Zm (Za 0) (eC (.int 0)))))) (aQ (eC .non)) (aW)) (aQ (aC gh (Zb (e2 aM (dW (Za 0) (fK) (dw (Za 1))) (Za 2)) (Ze))))))))
def HW:F3:=bG 1 3 Nm
def VF:S3:=Zq (aA 2 (e2 Zm (Za 0) (e1 cH (eC (.int 1))))) (Zq (aA 3 (e2 bj (e2 (uU oG) (e2 Zm (e1 (jQ [66,108,111,99,107] [104,101,97,100]) (Za 2)) (eC (.int 0))) (eC (.int 0))) (aC bw (Zb (e1 (jQ [66,108,111,99,107] [108,105,115,116,115]) (Za 2)) (Ze))))) (Zq (aJ (e1 (u6 oG) (Za 1)) (aQ (e2 n6 (aC bw (Zb (Za 0) (Ze))) (xQ))) (aW)) (Zq (aJ (e2 bj (Za 1) (eC (.str [101,108,115,101]))) (aQ (bN (e2 bj (e2 Zm (e1 (jQ [66,108,111,99,107] [104,101,97,100]) (Za 2)) (eC (.int 0))) (eC (.str [119,104,101,110]))) (e1 jm (Za 3)))) (aW)) (Zq (aJ (e2 bj (Za 1) (eC (.str [101,110,100]))) (aQ (Za 3)) (aW)) (aQ (eC (.bl true)))))))
def Di:F3:=bG 2 4 VF
def zF:S3:=Zq (aA 2 (e2 Zm (Za 0) (e1 cH (eC (.int 1))))) (aJ (e1 (u6 oG) (e2 Zm (Za 1) (eC (.int 0)))) (aV (aG bx cg (Za 0) (Zb (Cv [66,108,111,99,107] zE (Zb (Za 1) (Ze))) (Ze)))) (aJ (e2 bj (e2 Zm (Za 1) (eC (.int 0))) (eC (.str [101,108,115,101]))) (aV (aG bx cg (e1 (jQ [66,108,111,99,107] [108,105,115,116,115]) (Za 2)) (Zb (aX (Ze)) (Ze)))) (aJ (e2 bj (e2 Zm (Za 1) (eC (.int 0))) (eC (.str [101,110,100]))) (Zq (aV (aG bx qg (Za 0) (Ze))) (Zq (aA 3 (e2 aM (e1 (jQ [66,108,111,99,107] [104,101,97,100]) (Za 2)) (aC gh (Zb (fU (bW (e1 (jQ [66,108,111,99,107] [108,105,115,116,115]) (Za 2))) 1 (bB 4) [] (aC gh (Zb (Za 4) (Ze)))) (Ze))))) (aV (aG bx cg (e2 Zm (e1 (jQ [66,108,111,99,107] [108,105,115,116,115]) (e2 Zm (Za 0) (e1 cH (eC (.int 1))))) (e1 cH (eC (.int 1)))) (Zb (Za 3) (Ze)))))) (aV (aG bx cg (e2 Zm (e1 (jQ [66,108,111,99,107] [108,105,115,116,115]) (Za 2)) (e1 cH (eC (.int 1)))) (Zb (Za 1) (Ze)))))))
def u9:F3:=bG 2 4 zF
def VG:S3:=Zq (aA 2 (aX (Zb (Cv [66,108,111,99,107] zE (Zb (bV (Zb (eC (.str [112,114,111,103,114,97,109])) (Ze))) (Ze))) (Ze)))) (Zq (kZ (bW (Za 0)) (ph [3,4]) (Zq (aA 5 (Zz HW (Zb (Za 4) (Ze)))) (Zq (aJ (eE (e2 n8 (Za 5) (eC .non)) (e1 jm (Zz Di (Zb (Za 2) (Zb (e2 Zm (Za 5) (eC (.int 0))) (Ze)))))) (rm) (aW)) (aV (Zz u9 (Zb (Za 2) (Zb (Za 5) (Ze)))))))) (Zq (aJ (e2 cV (aC bw (Zb (Za 2) (Ze))) (eC (.int 1))) (rm) (aW)) (aQ (aC gh (Zb (e2 Zm (e1 (jQ [66,108,111,99,107] [108,105,115,116,115]) (e2 Zm (Za 2) (eC (.int 0)))) (eC (.int 0))) (Ze))))))
def Np:F3:=bG 2 6 VG
def Nq:S3:=Zq (aA 1 (aG fL ql (Za 0) (Zb (eC (.str [10])) (Ze)))) (Zq (aA 2 (wN (Uk (Za 1)) 2 (ph [4,5]) [e2 fJ (Za 5) (eC (.str []))] (bV (Zb (Za 4) (Zb (aG fL ql (Za 5) (Zb (eC (.str [32])) (Ze))) (Ze)))))) (Zq (aA 3 (bV (Ze))) (Zq (aJ (bN (e2 cV (aC bw (Zb (Za 2) (Ze))) (eC (.int 0))) (e2 bj (e2 Zm (e2 Zm (e2 Zm (Za 2) (eC (.int 0))) (eC (.int 1))) (eC (.int 0))) (eC (.str [116,97,107,101])))) (Zq (aA 3 (Zz Nj (Zb (e2 Zm (Za 2) (eC (.int 0))) (Ze)))) (aA 2 (dW (Za 2) (dw (eC (.int 1))) (fK)))) (aW)) (aQ (bV (Zb (Za 3) (Zb (Zz Np (Zb (Za 2) (Zb (e2 aM (aC bw (Zb (Za 1) (Ze))) (eC (.int 1))) (Ze)))) (Ze))))))))
def HX:F3:=bG 1 4 Nq
def oJ(rec:Nat->F3):S3:=Zq (aJ (e2 bj (e2 Zm (Za 0) (eC (.int 0))) (eC (.str [119,104,101,110]))) (Zq (aA 1 (Zz (rec 0) (Zb (e2 Zm (Za 0) (eC (.int 2))) (Ze)))) (Zq (aA 2 (Zz (rec 0) (Zb (e2 Zm (Za 0) (eC (.int 3))) (Ze)))) (aQ (e2 aM (e2 aM (e2 aM (e2 aM (aX (Zb (e2 aM (bV (Zb (eC (.str [119,104,101,110])) (Ze))) (e2 Zm (Za 0) (eC (.int 1)))) (Ze))) (Za 1)) (aX (Zb (bV (Zb (eC (.str [101,108,115,101])) (Ze))) (Ze)))) (Za 2)) (aX (Zb (bV (Zb (eC (.str [101,110,100])) (Ze))) (Ze))))))) (aW)) (Zq (aJ (e2 bj (e2 Zm (Za 0) (eC (.int 0))) (eC (.str [119,104,105,108,101]))) (aQ (e2 aM (e2 aM (aX (Zb (e2 aM (bV (Zb (eC (.str [119,104,105,108,101])) (Ze))) (e2 Zm (Za 0) (eC (.int 1)))) (Ze))) (Zz (rec 0) (Zb (e2 Zm (Za 0) (eC (.int 2))) (Ze)))) (aX (Zb (bV (Zb (eC (.str [101,110,100])) (Ze))) (Ze))))) (aW)) (Zq (aJ (e2 bj (e2 Zm (Za 0) (eC (.int 0))) (eC (.str [112,117,116]))) (aQ (aX (Zb (e2 aM (e2 aM (bV (Zb (eC (.str [112,117,116])) (Ze))) (e2 Zm (Za 0) (eC (.int 1)))) (e2 Zm (Za 0) (eC (.int 2)))) (Ze)))) (aW)) (aQ (aX (Zb (e2 aM (dW (Za 0) (fK) (dw (e1 cH (eC (.int 1))))) (e2 Zm (Za 0) (e1 cH (eC (.int 1))))) (Ze))))))
def ZdZ(rec:Nat->F3):S3:=Zq (aA 1 (aX (Ze))) (Zq (kZ (bW (Za 0)) (bB 2) (aV (aG bx mZ (Za 1) (Zb (Zz (rec 1) (Zb (Za 2) (Ze))) (Ze))))) (aQ (Za 1)))
def Zy:Nat->Nat->F3
 |0,0=>bG 1 3 rm|0,1=>bG 1 3 rm|n+1,0=>bG 1 3 (ZdZ (Zy n))|n+1,1=>bG 1 3 (oJ (Zy n))
 |_,_=>λ_ _=>.bad
def Nr:F3:=Zy 28 0
def VH:S3:=Zq (aA 1 (jL (e2 cV (aC bw (Zb (e2 Zm (Za 0) (eC (.int 0))) (Ze))) (eC (.int 0))) (aX (Zb (e2 aM (bV (Zb (eC (.str [116,97,107,101])) (Ze))) (e2 Zm (Za 0) (eC (.int 0)))) (Ze))) (aX (Ze)))) (aQ (e2 aM (Za 1) (Zz Nr (Zb (e2 Zm (Za 0) (eC (.int 1))) (Ze)))))
def oK:F3:=bG 1 2 VH
def VJ:S3:=aQ (aG fL uR (eC (.str [10])) (Zb (fU (bW (Zz oK (Zb (Za 0) (Ze)))) 1 (bB 1) [] (Zz HJ (Zb (Za 1) (Ze)))) (Ze)))
def xq:F3:=bG 1 1 VJ
def VL:S3:=Zq (aA 1 (aC tD (Zb (e2 Zm (Za 0) (eC (.int 0))) (Ze)))) (Zq (kZ (bW (Zz oK (Zb (Za 0) (Ze)))) (bB 2) (kZ (bW (Za 2)) (bB 3) (aJ (bN (e1 jm (e1 (jo .int) (Za 3))) (bN (e2 Cd (Za 3) (qF)) (e2 uV (Za 3) (Za 1)))) (aV (aG bx cg (Za 1) (Zb (Za 3) (Ze)))) (aW)))) (aQ (aC gh (Zb (Za 1) (Ze)))))
def zG:F3:=bG 1 4 VL
def Dj:S3:=Zq (aA 1 (e2 Zm (Za 0) (eC (.int 0)))) (Zq (aA 2 (e2 Zm (Za 0) (eC (.int 1)))) (Zq (tH (Za 0) (eC (.int 1)) (e2 aM (Za 2) (eC (.int 1)))) (Zq (aJ (e2 fQ (Za 2) (aC bw (Zb (Za 1) (Ze)))) (aQ (e2 Zm (Za 1) (Za 2))) (aW)) (Zq (aJ (e2 bj (aC bw (Zb (Za 1) (Ze))) (eC (.int 0))) (aQ (e2 aM (e2 iU (e2 iU (Za 2) (Za 2)) (eC (.int 3))) (Za 2))) (aW)) (aQ (e2 aM (e2 b8 (e2 Zm (Za 1) (e2 aZ (Za 2) (aC bw (Zb (Za 1) (Ze))))) (eC (.int 2))) (e2 iU (Za 2) (Za 2))))))))
def lZ:F3:=bG 1 3 Dj
def tV(rec:F3):S3:=Zq (aJ (e1 (Hi .tuple .list) (Za 1)) (Zq (aJ (eE (e2 fJ (e1 (jo .tuple) (Za 0)) (e1 (jo .tuple) (Za 1))) (e1 jm (e1 (Hi .tuple .list) (Za 0)))) (aQ (eC (.bl false))) (aW)) (aQ (bN (e2 bj (aC bw (Zb (Za 0) (Ze))) (aC bw (Zb (Za 1) (Ze)))) (aC tE (Zb (fU (tK (aC bw (Zb (Za 1) (Ze)))) 1 (bB 2) [] (Zz rec (Zb (e2 Zm (Za 0) (Za 2)) (Zb (e2 Zm (Za 1) (Za 2)) (Ze))))) (Ze)))))) (aW)) (Zq (aJ (e1 (jo .str) (Za 1)) (aQ (bN (e1 (jo .str) (Za 0)) (e2 bj (Za 0) (Za 1)))) (aW)) (Zq (aJ (e1 (jo .bool) (Za 1)) (aQ (bN (e1 (jo .bool) (Za 0)) (e2 bj (Za 0) (Za 1)))) (aW)) (aQ (bN (e1 (jo .int) (Za 0)) (bN (e1 jm (e1 (jo .bool) (Za 0))) (e2 bj (Za 0) (Za 1)))))))
def qG:Nat->F3
 |0=>bG 2 2 rm|n+1=>bG 2 2 (tV (qG n))
def zH:F3:=qG 31
def VN:S3:=Zq (aA 1 (aX (Zb (eC (.str [116,97,107,101])) (Zb (eC (.str [115,101,116])) (Zb (eC (.str [112,117,116])) (Zb (eC (.str [116,101,108,108])) (Zb (eC (.str [119,104,101,110])) (Zb (eC (.str [101,108,115,101])) (Zb (eC (.str [119,104,105,108,101])) (Zb (eC (.str [101,110,100])) (Zb (eC (.str [97,100,100])) (Zb (eC (.str [115,117,98])) (Zb (eC (.str [109,111,114,101])) (Zb (eC (.str [99,101,108,108])) (Ze))))))))))))))) (Zq (aA 2 (eC (.str [97,98,99,100,101,102,103,104,105,106,107,108,109,110,111,112,113,114,115,116,117,118,119,120,121,122]))) (Zq (aA 3 (Zz lZ (Zb (Za 0) (Ze)))) (Zq (aA 4 (e2 b8 (Za 3) (eC (.int 4)))) (Zq (aA 5 (e2 Zm (Za 2) (e2 aZ (Za 4) (eC (.int 26))))) (Zq (aA 6 (e2 Zm (Za 2) (e2 aZ (e2 b8 (Za 4) (eC (.int 26))) (eC (.int 26))))) (Zq (aA 7 (aX (Ze))) (Zq (kZ (tK (eC (.int 12))) (bB 8) (Zq (aA 9 (e2 Zm (Za 2) (e2 aZ (e2 aM (Za 4) (Za 8)) (eC (.int 26))))) (Zq (aA 10 (e2 iU (Za 9) (e2 aM (eC (.int 1)) (e2 aZ (e2 b8 (Za 4) (eC (.int 26))) (eC (.int 8)))))) (Zq (aJ (e2 bj (e2 aZ (Za 3) (eC (.int 4))) (eC (.int 1))) (aA 10 (e2 aM (e2 Zm (Za 1) (e2 aZ (e2 aM (Za 8) (Za 4)) (eC (.int 12)))) (Za 6))) (aW)) (Zq (aJ (e2 bj (e2 aZ (Za 3) (eC (.int 4))) (eC (.int 2))) (Zq (aA 10 (e2 aM (e2 iU (Za 5) (e2 aM (eC (.int 1)) (e2 aZ (Za 8) (eC (.int 8))))) (e2 iU (e2 Zm (Za 2) (e2 aZ (e2 aM (Za 4) (eC (.int 1))) (eC (.int 26)))) (e2 b8 (Za 8) (eC (.int 8)))))) (aA 10 (dW (Za 10) (fK) (dw (eC (.int 8)))))) (aW)) (Zq (aJ (e2 bj (e2 aZ (Za 3) (eC (.int 4))) (eC (.int 3))) (aA 10 (e2 aM (e2 aM (Za 6) (Za 9)) (e2 iU (e2 Zm (Za 2) (e2 aZ (e2 b8 (Za 4) (eC (.int 7))) (eC (.int 26)))) (e2 aZ (e2 b8 (Za 4) (eC (.int 676))) (eC (.int 7)))))) (aW)) (Zq (aJ (e2 rF (Za 10) (Za 1)) (aA 10 (e2 aM (Za 10) (eC (.str [120])))) (aW)) (aV (aG bx cg (Za 7) (Zb (Za 10) (Ze))))))))))) (aQ (Za 7)))))))))
def Nt:F3:=bG 1 11 VN
def VP:S3:=Zq (aA 1 (e2 aZ (e2 b8 (Za 0) (eC (.int 4))) (e2 Lw (eC (.int 10)) (eC (.int 59))))) (aQ (e2 Zm (aX (Zb (e2 aZ (e2 b8 (Za 0) (eC (.int 4))) (eC (.int 12))) (Zb (e2 iB (e1 cH (eC (.int 1))) (e2 aZ (e2 b8 (Za 0) (eC (.int 4))) (eC (.int 12)))) (Zb (Za 1) (Zb (e2 iB (e1 cH (eC (.int 1))) (Za 1)) (Ze)))))) (e2 aZ (Za 0) (eC (.int 4)))))
def xr:F3:=bG 1 2 VP
def VR:S3:=Zq (aA 4 (aX (Ze))) (Zq (aA 5 (aX (Zb (Za 2) (Ze)))) (Zq (Ud (e2 fJ (Za 5) (aX (Ze))) (Zq (aA 6 (aG bx qg (Za 5) (Ze))) (Zq (aA 7 (Zz lZ (Zb (Za 0) (Ze)))) (Zq (aA 8 (e2 iB (e2 iB (e2 iB (Za 3) (aC bw (Zb (Za 4) (Ze)))) (aC bw (Zb (Za 5) (Ze)))) (eC (.int 1)))) (Zq (aA 9 (e2 aZ (Za 7) (eC (.int 9)))) (aJ (bN (e2 fQ (Za 9) (eC (.int 3))) (bN (e2 cV (Za 6) (eC (.int 1))) (e2 cV (Za 8) (eC (.int 1))))) (Zq (aV (aG bx cg (Za 4) (Zb (e2 Zm (aX (Zb (eC (.str [97,100,100])) (Zb (eC (.str [115,117,98])) (Zb (eC (.str [109,111,114,101])) (Ze))))) (Za 9)) (Ze)))) (aV (aG bx mZ (Za 5) (Zb (aX (Zb (e2 iB (Za 6) (eC (.int 1))) (Zb (Za 6) (Ze)))) (Ze))))) (aJ (bN (e2 bj (Za 9) (eC (.int 3))) (e2 cV (Za 8) (eC (.int 0)))) (Zq (aV (aG bx cg (Za 4) (Zb (eC (.str [99,101,108,108])) (Ze)))) (aV (aG bx cg (Za 5) (Zb (Za 6) (Ze))))) (aJ (e2 fQ (Za 9) (eC (.int 7))) (aV (aG bx cg (Za 4) (Zb (e2 Zm (Za 1) (e2 aZ (e2 b8 (Za 7) (eC (.int 9))) (eC (.int 12)))) (Ze)))) (aV (aG bx cg (Za 4) (Zb (Zz xr (Zb (e2 b8 (Za 7) (eC (.int 9))) (Ze))) (Ze)))))))))))) (aQ (aC gh (Zb (Za 4) (Ze))))))
def u_:F3:=bG 4 10 VR
def VV:S3:=Zq (aA 3 (e2 Zm (aX (Zb (eC (.int 3)) (Zb (eC (.int 3)) (Zb (eC (.int 7)) (Zb (eC (.int 20)) (Ze)))))) (e2 aZ (e2 b8 (Za 2) (eC (.int 10))) (eC (.int 4))))) (Zq (aJ (e2 bj (e2 aZ (e2 b8 (Za 2) (eC (.int 40))) (eC (.int 11))) (eC (.int 1))) (aA 3 (eC (.int 29))) (aW)) (Zq (aA 4 (Zz u_ (Zb (Za 0) (Zb (Za 1) (Zb (e2 aM (eC (.int 1)) (e2 aZ (e2 b8 (Za 2) (eC (.int 3))) (eC (.int 6)))) (Zb (Za 3) (Ze))))))) (Zq (aJ (e2 bj (e2 aZ (Za 2) (eC (.int 3))) (eC (.int 0))) (aQ (bV (Zb (eC (.str [115,101,116])) (Zb (e2 Zm (Za 1) (e2 aZ (e2 b8 (Za 2) (eC (.int 440))) (eC (.int 12)))) (Zb (Za 4) (Ze)))))) (aW)) (Zq (aJ (e2 bj (e2 aZ (Za 2) (eC (.int 3))) (eC (.int 1))) (aQ (bV (Zb (eC (.str [112,117,116])) (Zb (Za 4) (Zb (Zz u_ (Zb (Za 0) (Zb (Za 1) (Zb (e2 aM (eC (.int 1)) (e2 aZ (e2 b8 (Za 2) (eC (.int 7))) (eC (.int 5)))) (Zb (Za 3) (Ze)))))) (Ze)))))) (aW)) (aQ (bV (Zb (eC (.str [116,101,108,108])) (Zb (Za 4) (Ze)))))))))
def Nu:F3:=bG 3 5 VV
def V0:S3:=Zq (aA 1 (aX (Zb (e2 Zm (Za 0) (eC (.int 0))) (Ze)))) (Zq (kZ (bW (dW (Za 0) (dw (eC (.int 1))) (fK))) (bB 2) (aJ (e1 (jo .str) (Za 2)) (aV (aG bx cg (Za 1) (Zb (Za 2) (Ze)))) (aV (aG bx mZ (Za 1) (Zb (fU (bW (Za 2)) 1 (bB 3) [] (aC tO (Zb (Za 3) (Ze)))) (Ze)))))) (aQ (aG fL uR (eC (.str [32])) (Zb (Za 1) (Ze)))))
def HY:F3:=bG 1 3 V0
def V1:S3:=Zq (rE (e2 Zm (Za 0) (e1 cH (eC (.int 1)))) [2,3,4,5]) (Zq (aA 6 (bV (Zb (Za 2) (Zb (Za 3) (Zb (aC gh (Zb (Za 1) (Ze))) (Ze)))))) (Zq (aJ (e2 bj (Za 2) (eC (.str [119,104,101,110]))) (aA 6 (bV (Zb (Za 2) (Zb (Za 3) (Zb (Za 5) (Zb (aC gh (Zb (Za 1) (Ze))) (Ze))))))) (aW)) (aQ (e2 aM (Za 4) (aX (Zb (Za 6) (Ze)))))))
def xu:F3:=bG 2 7 V1
def zJ:S3:=Zq (aA 4 (Zz lZ (Zb (Za 0) (Ze)))) (Zq (aA 5 (e2 aZ (Za 4) (eC (.int 10)))) (Zq (aJ (bN (e2 bj (Za 5) (eC (.int 8))) (bN (e2 rO (Za 2) (aX (Ze))) (bN (e2 bj (e2 Zm (e2 Zm (Za 2) (e1 cH (eC (.int 1)))) (eC (.int 0))) (eC (.str [119,104,101,110]))) (e2 n8 (e2 Zm (e2 Zm (Za 2) (e1 cH (eC (.int 1)))) (eC (.int 3))) (eC .non))))) (Zq (tH (e2 Zm (Za 2) (e1 cH (eC (.int 1)))) (eC (.int 3)) (aC gh (Zb (Za 3) (Ze)))) (aQ (aX (Zb (eC (.str [101,108,115,101])) (Zb (aX (Ze)) (Ze)))))) (aW)) (Zq (aJ (bN (e2 cV (Za 5) (eC (.int 7))) (bN (e2 rO (Za 2) (aX (Ze))) (eE (e2 bj (e2 Zm (e2 Zm (Za 2) (e1 cH (eC (.int 1)))) (eC (.int 0))) (eC (.str [119,104,105,108,101]))) (e2 GR (e2 Zm (e2 Zm (Za 2) (e1 cH (eC (.int 1)))) (eC (.int 3))) (eC .non))))) (Zq (aA 3 (Zz xu (Zb (Za 2) (Zb (Za 3) (Ze))))) (Zq (aV (aG bx qg (Za 2) (Ze))) (aQ (aX (Zb (eC (.str [101,110,100])) (Zb (Za 3) (Ze))))))) (aW)) (Zq (aJ (bN (qD n6 fQ (eC (.int 5)) (Za 5) (eC (.int 8))) (e2 fQ (aC bw (Zb (Za 2) (Ze))) (eC (.int 12)))) (Zq (aA 6 (Zz u_ (Zb (Za 0) (Zb (Za 1) (Zb (e2 aM (eC (.int 1)) (e2 aZ (e2 b8 (Za 4) (eC (.int 30))) (eC (.int 6)))) (Zb (e2 aM (eC (.int 1)) (e2 aZ (e2 b8 (Za 4) (eC (.int 10))) (eC (.int 9)))) (Ze))))))) (Zq (aA 7 (e2 Zm (aX (Zb (eC (.str [119,104,101,110])) (Zb (eC (.str [119,104,101,110])) (Zb (eC (.str [119,104,105,108,101])) (Ze))))) (e2 iB (Za 5) (eC (.int 5))))) (Zq (aV (aG bx cg (Za 2) (Zb (aX (Zb (Za 7) (Zb (Za 6) (Zb (Za 3) (Zb (eC .non) (Ze)))))) (Ze)))) (aQ (aX (Zb (Zz HY (Zb (bV (Zb (Za 7) (Zb (Za 6) (Ze)))) (Ze))) (Zb (aX (Ze)) (Ze)))))))) (aW)) (Zq (aA 8 (Zz Nu (Zb (Za 0) (Zb (Za 1) (Zb (e2 b8 (Za 4) (eC (.int 10))) (Ze)))))) (aQ (aX (Zb (Zz HY (Zb (Za 8) (Ze))) (Zb (e2 aM (Za 3) (aX (Zb (Za 8) (Ze)))) (Ze))))))))))
def zK:F3:=bG 4 9 zJ
def V2:S3:=Zq (aA 4 (aX (Ze))) (Zq (aA 5 (aX (Ze))) (Zq (aA 6 (aX (Ze))) (Zq (aA 7 (eC (.int 0))) (Zq (kZ (tK (Za 2)) (bB 8) (Zq (aA 9 (fU (bW (Za 5)) 1 (bB 12) [] (aC tD (Zb (Za 12) (Ze))))) (Zq (rE (Zz zK (Zb (Za 0) (Zb (Za 1) (Zb (Za 5) (Zb (Za 6) (Ze)))))) [10,11]) (Zq (aJ (e2 cV (e2 aM (Za 7) (aC bw (Zb (Za 10) (Ze)))) (Za 3)) (Zq (aA 5 (Za 9)) (Uc)) (aW)) (Zq (aA 6 (Za 11)) (Zq (aA 7 (e2 aM (e2 aM (Za 7) (aC bw (Zb (Za 10) (Ze)))) (eC (.int 1)))) (aV (aG bx cg (Za 4) (Zb (Za 10) (Ze)))))))))) (Zq (Ud (e2 rO (Za 5) (aX (Ze))) (Zq (aJ (bN (e2 bj (e2 Zm (e2 Zm (Za 5) (e1 cH (eC (.int 1)))) (eC (.int 0))) (eC (.str [119,104,101,110]))) (e2 n8 (e2 Zm (e2 Zm (Za 5) (e1 cH (eC (.int 1)))) (eC (.int 3))) (eC .non))) (Zq (tH (e2 Zm (Za 5) (e1 cH (eC (.int 1)))) (eC (.int 3)) (aC gh (Zb (Za 6) (Ze)))) (Zq (aA 6 (aX (Ze))) (aV (aG bx cg (Za 4) (Zb (eC (.str [101,108,115,101])) (Ze)))))) (aW)) (Zq (aA 6 (Zz xu (Zb (Za 5) (Zb (Za 6) (Ze))))) (Zq (aV (aG bx qg (Za 5) (Ze))) (aV (aG bx cg (Za 4) (Zb (eC (.str [101,110,100])) (Ze)))))))) (aQ (aX (Zb (Za 4) (Zb (aC gh (Zb (Za 6) (Ze))) (Ze))))))))))
def Nv:F3:=bG 4 12 V2
def V3:S3:=Zq (aA 2 (Zz lZ (Zb (Za 0) (Ze)))) (aQ (aC gh (Zb (fU (tK (e2 aZ (Za 2) (eC (.int 7)))) 1 (bB 3) [] (e2 Zm (Za 1) (e2 aZ (e2 aM (e2 b8 (Za 2) (eC (.int 7))) (Za 3)) (eC (.int 12))))) (Ze))))
def Nx:F3:=bG 2 3 V3
def V4:S3:=Zq (aA 2 (aX (Ze))) (Zq (kZ (bW (Za 0)) (bB 3) (kZ (bW (aG fL ql (Za 3) (Zb (eC (.str [32])) (Ze)))) (bB 4) (aJ (bN (e2 rF (Za 4) (Za 1)) (e2 uV (Za 4) (Za 2))) (aV (aG bx cg (Za 2) (Zb (Za 4) (Ze)))) (aW)))) (aQ (aC gh (Zb (Za 2) (Ze)))))
def H_:F3:=bG 2 5 V4
def V5:S3:=Zq (aA 1 (aX (Zb (dW (Za 0) (fK) (dw (eC (.int 400)))) (Zb (eC (.int 0)) (Ze))))) (Zq (aA 2 (Zz Nt (Zb (Za 1) (Ze)))) (Zq (aA 3 (Zz Nx (Zb (Za 1) (Zb (Za 2) (Ze))))) (Zq (rE (Zz Nv (Zb (Za 1) (Zb (Za 2) (Zb (aC bw (Zb (dW (Za 0) (fK) (dw (eC (.int 400)))) (Ze))) (Zb (eC (.int 3400)) (Ze)))))) [4,5]) (Zq (aJ (e2 fJ (Za 3) (bV (Ze))) (aA 4 (e2 aM (aX (Zb (aG fL xg (eC (.str [32])) (Zb (e2 aM (bV (Zb (eC (.str [116,97,107,101])) (Ze))) (Za 3)) (Ze))) (Ze))) (Za 4))) (aW)) (Zq (aA 6 (bV (Zb (Za 3) (Zb (Za 5) (Ze))))) (Zq (aJ (eE (e2 fJ (Zz xq (Zb (bV (Zb (bV (Ze)) (Zb (bV (Ze)) (Ze)))) (Ze))) (eC (.str []))) (e1 jm (Zz zH (Zb (Zz zG (Zb (bV (Zb (bV (Ze)) (Zb (bV (Ze)) (Ze)))) (Ze))) (Zb (bV (Ze)) (Ze)))))) (aQ (eC (.bl false))) (aW)) (Zq (aA 7 (Zz xq (Zb (Za 6) (Ze)))) (Zq (aJ (eE (e1 jm (e1 (jo .str) (Za 7))) (e2 fJ (Za 7) (aG fL uR (eC (.str [10])) (Zb (Za 4) (Ze))))) (aQ (eC (.bl false))) (aW)) (Zq (aJ (e1 jm (Zz zH (Zb (Zz zG (Zb (Za 6) (Ze))) (Zb (Zz H_ (Zb (Za 4) (Zb (Za 2) (Ze)))) (Ze))))) (aQ (eC (.bl false))) (aW)) (aQ (bN (Zz zH (Zb (Zz HX (Zb (Za 7) (Ze))) (Zb (Za 6) (Ze)))) (e2 bj (Zz xq (Zb (Za 6) (Ze))) (Za 7)))))))))))))
def Zph:F3:=bG 1 8 V5
end
end Law
namespace Law
open PySem PySem.Spec PyProof.Rows L2 L3
theorem dZ{N P:List aj}{sc:Scope}(a:sc.kind= .function:=by rfl)(b:sc.isCoroutine=false:=by rfl)(c:sc.isGenerator=false:=by rfl)(d:N.Nodup:=by decide +kernel)(e:N.take P.length=P:=by rfl)(f:∀x∈P,sc.names.lookup x=Ya .local\/sc.names.lookup x=Ya .cell:=by decide +kernel)(g:∀y∈sc.names,y.2≠ .free:=by decide +kernel):cU N P sc:=⟨a,b,c,d,e,f,g⟩
noncomputable def top(i:Nat):Yd0:=PySem.Challenge.pw_stepledger_k62_whole_shown_and_read.main.body.getD i (.Pass ⟨0,0,0,0⟩)
noncomputable abbrev Dk:Yd0:=top 6
noncomputable abbrev Dl:Yd0:=top 7
noncomputable abbrev Dm:Yd0:=top 10
noncomputable abbrev Dn:Yd0:=top 11
noncomputable abbrev Dp:Yd0:=top 12
noncomputable abbrev Dq:Yd0:=top 13
noncomputable abbrev Ds:Yd0:=top 25
noncomputable abbrev Dt:Yd0:=top 26
noncomputable abbrev Du:Yd0:=top 27
noncomputable abbrev Dv:Yd0:=top 28
noncomputable abbrev Dw:Yd0:=top 29
noncomputable abbrev Dy:Yd0:=top 30
noncomputable abbrev Dz:Yd0:=top 31
noncomputable abbrev DG:Yd0:=top 32
noncomputable abbrev DK:Yd0:=top 33
noncomputable abbrev DN:Yd0:=top 34
noncomputable abbrev DP:Yd0:=top 35
noncomputable abbrev DQ:Yd0:=top 36
noncomputable abbrev DR:Yd0:=top 37
noncomputable abbrev DW:Yd0:=top 39
noncomputable abbrev DX:Yd0:=top 40
noncomputable abbrev DY:Yd0:=top 41
noncomputable abbrev D_:Yd0:=top 42
noncomputable abbrev Ea:Yd0:=top 43
noncomputable abbrev Eb:Yd0:=top 44
noncomputable abbrev Ec:Yd0:=top 45
noncomputable abbrev Ed:Yd0:=top 46
noncomputable abbrev Ef:Yd0:=top 47
noncomputable abbrev Eg:Yd0:=top 48
noncomputable abbrev Eh:Yd0:=top 49
noncomputable abbrev Ei:Yd0:=top 50
noncomputable abbrev vf:Yd0:=top 51
noncomputable abbrev zM:Yd0:=(ZtA (top 24)).getD 0 (.Pass ⟨0,0,0,0⟩)
structure Ia(K:Am)(mg:aj->Option Yh)(C:Y2):Prop where
  ok:zu K [66,108,111,99,107] C
  mg:mg "Block" =Ya (.ref C)
  Jg:sY K C (nm [104,101,97,100])
  xU:sY K C (nm [108,105,115,116,115])
structure Txt(K:Am)(mg:aj->Option Yh):Prop where
  Gv:True
  Ae:mg "all" =Yl
  PX:mg "bool" =Yl
  Pk:mg "enumerate" =Yl
  Qc:mg "int" =Yl
  oZ:mg "isinstance" =Yl
  fY:mg "len" =Yl
  Jh:mg "list" =Yl
  XR:mg "max" =Yl
  Je:mg "range" =Yl
  Abo:mg "set" =Yl
  Af:mg "str" =Yl
  jB:mg "tuple" =Yl
  vJ:∃t,mg "FIGURES" =Ya (.str "0123456789" t)
  xT:∃t,mg "LETTERS" =Ya (.str "abcdefghijklmnopqrstuvwxyz" t)
  Xy:∃a,mg "LISTS" =Ya (.ref a)/\nA K a oG
  xQ:∃t,mg "MOST_BLOCKS" =Ya (.int 12 t)
  vG:∃t,mg "MOST_DEPTH" =Ya (.int 6 t)
  su:∃t,mg "MOST_FIGURES" =Ya (.int 60 t)
  sy:∃t,mg "MOST_LETTERS" =Ya (.int 8 t)
  vH:∃t,mg "MOST_TAKEN" =Ya (.int 6 t)
  vI:∃t,mg "MOST_WORDS" =Ya (.int 60 t)
  Xz:∃a,mg "PARTS" =Ya (.ref a)/\nA K a pH
  XH:∃a,mg "SUMS" =Ya (.ref a)/\nA K a jf
  Aa5:∃a,mg "WORDS" =Ya (.ref a)/\C_ K (Zx.map λy=>(⟨y.toArray⟩:aj)) (.ref a)=true
variable{X:Cx}{pos:aU}
theorem Zn6(T:Txt X.K X.mg)(hg:Gl X "FIGURES":=by rfl):C3 X (.Name "FIGURES" pos) vJ:=by obtain⟨t,e⟩:=T.vJ;refine uW (v:=.str ⟨([48,49,50,51,52,53,54,55,56,57]:List Nat).toArray⟩) e ⟨t,?_⟩ (λ_ _=>Rep.str) hg;exact congrArg (λz=>Value.str z t) (by decide +kernel)
theorem ZnE(T:Txt X.K X.mg)(hg:Gl X "LETTERS":=by rfl):C3 X (.Name "LETTERS" pos) xT:=by obtain⟨t,e⟩:=T.xT;refine uW (v:=.str ⟨([97,98,99,100,101,102,103,104,105,106,107,108,109,110,111,112,113,114,115,116,117,118,119,120,121,122]:List Nat).toArray⟩) e ⟨t,?_⟩ (λ_ _=>Rep.str) hg;exact congrArg (λz=>Value.str z t) (by decide +kernel)
variable{g:E3}{npos:aU}{e:Expr}
theorem Zom{e':Expr}{apos cpos:aU}{g':E3}(T:Txt X.K X.mg)(he:C3 X e g)(he':C3 X e' g')(m:M2 X (.Name "LISTS" npos) "get" apos e e' cpos:=by exact⟨rfl,rfl,rfl,rfl⟩)(hg:Gl X "LISTS":=by rfl):C3 X (.Call (.Attribute (.Name "LISTS" npos) "get" apos) [e,e'] [] cpos) (e2 (uU oG) g g'):=by obtain⟨a,hm,ht⟩:=T.Xy;exact ZoU hm ht he he' m hg
theorem ZiD(T:Txt X.K X.mg)(he:C3 X e g)(hg:Gl X "LISTS":=by rfl):CT X (.Compare e [.In] [.Name "LISTS" npos] pos) (e1 (u6 oG) g):=by obtain⟨a,hm,ht⟩:=T.Xy;exact ZsP hm ht he hg
theorem ZjQ(T:Txt X.K X.mg)(hg:Gl X "MOST_BLOCKS":=by rfl):C3 X (.Name "MOST_BLOCKS" pos) xQ:=by obtain⟨t,e⟩:=T.xQ;exact uW (v:=.int 12) e ⟨t,rfl⟩ (λ_ _=>Rep.int) hg
theorem Zkf(T:Txt X.K X.mg)(hg:Gl X "MOST_DEPTH":=by rfl):C3 X (.Name "MOST_DEPTH" pos) vG:=by obtain⟨t,e⟩:=T.vG;exact uW (v:=.int 6) e ⟨t,rfl⟩ (λ_ _=>Rep.int) hg
theorem ZiS(T:Txt X.K X.mg)(hg:Gl X "MOST_FIGURES":=by rfl):C3 X (.Name "MOST_FIGURES" pos) su:=by obtain⟨t,e⟩:=T.su;exact uW (v:=.int 60) e ⟨t,rfl⟩ (λ_ _=>Rep.int) hg
theorem ZiX(T:Txt X.K X.mg)(hg:Gl X "MOST_LETTERS":=by rfl):C3 X (.Name "MOST_LETTERS" pos) sy:=by obtain⟨t,e⟩:=T.sy;exact uW (v:=.int 8) e ⟨t,rfl⟩ (λ_ _=>Rep.int) hg
theorem Zkk(T:Txt X.K X.mg)(hg:Gl X "MOST_TAKEN":=by rfl):C3 X (.Name "MOST_TAKEN" pos) vH:=by obtain⟨t,e⟩:=T.vH;exact uW (v:=.int 6) e ⟨t,rfl⟩ (λ_ _=>Rep.int) hg
theorem Zko(T:Txt X.K X.mg)(hg:Gl X "MOST_WORDS":=by rfl):C3 X (.Name "MOST_WORDS" pos) vI:=by obtain⟨t,e⟩:=T.vI;exact uW (v:=.int 60) e ⟨t,rfl⟩ (λ_ _=>Rep.int) hg
theorem ZnU{e':Expr}{apos cpos:aU}{g':E3}(T:Txt X.K X.mg)(he:C3 X e g)(he':C3 X e' g')(m:M2 X (.Name "PARTS" npos) "get" apos e e' cpos:=by exact⟨rfl,rfl,rfl,rfl⟩)(hg:Gl X "PARTS":=by rfl):C3 X (.Call (.Attribute (.Name "PARTS" npos) "get" apos) [e,e'] [] cpos) (e2 (uU pH) g g'):=by obtain⟨a,hm,ht⟩:=T.Xz;exact ZoU hm ht he he' m hg
theorem Zn1(T:Txt X.K X.mg)(he:C3 X e g)(hg:Gl X "PARTS":=by rfl):C3 X (.Compare e [.In] [.Name "PARTS" npos] pos) (e1 (u6 pH) g):=by obtain⟨a,hm,ht⟩:=T.Xz;exact Zun hm ht he hg
theorem Zkm(T:Txt X.K X.mg)(he:C3 X e g)(hg:Gl X "SUMS":=by rfl):CT X (.Compare e [.NotIn] [.Name "SUMS" npos] pos) (e1 (Nb jf) g):=by obtain⟨a,hm,ht⟩:=T.XH;exact ZmB hm ht he hg
theorem Zqe(T:Txt X.K X.mg)(he:C3 X e g)(hs:Lr e:=by exactλ_ _=>rfl)(hg:Gl X "SUMS":=by rfl):C3 X (.Subscript (.Name "SUMS" npos) e pos) (e1 (Df jf) g):=by obtain⟨a,hm,ht⟩:=T.XH;exact ZtJ hm ht he hs hg
theorem Zmw(T:Txt X.K X.mg)(hg:Gl X "WORDS":=by rfl):C3 X (.Name "WORDS" pos) qF:=by obtain⟨a,hm,ht⟩:=T.Aa5;exact Ztm hm ht hg
section
variable {P:Yae} {w:bh} {K:Am} {mg:aj->Option Yh} {base:aR}
theorem ZhH:cU ["word","figures"] ["word"] (Zt Dk):=dZ
theorem ZlJ(A:bD K mg "is_number" Dk ["word"])(T:Txt K mg):aD P w K mg base 1 "is_number" ["word"] rQ:=aD.of (N:=["word","figures"]) (k:=0) A ZhH λf cdv A outer s H E hr=>by have hu:=dY hr;unfold HF;exact Zg (Zw 1 ZhH.nd (Cy (lV (Zfb (Zd 0) (Zc bC Zf))) (qx qC (Zd 0) (pD Zj) rH) (Zd 0))) (Zg (bQ (CW.ct (qw (bA wV (dX (id:="len") gC T.fY gm (Zc (Zd 1) Zf)) Zj) (tQ (bA qy (dX (id:="len") gC T.fY gm (Zc (Zd 1) Zf)) (ZiS T))))) (Zk (bI yZ)) cJ) (Zg (bQ (lV (Zfb (Zd 1) (Zc bC Zf))) (Zk (bI (rG ((eN hu)) (Zd 0) bC))) cJ) (Zk (bI (dX (id:="all") ((CQ rfl)) T.Ae CP (Zc (pG (N':=["word","figures","figure"]) (lg rfl (by kernel_rfl)) rfl rfl (jr (Zd 1)) (λC cl s H ex=>⟨(iG 2 ((show jj (["word","figures","figure"]:List aj)by decide +kernel))),lX,(rG ((U6 hu)) (Zd 2) (Zn6 T))⟩)) Zf))))))
theorem Zlv:cU ["row"] ["row"] (Zt Dl):=dZ
theorem Zly(A:bD K mg "shown_row" Dl ["row"])(T:Txt K mg):aD P w K mg base 1 "shown_row" ["row"] HJ:=aD.of (N:=["row"]) (k:=0) A Zlv λf cdv A outer s H E hr=>by have hu:=dY hr;unfold Vx;exact Zk (bI (MP bC (Zc (pG (N':=["row","word"]) (lg rfl (by kernel_rfl)) rfl rfl (jr (Zd 0)) (λC cl s H ex=>⟨(iG 1 ((show jj (["row","word"]:List aj)by decide +kernel))),lX,(jq (T:="str") ZuZ T.Af ZrF (Zc (Zd 1) Zf))⟩)) Zf)))
theorem Ej:cU ["words","sums","lacking","word"] ["words"] (Zt Dm):=dZ
theorem Zn7(A:bD K mg "sums_in" Dm ["words"])(T:Txt K mg):aD P w K mg base 1 "sums_in" ["words"] xj:=aD.of (N:=["words","sums","lacking","word"]) (k:=0) A Ej λf cdv A outer s H E hr=>by have hu:=dY hr;unfold Vy;exact Zg (Zw 1 Ej.nd (cD Zf)) (Zg (Zw 2 Ej.nd Zj) (Zg (tR rfl rfl (jr (Zd 0)) (iG 3 Ej.nd) (Zg (bQ (bA ((eN hu)) (Zd 2) Zj) (Zg (gK (jU (Zd 1) (Zc (cD Zf) Zf))) (Zk (Zw 2 Ej.nd Zj))) cJ) (Zg (gK (jU (a_ bf (Zd 1) (jR jT Zj)) (Zc (Zd 3) Zf))) (Zk (Zw 2 Ej.nd (Zu cN (Zu wU (Zd 2) Zj) (ZnU T (Zd 3) Zj))))))) (Zk (bI (Cy (bA ((eN hu)) (Zd 2) Zj) (pG (N':=["words","sums","lacking","word","one"]) (lg rfl (by kernel_rfl)) rfl rfl (jr (Zd 1)) (λC cl s H ex=>⟨(iG 4 ((show jj (["words","sums","lacking","word","one"]:List aj)by decide +kernel))),lX,(jq (T:="tuple") nq T.jB nu (Zc (Zd 4) Zf))⟩)) oA)))))
theorem Zku:cU ["word"] ["word"] (Zt Dn):=dZ
theorem Zkn(A:bD K mg "needs_sums" Dn ["word"])(T:Txt K mg):aD P w K mg base 1 "needs_sums" ["word"] Dh:=aD.of (N:=["word"]) (k:=0) A Zku λf cdv A outer s H E hr=>by have hu:=dY hr;unfold Zh8;exact Zk (bI (Zn1 T (Zd 0)))
theorem Znk:cU ["words"] ["words"] (Zt Dp):=dZ
theorem ZmZ(A:bD K mg "parts_of" Dp ["words"])(T:Txt K mg)(Ad:aD P w K mg base 1 "sums_in" ["words"] xj):aD P w K mg base 2 "parts_of" ["words"] Nh:=aD.of (N:=["words"]) (k:=1) A Znk λf cdv A outer s H E hr=>by have hu:=dY hr;unfold Vz;exact Zk (bI (bO (k:=1) (ps:=["words"]) Ad (hr.mono (by decide)) (Zc (qx qC (Zd 0) (pD Zj) rH) Zf)))
theorem V6:cU ["words","parts"] ["words"] (Zt Dq):=dZ
theorem Zrq(A:bD K mg "depth" Dq ["words"])(T:Txt K mg)(Py:aD P w K mg base 2 "parts_of" ["words"] Nh):aD P w K mg base 64 "depth" ["words"] HN:=by
  have all:∀n:Nat,aD P w K mg base (n+3) "depth" ["words"] (zB n):=by
    intro n
    induction n with
    |zero=>exact aD.of (N:=["words","parts"]) (k:=2) A V6 λf cdv A outer s H E hr=>MJ|succ n IH=>refine(aD.of (N:=["words","parts"]) (k:=n+3) A V6 λf cdv A outer s H E hr=>?_).mono (by omega);have hu:=dY hr;unfold VB;exact Zg (Zw 1 V6.nd (bO (k:=2) (ps:=["words"]) Py (hr.mono (by omega)) (Zc (Zd 0) Zf))) (Zk (bI (Zq5 T.XR (ZyC (N':=["words","parts","deeper","part"]) (lg rfl (by kernel_rfl)) rfl rfl (Zpp T.Pk (Zd 1)) (λC cl s H ex=>⟨(Mi rfl (lW 2 ((show jj (["words","parts","deeper","part"]:List aj)by decide +kernel)) (lW 3 ((show jj (["words","parts","deeper","part"]:List aj)by decide +kernel)) zb))),lX,(Zu cN (bO (k:=n+3) (ps:=["words"]) IH hr (Zc (Zd 3) Zf)) (Zd 2))⟩)))))
  exact all 61
theorem Zoq:cU ["word"] ["word"] (Zt Du):=dZ
theorem ZnH(A:bD K mg "is_name" Du ["word"])(T:Txt K mg):aD P w K mg base 1 "is_name" ["word"] oH:=aD.of (N:=["word"]) (k:=0) A Zoq λf cdv A outer s H E hr=>by have hu:=dY hr;unfold Ni;exact Zg (bQ (CW.ct (qw (bA wV (dX (id:="len") gC T.fY gm (Zc (Zd 0) Zf)) Zj) (qw (bA qy (dX (id:="len") gC T.fY gm (Zc (Zd 0) Zf)) (ZiX T)) (tQ (bA ((U6 hu)) (Zd 0) (Zmw T)))))) (Zk (bI yZ)) cJ) (Zk (bI (dX (id:="all") ((CQ rfl)) T.Ae CP (Zc (pG (N':=["word","letter"]) (lg rfl (by kernel_rfl)) rfl rfl (jr (Zd 0)) (λC cl s H ex=>⟨(iG 1 ((show jj (["word","letter"]:List aj)by decide +kernel))),lX,(rG ((U6 hu)) (Zd 1) (ZnE T))⟩)) Zf))))
theorem ZgX:cU ["row","names"] ["row"] (Zt Dt):=dZ
theorem Zkx(A:bD K mg "read_taken" Dt ["row"])(T:Txt K mg)(t7:aD P w K mg base 1 "is_name" ["word"] oH):aD P w K mg base 2 "read_taken" ["row"] Nj:=aD.of (N:=["row","names"]) (k:=1) A ZgX λf cdv A outer s H E hr=>by have hu:=dY hr;unfold VD;exact Zg (Zw 1 ZgX.nd (qx qC (a_ bf (Zd 0) Zj) (pD Zj) rH)) (Zg (bQ (CW.ct (qw (bA wV (dX (id:="len") gC T.fY gm (Zc (Zd 1) Zf)) Zj) (qw (bA qy (dX (id:="len") gC T.fY gm (Zc (Zd 1) Zf)) (Zkk T)) (tQ (bA ((w5 hu)) (ZqU T.fY T.Abo (Zd 1)) (dX (id:="len") gC T.fY gm (Zc (Zd 1) Zf))))))) (Zk Mh) cJ) (Zg (bQ (uY (lV (dX (id:="all") ((CQ rfl)) T.Ae CP (Zc (pG (N':=["row","names","name"]) (lg rfl (by kernel_rfl)) rfl rfl (jr (Zd 1)) (λC cl s H ex=>⟨(iG 2 ((show jj (["row","names","name"]:List aj)by decide +kernel))),lX,(bO (k:=1) (ps:=["word"]) t7 (hr.mono (by decide)) (Zc (Zd 2) Zf))⟩)) Zf)))) (Zk Mh) cJ) (Zk (bI (jq (T:="tuple") nq T.jB nu (Zc (Zd 1) Zf))))))
theorem ZhM:cU ["self","head"] ["self","head"] (Zt zM):=dZ
theorem Zhw{c7:Y2}(dH:Ia K mg c7)(A:M8 K c7 "Block.__init__" zM ["self","head"])(T:Txt K mg):zx P w K mg base 1 c7 ["self","head"] zE:=zx.of (N:=["self","head"]) (k:=0) A ZhM λf cdv A outer s H E hr=>by have hu:=dY hr;unfold Zfd;exact Zg (ZrN (C:=c7) (c:=[66,108,111,99,107]) (m:=[104,101,97,100]) dH.ok dH.Jg (Zd 0) (Zd 1)) (Zk (ZrN (C:=c7) (c:=[66,108,111,99,107]) (m:=[108,105,115,116,115]) dH.ok dH.xU (Zd 0) (cD (Zc (cD Zf) Zf))))
theorem V7:cU ["words","sums","depths"] ["words"] (Zt Dy):=dZ
theorem Zlw(A:bD K mg "read_sums" Dy ["words"])(T:Txt K mg)(Jb:aD P w K mg base 1 "is_number" ["word"] rQ)(Ad:aD P w K mg base 1 "sums_in" ["words"] xj)(O8:aD P w K mg base 1 "needs_sums" ["word"] Dh)(PN:aD P w K mg base 64 "depth" ["words"] HN)(t7:aD P w K mg base 1 "is_name" ["word"] oH):aD P w K mg base 65 "read_sums" ["words"] HS:=aD.of (N:=["words","sums","depths"]) (k:=64) A V7 λf cdv A outer s H E hr=>by have hu:=dY hr;unfold Nk;exact Zg (bQ (uY (lV (dX (id:="all") ((CQ rfl)) T.Ae CP (Zc (pG (N':=["words","sums","depths","word"]) (lg rfl (by kernel_rfl)) rfl rfl (jr (Zd 0)) (λC cl s H ex=>⟨(iG 3 ((show jj (["words","sums","depths","word"]:List aj)by decide +kernel))),lX,(Zx4 (bO (k:=1) (ps:=["word"]) O8 (hr.mono (by decide)) (Zc (Zd 3) Zf)) (Zx4 (bO (k:=1) (ps:=["word"]) t7 (hr.mono (by decide)) (Zc (Zd 3) Zf)) (y_ (bO (k:=1) (ps:=["word"]) Jb (hr.mono (by decide)) (Zc (Zd 3) Zf)))))⟩)) Zf)))) (Zk (bI oA)) cJ) (Zg (Zw 1 V7.nd (bO (k:=1) (ps:=["words"]) Ad (hr.mono (by decide)) (Zc (pG (N':=["words","sums","depths","word"]) (lg rfl (by kernel_rfl)) rfl rfl (jr (Zd 0)) (λC cl s H ex=>⟨(iG 3 ((show jj (["words","sums","depths","word"]:List aj)by decide +kernel))),lX,(Cy (lV (bO (k:=1) (ps:=["word"]) Jb (hr.mono (by decide)) (Zc (Zd 3) Zf))) (jq (T:="int") Zwj T.Qc Zwq (Zc (Zd 3) Zf)) (Zd 3))⟩)) Zf))) (Zg (bQ (bA Hu (Zd 1) oA) (Zk (bI oA)) cJ) (Zg (Zk4 (N':=["words","sums","depths","deeper","one"]) 2 (lg rfl (by kernel_rfl)) rfl rfl V7.nd (Zpp T.Pk (Zd 1)) (λC cl s H ex=>⟨(Mi rfl (lW 3 ((show jj (["words","sums","depths","deeper","one"]:List aj)by decide +kernel)) (lW 4 ((show jj (["words","sums","depths","deeper","one"]:List aj)by decide +kernel)) zb))),lX,(Zu cN (bO (k:=64) (ps:=["words"]) PN (hr.mono (by decide)) (Zc (Zd 4) Zf)) (Zd 3))⟩)) (Zk (bI (Cy (bA Uo (Zq5 T.XR (Zd 2)) (Zkf T)) (Zd 1) oA))))))
theorem V8:cU ["words","begin","sums"] ["words"] (Zt Dw):=dZ
theorem Zld(A:bD K mg "read_deed" Dw ["words"])(T:Txt K mg)(t7:aD P w K mg base 1 "is_name" ["word"] oH)(Pn:aD P w K mg base 65 "read_sums" ["words"] HS):aD P w K mg base 66 "read_deed" ["words"] HW:=aD.of (N:=["words","begin","sums"]) (k:=65) A V8 λf cdv A outer s H E hr=>by have hu:=dY hr;unfold Nm;exact Zg (bQ (CW.ct (qw (Zkm T (a_ bf (Zd 0) Zj)) (tQ (bA qy (dX (id:="len") gC T.fY gm (Zc (Zd 0) Zf)) (Zko T))))) (Zk (bI oA)) cJ) (Zg (Zw 1 V8.nd (Cy (bA ((eN hu)) (a_ bf (Zd 0) Zj) bC) Zj Zj)) (Zg (bQ (uY (lV (dX (id:="all") ((CQ rfl)) T.Ae CP (Zc (pG (N':=["words","begin","sums","word"]) (lg rfl (by kernel_rfl)) rfl rfl (jr (qx qC (Zd 0) (pD Zj) (pD (Zd 1)))) (λC cl s H ex=>⟨(iG 3 ((show jj (["words","begin","sums","word"]:List aj)by decide +kernel))),lX,(bO (k:=1) (ps:=["word"]) t7 (hr.mono (by decide)) (Zc (Zd 3) Zf))⟩)) Zf)))) (Zk (bI oA)) cJ) (Zg (Zw 2 V8.nd (bO (k:=65) (ps:=["words"]) Pn (hr.mono (by decide)) (Zc (qx qC (Zd 0) (pD (Zd 1)) rH) Zf))) (Zg (bQ (CW.ct (qw (bA Hu (Zd 2) oA) (tQ (bA ((w5 hu)) (dX (id:="len") gC T.fY gm (Zc (Zd 2) Zf)) (Zqe T (a_ bf (Zd 0) Zj)))))) (Zk (bI oA)) cJ) (Zk (bI (jq (T:="tuple") nq T.jB nu (Zc (Zu cN (qx qC (Zd 0) rH (pD (Zd 1))) (Zd 2)) Zf))))))))
theorem V9:cU ["blocks","word","inner","full"] ["blocks","word"] (Zt Dz):=dZ
theorem Zlz(A:bD K mg "can_stand" Dz ["blocks","word"])(T:Txt K mg){c7:Y2}(dH:Ia K mg c7):aD P w K mg base 1 "can_stand" ["blocks","word"] Di:=aD.of (N:=["blocks","word","inner","full"]) (k:=0) A V9 λf cdv A outer s H E hr=>by have hu:=dY hr;unfold VF;exact Zg (Zw 2 V9.nd (a_ bf (Zd 0) (jR jT Zj))) (Zg (Zw 3 V9.nd (rG ((eN hu)) (Zom T (a_ bf (u5 (C:=c7) (c:=[66,108,111,99,107]) (m:=[104,101,97,100]) dH.ok dH.Jg (Zd 2)) Zj) Zj) (dX (id:="len") gC T.fY gm (Zc (u5 (C:=c7) (c:=[66,108,111,99,107]) (m:=[108,105,115,116,115]) dH.ok dH.xU (Zd 2)) Zf)))) (Zg (bQ (ZiD T (Zd 1)) (Zk (bI (rG Uo (dX (id:="len") gC T.fY gm (Zc (Zd 0) Zf)) (ZjQ T)))) cJ) (Zg (bQ (bA ((eN hu)) (Zd 1) bC) (Zk (bI (za (rG ((eN hu)) (a_ bf (u5 (C:=c7) (c:=[66,108,111,99,107]) (m:=[104,101,97,100]) dH.ok dH.Jg (Zd 2)) Zj) bC) (y_ (ZuY (Zd 3)))))) cJ) (Zg (bQ (bA ((eN hu)) (Zd 1) bC) (Zk (bI (Zd 3))) cJ) (Zk (bI yZ))))))
theorem V_:cU ["blocks","deed","inner","whole"] ["blocks","deed"] (Zt DG):=dZ
theorem Zkt(A:bD K mg "place_deed" DG ["blocks","deed"])(T:Txt K mg){c7:Y2}(dH:Ia K mg c7)(Aa:zx P w K mg base 1 c7 ["self","head"] zE):aD P w K mg base 3 "place_deed" ["blocks","deed"] u9:=aD.of (N:=["blocks","deed","inner","whole"]) (k:=2) A V_ λf cdv A outer s H E hr=>by have hu:=dY hr;unfold zF;exact Zg (Zw 2 V_.nd (a_ bf (Zd 0) (jR jT Zj))) (Zk (bQ (ZiD T (a_ bf (Zd 1) Zj)) (Zk (gK (jU (Zd 0) (Zc (ZxT (C:=c7) (c:=[66,108,111,99,107]) (k:=1) (ps:=["self","head"]) dH.ok Aa dH.mg (hr.mono (by decide)) (Zc (Zd 1) Zf)) Zf)))) (Zk (bQ (bA ((eN hu)) (a_ bf (Zd 1) Zj) bC) (Zk (gK (jU (u5 (C:=c7) (c:=[66,108,111,99,107]) (m:=[108,105,115,116,115]) dH.ok dH.xU (Zd 2)) (Zc (cD Zf) Zf)))) (Zk (bQ (bA ((eN hu)) (a_ bf (Zd 1) Zj) bC) (Zg (gK (M7 (Zd 0))) (Zg (Zw 3 V_.nd (Zu cN (u5 (C:=c7) (c:=[66,108,111,99,107]) (m:=[104,101,97,100]) dH.ok dH.Jg (Zd 2)) (jq (T:="tuple") nq T.jB nu (Zc (pG (N':=["blocks","deed","inner","whole","deeds"]) (lg rfl (by kernel_rfl)) rfl rfl (jr (u5 (C:=c7) (c:=[66,108,111,99,107]) (m:=[108,105,115,116,115]) dH.ok dH.xU (Zd 2))) (λC cl s H ex=>⟨(iG 4 ((show jj (["blocks","deed","inner","whole","deeds"]:List aj)by decide +kernel))),lX,(jq (T:="tuple") nq T.jB nu (Zc (Zd 4) Zf))⟩)) Zf)))) (Zk (gK (jU (a_ bf (u5 (C:=c7) (c:=[66,108,111,99,107]) (m:=[108,105,115,116,115]) dH.ok dH.xU (a_ bf (Zd 0) (jR jT Zj))) (jR jT Zj)) (Zc (Zd 3) Zf)))))) (Zk (gK (jU (a_ bf (u5 (C:=c7) (c:=[66,108,111,99,107]) (m:=[108,105,115,116,115]) dH.ok dH.xU (Zd 2)) (jR jT Zj)) (Zc (Zd 1) Zf))))))))))
theorem Ib:cU ["rows","behind","blocks","number","words","deed"] ["rows","behind"] (Zt Dv):=dZ
theorem Zkh(A:bD K mg "read_deeds" Dv ["rows","behind"])(T:Txt K mg){c7:Y2}(dH:Ia K mg c7)(Aa:zx P w K mg base 1 c7 ["self","head"] zE)(Pq:aD P w K mg base 66 "read_deed" ["words"] HW)(Pr:aD P w K mg base 1 "can_stand" ["blocks","word"] Di)(O9:aD P w K mg base 3 "place_deed" ["blocks","deed"] u9):aD P w K mg base 67 "read_deeds" ["rows","behind"] Np:=aD.of (N:=["rows","behind","blocks","number","words","deed"]) (k:=66) A Ib λf cdv A outer s H E hr=>by have hu:=dY hr;unfold VG;exact Zg (Zw 2 Ib.nd (cD (Zc (ZxT (C:=c7) (c:=[66,108,111,99,107]) (k:=1) (ps:=["self","head"]) dH.ok Aa dH.mg (hr.mono (by decide)) (Zc (gB (Zc bC Zf)) Zf)) Zf))) (Zg (tR rfl rfl (jr (Zd 0)) (Mi rfl (lW 3 Ib.nd (lW 4 Ib.nd zb))) (Zg (Zw 5 Ib.nd (bO (k:=66) (ps:=["words"]) Pq (hr.mono (by decide)) (Zc (Zd 4) Zf))) (Zg (bQ (CW.ct (qw (bA Hu (Zd 5) oA) (tQ (uY (lV (bO (k:=1) (ps:=["blocks","word"]) Pr (hr.mono (by decide)) (Zc (Zd 2) (Zc (a_ bf (Zd 5) Zj) Zf)))))))) (Zk Mh) cJ) (Zk (gK (bO (k:=3) (ps:=["blocks","deed"]) O9 (hr.mono (by decide)) (Zc (Zd 2) (Zc (Zd 5) Zf)))))))) (Zg (bQ (bA qy (dX (id:="len") gC T.fY gm (Zc (Zd 2) Zf)) Zj) (Zk Mh) cJ) (Zk (bI (jq (T:="tuple") nq T.jB nu (Zc (a_ bf (u5 (C:=c7) (c:=[66,108,111,99,107]) (m:=[108,105,115,116,115]) dH.ok dH.xU (a_ bf (Zd 2) Zj)) Zj) Zf))))))
theorem Ek:cU ["text","lines","rows","taken"] ["text"] (Zt Ds):=dZ
theorem Zs0(A:bD K mg "read" Ds ["text"])(T:Txt K mg)(O_:aD P w K mg base 2 "read_taken" ["row"] Nj)(Pa:aD P w K mg base 67 "read_deeds" ["rows","behind"] Np):aD P w K mg base 68 "read" ["text"] HX:=aD.of (N:=["text","lines","rows","taken"]) (k:=67) A Ek λf cdv A outer s H E hr=>by have hu:=dY hr;unfold Nq;exact Zg (Zw 1 Ek.nd (Vc (Zd 0) (Zc bC Zf))) (Zg (Zk4 (N':=["text","lines","rows","taken","number","line"]) 2 (lg rfl (by kernel_rfl)) rfl rfl Ek.nd (ZqO T.Pk (Zd 1)) (λC cl s H ex=>⟨(Mi rfl (lW 4 ((show jj (["text","lines","rows","taken","number","line"]:List aj)by decide +kernel)) (lW 5 ((show jj (["text","lines","rows","taken","number","line"]:List aj)by decide +kernel)) zb))),(ZtN (bA ((w5 hu)) (Zd 5) bC)),(gB (Zc (Zd 4) (Zc (Vc (Zd 5) (Zc bC Zf)) Zf)))⟩)) (Zg (Zw 3 Ek.nd (gB Zf)) (Zg (bQ (CW.ct (oE (bA qy (dX (id:="len") gC T.fY gm (Zc (Zd 2) Zf)) Zj) (uX (bA ((eN hu)) (a_ bf (a_ bf (a_ bf (Zd 2) Zj) Zj) Zj) bC)))) (Zg (Zw 3 Ek.nd (bO (k:=2) (ps:=["row"]) O_ (hr.mono (by decide)) (Zc (a_ bf (Zd 2) Zj) Zf))) (Zk (Zw 2 Ek.nd (qx qC (Zd 2) (pD Zj) rH)))) cJ) (Zk (bI (gB (Zc (Zd 3) (Zc (bO (k:=67) (ps:=["rows","behind"]) Pa (hr.mono (by decide)) (Zc (Zd 2) (Zc (Zu cN (dX (id:="len") gC T.fY gm (Zc (Zd 1) Zf)) Zj) Zf))) Zf))))))))
theorem Ny:cU ["deed","first","second"] ["deed"] (Zt DQ):=dZ
theorem Nz:cU ["deeds","rows","deed"] ["deeds"] (Zt DP):=dZ
theorem Zfm(Xo:bD K mg "text_rows_of_deeds" DP ["deeds"])(Xp:bD K mg "text_rows_of_deed" DQ ["deed"])(T:Txt K mg):∀n:Nat,aD P w K mg base (n+1) "text_rows_of_deeds" ["deeds"] (Zy n 0)/\aD P w K mg base (n+1) "text_rows_of_deed" ["deed"] (Zy n 1):=by
  intro n
  induction n with
  |zero=>exact⟨aD.of (N:=["deeds","rows","deed"]) (k:=0) Xo Nz λf cdv A outer s H E hr=>MJ,aD.of (N:=["deed","first","second"]) (k:=0) Xp Ny λf cdv A outer s H E hr=>MJ⟩
  | succ n IH=>
    obtain⟨O5,Aaa⟩:=IH;refine⟨?_,?_⟩
    · refine(aD.of (N:=["deeds","rows","deed"]) (k:=n+1) Xo Nz λf cdv A outer s H E hr=>?_).mono (by omega)
      have hu:=dY hr;unfold ZdZ;refine Zg ?_ ?_
      .exact Zw 1 Nz.nd (cD Zf)
      .refine Zg ?_ ?_
       .refine tR ?_ ?_ ?_ ?_ ?_
        .exact rfl
        .exact rfl
        .exact jr (Zd 0)
        .exact iG 2 Nz.nd
        .exact Zk (gK (Vi (Zd 1) (Zc (bO (k:=n+1) (ps:=["deed"]) Aaa hr (Zc (Zd 2) Zf)) Zf)))
       .exact Zk (bI (Zd 1))
    · refine(aD.of (N:=["deed","first","second"]) (k:=n+1) Xp Ny λf cdv A outer s H E hr=>?_).mono (by omega)
      have hu:=dY hr;unfold oJ;refine Zg ?_ ?_
      .refine bQ ?_ ?_ ?_
       .exact bA ((eN hu)) (a_ bf (Zd 0) Zj) bC
       .refine Zg ?_ ?_
        .exact Zw 1 Ny.nd (bO (k:=n+1) (ps:=["deeds"]) O5 hr (Zc (a_ bf (Zd 0) Zj) Zf))
        .refine Zg ?_ ?_
         .exact Zw 2 Ny.nd (bO (k:=n+1) (ps:=["deeds"]) O5 hr (Zc (a_ bf (Zd 0) Zj) Zf))
         .refine Zk ?_;refine bI ?_;refine Zu ?_ ?_ ?_
          .exact cN
          .refine Zu ?_ ?_ ?_
           .exact cN
           .refine Zu ?_ ?_ ?_
            .exact cN
            .exact Zu cN (cD (Zc (Zu cN (gB (Zc bC Zf)) (a_ bf (Zd 0) Zj)) Zf)) (Zd 1)
            .exact cD (Zc (gB (Zc bC Zf)) Zf)
           .exact Zd 2
          .exact cD (Zc (gB (Zc bC Zf)) Zf)
       .exact cJ
      .refine Zg ?_ ?_
       .refine bQ ?_ ?_ ?_
        .exact bA ((eN hu)) (a_ bf (Zd 0) Zj) bC
        .refine Zk ?_;refine bI ?_;refine Zu ?_ ?_ ?_
         .exact cN
         .refine Zu ?_ ?_ ?_
          .exact cN
          .exact cD (Zc (Zu cN (gB (Zc bC Zf)) (a_ bf (Zd 0) Zj)) Zf)
          .exact bO (k:=n+1) (ps:=["deeds"]) O5 hr (Zc (a_ bf (Zd 0) Zj) Zf)
         .exact cD (Zc (gB (Zc bC Zf)) Zf)
        .exact cJ
       .refine Zg ?_ ?_
        .refine bQ ?_ ?_ ?_
         .exact bA ((eN hu)) (a_ bf (Zd 0) Zj) bC
         .refine Zk ?_;refine bI ?_;refine cD ?_;refine Zc ?_ ?_
          .exact Zu cN (Zu cN (gB (Zc bC Zf)) (a_ bf (Zd 0) Zj)) (a_ bf (Zd 0) Zj)
          .exact Zf
         .exact cJ
        .refine Zk ?_;refine bI ?_;refine cD ?_;refine Zc ?_ ?_
         .exact Zu cN (qx qC (Zd 0) rH (pD (jR jT Zj))) (a_ bf (Zd 0) (jR jT Zj))
         .exact Zf
theorem ZhC:cU ["program","rows"] ["program"] (Zt DN):=dZ
theorem ZlV(A:bD K mg "text_rows" DN ["program"])(T:Txt K mg)(O6:aD P w K mg base 29 "text_rows_of_deeds" ["deeds"] Nr):aD P w K mg base 30 "text_rows" ["program"] oK:=aD.of (N:=["program","rows"]) (k:=29) A ZhC λf cdv A outer s H E hr=>by have hu:=dY hr;unfold VH;exact Zg (Zw 1 ZhC.nd (Cy (bA qy (dX (id:="len") gC T.fY gm (Zc (a_ bf (Zd 0) Zj) Zf)) Zj) (cD (Zc (Zu cN (gB (Zc bC Zf)) (a_ bf (Zd 0) Zj)) Zf)) (cD Zf))) (Zk (bI (Zu cN (Zd 1) (bO (k:=29) (ps:=["deeds"]) O6 (hr.mono (by decide)) (Zc (a_ bf (Zd 0) Zj) Zf)))))
theorem Zsy:cU ["program"] ["program"] (Zt DK):=dZ
theorem ZqQ(A:bD K mg "shown" DK ["program"])(T:Txt K mg)(Pu:aD P w K mg base 1 "shown_row" ["row"] HJ)(Ac:aD P w K mg base 30 "text_rows" ["program"] oK):aD P w K mg base 31 "shown" ["program"] xq:=aD.of (N:=["program"]) (k:=30) A Zsy λf cdv A outer s H E hr=>by have hu:=dY hr;unfold VJ;exact Zk (bI (MP bC (Zc (pG (N':=["program","row"]) (lg rfl (by kernel_rfl)) rfl rfl (jr (bO (k:=30) (ps:=["program"]) Ac (hr.mono (by decide)) (Zc (Zd 0) Zf))) (λC cl s H ex=>⟨(iG 1 ((show jj (["program","row"]:List aj)by decide +kernel))),lX,(bO (k:=1) (ps:=["row"]) Pu (hr.mono (by decide)) (Zc (Zd 1) Zf))⟩)) Zf)))
theorem NK:cU ["program","names","row","word"] ["program"] (Zt DR):=dZ
theorem Zms(A:bD K mg "names_of" DR ["program"])(T:Txt K mg)(Ac:aD P w K mg base 30 "text_rows" ["program"] oK):aD P w K mg base 31 "names_of" ["program"] zG:=aD.of (N:=["program","names","row","word"]) (k:=30) A NK λf cdv A outer s H E hr=>by have hu:=dY hr;unfold VL;exact Zg (Zw 1 NK.nd (jq (T:="list") Zse T.Jh Zo1 (Zc (a_ bf (Zd 0) Zj) Zf))) (Zg (tR rfl rfl (jr (bO (k:=30) (ps:=["program"]) Ac (hr.mono (by decide)) (Zc (Zd 0) Zf))) (iG 2 NK.nd) (Zk (tR rfl rfl (jr (Zd 2)) (iG 3 NK.nd) (Zk (bQ (CW.ct (oE (uY (lV (rN .int T.oZ T.Qc (Zd 3)))) (oE (bA ((ZtI hu)) (Zd 3) (Zmw T)) (uX (bA Znm (Zd 3) (Zd 1)))))) (Zk (gK (jU (Zd 1) (Zc (Zd 3) Zf)))) cJ))))) (Zk (bI (jq (T:="tuple") nq T.jB nu (Zc (Zd 1) Zf)))))
theorem Wa:cU ["deck","cells","at"] ["deck"] (Zt DW):=dZ
theorem Zli(A:bD K mg "_law_next" DW ["deck"])(T:Txt K mg):aD P w K mg base 1 "_law_next" ["deck"] lZ:=aD.of (N:=["deck","cells","at"]) (k:=0) A Wa λf cdv A outer s H E hr=>by have hu:=dY hr;unfold Dj;exact Zg (Zw 1 Wa.nd (a_ bf (Zd 0) Zj)) (Zg (Zw 2 Wa.nd (a_ bf (Zd 0) Zj)) (Zg (U_ (Zd 0) Zj (Zu cN (Zd 2) Zj)) (Zg (bQ (bA wV (Zd 2) (dX (id:="len") gC T.fY gm (Zc (Zd 1) Zf))) (Zk (bI (a_ bf (Zd 1) (Zd 2)))) cJ) (Zg (bQ (bA ((eN hu)) (dX (id:="len") gC T.fY gm (Zc (Zd 1) Zf)) Zj) (Zk (bI (Zu cN (Zu zp (Zu zp (Zd 2) (Zd 2)) Zj) (Zd 2)))) cJ) (Zk (bI (Zu cN (Zu je (a_ bf (Zd 1) (Zu fC (Zd 2) (dX (id:="len") gC T.fY gm (Zc (Zd 1) Zf)))) Zj) (Zu zp (Zd 2) (Zd 2)))))))))
theorem Zib:cU ["found","due"] ["found","due"] (Zt DX):=dZ
theorem Zln(A:bD K mg "_law_same" DX ["found","due"])(T:Txt K mg):aD P w K mg base 32 "_law_same" ["found","due"] zH:=by
  have all:∀n:Nat,aD P w K mg base (n+1) "_law_same" ["found","due"] (qG n):=by
    intro n
    induction n with
    |zero=>exact aD.of (N:=["found","due"]) (k:=0) A Zib λf cdv A outer s H E hr=>MJ|succ n IH=>refine(aD.of (N:=["found","due"]) (k:=n+1) A Zib λf cdv A outer s H E hr=>?_).mono (by omega);have hu:=dY hr;unfold tV;exact Zg (bQ (lV (Zpb .tuple .list T.oZ T.jB T.Jh (Zd 1))) (Zg (bQ (CW.ct (qw (bA ((w5 hu)) (rN .tuple T.oZ T.jB (Zd 0)) (rN .tuple T.oZ T.jB (Zd 1))) (tQ (uY (lV (Zpb .tuple .list T.oZ T.jB T.Jh (Zd 0))))))) (Zk (bI yZ)) cJ) (Zk (bI (za (rG ((eN hu)) (dX (id:="len") gC T.fY gm (Zc (Zd 0) Zf)) (dX (id:="len") gC T.fY gm (Zc (Zd 1) Zf))) (y_ (dX (id:="all") ((CQ rfl)) T.Ae CP (Zc (pG (N':=["found","due","k"]) (lg rfl (by kernel_rfl)) rfl rfl (Mj T.Je (dX (id:="len") gC T.fY gm (Zc (Zd 1) Zf))) (λC cl s H ex=>⟨(iG 2 ((show jj (["found","due","k"]:List aj)by decide +kernel))),lX,(bO (k:=n+1) (ps:=["found","due"]) IH hr (Zc (a_ bf (Zd 0) (Zd 2)) (Zc (a_ bf (Zd 1) (Zd 2)) Zf)))⟩)) Zf))))))) cJ) (Zg (bQ (lV (rN .str T.oZ T.Af (Zd 1))) (Zk (bI (za (rN .str T.oZ T.Af (Zd 0)) (y_ (rG ((eN hu)) (Zd 0) (Zd 1)))))) cJ) (Zg (bQ (lV (rN .bool T.oZ T.PX (Zd 1))) (Zk (bI (za (rN .bool T.oZ T.PX (Zd 0)) (y_ (rG ((eN hu)) (Zd 0) (Zd 1)))))) cJ) (Zk (bI (za (rN .int T.oZ T.Qc (Zd 0)) (za (ZuY (rN .bool T.oZ T.PX (Zd 0))) (y_ (rG ((eN hu)) (Zd 0) (Zd 1)))))))))
  exact all 31
theorem l_:cU ["deck","own","letters","cell","more","first","other","names","k","sign","name"] ["deck"] (Zt DY):=dZ
theorem Zkp(A:bD K mg "_law_names" DY ["deck"])(T:Txt K mg)(pN:aD P w K mg base 1 "_law_next" ["deck"] lZ):aD P w K mg base 2 "_law_names" ["deck"] Nt:=
  aD.of (N:=["deck","own","letters","cell","more","first","other","names","k","sign","name"]) (k:=1) A l_ λf cdv A outer s H E hr=>by
    have hu:=dY hr;unfold VN;refine Zg ?_ ?_
    .refine Zw 1 ?_ ?_
     .exact l_.nd
     .refine cD ?_;refine Zc ?_ ?_
      .exact bC
      .refine Zc ?_ ?_
       .exact bC
       .refine Zc ?_ ?_
        .exact bC
        .refine Zc ?_ ?_
         .exact bC
         .refine Zc ?_ ?_
          .exact bC
          .exact Zc bC (Zc bC (Zc bC (Zc bC (Zc bC (Zc bC (Zc bC Zf))))))
    .refine Zg ?_ ?_
     .exact Zw 2 l_.nd bC
     .refine Zg ?_ ?_
      .exact Zw 3 l_.nd (bO (k:=1) (ps:=["deck"]) pN (hr.mono (by decide)) (Zc (Zd 0) Zf))
      .refine Zg ?_ ?_
       .exact Zw 4 l_.nd (Zu je (Zd 3) Zj)
       .refine Zg ?_ ?_
        .exact Zw 5 l_.nd (a_ bf (Zd 2) (Zu fC (Zd 4) Zj))
        .refine Zg ?_ ?_
         .exact Zw 6 l_.nd (a_ bf (Zd 2) (Zu fC (Zu je (Zd 4) Zj) Zj))
         .refine Zg ?_ ?_
          .exact Zw 7 l_.nd (cD Zf)
          .refine Zg ?_ ?_
           .refine tR ?_ ?_ ?_ ?_ ?_
            .exact rfl
            .exact rfl
            .exact Mj T.Je Zj
            .exact iG 8 l_.nd
            .refine Zg ?_ ?_
             .exact Zw 9 l_.nd (a_ bf (Zd 2) (Zu fC (Zu cN (Zd 4) (Zd 8)) Zj))
             .refine Zg ?_ ?_
              .exact Zw 10 l_.nd (Zu zp (Zd 9) (Zu cN Zj (Zu fC (Zu je (Zd 4) Zj) Zj)))
              .refine Zg ?_ ?_
               .refine bQ ?_ ?_ ?_
                .exact bA ((eN hu)) (Zu fC (Zd 3) Zj) Zj
                .exact Zk (Zw 10 l_.nd (Zu cN (a_ bf (Zd 1) (Zu fC (Zu cN (Zd 8) (Zd 4)) Zj)) (Zd 6)))
                .exact cJ
               .refine Zg ?_ ?_
                .refine bQ ?_ ?_ ?_
                 .exact bA ((eN hu)) (Zu fC (Zd 3) Zj) Zj
                 .refine Zg ?_ ?_
                  .refine Zw 10 ?_ ?_
                   .exact l_.nd
                   .refine Zu ?_ ?_ ?_
                    .exact cN
                    .exact Zu zp (Zd 5) (Zu cN Zj (Zu fC (Zd 8) Zj))
                    .exact Zu zp (a_ bf (Zd 2) (Zu fC (Zu cN (Zd 4) Zj) Zj)) (Zu je (Zd 8) Zj)
                  .exact Zk (Zw 10 l_.nd (qx qC (Zd 10) rH (pD Zj)))
                 .exact cJ
                .refine Zg ?_ ?_
                 .refine bQ ?_ ?_ ?_
                  .exact bA ((eN hu)) (Zu fC (Zd 3) Zj) Zj
                  .refine Zk ?_;refine Zw 10 ?_ ?_
                   .exact l_.nd
                   .refine Zu ?_ ?_ ?_
                    .exact cN
                    .exact Zu cN (Zd 6) (Zd 9)
                    .refine Zu ?_ ?_ ?_
                     .exact zp
                     .exact a_ bf (Zd 2) (Zu fC (Zu je (Zd 4) Zj) Zj)
                     .exact Zu fC (Zu je (Zd 4) Zj) Zj
                  .exact cJ
                 .refine Zg ?_ ?_
                  .exact bQ (bA ZuF (Zd 10) (Zd 1)) (Zk (Zw 10 l_.nd (Zu cN (Zd 10) bC))) cJ
                  .exact Zk (gK (jU (Zd 7) (Zc (Zd 10) Zf)))
           .exact Zk (bI (Zd 7))
theorem ZgZ:cU ["cell","number"] ["cell"] (Zt D_):=dZ
theorem Zkv(A:bD K mg "_law_value" D_ ["cell"])(T:Txt K mg):aD P w K mg base 1 "_law_value" ["cell"] xr:=aD.of (N:=["cell","number"]) (k:=0) A ZgZ λf cdv A outer s H E hr=>by have hu:=dY hr;unfold VP;exact Zg (Zw 1 ZgZ.nd (Zu fC (Zu je (Zd 0) Zj) (Zu Zyh Zj Zj))) (Zk (bI (a_ bf (cD (Zc (Zu fC (Zu je (Zd 0) Zj) Zj) (Zc (Zu wU (jR jT Zj) (Zu fC (Zu je (Zd 0) Zj) Zj)) (Zc (Zd 1) (Zc (Zu wU (jR jT Zj) (Zd 1)) Zf))))) (Zu fC (Zd 0) Zj))))
theorem zN:cU ["deck","names","deep","most","words","due","d","cell","room","way"] ["deck","names","deep","most"] (Zt Ea):=dZ
theorem Znq(A:bD K mg "_law_sum" Ea ["deck","names","deep","most"])(T:Txt K mg)(pN:aD P w K mg base 1 "_law_next" ["deck"] lZ)(Pb:aD P w K mg base 1 "_law_value" ["cell"] xr):aD P w K mg base 2 "_law_sum" ["deck","names","deep","most"] u_:=aD.of (N:=["deck","names","deep","most","words","due","d","cell","room","way"]) (k:=1) A zN λf cdv A outer s H E hr=>by have hu:=dY hr;unfold VR;exact Zg (Zw 4 zN.nd (cD Zf)) (Zg (Zw 5 zN.nd (cD (Zc (Zd 2) Zf))) (Zg (Zm5 rfl (bA ((w5 hu)) (Zd 5) (cD Zf)) (Zg (Zw 6 zN.nd (M7 (Zd 5))) (Zg (Zw 7 zN.nd (bO (k:=1) (ps:=["deck"]) pN (hr.mono (by decide)) (Zc (Zd 0) Zf))) (Zg (Zw 8 zN.nd (Zu wU (Zu wU (Zu wU (Zd 3) (dX (id:="len") gC T.fY gm (Zc (Zd 4) Zf))) (dX (id:="len") gC T.fY gm (Zc (Zd 5) Zf))) Zj)) (Zg (Zw 9 zN.nd (Zu fC (Zd 7) Zj)) (Zk (bQ (CW.ct (oE (bA wV (Zd 9) Zj) (oE (bA qy (Zd 6) Zj) (uX (bA qy (Zd 8) Zj))))) (Zg (gK (jU (Zd 4) (Zc (a_ bf (cD (Zc bC (Zc bC (Zc bC Zf)))) (Zd 9)) Zf))) (Zk (gK (Vi (Zd 5) (Zc (cD (Zc (Zu wU (Zd 6) Zj) (Zc (Zd 6) Zf))) Zf))))) (Zk (bQ (CW.ct (oE (bA ((eN hu)) (Zd 9) Zj) (uX (bA qy (Zd 8) Zj)))) (Zg (gK (jU (Zd 4) (Zc bC Zf))) (Zk (gK (jU (Zd 5) (Zc (Zd 6) Zf))))) (Zk (bQ (bA wV (Zd 9) Zj) (Zk (gK (jU (Zd 4) (Zc (a_ bf (Zd 1) (Zu fC (Zu je (Zd 7) Zj) Zj)) Zf)))) (Zk (gK (jU (Zd 4) (Zc (bO (k:=1) (ps:=["cell"]) Pb (hr.mono (by decide)) (Zc (Zu je (Zd 7) Zj) Zf)) Zf))))))))))))))) (Zk (bI (jq (T:="tuple") nq T.jB nu (Zc (Zd 4) Zf))))))
theorem NP:cU ["deck","names","cell","most","one"] ["deck","names","cell"] (Zt Eb):=dZ
theorem Zl5(A:bD K mg "_law_deed" Eb ["deck","names","cell"])(T:Txt K mg)(xR:aD P w K mg base 2 "_law_sum" ["deck","names","deep","most"] u_):aD P w K mg base 3 "_law_deed" ["deck","names","cell"] Nu:=aD.of (N:=["deck","names","cell","most","one"]) (k:=2) A NP λf cdv A outer s H E hr=>by have hu:=dY hr;unfold VV;exact Zg (Zw 3 NP.nd (a_ bf (cD (Zc Zj (Zc Zj (Zc Zj (Zc Zj Zf))))) (Zu fC (Zu je (Zd 2) Zj) Zj))) (Zg (bQ (bA ((eN hu)) (Zu fC (Zu je (Zd 2) Zj) Zj) Zj) (Zk (Zw 3 NP.nd Zj)) cJ) (Zg (Zw 4 NP.nd (bO (k:=2) (ps:=["deck","names","deep","most"]) xR (hr.mono (by decide)) (Zc (Zd 0) (Zc (Zd 1) (Zc (Zu cN Zj (Zu fC (Zu je (Zd 2) Zj) Zj)) (Zc (Zd 3) Zf)))))) (Zg (bQ (bA ((eN hu)) (Zu fC (Zd 2) Zj) Zj) (Zk (bI (gB (Zc bC (Zc (a_ bf (Zd 1) (Zu fC (Zu je (Zd 2) Zj) Zj)) (Zc (Zd 4) Zf)))))) cJ) (Zg (bQ (bA ((eN hu)) (Zu fC (Zd 2) Zj) Zj) (Zk (bI (gB (Zc bC (Zc (Zd 4) (Zc (bO (k:=2) (ps:=["deck","names","deep","most"]) xR (hr.mono (by decide)) (Zc (Zd 0) (Zc (Zd 1) (Zc (Zu cN Zj (Zu fC (Zu je (Zd 2) Zj) Zj)) (Zc (Zd 3) Zf))))) Zf)))))) cJ) (Zk (bI (gB (Zc bC (Zc (Zd 4) Zf)))))))))
theorem Wb:cU ["deed","words","part"] ["deed"] (Zt Ec):=dZ
theorem Zkg(A:bD K mg "_law_words" Ec ["deed"])(T:Txt K mg):aD P w K mg base 1 "_law_words" ["deed"] HY:=aD.of (N:=["deed","words","part"]) (k:=0) A Wb λf cdv A outer s H E hr=>by have hu:=dY hr;unfold V0;exact Zg (Zw 1 Wb.nd (cD (Zc (a_ bf (Zd 0) Zj) Zf))) (Zg (tR rfl rfl (jr (qx qC (Zd 0) (pD Zj) rH)) (iG 2 Wb.nd) (Zk (bQ (lV (rN .str T.oZ T.Af (Zd 2))) (Zk (gK (jU (Zd 1) (Zc (Zd 2) Zf)))) (Zk (gK (Vi (Zd 1) (Zc (pG (N':=["deed","words","part","word"]) (lg rfl (by kernel_rfl)) rfl rfl (jr (Zd 2)) (λC cl s H ex=>⟨(iG 3 ((show jj (["deed","words","part","word"]:List aj)by decide +kernel))),lX,(jq (T:="str") ZuZ T.Af ZrF (Zc (Zd 3) Zf))⟩)) Zf))))))) (Zk (bI (MP bC (Zc (Zd 1) Zf)))))
theorem zO:cU ["stack","deeds","word","what","outer","ahead","deed"] ["stack","deeds"] (Zt Ed):=dZ
theorem Zj6(A:bD K mg "_law_closed" Ed ["stack","deeds"])(T:Txt K mg):aD P w K mg base 1 "_law_closed" ["stack","deeds"] xu:=aD.of (N:=["stack","deeds","word","what","outer","ahead","deed"]) (k:=0) A zO λf cdv A outer s H E hr=>by have hu:=dY hr;unfold V1;exact Zg (Vh rfl (a_ bf (Zd 0) (jR jT Zj)) (lW 2 zO.nd (lW 3 zO.nd (lW 4 zO.nd (lW 5 zO.nd zb))))) (Zg (Zw 6 zO.nd (gB (Zc (Zd 2) (Zc (Zd 3) (Zc (jq (T:="tuple") nq T.jB nu (Zc (Zd 1) Zf)) Zf))))) (Zg (bQ (bA ((eN hu)) (Zd 2) bC) (Zk (Zw 6 zO.nd (gB (Zc (Zd 2) (Zc (Zd 3) (Zc (Zd 5) (Zc (jq (T:="tuple") nq T.jB nu (Zc (Zd 1) Zf)) Zf))))))) cJ) (Zk (bI (Zu cN (Zd 4) (cD (Zc (Zd 6) Zf)))))))
theorem zP:cU ["deck","names","stack","deeds","cell","way","what","word","deed"] ["deck","names","stack","deeds"] (Zt Ef):=dZ
theorem Zm6(A:bD K mg "_law_row" Ef ["deck","names","stack","deeds"])(T:Txt K mg)(pN:aD P w K mg base 1 "_law_next" ["deck"] lZ)(xR:aD P w K mg base 2 "_law_sum" ["deck","names","deep","most"] u_)(Px:aD P w K mg base 3 "_law_deed" ["deck","names","cell"] Nu)(Ja:aD P w K mg base 1 "_law_words" ["deed"] HY)(Ab:aD P w K mg base 1 "_law_closed" ["stack","deeds"] xu):aD P w K mg base 4 "_law_row" ["deck","names","stack","deeds"] zK:=aD.of (N:=["deck","names","stack","deeds","cell","way","what","word","deed"]) (k:=3) A zP λf cdv A outer s H E hr=>by have hu:=dY hr;unfold zJ;exact Zg (Zw 4 zP.nd (bO (k:=1) (ps:=["deck"]) pN (hr.mono (by decide)) (Zc (Zd 0) Zf))) (Zg (Zw 5 zP.nd (Zu fC (Zd 4) Zj)) (Zg (bQ (CW.ct (oE (bA ((eN hu)) (Zd 5) Zj) (oE (bA ((Vq hu)) (Zd 2) (cD Zf)) (oE (bA ((eN hu)) (a_ bf (a_ bf (Zd 2) (jR jT Zj)) Zj) bC) (uX (bA Hu (a_ bf (a_ bf (Zd 2) (jR jT Zj)) Zj) oA)))))) (Zg (U_ (a_ bf (Zd 2) (jR jT Zj)) Zj (jq (T:="tuple") nq T.jB nu (Zc (Zd 3) Zf))) (Zk (bI (cD (Zc bC (Zc (cD Zf) Zf)))))) cJ) (Zg (bQ (CW.ct (oE (bA qy (Zd 5) Zj) (oE (bA ((Vq hu)) (Zd 2) (cD Zf)) (uX (CW.ct (qw (bA ((eN hu)) (a_ bf (a_ bf (Zd 2) (jR jT Zj)) Zj) bC) (tQ (bA Zuk (a_ bf (a_ bf (Zd 2) (jR jT Zj)) Zj) oA)))))))) (Zg (Zw 3 zP.nd (bO (k:=1) (ps:=["stack","deeds"]) Ab (hr.mono (by decide)) (Zc (Zd 2) (Zc (Zd 3) Zf)))) (Zg (gK (M7 (Zd 2))) (Zk (bI (cD (Zc bC (Zc (Zd 3) Zf))))))) cJ) (Zg (bQ (CW.ct (oE (Zr7 Uo wV Zj (Zd 5) Zj) (uX (bA wV (dX (id:="len") gC T.fY gm (Zc (Zd 2) Zf)) Zj)))) (Zg (Zw 6 zP.nd (bO (k:=2) (ps:=["deck","names","deep","most"]) xR (hr.mono (by decide)) (Zc (Zd 0) (Zc (Zd 1) (Zc (Zu cN Zj (Zu fC (Zu je (Zd 4) Zj) Zj)) (Zc (Zu cN Zj (Zu fC (Zu je (Zd 4) Zj) Zj)) Zf)))))) (Zg (Zw 7 zP.nd (a_ bf (cD (Zc bC (Zc bC (Zc bC Zf)))) (Zu wU (Zd 5) Zj))) (Zg (gK (jU (Zd 2) (Zc (cD (Zc (Zd 7) (Zc (Zd 6) (Zc (Zd 3) (Zc oA Zf))))) Zf))) (Zk (bI (cD (Zc (bO (k:=1) (ps:=["deed"]) Ja (hr.mono (by decide)) (Zc (gB (Zc (Zd 7) (Zc (Zd 6) Zf))) Zf)) (Zc (cD Zf) Zf)))))))) cJ) (Zg (Zw 8 zP.nd (bO (k:=3) (ps:=["deck","names","cell"]) Px (hr.mono (by decide)) (Zc (Zd 0) (Zc (Zd 1) (Zc (Zu je (Zd 4) Zj) Zf))))) (Zk (bI (cD (Zc (bO (k:=1) (ps:=["deed"]) Ja (hr.mono (by decide)) (Zc (Zd 8) Zf)) (Zc (Zu cN (Zd 3) (cD (Zc (Zd 8) Zf))) Zf))))))))))
theorem oM:cU ["deck","names","many","most","rows","stack","deeds","used","k","kept","row","behind"] ["deck","names","many","most"] (Zt Eg):=dZ
theorem ZiY(A:bD K mg "_law_program" Eg ["deck","names","many","most"])(T:Txt K mg)(Ab:aD P w K mg base 1 "_law_closed" ["stack","deeds"] xu)(Pz:aD P w K mg base 4 "_law_row" ["deck","names","stack","deeds"] zK):aD P w K mg base 5 "_law_program" ["deck","names","many","most"] Nv:=aD.of (N:=["deck","names","many","most","rows","stack","deeds","used","k","kept","row","behind"]) (k:=4) A oM λf cdv A outer s H E hr=>by have hu:=dY hr;unfold V2;exact Zg (Zw 4 oM.nd (cD Zf)) (Zg (Zw 5 oM.nd (cD Zf)) (Zg (Zw 6 oM.nd (cD Zf)) (Zg (Zw 7 oM.nd Zj) (Zg (tR rfl rfl (Mj T.Je (Zd 2)) (iG 8 oM.nd) (Zg (ZqS (N':=["deck","names","many","most","rows","stack","deeds","used","k","kept","row","behind","block"]) 9 (lg rfl (by kernel_rfl)) rfl rfl oM.nd (jr (Zd 5)) (λC cl s H ex=>⟨(iG 12 ((show jj (["deck","names","many","most","rows","stack","deeds","used","k","kept","row","behind","block"]:List aj)by decide +kernel))),lX,(jq (T:="list") Zse T.Jh Zo1 (Zc (Zd 12) Zf))⟩)) (Zg (Vh rfl (bO (k:=4) (ps:=["deck","names","stack","deeds"]) Pz (hr.mono (by decide)) (Zc (Zd 0) (Zc (Zd 1) (Zc (Zd 5) (Zc (Zd 6) Zf))))) (lW 10 oM.nd (lW 11 oM.nd zb))) (Zg (bQ (bA qy (Zu cN (Zd 7) (dX (id:="len") gC T.fY gm (Zc (Zd 10) Zf))) (Zd 3)) (Zg (Zw 5 oM.nd (Zd 9)) (Zk Zri)) cJ) (Zg (Zw 6 oM.nd (Zd 11)) (Zg (Zw 7 oM.nd (Zu cN (Zu cN (Zd 7) (dX (id:="len") gC T.fY gm (Zc (Zd 10) Zf))) Zj)) (Zk (gK (jU (Zd 4) (Zc (Zd 10) Zf)))))))))) (Zg (Zm5 rfl (bA ((Vq hu)) (Zd 5) (cD Zf)) (Zg (bQ (CW.ct (oE (bA ((eN hu)) (a_ bf (a_ bf (Zd 5) (jR jT Zj)) Zj) bC) (uX (bA Hu (a_ bf (a_ bf (Zd 5) (jR jT Zj)) Zj) oA)))) (Zg (U_ (a_ bf (Zd 5) (jR jT Zj)) Zj (jq (T:="tuple") nq T.jB nu (Zc (Zd 6) Zf))) (Zg (Zw 6 oM.nd (cD Zf)) (Zk (gK (jU (Zd 4) (Zc bC Zf)))))) cJ) (Zg (Zw 6 oM.nd (bO (k:=1) (ps:=["stack","deeds"]) Ab (hr.mono (by decide)) (Zc (Zd 5) (Zc (Zd 6) Zf)))) (Zg (gK (M7 (Zd 5))) (Zk (gK (jU (Zd 4) (Zc bC Zf)))))))) (Zk (bI (cD (Zc (Zd 4) (Zc (jq (T:="tuple") nq T.jB nu (Zc (Zd 6) Zf)) Zf))))))))))
theorem ZgW:cU ["deck","names","cell"] ["deck","names"] (Zt Eh):=dZ
theorem Zky(A:bD K mg "_law_taken" Eh ["deck","names"])(T:Txt K mg)(pN:aD P w K mg base 1 "_law_next" ["deck"] lZ):aD P w K mg base 2 "_law_taken" ["deck","names"] Nx:=aD.of (N:=["deck","names","cell"]) (k:=1) A ZgW λf cdv A outer s H E hr=>by have hu:=dY hr;unfold V3;exact Zg (Zw 2 ZgW.nd (bO (k:=1) (ps:=["deck"]) pN (hr.mono (by decide)) (Zc (Zd 0) Zf))) (Zk (bI (jq (T:="tuple") nq T.jB nu (Zc (pG (N':=["deck","names","cell","k"]) (lg rfl (by kernel_rfl)) rfl rfl (Mj T.Je (Zu fC (Zd 2) Zj)) (λC cl s H ex=>⟨(iG 3 ((show jj (["deck","names","cell","k"]:List aj)by decide +kernel))),lX,(a_ bf (Zd 1) (Zu fC (Zu cN (Zu je (Zd 2) Zj) (Zd 3)) Zj))⟩)) Zf))))
theorem NQ:cU ["rows","names","found","row","word"] ["rows","names"] (Zt Ei):=dZ
theorem Zkw(A:bD K mg "_law_named" Ei ["rows","names"])(T:Txt K mg):aD P w K mg base 1 "_law_named" ["rows","names"] H_:=
  aD.of (N:=["rows","names","found","row","word"]) (k:=0) A NQ λf cdv A outer s H E hr=>by
    have hu:=dY hr;unfold V4;refine Zg ?_ ?_
    .exact Zw 2 NQ.nd (cD Zf)
    .refine Zg ?_ ?_
     .refine tR ?_ ?_ ?_ ?_ ?_
      .exact rfl
      .exact rfl
      .exact jr (Zd 0)
      .exact iG 3 NQ.nd
      .refine Zk ?_;refine tR ?_ ?_ ?_ ?_ ?_
       .exact rfl
       .exact rfl
       .exact jr (Vc (Zd 3) (Zc bC Zf))
       .exact iG 4 NQ.nd
       .refine Zk ?_;refine bQ ?_ ?_ ?_
        .exact CW.ct (oE (bA ZuF (Zd 4) (Zd 1)) (uX (bA Znm (Zd 4) (Zd 2))))
        .exact Zk (gK (jU (Zd 2) (Zc (Zd 4) Zf)))
        .exact cJ
     .exact Zk (bI (jq (T:="tuple") nq T.jB nu (Zc (Zd 2) Zf)))
theorem vg:cU ["script","deck","names","taken","rows","deeds","program","text"] ["script"] (Zt vf):=dZ
theorem ZvE{f:Y2}{fd:lM}(F:uO K "law" "law" vf f fd)(T:Txt K mg)(P_:aD P w K mg base 68 "read" ["text"] HX)(Fe:aD P w K mg base 31 "shown" ["program"] xq)(Jc:aD P w K mg base 31 "names_of" ["program"] zG)(Fb:aD P w K mg base 32 "_law_same" ["found","due"] zH)(Pg:aD P w K mg base 2 "_law_names" ["deck"] Nt)(O7:aD P w K mg base 5 "_law_program" ["deck","names","many","most"] Nv)(Ph:aD P w K mg base 2 "_law_taken" ["deck","names"] Nx)(Pj:aD P w K mg base 1 "_law_named" ["rows","names"] H_):jK P w K mg base mO 69 f fd ["script"] (u0 K 1 Zph):=
  Um (N:=["script","deck","names","taken","rows","deeds","program","text"]) (k:=68) F vg λcdv A outer s H E hr=>by
    have hu:=dY hr;unfold V5;refine Zg ?_ ?_
    .exact Zw 1 vg.nd (cD (Zc (qx qC (Zd 0) rH (pD Zj)) (Zc Zj Zf)))
    .refine Zg ?_ ?_
     .exact Zw 2 vg.nd (bO (k:=2) (ps:=["deck"]) Pg (hr.mono (by decide)) (Zc (Zd 1) Zf))
     .refine Zg ?_ ?_
      .exact Zw 3 vg.nd (bO (k:=2) (ps:=["deck","names"]) Ph (hr.mono (by decide)) (Zc (Zd 1) (Zc (Zd 2) Zf)))
      .refine Zg ?_ ?_
       .refine Vh ?_ ?_ ?_
        .exact rfl
        .refine bO (k:=5) (ps:=["deck","names","many","most"]) ?_ ?_ ?_
         .exact O7
         .exact hr.mono (by decide)
         .refine Zc ?_ ?_
          .exact Zd 1
          .refine Zc ?_ ?_
           .exact Zd 2
           .exact Zc (dX (id:="len") gC T.fY gm (Zc (qx qC (Zd 0) rH (pD Zj)) Zf)) (Zc Zj Zf)
        .exact lW 4 vg.nd (lW 5 vg.nd zb)
       .refine Zg ?_ ?_
        .refine bQ ?_ ?_ ?_
         .exact bA ((w5 hu)) (Zd 3) (gB Zf)
         .refine Zk ?_;refine Zw 4 ?_ ?_
          .exact vg.nd
          .refine Zu ?_ ?_ ?_
           .exact cN
           .exact cD (Zc (Zne bC (Zc (Zu cN (gB (Zc bC Zf)) (Zd 3)) Zf)) Zf)
           .exact Zd 4
         .exact cJ
        .refine Zg ?_ ?_
         .exact Zw 6 vg.nd (gB (Zc (Zd 3) (Zc (Zd 5) Zf)))
         .refine Zg ?_ ?_
          .refine bQ ?_ ?_ ?_
           .refine CW.ct ?_;refine qw ?_ ?_
            .exact bA ((w5 hu)) (bO (k:=31) (ps:=["program"]) Fe (hr.mono (by decide)) (Zc (gB (Zc (gB Zf) (Zc (gB Zf) Zf))) Zf)) bC
            .refine tQ ?_;refine uY ?_;refine lV ?_;refine bO (k:=32) (ps:=["found","due"]) ?_ ?_ ?_
             .exact Fb
             .exact hr.mono (by decide)
             .refine Zc ?_ ?_
              .exact bO (k:=31) (ps:=["program"]) Jc (hr.mono (by decide)) (Zc (gB (Zc (gB Zf) (Zc (gB Zf) Zf))) Zf)
              .exact Zc (gB Zf) Zf
           .exact Zk (bI yZ)
           .exact cJ
          .refine Zg ?_ ?_
           .exact Zw 7 vg.nd (bO (k:=31) (ps:=["program"]) Fe (hr.mono (by decide)) (Zc (Zd 6) Zf))
           .refine Zg ?_ ?_
            .refine bQ ?_ ?_ ?_
             .refine CW.ct ?_;exact qw (uY (lV (rN .str T.oZ T.Af (Zd 7)))) (tQ (bA ((w5 hu)) (Zd 7) (MP bC (Zc (Zd 4) Zf))))
             .exact Zk (bI yZ)
             .exact cJ
            .refine Zg ?_ ?_
             .refine bQ ?_ ?_ ?_
              .refine uY ?_;refine lV ?_;refine bO (k:=32) (ps:=["found","due"]) ?_ ?_ ?_
               .exact Fb
               .exact hr.mono (by decide)
               .refine Zc ?_ ?_
                .exact bO (k:=31) (ps:=["program"]) Jc (hr.mono (by decide)) (Zc (Zd 6) Zf)
                .exact Zc (bO (k:=1) (ps:=["rows","names"]) Pj (hr.mono (by decide)) (Zc (Zd 4) (Zc (Zd 2) Zf))) Zf
              .exact Zk (bI yZ)
              .exact cJ
             .refine Zk ?_;refine bI ?_;refine za ?_ ?_
              .exact bO (k:=32) (ps:=["found","due"]) Fb (hr.mono (by decide)) (Zc (bO (k:=68) (ps:=["text"]) P_ (hr.mono (by decide)) (Zc (Zd 7) Zf)) (Zc (Zd 6) Zf))
              .exact y_ (rG ((eN hu)) (bO (k:=31) (ps:=["program"]) Fe (hr.mono (by decide)) (Zc (Zd 6) Zf)) (Zd 7))
end
end Law
set_option maxHeartbeats 200000
namespace Law
open L3
theorem Zwi(c:Nat):∀(x y a b:List Nat),c∉x->c∉y->x++c::a=y++c::b->x=y/\a=b:=by
 intro x
 induction x with
 |nil=>
  intro y a b _ hy h;cases y with
  |nil=>exact⟨rfl,(jc h).2⟩|cons q y=>exact absurd (jc h).1 λe=>hy (e▸Yc ..)
 | cons p x ih=>
  intro y a b hx hy h;cases y with
  |nil=>exact absurd (jc h).1 λe=>hx (e▸Yc ..)|cons q y=>obtain⟨e1,e2⟩:=ih y a b (λz=>hx (Yd _ z)) (λz=>hy (Yd _ z)) (jc h).2;exact⟨by rw[(jc h).1,e1],e2⟩
theorem tW(s x y:List Nat)(r:List (List Nat)):glue s (x::y::r)=x++(s++glue s (y::r)):=by show x++s++glue s (y::r)=_;rw[gG]
theorem ZsK(c:Nat):∀(ts us:List (List Nat)),ts≠[]->us≠[]->(∀t∈ts,c∉t)->(∀t∈us,c∉t)->glue [c] ts=glue [c] us->ts=us:=by
 intro ts
 induction ts with
 |nil=>intro us h;exact absurd rfl h|cons t ts ih=>
  intro us _ hu ft fu h;cases us with
  |nil=>exact absurd rfl hu|cons u us=>
   have ht:=ft t (Yc ..);have hu':=fu u (Yc ..);cases ts with
   | nil=>
    cases us with
    |nil=>rw[show t=u from h]|cons v us=>rw[tW]at h;refine absurd (show c∈t from ?_) ht;rw[show t=_ from h];exact Y9 _ (Yc ..)
   | cons w ts=>
    cases us with
    |nil=>rw[tW]at h;refine absurd (show c∈u from ?_) hu';rw[show u=_ from h.symm];exact Y9 _ (Yc ..)|cons v us=>rw[tW,tW]at h;obtain⟨e1,e2⟩:=Zwi c t u _ _ ht hu' h;rw[e1,ih (v::us) (λz=>nomatch z) (λz=>nomatch z) (λq hq=>ft q (Yd _ hq)) (λq hq=>fu q (Yd _ hq)) e2]
theorem Zjr(x:List Nat)(c:Nat):glue [c] (pC x [c])=x:=by
 have h:=PySem.StrLaws.join_split (⟨x.toArray⟩:PySem.Str) (⟨([c]:List Nat).toArray⟩);have e:(Yl8 (⟨x.toArray⟩:PySem.Str) ⟨([c]:List Nat).toArray⟩)=(pC x [c]).map λt=>(⟨t.toArray⟩:PySem.Str):=by unfold pC;rw[ji];exact(QL _).symm.trans (Aq λt _=>rfl)
 rw[e,MN]at h;have q:=congrArg (λs:PySem.Str=>s.cps.toList) h;simpa using q
theorem Wc(c:Nat)(ts:List (List Nat))(h:ts≠[])(hf:∀t∈ts,c∉t):pC (glue [c] ts) [c]=ts:=by
 have hs:∀t∈pC (glue [c] ts) [c],c∉t:=by intro t ht;obtain⟨p,hp,rfl⟩:=dN.mp ht;exact PySem.StrLaws.split_free _ c p hp
 refine ZsK c _ _ (λz=>?_) h hs hf (Zjr _ c);have q:=Zjr (glue [c] ts) c;unfold pC at z;have z1:=Ar.mp z;have z2:=PyProof.Rows.split_pos (⟨(glue [c] ts).toArray⟩:PySem.Str) ⟨([c]:List Nat).toArray⟩;rw[z1]at z2;exact absurd z2 (by decide)
noncomputable def cQ(n:Nat):List Nat:=(J8 10 n).map Sq
theorem Zm3:∀d:Nat,d<10->(Nat.digitChar d).toNat=48+d:=by decide
variable{n:Nat}
theorem zQ(h:n<10):cQ n=[48+n]:=by unfold cQ;rw[Yhm h,Ys,uq,Zm3 n h]
theorem Ie(h:10<=n):cQ n=cQ (n / 10)++[48+n % 10]:=by have hm:n % 10<10:=Gf n (by decide);have t:J8 10 (n / 10)++J8 10 (n % 10)=J8 10 (10*(n / 10)+n % 10):=Nat.toDigits_append_toDigits (by decide) (by omega) hm;rw[Nat.div_add_mod]at t;unfold cQ;rw[←t,iY,Yhm hm,Ys,uq,Zm3 _ hm]
theorem xx(n:Nat):∀c∈cQ n,48<=c/\c<=57:=by
 induction n using J7 with
 | _ n ih=>
  by_cases h:n<10
  .rw[zQ h];intro c hc;rw[Yx.mp hc];exact⟨iM _ _,lA 1 0x392b0302bc0a1b011 T1 h⟩
  .rw[Ie (j5 h)];intro c hc;rcases eY.mp hc with hc|hc
   .exact ih (n / 10) (J6 λz=>lB 3 0x6010ad01a1b0511002 T1 z h (Bj _ _)) c hc
   .rw[Yx.mp hc];exact⟨iM _ _,lA 1 0x392b0302bc0a1b011 T1 (Gf _ (by decide))⟩
theorem Ig(n:Nat):cQ n≠[]:=by
 by_cases h:n<10
 .rw[zQ h];exactλz=>nomatch z
 .rw[Ie (j5 h)];exactλz=>absurd (Qx.mp z).2 (λz=>nomatch z)
theorem Ih(k:Nat):∀n:Nat,n<10^(k+1)->(cQ n).length<=k+1:=by
 induction k with
 |zero=>intro n h;rw[zQ (by simpa using h)];exact Yt _|succ k ih=>
  intro n h;by_cases q:n<10
  .rw[zQ q];exact Bh 1 _
  .rw[Ie (j5 q),Ye,iJ];have:=ih (n / 10) (by rw[Nat.pow_succ]at h;omega);exact lB 1 0xaa1cca0c0a1c001 T1 this
theorem Zqt(n:Nat)(h:0<n):∀r,cQ n≠48::r:=by
 induction n using J7 with
 | _ n ih=>
  intro r z;by_cases q:n<10
  .rw[zQ q]at z;have:=(jc z).1;exact lA 2 0x60e11302b0302bc21 T1 this h
  .rw[Ie (j5 q)]at z;cases e:cQ (n / 10)with
   |nil=>exact Ig _ e|cons c l=>rw[e]at z;have:=(jc z).1;subst this;exact ih (n / 10) (J6 λz=>lB 3 0x6010ad01a1b0511002 T1 z q (Bj _ _)) (by omega) l e
theorem Zmr(n:Nat):Gh (cQ n)=n:=by
 induction n using J7 with
 | _ n ih=>
  by_cases q:n<10
  .rw[zQ q];show 0*10+(48+n-48)=n;exact Y0 (lB 1 0x10a1b00dc01302bc302b0c21 T1 (Y8 (iM _ _))) (lB 1 0x1a1b00dc00302b1c0302bc01 T1 (gH _ _))
  .rw[Ie (j5 q)];have e:Gh (cQ (n / 10)++[48+n % 10])=Gh (cQ (n / 10))*10+(48+n % 10-48):=by
    unfold Gh;rw[Yes];rfl
   rw[e,ih (n / 10) (J6 λz=>lB 3 0x6010ad01a1b0511002 T1 z q (Bj _ _))];omega
theorem NT(n:Nat):gA (n:Int)=cQ n:=by unfold gA cQ;rw[Ygh];show(Nat.repr n).toList.map Sq=_;rw[Ymh]
theorem NZ(n:Nat):gA (Int.negSucc n)=45::cQ (n+1):=by unfold gA cQ;rw[Ygh];show("-" ++Nat.repr (n+1)).toList.map Sq=_;rw[String.toList_append,iY,Ymh];rfl
theorem Zip(i:Int)(h:i.natAbs<10^60):JR ⟨(gA i).toArray⟩=Ya i/\(gA i).length<=61/\∀c∈gA i,45<=c:=by
 cases i with
 |ofNat n=>have hl:=Ih 59 n h;have e:gA (Int.ofNat n)=cQ n:=NT n;rw[e];refine⟨?_,sS hl,λc hc=>Yi (by decide) (xx n c hc).1⟩;have q:=PySem.intText_digits (x:=⟨(cQ n).toArray⟩) (xx n) (Ig n) (Yi (show(cQ n).toArray.size<=60 by simpa using hl) (by decide));rw[q];show Ya ((Gh (cQ n):Nat):Int)=_;rw[Zmr];rfl|negSucc n=>
  have hl:=Ih 59 (n+1) h;rw[NZ];refine⟨?_,pZ hl,λc hc=>?_⟩
  .have q:=PySem.intText_neg (x:=⟨(45::cQ (n+1)).toArray⟩) (cs:=cQ (n+1)) rfl (xx _) (Ig _) (Yi (show(45::cQ (n+1)).toArray.size<=61 by simpa using hl) (by decide));rw[q,Zmr];rfl
  .rcases Yo.mp hc with e|hc
   .exact j6 e.symm
   .exact Yi (by decide) (xx _ c hc).1
variable{M M':Store}
theorem Zrp{d:D}(h:M'.length=M.length):eG M d M'= .ok d M':=by unfold eG;rw[sI (j6 h)];split <;>rfl
theorem Tr(n d:Nat):aF n d Yl=d:=rfl
theorem GJ(n d k:Nat):aF n d (Ya (k:Int))=jJ k n:=by have h:¬((k:Int)<0):=(λz=>iN [_] [] 1 7211153 T1 z);simp only[aF,if_neg h,sU]
variable{α:Type}
theorem El(w:List α)(k:Nat):cutD w (Ya (k:Int)) Yl=w.drop k:=by
 unfold cutD;rw[GJ,Tr];by_cases h:k<=w.length
 .rw[Gb h,sI (by simp)]
 .rw[Ri (by exact lB 1 1052737 T1 h),JB (Yt _),JB (by exact lB 1 1052737 T1 h)];simp
theorem Zrr(w:List α)(k:Nat):cutD w Yl (Ya (k:Int))=w.take k:=by
 unfold cutD;rw[GJ,Tr];by_cases h:k<=w.length
 .rw[Gb h];simp
 .rw[Ri (by exact lB 1 1052737 T1 h),Nat.sub_zero,JH,sI (Yt _),sI (by exact lB 1 1052737 T1 h)]
theorem ZyG{i j:Int}(h:-(2^64)<i/\i<2^64):mR i j=true:=by unfold mR;rw[yt];left;simp only[Y5,decide_eq_true_eq];exact h
theorem mul_r{i j:Int}(h:-(2^64)<j/\j<2^64):mR i j=true:=by unfold mR;rw[yt];right;simp only[Y5,decide_eq_true_eq];exact h
theorem oN(x:Int)(m:Nat)(h:0<m):∃a:Nat,x % (m:Int)=a/\a<m:=by have h1:=qR x (b:=(m:Int)) (by exactλz=>iN [_] [] 2 416093702305 T1 z h);have h2:=uD x (b:=(m:Int)) (by exact iN [_] [] 1 149491217 T1 h);exact⟨(x % (m:Int)).toNat,(nW h1).symm,by exact iN [_,_] [_] 2 18698308976785 T1 h2 (nW h1)⟩
theorem jt{i j:Int}(h:0<j/\j<1073741824):b8 (.int i) (.int j) M= .ok (.int (i / j)) M:=by simp only[Zk5,if_pos h]
variable{ds:List D}{env:bJ}
theorem di{g:d_}(h:g env M= .ok ds M')(hl:decide (ds.length<=100)=true):aX g env M= .ok (.ref M'.length) (M'++[.lst ds]):=by have z:ds.length<=SZ:=Yi (of_decide_eq_true hl) (by decide);simp only[aX,h,R3.bind,if_pos z,alloc]
variable{xs:List D}
theorem Wd{d:D}{o t:E3}(ho:o env M= .ok (.ref n) M)(hM:M[n]?=Ya (.lst xs))(ht:t env M= .ok d M')(hM':M'[n]?=Ya (.lst xs))(hl:xs.length<SZ):
  aV (aG bx cg o (Zb t (Ze))) env M= .nx env (M'.set n (.lst (xs++[d]))):=by
 have e:aG bx cg o (Zb t (Ze)) env M= .ok .non (M'.set n (.lst (xs++[d]))):=by simp only[aG,ho,R3.bind,yU,hM,Zb,ht,Ze,T_,hM',if_pos hl,if_true]
 rw[aV,e]
variable{f g:E3}
theorem Zyj{op:D->D->D->Store->R3 D}{h:E3}{M M1 M2 M3 M4:Store}{a b c d:D}(h1:f env M= .ok a M1)(h2:g env M1= .ok b M2)(h3:h env M2= .ok c M3)(h4:op a b c M3= .ok d M4):e3 op f g h env M= .ok d M4:=by simp only[e3,h1,h2,h3,h4,R3.bind]
noncomputable def pI(x:List Nat):Bool:=decide (x=[97,100,100]\/x=[115,117,98]\/x=[109,111,114,101]\/x=[99,101,108,108])
theorem N5(s:Nat)(b:Nat):∀ts:List (List Nat),(∀t∈ts,t.length<=b)->k_ [s] ts<=ts.length*(b+1)/\(glue [s] ts).length<=ts.length*(b+1):=by
 intro ts
 induction ts with
 |nil=>intro _;exact⟨by simp[k_],by simp[glue]⟩|cons t ts ih=>
  intro h;have ht:=h t (Yc ..);obtain⟨i1,i2⟩:=ih λq hq=>h q (Yd _ hq);have e1:k_ [s] (t::ts)=t.length+1+k_ [s] ts:=by simp[k_]
  have e3:(ts.length+1)*(b+1)=ts.length*(b+1)+(b+1):=Nat.succ_mul ..;rw[e1,Ym,e3];refine⟨lD 2 0xa3c1c0a2cc032011001 T1 i1 ht,?_⟩;cases ts with
  |nil=>show t.length<=_;exact lC 1 0xa1c2c001001 T1 ht|cons u ts=>rw[tW,Ye,Ye];show t.length+(1+_)<=_;exact lD 2 0xa3c1c0ac2c032011001 T1 i2 ht
theorem strs_map:∀ts:List (List Nat),iD (ts.map D.str)=Ya ts
 |[]=>rfl|t::ts=>by show(iD (ts.map D.str)).map _=_;rw[strs_map ts];rfl
variable{s:Nat}
theorem N6{ts:List (List Nat)}(h:M[n]?=Ya (.lst (ts.map D.str)))(hz:k_ [s] ts<=SZ):uR (.str [s]) [.ref n] M= .ok (.str (glue [s] ts)) M:=by simp only[ZmD,h,strs_map,if_pos hz]
variable{x:List Nat}
theorem vh{m:D->List D->Store->R3 D}{o:E3}{M M1 M2:Store}{d r:D}(h1:o env M= .ok (.str x) M)(h2:g env M= .ok d M1)(h3:m (.str x) [d] M1= .ok r M2):aG fL m o (Zb g Ze) env M= .ok r M2:=by simp only[aG,h1,R3.bind,Zw3,if_true,Zb,h2,Ze,h3]
theorem ZoJ{i:Int}(h:i.natAbs<10^60):(gA i).length<=61:=(Zip i h).2.1
theorem Zvv{i:Int}(h:i.natAbs<10^60):i.natAbs.log2<1920:=by
 by_cases z:i.natAbs=0
 .rw[z];decide
 .exact(Nat.log2_lt z).mpr (nT h (by decide +kernel))
noncomputable abbrev vm:List Nat:=[48,49,50,51,52,53,54,55,56,57]
theorem in_str(c:Nat)(y:List Nat)(M:Store):mU (.str [c]) (.str y) M= .ok (.bl (decide (c∈y))) M:=rfl
theorem all_map{p:α->Bool}{l:List α}(h:M[n]?=Ya (.lst (l.map λc=>D.bl (p c)))):tE [.ref n] M= .ok (.bl (l.all p)) M:=by
 have a:∀l:List α,(l.map λc=>D.bl (p c)).all Cj=true/\(l.map λc=>D.bl (p c)).all yS=l.all p:=by
  intro l
  induction l with
  |nil=>exact⟨rfl,rfl⟩|cons x l ih=>exact⟨by simp only[Ys,kj,Cj,ih.1,Bool.and_self],by rw[Ys,kj,kj,ih.2];cases p x<;>rfl⟩
 simp only[Ck,h,allB,(a l).1,(a l).2,if_true]
theorem Zjv{w fs:List Nat}(h1:1<=fs.length)(h2:fs.length<=60)(h3:∀r,fs≠48::r):
  (Zq (aJ (eE (e2 fQ (aC bw (Zb (Za 1) (Ze))) (eC (.int 1))) (e2 cV (aC bw (Zb (Za 1) (Ze))) (su))) (aQ (eC (.bl false))) (aW)) (Zq (aJ (aG fL tG (Za 1) (Zb (eC (.str [48])) (Ze))) (aQ (e2 bj (Za 0) (eC (.str [48])))) (aW)) (aQ (aC tE (Zb (fU (bW (Za 1)) 1 (bB 2) [] (e2 mU (Za 2) (vJ))) (Ze)))))) [Ya (.str w),Ya (.str fs)] M= .rt (.bl (fs.all λc=>decide (c∈vm))) (M++[.lst (fs.map λc=>D.bl (decide (c∈vm)))]):=by
 have hz:fs.length<=SZ:=Yi h2 (by decide);have ln:(aC bw (Zb (Za 1) (Ze))) [Ya (.str w),Ya (.str fs)] M= .ok (.int fs.length) M:=cj (a:=.str fs) rfl (by simp only[yP,yQ,yR,q_,if_pos hz]);have c1:(eE (e2 fQ (aC bw (Zb (Za 1) (Ze))) (eC (.int 1))) (e2 cV (aC bw (Zb (Za 1) (Ze))) (su))) [Ya (.str w),Ya (.str fs)] M= .ok (.bl false) M:=by rw[ou (M1:=M) (Zh ln rfl (by simp only[nZ];rw[decide_eq_false (by exactλz=>iN [_] [] 2 415002921105 T1 z h1)]))];exact Zh ln (g:=su) (b:=.int 60) rfl (by simp only[jM];rw[decide_eq_false (by exactλz=>iN [_] [] 2 0x63c2b001083c2b91 T1 z h2)])
 have c2:(aG fL tG (Za 1) (Zb (eC (.str [48])) (Ze))) [Ya (.str w),Ya (.str fs)] M= .ok (.bl false) M:=by
  refine vh (d:=.str [48]) rfl rfl ?_;cases fs with
  |nil=>exact absurd h1 (by decide)|cons c r=>
   have q:¬48=c:=λe=>h3 r (by rw[e]);have e:([48]:List Nat).isPrefixOf (c::r)=false:=by show((48==c)&&QH [] r)=false;rw[beq_eq_false_iff_ne.mpr q];rfl
   simp only[G6];rw[if_pos ⟨hz,by decide⟩,e]
 rw[Zi (cW c1),Zi (cW c2)];have hi:(bW (Za 1)) [Ya (.str w),Ya (.str fs)] M= .ok ⟨fs.map (λc=>D.str [c]),Yl⟩ M:=by simp only[bW,Za,Fv,Jz,R3.bind,if_pos hz]
 have lc:=tM (h:=λc=>D.bl (decide (c∈vm))) (own:=1) (i:=2) (elt:=(e2 mU (Za 2) (vJ))) hi (λn z=>nomatch z)
  (λc hc M'=>Zh (a:=.str [c]) (b:=.str vm) rfl rfl (in_str c vm M')) (Yi h2 (by decide))
 exact cZ (cj lc (all_map (Zn _ _ _)))
variable{c:Nat}
theorem Zw7(h:48<=c/\c<=57):c∈vm:=(ZM:c∈vW 48 10↔_).mpr ⟨h.1,J5 h.2⟩
theorem Znc{i:Int}(h:i.natAbs<10^60)(M:Store):rQ [.str (gA i)] M= .ok (.bl true) M:=by
 have go:∀(n:Nat) (w:List Nat),0<n->n<10^60->(jL (aG fL tG (Za 0) (Zb (eC (.str [45])) (Ze))) (dW (Za 0) (dw (eC (.int 1))) (fK)) (Za 0)) [Ya (.str w),Yl] M= .ok (.str (cQ n)) M->rQ [.str w] M= .ok (.bl true) M:=λn w h0 h1 hf=>by
  refine Rt.pure (G:=[.lst ((cQ n).map λc=>D.bl (decide (c∈vm)))]) (env:=[Ya (.str w),Yl]) ?_ rfl;unfold HF;rw[Zi (Zo hf)];refine(Zjv ?_ (Ih 59 n h1) (Zqt n h0)).trans (by rw[h_.mpr λc hc=>decide_eq_true (Zw7 (xx n c hc))]);cases e:cQ n with
  |nil=>exact absurd e (Ig n)|cons _ _=>exact Bh 1 _
 cases i with
 | ofNat n=>
  have e:gA (Int.ofNat n)=cQ n:=NT n;have hp:(jL (aG fL tG (Za 0) (Zb (eC (.str [45])) (Ze))) (dW (Za 0) (dw (eC (.int 1))) (fK)) (Za 0)) [Ya (.str (cQ n)),Yl] M= .ok (.str (cQ n)) M:=by
   rw[Cr (M1:=M)]
   .rfl
   .refine vh (d:=.str [45]) rfl rfl ?_;have hl:=Ih 59 n h;have e:([45]:List Nat).isPrefixOf (cQ n)=false:=by
     cases q:cQ n with
     |nil=>rfl|cons c r=>have qc:=xx n c (by rw[q];exact Yc ..);show((45==c)&&QH [] r)=false;rw[beq_eq_false_iff_ne.mpr (by exactλz=>lA 2 0x60302b0102d2b31 T1 z qc.1)];rfl
    simp only[G6];rw[if_pos ⟨Yi hl (by decide),by decide⟩,e]
  rw[e];by_cases z:n=0
  .subst z;refine Rt.pure (G:=[]) (env:=[Ya (.str (cQ 0)),Yl]) ?_ rfl;rw[jZ];unfold HF;rw[Zi (Zo hp),zQ (by decide)];simp[Zq,aJ,aQ,aW,su]
  .exact go n _ (Ykm z) h hp
 | negSucc n=>
  rw[NZ];have hl:=Ih 59 (n+1) h;refine go (n+1) _ (Nat.succ_pos n) h ?_;rw[Cq (M1:=M)]
  .have e:cutD (45::cQ (n+1)) (Ya 1) Yl=cQ (n+1):=El (45::cQ (n+1)) 1;have hz:(45::cQ (n+1)).length<=SZ:=Yi (pZ hl) (by decide);simp only[dW,Za,dw,fK,eC,R3.bind,Jz,GZ,G4,Ce,Cg,if_pos hz,e]
  .refine vh (d:=.str [45]) rfl rfl ?_;have hz:(45::cQ (n+1)).length<=SZ:=Yi (pZ hl) (by decide);simp only[G6];rw[if_pos ⟨hz,by decide⟩];rfl
theorem ZmJ(h1:1<=x.length)(h2:x.length<=60)(h3:∀c∈x,97<=c)(M:Store):rQ [.str x] M= .ok (.bl false) M:=by
 have hz:x.length<=SZ:=Yi h2 (by decide);obtain⟨c,r,rfl⟩:∃c r,x=c::r:=by
  cases x with
  |nil=>exact absurd h1 (by decide)|cons c r=>exact⟨c,r,rfl⟩
 have hc:97<=c:=h3 c Yc;have hp:(jL (aG fL tG (Za 0) (Zb (eC (.str [45])) (Ze))) (dW (Za 0) (dw (eC (.int 1))) (fK)) (Za 0)) [Ya (.str (c::r)),Yl] M= .ok (.str (c::r)) M:=by
  rw[Cr (M1:=M)]
  .rfl
  .refine vh (d:=.str [45]) rfl rfl ?_;have e:([45]:List Nat).isPrefixOf (c::r)=false:=by
    show((45==c)&&QH [] r)=false;rw[beq_eq_false_iff_ne.mpr (by exactλz=>lA 2 0x60612b0102d2b31 T1 z hc)];rfl
   simp only[G6];rw[if_pos ⟨hz,by decide⟩,e]
 refine Rt.pure (G:=[.lst ((c::r).map λc=>D.bl (decide (c∈vm)))]) (env:=[Ya (.str (c::r)),Yl]) ?_ rfl;unfold HF;rw[Zi (Zo hp)];refine(Zjv h1 h2 (λq e=>by have:=(jc e).1;exact lA 2 0x60612b01302b021 T1 this hc)).trans ?_;have hn:decide (c∈vm)=false:=decide_eq_false λz=>by simp only[Yo,qL,or_false]at z;omega
 rw[kj,hn,Rp]
inductive Sm where
 |num (i:Int)|d7 (x:List Nat)|ju (a:Sm)|two (o:Nat) (a b:Sm)
noncomputable abbrev oO:List Nat:=[99,101,108,108]
noncomputable def xF:Nat->List Nat
 |0=>[97,100,100]|1=>[115,117,98]|_=>[109,111,114,101]
noncomputable def Sm.flat:Sm->List D
 | .num i=>[.int i]|.d7 x=>[.str x]|.ju a=>.str oO::a.flat|.two o a b=>.str (xF o)::(a.flat++b.flat)
noncomputable def Sm.good:Sm->Prop
 | .num _=>True|.d7 x=>pI x=false|.ju a=>a.good|.two _ a b=>a.good/\b.good
noncomputable def Sm.all(Q:List Nat->Prop):Sm->Prop
 | .num _=>True|.d7 x=>Q x|.ju a=>a.all Q|.two _ a b=>a.all Q/\b.all Q
noncomputable def Sm.parts:Sm->List Sm
 | .num _=>[]|.d7 _=>[]|.ju a=>[a]|.two _ a b=>[a,b]
noncomputable def Sm.head:Sm->D
 | .num i=>.int i|.d7 x=>.str x|.ju _=>.str oO|.two o _ _=>.str (xF o)
theorem Sm.Jf(t:Sm):t.flat=t.head::(t.parts.map Sm.flat).flatten:=by cases t<;>simp[Sm.flat,Sm.head,Sm.parts]
noncomputable def ar:D->Nat
 | .str x=>if x=oO then 1 else if pI x=true then 2 else 0|_=>0
inductive mj:D->Prop
 |int (i:Int):mj (.int i)
 |str (x:List Nat):mj (.str x)
theorem Em:∀(t:Sm),∀d∈t.flat,mj d
 | .num i,d,h=>by rw[Yx.mp h];exact .int i|.d7 x,d,h=>by rw[Yx.mp h];exact .str x|.ju a,d,h=>by
  rcases Yo.mp h with h|h
  .rw[h];exact .str _
  .exact Em a d h
 | .two o a b,d,h=>by
  rcases Yo.mp h with h|h
  .rw[h];exact .str _
  .rcases eY.mp h with h|h
   .exact Em a d h
   .exact Em b d h
theorem Zru(x:List Nat):dh x pH=if x=[97,100,100]then Ya 2 else if x=[115,117,98]then Ya 2 else if x=[109,111,114,101]then Ya 2 else if x=oO then Ya 1 else Yl:=rfl
variable{w:D}
theorem Zwm(h:mj w)(M:Store):uU pH w (.int 0) M= .ok (.int (ar w:Nat)) M:=by
 cases h with
 |int i=>rfl|str x=>
  show(match dh x pH with|some i=>R3.ok (D.int i) M|none=>R3.ok (D.int 0) M)=_;rw[Zru];by_cases h1:x=[97,100,100]
  .subst h1;rfl
  by_cases h2:x=[115,117,98]
  .subst h2;rfl
  by_cases h3:x=[109,111,114,101]
  .subst h3;rfl
  by_cases h4:x=oO
  .subst h4;rfl
  have:pI x=false:=decide_eq_false λz=>z.elim h1 λz=>z.elim h2 λz=>z.elim h3 h4;simp only[if_neg h1,if_neg h2,if_neg h3,if_neg h4,ar,this];rfl
noncomputable def stp(s:List (List D)×Nat)(w:D):List (List D)×Nat:=
 let s:=if s.2=0 then(s.1++[[]],1)else s
 (s.1.dropLast++[s.1.getLastD []++[w]],s.2-1+ar w)
theorem Eo(ds:List (List D))(cur:List D)(l:Nat)(w:D):stp (ds++[cur],l+1) w=(ds++[cur++[w]],l+ar w):=by simp[stp]
theorem ZpQ(ds:List (List D))(w:D):stp (ds,0) w=stp (ds++[[]],0+1) w:=by simp[stp]
theorem N7:∀(t:Sm),t.good->∀(ds:List (List D)) (cur:List D) (l:Nat) (r:List D),(t.flat++r).foldl stp (ds++[cur],l+1)=r.foldl stp (ds++[cur++t.flat],l)
 | .num i,_,ds,cur,l,r=>by simp only[Sm.flat,pW,jh,jD,Eo];rfl|.d7 x,h,ds,cur,l,r=>by
  have e:ar (.str x)=0:=by
   have h:pI x=false:=h;have h':x≠oO:=λz=>by subst z;exact absurd h (by decide)
   simp only[ar,if_neg h',h];rfl
  simp only[Sm.flat,pW,jh,jD,Eo,e,J9]
 | .ju a,h,ds,cur,l,r=>by have e:ar (.str oO)=1:=rfl;simp only[Sm.flat,pW,jD,Eo,e,N7 a h,gG,jh]|.two o a b,h,ds,cur,l,r=>by
  have e:ar (.str (xF o))=2:=by
   match o with
   |0=>rfl|1=>rfl|_+2=>rfl
  have e2:l+2=l+1+1:=rfl;simp only[Sm.flat,pW,jD,Eo,e,gG,e2,N7 a h.1,N7 b h.2,jh]
theorem Wf(t:Sm):∃w r,t.flat=w::r:=⟨_,_,t.Jf⟩
theorem Zs9(t:Sm)(h:t.good)(ds:List (List D))(r:List D):(t.flat++r).foldl stp (ds,0)=r.foldl stp (ds++[t.flat],0):=by obtain⟨w,q,e⟩:=Wf t;have h1:=N7 t h ds [] 0 r;rw[jh]at h1;rw[←h1,e,pW,jD,jD,ZpQ]
theorem ZpI:∀(ts:List Sm),(∀t∈ts,t.good)->∀ds,(ts.map Sm.flat).flatten.foldl stp (ds,0)=(ds++ts.map Sm.flat,0)
 |[],_,ds=>by simp|t::ts,h,ds=>by rw[Ys,kh,Zs9 t (h t Yc),ZpI ts λt ht=>h t (Yd _ ht)];simp
noncomputable def nC(n j:Nat):List D:=(iw j).map λk=>D.ref (n+1+k)
noncomputable def d8(M:Store)(done:List (List D)):Store:=M++ .lst (nC M.length done.length)::done.map MO.lst
theorem Zo5(M:Store)(done:List (List D)):(d8 M done).length=M.length+1+done.length:=by simp only[d8,Ye,Ym,Yu];exact Y0 (lB 0 1790139547840 T1) (lB 0 0xa1c0c1a0cc0 T1)
theorem Ii(M:Store)(done:List (List D)):(d8 M done)[M.length]?=Ya (.lst (nC M.length done.length)):=Zn _ _ _
theorem ZrY(M:Store)(done:List (List D))(k:Nat):(d8 M done)[M.length+1+k]?=(done[k]?).map MO.lst:=by rw[d8,qP,rC,mC 1 k,Fv,lH]
theorem Zj9(n j:Nat):nC n (j+1)=nC n j++[D.ref (n+1+j)]:=by simp[nC,List.range_succ]
theorem Zus(M:Store)(done:List (List D)):(d8 M done++[MO.lst []]).set M.length (MO.lst (nC M.length done.length++[D.ref (d8 M done).length]))=d8 M (done++[[]]):=by have h:=Hf M (MO.lst (nC M.length done.length)::done.map MO.lst++[MO.lst []]) 0 (MO.lst (nC M.length done.length++[D.ref (d8 M done).length]));rw[J9]at h;rw[Zo5]at h ⊢;rw[d8,gG,h,d8,Ye,iJ,Zj9];simp
theorem ZsZ(M:Store)(ds:List (List D))(cur:List D)(w:D):(d8 M (ds++[cur])).set (M.length+1+ds.length) (MO.lst (cur++[w]))=d8 M (ds++[cur++[w]]):=by rw[d8,qP,Hf,d8];simp[mC 1]
theorem ZkL{α:Type}{enc h:α->D}{it:fZ}{g:G3}{n:Nat}{elt:E3}{I:bJ->Prop}{M:Store}:∀(as:List α) (acc:List D) (env:bJ),I env ->
  (∀a∈as,∀env,I env->∃dJ,g (enc a) env=Ya dJ/\I dJ/\∀x,elt dJ (M.set n (.lst x))= .ok (h a) (M.set n (.lst x)))->(∀x,locked it (M.set n (.lst x))=true)->n<M.length->acc.length+as.length<=SZ ->
  jd it g [] elt n (as.map enc) env (M.set n (.lst acc))= .ok (.ref n) (M.set n (.lst (acc++as.map h)))
 |[],acc,env,_,_,hl,_,_=>by simp only[uq,Ue,hl,if_true,jZ]|a::as,acc,env,hI,hf,hl,hn,hz=>by
  obtain⟨dJ,hg,hI1,he⟩:=hf a Yc env hI;have gt:(M.set n (.lst acc))[n]?=Ya (.lst acc):=by simp[hn]
  have lt:acc.length<SZ:=by simp only[Ym]at hz;exact lC 1 2204024704001 T1 hz
  have ih:=ZkL as (acc++[h a]) dJ hI1 (λb hb=>hf b (Yd _ hb)) hl hn (by simp only[Ye,Ym,Fz]at hz ⊢;exact lC 1 0x21aec0cc02a1c0c01 T1 hz);simp only[Ys,LK,hl,if_true,hg,G8,G9,R3.bind,he,gt,lt,vV];rw[ih];simp
theorem Wg{enc h:α->D}{own:Nat}{i:I3}{g:G3}{elt:E3}{M M1:Store}{lock:Option Nat}{as:List α}(I:bJ->Prop)(hi:i env M= .ok ⟨as.map enc,lock⟩ M1)(Qa:∀n,lock=Ya n->M1[n]?=Ya (.lst (as.map enc)))(hI:I (env++Yr own Yl))(hf:∀a∈as,∀env,I env->∃dJ,g (enc a) env=Ya dJ/\I dJ/\∀x,elt dJ (M1++[.lst x])= .ok (h a) (M1++[.lst x]))(hz:as.length<=100000):
  fU i own g [] elt env M= .ok (.ref M1.length) (M1++[.lst (as.map h)]):=by
 have st:∀x:List D,(M1++[MO.lst []]).set M1.length (.lst x)=M1++[.lst x]:=λx=>by simp
 rw [Ug hi];have:=ZkL (enc:=enc) (h:=h) (it:=⟨as.map enc,lock⟩) (g:=g) (n:=M1.length) (elt:=elt) (I:=I) (M:=M1++[.lst []]) as [] (env++Yr own Yl) hI
  (λa ha e he=>by obtain⟨e1,h1,h2,h3⟩:=hf a ha e he;exact⟨e1,h1,h2,λx=>by rw[st];exact h3 x⟩)
  (λx=>by
   rw[st];cases lock with
   |none=>rfl|some n=>simp only[locked,decide_eq_true_eq];exact bK (Qa n rfl) _) (by simp) (by simp;exact lA 1 0xf42405b00186a05b001 T1 hz)
 rw[st,st]at this;simpa using this
theorem Zod{x:List D}(h:M[n]?=Ya (.lst x)):gh [.ref n] M= .ok (.tup x) M:=by simp[h]
noncomputable abbrev Wh:S3:=Zq (aJ (e2 bj (Za 2) (eC (.int 0))) (Zq (aV (aG bx cg (Za 1) (Zb (aX (Ze)) (Ze)))) (aA 2 (eC (.int 1)))) (aW)) (Zq (aV (aG bx cg (e2 Zm (Za 1) (e1 cH (eC (.int 1)))) (Zb (Za 3) (Ze)))) (aA 2 (e2 aM (e2 iB (Za 2) (eC (.int 1))) (e2 (uU pH) (Za 3) (eC (.int 0))))))
theorem ZpX(n j:Nat):(nC n j).length=j:=by simp[nC]
theorem nD{M M' M2:Store}{d:D}{o t:E3}(ho:o env M= .ok (.ref n) M')(hM:M'[n]?=Ya (.lst xs))(ht:t env M'= .ok d M2)(hM':M2[n]?=Ya (.lst xs))(hl:xs.length<SZ):
  aV (aG bx cg o (Zb t (Ze))) env M= .nx env (M2.set n (.lst (xs++[d]))):=by
 have e:aG bx cg o (Zb t (Ze)) env M= .ok .non (M2.set n (.lst (xs++[d]))):=by simp only[aG,ho,R3.bind,yU,hM,Zb,ht,Ze,T_,hM',if_pos hl,if_true]
 rw[aV,e]
theorem ZmX(M:Store)(ds:List (List D))(cur:List D)(l:Nat)(w W:D)(hw:mj w)(h1:ds.length<1000)(h2:cur.length<1000):
  (Zq (aV (aG bx cg (e2 Zm (Za 1) (e1 cH (eC (.int 1)))) (Zb (Za 3) (Ze)))) (aA 2 (e2 aM (e2 iB (Za 2) (eC (.int 1))) (e2 (uU pH) (Za 3) (eC (.int 0)))))) [Ya W,Ya (.ref M.length),Ya (.int ((l+1:Nat):Int)),Ya w] (d8 M (ds++[cur]))
   = .nx [Ya W,Ya (.ref M.length),Ya (.int ((l+ar w:Nat):Int)),Ya w] (d8 M (ds++[cur++[w]])):=by
 have hr:nC M.length (ds++[cur]).length=nC M.length ds.length++[.ref (M.length+1+ds.length)]:=by rw[Ye,iJ,Zj9]
 have hat:(d8 M (ds++[cur]))[M.length+1+ds.length]?=Ya (.lst cur):=by rw[ZrY];simp
 refine(Zi (nD (M':=d8 M (ds++[cur])) (Zh rfl (dF rfl (yL 1)) (iC (Ii M _) (by rw[hr];exact getD_last _ _))) hat rfl hat (nT h2 (by decide)))).trans ?_;rw[ZsZ];refine Zo (Zh (Zh rfl rfl rfl) (Zh rfl rfl (Zwm hw _)) ?_);rw[uP];congr 2;exact qQ (iN [_,_] [] 0 4723607885090760 T1) (iN [_,_] [] 0 6942370369178760 T1)
theorem Zp2(M:Store)(done:List (List D))(l:Nat)(w W:D)(hw:mj w)(h1:done.length<900)(h2:∀c∈done,c.length<900)(hn:l≠0->done≠[]):
  Wh [Ya W,Ya (.ref M.length),Ya (.int (l:Int)),Ya w] (d8 M done)= .nx [Ya W,Ya (.ref M.length),Ya (.int ((stp (done,l) w).2:Nat)),Ya w] (d8 M (stp (done,l) w).1):=by
 cases l with
 |zero=>
  rw[ZpQ,Eo];have hz:(nC M.length done.length).length<SZ:=by rw[ZpX];exact nT h1 (by decide)
  show Zq _ _ _ _=_;refine(Zi ((fV (Zh rfl rfl (wM rfl))).trans ((Zi (Wd rfl (Ii M done) (di rfl rfl) (bK (Ii M done) _) hz)).trans (Zo (d:=.int 1) rfl)))).trans ?_;rw[Zus];exact ZmX M done [] 0 w W hw (lA 1 0x3e83b013843b011 T1 h1) (by simp)
 |succ l=>have hd:=hn (λz=>lA 1 116001825 T1 z);have e:done=done.dropLast++[done.getLast hd]:=(List.dropLast_concat_getLast hd).symm;generalize done.dropLast=ds at e;generalize done.getLast hd=cur at e;subst e;rw[Eo];show Zq _ _ _ _=_;refine(Zi (cW (Zh rfl rfl (Cp (λz=>iN [_] [] 1 1856030881 T1 z))))).trans ?_;exact ZmX M ds cur l w W hw (by simp at h1;exact lA 1 0x3e83b013843ba0c11 T1 h1) (by have:=h2 cur (by simp);exact lA 1 0x3e83b013843b011 T1 this)
theorem ZoV(s:List (List D)×Nat)(w:D):(stp s w).1.length<=s.1.length+1/\(stp s w).1≠[]:=by
 unfold stp;by_cases h:s.2=0
 .simp[h]
 .simp[h]
theorem Zt1(s:List (List D)×Nat)(w:D)(k:Nat)(h:∀c∈s.1,c.length<=k):∀c∈(stp s w).1,c.length<=k+1:=by
 have key:∀x:List (List D),(∀c∈x,c.length<=k)->∀c∈x.dropLast++[x.getLastD []++[w]],c.length<=k+1:=by
  intro x hx c hc;rcases eY.mp hc with hc|hc
  .exact sS (hx c (List.dropLast_subset _ hc))
  .rw[Yx.mp hc,Ye,iJ];refine pZ ?_;cases x with
   |nil=>exact eZ _|cons a x=>exact hx _ (by rw[List.getLastD_cons];exact(show(x.getLastD a)∈a::x by rw[List.getLastD_eq_getLast?];cases hx':x.getLast? with|none=>simp|some y=>exact Yd _ (List.mem_of_getLast? hx')))
 unfold stp;by_cases hs:s.2=0
 .simp only[hs,if_true];exact key _ λc hc=>by
   rcases eY.mp hc with hc|hc
   .exact h c hc
   .rw[Yx.mp hc];exact eZ _
 .simp only[hs,if_false];exact key _ h
theorem ZpV(M:Store)(W:D)(ws:List D)(hw:∀w∈ws,mj w)(hl:ws.length<=500)(x0:Option D)(it:fZ)(hi:∀done,locked it (d8 M done)=true):
  ∃x,dB it (bB 3) Wh ws [Ya W,Ya (.ref M.length),Ya (.int 0),x0] (d8 M [])= .nx [Ya W,Ya (.ref M.length),Ya (.int ((ws.foldl stp ([],0)).2:Nat)),x] (d8 M (ws.foldl stp ([],0)).1):=by
 have main:∀(ws:List D) (done:List (List D)) (l k:Nat) (x0:Option D),(∀w∈ws,mj w)->k+ws.length<=500->done.length<=k->(∀c∈done,c.length<=k)->(l≠0->done≠[]) ->
   ∃x,dB it (bB 3) Wh ws [Ya W,Ya (.ref M.length),Ya (.int (l:Int)),x0] (d8 M done)= .nx [Ya W,Ya (.ref M.length),Ya (.int ((ws.foldl stp (done,l)).2:Nat)),x] (d8 M (ws.foldl stp (done,l)).1):=by
  intro ws
  induction ws with
  |nil=>intro done l k x0 _ _ _ _ _;exact⟨x0,by rw[qi,if_pos (hi _)];rfl⟩|cons w ws ih=>intro done l k x0 hw hk h1 h2 hn;rw[Ym]at hk;obtain⟨x,hx⟩:=ih (stp (done,l) w).1 (stp (done,l) w).2 (k+1) (Ya w) (λy hy=>hw y (Yd _ hy)) (lB 1 0x1f43b1a0cc01f43ba1c0c01 T1 hk) (by have:=(ZoV (done,l) w).1;simp only at this;exact lC 2 0xa2c002101a1c001 T1 this h1) (Zt1 (done,l) w k h2) (λ_=>(ZoV (done,l) w).2);refine⟨x,?_⟩;rw[pq,if_pos (hi _)];have:=Zp2 M done l w W (hw w Yc) (lC 2 0x3843b011f43ba2c1c011001 T1 h1 hk) (λc hc=>by have:=h2 c hc;exact lC 2 0x3843b011f43ba2c1c011001 T1 this hk) hn;simp only[bB,lz,lG,this];exact hx
 exact main ws [] 0 0 x0 hw (lA 1 0x1f43b0ec01f43b001 T1 hl) (eZ _) (λc hc=>by cases hc) (λh=>absurd rfl h)
theorem ZiG(M:Store)(ts:List Sm)(hg:∀t∈ts,t.good)(hl:(ts.map Sm.flat).flatten.length<=500){W:D}{it:fZ}(hit:it.items=(ts.map Sm.flat).flatten)(hi:∀done,locked it (d8 M done)=true)(hv:bW (Za 0) [Ya W,Ya (.ref M.length),Ya (.int 0),Yl] (d8 M [])= .ok it (d8 M [])):∃G k,xj [W] M= .ok (.ref (M.length+k)) (M++G)/\G[k]?=Ya (.lst (ts.map λt=>.tup t.flat)):=by
 have hws:∀w∈(ts.map Sm.flat).flatten,mj w:=λw hw=>by obtain⟨l,h1,h2⟩:=QD.mp hw;obtain⟨t,_,rfl⟩:=dN.mp h1;exact Em t w h2
 obtain⟨x,hx⟩:=ZpV M W _ hws hl Yl it hi;rw[ZpI ts hg]at hx;simp only[jh]at hx;have hn:(ts.map Sm.flat).length<=100000:=by
  have:∀l:List Sm,(l.map Sm.flat).length<=(l.map Sm.flat).flatten.length:=by
   intro l
   induction l with
   |nil=>exact Yt _|cons t l ih=>rw[Ys,kh,Ye,Ym];obtain⟨w,r,e⟩:=Wf t;rw[e,Ym];exact lC 1 460474730680321 T1 ih
  have:=this ts;exact lB 2 0x186a05b001f43b1011001 T1 this hl
 let S:=d8 M (ts.map Sm.flat)
 have lc:fU (bW (Za 1)) 1 (bB 4) [] (aC gh (Zb (Za 4) (Ze))) [Ya W,Ya (.ref M.length),Ya (.int ((0:Nat):Int)),x] S= .ok (.ref S.length) (S++[.lst ((iw (ts.map Sm.flat).length).map λk=>D.tup ((ts.map Sm.flat).getD k []))]):=by
  refine Wg (enc:=λk=>D.ref (M.length+1+k)) (h:=λk=>D.tup ((ts.map Sm.flat).getD k [])) (as:=iw (ts.map Sm.flat).length) (M1:=S) (lock:=Ya M.length) (λe=>∃a b c d y,e=[a,b,c,d,y]) ?_ ?_ ⟨_,_,_,_,_,rfl⟩ ?_ (by rw[JF];exact hn)
  .show(R3.ok (D.ref M.length) S).bind _=_;simp only[R3.bind];rw[show S[M.length]?=_ from Ii M _];rfl
  .intro n hn';cases hn';exact Ii M _
  .intro k hk env ⟨a,b,c,d,y,e⟩;subst e;have hk:=JG.mp hk;refine⟨_,rfl,⟨_,_,_,_,_,rfl⟩,λz=>?_⟩;refine cj rfl ?_;refine(Zod (x:=(ts.map Sm.flat).getD k []) (bK ?_ _));rw[ZrY,Y3 hk,Ft,Y3 hk];rfl
 have hlist:((iw (ts.map Sm.flat).length).map λk=>D.tup ((ts.map Sm.flat).getD k []))=ts.map λt=>D.tup t.flat:=by
  apply x_;intro j;rw[lH,lH];by_cases hj:j<ts.length
  .rw[List.getElem?_range (by simpa using hj),Y3 hj];simp[Ft,lH,Y3 hj]
  .rw[JC (by simpa using hj),JC (by simpa using hj)];rfl
 rw[hlist]at lc;have hS:S=M++(.lst (nC M.length (ts.map Sm.flat).length)::(ts.map Sm.flat).map MO.lst):=rfl;refine⟨(.lst (nC M.length (ts.map Sm.flat).length)::(ts.map Sm.flat).map MO.lst)++[.lst (ts.map λt=>.tup t.flat)],1+(ts.map Sm.flat).length,?_,?_⟩
 .have hlen:S.length=M.length+(1+(ts.map Sm.flat).length):=by rw[Zo5,qP]
  refine(jN (M':=S++[.lst (ts.map λt=>.tup t.flat)]) (d:=.ref S.length) (env:=[Ya W,Yl,Yl,Yl]) ?_).trans ?_
  .unfold Vy;rw[Zi (Zo (d:=.ref M.length) (M':=d8 M []) (di rfl rfl)),Zi (Zo (d:=.int 0) rfl),Zi ((rA (it:=it) hv).trans (by rw[hit];exact hx))];exact cZ ((Cq (Zh rfl rfl (wM rfl))).trans lc)
  .have hb:below M.length (.ref S.length)=false:=by show decide (S.length<M.length)=false;rw[hlen];exact decide_eq_false (λz=>lB 1 25797856273 T1 z)
   rw[eG,hb,hlen,hS,gG];rfl
 .simp[mC 1]
theorem Zow(M:Store)(ts:List Sm)(hg:∀t∈ts,t.good)(hl:(ts.map Sm.flat).flatten.length<=500):∃G k,xj [.tup (ts.map Sm.flat).flatten] M= .ok (.ref (M.length+k)) (M++G)/\G[k]?=Ya (.lst (ts.map λt=>.tup t.flat)):=ZiG M ts hg hl (it:=⟨(ts.map Sm.flat).flatten,Yl⟩) rfl (λ_=>rfl) rfl
theorem Zm8(M:Store)(ts:List Sm)(hg:∀t∈ts,t.good)(hl:(ts.map Sm.flat).flatten.length<=500)(hn:M[n]?=Ya (.lst (ts.map Sm.flat).flatten)):∃G k,xj [.ref n] M= .ok (.ref (M.length+k)) (M++G)/\G[k]?=Ya (.lst (ts.map λt=>.tup t.flat)):=by have hS:∀done,(d8 M done)[n]?=Ya (.lst (ts.map Sm.flat).flatten):=λdone=>bK hn _;refine ZiG M ts hg hl (it:=⟨(ts.map Sm.flat).flatten,Ya n⟩) rfl (λdone=>decide_eq_true (hS done)) ?_;show(R3.ok (D.ref n) (d8 M [])).bind _=_;simp only[R3.bind];rw[hS []]
theorem ZsD(M:Store)(t:Sm)(hg:t.good)(hl:t.flat.length<=500):∃G k,Nh [.tup t.flat] M= .ok (.ref (M.length+k)) (M++G)/\G[k]?=Ya (.lst (t.parts.map λt=>.tup t.flat)):=by
 have hgp:∀s∈t.parts,s.good:=by
  cases t with
  |num _=>intro s h;cases h|d7 _=>intro s h;cases h|ju a=>intro s h;rw[Yx.mp h];exact hg|two o a b=>
   intro s h;rcases Yo.mp h with h|h
   .rw[h];exact hg.1
   .rw[Yx.mp h];exact hg.2
 have e:=t.Jf;have hl':(t.parts.map Sm.flat).flatten.length<=500:=by rw[e,Ym]at hl;exact lA 1 0x1f43b001f43ba0c01 T1 hl
 obtain⟨G,k,h1,h2⟩:=Zow M t.parts hgp hl';refine⟨G,k,?_,h2⟩;refine(jN (M':=M++G) (d:=.ref (M.length+k)) (env:=[Ya (.tup t.flat)]) ?_).trans ?_
 .unfold Vz;refine cZ (dD (M1:=M) (a:=.tup (t.parts.map Sm.flat).flatten) ?_ h1);show R3.ok (D.tup (cutD t.flat (Ya ((1:Nat):Int)) Yl)) M=_;rw[El,e];rfl
 .have hb:below M.length (.ref (M.length+k))=false:=decide_eq_false (λz=>lB 1 100731921 T1 z);rw[eG,hb];rfl
noncomputable def Sm.dp:Sm->Nat
 | .num _=>1|.d7 _=>1|.ju a=>a.dp|.two _ a b=>max a.dp (b.dp+1)
noncomputable def nF:Nat->List Sm->List Int
 |_,[]=>[]|k,t::r=>((t.dp+k:Nat):Int)::nF (k+1) r
theorem Ij{lk:List (Nat×List D)}(h:jO lk M=true)(G:Store):jO lk (M++G)=true:=by simp only[jO,h_,decide_eq_true_eq]at h ⊢;exactλq hq=>bK (h q hq) G
theorem Wi{F:F3}{M:Store}{lk:List (Nat×List D)}(hlk:jO lk M=true){i j:Nat}(I:bJ->Prop)(hI:∀env,I env->∀a b:D,I ((env.set i (Ya a)).set j (Ya b))/\∀M:Store,Za j ((env.set i (Ya a)).set j (Ya b)) M= .ok b M/\Za i ((env.set i (Ya a)).set j (Ya b)) M= .ok a M):
  ∀(ts:List Sm) (k:Nat) (acc:List D) (env:bJ),I env->(∀t∈ts,∀M,F [.tup t.flat] M= .ok (.int (t.dp:Int)) M)->acc.length+ts.length<=1000 ->
  jP lk (ph [i,j]) [] (e2 aM (Zz F (Zb (Za j) (Ze))) (Za i)) M.length (mY k (ts.map λt=>D.tup t.flat)) env (M++[.lst acc])= .ok (.ref M.length) (M++[.lst (acc++(nF k ts).map D.int)])
 |[],k,acc,env,_,_,_=>by show jP _ _ _ _ _ [] _ _=_;simp only[jP,Ij hlk,if_true,nF,uq,jZ]|t::ts,k,acc,env,hE,hF,hl=>by
  rw[Ym]at hl;obtain⟨hE',hv⟩:=hI env hE (.int (k:Int)) (.tup t.flat);have ih:=Wi hlk I hI ts (k+1) (acc++[.int ((t.dp+k:Nat):Int)]) _ hE' (λt ht=>hF t (Yd _ ht)) (by simp;exact lB 1 0x3e83b1a0cc03e83ba1c0c01 T1 hl);have he:e2 aM (Zz F (Zb (Za j) (Ze))) (Za i) ((env.set i (Ya (.int (k:Int)))).set j (Ya (.tup t.flat))) (M++[.lst acc])= .ok (.int ((t.dp+k:Nat):Int)) (M++[.lst acc]):=by refine Zh (dD (hv _).1 (hF t Yc _)) (hv _).2 ?_;rw[uP];rfl
  have gt:(M++[MO.lst acc])[M.length]?=Ya (.lst acc):=Zn _ _ _;have lt:acc.length<SZ:=sO (show acc.length<=1000 by exact lB 1 0x3e83b003e83ba1c0c01 T1 hl) (by decide);have st:(M++[MO.lst acc]).set M.length (.lst (acc++[.int ((t.dp+k:Nat):Int)]))=M++[.lst (acc++[.int ((t.dp+k:Nat):Int)])]:=by simpa using Hf M [.lst acc] 0 _
  show jP _ _ _ _ _ (.tup [.int (k:Int),.tup t.flat]::mY (k+1) (ts.map λt=>D.tup t.flat)) _ _=_;simp only[jP,Ij hlk,if_true,ph,LC,Lz,G8,R3.bind,he,gt,lt,st];rw[ih];simp[nF]
theorem Zrf(t:Sm):w6 1 (nF 0 t.parts)=(t.dp:Int):=by
 cases t with
 |num _=>rfl|d7 _=>rfl|ju a=>rfl|two o a b=>show(if((b.dp+(0+1):Nat):Int)>((a.dp+0:Nat):Int)then((b.dp+(0+1):Nat):Int)else((a.dp+0:Nat):Int))=((max a.dp (b.dp+1):Nat):Int);split <;>omega
theorem ZsI{t s:Sm}(h:s∈t.parts):s.flat.length<t.flat.length:=by
 have e:=t.Jf;have:s.flat.length<=(t.parts.map Sm.flat).flatten.length:=by
  cases t with
  |num _=>cases h|d7 _=>cases h|ju a=>rw[Yx.mp h];simp[Sm.parts]|two o a b=>
   rcases Yo.mp h with h|h
   .rw[h];simp[Sm.parts]
   .rw[Yx.mp h];simp[Sm.parts]
 rw[e,Ym];exact lB 1 43419504641 T1 this
theorem Zot{t:Sm}(hg:t.good):∀s∈t.parts,s.good:=by
 cases t with
 |num _=>intro s h;cases h|d7 _=>intro s h;cases h|ju a=>intro s h;rw[Yx.mp h];exact hg|two o a b=>
  intro s h;rcases Yo.mp h with h|h
  .rw[h];exact hg.1
  .rw[Yx.mp h];exact hg.2
theorem ZrG(t:Sm):t.parts.length<=2:=by cases t<;>simp[Sm.parts]
theorem ZkX:∀(n:Nat) (t:Sm),t.good->t.flat.length<=n->n<=500->∀M:Store,zB n [.tup t.flat] M= .ok (.int (t.dp:Int)) M
 |0,t,_,hl,_,M=>by rw[t.Jf,Ym]at hl;exact(lA 1 116001793 T1 hl).elim|n+1,t,hg,hl,hn,M=>by
  have hlp:=ZrG t;have ih:∀s∈t.parts,∀M,zB n [.tup s.flat] M= .ok (.int (s.dp:Int)) M:=λs hs=>ZkX n s (Zot hg s hs) (by have:=ZsI hs;exact lC 2 563648976195601 T1 this hl) (lA 1 0x1f43b001f43ba0c01 T1 hn);obtain⟨G,k,h1,h2⟩:=ZsD M t hg (Yi hl hn);have h3:(M++G)[M.length+k]?=Ya (.lst (t.parts.map λt=>.tup t.flat)):=by rw[rC];exact h2
  refine Rt.pure (env:=[Ya (.tup t.flat),Yl]) (G:=G++[.lst ((nF 0 t.parts).map D.int)]) ?_ rfl;unfold VB;refine(Zi (Zo (dD rfl h1))).trans ?_;have lk:jO [(M.length+k,t.parts.map λt=>D.tup t.flat)] (M++G)=true:=by simp only[jO,kj,QJ,Kd];exact decide_eq_true h3
  have lp:=Wi (F:=zB n) lk (i:=2) (j:=3) (λe=>∃a b c d,e=[a,b,c,d]) (λenv ⟨a,b,c,d,e⟩ x y=>by subst e;exact⟨⟨_,_,_,_,rfl⟩,λM=>⟨rfl,rfl⟩⟩) t.parts 0 [] [Ya (.tup t.flat),Ya (.ref (M.length+k)),Yl,Yl] ⟨_,_,_,_,rfl⟩ ih (by simp;exact lA 1 0x3e83b0021b001 T1 hlp);rw[jh]at lp;rw[←gG];refine cZ (cj (M1:=M++G++[.lst ((nF 0 t.parts).map D.int)]) (a:=.ref (M++G).length) ?_ ?_)
  .show(R3.bind (R3.bind (R3.ok (D.ref (M.length+k)) (M++G)) _) _)=_;simp only[R3.bind,h3];exact lp
  .rw[Znu (Zn _ _ []),Zrf]
theorem Zsn{t:Sm}(hg:t.good)(hl:t.flat.length<=61)(M:Store):HN [.tup t.flat] M= .ok (.int (t.dp:Int)) M:=by have key:∀n,t.flat.length<=n->n<=500->∀M,zB n [.tup t.flat] M= .ok (.int (t.dp:Int)) M:=λn h1 h2=>ZkX n t hg h1 h2;exact key 61 hl (by decide) M
noncomputable abbrev LET:List Nat:=[97,98,99,100,101,102,103,104,105,106,107,108,109,110,111,112,113,114,115,116,117,118,119,120,121,122]
class jw where
 nms:List (List Nat)
structure ZoX(x:List Nat):Prop where
 pos:1<=x.length
 le:x.length<=8
 own:x∉Zx
 low:∀c∈x,97<=c/\c<=122
variable [jw]
structure fO(x:List Nat):Prop where
 pos:1<=x.length
 le:x.length<=8
 own:x∉Zx
 low:∀c∈x,97<=c/\c<=122
 inn:x∈jw.nms
theorem Zv4(h:97<=c/\c<=122):c∈LET:=(ZM:c∈vW 97 26↔_).mpr ⟨h.1,J5 h.2⟩
theorem in_words(x:List Nat)(M:Store):mU (.str x) (.tup (Zx.map D.str)) M= .ok (.bl (decide (x∈Zx))) M:=by
 have hf:(cF (.str x)&&(Zx.map D.str).all cF)=true:=rfl;have he:∀l:List (List Nat),(l.map D.str).any (λy=>cY y (.str x))=decide (x∈l):=by
  intro l
  induction l with
  |nil=>rfl|cons y l ih=>
   rw[Ys,lK,ih,TJ];by_cases h:y=x
   .subst h;simp
   .have h':x≠y:=λe=>h e.symm;simp[h,h']
 simp only[mU,ZwK,hf,if_true,he]
variable{i:Nat}
theorem len_str(h:x.length<=1000)(hv:Za i env M= .ok (.str x) M):aC bw (Zb (Za i) (Ze)) env M= .ok (.int (x.length:Int)) M:=cj hv (by simp only[yP,yQ,yR,q_,if_pos (show x.length<=SZ from Yi h (by decide))])
noncomputable def nameB(x:List Nat):Bool:=decide (1<=x.length)&&(decide (x.length<=8)&&(!decide (x∈Zx)&&x.all λc=>decide (c∈LET)))
theorem ZkU(h:x.length<=1000)(M:Store):oH [.str x] M= .ok (.bl (nameB x)) M:=by
 have hz:x.length<=SZ:=Yi h (by decide);have ln:aC bw (Zb (Za 0) (Ze)) [Ya (.str x)] M= .ok (.int (x.length:Int)) M:=len_str h rfl;have no:∀(hb:nameB x=false),eE (e2 fQ (aC bw (Zb (Za 0) (Ze))) (eC (.int 1))) (eE (e2 cV (aC bw (Zb (Za 0) (Ze))) (sy)) (e2 mU (Za 0) (qF))) [Ya (.str x)] M= .ok (.bl true) M->oH [.str x] M= .ok (.bl (nameB x)) M:=λhb hc=>by rw[hb];refine Rt.pure (G:=[]) (env:=[Ya (.str x)]) ?_ rfl;rw[jZ];unfold Ni;exact rn ((fV hc).trans (cZ rfl))
 by_cases h1:x.length<1
 .exact no (by simp[nameB];omega) (Hh (Zh ln rfl (by rw[nZ,decide_eq_true (by exact iN [_] [] 1 2693373969 T1 h1)])))
 have c1:=ou (g:=eE (e2 cV (aC bw (Zb (Za 0) (Ze))) (sy)) (e2 mU (Za 0) (qF))) (Zh (op:=fQ) (g:=eC (.int 1)) ln rfl (by rw[nZ,decide_eq_false (by exactλz=>iN [_] [] 2 455352125585 T1 z h1)]));by_cases h2:8<x.length
 .exact no (by simp[nameB];omega) (c1.trans (Hh (Zh ln (g:=sy) (b:=.int 8) rfl (by rw[jM,decide_eq_true (by exact iN [_] [] 1 9353248119569 T1 h2)]))))
 have c2:=c1.trans (ou (g:=e2 mU (Za 0) (qF)) (Zh (op:=cV) ln (g:=sy) (b:=.int 8) rfl (by rw[jM,decide_eq_false (by exactλz=>iN [_] [] 2 0x6081b510881b91 T1 z h2)])));have c3:e2 mU (Za 0) (qF) [Ya (.str x)] M= .ok (.bl (decide (x∈Zx))) M:=Zh rfl (g:=qF) (b:=.tup (Zx.map D.str)) rfl (in_words x M);by_cases h3:x∈Zx
 .exact no (by simp[nameB,h3]) (c2.trans (c3.trans (by rw[decide_eq_true h3])))
 have hb:nameB x=x.all λc=>decide (c∈LET):=by unfold nameB;rw[decide_eq_true (show 1<=x.length by exact j5 h1),decide_eq_true (show x.length<=8 by exact j5 h2),decide_eq_false h3];rfl
 rw[hb];refine Rt.pure (G:=[.lst (x.map λc=>D.bl (decide (c∈LET)))]) (env:=[Ya (.str x)]) ?_ rfl;unfold Ni;refine(Zi (cW (c2.trans (c3.trans (by rw[decide_eq_false h3]))))).trans ?_;have hi:(bW (Za 0)) [Ya (.str x)] M= .ok ⟨x.map (λc=>D.str [c]),Yl⟩ M:=by simp only[bW,Za,Jz,R3.bind,if_pos hz]
 have lc:=tM (h:=λc=>D.bl (decide (c∈LET))) (own:=1) (i:=1) (elt:=(e2 mU (Za 1) (xT))) hi (λn z=>nomatch z)
  (λc hc M'=>Zh (a:=.str [c]) (b:=.str LET) rfl rfl (in_str c LET M')) (Yi h (by decide))
 exact cZ (cj lc (all_map (Zn _ _ _)))
theorem fO.b(h:fO x):nameB x=true:=by unfold nameB;rw[decide_eq_true h.pos,decide_eq_true h.le,decide_eq_false h.own,h_.mpr λc hc=>decide_eq_true (Zv4 (h.low c hc))];rfl
theorem fO.is(h:fO x)(M:Store):oH [.str x] M= .ok (.bl true) M:=by rw[ZkU (Yi h.le (by decide)),h.b]
theorem fO.nop(h:fO x):pI x=false:=decide_eq_false λz=>h.own (by rcases z with rfl|rfl|rfl|rfl <;>decide)
theorem Znp(h:pI x=true):(x=[97,100,100]\/x=[115,117,98]\/x=[109,111,114,101]\/x=[99,101,108,108]):=of_decide_eq_true h
theorem Zwo(x:List Nat)(M:Store):u6 pH (.str x) M= .ok (.bl (pI x)) M:=by
 show R3.ok (D.bl (dh x pH).isSome) M=_;rw[Zru];by_cases h1:x=[97,100,100]
 .subst h1;rfl
 by_cases h2:x=[115,117,98]
 .subst h2;rfl
 by_cases h3:x=[109,111,114,101]
 .subst h3;rfl
 by_cases h4:x=oO
 .subst h4;rfl
 have:pI x=false:=decide_eq_false λz=>z.elim h1 λz=>z.elim h2 λz=>z.elim h3 h4;rw[if_neg h1,if_neg h2,if_neg h3,if_neg h4,this];rfl
theorem Wj(x:List Nat)(M:Store):Dh [.str x] M= .ok (.bl (pI x)) M:=(jN (M':=M) (env:=[Ya (.str x)]) (cZ (dF rfl (Zwo x M)))).trans (ZkR rfl)
noncomputable def bR:D->List Nat
 | .int i=>gA i|.str x=>x|_=>[]
inductive tX:D->Prop
 |int (i:Int) (h:i.natAbs<10^60):tX (.int i)
 |d7 (x:List Nat) (h:fO x):tX (.str x)
 |op (x:List Nat) (h:pI x=true):tX (.str x)
noncomputable def Sm.fit:Sm->Prop
 | .num i=>i.natAbs<10^60|.d7 x=>fO x|.ju a=>a.fit|.two _ a b=>a.fit/\b.fit
theorem Ik:∀t:Sm,t.fit->t.good
 | .num _,_=>trivial|.d7 _,h=>h.nop|.ju a,h=>Ik a h|.two _ a b,h=>⟨Ik a h.1,Ik b h.2⟩
theorem ZwT(o:Nat):pI (xF o)=true:=by
 match o with
 |0=>rfl|1=>rfl|_+2=>rfl
theorem Il:∀(t:Sm),t.fit->∀w∈t.flat,tX w
 | .num i,h,w,hw=>by rw[Yx.mp hw];exact .int i h|.d7 x,h,w,hw=>by rw[Yx.mp hw];exact .d7 x h|.ju a,h,w,hw=>by
  rcases Yo.mp hw with hw|hw
  .rw[hw];exact .op _ rfl
  .exact Il a h w hw
 | .two o a b,h,w,hw=>by
  rcases Yo.mp hw with hw|hw
  .rw[hw];exact .op _ (ZwT o)
  .rcases eY.mp hw with hw|hw
   .exact Il a h.1 w hw
   .exact Il b h.2 w hw
theorem Wk{i:Int}(hc:c∈gA i):c<=57:=by
 cases i with
 |ofNat n=>rw[show gA (Int.ofNat n)=cQ n from NT n]at hc;exact(xx n c hc).2|negSucc n=>
  rw[NZ]at hc;rcases Yo.mp hc with h|h
  .exact lA 1 0x392b002d2b021 T1 h
  .exact(xx _ c h).2
theorem Wl(i:Int):∃c r,gA i=c::r:=by
 cases i with
 |ofNat n=>
  rw[show gA (Int.ofNat n)=cQ n from NT n];cases e:cQ n with
  |nil=>exact absurd e (Ig n)|cons c r=>exact⟨c,r,rfl⟩
 |negSucc n=>exact⟨_,_,NZ n⟩
theorem ZrU(i:Int):pI (gA i)=false:=by obtain⟨c,r,e⟩:=Wl i;have hc:c<=57:=Wk (i:=i) (by rw[e];exact Yc);refine decide_eq_false λz=>?_;rw[e]at z;rcases z with z|z|z|z<;>(have:=(jc z).1;omega)
theorem Zst(i:Int):nameB (gA i)=false:=by
 obtain⟨c,r,e⟩:=Wl i;have hc:c<=57:=Wk (i:=i) (by rw[e];exact Yc);have:decide (c∈LET)=false:=decide_eq_false λz=>by simp only[Yo,qL,or_false]at z;omega
 unfold nameB;rw[e,kj,this,Rp,yu,yu,yu]
theorem Wm(h:pI x=true):1<=x.length/\x.length<=60/\∀c∈x,97<=c:=by rcases Znp h with rfl|rfl|rfl|rfl <;>decide
theorem ZwE(h:tX w)(hv:∀M,Za 3 env M= .ok (.str (bR w)) M):
  eE (Zz Dh (Zb (Za 3) (Ze))) (eE (Zz oH (Zb (Za 3) (Ze))) (Zz rQ (Zb (Za 3) (Ze)))) env M= .ok (.bl true) M:=by
 cases h with
 |int i hi=>rw[ou ((dD (hv M) (Wj _ M)).trans (by rw[show bR (.int i)=gA i from rfl,ZrU])),ou ((dD (hv M) (ZkU (x:=gA i) (Yi (ZoJ hi) (by decide)) M)).trans (by rw[Zst]))];exact dD (hv M) (Znc hi M)|d7 x hx=>rw[ou ((dD (hv M) (Wj _ M)).trans (by rw[show bR (.str x)=x from rfl,hx.nop]))];exact Hh (dD (hv M) (hx.is M))|op x hx=>exact Hh ((dD (hv M) (Wj _ M)).trans (by rw[show bR (.str x)=x from rfl,hx]))
theorem ZvJ(h:tX w)(hv:∀M,Za 3 env M= .ok (.str (bR w)) M):
  jL (Zz rQ (Zb (Za 3) (Ze))) (aC uT (Zb (Za 3) (Ze))) (Za 3) env M= .ok w M:=by
 cases h with
 |int i hi=>rw[Cq (dD (hv M) (Znc hi M))];have r:=Zip i hi;refine cj (hv M) ?_;show uT [.str (gA i)] M=_;simp only[uT,r.1];exact if_pos (Yi r.2.1 (by decide))|d7 x hx=>rw[Cr (dD (hv M) (ZmJ hx.pos (Yi hx.le (by decide)) (λc hc=>(hx.low c hc).1) M))];exact hv M|op x hx=>have q:=Wm hx;rw[Cr (dD (hv M) (ZmJ q.1 q.2.1 q.2.2 M))];exact hv M
structure Zr3(ts:List Sm):Prop where
 fit:∀t∈ts,t.fit
 len:(ts.map Sm.flat).flatten.length<=60
 dep:w6 0 (nF 0 ts)<=6
noncomputable abbrev bM(ts:List Sm):List D:=(ts.map Sm.flat).flatten
variable{ts:List Sm}
theorem Im(h:∀t∈ts,t.fit):∀w∈bM ts,tX w:=λw hw=>by obtain⟨l,h1,h2⟩:=QD.mp hw;obtain⟨t,ht,rfl⟩:=dN.mp h1;exact Il t (h t ht) w h2
theorem N8{t:Sm}(h:t∈ts):t.flat.length<=(bM ts).length:=by
 induction ts with
 |nil=>cases h|cons a ts ih=>
  rw[bM,Ys,kh,Ye];rcases Yo.mp h with e|e
  .rw[e];exact iM _ _
  .have:=ih e;rw[bM]at this;exact lC 1 5033168897 T1 this
theorem N_(ts:List Sm):ts.length<=(bM ts).length:=by
 induction ts with
 |nil=>exact Yt _|cons t l ih=>rw[bM,Ys,kh,Ye,Ym];obtain⟨w,r,e⟩:=Wf t;rw[e,Ym];rw[bM]at ih;exact lC 1 460474730680321 T1 ih
noncomputable abbrev rsE:S3:=aQ (jL (e2 n6 (aC (zy 0) (Zb (Za 2) (Ze))) (vG)) (Za 1) (eC .non))
theorem Zmc(Wn:∀t∈ts,t.fit)(Jl:(bM ts).length<=60)(hn:M[n]?=Ya (.lst ((bM ts).map λw=>D.str (bR w)))):∃(G:Store) (k:Nat),G[k]?=Ya (.lst (ts.map λt=>.tup t.flat))/\(M++G)[(M++G).length-1]?=Ya (.lst ((nF 0 ts).map D.int))/\
  Nk [Ya (.ref n),Yl,Yl] M=rsE [Ya (.ref n),Ya (.ref (M.length+k)),Ya (.ref ((M++G).length-1))] (M++G):=by
 have hfit:=Im Wn;have hz:(bM ts).length<=100000:=Yi Jl (by decide)
 let M1:=M++[MO.lst ((bM ts).map λ_=>D.bl true)]
 let M2:=M1++[MO.lst ((bM ts).map λw=>w)]
 have hn1:M1[n]?=Ya (.lst ((bM ts).map λw=>D.str (bR w))):=bK hn _;have hi:∀{S:Store} (_:S[n]?=Ya (.lst ((bM ts).map λw=>D.str (bR w)))),(bW (Za 0)) [Ya (.ref n),Yl,Yl] S= .ok ⟨(bM ts).map (λw=>D.str (bR w)),Ya n⟩ S:=λh=>by show(R3.ok (D.ref n) _).bind _=_;simp only[R3.bind];rw[h]
 have l1:=tM (h:=λ_=>D.bl true) (own:=1) (i:=3) (elt:=eE (Zz Dh (Zb (Za 3) (Ze))) (eE (Zz oH (Zb (Za 3) (Ze))) (Zz rQ (Zb (Za 3) (Ze))))) (hi hn) (λm e=>by cases e;exact hn)
  (λw hw M'=>ZwE (hfit w hw) λ_=>rfl) hz
 have l2:=tM (h:=λw=>w) (own:=1) (i:=3) (elt:=jL (Zz rQ (Zb (Za 3) (Ze))) (aC uT (Zb (Za 3) (Ze))) (Za 3)) (hi hn1) (λm e=>by cases e;exact hn1)
  (λw hw M'=>ZvJ (hfit w hw) λ_=>rfl) hz
 have oR:M2[M1.length]?=Ya (.lst (bM ts)):=(Zn M1 (MO.lst ((bM ts).map λw=>w)) []).trans (by rw[QK]);obtain⟨G,k,h1,h2⟩:=Zm8 M2 ts (λt ht=>Ik t (Wn t ht)) (Yi Jl (by decide)) oR;have h3:(M2++G)[M2.length+k]?=Ya (.lst (ts.map λt=>.tup t.flat)):=by rw[rC];exact h2
 have lk:jO [(M2.length+k,ts.map λt=>D.tup t.flat)] (M2++G)=true:=by simp only[jO,kj,QJ,Kd];exact decide_eq_true h3
 have hfew:=N_ ts;have lp:=Wi (F:=HN) lk (i:=3) (j:=4) (λe=>∃a b c d f,e=[a,b,c,d,f]) (λenv ⟨a,b,c,d,f,e⟩ x y=>by subst e;exact⟨⟨_,_,_,_,_,rfl⟩,λM=>⟨rfl,rfl⟩⟩) ts 0 [] [Ya (.ref n),Ya (.ref (M2.length+k)),Yl,Yl,Yl] ⟨_,_,_,_,_,rfl⟩ (λt ht M=>Zsn (Ik t (Wn t ht)) (by have:=N8 ht;exact lB 2 0x3d2b003c2b1011001 T1 this Jl) M) (by simp;exact lB 2 0x3e83b1001013c2b001 T1 Jl hfew);rw[jh]at lp;have hlen:M2.length=M.length+2:=by simp[M2,M1]
 let G0:Store:=[MO.lst ((bM ts).map λ_=>D.bl true),MO.lst ((bM ts).map λw=>w)]
 have eM:M++(G0++G++[.lst ((nF 0 ts).map D.int)])=M2++G++[.lst ((nF 0 ts).map D.int)]:=by simp[G0,M2,M1]
 refine⟨G0++G++[.lst ((nF 0 ts).map D.int)],2+k,?_,?_,?_⟩
 .rw[gG,mC 2 k];show(G++[MO.lst ((nF 0 ts).map D.int)])[k]?=_;exact bK h2 _
 .rw[eM,Ye,iJ,Ykn];exact Zn _ _ _
 .rw[eM,←qP,←hlen,Ye (bs:=[MO.lst ((nF 0 ts).map D.int)]),iJ,Ykn];unfold Nk;have t1:=all_map (p:=λ_=>true) (l:=bM ts) (Zn M (MO.lst ((bM ts).map λ_=>D.bl true)) []);rw[show((bM ts).all λ_=>true)=true from h_.mpr λ_ _=>rfl]at t1;refine(Zi (cW (M':=M1) (dF (cj l1 t1) rfl))).trans ?_;refine(Zi (Zo (d:=.ref (M2.length+k)) (M':=M2++G) (dD l2 h1))).trans ?_;refine(Zi (cW (M':=M2++G) (Zh rfl rfl rfl))).trans ?_;refine(Zi (Zo (d:=.ref (M2++G).length) (M':=M2++G++[.lst ((nF 0 ts).map D.int)]) ?_)).trans rfl;show(R3.bind (R3.bind (R3.ok (D.ref (M2.length+k)) (M2++G)) _) _)=_;simp only[R3.bind,h3];exact lp
theorem Zmf(H:Zr3 ts)(hn:M[n]?=Ya (.lst ((bM ts).map λw=>D.str (bR w)))):∃G k,HS [.ref n] M= .ok (.ref (M.length+k)) (M++G)/\G[k]?=Ya (.lst (ts.map λt=>.tup t.flat)):=by
 obtain⟨G,k,g1,g2,e⟩:=Zmc H.fit H.len hn;refine⟨G,k,(jN (M':=M++G) (d:=.ref (M.length+k)) (env:=[Ya (.ref n),Yl,Yl]) ?_).trans ?_,g1⟩
 .rw[e];exact cZ ((Cq (M1:=M++G) (Zh (cj rfl (Znu g2)) (g:=vG) (b:=.int 6) rfl (LQ H.dep))).trans rfl)
 .have hb:below M.length (.ref (M.length+k))=false:=decide_eq_false (Nat.not_lt.mpr (iM _ _));rw[eG,hb];rfl
noncomputable abbrev iV:List Nat:=[115,101,116]
noncomputable abbrev oU:List Nat:=[112,117,116]
noncomputable abbrev oV:List Nat:=[116,101,108,108]
noncomputable abbrev cu:List Nat:=[119,104,101,110]
noncomputable abbrev fP:List Nat:=[119,104,105,108,101]
noncomputable abbrev eO:List Nat:=[101,108,115,101]
noncomputable abbrev d9:List Nat:=[101,110,100]
structure Rw where
 h:List Nat
 xs:List (List Nat)
 ts:List Sm
noncomputable def Rw.words(r:Rw):List (List Nat):=r.h::(r.xs++(bM r.ts).map bR)
noncomputable def Rw.deed(r:Rw):List D:=.str r.h::(r.xs.map D.str++r.ts.map λt=>D.tup t.flat)
structure cG(r:Rw):Prop where
 sm:dh r.h jf=Ya (r.ts.length:Int)
 nx:r.xs.length=if r.h=iV then 1 else 0
 nm:∀x∈r.xs,fO x
 ok:Zr3 r.ts
 le:r.xs.length+(bM r.ts).length<=59
theorem Io{o:E3}{lo hi:yN}{a b:Option Int}(ho:o env M= .ok (.ref n) M)(hl:lo env M= .ok a M)(hh:hi env M= .ok b M)(h:M[n]?=Ya (.lst ds)):dW o lo hi env M= .ok (.ref M.length) (M++[.lst (cutD ds a b)]):=by simp only[dW,ho,hl,hh,R3.bind,Cg,h];rfl
theorem Ztl(a:α)(x y:List α):cutD (a::(x++y)) (Ya ((1:Nat):Int)) (Ya ((1+x.length:Nat):Int))=x:=by unfold cutD;rw[GJ,GJ,Gb (show 1+x.length<=(a::(x++y)).length by simp only[Ym,Ye];exact lB 0 43231480512 T1),Gb (show 1<=(a::(x++y)).length by simp),Nat.add_sub_cancel_left];simp
variable{m:Nat}{y:List D}
theorem Ip{x:List D}(h1:M[n]?=Ya (.lst x))(h2:M[m]?=Ya (.lst y))(hz:x.length+y.length<=900000):aM (.ref n) (.ref m) M= .ok (.ref M.length) (M++[.lst (x++y)]):=by rw[ZsN,h1,h2];exact if_pos (Yi hz (by decide))
theorem Zpe{n:Nat}:∀{l:List D},(∀w∈l,mj w)->bZ n l=true
 |[],_=>rfl|w::l,h=>by
  have h1:below n w=true:=by cases h w Yc<;>rfl
  show(below n w&&bZ n l)=true;rw[h1,Zpe λx hx=>h x (Yd _ hx)];rfl
theorem Zj0{n:Nat}:∀{x y:List D},bZ n x=true->bZ n y=true->bZ n (x++y)=true
 |[],_,_,h=>h|a::x,y,h,k=>by have h:(below n a&&bZ n x)=true:=h;rw[Y5]at h;show(below n a&&bZ n (x++y))=true;rw[h.1,Zj0 h.2 k];rfl
theorem Zjg{n:Nat}:∀ts:List Sm,bZ n (ts.map λt=>D.tup t.flat)=true
 |[]=>rfl|t::ts=>by show(bZ n t.flat&&bZ n (ts.map λt=>D.tup t.flat))=true;rw[Zpe (Em t),Zjg ts];rfl
theorem Ep{n:Nat}:∀xs:List (List Nat),bZ n (xs.map D.str)=true
 |[]=>rfl|_::xs=>Ep xs
theorem Rw.below{n:Nat}(r:Rw):below n (.tup r.deed)=true:=by show bZ n (.str r.h::(r.xs.map D.str++r.ts.map λt=>D.tup t.flat))=true;show bZ n (r.xs.map D.str++r.ts.map λt=>D.tup t.flat)=true;exact Zj0 (Ep _) (Zjg _)
structure ZuP(r:Rw):Prop where
 sm:dh r.h jf=Ya (r.ts.length:Int)
 nx:r.xs.length=if r.h=iV then 1 else 0
 nm:∀x∈r.xs,fO x
 le:r.xs.length+(bM r.ts).length<=59
variable{r:Rw}
theorem cG.pre(H:cG r):ZuP r:=⟨H.sm,H.nx,H.nm,H.le⟩
noncomputable abbrev Er(r:Rw):Store:=[MO.lst (r.xs.map D.str),MO.lst (r.xs.map λ_=>D.bl true),MO.lst ((bM r.ts).map λw=>D.str (bR w))]
noncomputable abbrev rdZ:S3:=(Zq (aJ (eE (e2 n8 (Za 2) (eC .non)) (e2 fJ (aC bw (Zb (Za 2) (Ze))) (e1 (Df jf) (e2 Zm (Za 0) (eC (.int 0)))))) (aQ (eC .non)) (aW)) (aQ (aC gh (Zb (e2 aM (dW (Za 0) (fK) (dw (Za 1))) (Za 2)) (Ze)))))
variable{S:Store}
theorem Zl0(H:ZuP r){d:D}(hn:M[n]?=Ya (.lst (r.words.map D.str)))(hs:HS [.ref (M.length+2)] (M++Er r)= .ok d S):Nm [Ya (.ref n),Yl,Yl] M=rdZ [Ya (.ref n),Ya (.int ((1+r.xs.length:Nat):Int)),Ya d] S:=by
 have hlen:r.words.length=1+r.xs.length+(bM r.ts).length:=by simp only[Rw.words,Ym,Ye,Yu];exact Y0 (lB 0 1145894407360 T1) (lB 0 0xa10cc10acc0 T1)
 have hle:=H.le;have e0:∀{S:Store} {a b:Option D},S[n]?=Ya (.lst (r.words.map D.str))->e2 Zm (Za 0) (eC (.int 0)) [Ya (.ref n),a,b] S= .ok (.str r.h) S:=λh=>Zh rfl rfl (iC h (fW _ 0))
 let B:Int:=((1+r.xs.length:Nat):Int)
 have hB:jL (e2 bj (e2 Zm (Za 0) (eC (.int 0))) (eC (.str [115,101,116]))) (eC (.int 2)) (eC (.int 1)) [Ya (.ref n),Yl,Yl] M= .ok (.int B) M:=by
  by_cases h:r.h=iV
  .have e:B=2:=by show((1+r.xs.length:Nat):Int)=2;rw[H.nx,if_pos h];rfl
   rw[Cq (M1:=M) (Zh (e0 hn) rfl (by simp only[bj,wK,decide_eq_true h])),e];rfl
  .have e:B=1:=by show((1+r.xs.length:Nat):Int)=1;rw[H.nx,if_neg h];rfl
   rw[Cr (M1:=M) (Zh (e0 hn) rfl (by simp only[bj,wK,decide_eq_false h])),e];rfl
 let M1:=M++[MO.lst (r.xs.map D.str)]
 let M2:=M1++[MO.lst (r.xs.map λ_=>D.bl true)]
 let M3:=M2++[MO.lst ((bM r.ts).map λw=>D.str (bR w))]
 have hn2:M2[n]?=Ya (.lst (r.words.map D.str)):=bK (bK hn _) _;have ew:r.words.map D.str=D.str r.h::(r.xs.map D.str++(bM r.ts).map λw=>D.str (bR w)):=by show D.str r.h::(r.xs++(bM r.ts).map bR).map D.str=_;rw[iY,ji];rfl
 have hx:(r.xs.map D.str).length=r.xs.length:=Yu _;have c1:cutD (r.words.map D.str) (Ya ((1:Nat):Int)) (Ya B)=r.xs.map D.str:=by have:=Ztl (D.str r.h) (r.xs.map D.str) ((bM r.ts).map λw=>D.str (bR w));rw[hx]at this;rw[ew];exact this
 have c2:cutD (r.words.map D.str) (Ya B) Yl=(bM r.ts).map λw=>D.str (bR w):=by rw[El,ew,mC,List.drop_succ_cons,←hx,List.drop_left]
 have s1:bW (dW (Za 0) (dw (eC (.int 1))) (dw (Za 1))) [Ya (.ref n),Ya (.int B),Yl] M= .ok ⟨r.xs.map D.str,Ya M.length⟩ M1:=by have:=Io (env:=[Ya (.ref n),Ya (.int B),Yl]) (o:=Za 0) (lo:=dw (eC (.int 1))) (hi:=dw (Za 1)) (a:=Ya ((1:Nat):Int)) (b:=Ya B) rfl rfl rfl hn;rw[c1]at this;show(dW _ _ _ _ _).bind _=_;rw[this];simp only[R3.bind,Zn];rfl
 have l1:=tM (h:=λ_=>D.bl true) (own:=1) (i:=3) (elt:=Zz oH (Zb (Za 3) (Ze))) s1 (λm e=>by cases e;exact Zn M _ [])
  (λx hx M'=>dD rfl ((H.nm x hx).is M')) (lB 1 0x186a05b003b2b10c01 T1 hle)
 have t1:=all_map (p:=λ_=>true) (l:=r.xs) (Zn M1 (MO.lst (r.xs.map λ_=>D.bl true)) []);rw[show(r.xs.all λ_=>true)=true from h_.mpr λ_ _=>rfl]at t1;have s2:dW (Za 0) (dw (Za 1)) (fK) [Ya (.ref n),Ya (.int B),Yl] M2= .ok (.ref M2.length) M3:=by have:=Io (env:=[Ya (.ref n),Ya (.int B),Yl]) (o:=Za 0) (lo:=dw (Za 1)) (hi:=fK) (a:=Ya B) (b:=Yl) rfl rfl rfl hn2;rw[c2]at this;exact this
 have oR:M2.length=M.length+2:=by simp[M2,M1]
 rw[←oR,show M++Er r=M3 by simp[M3,M2,M1]]at hs;unfold Nm;have q1:e1 (Nb jf) (e2 Zm (Za 0) (eC (.int 0))) [Ya (.ref n),Yl,Yl] M= .ok (.bl false) M:=dF (e0 hn) (by show R3.ok (D.bl (!(dh r.h jf).isSome)) M=_;rw[H.sm];rfl);have q2:e2 cV (aC bw (Zb (Za 0) (Ze))) (vI) [Ya (.ref n),Yl,Yl] M= .ok (.bl false) M:=Zh (cj rfl (mX hn)) (g:=vI) (b:=.int 60) rfl (by rw[jM,decide_eq_false (by rw[Yu,hlen];exactλz=>iN [_,_] [] 2 0x63b2b10c0110acc83c2b91 T1 z hle)]);refine(Zi (cW ((ou q1).trans q2))).trans ?_;refine(Zi (Zo hB)).trans ?_;refine(Zi (cW (M':=M2) (dF (cj l1 t1) rfl))).trans ?_;exact Zi (Zo (dD s2 hs))
theorem Zmd(H:cG r)(hn:M[n]?=Ya (.lst (r.words.map D.str))):HW [.ref n] M= .ok (.tup r.deed) M:=by
 let B:Int:=((1+r.xs.length:Nat):Int)
 have ew:r.words.map D.str=D.str r.h::(r.xs.map D.str++(bM r.ts).map λw=>D.str (bR w)):=by show D.str r.h::(r.xs++(bM r.ts).map bR).map D.str=_;rw[iY,ji];rfl
 have hx:(r.xs.map D.str).length=r.xs.length:=Yu _;have c3:cutD (r.words.map D.str) Yl (Ya B)=D.str r.h::r.xs.map D.str:=by rw[Zrr,ew,mC,ZG,←hx,List.take_left]
 let M3:=M++Er r
 obtain⟨G,k,h1,h2⟩:=Zmf H.ok (n:=M.length+2) (M:=M3) (by show(M++Er r)[M.length+2]?=_;rw[rC];rfl)
 let M4:=M3++G
 have hk:M4[M3.length+k]?=Ya (.lst (r.ts.map λt=>.tup t.flat)):=by show(M3++G)[_]?=_;rw[rC];exact h2
 have hn4:M4[n]?=Ya (.lst (r.words.map D.str)):=bK (bK hn _) _
 let M5:=M4++[MO.lst (D.str r.h::r.xs.map D.str)]
 let M6:=M5++[MO.lst r.deed]
 have s3:dW (Za 0) (fK) (dw (Za 1)) [Ya (.ref n),Ya (.int B),Ya (.ref (M3.length+k))] M4= .ok (.ref M4.length) M5:=by have:=Io (env:=[Ya (.ref n),Ya (.int B),Ya (.ref (M3.length+k))]) (o:=Za 0) (lo:=fK) (hi:=dw (Za 1)) (a:=Yl) (b:=Ya B) rfl rfl rfl hn4;rw[c3]at this;exact this
 have hfew:=N_ r.ts;have hle:=H.le;have s4:e2 aM (dW (Za 0) (fK) (dw (Za 1))) (Za 2) [Ya (.ref n),Ya (.int B),Ya (.ref (M3.length+k))] M4= .ok (.ref M5.length) M6:=Zh s3 rfl (Ip (Zn M4 _ []) (bK hk _) (by simp;exact lC 2 0xdbba05b0a2cc03b2b12c011001 T1 hfew hle));have hM6:M6=M++(Er r++G++[MO.lst (D.str r.h::r.xs.map D.str),MO.lst r.deed]):=by simp[M6,M5,M4,M3]
 refine Rt.pure (G:=Er r++G++[MO.lst (D.str r.h::r.xs.map D.str),MO.lst r.deed]) (env:=[Ya (.ref n),Yl,Yl]) ?_ r.below;rw[←hM6,Zl0 H.pre hn h1];have q3:e2 fJ (aC bw (Zb (Za 2) (Ze))) (e1 (Df jf) (e2 Zm (Za 0) (eC (.int 0)))) [Ya (.ref n),Ya (.int B),Ya (.ref (M3.length+k))] M4= .ok (.bl false) M4:=by
  refine Zh (M2:=M4) (cj rfl (mX hk)) (dF (M2:=M4) (Zh rfl rfl (iC hn4 (d:=.str r.h) (fW _ 0))) (d:=.int (r.ts.length:Int)) ?_) ?_
  .simp only[Df,H.sm]
  .simp only[fJ,yM,Yu,decide_eq_true (rfl:(r.ts.length:Int)=r.ts.length)];rfl
 refine(Zi (cW ((ou (M1:=M4) (Zh rfl rfl rfl)).trans q3))).trans ?_;exact cZ (cj s4 (n_ (Zn M5 _ [])))
noncomputable abbrev iW:List Nat:=[66,108,111,99,107]
noncomputable abbrev oW:List Nat:=[104,101,97,100]
noncomputable abbrev vo:List Nat:=[108,105,115,116,115]
structure Bk where
 r:Nat
 l:Nat
 h:List Nat
 hd:List D
 cl:List (Nat×List D)
 cn:Nat
 cur:List D
noncomputable def Bk.ads(k:Bk):List Nat:=k.r::k.l::k.cn::k.cl.map (·.1)
structure qH(S:Store)(k:Bk):Prop where
 hr:S[k.r]?=Ya (.ins iW [(oW,.tup (.str k.h::k.hd)),(vo,.ref k.l)])
 hl:S[k.l]?=Ya (.lst ((k.cl.map λp=>D.ref p.1)++[.ref k.cn]))
 hc:∀p∈k.cl,S[p.1]?=Ya (.lst p.2)
 hn:S[k.cn]?=Ya (.lst k.cur)
variable{S':Store}
theorem qH.congr{k:Bk}(H:qH S k)(h:∀a∈k.ads,S'[a]?=S[a]?):qH S' k:=⟨by rw[h _ (by simp[Bk.ads])];exact H.hr,by rw[h _ (by simp[Bk.ads])];exact H.hl,λp hp=>by rw[h _ (by simp only[Bk.ads];exact Yd _ (Yd _ (Yd _ (qK hp))))];exact H.hc p hp,by rw[h _ (by simp[Bk.ads])];exact H.hn⟩
noncomputable abbrev gZ(ks:List Bk):List Nat:=ks.flatMap Bk.ads
structure cX(S:Store)(b:Nat)(ks:List Bk):Prop where
 hb:S[b]?=Ya (.lst (ks.map λk=>D.ref k.r).reverse)
 hk:∀k∈ks,qH S k
 nb:b∉gZ ks
 nd:(gZ ks).Nodup
theorem qH.lt{k:Bk}(H:qH S k):∀a∈k.ads,a<S.length:=λa ha=>by
 have q:∀{i:Nat} {o:MO},S[i]?=Ya o->i<S.length:=λh=>(Yf.mp h).1;simp only[Bk.ads,Yo,dN]at ha;rcases ha with rfl|rfl|rfl|⟨p,hp,rfl⟩
 .exact q H.hr
 .exact q H.hl
 .exact q H.hn
 .exact q (H.hc p hp)
variable{ks:List Bk}
theorem cX.lt{b:Nat}(H:cX S b ks):∀a∈gZ ks,a<S.length:=λa ha=>by obtain⟨k,hk,h⟩:=vU.mp ha;exact(H.hk k hk).lt a h
theorem cX.zR{b:Nat}(H:cX S b ks):b<S.length:=(Yf.mp H.hb).1
theorem cX.frame{b:Nat}(H:cX S b ks)(h:∀a∈b::gZ ks,S'[a]?=S[a]?):cX S' b ks:=⟨by rw[h b Yc];exact H.hb,λk hk=>(H.hk k hk).congr λa ha=>h a (Yd _ (vU.mpr ⟨k,hk,ha⟩)),H.nb,H.nd⟩
theorem cX.app{b:Nat}(H:cX S b ks)(G:Store):cX (S++G) b ks:=
 H.frame λa ha=>Yj (by
  rcases Yo.mp ha with e|e
  .rw[e];exact H.zR
  .exact H.lt a e)
theorem rR(k:Bk)(ks:List Bk):gZ (k::ks)=k.ads++gZ ks:=rfl
theorem cX.rest{b:Nat}{k:Bk}(H:cX S b (k::ks)):(∀j∈ks,qH S j)/\b∉k.ads/\b∉gZ ks/\k.ads.Nodup/\(gZ ks).Nodup/\∀a∈k.ads,a∉gZ ks:=by have nb:=H.nb;have nd:=H.nd;rw[rR]at nb nd;rw[eY]at nb;obtain⟨n1,n2,n3⟩:=Av.mp nd;exact⟨λj hj=>H.hk j (Yd _ hj),λz=>nb (.inl z),λz=>nb (.inr z),n1,n2,λa ha hb=>n3 a ha a hb rfl⟩
theorem cX.more{b:Nat}{k:Bk}(H:cX S b (k::ks))(d:D):cX (S.set k.cn (.lst (k.cur++[d]))) b ({k with cur:=k.cur++[d]}::ks):=by
 obtain⟨h1,h2,h3,h4,h5,h6⟩:=H.rest;have hk:=H.hk k Yc;have hcn:k.cn∈k.ads:=by simp[Bk.ads]
 have zT:k.r≠k.cn/\k.l≠k.cn/\k.cn∉k.cl.map (·.1):=by simp only[Bk.ads,iK,Yo,not_or]at h4;exact⟨h4.1.2.1,h4.2.1.1,h4.2.2.1⟩
 have o:∀a,a≠k.cn->(S.set k.cn (.lst (k.cur++[d])))[a]?=S[a]?:=λa ha=>Yp (dg ha);refine⟨?_,?_,H.nb,H.nd⟩
 .rw[o b λe=>h2 (e▸hcn)];exact H.hb
 .intro j hj;rcases Yo.mp hj with e|e
  .rw[e];refine⟨by rw[o _ zT.1];exact hk.hr,by rw[o _ zT.2.1];exact hk.hl,λp hp=>by rw[o _ λe=>zT.2.2 (e▸qK hp)];exact hk.hc p hp,?_⟩;exact Yw (Yf.mp hk.hn).1
  .exact(h1 j e).congr λa ha=>o a λz=>h6 k.cn hcn (vU.mpr ⟨j,e,z▸ha⟩)
theorem cX.els{b:Nat}{k:Bk}(H:cX S b (k::ks)):cX ((S++[MO.lst []]).set k.l (MO.lst ((k.cl.map λp=>D.ref p.1)++[D.ref k.cn]++[D.ref S.length]))) b ({k with cl:=k.cl++[(k.cn,k.cur)],cn:=S.length,cur:=[]}::ks):=by
 obtain⟨h1,h2,h3,h4,h5,h6⟩:=H.rest;have hk:=H.hk k Yc;have hl:k.l∈k.ads:=by simp[Bk.ads]
 have zT:k.r≠k.l/\k.cn≠k.l/\k.l∉k.cl.map (·.1):=by simp only[Bk.ads,iK,Yo,not_or]at h4;exact⟨h4.1.1,dg h4.2.1.1,h4.2.1.2⟩
 have o:∀a,a≠k.l->a<S.length->((S++[MO.lst []]).set k.l (MO.lst ((k.cl.map λp=>D.ref p.1)++[D.ref k.cn]++[D.ref S.length])))[a]?=S[a]?:=λa ha hlt=>by rw[Yp (dg ha),Yj hlt]
 have hsz:∀a∈k.ads,a<S.length:=hk.lt;have hll:k.l<S.length:=hsz _ hl;have fresh:S.length∉gZ (k::ks):=λz=>wu _ (H.lt _ z);have perm:(gZ ({k with cl:=k.cl++[(k.cn,k.cur)],cn:=S.length,cur:=[]}::ks)).Perm (S.length::gZ (k::ks)):=by rw[rR,rR];refine List.Perm.append_right (gZ ks) (l₂:=S.length::k.ads) ?_;simp only[Bk.ads,iY,Ys,uq];have p1:(k.r::k.l::S.length::(k.cl.map (·.1)++[k.cn])).Perm (k.r::S.length::k.l::(k.cl.map (·.1)++[k.cn])):=List.Perm.cons _ (List.Perm.swap _ _ _);refine p1.trans ((List.Perm.swap _ _ _).trans (List.Perm.cons _ (List.Perm.cons _ (List.Perm.cons _ ?_))));exact List.perm_append_comm
 refine⟨?_,?_,?_,?_⟩
 .rw[o b (λe=>h2 (e▸hl)) H.zR];exact H.hb
 .intro j hj;rcases Yo.mp hj with e|e
  .rw[e];refine⟨by rw[o _ zT.1 (hsz _ (by simp[Bk.ads]))];exact hk.hr,?_,?_,?_⟩
   .rw[Yw (by rw[Ye];exact Ga _ hll)];simp
   .intro p hp;rcases eY.mp hp with q|q
    .rw[o _ (λe=>zT.2.2 (e▸qK q)) (hsz _ (by simp only[Bk.ads];exact Yd _ (Yd _ (Yd _ (qK q)))))];exact hk.hc p q
    .rw[Yx.mp q,o _ zT.2.1 (hsz _ (by simp[Bk.ads]))];exact hk.hn
   .show _[S.length]?=_;rw[Yp (by exactλz=>lB 2 26039357489 T1 z hll)];exact Zn _ _ _
  .exact(h1 j e).congr λa ha=>o a (λz=>h6 k.l hl (vU.mpr ⟨j,e,z▸ha⟩)) (H.lt a (vU.mpr ⟨j,Yd _ e,ha⟩))
 .intro z;rcases Yo.mp (perm.mem_iff.mp z)with e|e
  .have:=H.zR;exact lB 2 26041454609 T1 this e
  .exact H.nb e
 .exact perm.nodup_iff.mpr (iK.mpr ⟨fresh,H.nd⟩)
noncomputable abbrev Oa(n:Nat)(h:List Nat)(hd:List D):Bk:=⟨n,n+2,h,hd,[],n+1,[]⟩
noncomputable abbrev nObj(n:Nat)(h:List Nat)(hd:List D):Store:=[.ins iW [(oW,.tup (.str h::hd)),(vo,.ref (n+2))],.lst [],.lst [.ref (n+1)]]
theorem cX.push{b:Nat}(H:cX S b ks)(h:List Nat)(hd:List D):cX ((S++nObj S.length h hd).set b (.lst ((ks.map λk=>D.ref k.r).reverse++[.ref S.length]))) b (Oa S.length h hd::ks):=by
 have hb:=H.zR;have o:∀a,a≠b->a<S.length->((S++nObj S.length h hd).set b (.lst ((ks.map λk=>D.ref k.r).reverse++[.ref S.length])))[a]?=S[a]?:=λa ha hlt=>by rw[Yp (dg ha),Yj hlt]
 have n:∀j,((S++nObj S.length h hd).set b (.lst ((ks.map λk=>D.ref k.r).reverse++[.ref S.length])))[S.length+j]?=(nObj S.length h hd)[j]?:=λj=>by rw[Yp (by exactλz=>lC 2 6666076667953 T1 z hb),rC]
 refine⟨?_,?_,?_,?_⟩
 .rw[Yw (by rw[Ye];exact Ga _ hb)];simp
 .intro j hj;rcases Yo.mp hj with e|e
  .rw[e];exact⟨(n 0).trans rfl,(n 2).trans rfl,(λp hp=>nomatch hp),(n 1).trans rfl⟩
  .exact(H.hk j e).congr λa ha=>o a (λz=>H.nb (vU.mpr ⟨j,e,z▸ha⟩)) (H.lt a (vU.mpr ⟨j,e,ha⟩))
 .rw[rR];intro z;rcases eY.mp z with z|z
  .simp[Bk.ads]at z;omega
  .exact H.nb z
 .rw[rR];refine Av.mpr ⟨by simp[Bk.ads],H.nd,λa ha c hc e=>?_⟩;have:=H.lt c hc;simp[Bk.ads]at ha;omega
theorem cX.pop{b:Nat}{k:Bk}(H:cX S b (k::ks)):cX (S.set b (.lst (ks.map λk=>D.ref k.r).reverse)) b ks:=by obtain⟨h1,h2,h3,h4,h5,h6⟩:=H.rest;exact⟨Yw H.zR,λj hj=>(h1 j hj).congr λa ha=>Yp λ(e:b=a)=>h3 (vU.mpr ⟨j,hj,by rw[e];exact ha⟩),h3,h5⟩
theorem Ob{d:D}(hv:Za i env M= .ok (.ref n) M)(h:M[n]?=Ya (.lst (xs++[d]))):aG bx qg (Za i) (Ze) env M= .ok d (M.set n (.lst xs)):=by simp only[aG,hv,R3.bind,yU,h,Ze,if_true];rw[Ua,h];simp
theorem Zr6{c f:List Nat}{fs:List (List Nat×D)}{d:D}(h:M[n]?=Ya (.ins c fs))(hf:fs.lookup f=Ya d):jQ c f (.ref n) M= .ok d M:=by rw[Zns,h];simp only[if_true,hf]
theorem qH.head{k:Bk}(H:qH S k):jQ iW oW (.ref k.r) S= .ok (.tup (.str k.h::k.hd)) S:=Zr6 H.hr rfl
theorem qH.lists{k:Bk}(H:qH S k):jQ iW vo (.ref k.r) S= .ok (.ref k.l) S:=Zr6 H.hr rfl
theorem cX.last{b:Nat}{k:Bk}(H:cX S b (k::ks))(hv:Za i env S= .ok (.ref b) S):e2 Zm (Za i) (e1 cH (eC (.int 1))) env S= .ok (.ref k.r) S:=by refine Zh hv (dF rfl (yL 1)) (iC H.hb ?_);rw[Ys,vR];exact getD_last _ _
noncomputable def tY(h:List Nat):Int:=(dh h oG).getD 0
noncomputable def Bk.full(k:Bk):Bool:=decide (tY k.h=((k.cl.length+1:Nat):Int))
noncomputable def j9(w:List Nat):Bool:=(dh w oG).isSome
noncomputable def Wo(k:Bk)(n:Nat)(w:List Nat):Bool:=if j9 w then decide (n<=12)else if w=eO then decide (k.h=cu)&&!k.full else if w=d9 then k.full else true
theorem ir{a b:List Nat}:bj (.str a) (.str b) M= .ok (.bl (decide (a=b))) M:=by simp only[bj,wK]
theorem ZlC{b:Nat}{k:Bk}(H:cX S b (k::ks))(w:List Nat):Di [.ref b,.str w] S= .ok (.bl (Wo k (ks.length+1) w)) S:=by
 have hk:=H.hk k Yc;refine(jN (M':=S) (env:=[Ya (.ref b),Ya (.str w),Yl,Yl]) ?_).trans (ZkR rfl);unfold VF;refine(Zi (Zo (H.last rfl))).trans ?_;have h0:∀{a:Option D},e2 Zm (e1 (jQ iW oW) (Za 2)) (eC (.int 0)) [Ya (.ref b),Ya (.str w),Ya (.ref k.r),a] S= .ok (.str k.h) S:=Zh (dF rfl hk.head) rfl (yV (fW _ 0));have Abp:e2 bj (e2 (uU oG) (e2 Zm (e1 (jQ iW oW) (Za 2)) (eC (.int 0))) (eC (.int 0))) (aC bw (Zb (e1 (jQ iW vo) (Za 2)) (Ze))) [Ya (.ref b),Ya (.str w),Ya (.ref k.r),Yl] S= .ok (.bl k.full) S:=by
  refine Zh (Zh h0 rfl (d:=.int (tY k.h)) (M3:=S) ?_) (cj (dF rfl hk.lists) (mX hk.hl)) ?_
  .show(match dh k.h oG with|some i=>R3.ok (D.int i) S|none=>R3.ok (D.int 0) S)=_
   unfold tY;cases dh k.h oG<;>rfl
  .simp only[bj,yM,Ye,Yu,iJ];rfl
 refine(Zi (Zo Abp)).trans ?_;have hin:e1 (u6 oG) (Za 1) [Ya (.ref b),Ya (.str w),Ya (.ref k.r),Ya (.bl k.full)] S= .ok (.bl (j9 w)) S:=dF rfl rfl;unfold Wo;by_cases h1:j9 w=true
 .rw[if_pos h1];rw[h1]at hin;refine rn ((fV hin).trans (cZ (Zh (cj rfl (mX H.hb)) (g:=xQ) (b:=.int 12) rfl ?_)));rw[T4];congr 3;simp only[Fx,Yu,Ym];exact propext ⟨λz=>iN [_] [] 1 0xc1ba0c0c1ba0c881 T1 z,λz=>iN [_] [] 1 0xc1ba0c88c1ba0c01 T1 z⟩
 rw[if_neg h1];rw[Ylt]at h1;rw[h1]at hin;refine(Zi (cW hin)).trans ?_;by_cases h2:w=eO
 .rw[if_pos h2];refine rn ((fV (M':=S) (Zh rfl rfl (ir.trans (by rw[decide_eq_true h2])))).trans (cZ ?_));by_cases h3:k.h=cu
  .rw[gY (M1:=S) (Zh h0 rfl (ir.trans (by rw[decide_eq_true h3]))),decide_eq_true h3];rfl
  .rw[lR (M1:=S) (Zh h0 rfl (ir.trans (by rw[decide_eq_false h3]))),decide_eq_false h3];rfl
 rw[if_neg h2];refine(Zi (cW (M':=S) (Zh rfl rfl (ir.trans (by rw[decide_eq_false h2]))))).trans ?_;by_cases h3:w=d9
 .rw[if_pos h3];exact rn ((fV (M':=S) (Zh rfl rfl (ir.trans (by rw[decide_eq_true h3])))).trans (cZ rfl))
 .rw[if_neg h3];exact(Zi (cW (M':=S) (Zh rfl rfl (ir.trans (by rw[decide_eq_false h3]))))).trans (cZ rfl)
variable{j:Nat}{o:MO}
theorem Wq{d:D}(hj:j<M.length)(ho:M'[j]?=Ya o)(hb:wL M.length o=false)(hne:M[j]?≠Ya o):eG M d M'= .ok d M':=by
 have ht:(M'.take M.length)[j]?=Ya o:=by rw[xY hj];exact ho
 have h1:decide (M'.take M.length=M)=false:=decide_eq_false λe=>hne (by rw[e]at ht;exact ht);have h2:(M'.take M.length).all (wL M.length)=false:=by rw[Bool.eq_false_iff];intro z;have:=h_.mp z o (xZ ht);rw[hb]at this;cases this
 unfold eG;rw[h1,h2];simp
theorem ZmV{d:D}(hl:M.length<=M'.length):∃S,eG M d M'= .ok d S/\M.length<=S.length/\∀a,a<M.length->S[a]?=M'[a]?:=by
 unfold eG;split
 .exact⟨_,rfl,by rw[Aw];omega,λa ha=>xY ha⟩
 .exact⟨_,rfl,hl,λa _=>rfl⟩
structure qI(S S':Store)(b:Nat)(ks:List Bk):Prop where
 len:S.length<=S'.length
 old:∀a,a<S.length->a∉b::gZ ks->S'[a]?=S[a]?
theorem Oc{n m:Nat}(h:n<=m):∀{l:List D},D.ref m∈l->bZ n l=false
 |d::l,hm=>by
  show(below n d&&bZ n l)=false;rcases Yo.mp hm with e|e
  .rw[←e,show below n (.ref m)=decide (m<n)from rfl,decide_eq_false (by exactλz=>lB 2 25786650641 T1 z h)];rfl
  .rw[Oc h e,yu]
variable{h:List Nat}
theorem Zo9{e:E3}{hd:List D}(he:e env S= .ok (.tup (.str h::hd)) S):Cv iW zE (Zb e (Ze)) env S= .ok (.ref S.length) (S++nObj S.length h hd):=by
 have hg:(Zb e Ze) env S= .ok [.tup (.str h::hd)] S:=Zr he rfl;have hF:zE [.ref S.length,.tup (.str h::hd)] (S++[.ins iW []])= .ok .non (S++nObj S.length h hd):=by
  have s1:Hl iW oW (Za 0) (Za 1) [Ya (.ref S.length),Ya (.tup (.str h::hd))] (S++[.ins iW []])= .nx [Ya (.ref S.length),Ya (.tup (.str h::hd))] (S++[.ins iW [(oW,.tup (.str h::hd))]]):=by refine qj (d:=.non) (Zh rfl rfl ?_);rw[Uj,Zn];simp[wO]
  have s2:Hl iW vo (Za 0) (aX (Zb (aX (Ze)) (Ze))) [Ya (.ref S.length),Ya (.tup (.str h::hd))] (S++[.ins iW [(oW,.tup (.str h::hd))]])= .nx [Ya (.ref S.length),Ya (.tup (.str h::hd))] (S++nObj S.length h hd):=by
   have l1:aX (Zb (aX (Ze)) (Ze)) [Ya (.ref S.length),Ya (.tup (.str h::hd))] (S++[.ins iW [(oW,.tup (.str h::hd))]])= .ok (.ref (S.length+2)) (S++[.ins iW [(oW,.tup (.str h::hd))],.lst [],.lst [.ref (S.length+1)]]):=by
    refine(di (M':=S++[.ins iW [(oW,.tup (.str h::hd))],.lst []]) (ds:=[.ref (S.length+1)]) (Zr ((di rfl rfl).trans ?_) rfl) rfl).trans ?_
    .simp
    .simp
   refine qj (d:=.non) (Zh l1 rfl ?_);rw[Uj,Zn];have:=Hf S [MO.ins iW [(oW,.tup (.str h::hd))],.lst [],.lst [.ref (S.length+1)]] 0 (.ins iW [(oW,.tup (.str h::hd)),(vo,.ref (S.length+2))]);rw[J9]at this;simp[wO,this]
  refine(G_ (M':=S++nObj S.length h hd) (env:=[Ya (.ref S.length),Ya (.tup (.str h::hd))]) ((Zi s1).trans s2)).trans ?_;refine Wq (j:=S.length) (o:=.ins iW [(oW,.tup (.str h::hd)),(vo,.ref (S.length+2))]) (by simp) (Zn _ _ _) ?_ ?_
  .show bZ _ [.tup (.str h::hd),.ref (S.length+2)]=false;exact Oc (m:=S.length+2) (by simp) (by simp)
  .rw[Zn];simp
 simp only[Cv,hg,R3.bind,hF]
section
variable {S:Store} {b:Nat} {k:Bk} {ks:List Bk} {w:List Nat} {d:List D}
theorem vp{v:Option D}{x:Option D}:e2 Zm (Za 1) (eC (.int 0)) [Ya (.ref b),Ya (.tup (.str w::d)),v,x] S= .ok (.str w) S:=Zh rfl rfl (yV (fW _ 0))
theorem qI.AbJ(h:n∈b::gZ ks):qI S (S.set n o) b ks:=⟨by rw[uo];exact Yt _,λa _ ha=>Yp λ(e:n=a)=>ha (e▸h)⟩
theorem qI.setG{G:Store}(h:n∈b::gZ ks):qI S ((S++G).set n o) b ks:=⟨by rw[uo,Ye];exact iM _ _,λa hl ha=>by rw[Yp λ(e:n=a)=>ha (e▸h),Yj hl]⟩
theorem Zyt:k.cn∈b::gZ (k::ks):=Yd _ (vQ _ (by simp[Bk.ads]))
theorem ZzD:k.l∈b::gZ (k::ks):=Yd _ (vQ _ (by simp[Bk.ads]))
theorem Zmq(H:cX S b (k::ks))(h1:j9 w=false)(h2:w≠eO)(h3:w≠d9)(hz:k.cur.length<1000):
  ∃S',u9 [.ref b,.tup (.str w::d)] S= .ok .non S'/\cX S' b ({k with cur:=k.cur++[.tup (.str w::d)]}::ks)/\qI S S' b (k::ks):=by
 have hk:=H.hk k Yc;refine⟨_,(G_ (M':=S.set k.cn (.lst (k.cur++[.tup (.str w::d)]))) (env:=[Ya (.ref b),Ya (.tup (.str w::d)),Yl,Yl]) (env':=[Ya (.ref b),Ya (.tup (.str w::d)),Ya (.ref k.r),Yl]) ?_).trans (Zrp (uo ..)),H.more _,qI.AbJ Zyt⟩;unfold zF;refine(Zi (Zo (H.last rfl))).trans ?_;refine(pB (M':=S) (dF vp (by show R3.ok (D.bl (j9 w)) S=_;rw[h1]))).trans ?_;refine(pB (M':=S) (Zh vp rfl (ir.trans (by rw[decide_eq_false h2])))).trans ?_;refine(pB (M':=S) (Zh vp rfl (ir.trans (by rw[decide_eq_false h3])))).trans ?_;exact nD (M':=S) (Zh (dF rfl hk.lists) (dF rfl (yL 1)) (iC hk.hl (getD_last _ _))) hk.hn rfl hk.hn (nT hz (by decide))
theorem Zqj(H:cX S b (k::ks))(h1:j9 w=true)(hz:ks.length<100):
  ∃S',u9 [.ref b,.tup (.str w::d)] S= .ok .non S'/\cX S' b (Oa S.length w d::k::ks)/\qI S S' b (k::ks):=by
 have hlt:=H.zR;refine⟨_,(G_ (M':=(S++nObj S.length w d).set b (.lst (((k::ks).map λk=>D.ref k.r).reverse++[.ref S.length]))) (env:=[Ya (.ref b),Ya (.tup (.str w::d)),Yl,Yl]) (env':=[Ya (.ref b),Ya (.tup (.str w::d)),Ya (.ref k.r),Yl]) ?_).trans (Wq (j:=b) hlt (Yw (by rw[Ye];exact Ga _ hlt)) (Oc (m:=S.length) (Yt _) (Y9 _ Yc)) ?_),H.push w d,qI.setG Yc⟩
 .unfold zF;refine(Zi (Zo (H.last rfl))).trans ?_;refine(fV (M':=S) (dF vp (by show R3.ok (D.bl (j9 w)) S=_;rw[h1]))).trans ?_;exact nD (M':=S) rfl H.hb (Zo9 (h:=w) (hd:=d) rfl) (bK H.hb _) (by simp only[Fx,Yu,Ym];exact nT (show ks.length+1<1000 by exact lA 1 0x3e83ba0c1642b011 T1 hz) (by decide))
 .rw[H.hb];intro e;have:=congrArg (λo:Option MO=>match o with|some (.lst x)=>x.length|_=>0) e;simp at this
theorem ZpY(H:cX S b (k::ks))(hz:k.cl.length<100):
  ∃S',u9 [.ref b,.tup (.str eO::d)] S= .ok .non S'/\cX S' b ({k with cl:=k.cl++[(k.cn,k.cur)],cn:=S.length,cur:=[]}::ks)/\qI S S' b (k::ks):=by
 have hk:=H.hk k Yc;have hlt:k.l<S.length:=hk.lt _ (by simp[Bk.ads]);refine⟨_,(G_ (M':=(S++[MO.lst []]).set k.l (MO.lst ((k.cl.map λp=>D.ref p.1)++[D.ref k.cn]++[D.ref S.length]))) (env:=[Ya (.ref b),Ya (.tup (.str eO::d)),Yl,Yl]) (env':=[Ya (.ref b),Ya (.tup (.str eO::d)),Ya (.ref k.r),Yl]) ?_).trans (Wq (j:=k.l) hlt (Yw (by rw[Ye];exact Ga _ hlt)) (Oc (m:=S.length) (Yt _) (Y9 _ Yc)) ?_),H.els,qI.setG ZzD⟩
 .unfold zF;refine(Zi (Zo (H.last rfl))).trans ?_;refine(pB (M':=S) (dF vp rfl)).trans ?_;refine(fV (M':=S) (Zh vp rfl (ir.trans (by rw[decide_eq_true rfl])))).trans ?_;exact nD (M':=S) (dF rfl hk.lists) hk.hl (di rfl rfl) (bK hk.hl _) (by simp only[Ye,Yu,iJ];exact nT (show k.cl.length+1<1000 by exact lA 1 0x3e83ba0c1642b011 T1 hz) (by decide))
 .rw[hk.hl];intro e;have:=congrArg (λo:Option MO=>match o with|some (.lst x)=>x.length|_=>0) e;simp at this
noncomputable def Bk.whole(k:Bk):D:=.tup (.str k.h::k.hd++(k.cl++[(k.cn,k.cur)]).map λp=>D.tup p.2)
theorem ZqB{k2:Bk}(H:cX S b (k::k2::ks))(hz:k.cl.length<100)(hd:k.hd.length<100)(hc:k2.cur.length<1000):
  ∃S',u9 [.ref b,.tup (.str d9::d)] S= .ok .non S'/\cX S' b ({k2 with cur:=k2.cur++[k.whole]}::ks)/\qI S S' b (k::k2::ks):=by
 have hk:=H.hk k Yc
 let S1:=S.set b (.lst ((k2::ks).map λk=>D.ref k.r).reverse)
 have H1:cX S1 b (k2::ks):=H.pop;have hk1:qH S1 k:=hk.congr λa ha=>Yp λ(e:b=a)=>H.rest.2.1 (by rw[e];exact ha)
 let S2:=S1++[MO.lst ((k.cl++[(k.cn,k.cur)]).map λp=>D.tup p.2)]
 have H2:cX S2 b (k2::ks):=H1.app _;have hk2:=H2.hk k2 Yc
 let S3:=S2.set k2.cn (.lst (k2.cur++[k.whole]))
 have H3:cX S3 b ({k2 with cur:=k2.cur++[k.whole]}::ks):=H2.more _;have hl3:S.length<=S3.length:=by simp[S3,S2,S1]
 have lc:fU (bW (e1 (jQ iW vo) (Za 2))) 1 (bB 4) [] (aC gh (Zb (Za 4) (Ze))) [Ya (.ref b),Ya (.tup (.str d9::d)),Ya (.ref k.r),Yl] S1= .ok (.ref S1.length) S2:=by
  refine Wg (enc:=λp:Nat×List D=>D.ref p.1) (h:=λp=>D.tup p.2) (as:=k.cl++[(k.cn,k.cur)]) (M1:=S1) (lock:=Ya k.l) (λe=>∃a1 a2 a3 a4 a5,e=[a1,a2,a3,a4,a5]) ?_ ?_ ⟨_,_,_,_,_,rfl⟩ ?_ (by simp;exact lA 1 0x1869f5b00642b011 T1 hz)
  .show(e1 (jQ iW vo) (Za 2) _ _).bind _=_;rw[dF (d:=.ref k.l) rfl hk1.lists];simp only[R3.bind,hk1.hl,iY];rfl
  .intro n hn;cases hn;rw[iY];exact hk1.hl
  .intro p hp env ⟨a1,a2,a3,a4,a5,e⟩;subst e;refine⟨_,rfl,⟨_,_,_,_,_,rfl⟩,λx=>cj rfl (n_ (bK ?_ _))⟩;rcases eY.mp hp with q|q
   .exact hk1.hc p q
   .rw[Yx.mp q];exact hk1.hn
 have main:zF [Ya (.ref b),Ya (.tup (.str d9::d)),Yl,Yl] S= .nx [Ya (.ref b),Ya (.tup (.str d9::d)),Ya (.ref k.r),Ya k.whole] S3:=by
  unfold zF;refine(Zi (Zo (H.last rfl))).trans ?_;refine(pB (M':=S) (dF vp rfl)).trans ?_;refine(pB (M':=S) (Zh vp rfl (ir.trans (by rw[decide_eq_false (by decide)])))).trans ?_;refine(fV (M':=S) (Zh vp rfl (ir.trans (by rw[decide_eq_true rfl])))).trans ?_;have hb:S[b]?=Ya (.lst (((k2::ks).map λk=>D.ref k.r).reverse++[D.ref k.r])):=by rw[H.hb,Ys,vR]
  refine(Zi (qj (Ob rfl hb))).trans ?_;refine(Zi (Zo (d:=k.whole) (M':=S2) (Zh (dF rfl hk1.head) (cj lc (n_ (Zn S1 _ []))) ?_))).trans ?_
  .rw[TY];refine if_pos ?_;simp only[Ym,Yu,Ye,Fz];exact Yi (show _<=1000 by exact lB 2 0x3e83baec1ca0cc0642b111642b011 T1 hd hz) (by decide)
  .exact nD (M':=S2) (Zh (dF (H2.last rfl) hk2.lists) (dF rfl (yL 1)) (iC hk2.hl (getD_last _ _))) hk2.hn rfl hk2.hn (nT hc (by decide))
 obtain⟨S',e,l1,o1⟩:=ZmV (M:=S) (M':=S3) (d:=.non) hl3;have old:∀a,a<S.length->a∉b::gZ (k::k2::ks)->S3[a]?=S[a]?:=λa hlt ha=>by have n1:k2.cn≠a:=λz=>ha (Yd _ (by rw[rR,rR,←z];exact Y9 _ (vQ _ (by simp[Bk.ads]))));have n2:b≠a:=λz=>ha (by rw[z];exact Yc);show(S2.set k2.cn _)[a]?=_;rw[Yp n1];show(S1++_)[a]?=_;rw[Yj (by simp[S1];exact hlt)];exact Yp n2
 refine⟨S',(G_ main).trans e,H3.frame λa ha=>o1 a ?_,l1,λa hl ha=>(o1 a hl).trans (old a hl ha)⟩;rcases Yo.mp ha with z|z
 .rw[z];exact H.zR
 .refine H.lt a ?_;rw[rR];exact Y9 _ z
end
structure Pf where
 h:List Nat
 hd:List D
 cl:List (List D)
 cur:List D
noncomputable def Bk.pf(k:Bk):Pf:=⟨k.h,k.hd,k.cl.map (·.2),k.cur⟩
noncomputable def Pf.whole(k:Pf):D:=.tup (.str k.h::k.hd++(k.cl++[k.cur]).map D.tup)
theorem Zr8(k:Bk):k.whole=k.pf.whole:=by simp[Bk.whole,Pf.whole,Bk.pf]
noncomputable def Rw.tl(r:Rw):List D:=r.xs.map D.str++r.ts.map λt=>D.tup t.flat
theorem Od(r:Rw):r.deed= .str r.h::r.tl:=rfl
noncomputable def stepK(r:Rw)(k:Pf)(fs:List Pf):Option (List Pf):=if j9 r.h=true then(if fs.length+1<=12 then Ya (⟨r.h,r.tl,[],[]⟩::k::fs)else Yl)
  else if r.h=eO then(if k.h=cu/\k.cl=[]then Ya (⟨k.h,k.hd,[k.cur],[]⟩::fs)else Yl)
  else if r.h=d9 then(match fs with
   |[]=>Yl|k2::fs=>if tY k.h=((k.cl.length+1:Nat):Int)/\k.hd.length<100/\k.cl.length<100/\k2.cur.length<1000 then Ya (⟨k2.h,k2.hd,k2.cl,k2.cur++[k.whole]⟩::fs)else Yl)
  else if k.cur.length<1000 then Ya (⟨k.h,k.hd,k.cl,k.cur++[.tup r.deed]⟩::fs)else Yl
noncomputable def jx(r:Rw):List Pf->Option (List Pf)
 |[]=>Yl|k::fs=>stepK r k fs
structure xG(M S:Store)(b:Nat)(ks:List Bk):Prop where
 bk:cX S b ks
 len:M.length<=S.length
 pre:∀a,a<M.length->S[a]?=M[a]?
 hi:∀a∈b::gZ ks,M.length<=a
theorem xG.next{b:Nat}{ks':List Bk}(I:xG M S b ks)(h:cX S' b ks')(st:qI S S' b ks)(ha:∀a∈gZ ks',a∈gZ ks\/S.length<=a):xG M S' b ks':=
 ⟨h,Yi I.len st.len,λa hl=>(st.old a (Y7 hl I.len) λz=>by have:=I.hi a z;exact lB 2 25787699201 T1 this hl).trans (I.pre a hl),λa z=>by
  rcases Yo.mp z with e|e
  .exact I.hi a (by rw[e];exact Yc)
  .rcases ha a e with q|q
   .exact I.hi a (Yd _ q)
   .exact Yi I.len q⟩
theorem Zoa{b:Nat}(I:xG M S b ks){fs:List Pf}(hp:jx r (ks.map Bk.pf)=Ya fs):
  Di [.ref b,.str r.h] S= .ok (.bl true) S/\∃S' ks',u9 [.ref b,.tup r.deed] S= .ok .non S'/\xG M S' b ks'/\ks'.map Bk.pf=fs:=by
 cases ks with
 |nil=>cases hp|cons k ks=>
  rw[ZlC I.bk r.h];rw[Ys]at hp;have hp:stepK r k.pf (ks.map Bk.pf)=Ya fs:=hp;unfold stepK at hp;unfold Wo;by_cases h1:j9 r.h=true
  .rw[if_pos h1]at hp ⊢;by_cases hl:(ks.map Bk.pf).length+1<=12
   .rw[if_pos hl]at hp;rw[Yu]at hl;obtain⟨S',e,q1,q2⟩:=Zqj (d:=r.tl) I.bk h1 (lA 1 0x642b01c1ba0c01 T1 hl);refine⟨by rw[decide_eq_true hl],S',_,e,I.next q1 q2 λa ha=>?_,Y1 hp⟩;rw[rR]at ha;rcases eY.mp ha with z|z
    .right;simp[Bk.ads]at z;omega
    .exact .inl z
   .rw[if_neg hl]at hp;cases hp
  rw[if_neg h1]at hp ⊢;rw[Ylt]at h1;by_cases h2:r.h=eO
  .rw [if_pos h2]at hp ⊢;by_cases hc:k.pf.h=cu/\k.pf.cl=[]
   .rw[if_pos hc]at hp;have hcl:k.cl=[]:=Ar.mp hc.2;have hh:k.h=cu:=hc.1;obtain⟨S',e,q1,q2⟩:=ZpY (d:=r.tl) I.bk (by rw[hcl];decide);have hf:k.full=false:=by unfold Bk.full;rw[hh,hcl];rfl
    refine⟨by rw[decide_eq_true hh,hf];rfl,S',_,by rw[Od,h2];exact e,I.next q1 q2 λa ha=>?_,?_⟩
    .rw[rR]at ha ⊢;rcases eY.mp ha with z|z
     .simp only[Bk.ads,hcl,jh,Ys,uq,Yo,qL,or_false]at z;rcases z with z|z|z|z
      .exact .inl (vQ _ (by simp[Bk.ads,z]))
      .exact .inl (vQ _ (by simp[Bk.ads,z]))
      .exact .inr (j6 z.symm)
      .exact .inl (vQ _ (by simp[Bk.ads,z]))
     .exact .inl (Y9 _ z)
    .rw[←Y1 hp,Ys];simp[Bk.pf,hcl]
   .rw[if_neg hc]at hp;cases hp
  rw[if_neg h2]at hp ⊢;by_cases h3:r.h=d9
  .rw [if_pos h3]at hp ⊢;cases ks with
   |nil=>cases hp|cons k2 ks=>
    simp only[Ys]at hp;by_cases hc:tY k.pf.h=((k.pf.cl.length+1:Nat):Int)/\k.pf.hd.length<100/\k.pf.cl.length<100/\k2.pf.cur.length<1000
    .rw[if_pos hc]at hp;have hcl:k.pf.cl.length=k.cl.length:=Yu _;obtain⟨c1,c2,c3,c4⟩:=hc;rw[hcl]at c1 c3;obtain⟨S',e,q1,q2⟩:=ZqB (d:=r.tl) I.bk c3 c2 c4;refine⟨by rw[show k.full=true from decide_eq_true c1],S',_,by rw[Od,h3];exact e,I.next q1 q2 λa ha=>?_,?_⟩
     .left;rw[rR];exact Y9 _ ha
     .rw[←Y1 hp,Ys,Zr8];rfl
    .rw[if_neg hc]at hp;cases hp
  rw[if_neg h3]at hp ⊢;by_cases hc:k.pf.cur.length<1000
  .rw[if_pos hc]at hp;obtain⟨S',e,q1,q2⟩:=Zmq (d:=r.tl) I.bk h1 h2 h3 hc;exact⟨rfl,S',_,e,I.next q1 q2 λa ha=>.inl ha,Y1 hp⟩
  .rw[if_neg hc]at hp;cases hp
noncomputable def j_:List Rw->List Pf->Option (List Pf)
 |[],fs=>Ya fs|r::rs,fs=>(jx r fs).bind (j_ rs)
noncomputable abbrev rdB:S3:=Zq (aA 5 (Zz HW (Zb (Za 4) (Ze)))) (Zq (aJ (eE (e2 n8 (Za 5) (eC .non)) (e1 jm (Zz Di (Zb (Za 2) (Zb (e2 Zm (Za 5) (eC (.int 0))) (Ze)))))) (rm) (aW)) (aV (Zz u9 (Zb (Za 2) (Zb (Za 5) (Ze))))))
noncomputable abbrev xH(q:Int×Nat×Rw):D:=.tup [.int q.1,.ref q.2.1]
theorem Zo2{M:Store}{b:Nat}{it:fZ}(hit:∀S,(∀a,a<M.length->S[a]?=M[a]?)->locked it S=true){v0 v1:Option D}:
  ∀(L:List (Int×Nat×Rw)) (S:Store) (ks:List Bk) (fs:List Pf) (x3 x4 x5:Option D),xG M S b ks->(∀q∈L,M[q.2.1]?=Ya (.lst (q.2.2.words.map D.str))/\cG q.2.2)->j_ (L.map (·.2.2)) (ks.map Bk.pf)=Ya fs ->
  ∃S' ks' y3 y4 y5,dB it (ph [3,4]) rdB (L.map xH) [v0,v1,Ya (.ref b),x3,x4,x5] S= .nx [v0,v1,Ya (.ref b),y3,y4,y5] S'/\xG M S' b ks'/\ks'.map Bk.pf=fs
 |[],S,ks,fs,x3,x4,x5,I,_,hr=>⟨S,ks,x3,x4,x5,by show dB _ _ _ [] _ _=_;rw[qi,if_pos (hit S I.pre)],I,Y1 hr⟩|q::L,S,ks,fs,x3,x4,x5,I,hL,hr=>by
  obtain⟨hw,ok⟩:=hL q Yc;rw[Ys]at hr;cases hs:jx q.2.2 (ks.map Bk.pf)with
  |none=>unfold j_ at hr;rw[hs]at hr;cases hr|some f1=>
   unfold j_ at hr;rw[hs]at hr;obtain⟨c1,S1,k1,p1,I1,e1⟩:=Zoa I hs;rw[←e1]at hr;obtain⟨S',ks',y3,y4,y5,h,I',e'⟩:=Zo2 hit L S1 k1 fs (Ya (.int q.1)) (Ya (.ref q.2.1)) (Ya (.tup q.2.2.deed)) I1 (λp hp=>hL p (Yd _ hp)) hr;refine⟨S',ks',y3,y4,y5,?_,I',e'⟩;have hwS:S[q.2.1]?=Ya (.lst (q.2.2.words.map D.str)):=(I.pre _ (Yf.mp hw).1).trans hw;have hb:rdB [v0,v1,Ya (.ref b),Ya (.int q.1),Ya (.ref q.2.1),x5] S= .nx [v0,v1,Ya (.ref b),Ya (.int q.1),Ya (.ref q.2.1),Ya (.tup q.2.2.deed)] S1:=by refine(Zi (Zo (dD rfl (Zmd ok hwS)))).trans ?_;refine(Zi (cW (M':=S) ((ou (M1:=S) (Zh rfl rfl rfl)).trans (dF (rD rfl (Zh rfl rfl (yV (fW _ 0))) c1) rfl)))).trans ?_;exact qj (rD rfl rfl p1)
   rw[Ys,pq,if_pos (hit S I.pre)];simp only[ph,LC,Lz,lz,lG,hb];exact h
noncomputable abbrev jV:List Nat:=[112,114,111,103,114,97,109]
theorem Zr2(M:Store):xG M (M++nObj M.length jV []++[.lst [.ref M.length]]) (M.length+3) [Oa M.length jV []]:=by
 have n:∀j,(M++nObj M.length jV []++[.lst [.ref M.length]])[M.length+j]?=(nObj M.length jV []++[.lst [.ref M.length]])[j]?:=λj=>by rw[gG,rC]
 refine⟨⟨(n 3).trans rfl,λk hk=>?_,?_,?_⟩,by simp,λa ha=>by rw[gG,Yj ha],λa ha=>?_⟩
 .rw[Yx.mp hk];exact⟨(n 0).trans rfl,(n 2).trans rfl,(λp hp=>nomatch hp),(n 1).trans rfl⟩
 .simp[gZ,Bk.ads]
 .simp[gZ,Bk.ads]
 .simp[gZ,Bk.ads]at ha;omega
theorem ZgN{L:List (Int×Nat×Rw)}{z:Int}(hn:M[n]?=Ya (.lst (L.map xH)))(hL:∀q∈L,M[q.2.1]?=Ya (.lst (q.2.2.words.map D.str))/\cG q.2.2)(hr:j_ (L.map (·.2.2)) [⟨jV,[],[],[]⟩]=Ya [⟨jV,[],[],ds⟩])(xJ:bZ M.length ds=true):Np [.ref n,.int z] M= .ok (.tup ds) M:=by
 let S0:=M++nObj M.length jV []++[MO.lst [.ref M.length]]
 have hnl:=(Yf.mp hn).1;obtain⟨S',ks',y3,y4,y5,h,I,e⟩:=Zo2 (M:=M) (it:=⟨L.map xH,Ya n⟩) (λS hS=>decide_eq_true ((hS n hnl).trans hn)) (v0:=Ya (.ref n)) (v1:=Ya (.int z)) L S0 [Oa M.length jV []] _ Yl Yl Yl (Zr2 M) hL hr
 match ks',e,I with
 |k::k'::r,e,_=>exact absurd (congrArg ur e) (by simp)|[],e,_=>exact absurd (congrArg ur e) (by simp)|[k],e,I=>
  have e:=(jc e).1;have hcl:k.cl=[]:=Ar.mp (congrArg Pf.cl e);have hcur:k.cur=ds:=congrArg Pf.cur e;have hk:=I.bk.hk k Yc;refine(jN (M':=S') (d:=.tup ds) (env:=[Ya (.ref n),Ya (.int z),Yl,Yl,Yl,Yl]) ?_).trans ?_
  .unfold VG;have m1:=Zo9 (env:=[Ya (.ref n),Ya (.int z),Yl,Yl,Yl,Yl]) (S:=M) (e:=bV (Zb (eC (.str jV)) (Ze))) (h:=jV) (hd:=[]) (gJ rfl rfl);refine(Zi (Zo (d:=.ref (M.length+3)) (M':=S0) ((di (Zr m1 rfl) rfl).trans (by simp[S0])))).trans ?_;have hi0:bW (Za 0) [Ya (.ref n),Ya (.int z),Ya (.ref (M.length+3)),Yl,Yl,Yl] S0= .ok ⟨L.map xH,Ya n⟩ S0:=by
    show(R3.ok (D.ref n) S0).bind _=_;simp only[R3.bind];rw[show S0[n]?=Ya (.lst (L.map xH))from((Zr2 M).pre n hnl).trans hn]
   refine(Zi ((rA hi0).trans h)).trans ?_;refine(Zi (cW (M':=S') (Zh (cj rfl (mX I.bk.hb)) rfl (by rw[jM];rfl)))).trans ?_;refine cZ (cj (Zh (dF (Zh rfl rfl (iC I.bk.hb (fW _ 0))) hk.lists) rfl (iC hk.hl (d:=.ref k.cn) (by rw[hcl];exact fW _ 0))) ((n_ hk.hn).trans (by rw[hcur])))
  .have ht:S'.take M.length=M:=by
    apply x_;intro a;by_cases ha:a<M.length
    .rw[xY ha];exact I.pre a ha
    .rw[JC (by rw[Aw];exact lC 2 137741013073 T1 ha (Rm _ _)),JC (j5 ha)]
   unfold eG;rw[show below M.length (.tup ds)=true from xJ,ht,decide_eq_true rfl];rfl
noncomputable def jW:Option (List (List Nat))->List Nat
 |none=>[]|some ws=>glue [32] ws
structure zU(ws:List (List Nat)):Prop where
 ne:ws≠[]
 fr:∀w∈ws,32∉w/\10∉w
 tx:glue [32] ws≠[]
 le:(glue [32] ws).length<=10000
noncomputable def rowsOf:Nat->List (Option (List (List Nat)))->List (Int×List (List Nat))
 |_,[]=>[]|k,Yl::r=>rowsOf (k+1) r|k,Ya ws::r=>((k:Nat),ws)::rowsOf (k+1) r
theorem Wr:∀(k:Nat) (Ls:List (Option (List (List Nat)))),(rowsOf k Ls).map (·.2)=Ls.filterMap id
 |_,[]=>rfl|k,Yl::r=>Wr (k+1) r|k,Ya ws::r=>congrArg (ws:: ·) (Wr (k+1) r)
theorem Ws:∀(k:Nat) (Ls:List (Option (List (List Nat)))),(rowsOf k Ls).length<=Ls.length
 |_,[]=>Yt _|k,Yl::r=>sS (Ws (k+1) r)|k,Ya _::r=>pZ (Ws (k+1) r)
noncomputable def lu(n:Nat):List (Int×List (List Nat))->List D
 |[]=>[]|q::r=>.tup [.int q.1,.ref n]::lu (n+1) r
noncomputable abbrev pJ(L:List (Int×List (List Nat))):Store:=L.map λq=>MO.lst (q.2.map D.str)
noncomputable abbrev b7:E3:=bV (Zb (Za 4) (Zb (aG fL ql (Za 5) (Zb (eC (.str [32])) (Ze))) (Ze)))
theorem Es{ty:D->Store->Bool}{me:D->List D->Store->R3 D}{o:E3}{g:d_}{M M1 M2 M3:Store}{a d:D}(h1:o env M= .ok a M1)(hi:ty a M1=true)(h2:g env M1= .ok ds M2)(h3:me a ds M2= .ok d M3):aG ty me o g env M= .ok d M3:=by simp only[aG,h1,R3.bind,hi,if_true,h2,h3]
theorem Wt(h:x.length<=900000):ql (.str x) [.str [c]] M= .ok (.ref M.length) (M++[.lst ((pC x [c]).map D.str)]):=by rw[ZkP,if_pos ⟨by simp,Yi (show x.length+2<=1000000 by exact lA 1 0xf42405b21b0c0dbba05b001 T1 h) (by decide)⟩];rfl
theorem Wu{M:Store}{lk:List (Nat×List D)}(hlk:jO lk M=true):∀(Ls:List (Option (List (List Nat)))) (k:Nat) (acc:List D) (W:Store) (v0 v1 v2 v3 x y:Option D),(∀ws,Ya ws∈Ls->zU ws)->acc.length+Ls.length<=10000 ->
  jP lk (ph [4,5]) [e2 fJ (Za 5) (eC (.str []))] b7 M.length (mY k (Ls.map λl=>D.str (jW l))) [v0,v1,v2,v3,x,y] (M++ .lst acc::W)
   = .ok (.ref M.length) (M++ .lst (acc++lu (M.length+1+W.length) (rowsOf k Ls))::(W++pJ (rowsOf k Ls)))
 |[],k,acc,W,v0,v1,v2,v3,x,y,_,_=>by show jP _ _ _ _ _ [] _ _=_;simp only[jP,Ij hlk,if_true,rowsOf,lu,pJ,uq,jZ]|none::Ls,k,acc,W,v0,v1,v2,v3,x,y,hL,hl=>by rw[Ym]at hl;have ih:=Wu hlk Ls (k+1) acc W v0 v1 v2 v3 (Ya (.int (k:Nat))) (Ya (.str [])) (λws hw=>hL ws (Yd _ hw)) (lB 1 0x27104b10c027104ba1c0c01 T1 hl);have ht:e2 fJ (Za 5) (eC (.str [])) [v0,v1,v2,v3,Ya (.int (k:Nat)),Ya (.str [])] (M++ .lst acc::W)= .ok (.bl false) (M++ .lst acc::W):=Zh rfl rfl (ZyH rfl);show jP _ _ _ _ _ (.tup [.int (k:Nat),.str []]::mY (k+1) (Ls.map λl=>D.str (jW l))) _ _=_;simp only[jP,Ij hlk,if_true,ph,LC,Lz,lz,lG,G9,ht,R3.bind,Bo,if_false];exact ih|some ws::Ls,k,acc,W,v0,v1,v2,v3,x,y,hL,hl=>by
  rw[Ym]at hl;have ok:=hL ws Yc
  let S:=M++ .lst acc::W
  have hS:S.length=M.length+1+W.length:=by simp[S];exact Y0 (lB 0 1790139547840 T1) (lB 0 0xa1c0c1a0cc0 T1)
  have ih:=Wu hlk Ls (k+1) (acc++[.tup [.int (k:Nat),.ref S.length]]) (W++[.lst (ws.map D.str)]) v0 v1 v2 v3 (Ya (.int (k:Nat))) (Ya (.str (glue [32] ws))) (λws hw=>hL ws (Yd _ hw)) (by simp;exact lB 1 0x27104b1a0cc027104ba1c0c01 T1 hl);have ht:e2 fJ (Za 5) (eC (.str [])) [v0,v1,v2,v3,Ya (.int (k:Nat)),Ya (.str (glue [32] ws))] S= .ok (.bl true) S:=Zh rfl rfl (ZzB ok.tx);have hsp:pC (glue [32] ws) [32]=ws:=Wc 32 ws ok.ne λw hw=>(ok.fr w hw).1;have he:b7 [v0,v1,v2,v3,Ya (.int (k:Nat)),Ya (.str (glue [32] ws))] S= .ok (.tup [.int (k:Nat),.ref S.length]) (S++[.lst (ws.map D.str)]):=by refine gJ (Zr rfl (Zr (Es rfl rfl (Zr rfl rfl) ((Wt (Yi ok.le (by decide))).trans (by rw[hsp]))) rfl)) rfl
  have gt:(S++[MO.lst (ws.map D.str)])[M.length]?=Ya (.lst acc):=bK (Zn _ _ _) _;have lt:acc.length<SZ:=sO (show acc.length<=10000 by exact lB 1 0x27104b0027104ba1c0c01 T1 hl) (by decide);have st:(S++[MO.lst (ws.map D.str)]).set M.length (.lst (acc++[.tup [.int (k:Nat),.ref S.length]]))=M++ .lst (acc++[.tup [.int (k:Nat),.ref S.length]])::(W++[.lst (ws.map D.str)]):=by simp[S]
  show jP _ _ _ _ _ (.tup [.int (k:Nat),.str (glue [32] ws)]::mY (k+1) (Ls.map λl=>D.str (jW l))) _ S=_;have hlS:jO lk S=true:=Ij hlk _;simp only[jP,hlS,if_true,ph,LC,Lz,lz,lG,G9,G8,ht,R3.bind,he,gt,lt,st];rw[ih];simp only[rowsOf,lu,pJ,Ys,gG,pW,jh,Ye,iJ,hS,qP]
noncomputable abbrev eQ:List Nat:=[116,97,107,101]
variable{tk:List (List Nat)}
theorem ZrC{z:Int}{w:Nat}(hw:M[w]?=Ya (.lst ((eQ::tk).map D.str)))(h0:tk≠[])(h6:tk.length<=6)(nd:tk.Nodup)(nm:∀x∈tk,fO x):
  Nj [.tup [.int z,.ref w]] M= .ok (.tup (tk.map D.str)) M:=by
 have hpos:1<=tk.length:=Ykm λe=>h0 (Fw.mp e)
 let M1:=M++[MO.lst (tk.map D.str)]
 have h1:M1[M.length]?=Ya (.lst (tk.map D.str)):=Zn _ _ _;refine Rt.pure (G:=[.lst (tk.map D.str),.lst (tk.map λ_=>D.bl true)]) (env:=[Ya (.tup [.int z,.ref w]),Yl]) ?_ (Ep tk);unfold VD;have s1:dW (e2 Zm (Za 0) (eC (.int 1))) (dw (eC (.int 1))) (fK) [Ya (.tup [.int z,.ref w]),Yl] M= .ok (.ref M.length) M1:=by refine(Io (a:=Ya ((1:Nat):Int)) (b:=Yl) (Zh rfl rfl (yV (fW _ 1))) rfl rfl hw).trans ?_;rw[El];rfl
 refine(Zi (Zo s1)).trans ?_;have ln:∀{a b:Option D},aC bw (Zb (Za 1) (Ze)) [a,Ya (.ref M.length)] M1= .ok (.int (tk.length:Int)) M1:=(cj rfl (mX h1)).trans (by rw[Yu]);have c1:e2 fQ (aC bw (Zb (Za 1) (Ze))) (eC (.int 1)) [Ya (.tup [.int z,.ref w]),Ya (.ref M.length)] M1= .ok (.bl false) M1:=Zh (ln (b:=Yl)) rfl (by rw[nZ,decide_eq_false (by exactλz=>iN [_] [] 2 415002921105 T1 z hpos)]);have c2:e2 cV (aC bw (Zb (Za 1) (Ze))) (vH) [Ya (.tup [.int z,.ref w]),Ya (.ref M.length)] M1= .ok (.bl false) M1:=Zh (ln (b:=Yl)) (g:=vH) (b:=.int 6) rfl (by rw[jM,decide_eq_false (by exactλz=>iN [_] [] 2 0x661b0010861b91 T1 z h6)]);have c3:e2 fJ (aC M_ (Zb (Za 1) (Ze))) (aC bw (Zb (Za 1) (Ze))) [Ya (.tup [.int z,.ref w]),Ya (.ref M.length)] M1= .ok (.bl false) M1:=by refine Zh (cj rfl (Zob h1 (lA 1 22174922551297 T1 h6))) (ln (b:=Yl)) ?_;rw[ZhY (by simpa using nd)];simp
 refine(Zi (cW ((ou c1).trans ((ou c2).trans c3)))).trans ?_;have hi:bW (Za 1) [Ya (.tup [.int z,.ref w]),Ya (.ref M.length)] M1= .ok ⟨tk.map D.str,Ya M.length⟩ M1:=by show(R3.ok (D.ref M.length) M1).bind _=_;simp only[R3.bind,h1]
 have l1:=tM (h:=λ_=>D.bl true) (own:=1) (i:=2) (elt:=Zz oH (Zb (Za 2) (Ze))) hi (λm e=>by cases e;exact h1)
  (λx hx M'=>dD rfl ((nm x hx).is M')) (lA 1 0x186a05b0061b001 T1 h6)
 have t1:=all_map (p:=λ_=>true) (l:=tk) (Zn M1 (MO.lst (tk.map λ_=>D.bl true)) []);rw[show(tk.all λ_=>true)=true from h_.mpr λ_ _=>rfl]at t1;refine(Zi (cW (M':=M1++[.lst (tk.map λ_=>D.bl true)]) (dF (cj l1 t1) rfl))).trans ?_;refine cZ ((cj rfl (n_ (bK h1 _))).trans ?_);simp[M1]
noncomputable def xK(n:Nat):List (Int×List (List Nat))->List Rw->List (Int×Nat×Rw)
 |q::L,r::rs=>(q.1,n,r)::xK (n+1) L rs|_,_=>[]
theorem Wv:∀(n:Nat) (L:List (Int×List (List Nat))) (rs:List Rw),L.map (·.2)=rs.map Rw.words->(xK n L rs).map xH=lu n L/\(xK n L rs).map (·.2.2)=rs
 |_,[],[],_=>⟨rfl,rfl⟩|_,[],_::_,h=>nomatch h|_,_::_,[],h=>nomatch h|n,q::L,r::rs,h=>by obtain⟨h1,h2⟩:=Wv (n+1) L rs (jc h).2;exact⟨by show xH (q.1,n,r)::(xK (n+1) L rs).map xH=_;rw[h1];rfl,by show r::(xK (n+1) L rs).map (·.2.2)=_;rw[h2]⟩
theorem Ww{S:Store}:∀(n:Nat) (L:List (Int×List (List Nat))) (rs:List Rw),L.map (·.2)=rs.map Rw.words->(∀j,j<L.length->S[n+j]?=(pJ L)[j]?)->(∀r∈rs,cG r) ->
  ∀q∈xK n L rs,S[q.2.1]?=Ya (.lst (q.2.2.words.map D.str))/\cG q.2.2
 |_,[],[],_,_,_,q,hq=>nomatch hq|_,[],_::_,h,_,_,_,_=>nomatch h|_,_::_,[],h,_,_,_,_=>nomatch h|n,p::L,r::rs,h,hS,ok,q,hq=>by
  rcases Yo.mp hq with e|e
  .rw[e];refine⟨(hS 0 (by simp)).trans ?_,ok r Yc⟩;show Ya (MO.lst (p.2.map D.str))=_;rw[show p.2=r.words from(jc h).1]
  .exact Ww (n+1) L rs (jc h).2 (λj hj=>by have:=hS (j+1) (by simpa using hj);rw[qP,mC 1 j];exact this) (λr hr=>ok r (Yd _ hr)) q e
variable{rs:List Rw}
theorem ZpM{Ls:List (Option (List (List Nat)))}(hne:Ls≠[])(hLs:∀ws,Ya ws∈Ls->zU ws)(hn:Ls.length<=5000)(ht:(glue [10] (Ls.map jW)).length<=900000)(Abq:Ls.filterMap id=(if tk=[]then[]else[eQ::tk])++rs.map Rw.words)(hok:∀r∈rs,cG r)(h6:tk.length<=6)(nd:tk.Nodup)(nm:∀x∈tk,fO x)(hr:j_ rs [⟨jV,[],[],[]⟩]=Ya [⟨jV,[],[],ds⟩])(xJ:∀n,bZ n ds=true):HX [.str (glue [10] (Ls.map jW))] M= .ok (.tup [.tup (tk.map D.str),.tup ds]) M:=by
 let T:=glue [10] (Ls.map jW)
 let M1:=M++[MO.lst (Ls.map λl=>D.str (jW l))]
 let L:=rowsOf 1 Ls
 let M2:=M1++MO.lst (lu (M1.length+1) L)::pJ L
 have hfree:∀t∈Ls.map jW,10∉t:=by
  intro t hm;obtain⟨l,hl,rfl⟩:=dN.mp hm;cases l with
  |none=>intro z;cases z|some ws=>
   have ok:=hLs ws hl;have key:∀vs:List (List Nat),(∀w∈vs,10∉w)->10∉glue [32] vs:=by
    intro vs
    induction vs with
    |nil=>intro _ z;cases z|cons v vs ih=>
     intro hv;cases vs with
     |nil=>exact hv v Yc|cons u us=>
      rw[tW];intro z;rcases eY.mp z with z|z
      .exact hv v Yc z
      .rcases eY.mp z with z|z
       .cases Yx.mp z
       .exact ih (λw hw=>hv w (Yd _ hw)) z
   exact key ws λw hw=>(ok.fr w hw).2
 have hsp:(pC T [10]).map D.str=Ls.map λl=>D.str (jW l):=by rw[Wc 10 _ (λe=>hne (Ar.mp e)) hfree,ji];rfl
 have s1:aG fL ql (Za 0) (Zb (eC (.str [10])) (Ze)) [Ya (.str T),Yl,Yl,Yl] M= .ok (.ref M.length) M1:=Es rfl rfl (Zr rfl rfl) ((Wt ht).trans (by rw[hsp]));have h1:M1[M.length]?=Ya (.lst (Ls.map λl=>D.str (jW l))):=Zn _ _ _;have lk:jO [(M.length,Ls.map λl=>D.str (jW l))] M1=true:=by simp only[jO,kj,QJ,Kd];exact decide_eq_true h1
 have lp:=Wu lk Ls 1 [] [] (Ya (.str T)) (Ya (.ref M.length)) Yl Yl Yl Yl hLs (by simp;exact lA 1 0x27104b0013884b001 T1 hn);have s2:wN (Uk (Za 1)) 2 (ph [4,5]) [e2 fJ (Za 5) (eC (.str []))] b7 [Ya (.str T),Ya (.ref M.length),Yl,Yl] M1= .ok (.ref M1.length) M2:=by show(R3.bind (R3.bind (R3.ok (D.ref M.length) M1) _) _)=_;simp only[R3.bind,h1];exact lp
 have oR:M2[M1.length]?=Ya (.lst (lu (M1.length+1) L)):=Zn _ _ _;have hobj:∀j,M2[M1.length+1+j]?=(pJ L)[j]?:=λj=>by show(M1++MO.lst _::pJ L)[_]?=_;rw[qP,rC,mC 1 j];rfl
 have hw:L.map (·.2)=(if tk=[]then[]else[eQ::tk])++rs.map Rw.words:=(Wr 1 Ls).trans Abq;have hLl:=Ws 1 Ls;have hlen:∀{env:bJ} {S:Store},Za 1 env S= .ok (.ref M.length) S->S[M.length]?=Ya (.lst (Ls.map λl=>D.str (jW l)))->e2 aM (aC bw (Zb (Za 1) (Ze))) (eC (.int 1)) env S= .ok (.int ((Ls.length:Int)+1)) S:=λhv h=>Zh (cj hv (mX h)) rfl (by rw[Yu];rfl);have X5:∀n,below n (.tup [.tup (tk.map D.str),.tup ds])=true:=λn=>by show(bZ n (tk.map D.str)&&(bZ n ds&&true))=true;rw[Ep,xJ];rfl
 have h12:M2[M.length]?=Ya (.lst (Ls.map λl=>D.str (jW l))):=bK h1 _;by_cases h0:tk=[]
 .rw [if_pos h0,jh]at hw;obtain⟨p1,p2⟩:=Wv (M1.length+1) L rs hw;have pa:=Ww (S:=M2) (M1.length+1) L rs hw (λj _=>hobj j) hok;have rd:=ZgN (M:=M2) (n:=M1.length) (L:=xK (M1.length+1) L rs) (z:=(Ls.length:Int)+1) (by rw[p1];exact oR) pa (by rw[p2];exact hr) (xJ _);have hM:M2=M++([MO.lst (Ls.map λl=>D.str (jW l)),.lst (lu (M1.length+1) L)]++pJ L):=by simp[M2,M1]
  refine Rt.pure (G:=[MO.lst (Ls.map λl=>D.str (jW l)),.lst (lu (M1.length+1) L)]++pJ L) (env:=[Ya (.str T),Yl,Yl,Yl]) ?_ (X5 _);rw[←hM];unfold Nq;refine(Zi (Zo s1)).trans ((Zi (Zo s2)).trans ((Zi (Zo (d:=.tup []) (M':=M2) (gJ rfl rfl))).trans ?_));have cond:bN (e2 cV (aC bw (Zb (Za 2) (Ze))) (eC (.int 0))) (e2 bj (e2 Zm (e2 Zm (e2 Zm (Za 2) (eC (.int 0))) (eC (.int 1))) (eC (.int 0))) (eC (.str [116,97,107,101]))) [Ya (.str T),Ya (.ref M.length),Ya (.ref M1.length),Ya (.tup [])] M2= .ok (.bl false) M2:=by
   cases hL:L with
   |nil=>exact lR (Zh (cj rfl (mX oR)) rfl (by rw[hL];rfl))|cons q L'=>
    rw[hL]at hw;cases rs with
    |nil=>cases hw|cons r rs=>
     have hq:q.2=r.words:=(jc hw).1;rw[gY (M1:=M2) (Zh (cj rfl (mX oR)) rfl (by rw[hL,jM,decide_eq_true (by show(0:Int)<((lu _ L').length+1:Nat);exact iN [_] [] 0 10537193 T1)]))];have o0:M2[M1.length+1]?=Ya (.lst (r.words.map D.str)):=by rw[←hq];exact(hobj 0).trans (by rw[hL];rfl)
     have hnt:¬r.h=eQ:=λe=>by have:=(hok r Yc).sm;rw[e]at this;cases this
     refine Zh (Zh (Zh (Zh rfl rfl (iC oR (d:=.tup [.int q.1,.ref (M1.length+1)]) (by rw[hL];exact fW _ 0))) rfl (yV (fW _ 1))) rfl (iC o0 (d:=.str r.h) (fW _ 0))) rfl (ir.trans (by rw[decide_eq_false hnt]))
  refine(Zi (cW cond)).trans ?_;rw[h0];exact cZ (gJ (Zr rfl (Zr (rD rfl (hlen rfl h12) rd) rfl)) rfl)
 .rw[if_neg h0]at hw;cases hL:L with
  |nil=>rw[hL]at hw;cases hw|cons q L'=>
   rw[hL]at hw;have hq:q.2=eQ::tk:=(jc hw).1;have hw':L'.map (·.2)=rs.map Rw.words:=(jc hw).2;have o0:M2[M1.length+1]?=Ya (.lst ((eQ::tk).map D.str)):=by rw[←hq];exact(hobj 0).trans (by rw[hL];rfl)
   have tkE:=ZrC (z:=q.1) o0 h0 h6 nd nm
   let M3:=M2++[MO.lst (lu (M1.length+1+1) L')]
   obtain⟨p1,p2⟩:=Wv (M1.length+1+1) L' rs hw';have pa:=Ww (S:=M3) (M1.length+1+1) L' rs hw' (λj hj=>by have hj':(pJ L')[j]?=Ya ((pJ L')[j]'(by simpa using hj)):=Y3 _;rw[hj'];refine bK ?_ _;rw[←hj',qP (M1.length+1),mC 1 j,hobj (j+1),hL];rfl) hok;have rd:=ZgN (M:=M3) (n:=M2.length) (L:=xK (M1.length+1+1) L' rs) (z:=(Ls.length:Int)+1) (by rw[p1];exact Zn _ _ _) pa (by rw[p2];exact hr) (xJ _);have hM:M3=M++([MO.lst (Ls.map λl=>D.str (jW l)),.lst (lu (M1.length+1) L)]++pJ L++[MO.lst (lu (M1.length+1+1) L')]):=by simp[M3,M2,M1]
   refine Rt.pure (G:=[MO.lst (Ls.map λl=>D.str (jW l)),.lst (lu (M1.length+1) L)]++pJ L++[MO.lst (lu (M1.length+1+1) L')]) (env:=[Ya (.str T),Yl,Yl,Yl]) ?_ (X5 _);rw[←hM];unfold Nq;refine(Zi (Zo s1)).trans ((Zi (Zo s2)).trans ((Zi (Zo (d:=.tup []) (M':=M2) (gJ rfl rfl))).trans ?_));have Qj:M2[M1.length]?=Ya (.lst (lu (M1.length+1) (q::L'))):=by rw[←hL];exact oR
   have i0:∀{a:Option D},e2 Zm (Za 2) (eC (.int 0)) [Ya (.str T),Ya (.ref M.length),Ya (.ref M1.length),a] M2= .ok (.tup [.int q.1,.ref (M1.length+1)]) M2:=Zh rfl rfl (iC Qj (fW _ 0));have cond:bN (e2 cV (aC bw (Zb (Za 2) (Ze))) (eC (.int 0))) (e2 bj (e2 Zm (e2 Zm (e2 Zm (Za 2) (eC (.int 0))) (eC (.int 1))) (eC (.int 0))) (eC (.str [116,97,107,101]))) [Ya (.str T),Ya (.ref M.length),Ya (.ref M1.length),Ya (.tup [])] M2= .ok (.bl true) M2:=by rw[gY (M1:=M2) (Zh (cj rfl (mX Qj)) rfl (by rw[jM,decide_eq_true (by show(0:Int)<((lu _ L').length+1:Nat);exact iN [_] [] 0 10537193 T1)]))];exact Zh (Zh (Zh i0 rfl (yV (fW _ 1))) rfl (iC o0 (d:=.str eQ) (fW _ 0))) rfl (ir.trans (by rw[decide_eq_true rfl]))
   have sl:dW (Za 2) (dw (eC (.int 1))) (fK) [Ya (.str T),Ya (.ref M.length),Ya (.ref M1.length),Ya (.tup (tk.map D.str))] M2= .ok (.ref M2.length) M3:=by refine(Io (a:=Ya ((1:Nat):Int)) (b:=Yl) rfl rfl rfl Qj).trans ?_;rw[El];rfl
   refine(Zi ((fV cond).trans ((Zi (Zo (dD i0 tkE))).trans (Zo sl)))).trans ?_;exact cZ (gJ (Zr rfl (Zr (rD rfl (hlen rfl (bK h12 _)) rd) rfl)) rfl)
theorem Zto(cs:List Int)(c d:Nat)(aq:Nat)(M:Store)(hd:M[d]?=Ya (.lst [.ref c,.int (aq:Int)]))(hc:M[c]?=Ya (.lst (cs.map D.int)))(ha:aq<1000000)(hne:c≠d):
  ∃v:Int,lZ [.ref d] M= .ok (.int v) (M.set d (.lst [.ref c,.int ((aq+1:Nat):Int)])):=by
 have hdl:=(Yf.mp hd).1;have hc2:(M.set d (.lst [.ref c,.int ((aq:Int)+1)]))[c]?=Ya (.lst (cs.map D.int)):=by rw[Yp (dg hne)];exact hc
 have fin:∀v:Int,Dj [Ya (.ref d),Yl,Yl] M= .rt (.int v) (M.set d (.lst [.ref c,.int ((aq:Int)+1)]))->∃v:Int,lZ [.ref d] M= .ok (.int v) (M.set d (.lst [.ref c,.int ((aq+1:Nat):Int)])):=λv h=>by refine⟨v,(jN h).trans ?_⟩;unfold eG;rw[sI (by simp)];split <;>first|exact rfl|simp
 have m1:mR (aq:Int) (aq:Int)=true:=ZyG (by omega);have m2:mR ((aq:Int)*aq) 3=true:=mul_r (by omega);by_cases h1:aq<cs.length
 .exact fin cs[aq] (by simp[Dj,Zq,aA,aQ,aJ,aW,aV,tH,hd,hc2,h1])
 .by_cases h2:cs.length=0
  .have n0:¬((aq:Int)<0):=(λz=>iN [_] [] 1 7211153 T1 z);exact fin ((aq:Int)*aq*3+aq) (by simp[Dj,Zq,aA,aQ,aJ,aW,aV,tH,hd,hc2,h2,m1,m2,n0])
  .obtain⟨a,ha',la⟩:=oN (aq:Int) cs.length ((Rh (eZ _) (dg h2)));have p0:0<cs.length:=lB 1 31526929 T1 la;exact fin (cs[a] / 2+(aq:Int)*aq) (by simp[Dj,Zq,aA,aQ,aJ,aW,aV,tH,hd,hc2,h1,h2,m1,p0,ha',la])
structure eU(cs:List Int)(c d:Nat)(aq:Nat)(M:Store):Prop where
 hd:M[d]?=Ya (.lst [.ref c,.int (aq:Int)])
 hc:M[c]?=Ya (.lst (cs.map D.int))
 ne:c≠d
variable{cs:List Int}{aq d:Nat}
theorem eU.next(K:eU cs c d aq M)(ha:aq<1000000):∃(v:Int) (M':Store),lZ [.ref d] M= .ok (.int v) M'/\eU cs c d (aq+1) M'/\M'.length=M.length/\∀j,j≠d->M'[j]?=M[j]?:=by obtain⟨v,h⟩:=Zto cs c d aq M K.hd K.hc ha K.ne;have hdl:=(Yf.mp K.hd).1;exact⟨v,_,h,⟨Yw hdl,by rw[Yp (dg K.ne)];exact K.hc,K.ne⟩,by simp,λj hj=>Yp (dg hj)⟩
structure Kp(d:Nat)(M M':Store):Prop where
 len:M.length<=M'.length
 old:∀j,j<M.length->j≠d->M'[j]?=M[j]?
theorem Kp.trans{M M1 M2:Store}(a:Kp d M M1)(b:Kp d M1 M2):Kp d M M2:=⟨Yi a.len b.len,λj h1 h2=>(b.old j (Y7 h1 a.len) h2).trans (a.old j h1 h2)⟩
theorem Kp.app(d:Nat)(M G:Store):Kp d M (M++G):=⟨by simp,λj h _=>Yj h⟩
theorem Kp.get(k:Kp d M M')(h:M[j]?=Ya o)(hj:j≠d):M'[j]?=Ya o:=(k.old j (Yf.mp h).1 hj).trans h
theorem Kp.put(k:Kp d M M')(hj:M.length<=j)(o:MO):Kp d M (M'.set j o):=⟨by rw[uo];exact k.len,λi h1 h2=>by rw[Yp (by exactλz=>lC 3 0x6020121111021 T1 z h1 hj)];exact k.old i h1 h2⟩
theorem eU.app(K:eU cs c d aq M)(G:Store):eU cs c d aq (M++G):=⟨bK K.hd G,bK K.hc G,K.ne⟩
theorem eU.put(K:eU cs c d aq M)(h1:j≠d)(h2:j≠c)(o:MO):eU cs c d aq (M.set j o):=⟨by rw[Yp h1];exact K.hd,by rw[Yp h2];exact K.hc,K.ne⟩
theorem eU.lt(K:eU cs c d aq M):c<M.length/\d<M.length:=⟨(Yf.mp K.hc).1,(Yf.mp K.hd).1⟩
theorem eU.draw(K:eU cs c d aq M)(ha:aq<1000000):∃(v:Int) (M':Store),lZ [.ref d] M= .ok (.int v) M'/\eU cs c d (aq+1) M'/\Kp d M M'/\M'.length=M.length:=by obtain⟨v,M',h,K',l,o⟩:=K.next ha;exact⟨v,M',h,K',⟨j6 l.symm,λj _ hj=>o j hj⟩,l⟩
noncomputable abbrev Oe:S3:=(Zq (aA 6 (aG bx qg (Za 5) (Ze))) (Zq (aA 7 (Zz lZ (Zb (Za 0) (Ze)))) (Zq (aA 8 (e2 iB (e2 iB (e2 iB (Za 3) (aC bw (Zb (Za 4) (Ze)))) (aC bw (Zb (Za 5) (Ze)))) (eC (.int 1)))) (Zq (aA 9 (e2 aZ (Za 7) (eC (.int 9)))) (aJ (bN (e2 fQ (Za 9) (eC (.int 3))) (bN (e2 cV (Za 6) (eC (.int 1))) (e2 cV (Za 8) (eC (.int 1))))) (Zq (aV (aG bx cg (Za 4) (Zb (e2 Zm (aX (Zb (eC (.str [97,100,100])) (Zb (eC (.str [115,117,98])) (Zb (eC (.str [109,111,114,101])) (Ze))))) (Za 9)) (Ze)))) (aV (aG bx mZ (Za 5) (Zb (aX (Zb (e2 iB (Za 6) (eC (.int 1))) (Zb (Za 6) (Ze)))) (Ze))))) (aJ (bN (e2 bj (Za 9) (eC (.int 3))) (e2 cV (Za 8) (eC (.int 0)))) (Zq (aV (aG bx cg (Za 4) (Zb (eC (.str [99,101,108,108])) (Ze)))) (aV (aG bx cg (Za 5) (Zb (Za 6) (Ze))))) (aJ (e2 fQ (Za 9) (eC (.int 7))) (aV (aG bx cg (Za 4) (Zb (e2 Zm (Za 1) (e2 aZ (e2 b8 (Za 7) (eC (.int 9))) (eC (.int 12)))) (Ze)))) (aV (aG bx cg (Za 4) (Zb (Zz xr (Zb (e2 b8 (Za 7) (eC (.int 9))) (Ze))) (Ze)))))))))))
theorem ZqL(c:Int):∃v:Int,v.natAbs<10^60/\∀M,xr [.int c] M= .ok (.int v) M:=by
 obtain⟨a,ea,ha⟩:=oN c 4 (by decide);have ea:c % 4=(a:Int):=ea
 let N:Int:=c / 4 % (10^59)
 let T:Int:=c / 4 % 12
 have hN0:0<=N:=qR _ (by decide);have hN1:N<10^59:=uD _ (by decide);have hT0:0<=T:=qR _ (by decide);have hT1:T<12:=uD _ (by decide);have goes:∀v:Int,([D.int T,.int (-1-T),.int N,.int (-1-N)]:List D)[a]?=Ya (.int v)->∀M,xr [.int c] M= .ok (.int v) M:=λv hv M=>by
  refine Rt.pure (G:=[.lst [.int T,.int (-1-T),.int N,.int (-1-N)]]) (env:=[Ya (.int c),Yl]) ?_ rfl;unfold VP;have hp:e2 Lw (eC (.int 10)) (eC (.int 59)) [Ya (.int c),Yl] M= .ok (.int (10^59)) M:=Zh rfl rfl (by rw[ZmW,if_pos ⟨by decide,by decide,by decide⟩];rfl);refine(Zi (Zo (d:=.int N) (Zh (Zh rfl rfl (jt (by decide))) hp (gw (by decide))))).trans ?_;have l:aX (Zb (e2 aZ (e2 b8 (Za 0) (eC (.int 4))) (eC (.int 12))) (Zb (e2 iB (e1 cH (eC (.int 1))) (e2 aZ (e2 b8 (Za 0) (eC (.int 4))) (eC (.int 12)))) (Zb (Za 1) (Zb (e2 iB (e1 cH (eC (.int 1))) (Za 1)) (Ze))))) [Ya (.int c),Ya (.int N)] M= .ok (.ref M.length) (M++[.lst [.int T,.int (-1-T),.int N,.int (-1-N)]]):=by have t:e2 aZ (e2 b8 (Za 0) (eC (.int 4))) (eC (.int 12)) [Ya (.int c),Ya (.int N)] M= .ok (.int T) M:=Zh (Zh rfl rfl (jt (by decide))) rfl (gw (by decide));exact di (Zr t (Zr (Zh (dF rfl (yL 1)) t rfl) (Zr rfl (Zr (Zh (dF rfl (yL 1)) rfl rfl) rfl)))) rfl
  refine cZ (Zh l (Zh rfl rfl (gw (by decide))) (iC (Zn _ _ _) ?_));rw[ea,fW];exact hv
 match a,ha,goes with
 |0,_,goes=>exact⟨T,by omega,goes _ rfl⟩|1,_,goes=>exact⟨-1-T,by omega,goes _ rfl⟩|2,_,goes=>exact⟨N,by omega,goes _ rfl⟩|3,_,goes=>exact⟨-1-N,by omega,goes _ rfl⟩
inductive Fits:List Sm->List Nat->Prop
 |nil:Fits [] []
 |cons {t:Sm} {e:Nat} {ts:List Sm} {es:List Nat} (h:t.fit) (d:t.dp<=e) (r:Fits ts es):Fits (t::ts) (e::es)
def Og(deep:Nat)(W:List D)(es:List Nat):Prop:=∀ts:List Sm,Fits ts es->∃t:Sm,t.fit/\t.dp<=deep/\t.flat=W++(ts.map Sm.flat).flatten
inductive zV(e:Nat)(es:List Nat):D->List Nat->Prop
 |num (i:Int) (h:i.natAbs<10^60):zV e es (.int i) es
 |d7 (x:List Nat) (h:fO x):zV e es (.str x) es
 |ju:zV e es (.str oO) (e::es)
 |two (o:Nat) (h:1<e):zV e es (.str (xF o)) (e::(e-1)::es)
theorem Zuo(deep:Nat):Og deep [] [deep]:=λts h=>by
 cases h with
 |cons h d r=>cases r;exact⟨_,h,d,by simp⟩
variable{e:Nat}
theorem ZnP{deep:Nat}{W:List D}{es es':List Nat}(h:Og deep W (e::es))(he:1<=e)(t:zV e es w es'):Og deep (W++[w]) es':=by
 cases t with
 |num i hi=>intro ts f;obtain⟨t,h1,h2,h3⟩:=h (.num i::ts) (.cons hi he f);exact⟨t,h1,h2,by rw[h3];simp[Sm.flat]⟩|d7 x hx=>intro ts f;obtain⟨t,h1,h2,h3⟩:=h (.d7 x::ts) (.cons hx he f);exact⟨t,h1,h2,by rw[h3];simp[Sm.flat]⟩|ju=>
  intro ts f;cases f with
  | @cons a _ ts _ ha hd r=>obtain⟨t,h1,h2,h3⟩:=h (.ju a::ts) (.cons ha hd r);exact⟨t,h1,h2,by rw[h3];simp[Sm.flat]⟩
 | two o ho=>
  intro ts f;cases f with
  | @cons a _ ts _ ha hd r=>
   cases r with
   | @cons b _ ts _ hb hbd r=>obtain⟨t,h1,h2,h3⟩:=h (.two o a b::ts) (.cons ⟨ha,hb⟩ (Nat.max_le.mpr ⟨hd,lC 2 0x2a0c02a1c211001 T1 hbd (Y8 (Bl ho))⟩) r);exact⟨t,h1,h2,by rw[h3];simp[Sm.flat]⟩
theorem Zq3{x:List D}(h1:M[n]?=Ya (.lst x))(h2:M[m]?=Ya (.lst y))(hne:n≠m)(hz:x.length+y.length<=900000):mZ (.ref n) [.ref m] M= .ok .non (M.set n (.lst (x++y))):=by simp only[mZ,h1,h2];exact if_pos ⟨hne,Yi hz (by decide)⟩
structure LS(cs:List Int)(c d:Nat)(M S:Store)(p q:Nat)(W:List D)(es:List Nat)(aq:Nat):Prop where
 hp:S[p]?=Ya (.lst W)
 hq:S[q]?=Ya (.lst (es.reverse.map λ(e:Nat)=>D.int (e:Int)))
 dk:eU cs c d aq S
 kp:Kp d M S
 lp:M.length<=p
 lq:M.length<=q
 ne:p≠q
 ld:c<M.length/\d<M.length
variable{nr:Nat}{names:List (List Nat)}
section
variable {cs:List Int} {c d:Nat} {M S:Store} {p q:Nat} {W:List D} {es:List Nat} {aq:Nat}
theorem LS.app(L:LS cs c d M S p q W es aq)(G:Store):LS cs c d M (S++G) p q W es aq:=⟨bK L.hp G,bK L.hq G,L.dk.app G,L.kp.trans (Kp.app d S G),L.lp,L.lq,L.ne,L.ld⟩
theorem LS.Jm(L:LS cs c d M S p q W es aq)(W':List D):LS cs c d M (S.set p (.lst W')) p q W' es aq:=⟨Yw (Yf.mp L.hp).1,by rw[Yp L.ne];exact L.hq,L.dk.put (by have:=L.lp;have:=L.ld;omega) (by have:=L.lp;have:=L.ld;omega) _,L.kp.put L.lp _,L.lp,L.lq,L.ne,L.ld⟩
theorem LS.Qk(L:LS cs c d M S p q W es aq)(es':List Nat):LS cs c d M (S.set q (.lst (es'.reverse.map λ(e:Nat)=>D.int (e:Int)))) p q W es' aq:=⟨by rw[Yp (dg L.ne)];exact L.hp,Yw (Yf.mp L.hq).1,L.dk.put (by have:=L.lq;have:=L.ld;omega) (by have:=L.lq;have:=L.ld;omega) _,L.kp.put L.lq _,L.lp,L.lq,L.ne,L.ld⟩
theorem LS.draw(L:LS cs c d M S p q W es aq)(ha:aq<1000000):∃v S',lZ [.ref d] S= .ok (.int v) S'/\LS cs c d M S' p q W es (aq+1):=by obtain⟨v,S',h,K,kp,l⟩:=L.dk.draw ha;have hd:=L.ld;exact⟨v,S',h,kp.get L.hp (by have:=L.lp;exactλz=>lC 3 0x6211102011021 T1 z this hd.2),kp.get L.hq (by have:=L.lq;exactλz=>lC 3 0x6211102011021 T1 z this hd.2),K,L.kp.trans kp,L.lp,L.lq,L.ne,L.ld⟩
theorem ZtY{most:Nat}(L:LS cs c d M S p q W (e::es) aq)(ha:aq<1000000)(hnr:M[nr]?=Ya (.lst (names.map D.str)))(nd:nr≠d)(hn:names.length=12)(hnm:∀x∈names,fO x)(hm:most<=60)(hl:W.length+es.length+1<=most){deep:Option D}(x6 x7 x8 x9:Option D):
  ∃w es' S' y6 y7 y8 y9,Oe [Ya (.ref d),Ya (.ref nr),deep,Ya (.int (most:Int)),Ya (.ref p),Ya (.ref q),x6,x7,x8,x9] S= .nx [Ya (.ref d),Ya (.ref nr),deep,Ya (.int (most:Int)),Ya (.ref p),Ya (.ref q),y6,y7,y8,y9] S'/\LS cs c d M S' p q (W++[w]) es' (aq+1)/\zV e es w es'/\W.length+1+es'.length<=most:=by
 have Oh:W.length<SZ:=sO (show W.length<=60 by omega) (by decide);have hq0:S[q]?=Ya (.lst (es.reverse.map (λ(e:Nat)=>D.int (e:Int))++[D.int (e:Int)])):=by rw[L.hq,vR,iY];rfl
 have L1:LS cs c d M (S.set q (.lst (es.reverse.map λ(e:Nat)=>D.int (e:Int)))) p q W es aq:=L.Qk es;obtain⟨v,S2,hv,L2⟩:=L1.draw ha;obtain⟨way,ew,hw⟩:=oN v 9 (by decide);have ew:v % 9=(way:Int):=ew
 let room:Int:=(most:Int)-(W.length:Int)-(es.length:Int)-1
 have s8:∀{a b:Option D},e2 iB (e2 iB (e2 iB (Za 3) (aC bw (Zb (Za 4) (Ze)))) (aC bw (Zb (Za 5) (Ze)))) (eC (.int 1)) [Ya (.ref d),Ya (.ref nr),deep,Ya (.int (most:Int)),Ya (.ref p),Ya (.ref q),Ya (.int (e:Int)),Ya (.int v),a,b] S2= .ok (.int room) S2:=by intro a b;refine Zh (Zh (Zh rfl (cj rfl (mX L2.hp)) rfl) (cj rfl (mX L2.hq)) rfl) rfl ?_;rw[Yu,Fx,T3]
 let E:bJ:=[Ya (.ref d),Ya (.ref nr),deep,Ya (.int (most:Int)),Ya (.ref p),Ya (.ref q),Ya (.int (e:Int)),Ya (.int v),Ya (.int room),Ya (.int (way:Int))]
 have start:∀{o:O3},(aJ (bN (e2 fQ (Za 9) (eC (.int 3))) (bN (e2 cV (Za 6) (eC (.int 1))) (e2 cV (Za 8) (eC (.int 1))))) (Zq (aV (aG bx cg (Za 4) (Zb (e2 Zm (aX (Zb (eC (.str [97,100,100])) (Zb (eC (.str [115,117,98])) (Zb (eC (.str [109,111,114,101])) (Ze))))) (Za 9)) (Ze)))) (aV (aG bx mZ (Za 5) (Zb (aX (Zb (e2 iB (Za 6) (eC (.int 1))) (Zb (Za 6) (Ze)))) (Ze))))) (aJ (bN (e2 bj (Za 9) (eC (.int 3))) (e2 cV (Za 8) (eC (.int 0)))) (Zq (aV (aG bx cg (Za 4) (Zb (eC (.str [99,101,108,108])) (Ze)))) (aV (aG bx cg (Za 5) (Zb (Za 6) (Ze))))) (aJ (e2 fQ (Za 9) (eC (.int 7))) (aV (aG bx cg (Za 4) (Zb (e2 Zm (Za 1) (e2 aZ (e2 b8 (Za 7) (eC (.int 9))) (eC (.int 12)))) (Ze)))) (aV (aG bx cg (Za 4) (Zb (Zz xr (Zb (e2 b8 (Za 7) (eC (.int 9))) (Ze))) (Ze))))))) E S2=o->Oe [Ya (.ref d),Ya (.ref nr),deep,Ya (.int (most:Int)),Ya (.ref p),Ya (.ref q),x6,x7,x8,x9] S=o:=λh=>by refine(Zi (Zo (Ob rfl hq0))).trans ((Zi (Zo (dD rfl hv))).trans ((Zi (Zo s8)).trans ((Zi (Zo (d:=.int (way:Int)) (Zh rfl rfl ((gw (by decide)).trans (by rw[ew]))))).trans h)))
 by_cases h1:way<3/\1<e/\(1:Int)<room
 .have hc:bN (e2 fQ (Za 9) (eC (.int 3))) (bN (e2 cV (Za 6) (eC (.int 1))) (e2 cV (Za 8) (eC (.int 1)))) E S2= .ok (.bl true) S2:=by
   rw[gY (M1:=S2) (Zh rfl rfl (by rw[nZ,decide_eq_true (by exact iN [_] [] 1 54634285740049 T1 h1.1)])),gY (M1:=S2) (Zh rfl rfl (by rw[jM,decide_eq_true (by exact iN [_] [] 1 145295889 T1 h1.2.1)]))];exact Zh rfl rfl (by rw[jM,decide_eq_true h1.2.2])
  let S3:=S2++[MO.lst [.str [97,100,100],.str [115,117,98],.str [109,111,114,101]]]
  have L3:LS cs c d M S3 p q W es (aq+1):=L2.app _;have hi:[D.str [97,100,100],.str [115,117,98],.str [109,111,114,101]][way]?=Ya (.str (xF way)):=by
   match way,h1.1 with
   |0,_=>rfl|1,_=>rfl|2,_=>rfl
  have a1:=nD (env:=E) (M:=S2) (M':=S2) (o:=Za 4) (t:=e2 Zm (aX (Zb (eC (.str [97,100,100])) (Zb (eC (.str [115,117,98])) (Zb (eC (.str [109,111,114,101])) (Ze))))) (Za 9)) (M2:=S3) rfl L2.hp (Zh (di (ds:=[.str [97,100,100],.str [115,117,98],.str [109,111,114,101]]) rfl rfl) rfl (iC (Zn _ _ _) (by rw[fW];exact hi))) L3.hp Oh;have L4:=L3.Jm (W++[.str (xF way)])
  let S4:=S3.set p (.lst (W++[.str (xF way)]))
  have L5:=L4.app [MO.lst [.int ((e-1:Nat):Int),.int (e:Int)]]
  let S5:=S4++[MO.lst [.int ((e-1:Nat):Int),.int (e:Int)]]
  have hql:q<S4.length:=(Yf.mp L4.hq).1;have L6:=L5.Qk (e::(e-1)::es);have a2:aV (aG bx mZ (Za 5) (Zb (aX (Zb (e2 iB (Za 6) (eC (.int 1))) (Zb (Za 6) (Ze)))) (Ze))) E S4= .nx E (S5.set q (.lst ((e::(e-1)::es).reverse.map λ(e:Nat)=>D.int (e:Int)))):=by refine qj (d:=.non) (Es rfl (by rw[yU,L4.hq]) (Zr (di (ds:=[.int ((e-1:Nat):Int),.int (e:Int)]) (Zr (Zh rfl rfl (by rw[T3];congr 2;exact qQ (iN [_,_] [] 1 433246112432129 T1 (gH _ _)) (iN [_,_] [] 1 0xa18f0881a0c21 T1 (Y8 (Bl h1.2.1))))) rfl) rfl) rfl) ((Zq3 L5.hq (Zn _ _ _) (dR hql) (by simp;exact lC 2 0xdbb9e5b103c2b2012a10cc01 T1 hl hm)).trans ?_));simp;rfl
  exact⟨_,_,_,_,_,_,_,start ((fV hc).trans ((Zi a1).trans a2)),L6,.two way h1.2.1,by simp;omega⟩
 have hc1:bN (e2 fQ (Za 9) (eC (.int 3))) (bN (e2 cV (Za 6) (eC (.int 1))) (e2 cV (Za 8) (eC (.int 1)))) E S2= .ok (.bl false) S2:=by
  by_cases q1:way<3
  .rw[gY (M1:=S2) (Zh rfl rfl (by rw[nZ,decide_eq_true (by exact iN [_] [] 1 54634285740049 T1 q1)]))];by_cases q2:1<e
   .rw[gY (M1:=S2) (Zh rfl rfl (by rw[jM,decide_eq_true (by exact iN [_] [] 1 145295889 T1 q2)]))];exact Zh rfl rfl (by rw[jM,decide_eq_false λz=>h1 ⟨q1,q2,z⟩])
   .exact lR (Zh rfl rfl (by rw[jM,decide_eq_false (by exactλz=>iN [_] [] 2 415086185105 T1 z q2)]))
  .exact lR (Zh rfl rfl (by rw[nZ,decide_eq_false (by exactλz=>iN [_] [] 2 0x631b05131b0891 T1 z q1)]))
 by_cases h2:way=3/\(0:Int)<room
 .have hc:bN (e2 bj (Za 9) (eC (.int 3))) (e2 cV (Za 8) (eC (.int 0))) E S2= .ok (.bl true) S2:=by
   rw[gY (M1:=S2) (Zh rfl rfl (wM (by exact qQ (iN [_] [] 1 54634268962849 T1 h2.1) (iN [_] [] 1 9009636683825 T1 h2.1))))];exact Zh rfl rfl (by rw[jM,decide_eq_true h2.2])
  have a1:=nD (env:=E) (M:=S2) (M':=S2) (o:=Za 4) (t:=eC (.str oO)) (M2:=S2) rfl L2.hp rfl L2.hp Oh;have L4:=L2.Jm (W++[.str oO]);have hz:(es.reverse.map λ(e:Nat)=>D.int (e:Int)).length<SZ:=by rw[Yu,Fx];exact sO (show es.length<=60 by exact lC 2 0x3c2b103c2b2012a10cc01 T1 hl hm) (by decide)
  have a2:=nD (env:=E) (M:=S2.set p (.lst (W++[.str oO]))) (M':=S2.set p (.lst (W++[.str oO]))) (o:=Za 5) (t:=Za 6) (M2:=S2.set p (.lst (W++[.str oO]))) rfl L4.hq rfl L4.hq hz;have L6:=L4.Qk (e::es);have e6:(es.reverse.map λ(e:Nat)=>D.int (e:Int))++[D.int (e:Int)]=(e::es).reverse.map λ(e:Nat)=>D.int (e:Int):=by simp
  rw[e6]at a2;exact⟨_,_,_,_,_,_,_,start ((pB hc1).trans ((fV hc).trans ((Zi a1).trans a2))),L6,.ju,by simp;omega⟩
 have hc2:bN (e2 bj (Za 9) (eC (.int 3))) (e2 cV (Za 8) (eC (.int 0))) E S2= .ok (.bl false) S2:=by
  by_cases q1:way=3
  .rw[gY (M1:=S2) (Zh rfl rfl (wM (qQ (iN [_] [] 1 54634268962849 T1 q1) (iN [_] [] 1 9009636683825 T1 q1))))];exact Zh rfl rfl (by rw[jM,decide_eq_false λz=>h2 ⟨q1,z⟩])
  .exact lR (Zh rfl rfl (Cp (λz=>iN [_] [] 2 0x631b01131b08b1 T1 z (Rh (iN [_] [] 1 54632036108449 T1 z) q1))))
 by_cases h3:way<7
 .obtain⟨a,ea,ha'⟩:=oN (v / 9) 12 (by decide);have ea:v / 9 % 12=(a:Int):=ea;have hga:names[a]?=Ya (names[a]'(lB 2 72552035802787857 T1 ha' hn)):=Y3 _;have hnS:S2[nr]?=Ya (.lst (names.map D.str)):=L2.kp.get hnr nd;have a1:=nD (env:=E) (M:=S2) (M':=S2) (o:=Za 4) (t:=e2 Zm (Za 1) (e2 aZ (e2 b8 (Za 7) (eC (.int 9))) (eC (.int 12)))) (M2:=S2) rfl L2.hp (Zh rfl (Zh (Zh rfl rfl (jt (by decide))) rfl (gw (by decide))) (iC hnS (d:=.str (names[a]'(lB 2 72552035802787857 T1 ha' hn))) (by rw[ea,fW,lH,hga];rfl))) L2.hp Oh;refine⟨_,_,_,_,_,_,_,start ((pB hc1).trans ((pB hc2).trans ((fV (M':=S2) (Zh rfl rfl (by rw[nZ,decide_eq_true (by exact iN [_] [] 1 0x71b08971b011 T1 h3)]))).trans a1))),L2.Jm _,.d7 _ (hnm _ (um _)),lC 1 0x21a0cc02a10cc01 T1 hl⟩
 .obtain⟨z,hz,hzv⟩:=ZqL (v / 9);have a1:=nD (env:=E) (M:=S2) (M':=S2) (o:=Za 4) (t:=Zz xr (Zb (e2 b8 (Za 7) (eC (.int 9))) (Ze))) (M2:=S2) rfl L2.hp (dD (Zh rfl rfl (jt (by decide))) (hzv S2)) L2.hp Oh;exact⟨_,_,_,_,_,_,_,start ((pB hc1).trans ((pB hc2).trans ((pB (M':=S2) (Zh rfl rfl (by rw[nZ,decide_eq_false (by exactλz=>iN [_] [] 2 0x671b05171b0891 T1 z h3)]))).trans a1))),L2.Jm _,.num z hz,lC 1 0x21a0cc02a10cc01 T1 hl⟩
end
theorem Wx{q:Nat}{X:List Int}(hv:Za i env S= .ok (.ref q) S)(hq:S[q]?=Ya (.lst (X.map D.int))):e2 fJ (Za i) (aX (Ze)) env S= .ok (.bl (!X.isEmpty)) (S++[.lst []]):=by
 refine Zh hv (di rfl rfl) ?_;have hp:(X.map D.int).all (dz DEEP)=true:=h_.mpr λd hd=>by obtain⟨x,_,rfl⟩:=dN.mp hd;rfl
 simp only[fJ,Ca,bK hq,Zn,hp];cases X with
 |nil=>rfl|cons a X=>rfl
theorem ZqK(es:List Nat):es.reverse.map (λ(e:Nat)=>D.int (e:Int))=(es.reverse.map λ(e:Nat)=>(e:Int)).map D.int:=by rw[ji];rfl
section
variable {cs:List Int} {c d:Nat} {M S:Store} {p q:Nat} {W:List D} {es:List Nat} {aq:Nat}
theorem Zsx{es es':List Nat}(t:zV e es w es')(he:1<=e)(h:∀x∈es,1<=x):∀x∈es',1<=x:=by
 cases t with
 |num _ _=>exact h|d7 _ _=>exact h|ju=>
  intro x hx;rcases Yo.mp hx with z|z
  .exact lB 2 687631044657 T1 z he
  .exact h x z
 | two o ho=>
  intro x hx;rcases Yo.mp hx with z|z
  .exact lB 2 687632093233 T1 z ho
  .rcases Yo.mp z with z|z
   .exact lC 3 0xa0a1c2012a111031 T1 z ho (gH _ _)
   .exact h x z
theorem ZrR{most deep:Nat}(hnr:M[nr]?=Ya (.lst (names.map D.str)))(nd:nr≠d)(hn:names.length=12)(hnm:∀x∈names,fO x)(hm:most<=60){vd:Option D}:
  ∀(m fuel:Nat) (S:Store) (W:List D) (es:List Nat) (aq:Nat) (x6 x7 x8 x9:Option D),LS cs c d M S p q W es aq->W.length+m=most->m<fuel->W.length+es.length<=most->aq+m<1000000->(∀e∈es,1<=e)->Og deep W es ->
  ∃(t:Sm) (S':Store) (at':Nat) (y6 y7 y8 y9:Option D),t.fit/\t.dp<=deep/\t.flat.length<=most/\at'<=aq+m/\tL (e2 fJ (Za 5) (aX (Ze))) Oe fuel [Ya (.ref d),Ya (.ref nr),vd,Ya (.int (most:Int)),Ya (.ref p),Ya (.ref q),x6,x7,x8,x9] S= .nx [Ya (.ref d),Ya (.ref nr),vd,Ya (.int (most:Int)),Ya (.ref p),Ya (.ref q),y6,y7,y8,y9] S'/\LS cs c d M S' p q t.flat [] at':=by
 intro m
 induction m with
 |zero=>
  intro fuel S W es aq x6 x7 x8 x9 L h1 h2 h3 h4 h5 hd;have:es=[]:=Fw.mp (Y0 (lC 2 0xe102e0c31210c01 T1 h3 h1) (eZ _));subst this;obtain⟨t,f1,f2,f3⟩:=hd [] .nil;have f3:t.flat=W:=by simpa using f3
  obtain⟨f,rfl⟩:∃f,fuel=f+1:=⟨fuel-1,Y0 ((gH _ _)) (j6 (Y8 (lA 1 10489361 T1 h2)))⟩;refine⟨t,_,aq,x6,x7,x8,x9,f1,f2,by rw[f3];exact lC 1 8592100353 T1 h3,iM _ _,?_,by rw[f3];exact L.app [.lst []]⟩;rw[Cm,Wx (X:=[]) rfl L.hq];rfl
 | succ m ih=>
  intro fuel S W es aq x6 x7 x8 x9 L h1 h2 h3 h4 h5 hd;obtain⟨f,rfl⟩:∃f,fuel=f+1:=⟨fuel-1,Y0 ((gH _ _)) (j6 (Y8 (lB 1 6981028881 T1 h2)))⟩;cases es with
  |nil=>
   obtain⟨t,f1,f2,f3⟩:=hd [] .nil;have f3:t.flat=W:=by simpa using f3
   refine⟨t,_,aq,x6,x7,x8,x9,f1,f2,by rw[f3];exact lC 1 8592100353 T1 h3,iM _ _,?_,by rw[f3];exact L.app [.lst []]⟩;rw[Cm,Wx (X:=[]) rfl L.hq];rfl
  |cons e es=>
   rw[Ym]at h3;have he:=h5 e Yc;obtain⟨w,es',S1,y6,y7,y8,y9,hb,L1,tt,hl⟩:=ZtY (most:=most) (L.app [.lst []]) (lB 1 0xf42405b01f42405ba1c0c11 T1 h4) hnr nd hn hnm hm (lC 1 0x2a10cc02a1c0c01 T1 h3) (deep:=vd) x6 x7 x8 x9;obtain⟨t,S',at',z6,z7,z8,z9,f1,f2,f3,f4,f5,f6⟩:=ih f S1 (W++[w]) es' (aq+1) y6 y7 y8 y9 L1 (by simp;exact Y0 (lC 1 0x21a0cc02a1c0c21 T1 h1) (lC 1 0x1a0cc202a1c0c31 T1 h1)) (lB 1 1106520968209 T1 h2) (by simp;exact hl) (lB 1 0xf42405b1a0cc1f42405ba1c0c11 T1 h4) (Zsx tt he λx hx=>h5 x (Yd _ hx)) (ZnP hd he tt);refine⟨t,S',at',z6,z7,z8,z9,f1,f2,f3,lC 1 0xa2c1c002a1cc001 T1 f4,?_,f6⟩;have hq:S[q]?=Ya (.lst (((e::es).reverse.map λ(e:Nat)=>(e:Int)).map D.int)):=by rw[←ZqK];exact L.hq
   have hc:=Wx (env:=[Ya (.ref d),Ya (.ref nr),vd,Ya (.int (most:Int)),Ya (.ref p),Ya (.ref q),x6,x7,x8,x9]) (i:=5) rfl hq;have hx:(!((e::es).reverse.map λ(e:Nat)=>(e:Int)).isEmpty)=true:=by simp
   rw[hx]at hc;rw[Cm,hc];show(match Oe _ _ with| .nx e M'=>_| .ct e M'=>_| .bk e M'=>_|o=>o)=_;rw[hb];exact f5
structure mq(cs:List Int)(c d:Nat)(M S:Store)(aq at' n:Nat):Prop where
 dk:eU cs c d at' S
 kp:Kp d M S
 le:at'<=aq+n
theorem Ir{at':Nat}{x:D}(ld:c<M.length/\d<M.length)(hd:eU cs c d at' M')(kp:Kp d M M')(le:at'<=aq+n):∃S,eG M x M'= .ok x S/\mq cs c d M S aq at' n:=by obtain⟨S,e,l,o⟩:=ZmV (M:=M) (M':=M') (d:=x) kp.len;exact⟨S,e,⟨by rw[o d ld.2];exact hd.hd,by rw[o c ld.1];exact hd.hc,hd.ne⟩,⟨l,λj h1 h2=>(o j h1).trans (kp.old j h1 h2)⟩,le⟩
theorem Wy{most deep:Nat}(dk:eU cs c d aq M)(hnr:M[nr]?=Ya (.lst (names.map D.str)))(nd:nr≠d)(hn:names.length=12)(hnm:∀x∈names,fO x)(hm:most<=60)(h1:1<=most)(hde:1<=deep)(ha:aq+60<1000000):
  ∃(t:Sm) (S:Store) (at':Nat),t.fit/\t.dp<=deep/\t.flat.length<=most/\u_ [.ref d,.ref nr,.int (deep:Int),.int (most:Int)] M= .ok (.tup t.flat) S/\mq cs c d M S aq at' 60:=by
 have ld:=dk.lt
 let M1:=M++[MO.lst []]++[MO.lst [.int (deep:Int)]]
 have L0:LS cs c d M M1 M.length (M.length+1) [] [deep] aq:=⟨bK (Zn _ _ _) _,by have:=Zn (M++[MO.lst []]) (MO.lst [.int (deep:Int)]) [];rw[Ye]at this;exact this,(dk.app _).app _,(Kp.app d M _).trans (Kp.app d _ _),Yt _,wA _,(λz=>lA 1 111198257 T1 z),ld⟩;obtain⟨t,S',at',y6,y7,y8,y9,f1,f2,f3,f4,f5,f6⟩:=ZrR (deep:=deep) hnr nd hn hnm hm (vd:=Ya (.int (deep:Int))) most 1000000 M1 [] [deep] aq Yl Yl Yl Yl L0 (by simp) (lA 1 0xf42405b013c2b001 T1 hm) (by simp;exact h1) (lB 2 0xf42405b10c13c2b101f42405b3c2b0c11 T1 ha hm) (λe he=>by rw[Yx.mp he];exact hde) (Zuo deep);obtain⟨S,e,D⟩:=Ir (aq:=aq) (x:=.tup t.flat) (n:=60) ld f6.dk f6.kp (lC 2 0x3c2b1c003c2b20121c001 T1 f4 hm);refine⟨t,S,at',f1,f2,f3,(jN (M':=S') (env:=[Ya (.ref d),Ya (.ref nr),Ya (.int (deep:Int)),Ya (.int (most:Int)),Yl,Yl,Yl,Yl,Yl,Yl]) ?_).trans e,D⟩;unfold VR;refine(Zi (Zo (d:=.ref M.length) (M':=M++[.lst []]) (di rfl rfl))).trans ?_;refine(Zi (Zo (d:=.ref (M.length+1)) (M':=M1) ((di (ds:=[.int (deep:Int)]) rfl rfl).trans (by rw[Ye];rfl)))).trans ?_;refine(Zi f5).trans ?_;exact cZ (cj rfl (n_ f6.hp))
end
noncomputable abbrev lwB:S3:=(aJ (e1 (jo .str) (Za 2)) (aV (aG bx cg (Za 1) (Zb (Za 2) (Ze)))) (aV (aG bx mZ (Za 1) (Zb (fU (bW (Za 2)) 1 (bB 3) [] (aC tO (Zb (Za 3) (Ze)))) (Ze)))))
inductive Part:D->Prop
 |d7 (x:List Nat):Part (.str x)
 |sum (ws:List D) (h:∀w∈ws,tX w) (l:ws.length<=60):Part (.tup ws)
noncomputable def qJ:D->List (List Nat)
 | .str x=>[x]|.tup ws=>ws.map bR|_=>[]
theorem ZuT(h:tX w)(M:Store):tO [w] M= .ok (.str (bR w)) M:=by
 cases h with
 |int i hi=>rw[Zo4,if_pos (Zvv hi)];rfl|d7 x _=>rfl|op x _=>rfl
theorem ZtG{P:D}(h:Part P):(qJ P).length<=60:=by
 cases h with
 |d7 x=>exact(show 1<=60 by decide)|sum ws _ l=>simpa[qJ]using l
theorem ZoI{M:Store}{W0:Option D}{it:fZ}(hi:it.lock=Yl):∀(Ps:List D) (acc:List (List Nat)) (G:Store) (x:Option D),(∀P∈Ps,Part P)->acc.length+60*Ps.length<=1000 ->
  ∃G' y,dB it (bB 2) lwB Ps [W0,Ya (.ref M.length),x] (M++ .lst (acc.map D.str)::G)= .nx [W0,Ya (.ref M.length),y] (M++ .lst ((acc++Ps.flatMap qJ).map D.str)::G')
 |[],acc,G,x,_,_=>⟨G,x,by rw[qi,if_pos (by unfold locked;rw[hi])];simp⟩|P ::Ps,acc,G,x,hP,hl=>by
  rw[Ym]at hl;have hp:=hP P Yc;have hpl:=ZtG hp
  let S:=M++ .lst (acc.map D.str)::G
  have hS:S[M.length]?=Ya (.lst (acc.map D.str)):=Zn _ _ _;have step:∃G1,lwB [W0,Ya (.ref M.length),Ya P] S= .nx [W0,Ya (.ref M.length),Ya P] (M++ .lst ((acc++qJ P).map D.str)::G1):=by
   cases hp with
   |d7 y=>refine⟨G,(fV (M':=S) (by rfl)).trans ((Wd rfl hS (d:=.str y) rfl hS (by rw[Yu];exact sO (show acc.length<=1000 by exact lB 1 0x3e83b003e83ba1c3cd0c01 T1 hl) (by decide))).trans ?_)⟩;simp[S,qJ]|sum ws hw l=>
    have lc:=tM (h:=λw=>D.str (bR w)) (enc:=λw=>w) (own:=1) (i:=3) (it:=bW (Za 2)) (elt:=aC tO (Zb (Za 3) (Ze))) (env:=[W0,Ya (.ref M.length),Ya (.tup ws)]) (M:=S) (M1:=S) (lock:=Yl) (as:=ws) (by rw[QK];rfl) (λn z=>nomatch z)
     (λw hw' M'=>cj rfl (ZuT (hw w hw') M')) (lA 1 0x186a05b003c2b001 T1 l)
    have hlt:M.length<S.length:=(Yf.mp hS).1;refine⟨G++[.lst (ws.map λw=>D.str (bR w))],(pB (M':=S) (by rfl)).trans ((qj (d:=.non) (Es rfl (by rw[yU,hS]) (Zr lc rfl) (Zq3 (bK hS _) (Zn _ _ _) (dR hlt) (by simp;exact lC 2 0xdbba05b01c03e83ba2c3cd1c013c2b001 T1 l hl)))).trans ?_)⟩;simp[S,qJ]
  obtain⟨G1,h1⟩:=step;obtain⟨G',y,h2⟩:=ZoI hi Ps (acc++qJ P) G1 (Ya P) (λQ hQ=>hP Q (Yd _ hQ)) (by rw[Ye];exact lC 2 0x3e83b23cd01cc03e83ba2c3cd1c013c2b001 T1 hpl hl);refine⟨G',y,?_⟩;rw[pq,if_pos (by unfold locked;rw[hi])];simp only[bB,lz,lG];rw[show(M++MO.lst (acc.map D.str)::G)=S from rfl,h1];simp only;rw[h2,QB,gG]
theorem Rw.parts(H:cG r):∀P∈r.tl,Part P:=λP hP=>by
 rcases eY.mp hP with h|h
 .obtain⟨x,_,rfl⟩:=dN.mp h;exact .d7 x
 .obtain⟨t,ht,rfl⟩:=dN.mp h;exact .sum _ (Il t (H.ok.fit t ht)) (Yi (N8 ht) H.ok.len)
theorem Rw.Abi(r:Rw):r.h::r.tl.flatMap qJ=r.words:=by
 unfold Rw.words Rw.tl;rw[List.flatMap_append];have e1:∀xs:List (List Nat),(xs.map D.str).flatMap qJ=xs:=by
  intro xs
  induction xs with
  |nil=>rfl|cons x xs ih=>rw[Ys,QB,ih];rfl
 have e2:∀ts:List Sm,(ts.map λt=>D.tup t.flat).flatMap qJ=(bM ts).map bR:=by
  intro ts
  induction ts with
  |nil=>rfl|cons t ts ih=>rw[Ys,QB,ih,bM,bM,Ys,kh,iY];rfl
 rw[e1,e2]
theorem Zpd(h:tX w):(bR w).length<=61:=by
 cases h with
 |int i hi=>exact ZoJ hi|d7 x hx=>exact Yi hx.le (by decide)|op x hx=>exact Yi (Wm hx).2.1 (by decide)
theorem zW(H:cG r):dh r.h jf≠Yl:=by rw[H.sm];exactλz=>nomatch z
theorem Iu(k:dh h jf≠Yl):h=iV\/h=oU\/h=oV\/h=cu\/h=eO\/h=fP\/h=d9:=by
 by_cases h1:h=iV
 .exact .inl h1
 by_cases h2:h=oU
 .exact .inr (.inl h2)
 by_cases h3:h=oV
 .exact .inr (.inr (.inl h3))
 by_cases h4:h=cu
 .exact .inr (.inr (.inr (.inl h4)))
 by_cases h5:h=eO
 .exact .inr (.inr (.inr (.inr (.inl h5))))
 by_cases h6:h=fP
 .exact .inr (.inr (.inr (.inr (.inr (.inl h6)))))
 by_cases h7:h=d9
 .exact .inr (.inr (.inr (.inr (.inr (.inr h7)))))
 .exact absurd (show dh h jf=Yl by simp only[jf,dh,if_neg h1,if_neg h2,if_neg h3,if_neg h4,if_neg h5,if_neg h6,if_neg h7]) k
theorem Wz(k:dh h jf≠Yl):1<=h.length/\h.length<=5/\∀c∈h,97<=c:=by rcases Iu k with rfl|rfl|rfl|rfl|rfl|rfl|rfl <;>decide
theorem ZkD(H:cG r):∀w∈r.words,w.length<=61/\32∉w/\10∉w:=λw hw=>by
 have low:∀{c:Nat} {l:List Nat},(∀x∈l,45<=x)->c<45->c∉l:=λh hc z=>by have:=h _ z;exact lA 2 0x62d2b01102d2b01 T1 this hc
 rcases Yo.mp hw with e|e
 .have q:=Wz (zW H);rw[e];exact⟨lA 1 67254898241537 T1 q.2.1,low (λx hx=>Yi (by decide) (q.2.2 x hx)) (by decide),low (λx hx=>Yi (by decide) (q.2.2 x hx)) (by decide)⟩
 .rcases eY.mp e with e|e
  .have q:=H.nm w e;exact⟨Yi q.le (by decide),low (λx hx=>Yi (by decide) (q.low x hx).1) (by decide),low (λx hx=>Yi (by decide) (q.low x hx).1) (by decide)⟩
  .obtain⟨v,hv,rfl⟩:=dN.mp e;have hf:=Im H.ok.fit v hv;have key:∀x∈bR v,45<=x:=by
    cases hf with
    |int i hi=>exact(Zip i hi).2.2|d7 x hx=>exactλc hc=>Yi (by decide) (hx.low c hc).1|op x hx=>exactλc hc=>Yi (by decide) ((Wm hx).2.2 c hc)
   exact⟨Zpd hf,low key (by decide),low key (by decide)⟩
theorem WD(H:cG r):r.words.length<=60:=by have:=H.le;simp only[Rw.words,Ym,Ye,Yu];exact lB 1 0x3c2ba10cc03b2b10c01 T1 this
theorem ZmQ(H:cG r):zU r.words:=by
 have hw:=ZkD H;have hl:=(N5 32 61 r.words λw h=>(hw w h).1).2;have hc:=WD H;refine⟨(λz=>nomatch z),λw h=>(hw w h).2,λz=>?_,by omega⟩;have q:=(Wz (zW H)).1;have:r.h≠[]:=λe=>by rw[e]at q;exact absurd q (by decide)
 unfold Rw.words at z;cases e:r.xs++(bM r.ts).map bR with
 |nil=>rw[e]at z;exact this z|cons y ys=>rw[e,tW]at z;exact this (Qx.mp z).1
theorem ZmO(H:cG r)(M:Store):HY [.tup r.deed] M= .ok (.str (glue [32] r.words)) M:=by
 have hfew:=N_ r.ts;have hle:=H.le;obtain⟨G,y,h⟩:=ZoI (M:=M) (W0:=Ya (.tup r.deed)) (it:=⟨r.tl,Yl⟩) rfl r.tl [r.h] [] Yl (Rw.parts H) (by
  have:r.tl.length<=3:=by
   have hx:=H.nx;have hs:=Iu (zW H);have hsm:=H.sm;have h2:r.ts.length<=2:=by rcases hs with e|e|e|e|e|e|e<;>(rw[e]at hsm;have:=Y1 hsm;omega)
   have h1:r.xs.length<=1:=by rw[hx];split <;>omega
   simp only[Rw.tl,Ye,Yu];exact lB 2 0x31b10c021b101a001 T1 h1 h2
  simp;omega)
 refine Rt.pure (G:=.lst (([r.h]++r.tl.flatMap qJ).map D.str)::G) (env:=[Ya (.tup r.deed),Yl,Yl]) ?_ rfl;unfold V0;refine(Zi (Zo (d:=.ref M.length) (M':=M++[.lst [.str r.h]]) (di (Zr (Zh rfl rfl (yV (fW _ 0))) rfl) rfl))).trans ?_;have hit:bW (dW (Za 0) (dw (eC (.int 1))) (fK)) [Ya (.tup r.deed),Ya (.ref M.length),Yl] (M++[.lst [.str r.h]])= .ok ⟨r.tl,Yl⟩ (M++[.lst [.str r.h]]):=by show R3.ok (⟨cutD r.deed (Ya ((1:Nat):Int)) Yl,Yl⟩:fZ) _=_;rw[El];rfl
 refine(Zi ((rA hit).trans h)).trans ?_;have ew:([r.h]++r.tl.flatMap qJ)=r.words:=r.Abi;rw[ew];have hz:=(N5 32 61 r.words λw h=>(ZkD H w h).1).1;have hc:=WD H;exact cZ (vh rfl rfl (N6 (Zn _ _ _) (Yi (show _<=10000 by omega) (by decide))))
variable{a:Nat}
theorem mq.mono{a':Nat}(h:mq cs c d M S a a' n)(k:n<=m):mq cs c d M S a a' m:=⟨h.dk,h.kp,Yi h.le (Nat.add_le_add_left k _)⟩
theorem mq.app{G:Store}{a':Nat}(h:mq cs c d (M++G) S a a' n):mq cs c d M S a a' n:=⟨h.dk,(Kp.app d M G).trans h.kp,h.le⟩
theorem mq.trans{T:Store}{a b e n m:Nat}(h:mq cs c d M S a b n)(k:mq cs c d S T b e m):mq cs c d M T a e (n+m):=⟨k.dk,h.kp.trans k.kp,by have:=h.le;have:=k.le;omega⟩
theorem WK{t:Sm}(hs:dh h jf=Ya 1)(hn:h≠iV)(f:t.fit)(dp:t.dp<=6)(l:t.flat.length<=50):cG ⟨h,[],[t]⟩:=by
 have el:(bM [t]).length=t.flat.length:=by simp[bM]
 refine⟨hs,by rw[if_neg hn];rfl,(λx hx=>nomatch hx),⟨λs hs=>by rw[Yx.mp hs];exact f,by show(bM [t]).length<=60;exact lB 2 0x3c2b00322b1011021 T1 el l,?_⟩,by show 0+(bM [t]).length<=59;exact lB 2 0x3b2b0ec0322b1011021 T1 el l⟩;show((t.dp+0:Nat):Int)<=6;exact iN [_] [] 1 0x61be0c8861b001 T1 dp
theorem Zw9{t:Sm}(hx:fO x)(f:t.fit)(dp:t.dp<=6)(l:t.flat.length<=50):cG ⟨iV,[x],[t]⟩:=by
 have el:(bM [t]).length=t.flat.length:=by simp[bM]
 refine⟨rfl,rfl,λy hy=>by rw[Yx.mp hy];exact hx,⟨λs hs=>by rw[Yx.mp hs];exact f,by show(bM [t]).length<=60;exact lB 2 0x3c2b00322b1011021 T1 el l,?_⟩,by show 1+(bM [t]).length<=59;exact lB 2 0x3b2b0ac0322b1011021 T1 el l⟩;show((t.dp+0:Nat):Int)<=6;exact iN [_] [] 1 0x61be0c8861b001 T1 dp
theorem Zvr{t u:Sm}(f:t.fit)(g:u.fit)(dp:t.dp<=6)(du:u.dp<=5)(l:t.flat.length<=29)(l2:u.flat.length<=29):cG ⟨oU,[],[t,u]⟩:=by
 have el:(bM [t,u]).length=t.flat.length+u.flat.length:=by simp[bM]
 refine⟨rfl,rfl,(λx hx=>nomatch hx),⟨λs hs=>?_,by show(bM [t,u]).length<=60;exact lC 3 0x3c2b001d2b1011d2b20121c021 T1 el l2 l,?_⟩,by show 0+(bM [t,u]).length<=59;exact lC 3 0x3b2b0ec01d2b1011d2b20121c021 T1 el l2 l⟩
 .rcases Yo.mp hs with e|e
  .rw[e];exact f
  .rw[Yx.mp e];exact g
 .show(if((u.dp+(0+1):Nat):Int)>((t.dp+0:Nat):Int)then((u.dp+(0+1):Nat):Int)else((t.dp+0:Nat):Int))<=6;split <;>omega
structure Oi(r:Rw):Prop where
 b:j9 r.h=false
 e:r.h≠eO
 n:r.h≠d9
section
variable {cs:List Int} {c d:Nat} {M:Store} {aq:Nat}
theorem Zs3(dk:eU cs c d aq M)(hnr:M[nr]?=Ya (.lst (names.map D.str)))(nd:nr≠d)(hn:names.length=12)(hnm:∀x∈names,fO x)(ha:aq+120<1000000)(v:Int):
  ∃(r:Rw) (S:Store) (at':Nat),cG r/\Oi r/\Nu [.ref d,.ref nr,.int v] M= .ok (.tup r.deed) S/\mq cs c d M S aq at' 120:=by
 have ld:=dk.lt;obtain⟨a,ea,ha4⟩:=oN (v / 10) 4 (by decide);have ea:v / 10 % 4=(a:Int):=ea;obtain⟨b,eb,hb⟩:=oN (v / 3) 6 (by decide);have eb:v / 3 % 6=(b:Int):=eb;obtain⟨b2,WL,hb2⟩:=oN (v / 7) 5 (by decide);have WL:v / 7 % 5=(b2:Int):=WL
 let M1:=M++[MO.lst [.int 3,.int 3,.int 7,.int 20]]
 have m1:∃m:Nat,1<=m/\m<=20/\[D.int 3,.int 3,.int 7,.int 20][a]?=Ya (.int (m:Int)):=by
  match a,ha4 with
  |0,_=>exact⟨3,by decide,by decide,rfl⟩|1,_=>exact⟨3,by decide,by decide,rfl⟩|2,_=>exact⟨7,by decide,by decide,rfl⟩|3,_=>exact⟨20,by decide,by decide,rfl⟩
 obtain⟨m0,hm1,hm2,hm3⟩:=m1;have s3:aA 3 (e2 Zm (aX (Zb (eC (.int 3)) (Zb (eC (.int 3)) (Zb (eC (.int 7)) (Zb (eC (.int 20)) (Ze)))))) (e2 aZ (e2 b8 (Za 2) (eC (.int 10))) (eC (.int 4)))) [Ya (.ref d),Ya (.ref nr),Ya (.int v),Yl,Yl] M= .nx [Ya (.ref d),Ya (.ref nr),Ya (.int v),Ya (.int (m0:Int)),Yl] M1:=Zo (Zh (di (ds:=[.int 3,.int 3,.int 7,.int 20]) rfl rfl) (Zh (Zh rfl rfl (jt (by decide))) rfl (gw (by decide))) (iC (Zn _ _ _) (by rw[ea,fW];exact hm3)));have s4:∃m:Nat,1<=m/\m<=29/\aJ (e2 bj (e2 aZ (e2 b8 (Za 2) (eC (.int 40))) (eC (.int 11))) (eC (.int 1))) (aA 3 (eC (.int 29))) (aW) [Ya (.ref d),Ya (.ref nr),Ya (.int v),Ya (.int (m0:Int)),Yl] M1= .nx [Ya (.ref d),Ya (.ref nr),Ya (.int v),Ya (.int (m:Int)),Yl] M1:=by
  by_cases z:v / 40 % 11=1
  .exact⟨29,by decide,by decide,(fV (M':=M1) (Zh (Zh (Zh rfl rfl (jt (by decide))) rfl (gw (by decide))) rfl (wM z))).trans (Zo rfl)⟩
  .exact⟨m0,hm1,lA 1 513128353935361 T1 hm2,cW (M':=M1) (Zh (Zh (Zh rfl rfl (jt (by decide))) rfl (gw (by decide))) rfl (Cp z))⟩
 obtain⟨m,hm1,Ah,s4⟩:=s4;obtain⟨t,S1,at1,f1,f2,f3,f4,D1⟩:=Wy (M:=M1) (most:=m) (deep:=1+b) (dk.app _) (bK hnr _) nd hn hnm (lA 1 0x3c2b001d2b001 T1 Ah) hm1 (iM _ _) (by exact lA 1 0xf42405b3c2b0c1f42405b782b0c11 T1 ha:aq+60<1000000);have rT:mq cs c d M S1 aq at1 60:=mq.app (G:=[MO.lst [.int 3,.int 3,.int 7,.int 20]]) D1;have s5:aA 4 (Zz u_ (Zb (Za 0) (Zb (Za 1) (Zb (e2 aM (eC (.int 1)) (e2 aZ (e2 b8 (Za 2) (eC (.int 3))) (eC (.int 6)))) (Zb (Za 3) (Ze)))))) [Ya (.ref d),Ya (.ref nr),Ya (.int v),Ya (.int (m:Int)),Yl] M1= .nx [Ya (.ref d),Ya (.ref nr),Ya (.int v),Ya (.int (m:Int)),Ya (.tup t.flat)] S1:=by refine Zo (Hg rfl rfl (c:=.int ((1+b:Nat):Int)) (Zh rfl (Zh (Zh rfl rfl (jt (by decide))) rfl (gw (by decide))) ?_) rfl f4);rw[uP,eb];congr 2
 have start:∀{o:O3},(Zq (aJ (e2 bj (e2 aZ (Za 2) (eC (.int 3))) (eC (.int 0))) (aQ (bV (Zb (eC (.str [115,101,116])) (Zb (e2 Zm (Za 1) (e2 aZ (e2 b8 (Za 2) (eC (.int 440))) (eC (.int 12)))) (Zb (Za 4) (Ze)))))) (aW)) (Zq (aJ (e2 bj (e2 aZ (Za 2) (eC (.int 3))) (eC (.int 1))) (aQ (bV (Zb (eC (.str [112,117,116])) (Zb (Za 4) (Zb (Zz u_ (Zb (Za 0) (Zb (Za 1) (Zb (e2 aM (eC (.int 1)) (e2 aZ (e2 b8 (Za 2) (eC (.int 7))) (eC (.int 5)))) (Zb (Za 3) (Ze)))))) (Ze)))))) (aW)) (aQ (bV (Zb (eC (.str [116,101,108,108])) (Zb (Za 4) (Ze))))))) [Ya (.ref d),Ya (.ref nr),Ya (.int v),Ya (.int (m:Int)),Ya (.tup t.flat)] S1=o->VV [Ya (.ref d),Ya (.ref nr),Ya (.int v),Yl,Yl] M=o:=λh=>(Zi s3).trans ((Zi s4).trans ((Zi s5).trans h));have m3:∀{k:Int},e2 aZ (Za 2) (eC (.int 3)) [Ya (.ref d),Ya (.ref nr),Ya (.int v),Ya (.int (m:Int)),Ya (.tup t.flat)] S1= .ok (.int (v % 3)) S1:=Zh rfl rfl (gw (by decide));by_cases h0:v % 3=0
 .obtain⟨x,ex,hx⟩:=oN (v / 440) 12 (by decide);have ex:v / 440 % 12=(x:Int):=ex;have hga:names[x]?=Ya (names[x]'(lB 2 72552035802787857 T1 hx hn)):=Y3 _;have hnS:S1[nr]?=Ya (.lst (names.map D.str)):=rT.kp.get hnr nd
  let r:Rw:=⟨iV,[names[x]'(lB 2 72552035802787857 T1 hx hn)],[t]⟩
  have goes:=start (o:=.rt (.tup r.deed) S1) (rn ((fV (M':=S1) (Zh (m3 (k:=0)) rfl (wM h0))).trans (cZ (gJ (Zr rfl (Zr (Zh rfl (Zh (Zh rfl rfl (jt (by decide))) rfl (gw (by decide))) (iC hnS (d:=.str (names[x]'(lB 2 72552035802787857 T1 hx hn))) (by rw[ex,fW,lH,hga];rfl))) (Zr rfl rfl))) rfl))));obtain⟨S,e,D⟩:=Ir (aq:=aq) (x:=.tup r.deed) (n:=60) ld rT.dk rT.kp rT.le;exact⟨r,S,at1,Zw9 (hnm _ (um _)) f1 (lB 2 0x61b0061b1111ac001 T1 f2 hb) (lB 2 0x322b001d2b1011001 T1 f3 Ah),⟨rfl,show iV≠eO by decide,show iV≠d9 by decide⟩,(jN goes).trans e,D.mono (by decide)⟩
 have c0:=cW (M':=S1) (f:=aQ (bV (Zb (eC (.str [115,101,116])) (Zb (e2 Zm (Za 1) (e2 aZ (e2 b8 (Za 2) (eC (.int 440))) (eC (.int 12)))) (Zb (Za 4) (Ze)))))) (Zh (m3 (k:=0)) (g:=eC (.int 0)) rfl (Cp h0));by_cases h1:v % 3=1
 .obtain⟨u,S2,at2,g1,g2,g3,g4,D2⟩:=Wy (most:=m) (deep:=1+b2) rT.dk (rT.kp.get hnr nd) nd hn hnm (lA 1 0x3c2b001d2b001 T1 Ah) hm1 (iM _ _) (by have:=rT.le;exact lB 2 0xf42405b3c2b0c1f42405b782b1c113c2b1c001 T1 this ha);have D12:=rT.trans D2
  let r:Rw:=⟨oU,[],[t,u]⟩
  have goes:=start (o:=.rt (.tup r.deed) S2) ((Zi c0).trans (rn ((fV (M':=S1) (Zh (m3 (k:=0)) rfl (wM h1))).trans (cZ (gJ (Zr rfl (Zr rfl (Zr (Hg rfl rfl (c:=.int ((1+b2:Nat):Int)) (Zh rfl (Zh (Zh rfl rfl (jt (by decide))) rfl (gw (by decide))) (by rw[uP,WL];congr 2)) rfl g4) rfl))) rfl)))));obtain⟨S,e,D⟩:=Ir (aq:=aq) (x:=.tup r.deed) (n:=120) ld D12.dk D12.kp D12.le;exact⟨r,S,at2,Zvr f1 g1 (lB 2 0x61b0061b1111ac001 T1 f2 hb) (lB 2 0x51b0051b1111ac001 T1 g2 hb2) (Yi f3 Ah) (Yi g3 Ah),⟨rfl,show oU≠eO by decide,show oU≠d9 by decide⟩,(jN goes).trans e,D⟩
 .let r:Rw:=⟨oV,[],[t]⟩
  have goes:=start (o:=.rt (.tup r.deed) S1) ((Zi c0).trans ((Zi (cW (M':=S1) (Zh (m3 (k:=0)) rfl (Cp h1)))).trans (cZ (gJ rfl rfl))));obtain⟨S,e,D⟩:=Ir (aq:=aq) (x:=.tup r.deed) (n:=60) ld rT.dk rT.kp rT.le;exact⟨r,S,at1,WK rfl (by decide) f1 (lB 2 0x61b0061b1111ac001 T1 f2 hb) (lB 2 0x322b001d2b1011001 T1 f3 Ah),⟨rfl,show oV≠eO by decide,show oV≠d9 by decide⟩,(jN goes).trans e,D.mono (by decide)⟩
end
structure Fr where
 e:Nat
 o:Nat
 w:List Nat
 t:Sm
 out:List D
 ah:Option (List D)
noncomputable def vy:Option (List D)->D
 |none=>.non|some a=>.tup a
noncomputable abbrev Fr.obj(f:Fr):MO:=.lst [.str f.w,.tup f.t.flat,.ref f.o,vy f.ah]
noncomputable abbrev g8(s:Nat)(fs:List Fr):List Nat:=s::fs.map (·.e)
structure cC(n0:Nat)(S:Store)(s dr:Nat)(cur:List D)(fs:List Fr):Prop where
 hs:S[s]?=Ya (.lst (fs.map λf=>D.ref f.e).reverse)
 he:∀f∈fs,S[f.e]?=Ya f.obj
 ho:∀f∈fs,S[f.o]?=Ya (.lst f.out)
 hc:S[dr]?=Ya (.lst cur)
 nd:(g8 s fs).Nodup
 dj:∀a∈g8 s fs,a≠dr/\∀f∈fs,a≠f.o
 lo:n0<=dr/\(∀a∈g8 s fs,n0<=a)/\∀f∈fs,n0<=f.o
variable{cur':List D}
section
variable {n0:Nat} {S S':Store} {s dr:Nat} {cur:List D} {fs:List Fr}
theorem cC.frame(K:cC n0 S s dr cur fs)(h:∀a,n0<=a->a<S.length->S'[a]?=S[a]?):cC n0 S' s dr cur fs:=by
 have q:∀{i:Nat} {o:MO},S[i]?=Ya o->i<S.length:=λh=>(Yf.mp h).1;refine⟨?_,λf hf=>?_,λf hf=>?_,?_,K.nd,K.dj,K.lo⟩
 .rw[h s (K.lo.2.1 s Yc) (q K.hs)];exact K.hs
 .rw[h f.e (K.lo.2.1 f.e (Yd _ (qK hf))) (q (K.he f hf))];exact K.he f hf
 .rw[h f.o (K.lo.2.2 f hf) (q (K.ho f hf))];exact K.ho f hf
 .rw[h dr K.lo.1 (q K.hc)];exact K.hc
theorem cC.app(K:cC n0 S s dr cur fs)(G:Store):cC n0 (S++G) s dr cur fs:=K.frame λa _ h=>Yj h
theorem cC.kp(K:cC n0 S s dr cur fs)(hd:d<n0)(k:Kp d S S'):cC n0 S' s dr cur fs:=K.frame λa h1 h2=>k.old a h2 (λz=>lC 3 0x6211102011021 T1 z h1 hd)
theorem cC.lt(K:cC n0 S s dr cur fs):(∀a∈g8 s fs,a<S.length)/\dr<S.length/\∀f∈fs,f.o<S.length:=by
 have q:∀{i:Nat} {o:MO},S[i]?=Ya o->i<S.length:=λh=>(Yf.mp h).1;refine⟨λa ha=>?_,q K.hc,λf hf=>q (K.ho f hf)⟩;rcases Yo.mp ha with e|e
 .rw[e];exact q K.hs
 .obtain⟨f,hf,rfl⟩:=dN.mp e;exact q (K.he f hf)
theorem cC.now(K:cC n0 S s dr cur fs){bT:Nat}(h:S[bT]?=Ya (.lst cur'))(hl:n0<=bT)(hn:bT∉g8 s fs):cC n0 S s bT cur' fs:=⟨K.hs,K.he,K.ho,h,K.nd,λa ha=>⟨λe=>hn (e▸ha),(K.dj a ha).2⟩,hl,K.lo.2⟩
theorem cC.els{f:Fr}(K:cC n0 S s dr cur (f::fs))(a:List D):cC n0 (S.set f.e (Fr.obj {f with ah:=Ya a})) s dr cur ({f with ah:=Ya a}::fs):=by
 have nd:=K.nd;simp only[g8,Ys,iK,Yo,not_or]at nd;have hm:f.e∈g8 s (f::fs):=Yd _ Yc;have dj:=K.dj f.e hm;have o:∀x,f.e≠x->(S.set f.e (Fr.obj {f with ah:=Ya a}))[x]?=S[x]?:=λx h=>Yp h;refine⟨?_,λg hg=>?_,λg hg=>?_,?_,K.nd,λx hx=>⟨(K.dj x hx).1,λg hg=>?_⟩,K.lo.1,K.lo.2.1,λg hg=>?_⟩
 .rw[o s (dg nd.1.1)];exact K.hs
 .rcases Yo.mp hg with e|e
  .rw[e];exact Yw (K.lt.1 _ hm)
  .rw[o g.e λz=>nd.2.1 (z▸qK e)];exact K.he g (Yd _ e)
 .rcases Yo.mp hg with e|e
  .rw[e];show _=Ya (MO.lst f.out);exact(o f.o (dj.2 f Yc)).trans (K.ho f Yc)
  .rw[o g.o (dj.2 g (Yd _ e))];exact K.ho g (Yd _ e)
 .rw[o dr dj.1];exact K.hc
 .rcases Yo.mp hg with e|e
  .rw[e];exact(K.dj x hx).2 f Yc
  .exact(K.dj x hx).2 g (Yd _ e)
 .rcases Yo.mp hg with e|e
  .rw[e];exact K.lo.2.2 f Yc
  .exact K.lo.2.2 g (Yd _ e)
theorem cC.pop{f:Fr}(K:cC n0 S s dr cur (f::fs)){bT:Nat}(h:S[bT]?=Ya (.lst cur'))(hl:n0<=bT)(hn:bT∉g8 s (f::fs)):cC n0 (S.set s (.lst (fs.map λf=>D.ref f.e).reverse)) s bT cur' fs:=by
 have nd:=K.nd;simp only[g8,Ys,iK,Yo,not_or]at nd;have hm:s∈g8 s (f::fs):=Yc;have sub:∀a∈g8 s fs,a∈g8 s (f::fs):=λa ha=>by
  rcases Yo.mp ha with e|e
  .rw[e];exact Yc
  .exact Yd _ (Yd _ e)
 have o:∀x,s≠x->(S.set s (.lst (fs.map λf=>D.ref f.e).reverse))[x]?=S[x]?:=λx h=>Yp h;refine⟨Yw (K.lt.1 s hm),λg hg=>?_,λg hg=>?_,?_,iK.mpr ⟨nd.1.2,nd.2.2⟩,λx hx=>⟨λe=>hn (e▸sub x hx),λg hg=>(K.dj x (sub x hx)).2 g (Yd _ hg)⟩,hl,λa ha=>K.lo.2.1 a (sub a ha),λg hg=>K.lo.2.2 g (Yd _ hg)⟩
 .rw[o g.e λz=>nd.1.2 (z▸qK hg)];exact K.he g (Yd _ hg)
 .rw[o g.o ((K.dj s hm).2 g (Yd _ hg))];exact K.ho g (Yd _ hg)
 .rw[o bT λz=>hn (z▸hm)];exact h
theorem cC.push(K:cC n0 S s dr cur fs)(hn:n0<=S.length)(w:List Nat)(t:Sm):cC n0 (((S++[Fr.obj ⟨S.length,dr,w,t,cur,Yl⟩]).set s (.lst ((fs.map λf=>D.ref f.e).reverse++[.ref S.length])))++[.lst []]) s (S.length+1) [] (⟨S.length,dr,w,t,cur,Yl⟩::fs):=by
 have hlt:=K.lt;have hm:s∈g8 s fs:=Yc;have hsl:=hlt.1 s hm
 let S1:=(S++[Fr.obj ⟨S.length,dr,w,t,cur,Yl⟩]).set s (.lst ((fs.map λf=>D.ref f.e).reverse++[.ref S.length]))
 have l1:S1.length=S.length+1:=by simp[S1]
 have o:∀x,s≠x->x<S.length->(S1++[MO.lst []])[x]?=S[x]?:=λx h hx=>by rw[Yj (by exact lC 2 564744212779025 T1 hx l1)];show((S++_).set s _)[x]?=_;rw[Yp h,Yj hx]
 have one:∀x∈g8 s (⟨S.length,dr,w,t,cur,Yl⟩::fs),x=S.length\/x∈g8 s fs:=λx hx=>by
  rcases Yo.mp hx with e|e
  .exact .inr (by rw[e];exact Yc)
  .rcases Yo.mp e with e|e
   .exact .inl e
   .exact .inr (Yd _ e)
 refine⟨?_,λg hg=>?_,λg hg=>?_,?_,?_,λx hx=>⟨?_,λg hg=>?_⟩,lB 1 43419439105 T1 hn,λx hx=>?_,λg hg=>?_⟩
 .show(S1++_)[s]?=_;rw[Yj (by exact lC 2 36361488941105 T1 l1 hsl)];show((S++_).set s _)[s]?=_;rw[Yw (by rw[Ye];exact Ga _ hsl)];simp
 .rcases Yo.mp hg with e|e
  .rw[e];show(S1++_)[S.length]?=_;rw[Yj (by exact lB 1 295813169 T1 l1)];show((S++_).set s _)[S.length]?=_;rw[Yp (by exactλz=>lB 2 26039357489 T1 z hsl)];exact Zn _ _ _
  .have hge:g.e∈g8 s fs:=Yd _ (qK e);rw[o g.e (λz=>(iK.mp K.nd).1 (z▸qK e)) (hlt.1 _ hge)];exact K.he g e
 .rcases Yo.mp hg with e|e
  .rw[e];show(S1++_)[dr]?=Ya (.lst cur);rw[o dr (K.dj s hm).1 hlt.2.1];exact K.hc
  .rw[o g.o ((K.dj s hm).2 g e) (hlt.2.2 g e)];exact K.ho g e
 .show(S1++_)[S.length+1]?=_;rw[←l1];exact Zn _ _ _
 .have nd:=iK.mp K.nd;refine iK.mpr ⟨?_,iK.mpr ⟨?_,nd.2⟩⟩
  .intro z;rcases Yo.mp z with e|e
   .have e:s=S.length:=e;exact lB 2 26039357489 T1 e hsl
   .exact nd.1 e
  .intro z;have:=hlt.1 _ (Yd _ z);exact wu _ this
 .rcases one x hx with e|e
  .exactλz=>lB 2 6666353492017 T1 z e
  .have:=hlt.1 x e;exactλz=>lB 2 6666085056561 T1 z this
 .rcases Yo.mp hg with z|z
  .rw[z];show x≠dr;rcases one x hx with e|e
   .have:=hlt.2.1;exactλz=>lC 3 0x6203121111021 T1 z this e
   .exact(K.dj x e).1
  .rcases one x hx with e|e
   .have:=hlt.2.2 g z;exactλz=>lC 3 0x6203121111021 T1 z this e
   .exact(K.dj x e).2 g z
 .rcases one x hx with e|e
  .exact lC 2 137741013041 T1 e hn
  .exact K.lo.2.1 x e
 .rcases Yo.mp hg with z|z
  .rw[z];exact K.lo.1
  .exact K.lo.2.2 g z
end
noncomputable def g_:List D->List Fr->List Pf
 |cur,[]=>[⟨jV,[],[],cur⟩]|cur,f::fs=>⟨f.w,[.tup f.t.flat],f.ah.toList,cur⟩::g_ f.out fs
theorem Zrm(cur:List D)(fs:List Fr):(g_ cur fs).length=fs.length+1:=by
 induction fs generalizing cur with
 |nil=>rfl|cons f fs ih=>exact congrArg (· +1) (ih f.out)
def Fr.ok(f:Fr):Prop:=f.w=cu\/(f.w=fP/\f.ah=Yl)
theorem Oj(h:M.length<=n):eG M (.ref n) M'= .ok (.ref n) M':=by
 have hb:below M.length (.ref n)=false:=by show decide (n<M.length)=false;exact decide_eq_false (λz=>lB 2 25786650641 T1 z h)
 unfold eG;rw[hb];rfl
noncomputable abbrev Fr.pf(f:Fr)(cur:List D):Pf:=⟨f.w,[.tup f.t.flat],f.ah.toList,cur⟩
def Fr.done(f:Fr):Prop:=(f.w=cu/\∃a,f.ah=Ya a)\/(f.w=fP/\f.ah=Yl)
section
variable {n0:Nat} {S:Store} {s dr:Nat} {cur:List D} {fs:List Fr} {f:Fr}
theorem cC.top(K:cC n0 S s dr cur (f::fs))(hv:Za i env S= .ok (.ref s) S):e2 Zm (Za i) (e1 cH (eC (.int 1))) env S= .ok (.ref f.e) S:=by refine Zh hv (dF rfl (yL 1)) (iC K.hs ?_);rw[Ys,vR];exact getD_last _ _
theorem cC.top0(K:cC n0 S s dr cur (f::fs))(hv:Za i env S= .ok (.ref s) S):e2 Zm (e2 Zm (Za i) (e1 cH (eC (.int 1)))) (eC (.int 0)) env S= .ok (.str f.w) S:=Zh (K.top hv) rfl (iC (K.he f Yc) (fW _ 0))
theorem cC.Jo(K:cC n0 S s dr cur (f::fs))(hv:Za i env S= .ok (.ref s) S):e2 Zm (e2 Zm (Za i) (e1 cH (eC (.int 1)))) (eC (.int 3)) env S= .ok (vy f.ah) S:=Zh (K.top hv) rfl (iC (K.he f Yc) (fW _ 3))
theorem Zk0(K:cC n0 S s dr cur (f::fs))(hd:f.done)(hz:f.out.length<=1000):
  xu [.ref s,.ref dr] S= .ok (.ref (S.length+1)) (S++[.lst [(f.pf cur).whole],.lst (f.out++[(f.pf cur).whole])]):=by
 let E:bJ:=[Ya (.ref s),Ya (.ref dr),Ya (.str f.w),Ya (.tup f.t.flat),Ya (.ref f.o),Ya (vy f.ah),Yl]
 have a1:rE (e2 Zm (Za 0) (e1 cH (eC (.int 1)))) [2,3,4,5] [Ya (.ref s),Ya (.ref dr),Yl,Yl,Yl,Yl,Yl] S= .nx E S:=by unfold rE;rw[K.top rfl];simp only[K.he f Yc];rfl
 have fin:∀{E':bJ},E'=E.set 6 (Ya (f.pf cur).whole)->aQ (e2 aM (Za 4) (aX (Zb (Za 6) (Ze)))) E' S= .rt (.ref (S.length+1)) (S++[.lst [(f.pf cur).whole],.lst (f.out++[(f.pf cur).whole])]):=λh=>by subst h;refine cZ ((Zh rfl (di (Zr rfl rfl) rfl) (Ip (bK (K.ho f Yc) _) (Zn _ _ _) (by simp;exact lA 1 0xdbb9f5b003e83b001 T1 hz))).trans ?_);simp
 refine(jN (M':=S++[.lst [(f.pf cur).whole],.lst (f.out++[(f.pf cur).whole])]) (env:=[Ya (.ref s),Ya (.ref dr),Yl,Yl,Yl,Yl,Yl]) ?_).trans (Oj (wA _));unfold V1;refine(Zi a1).trans ?_;have t1:aC gh (Zb (Za 1) (Ze)) E S= .ok (.tup cur) S:=cj rfl (n_ K.hc);refine(Zi (Zo (d:=.tup [.str f.w,.tup f.t.flat,.tup cur]) (M':=S) (gJ (Zr rfl (Zr rfl (Zr t1 rfl))) rfl))).trans ?_;rcases hd with⟨hw,a,ea⟩|⟨hw,ea⟩
 .refine(Zi ((fV (M':=S) (Zh rfl rfl (ir.trans (by rw[decide_eq_true hw])))).trans (Zo (d:=(f.pf cur).whole) (M':=S) ((gJ (ds:=[.str f.w,.tup f.t.flat,vy f.ah,.tup cur]) (Zr rfl (Zr rfl (Zr rfl (Zr (cj rfl (n_ K.hc)) rfl)))) rfl).trans ?_)))).trans (fin rfl);simp[Pf.whole,ea,vy]
 .refine(Zi (cW (M':=S) (Zh rfl rfl (ir.trans (by rw[decide_eq_false (by rw[hw];decide)]))))).trans (fin ?_);simp[E,Pf.whole,ea]
theorem cC.Et(K:cC n0 S s dr cur fs)(hv:Za i env S= .ok (.ref s) S):e2 rO (Za i) (aX (Ze)) env S= .ok (.bl (!fs.isEmpty)) (S++[.lst []]):=by refine Zh hv (di rfl rfl) ((ZrL (bK K.hs _) (Zn _ _ _)).trans ?_);cases fs<;>simp
noncomputable def Eu(way:Nat):List Fr->Bool
 |[]=>false|f::_=>decide (way=8)&&(decide (f.w=cu)&&f.ah.isNone)
noncomputable def isEnd(way:Nat):List Fr->Bool
 |[]=>false|f::_=>decide (7<way)&&(decide (f.w=fP)|| f.ah.isSome)
theorem WM(a:Option (List D))(M:Store):n8 (vy a) .non M= .ok (.bl a.isNone) M:=by cases a<;>simp[vy]
theorem Zvk(a:Option (List D))(M:Store):GR (vy a) .non M= .ok (.bl a.isSome) M:=by cases a<;>simp[vy]
theorem Zsq(K:cC n0 S s dr cur fs){way:Nat}(hv:∀M,Za 2 env M= .ok (.ref s) M)(h5:∀M,Za 5 env M= .ok (.int (way:Int)) M):
  ∃G,bN (e2 bj (Za 5) (eC (.int 8))) (bN (e2 rO (Za 2) (aX (Ze))) (bN (e2 bj (e2 Zm (e2 Zm (Za 2) (e1 cH (eC (.int 1)))) (eC (.int 0))) (eC (.str [119,104,101,110]))) (e2 n8 (e2 Zm (e2 Zm (Za 2) (e1 cH (eC (.int 1)))) (eC (.int 3))) (eC .non)))) env S= .ok (.bl (Eu way fs)) (S++G):=by
 by_cases h8:way=8
 .refine⟨[.lst []],?_⟩;rw[gY (M1:=S) (Zh (h5 S) rfl (wM (qQ (iN [_] [] 1 0x81b08881b021 T1 h8) (iN [_] [] 1 9353239310385 T1 h8))))];cases fs with
  |nil=>exact lR (K.Et (hv S))|cons f fs=>
   rw[gY (K.Et (hv S))];have K1:=K.app [MO.lst []];by_cases hw:f.w=cu
   .rw[gY (Zh (K1.top0 (hv _)) rfl (ir.trans (by rw[decide_eq_true hw])))];refine(Zh (K1.Jo (hv _)) rfl (WM f.ah _)).trans ?_;simp[Eu,h8,hw]
   .rw[lR (Zh (K1.top0 (hv _)) rfl (ir.trans (by rw[decide_eq_false hw])))];simp[Eu,hw]
 .refine⟨[],?_⟩;rw[lR (M1:=S) (Zh (h5 S) rfl (Cp (λz=>iN [_] [] 2 0x681b01181b08b1 T1 z (Rh (iN [_] [] 1 0x81b0081b08a1 T1 z) h8)))),jZ];cases fs<;>simp[Eu,h8]
theorem ZqP(K:cC n0 S s dr cur fs){way:Nat}(hv:∀M,Za 2 env M= .ok (.ref s) M)(h5:∀M,Za 5 env M= .ok (.int (way:Int)) M):
  ∃G,bN (e2 cV (Za 5) (eC (.int 7))) (bN (e2 rO (Za 2) (aX (Ze))) (eE (e2 bj (e2 Zm (e2 Zm (Za 2) (e1 cH (eC (.int 1)))) (eC (.int 0))) (eC (.str [119,104,105,108,101]))) (e2 GR (e2 Zm (e2 Zm (Za 2) (e1 cH (eC (.int 1)))) (eC (.int 3))) (eC .non)))) env S= .ok (.bl (isEnd way fs)) (S++G):=by
 by_cases h8:7<way
 .refine⟨[.lst []],?_⟩;rw[gY (M1:=S) (Zh (h5 S) rfl (by rw[jM,decide_eq_true (by exact iN [_] [] 1 9284528577297 T1 h8)]))];cases fs with
  |nil=>exact lR (K.Et (hv S))|cons f fs=>
   rw[gY (K.Et (hv S))];have K1:=K.app [MO.lst []];by_cases hw:f.w=fP
   .rw[Hh (Zh (K1.top0 (hv _)) rfl (ir.trans (by rw[decide_eq_true hw])))];simp[isEnd,h8,hw]
   .rw[ou (Zh (K1.top0 (hv _)) rfl (ir.trans (by rw[decide_eq_false hw])))];refine(Zh (K1.Jo (hv _)) rfl (Zvk f.ah _)).trans ?_;simp[isEnd,h8,hw]
 .refine⟨[],?_⟩;rw[lR (M1:=S) (Zh (h5 S) rfl (by rw[jM,decide_eq_false (by exactλz=>iN [_] [] 2 0x6071b510871b91 T1 z h8)])),jZ];cases fs<;>simp[isEnd,h8]
end
structure Zv3(n0:Nat)(cs:List Int)(c d:Nat)(S S':Store)(s n' bT:Nat)(r:Rw)(cur:List D)(fs:List Fr)(cur':List D)(fs':List Fr)(at' k:Nat):Prop where
 out:S'[n']?=Ya (.lst [.str (glue [32] r.words),.ref bT])
 iz:cC n0 S' s bT cur' fs'
 dk:eU cs c d at' S'
 ok:cG r
 st:jx r (g_ cur fs)=Ya (g_ cur' fs')
 fr:∀f∈fs',f.ok
 le:fs'.length<=12
 bd:cur'.length<=k+1/\∀f∈fs',f.out.length<=k+1
 old:∀a,a<S.length->a≠d->a∉g8 s fs->S'[a]?=S[a]?
 len:S.length<=S'.length
theorem ZsO:cG ⟨eO,[],[]⟩:=⟨rfl,rfl,(λx h=>nomatch h),⟨(λt h=>nomatch h),by decide,by decide⟩,by decide⟩
theorem Zrg:cG ⟨d9,[],[]⟩:=⟨rfl,rfl,(λx h=>nomatch h),⟨(λt h=>nomatch h),by decide,by decide⟩,by decide⟩
variable{cur:List D}
theorem Znb{f:Fr}{fs:List Fr}(hw:f.w=cu)(ha:f.ah=Yl):jx ⟨eO,[],[]⟩ (g_ cur (f::fs))=Ya (g_ [] ({f with ah:=Ya cur}::fs)):=by show stepK _ (f.pf cur) (g_ f.out fs)=_;unfold stepK;rw[if_neg (by decide),if_pos rfl,if_pos ⟨hw,by simp[ha]⟩];rfl
theorem WN(fs:List Fr)(x:List D)(w:D):∃k ks,g_ x fs=k::ks/\k.cur=x/\g_ (x++[w]) fs=⟨k.h,k.hd,k.cl,k.cur++[w]⟩::ks:=by
 cases fs with
 |nil=>exact⟨_,_,rfl,rfl,rfl⟩|cons f fs=>exact⟨_,_,rfl,rfl,rfl⟩
theorem ZmR{f:Fr}{fs:List Fr}(hd:f.done)(hz:f.out.length<1000):jx ⟨d9,[],[]⟩ (g_ cur (f::fs))=Ya (g_ (f.out++[(f.pf cur).whole]) fs):=by
 obtain⟨k,ks,e1,e2,e3⟩:=WN fs f.out (f.pf cur).whole;show stepK _ (f.pf cur) (g_ f.out fs)=_;rw[e1,e3];unfold stepK;rw[if_neg (by decide),if_neg (by decide),if_pos rfl];refine if_pos ⟨?_,(show 1<100 by decide),?_,by rw[e2];exact hz⟩
 .rcases hd with⟨hw,a,ea⟩|⟨hw,ea⟩
  .show tY f.w=((f.ah.toList.length+1:Nat):Int);rw[hw,ea];rfl
  .show tY f.w=((f.ah.toList.length+1:Nat):Int);rw[hw,ea];rfl
 .show f.ah.toList.length<100;cases f.ah with
  |none=>exact(show 0<100 by decide)|some _=>exact(show 1<100 by decide)
theorem ZnG{fs:List Fr}(hp:Oi r)(hz:cur.length<1000):jx r (g_ cur fs)=Ya (g_ (cur++[.tup r.deed]) fs):=by obtain⟨k,ks,e1,e2,e3⟩:=WN fs cur (.tup r.deed);rw[e1,e3];show stepK r k ks=_;unfold stepK;rw[if_neg (by rw[hp.b];decide),if_neg hp.e,if_neg hp.n];exact if_pos (by rw[e2];exact hz)
theorem ZqZ{w:List Nat}{t:Sm}{fs:List Fr}{o:Nat}(hw:j9 w=true)(hl:fs.length<12):jx ⟨w,[],[t]⟩ (g_ cur fs)=Ya (g_ [] (⟨e,o,w,t,cur,Yl⟩::fs)):=by
 obtain⟨k,ks,e1,_,_⟩:=WN fs cur .non;have hk:ks.length=fs.length:=by have:=Zrm cur fs;rw[e1,Ym]at this;exact Y0 (lB 1 1102226000929 T1 this) (lB 1 71433849905 T1 this)
 rw[show g_ [] (⟨e,o,w,t,cur,Yl⟩::fs)=⟨w,[.tup t.flat],[],[]⟩::g_ cur fs from rfl,e1];show stepK _ k ks=_;unfold stepK;rw[if_pos hw];exact if_pos (lB 2 0xc1ba0c0c1b1111021 T1 hk hl)
section
variable {n0:Nat} {S:Store} {s dr:Nat} {cur:List D} {fs:List Fr} {cs:List Int} {c d aq:Nat}
theorem Iv{L:List Nat}(h:∀a∈L,a<n){x:Nat}(hx:n<=x):x∉L:=λz=>by have:=h x z;exact lB 2 25786650641 T1 this hx
theorem len_app(M G:Store):M.length<=(M++G).length:=by rw[Ye];exact iM _ _
theorem WP{q q':D->D->Store->R3 D}{h:E3}{x y z r:D}(h1:f env M= .ok x M)(h2:g env M= .ok y M)(h3:q x y M= .ok (.bl true) M)(h4:h env M= .ok z M)(h5:q' y z M= .ok r M):qD q q' f g h env M= .ok r M:=by simp only[qD,h1,h2,h3,h4,h5,R3.bind]
theorem Ztv{q q':D->D->Store->R3 D}{h:E3}{x y:D}(h1:f env M= .ok x M)(h2:g env M= .ok y M)(h3:q x y M= .ok (.bl false) M):qD q q' f g h env M= .ok (.bl false) M:=by simp only[qD,h1,h2,h3,R3.bind]
theorem ZuG{v x0 x1 x2 x3:D}(h:M[n]?=Ya (.lst [x0,x1,x2,x3])):Ub v (.ref n) (.int 3) M= .ok .non (M.set n (.lst [x0,x1,x2,v])):=by simp only[ZkA,h];rfl
theorem ZwD{nr k:Nat}(K:cC n0 S s dr cur fs)(dk:eU cs c d aq S)(hnr:S[nr]?=Ya (.lst (names.map D.str)))(nd:nr≠d)(hn:names.length=12)(hnm:∀x∈names,fO x)(hd0:c<n0/\d<n0)(hn0:n0<=S.length)(Iw:∀f∈fs,f.ok)(hlen:fs.length<=12)(hb:cur.length<=k/\∀f∈fs,f.out.length<=k)(hk:k<900)(ha:aq+200<1000000):
  ∃(r:Rw) (S':Store) (n' bT:Nat) (cur':List D) (fs':List Fr) (at':Nat),zK [.ref d,.ref nr,.ref s,.ref dr] S= .ok (.ref n') S'/\Zv3 n0 cs c d S S' s n' bT r cur fs cur' fs' at' k/\at'<=aq+121:=by
 obtain⟨v,S1,hv,D1,xM,l1⟩:=dk.draw (lA 1 0xf42405b01f42405bc82b0c11 T1 ha);have K1:=K.kp hd0.2 xM;obtain⟨way,ew,Aci⟩:=oN v 10 (by decide);have ew:v % 10=(way:Int):=ew
 let E:bJ:=[Ya (.ref d),Ya (.ref nr),Ya (.ref s),Ya (.ref dr),Ya (.int v),Ya (.int (way:Int)),Yl,Yl,Yl]
 obtain⟨GA,cA⟩:=Zsq K1 (env:=E) (way:=way) (λ_=>rfl) (λ_=>rfl);have h0:∀{rest:S3} {o:O3},rest E S1=o->Zq (aA 4 (Zz lZ (Zb (Za 0) (Ze)))) (Zq (aA 5 (e2 aZ (Za 4) (eC (.int 10)))) rest) [Ya (.ref d),Ya (.ref nr),Ya (.ref s),Ya (.ref dr),Yl,Yl,Yl,Yl,Yl] S=o:=λh=>(Zi (Zo (dD rfl hv))).trans ((Zi (Zo (d:=.int (way:Int)) (Zh rfl rfl ((gw (by decide)).trans (by rw[ew]))))).trans h);have fin:∀{n':Nat} {S':Store},S.length<=n'->zJ [Ya (.ref d),Ya (.ref nr),Ya (.ref s),Ya (.ref dr),Yl,Yl,Yl,Yl,Yl] S= .rt (.ref n') S'->zK [.ref d,.ref nr,.ref s,.ref dr] S= .ok (.ref n') S':=λhl h=>(jN h).trans (Oj hl)
 let S2:=S1++GA
 have K2:cC n0 S2 s dr cur fs:=K1.app GA;have D2:eU cs c d (aq+1) S2:=D1.app GA;have X6:∀a,a<S.length->a≠d->S2[a]?=S[a]?:=λa h1 h2=>by show(S1++GA)[a]?=_;rw[Yj (by exact lC 2 2203623428113 T1 h1 l1)];exact xM.old a h1 h2
 have Ai:S.length<=S2.length:=by show _<=(S1++GA).length;rw[Ye];exact lC 1 8792313905 T1 l1
 cases hA:Eu way fs with
 | true=>
  rw[hA]at cA;cases fs with
  |nil=>cases hA|cons f fs=>
   simp only[Eu,Y5,decide_eq_true_eq,Option.isNone_iff_eq_none]at hA;obtain⟨_,hw,hah⟩:=hA;have K3:=K2.els cur
   let S3:=S2.set f.e (Fr.obj {f with ah:=Ya cur})
   have hm:f.e∈g8 s (f::fs):=Yd _ Yc;have l3:S3.length=S2.length:=uo ..
   let S4:=S3++[MO.lst []]++[MO.lst [.str eO,.ref S3.length]]
   have g0:S4[S3.length]?=Ya (.lst []):=bK (Zn _ _ _) _;have K4:cC n0 S4 s S3.length [] ({f with ah:=Ya cur}::fs):=((K3.app _).app _).now g0 (lD 3 0x30230112011031 T1 l3 Ai hn0) (Iv K3.lt.1 (Yt _));have p1:tH (e2 Zm (Za 2) (e1 cH (eC (.int 1)))) (eC (.int 3)) (aC gh (Zb (Za 3) (Ze))) E S2= .nx E S3:=qj (d:=.non) (Zyj (cj rfl (n_ K2.hc)) (K2.top rfl) rfl (ZuG (K2.he f Yc)));have r1:aQ (aX (Zb (eC (.str [101,108,115,101])) (Zb (aX (Ze)) (Ze)))) E S3= .rt (.ref (S3.length+1)) S4:=cZ ((di (M':=S3++[.lst []]) (ds:=[.str eO,.ref S3.length]) (Zr rfl (Zr (di rfl rfl) rfl)) rfl).trans (by rw[Ye];rfl));refine⟨⟨eO,[],[]⟩,S4,S3.length+1,S3.length,[],_,aq+1,fin (lC 2 0xa0c2012011031 T1 l3 Ai) ?_,⟨?_,K4,((D2.put (by have:=K2.lo.2.1 _ hm;exactλz=>lC 3 0x6211102011021 T1 z this hd0.2) (by have:=K2.lo.2.1 _ hm;exactλz=>lC 3 0x6211102011021 T1 z this hd0.1) _).app _).app _,ZsO,Znb hw hah,?_,hlen,⟨eZ _,λg hg=>?_⟩,λa h1 h2 h3=>?_,?_⟩,lA 0 520413290688 T1⟩
   .unfold zJ;exact h0 (rn ((fV cA).trans ((Zi p1).trans r1)))
   .have:=Zn (S3++[MO.lst []]) (MO.lst [.str eO,.ref S3.length]) [];rw[Ye]at this;exact this
   .intro g hg;rcases Yo.mp hg with e|e
    .rw[e];exact .inl hw
    .exact Iw g (Yd _ e)
   .rcases Yo.mp hg with e|e
    .rw[e];exact sS (hb.2 f Yc)
    .exact sS (hb.2 g (Yd _ e))
   .show(S3++[MO.lst []]++[MO.lst [.str eO,.ref S3.length]])[a]?=_;rw[gG,Yj (by exact lD 3 0x201310132311011 T1 h1 l3 Ai)];exact(Yp λ(z:f.e=a)=>h3 (z▸hm)).trans (X6 a h1 h2)
   .show S.length<=(S3++[MO.lst []]++[MO.lst [.str eO,.ref S3.length]]).length;rw[Ye,Ye];exact lE 2 0x430cc2012011031 T1 l3 Ai
 | false=>
  rw[hA]at cA;obtain⟨GB,cB⟩:=ZqP K2 (env:=E) (way:=way) (λ_=>rfl) (λ_=>rfl)
  let S3:=S2++GB
  have K3:cC n0 S3 s dr cur fs:=K2.app GB;have D3:eU cs c d (aq+1) S3:=D2.app GB;have jC:S.length<=S3.length:=by show _<=(S2++GB).length;rw[Ye];exact lC 1 9059700737 T1 Ai
  have old3:∀a,a<S.length->a≠d->S3[a]?=S[a]?:=λa h1 h2=>by show(S2++GB)[a]?=_;rw[Yj (Y7 h1 Ai)];exact X6 a h1 h2
  have X7:S3[nr]?=Ya (.lst (names.map D.str)):=(old3 nr (Yf.mp hnr).1 nd).trans hnr;cases hB:isEnd way fs with
  | true=>
   rw[hB]at cB;cases fs with
   |nil=>cases hB|cons f fs=>
    simp only[isEnd,Y5,yt,decide_eq_true_eq]at hB;have hf:=Iw f Yc;have hdone:f.done:=by
     rcases hB.2 with z|z
     .rcases hf with q|q
      .rw[z]at q;exact absurd q (by decide)
      .exact .inr q
     .obtain⟨a,ea⟩:=Jr.mp z;rcases hf with q|q
      .exact .inl ⟨q,a,ea⟩
      .rw[q.2]at ea;cases ea
    have hol:=hb.2 f Yc;have ce:=Zk0 K3 hdone (lB 2 0x3e83b003843b1111001 T1 hol hk)
    let W:=(f.pf cur).whole
    let S4:=S3++[MO.lst [W],MO.lst (f.out++[W])]
    have K4:=K3.app [MO.lst [W],MO.lst (f.out++[W])];have g1:S4[S3.length+1]?=Ya (.lst (f.out++[W])):=by show(S3++_)[_]?=_;rw[rC];rfl
    have K5:=K4.pop g1 (lC 2 0xa1c2002011001 T1 jC hn0) (Iv K3.lt.1 (wA _))
    let S5:=S4.set s (.lst (fs.map λf=>D.ref f.e).reverse)
    have l5:S5.length=S3.length+2:=by show(S4.set s _).length=_;rw[uo];show(S3++_).length=_;rw[Ye];rfl
    let S6:=S5++[MO.lst [.str d9,.ref (S3.length+1)]]
    have WQ:S4[s]?=Ya (.lst ((fs.map λf=>D.ref f.e).reverse++[D.ref f.e])):=by rw[K4.hs,Ys,vR]
    refine⟨⟨d9,[],[]⟩,S6,S5.length,S3.length+1,f.out++[W],fs,aq+1,fin (lC 2 9026995324305457 T1 l5 jC) ?_,⟨Zn _ _ _,K5.app _,((D3.app _).put (by have:=K3.lo.2.1 s Yc;exactλz=>lC 3 0x6211102011021 T1 z this hd0.2) (by have:=K3.lo.2.1 s Yc;exactλz=>lC 3 0x6211102011021 T1 z this hd0.1) _).app _,Zrg,ZmR hdone (lB 2 0x3e83b013843b1111001 T1 hol hk),λg hg=>Iw g (Yd _ hg),by rw[Ym]at hlen;exact lA 1 0xc1b00c1ba0c01 T1 hlen,⟨by rw[Ye];exact pZ hol,λg hg=>sS (hb.2 g (Yd _ hg))⟩,λa h1 h2 h3=>?_,?_⟩,lA 0 520413290688 T1⟩
    .unfold zJ;refine h0 ((Zi (cW cA)).trans (rn ((fV cB).trans ((Zi (Zo (rD rfl rfl ce))).trans ((Zi (qj (Ob rfl WQ))).trans ?_)))));exact cZ (di (Zr rfl (Zr rfl rfl)) rfl)
    .show(S5++_)[a]?=_;rw[Yj (by exact lD 3 0x201310121b3c2311011 T1 h1 l5 jC)];refine(Yp λ(z:s=a)=>h3 (z▸Yc)).trans ?_;show(S3++_)[a]?=_;rw[Yj (Y7 h1 jC)];exact old3 a h1 h2
    .show S.length<=(S5++_).length;rw[Ye];omega
  | false=>
   rw[hB]at cB;by_cases hC:(5<=way/\way<8)/\fs.length<12
   .have ch:bN (qD n6 fQ (eC (.int 5)) (Za 5) (eC (.int 8))) (e2 fQ (aC bw (Zb (Za 2) (Ze))) (eC (.int 12))) E S3= .ok (.bl true) S3:=by
     have c1:qD n6 fQ (eC (.int 5)) (Za 5) (eC (.int 8)) E S3= .ok (.bl true) S3:=by exact WP rfl rfl (LQ (by omega)) rfl (by rw[nZ,decide_eq_true (by omega)])
     rw[gY c1];exact Zh (cj rfl (mX K3.hs)) rfl (by rw[nZ,decide_eq_true (by simp;exact iN [_] [] 1 0xc1b089c1b011 T1 hC.2)])
    obtain⟨b,eb,hb6⟩:=oN (v / 30) 6 (by decide);have eb:v / 30 % 6=(b:Int):=eb;obtain⟨m,em,hm9⟩:=oN (v / 10) 9 (by decide);have em:v / 10 % 9=(m:Int):=em;obtain⟨t,S4,Ol,f1,f2,f3,f4,D4⟩:=Wy (M:=S3) (most:=1+m) (deep:=1+b) D3 X7 nd hn hnm (lA 1 0x3c2b0ac091b011 T1 hm9) (iM _ _) (iM _ _) (lA 1 0xf42405b3c2ba0cc1f42405bc82b0c11 T1 ha);have K4:=K3.kp hd0.2 D4.kp;obtain⟨w,hw1,hw2⟩:∃w:List Nat,[D.str cu,.str cu,.str fP][way-5]?=Ya (.str w)/\(w=cu\/w=fP):=by
     match way-5,(show way-5<3 by exact lB 2 0x31b11051b1c2181b011 T1 hC.1.2 (Y8 hC.1.1))with
     |0,_=>exact⟨cu,rfl,.inl rfl⟩|1,_=>exact⟨cu,rfl,.inl rfl⟩|2,_=>exact⟨fP,rfl,.inr rfl⟩
    let S5:=S4++[MO.lst [.str cu,.str cu,.str fP]]
    have K5:cC n0 S5 s dr cur fs:=K4.app _;have Aj:S3.length<=S5.length:=Yi D4.kp.len (len_app S4 _);have K6:=K5.push (lD 3 85606880155602945 T1 Aj jC hn0) w t
    let F:Fr:=⟨S5.length,dr,w,t,cur,Yl⟩
    let S6:=(S5++[F.obj]).set s (.lst ((fs.map λf=>D.ref f.e).reverse++[.ref S5.length]))
    have l6:S6.length=S5.length+1:=by show((S5++_).set s _).length=_;rw[uo,Ye];rfl
    let S7:=S6++[MO.lst []]
    have nG:cG ⟨w,[],[t]⟩:=by
     rcases hw2 with rfl|rfl
     .exact WK rfl (by decide) f1 (lB 2 0x61b0061b1111ac001 T1 f2 hb6) (lB 2 0x322b0091b1111ac001 T1 f3 hm9)
     .exact WK rfl (by decide) f1 (lB 2 0x61b0061b1111ac001 T1 f2 hb6) (lB 2 0x322b0091b1111ac001 T1 f3 hm9)
    let S8:=S7++[MO.lst [.str (glue [32] (Rw.words ⟨w,[],[t]⟩)),.ref (S5.length+1)]]
    have wbl:j9 w=true:=by rcases hw2 with rfl|rfl <;>rfl
    refine⟨⟨w,[],[t]⟩,S8,S7.length,S5.length+1,[],F::fs,Ol,fin (by show _<=(S6++_).length;rw[Ye];exact lE 3 0x40c3023011201a1c031 T1 l6 Aj jC) ?_,⟨Zn _ _ _,K6.app _,(((((D4.dk.app _).app _).put (by have:=K3.lo.2.1 s Yc;exactλz=>lC 3 0x6211102011021 T1 z this hd0.2) (by have:=K3.lo.2.1 s Yc;exactλz=>lC 3 0x6211102011021 T1 z this hd0.1) _).app _).app _),nG,ZqZ wbl hC.2,λg hg=>?_,by rw[Ym];exact lA 1 0xc1ba0c0c1b011 T1 hC.2,⟨eZ _,λg hg=>?_⟩,λa h1 h2 h3=>?_,?_⟩,by have:=D4.le;exact lB 1 0x792b1c003c2ba1cc001 T1 this⟩
    .unfold zJ;refine h0 ((Zi (cW cA)).trans ((Zi (cW cB)).trans (rn ((fV ch).trans ?_))));refine(Zi (Zo (d:=.tup t.flat) (M':=S4) (Hg rfl rfl (c:=.int ((1+b:Nat):Int)) (Zh rfl (Zh (Zh rfl rfl (jt (by decide))) rfl (gw (by decide))) (by rw[uP,eb];congr 2)) (d:=.int ((1+m:Nat):Int)) (Zh rfl (Zh (Zh rfl rfl (jt (by decide))) rfl (gw (by decide))) (by rw[uP,em];congr 2)) f4))).trans ?_;refine(Zi (Zo (d:=.str w) (M':=S5) (Zh (di (ds:=[.str cu,.str cu,.str fP]) rfl rfl) (b:=.int ((way-5:Nat):Int)) (Zh rfl rfl (by rw[T3];congr 2;exact qQ (iN [_,_] [] 1 0x1851b08f851b1c001 T1 (gH _ _)) (iN [_,_] [] 1 0x51b18f088151b0c21 T1 (Y8 hC.1.1)))) (iC (Zn _ _ _) (by rw[fW];exact hw1))))).trans ?_;refine(Zi (nD (M':=S5) (M2:=S5++[F.obj]) (d:=.ref S5.length) rfl K5.hs (di (ds:=[.str w,.tup t.flat,.ref dr,.non]) rfl rfl) (bK K5.hs _) (by simp only[Fx,Yu];exact sO (show fs.length<=12 by exact Bl hC.2) (by decide)))).trans ?_;refine cZ ((di (M':=S7) (ds:=[.str (glue [32] (Rw.words ⟨w,[],[t]⟩)),.ref (S5.length+1)]) (Zr (dD (M1:=S6) (a:=.tup (Rw.deed ⟨w,[],[t]⟩)) (gJ rfl rfl) (ZmO nG S6)) (Zr ((di rfl rfl).trans (by rw[l6])) rfl)) rfl))
    .rcases Yo.mp hg with e|e
     .rw[e];rcases hw2 with q|q
      .exact .inl q
      .exact .inr ⟨q,rfl⟩
     .exact Iw g e
    .rcases Yo.mp hg with e|e
     .rw[e];exact sS hb.1
     .exact sS (hb.2 g e)
    .show(S7++_)[a]?=_;rw[Yj (by show a<(S6++_).length;rw[Ye];exact lF 4 0x52c0141013401a3c2311011 T1 h1 l6 Aj jC)];show(S6++_)[a]?=_;rw[Yj (by exact lE 4 0x20141013401a3c2311011 T1 h1 l6 Aj jC)];refine(Yp λ(z:s=a)=>h3 (z▸Yc)).trans ?_;rw[Yj (by exact lD 3 0x301210132011011 T1 h1 Aj jC)];show(S4++_)[a]?=_;rw[Yj (by have:=D4.kp.len;exact lD 3 81349571939209217 T1 this h1 jC)];exact(D4.kp.old a (Y7 h1 jC) h2).trans (old3 a h1 h2)
    .show S.length<=(S7++_).length;rw[Ye];show S.length<=(S6++_).length+_;rw[Ye];exact lF 3 0x540cc3023011201a1c031 T1 l6 Aj jC
   .have ch:∃G,bN (qD n6 fQ (eC (.int 5)) (Za 5) (eC (.int 8))) (e2 fQ (aC bw (Zb (Za 2) (Ze))) (eC (.int 12))) E S3= .ok (.bl false) (S3++G):=by
     refine⟨[],?_⟩;rw[jZ];by_cases q1:5<=way
     .by_cases q2:way<8
      .have c1:qD n6 fQ (eC (.int 5)) (Za 5) (eC (.int 8)) E S3= .ok (.bl true) S3:=by
        exact WP rfl rfl (LQ (iN [_] [] 1 9147072715521 T1 q1)) rfl (by rw[nZ,decide_eq_true (by exact iN [_] [] 1 0x81b08981b011 T1 q2)])
       rw[gY c1];exact Zh (cj rfl (mX K3.hs)) rfl (by rw[nZ,decide_eq_false (by simp;omega)])
      .have c1:qD n6 fQ (eC (.int 5)) (Za 5) (eC (.int 8)) E S3= .ok (.bl false) S3:=by
        exact WP rfl rfl (LQ (iN [_] [] 1 9147080880209 T1 q2)) rfl (by rw[nZ,decide_eq_false (by exactλz=>iN [_] [] 2 0x681b05181b0891 T1 z q2)])
       exact lR c1
     .have c1:qD n6 fQ (eC (.int 5)) (Za 5) (eC (.int 8)) E S3= .ok (.bl false) S3:=by
       exact Ztv rfl rfl (ZzJ (λz=>iN [_] [] 2 0x6051b410851b81 T1 z q1))
      exact lR c1
    obtain⟨GC,ch⟩:=ch
    let vz:=S3++GC
    obtain⟨r,S4,Ol,nG,rpl,f4,D4⟩:=Zs3 (M:=vz) (D3.app _) (bK X7 _) nd hn hnm (lA 1 0xf42405b782ba0cc1f42405bc82b0c11 T1 ha) (v / 10);have K4:=(K3.app GC).kp hd0.2 D4.kp;have Fo:S3.length<=S4.length:=Yi (len_app S3 GC) D4.kp.len
    let S5:=S4++[MO.lst [.tup r.deed]]++[MO.lst (cur++[.tup r.deed])]
    have g5:S5[S4.length+1]?=Ya (.lst (cur++[.tup r.deed])):=by have:=Zn (S4++[MO.lst [.tup r.deed]]) (MO.lst (cur++[.tup r.deed])) [];rw[Ye]at this;exact this
    have K5:cC n0 S5 s (S4.length+1) (cur++[.tup r.deed]) fs:=((K4.app _).app _).now g5 (lD 3 0xa1c30230102011001 T1 Fo jC hn0) (Iv K4.lt.1 (wA _))
    let S6:=S5++[MO.lst [.str (glue [32] r.words),.ref (S4.length+1)]]
    have hbc:=hb.1;have l5:S5.length=S4.length+2:=by show(S4++_++_).length=_;rw[Ye,Ye];rfl
    refine⟨r,S6,S5.length,S4.length+1,cur++[.tup r.deed],fs,Ol,fin (lD 3 0x302301120121b1c031 T1 l5 Fo jC) ?_,⟨Zn _ _ _,K5.app _,((D4.dk.app _).app _).app _,nG,ZnG rpl (lB 2 0x3e83b013843b1111001 T1 hbc hk),Iw,hlen,⟨by rw[Ye];exact pZ hbc,λg hg=>sS (hb.2 g hg)⟩,λa h1 h2 h3=>?_,?_⟩,by have:=D4.le;exact lB 1 0x792b1c00782ba1cc001 T1 this⟩
    .unfold zJ;refine h0 ((Zi (cW cA)).trans ((Zi (cW cB)).trans ((Zi (cW ch)).trans ?_)));refine(Zi (Zo (d:=.tup r.deed) (M':=S4) (Zvm rfl rfl (Zh rfl rfl (jt (by decide))) f4))).trans ?_;refine cZ (di (M':=S5) (Zr (dD rfl (ZmO nG S4)) (Zr ((Zh rfl (di (Zr rfl rfl) rfl) (Ip (bK K4.hc _) (Zn _ _ _) (by simp;exact lB 2 0xdbb9f5b003843b1111001 T1 hbc hk))).trans (by rw[Ye];rfl)) rfl)) rfl)
    .show(S5++_)[a]?=_;rw[Yj (by exact lE 4 0x2014101340121b3c2311011 T1 h1 l5 Fo jC)];show(S4++_++_)[a]?=_;rw[gG,Yj (by exact lD 3 0x301210132011011 T1 h1 Fo jC)];refine(D4.kp.old a (by show a<(S3++GC).length;rw[Ye];exact lD 2 892808290439185 T1 h1 jC) h2).trans ?_;show(S3++GC)[a]?=_;rw[Yj (Y7 h1 jC)];exact old3 a h1 h2
    .show S.length<=(S5++_).length;rw[Ye];exact lE 3 0x40c302301120121b1c031 T1 l5 Fo jC
end
noncomputable def rW:Nat->List Fr->List Fr
 |_,[]=>[]|n,f::L=>{f with e:=n}::rW (n+1) L
noncomputable def Fr.strip(f:Fr):List Nat×Sm×List D×Option (List D):=(f.w,f.t,f.out,f.ah)
theorem Zrc:∀(n:Nat) (L:List Fr),(rW n L).map (·.e)=vW n L.length
 |_,[]=>rfl|n,_::L=>by rw[rW,Ys,Zrc (n+1) L,Ym,ZS]
theorem ZkJ:∀(n:Nat) (L:List Fr),(rW n L).map Fr.strip=L.map Fr.strip
 |_,[]=>rfl|n,_::L=>by rw[rW,Ys,ZkJ (n+1) L];rfl
theorem Zpw:∀(n:Nat) (L:List Fr),∀g∈rW n L,∃f∈L,∃j,L[j]?=Ya f/\g={f with e:=n+j}
 |_,[],_,h=>nomatch h|n,f::L,g,h=>by
  rcases Yo.mp h with e|e
  .exact⟨f,Yc,0,rfl,e⟩
  .obtain⟨f',h1,j,h2,h3⟩:=Zpw (n+1) L g e;exact⟨f',Yd _ h1,j+1,h2,by rw[h3,qP,mC 1 j]⟩
theorem Zjp:∀(fs gs:List Fr) (cur:List D),fs.map Fr.strip=gs.map Fr.strip->g_ cur fs=g_ cur gs
 |[],[],_,_=>rfl|[],_::_,_,h=>nomatch h|_::_,[],_,h=>nomatch h|f::fs,g::gs,cur,h=>by have h1:f.strip=g.strip:=(jc h).1;have h2:=(jc h).2;simp only[Fr.strip,Sd]at h1;show f.pf cur::g_ f.out fs=g.pf cur::g_ g.out gs;rw[Zjp fs gs f.out h2,h1.2.2.1];simp only[Fr.pf,h1.1,h1.2.1,h1.2.2.2]
theorem ZkY{S:Store}{it:fZ}(hit:∀G,locked it (S++G)=true):∀(L:List Fr) (acc:List D) (G:Store) (a0 a1 a2 a3 a4 a5 a6 a7 a8 a9 a10 a11 x:Option D),(∀f∈L,S[f.e]?=Ya f.obj)->acc.length+L.length<=100 ->
  jd it (bB 12) [] (aC tD (Zb (Za 12) (Ze))) S.length (L.map λf=>D.ref f.e) [a0,a1,a2,a3,a4,a5,a6,a7,a8,a9,a10,a11,x] (S++ .lst acc::G)= .ok (.ref S.length) (S++ .lst (acc++(rW (S.length+1+G.length) L).map λf=>D.ref f.e)::(G++L.map Fr.obj))
 |[],acc,G,a0,a1,a2,a3,a4,a5,a6,a7,a8,a9,a10,a11,x,_,_=>by rw[uq,Ue,if_pos (hit _)];simp[rW]|f::L,acc,G,a0,a1,a2,a3,a4,a5,a6,a7,a8,a9,a10,a11,x,hL,hl=>by
  rw[Ym]at hl
  let T:=S++ .lst acc::G
  have lT:T.length=S.length+1+G.length:=by simp[T];exact Y0 (lB 0 1790139547840 T1) (lB 0 0xa1c0c1a0cc0 T1)
  have ih:=ZkY hit L (acc++[.ref T.length]) (G++[f.obj]) a0 a1 a2 a3 a4 a5 a6 a7 a8 a9 a10 a11 (Ya (.ref f.e)) (λg hg=>hL g (Yd _ hg)) (by simp;exact lB 1 0x642b1a0cc0642ba1c0c01 T1 hl);have hb:aC tD (Zb (Za 12) (Ze)) [a0,a1,a2,a3,a4,a5,a6,a7,a8,a9,a10,a11,Ya (.ref f.e)] T= .ok (.ref T.length) (T++[f.obj]):=by refine cj rfl ?_;show(match T[f.e]? with|some (.lst x)=>alloc (.lst x) T|_=>.bad)=_;rw[show T[f.e]?=Ya f.obj from bK (hL f Yc) _];rfl
  have gt:(T++[f.obj])[S.length]?=Ya (.lst acc):=bK (Zn _ _ _) _;have lt:acc.length<SZ:=sO (show acc.length<=100 by exact lB 1 0x642b00642ba1c0c01 T1 hl) (by decide);have st:(T++[f.obj]).set S.length (.lst (acc++[.ref T.length]))=S++ .lst (acc++[.ref T.length])::(G++[f.obj]):=by simp[T]
  rw[Ys,LK,if_pos (hit _)];simp only[bB,lz,lG,G8,R3.bind,if_true];rw[show S++ .lst acc::G=T from rfl,hb];simp only[gt,lt,if_true,st];rw[ih];simp[rW,lT,qP]
structure Kept(n0:Nat)(S S':Store)(s k dr:Nat)(cur:List D)(fs gs:List Fr):Prop where
 iz:cC n0 S' k dr cur gs
 st:gs.map Fr.strip=fs.map Fr.strip
 hi:∀a∈g8 k gs,S.length<=a
 pre:S<+:S'
 oo:∀g∈gs,∀a∈g8 s fs,a≠g.o
variable{dr:Nat}
theorem Ztj{n0:Nat}{fs:List Fr}(K:cC n0 S s dr cur fs)(hn:n0<=S.length)(hl:fs.length<=12){a0 a1 a2 a3 a4 a6 a7 a8 a9 a10 a11:Option D}:
  ∃S' gs,fU (bW (Za 5)) 1 (bB 12) [] (aC tD (Zb (Za 12) (Ze))) [a0,a1,a2,a3,a4,Ya (.ref s),a6,a7,a8,a9,a10,a11] S= .ok (.ref S.length) S'/\Kept n0 S S' s S.length dr cur fs gs:=by
 have hsl:(fs.map λf=>D.ref f.e).reverse=fs.reverse.map λf=>D.ref f.e:=Fy.symm;have hs:S[s]?=Ya (.lst (fs.reverse.map λf=>D.ref f.e)):=by rw[←hsl];exact K.hs
 have lp:=ZkY (S:=S) (it:=⟨fs.reverse.map λf=>D.ref f.e,Ya s⟩) (λG=>decide_eq_true (bK hs G)) fs.reverse [] [] a0 a1 a2 a3 a4 (Ya (.ref s)) a6 a7 a8 a9 a10 a11 Yl (λf hf=>K.he f (QF.mp hf)) (by simp;exact lA 1 0x642b00c1b001 T1 hl);rw[jh,jh,Fz,J9]at lp
 let m:=S.length+1
 let S':=S++ .lst ((rW m fs.reverse).map λf=>D.ref f.e)::fs.reverse.map Fr.obj
 let gs:=(rW m fs.reverse).reverse
 have old:∀a,a<S.length->S'[a]?=S[a]?:=λa h=>Yj h;have mem:∀g∈gs,∃f∈fs,∃j,fs.reverse[j]?=Ya f/\g={f with e:=m+j}:=λg hg=>by obtain⟨f,h1,j,h2,h3⟩:=Zpw m fs.reverse g (QF.mp hg);exact⟨f,QF.mp h1,j,h2,h3⟩
 have hi:∀a∈g8 S.length gs,S.length<=a:=λa ha=>by
  rcases Yo.mp ha with e|e
  .exact j6 e.symm
  .obtain⟨g,hg,rfl⟩:=dN.mp e;obtain⟨f,_,j,_,rfl⟩:=mem g hg;show S.length<=m+j;omega
 have lt:=K.lt;refine⟨S',gs,?_,⟨?_,λg hg=>?_,λg hg=>?_,?_,?_,λa ha=>⟨?_,λg hg=>?_⟩,K.lo.1,λa ha=>Yi hn (hi a ha),λg hg=>?_⟩,?_,hi,ul _ _,λg hg a ha=>?_⟩
 .have hi0:bW (Za 5) [a0,a1,a2,a3,a4,Ya (.ref s),a6,a7,a8,a9,a10,a11] S= .ok ⟨fs.reverse.map λf=>D.ref f.e,Ya s⟩ S:=by
   show(R3.ok (D.ref s) S).bind _=_;simp only[R3.bind,hs]
  rw[Ug hi0];exact lp
 .refine(Zn S _ _).trans ?_;rw[Fy,ZF]
 .obtain⟨f,_,j,h2,rfl⟩:=mem g hg;show(S++_)[S.length+1+j]?=Ya f.obj;rw[qP,rC,mC 1 j,Fv,lH,h2];rfl
 .obtain⟨f,hf,j,_,rfl⟩:=mem g hg;exact(old f.o (lt.2.2 f hf)).trans (K.ho f hf)
 .exact(old dr lt.2.1).trans K.hc
 .refine iK.mpr ⟨λz=>?_,?_⟩
  .obtain⟨g,hg,e⟩:=dN.mp z;obtain⟨f,_,j,_,rfl⟩:=mem g hg;have e:m+j=S.length:=e;have:m=S.length+1:=rfl;exact lC 2 0x6120c21a1c031 T1 this e
  .rw[Fy,Zrc];exact(List.reverse_perm _).nodup_iff.mpr List.nodup_range'
 .have:=hi a ha;have:=lt.2.1;omega
 .obtain⟨f,hf,j,_,rfl⟩:=mem g hg;have:=hi a ha;have:=lt.2.2 f hf;show a≠f.o;omega
 .obtain⟨f,hf,j,_,rfl⟩:=mem g hg;exact K.lo.2.2 f hf
 .rw[Fy,ZkJ,Fy,ZF]
 .obtain⟨f,hf,j,_,rfl⟩:=mem g hg;exact(K.dj a ha).2 f hf
noncomputable abbrev WR:S3:=(Zq (aA 9 (fU (bW (Za 5)) 1 (bB 12) [] (aC tD (Zb (Za 12) (Ze))))) (Zq (rE (Zz zK (Zb (Za 0) (Zb (Za 1) (Zb (Za 5) (Zb (Za 6) (Ze)))))) [10,11]) (Zq (aJ (e2 cV (e2 aM (Za 7) (aC bw (Zb (Za 10) (Ze)))) (Za 3)) (Zq (aA 5 (Za 9)) (Uc)) (aW)) (Zq (aA 6 (Za 11)) (Zq (aA 7 (e2 aM (e2 aM (Za 7) (aC bw (Zb (Za 10) (Ze)))) (eC (.int 1)))) (aV (aG bx cg (Za 4) (Zb (Za 10) (Ze)))))))))
noncomputable abbrev WT:S3:=(Zq (aJ (bN (e2 bj (e2 Zm (e2 Zm (Za 5) (e1 cH (eC (.int 1)))) (eC (.int 0))) (eC (.str [119,104,101,110]))) (e2 n8 (e2 Zm (e2 Zm (Za 5) (e1 cH (eC (.int 1)))) (eC (.int 3))) (eC .non))) (Zq (tH (e2 Zm (Za 5) (e1 cH (eC (.int 1)))) (eC (.int 3)) (aC gh (Zb (Za 6) (Ze)))) (Zq (aA 6 (aX (Ze))) (aV (aG bx cg (Za 4) (Zb (eC (.str [101,108,115,101])) (Ze)))))) (aW)) (Zq (aA 6 (Zz xu (Zb (Za 5) (Zb (Za 6) (Ze))))) (Zq (aV (aG bx qg (Za 5) (Ze))) (aV (aG bx cg (Za 4) (Zb (eC (.str [101,110,100])) (Ze)))))))
noncomputable abbrev b_(rs:List Rw):List (List Nat):=rs.map λr=>glue [32] r.words
noncomputable def gl(T:List (List Nat)):Nat:=(T.map λt=>t.length+1).sum
theorem WW(T:List (List Nat))(t:List Nat):gl (T++[t])=gl T+(t.length+1):=by simp[gl]
theorem WX:∀(rs:List Rw) (r:Rw) (x y z:List Pf),j_ rs x=Ya y->jx r y=Ya z->j_ (rs++[r]) x=Ya z
 |[],r,x,y,z,h,k=>by cases h;show(jx r x).bind _=_;rw[k];rfl|q::rs,r,x,y,z,h,k=>by
  show(jx q x).bind (j_ (rs++[r]))=_;have h:(jx q x).bind (j_ rs)=Ya y:=h;cases e:jx q x with
  |none=>rw[e]at h;cases h|some w=>rw[e]at h;exact WX rs r w y z h k
noncomputable abbrev Ew:List Pf:=[⟨jV,[],[],[]⟩]
structure iH(cs:List Int)(c d:Nat)(M S:Store)(s dr:Nat)(cur:List D)(fs:List Fr)(rs:List Rw)(aq k:Nat):Prop where
 iz:cC (M.length+1) S s dr cur fs
 dk:eU cs c d aq S
 kp:Kp d M S
 rw:S[M.length]?=Ya (.lst ((b_ rs).map D.str))
 ok:∀r∈rs,cG r
 Ak:j_ rs Ew=Ya (g_ cur fs)
 fr:∀f∈fs,f.ok
 le:fs.length<=12
 bd:cur.length<=k/\∀f∈fs,f.out.length<=k
 ld:c<M.length/\d<M.length
theorem iH.n0{fs:List Fr}{aq k:Nat}(P:iH cs c d M S s dr cur fs rs aq k):M.length+1<=S.length:=(Yf.mp P.rw).1
theorem WY(h:S<+:S')(ha:a<S.length):S'[a]?=S[a]?:=by obtain⟨G,rfl⟩:=h;exact Yj ha
theorem ZrM{fs gs:List Fr}(h:gs.map Fr.strip=fs.map Fr.strip){k:Nat}(ok:∀f∈fs,f.ok)(bd:∀f∈fs,f.out.length<=k):(∀g∈gs,g.ok)/\∀g∈gs,g.out.length<=k:=by
 have key:∀g∈gs,∃f∈fs,f.strip=g.strip:=λg hg=>by
  have:g.strip∈fs.map Fr.strip:=by rw[←h];exact qK hg
  obtain⟨f,hf,e⟩:=dN.mp this;exact⟨f,hf,e⟩
 refine⟨λg hg=>?_,λg hg=>?_⟩
 .obtain⟨f,hf,e⟩:=key g hg;simp only[Fr.strip,Sd]at e;have:=ok f hf;unfold Fr.ok at this ⊢;rw[←e.1,←e.2.2.2];exact this
 .obtain⟨f,hf,e⟩:=key g hg;simp only[Fr.strip,Sd]at e;rw[←e.2.2.1];exact bd f hf
section
variable {cs:List Int} {c d:Nat} {M S:Store} {s dr:Nat} {cur:List D} {fs:List Fr} {rs:List Rw} {aq k:Nat}
theorem iH.mono(P:iH cs c d M S s dr cur fs rs aq k){k':Nat}(h:k<=k'):iH cs c d M S s dr cur fs rs aq k':=⟨P.iz,P.dk,P.kp,P.rw,P.ok,P.Ak,P.fr,P.le,⟨Yi P.bd.1 h,λf hf=>Yi (P.bd.2 f hf) h⟩,P.ld⟩
theorem ZsY(P:iH cs c d M S s dr cur fs rs aq k)(hnr:M[nr]?=Ya (.lst (names.map D.str)))(nd:nr≠d)(hn:names.length=12)(hnm:∀x∈names,fO x)(hk:k<900)(ha:aq+200<1000000)(hr:rs.length<10000)(hg:gl (b_ rs)<=3401)(v2 a8 a9 a10 a11:Option D):
  (∃S' s' fs' at' y9 y10 y11,WR [Ya (.ref d),Ya (.ref nr),v2,Ya (.int 3400),Ya (.ref M.length),Ya (.ref s),Ya (.ref dr),Ya (.int (gl (b_ rs):Int)),a8,a9,a10,a11] S= .bk [Ya (.ref d),Ya (.ref nr),v2,Ya (.int 3400),Ya (.ref M.length),Ya (.ref s'),Ya (.ref dr),Ya (.int (gl (b_ rs):Int)),a8,y9,y10,y11] S'/\iH cs c d M S' s' dr cur fs' rs at' k/\at'<=aq+121)\/
  (∃r S' bT cur' fs' at' y9 y10 y11,WR [Ya (.ref d),Ya (.ref nr),v2,Ya (.int 3400),Ya (.ref M.length),Ya (.ref s),Ya (.ref dr),Ya (.int (gl (b_ rs):Int)),a8,a9,a10,a11] S= .nx [Ya (.ref d),Ya (.ref nr),v2,Ya (.int 3400),Ya (.ref M.length),Ya (.ref s),Ya (.ref bT),Ya (.int (gl (b_ (rs++[r])):Int)),a8,y9,y10,y11] S'/\iH cs c d M S' s bT cur' fs' (rs++[r]) at' (k+1)/\at'<=aq+121/\gl (b_ (rs++[r]))<=3401):=by
 have n0:=P.n0;have ld:=P.ld;obtain⟨S1,gs,hk1,KE⟩:=Ztj P.iz n0 P.le (a0:=Ya (.ref d)) (a1:=Ya (.ref nr)) (a2:=v2) (a3:=Ya (.int 3400)) (a4:=Ya (.ref M.length)) (a6:=Ya (.ref dr)) (a7:=Ya (.int (gl (b_ rs):Int))) (a8:=a8) (a9:=a9) (a10:=a10) (a11:=a11);obtain⟨G,W2⟩:=KE.pre;have K1:cC (M.length+1) S1 s dr cur fs:=by rw[←W2];exact P.iz.app G
 have D1:eU cs c d aq S1:=by rw[←W2];exact P.dk.app G
 have Jp:S.length<=S1.length:=by rw[←W2];exact len_app S G
 have AbK:S1[nr]?=Ya (.lst (names.map D.str)):=(WY KE.pre (Y7 (Yf.mp hnr).1 P.kp.len)).trans (P.kp.get hnr nd);obtain⟨r,S2,n',bT,cur',fs',at',hrow,O,hat⟩:=ZwD K1 D1 AbK nd hn hnm ⟨lB 1 43419504657 T1 ld.1,lB 1 43419504657 T1 ld.2⟩ (Yi n0 Jp) P.fr P.le P.bd hk ha;have oR:S2[M.length]?=Ya (.lst ((b_ rs).map D.str)):=by rw[O.old M.length (lC 2 317802548367361 T1 Jp n0) (λz=>lB 2 25787699233 T1 z ld.2) (λz=>by have:=K1.lo.2.1 _ z;exact lA 1 101321729 T1 this),WY KE.pre (by exact lB 1 4313451521 T1 n0)];exact P.rw
 have Om:Kp d M S2:=⟨by have:=O.len;exact lD 3 0x1302a3c0102011001 T1 this Jp n0,λj h1 h2=>by rw[O.old j (lD 3 0x3012a1c0132011011 T1 h1 Jp n0) h2 (λz=>by have:=K1.lo.2.1 _ z;exact lB 2 6601651653633 T1 this h1),WY KE.pre (by exact lC 2 564230323507217 T1 h1 n0)];exact P.kp.old j h1 h2⟩;have AbL:=(ZmQ O.ok).le
 let u:Int:=(gl (b_ rs):Int)
 let T:=glue [32] r.words
 let E:bJ:=[Ya (.ref d),Ya (.ref nr),v2,Ya (.int 3400),Ya (.ref M.length),Ya (.ref s),Ya (.ref dr),Ya (.int u),a8,Ya (.ref S.length),Ya (.str T),Ya (.ref bT)]
 have a1:rE (Zz zK (Zb (Za 0) (Zb (Za 1) (Zb (Za 5) (Zb (Za 6) (Ze)))))) [10,11] [Ya (.ref d),Ya (.ref nr),v2,Ya (.int 3400),Ya (.ref M.length),Ya (.ref s),Ya (.ref dr),Ya (.int u),a8,Ya (.ref S.length),a10,a11] S1= .nx E S2:=by unfold rE;rw[Hg rfl rfl rfl rfl hrow];simp only[O.out];rfl
 let E2:bJ:=[Ya (.ref d),Ya (.ref nr),v2,Ya (.int 3400),Ya (.ref M.length),Ya (.ref s),Ya (.ref bT),Ya (.int u),a8,Ya (.ref S.length),Ya (.str T),Ya (.ref bT)]
 have X8:∀{X:bJ},Za 10 X S2= .ok (.str T) S2->aC bw (Zb (Za 10) (Ze)) X S2= .ok (.int (T.length:Int)) S2:=λh=>cj h (by simp only[yP,yQ,yR,q_,if_pos (show T.length<=SZ from Yi AbL (by decide))]);have c1:e2 cV (e2 aM (Za 7) (aC bw (Zb (Za 10) (Ze)))) (Za 3) E S2= .ok (.bl (decide ((3400:Int)<u+(T.length:Int)))) S2:=Zh (Zh rfl (X8 rfl) rfl) rfl (by rw[jM]);by_cases W3:(3400:Int)<u+(T.length:Int)
 .rw[decide_eq_true W3]at c1;refine .inl ⟨S2,S.length,gs,at',Ya (.ref S.length),Ya (.str T),Ya (.ref bT),(Zi (Zo hk1)).trans ((Zi a1).trans (?_)),?_,hat⟩
  .unfold Zq;rw[fV c1];rfl
  .have q:=ZrM KE.st P.fr P.bd.2;have KK:=KE.iz;have nm:∀a,a<S1.length->a≠d->a∉g8 s fs->S2[a]?=S1[a]?:=O.old;have Oo:=KK.lt;have lts:=P.iz.lt;refine⟨⟨?_,λf hf=>?_,λf hf=>?_,?_,KK.nd,KK.dj,KK.lo⟩,O.dk,Om,oR,P.ok,by rw[P.Ak,Zjp gs fs cur KE.st],q.1,by have:=congrArg ur KE.st;rw[Yu,Yu]at this;have:=P.le;omega,⟨P.bd.1,q.2⟩,ld⟩
   .have h:=KE.hi _ (Yc (a:=S.length));rw[nm S.length (Oo.1 _ Yc) (λz=>lC 3 0x60a2c0121111021 T1 z ld.2 n0) (λz=>by have:=lts.1 _ z;exact lA 1 393233 T1 this)];exact KK.hs
   .have hm:f.e∈g8 S.length gs:=Yd _ (qK hf);have h:=KE.hi _ hm;rw[nm f.e (Oo.1 _ hm) (λz=>lD 4 0x62a3c01311102011021 T1 z h ld.2 n0) (λz=>by have:=lts.1 _ z;exact lB 2 25786650641 T1 this h)];exact KK.he f hf
   .have h:=KK.lo.2.2 f hf;have hno:f.o∉g8 s fs:=λz=>KE.oo f hf _ z rfl;rw[nm f.o (Oo.2.2 f hf) (λz=>lC 3 0x621110a2c011021 T1 z h ld.2) hno];exact KK.ho f hf
   .have h:=KK.lo.1;rw[nm dr Oo.2.1 (λz=>lC 3 0x621110a2c011021 T1 z h ld.2) (λz=>(P.iz.dj dr z).1 rfl)];exact KK.hc
 .rw[decide_eq_false W3]at c1;have hu:u=(gl (b_ rs):Int):=rfl;have eg:gl (b_ (rs++[r]))=gl (b_ rs)+(T.length+1):=by rw[b_,iY];exact WW _ _
  let S3:=S2.set M.length (.lst ((b_ (rs++[r])).map D.str))
  have hz:((b_ rs).map D.str).length<SZ:=by rw[Yu,Yu];exact nT hr (by decide)
  have a3:=nD (env:=[Ya (.ref d),Ya (.ref nr),v2,Ya (.int 3400),Ya (.ref M.length),Ya (.ref s),Ya (.ref bT),Ya (.int (gl (b_ (rs++[r])):Int)),a8,Ya (.ref S.length),Ya (.str T),Ya (.ref bT)]) (M:=S2) (M':=S2) (M2:=S2) (o:=Za 4) (t:=Za 10) (d:=.str T) rfl oR rfl oR hz;have e3:(b_ rs).map D.str++[D.str T]=(b_ (rs++[r])).map D.str:=by simp[b_,T]
  rw[e3]at a3;refine .inr ⟨r,S3,bT,cur',fs',at',Ya (.ref S.length),Ya (.str T),Ya (.ref bT),(Zi (Zo hk1)).trans ((Zi a1).trans ((Zi (cW c1)).trans ((Zi (Zo (d:=.ref bT) (env':=E2) rfl rfl)).trans ((Zi (Zo (d:=.int (gl (b_ (rs++[r])):Int)) (Zh (Zh rfl (X8 rfl) rfl) rfl (by rw[uP];congr 2;exact qQ (iN [_,_,_] [_] 2 0x8a280cc8180a1a2c1c031 T1 eg hu) (iN [_,_,_] [_] 2 0xa280cc088180b1a2c1c021 T1 eg hu))) rfl)).trans a3)))),?_,hat,iN [_,_,_] [_] 3 0xd493b00280cd483bd1180b1a2c1c021 T1 eg hu W3⟩;have Ld:∀a,M.length+1<=a->a<S2.length->S3[a]?=S2[a]?:=λa h _=>Yp (λz=>lB 2 6708940312625 T1 z h);exact⟨O.iz.frame Ld,O.dk.put (by exactλz=>lB 2 25787699233 T1 z ld.2) (by omega) _,Om.put (Yt _) _,Yw (Yf.mp oR).1,λq hq=>by
   rcases eY.mp hq with z|z
   .exact P.ok q z
   .rw[Yx.mp z];exact O.ok,WX _ _ _ _ _ P.Ak O.st,O.fr,O.le,O.bd,ld⟩
end
section
variable {cs:List Int} {c d:Nat} {M:Store}
theorem ZoZ{nr:Nat}{names:List (List Nat)}(hnr:M[nr]?=Ya (.lst (names.map D.str)))(nd:nr≠d)(hn:names.length=12)(hnm:∀x∈names,fO x){it:fZ}(hi:it.lock=Yl){v2:Option D}:
  ∀(xs:List D) (S:Store) (s dr:Nat) (cur:List D) (fs:List Fr) (rs:List Rw) (aq k:Nat) (a8 a9 a10 a11:Option D),iH cs c d M S s dr cur fs rs aq k->k+xs.length<=400->rs.length<=k->aq+121*xs.length<900000->gl (b_ rs)<=3401 ->
  ∃(S':Store) (s' bT:Nat) (cur':List D) (fs':List Fr) (rs':List Rw) (at':Nat) (y7 y8 y9 y10 y11:Option D),dB it (bB 8) WR xs [Ya (.ref d),Ya (.ref nr),v2,Ya (.int 3400),Ya (.ref M.length),Ya (.ref s),Ya (.ref dr),Ya (.int (gl (b_ rs):Int)),a8,a9,a10,a11] S= .nx [Ya (.ref d),Ya (.ref nr),v2,Ya (.int 3400),Ya (.ref M.length),Ya (.ref s'),Ya (.ref bT),y7,y8,y9,y10,y11] S'/\iH cs c d M S' s' bT cur' fs' rs' at' 400/\rs'.length<=400/\gl (b_ rs')<=3401/\at'<=aq+121*xs.length
 |[],S,s,dr,cur,fs,rs,aq,k,a8,a9,a10,a11,P,h1,h2,h3,h4=>⟨S,s,dr,cur,fs,rs,aq,_,_,_,_,_,by rw[qi,if_pos (by unfold locked;rw[hi])],P.mono (by simpa using h1),Yi h2 (by simpa using h1),h4,iM _ _⟩|x::xs,S,s,dr,cur,fs,rs,aq,k,a8,a9,a10,a11,P,h1,h2,h3,h4=>by
  rw[Ym]at h1 h3;rcases ZsY P hnr nd hn hnm (lB 1 0x3843b011903ba1c0c01 T1 h1) (lB 1 0xf42405bc82b0c1dbba05ba1c79d0c11 T1 h3) (lC 2 0x27104b011903ba2c1c011001 T1 h2 h1) h4 v2 (Ya x) a9 a10 a11 with⟨S',s',fs',at',y9,y10,y11,hb,P',hat⟩|⟨r,S',bT,cur',fs',at',y9,y10,y11,hb,P',hat,hg⟩
  .refine⟨S',s',dr,cur,fs',rs,at',Ya (.int (gl (b_ rs):Int)),Ya x,y9,y10,y11,?_,P'.mono (lB 1 0x1903b001903ba1c0c01 T1 h1),lC 2 0x1903b001903ba2c1c011001 T1 h2 h1,h4,by rw[Ym];exact lC 1 0xa2c79d1c00792b1c001 T1 hat⟩;rw[pq,if_pos (by unfold locked;rw[hi])];simp only[bB,lz,lG];rw[hb]
  .obtain⟨S2,s2,dr2,Al,fs2,W4,at2,z7,z8,z9,W5,z11,hl,P2,q1,q2,q3⟩:=ZoZ hnr nd hn hnm hi xs S' s bT cur' fs' (rs++[r]) at' (k+1) (Ya x) y9 y10 y11 P' (lB 1 0x1903b1a0cc01903ba1c0c01 T1 h1) (by rw[Ye];exact pZ h2) (lC 2 0xdbba05b279d0c1dbba05ba2c79d1c11792b1c001 T1 hat h3) hg;refine⟨S2,s2,dr2,Al,fs2,W4,at2,z7,z8,z9,W5,z11,?_,P2,q1,q2,by rw[Ym];exact lD 2 0xa2c79d3c00792b3c101279d1c001 T1 q3 hat⟩;rw[pq,if_pos (by unfold locked;rw[hi])];simp only[bB,lz,lG];rw[hb];exact hl
theorem iH.app{fs:List Fr}{aq k:Nat}(P:iH cs c d M S s dr cur fs rs aq k)(G:Store):iH cs c d M (S++G) s dr cur fs rs aq k:=⟨P.iz.app G,P.dk.app G,P.kp.trans (Kp.app d S G),bK P.rw G,P.ok,P.Ak,P.fr,P.le,P.bd,P.ld⟩
theorem iH.row{fs fs':List Fr}{aq k k':Nat}(P:iH cs c d M S s dr cur fs rs aq k){S1:Store}{bT:Nat}(K:cC (M.length+1) S1 s bT cur' fs')(D1:eU cs c d aq S1)(kp:Kp d M S1)(hw:S1[M.length]?=Ya (.lst ((b_ rs).map D.str)))(ok:cG r)(st:jx r (g_ cur fs)=Ya (g_ cur' fs'))(fr:∀f∈fs',f.ok)(le:fs'.length<=12)(bd:cur'.length<=k'/\∀f∈fs',f.out.length<=k'):
  iH cs c d M (S1.set M.length (.lst ((b_ (rs++[r])).map D.str))) s bT cur' fs' (rs++[r]) aq k':=
 ⟨K.frame λa h _=>Yp (λz=>lB 2 6708940312625 T1 z h),D1.put (by have:=P.ld;exactλz=>lB 2 25787699233 T1 z this.2) (by have:=P.ld;exactλz=>lB 2 25787699233 T1 z this.1) _,kp.put (Yt _) _,Yw (Yf.mp hw).1,λq hq=>by
  rcases eY.mp hq with z|z
  .exact P.ok q z
  .rw[Yx.mp z];exact ok,WX _ _ _ _ _ P.Ak st,fr,le,bd,P.ld⟩
theorem ZmG{t:List Nat}{e:E3}(hv:Za 4 env S= .ok (.ref M.length) S)(he:e env S= .ok (.str t) S)(ht:t=glue [32] r.words)(hw:S[M.length]?=Ya (.lst ((b_ rs).map D.str)))(hl:rs.length<=1000):
  aV (aG bx cg (Za 4) (Zb e (Ze))) env S= .nx env (S.set M.length (.lst ((b_ (rs++[r])).map D.str))):=by
 refine(nD hv hw he hw (by rw[Yu,Yu];exact sO hl (by decide))).trans ?_;rw[show(b_ rs).map D.str++[D.str t]=(b_ (rs++[r])).map D.str by simp[b_,ht]]
theorem Zq7{f:Fr}{fs:List Fr}{aq k:Nat}(P:iH cs c d M S s dr cur (f::fs) rs aq k)(hd:f.done)(hk:k<=900)(hr:rs.length<=1000)(v0 v1 v2 v3 a7 a8 a9 a10 a11:Option D):
  ∃(S':Store) (bT:Nat) (cur':List D),Zq (aA 6 (Zz xu (Zb (Za 5) (Zb (Za 6) (Ze))))) (Zq (aV (aG bx qg (Za 5) (Ze))) (aV (aG bx cg (Za 4) (Zb (eC (.str [101,110,100])) (Ze))))) [v0,v1,v2,v3,Ya (.ref M.length),Ya (.ref s),Ya (.ref dr),a7,a8,a9,a10,a11] S= .nx [v0,v1,v2,v3,Ya (.ref M.length),Ya (.ref s),Ya (.ref bT),a7,a8,a9,a10,a11] S'/\iH cs c d M S' s bT cur' fs (rs++[⟨d9,[],[]⟩]) aq (k+1):=by
 have n0:=P.n0;have hol:=P.bd.2 f Yc;have ce:=Zk0 P.iz hd (lB 2 0x3e83b003843b1011001 T1 hol hk)
 let W:=(f.pf cur).whole
 let S4:=S++[MO.lst [W],MO.lst (f.out++[W])]
 have K4:=P.iz.app [MO.lst [W],MO.lst (f.out++[W])];have g1:S4[S.length+1]?=Ya (.lst (f.out++[W])):=by show(S++_)[_]?=_;rw[rC];rfl
 have K5:=K4.pop g1 (lB 1 0xa1ca0c01a0c01 T1 n0) (Iv P.iz.lt.1 (wA _))
 let S5:=S4.set s (.lst (fs.map λf=>D.ref f.e).reverse)
 have WQ:S4[s]?=Ya (.lst ((fs.map λf=>D.ref f.e).reverse++[D.ref f.e])):=by rw[K4.hs,Ys,vR]
 have hs0:=P.iz.lo.2.1 s Yc;have ld:=P.ld;have hw5:S5[M.length]?=Ya (.lst ((b_ rs).map D.str)):=(Yp (λz=>lB 2 6640489271329 T1 z hs0)).trans (bK P.rw _);have P2:=P.row (r:=⟨d9,[],[]⟩) (k':=k+1) K5 ((P.dk.app _).put (by exactλz=>lC 3 0x60a2c0121111021 T1 z ld.2 hs0) (by omega) _) ((P.kp.trans (Kp.app d S _)).put (by omega) _) hw5 Zrg (ZmR hd (by omega)) (λg hg=>P.fr g (Yd _ hg)) (by have:=P.le;rw[Ym]at this;omega) ⟨by rw[Ye];exact pZ hol,λg hg=>sS (P.bd.2 g (Yd _ hg))⟩;refine⟨_,S.length+1,f.out++[W],(Zi (Zo (rD rfl rfl ce))).trans ((Zi (qj (Ob rfl WQ))).trans ?_),P2⟩;exact ZmG (r:=⟨d9,[],[]⟩) rfl rfl rfl hw5 hr
theorem Zti{f:Fr}{fs:List Fr}{aq k:Nat}(P:iH cs c d M S s dr cur (f::fs) rs aq k)(hk:k<=800)(hr:rs.length<=900)(v0 v1 v2 v3 a7 a8 a9 a10 a11:Option D):
  ∃(S':Store) (bT:Nat) (cur':List D) (rs':List Rw),WT [v0,v1,v2,v3,Ya (.ref M.length),Ya (.ref s),Ya (.ref dr),a7,a8,a9,a10,a11] S= .nx [v0,v1,v2,v3,Ya (.ref M.length),Ya (.ref s),Ya (.ref bT),a7,a8,a9,a10,a11] S'/\iH cs c d M S' s bT cur' fs rs' aq (k+1)/\rs'.length<=rs.length+2/\gl (b_ rs')<=gl (b_ rs)+9:=by
 have K:=P.iz;have n0:=P.n0;have ld:=P.ld;have gE:∀q:List Rw,gl (b_ (q++[⟨d9,[],[]⟩]))=gl (b_ q)+4:=λq=>by rw[b_,iY];exact WW _ _
 have gL:∀q:List Rw,gl (b_ (q++[⟨eO,[],[]⟩]))=gl (b_ q)+5:=λq=>by rw[b_,iY];exact WW _ _
 let E:bJ:=[v0,v1,v2,v3,Ya (.ref M.length),Ya (.ref s),Ya (.ref dr),a7,a8,a9,a10,a11]
 by_cases hc:f.w=cu/\f.ah=Yl
 .have c1:bN (e2 bj (e2 Zm (e2 Zm (Za 5) (e1 cH (eC (.int 1)))) (eC (.int 0))) (eC (.str [119,104,101,110]))) (e2 n8 (e2 Zm (e2 Zm (Za 5) (e1 cH (eC (.int 1)))) (eC (.int 3))) (eC .non)) E S= .ok (.bl true) S:=by
   rw[gY (M1:=S) (Zh (K.top0 rfl) rfl (ir.trans (by rw[decide_eq_true hc.1])))];exact Zh (K.Jo rfl) rfl ((WM f.ah S).trans (by rw[hc.2];rfl))
  have K3:=K.els cur
  let S3:=S.set f.e (Fr.obj {f with ah:=Ya cur})
  have l3:S3.length=S.length:=uo ..;have hm:f.e∈g8 s (f::fs):=Yd _ Yc;have hlo:=K.lo.2.1 _ hm
  let S4:=S3++[MO.lst []]
  have K4:cC (M.length+1) S4 s S3.length [] ({f with ah:=Ya cur}::fs):=(K3.app _).now (Zn _ _ _) (lC 2 0xa2c01a2c011031 T1 l3 n0) (Iv K3.lt.1 (Yt _));have p1:tH (e2 Zm (Za 5) (e1 cH (eC (.int 1)))) (eC (.int 3)) (aC gh (Zb (Za 6) (Ze))) E S= .nx E S3:=qj (d:=.non) (Zyj (cj rfl (n_ K.hc)) (K.top rfl) rfl (ZuG (K.he f Yc)));have hw4:S4[M.length]?=Ya (.lst ((b_ rs).map D.str)):=bK ((Yp (λz=>lB 2 6640489271329 T1 z hlo)).trans P.rw) _;have P2:=P.row (r:=⟨eO,[],[]⟩) (k':=k) K4 ((P.dk.put (by exactλz=>lC 3 0x621110a2c011021 T1 z hlo ld.2) (by omega) _).app _) ((P.kp.put (by omega) _).trans (Kp.app d _ _)) hw4 ZsO (Znb hc.1 hc.2) (λg hg=>by
   rcases Yo.mp hg with e|e
   .rw[e];exact .inl hc.1
   .exact P.fr g (Yd _ e)) P.le ⟨eZ _,λg hg=>by
   rcases Yo.mp hg with e|e
   .rw[e];exact P.bd.2 f Yc
   .exact P.bd.2 g (Yd _ e)⟩
  obtain⟨S',bT,cur',h2,P3⟩:=Zq7 P2 (.inl ⟨hc.1,cur,rfl⟩) (lA 1 0x3843b003203b001 T1 hk) (by rw[Ye];exact pZ (Yi hr (by decide))) v0 v1 v2 v3 a7 a8 a9 a10 a11;refine⟨S',bT,cur',_,?_,P3,by simp,by rw[gE,gL];exact lA 0 0x91b0c41b51b0cc0 T1⟩;refine(Zi ((fV c1).trans ((Zi p1).trans ((Zi (Zo (d:=.ref S3.length) (M':=S4) (env':=[v0,v1,v2,v3,Ya (.ref M.length),Ya (.ref s),Ya (.ref S3.length),a7,a8,a9,a10,a11]) (di rfl rfl) rfl)).trans (ZmG (r:=⟨eO,[],[]⟩) rfl rfl rfl hw4 (lA 1 0x3e83b003843b001 T1 hr)))))).trans h2
 .have c1:bN (e2 bj (e2 Zm (e2 Zm (Za 5) (e1 cH (eC (.int 1)))) (eC (.int 0))) (eC (.str [119,104,101,110]))) (e2 n8 (e2 Zm (e2 Zm (Za 5) (e1 cH (eC (.int 1)))) (eC (.int 3))) (eC .non)) E S= .ok (.bl false) S:=by
   by_cases q:f.w=cu
   .rw[gY (M1:=S) (Zh (K.top0 rfl) rfl (ir.trans (by rw[decide_eq_true q])))];refine Zh (K.Jo rfl) rfl ((WM f.ah S).trans ?_);cases e:f.ah with
    |none=>exact absurd ⟨q,e⟩ hc|some _=>rfl
   .exact lR (Zh (K.top0 rfl) rfl (ir.trans (by rw[decide_eq_false q])))
  have hdone:f.done:=by
   rcases P.fr f Yc with q|q
   .cases e:f.ah with
    |none=>exact absurd ⟨q,e⟩ hc|some a=>exact .inl ⟨q,a,e⟩
   .exact .inr q
  obtain⟨S',bT,cur',h2,P3⟩:=Zq7 P hdone (lA 1 0x3843b003203b001 T1 hk) (lA 1 0x3e83b003843b001 T1 hr) v0 v1 v2 v3 a7 a8 a9 a10 a11;exact⟨S',bT,cur',_,(Zi (cW c1)).trans h2,P3,by simp,by rw[gE];exact lA 0 0x91b0c41b0c0 T1⟩
theorem Zmv:∀(fs:List Fr) (fuel:Nat) (S:Store) (s dr:Nat) (cur:List D) (rs:List Rw) (aq k:Nat) (v0 v1 v2 v3 a7 a8 a9 a10 a11:Option D),iH cs c d M S s dr cur fs rs aq k->fs.length<fuel->k+fs.length<=700->rs.length+2*fs.length<=800 ->
  ∃(S':Store) (bT:Nat) (cur':List D) (rs':List Rw),tL (e2 rO (Za 5) (aX (Ze))) WT fuel [v0,v1,v2,v3,Ya (.ref M.length),Ya (.ref s),Ya (.ref dr),a7,a8,a9,a10,a11] S= .nx [v0,v1,v2,v3,Ya (.ref M.length),Ya (.ref s),Ya (.ref bT),a7,a8,a9,a10,a11] S'/\iH cs c d M S' s bT cur' [] rs' aq (k+fs.length)/\rs'.length<=rs.length+2*fs.length/\gl (b_ rs')<=gl (b_ rs)+9*fs.length
 |[],fuel,S,s,dr,cur,rs,aq,k,v0,v1,v2,v3,a7,a8,a9,a10,a11,P,h1,_,_=>by obtain⟨f,rfl⟩:∃f,fuel=f+1:=⟨fuel-1,Y0 ((gH _ _)) (j6 (Y8 (lB 1 27267089 T1 h1)))⟩;refine⟨S++[.lst []],dr,cur,rs,?_,P.app _,by simp,by simp⟩;rw[Cm,P.iz.Et rfl];rfl|f::fs,fuel,S,s,dr,cur,rs,aq,k,v0,v1,v2,v3,a7,a8,a9,a10,a11,P,h1,h2,h3=>by rw[Ym]at h1 h2 h3;obtain⟨n,rfl⟩:∃n,fuel=n+1:=⟨fuel-1,Y0 ((gH _ _)) (j6 (Y8 (lB 1 6981028881 T1 h1)))⟩;obtain⟨S1,W6,Ql,W7,hb,P1,q1,q2⟩:=Zti (P.app [.lst []]) (lB 1 0x3203b002bc3ba1c0c01 T1 h2) (lB 1 0x3843b003203ba1c02d0c01 T1 h3) v0 v1 v2 v3 a7 a8 a9 a10 a11;obtain⟨S',bT,cur',rs',hw,P',p1,p2⟩:=Zmv fs n S1 s W6 Ql W7 aq (k+1) v0 v1 v2 v3 a7 a8 a9 a10 a11 P1 (lB 1 1106520968209 T1 h1) (lB 1 0x2bc3b1a0cc02bc3ba1c0c01 T1 h2) (lC 2 0x3203b202d0c03203ba2c02d1c0121b1c001 T1 q1 h3);refine⟨S',bT,cur',rs',?_,P'.mono (by rw[Ym];exact lB 0 0xa1c0c1a0cc0 T1),by rw[Ym];exact lD 2 0xa2c02d3c0021b3c101202d1c001 T1 p1 q1,by rw[Ym];exact lD 2 0xa2c09d3c0091b3c101209d1c001 T1 p2 q2⟩;rw[Cm,P.iz.Et rfl];show(match WT _ _ with| .nx e M'=>_| .ct e M'=>_| .bk e M'=>_|o=>o)=_;rw[hb];exact hw
theorem Zta{many:Nat}(dk:eU cs c d aq M)(hnr:M[nr]?=Ya (.lst (names.map D.str)))(nd:nr≠d)(hn:names.length=12)(hnm:∀x∈names,fO x)(hm:many<=400)(ha:aq<100000):
  ∃(S:Store) (n:Nat) (rs:List Rw) (ds:List D) (at':Nat),Nv [.ref d,.ref nr,.int (many:Int),.int 3400] M= .ok (.ref n) S/\S[n]?=Ya (.lst [.ref M.length,.tup ds])/\S[M.length]?=Ya (.lst ((b_ rs).map D.str))/\eU cs c d at' S/\Kp d M S/\(∀r∈rs,cG r)/\j_ rs Ew=Ya [⟨jV,[],[],ds⟩]/\rs.length<=424/\gl (b_ rs)<=3509/\ds.length<=412/\at'<=aq+48400:=by
 have ld:=dk.lt
 let M1:=M++[MO.lst []]
 let M2:=M1++[MO.lst []]
 let M3:=M2++[MO.lst []]
 have l1:M1.length=M.length+1:=by simp[M1]
 have l2:M2.length=M.length+2:=by simp[M2,M1]
 have K0:cC (M.length+1) M3 M1.length M2.length [] []:=⟨bK (Zn M1 _ _) _,(λf h=>nomatch h),(λf h=>nomatch h),Zn M2 _ _,by simp,λa ha=>⟨by rw[Yx.mp ha];exactλz=>lC 3 0x6a2c02121b2c1311031 T1 z l2 l1,(λf h=>nomatch h)⟩,lB 1 0xa1c021b1c031 T1 l2,λa ha=>by rw[Yx.mp ha];exact j6 l1.symm,(λf h=>nomatch h)⟩;have P0:iH cs c d M M3 M1.length M2.length [] [] [] aq 0:=⟨K0,((dk.app _).app _).app _,((Kp.app d M _).trans (Kp.app d _ _)).trans (Kp.app d _ _),bK (bK (Zn M _ _) _) _,(λr h=>nomatch h),rfl,(λf h=>nomatch h),eZ _,⟨Yt _,(λf h=>nomatch h)⟩,ld⟩;have AbM:(mW 0 many).length=many:=by simp[mW]
 obtain⟨S1,s1,W6,Ql,fs1,W7,at1,y7,y8,y9,y10,y11,hl,P1,q1,q2,q3⟩:=ZoZ hnr nd hn hnm (it:=⟨mW 0 many,Yl⟩) rfl (v2:=Ya (.int (many:Int))) (mW 0 many) M3 M1.length M2.length [] [] [] aq 0 Yl Yl Yl Yl P0 (lB 2 0x1903b0ec01903b1011021 T1 AbM hm) (Yt _) (by omega) (by decide);have hf:=P1.le;obtain⟨S2,dr2,Al,W4,hw,P2,p1,p2⟩:=Zmv fs1 1000000 S1 s1 W6 Ql W7 at1 400 (Ya (.ref d)) (Ya (.ref nr)) (Ya (.int (many:Int))) (Ya (.int 3400)) y7 y8 y9 y10 y11 P1 (lA 1 0xf42405b01c1b001 T1 hf) (lA 1 0x2bc3b01903bc0c1b001 T1 hf) (lB 2 0x3203b002d1c01903b101c1b002 T1 hf q1);refine⟨S2++[.lst [.ref M.length,.tup Al]],S2.length,W4,Al,at1,?_,Zn _ _ _,bK P2.rw _,P2.dk.app _,P2.kp.trans (Kp.app d _ _),P2.ok,P2.Ak,lC 3 0x1a83b001903b101c1b202202d1c001 T1 p1 hf q1,by omega,by have:=P2.bd.1;exact lB 2 0x19c3b00c1b10111903bc001 T1 this hf,by omega⟩;refine(jN (M':=S2++[.lst [.ref M.length,.tup Al]]) (env:=[Ya (.ref d),Ya (.ref nr),Ya (.int (many:Int)),Ya (.int 3400),Yl,Yl,Yl,Yl,Yl,Yl,Yl,Yl]) ?_).trans (Oj P2.kp.len);unfold V2;refine(Zi (Zo (d:=.ref M.length) (M':=M1) (di rfl rfl))).trans ((Zi (Zo (d:=.ref M1.length) (M':=M2) (di rfl rfl))).trans ((Zi (Zo (d:=.ref M2.length) (M':=M3) (di rfl rfl))).trans ((Zi (Zo (d:=.int 0) rfl)).trans ?_)));have hr:tK (Za 2) [Ya (.ref d),Ya (.ref nr),Ya (.int (many:Int)),Ya (.int 3400),Ya (.ref M.length),Ya (.ref M1.length),Ya (.ref M2.length),Ya (.int 0),Yl,Yl,Yl,Yl] M3= .ok ⟨mW 0 many,Yl⟩ M3:=by have:(many:Int)<=1000000/\ -1000000<=(many:Int):=⟨iN [_] [] 1 0xf42405b0881903b001 T1 hm,iN [_] [] 0 615291837336 T1⟩;simp[this]
 refine(Zi ((rA hr).trans hl)).trans ((Zi hw).trans ?_);exact cZ (di (ds:=[.ref M.length,.tup Al]) (Zr rfl (Zr (cj rfl (n_ P2.iz.hc)) rfl)) rfl)
end
noncomputable abbrev lnB:S3:=(Zq (aA 9 (e2 Zm (Za 2) (e2 aZ (e2 aM (Za 4) (Za 8)) (eC (.int 26))))) (Zq (aA 10 (e2 iU (Za 9) (e2 aM (eC (.int 1)) (e2 aZ (e2 b8 (Za 4) (eC (.int 26))) (eC (.int 8)))))) (Zq (aJ (e2 bj (e2 aZ (Za 3) (eC (.int 4))) (eC (.int 1))) (aA 10 (e2 aM (e2 Zm (Za 1) (e2 aZ (e2 aM (Za 8) (Za 4)) (eC (.int 12)))) (Za 6))) (aW)) (Zq (aJ (e2 bj (e2 aZ (Za 3) (eC (.int 4))) (eC (.int 2))) (Zq (aA 10 (e2 aM (e2 iU (Za 5) (e2 aM (eC (.int 1)) (e2 aZ (Za 8) (eC (.int 8))))) (e2 iU (e2 Zm (Za 2) (e2 aZ (e2 aM (Za 4) (eC (.int 1))) (eC (.int 26)))) (e2 b8 (Za 8) (eC (.int 8)))))) (aA 10 (dW (Za 10) (fK) (dw (eC (.int 8)))))) (aW)) (Zq (aJ (e2 bj (e2 aZ (Za 3) (eC (.int 4))) (eC (.int 3))) (aA 10 (e2 aM (e2 aM (Za 6) (Za 9)) (e2 iU (e2 Zm (Za 2) (e2 aZ (e2 b8 (Za 4) (eC (.int 7))) (eC (.int 26)))) (e2 aZ (e2 b8 (Za 4) (eC (.int 676))) (eC (.int 7)))))) (aW)) (Zq (aJ (e2 rF (Za 10) (Za 1)) (aA 10 (e2 aM (Za 10) (eC (.str [120])))) (aW)) (aV (aG bx cg (Za 7) (Zb (Za 10) (Ze))))))))))
noncomputable def bY(x:Int):Nat:=97+(x % 26).toNat
theorem zX(x:Int):97<=bY x/\bY x<=122:=by have a:=qR x (b:=26) (by decide);have b:=uD x (b:=26) (by decide);unfold bY;exact⟨iM _ _,iN [_] [_] 2 0x7a2b0612bc0008a11a2b091 T1 b (nW a)⟩
theorem Iz(x:Int)(M:Store):Zm (.str LET) (.int (x % 26)) M= .ok (.str [bY x]) M:=by
 have a:=qR x (b:=26) (by decide);have b:=uD x (b:=26) (by decide);obtain⟨n,hn⟩:∃n:Nat,x % 26=(n:Int):=⟨(x % 26).toNat,qQ ((wB _)) (wC (nW a))⟩;have hlt:n<26:=iN [_] [_] 2 0x1a2b011a2b091080b1 T1 hn b;have key:∀n:Nat,n<26->LET[n]?=Ya (97+n):=by decide
 unfold bY;rw[hn,Ly,fW,key n hlt,sU];exact if_pos (by decide)
theorem mul_str(c n:Nat)(hn:n<1000)(M:Store):iU (.str [c]) (.int (n:Int)) M= .ok (.str (Yr n c)) M:=by rw[Zrt,if_pos ⟨by show 1*n<=1000000;omega,iN [_] [] 1 0xf42405b0893e83b011 T1 hn,iN [_] [] 0 615291837337 T1⟩];simp
theorem add_str{y:List Nat}(h:x.length+y.length<=1000)(M:Store):aM (.str x) (.str y) M= .ok (.str (x++y)) M:=by rw[ZsW,if_pos (Yi h (by decide))]
noncomputable def rY(mo:Int)(k:Nat):List Nat:=Yr (1+(mo / 26 % 8).toNat) (bY (mo+k))
noncomputable def vA(mo:Int)(k:Nat):List Nat:=Zx.getD (((k:Int)+mo) % 12).toNat []++[bY (mo / 26)]
noncomputable def pK(mo:Int)(k:Nat):List Nat:=(Yr (1+k % 8) (bY mo)++Yr (k / 8) (bY (mo+1))).take 8
noncomputable def vB(mo:Int)(k:Nat):List Nat:=[bY (mo / 26)]++[bY (mo+k)]++Yr (mo / 676 % 7).toNat (bY (mo / 7))
noncomputable def jX(q:Int)(mo:Int)(k:Nat):List Nat:=if q=3 then vB mo k else if q=2 then pK mo k else if q=1 then vA mo k else rY mo k
noncomputable def jy(q mo:Int)(k:Nat):List Nat:=if jX q mo k∈Zx then jX q mo k++[120]else jX q mo k
theorem Ey:∀w∈Zx,3<=w.length/\w.length<=5/\(∀c∈w,97<=c/\c<=122)/\w.dropLast∉Zx/\w.getLast?≠Ya 120/\w[0]?≠w[1]?:=by decide
theorem IK(mo:Int)(k:Nat):∃j:Nat,((k:Int)+mo) % 12=(j:Int)/\j<12/\Zx.getD (((k:Int)+mo) % 12).toNat []∈Zx/\Zx[j]?=Ya (Zx.getD (((k:Int)+mo) % 12).toNat []):=by
 obtain⟨j,ej,hj⟩:=oN ((k:Int)+mo) 12 (by decide);have ej:((k:Int)+mo) % 12=(j:Int):=ej;have hj':j<Zx.length:=hj;refine⟨j,ej,hj,?_,?_⟩
 .rw[ej,sU,Ft,Y3 hj'];exact um _
 .rw[ej,sU,Ft,Y3 hj'];rfl
theorem Oq(h:97<=c/\c<=122):∀x∈Yr n c,97<=x/\x<=122:=λx hx=>by rw[List.eq_of_mem_replicate hx];exact h
theorem IV{y:List Nat}(h:∀c∈x,97<=c/\c<=122)(k:∀c∈y,97<=c/\c<=122):∀c∈x++y,97<=c/\c<=122:=λc hc=>(eY.mp hc).elim (h c) (k c)
theorem Ot(h:97<=a/\a<=122):∀c∈[a],97<=c/\c<=122:=λc hc=>by rw[Yx.mp hc];exact h
theorem ZoH(q mo:Int)(k:Nat):1<=(jX q mo k).length/\(jX q mo k).length<=8/\∀c∈jX q mo k,97<=c/\c<=122:=by
 have m8:0<=mo / 26 % 8/\mo / 26 % 8<8:=⟨qR _ (by decide),uD _ (by decide)⟩;have m7:0<=mo / 676 % 7/\mo / 676 % 7<7:=⟨qR _ (by decide),uD _ (by decide)⟩;unfold jX;by_cases h3:q=3
 .rw[if_pos h3];refine⟨by simp[vB],by simp[vB];exact iN [] [_] 1 6713175552145 T1 m7.2,IV (IV (Ot (zX _)) (Ot (zX _))) (Oq (zX _))⟩
 rw[if_neg h3];by_cases h2:q=2
 .rw[if_pos h2];refine⟨by simp[pK];omega,by simp[pK];exact(Rm _ _),λc hc=>IV (Oq (zX _)) (Oq (zX _)) c (List.take_subset _ _ hc)⟩
 rw[if_neg h2];by_cases h1:q=1
 .rw[if_pos h1];obtain⟨j,_,_,hm,_⟩:=IK mo k;have w:=Ey _ hm;exact⟨by rw[vA,Ye];exact Bh _ _,by rw[vA,Ye,iJ];exact lA 1 0x81ba0c051b001 T1 w.2.1,IV w.2.2.1 (Ot (zX _))⟩
 .rw[if_neg h1];exact⟨by rw[rY,nP];exact iM _ _,by rw[rY,nP];exact iN [_] [_] 2 0x81b0ac0008a181b091 T1 m8.2 (nW m8.1),Oq (zX _)⟩
theorem Zwe(q mo:Int)(k:Nat):ZoX (jy q mo k):=by
 have f:=ZoH q mo k;unfold jy;by_cases h:jX q mo k∈Zx
 .rw[if_pos h];have w:=Ey _ h;exact⟨by rw[Ye];exact Bh _ _,by rw[Ye,iJ];exact lA 1 0x81ba0c051b001 T1 w.2.1,λz=>(Ey _ z).2.2.2.2.1 (by simp),IV f.2.2 (Ot (by decide))⟩
 .rw[if_neg h];exact⟨f.1,f.2.1,h,f.2.2⟩
theorem ZoW{mo:Int}(hi:i<12)(hj:j<12)(h:bY (mo+i)=bY (mo+j)):i=j:=by have a1:=qR (mo+i) (b:=26) (by decide);have a2:=qR (mo+j) (b:=26) (by decide);unfold bY at h;omega
theorem Zpz{q mo:Int}{k m:Nat}(h:m<(jX q mo k).length):(jy q mo k)[m]?=(jX q mo k)[m]?:=by
 unfold jy;split
 .exact Yj h
 .rfl
theorem Ztb{q mo:Int}(hi:i<12)(hj:j<12)(h:jy q mo i=jy q mo j):i=j:=by
 by_cases h3:q=3
 .have e:∀k:Nat,jX q mo k=vB mo k:=λk=>by unfold jX;rw[if_pos h3]
  have g:∀k:Nat,(jy q mo k)[1]?=Ya (bY (mo+k)):=λk=>by rw[Zpz (by rw[e];simp[vB]),e];rfl
  have:=g i;rw[h,g j]at this;exact(ZoW hj hi (Y1 this)).symm
 by_cases h2:q=2
 .have e:∀k:Nat,jX q mo k=pK mo k:=λk=>by unfold jX;rw[if_neg h3,if_pos h2]
  have ne:bY mo≠bY (mo+1):=λz=>by unfold bY at z;omega
  have form:∀k:Nat,k<12->(k<8/\pK mo k=Yr (k+1) (bY mo))\/(8<=k/\pK mo k=Yr (k-7) (bY mo)++[bY (mo+1)]):=λk hk=>by
   by_cases z:k<8
   .left;refine⟨z,?_⟩;rw[pK,Nat.mod_eq_of_lt z,Nat.div_eq_of_lt z,mC 1 k,List.replicate_zero,jZ,sI (by rw[nP];exact lA 1 0x81ba0c081b011 T1 z)]
   .right;refine⟨j5 z,?_⟩;have d1:k / 8=1:=by omega
    have d2:1+k % 8=k-7:=by omega
    rw[pK,d1,d2,sI (by rw[Ye,nP,nP];exact lB 2 0x81ba1c0071b1c21c1b011 T1 hk (Y8 (lA 1 488292593745 T1 z)))];rfl
  have nw:∀k:Nat,k<12->jy q mo k=pK mo k:=λk hk=>by
   unfold jy;rw[e,if_neg λz=>?_];have w:=Ey _ z;rcases form k hk with⟨z1,f⟩|⟨z1,f⟩
   .rw[f,nP]at w;apply w.2.2.2.2.2;rw[Fq (by exact lA 0 658657 T1),Fq (by exact lA 1 0xa0ca1a0c31b01 T1 w.1)]
   .rw[f,Ye,nP,iJ]at w;apply w.2.2.2.2.2;rw[Yj (by rw[nP];exact lA 1 969064782593 T1 w.1),Yj (by rw[nP];exact lA 1 694186875649 T1 w.1),Fq (by exact lA 1 969064782593 T1 w.1),Fq (by exact lA 1 694186875649 T1 w.1)]
  rw[nw i hi,nw j hj]at h;have hl:=congrArg ur h;have hg:=congrArg List.getLast? h;rcases form i hi with⟨z1,f1⟩|⟨z1,f1⟩<;>rcases form j hj with⟨z2,f2⟩|⟨z2,f2⟩<;>rw[f1,f2]at hl hg
  .simp at hl;exact hl
  .simp[YX]at hg;exact absurd hg ne
  .simp[YX]at hg;exact absurd hg.symm ne
  .simp at hl;exact Y0 (lD 3 0x320371b1c2171b0c2011021 T1 hl (gH _ _) (Y8 (lA 1 488284625665 T1 z2))) (lD 3 0x23071b1c301271b0c211031 T1 hl (Y8 (lA 1 488284625665 T1 z1)) (gH _ _))
 by_cases h1:q=1
 .have e:∀k:Nat,jX q mo k=vA mo k:=λk=>by unfold jX;rw[if_neg h3,if_neg h2,if_pos h1]
  have nw:∀k:Nat,jy q mo k=vA mo k:=λk=>by unfold jy;rw[e,if_neg λz=>?_];obtain⟨_,_,_,hm,_⟩:=IK mo k;have w:=(Ey _ z).2.2.2.1;rw[vA,List.dropLast_concat]at w;exact w hm
  rw[nw,nw]at h;have h:=List.append_cancel_right h;obtain⟨a,ea,ha,_,ga⟩:=IK mo i;obtain⟨b,eb,hb,_,gb⟩:=IK mo j;rw[h]at ga;have hn:Zx.Nodup:=by decide
  have:=(ZP (show a<Zx.length from ha) hn).mp (ga.trans gb.symm);omega
 .have e:∀k:Nat,jX q mo k=rY mo k:=λk=>by unfold jX;rw[if_neg h3,if_neg h2,if_neg h1]
  have g:∀k:Nat,(jy q mo k)[0]?=Ya (bY (mo+k)):=λk=>by rw[Zpz (by rw[e,rY,nP];exact lA 0 44257 T1),e,rY,Fq (by exact lA 0 44257 T1)]
  have:=g i;rw[h,g j]at this;exact(ZoW hj hi (Y1 this)).symm
theorem Zvp(h:M[n]?=Ya (.lst (Zx.map D.str)))(x:List Nat):rF (.str x) (.ref n) M= .ok (.bl (decide (x∈Zx))) M:=by
 have he:∀l:List (List Nat),(l.map D.str).any (λy=>cY y (.str x))=decide (x∈l):=by
  intro l
  induction l with
  |nil=>rfl|cons y l ih=>
   rw[Ys,lK,ih,TJ];by_cases h:y=x
   .subst h;simp
   .have h':x≠y:=λe=>h e.symm;simp[h,h']
 have hf:(cF (.str x)&&(Zx.map D.str).all cF)=true:=rfl;rw[Zm1,h];simp only[hf,if_true,he]
theorem W8{c:E3}{p:Prop}[Decidable p]{x y:D}(hc:c env M= .ok (.bl (decide p)) M)(hf:f env M= .ok x M)(hi:env[i]?=Ya (Ya y)):aJ c (aA i f) aW env M= .nx (env.set i (Ya (if p then x else y))) M:=by
 by_cases h:p
 .rw[decide_eq_true h]at hc;rw[if_pos h];exact(fV hc).trans (Zo hf rfl)
 .rw[decide_eq_false h]at hc;rw[if_neg h];refine(cW hc).trans ?_;congr 1;apply x_;intro j;by_cases e:j=i
  .subst e;rw[Yw (Yf.mp hi).1,hi]
  .rw[Yp (dg e)]
theorem ZtR{on:Nat}{v:Int}{acc:List D}{k:Nat}(ho:M[on]?=Ya (.lst (Zx.map D.str)))(hk:k<12)(hl:acc.length<100){v0 x9 x10:Option D}:
  ∃y9 y10,lnB [v0,Ya (.ref on),Ya (.str LET),Ya (.int v),Ya (.int (v / 4)),Ya (.str [bY (v / 4)]),Ya (.str [bY (v / 4 / 26)]),Ya (.ref M.length),Ya (.int (k:Int)),x9,x10] (M++[.lst acc])= .nx [v0,Ya (.ref on),Ya (.str LET),Ya (.int v),Ya (.int (v / 4)),Ya (.str [bY (v / 4)]),Ya (.str [bY (v / 4 / 26)]),Ya (.ref M.length),Ya (.int (k:Int)),y9,y10] (M++[.lst (acc++[.str (jy (v % 4) (v / 4) k)])]):=by
 let mo:=v / 4
 let S:=M++[MO.lst acc]
 have hoS:S[on]?=Ya (.lst (Zx.map D.str)):=bK ho _;have m8:0<=mo / 26 % 8/\mo / 26 % 8<8:=⟨qR _ (by decide),uD _ (by decide)⟩;have m7:0<=mo / 676 % 7/\mo / 676 % 7<7:=⟨qR _ (by decide),uD _ (by decide)⟩
 let En (n:List Nat):bJ:=[v0,Ya (.ref on),Ya (.str LET),Ya (.int v),Ya (.int mo),Ya (.str [bY mo]),Ya (.str [bY (mo / 26)]),Ya (.ref M.length),Ya (.int (k:Int)),Ya (.str [bY (mo+k)]),Ya (.str n)]
 have q4:∀(n:List Nat) (c:Int),e2 bj (e2 aZ (Za 3) (eC (.int 4))) (eC (.int c)) (En n) S= .ok (.bl (decide (v % 4=c))) S:=λn c=>Zh (Zh rfl rfl (gw (by decide))) rfl (by simp only[bj,yM]);have s9:aA 9 (e2 Zm (Za 2) (e2 aZ (e2 aM (Za 4) (Za 8)) (eC (.int 26)))) [v0,Ya (.ref on),Ya (.str LET),Ya (.int v),Ya (.int mo),Ya (.str [bY mo]),Ya (.str [bY (mo / 26)]),Ya (.ref M.length),Ya (.int (k:Int)),x9,x10] S= .nx [v0,Ya (.ref on),Ya (.str LET),Ya (.int v),Ya (.int mo),Ya (.str [bY mo]),Ya (.str [bY (mo / 26)]),Ya (.ref M.length),Ya (.int (k:Int)),Ya (.str [bY (mo+k)]),x10] S:=Zo (Zh rfl (Zh (Zh rfl rfl rfl) rfl (gw (by decide))) (Iz _ _));obtain⟨e8,W9⟩:∃n:Nat,mo / 26 % 8=(n:Int):=⟨(mo / 26 % 8).toNat,by exact qQ ((wB _)) (wC (nW m8.1))⟩;obtain⟨e7,Ou⟩:∃n:Nat,mo / 676 % 7=(n:Int):=⟨(mo / 676 % 7).toNat,qQ ((wB _)) (wC (nW m7.1))⟩;have Mw:aA 10 (e2 iU (Za 9) (e2 aM (eC (.int 1)) (e2 aZ (e2 b8 (Za 4) (eC (.int 26))) (eC (.int 8))))) [v0,Ya (.ref on),Ya (.str LET),Ya (.int v),Ya (.int mo),Ya (.str [bY mo]),Ya (.str [bY (mo / 26)]),Ya (.ref M.length),Ya (.int (k:Int)),Ya (.str [bY (mo+k)]),x10] S= .nx (En (rY mo k)) S:=by
  refine Zo (d:=.str (rY mo k)) (Zh (M2:=S) rfl (b:=.int ((1+e8:Nat):Int)) (Zh rfl (Zh (Zh rfl rfl (jt (by decide))) rfl (gw (by decide))) ?_) ?_)
  .rw[uP,W9];congr 2
  .rw[mul_str _ _ (by exact iN [_] [_] 2 0x3e83b0ac181b091080b1 T1 W9 m8.2),rY,W9,sU]
 obtain⟨j,ej,hj,hm,hg⟩:=IK mo k;have w1:=Ey _ hm
 let n1:=rY mo k
 let n2:=if v % 4=1 then vA mo k else n1
 let n3:=if v % 4=2 then pK mo k else n2
 let n4:=if v % 4=3 then vB mo k else n3
 have f1:e2 aM (e2 Zm (Za 1) (e2 aZ (e2 aM (Za 8) (Za 4)) (eC (.int 12)))) (Za 6) (En n1) S= .ok (.str (vA mo k)) S:=by refine Zh (Zh rfl (Zh (Zh rfl rfl rfl) rfl (gw (by decide))) (iC hoS (d:=.str (Zx.getD (((k:Int)+mo) % 12).toNat [])) ?_)) rfl (add_str (by simp only[iJ];exact lA 1 0x3e83ba0c051b001 T1 w1.2.1) S);rw[ej,fW,lH,hg,ej];rfl
 have Mu:=W8 (i:=10) (q4 n1 1) f1 (y:=.str n1) rfl;have k8:((k:Int)) % 8=((k % 8:Nat):Int):=by omega
 have k8d:((k:Int)) / 8=((k / 8:Nat):Int):=by omega
 have t1:e2 aM (e2 iU (Za 5) (e2 aM (eC (.int 1)) (e2 aZ (Za 8) (eC (.int 8))))) (e2 iU (e2 Zm (Za 2) (e2 aZ (e2 aM (Za 4) (eC (.int 1))) (eC (.int 26)))) (e2 b8 (Za 8) (eC (.int 8)))) (En n2) S= .ok (.str (Yr (1+k % 8) (bY mo)++Yr (k / 8) (bY (mo+1)))) S:=by refine Zh (Zh rfl (b:=.int ((1+k % 8:Nat):Int)) (Zh rfl (Zh rfl rfl (gw (by decide))) (by rw[uP,k8];congr 2)) (mul_str _ _ (by exact lA 1 0x3e83b0ac181b011 T1 (Gf _ (by decide))) S)) (Zh (Zh rfl (Zh (Zh rfl rfl rfl) rfl (gw (by decide))) (Iz _ _)) (b:=.int ((k / 8:Nat):Int)) (Zh rfl rfl ((jt (by decide)).trans (by rw[k8d]))) (mul_str _ _ (by exact lB 2 0x3e83b110108d01c1b011 T1 hk (Bj _ _)) S)) (add_str (by simp;exact lC 3 0x3e83b21acc00208d0181b111c1b011 T1 hk (Gf _ (by decide)) (Bj _ _)) S)
 have s12:aJ (e2 bj (e2 aZ (Za 3) (eC (.int 4))) (eC (.int 2))) (Zq (aA 10 (e2 aM (e2 iU (Za 5) (e2 aM (eC (.int 1)) (e2 aZ (Za 8) (eC (.int 8))))) (e2 iU (e2 Zm (Za 2) (e2 aZ (e2 aM (Za 4) (eC (.int 1))) (eC (.int 26)))) (e2 b8 (Za 8) (eC (.int 8)))))) (aA 10 (dW (Za 10) (fK) (dw (eC (.int 8)))))) (aW) (En n2) S= .nx (En n3) S:=by
  by_cases h:v % 4=2
  .have c:=q4 n2 2;rw[decide_eq_true h]at c;have e3:n3=pK mo k:=if_pos h;rw[e3];refine(fV c).trans ((Zi (Zo (env':=En (Yr (1+k % 8) (bY mo)++Yr (k / 8) (bY (mo+1)))) t1 rfl)).trans (Zo (d:=.str (pK mo k)) ?_ rfl));show yO (.str _) Yl (Ya ((8:Nat):Int)) S=_;rw[Ce,if_pos (by rw[Ye,nP,nP];exact Yi (show _<=100 by exact lC 3 0x642b21acc00208d0181b111c1b011 T1 hk (Gf _ (by decide)) (Bj _ _)) (by decide)),Zrr];rfl
  .have c:=q4 n2 2;rw[decide_eq_false h]at c;have e3:n3=n2:=if_neg h;rw[e3];exact cW c
 have f3:e2 aM (e2 aM (Za 6) (Za 9)) (e2 iU (e2 Zm (Za 2) (e2 aZ (e2 b8 (Za 4) (eC (.int 7))) (eC (.int 26)))) (e2 aZ (e2 b8 (Za 4) (eC (.int 676))) (eC (.int 7)))) (En n3) S= .ok (.str (vB mo k)) S:=by refine(Zh (Zh rfl rfl (add_str (x:=[bY (mo / 26)]) (y:=[bY (mo+k)]) (show 1+1<=1000 by decide) S)) (Zh (Zh rfl (Zh (Zh rfl rfl (jt (by decide))) rfl (gw (by decide))) (Iz _ _)) (b:=.int (e7:Int)) (Zh (Zh rfl rfl (jt (by decide))) rfl ((gw (by decide)).trans (by rw[Ou]))) (mul_str _ _ (by exact iN [_] [_] 2 0x3e83b0171b091080b1 T1 Ou m7.2) S)) (add_str (by simp;exact iN [_] [_] 2 0x3e83b021bc071b091080b1 T1 Ou m7.2) S)).trans ?_;rw[vB,Ou,sU]
 have s13:=W8 (i:=10) (q4 n3 3) f3 (y:=.str n3) rfl;have eB:n4=jX (v % 4) mo k:=by show(if v % 4=3 then vB mo k else if v % 4=2 then pK mo k else if v % 4=1 then vA mo k else rY mo k)=_;rfl
 have fB:=ZoH (v % 4) mo k;have c5:e2 rF (Za 10) (Za 1) (En n4) S= .ok (.bl (decide (n4∈Zx))) S:=Zh rfl rfl (Zvp hoS n4);have f5:e2 aM (Za 10) (eC (.str [120])) (En n4) S= .ok (.str (n4++[120])) S:=Zh rfl rfl (add_str (by rw[eB,iJ];exact lA 1 0x3e83ba0c081b001 T1 fB.2.1) S);have s14:=W8 (i:=10) c5 f5 (y:=.str n4) rfl;have en:∀(p:Prop) [Decidable p] (a b c:List Nat),(En c).set 10 (Ya (if p then D.str a else D.str b))=En (if p then a else b):=λp _ a b c=>by by_cases h:p<;>simp[h,En]
 rw[en]at Mu s13 s14;refine⟨_,_,(Zi s9).trans ((Zi Mw).trans ((Zi Mu).trans ((Zi s12).trans ((Zi s13).trans ((Zi s14).trans (?_:_=O3.nx (En (jy (v % 4) mo k)) _))))))⟩;have eF:(if n4∈Zx then n4++[120]else n4)=jy (v % 4) mo k:=by rw[eB];rfl
 rw[eF];refine(Wd rfl (Zn M _ []) rfl (Zn M _ []) (nT hl (by decide))).trans ?_;simp[mo]
theorem ZoT{M:Store}{on:Nat}{v:Int}(ho:M[on]?=Ya (.lst (Zx.map D.str))){it:fZ}(hi:it.lock=Yl){v0:Option D}:
  ∀(m k:Nat) (acc:List D) (x8 x9 x10:Option D),k+m=12->acc.length<=k->∃y8 y9 y10,dB it (bB 8) lnB ((vW k m).map λ(i:Nat)=>D.int (i:Int)) [v0,Ya (.ref on),Ya (.str LET),Ya (.int v),Ya (.int (v / 4)),Ya (.str [bY (v / 4)]),Ya (.str [bY (v / 4 / 26)]),Ya (.ref M.length),x8,x9,x10] (M++[.lst acc])= .nx [v0,Ya (.ref on),Ya (.str LET),Ya (.int v),Ya (.int (v / 4)),Ya (.str [bY (v / 4)]),Ya (.str [bY (v / 4 / 26)]),Ya (.ref M.length),y8,y9,y10] (M++[.lst (acc++(vW k m).map λi=>D.str (jy (v % 4) (v / 4) i))])
 |0,k,acc,x8,x9,x10,_,_=>⟨x8,x9,x10,by show dB _ _ _ [] _ _=_;rw[qi,if_pos (by unfold locked;rw[hi])];simp⟩|m+1,k,acc,x8,x9,x10,h1,h2=>by obtain⟨y9,y10,hb⟩:=ZtR (v:=v) (acc:=acc) (k:=k) ho (lB 1 0xc1b01c1ba1c0c21 T1 h1) (lC 2 0x642b01c1ba2c1c211001 T1 h2 h1) (v0:=v0) (x9:=x9) (x10:=x10);obtain⟨z8,z9,W5,hl⟩:=ZoT ho hi m (k+1) (acc++[.str (jy (v % 4) (v / 4) k)]) (Ya (.int (k:Int))) y9 y10 (Y0 (lB 1 0xc1b1a0cc0c1ba1c0c21 T1 h1) (lB 1 0x1a0ccc1b0c1ba1c0c31 T1 h1)) (by rw[Ye];exact pZ h2);refine⟨z8,z9,W5,?_⟩;rw[ZS,Ys,Ys,pq,if_pos (by unfold locked;rw[hi])];simp only[bB,lz,lG];rw[hb];simp only;rw[hl,gG];rfl
section
variable {cs:List Int} {c d aq:Nat} {M:Store}
theorem ZrS(dk:eU cs c d aq M)(ha:aq<900000):∃(S:Store) (n:Nat) (names:List (List Nat)),Nt [.ref d] M= .ok (.ref n) S/\S[n]?=Ya (.lst (names.map D.str))/\M.length<=n/\names.length=12/\(∀x∈names,ZoX x)/\names.Nodup/\eU cs c d (aq+1) S/\Kp d M S:=by
 have ld:=dk.lt
 let M1:=M++[MO.lst (Zx.map D.str)]
 obtain⟨v,S1,hv,D1,xM,l1⟩:=(dk.app [MO.lst (Zx.map D.str)]).draw (lA 1 0xf42405b01dbba05b011 T1 ha);have ho:S1[M.length]?=Ya (.lst (Zx.map D.str)):=xM.get (Zn M _ []) (λz=>lB 2 25787699233 T1 z ld.2);obtain⟨y8,y9,y10,hl⟩:=ZoT (v:=v) ho (it:=⟨mW 0 12,Yl⟩) rfl (v0:=Ya (.ref d)) 12 0 [] Yl Yl Yl rfl (Yt _)
 let names:=(vW 0 12).map λi=>jy (v % 4) (v / 4) i
 have en:(vW 0 12).map (λi=>D.str (jy (v % 4) (v / 4) i))=names.map D.str:=by rw[ji];rfl
 have er:(vW 0 12).map (λ(i:Nat)=>D.int (i:Int))=mW 0 12:=by simp[mW,List.range_eq_range']
 rw[jh,en,er]at hl;have hML:M.length<=S1.length:=by rw[l1];exact len_app M _
 refine⟨S1++[.lst (names.map D.str)],S1.length,names,?_,Zn _ _ _,hML,rfl,λx hx=>by obtain⟨i,_,rfl⟩:=dN.mp hx;exact Zwe _ _ i,?_,D1.app _,((Kp.app d M _).trans xM).trans (Kp.app d S1 _)⟩
 .refine(jN (M':=S1++[.lst (names.map D.str)]) (env:=[Ya (.ref d),Yl,Yl,Yl,Yl,Yl,Yl,Yl,Yl,Yl,Yl]) ?_).trans (Oj hML);unfold VN;refine(Zi (Zo (d:=.ref M.length) (M':=M1) (di (ds:=Zx.map D.str) rfl rfl))).trans ((Zi (Zo (d:=.str LET) rfl)).trans ((Zi (Zo (dD rfl hv))).trans ((Zi (Zo (d:=.int (v / 4)) (Zh rfl rfl (jt (by decide))))).trans ((Zi (Zo (Zh rfl (Zh rfl rfl (gw (by decide))) (Iz _ _)))).trans ((Zi (Zo (Zh rfl (Zh (Zh rfl rfl (jt (by decide))) rfl (gw (by decide))) (Iz _ _)))).trans ((Zi (Zo (d:=.ref S1.length) (M':=S1++[.lst []]) (di rfl rfl))).trans ?_))))));have hr:tK (eC (.int 12)) [Ya (.ref d),Ya (.ref M.length),Ya (.str LET),Ya (.int v),Ya (.int (v / 4)),Ya (.str [bY (v / 4)]),Ya (.str [bY (v / 4 / 26)]),Ya (.ref S1.length),Yl,Yl,Yl] (S1++[.lst []])= .ok ⟨mW 0 12,Yl⟩ (S1++[.lst []]):=by simp
  exact(Zi ((rA hr).trans hl)).trans (cZ rfl)
 .have key:∀l:List Nat,l.Nodup->(∀i∈l,i<12)->(l.map λi=>jy (v % 4) (v / 4) i).Nodup:=by
   intro l
   induction l with
   |nil=>intro _ _;exact JK|cons i l ih=>intro hn Qm;rw[Ys,iK];refine⟨λhm=>?_,ih (iK.mp hn).2 λj hj=>Qm j (Yd _ hj)⟩;obtain⟨j,hj,e⟩:=dN.mp hm;have:=Ztb (Qm j (Yd _ hj)) (Qm i Yc) e;exact(iK.mp hn).1 (this▸hj)
  exact key _ (by decide) (by decide)
theorem Zrx(dk:eU cs c d aq M)(ha:aq<900000)(hnr:M[nr]?=Ya (.lst (names.map D.str)))(nd:nr≠d)(hn:names.length=12)(hnd:names.Nodup):
  ∃(S:Store) (tk:List (List Nat)),Nx [.ref d,.ref nr] M= .ok (.tup (tk.map D.str)) S/\tk.length<=6/\tk.Nodup/\(∀x∈tk,x∈names)/\mq cs c d M S aq (aq+1) 1:=by
 have ld:=dk.lt;obtain⟨v,S1,hv,D1,xM,l1⟩:=dk.draw (by exact lA 1 0xf42405b01dbba05b011 T1 ha);have hn1:S1[nr]?=Ya (.lst (names.map D.str)):=xM.get hnr nd;obtain⟨m,em,hm⟩:=oN v 7 (by decide);have em:v % 7=(m:Int):=em
 let g:Nat->List Nat:=λk=>names.getD ((v / 7+k) % 12).toNat []
 have gx:∀k:Nat,∃a:Nat,(v / 7+k) % 12=(a:Int)/\a<12/\names[a]?=Ya (g k):=λk=>by obtain⟨a,ea,ha⟩:=oN (v / 7+k) 12 (by decide);have ea:(v / 7+k) % 12=(a:Int):=ea;refine⟨a,ea,ha,?_⟩;show _=Ya (names.getD ((v / 7+k) % 12).toNat []);rw[ea,sU,Ft,Y3 (by exact lB 2 72552035802787857 T1 ha hn)];rfl
 let tk:=(iw m).map g
 have lc:fU (tK (e2 aZ (Za 2) (eC (.int 7)))) 1 (bB 3) [] (e2 Zm (Za 1) (e2 aZ (e2 aM (e2 b8 (Za 2) (eC (.int 7))) (Za 3)) (eC (.int 12)))) [Ya (.ref d),Ya (.ref nr),Ya (.int v)] S1= .ok (.ref S1.length) (S1++[.lst ((iw m).map λk=>D.str (g k))]):=by
  refine Wg (enc:=λ(k:Nat)=>D.int (0+(k:Int))) (h:=λk=>D.str (g k)) (as:=iw m) (M1:=S1) (lock:=Yl) (λe=>∃x,e=[Ya (.ref d),Ya (.ref nr),Ya (.int v),x]) ?_ (λn z=>nomatch z) ⟨_,rfl⟩ ?_ (by rw[JF];exact lA 1 0x186a05b0071b011 T1 hm)
  .have hmod:e2 aZ (Za 2) (eC (.int 7)) [Ya (.ref d),Ya (.ref nr),Ya (.int v)] S1= .ok (.int (m:Int)) S1:=Zh rfl rfl ((gw (by decide)).trans (by rw[em]));have:(m:Int)<=1000000/\ -1000000<=(m:Int):=⟨iN [_] [] 1 0xf42405b08871b011 T1 hm,iN [_] [] 0 615291837336 T1⟩;simp only[tK,hmod,R3.bind];simp[this,mW]
  .intro k hk env ⟨x,e⟩;subst e;obtain⟨a,ea,Acj,hga⟩:=gx k;refine⟨_,rfl,⟨_,rfl⟩,λz=>Zh rfl (Zh (Zh (Zh rfl rfl (jt (by decide))) rfl rfl) rfl (gw (by decide))) (iC (bK hn1 _) ?_)⟩;rw[Bq,ea,fW,lH,hga];rfl
 have etk:(iw m).map (λk=>D.str (g k))=tk.map D.str:=by rw[ji];rfl
 rw[etk]at lc;have AbN:names.length=12:=hn;obtain⟨S,e,Dr⟩:=Ir (aq:=aq) (x:=.tup (tk.map D.str)) (n:=1) ld (D1.app [.lst (tk.map D.str)]) (xM.trans (Kp.app d S1 _)) (Yt _);refine⟨S,tk,(jN (M':=S1++[.lst (tk.map D.str)]) (env:=[Ya (.ref d),Ya (.ref nr),Yl]) ?_).trans e,by simp[tk];exact lA 1 6713041334289 T1 hm,?_,λx hx=>?_,Dr⟩
 .unfold V3;exact(Zi (Zo (dD rfl hv))).trans (cZ (cj lc (n_ (Zn _ _ _))))
 .have key:∀l:List Nat,l.Nodup->(∀i∈l,i<7)->(l.map g).Nodup:=by
   intro l
   induction l with
   |nil=>intro _ _;exact JK|cons i l ih=>
    intro hn W_;rw[Ys,iK];refine⟨λhm=>?_,ih (iK.mp hn).2 λj hj=>W_ j (Yd _ hj)⟩;obtain⟨j,hj,e⟩:=dN.mp hm;obtain⟨a,ea,ha,ga⟩:=gx j;obtain⟨b,eb,hb,gb⟩:=gx i;rw[e]at ga;have:=(ZP (show a<names.length by exact lB 2 72552035802787857 T1 ha AbN) hnd).mp (ga.trans gb.symm);have h1:=W_ j (Yd _ hj);have h2:=W_ i Yc;have:i=j:=by omega
    exact(iK.mp hn).1 (this▸hj)
  exact key _ List.nodup_range λi hi=>by have:=JG.mp hi;exact nT this hm
 .obtain⟨k,_,rfl⟩:=dN.mp hx;obtain⟨a,_,_,ga⟩:=gx k;exact xZ ga
end
noncomputable def gO:Nat->D->Bool
 |_,.int _=>true|_,.str _=>true|_,.bl _=>true|n+1,.tup ds=>decide (ds.length<=1000)&&ds.all (gO n)
 |_,_=>false
theorem Zm7:∀(n:Nat) (d:D) (M:Store),gO n d=true->qG (n+1) [d,d] M= .ok (.bl true) M:=by
 intro n
 induction n with
 |zero=>
  intro d M h;cases d with
  |str x=>simp[qG,tV,Zq,aA,aQ,aJ,aW,aV,bG,eG,below,bZ,mR]|int i=>simp[qG,tV,Zq,aA,aQ,aJ,aW,aV,bG,eG,below,bZ,mR]|bl b=>simp[qG,tV,Zq,aA,aQ,aJ,aW,aV,bG,eG,below,bZ,mR]|_=>simp[gO]at h
 | succ n ih=>
  intro d M h;cases d with
  |str x=>simp[qG,tV,Zq,aA,aQ,aJ,aW,aV,bG,eG,below,bZ,mR]|int i=>simp[qG,tV,Zq,aA,aQ,aJ,aW,aV,bG,eG,below,bZ,mR]|bl b=>simp[qG,tV,Zq,aA,aQ,aJ,aW,aV,bG,eG,below,bZ,mR]|tup ds=>
   simp only[gO,Y5,decide_eq_true_eq,h_]at h;obtain⟨hl,hd⟩:=h;show bG 2 2 (tV (qG (n+1))) [.tup ds,.tup ds] M=_;generalize qG (n+1)=F at ih;have lc:=tM (α:=Nat) (enc:=λk=>D.int (0+(k:Int))) (h:=λ_=>D.bl true) (own:=1) (i:=2) (it:=tK (aC bw (Zb (Za 1) (Ze)))) (elt:=Zz F (Zb (e2 Zm (Za 0) (Za 2)) (Zb (e2 Zm (Za 1) (Za 2)) (Ze)))) (env:=[Ya (.tup ds),Ya (.tup ds)]) (M:=M) (M1:=M) (lock:=Yl) (as:=iw ds.length)
    (by have:(ds.length:Int)<=1000000/\ -1000000<=(ds.length:Int):=⟨iN [_] [] 1 0xf42405b0883e83b001 T1 hl,iN [_] [] 0 615291837336 T1⟩;simp[this,mW]) (λ_ h=>by cases h)
    (λk hk M=>by
     have hk':k<ds.length:=by simpa using hk
     have hg:ds[k]?=Ya ds[k]:=by simp[hk']
     have:=ih ds[k] M (hd _ (um hk'));have gk:gW ds (0+(k:Int))=Ya ds[k]:=by rw[Bq,fW,hg]
     simp only[Zz,Zb,e2,Za,Ze,pW,jh,Yr,List.set,Jz,Fv,R3.bind,T7,T8,Ly,T9,gk,this]) (by simp;exact lA 1 0x186a05b003e83b001 T1 hl)
   refine Rt.pure (G:=[.lst ((iw ds.length).map λ_=>D.bl true)]) (env:=[Ya (.tup ds),Ya (.tup ds)]) ?_ rfl;unfold tV;refine rn ((fV (M':=M) (by exact rfl)).trans ((Zi (cW (M':=M) (by exact rfl))).trans (cZ ((gY (M1:=M) (by simp)).trans (cj lc ?_)))));simp[allB,Cj,yS]
  |_=>simp[gO]at h
theorem ZiC:∀(n:Nat) (d:D),gO n d=true->gO (n+1) d=true
 |0,.int _,_=>rfl|0,.str _,_=>rfl|0,.bl _,_=>rfl|n+1,.int _,_=>rfl
 |n+1,.str _,_=>rfl|n+1,.bl _,_=>rfl|n+1,.tup ds,h=>by have h:(decide (ds.length<=1000)&&ds.all (gO n))=true:=h;show(decide (ds.length<=1000)&&ds.all (gO (n+1)))=true;rw[Y5,h_]at h ⊢;exact⟨h.1,λx hx=>ZiC n x (h.2 x hx)⟩
theorem Xa(h:n<=m){d:D}(p:gO n d=true):gO m d=true:=by
 induction h with
 |refl=>exact p|step _ ih=>exact ZiC _ _ ih
theorem vC(l:ds.length<=1000)(h:∀x∈ds,gO n x=true):gO (n+1) (.tup ds)=true:=by show(decide (ds.length<=1000)&&ds.all (gO n))=true;rw[Y5,h_];exact⟨decide_eq_true l,h⟩
theorem Xb(n:Nat)(x:List Nat):gO n (.str x)=true:=by cases n<;>rfl
theorem Xc{m:Nat}:∀{l:List D},(∀x∈l,below m x=true)->bZ m l=true
 |[],_=>rfl|d::l,h=>by show(below m d&&bZ m l)=true;rw[h d Yc,Xc λx hx=>h x (Yd _ hx)];rfl
theorem ZiF(m:Nat):∀(n:Nat) (d:D),gO n d=true->below m d=true
 |0,.int _,_=>rfl|0,.str _,_=>rfl|0,.bl _,_=>rfl|n+1,.int _,_=>rfl
 |n+1,.str _,_=>rfl|n+1,.bl _,_=>rfl|n+1,.tup ds,h=>by have h:(decide (ds.length<=1000)&&ds.all (gO n))=true:=h;rw[Y5,h_]at h;show bZ m ds=true;exact Xc λx hx=>ZiF m n x (h.2 x hx)
theorem Zt8(h:mj w):gO n w=true:=by cases h<;>cases n<;>rfl
theorem Zng(H:cG r):∀x∈r.tl,gO 1 x=true:=λx hx=>by
 rcases eY.mp hx with h|h
 .obtain⟨y,_,rfl⟩:=dN.mp h;rfl
 .obtain⟨t,ht,rfl⟩:=dN.mp h;exact vC (Yi (N8 ht) (Yi H.ok.len (by decide))) λw hw=>Zt8 (Em t w hw)
theorem Zvy(H:cG r):r.tl.length<=60:=by have h1:=H.le;have h2:=N_ r.ts;simp only[Rw.tl,Ye,Yu];exact lC 2 0x3c2b02c03b2b12c011001 T1 h2 h1
noncomputable def IW:List Pf->Prop
 |[]=>True|k::fs=>(k.cur.length<=1000/\∀x∈k.cur,gO (2*(13-fs.length)) x=true)/\(∀l∈k.cl,l.length<=1000/\∀x∈l,gO (2*(13-fs.length)) x=true)/\(∀x∈k.hd,gO 1 x=true)/\fs.length<=12/\IW fs
theorem Zsc(H:cG r):∀{x y:List Pf},IW x->jx r x=Ya y->IW y
 |[],_,_,h=>nomatch h|k :: fs,y,P,h=>by
  have h:stepK r k fs=Ya y:=h;obtain⟨p1,p2,p3,p4,p5⟩:=P;unfold stepK at h;by_cases h1:j9 r.h=true
  .rw[if_pos h1]at h;by_cases hl:fs.length+1<=12
   .rw[if_pos hl]at h;rw[←Y1 h];exact⟨⟨eZ _,(λx hx=>nomatch hx)⟩,(λl hl=>nomatch hl),Zng H,hl,p1,p2,p3,p4,p5⟩
   .rw[if_neg hl]at h;cases h
  rw[if_neg h1]at h;by_cases h2:r.h=eO
  .rw[if_pos h2]at h;by_cases hc:k.h=cu/\k.cl=[]
   .rw[if_pos hc]at h;rw[←Y1 h];exact⟨⟨eZ _,(λx hx=>nomatch hx)⟩,(λl hl=>by rw[Yx.mp hl];exact p1),p3,p4,p5⟩
   .rw[if_neg hc]at h;cases h
  rw[if_neg h2]at h;by_cases h3:r.h=d9
  .rw [if_pos h3]at h;cases fs with
   |nil=>cases h|cons k2 fs=>
    simp only at h;by_cases hc:tY k.h=((k.cl.length+1:Nat):Int)/\k.hd.length<100/\k.cl.length<100/\k2.cur.length<1000
    .rw [if_pos hc]at h;rw [←Y1 h];obtain⟨q1,q2,q3,q4,q5⟩:=p5;rw[Ym]at p1 p2 p4;have ed:2*(13-fs.length)=2*(13-(fs.length+1))+1+1:=Y0 (lC 2 0xaa202dcc002d0a1c2cd1b02d1b10c22 T1 (Y8 (lA 1 0xd1b00c1b001 T1 q4)) (gH _ _)) (lC 2 0x2daa202dcc0d1ba1c2c2210cd1b02 T1 (gH _ _) (Y8 (lA 1 0xd1ba0c0c1b001 T1 q4)));have hw:gO (2*(13-fs.length)) k.whole=true:=by
      rw[ed];refine vC ?_ λx hx=>?_
      .simp only[Ye,Ym,Yu,Fz];exact lB 2 0x3e83baec1ca0cc0642b111642b011 T1 hc.2.1 hc.2.2.1
      .rcases eY.mp hx with z|z
       .rcases Yo.mp z with e|e
        .rw[e];exact Xb _ _
        .exact Xa (Bh _ _) (p3 x e)
       .obtain⟨l,hl,rfl⟩:=dN.mp z;rcases eY.mp hl with e|e
        .exact vC (p2 l e).1 (p2 l e).2
        .rw[Yx.mp e];exact vC p1.1 p1.2
     refine⟨⟨by rw[Ye,iJ];exact hc.2.2.2,λx hx=>?_⟩,q2,q3,q4,q5⟩;rcases eY.mp hx with z|z
     .exact q1.2 x z
     .rw[Yx.mp z];exact hw
    .rw[if_neg hc]at h;cases h
  rw[if_neg h3]at h;by_cases hc:k.cur.length<1000
  .rw[if_pos hc]at h;rw[←Y1 h];have hd:gO (2*(13-fs.length)) (.tup r.deed)=true:=by
    refine Xa (n:=2) (lB 2 0x102d21b001cd1b02c1b002 T1 p4 (gH _ _)) (vC (n:=1) ?_ λx hx=>?_)
    .rw[Od,Ym];have:=Zvy H;exact lA 1 0x3e83ba0c03c2b001 T1 this
    .rw[Od]at hx;rcases Yo.mp hx with e|e
     .rw[e];rfl
     .exact Zng H x e
   refine⟨⟨by rw[Ye,iJ];exact hc,λx hx=>?_⟩,p2,p3,p4,p5⟩;rcases eY.mp hx with z|z
   .exact p1.2 x z
   .rw[Yx.mp z];exact hd
  .rw[if_neg hc]at h;cases h
theorem Zpl:∀(rs:List Rw) (x y:List Pf),(∀r∈rs,cG r)->IW x->j_ rs x=Ya y->IW y
 |[],x,y,_,P,h=>by cases h;exact P|r::rs,x,y,H,P,h=>by
  have h:(jx r x).bind (j_ rs)=Ya y:=h;cases e:jx r x with
  |none=>rw[e]at h;cases h|some z=>rw[e]at h;exact Zpl rs z y (λq hq=>H q (Yd _ hq)) (Zsc (H r Yc) P e) h
theorem run_plain(H:∀r∈rs,cG r)(h:j_ rs Ew=Ya [⟨jV,[],[],ds⟩]):ds.length<=1000/\∀x∈ds,gO 26 x=true:=by have:=Zpl rs Ew _ H ⟨⟨eZ _,(λx hx=>nomatch hx)⟩,(λl hl=>nomatch hl),(λx hx=>nomatch hx),eZ _,trivial⟩ h;exact this.1
noncomputable def Rw.iI(r:Rw):List D:=.str r.h::(r.xs.map D.str++bM r.ts)
noncomputable abbrev headD(w:List Nat)(t:Sm):List D:=.str w::t.flat
inductive Sh:List D->List (List D)->Nat->Prop
 |nil (n:Nat):Sh [] [] n
 |row {ds:List D} {R:List (List D)} {n:Nat} (r:Rw) (ok:cG r) (p:Oi r) (h:Sh ds R n):Sh (ds++[.tup r.deed]) (R++[r.iI]) n
 |whn {ds a b:List D} {R A B:List (List D)} {n:Nat} (t:Sm) (ok:cG ⟨cu,[],[t]⟩) (ha:Sh a A n) (hb:Sh b B n) (h:Sh ds R (n+1)):Sh (ds++[.tup [.str cu,.tup t.flat,.tup a,.tup b]]) (R++(headD cu t::(A++[.str eO]::(B++[[.str d9]])))) (n+1)
 |whl {ds a:List D} {R A:List (List D)} {n:Nat} (t:Sm) (ok:cG ⟨fP,[],[t]⟩) (ha:Sh a A n) (h:Sh ds R (n+1)):Sh (ds++[.tup [.str fP,.tup t.flat,.tup a]]) (R++(headD fP t::(A++[[.str d9]]))) (n+1)
inductive jY:List Pf->List (List D)->Prop
 |base {cur:List D} {R:List (List D)} (h:Sh cur R 12):jY [⟨jV,[],[],cur⟩] R
 |one {w:List Nat} {t:Sm} {fs:List Pf} {R0 R:List (List D)} {cur:List D} {n:Nat} (ok:cG ⟨w,[],[t]⟩) (bl:w=cu\/w=fP) (h0:jY fs R0) (h:Sh cur R n) (l:n+fs.length=12):jY (⟨w,[.tup t.flat],[],cur⟩::fs) (R0++(headD w t::R))
 |two {t:Sm} {fs:List Pf} {R0 A R:List (List D)} {a cur:List D} {n:Nat} (ok:cG ⟨cu,[],[t]⟩) (h0:jY fs R0) (ha:Sh a A n) (h:Sh cur R n) (l:n+fs.length=12):jY (⟨cu,[.tup t.flat],[a],cur⟩::fs) (R0++(headD cu t::(A++[.str eO]::R)))
variable{R:List (List D)}
theorem jY.add{k:Pf}{fs:List Pf}{Q:List (List D)}{d:D}(H:jY (k::fs) R)(hd:∀{ds:List D} {P:List (List D)} {n:Nat},n+fs.length=12->Sh ds P n->Sh (ds++[d]) (P++Q) n):jY (⟨k.h,k.hd,k.cl,k.cur++[d]⟩::fs) (R++Q):=by
 cases H with
 |base h=>exact .base (hd rfl h)|one ok bl h0 h l=>rw[gG,pW];exact .one ok bl h0 (hd l h) l
 |two ok h0 ha h l=>have:=jY.two ok h0 ha (hd l h) l;simp only[gG,pW]at this ⊢;exact this
theorem Zwv(H:cG r)(hb:j9 r.h=true):∃t,r=⟨r.h,[],[t]⟩/\(r.h=cu\/r.h=fP):=by
 obtain⟨h,xs,ts⟩:=r;have hs:=H.sm;have hx:=H.nx;have hw:h=cu\/h=fP:=by
  by_cases h1:h=cu
  .exact .inl h1
  by_cases h2:h=fP
  .exact .inr h2
  have:j9 h=false:=by unfold j9;simp only[oG,dh,if_neg h1,if_neg h2];rfl
  rw[show j9 h=true from hb]at this;cases this
 have hl:ts.length=1:=by rcases hw with e|e<;>(subst e;have:=Y1 hs;simp only at this;exact Y0 (iN [_] [] 1 2684390065 T1 this) (iN [_] [] 1 167807649 T1 this))
 have hx0:xs=[]:=by rcases hw with e|e<;>(subst e;exact Fw.mp hx)
 match ts,hl with
 |[t],_=>exact⟨t,by rw[hx0],hw⟩
theorem ZoM(H:cG r){w:List Nat}(hw:r.h=w)(h0:dh w jf=Ya 0)(hn:w≠iV):r=⟨w,[],[]⟩:=by obtain⟨h,xs,ts⟩:=r;obtain rfl:h=w:=hw;have hs:dh h jf=Ya (ts.length:Int):=H.sm;rw[h0]at hs;have h1:=Y1 hs;have hx:xs.length=if h=iV then 1 else 0:=H.nx;rw[if_neg hn]at hx;rw[Fw.mp hx,Fw.mp (by exact Y0 (iN [_] [] 1 3758132913 T1 h1) (eZ _):ts.length=0)]
theorem jY.step(H:cG r){x y:List Pf}(S:jY x R)(h:jx r x=Ya y):jY y (R++[r.iI]):=by
 cases x with
 |nil=>cases h|cons k fs=>
  have h:stepK r k fs=Ya y:=h;unfold stepK at h;by_cases h1:j9 r.h=true
  .rw[if_pos h1]at h;by_cases hl:fs.length+1<=12
   .rw[if_pos hl]at h;rw[←Y1 h];obtain⟨t,e,hw⟩:=Zwv H h1;have ok:cG ⟨r.h,[],[t]⟩:=e▸H;have q:=jY.one ok hw S (Sh.nil (12-(fs.length+1))) (by rw[Ym];exact Y0 (j6 (Y8 hl)) ((gH _ _)));rw[e];have e2:Rw.iI ⟨r.h,[],[t]⟩=headD r.h t:=by simp[Rw.iI,bM]
    rw[e2];exact q
   .rw[if_neg hl]at h;cases h
  rw[if_neg h1]at h;by_cases h2:r.h=eO
  .rw[if_pos h2]at h;by_cases hc:k.h=cu/\k.cl=[]
   .rw[if_pos hc]at h;rw[←Y1 h,ZoM H h2 rfl (by decide)];obtain⟨c1,c2⟩:=hc;cases S with
    |base hh=>exact absurd (show jV=cu from c1) (by decide)|one ok bl h0 hh l=>obtain rfl:=c1;have q:=jY.two ok h0 hh (Sh.nil _) l;simp only[gG,pW]at q ⊢;exact q
    |two ok h0 ha hh l=>cases c2
   .rw[if_neg hc]at h;cases h
  rw[if_neg h2]at h;by_cases h3:r.h=d9
  .rw [if_pos h3]at h;cases fs with
   |nil=>cases h|cons k2 fs=>
    simp only at h;by_cases hc:tY k.h=((k.cl.length+1:Nat):Int)/\k.hd.length<100/\k.cl.length<100/\k2.cur.length<1000
    .rw[if_pos hc]at h;rw[←Y1 h,ZoM H h3 rfl (by decide)];cases S with
     | @one w t _ R0 R' cur n ok bl h0 hh l=>
      have hw:w=fP:=by
       rcases bl with e|e
       .have:=hc.1;rw[e]at this;exact absurd (show tY cu=((0+1:Nat):Int)from this) (by decide)
       .exact e
      subst hw;have q:=h0.add (d:=Pf.whole ⟨fP,[.tup t.flat],[],cur⟩) (Q:=headD fP t::(R'++[[.str d9]])) @λ_ _ m hn hs=>by rw[Ym]at l;have e1:m=n+1:=Y0 (lC 2 0xa2c00c1ba1c2c31c1b10c21 T1 hn l) (lC 2 0xa2c0c1ba1c2c21c1b10c31 T1 hn l);subst e1;exact Sh.whl t ok hh hs
      simp only[gG,pW]at q ⊢;exact q
     | @two t _ R0 A R' a cur n ok h0 ha hh l=>
      have q:=h0.add (d:=Pf.whole ⟨cu,[.tup t.flat],[a],cur⟩) (Q:=headD cu t::(A++[.str eO]::(R'++[[.str d9]]))) @λ_ _ m hn hs=>by rw[Ym]at l;have e1:m=n+1:=Y0 (lC 2 0xa2c00c1ba1c2c31c1b10c21 T1 hn l) (lC 2 0xa2c0c1ba1c2c21c1b10c31 T1 hn l);subst e1;exact Sh.whn t ok ha hh hs
      simp only[gG,pW]at q ⊢;exact q
    .rw[if_neg hc]at h;cases h
  rw[if_neg h3]at h;by_cases hc:k.cur.length<1000
  .rw[if_pos hc]at h;rw[←Y1 h];exact S.add λ_ hs=>Sh.row r H ⟨by simpa using h1,h2,h3⟩ hs
  .rw[if_neg hc]at h;cases h
theorem jY.run:∀(rs:List Rw) (x y:List Pf) (R:List (List D)),(∀r∈rs,cG r)->jY x R->j_ rs x=Ya y->jY y (R++rs.map Rw.iI)
 |[],x,y,R,_,S,h=>by cases h;simpa using S|r::rs,x,y,R,H,S,h=>by
  have h:(jx r x).bind (j_ rs)=Ya y:=h;cases e:jx r x with
  |none=>rw[e]at h;cases h|some z=>rw[e]at h;have:=jY.run rs z y _ (λq hq=>H q (Yd _ hq)) (S.step (H r Yc) e) h;simpa using this
theorem Zv0(H:∀r∈rs,cG r)(h:j_ rs Ew=Ya [⟨jV,[],[],ds⟩]):Sh ds (rs.map Rw.iI) 12:=by
 have:=jY.run rs Ew _ [] H (.base (.nil 12)) h;rw[jh]at this;cases this with
 |base h=>exact h
theorem zY(h:M<+:S)(e:M[n]?=Ya o):S[n]?=Ya o:=by obtain⟨G,rfl⟩:=h;exact bK e G
theorem Xd{r:Nat}(h:M<+:S)(hr:M.length<=r):M<+:S.set r o:=by obtain⟨G,rfl⟩:=h;obtain⟨k,rfl⟩:=Nat.le.dest hr;rw[Hf];exact⟨_,rfl⟩
def LE(f:E3)(env:bJ)(M:Store)(xs:List D):Prop:=∃n S,f env M= .ok (.ref n) S/\M<+:S/\S[n]?=Ya (.lst xs)
def LF(f:E3)(env:bJ)(M:Store)(xs:List D):Prop:=∃n S,f env M= .ok (.ref n) S/\M<+:S/\S[n]?=Ya (.lst xs)/\M.length<=n
def FL(F:F3)(ds:List D)(M:Store)(xs:List D):Prop:=∃n S,F ds M= .ok (.ref n) S/\M<+:S/\S[n]?=Ya (.lst xs)/\M.length<=n
def BL(M0:Store)(u:S3)(env:bJ)(M:Store)(xs:List D):Prop:=∃n S,u env M= .rt (.ref n) S/\M0<+:S/\S[n]?=Ya (.lst xs)/\M0.length<=n
theorem LF.le(h:LF f env M xs):LE f env M xs:=let⟨n,S,a,b,c,_⟩:=h;⟨n,S,a,b,c⟩
theorem LE.add{x:List D}(hf:LE f env M x)(hg:∀S,M<+:S->LE g env S y)(hz:x.length+y.length<=900000):LF (e2 aM f g) env M (x++y):=by obtain⟨n,S,h1,p1,g1⟩:=hf;obtain⟨m,S2,h2,p2,g2⟩:=hg S p1;exact⟨S2.length,S2++[.lst (x++y)],Zh h1 h2 (Ip (zY p2 g1) g2 hz),(p1.trans p2).trans (ul _ _),Zn _ _ _,(p1.trans p2).length_le⟩
theorem LE.var{x:List D}(h:Za i env M= .ok (.ref n) M)(hx:M[n]?=Ya (.lst x)):LE (Za i) env M x:=⟨n,M,h,Ax _,hx⟩
theorem LF.lst{g:d_}{env:bJ}{M:Store}{ds:List D}(h:g env M= .ok ds M)(hl:decide (ds.length<=100)=true):LF (aX g) env M ds:=⟨M.length,M++[.lst ds],di h hl,ul _ _,Zn _ _ _,Yt _⟩
theorem LF.call{F:F3}{g:d_}{x:List D}(h:g env M= .ok ds M)(hF:FL F ds M x):LF (Zz F g) env M x:=by obtain⟨n,S,h1,p1,g1⟩:=hF;exact⟨n,S,by simp only[Zz,h,R3.bind,h1],p1,g1⟩
variable{M0:Store}
theorem BL.set{u:S3}{x:List D}(hf:LE f env M x)(hu:∀n S,M<+:S->S[n]?=Ya (.lst x)->BL M0 u (env.set i (Ya (.ref n))) S xs):BL M0 (Zq (aA i f) u) env M xs:=by obtain⟨n,S,h1,p1,g1⟩:=hf;obtain⟨m,S2,h2,r⟩:=hu n S p1 g1;exact⟨m,S2,(Zi (Zo h1 rfl)).trans h2,r⟩
theorem BL.ret(hf:LF f env M xs)(p:M0<+:M):BL M0 (aQ f) env M xs:=by obtain⟨n,S,h1,p1,g1,l1⟩:=hf;exact⟨n,S,cZ h1,p.trans p1,g1,Yi p.length_le l1⟩
theorem BL.skip{c:E3}{u v:S3}(hc:c env M= .ok (.bl false) M)(hv:BL M0 v env M xs):BL M0 (Zq (aJ c u aW) v) env M xs:=by obtain⟨n,S,h1,r⟩:=hv;exact⟨n,S,(Zi (cW hc)).trans h1,r⟩
theorem BL.take{c:E3}{u v w:S3}(hc:c env M= .ok (.bl true) M)(hu:BL M0 u env M xs):BL M0 (Zq (aJ c u w) v) env M xs:=by obtain⟨n,S,h1,r⟩:=hu;exact⟨n,S,rn ((fV hc).trans h1),r⟩
theorem BL.step{u v:S3}{env':bJ}(hu:u env M= .nx env' S)(hv:BL M0 v env' S xs):BL M0 (Zq u v) env M xs:=by obtain⟨n,S2,h1,r⟩:=hv;exact⟨n,S2,(Zi hu).trans h1,r⟩
theorem FL.of{ps:Nat}{body:S3}(h:BL M body env M xs)(hl:ds.length=ps)(he:ds.map Ya++Yr (n-ps) Yl=env):FL (bG ps n body) ds M xs:=by obtain⟨k,S,h1,p1,g1,l1⟩:=h;refine⟨k,S,(jN (n:=n) h1 hl he).trans ?_,p1,g1,l1⟩;have hb:below M.length (.ref k)=false:=decide_eq_false (λz=>lB 2 25786650641 T1 z l1);rw[eG,hb];rfl
theorem Zu1{o t:E3}{r:Nat}{ys:List D}(ho:o env M= .ok (.ref r) M)(hr:M[r]?=Ya (.lst xs))(ht:LF t env M ys)(hz:xs.length+ys.length<=900000):
  ∃S,aV (aG bx mZ o (Zb t Ze)) env M= .nx env (S.set r (.lst (xs++ys)))/\M<+:S:=by
 obtain⟨n,S,h1,p1,g1,l1⟩:=ht;refine⟨S,qj (d:=.non) (Es ho (by rw[yU,hr]) (Zr h1 rfl) ?_),p1⟩;have hlt:=(Yf.mp hr).1;rw[yX,zY p1 hr,g1];exact if_pos ⟨(λz=>lC 3 0x6120120111031 T1 z hlt l1),Yi hz (by decide)⟩
def oX(F:F3)(d:D)(h:List (List D)):Prop:=∀(M:Store),FL F [d] M (h.map D.tup)
abbrev Ez(F:F3)(ds:List D)(R:List (List D)):Prop:=oX F (.tup ds) R
theorem Ov{a b:List Nat}(h:a=b):bj (.str a) (.str b) M= .ok (.bl true) M:=ir.trans (by rw[decide_eq_true h])
theorem vD{a b:List Nat}(h:¬a=b):bj (.str a) (.str b) M= .ok (.bl false) M:=ir.trans (by rw[decide_eq_false h])
theorem zZ{x:List D}(h:x.length+y.length<=1000)(M:Store):aM (.tup x) (.tup y) M= .ok (.tup (x++y)) M:=by rw[TY];exact if_pos (Yi h (by decide))
theorem Xe(H:cG r){t:Sm}(h:t∈r.ts):t.flat.length<=60:=Yi (N8 h) H.ok.len
theorem Zvf(rec:Nat->F3){t:Sm}(hl:t.flat.length<=60):oX (bG 1 3 (oJ rec)) (.tup [.str iV,.str x,.tup t.flat]) [.str iV:: .str x::t.flat]:=by intro M;refine FL.of (env:=[Ya (.tup [.str iV,.str x,.tup t.flat]),Yl,Yl]) ?_ rfl rfl;unfold oJ;have hsl:dW (Za 0) (fK) (dw (e1 cH (eC (.int 1)))) [Ya (.tup [.str iV,.str x,.tup t.flat]),Yl,Yl] M= .ok (.tup [.str iV,.str x]) M:=rfl;exact BL.skip (Zh rfl rfl (vD (by decide))) (BL.skip (Zh rfl rfl (vD (by decide))) (BL.skip (Zh rfl rfl (vD (by decide))) (BL.ret (LF.lst (Zr (Zh hsl (Zh rfl rfl rfl) (zZ (x:=[.str iV,.str x]) (y:=t.flat) (by simp;exact lA 1 0x3e83b021bc03c2b001 T1 hl) M)) rfl) rfl) (Ax _))))
theorem Zuu(rec:Nat->F3){t:Sm}(hl:t.flat.length<=60):oX (bG 1 3 (oJ rec)) (.tup [.str oV,.tup t.flat]) [.str oV::t.flat]:=by intro M;refine FL.of (env:=[Ya (.tup [.str oV,.tup t.flat]),Yl,Yl]) ?_ rfl rfl;unfold oJ;have hsl:dW (Za 0) (fK) (dw (e1 cH (eC (.int 1)))) [Ya (.tup [.str oV,.tup t.flat]),Yl,Yl] M= .ok (.tup [.str oV]) M:=rfl;exact BL.skip (Zh rfl rfl (vD (by decide))) (BL.skip (Zh rfl rfl (vD (by decide))) (BL.skip (Zh rfl rfl (vD (by decide))) (BL.ret (LF.lst (Zr (Zh hsl (Zh rfl rfl rfl) (zZ (x:=[.str oV]) (y:=t.flat) (by simp;exact lA 1 0x3e83b0ac03c2b001 T1 hl) M)) rfl) rfl) (Ax _))))
theorem ZwY(rec:Nat->F3){t u:Sm}(hl:t.flat.length<=60)(hl2:u.flat.length<=60):oX (bG 1 3 (oJ rec)) (.tup [.str oU,.tup t.flat,.tup u.flat]) [.str oU::(t.flat++u.flat)]:=by intro M;refine FL.of (env:=[Ya (.tup [.str oU,.tup t.flat,.tup u.flat]),Yl,Yl]) ?_ rfl rfl;unfold oJ;exact BL.skip (Zh rfl rfl (vD (by decide))) (BL.skip (Zh rfl rfl (vD (by decide))) (BL.take (Zh rfl rfl (Ov rfl)) (BL.ret (LF.lst (Zr (Zh (Zh (gJ rfl rfl) rfl (zZ (x:=[.str oU]) (y:=t.flat) (by simp;omega) M)) rfl (zZ (x:=.str oU::t.flat) (y:=u.flat) (by simp;omega) M)) rfl) rfl) (Ax _))))
theorem Zu4(rec:Nat->F3)(H:cG r)(p:Oi r):oX (bG 1 3 (oJ rec)) (.tup r.deed) [r.iI]:=by
 obtain⟨h,xs,ts⟩:=r;have hs:dh h jf=Ya (ts.length:Int):=H.sm;have hx:xs.length=if h=iV then 1 else 0:=H.nx;have Ow:∀{t:Sm},t∈ts->t.flat.length<=60:=λh=>Xe H h;rcases Iu (zW H)with e|e|e|e|e|e|e
 .obtain rfl:h=iV:=e;have h1:(1:Int)=ts.length:=Y1 hs;rw[if_pos rfl]at hx
  match ts,xs,(show ts.length=1 by exact Y0 (iN [_] [] 1 2684390065 T1 h1) (iN [_] [] 1 167807649 T1 h1)),hx with
  |[t],[x],_,_=>
   have e2:Rw.iI ⟨iV,[x],[t]⟩= .str iV:: .str x::t.flat:=by simp[Rw.iI,bM]
   rw[e2];exact Zvf rec (Ow Yc)
 .obtain rfl:h=oU:=e;have h1:(2:Int)=ts.length:=Y1 hs;rw[if_neg (by decide)]at hx
  match ts,xs,(show ts.length=2 by exact Y0 (iN [_] [] 1 37039806487473 T1 h1) (iN [_] [] 1 2314995899297 T1 h1)),hx with
  |[t,u],[],_,_=>
   have e2:Rw.iI ⟨oU,[],[t,u]⟩= .str oU::(t.flat++u.flat):=by simp[Rw.iI,bM]
   rw[e2];exact ZwY rec (Ow Yc) (Ow (Yd _ Yc))
 .obtain rfl:h=oV:=e;have h1:(1:Int)=ts.length:=Y1 hs;rw[if_neg (by decide)]at hx
  match ts,xs,(show ts.length=1 by exact Y0 (iN [_] [] 1 2684390065 T1 h1) (iN [_] [] 1 167807649 T1 h1)),hx with
  |[t],[],_,_=>
   have e2:Rw.iI ⟨oV,[],[t]⟩= .str oV::t.flat:=by simp[Rw.iI,bM]
   rw[e2];exact Zuu rec (Ow Yc)
 .have:=p.b;rw[show Rw.h ⟨h,xs,ts⟩=cu from e]at this;cases this
 .exact absurd e p.e
 .have:=p.b;rw[show Rw.h ⟨h,xs,ts⟩=fP from e]at this;cases this
 .exact absurd e p.n
theorem Zwd{rec:Nat->F3}{t:Sm}{a b:List D}{A B:List (List D)}(hl:t.flat.length<=60)(ha:Ez (rec 0) a A)(hb:Ez (rec 0) b B)(hw:A.length+B.length<=700000):oX (bG 1 3 (oJ rec)) (.tup [.str cu,.tup t.flat,.tup a,.tup b]) (headD cu t::(A++[.str eO]::(B++[[.str d9]]))):=by
 intro M;refine FL.of (env:=[Ya (.tup [.str cu,.tup t.flat,.tup a,.tup b]),Yl,Yl]) ?_ rfl rfl;unfold oJ;refine BL.take (Zh rfl rfl (Ov rfl)) (BL.set (LF.call (ds:=[.tup a]) rfl (ha M)).le λn1 S1 p1 g1=>BL.set (LF.call (ds:=[.tup b]) rfl (hb S1)).le λn2 S2 p2 g2=>?_);have h:=LE.add (LE.add (LE.add (LE.add (env:=[Ya (.tup [.str cu,.tup t.flat,.tup a,.tup b]),Ya (.ref n1),Ya (.ref n2)]) (M:=S2) (LF.lst (ds:=[.tup (.str cu::t.flat)]) (g:=Zb (e2 aM (bV (Zb (eC (.str [119,104,101,110])) (Ze))) (e2 Zm (Za 0) (eC (.int 1)))) (Ze)) (Zr (Zh (gJ rfl rfl) rfl (zZ (x:=[.str cu]) (y:=t.flat) (by simp;exact lA 1 0x3e83b0ac03c2b001 T1 hl) S2)) rfl) rfl).le (λT pT=>LE.var (i:=1) rfl (zY (p2.trans pT) g1)) (by simp;exact lB 1 0xdbba05b0ac0aae605b10c01 T1 hw)).le (λT pT=>(LF.lst (ds:=[.tup [.str [101,108,115,101]]]) (g:=Zb (bV (Zb (eC (.str [101,108,115,101])) (Ze))) (Ze)) (Zr (gJ rfl rfl) rfl) rfl).le) (by simp;exact lB 1 0xdbb9e5b00aae605b10c01 T1 hw)).le (λT pT=>LE.var (i:=2) rfl (zY pT g2)) (by simp;exact lB 1 0xdbba05b1aa0ccc0aae605b10c01 T1 hw)).le (λT pT=>(LF.lst (ds:=[.tup [.str [101,110,100]]]) (g:=Zb (bV (Zb (eC (.str [101,110,100])) (Ze))) (Ze)) (Zr (gJ rfl rfl) rfl) rfl).le) (by simp;exact lB 1 0xdbb9e5ba1c0c0aae605b10c01 T1 hw);have e:[D.tup (.str cu::t.flat)]++A.map D.tup++[.tup [.str [101,108,115,101]]]++B.map D.tup++[.tup [.str [101,110,100]]]=(headD cu t::(A++[.str eO]::(B++[[.str d9]]))).map D.tup:=by simp
 rw[e]at h;exact BL.ret h (p1.trans p2)
theorem Zve{rec:Nat->F3}{t:Sm}{a:List D}{A:List (List D)}(hl:t.flat.length<=60)(ha:Ez (rec 0) a A)(hw:A.length<=700000):oX (bG 1 3 (oJ rec)) (.tup [.str fP,.tup t.flat,.tup a]) (headD fP t::(A++[[.str d9]])):=by
 intro M;refine FL.of (env:=[Ya (.tup [.str fP,.tup t.flat,.tup a]),Yl,Yl]) ?_ rfl rfl;unfold oJ;have h:=LE.add (LE.add (env:=[Ya (.tup [.str fP,.tup t.flat,.tup a]),Yl,Yl]) (M:=M) (LF.lst (ds:=[.tup (.str fP::t.flat)]) (g:=Zb (e2 aM (bV (Zb (eC (.str [119,104,105,108,101])) (Ze))) (e2 Zm (Za 0) (eC (.int 1)))) (Ze)) (Zr (Zh (gJ rfl rfl) rfl (zZ (x:=[.str fP]) (y:=t.flat) (by simp;exact lA 1 0x3e83b0ac03c2b001 T1 hl) M)) rfl) rfl).le (λT pT=>(LF.call (F:=rec 0) (ds:=[.tup a]) (g:=Zb (e2 Zm (Za 0) (eC (.int 2))) (Ze)) rfl (ha T)).le) (by simp;exact lA 1 0xdbba05b0ac0aae605b001 T1 hw)).le (λT pT=>(LF.lst (ds:=[.tup [.str [101,110,100]]]) (g:=Zb (bV (Zb (eC (.str [101,110,100])) (Ze))) (Ze)) (Zr (gJ rfl rfl) rfl) rfl).le) (by simp;exact lA 1 0xdbb9e5b00aae605b001 T1 hw);have e:[D.tup (.str fP::t.flat)]++A.map D.tup++[.tup [.str [101,110,100]]]=(headD fP t::(A++[[.str d9]])).map D.tup:=by simp
 rw[e]at h;exact BL.skip (Zh rfl rfl (vD (by decide))) (BL.take (Zh rfl rfl (Ov rfl)) (BL.ret h (Ax _)))
noncomputable abbrev xN(F:F3):S3:=aV (aG bx mZ (Za 1) (Zb (Zz F (Zb (Za 2) (Ze))) (Ze)))
theorem Zs1{F:F3}{it:fZ}(hi:it.lock=Yl){W:Option D}{r:Nat}{acc:List D}{d:D}{h:List (List D)}{x:Option D}(H:oX F d h)(hp:M0<+:M)(hr:M[r]?=Ya (.lst acc))(hl:M0.length<=r)(hz:acc.length+h.length<=800000)(ds:List D):
  ∃S,dB it (bB 2) (xN F) (d::ds) [W,Ya (.ref r),x] M=dB it (bB 2) (xN F) ds [W,Ya (.ref r),Ya d] S/\M0<+:S/\S[r]?=Ya (.lst (acc++h.map D.tup)):=by
 obtain⟨S,e,p1⟩:=Zu1 (o:=Za 1) (t:=Zz F (Zb (Za 2) (Ze))) (env:=[W,Ya (.ref r),Ya d]) (ys:=h.map D.tup) rfl hr (LF.call (ds:=[d]) rfl (H M)) (by simp;exact lB 1 0xdbba05b10c0c35005b10c01 T1 hz);refine⟨_,?_,Xd (hp.trans p1) hl,Yw (Yf.mp (zY p1 hr)).1⟩;rw[pq,if_pos (by unfold locked;rw[hi])];simp only[bB,lz,lG,e]
theorem Zs4(IH:∀(ds:List D) (R:List (List D)) (m:Nat),Sh ds R m->R.length<=100000->2*m+2<=j->Ez (Zy j 0) ds R){it:fZ}(hi:it.lock=Yl){W:Option D}{r:Nat}(hl:M0.length<=r)(H:Sh ds R m):R.length<=100000->2*m<=j->∀(rest:List D) (acc:List D) (M:Store) (x:Option D),M0<+:M->M[r]?=Ya (.lst acc)->acc.length+R.length<=700000 ->
  ∃S x',dB it (bB 2) (xN (Zy (j+1) 1)) (ds++rest) [W,Ya (.ref r),x] M=dB it (bB 2) (xN (Zy (j+1) 1)) rest [W,Ya (.ref r),x'] S/\M0<+:S/\S[r]?=Ya (.lst (acc++R.map D.tup)):=by
 have go:∀{m:Nat} {ds:List D} {R:List (List D)} {d:D} {Q:List (List D)} (ih:R.length<=100000->2*m<=j->∀(rest:List D) (acc:List D) (M:Store) (x:Option D),M0<+:M->M[r]?=Ya (.lst acc)->acc.length+R.length<=700000 ->
   ∃S x',dB it (bB 2) (xN (Zy (j+1) 1)) (ds++rest) [W,Ya (.ref r),x] M=dB it (bB 2) (xN (Zy (j+1) 1)) rest [W,Ya (.ref r),x'] S/\M0<+:S/\S[r]?=Ya (.lst (acc++R.map D.tup))),
   ((R++Q).length<=100000->2*m<=j->oX (bG 1 3 (oJ (Zy j))) d Q)->(R++Q).length<=100000->2*m<=j->∀(rest:List D) (acc:List D) (M:Store) (x:Option D),M0<+:M->M[r]?=Ya (.lst acc)->acc.length+(R++Q).length<=700000 ->
   ∃S x',dB it (bB 2) (xN (Zy (j+1) 1)) (ds++[d]++rest) [W,Ya (.ref r),x] M=dB it (bB 2) (xN (Zy (j+1) 1)) rest [W,Ya (.ref r),x'] S/\M0<+:S/\S[r]?=Ya (.lst (acc++(R++Q).map D.tup)):=by
  intro m ds R d Q ih hd h1 h2 rest acc M x hp hr hz;rw[Ye]at h1 hz;obtain⟨S,x1,e1,p1,g1⟩:=ih (lB 1 0x186a05b00186a05b10c01 T1 h1) h2 ([d]++rest) acc M x hp hr (lC 1 0xaae605b10c0aae605b21c0c01 T1 hz);obtain⟨S2,e2',p2,g2⟩:=Zs1 (F:=Zy (j+1) 1) (W:=W) (x:=x1) hi (hd (by rw[Ye];exact h1) h2) p1 g1 hl (by simp;exact lC 1 0xc35005b210cc0aae605b21c0c01 T1 hz) rest;exact⟨S2,Ya d,by rw[gG];exact e1.trans e2',p2,by rw[g2];simp⟩
 induction H with
 |nil n=>intro _ _ rest acc M x hp hr _;exact⟨M,x,rfl,hp,by simpa using hr⟩|row q ok p h ih=>exact go ih λ_ _=>Zu4 _ ok p|whn t ok ha hb h _ _ ih=>exact go ih λh1 h2=>by simp only[Ye,Ym]at h1;exact Zwd (Xe ok Yc) (IH _ _ _ ha (lD 1 0x186a05b10186a05baaa3c2cc1cc0c01 T1 h1) (lB 1 0x121b002dc01a0c02d01 T1 h2)) (IH _ _ _ hb (lD 1 0x186a05b20186a05baaa3c2cc1cc0c01 T1 h1) (lB 1 0x121b002dc01a0c02d01 T1 h2)) (lD 1 0xaae605b21c0186a05baaa3c2cc1cc0c01 T1 h1)
 | whl t ok ha h _ ih=>exact go ih λh1 h2=>by simp only[Ye,Ym]at h1;exact Zve (Xe ok Yc) (IH _ _ _ ha (lC 1 0x186a05b10186a05baa2c1cc0c01 T1 h1) (lB 1 0x121b002dc01a0c02d01 T1 h2)) (lC 1 0xaae605b10186a05baa2c1cc0c01 T1 h1)
theorem ZvQ:∀(n:Nat) (ds:List D) (R:List (List D)) (m:Nat),Sh ds R m->R.length<=100000->2*m+2<=n->Ez (Zy n 0) ds R:=by
 intro n
 induction n using J7 with
 | ind n ih=>
  intro ds R m H hw hd M
  match n,ih,hd with
  |0,_,hd=>exact(lA 1 0x6e21b002dc01 T1 hd).elim|1,_,hd=>exact(lA 1 0x6a21b002dc01 T1 hd).elim|j+2,ih,hd=>refine FL.of (env:=[Ya (.tup ds),Yl,Yl]) ?_ rfl rfl;obtain⟨S,x,e,q1,q2⟩:=Zs4 (j:=j) (λds R m H hw hd=>ih j (lA 0 35326977 T1) ds R m H hw hd) (it:=⟨ds,Yl⟩) rfl (W:=Ya (.tup ds)) (M0:=M) (Yt _) H hw (lB 1 0x1002d021b1c21b002dc01 T1 hd) [] [] (M++[.lst []]) Yl (ul _ _) (Zn M _ []) (by simp;exact lA 1 0xaae605b00186a05b001 T1 hw);rw[jZ,qi,if_pos (by rfl)]at e;refine BL.step (env':=[Ya (.tup ds),Ya (.ref M.length),Yl]) (S:=M++[.lst []]) (Zo (di rfl rfl)) (BL.step ((rA (it:=⟨ds,Yl⟩) rfl).trans e) ?_);exact⟨M.length,S,cZ rfl,q1,by rw[q2];simp,Yt _⟩
theorem ZxB(H:Sh ds R 12)(hw:R.length<=100000):Ez Nr ds R:=ZvQ 28 ds R 12 H hw (by decide)
noncomputable def rZ(tk:List (List Nat)):List (List D):=if tk=[]then[]else[(eQ::tk).map D.str]
theorem Zh1(h6:tk.length<=6)(H:Sh ds R 12)(hw:R.length<=10000):oX oK (.tup [.tup (tk.map D.str),.tup ds]) (rZ tk++R):=by
 intro M;have tr:=ZxB H (Yi hw (by decide))
 let P:D:=.tup [.tup (tk.map D.str),.tup ds]
 refine FL.of (env:=[Ya P,Yl]) ?_ rfl rfl;unfold VH;have first:LE (jL (e2 cV (aC bw (Zb (e2 Zm (Za 0) (eC (.int 0))) (Ze))) (eC (.int 0))) (aX (Zb (e2 aM (bV (Zb (eC (.str [116,97,107,101])) (Ze))) (e2 Zm (Za 0) (eC (.int 0)))) (Ze))) (aX (Ze))) [Ya P,Yl] M ((rZ tk).map D.tup):=by
  have hlen:e2 cV (aC bw (Zb (e2 Zm (Za 0) (eC (.int 0))) (Ze))) (eC (.int 0)) [Ya P,Yl] M= .ok (.bl (decide (tk≠[]))) M:=by
   refine Zh (a:=.int (tk.length:Int)) (M1:=M) (M2:=M) (cj (a:=.tup (tk.map D.str)) rfl ?_) rfl ?_
   .simp only[yP,yQ,yR,q_,Yu]
   .rw[jM];cases tk with
    |nil=>rfl|cons y ys=>rw[decide_eq_true (by rw[Ym];exact iN [_] [] 0 10537193 T1),decide_eq_true (λz=>nomatch z)]
  unfold rZ;by_cases h0:tk=[]
  .rw[if_pos h0];obtain⟨n,S,a,b,c,_⟩:=LF.lst (g:=Ze) (env:=[Ya P,Yl]) (M:=M) (ds:=[]) rfl rfl;exact⟨n,S,by rw[Cr (M1:=M) (hlen.trans (by rw[decide_eq_false (λz=>z h0)]))];exact a,b,c⟩
  .rw[if_neg h0];obtain⟨n,S,a,b,c,_⟩:=LF.lst (g:=Zb (e2 aM (bV (Zb (eC (.str [116,97,107,101])) (Ze))) (e2 Zm (Za 0) (eC (.int 0)))) (Ze)) (env:=[Ya P,Yl]) (M:=M) (ds:=[.tup ((eQ::tk).map D.str)]) (Zr (Zh (a:=.tup [.str eQ]) (b:=.tup (tk.map D.str)) (gJ rfl rfl) rfl (zZ (x:=[.str eQ]) (y:=tk.map D.str) (by simp;exact lA 1 0x3e83b0ac061b001 T1 h6) M)) rfl) rfl;exact⟨n,S,by rw[Cq (M1:=M) (hlen.trans (by rw[decide_eq_true h0]))];exact a,b,c⟩
 have hl:(rZ tk).length<=1:=by unfold rZ;split <;>simp
 refine BL.set first λn S p g=>?_;have h:=LE.add (env:=[Ya P,Ya (.ref n)]) (M:=S) (LE.var (i:=1) rfl g) (λT pT=>(LF.call (F:=Nr) (ds:=[.tup ds]) (g:=Zb (e2 Zm (Za 0) (eC (.int 1))) (Ze)) rfl (tr T)).le) (by simp;exact lB 2 0xdbba05b10c027104b101a001 T1 hl hw);rw[←iY]at h;exact BL.ret h p
def Ox(w:D):Prop:=(∀M,tO [w] M= .ok (.str (bR w)) M)/\(bR w).length<=61
theorem Zuv(H:cG r):∀w∈r.iI,Ox w:=λw hw=>by
 rcases Yo.mp hw with e|e
 .rw[e];exact⟨λ_=>rfl,by have:=(Wz (zW H)).2.1;show r.h.length<=61;exact lA 1 67254898241537 T1 this⟩
 .rcases eY.mp e with e|e
  .obtain⟨x,hx,rfl⟩:=dN.mp e;exact⟨λ_=>rfl,by have:=(H.nm x hx).le;show x.length<=61;exact lA 1 67254901387265 T1 this⟩
  .have hf:=Im H.ok.fit w e;exact⟨ZuT hf,Zpd hf⟩
theorem Xf(r:Rw):r.iI.map bR=r.words:=by unfold Rw.iI Rw.words;rw[Ys,iY,ji];have:∀l:List (List Nat),l.map (bR ∘ D.str)=l:=λl=>(Aq λ_ _=>rfl).trans (QL l);rw[this];rfl
theorem Zn0(tk:List (List Nat)):((eQ::tk).map D.str).map bR=eQ::tk:=by rw[ji];exact(Aq λ_ _=>rfl).trans (QL _)
theorem Zl7{ws:List D}(h:∀w∈ws,Ox w)(hl:ws.length<=1000)(M:Store):HJ [.tup ws] M= .ok (.str (glue [32] (ws.map bR))) M:=by
 have lc:=tM (h:=λw=>D.str (bR w)) (enc:=λw=>w) (own:=1) (i:=1) (it:=bW (Za 0)) (elt:=aC tO (Zb (Za 1) (Ze))) (env:=[Ya (.tup ws)]) (M:=M) (M1:=M) (lock:=Yl) (as:=ws) (by rw[QK];rfl) (λn z=>nomatch z)
  (λw hw M'=>cj rfl ((h w hw).1 M')) (lA 1 0x186a05b003e83b001 T1 hl)
 have e:ws.map (λw=>D.str (bR w))=(ws.map bR).map D.str:=by rw[ji];rfl
 rw[e]at lc;have hz:=(N5 32 61 (ws.map bR) λw hw=>by obtain⟨v,hv,rfl⟩:=dN.mp hw;exact(h v hv).2).1;rw[Yu]at hz;refine Rt.pure (G:=[.lst ((ws.map bR).map D.str)]) (env:=[Ya (.tup ws)]) ?_ rfl;unfold Vx;exact cZ (vh rfl lc (N6 (Zn _ _ _) (Yi (show _<=100000 by omega) (by decide))))
theorem ZmU(tr:oX oK (.tup [.tup (tk.map D.str),.tup ds]) R)(hR:∀ws∈R,ws.length<=1000/\∀w∈ws,Ox w)(hl:R.length<=10000)(hg:k_ [10] (R.map λws=>glue [32] (ws.map bR))<=100000)(M:Store):
  xq [.tup [.tup (tk.map D.str),.tup ds]] M= .ok (.str (glue [10] (R.map λws=>glue [32] (ws.map bR)))) M:=by
 obtain⟨n,S,e,p,g,_⟩:=tr M;obtain⟨G,rfl⟩:=p;have hi:bW (Zz oK (Zb (Za 0) (Ze))) [Ya (.tup [.tup (tk.map D.str),.tup ds])] M= .ok ⟨R.map D.tup,Ya n⟩ (M++G):=by have:Zz oK (Zb (Za 0) (Ze)) [Ya (.tup [.tup (tk.map D.str),.tup ds])] M= .ok (.ref n) (M++G):=dD rfl e;simp only[bW,this,R3.bind,g]
 have lc:=tM (h:=λws=>D.str (glue [32] (ws.map bR))) (enc:=D.tup) (own:=1) (i:=1) (elt:=Zz HJ (Zb (Za 1) (Ze))) (as:=R) hi (λk hk=>by cases hk;exact g)
  (λws hw M'=>dD rfl (Zl7 (hR ws hw).2 (hR ws hw).1 M')) (lA 1 0x186a05b0027104b001 T1 hl)
 have e2:R.map (λws=>D.str (glue [32] (ws.map bR)))=(R.map λws=>glue [32] (ws.map bR)).map D.str:=by rw[ji];rfl
 rw[e2]at lc;refine Rt.pure (G:=G++[.lst ((R.map λws=>glue [32] (ws.map bR)).map D.str)]) (env:=[Ya (.tup [.tup (tk.map D.str),.tup ds])]) ?_ rfl;unfold VJ;rw[←gG];exact cZ (vh rfl lc (N6 (Zn _ _ _) (Yi hg (by decide))))
noncomputable def iu(acc:List (List Nat)):D->List (List Nat)
 | .str x=>if x∈Zx\/x∈acc then acc else acc++[x]|_=>acc
noncomputable def gD(names acc:List (List Nat))(x:List Nat):List (List Nat):=if x∈names/\x∉acc then acc++[x]else acc
theorem Oz(x:List Nat):∀l:List (List Nat),((l.map D.str).any λy=>cY y (.str x))=decide (x∈l)
 |[]=>rfl|y::l=>by
  rw[Ys,lK,Oz x l,TJ];by_cases h:y=x
  .subst h;simp
  .have h2:¬x=y:=λz=>h z.symm;simp[h,h2]
theorem OD:∀l:List (List Nat),(l.map D.str).all cF=true
 |[]=>rfl|_::l=>OD l
theorem OJ{l:List (List Nat)}(h:M[n]?=Ya (.lst (l.map D.str))):uV (.str x) (.ref n) M= .ok (.bl (!decide (x∈l))) M:=by show(match M[n]? with|some (.lst ys)=>if cF (.str x)&&ys.all cF then R3.ok (D.bl (!ys.any λy=>cY y (.str x))) M else .bad|_=>.bad)=_;rw[h];simp only[OD,Oz,cF,Rq,if_true]
theorem Zrs{l:List (List Nat)}(h:M[n]?=Ya (.lst (l.map D.str))):rF (.str x) (.ref n) M= .ok (.bl (decide (x∈l))) M:=by rw[Zm1,h];simp only[OD,Oz,cF,Rq,if_true]
theorem notin_words(x:List Nat)(M:Store):Cd (.str x) (.tup (Zx.map D.str)) M= .ok (.bl (!decide (x∈Zx))) M:=by show(if cF (.str x)&&(Zx.map D.str).all cF then R3.ok (D.bl (!(Zx.map D.str).any λy=>cY y (.str x))) M else .bad)=_;simp only[OD,Oz,cF,Rq,if_true]
theorem EY{items:List D}(h:S[n]?=Ya (.lst items)):locked ⟨items,Ya n⟩ S=true:=decide_eq_true h
noncomputable abbrev Xg:S3:=(aJ (bN (e1 jm (e1 (jo .int) (Za 3))) (bN (e2 Cd (Za 3) (qF)) (e2 uV (Za 3) (Za 1)))) (aV (aG bx cg (Za 1) (Zb (Za 3) (Ze)))) (aW))
theorem xO{p:Nat}(h:S[p]?=Ya o):S.set p o=S:=by
 apply x_;intro j;by_cases hj:j=p
 .subst hj;rw[Yw (Yf.mp h).1,h]
 .rw[Yp (dg hj)]
variable{acc:List (List Nat)}
theorem Zum{p:Nat}(hp:S[p]?=Ya (.lst (acc.map D.str)))(hw:mj w)(hl:acc.length<=10000)(v0 v2:Option D):
  Xg [v0,Ya (.ref p),v2,Ya w] S= .nx [v0,Ya (.ref p),v2,Ya w] (S.set p (.lst ((iu acc w).map D.str))):=by
 cases hw with
 |int i=>refine(cW (M':=S) (lR (dF (op:=jm) (f:=e1 (jo .int) (Za 3)) (a:=.bl true) (M1:=S) (dF (a:=.int i) (M1:=S) rfl rfl) rfl))).trans ?_;show _=O3.nx _ (S.set p (.lst (acc.map D.str)));rw[xO hp]|str x=>
  have c1:e1 jm (e1 (jo .int) (Za 3)) [v0,Ya (.ref p),v2,Ya (.str x)] S= .ok (.bl true) S:=dF (op:=jm) (f:=e1 (jo .int) (Za 3)) (a:=.bl false) (M1:=S) (dF (a:=.str x) (M1:=S) rfl rfl) rfl;have c2:e2 Cd (Za 3) (qF) [v0,Ya (.ref p),v2,Ya (.str x)] S= .ok (.bl (!decide (x∈Zx))) S:=Zh rfl rfl (notin_words x S);by_cases h1:x∈Zx
  .refine(cW (M':=S) ((gY c1).trans (lR (c2.trans (by rw[decide_eq_true h1];rfl))))).trans ?_;rw[show iu acc (.str x)=acc from if_pos (.inl h1),xO hp]
  .have c3:=gY (g:=e2 uV (Za 3) (Za 1)) (c2.trans (by rw[decide_eq_false h1];rfl));by_cases h2:x∈acc
   .refine(cW (M':=S) ((gY c1).trans (c3.trans (Zh rfl rfl ((OJ hp).trans (by rw[decide_eq_true h2];rfl)))))).trans ?_;rw[show iu acc (.str x)=acc from if_pos (.inr h2),xO hp]
   .refine(fV (M':=S) ((gY c1).trans (c3.trans (Zh rfl rfl ((OJ hp).trans (by rw[decide_eq_false h2];rfl)))))).trans ?_;refine(nD rfl hp rfl hp (by rw[Yu];exact sO hl (by decide))).trans ?_;rw[show iu acc (.str x)=acc++[x]from if_neg (λz=>z.elim h1 h2),iY];rfl
theorem Zq1(acc:List (List Nat))(w:D):(iu acc w).length<=acc.length+1:=by
 cases w with
 |str x=>show(if _ then acc else acc++[x]).length<=_;split <;>simp|_=>exact wA _
theorem ZiE:∀(ws:List D) (acc:List (List Nat)),(ws.foldl iu acc).length<=acc.length+ws.length
 |[],acc=>Yt _|w::ws,acc=>by have h1:=Zq1 acc w;have h2:=ZiE ws (iu acc w);rw[jD,Ym];exact lD 2 0xa2c3c00a3c10121c001 T1 h2 h1
theorem ZpE{p:Nat}{it:fZ}(hi:it.lock=Yl){v0 v2:Option D}:∀(ws:List D) (acc:List (List Nat)) (S:Store) (x:Option D),S[p]?=Ya (.lst (acc.map D.str))->(∀w∈ws,mj w)->acc.length+ws.length<=10000 ->
  ∃y,dB it (bB 3) Xg ws [v0,Ya (.ref p),v2,x] S= .nx [v0,Ya (.ref p),v2,y] (S.set p (.lst ((ws.foldl iu acc).map D.str)))
 |[],acc,S,x,hp,_,_=>⟨x,by show dB _ _ _ [] _ _=O3.nx _ (S.set p (.lst (acc.map D.str)));rw[qi,if_pos (by unfold locked;rw[hi]),xO hp]⟩|w::ws,acc,S,x,hp,hw,hl=>by rw[Ym]at hl;have hlt:=(Yf.mp hp).1;obtain⟨y,hy⟩:=ZpE hi ws (iu acc w) (S.set p (.lst ((iu acc w).map D.str))) (Ya w) (Yw hlt) (λv hv=>hw v (Yd _ hv)) (by have:=Zq1 acc w;exact lC 2 0x27104b20c027104ba2c1c01a1c001 T1 this hl);refine⟨y,?_⟩;rw[pq,if_pos (by unfold locked;rw[hi])];simp only[bB,lz,lG];rw[Zum hp (hw w Yc) (lB 1 0x27104b0027104ba1c0c01 T1 hl)];simp only;rw[hy,vV];rfl
noncomputable abbrev nrB:S3:=kZ (bW (Za 2)) (bB 3) Xg
theorem ZoF{p n:Nat}{items:List D}(hpn:p≠n){v0:Option D}:∀(R:List (List D)) (acc:List (List Nat)) (S:Store) (x x3:Option D),S[p]?=Ya (.lst (acc.map D.str))->S[n]?=Ya (.lst items)->(∀ws∈R,∀w∈ws,mj w)->acc.length+R.flatten.length<=10000 ->
  ∃y y3,dB ⟨items,Ya n⟩ (bB 2) nrB (R.map D.tup) [v0,Ya (.ref p),x,x3] S= .nx [v0,Ya (.ref p),y,y3] (S.set p (.lst ((R.flatten.foldl iu acc).map D.str)))
 |[],acc,S,x,x3,hp,hn,_,_=>⟨x,x3,by show dB _ _ _ [] _ _=O3.nx _ (S.set p (.lst (acc.map D.str)));rw[qi,if_pos (EY hn),xO hp]⟩|ws::R,acc,S,x,x3,hp,hn,hw,hl=>by rw[kh,Ye]at hl;have hlt:=(Yf.mp hp).1;obtain⟨y3,h1⟩:=ZpE (it:=⟨ws,Yl⟩) rfl (v0:=v0) (v2:=Ya (.tup ws)) ws acc S x3 hp (hw ws Yc) (lC 1 0x27104b10c027104b21c0c01 T1 hl);obtain⟨z,z3,h2⟩:=ZoF hpn (v0:=v0) R (ws.foldl iu acc) (S.set p (.lst ((ws.foldl iu acc).map D.str))) (Ya (.tup ws)) y3 (Yw hlt) ((Yp hpn).trans hn) (λv hv=>hw v (Yd _ hv)) (by have:=ZiE ws acc;exact lD 2 0x27104b30c027104b32c1c0121c001 T1 this hl);refine⟨z,z3,?_⟩;rw[Ys,pq,if_pos (EY hn)];simp only[bB,lz,lG];rw[show nrB [v0,Ya (.ref p),Ya (.tup ws),x3] S=_ from(rA (it:=⟨ws,Yl⟩) rfl).trans h1];simp only;rw[h2,vV,kh,Yes]
theorem ZiJ(tr:oX oK (.tup [.tup (tk.map D.str),.tup ds]) R)(hR:∀ws∈R,∀w∈ws,mj w)(hl:tk.length+R.flatten.length<=10000)(M:Store):
  zG [.tup [.tup (tk.map D.str),.tup ds]] M= .ok (.tup ((R.flatten.foldl iu tk).map D.str)) M:=by
 let P:D:=.tup [.tup (tk.map D.str),.tup ds]
 let M1:=M++[MO.lst (tk.map D.str)]
 obtain⟨n,S,e,p,g,hn⟩:=tr M1;have l1:M1.length=M.length+1:=by simp[M1]
 have hp:S[M.length]?=Ya (.lst (tk.map D.str)):=zY p (Zn M _ []);have hi:bW (Zz oK (Zb (Za 0) (Ze))) [Ya P,Ya (.ref M.length),Yl,Yl] M1= .ok ⟨R.map D.tup,Ya n⟩ S:=by have:Zz oK (Zb (Za 0) (Ze)) [Ya P,Ya (.ref M.length),Yl,Yl] M1= .ok (.ref n) S:=dD rfl e;simp only[bW,this,R3.bind,g]
 obtain⟨y,y3,h⟩:=ZoF (p:=M.length) (n:=n) (items:=R.map D.tup) (λz=>lC 3 0x61201a0c2311031 T1 z l1 hn) (v0:=Ya P) R tk S Yl Yl hp g hR hl;obtain⟨G,hG⟩:M<+:S.set M.length (.lst ((R.flatten.foldl iu tk).map D.str)):=Xd ((ul M _).trans p) (Yt _);have hlt:=(Yf.mp hp).1;refine Rt.pure (G:=G) (env:=[Ya P,Yl,Yl,Yl]) ?_ (Ep _);unfold VL;rw[hG];refine(Zi (Zo (d:=.ref M.length) (M':=M1) (cj (a:=.tup (tk.map D.str)) rfl rfl))).trans ((Zi ((rA hi).trans h)).trans ?_);exact cZ (cj rfl (n_ (Yw hlt)))
noncomputable abbrev Xh:S3:=(aJ (bN (e2 rF (Za 4) (Za 1)) (e2 uV (Za 4) (Za 2))) (aV (aG bx cg (Za 2) (Zb (Za 4) (Ze)))) (aW))
section
variable {names:List (List Nat)} {nr p:Nat}
theorem ZtK(hn:S[nr]?=Ya (.lst (names.map D.str)))(hp:S[p]?=Ya (.lst (acc.map D.str)))(hl:acc.length<=10000)(v0 v3:Option D):
  Xh [v0,Ya (.ref nr),Ya (.ref p),v3,Ya (.str x)] S= .nx [v0,Ya (.ref nr),Ya (.ref p),v3,Ya (.str x)] (S.set p (.lst ((gD names acc x).map D.str))):=by
 have c1:e2 rF (Za 4) (Za 1) [v0,Ya (.ref nr),Ya (.ref p),v3,Ya (.str x)] S= .ok (.bl (decide (x∈names))) S:=Zh rfl rfl (Zrs hn);by_cases h1:x∈names
 .have c2:=gY (g:=e2 uV (Za 4) (Za 2)) (c1.trans (by rw[decide_eq_true h1]));by_cases h2:x∈acc
  .refine(cW (M':=S) (c2.trans (Zh rfl rfl ((OJ hp).trans (by rw[decide_eq_true h2];rfl))))).trans ?_;rw[show gD names acc x=acc from if_neg (λz=>z.2 h2),xO hp]
  .refine(fV (M':=S) (c2.trans (Zh rfl rfl ((OJ hp).trans (by rw[decide_eq_false h2];rfl))))).trans ?_;refine(nD rfl hp rfl hp (by rw[Yu];exact sO hl (by decide))).trans ?_;rw[show gD names acc x=acc++[x]from if_pos ⟨h1,h2⟩,iY];rfl
 .refine(cW (M':=S) (lR (c1.trans (by rw[decide_eq_false h1])))).trans ?_;rw[show gD names acc x=acc from if_neg (λz=>h1 z.1),xO hp]
theorem ZqJ(acc:List (List Nat))(x:List Nat):(gD names acc x).length<=acc.length+1:=by unfold gD;split <;>simp
theorem ZiM:∀(ws:List (List Nat)) (acc:List (List Nat)),(ws.foldl (gD names) acc).length<=acc.length+ws.length
 |[],acc=>Yt _|w::ws,acc=>by have h1:=ZqJ (names:=names) acc w;have h2:=ZiM ws (gD names acc w);rw[jD,Ym];exact lD 2 0xa2c3c00a3c10121c001 T1 h2 h1
theorem ZpF{q:Nat}{items:List D}(hq:p≠q)(hpr:p≠nr){v0 v3:Option D}:∀(ws:List (List Nat)) (acc:List (List Nat)) (S:Store) (x:Option D),S[nr]?=Ya (.lst (names.map D.str))->S[p]?=Ya (.lst (acc.map D.str))->S[q]?=Ya (.lst items)->acc.length+ws.length<=10000 ->
  ∃y,dB ⟨items,Ya q⟩ (bB 4) Xh (ws.map D.str) [v0,Ya (.ref nr),Ya (.ref p),v3,x] S= .nx [v0,Ya (.ref nr),Ya (.ref p),v3,y] (S.set p (.lst ((ws.foldl (gD names) acc).map D.str)))
 |[],acc,S,x,_,hp,hi,_=>⟨x,by show dB _ _ _ [] _ _=O3.nx _ (S.set p (.lst (acc.map D.str)));rw[qi,if_pos (EY hi),xO hp]⟩|w::ws,acc,S,x,hn,hp,hi,hl=>by rw[Ym]at hl;have hlt:=(Yf.mp hp).1;obtain⟨y,hy⟩:=ZpF hq hpr ws (gD names acc w) (S.set p (.lst ((gD names acc w).map D.str))) (Ya (.str w)) ((Yp hpr).trans hn) (Yw hlt) ((Yp hq).trans hi) (by have:=ZqJ (names:=names) acc w;exact lC 2 0x27104b20c027104ba2c1c01a1c001 T1 this hl);refine⟨y,?_⟩;rw[Ys,pq,if_pos (EY hi)];simp only[bB,lz,lG];rw[ZtK hn hp (lB 1 0x27104b0027104ba1c0c01 T1 hl)];simp only;rw[hy,vV];rfl
noncomputable abbrev nlB:S3:=kZ (bW (aG fL ql (Za 3) (Zb (eC (.str [32])) (Ze)))) (bB 4) Xh
theorem ZpH{q:Nat}{items:List D}(hq:p≠q)(hpr:p≠nr){v0:Option D}:∀(RW:List (List (List Nat))) (acc:List (List Nat)) (S:Store) (x x4:Option D),S[nr]?=Ya (.lst (names.map D.str))->S[p]?=Ya (.lst (acc.map D.str))->S[q]?=Ya (.lst items)->(∀ws∈RW,zU ws)->acc.length+RW.flatten.length<=10000 ->
  ∃(S':Store) (y y4:Option D),dB ⟨items,Ya q⟩ (bB 3) nlB (RW.map λws=>D.str (glue [32] ws)) [v0,Ya (.ref nr),Ya (.ref p),x,x4] S= .nx [v0,Ya (.ref nr),Ya (.ref p),y,y4] S'/\S'[p]?=Ya (.lst ((RW.flatten.foldl (gD names) acc).map D.str))/\(∀M0:Store,M0.length<=p->M0<+:S->M0<+:S')
 |[],acc,S,x,x4,_,hp,hi,_,_=>⟨S,x,x4,by show dB _ _ _ [] _ _=_;rw[qi,if_pos (EY hi)],hp,λ_ _ h=>h⟩|ws::RW,acc,S,x,x4,hn,hp,hi,hw,hl=>by
  rw[kh,Ye]at hl;have hlt:=(Yf.mp hp).1;have ok:=hw ws Yc
  let S1:=S++[MO.lst (ws.map D.str)]
  have hsp:aG fL ql (Za 3) (Zb (eC (.str [32])) (Ze)) [v0,Ya (.ref nr),Ya (.ref p),Ya (.str (glue [32] ws)),x4] S= .ok (.ref S.length) S1:=vh rfl rfl ((Wt (Yi ok.le (by decide))).trans (by rw[Wc 32 ws ok.ne λt ht=>(ok.fr t ht).1]));have hit:bW (aG fL ql (Za 3) (Zb (eC (.str [32])) (Ze))) [v0,Ya (.ref nr),Ya (.ref p),Ya (.str (glue [32] ws)),x4] S= .ok ⟨ws.map D.str,Ya S.length⟩ S1:=by simp only[bW,hsp,R3.bind,S1,Zn]
  obtain⟨y4,h1⟩:=ZpF (names:=names) (nr:=nr) (p:=p) (q:=S.length) (items:=ws.map D.str) (λz=>lB 2 26039357489 T1 z hlt) hpr (v0:=v0) (v3:=Ya (.str (glue [32] ws))) ws acc S1 x4 (bK hn _) (bK hp _) (Zn _ _ _) (lC 1 0x27104b10c027104b21c0c01 T1 hl);have hlt1:p<S1.length:=Y7 hlt (len_app S _);obtain⟨S',z,z4,h2,g2,pre⟩:=ZpH hq hpr (v0:=v0) RW (ws.foldl (gD names) acc) (S1.set p (.lst ((ws.foldl (gD names) acc).map D.str))) (Ya (.str (glue [32] ws))) y4 ((Yp hpr).trans (bK hn _)) (Yw hlt1) ((Yp hq).trans (bK hi _)) (λv hv=>hw v (Yd _ hv)) (by have:=ZiM (names:=names) ws acc;exact lD 2 0x27104b30c027104b32c1c0121c001 T1 this hl);refine⟨S',z,z4,?_,by rw[g2,kh,Yes],λM0 l h=>pre M0 l (Xd (h.trans (ul _ _)) l)⟩;rw[Ys,pq,if_pos (EY hi)];simp only[bB,lz,lG];rw[show nlB [v0,Ya (.ref nr),Ya (.ref p),Ya (.str (glue [32] ws)),x4] S=_ from(rA hit).trans h1];simp only;rw[h2]
theorem named_eq{rl:Nat}{RW:List (List (List Nat))}(hr:M[rl]?=Ya (.lst (RW.map λws=>D.str (glue [32] ws))))(hn:M[nr]?=Ya (.lst (names.map D.str)))(hw:∀ws∈RW,zU ws)(hl:RW.flatten.length<=10000):
  H_ [.ref rl,.ref nr] M= .ok (.tup ((RW.flatten.foldl (gD names) []).map D.str)) M:=by
 have l1:=(Yf.mp hr).1;have l2:=(Yf.mp hn).1
 let M1:=M++[MO.lst []]
 have hi:bW (Za 0) [Ya (.ref rl),Ya (.ref nr),Ya (.ref M.length),Yl,Yl] M1= .ok ⟨RW.map λws=>D.str (glue [32] ws),Ya rl⟩ M1:=by show(R3.ok (D.ref rl) M1).bind _=_;simp only[R3.bind,M1,bK hr [MO.lst []]]
 obtain⟨S',y,y4,h,g,pre⟩:=ZpH (names:=names) (nr:=nr) (p:=M.length) (q:=rl) (items:=RW.map λws=>D.str (glue [32] ws)) (λz=>lB 2 25787699233 T1 z l1) (λz=>lB 2 25787699233 T1 z l2) (v0:=Ya (.ref rl)) RW [] M1 Yl Yl (bK hn _) (Zn M _ []) (bK hr _) hw (by simpa using hl);obtain⟨G,hG⟩:=pre M (Yt _) (ul M _);refine Rt.pure (G:=G) (env:=[Ya (.ref rl),Ya (.ref nr),Yl,Yl,Yl]) ?_ (Ep _);unfold V4;rw[hG];exact(Zi (Zo (d:=.ref M.length) (M':=M1) (di rfl rfl))).trans ((Zi ((rA hi).trans h)).trans (cZ (cj rfl (n_ g))))
end
theorem ZxA(h:∃x,w= .str x/\x∈Zx/\x∉jw.nms\/(∃x,w= .str x/\fO x)\/∃i,w= .int i/\gA i∉jw.nms):iu acc w=gD jw.nms acc (bR w):=by
 rcases h with⟨x,h|h|h⟩
 .obtain⟨rfl,h1,h2⟩:=h;rw[show iu acc (.str x)=acc from if_pos (.inl h1)];exact(if_neg λz=>h2 z.1).symm
 .obtain⟨y,rfl,ok⟩:=h;show(if y∈Zx\/y∈acc then acc else acc++[y])=if y∈jw.nms/\y∉acc then acc++[y]else acc;by_cases h2:y∈acc
  .rw[if_pos (.inr h2),if_neg λz=>z.2 h2]
  .rw[if_neg λz=>z.elim ok.own h2,if_pos ⟨ok.inn,h2⟩]
 .obtain⟨i,rfl,h2⟩:=h;exact(if_neg λz=>h2 z.1).symm
theorem Zkb:∀(ws:List D) (acc:List (List Nat)),(∀w∈ws,∃x,w= .str x/\x∈Zx/\x∉jw.nms\/(∃x,w= .str x/\fO x)\/∃i,w= .int i/\gA i∉jw.nms)->ws.foldl iu acc=(ws.map bR).foldl (gD jw.nms) acc
 |[],_,_=>rfl|w::ws,acc,h=>by rw[jD,Ys,jD,ZxA (h w Yc)];exact Zkb ws _ λv hv=>h v (Yd _ hv)
theorem Zrd(hN:∀x∈jw.nms,fO x)(H:cG r):∀w∈r.iI,∃x,w= .str x/\x∈Zx/\x∉jw.nms\/(∃x,w= .str x/\fO x)\/∃i,w= .int i/\gA i∉jw.nms:=λw hw=>by
 rcases Yo.mp hw with e|e
 .refine⟨r.h,.inl ⟨e,?_,?_⟩⟩
  .rcases Iu (zW H)with q|q|q|q|q|q|q<;>(rw[q];decide)
  .intro z;have:=(hN _ z).own;apply this;rcases Iu (zW H)with q|q|q|q|q|q|q<;>(rw[q];decide)
 .rcases eY.mp e with e|e
  .obtain⟨x,hx,rfl⟩:=dN.mp e;exact⟨x,.inr (.inl ⟨x,rfl,H.nm x hx⟩)⟩
  .have hf:=Im H.ok.fit w e;cases hf with
   |int i hi=>refine⟨[],.inr (.inr ⟨i,rfl,λz=>?_⟩)⟩;obtain⟨c,q,hc⟩:=Wl i;have h1:=((hN _ z).low c (by rw[hc];exact Yc)).1;have h2:=Wk (i:=i) (c:=c) (by rw[hc];exact Yc);exact lA 2 0x60612b01392b001 T1 h2 h1|d7 x hx=>exact⟨x,.inr (.inl ⟨x,rfl,hx⟩)⟩|op x hx=>
    have hm:x∈Zx:=by rcases Znp hx with q|q|q|q<;>(rw[q];decide)
    exact⟨x,.inl ⟨rfl,hm,λz=>(hN _ z).own hm⟩⟩
theorem ZrH{names:List (List Nat)}:∀(xs acc:List (List Nat)),(∀x∈xs,x∈names)->(acc++xs).Nodup->xs.foldl (gD names) acc=acc++xs
 |[],acc,_,_=>(jZ _).symm|x::xs,acc,h,nd=>by have hx:x∉acc:=λhm=>(Av.mp nd).2.2 x hm x Yc rfl;rw[jD,show gD names acc x=acc++[x]from if_pos ⟨h x Yc,hx⟩,ZrH xs (acc++[x]) (λy hy=>h y (Yd _ hy)) (by rw[gG];exact nd),gG];rfl
theorem Zpm:∀(xs acc:List (List Nat)),(∀x∈xs,x∈acc)->(xs.map D.str).foldl iu acc=acc
 |[],_,_=>rfl|x::xs,acc,h=>by rw[Ys,jD,show iu acc (.str x)=acc from if_pos (.inr (h x Yc))];exact Zpm xs acc λy hy=>h y (Yd _ hy)
theorem Xi{names:List (List Nat)}:∀(ws acc:List (List Nat)),acc.Nodup->(∀x∈acc,x∈names)->(ws.foldl (gD names) acc).Nodup/\∀x∈ws.foldl (gD names) acc,x∈names
 |[],acc,h1,h2=>⟨h1,h2⟩|w::ws,acc,h1,h2=>by
  rw[jD];unfold gD;by_cases h:w∈names/\w∉acc
  .rw[if_pos h];refine Xi ws _ ?_ λx hx=>?_
   .rw[Av];exact⟨h1,by simp,λa ha b hb=>by rw[Yx.mp hb];exactλz=>h.2 (z▸ha)⟩
   .rcases eY.mp hx with q|q
    .exact h2 x q
    .rw[Yx.mp q];exact h.1
  .rw[if_neg h];exact Xi ws acc h1 h2
theorem ZrQ:∀(l m:List (List Nat)),l.Nodup->(∀x∈l,x∈m)->l.length<=m.length
 |[],_,_,_=>eZ _|a::l,m,nd,h=>by have ha:=h a Yc;have hn:=iK.mp nd;have:=ZrQ l (m.erase a) hn.2 λx hx=>(List.mem_erase_of_ne (λ(e:x=a)=>hn.1 (e▸hx))).mpr (h x (Yd _ hx));rw[List.length_erase_of_mem ha]at this;have:0<m.length:=List.length_pos_of_mem ha;rw[Ym];omega
theorem Zqq(h6:tk.length<=6)(nm:∀x∈tk,fO x):zU (eQ::tk)/\(glue [32] (eQ::tk)).length<=63/\k_ [32] (eQ::tk)<=63:=by
 have hw:∀w∈eQ::tk,w.length<=8/\∀c∈w,97<=c:=λw hw=>by
  rcases Yo.mp hw with e|e
  .rw[e];decide
  .exact⟨(nm w e).le,λc hc=>((nm w e).low c hc).1⟩
 have hl:=N5 32 8 (eQ::tk) λw h=>(hw w h).1;have e7:(eQ::tk).length=tk.length+1:=rfl;rw[e7]at hl;refine⟨⟨(λz=>nomatch z),λw h=>⟨λz=>by have:=(hw w h).2 _ z;exact lN [] 1 6735236508417 rfl this,λz=>by have:=(hw w h).2 _ z;exact lN [] 1 455725886209 rfl this⟩,λz=>?_,by omega⟩,by omega,by omega⟩;cases tk with
 |nil=>cases z|cons y ys=>rw[tW]at z;cases(Qx.mp z).1
theorem Zq8{a b:List Nat}:fJ (.str a) (.str b) M= .ok (.bl (!decide (a=b))) M:=by simp only[fJ,wK]
theorem Zpt(s:Nat):∀T:List (List Nat),(glue [s] T).length<=gl T
 |[]=>Yt _|[t]=>by show t.length<=_;simp[gl]|t::u::T=>by have:=Zpt s (u::T);rw[tW,Ye,Ye];show _<=((t::u::T).map λt=>t.length+1).sum;rw[Ys,List.sum_cons];have e:gl (u::T)=((u::T).map λt=>t.length+1).sum:=rfl;simp only[iJ];exact lD 2 0x1a3cc2ac3c002011021 T1 e this
theorem ZmK(s:Nat):∀ws:List (List Nat),ws.length<=(glue [s] ws).length+1
 |[]=>eZ _|[t]=>Bh _ _|t::u::ws=>by have:=ZmK s (u::ws);rw[tW,Ye,Ye,iJ,Ym];exact lC 1 0xa1ac2cca0c0a1c001 T1 this
theorem ZhU:∀RW:List (List (List Nat)),RW.flatten.length<=gl (RW.map (glue [32]))
 |[]=>Yt _|ws::RW=>by
  have h1:=ZmK 32 ws;have h2:=ZhU RW;have e:gl ((ws::RW).map (glue [32]))=(glue [32] ws).length+1+gl (RW.map (glue [32])):=by simp[gl]
  rw[kh,Ye,e];exact lD 2 0x1a3cc02c0a3c2011001 T1 h2 h1
noncomputable abbrev z_(tk:List (List Nat))(rs:List Rw):List (List (List Nat)):=(if tk=[]then[]else[eQ::tk])++rs.map Rw.words
noncomputable abbrev tZ(tk:List (List Nat))(rs:List Rw):List (List D):=rZ tk++rs.map Rw.iI
theorem d_w(tk:List (List Nat))(rs:List Rw):(tZ tk rs).map (λws=>ws.map bR)=z_ tk rs:=by
 unfold tZ z_ rZ;rw[iY,ji];have e:rs.map ((λws=>ws.map bR) ∘ Rw.iI)=rs.map Rw.words:=Aq λr _=>Xf r;rw[e];by_cases h:tk=[]
 .rw[if_pos h,if_pos h];rfl
 .rw[if_neg h,if_neg h,Ys,Zn0];rfl
theorem ZvL(tk:List (List Nat))(rs:List Rw):(tZ tk rs).flatten.map bR=(z_ tk rs).flatten:=by rw[ZV,d_w]
theorem Zwb(h:x∈Zx):iu acc (.str x)=acc:=if_pos (.inl h)
theorem ZwV(h:x∉names):gD names acc x=acc:=if_neg λz=>h z.1
theorem ZsR(hN:∀x∈jw.nms,fO x)(nG:∀r∈rs,cG r)(nd:tk.Nodup)(O1:∀x∈tk,x∈jw.nms):(tZ tk rs).flatten.foldl iu tk=(z_ tk rs).flatten.foldl (gD jw.nms) []:=by
 have rest:∀acc,(rs.map Rw.iI).flatten.foldl iu acc=(rs.map Rw.words).flatten.foldl (gD jw.nms) acc:=λacc=>by rw[Zkb _ acc λw hw=>by obtain⟨l,hl,hw⟩:=QD.mp hw;obtain⟨r,hr,rfl⟩:=dN.mp hl;exact Zrd hN (nG r hr) w hw];rw[ZV,ji,show rs.map (List.map bR ∘ Rw.iI)=rs.map Rw.words from Aq λr _=>Xf r]
 unfold tZ z_ rZ;by_cases h:tk=[]
 .rw[if_pos h,if_pos h,jh,jh,h];exact rest []
 .rw[if_neg h,if_neg h,ZJ,ZJ,Yes,Yes];have hT:eQ∈Zx:=by decide
  have e1:[(eQ::tk).map D.str].flatten.foldl iu tk=tk:=by rw[Y_,Ys,jD,Zwb hT];exact Zpm tk tk λ_ h=>h
  have e2:[eQ::tk].flatten.foldl (gD jw.nms) []=tk:=by rw[Y_,jD,ZwV (λz=>(hN _ z).own hT)];exact ZrH tk [] O1 nd
  rw[e1,e2];exact rest tk
omit [jw]in
theorem law_holds:∀ns:List Int,ns.length<=63->∃M',Zph [.bF (ns.map D.int)] []= .ok (.bl true) M':=by
 intro ns hns;refine Rt.law (env:=[Ya (.bF (ns.map D.int)),Yl,Yl,Yl,Yl,Yl,Yl,Yl]) ?_;unfold V5
 letI i0:jw:=⟨[]⟩
 let M0:Store:=[.lst (ns.map D.int)]
 let M1:Store:=[.lst (ns.map D.int),.lst [.ref 0,.int 0]]
 have AbO:cutD (ns.map D.int) Yl (Ya ((400:Nat):Int))=ns.map D.int:=Zuh _ _ (by rw[Yu];exact lA 1 7040928933130241 T1 hns);have sl:∀{a1 a2 a3 a4 a5 a6 a7:Option D} (S:Store),dW (Za 0) (fK) (dw (eC (.int 400))) [Ya (.bF (ns.map D.int)),a1,a2,a3,a4,a5,a6,a7] S= .ok (.ref S.length) (S++[.lst (ns.map D.int)]):=λS=>by show alloc (.lst (cutD (ns.map D.int) Yl (Ya ((400:Nat):Int)))) S=_;rw[AbO];rfl
 refine Rt.step (Zo (d:=.ref 1) (M':=M1) ((di (M':=M0) (ds:=[.ref 0,.int 0]) (Zr (sl []) rfl) rfl).trans rfl)) ?_;have D0:eU ns 0 1 0 M1:=⟨rfl,rfl,by decide⟩;obtain⟨S2,nr,names,hnm,gnm,AbP,n12,Jq,nnd,D2,Om⟩:=ZrS D0 (by decide)
 letI i1:jw:=⟨names⟩
 have Xj:∀x∈names,fO x:=λx hx=>⟨(Jq x hx).pos,(Jq x hx).le,(Jq x hx).own,(Jq x hx).low,hx⟩;have lM1:M1.length=2:=rfl;have O2:nr≠1:=(λz=>lB 3 0x6010121b131a021 T1 z lM1 AbP);refine Rt.step (Zo (dD rfl hnm)) ?_;obtain⟨S3,tk,htk,t6,Xk,O1,Xl⟩:=Zrx D2 (by decide) gnm O2 n12 nnd;have tok:∀x∈tk,fO x:=λx hx=>Xj x (O1 x hx);have X_:=Xl.kp.get gnm O2;refine Rt.step (Zo (rD rfl rfl htk)) ?_
 let vz:=S3++[MO.lst (ns.map D.int)]
 obtain⟨S4,n4,rs,ds,Ol,hpr,g4,gR,D4,kp4,nG,hrun,rl,rgl,dl,hat⟩:=Zta (M:=vz) (many:=ns.length) (Xl.dk.app _) (bK X_ _) O2 n12 Xj (lA 1 7040928933130241 T1 hns) (by decide)
 let I_:=vz.length
 have l2:2<=vz.length:=by
  have a:=Om.len;have b:=Xl.kp.len;have c:vz.length=S3.length+1:=by simp[vz]
  exact lD 4 0x21b021b33123011201a1c031 T1 c b a lM1
 have AbQ:S4[nr]?=Ya (.lst (names.map D.str)):=kp4.get (bK X_ _) O2;refine Rt.step (env':=[Ya (.bF (ns.map D.int)),Ya (.ref 1),Ya (.ref nr),Ya (.tup (tk.map D.str)),Ya (.ref I_),Ya (.tup ds),Yl,Yl]) (M':=S4) ?_ ?_
 .unfold rE;rw[Hg (M1:=S3) (M2:=S3) (M3:=vz) (M4:=vz) rfl rfl ((cj (sl S3) (mX (Zn S3 _ []))).trans (by rw[Yu])) rfl hpr];simp only[g4];rfl
 let RW:List (List (List Nat)):=z_ tk rs
 have Qd:=Zqq t6 tok;have Jj:gl (RW.map (glue [32]))<=3600:=by
  have e2:gl ((rs.map Rw.words).map (glue [32]))=gl (b_ rs):=by rw[ji];rfl
  have app:∀a b:List (List Nat),gl (a++b)=gl a+gl b:=λa b=>by simp[gl]
  show gl (((if tk=[]then[]else[eQ::tk])++rs.map Rw.words).map (glue [32]))<=3600;rw[iY,app,e2];split
  .show 0+_<=3600;exact lA 1 0xe103b0ec0db53b001 T1 rgl
  .show((glue [32] (eQ::tk)).length+1+0)+_<=3600;exact lB 2 0xe103b1ea0ccc0db53b1013f2b001 T1 Qd.2.1 rgl
 have XS:∀ws∈RW,zU ws:=λws hw=>by
  rcases eY.mp hw with e|e
  .split at e
   .cases e
   .rw[Yx.mp e];exact Qd.1
  .obtain⟨r,hr,rfl⟩:=dN.mp e;exact ZmQ (nG r hr)
 have XJ:(rs.map Rw.words).map (λws=>D.str (glue [32] ws))=(b_ rs).map D.str:=by rw[ji,ji];rfl
 have s5:∃(S5:Store) (E_:Nat),aJ (e2 fJ (Za 3) (bV (Ze))) (aA 4 (e2 aM (aX (Zb (aG fL xg (eC (.str [32])) (Zb (e2 aM (bV (Zb (eC (.str [116,97,107,101])) (Ze))) (Za 3)) (Ze))) (Ze))) (Za 4))) (aW) [Ya (.bF (ns.map D.int)),Ya (.ref 1),Ya (.ref nr),Ya (.tup (tk.map D.str)),Ya (.ref I_),Ya (.tup ds),Yl,Yl] S4= .nx [Ya (.bF (ns.map D.int)),Ya (.ref 1),Ya (.ref nr),Ya (.tup (tk.map D.str)),Ya (.ref E_),Ya (.tup ds),Yl,Yl] S5/\S5[E_]?=Ya (.lst (RW.map λws=>D.str (glue [32] ws)))/\S4<+:S5:=by
  have hp:(tk.map D.str).all (dz DEEP)=true:=h_.mpr λx hx=>by obtain⟨y,_,rfl⟩:=dN.mp hx;rfl
  have hne:e2 fJ (Za 3) (bV (Ze)) [Ya (.bF (ns.map D.int)),Ya (.ref 1),Ya (.ref nr),Ya (.tup (tk.map D.str)),Ya (.ref I_),Ya (.tup ds),Yl,Yl] S4= .ok (.bl (decide (tk≠[]))) S4:=by refine Zh rfl (gJ rfl rfl) ?_;simp only[fJ,GQ,hp];cases tk<;>rfl
  by_cases h0:tk=[]
  .have Xm:RW=rs.map Rw.words:=by show(if tk=[]then[]else[eQ::tk])++_=_;rw[if_pos h0];rfl
   rw[decide_eq_false (λz=>z h0)]at hne;exact⟨S4,I_,cW hne,by rw[Xm,XJ];exact gR,Ax _⟩
  .have Xm:RW=(eQ::tk)::rs.map Rw.words:=by show(if tk=[]then[]else[eQ::tk])++_=_;rw[if_neg h0];rfl
   rw[decide_eq_true h0]at hne
   let T:=glue [32] (eQ::tk)
   let S5:=S4++[MO.lst [.str T]]++[MO.lst ([.str T]++(b_ rs).map D.str)]
   have j1:aG fL xg (eC (.str [32])) (Zb (e2 aM (bV (Zb (eC (.str [116,97,107,101])) (Ze))) (Za 3)) (Ze)) [Ya (.bF (ns.map D.int)),Ya (.ref 1),Ya (.ref nr),Ya (.tup (tk.map D.str)),Ya (.ref I_),Ya (.tup ds),Yl,Yl] S4= .ok (.str T) S4:=by refine Es rfl rfl (Zr (Zh (a:=.tup [.str eQ]) (gJ rfl rfl) rfl (d:=.tup ((eQ::tk).map D.str)) ?_) rfl) (Zqp (Yi Qd.2.2 (by decide)));rw[TY,if_pos (by simp;exact lA 1 0xf42405b0ac061b001 T1 t6)];rfl
   refine⟨S5,(S4++[MO.lst [.str T]]).length,(fV hne).trans (Zo (Zh (di (Zr j1 rfl) rfl) rfl (Ip (Zn _ _ []) (bK gR _) (by simp;exact lA 1 0xdbba05b0ac01a83b001 T1 rl)))),?_,?_⟩
   .rw[Xm,Ys,XJ];exact Zn _ _ []
   .exact(ul _ _).trans (ul _ _)
 obtain⟨S5,E_,h5,g5,p5⟩:=s5;refine Rt.step h5 ?_;have gn5:=zY p5 AbQ
 let P:D:=.tup [.tup (tk.map D.str),.tup ds]
 refine Rt.step (Zo (d:=P) (M':=S5) (gJ rfl rfl)) ?_;have sh:=Zv0 nG hrun;have same:∀(X:List (List Nat)) (S:Store),X.length<=1000->zH [.tup (X.map D.str),.tup (X.map D.str)] S= .ok (.bl true) S:=λX S hX=>Zm7 30 _ S (vC (n:=29) (by rw[Yu];exact hX) λy hy=>by obtain⟨z,_,rfl⟩:=dN.mp hy;exact Xb _ _);have t0:oX oK (.tup [.tup (([]:List (List Nat)).map D.str),.tup []]) []:=Zh1 (tk:=[]) (ds:=[]) (R:=[]) (by decide) (Sh.nil 12) (by decide);have e0:∀S:Store,xq [.tup [.tup [],.tup []]] S= .ok (.str []) S:=λS=>ZmU t0 (λ_ h=>nomatch h) (by decide) (by decide) S;have n0:∀S:Store,zG [.tup [.tup [],.tup []]] S= .ok (.tup []) S:=λS=>ZiJ t0 (λ_ h=>nomatch h) (by decide) S;have emp:∀{env:bJ} (S:Store),bV (Zb (bV (Ze)) (Zb (bV (Ze)) (Ze))) env S= .ok (.tup [.tup [],.tup []]) S:=λS=>gJ (Zr (gJ rfl rfl) (Zr (gJ rfl rfl) rfl)) rfl;refine Rt.skip (M':=S5) ((ou (Zh (dD (emp S5) (e0 S5)) rfl (Zq8.trans rfl))).trans (dF (a:=.bl true) (rD (dD (emp S5) (n0 S5)) (gJ rfl rfl) (same [] S5 (by decide))) rfl)) ?_;have hrl:(rs.map Rw.iI).length<=10000:=by rw[Yu];exact lA 1 0x27104b001a83b001 T1 rl
 have tr:oX oK P (tZ tk rs):=Zh1 t6 sh hrl;have hRl:(tZ tk rs).length<=10000:=by
  have:(rZ tk).length<=1:=by unfold rZ;split <;>simp
  rw[Ye,Yu];exact lB 2 0x27104b10c01a83b101a001 T1 this rl
 have eT:(tZ tk rs).map (λws=>glue [32] (ws.map bR))=RW.map (glue [32]):=by show _=(z_ tk rs).map (glue [32]);rw[←d_w,ji];rfl
 have hW:∀ws∈tZ tk rs,ws.length<=1000/\∀w∈ws,Ox w/\mj w:=λws hw=>by
  rcases eY.mp hw with e|e
  .unfold rZ at e;split at e
   .cases e
   .rw[Yx.mp e];refine⟨by simp;exact lA 1 0x3e73b0061b001 T1 t6,λw hw=>?_⟩;obtain⟨x,hx,rfl⟩:=dN.mp hw;refine⟨⟨λ_=>rfl,?_⟩,.str x⟩;rcases Yo.mp hx with q|q
    .rw[q];decide
    .have:=(tok x q).le;show x.length<=61;exact lA 1 67254901387265 T1 this
  .obtain⟨r,hr,rfl⟩:=dN.mp e;have H:=nG r hr;refine⟨?_,λw hw=>⟨Zuv H w hw,?_⟩⟩
   .have:=WD H;rw[←Xf,Yu]at this;exact lA 1 0x3e83b003c2b001 T1 this
   .rcases Yo.mp hw with q|q
    .rw[q];exact .str _
    .rcases eY.mp q with q|q
     .obtain⟨x,_,rfl⟩:=dN.mp q;exact .str x
     .cases Im H.ok.fit w q with
      |int i _=>exact .int i|d7 x _=>exact .str x|op x _=>exact .str x
 let X:=glue [10] (RW.map (glue [32]))
 have shown:∀S:Store,xq [P] S= .ok (.str X) S:=λS=>by have:=ZmU tr (λws h=>⟨(hW ws h).1,λw hw=>((hW ws h).2 w hw).1⟩) hRl (by rw[eT];exact Yi Jj (by decide)) S;rw[eT]at this;exact this
 refine Rt.step (Zo (d:=.str X) (M':=S5) (dD rfl (shown S5))) ?_;have g5':S5[E_]?=Ya (.lst ((RW.map (glue [32])).map D.str)):=by rw[g5,ji];rfl
 have jn:∀{a:bJ},Za 4 a S5= .ok (.ref E_) S5->aG fL uR (eC (.str [10])) (Zb (Za 4) (Ze)) a S5= .ok (.str X) S5:=λh=>vh rfl h (N6 g5' (Yi (show k_ [10] (RW.map (glue [32]))<=3600 from Jj) (by decide)));refine Rt.skip (M':=S5) ((ou (M1:=S5) (dF (op:=jm) (a:=.bl true) (M1:=S5) (dF (op:=jo .str) (a:=.str X) (M1:=S5) rfl rfl) rfl)).trans (Zh rfl (jn rfl) (Zq8.trans (by rw[decide_eq_true rfl];exact rfl)))) ?_
 let F:=RW.flatten.foldl (gD names) []
 have hwl:RW.flatten.length<=3600:=Yi (ZhU RW) Jj;have hdl:(tZ tk rs).flatten.length=RW.flatten.length:=by have:=congrArg ur (ZvL tk rs);rw[Yu]at this;exact this
 have nmE:∀S:Store,zG [P] S= .ok (.tup (F.map D.str)) S:=λS=>by have:=ZiJ tr (λws h w hw=>((hW ws h).2 w hw).2) (lC 3 0x27104b02c061b201e103b1011021 T1 hdl hwl t6) S;rw[ZsR Xj nG Xk O1]at this;exact this
 have ndE:H_ [.ref E_,.ref nr] S5= .ok (.tup (F.map D.str)) S5:=named_eq g5 gn5 XS (lA 1 0x27104b00e103b001 T1 hwl);have fl:F.length<=1000:=by have q:=Xi (names:=names) RW.flatten [] JK (λ_ h=>nomatch h);have:=ZrQ F names q.1 q.2;exact lB 2 0x3e83b00c1b1211001 T1 this n12
 refine Rt.skip (M':=S5) (dF (a:=.bl true) (rD (dD rfl (nmE S5)) (rD rfl rfl ndE) (same F S5 fl)) rfl) ?_;have pl:=run_plain nG hrun;have xJ:∀n,bZ n ds=true:=λn=>Xc λx hx=>ZiF n 26 x (pl.2 x hx);have eRS:(RW.map Ya).map jW=RW.map (glue [32]):=by rw[ji];rfl
 have fm:(RW.map Ya).filterMap id=RW:=by rw[ZK];exact List.filterMap_some
 have read:∀S:Store,HX [.str X] S= .ok P S:=λS=>by
  by_cases h0:RW=[]
  .have eX:X=glue [10] ([Yl].map jW):=by show glue [10] (RW.map (glue [32]))=_;rw[h0];rfl
   rw[eX];exact ZpM (Ls:=[Yl]) (tk:=tk) (rs:=rs) (by simp) (λws h=>by simp at h) (by decide) (by decide) (by show[]=RW;exact h0.symm) nG t6 Xk tok hrun xJ
  .have:=ZpM (M:=S) (Ls:=RW.map Ya) (tk:=tk) (rs:=rs) (ds:=ds) (λz=>h0 (Ar.mp z)) (λws h=>by
    obtain⟨vs,hv,e⟩:=dN.mp h;cases e;exact XS _ hv) (by
    have:RW.length<=426:=by show((if tk=[]then[]else[eQ::tk])++rs.map Rw.words).length<=426;rw[Ye,Yu];split <;>simp <;>omega
    rw[Yu];exact lA 1 0x13884b001aa3b001 T1 this) (by rw[eRS];exact Yi (Zpt 10 _) (lA 1 0xdbba05b00e103b001 T1 Jj)) fm nG t6 Xk tok hrun xJ
   rw[eRS]at this;exact this
 have AbR:gO 30 P=true:=by
  refine Xa (n:=28) (by decide) (vC (n:=27) (show 2<=1000 by decide) λx hx=>?_);rcases Yo.mp hx with e|e
  .rw[e];exact vC (n:=26) (by rw[Yu];exact lA 1 0x3e83b0061b001 T1 t6) λy hy=>by obtain⟨z,_,rfl⟩:=dN.mp hy;exact Xb _ _
  .rw[Yx.mp e];exact vC (n:=26) pl.1 pl.2
 have Abr:∀S:Store,zH [P,P] S= .ok (.bl true) S:=λS=>Zm7 30 _ S AbR;exact⟨S5,cZ ((gY (M1:=S5) (rD (dD rfl (read S5)) rfl (Abr S5))).trans (Zh (dD rfl (shown S5)) rfl (Ov rfl)))⟩
end Law
set_option maxHeartbeats 400000
namespace Law
open PySem PySem.Spec PyProof.Rows L2 L3
variable{P:List Yh->Prop}
theorem uZ(h:P []):∀us:List Yh,us.length=0->P us:=λus e=>(Jx e)▸h
theorem uS{n:Nat}(h:∀a us,us.length=n->P (a::us))(us:List Yh)(e:us.length=n+1):P us:=by
 cases us with
 |nil=>exact absurd e (Nat.succ_ne_zero n).symm|cons a us=>exact h a us (Sg e)
variable{xa:aj}
theorem jz(h:∀a,P [a]):∀us:List Yh,us.length=[xa].length->P us:=uS λa=>uZ (h a)
theorem xP{xb:aj}(h:∀a b,P [a,b]):∀us:List Yh,us.length=[xa,xb].length->P us:=uS λa=>uS λb=>uZ (h a b)
theorem ub3{xb xc:aj}(h:∀a b c,P [a,b,c]):∀us:List Yh,us.length=[xa,xb,xc].length->P us:=uS λa=>uS λb=>uS λc=>uZ (h a b c)
theorem Xn{xb xc xd:aj}(h:∀a b c d,P [a,b,c,d]):∀us:List Yh,us.length=[xa,xb,xc,xd].length->P us:=uS λa=>uS λb=>uS λc=>uS λd=>uZ (h a b c d)
noncomputable def kN(s:Yd0):aj:=match s with
 | .FunctionDef n _ _ _ _ _ _ _ _ _=>n|_=>RG
noncomputable def kE(P:Params)(x:aj)(t:Nat)(v:Yh):DictEntry:=⟨PyData.keyHash P x,.str x t,v⟩
noncomputable def kC(n q:aj)(r t l k u:Nat):aO:=⟨.type "code",Yl,.fields #[.str n t,.str q (t+1),.str "/claim/cut.py" (t+2),.int l 0,.int k 0,.int 0 0,.int 0 0,.int 3 0,.ref r,.bool true,.int 181 0,.ref (r+1),.none,.ref (r+2),.ref (r+3),.ref (r+4),.int u 0,.int l 0,.str "/claim/cut.py" (u+1)],#[]⟩
noncomputable def kD(n q:aj)(r t l k u:Nat):aO:=⟨.type "code",Yl,.fields #[.str n t,.str q (t+1),.str "/claim/cut.py" (t+2),.int l 0,.int k 0,.int 0 0,.int 0 0,.int 3 0,.ref r,.bool true,.int 181 0,.ref (r+1),.none,.none,.none,.ref (r+2),.int u 0,.int l 0,.str "/claim/cut.py" (u+1)],#[]⟩
noncomputable def kF(s:Yd0)(n q:aj)(v m:Yh)(c:Nat):aO:=⟨.type "function",Yl,.func (W.fnOf n q (q8 s) (mL s) (Zt s) v .none .none m Yl (.ref c) .none),#[]⟩
noncomputable def kU(s:Yd0)(r t l k u:Nat):aO:=kC (kN s) (kN s) r t l k u
noncomputable def kV(s:Yd0)(r t l k u:Nat):aO:=kD (kN s) (kN s) r t l k u
noncomputable def kG(s:Yd0)(m:Yh)(c:Nat):aO:=kF s (kN s) (kN s) .none m c
def eV(K:Am)(f c:Nat)(s:Yd0)(n:aj)(m:Yh):Prop:=gF K cP n=Ya (Ya (.ref f))/\K.lookup f=Ya (kF s n n .none m c)/\W.codeIn K (.ref c) n=true/\Qw K (.ref f)=true
noncomputable def kM0:Yh:=.str "stepledger.rolls" 232
noncomputable def O4:Yh:=.str "stepledger.sums" 250
noncomputable def oY:Yh:=.str "stepledger.texts" 291
noncomputable def pM:Yh:=.str "law_stepledger_k62_whole_shown_and_read" 477
noncomputable def k3(P:Params):aO:=⟨.type "dict",Yl,.dict #[kE P "__name__" 165 (.str "law_stepledger_k62_whole_shown_and_read" 477),kE P "__doc__" 166 .none,kE P "__package__" 167 .none,kE P "__loader__" 168 (.builtin "__main__.__loader__#opaque"),kE P "__spec__" 169 .none,kE P "__annotations__" 170 (.ref 6),kE P "__builtins__" 171 (.ref 4),kE P "__file__" 173 (.str "/claim/cut.py" 172),kE P "__cached__" 174 .none,kE P "LedgerError" 206 (.ref 24),kE P "BadRow" 231 (.ref 44),kE P "FIGURES" 235 (.str "0123456789" 234),kE P "MOST_FIGURES" 237 (.int 60 236),kE P "is_number" 243 (.ref 51),kE P "shown_row" 249 (.ref 56),kE P "PARTS" 264 (.ref 57),kE P "sums_in" 270 (.ref 62),kE P "needs_sums" 277 (.ref 69),kE P "parts_of" 284 (.ref 76),kE P "depth" 290 (.ref 81),kE P "LETTERS" 294 (.str "abcdefghijklmnopqrstuvwxyz" 293),kE P "MOST_LETTERS" 296 (.int 8 295),kE P "MOST_TAKEN" 298 (.int 6 297),kE P "MOST_WORDS" 300 (.int 60 299),kE P "MOST_DEPTH" 302 (.int 6 301),kE P "MOST_BLOCKS" 304 (.int 12 303),kE P "WORDS" 317 (.ref 82),kE P "SUMS" 339 (.ref 83),kE P "LISTS" 346 (.ref 84),kE P "Block" 376 (.ref 101),kE P "read" 382 (.ref 110),kE P "read_taken" 388 (.ref 115),kE P "is_name" 394 (.ref 120),kE P "read_deeds" 406 (.ref 127),kE P "read_deed" 412 (.ref 132),kE P "read_sums" 418 (.ref 137),kE P "can_stand" 428 (.ref 144),kE P "place_deed" 434 (.ref 149),kE P "shown" 440 (.ref 154),kE P "text_rows" 448 (.ref 161),kE P "text_rows_of_deeds" 457 (.ref 168),kE P "text_rows_of_deed" 466 (.ref 175),kE P "names_of" 476 (.ref 182),kE P "_law_next" 487 (.ref 189),kE P "_law_same" 493 (.ref 194),kE P "_law_names" 510 (.ref 201),kE P "_law_value" 518 (.ref 208),kE P "_law_sum" 534 (.ref 215),kE P "_law_deed" 545 (.ref 222),kE P "_law_words" 551 (.ref 227),kE P "_law_closed" 564 (.ref 234),kE P "_law_row" 579 (.ref 241),kE P "_law_program" 585 (.ref 246),kE P "_law_taken" 591 (.ref 251),kE P "_law_named" 602 (.ref 258),kE P "law" 616 (.ref 265)] 56,#[]⟩
theorem ZvW{l:PySem.W.OpenLaw}{w:bh}{K:Am}{h:aR}{mg:aj->Option Yh}{fa f0 f1 f2 f3 f4 f5 f6 f7 f8 f9 f10 f11 f12 f13 f14 f15 f16 f17 f18 f19 f20 f21 f22 f23 f24 f25 f26 f27 f28 f29 f30 f31 f32:Y2}(X:K.In h)(G:h.Ns cP mg)(hfa:mg "law" =Ya (.ref fa)){od8 an8:Option Y2}{sl8:Array (Option Yh)}{oc8 kV8 dc8 pm8 cd8 ct8:Yh}{AaZ Aa0 Aak Aam Aag Aah Aan Aao:gn}{c7:Y2}{XC:Y2}{XD:Y2}{XM:Y2}{XF:Y2}{g0 g1 g2 g3 g4 g5 g6 g7 g9 g10 g11 g12 g13 g14 g15 g16 g17 g18 g19 g20 g21 g22 g23 g24 g25 g26 g27 g28 g29 g30 g31 g32:Nat}{m0 m1 m2 m3 m4 m5 m6 m7 m9 m10 m11 m12 m13 m14 m15 m16 m17 m18 m19 m20 m21 m22 m23 m24 m25 m26 m27 m28 m29 m30 m31 m32:Yh}(Xr:gF K cP "Block" =Ya (Ya (.ref c7)))(AaN:Ju K c7 RG=true)(AaO:Jt K c7=true)(AaP:Qq K c7=true)(AaQ:nJ K (.ref c7) "__setattr__" =Ya (Ya (.builtin "object.__setattr__")))(AaR:Jv K c7=true)(AaS:Qw K (.ref c7)=true)(Aai:nJ K (.ref c7) "head" =Ya Yl)(Aaf:nJ K (.ref c7) "lists" =Ya Yl)(a0:eV K f0 g0 Dk "is_number" m0)(a1:eV K f1 g1 Dl "shown_row" m1)(a2:eV K f2 g2 Dm "sums_in" m2)(a3:eV K f3 g3 Dn "needs_sums" m3)(a4:eV K f4 g4 Dp "parts_of" m4)(a5:eV K f5 g5 Dq "depth" m5)(a6:eV K f6 g6 Du "is_name" m6)(a7:eV K f7 g7 Dt "read_taken" m7)(a8:nJ K (.ref c7) "__init__" =Ya (Ya (.ref f8)))(i8:Jw K (.ref f8)=true)(l8:K.lookup f8=Ya ⟨oc8,od8,.func (W.fnOf "__init__" "Block.__init__" (q8 zM) (mL zM) (Zt zM) .none kV8 dc8 pm8 an8 cd8 ct8),sl8⟩)(c8:W.codeIn K cd8 "Block.__init__" =true)(k8:Qw K (.ref f8)=true)(a9:eV K f9 g9 Dy "read_sums" m9)(a10:eV K f10 g10 Dw "read_deed" m10)(a11:eV K f11 g11 Dz "can_stand" m11)(a12:eV K f12 g12 DG "place_deed" m12)(a13:eV K f13 g13 Dv "read_deeds" m13)(a14:eV K f14 g14 Ds "read" m14)(a15:eV K f15 g15 DQ "text_rows_of_deed" m15)(a16:eV K f16 g16 DP "text_rows_of_deeds" m16)(a17:eV K f17 g17 DN "text_rows" m17)(a18:eV K f18 g18 DK "shown" m18)(a19:eV K f19 g19 DR "names_of" m19)(a20:eV K f20 g20 DW "_law_next" m20)(a21:eV K f21 g21 DX "_law_same" m21)(a22:eV K f22 g22 DY "_law_names" m22)(a23:eV K f23 g23 D_ "_law_value" m23)(a24:eV K f24 g24 Ea "_law_sum" m24)(a25:eV K f25 g25 Eb "_law_deed" m25)(a26:eV K f26 g26 Ec "_law_words" m26)(a27:eV K f27 g27 Ed "_law_closed" m27)(a28:eV K f28 g28 Ef "_law_row" m28)(a29:eV K f29 g29 Eg "_law_program" m29)(a30:eV K f30 g30 Eh "_law_taken" m30)(a31:eV K f31 g31 Ei "_law_named" m31)(a32:eV K f32 g32 vf "law" m32)(Abs:gF K cP "all" =Ya Yl)(Abj:gF K cP "bool" =Ya Yl)(AaA:gF K cP "enumerate" =Ya Yl)(Abt:gF K cP "int" =Ya Yl)(Aap:gF K cP "isinstance" =Ya Yl)(Abu:gF K cP "len" =Ya Yl)(Abk:gF K cP "list" =Ya Yl)(Abv:gF K cP "max" =Ya Yl)(Aa6:gF K cP "range" =Ya Yl)(Abw:gF K cP "set" =Ya Yl)(Abx:gF K cP "str" =Ya Yl)(Aa7:gF K cP "tuple" =Ya Yl)(vJ:gF K cP "FIGURES" =Ya (Ya (.str "0123456789" AaZ)))(xT:gF K cP "LETTERS" =Ya (Ya (.str "abcdefghijklmnopqrstuvwxyz" Aa0)))(Aa8:gF K cP "LISTS" =Ya (Ya (.ref XC)))(AaB:nA K XC oG)(xQ:gF K cP "MOST_BLOCKS" =Ya (Ya (.int 12 Aak)))(vG:gF K cP "MOST_DEPTH" =Ya (Ya (.int 6 Aam)))(su:gF K cP "MOST_FIGURES" =Ya (Ya (.int 60 Aag)))(sy:gF K cP "MOST_LETTERS" =Ya (Ya (.int 8 Aah)))(vH:gF K cP "MOST_TAKEN" =Ya (Ya (.int 6 Aan)))(vI:gF K cP "MOST_WORDS" =Ya (Ya (.int 60 Aao)))(Aa9:gF K cP "PARTS" =Ya (Ya (.ref XD)))(AaC:nA K XD pH)(Abl:gF K cP "SUMS" =Ya (Ya (.ref XM)))(AaT:nA K XM jf)(qF:gF K cP "WORDS" =Ya (Ya (.ref XF)))(AaD:C_ K (Zx.map λy=>(⟨y.toArray⟩:aj)) (.ref XF)=true):
  ∃fd:lM,(∀(s:Yk) (v:Yh),Bd s fd ⟨[v],[]⟩ [("script",v)])/\∀base:aR,K.In base->base.Ns cP mg->jK l.prog w K mg base mO 69 fa fd ["script"] (u0 K 1 Zph):=by
 have e:=hfa.symm.trans (nO X G a32.1);cases e;have T:Txt K mg:=⟨trivial,pU X G Abs,pU X G Abj,pU X G AaA,pU X G Abt,pU X G Aap,pU X G Abu,pU X G Abk,pU X G Abv,pU X G Aa6,pU X G Abw,pU X G Abx,pU X G Aa7,⟨_,nO X G vJ⟩,⟨_,nO X G xT⟩,⟨_,nO X G Aa8,AaB⟩,⟨_,nO X G xQ⟩,⟨_,nO X G vG⟩,⟨_,nO X G su⟩,⟨_,nO X G sy⟩,⟨_,nO X G vH⟩,⟨_,nO X G vI⟩,⟨_,nO X G Aa9,AaC⟩,⟨_,nO X G Abl,AaT⟩,⟨_,nO X G qF,AaD⟩⟩;have dH:Ia K mg c7:=⟨⟨by unfold L3.ClsAt;rw[show(⟨([66,108,111,99,107]:List Nat).toArray⟩:aj)= "Block" by decide +kernel];exact Xr,⟨AaN,AaO,AaP,AaQ⟩,by decide⟩,nO X G Xr,by rw[show nm [104,101,97,100]= "head" by decide +kernel];exact Aai,by rw[show nm [108,105,115,116,115]= "lists" by decide +kernel];exact Aaf⟩;have AaE:bD K mg "is_number" Dk ["word"]:=fD X G a0.1 a0.2.1 a0.2.2.1 a0.2.2.2 (Binds.all (jz λ_=>rfl));have AaF:bD K mg "shown_row" Dl ["row"]:=fD X G a1.1 a1.2.1 a1.2.2.1 a1.2.2.2 (Binds.all (jz λ_=>rfl));have Aa1:bD K mg "sums_in" Dm ["words"]:=fD X G a2.1 a2.2.1 a2.2.2.1 a2.2.2.2 (Binds.all (jz λ_=>rfl));have Aaq:bD K mg "needs_sums" Dn ["word"]:=fD X G a3.1 a3.2.1 a3.2.2.1 a3.2.2.2 (Binds.all (jz λ_=>rfl));have AaU:bD K mg "parts_of" Dp ["words"]:=fD X G a4.1 a4.2.1 a4.2.2.1 a4.2.2.2 (Binds.all (jz λ_=>rfl));have Aba:bD K mg "depth" Dq ["words"]:=fD X G a5.1 a5.2.1 a5.2.2.1 a5.2.2.2 (Binds.all (jz λ_=>rfl));have Aa2:bD K mg "is_name" Du ["word"]:=fD X G a6.1 a6.2.1 a6.2.2.1 a6.2.2.2 (Binds.all (jz λ_=>rfl));have Aar:bD K mg "read_taken" Dt ["row"]:=fD X G a7.1 a7.2.1 a7.2.2.1 a7.2.2.2 (Binds.all (jz λ_=>rfl));have Aae:M8 K c7 "Block.__init__" zM ["self","head"]:=Ztw AaR AaS a8 i8 l8 c8 k8 (Binds.all (xP λ_ _=>rfl));have AaG:bD K mg "read_sums" Dy ["words"]:=fD X G a9.1 a9.2.1 a9.2.2.1 a9.2.2.2 (Binds.all (jz λ_=>rfl));have AaH:bD K mg "read_deed" Dw ["words"]:=fD X G a10.1 a10.2.1 a10.2.2.1 a10.2.2.2 (Binds.all (jz λ_=>rfl));have AaI:bD K mg "can_stand" Dz ["blocks","word"]:=fD X G a11.1 a11.2.1 a11.2.2.1 a11.2.2.2 (Binds.all (xP λ_ _=>rfl));have Aas:bD K mg "place_deed" DG ["blocks","deed"]:=fD X G a12.1 a12.2.1 a12.2.2.1 a12.2.2.2 (Binds.all (xP λ_ _=>rfl));have Aat:bD K mg "read_deeds" Dv ["rows","behind"]:=fD X G a13.1 a13.2.1 a13.2.2.1 a13.2.2.2 (Binds.all (xP λ_ _=>rfl));have Abm:bD K mg "read" Ds ["text"]:=fD X G a14.1 a14.2.1 a14.2.2.1 a14.2.2.2 (Binds.all (jz λ_=>rfl));have Aac:bD K mg "text_rows_of_deed" DQ ["deed"]:=fD X G a15.1 a15.2.1 a15.2.2.1 a15.2.2.2 (Binds.all (jz λ_=>rfl))
 have Aab:bD K mg "text_rows_of_deeds" DP ["deeds"]:=fD X G a16.1 a16.2.1 a16.2.2.1 a16.2.2.2 (Binds.all (jz λ_=>rfl));have AaJ:bD K mg "text_rows" DN ["program"]:=fD X G a17.1 a17.2.1 a17.2.2.1 a17.2.2.2 (Binds.all (jz λ_=>rfl));have Abb:bD K mg "shown" DK ["program"]:=fD X G a18.1 a18.2.1 a18.2.2.1 a18.2.2.2 (Binds.all (jz λ_=>rfl));have AaV:bD K mg "names_of" DR ["program"]:=fD X G a19.1 a19.2.1 a19.2.2.1 a19.2.2.2 (Binds.all (jz λ_=>rfl));have AaK:bD K mg "_law_next" DW ["deck"]:=fD X G a20.1 a20.2.1 a20.2.2.1 a20.2.2.2 (Binds.all (jz λ_=>rfl));have AaL:bD K mg "_law_same" DX ["found","due"]:=fD X G a21.1 a21.2.1 a21.2.2.1 a21.2.2.2 (Binds.all (xP λ_ _=>rfl));have Aau:bD K mg "_law_names" DY ["deck"]:=fD X G a22.1 a22.2.1 a22.2.2.1 a22.2.2.2 (Binds.all (jz λ_=>rfl));have Aav:bD K mg "_law_value" D_ ["cell"]:=fD X G a23.1 a23.2.1 a23.2.2.1 a23.2.2.2 (Binds.all (jz λ_=>rfl));have AaW:bD K mg "_law_sum" Ea ["deck","names","deep","most"]:=fD X G a24.1 a24.2.1 a24.2.2.1 a24.2.2.2 (Binds.all (Xn λ_ _ _ _=>rfl));have AaM:bD K mg "_law_deed" Eb ["deck","names","cell"]:=fD X G a25.1 a25.2.1 a25.2.2.1 a25.2.2.2 (Binds.all (ub3 λ_ _ _=>rfl));have Aaw:bD K mg "_law_words" Ec ["deed"]:=fD X G a26.1 a26.2.1 a26.2.2.1 a26.2.2.2 (Binds.all (jz λ_=>rfl));have Aal:bD K mg "_law_closed" Ed ["stack","deeds"]:=fD X G a27.1 a27.2.1 a27.2.2.1 a27.2.2.2 (Binds.all (xP λ_ _=>rfl));have AaX:bD K mg "_law_row" Ef ["deck","names","stack","deeds"]:=fD X G a28.1 a28.2.1 a28.2.2.1 a28.2.2.2 (Binds.all (Xn λ_ _ _ _=>rfl));have Aaj:bD K mg "_law_program" Eg ["deck","names","many","most"]:=fD X G a29.1 a29.2.1 a29.2.2.1 a29.2.2.2 (Binds.all (Xn λ_ _ _ _=>rfl));have Aax:bD K mg "_law_taken" Eh ["deck","names"]:=fD X G a30.1 a30.2.1 a30.2.2.1 a30.2.2.2 (Binds.all (xP λ_ _=>rfl));have Aay:bD K mg "_law_named" Ei ["rows","names"]:=fD X G a31.1 a31.2.1 a31.2.2.1 a31.2.2.2 (Binds.all (xP λ_ _=>rfl));refine⟨W.fnOf "law" "law" (q8 vf) (mL vf) (Zt vf) .none .none .none m32 Yl (.ref g32) .none,λs v=>.of_eq rfl,λbase _ _=>?_⟩;have Jb:=ZlJ (P:=l.prog) (w:=w) (base:=base) AaE T;have Pu:=Zly (P:=l.prog) (w:=w) (base:=base) AaF T;have Ad:=Zn7 (P:=l.prog) (w:=w) (base:=base) Aa1 T;have O8:=Zkn (P:=l.prog) (w:=w) (base:=base) Aaq T;have Py:=ZmZ (P:=l.prog) (w:=w) (base:=base) AaU T Ad;have PN:=Zrq (P:=l.prog) (w:=w) (base:=base) Aba T Py;have t7:=ZnH (P:=l.prog) (w:=w) (base:=base) Aa2 T;have O_:=Zkx (P:=l.prog) (w:=w) (base:=base) Aar T t7;have Aa:=Zhw (P:=l.prog) (w:=w) (base:=base) dH Aae T
 have Pn:=Zlw (P:=l.prog) (w:=w) (base:=base) AaG T Jb Ad O8 PN t7;have Pq:=Zld (P:=l.prog) (w:=w) (base:=base) AaH T t7 Pn;have Pr:=Zlz (P:=l.prog) (w:=w) (base:=base) AaI T dH;have O9:=Zkt (P:=l.prog) (w:=w) (base:=base) Aas T dH Aa;have Pa:=Zkh (P:=l.prog) (w:=w) (base:=base) Aat T dH Aa Pq Pr O9;have P_:=Zs0 (P:=l.prog) (w:=w) (base:=base) Abm T O_ Pa;have GG:=Zfm (P:=l.prog) (w:=w) (base:=base) Aab Aac T 28;obtain⟨O6,AbS⟩:=GG;have Ac:=ZlV (P:=l.prog) (w:=w) (base:=base) AaJ T O6;have Fe:=ZqQ (P:=l.prog) (w:=w) (base:=base) Abb T Pu Ac;have Jc:=Zms (P:=l.prog) (w:=w) (base:=base) AaV T Ac;have pN:=Zli (P:=l.prog) (w:=w) (base:=base) AaK T;have Fb:=Zln (P:=l.prog) (w:=w) (base:=base) AaL T;have Pg:=Zkp (P:=l.prog) (w:=w) (base:=base) Aau T pN;have Pb:=Zkv (P:=l.prog) (w:=w) (base:=base) Aav T;have xR:=Znq (P:=l.prog) (w:=w) (base:=base) AaW T pN Pb;have Px:=Zl5 (P:=l.prog) (w:=w) (base:=base) AaM T xR;have Ja:=Zkg (P:=l.prog) (w:=w) (base:=base) Aaw T;have Ab:=Zj6 (P:=l.prog) (w:=w) (base:=base) Aal T;have Pz:=Zm6 (P:=l.prog) (w:=w) (base:=base) AaX T pN xR Px Ja Ab;have O7:=ZiY (P:=l.prog) (w:=w) (base:=base) Aaj T Ab Pz;have Ph:=Zky (P:=l.prog) (w:=w) (base:=base) Aax T pN;have Pj:=Zkw (P:=l.prog) (w:=w) (base:=base) Aay T;exact ZvE (Zss (st:=vf) a32.2.1 a32.2.2.1 a32.2.2.2) T P_ Fe Jc Fb Pg O7 Ph Pj
noncomputable def kK:Params->Am:=λP=>(nat_lit 2,⟨.none,Yl,.dict #[] 0,#[]⟩)::
 (nat_lit 3,k3 P)::
 (nat_lit 23,⟨.type "dict",Yl,.dict #[kE P "__module__" 196 (.str "stepledger.errors" 187),kE P "__firstlineno__" 200 (.int 2 199),kE P "__static_attributes__" 201 (.ref 22),kE P "__weakref__" 203 (.ref 25),kE P "__doc__" 204 .none] 3,#[]⟩)::
 (nat_lit 24,⟨.type "type",Yl,.cls ⟨"LedgerError",[.type "ValueError"],[.ref 24,.type "ValueError",.type "Exception",.type "BaseException",.type "object"],23,"LedgerError",true,[],[.ref 44],false,Yl,false⟩,#[Ya (.ref 15),Yl,Ya (.str "LedgerError" 189),Ya (.str "LedgerError" 197),Ya (.builtin "ValueError.__new__"),Ya (.bool true)]⟩)::
 (nat_lit 43,⟨.type "dict",Yl,.dict #[kE P "__module__" 214 (.str "stepledger.errors" 187),kE P "__firstlineno__" 218 (.int 4 217),kE P "__init__" 226 (.ref 41),kE P "__static_attributes__" 228 (.ref 42),kE P "__doc__" 229 .none] 2,#[]⟩)::
 (nat_lit 44,⟨.type "type",Yl,.cls ⟨"BadRow",[.ref 24],[.ref 44,.ref 24,.type "ValueError",.type "Exception",.type "BaseException",.type "object"],43,"BadRow",true,[],[],false,Yl,false⟩,#[Ya (.ref 28),Yl,Ya (.str "BadRow" 207),Ya (.str "BadRow" 215),Ya (.builtin "ValueError.__new__"),Ya (.bool true)]⟩)::
 (nat_lit 50,kV Dk 47 238 12 1 241)::
 (nat_lit 51,kG Dk kM0 50)::
 (nat_lit 55,kV Dl 52 244 19 1 247)::
 (nat_lit 56,kG Dl kM0 55)::
 (nat_lit 57,⟨.type "dict",Yl,.dict #[kE P "add" 252 (.int 2 253),kE P "sub" 254 (.int 2 255),kE P "more" 256 (.int 2 257),kE P "cell" 258 (.int 1 259)] 4,#[]⟩)::
 (nat_lit 61,kV Dm 58 265 23 1 268)::
 (nat_lit 62,kG Dm O4 61)::
 (nat_lit 68,kU Dn 63 271 33 1 275)::
 (nat_lit 69,kG Dn O4 68)::
 (nat_lit 75,kU Dp 70 278 35 1 282)::
 (nat_lit 76,kG Dp O4 75)::
 (nat_lit 80,kV Dq 77 285 37 1 288)::
 (nat_lit 81,kG Dq O4 80)::
 (nat_lit 82,⟨.type "tuple",Yl,.seq #[.str "take" 305,.str "set" 306,.str "put" 307,.str "tell" 308,.str "when" 309,.str "else" 310,.str "while" 311,.str "end" 312,.str "add" 313,.str "sub" 314,.str "more" 315,.str "cell" 316] 0,#[]⟩)::
 (nat_lit 83,⟨.type "dict",Yl,.dict #[kE P "set" 318 (.int 1 319),kE P "put" 320 (.int 2 321),kE P "tell" 322 (.int 1 323),kE P "when" 324 (.int 1 325),kE P "else" 326 (.int 0 327),kE P "while" 328 (.int 1 329),kE P "end" 330 (.int 0 331)] 7,#[]⟩)::
 (nat_lit 84,⟨.type "dict",Yl,.dict #[kE P "when" 340 (.int 2 341),kE P "while" 342 (.int 1 343)] 2,#[]⟩)::
 (nat_lit 97,kC "__init__" "Block.__init__" 92 359 52 2 364)::
 (nat_lit 98,kF zM "__init__" "Block.__init__" .none oY 97)::
 (nat_lit 100,⟨.type "dict",Yl,.dict #[kE P "__module__" 354 (.str "stepledger.texts" 291),kE P "__firstlineno__" 358 (.int 50 357),kE P "__init__" 366 (.ref 98),kE P "__static_attributes__" 369 (.ref 99),kE P "__dict__" 371 (.ref 102),kE P "__weakref__" 373 (.ref 103),kE P "__doc__" 374 .none] 4,#[]⟩)::
 (nat_lit 101,⟨.type "type",Yl,.cls ⟨"Block",[.type "object"],[.ref 101,.type "object"],100,"Block",true,[],[],false,Yl,false⟩,#[Yl,Yl,Ya (.str "Block" 347),Ya (.str "Block" 355),Ya (.builtin "object.__new__"),Ya (.bool true)]⟩)::
 (nat_lit 109,kV Ds 106 377 55 1 380)::
 (nat_lit 110,kG Ds oY 109)::
 (nat_lit 114,kV Dt 111 383 63 1 386)::
 (nat_lit 115,kG Dt oY 114)::
 (nat_lit 119,kV Du 116 389 70 1 392)::
 (nat_lit 120,kG Du oY 119)::
 (nat_lit 126,kU Dv 121 395 74 2 404)::
 (nat_lit 127,kG Dv oY 126)::
 (nat_lit 131,kV Dw 128 407 84 1 410)::
 (nat_lit 132,kG Dw oY 131)::
 (nat_lit 136,kV Dy 133 413 94 1 416)::
 (nat_lit 137,kG Dy oY 136)::
 (nat_lit 143,kU Dz 138 419 102 2 426)::
 (nat_lit 144,kG Dz oY 143)::
 (nat_lit 148,kV DG 145 429 112 2 432)::
 (nat_lit 149,kG DG oY 148)::
 (nat_lit 153,kV DK 150 435 124 1 438)::
 (nat_lit 154,kG DK oY 153)::
 (nat_lit 160,kU DN 155 441 126 1 446)::
 (nat_lit 161,kG DN oY 160)::
 (nat_lit 167,kU DP 162 449 129 1 455)::
 (nat_lit 168,kG DP oY 167)::
 (nat_lit 174,kU DQ 169 458 134 1 464)::
 (nat_lit 175,kG DQ oY 174)::
 (nat_lit 181,kU DR 176 467 144 1 474)::
 (nat_lit 182,kG DR oY 181)::
 (nat_lit 188,kU DW 183 479 152 1 485)::
 (nat_lit 189,kG DW pM 188)::
 (nat_lit 193,kV DX 190 488 161 2 491)::
 (nat_lit 194,kG DX pM 193)::
 (nat_lit 200,kU DY 195 494 171 1 508)::
 (nat_lit 201,kG DY pM 200)::
 (nat_lit 207,kU D_ 202 511 193 1 516)::
 (nat_lit 208,kG D_ pM 207)::
 (nat_lit 214,kU Ea 209 519 196 4 532)::
 (nat_lit 215,kG Ea pM 214)::
 (nat_lit 221,kU Eb 216 535 215 3 543)::
 (nat_lit 222,kG Eb pM 221)::
 (nat_lit 226,kV Ec 223 546 225 1 549)::
 (nat_lit 227,kG Ec pM 226)::
 (nat_lit 233,kU Ed 228 552 233 2 562)::
 (nat_lit 234,kG Ed pM 233)::
 (nat_lit 240,kU Ef 235 565 239 4 577)::
 (nat_lit 241,kG Ef pM 240)::
 (nat_lit 245,kV Eg 242 580 256 4 583)::
 (nat_lit 246,kG Eg pM 245)::
 (nat_lit 250,kV Eh 247 586 279 2 589)::
 (nat_lit 251,kG Eh pM 250)::
 (nat_lit 257,kU Ei 252 592 282 2 600)::
 (nat_lit 258,kG Ei pM 257)::
 (nat_lit 264,kU vf 259 603 289 1 614)::
 (nat_lit 265,kG vf pM 264)::[]
open PySem.W
noncomputable abbrev pP:Yae:=PySem.Challenge.pw_stepledger_k62_whole_shown_and_read
noncomputable def pQ:Yae:=view pP [1,2,4,5,6,7,9,10,11,12,13,15,16,17,18,19,20,21,22,23,24,25,26,27,28,29,30,31,32,33,34,35,36,37,39,40,41,42,43,44,45,46,47,48,49,50,51]
noncomputable abbrev pL:List aj:=["PARTS","SUMS","LISTS"]
noncomputable abbrev pA:List Y2:=[nat_lit 2,nat_lit 3,nat_lit 23,nat_lit 24,nat_lit 43,nat_lit 44,nat_lit 50,nat_lit 51,nat_lit 55,nat_lit 56,nat_lit 57,nat_lit 61,nat_lit 62,nat_lit 68,nat_lit 69,nat_lit 75,nat_lit 76,nat_lit 80,nat_lit 81,nat_lit 82,nat_lit 83,nat_lit 84,nat_lit 97,nat_lit 98,nat_lit 100,nat_lit 101,nat_lit 109,nat_lit 110,nat_lit 114,nat_lit 115,nat_lit 119,nat_lit 120,nat_lit 126,nat_lit 127,nat_lit 131,nat_lit 132,nat_lit 136,nat_lit 137,nat_lit 143,nat_lit 144,nat_lit 148,nat_lit 149,nat_lit 153,nat_lit 154,nat_lit 160,nat_lit 161,nat_lit 167,nat_lit 168,nat_lit 174,nat_lit 175,nat_lit 181,nat_lit 182,nat_lit 188,nat_lit 189,nat_lit 193,nat_lit 194,nat_lit 200,nat_lit 201,nat_lit 207,nat_lit 208,nat_lit 214,nat_lit 215,nat_lit 221,nat_lit 222,nat_lit 226,nat_lit 227,nat_lit 233,nat_lit 234,nat_lit 240,nat_lit 241,nat_lit 245,nat_lit 246,nat_lit 250,nat_lit 251,nat_lit 257,nat_lit 258,nat_lit 264,nat_lit 265]
noncomputable def pX(s:Yk):Bool:=xlAt pQ [] s&&recOk (RowW.records PySem.Challenge.rw_stepledger_k62_whole_shown_and_read.row.toRowW) s
set_option maxHeartbeats 0
theorem hd0(w:bh):hSt pP pQ pL pX pA kK 1969 ⟨289,0,304,68⟩ (hW w false):=λos=>by kernel_rfl
theorem hd1(w:bh):hSt pP pQ pL pX pA kK 1969 ⟨289,0,304,68⟩ (hW w true):=λos=>by kernel_rfl
set_option maxHeartbeats 400000
end Law
open PySem PySem.W PyProof.Rows
set_option maxRecDepth 100000 in
set_option maxHeartbeats 0 in
theorem PySem.Challenge.cw_stepledger_k62_whole_shown_and_read_holds : PySem.Challenge.rw_stepledger_k62_whole_shown_and_read.Holds := by
 w_on
 refine holds_law (by kernel_rfl) λsaid=>?_;refine holds_open (r:=PySem.Challenge.rw_stepledger_k62_whole_shown_and_read.row) (q:=Law.pQ) (loose:=Law.pL) (Xt:=Law.pX) (XP:=XL Law.pQ []) (YP:=Hook.says (kHook Law.kK Law.pA (λ_=>by kernel_rfl))) (L3.ZvV (N:=4062) rfl (λ_=>rfl) rfl rfl Law.hd0 Law.hd1) (Hook.of (kHook Law.kK Law.pA (λ_=>by kernel_rfl))) (Hook.keeps _) (λs e=>xl_of s (Ybb.mp e).1) XL.keeps (by rfl) (by rfl) (by rfl) (λs e=>recFacts_of (Ybb.mp e).2) (by rfl) said (by kernel_rfl) ⟨rfl,rfl,rfl,rfl,rfl,by decide +kernel⟩ ?hw ?hc
 case hw=>w_witness2
 k_fill
 refine L3.Zx2 (l:=PySem.Challenge.rw_stepledger_k62_whole_shown_and_read) (k:=69) (F:=Law.Zph) rfl rfl ⟨rfl,by decide,by decide,rfl⟩ (λw h Y=>W.kIn_of Y) ?G Law.law_holds
 case G=>
  intro w mg fa h KX G hmg;refine' Law.ZvW KX G hmg ?_ ?_ ?_ ?_ ?_ ?_ ?_ ?_ ?_ ?_ ?_ ?_ ?_ ?_ ?_ ?_ ?_ ?_ ?_ ?_ ?_ ?_ ?_ ?_ ?_ ?_ ?_ ?_ ?_ ?_ ?_ ?_ ?_ ?_ ?_ ?_ ?_ ?_ ?_ ?_ ?_ ?_ ?_ ?_ ?_ ?_ ?_ ?_ ?_ ?_ ?_ ?_ ?_ ?_ ?_ ?_ ?_ ?_ ?_ ?_ ?_ ?_ ?_ ?_ ?_ ?_ ?_ ?_ ?_ ?_ ?_ ?_ ?_ ?_
  all_goals try first|k_is|(refine⟨?_,?_,?_,?_⟩<;>k_is)
  all_goals first|rfl|decide +kernel
