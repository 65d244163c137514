import PyProof.Rows.All
import Wide.All
import OpenK.AllK
import Wide.FinOn
import Lean
import PyProof.EqAt
import PyProof.EqKinds
import PyProof.TupleCall
import PySem.Challenge.RW_stepledger_k72_whole_plainly
open Option renaming some->Ya,none->Yk,isSome_iff_exists->Jr,isSome_some->Z9,isNone_none->Z_,getD_none->Yk7,bind_some->Yla,map_some->Ylv
open PySem renaming wpAny_bind->Yb,Value->Yd,Shared->Yg,wpAny_pure->Yi,Addr->Yn,starEach->Yt,wpAny->Yy,mainGlobals->Y1,model->Y4,sizeLine->Y7,Program->aX,Around->bB,wpAny_field->e_,wpAny_mono->fc,wpAny_callSpecial?_slot->qx,wpAny_holding->jk,World->aU,bootBuiltins->jl,wpAny_newObj_type->oH,mem_of_lookup->sH,Heap->au,wpAny_call_entry->qy,compareOp->iZ,wpAny_seqItems->qz,binaryOp->i_,wpAny_setField_rec->wX,sizeLine_eq->nj,attributeBase->qC,FuncData->j7,foldedSetIterable->wY,backTo->eF,eval->aH,wpAny_pyIter_tuple->zM,IsPair->fG,wpAny_passesOwn->wZ,letOwnedTupleGo->w6,wpAny_loadPart'->Js,Stmt->Ydm,swapsWith->nq,assignEach->pG,wpAny_Call_Name_kw->Ew,wpAny_typeOf->uP,sysModules->qD,wpAny_attempt->xg,pyNext->iu,codeAny->jM,noteFrame->pH,cLine->eG,wpAny_comprehension_free->Qi,wpAny_execs_nil->Ey,getattributeRaised->Jt,codeAny_builtin->Ez,sliceBounds->xj,slicePicked->xq,wpAny_pyIter_enum->Ju,assign->jw,codeAny_mono->zN,builtinLookup_eq_fast->Qj,holding->nu,rawInt->jN,wpAny_updateSeq_pair->Qk,wpAny_standAt->EY,wpAny_onRaise->E_,call_meets->xr,wpAny_rule->xu,getItem->oJ,keywordEach->zO,wpAny_letOwnedTupleGo_enum->Yf8,tupleKind_room_in1->Ql,compPost->sI,wpAny_setField->Jv,wpAny_truthy_bool->Qm,wpAny_assign_Name->Qn,wpAny_sequenceKey->Qo,typeLookup->zP,behindInMarks->Jw,compEnvC->uQ,plainId_quiet->Jx,excClassObj->Fb,noFill_tuple_add->Qq,wpAny_isInstance->Qs,codeAny_compStart_list->Yhu,tupleKind->zQ,wpAny_storeName_local->Yh6,call_meetsIn->Jy,exec_Assign_Name_used->Yig,typeLookup_type->Qt,wpAny_notOrdered_dict->Yik,wpAny_newFunctionEnv->Yix,unbindBehindTheSuite->Yi0,codeAny_call_builtin->Yi1,IsZip->jO,Result->pI,intText?->Qu,newFunctionEnv->Qv,isSubtype_stop->Qw,subscripted->Jz,callerA->uR,relabel->uT,wpAny_dictSet_pairs->Yjl,seq_tuple_add->Qx,evalPart_none->Qy,backToKw->zR,getAttr?->zT,sub_AttributeError->Yj6,wpAny_missed_other->Yka,standAt->xx,wpAny_pyIter_list->Yke,wpAny_call->JB,valueAt->xF,wpAny_Call_method->Ykl,field->mC,wpAny_dictEntries->Ykp,Within->Qz,concat_meets->QB,seqIndex_neg->QC,stored->sJ,wpAny_pyHash_int->Yk1,wpAny_pyHash_str->Yk2,wpAny_execs_cons->Yk4,kt_code_dict_new->Yld,PassesOwn->JC,BindsTo->zU,seqIndex_of->QD,theTreesLotGoes->Ylq,seqItems?->JD,wpAny_throw->QF,getAttrByItsOwn->Ylw,dictGet->zV,wpAny_letGo->QG,wpAny_dictEpoch->Yl1,loadIfAlive->QH,notedBy->zW,builtinsNs->QJ,wpAny_Name->QK,wpAny_load->QL,typeIs_str->QM,typeIs_int->QQ,call->QR,getAttrBy?->QS,pyIter->zX,getMethod->QT,cellsFrom->QV,seqIndex?->QW,atKey->sO,getAttrBy->QX,setItem->JF,unaryOp->JG,bindL->uU,bindC->uV,leaving->JH,newList->JK,nsFind->Fd,Str->aj,Tok->jx,Obj->aB,Env->cQ,Sem->lu,Pos->aP
open PySem.W renaming Frag->Yc,findIn->Y2,hideAll->nA,kia_one->nC,keepIn->fY,codeIn->gB,emptyDict->sS,keepIn->pJ,subIn->oK,isFn->nD,fnOf->oM,mg_none_of->oN,nsIn->dm,kitAny->sU,instObj->uW,hideAll_get->zY,fnOf->fZ,mroIn->xG,codeIn->zZ,plainGet->Fe,of_hideAll->JL,callWith_K->JM,hasDictIn->JN,plainGet_of->QZ,makesIn->JP,lookIn->JQ,typeIn->JR,exmOne->JS,methodObj->Q0,plainOver->Q3,specialIn->Q4,clsIn->JT,cellsFrom_some->Yhs,takerIn->Q5,takesIn->Q6,hideAll_none->Yis,kitOne->Q7,kitx_tuple->Yjt,kitx_none->Ykf,kitx_list->Ykg,kitx_dict->Ykh,handedIn->Yk5,mg_of->z6,WalkO->Ymj,mg_of->Ymk,Frag->Ff
open List renaming getElem?_eq_some_iff->Ye,getElem?_set_ne->Yf,replicate->Yh,size_toArray->Ym,mem_cons_of_mem->Yq,length_cons->Ys,length_append->Yv,getElem?_append_left->Yw,getElem?_set_self->Yx,mem_cons_self->Yz,getElem?_eq_getElem->Y5,map_cons->Y8,mem_cons->fj,mem_append_right->mD,range->dN,set_cons_succ->lz,set_cons_zero->lF,mem_singleton->mF,replicate_succ->nF,lookup_cons->j8,length_map->jP,append_assoc->mG,getElem?_map->nG,getElem?_append_right->xH,drop_eq_getElem_cons->xJ,mem_of_getElem?->sV,length_set->oO,all_eq_true->pK,cons_append->pM,flatten_cons->qF,prefix_append->sW,take_of_length_le->xK,length_nil->pN,getElem?_take_of_lt->z7,length_replicate->xM,length_singleton->xN,append_nil->qG,nodup_cons->qH,nil_append->qI,any_cons->pO,mem_append->sX,foldl_cons->sY,mem_filterMap->xO,eq_nil_of_length_eq_zero->JV,mem_append_left->z8,reverse_cons->z9,filterMap_cons->Fg,lookup->qJ,getElem?_replicate->JW,not_mem_nil->z_,find?_cons->Aa,getD_eq_getElem?_getD->Q8,mem_range->Ab,length_take->Fi,drop_length->Fj,map_nil->Yes,all_cons->Ac,forIn_cons->Fl,eraseIdxIfInBounds_toArray->Yfd,getElem_mem->JX,getElem?_of_mem->Q9,mem_map->Fo,forIn_nil->JZ,take_sublist->Q_,Nodup->Ad,length_range->Ra,length->Fp,getElem?_cons_succ->Yhh,getElem?_set_self'->Yhm,drop_of_length_le->Yhv,drop_eq_nil_of_le->Yhx,of_mem_zip->Rb,map_append->Rc,dropLast_eq_take->Yil,getElem?_eq_none->Yip,dropLast_concat->Yi3,map_congr_left->Yjk,length_reverse->Yjp,contains_cons->Yj9,getElem?_inj->Ykq,getElem_inj->Yk3,length_drop->Yk6,zipIdx_cons->Ylf,mem_filter->Ylj,zipIdx_nil->Ylz,drop_zero->Yl7,nodup_nil->Yl8,foldl->Rf,map_take->Ymm
open PySem.Heap renaming get?_push_of_some->Yj,lt_size->Yp,get?_push_size->Y0,size_push->uX,get?_update_other->J1,SameBut->xP,get?_update_self->Rg
open Nat renaming le_refl->Yl,lt_of_lt_of_le->Yo,le_trans->Yu,ne_of_lt->Y6,le_antisymm->iw,zero_le->eN,sub_add_cancel->lG,lt_trans->iy,le_of_not_lt->pP,le_add_right->sZ,lt_irrefl->pQ,eq_of_beq_eq_true->Ae,le_of_eq->qK,beq->iG,ne_of_gt->tu,add_assoc->uY,lt_succ_self->Af,zero_add->u5,mul_le_mul_left->J2,add_comm->xQ,le_of_lt->xR,sub_le->Ag,min_eq_right->Rh,min_le_right->Ri,ble->tD,le_of_ble_eq_true->Yhz,min_eq_left->Rj,sub_eq_zero_of_le->Yih,add_le_add_right->Yir,add_right_comm->Ykc,add_zero->Rk,succ_le_succ->Yk8,succ_ne_self->Yle,one_mul->Rm,add_le_add->Yl5,max_assoc->Yml
open Classical renaming propDecidable->Yr
open Option.some renaming inj->Y3,injEq->Yko
open Bool renaming and_eq_true->Y9,false_ne_true->mH,and_eq_true_iff->u6,or_eq_true->u9,and_true->u_,beq_eq_decide_eq->J3,false_eq_true->J5,and_false->J6,or_false->Rn,false_or->Ro,eq_iff_iff->Yll
open PySem.Builtin.SmallTypes renaming nextOf->mJ,ownedTupleIsFree->vd,ownedTupleHandOut->Yeg
open Ne renaming symm->bK
open False renaming elim->fH
open PySem.Builtin.Slice renaming slicePlaces->vf,sliceAdjust->Fq,sliceApplied->J7,sliceFields->Ygm
open PyProof.Rows renaming slot_tuple_getitem->Ah,callWith_type1->Ft,slot_tupleiter_next->J8,entry_tuple_getitem->Rp,envOfC->lH,args_tuple_getitem->Rq,slicePart_none->J9,kindOf->mK,AllBare->qL,subscriptTail->J_,subscriptTail_builtinR->Yht,entry_tupleiter_next->Yiz,args_tupleiter_next->Yjm,tupleItemsOf_->Rr,Subscript_->Ka,IsTup->xT
open PySem.Builtin.Tuple renaming tupleExact->vg,tupleItemsOf->Ru
open Int renaming toNat_of_nonneg->tE,toNat_natCast->qM,natCast_nonneg->Fv,emod_nonneg->Ai,self_le_toNat->Fw,le_trans->xU,add_assoc->Aj,le_refl->xV,ofNat_le->Ak,zero_add->Al,add_zero->Am,natCast_add->Kc,le_of_eq->Fx,emod_lt_of_pos->Rv,not_le->Ao,lt_mul_ediv_self_add->Yg7,le_of_lt->Kd,mul_zero->Ke,natCast_mul->Rw,ofNat_lt->Kf,lt_of_lt_of_le->Yjq,sub_zero->Rx,min_eq_left->Ylh,mul_add->Ry,add_le_add->Yl6,not_lt->Rz
open PySem.Str renaming ofString->lJ,length->qN
open Decidable renaming byContradiction->Fy
open PySem.F renaming slot_dict_get->Aq,slot_zip_next->vh,args_dict_get_3->Kg,entry_dict_get->Kh,args_tuple_add_2->RB,entry_tuple_add->RD,plainAttrs_list->RJ,slot_tuple_add->RK,args_zip_next_1->Kl,entry_zip_next->Km,excBase_ValueError->Yf9,slot_list_append->Yg5,type_list_append->Yg6,plainAttrs_dict->Yhf,type_dict_get->Yie,slot_enumerate_next->Yin,kt_typeCall_dict_1->Yiy,args_dict_init_2->Yj7,entry_dict_init->Ykm,entry_list_pop->Yk9,kt_called_dict->Ylc,slot_list_pop->Ylo,slot_int_rmul->Ylp
open PySem.Builtin.Str renaming strSliceIndices->Ko
open Array renaming getElem?_eq_some_iff->Kp,length_toList->Fz,getElem?_toList->RL,toList->Kq,mem_of_getElem?->Yio,mem_toList_iff->Yit,append_assoc->Yjs,forIn_toList->Ykb
open PySem.SeqAt renaming EqAt->nH
open PySem.Calls renaming spliced_cons->Ar,callWith_builtin->Kr,evalArgs_plain->Ks,spliced_nil->Ku,Name_function_global->Yf7
open PySem.Builtin.Dict renaming updateFrom->Kv,addKeywords->Yg9,selfAndRest->Yha,pairItems->Yhw,missed->Yjo
open PyProof.Rows.KTD renaming datumAt->tG,TabOf->tH,tab_of_look->Ylx
open PySem.Around renaming under_plainId->Kw,under->RM
open PySem.Builtin.List renaming listTooLong->RN
open PySem.SeqAt.EqAt renaming str_int->Ky,int_str->RP,int_int->RQ,same->RT,none_bool->Yiu,bool_none->Yiv,bool_bool->Yiw,none_int->Yja,none_str->Yjb,bool_int->Yjc,bool_str->Yjd,int_none->Yje,int_bool->Yjf,str_none->Yjg,str_bool->Yjh,str_str->Yjz,of_refs->Yj4
open PySem.Obj renaming data_mapFields->Kz,mapFields->FJ,isFreed_of_fields->Yim,mapSeq->FN
open PySem.SeqAt.RcAt renaming tuples->RV,lists_lengths->Yg4,lists->Ylb
open OfNat renaming ofNat->FP
open Eq renaming trans->vm
open PySem.Heap.DictOf renaming new->RW
open PySem.PassesOwn renaming never->RX,leaving->Ykr
open PySem.Heap.SameBut renaming update->Yjn
open PySem.Paired renaming length->RZ
open PySem.Heap.IsSliceOf renaming new->Yjx
open List.cons renaming inj->R0,injEq->Ylr
open PySem.Code renaming isFrame->R4
open Nat.succ renaming inj->R5
open PySem.Shared renaming heap->R6
open PySem.Value renaming isStrOf->Ymi
open Max renaming max->fP
open Min renaming min->jg
namespace L3
set_option compiler.extract_closed false
set_option genSizeOf false in
set_option genInjectivity false in
inductive AE where
 |v (i:Nat)
 |k (n:Nat)
 |a (x y:AE)
 |m (n:Nat) (x:AE)
noncomputable def KC:List Nat->Nat->Nat
 |[],_=>0|x::_,0=>x|_::l,n+1=>KC l n
noncomputable def AE.ev(c:List Nat):AE->Nat
 | .v i=>KC c i|.k n=>n|.a x y=>x.ev c+y.ev c|.m n x=>n*x.ev c
noncomputable def aL:List Nat->List Nat->List Nat
 |[],r=>r|x::l,[]=>x::l|x::l,y::r=>(x+y)::aL l r
noncomputable def sL(n:Nat):List Nat->List Nat
 |[]=>[]|x::l=>(n*x)::sL n l
noncomputable def uL:Nat->List Nat
 |0=>[1]|n+1=>0::uL n
noncomputable def AE.li:AE->List Nat
 | .v i=>0::uL i|.k n=>[n]|.a x y=>aL x.li y.li|.m n x=>sL n x.li
noncomputable def dt:List Nat->List Nat->Nat
 |x::c,y::l=>x*y+dt c l|[],_=>0|_,[]=>0
noncomputable def xW:List Nat->List Nat->Bool
 |[],_=>true|x::l,[]=>tD x 0&&xW l []|x::l,y::r=>tD x y&&xW l r
theorem oR:∀c,dt c []=0
 |[]=>rfl|_::_=>rfl
theorem qO:∀c l r,dt c (aL l r)=dt c l+dt c r
 |c,[],r=>by rw[oR,u5];rfl|c,x::l,[]=>by rw[oR];rfl|[],x::l,y::r=>rfl|z::c,x::l,y::r=>by show z*(x+y)+dt c (aL l r)=_;rw[qO c l r,Nat.mul_add];exact Nat.add_add_add_comm _ _ _ _
theorem FQ(n:Nat):∀c l,dt c (sL n l)=n*dt c l
 |c,[]=>by rw[oR];exact oR c|[],x::l=>rfl|z::c,x::l=>by show z*(n*x)+dt c (sL n l)=n*(z*x+dt c l);rw[FQ n c l,Nat.mul_add,Nat.mul_left_comm]
theorem ZtA:∀c i,dt c (uL i)=KC c i
 |[],0=>rfl|[],_+1=>rfl|x::c,0=>by show x*1+dt c []=x;rw[oR,Nat.mul_one];rfl|x::c,n+1=>by show x*0+dt c (uL n)=KC c n;rw[ZtA c n,Nat.mul_zero,u5]
theorem Av:∀c l r,xW l r=true->dt c l<=dt c r
 |c,[],r,_=>by rw[oR];exact eN _|[],x::l,r,_=>eN _|z::c,x::l,[],h=>by have h:=(Y9 _ _).mp h;have e:x=0:=Nat.le_zero.1 (Yhz h.1);have i:=Av c l [] h.2;rw[oR]at i;show z*x+dt c l<=0;rw[e,Nat.le_zero.1 i];exact Yl 0|z::c,x::l,y::r,h=>
  have h:=(Y9 _ _).mp h
  Yl5 (J2 z (Yhz h.1)) (Av c l r h.2)
theorem AE.eZ(c:List Nat):∀e:AE,dt (1::c) e.li=e.ev c
 | .v i=>(u5 _).trans (ZtA c i)|.k n=>by show 1*n+dt c []=n;rw[oR,Rm];rfl|.a x y=>(qO _ _ _).trans (congr (congrArg _ (x.eZ c)) (y.eZ c))|.m n x=>(FQ n _ _).trans (congrArg _ (x.eZ c))
noncomputable def bZ:Nat->Nat->AE×Nat
 |0,s=>(.k 0,s)|f+1,s=>bif tD (s % 16) 9 then(.v (s % 16),s / 16)else bif iG (s % 16) 10 then(.k 1,s / 16)
  else bif iG (s % 16) 11 then(.k (s / 256 % 16^(s / 16 % 16)),s / 256 / 16^(s / 16 % 16))
  else bif iG (s % 16) 12 then(.a (bZ f (s / 16)).1 (bZ f (bZ f (s / 16)).2).1,(bZ f (bZ f (s / 16)).2).2)
  else bif iG (s % 16) 13 then(.m (s / 16 % 256) (bZ f (s / 4096)).1,(bZ f (s / 4096)).2)
  else(.k 0,s / 16)
noncomputable def FT:Nat->Nat->Nat->Prop
 |0,x,y=>x<=y|1,x,y=>x<y|2,x,y=>x=y|3,x,y=>x=y
 |4,x,y=>¬x<=y|5,x,y=>¬x<y|_,_,_=>False
noncomputable def R7:Nat->AE->AE->List Nat
 |0,x,_=>x.li|1,x,_=>aL [1] x.li|2,x,_=>x.li|4,_,y=>aL [1] y.li
 |_,_,y=>y.li
noncomputable def FW:Nat->AE->AE->List Nat
 |0,_,y=>y.li|1,_,y=>y.li|2,_,y=>y.li|_,x,_=>x.li
noncomputable def vo(c:List Nat):Nat->Nat->Prop
 |0,s=>FT (s % 16) ((bZ 9 (s / 16)).1.ev c) ((bZ 9 (bZ 9 (s / 16)).2).1.ev c)|n+1,s=>FT (s / 16 % 16) ((bZ 9 (s / 256)).1.ev c) ((bZ 9 (bZ 9 (s / 256)).2).1.ev c)->vo c n (bZ 9 (bZ 9 (s / 256)).2).2
noncomputable def gN:Nat->AE->AE->List Nat->List Nat->Bool
 |0,x,y,L,R=>xW (aL R x.li) (aL L y.li)|1,x,y,L,R=>xW (aL [1] (aL R x.li)) (aL L y.li)|_,_,_,L,R=>xW (aL [1] R) L
noncomputable def vp:Nat->Nat->List Nat->List Nat->Bool
 |0,s,L,R=>gN (s % 16) (bZ 9 (s / 16)).1 (bZ 9 (bZ 9 (s / 16)).2).1 L R|n+1,s,L,R=>vp n (bZ 9 (bZ 9 (s / 256)).2).2 (aL L (sL (s % 16) (R7 (s / 16 % 16) (bZ 9 (s / 256)).1 (bZ 9 (bZ 9 (s / 256)).2).1))) (aL R (sL (s % 16) (FW (s / 16 % 16) (bZ 9 (s / 256)).1 (bZ 9 (bZ 9 (s / 256)).2).1)))
theorem FZ(c l:List Nat):dt (1::c) (aL [1] l)=dt (1::c) l+1:=by rw[qO];show 1*1+dt c []+_=_;rw[oR];exact xQ _ _
theorem Zp8(c:List Nat)(x y:AE):∀r,FT r (x.ev c) (y.ev c)->dt (1::c) (R7 r x y)<=dt (1::c) (FW r x y)
 |0,h=>by show dt _ x.li<=dt _ y.li;rw[x.eZ,y.eZ];exact h|1,h=>by show dt _ (aL [1] x.li)<=dt _ y.li;rw[FZ,x.eZ,y.eZ];exact h|2,h=>by show dt _ x.li<=dt _ y.li;rw[x.eZ,y.eZ];exact qK h|3,h=>by show dt _ y.li<=dt _ x.li;rw[x.eZ,y.eZ];exact qK h.symm
 |4,h=>by show dt _ (aL [1] y.li)<=dt _ x.li;rw[FZ,x.eZ,y.eZ];exact Nat.lt_of_not_le h|5,h=>by show dt _ y.li<=dt _ x.li;rw[x.eZ,y.eZ];exact pP h|_+6,h=>h.elim
theorem Zxy(c:List Nat)(x y:AE)(L R:List Nat)(h:dt (1::c) L<=dt (1::c) R):∀r,gN r x y L R=true->FT r (x.ev c) (y.ev c)
 |0,k=>by have e:=Av (1::c) _ _ k;rw[qO,qO,x.eZ,y.eZ]at e;exact Nat.le_of_add_le_add_left (Yu e (Yir h _))|1,k=>by have e:=Av (1::c) _ _ k;rw[FZ,qO,qO,x.eZ,y.eZ]at e;exact Nat.lt_of_add_lt_add_left (Yu e (Yir h _))|r+2,k=>by have e:=Av (1::c) _ _ k;rw[FZ]at e;exact absurd (Yu e h) (Nat.not_succ_le_self _)
variable{a b:Nat}
theorem arN(c:List Nat):∀(n s:Nat) (L R:List Nat),dt (1::c) L<=dt (1::c) R->vp n s L R=true->vo c n s
 |0,s,L,R,h,k=>Zxy c _ _ L R h _ k|n+1,s,L,R,h,k=>λg=>arN c n _ _ _ (by rw[qO,qO,FQ,FQ];exact Yl5 h (J2 _ (Zp8 c _ _ _ g))) k
end L3
theorem lN(c:List Nat)(n s:Nat)(h:L3.vp n s [] []=true):L3.vo c n s:=L3.arN c n s [] [] (Yl _) h
theorem lK(a b:Nat):a<=a-b+b:=Nat.le_add_of_sub_le (Yl _)
theorem T1:true=true:=rfl
theorem lA(n s:Nat)(y:L3.vp n s [] []=true):L3.vo [a] n s:=lN _ n s y
theorem lB(n s:Nat)(y:L3.vp n s [] []=true):L3.vo [a,b] n s:=lN _ n s y
theorem lC{c:Nat}(n s:Nat)(y:L3.vp n s [] []=true):L3.vo [a,b,c] n s:=lN _ n s y
theorem lD{c d:Nat}(n s:Nat)(y:L3.vp n s [] []=true):L3.vo [a,b,c,d] n s:=lN _ n s y
theorem lE{c d e:Nat}(n s:Nat)(y:L3.vp n s [] []=true):L3.vo [a,b,c,d,e] n s:=lN _ n s y
theorem clA(w:Int):fP w 0=(w.toNat:Int):=(Int.ofNat_toNat w).symm
theorem clB(v:Int)(n:Nat)(h:¬v<0):jg v (n:Int)=((jg v.toNat n:Nat):Int):=by
 obtain⟨k,rfl⟩:=Int.eq_ofNat_of_zero_le (Rz.1 h);rcases Nat.le_total k n with z|z
 .rw[Ylh (Ak.2 z)];exact congrArg Int.ofNat (Rj z).symm
 .rw[Int.min_eq_right (Ak.2 z)];exact congrArg Int.ofNat (Rh z).symm
theorem R8(v:Int)(n:Nat)(h:v<0):fP 0 (jg (v+(n:Int)) (n:Int))=((v+(n:Int)).toNat:Int):=by rw[Ylh (Kd (Yjq (Int.add_lt_add_right h _) (Fx (Al _)))),Int.max_comm];exact clA _
theorem R9(v:Int)(n:Nat)(h:¬v<0):fP 0 (jg v (n:Int))=((jg v.toNat n:Nat):Int):=by rw[clB v n h];exact Int.max_eq_right (Fv _)
namespace L3
set_option genSizeOf false in
set_option genInjectivity false in
inductive AI where
 |v (i:Nat)
 |k (n:Nat)
 |c (e:AE)
 |a (x y:AI)
 |s (x y:AI)
 |g (x:AI)
 |m (n:Nat) (x:AI)
noncomputable def F_:List Int->Nat->Int
 |[],_=>0|x::_,0=>x|_::l,n+1=>F_ l n
noncomputable def AI.ev(c:List Nat)(d:List Int):AI->Int
 | .v i=>F_ d i|.k n=>Int.ofNat n|.c e=>((e.ev c:Nat):Int)|.a x y=>x.ev c d+y.ev c d
 | .s x y=>x.ev c d-y.ev c d|.g x=>-x.ev c d|.m n x=>Int.ofNat n*x.ev c d
noncomputable def pL(u w:List Nat×List Nat):List Nat×List Nat:=(aL u.1 w.1,aL u.2 w.2)
noncomputable def AI.li:AI->Bool->List Nat×List Nat
 | .v i,b=>bif b then([],uL i)else([],[])|.k n,b=>bif b then([n],[])else([],[])|.c e,b=>bif b then(e.li,[])else([],[])|.a x y,b=>pL (x.li b) (y.li b)
 | .s x y,b=>pL (x.li b) (y.li (!b))|.g x,b=>x.li (!b)|.m n x,b=>(sL n (x.li b).1,sL n (x.li b).2)
noncomputable def eV:List Int->List Nat->Int
 |x::c,y::l=>x*(y:Int)+eV c l|[],_=>0|_,[]=>0
noncomputable def dI(c:List Nat)(d:List Int)(u:List Nat×List Nat):Int:=((dt (1::c) u.1:Nat):Int)+eV d u.2
theorem Ztr(p q r s:Int):p+q+(r+s)=p+r+(q+s):=by omega
theorem oU:∀c,eV c []=0
 |[]=>rfl|_::_=>rfl
theorem ZqQ:∀c l r,eV c (aL l r)=eV c l+eV c r
 |c,[],r=>by rw[oU,Al];rfl|c,x::l,[]=>by rw[oU,Am];rfl|[],x::l,y::r=>rfl|z::c,x::l,y::r=>by show z*((x+y:Nat):Int)+eV c (aL l r)=(z*x+eV c l)+(z*y+eV c r);rw[ZqQ c l r,Kc,Ry];exact Ztr _ _ _ _
theorem Zq9(n:Nat):∀c l,eV c (sL n l)=Int.ofNat n*eV c l
 |c,[]=>by rw[oU,Ke];exact oU c|[],x::l=>(Ke _).symm|z::c,x::l=>by show z*((n*x:Nat):Int)+eV c (sL n l)=Int.ofNat n*(z*x+eV c l);rw[Zq9 n c l,Ry,Rw,Int.mul_left_comm];rfl
theorem Zqv:∀c i,eV c (uL i)=F_ c i
 |[],0=>rfl|[],_+1=>rfl|x::c,0=>by show x*1+eV c []=x;rw[oU,Int.mul_one,Am]|x::c,n+1=>by show x*0+eV c (uL n)=F_ c n;rw[Zqv c n,Ke,Al]
section
variable (c:List Nat) (d:List Int)
theorem j9(u w:List Nat×List Nat):dI c d (pL u w)=dI c d u+dI c d w:=by show((dt (1::c) (aL u.1 w.1):Nat):Int)+eV d (aL u.2 w.2)=_;rw[qO,ZqQ,Kc];exact Ztr _ _ _ _
theorem KD(n:Nat)(u:List Nat×List Nat):dI c d (sL n u.1,sL n u.2)=Int.ofNat n*dI c d u:=by show((dt (1::c) (sL n u.1):Nat):Int)+eV d (sL n u.2)=_;rw[FQ,Zq9,Rw];exact(Ry _ _ _).symm
theorem R_:dI c d ([],[])=0:=by show((dt (1::c) []:Nat):Int)+eV d []=0;rw[oR,oU];rfl
theorem Zt3(p q r s:Int):p-q+(r-s)=p+r-(q+s):=by omega
theorem Zpr(p q r s:Int):p-q-(r-s)=p+s-(q+r):=by omega
theorem AI.eZ:∀e:AI,e.ev c d=dI c d (e.li true)-dI c d (e.li false)
 | .v i=>by show F_ d i=dI c d ([],uL i)-dI c d ([],[]);rw[R_,Rx];show _=((dt (1::c) []:Nat):Int)+eV d (uL i);rw[oR,Zqv];exact(Al _).symm|.k n=>by show Int.ofNat n=dI c d ([n],[])-dI c d ([],[]);rw[R_,Rx];show _=((dt (1::c) [n]:Nat):Int)+eV d [];rw[oU,Am];show _=((1*n+dt c []:Nat):Int);rw[oR,Rm];rfl|.c e=>by show((e.ev c:Nat):Int)=dI c d (e.li,[])-dI c d ([],[]);rw[R_,Rx];show _=((dt (1::c) e.li:Nat):Int)+eV d [];rw[oU,Am,e.eZ]|.a x y=>by show x.ev c d+y.ev c d=dI c d (pL (x.li true) (y.li true))-dI c d (pL (x.li false) (y.li false));rw[j9,j9,x.eZ,y.eZ];exact Zt3 _ _ _ _
 | .s x y=>by show x.ev c d-y.ev c d=dI c d (pL (x.li true) (y.li false))-dI c d (pL (x.li false) (y.li true));rw[j9,j9,x.eZ,y.eZ];exact Zpr _ _ _ _|.g x=>by show -x.ev c d=dI c d (x.li false)-dI c d (x.li true);rw[x.eZ];exact Int.neg_sub _ _|.m n x=>by show Int.ofNat n*x.ev c d=dI c d (sL n (x.li true).1,sL n (x.li true).2)-dI c d (sL n (x.li false).1,sL n (x.li false).2);rw[KD,KD,x.eZ];exact Int.mul_sub _ _ _
noncomputable def cI(x y:AI):List Nat×List Nat:=pL (x.li true) (y.li false)
noncomputable def xX(u:List Nat×List Nat):List Nat×List Nat:=(aL [1] u.1,u.2)
theorem KH(u:List Nat×List Nat):dI c d (xX u)=dI c d u+1:=by show((dt (1::c) (aL [1] u.1):Nat):Int)+eV d u.2=((dt (1::c) u.1:Nat):Int)+eV d u.2+1;rw[FZ,Kc,Int.add_right_comm];rfl
theorem KJ(x y:AI):dI c d (cI x y)-dI c d (cI y x)=x.ev c d-y.ev c d:=by unfold cI;rw[j9,j9,x.eZ,y.eZ,Zpr,Int.add_comm (dI c d (y.li true))]
theorem KN{x y:AI}(h:x.ev c d<=y.ev c d):dI c d (cI x y)<=dI c d (cI y x):=by have:=KJ c d x y;omega
theorem ZxT{x y:AI}(h:dI c d (cI x y)<=dI c d (cI y x)):x.ev c d<=y.ev c d:=by have:=KJ c d x y;omega
noncomputable def Zwy:Nat->Int->Int->Prop
 |0,x,y=>x<=y|1,x,y=>x<y|2,x,y=>x=y|3,x,y=>x=y
 |4,x,y=>¬x<=y|5,x,y=>¬x<y|_,_,_=>False
noncomputable def loI:Nat->AI->AI->List Nat×List Nat
 |0,x,y=>cI x y|1,x,y=>xX (cI x y)|2,x,y=>cI x y|4,x,y=>xX (cI y x)
 |_,x,y=>cI y x
noncomputable def hiI:Nat->AI->AI->List Nat×List Nat
 |0,x,y=>cI y x|1,x,y=>cI y x|2,x,y=>cI y x|_,x,y=>cI x y
theorem Ztg{x y:AI}(h:x.ev c d<y.ev c d):dI c d (xX (cI x y))<=dI c d (cI y x):=by have:=KJ c d x y;rw[KH];omega
theorem Zue(x y:AI):∀r,Zwy r (x.ev c d) (y.ev c d)->dI c d (loI r x y)<=dI c d (hiI r x y)
 |0,h=>KN c d h|1,h=>Ztg c d h|2,h=>KN c d (Fx h)|3,h=>KN c d (Fx h.symm)
 |4,h=>Ztg c d (Ao.1 h)|5,h=>KN c d (Rz.1 h)|_+6,h=>h.elim
end
noncomputable def cA:Nat->Nat->AI×Nat
 |0,s=>(.k 0,s)|f+1,s=>bif tD (s % 16) 7 then(.v (s % 16),s / 16)else bif iG (s % 16) 8 then(.c (bZ 9 (s / 16)).1,(bZ 9 (s / 16)).2)
  else bif iG (s % 16) 9 then(.g (cA f (s / 16)).1,(cA f (s / 16)).2)else bif iG (s % 16) 10 then(.k 1,s / 16)
  else bif iG (s % 16) 11 then(.k (s / 256 % 16^(s / 16 % 16)),s / 256 / 16^(s / 16 % 16))
  else bif iG (s % 16) 12 then(.a (cA f (s / 16)).1 (cA f (cA f (s / 16)).2).1,(cA f (cA f (s / 16)).2).2)
  else bif iG (s % 16) 13 then(.m (s / 16 % 256) (cA f (s / 4096)).1,(cA f (s / 4096)).2)
  else bif iG (s % 16) 14 then(.k 0,s / 16)else(.s (cA f (s / 16)).1 (cA f (cA f (s / 16)).2).1,(cA f (cA f (s / 16)).2).2)
def hP(c:List Nat)(d:List Int)(r s:Nat):Prop:=bif tD 8 r then Zwy (r-8) ((cA 9 s).1.ev c d) ((cA 9 (cA 9 s).2).1.ev c d)else FT r ((bZ 9 s).1.ev c) ((bZ 9 (bZ 9 s).2).1.ev c)
noncomputable def hR(r s:Nat):Nat:=bif tD 8 r then(cA 9 (cA 9 s).2).2 else(bZ 9 (bZ 9 s).2).2
noncomputable def hL(r s:Nat):List Nat×List Nat:=bif tD 8 r then loI (r-8) (cA 9 s).1 (cA 9 (cA 9 s).2).1 else(R7 r (bZ 9 s).1 (bZ 9 (bZ 9 s).2).1,[])
noncomputable def hH(r s:Nat):List Nat×List Nat:=bif tD 8 r then hiI (r-8) (cA 9 s).1 (cA 9 (cA 9 s).2).1 else(FW r (bZ 9 s).1 (bZ 9 (bZ 9 s).2).1,[])
theorem Zw5(c:List Nat)(d:List Int)(r s:Nat)(h:hP c d r s):dI c d (hL r s)<=dI c d (hH r s):=by
 unfold hP at h;unfold hL hH;cases e:tD 8 r<;>rw[e]at h
 .exact Int.add_le_add_right (Ak.2 (Zp8 c _ _ _ h)) _
 .exact Zue c d _ _ _ h
noncomputable def zL:List Nat->Bool
 |[]=>true|x::l=>iG x 0&&zL l
noncomputable def Sd:List Nat->List Nat->Bool
 |[],r=>zL r|x::l,[]=>iG x 0&&zL l|x::l,y::r=>iG x y&&Sd l r
theorem Sg:∀c l,zL l=true->eV c l=0
 |c,[],_=>oU c|[],x::l,_=>rfl|z::c,x::l,h=>by have h:=(Y9 _ _).mp h;show z*(x:Int)+eV c l=0;rw[Ae h.1,Sg c l h.2,Am];exact Ke z
theorem Zrr:∀c l r,Sd l r=true->eV c l=eV c r
 |c,[],r,h=>(oU c).trans (Sg c r h).symm|c,x::l,[],h=>(Sg c (x::l) h).trans (oU c).symm|[],x::l,y::r,_=>rfl|z::c,x::l,y::r,h=>by have h:=(Y9 _ _).mp h;show z*(x:Int)+eV c l=z*(y:Int)+eV c r;rw[Ae h.1,Zrr c l r h.2]
noncomputable def Aw(u w:List Nat×List Nat):Bool:=xW u.1 w.1&&Sd u.2 w.2
theorem Ga(c:List Nat)(d:List Int){u w:List Nat×List Nat}(h:Aw u w=true):dI c d u<=dI c d w:=by have h:=(Y9 _ _).mp h;exact Yl6 (Ak.2 (Av _ _ _ h.1)) (Fx (Zrr d _ _ h.2))
noncomputable def Sh(c:List Nat)(d:List Int):Nat->Nat->Prop
 |0,s=>hP c d (s % 16) (s / 16)|n+1,s=>hP c d (s / 16 % 16) (s / 256)->Sh c d n (hR (s / 16 % 16) (s / 256))
noncomputable def gI(r s:Nat)(L R:List Nat×List Nat):Bool:=bif iG r 0 then Aw (pL R ((bZ 9 s).1.li,[])) (pL L ((bZ 9 (bZ 9 s).2).1.li,[]))
 else bif iG r 1 then Aw (xX (pL R ((bZ 9 s).1.li,[]))) (pL L ((bZ 9 (bZ 9 s).2).1.li,[]))
 else bif iG r 8 then Aw (pL R (cI (cA 9 s).1 (cA 9 (cA 9 s).2).1)) (pL L (cI (cA 9 (cA 9 s).2).1 (cA 9 s).1))
 else bif iG r 9 then Aw (xX (pL R (cI (cA 9 s).1 (cA 9 (cA 9 s).2).1))) (pL L (cI (cA 9 (cA 9 s).2).1 (cA 9 s).1))
 else Aw (xX R) L
noncomputable def Sq:Nat->Nat->List Nat×List Nat->List Nat×List Nat->Bool
 |0,s,L,R=>gI (s % 16) (s / 16) L R|n+1,s,L,R=>Sq n (hR (s / 16 % 16) (s / 256)) (pL L (sL (s % 16) (hL (s / 16 % 16) (s / 256)).1,sL (s % 16) (hL (s / 16 % 16) (s / 256)).2)) (pL R (sL (s % 16) (hH (s / 16 % 16) (s / 256)).1,sL (s % 16) (hH (s / 16 % 16) (s / 256)).2))
theorem KQ(c:List Nat)(d:List Int)(e:AE):dI c d (e.li,[])=((e.ev c:Nat):Int):=by show((dt (1::c) e.li:Nat):Int)+eV d []=_;rw[oU,Am,e.eZ]
theorem ZqR{a b l r:Int}(h:l<=r)(e:r+a<=l+b):a<=b:=by omega
theorem ZpE{a b l r:Int}(h:l<=r)(e:r+a+1<=l+b):a<b:=by omega
theorem Zt0{l r:Int}(h:l<=r)(e:r+1<=l):False:=by omega
theorem ZxJ(c:List Nat)(d:List Int)(r s:Nat)(L R:List Nat×List Nat)(h:dI c d L<=dI c d R)(k:gI r s L R=true):hP c d r s:=by
 unfold gI at k;cases e0:iG r 0 with
 |true=>rw[Ae e0]at k ⊢;have e:=Ga c d k;rw[j9,j9,KQ,KQ]at e;exact Ak.1 (ZqR h e)|false=>
  cases e1:iG r 1 with
  |true=>rw[Ae e1]at k ⊢;have e:=Ga c d k;rw[KH,j9,j9,KQ,KQ]at e;exact Kf.1 (ZpE h e)|false=>
   cases e8:iG r 8 with
   |true=>rw[Ae e8]at k ⊢;have e:=Ga c d k;rw[j9,j9]at e;exact ZxT c d (ZqR h e)|false=>
    cases e9:iG r 9 with
    |true=>rw[Ae e9]at k ⊢;have e:=Ga c d k;rw[KH,j9,j9]at e;have z:=ZpE h e;have y:=KJ c d (cA 9 s).1 (cA 9 (cA 9 s).2).1;show(cA 9 s).1.ev c d<(cA 9 (cA 9 s).2).1.ev c d;exact Int.lt_of_sub_neg (y▸Int.sub_neg_of_lt z)|false=>rw[e0,e1,e8,e9]at k;have e:=Ga c d k;rw[KH]at e;exact(Zt0 h e).elim
theorem arI(c:List Nat)(d:List Int):∀(n s:Nat) (L R:List Nat×List Nat),dI c d L<=dI c d R->Sq n s L R=true->Sh c d n s
 |0,s,L,R,h,k=>ZxJ c d _ _ L R h k|n+1,s,L,R,h,k=>λg=>arI c d n _ _ _ (by rw[j9,j9,KD,KD];exact Yl6 h (Int.mul_le_mul_of_nonneg_left (Zw5 c d _ _ g) (Fv _))) k
end L3
theorem iN(c:List Nat)(d:List Int)(n s:Nat)(h:L3.Sq n s ([],[]) ([],[])=true):L3.Sh c d n s:=L3.arI c d n s ([],[]) ([],[]) (xV _) h
set_option Elab.async false
set_option linter.all false
set_option maxRecDepth 100000
namespace L2
open PySem PySem.Spec PyProof.Rows
noncomputable abbrev Key:=Sum Int aj
noncomputable def Ax:Key->Yd->Bool
 | .inl k,v=>Value.isInt k v|.inr x,v=>Ymi x v
noncomputable def Zzr(w:aU):Key->Int
 | .inl k=>hashInt k|.inr x=>hashStr w x
theorem tK:∀{k:Key} {v:Yd},Ax k v=true->(∃i t,k=Sum.inl i/\v=Value.int i t)\/(∃x t,k=Sum.inr x/\v=Value.str x t)
 | .inl i,v,h=>by obtain⟨t,e⟩:=Value.isInt_shape (k:=i) (v:=v) h;exact .inl ⟨i,t,rfl,e⟩|.inr x,v,h=>by obtain⟨t,e⟩:=Value.isStrOf_shape (x:=x) (v:=v) h;exact .inr ⟨x,t,rfl,e⟩
theorem Zoi(i:Int)(t:jx):Ax (.inl i) (.int i t)=true:=by simp[Ax,Value.isInt]
theorem ZoU(x:aj)(t:jx):Ax (.inr x) (.str x t)=true:=by simp[Ax,Ymi]
theorem ZvI(a b:Int):decide ((Sum.inl a:Key)=Sum.inl b)=(a==b):=by
 by_cases e:a=b
 .subst e;simp
 .have h:¬(Sum.inl a:Key)=Sum.inl b:=λq=>e (Sum.inl.inj q);rw[decide_eq_false h];exact(beq_eq_false_iff_ne.mpr e).symm
theorem ZvL(a b:aj):decide ((Sum.inr a:Key)=Sum.inr b)=decide (a=b):=by
 by_cases e:a=b
 .subst e;simp
 .have h:¬(Sum.inr a:Key)=Sum.inr b:=λq=>e (Sum.inr.inj q);rw[decide_eq_false h,decide_eq_false e]
theorem Zuy(a:Int)(b:aj):decide ((Sum.inl a:Key)=Sum.inr b)=false:=decide_eq_false (λq=>nomatch q)
theorem ZuF(a:aj)(b:Int):decide ((Sum.inr a:Key)=Sum.inl b)=false:=decide_eq_false (λq=>nomatch q)
noncomputable def dZ(prog:aX)(w:aU):PySem.KeyKind prog w Key where
 is:=Ax
 hash:=Zzr w
 inj:=λv a b ha hb=>by
  rcases tK ha with⟨i,t,rfl,rfl⟩|⟨x,t,rfl,rfl⟩
  .rcases tK hb with⟨j,u,rfl,e⟩|⟨y,u,rfl,e⟩
   .injection e with e1 _;rw[e1]
   .exact nomatch e
  .rcases tK hb with⟨j,u,rfl,e⟩|⟨y,u,rfl,e⟩
   .exact nomatch e
   .injection e with e1 _;rw[e1]
 byValue:=λk v h=>by rcases tK h with⟨i,t,rfl,rfl⟩|⟨x,t,rfl,rfl⟩<;>rfl
 pyHash:=λhv h=>by
  rcases tK hv with⟨i,t,rfl,rfl⟩|⟨x,t,rfl,rfl⟩
  .exact Yk1 h
  .exact Yk2 h
 eqBool:=λhu hv h=>by
  rcases tK hu with⟨i,t,rfl,rfl⟩|⟨x,t,rfl,rfl⟩
  .rcases tK hv with⟨j,u,rfl,rfl⟩|⟨y,u,rfl,rfl⟩
   .rw[ZvI]at h;exact wpAny_eqBool_int h
   .rw[Zuy]at h;exact RP i t y u _ _ _ _ h
  .rcases tK hv with⟨j,u,rfl,rfl⟩|⟨y,u,rfl,rfl⟩
   .rw[ZuF]at h;exact Ky x t j u _ _ _ _ h
   .rw[ZvL]at h;exact wpAny_eqBool_str h
 «strs»:=λk x t v h=>by
  rcases tK h with⟨i,u,rfl,e⟩|⟨y,u,rfl,e⟩
  .exact nomatch e
  .injection e with e1 _
   subst e1;cases v<;>rfl
theorem Zk6(prog:aX)(w:aU)(i:Int)(t:jx):(dZ prog w).is (.inl i) (.int i t)=true:=Zoi i t
theorem Zlo(prog:aX)(w:aU)(x:aj)(t:jx):(dZ prog w).is (.inr x) (.str x t)=true:=ZoU x t
end L2
namespace L2
open PySem PySem.Spec PyProof.Rows
inductive V where
 |non|bl (b:Bool)|int (i:Int)|str (x:aj)|Ay (b:Array UInt8)|flt (b:UInt64)|ref (a:Yn)|ty (n:String)
 deriving DecidableEq
noncomputable def RelV:V->Yd->Prop
 | .non,u=>u=Value.none|.bl b,u=>u=Value.bool b|.int i,u=>∃t,u=Value.int i t|.str x,u=>∃t,u=Value.str x t
 | .Ay b,u=>∃t,u=Value.bytes b t|.flt b,u=>∃t,u=Value.float b t|.ref a,u=>u=Value.ref a|.ty n,u=>u=Value.type n
noncomputable abbrev Vals:List V->List Yd->Prop:=Paired RelV
theorem Vals.length{xs:List V}{us:List Yd}(r:Vals xs us):xs.length=us.length:=RZ r
theorem Vals.get:∀{xs:List V} {us:List Yd} {i:Nat} {x:V},Vals xs us->xs[i]?=Ya x->∃u,us[i]?=Ya u/\RelV x u
 |_,_,_,_,.nil,e=>by simp at e|_,_,0,_,.cons r _,e=>by simp at e;subst e;exact⟨_,rfl,r⟩|_,_,i+1,x,.cons _ t,e=>by obtain⟨u,h1,h2⟩:=Vals.get (i:=i) (x:=x) t (by simpa using e);exact⟨u,by simpa using h1,h2⟩
theorem Vals.set{x:V}{u:Yd}(r:RelV x u):∀{xs:List V} {us:List Yd} (i:Nat),Vals xs us->Vals (xs.set i x) (us.set i u)
 |_,_,_,.nil=>.nil|_,_,0,.cons _ t=>.cons r t|_,_,i+1,.cons q t=>.cons q (Vals.set r i t)
theorem Vals.append:∀{xs ys:List V} {us ws:List Yd},Vals xs us->Vals ys ws->Vals (xs++ys) (us++ws)
 |_,_,_,_,.nil,s=>s|_,_,_,_,.cons r t,s=>.cons r (Vals.append t s)
theorem Vals.take:∀{xs:List V} {us:List Yd} (n:Nat),Vals xs us->Vals (xs.take n) (us.take n)
 |_,_,0,_=>.nil|_,_,_+1,.nil=>.nil|_,_,n+1,.cons r t=>.cons r (Vals.take n t)
theorem Vals.drop:∀{xs:List V} {us:List Yd} (n:Nat),Vals xs us->Vals (xs.drop n) (us.drop n)
 |_,_,0,r=>r|_,_,_+1,.nil=>.nil|_,_,n+1,.cons _ t=>Vals.drop n t
noncomputable def jy:Option V->Option Yd->Prop
 |some v,Ya u=>RelV v u|none,Yk=>True|_,_=>False
noncomputable def KV{κ:Type}:List (κ×V)->List (κ×Yd)->Prop:=Paired λ(p:κ×V) (q:κ×Yd)=>p.1=q.1/\RelV p.2 q.2
noncomputable def kV:Key->V
 | .inl i=>.int i|.inr x=>.str x
inductive HO where
 /--a list -/
 |lst (xs:List V)
 /--a tuple (never changes) -/
 |tup (xs:List V)
 /--a dict whose keys are ints and texts;one whose keys are tuples of ints and texts (the empty one is both) -/
 |dK (kvs:List (Key×V))|dT (kvs:List (List Key×V))
 /--a set of ints:its members,its size -/
 |set (S:Int->Bool) (n:Nat)
 /--an instance of the class at C,its dict at dx,its attributes -/
 |ins (C dx:Yn) (fs:List (aj×V))
 /--the dict of the instance at x -/
 |own (x:Yn)
 /--the dict of an exception -/
 |xd (fs:List (aj×V))
 /--a bound method,f of x -/
 |met (f x:Yn)
 /--a range object lo,lo+1,.. below hi -/
 |KR (lo hi:Int)
 /--a thing that is known to the object (the script;a dict while a loop walks it):read,never written while it is so -/
 |fQ (o:aB) (u:HO)
 /--a code object's table -/
 |vz (ps:Array Yd)
 /--any other thing,by what is true of its one object (a def of one's own:AfL a S n:=HO.ext λh=>..) -/
 |ext (φ:au->Prop)
noncomputable abbrev Hp:=Yn->Option HO
noncomputable def upd(H:Hp)(a:Yn)(o:HO):Hp:=λb=>if b=a then Ya o else H b
variable{H:Hp}{a:Yn}
theorem nJ{o:HO}:upd H a o a=Ya o:=by unfold upd;rw[if_pos rfl]
variable{b:Yn}
theorem dg{o:HO}(h:b≠a):upd H a o b=H b:=by unfold upd;rw[if_neg h]
theorem Zwp{o u:HO}(h:H a=Ya o)(h':H b=Ya u)(d:o≠u):a≠b:=by intro e;subst e;rw[h]at h';exact d (Y3 h')
theorem qP{o:HO}(h:H a=Ya o)(h':H b=Yk):a≠b:=by intro e;subst e;rw[h]at h';cases h'
section
variable (P:aX) (w:aU)
def oV(h:au)(a:Yn)(items:Array Yd):Prop:=∃o,h.get? a=Ya o/\(o.cls= .type "tuple" /\o.dict=Yk)/\∃n,o.data= .seq items n
theorem oV.tup{h:au}{a:Yn}{items:Array Yd}(x:oV h a items):xT h a items:=let⟨o,e,c,d⟩:=x;⟨o,e,c.1,d⟩
theorem oV.new(h:au)(items:Array Yd):oV (h.push {cls:=.type "tuple",data:=.seq items}) h.objs.size items:=⟨_,Y0 _ rfl,⟨rfl,rfl⟩,0,rfl⟩
noncomputable def fu(H:Hp)(h:au)(a:Yn):HO->Prop
 | .lst xs=>xs.length<=Y7/\∃(its:List Yd) (n:Nat),Vals xs its/\h.get? a=Ya {cls:=.type "list",data:=.seq its.toArray n}|.tup xs=>xs.length<=Y7/\∃its:List Yd,Vals xs its/\oV h a its.toArray|.dK kvs=>kvs.length<=Y7/\(a==qD)=false/\∃vs,KV kvs vs/\h.DictOf (dZ P w) a vs|.dT kvs=>kvs.length<=Y7/\(a==qD)=false/\∃xs:List (List Key×Yn×Yd),
   Paired (λ(p:List Key×V) (q:List Key×Yn×Yd)=>p.1=q.1/\H q.2.1=Ya (.tup (p.1.map kV))/\RelV p.2 q.2.2) kvs xs/\
   ∃o es ep,h.get? a=Ya o/\o.ExactDict/\o.data= .dict es ep/\es.toList=xs.map (entryOfKey (zQ (dZ P w)))/\(xs.map (·.1)).Nodup
 | .set S n=>h.SetOf (intKind P w) a S n|.ins C dx fs=>H dx=Ya (.own a)/\fs.length<=1000/\dx≠a/\h.get? a=Ya (uW C dx)/\
   ∃mA,h.Ns1 dx mA/\(∀f,jy (fs.lookup f) (mA f))/\Qz mA (fs.map (·.1))
 | .own _=>∃o,h.get? a=Ya o|.xd fs=>∃mA,h.Ns1 a mA/\∀f,jy (fs.lookup f) (mA f)|.KR lo hi=>∃t u v,h.get? a=Ya {cls:=.type "range",data:=.fields #[.int lo t,.int hi u,.int 1 v]}|.fQ o u=>h.get? a=Ya o/\fu H h a u
 | .vz ps=>h.get? a=Ya {cls:=.none,data:=.fields ps}|.met f x=>h.get? a=Ya (Q0 (.ref f) (.ref x))|.ext φ=>φ h/\(∃o,h.get? a=Ya o)/\∀h1 h2:au,φ h1->(∀o,h1.get? a=Ya o->h2.get? a=Ya o)->φ h2
def dO(H:Hp)(h:au):Prop:=∀a o,H a=Ya o->fu P w H h a o
end
section
variable {P:aX} {w:aU} {H H':Hp} {h h':au} {a:Yn} {o:HO}
theorem fu.lt(x:fu P w H h a o):a<h.objs.size:=by
 cases o with
 |lst xs=>obtain⟨_,_,_,_,e⟩:=x;exact Yp e|tup xs=>obtain⟨_,_,_,p⟩:=x;exact p.tup.lt|dK kvs=>obtain⟨_,_,_,_,o,_,_,e,_⟩:=x;exact Yp e|dT kvs=>obtain⟨_,_,_,_,o,_,_,e,_⟩:=x;exact Yp e
 |set S n=>obtain⟨o,_,_,_,e,_⟩:=x;exact Yp e|ins C dx fs=>obtain⟨_,_,_,e,_⟩:=x;exact Yp e|own y=>obtain⟨_,e⟩:=x;exact Yp e|xd fs=>obtain⟨_,⟨_,_,_,e,_⟩,_⟩:=x;exact Yp e
 |KR lo hi=>obtain⟨_,_,_,e⟩:=x;exact Yp e|fQ ob u=>obtain⟨e,_⟩:=x;exact Yp e|vz ps=>exact Yp (show h.get? a=Ya _ from x)|met f y=>exact Yp (show h.get? a=Ya _ from x)
 |ext φ=>obtain⟨_,⟨_,e⟩,_⟩:=x;exact Yp e
theorem Paired.PN{α β:Type}{F G:α->β->Prop}:∀{l₁:List α} {l₂:List β},Paired F l₁ l₂->(∀a b,F a b->G a b)->Paired G l₁ l₂
 |_,_,.nil,_=>.nil|_,_,.cons r t,f=>.cons (f _ _ r) (Paired.PN t f)
theorem fu.stay(x:fu P w H h a o)(k:∀b u,(b=a\/H b=Ya (.own a))->h.get? b=Ya u->h'.get? b=Ya u)(ho:∀b,H b=Ya (.own a)->H' b=Ya (.own a))(ht:∀b xs,H b=Ya (.tup xs)->H' b=Ya (.tup xs)):fu P w H' h' a o:=by
 induction o with
 |lst xs=>obtain⟨z,its,n,r,e⟩:=x;exact⟨z,its,n,r,k _ _ (.inl rfl) e⟩|tup xs=>obtain⟨z,its,r,ob,e,c⟩:=x;exact⟨z,its,r,ob,k _ _ (.inl rfl) e,c⟩|dK kvs=>obtain⟨z,y,vs,r,ob,es,ep,e,c⟩:=x;exact⟨z,y,vs,r,ob,es,ep,k _ _ (.inl rfl) e,c⟩|dT kvs=>obtain⟨z,y,xs,r,ob,es,ep,e,c⟩:=x;exact⟨z,y,xs,Paired.PN r λp q z=>⟨z.1,ht _ _ z.2.1,z.2.2⟩,ob,es,ep,k _ _ (.inl rfl) e,c⟩
 |set S n=>obtain⟨ob,es,ep,t,e,c⟩:=x;exact⟨ob,es,ep,t,k _ _ (.inl rfl) e,c⟩|ins C dx fs=>obtain⟨d,z,ne,e,mA,⟨od,es,ep,e2,c⟩,r⟩:=x;exact⟨ho _ d,z,ne,k _ _ (.inl rfl) e,mA,⟨od,es,ep,k _ _ (.inr d) e2,c⟩,r⟩
 |own y=>obtain⟨ob,e⟩:=x;exact⟨ob,k _ _ (.inl rfl) e⟩|xd fs=>obtain⟨mA,⟨od,es,ep,e,c⟩,r⟩:=x;exact⟨mA,⟨od,es,ep,k _ _ (.inl rfl) e,c⟩,r⟩|KR lo hi=>obtain⟨t,u,v,e⟩:=x;exact⟨t,u,v,k _ _ (.inl rfl) e⟩|fQ ob u ih=>obtain⟨e,q⟩:=x;exact⟨k _ _ (.inl rfl) e,ih q⟩
 |vz ps=>have e:h.get? a=Ya {cls:=.none,data:=.fields ps}:=x;show h'.get? a=Ya {cls:=.none,data:=.fields ps};exact k a _ (.inl rfl) e|met f y=>have e:h.get? a=Ya (Q0 (.ref f) (.ref y)):=x;show h'.get? a=Ya (Q0 (.ref f) (.ref y));exact k a _ (.inl rfl) e|ext φ=>obtain⟨p,⟨o,e⟩,st⟩:=x;exact⟨st _ _ p λo q=>k _ _ (.inl rfl) q,⟨o,k _ _ (.inl rfl) e⟩,st⟩
theorem dO.lt(x:dO P w H h)(e:H a=Ya o):a<h.objs.size:=(x a o e).lt
theorem dO.fresh(x:dO P w H h)(e:h.objs.size<=a):H a=Yk:=by
 cases q:H a with
 |none=>rfl|some u=>exact absurd (Yo (x.lt q) e) (pQ _)
theorem dO.kept(x:dO P w H h)(k:∀b u,h.get? b=Ya u->h'.get? b=Ya u):dO P w H h':=λa o e=>(x a o e).stay (λb u _ q=>k b u q) (λ_ q=>q) λ_ _ q=>q
theorem dO.laid(x:dO P w H h)(k:∀b u,h.get? b=Ya u->h'.get? b=Ya u)(hp:h.objs.size<=a)(new:fu P w (upd H a o) h' a o):dO P w (upd H a o) h':=λb u e=>by
 have hn:=x.fresh hp;by_cases hb:b=a
 .subst hb;rw[nJ]at e;cases e;exact new
 .rw[dg hb]at e;exact(x b u e).stay (λc v _ q=>k c v q) (λc q=>by rw[dg (qP q hn)];exact q) λc xs q=>by rw[dg (qP q hn)];exact q
end
def Rd(H:Hp)(a:Yn)(u:HO):Prop:=H a=Ya u\/∃o,H a=Ya (.fQ o u)
theorem Rd.ok{P:aX}{w:aU}{h:au}{u:HO}(r:Rd H a u)(x:dO P w H h):fu P w H h a u:=by
 rcases r with r|⟨o,r⟩
 .exact x a u r
 .obtain⟨_,q⟩:=x a _ r;exact q
noncomputable def Gb:Option HO->Prop
 |some (.lst _)=>True|some (.dK _)=>True|some (.dT _)=>True|some (.set _ _)=>True
 |some (.ins _ _ _)=>True|some (.ext _)=>True|_=>False
section
variable {P:aX} {w:aU} {H:Hp} {h h':au} {x e:Yn} {o':HO}
theorem dO.write(ok:dO P w H h)(mu:Gb (H x))(he:e=x\/H e=Ya (.own x))(k:∀b u,b≠e->h.get? b=Ya u->h'.get? b=Ya u)(heo:∃u,h'.get? e=Ya u)(new:fu P w (upd H x o') h' x o'):dO P w (upd H x o') h':=λb u q=>by
 have YT:∀c y,H c=Ya (.own y)->c≠x:=λc y r z=>by subst z;rw[r]at mu;exact mu
 have Ac7:∀c xs,H c=Ya (.tup xs)->c≠x:=λc xs r z=>by subst z;rw[r]at mu;exact mu
 by_cases hb:b=x
 .subst hb;rw[nJ]at q;cases q;exact new
 .rw[dg hb]at q;by_cases hbe:b=e
  .have q':H b=Ya (.own x):=by
    rcases he with z|z
    .exact absurd (hbe.trans z) hb
    .rw[hbe];exact z
   rw[q]at q';cases q';obtain⟨v,hv⟩:=heo;exact⟨v,by rw[hbe];exact hv⟩
  .refine(ok b u q).stay (λc v hc r=>k c v ?_ r) (λc r=>by rw[dg (YT c b r)];exact r) λc xs r=>by rw[dg (Ac7 c xs r)];exact r
   rcases hc with rfl|hc
   .exact hbe
   .rintro rfl;rcases he with z|z
    .exact YT c b hc z
    .rw[hc]at z;cases z;exact hb rfl
end
structure Un(fs ex:List Yn)(H H':Hp)(h h':au):Prop where
 keep:∀b o,h.get? b=Ya o->H b=Yk->b∉fs->b∉ex->h'.get? b=Ya o
 slot:∀b o,h.get? b=Ya o->H b=Yk->b∈fs->b∉ex->∃sl,h'.get? b=Ya {o with slots:=sl}
 free:∀b o,h.get? b=Ya o->H b=Yk->b∉ex->H' b=Yk
 there:∀b o,h.get? b=Ya o->b∉ex->∃o',h'.get? b=Ya o'
 tups:∀b xs,H b=Ya (.tup xs)->H' b=Ya (.tup xs)
 lq:∀b o u,H b=Ya (.fQ o u)->H' b=Ya (.fQ o u)
 mq:∀b ps,H b=Ya (.vz ps)->∃more,H' b=Ya (.vz (ps++more))
section
variable {fs fs' ex ex':List Yn} {H H1 H2:Hp} {h h1 h2 h':au} {a x e:Yn} {o:HO}
theorem Un.any(u:Un fs ex H H1 h h1){ob:aB}(q:h.get? b=Ya ob)(n:H b=Yk)(hx:b∉ex):∃sl,h1.get? b=Ya {ob with slots:=sl}:=by
 by_cases hb:b∈fs
 .exact u.slot b ob q n hb hx
 .exact⟨ob.slots,u.keep b ob q n hb hx⟩
theorem Un.trans(a:Un fs ex H H1 h h1)(b:Un fs ex H1 H2 h1 h2):Un fs ex H H2 h h2 where
 keep:=λc ob q n hc hx=>b.keep c ob (a.keep c ob q n hc hx) (a.free c ob q n hx) hc hx
 slot:=λc ob q n hc hx=>by obtain⟨sl,e1⟩:=a.slot c ob q n hc hx;obtain⟨sl',e2⟩:=b.slot c _ e1 (a.free c ob q n hx) hc hx;exact⟨sl',e2⟩
 free:=λc ob q n hx=>by obtain⟨o',e1⟩:=a.there c ob q hx;exact b.free c o' e1 (a.free c ob q n hx) hx
 there:=λc ob q hx=>by obtain⟨o',e1⟩:=a.there c ob q hx;exact b.there c o' e1 hx
 tups:=λc xs q=>b.tups c xs (a.tups c xs q)
 lq:=λc ob xs q=>b.lq c ob xs (a.lq c ob xs q)
 mq:=λc ps q=>by obtain⟨m1,e1⟩:=a.mq c ps q;obtain⟨m2,e2⟩:=b.mq c _ e1;exact⟨m1++m2,by rw[e2,Yjs]⟩
theorem Un.kept(k:∀b u,h.get? b=Ya u->h'.get? b=Ya u):Un fs ex H H h h':=⟨λb ob q _ _ _=>k b ob q,λb ob q _ _ _=>⟨ob.slots,k b ob q⟩,λ_ _ _ n _=>n,λb ob q _=>⟨ob,k b ob q⟩,λ_ _ q=>q,λ_ _ _ q=>q,λ_ ps q=>⟨#[],by rw[q];simp⟩⟩
theorem Un.refl:Un fs ex H H h h:=Un.kept λ_ _ q=>q
theorem Un.laid(k:∀b u,h.get? b=Ya u->h'.get? b=Ya u)(hp:h.objs.size<=a)(hn:H a=Yk):Un fs ex H (upd H a o) h h' where
 keep:=λb u q _ _ _=>k b u q
 slot:=λb u q _ _ _=>⟨u.slots,k b u q⟩
 free:=λb u q n _=>by rw[dg (Y6 (Yo (Yp q) hp))];exact n
 there:=λb u q _=>⟨u,k b u q⟩
 tups:=λb xs q=>by rw[dg (qP q hn)];exact q
 lq:=λb u xs q=>by rw[dg (qP q hn)];exact q
 mq:=λb ps q=>⟨#[],by rw[dg (qP q hn),q];simp⟩
theorem Un.write(mu:Gb (H x))(he:e=x\/H e=Ya (.own x))(k:∀b u,b≠e->h.get? b=Ya u->h'.get? b=Ya u)(heo:∃u,h'.get? e=Ya u):Un fs ex H (upd H x o) h h':=by
 have hx:∀b,H b=Yk->b≠x:=λb n z=>by subst z;rw[n]at mu;exact mu
 have hb:∀b,H b=Yk->b≠e:=λb n z=>by
  subst z;rcases he with r|r
  .exact hx b n r
  .rw[n]at r;cases r
 have hm:∀b u,H b=Ya u->¬Gb (Ya u)->b≠x:=λb u q nm z=>by subst z;rw[q]at mu;exact nm mu
 refine⟨λb u q n _ _=>k b u (hb b n) q,λb u q n _ _=>⟨u.slots,k b u (hb b n) q⟩,λb u q n _=>by rw[dg (hx b n)];exact n,λb u q _=>?_,
  λb xs q=>by rw[dg (hm b _ q λz=>z)];exact q,λb u xs q=>by rw[dg (hm b _ q λz=>z)];exact q,λb ps q=>⟨#[],by rw[dg (hm b _ q λz=>z),q];simp⟩⟩
 by_cases hbe:b=e
 .subst hbe;exact heo
 .exact⟨u,k b u hbe q⟩
end
noncomputable def vA(h:au)(H:Hp):List Yn:=(dN h.objs.size).filter λa=>(H a).isSome
noncomputable def tL(h:au)(H:Hp):au:=nA h (vA h H)
theorem Zod(h:au)(H:Hp):(tL h H).objs.size=h.objs.size:=PySem.W.hideAll_size _ _
theorem Zqg{h:au}{o:aB}(e:h.get? b=Ya o)(n:H b=Yk):(tL h H).get? b=Ya o:=zY _ e λhm=>by have q:(H b).isSome=true:=(Ylj.mp hm).2;rw[n]at q;simp at q
theorem Zte{h:au}{o:aB}(e:(tL h H).get? b=Ya o):h.get? b=Ya o/\H b=Yk:=by
 have e':h.get? b=Ya o:=JL (vA h H) e;refine⟨e',?_⟩;cases q:H b with
 |none=>rfl|some x=>have hm:b∈vA h H:=Ylj.mpr ⟨Ab.mpr (Yp e'),by simp[q]⟩;have z:(tL h H).get? b=Yk:=Yis (vA h H) hm;rw[z]at e;cases e
noncomputable def ZsD(g h:au)(L:Yn):List (Yn×aB):=(dN h.objs.size).filterMap λa=>if a=L\/(g.get? a).isSome=true then Yk else(h.get? a).map λo=>(a,o)
noncomputable def rest(g h:au)(L d:Yn):List (Yn×aB):=(ZsD g h L).filter λp=>decide (p.1≠d)
end L2
namespace L2
open PySem PySem.Spec PyProof.Rows
structure Mod(K:Yc)(mg:aj->Option Yd)(base:au):Prop where
 tM:K.In base
 glob:base.Ns Y1 mg
 blt:∃mb,base.Ns QJ mb/\∀x:aj,x≠ "__name__" ->mb x=jl x
 nolimit:base.NoLimit
/--the context:a def's body (or a comprehension's block) running. base:fixed through the whole law;s₀,H₀:the entry;outer:the frames whose slots others may change(a def's callers);stack:all frames that run;
  ex:iterators that were made ahead of the entry and are walked here (a comprehension's);fn:the names whose cells were made at the entry (a def:all;a comprehension's block:its own);calm:not within an except suite;pn:pins that every state bears;xe:what is wanted of an exception that leaves the code -/
structure Cx where
 prog:aX
 w:aU
 K:Yc
 mg:aj->Option Yd
 base:au
 A:bB
 N:List aj
 s₀:Yg
 H₀:Hp
 env:cQ
 outer:List cQ
 stack:List cQ
 ex:List Yn
 fn:aj->Bool
 calm:Bool
 pn:List (Yn×aB)
 xe:Yd->Yg->Prop
noncomputable def frs(l:List cQ):List Yn:=l.filterMap (·.frame)
noncomputable abbrev Cx.fs(X:Cx):List Yn:=frs X.outer
def Gd(sc:Scope)(x:aj):Prop:=sc.names.lookup x=Ya .local\/sc.names.lookup x=Ya .cell\/sc.names.lookup x=Ya .free
def Loc(sc:Scope)(x:aj):Prop:=sc.names.lookup x=Ya .local\/sc.names.lookup x=Ya .cell
def Look(env:cQ)(h:au)(m:aj->Option Yd)(x:aj)(u:Yd):Prop:=(env.kindOf x=Ya .local/\m x=Ya u)\/((env.kindOf x=Ya .cell\/env.kindOf x=Ya .free)/\∃c,env.cells.lookup x=Ya c/\h.IsCell c (Ya u))
structure Cx.Ok(X:Cx):Prop where
 mod:Mod X.K X.mg X.base
 kind:X.env.scope.kind= .function
 glob:X.env.globals=Y1
 blt:X.env.builtins=QJ
 above:X.s₀.heap.objs.size<=X.env.locals
 inj:∀x y c,X.env.cells.lookup x=Ya c->X.env.cells.lookup y=Ya c->x=y
 has:∀x,(X.env.kindOf x=Ya .cell\/X.env.kindOf x=Ya .free)->∃c,X.env.cells.lookup x=Ya c
 cab:∀x c,X.fn x=true->X.env.cells.lookup x=Ya c->X.s₀.heap.objs.size<=c
 hd:X.calm=true->X.A.handled=Yk
 frames:X.A.frames=Ya X.stack
 Az:X.stack=X.outer\/(X.stack=X.env::X.outer/\X.env.frame=Ya X.env.locals)
 A_:∀b∈X.ex,b≠X.env.locals/\∀x c,X.env.cells.lookup x=Ya c->c≠b
 bs:∀b o,X.base.get? b=Ya o->X.s₀.heap.get? b=Ya o/\X.H₀ b=Yk
 nO:X.base.objs.size<=X.s₀.heap.objs.size
 wV:∀b o,X.base.get? b=Ya o->b∉X.ex
 uI:∀b∈X.ex,b∉X.fs
 j6:X.s₀.heap.FunFrames X.base X.outer
 pR:∀b∈X.fs,X.H₀ b=Yk
structure Inv(X:Cx)(pins:List (Yn×aB))(σ:List (Option V))(H:Hp)(s:Yg):Prop where
 ok:X.Ok
 os:s.os=X.s₀.os
 bare:qL s.gens
 base:Un X.fs X.ex X.H₀ H X.s₀.heap s.heap
 loc:∃m,s.heap.Ns X.env.locals m/\∀(i:Nat) (x:aj) (v:V),X.N[i]?=Ya x->σ[i]?=Ya (Ya v)->Gd X.env.scope x->∃u,RelV v u/\Look X.env s.heap m x u
 cell:∀x c,X.env.cells.lookup x=Ya c->∃v,s.heap.IsCell c v
 free:H X.env.locals=Yk
 j5:∀x c,X.env.cells.lookup x=Ya c->H c=Yk
 pin:∀p∈X.pn++pins,s.heap.get? p.1=Ya p.2/\H p.1=Yk/\p.1≠X.env.locals/\p.1∉X.fs/\∀v,p.2.data≠ .cell v
 hok:dO X.prog X.w H s.heap
 len:σ.length=X.N.length
variable{E:Yd->Yg->Prop}{t':Nat}{ch:List Yn}
section
variable {X:Cx} {pins:List (Yn×aB)} {σ:List (Option V)} {H H':Hp} {s:Yg} {h':au}
theorem Cx.Ok.Ac8(ok:X.Ok){b:Yn}{o:aB}(e:X.base.get? b=Ya o):b∉X.fs:=λhb=>by have:=(ok.j6.mem hb).1;rw[e]at this;cases this
theorem Inv.bs(I:Inv X pins σ H s):∀b o,X.base.get? b=Ya o->s.heap.get? b=Ya o/\H b=Yk:=λb o e=>⟨I.base.keep b o (I.ok.bs b o e).1 (I.ok.bs b o e).2 (I.ok.Ac8 e) (I.ok.wV b o e),I.base.free b o (I.ok.bs b o e).1 (I.ok.bs b o e).2 (I.ok.wV b o e)⟩
theorem Inv.bk(I:Inv X pins σ H s):∀b o,X.base.get? b=Ya o->s.heap.get? b=Ya o:=λb o e=>(I.bs b o e).1
theorem Inv.mod(I:Inv X pins σ H s):Mod X.K X.mg X.base:=I.ok.mod
theorem Inv.dw(I:Inv X pins σ H s):X.K.In s.heap:=I.ok.mod.tM.keeps I.bk
theorem Inv.nolimit(I:Inv X pins σ H s):s.heap.NoLimit:=I.ok.mod.nolimit.keeps I.bk
theorem Inv.fr(I:Inv X pins σ H s):∃m,Fr X.base X.env.locals s.heap m:=
 let⟨m,hn,_⟩:=I.loc
 ⟨m,hn,I.bk,Yu I.ok.nO I.ok.above⟩
theorem Inv.lt(I:Inv X pins σ H s):X.env.locals<s.heap.objs.size:=let⟨_,hn,_⟩:=I.loc;hn.lt
theorem Inv.sz(I:Inv X pins σ H s):X.s₀.heap.objs.size<=s.heap.objs.size:=Yu I.ok.above (xR I.lt)
theorem Inv.Ac9(I:Inv X pins σ H s){a:Yn}(h:s.heap.objs.size<=a):a∉X.fs:=λhb=>by obtain⟨_,o,ho,_⟩:=I.ok.j6.mem hb;exact absurd (Yo (Yp ho) (Yu I.sz h)) (pQ _)
theorem Inv.vB(I:Inv X pins σ H s):∀x c,X.env.cells.lookup x=Ya c->c≠X.env.locals:=λx c e z=>by obtain⟨v,o,ho,hd⟩:=I.cell x c e;obtain⟨m,⟨o',es,ep,ho',hd',_⟩,_⟩:=I.loc;rw[z,ho']at ho;cases ho;rw[hd']at hd;cases hd
theorem Inv.j6(I:Inv X pins σ H s):s.heap.FunFrames X.base X.outer:=by
 have all:∀(l:List cQ),(∀b∈frs l,b∈X.fs)->X.s₀.heap.FunFrames X.base l->s.heap.FunFrames X.base l:=by
  intro l
  induction l with
  |nil=>intro _ _;trivial|cons env r ih=>intro hs hl;obtain⟨hk,⟨L,o,hf,hn,ho,hd⟩,hr⟩:=hl;have hL:L∈X.fs:=hs L (by unfold frs;rw[Fg,hf];exact Yz);obtain⟨sl,e⟩:=I.base.slot L o ho (I.ok.pR L hL) hL λz=>I.ok.uI L z hL;exact⟨hk,⟨L,_,hf,hn,e,hd⟩,ih (λb hb=>hs b (by unfold frs;rw[Fg,hf];exact Yq _ hb)) hr⟩
 exact all X.outer (λ_ hb=>hb) I.ok.j6
theorem Inv.stack(I:Inv X pins σ H s):s.heap.FunFrames X.base X.stack:=by
 rcases I.ok.Az with e|⟨e,hf⟩
 .rw[e];exact I.j6
 .rw[e];obtain⟨m,hn,_⟩:=I.loc;refine .cons (by rw[I.ok.kind];decide) hf hn ?_ I.j6;exact Heap.get?_none_of_le (Yu I.ok.nO I.ok.above)
theorem Inv.uG(I:Inv X pins σ H s):∀b∈frs X.stack,b∈X.env.locals::X.fs:=λb hb=>by
 rcases I.ok.Az with e|⟨e,hf⟩
 .rw[e]at hb;exact Yq _ hb
 .rw[e]at hb;unfold frs at hb;rw[Fg,hf]at hb;exact hb
theorem Inv.Pn(I:Inv X pins σ H s):∀b∈frs X.stack,H b=Yk:=λb hb=>by
 rcases fj.mp (I.uG b hb)with e|hb
 .rw[e];exact I.free
 .obtain⟨_,o,ho,_⟩:=I.ok.j6.mem hb;exact I.base.free b o ho (I.ok.pR b hb) λz=>I.ok.uI b z hb
theorem Inv.step{g':Array GenState}{d':Drawn}(I:Inv X pins σ H s)(hch:∀b∈ch,(b∈X.ex\/X.s₀.heap.objs.size<=b)/\b≠X.env.locals/\(∀x c,X.env.cells.lookup x=Ya c->c≠b)/\∀p∈X.pn++pins,p.1≠b)(keep:∀b o,b≠X.env.locals->b∉X.fs->b∉ch->s.heap.get? b=Ya o->H b=Yk->h'.get? b=Ya o)(slot:∀b o,b≠X.env.locals->b∈X.fs->b∉ch->s.heap.get? b=Ya o->H b=Yk->∃sl,h'.get? b=Ya {o with slots:=sl})(free:∀b o,b∉ch->s.heap.get? b=Ya o->H b=Yk->H' b=Yk)(there:∀b o,b∉ch->s.heap.get? b=Ya o->∃o',h'.get? b=Ya o')(tups:∀b xs,H b=Ya (.tup xs)->H' b=Ya (.tup xs))(lq:∀b o u,H b=Ya (.fQ o u)->H' b=Ya (.fQ o u))(mq:∀b ps,H b=Ya (.vz ps)->∃more,H' b=Ya (.vz (ps++more)))(ns:∀m,s.heap.Ns X.env.locals m->h'.Ns X.env.locals m)(hok:dO X.prog X.w H' h')(hg:qL g'):
  Inv X pins σ H' {s with heap:=h',gens:=g',drawn:=d',toks:=t'}:=by
 have neL:∀b o,X.s₀.heap.get? b=Ya o->b≠X.env.locals:=λb o e=>Y6 (Yo (Yp e) I.ok.above);have KY:∀b o,X.s₀.heap.get? b=Ya o->b∉X.ex->b∉ch:=λb o e hx hb=>by
  rcases(hch b hb).1 with z|z
  .exact hx z
  .exact absurd (Yo (Yp e) z) (pQ _)
 have cellK:∀x c,X.env.cells.lookup x=Ya c->∀v,s.heap.IsCell c v->h'.IsCell c v:=λx c e v ak=>by
  obtain⟨o,ho,hd⟩:=ak;have Ge:c∉ch:=λz=>(hch c z).2.2.1 x c e rfl;by_cases hc:c∈X.fs
  .obtain⟨sl,q⟩:=slot c o (I.vB x c e) hc Ge ho (I.j5 x c e);exact⟨_,q,hd⟩
  .exact⟨o,keep c o (I.vB x c e) hc Ge ho (I.j5 x c e),hd⟩
 refine⟨I.ok,I.os,hg,⟨λb o e n hb hx=>?_,λb o e n hb hx=>?_,λb o e n hx=>?_,λb o e hx=>?_,λb xs e=>tups b xs (I.base.tups b xs e),λb o xs e=>lq b o xs (I.base.lq b o xs e),λb ps e=>?_⟩,?_,λx c e=>?_,?_,λx c e=>?_,λp hp=>?_,hok,I.len⟩
 .exact keep b o (neL b o e) hb (KY b o e hx) (I.base.keep b o e n hb hx) (I.base.free b o e n hx)
 .obtain⟨sl,e1⟩:=I.base.slot b o e n hb hx;obtain⟨sl',e2⟩:=slot b _ (neL b o e) hb (KY b o e hx) e1 (I.base.free b o e n hx);exact⟨sl',e2⟩
 .obtain⟨o',e1⟩:=I.base.there b o e hx;exact free b o' (KY b o e hx) e1 (I.base.free b o e n hx)
 .obtain⟨o',e1⟩:=I.base.there b o e hx;exact there b o' (KY b o e hx) e1
 .obtain⟨m1,e1⟩:=I.base.mq b ps e;obtain⟨m2,e2⟩:=mq b _ e1;exact⟨m1++m2,by rw[e2,Yjs]⟩
 .obtain⟨m,hn,hl⟩:=I.loc;refine⟨m,ns m hn,λi x v e1 e2 e3=>?_⟩;obtain⟨u,r,l⟩:=hl i x v e1 e2 e3;refine⟨u,r,?_⟩;rcases l with l|⟨k,c,e,z⟩
  .exact .inl l
  .exact .inr ⟨k,c,e,cellK x c e _ z⟩
 .obtain⟨v,z⟩:=I.cell x c e;exact⟨v,cellK x c e v z⟩
 .obtain⟨m,⟨o,_,_,ho,_⟩,_⟩:=I.loc;exact free _ o (λz=>(hch _ z).2.1 rfl) ho I.free
 .obtain⟨v,o,ho,hd⟩:=I.cell x c e;exact free c o (λz=>(hch c z).2.2.1 x c e rfl) ho (I.j5 x c e)
 .obtain⟨e,n,ne,nf,d⟩:=I.pin p hp;have Ge:p.1∉ch:=λz=>(hch p.1 z).2.2.2 p hp rfl;exact⟨keep p.1 p.2 ne nf Ge e n,free p.1 p.2 Ge e n,ne,nf,d⟩
theorem Inv.un(I:Inv X pins σ H s)(u:Un X.fs [] H H' s.heap h')(hok:dO X.prog X.w H' h'):Inv X pins σ H' {s with heap:=h',toks:=t'}:=by obtain⟨m,⟨o,es,ep,ho,r⟩,_⟩:=id I.loc;obtain⟨sl,hL⟩:=u.any ho I.free (by simp);exact I.step (g':=s.gens) (d':=s.drawn) (ch:=[]) (λ_ z=>nomatch z) (λb o _ hb _ e n=>u.keep b o e n hb (by simp)) (λb o _ hb _ e n=>u.slot b o e n hb (by simp)) (λb o _ e n=>u.free b o e n (by simp)) (λb o _ e=>u.there b o e (by simp)) u.tups u.lq u.mq (λm' hm=>by obtain⟨o',es',ep',ho',r'⟩:=hm;rw[ho]at ho';cases ho';exact⟨_,es',ep',hL,r'⟩) hok I.bare
theorem Inv.call{g':Array GenState}{d':Drawn}(I:Inv X pins σ H s)(u:Un (frs X.stack) ch H H' s.heap h')(hok:dO X.prog X.w H' h')(hg:qL g')(hch:∀b∈ch,(b∈X.ex\/X.s₀.heap.objs.size<=b)/\b≠X.env.locals/\(∀x c,X.env.cells.lookup x=Ya c->c≠b)/\∀p∈X.pn++pins,p.1≠b):
  Inv X pins σ H' {s with heap:=h',gens:=g',drawn:=d',toks:=t'}:=by
 obtain⟨m,⟨o,es,ep,ho,r⟩,_⟩:=id I.loc;obtain⟨sl,hL⟩:=u.any ho I.free λz=>(hch _ z).2.1 rfl;exact I.step (ch:=ch) hch (λb o hL hb hc e n=>u.keep b o e n (λz=>(fj.mp (I.uG b z)).elim hL hb) hc) (λb o _ _ hc e n=>u.any e n hc) (λb o hc e n=>u.free b o e n hc) (λb o hc e=>u.there b o e hc) u.tups u.lq u.mq (λm' hm=>by obtain⟨o',es',ep',ho',r'⟩:=hm;rw[ho]at ho';cases ho';exact⟨_,es',ep',hL,r'⟩) hok hg
theorem Inv.turned{it:Yn}(I:Inv X pins σ H s)(k:∀b o,b≠it->s.heap.get? b=Ya o->h'.get? b=Ya o)(hn:H it=Yk)(hL:it≠X.env.locals)(h1:it∈X.ex\/X.s₀.heap.objs.size<=it)(h2:∀x c,X.env.cells.lookup x=Ya c->c≠it)(h3:∀p∈X.pn++pins,p.1≠it):Inv X pins σ H {s with heap:=h',toks:=t'}:=by
 have Gf:∀b u,H b=Ya u->b≠it:=λb u e z=>by rw[z,hn]at e;cases e
 refine I.step (g':=s.gens) (d':=s.drawn) (ch:=[it]) (λb hb=>?_) (λb o _ _ hc e _=>k b o (λz=>hc (by simp[z])) e) (λb o _ _ hc e _=>⟨o.slots,k b o (λz=>hc (by simp[z])) e⟩) (λ_ _ _ _ n=>n)
  (λb o hc e=>⟨o,k b o (λz=>hc (by simp[z])) e⟩) (λ_ _ e=>e) (λ_ _ _ e=>e) (λb ps e=>⟨#[],by rw[e];simp⟩) (λm hm=>?_) (λb u e=>?_) I.bare
 .have e:b=it:=by simpa using hb
  subst e;exact⟨h1,hL,h2,h3⟩
 .obtain⟨o,es,ep,ho,r⟩:=hm;exact⟨o,es,ep,k _ o (bK hL) ho,r⟩
 .refine(I.hok b u e).stay (λc v hc q=>k c v ?_ q) (λ_ q=>q) λ_ _ q=>q;rcases hc with z|z
  .rw[z];exact Gf b u e
  .exact Gf c _ z
theorem Inv.tok(I:Inv X pins σ H s)(t:Nat):Inv X pins σ H {s with toks:=t}:=I.un (h':=s.heap) (t':=t) Un.refl I.hok
theorem Inv.kept(I:Inv X pins σ H s)(k:∀b u,s.heap.get? b=Ya u->h'.get? b=Ya u):Inv X pins σ H {s with heap:=h',toks:=t'}:=I.un (Un.kept k) (I.hok.kept k)
theorem Inv.laid{a:Yn}{o:HO}(I:Inv X pins σ H s)(k:∀b u,s.heap.get? b=Ya u->h'.get? b=Ya u)(hp:s.heap.objs.size<=a)(new:fu X.prog X.w (upd H a o) h' a o):
  Inv X pins σ (upd H a o) {s with heap:=h',toks:=t'}:=I.un (Un.laid k hp (I.hok.fresh hp)) (I.hok.laid k hp new)
theorem Inv.write{x e:Yn}{o:HO}(I:Inv X pins σ H s)(mu:Gb (H x))(he:e=x\/H e=Ya (.own x))(k:∀b u,b≠e->s.heap.get? b=Ya u->h'.get? b=Ya u)(heo:∃u,h'.get? e=Ya u)(new:fu X.prog X.w (upd H x o) h' x o):Inv X pins σ (upd H x o) {s with heap:=h',toks:=t'}:=I.un (Un.write mu he k heo) (I.hok.write mu he k heo new)
theorem Inv.X8{qw:List (Yn×aB)}(I:Inv X pins σ H s)(h:∀p∈qw,s.heap.get? p.1=Ya p.2/\H p.1=Yk/\p.1≠X.env.locals/\p.1∉X.fs/\∀v,p.2.data≠ .cell v):Inv X qw σ H s:=⟨I.ok,I.os,I.bare,I.base,I.loc,I.cell,I.free,I.j5,λp hp=>(sX.mp hp).elim (λz=>I.pin p (z8 _ z)) (h p),I.hok,I.len⟩
theorem Ss{N:List aj}(hN:N.Nodup){i j:Nat}{x:aj}(a:N[i]?=Ya x)(b:N[j]?=Ya x):i=j:=by obtain⟨h1,e1⟩:=Ye.mp a;obtain⟨h2,e2⟩:=Ye.mp b;exact(Yk3 hN).mp (e1.trans e2.symm)
theorem Su{M:Model}{A:bB}{i:Nat}{x:aj}{v:V}{u:Yd}{Q:Unit->Yg->Prop}(I:Inv X pins σ H s)(hN:X.N.Nodup)(hi:X.N[i]?=Ya x)(hx:Loc X.env.scope x)(r:RelV v u)(h:∀s',Inv X pins (σ.set i (Ya v)) H s'->(∃a,xP a s.heap s'.heap/\(a=X.env.locals\/X.env.cells.lookup x=Ya a))->Q () s')(hf:X.fn x=true\/X.env.scope.names.lookup x=Ya .local:=by first|exact .inl rfl|exact .inr rfl|assumption):Yy M A (storeName X.env x u) Q E s:=by
 obtain⟨m,hn,hl⟩:=id I.loc;have hcls:(X.env.scope.kind== .class|| (X.env.scope.kind== .module&&X.env.locals !=X.env.globals))=false:=by rw[I.ok.kind];rfl
 have hiσ:i<σ.length:=by rw[I.len];exact(Ye.mp hi).1
 have vB:=I.vB;have tracked:∀{a:Yn} {h':au},(∃o,s.heap.get? a=Ya o/\H a=Yk)->xP a s.heap h'->dO X.prog X.w H h':=λ{a h'} ha hs b ob e=>by
  obtain⟨_,_,hfree⟩:=ha;refine(I.hok b ob e).stay (λc w' hc q=>(hs.2 c ?_).trans q) (λ_ q=>q) λ_ _ q=>q;rintro rfl;rcases hc with rfl|hc
  .rw[hfree]at e;cases e
  .rw[hfree]at hc;cases hc
 rcases hx with hk|hk
 .refine Yh6 hk hn (λh' hn' hs=>?_) hcls;obtain⟨oL,_,_,hoL,_⟩:=id hn;refine h _ ⟨I.ok,I.os,I.bare,⟨λb o e n hb hx=>?_,λb o e n hb hx=>?_,I.base.free,λb o e hx=>?_,I.base.tups,I.base.lq,I.base.mq⟩,⟨_,hn',λj y v' e1 e2 e3=>?_⟩,λy c e=>?_,I.free,I.j5,λp hp=>?_,tracked ⟨oL,hoL,I.free⟩ hs,by simpa using I.len⟩ ⟨_,hs,.inl rfl⟩
  .exact(hs.2 b (Y6 (Yo (Yp e) I.ok.above))).trans (I.base.keep b o e n hb hx)
  .obtain⟨sl,e1⟩:=I.base.slot b o e n hb hx;exact⟨sl,(hs.2 b (Y6 (Yo (Yp e) I.ok.above))).trans e1⟩
  .obtain⟨o',e1⟩:=I.base.there b o e hx;exact⟨o',(hs.2 b (Y6 (Yo (Yp e) I.ok.above))).trans e1⟩
  .by_cases hj:j=i
   .subst hj;rw[hi]at e1;cases e1;rw[Yx hiσ]at e2;cases e2;exact⟨u,r,.inl ⟨hk,by simp⟩⟩
   .rw[Yf (bK hj)]at e2;obtain⟨u',r',q⟩:=hl j y v' e1 e2 e3;refine⟨u',r',?_⟩;rcases q with⟨k,e⟩|⟨k,c,e,z⟩
    .refine .inl ⟨k,?_⟩;have:y≠x:=λe=>hj (Ss hN e1 (e▸hi));simp[this,e]
    .exact .inr ⟨k,c,e,z.sameBut hs (vB y c e)⟩
  .obtain⟨w',z⟩:=I.cell y c e;exact⟨w',z.sameBut hs (vB y c e)⟩
  .obtain⟨e,n,ne,nf,d⟩:=I.pin p hp;exact⟨(hs.2 p.1 ne).trans e,n,ne,nf,d⟩
 .have hfn:X.fn x=true:=by
   rcases hf with z|z
   .exact z
   .rw[z]at hk;cases hk
  obtain⟨c,hc⟩:=I.ok.has x (.inl hk);obtain⟨w',z⟩:=I.cell x c hc;refine wpAny_storeName_cell I.ok.kind hk hc z (λh' hc' hs=>?_);obtain⟨oc,hoc,Ada⟩:=id z;refine h {s with heap:=h'} ⟨I.ok,I.os,I.bare,⟨λb o e n hb hx=>?_,λb o e n hb hx=>?_,I.base.free,λb o e hx=>?_,I.base.tups,I.base.lq,I.base.mq⟩,⟨m,hn.sameBut hs (bK (vB x c hc)),λj y v' e1 e2 e3=>?_⟩,λy c' e=>?_,I.free,I.j5,λp hp=>?_,tracked ⟨oc,hoc,I.j5 x c hc⟩ hs,by simpa using I.len⟩ ⟨c,hs,.inr hc⟩
  .exact(hs.2 b (Y6 (Yo (Yp e) (I.ok.cab x c hfn hc)))).trans (I.base.keep b o e n hb hx)
  .obtain⟨sl,e1⟩:=I.base.slot b o e n hb hx;exact⟨sl,(hs.2 b (Y6 (Yo (Yp e) (I.ok.cab x c hfn hc)))).trans e1⟩
  .obtain⟨o',e1⟩:=I.base.there b o e hx;exact⟨o',(hs.2 b (Y6 (Yo (Yp e) (I.ok.cab x c hfn hc)))).trans e1⟩
  .by_cases hj:j=i
   .subst hj;rw[hi]at e1;cases e1;rw[Yx hiσ]at e2;cases e2;exact⟨u,r,.inr ⟨.inl hk,c,hc,hc'⟩⟩
   .rw[Yf (bK hj)]at e2;obtain⟨u',r',q⟩:=hl j y v' e1 e2 e3;refine⟨u',r',?_⟩;rcases q with q|⟨k,c',e,z'⟩
    .exact .inl q
    .refine .inr ⟨k,c',e,z'.sameBut hs ?_⟩;rintro rfl;exact hj (Ss hN e1 (I.ok.inj _ _ _ e hc▸hi))
  .by_cases hcc:c'=c
   .subst hcc;exact⟨_,hc'⟩
   .obtain⟨w2,z2⟩:=I.cell y c' e;exact⟨w2,z2.sameBut hs hcc⟩
  .obtain⟨e,n,ne,nf,d⟩:=I.pin p hp;refine⟨(hs.2 p.1 ?_).trans e,n,ne,nf,d⟩;intro q;rw[q,hoc]at e;have q':oc=p.2:=Y3 e;exact d w' (by rw[←q'];exact Ada)
theorem Sv{M:Model}{A:bB}{i:Nat}{x:aj}{v:V}{u:Yd}{Q:Unit->Yg->Prop}(I:Inv X pins σ H s)(hN:X.N.Nodup)(hi:X.N[i]?=Ya x)(hx:Loc X.env.scope x)(r:RelV v u)(h:∀s',Inv X pins (σ.set i (Ya v)) H s'->Q () s')(hf:X.fn x=true\/X.env.scope.names.lookup x=Ya .local:=by first|exact .inl rfl|exact .inr rfl|assumption):Yy M A (storeName X.env x u) Q E s:=Su I hN hi hx r (λs' I' _=>h s' I') hf
theorem Inv.call'{s':Yg}(I:Inv X pins σ H s)(ho:s'.os=s.os)(u:Un (frs X.stack) ch H H' s.heap s'.heap)(hok:dO X.prog X.w H' s'.heap)(hg:qL s'.gens)(hch:∀b∈ch,(b∈X.ex\/X.s₀.heap.objs.size<=b)/\b≠X.env.locals/\(∀x c,X.env.cells.lookup x=Ya c->c≠b)/\∀p∈X.pn++pins,p.1≠b):Inv X pins σ H' s':=by obtain⟨h',g',d',t',o'⟩:=s';have e:o'=s.os:=ho;subst e;exact I.call (g':=g') (t':=t') (d':=d') u hok hg hch
end
noncomputable abbrev XK:=Yd->Option Yn->Hp->Prop
noncomputable abbrev St:=List (Option V)
noncomputable abbrev VK:=V->Hp->Prop
noncomputable abbrev TE:=St->Hp->VK->Prop
noncomputable abbrev TT:=St->Hp->(Bool->Hp->Prop)->Prop
noncomputable abbrev TA:=St->Hp->(List V->Hp->Prop)->Prop
structure Ends where
 nx:St->Hp->Prop
 rt:VK
 bk:St->Hp->Prop:=λ_ _=>False
 ct:St->Hp->Prop:=λ_ _=>False
noncomputable abbrev TS:=Ends->St->Hp->Prop
inductive EP(X:Cx)(pins:List (Yn×aB))(σ:St)(Q:VK)(u:Yd)(s':Yg):Prop where
 |mk (v:V) (H':Hp) (I:Inv X pins σ H' s') (r:RelV v u) (q:Q v H'):EP X pins σ Q u s'
inductive TP(X:Cx)(pins:List (Yn×aB))(σ:St)(Q:Bool->Hp->Prop)(b:Bool)(s':Yg):Prop where
 |mk (H':Hp) (I:Inv X pins σ H' s') (q:Q b H'):TP X pins σ Q b s'
inductive AP(X:Cx)(pins:List (Yn×aB))(σ:St)(Q:List V->Hp->Prop)(us:List Yd)(s':Yg):Prop where
 |mk (vs:List V) (H':Hp) (I:Inv X pins σ H' s') (r:Vals vs us) (q:Q vs H'):AP X pins σ Q us s'
def SP(X:Cx)(pins:List (Yn×aB))(D:Ends)(f:Flow)(s':Yg):Prop:=
 match f with
 | .next=>∃σ' H',Inv X pins σ' H' s'/\D.nx σ' H'|.brk=>∃σ' H',Inv X pins σ' H' s'/\D.bk σ' H'|.cont=>∃σ' H',Inv X pins σ' H' s'/\D.ct σ' H'|.ret u=>∃v σ' H',Inv X pins σ' H' s'/\RelV v u/\D.rt v H'
def PE(X:Cx)(e:Expr)(t:TE):Prop:=∀(pins:List (Yn×aB)) (s:Yg) (σ:St) (H:Hp) (Q:VK),Inv X pins σ H s->t σ H Q->Yy (Y4 X.prog X.w) X.A (aH e X.env) (EP X pins σ Q) X.xe s
def PT(X:Cx)(e:Expr)(t:TT):Prop:=∀(pins:List (Yn×aB)) (s:Yg) (σ:St) (H:Hp) (Q:Bool->Hp->Prop),Inv X pins σ H s->t σ H Q->Yy (Y4 X.prog X.w) X.A (isTrue e X.env (aH e X.env)) (TP X pins σ Q) X.xe s
def PW(X:Cx)(e:Expr)(t:TT):Prop:=∀(whole:lu Yd) (pins:List (Yn×aB)) (s:Yg) (σ:St) (H:Hp) (Q:Bool->Hp->Prop),Inv X pins σ H s->t σ H Q->Yy (Y4 X.prog X.w) X.A (isTrue e X.env whole) (TP X pins σ Q) X.xe s
theorem PW.pt{X:Cx}{e:Expr}{t:TT}(h:PW X e t):PT X e t:=h _
def PA(X:Cx)(es:List Expr)(t:TA):Prop:=∀(pos:aP) (pins:List (Yn×aB)) (s:Yg) (σ:St) (H:Hp) (Q:List V->Hp->Prop),Inv X pins σ H s->t σ H Q->Yy (Y4 X.prog X.w) X.A (spliced (eF pos (Yt es X.env))) (AP X pins σ Q) X.xe s
def PS(X:Cx)(st:Ydm)(t:TS):Prop:=∀(pins:List (Yn×aB)) (s:Yg) (σ:St) (H:Hp) (D:Ends),Inv X pins σ H s->t D σ H->Yy (Y4 X.prog X.w) X.A (exec st X.env) (SP X pins D) X.xe s
def jz(X:Cx)(st:List Ydm)(t:TS):Prop:=∀(pins:List (Yn×aB)) (s:Yg) (σ:St) (H:Hp) (D:Ends),Inv X pins σ H s->t D σ H->Yy (Y4 X.prog X.w) X.A (execs st X.env) (SP X pins D) X.xe s
theorem aG{α:Type}{t:lu α}{Q Q':α->Yg->Prop}{M:Model}{A:bB}{s:Yg}(h:Yy M A t Q E s)(hQ:∀a s,Q a s->Q' a s):Yy M A t Q' E s:=fc h hQ λ_ _ x=>x
end L2
namespace L2
open PySem PySem.Spec PyProof.Rows
section
variable {X:Cx}
def ZxH(i:Nat):TE:=λσ H Q=>∃v,σ[i]?=Ya (Ya v)/\Q v H
def tC(v:V):TE:=λ_ H Q=>Q v H
theorem Zp5{i:Nat}{x:aj}{pos:aP}(hN:X.N[i]?=Ya x)(hv:Gd X.env.scope x)(hd:(x==("__debug__":aj))=false:=by decide)(hcd:(x==("__classdict__":aj))=false:=by decide):PE X (.Name x pos) (ZxH i):=by
 intro pins s σ H Q I h;obtain⟨v,e,h⟩:=h;obtain⟨m,hn,hl⟩:=I.loc;obtain⟨u,r,l⟩:=hl i x v hN e hv;have fin:EP X pins σ Q u s:=⟨v,H,I,r,h⟩;rcases l with⟨hk,hm⟩|⟨hk,c,hc,hcell⟩
 .exact QK (wpAny_loadName_local I.ok.kind hk hn hm fin) hd
 .rcases hk with hk|hk
  .exact QK (wpAny_loadName_cell I.ok.kind hk hc hcell fin) hd
  .exact QK (wpAny_loadName_free I.ok.kind hk hc hcell fin hcd) hd
theorem ZvM{i j pos}:PE X (.Constant (.int i) j pos) (tC (.int i)):=λ_ _ _ H _ I h=>wpAny_Constant_int ⟨.int i,H,I.tok _,⟨_,rfl⟩,h⟩
theorem Zxk{b j pos}:PE X (.Constant (.bool b) j pos) (tC (.bl b)):=λ_ _ _ H _ I h=>Constant_bool ⟨.bl b,H,I,rfl,h⟩
theorem Zvi{j pos}:PE X (.Constant .none j pos) (tC .non):=λ_ _ _ H _ I h=>Constant_none ⟨.non,H,I,rfl,h⟩
theorem Zu1{x j pos}:PE X (.Constant (.str x) j pos) (tC (.str x)):=λ_ _ _ H _ I h=>Calls.Constant_str ⟨.str x,H,I.tok _,⟨_,rfl⟩,h⟩
def Gl(X:Cx)(x:aj):Prop:=X.env.kindOf x=Ya .globalImplicit
theorem Ba{E:Yd->Yg->Prop}{pins:List (Yn×aB)}{s:Yg}{σ:St}{H:Hp}{x:aj}{u:Yd}{pos:aP}{Q:Yd->Yg->Prop}(I:Inv X pins σ H s)(hg:Gl X x)(hm:X.mg x=Ya u)(h:Q u s)(hd:(x==("__debug__":aj))=false:=by decide):Yy (Y4 X.prog X.w) X.A (aH (.Name x pos) X.env) Q E s:=Yf7 I.ok.kind hg (Calls.loadGlobal_global (by rw[I.ok.glob];exact I.mod.glob.keeps I.bk) hm h) hd
theorem xY{E:Yd->Yg->Prop}{pins:List (Yn×aB)}{s:Yg}{σ:St}{H:Hp}{x:aj}{u:Yd}{pos:aP}{Q:Yd->Yg->Prop}(I:Inv X pins σ H s)(hg:Gl X x)(hm:X.mg x=Yk)(hv:jl x=Ya u)(h:Q u s)(hn:x≠ "__name__":=by decide)(hd:(x==("__debug__":aj))=false:=by decide):Yy (Y4 X.prog X.w) X.A (aH (.Name x pos) X.env) Q E s:=by obtain⟨mb,h1,h2⟩:=I.mod.blt;exact Yf7 I.ok.kind hg (Calls.loadGlobal_builtin (by rw[I.ok.glob];exact I.mod.glob.keeps I.bk) hm (by rw[I.ok.blt];exact h1.keeps I.bk) ((h2 x hn).trans hv) h) hd
theorem ZnQ{x:aj}{v:V}{u:Yd}{pos:aP}(hg:Gl X x)(hm:X.mg x=Ya u)(r:RelV v u)(hd:(x==("__debug__":aj))=false:=by decide):PE X (.Name x pos) (tC v):=λ_ _ _ H _ I h=>Ba I hg hm ⟨v,H,I,r,h⟩ hd
theorem ZnG{x:aj}{v:V}{u:Yd}{pos:aP}(hg:Gl X x)(hm:X.mg x=Yk)(hv:jl x=Ya u)(r:RelV v u)(hn:x≠ "__name__":=by decide)(hd:(x==("__debug__":aj))=false:=by decide):PE X (.Name x pos) (tC v):=λ_ _ _ H _ I h=>xY I hg hm hv ⟨v,H,I,r,h⟩ hn hd
variable {a b:Expr} {ta tb:TE} {pos:aP}
def tB(t:TE):TT:=λσ H Q=>t σ H λx H1=>∃c,x= .bl c/\Q c H1
theorem Sw{e:Expr}{t:TE}(h:PE X e t)(he:∀whole,isTrue e X.env whole=(do let v ←whole;xx e.pos;nu [v] (truthy v)):=by intro _;rfl):PT X e (tB t):=by intro pins s σ H Q I hw;refine isTrue_plain (aG (h pins s σ H _ I hw) λv s1 ak=>?_) (he _);obtain⟨x,H1,I1,r1,q1⟩:=ak;obtain⟨d,rfl,q⟩:=q1;cases r1;exact Qm ⟨H1,I1,q⟩
variable {tA KZ:TT} {rest:List Expr}
def Zyq(t u:TT):TT:=λσ H Q=>t σ H λc H1=>if c=true then u σ H1 Q else Q false H1
def tOr(t u:TT):TT:=λσ H Q=>t σ H λc H1=>if c=true then Q true H1 else u σ H1 Q
def Zzm(t:TT):TT:=λσ H Q=>t σ H λc H1=>Q (!c) H1
theorem Zsv(ha:PT X a tA):PW X (.BoolOp .And [a] pos) tA:=by
 intro wh pins s σ H Q I h;refine isTrue_and (aG (ha pins s σ H Q I h) λc s1 e=>?_);cases c with
 |true=>exact isTrue_and_nil e|false=>exact e
theorem ZuZ(ha:PT X a tA):PW X (.BoolOp .Or [a] pos) tA:=by
 intro wh pins s σ H Q I h;refine isTrue_or (aG (ha pins s σ H Q I h) λc s1 e=>?_);cases c with
 |false=>exact isTrue_or_nil e|true=>exact e
theorem ZuX(ha:PT X a tA)(hb:PW X (.BoolOp .And (b::rest) pos) KZ):PW X (.BoolOp .And (a::b::rest) pos) (Zyq tA KZ):=by
 intro wh pins s σ H Q I h;refine isTrue_and (aG (ha pins s σ H _ I h) λc s1 ak=>?_);obtain⟨H1,I1,q1⟩:=ak;cases c with
 |true=>exact hb wh pins s1 σ H1 Q I1 q1|false=>exact⟨H1,I1,q1⟩
theorem Zxl(ha:PT X a tA)(hb:PW X (.BoolOp .Or (b::rest) pos) KZ):PW X (.BoolOp .Or (a::b::rest) pos) (tOr tA KZ):=by
 intro wh pins s σ H Q I h;refine isTrue_or (aG (ha pins s σ H _ I h) λc s1 ak=>?_);obtain⟨H1,I1,q1⟩:=ak;cases c with
 |true=>exact⟨H1,I1,q1⟩|false=>exact hb wh pins s1 σ H1 Q I1 q1
theorem Zup(ha:PT X a tA):PT X (.UnaryOp .Not a pos) (Zzm tA):=by intro pins s σ H Q I h;exact isTrue_not (aG (ha pins s σ H (λc H1=>Q (!c) H1) I h) λc s' ⟨H',I',q⟩=>⟨H',I',q⟩)
def ZwB(ta tb:TE):TE:=λσ H Q=>ta σ H λx H1=>∃c,x= .bl c/\if c=true then tb σ H1 Q else Q (.bl false) H1
theorem ZuI{op}{t:TE}(h:PE X a t):PE X (.BoolOp op [a] pos) t:=λpins s σ H Q I hw=>BoolOp_one (h pins s σ H Q I hw)
theorem ZtW(ha:PE X a ta)(hb:PE X (.BoolOp .And (b::rest) pos) tb):PE X (.BoolOp .And (a::b::rest) pos) (ZwB ta tb):=by
 intro pins s σ H Q I h;refine BoolOp_and (aG (ha pins s σ H _ I h) λv s1 ak=>?_);obtain⟨x,H1,I1,r1,q1⟩:=ak;obtain⟨c,rfl,q1⟩:=q1;cases r1;refine Qm ?_;cases c with
 |true=>exact hb pins s1 σ H1 Q I1 q1|false=>exact⟨.bl false,H1,I1,rfl,q1⟩
def Sx(t:TT)(ta tb:TE):TE:=λσ H Q=>t σ H λc H1=>if c=true then ta σ H1 Q else tb σ H1 Q
theorem Zqc{c:Expr}(hc:PT X c tA)(ha:PE X a ta)(hb:PE X b tb):PE X (.IfExp c a b pos) (Sx tA ta tb):=by
 intro pins s σ H Q I h;refine wpAny_IfExp (aG (hc pins s σ H _ I h) λd s1 ak=>?_);obtain⟨H1,I1,q1⟩:=ak;cases d with
 |true=>exact ha pins s1 σ H1 Q I1 q1|false=>exact hb pins s1 σ H1 Q I1 q1
end
end L2
namespace L2
open PySem PySem.Spec PyProof.Rows
def cD(K:Yc)(H:Hp)(a:Yn)(xs:List V):Prop:=
 Rd H a (.lst xs)\/
  ∃(o:aB) (its:Array Yd) (n:Nat),K.lookup a=Ya o/\o.cls= .type "list" /\o.dict=Yk/\o.data= .seq its n/\its.size<=Y7/\Vals xs its.toList
def cL(K:Yc)(H:Hp)(a:Yn)(xs:List V):Prop:=
 Rd H a (.tup xs)\/
  ∃(o:aB) (its:Array Yd) (n:Nat),K.lookup a=Ya o/\(o.cls= .type "tuple" /\o.dict=Yk)/\o.data= .seq its n/\its.size<=Y7/\Vals xs its.toList
noncomputable def Zzu:Yd->Option V
 | .none=>Ya .non|.bool b=>Ya (.bl b)|.int i _=>Ya (.int i)|.str x _=>Ya (.str x)
 | .bytes b _=>Ya (.Ay b)|.float b _=>Ya (.flt b)|.ref a=>Ya (.ref a)|.type n=>Ya (.ty n)
 |_=>Yk
theorem RelV.abs{x:V}{u:Yd}(r:RelV x u):Zzu u=Ya x:=by
 cases x with
 |non=>cases r;rfl|bl _=>cases r;rfl|int _=>obtain⟨t,rfl⟩:=r;rfl|str _=>obtain⟨t,rfl⟩:=r;rfl
 |Ay _=>obtain⟨t,rfl⟩:=r;rfl|flt _=>obtain⟨t,rfl⟩:=r;rfl|ref _=>cases r;rfl|ty _=>cases r;rfl
theorem RelV.inj{x y:V}{u:Yd}(r:RelV x u)(q:RelV y u):x=y:=Y3 (r.abs.symm.trans q.abs)
theorem Vals.inj:∀{xs ys:List V} {us:List Yd},Vals xs us->Vals ys us->xs=ys
 |_,_,_,.nil,.nil=>rfl|_,_,_,.cons r t,.cons r' t'=>by rw[r.inj r',Vals.inj t t']
variable{K:Yc}
section
variable {X:Cx} {pins:List (Yn×aB)} {σ:St} {H:Hp} {s:Yg} {a:Yn} {xs ys:List V}
theorem cD.of(h:H a=Ya (.lst xs)):cD K H a xs:=.inl (.inl h)
theorem cL.of(h:H a=Ya (.tup xs)):cL K H a xs:=.inl (.inl h)
theorem Inv.list(I:Inv X pins σ H s)(h:cD X.K H a xs):∃its:List Yd,Vals xs its/\PlainL s.heap a its.toArray/\xs.length<=Y7:=by
 rcases h with h|⟨o,its,n,hk,hc,hd,hs,hz,r⟩
 .obtain⟨z,its,n,r,e⟩:=h.ok I.hok;exact⟨its,r,⟨_,n,e,rfl,rfl,rfl⟩,z⟩
 .refine⟨its.toList,r,⟨o,n,I.dw a o hk,hc,hd,by simpa using hs⟩,?_⟩;have e:=r.length;simp only[Fz]at e;exact lC 2 2199576973345 T1 e hz
theorem Inv.tuple(I:Inv X pins σ H s)(h:cL X.K H a xs):∃its:List Yd,Vals xs its/\xT s.heap a its.toArray/\xs.length<=Y7:=by
 rcases h with h|⟨o,its,n,hk,hc,hs,hz,r⟩
 .obtain⟨z,its,r,p⟩:=h.ok I.hok;exact⟨its,r,p.tup,z⟩
 .refine⟨its.toList,r,⟨o,I.dw a o hk,hc.1,n,by simpa using hs⟩,?_⟩;have e:=r.length;simp only[Fz]at e;exact lC 2 2199576973345 T1 e hz
theorem Inv.X4(I:Inv X pins σ H s)(h:cD X.K H a xs)(h':cD X.K H a ys):xs=ys:=by
 obtain⟨its,r,⟨o,n,e,_,_,d⟩,_⟩:=I.list h;obtain⟨its',r',⟨o',n',e',_,_,d'⟩,_⟩:=I.list h';rw[e]at e';cases e';rw[d]at d';injection d' with d1 _;have:its=its':=by simpa using congrArg Kq d1
 subst this;exact r.inj r'
theorem Inv.AcE(I:Inv X pins σ H s)(h:cL X.K H a xs):∃its:List Yd,Vals xs its/\oV s.heap a its.toArray/\xs.length<=Y7:=by
 rcases h with h|⟨o,its,n,hk,hc,hs,hz,r⟩
 .obtain⟨z,its,r,p⟩:=h.ok I.hok;exact⟨its,r,p,z⟩
 .refine⟨its.toList,r,⟨o,I.dw a o hk,hc,n,by simpa using hs⟩,?_⟩;have e:=r.length;simp only[Fz]at e;exact lC 2 2199576973345 T1 e hz
theorem Inv.Pa(I:Inv X pins σ H s)(h:cL X.K H a xs)(h':cL X.K H a ys):xs=ys:=by
 obtain⟨its,r,⟨o,e,_,n,d⟩,_⟩:=I.tuple h;obtain⟨its',r',⟨o',e',_,n',d'⟩,_⟩:=I.tuple h';rw[e]at e';cases e';rw[d]at d';injection d' with d1 _;have:its=its':=by simpa using congrArg Kq d1
 subst this;exact r.inj r'
end
noncomputable abbrev Cx.wish(X:Cx)(E:Yd->Yg->Prop):Cx:={X with xe:=E}
noncomputable abbrev Cx.gC(X:Cx):Cx:=X.wish λ_ _=>False
theorem Cx.Ok.wish{X:Cx}(ok:X.Ok)(E:Yd->Yg->Prop):(X.wish E).Ok:=⟨ok.mod,ok.kind,ok.glob,ok.blt,ok.above,ok.inj,ok.has,ok.cab,ok.hd,ok.frames,ok.Az,ok.A_,ok.bs,ok.nO,ok.wV,ok.uI,ok.j6,ok.pR⟩
theorem Cx.Ok.l_{X:Cx}{E:Yd->Yg->Prop}(ok:(X.wish E).Ok):X.Ok:=⟨ok.mod,ok.kind,ok.glob,ok.blt,ok.above,ok.inj,ok.has,ok.cab,ok.hd,ok.frames,ok.Az,ok.A_,ok.bs,ok.nO,ok.wV,ok.uI,ok.j6,ok.pR⟩
variable{e:Expr}
section
variable {X:Cx} {pins:List (Yn×aB)} {σ:St} {H:Hp} {s:Yg} {E:Yd->Yg->Prop}
theorem Inv.wish(I:Inv X pins σ H s)(E:Yd->Yg->Prop):Inv (X.wish E) pins σ H s:=⟨I.ok.wish E,I.os,I.bare,I.base,I.loc,I.cell,I.free,I.j5,I.pin,I.hok,I.len⟩
theorem Inv.l_(I:Inv (X.wish E) pins σ H s):Inv X pins σ H s:=⟨I.ok.l_,I.os,I.bare,I.base,I.loc,I.cell,I.free,I.j5,I.pin,I.hok,I.len⟩
theorem SP.l_{D:Ends}{f:Flow}{s':Yg}(h:SP (X.wish E) pins D f s'):SP X pins D f s':=by
 cases f with
 |next=>obtain⟨σ',H',I,q⟩:=h;exact⟨σ',H',I.l_,q⟩|brk=>obtain⟨σ',H',I,q⟩:=h;exact⟨σ',H',I.l_,q⟩|cont=>obtain⟨σ',H',I,q⟩:=h;exact⟨σ',H',I.l_,q⟩|ret u=>obtain⟨v,σ',H',I,r,q⟩:=h;exact⟨v,σ',H',I.l_,r,q⟩
theorem PE.gC{t:TE}(h:PE X.gC e t):PE X e t:=λpins s σ H Q I hw=>fc (h pins s σ H Q (I.wish _) hw) (λ_ _ ⟨v,H',I',r,q⟩=>⟨v,H',I'.l_,r,q⟩) λ_ _ z=>fH z
theorem PT.gC{t:TT}(h:PT X.gC e t):PT X e t:=λpins s σ H Q I hw=>fc (h pins s σ H Q (I.wish _) hw) (λ_ _ ⟨H',I',q⟩=>⟨H',I'.l_,q⟩) λ_ _ z=>fH z
theorem jz.gC{st:List Ydm}{t:TS}(h:jz X.gC st t):jz X st t:=λpins s σ H D I hw=>fc (h pins s σ H D (I.wish _) hw) (λ_ _ q=>q.l_) λ_ _ z=>fH z
end
section
variable {X:Cx} {st:Ydm} {rest:List Ydm} {t u:TS} {e:Expr} {te:TE} {pos:aP}
def ZwV:TS:=λD σ H=>D.nx σ H
def ZyI(t u:TS):TS:=λD σ H=>t {D with nx:=u D} σ H
theorem ZrW:jz X [] ZwV:=λ_ _ σ H _ I h=>Ey ⟨σ,H,I,h⟩
theorem Zk7(h1:PS X st t)(h2:jz X rest u):jz X (st::rest) (ZyI t u):=by
 intro pins s σ H D I h;refine Yk4 (aG (h1 pins s σ H {D with nx:=u D} I h) λf s1 q=>?_);cases f with
 |next=>obtain⟨σ',H',I',q⟩:=q;exact h2 pins s1 σ' H' D I' q|ret v=>exact q|brk=>exact q
 |cont=>exact q
theorem Znr(h1:PS X st t):jz X [st] t:=by
 intro pins s σ H D I h;refine Yk4 (aG (h1 pins s σ H D I h) λf s1 q=>?_);cases f with
 |next=>exact Ey q|ret v=>exact q|brk=>exact q|cont=>exact q
theorem Inv.quiet{pins:List (Yn×aB)}{σ:St}{H:Hp}{s:Yg}(I:Inv X pins σ H s):interactive X.env=false:=by simp[interactive,I.ok.kind]
def Zxh(te:TE):TS:=λD σ H=>te σ H λ_ H1=>D.nx σ H1
theorem ZnM(he:PE X e te)(hs:nq e Yk pos.line X.env=pure false:=by rfl):PS X (.Expr e pos) (Zxh te):=by intro pins s σ H D I h;exact wpAny_Expr_any (aG (he pins s σ H _ I h) λv s1 ⟨x,H1,I1,r1,q1⟩=>⟨σ,H1,I1,q1⟩) I.quiet hs
def Zy0(te:TE):TS:=λD σ H=>te σ H D.rt
theorem Zus(he:PE X e te):PS X (.Return (Ya e) pos) (Zy0 te):=by intro pins s σ H D I h;exact wpAny_Return_some (aG (he pins s σ H _ I h) λv s1 ⟨x,H1,I1,r1,q1⟩=>⟨x,σ,H1,I1,r1,q1⟩)
def ZxB:TS:=λD _ H=>D.rt .non H
theorem Zs8:PS X (.Return Yk pos) ZxB:=λ_ _ σ H _ I h=>wpAny_Return_none ⟨.non,σ,H,I,rfl,h⟩
def Zzo(c:TT)(t u:TS):TS:=λD σ H=>c σ H λb H1=>if b=true then t D σ H1 else u D σ H1
theorem Sy{c:Expr}{a b:List Ydm}{tc:TT}(hc:PT X c tc)(ha:jz X a t)(hb:jz X b u):PS X (.If c a b pos) (Zzo tc t u):=by
 intro pins s σ H D I h;refine wpAny_If (aG (hc pins s σ H _ I h) λd s1 ak=>?_);obtain⟨H1,I1,q1⟩:=ak;cases d with
 |true=>exact ha pins s1 σ H1 D I1 q1|false=>exact hb pins s1 σ H1 D I1 q1
end
noncomputable abbrev TG:=V->St->Hp->(St->Hp->Prop)->Prop
noncomputable abbrev tO:=List V->St->Hp->(St->Hp->Prop)->Prop
def PG(X:Cx)(target:Expr)(t:TG):Prop:=
 ∀(pins:List (Yn×aB)) (s:Yg) (σ:St) (H:Hp) (v:V) (u:Yd) (Q:St->Hp->Prop),Inv X pins σ H s->RelV v u->t v σ H Q ->
  Yy (Y4 X.prog X.w) X.A (jw target X.env u) (λ_ s'=>∃σ' H',Inv X pins σ' H' s'/\Q σ' H') X.xe s
def qQ(X:Cx)(ts:List Expr)(t:tO):Prop:=
 ∀(pins:List (Yn×aB)) (s:Yg) (σ:St) (H:Hp) (vs:List V) (us:List Yd) (Q:St->Hp->Prop),Inv X pins σ H s->Vals vs us->t vs σ H Q ->
  Yy (Y4 X.prog X.w) X.A (assignInOrder ((pG ts X.env).map (·.2)) us) (λ_ s'=>∃σ' H',Inv X pins σ' H' s'/\Q σ' H') X.xe s
noncomputable abbrev SJ:=V->V->V->Hp->(Hp->Prop)->Prop
def Zxu(X:Cx)(t:SJ):Prop:=
 ∀(pins:List (Yn×aB)) (s:Yg) (σ:St) (H:Hp) (o i v:V) (ov iv u:Yd) (Q:Hp->Prop),Inv X pins σ H s->RelV o ov->RelV i iv->RelV v u->t o i v H Q ->
  Yy (Y4 X.prog X.w) X.A (JF ov iv u) (λ_ s'=>∃H',Inv X pins σ H' s'/\Q H') X.xe s
variable{tg:Expr}
section
variable {X:Cx} {pos:aP}
def Ztn(i:Nat):TG:=λv σ H Q=>Q (σ.set i (Ya v)) H
theorem Zn9{i:Nat}{x:aj}(hN:X.N.Nodup)(hi:X.N[i]?=Ya x)(hx:Loc X.env.scope x)(hf:X.fn x=true\/X.env.scope.names.lookup x=Ya .local:=by first|exact .inl rfl|exact .inr rfl|assumption):PG X (.Name x pos) (Ztn i):=by intro pins s σ H v u Q I r h;exact Qn (Sv I hN hi hx r (λs' I'=>⟨_,H,I',h⟩) hf)
def ZyO:tO:=λvs σ H Q=>vs=[]/\Q σ H
def Zxb(t:TG)(u:tO):tO:=λvs σ H Q=>∃v r,vs=v::r/\t v σ H λσ' H'=>u r σ' H' Q
theorem ZsL:qQ X [] ZyO:=by intro pins s σ H vs us Q I r h;obtain⟨e,h⟩:=h;subst e;cases r;exact assignInOrder_nil ⟨σ,H,I,h⟩
theorem Zrq{es:List Expr}{t:TG}{u:tO}(h1:PG X e t)(h2:qQ X es u)(hs:(pG (e::es) X.env).map (·.2)=jw e X.env::(pG es X.env).map (·.2):=by rfl):qQ X (e::es) (Zxb t u):=by
 intro pins s σ H vs us Q I r h;obtain⟨v,vr,e1,h⟩:=h;subst e1;cases r with
 |cons r rr=>rw[hs];refine assignInOrder_cons (aG (h1 pins s σ H _ _ _ I r h) λ_ s1 ak=>?_);obtain⟨σ1,H1,I1,q1⟩:=ak;exact h2 pins s1 σ1 H1 _ _ Q I1 rr q1
def Zzb(K:Yc)(n:Nat)(t:tO):TG:=λv σ H Q=>∃a xs,v= .ref a/\cL K H a xs/\xs.length=n/\t xs σ H Q
theorem Zvv{es:List Expr}{k:Nat}{t:tO}{n:Nat}(hc:X.calm=true)(h:qQ X es t)(hn:(pG es X.env).length=n:=by rfl)(hst:(pG es X.env).findIdx? (·.1)=Yk:=by rfl):PG X (.Tuple es k pos) (Zzb X.K n t):=by intro pins s σ H v u Q I r hw;obtain⟨a,xs,e1,hq,hl,hw⟩:=hw;subst e1;cases r;obtain⟨its,rv,ht,hz⟩:=I.tuple hq;refine assign_Tuple_tuple (I.ok.hd hc) ht (by simp[hn,←hl,rv.length]) hst λh' hx=>?_;have I1:Inv X pins σ H {s with heap:=h'}:=I.kept (t':=s.toks) λb o e=>hx b o (Y6 (Yp e)) e;exact h pins _ σ H xs _ Q I1 (by simpa using rv) hw
def Zzi(to ti:TE)(t:SJ):TG:=λv σ H Q=>to σ H λo H1=>ti σ H1 λi H2=>t o i v H2 λH3=>Q σ H3
theorem ZtS{o i:Expr}{to ti:TE}{t:SJ}(ho:PE X o to)(hi:PE X i ti)(hs:Zxu X t)(ha:∀v,jw (.Subscript o i pos) X.env v=(do
   let ov ←nu [v] (aH o X.env)
   let iv ←nu [v,ov] (aH i X.env)
   xx pos
   nu [v,ov,iv] (JF ov iv v)
   release [v,ov,iv] []):=by intro _;rfl):PG X (.Subscript o i pos) (Zzi to ti t):=by
 intro pins s σ H v u Q I r h;rw[ha];refine Yb (jk (aG (ho pins s σ H _ I h) λov s1 ak=>?_));obtain⟨x,H1,I1,r1,q1⟩:=ak;refine Yb (jk (aG (hi pins s1 σ H1 _ I1 q1) λiv s2 ak=>?_));obtain⟨y,H2,I2,r2,q2⟩:=ak;refine Yb (EY (Yb (jk (aG (hs pins s2 σ H2 x y v ov iv u _ I2 r1 r2 r q2) λ_ s3 ak=>?_))));obtain⟨H3,I3,q3⟩:=ak;exact wpAny_release ⟨σ,H3,I3,q3⟩
def Zwz(te:TE)(g:TG):TS:=λD σ H=>te σ H λx H1=>g x σ H1 D.nx
theorem ZuY{te:TE}{g:TG}(he:PE X e te)(hg:PG X tg g)(hs:swapsWithSole [tg] e pos.line X.env=pure false:=by rfl)(hw:swappedStores [tg] e X.env=pure Yk:=by rfl)(h1:(pG [tg] X.env).map (·.2)=[jw tg X.env]:=by rfl):PS X (.Assign [tg] e pos) (Zwz te g):=by intro pins s σ H D I h;refine wpAny_Assign_stores (aG (he pins s σ H _ I h) λv s1 ak=>?_) hs hw;obtain⟨x,H1,I1,r1,q1⟩:=ak;rw[h1];exact aG (hg pins s1 σ H1 x v _ I1 r1 q1) λ_ s2 q=>q
theorem Zrj{i:Nat}{x:aj}{te:TE}{pos':aP}(hN:X.N.Nodup)(hi:X.N[i]?=Ya x)(hx:Loc X.env.scope x)(he:PE X e te)(hs:nq e (Ya (.Name x pos')) pos.line X.env=pure false:=by rfl)(hf:X.fn x=true\/X.env.scope.names.lookup x=Ya .local:=by first|exact .inl rfl|exact .inr rfl|assumption):
  PS X (.Assign [.Name x pos'] e pos) (Zwz te (Ztn i)):=by
 intro pins s σ H D I h;refine wpAny_Assign_Name (aG (he pins s σ H _ I h) λv s1 ak=>?_) hs;obtain⟨y,H1,I1,r1,q1⟩:=ak;exact Sv I1 hN hi hx r1 (λs2 I2=>⟨_,H1,I2,q1⟩) hf
end
section
variable {X:Cx} {pos:aP}
def ZuD(c:TT)(tb:TS):TS:=λD σ H=>∃W:Nat->St->Hp->Prop,(∃m,W m σ H)/\∀m σ H,W m σ H ->
 c σ H λb H1=>if b=true then∃N:St->Hp->Prop,(∀σ' H',N σ' H'->∃m',m'<m/\W m' σ' H')/\tb {D with nx:=N,ct:=N,bk:=D.nx} σ H1 else D.nx σ H1
theorem ZlU{c:Expr}{body:List Ydm}{tc:TT}{tb:TS}(hp:JC (Y4 X.prog X.w) X.A X.env X.xe)(hc:PT X c tc)(hb:jz X body tb):PS X (.While c body [] pos) (ZuD tc tb):=by
 intro pins s σ H D I h;obtain⟨W,⟨m0,w0⟩,turn⟩:=h;refine wpAny_While (codeAny_whileLoop (λn s'=>∃σ' H',Inv X pins σ' H' s'/\W n σ' H') ?_ m0 ⟨σ,H,I,w0⟩);rintro n s1 ⟨σ1,H1,I1,w1⟩;refine wZ hp (aG (hc pins s1 σ1 H1 _ I1 (turn n σ1 H1 w1)) λb s2 ak=>?_);obtain⟨H2,I2,q2⟩:=ak;cases b with
 | true=>
  obtain⟨N,hN,q2⟩:=q2;rw[if_pos rfl];refine wZ hp (aG (hb pins s2 σ1 H2 _ I2 q2) λf s3 q3=>?_);cases f with
  |next=>obtain⟨σ3,H3,I3,n3⟩:=q3;obtain⟨m',hm,w3⟩:=hN σ3 H3 n3;exact⟨m',hm,σ3,H3,I3,w3⟩|cont=>obtain⟨σ3,H3,I3,n3⟩:=q3;obtain⟨m',hm,w3⟩:=hN σ3 H3 n3;exact⟨m',hm,σ3,H3,I3,w3⟩|brk=>exact q3|ret v=>exact q3
 |false=>rw[if_neg mH];exact Ey ⟨σ1,H2,I2,q2⟩
end
structure It where
 go:Nat->Hp->Prop
 K1:Nat->Hp->V->Hp->Prop
 stop:Nat->Hp->Prop
def gP(X:Cx)(pins:List (Yn×aB))(H:Hp)(b:Yn):Prop:=H b=Yk/\b≠X.env.locals/\b∉X.fs/\(b∈X.ex\/X.s₀.heap.objs.size<=b)/\(∀x c,X.env.cells.lookup x=Ya c->c≠b)/\∀p∈X.pn++pins,p.1≠b
theorem Inv.uJ{X:Cx}{pins:List (Yn×aB)}{σ:St}{H H':Hp}{s:Yg}{b:Yn}(I:Inv X pins σ H s)(hb:s.heap.objs.size<=b)(hn:H' b=Yk):gP X pins H' b:=by
 refine⟨hn,tu (Yo I.lt hb),I.Ac9 hb,.inr (Yu I.sz hb),λx c e z=>?_,λp hp z=>?_⟩
 .obtain⟨v,q⟩:=I.cell x c e;exact absurd (Yo q.lt (by rw[z];exact hb)) (pQ _)
 .exact absurd (Yo (Yp (I.pin p hp).1) (by rw[z];exact hb)) (pQ _)
structure Turn(P:aX)(w:aU)(K:Yc)(tg:Expr)(J:It)(fp:List Yn)(it:Yn)(tn:Nat->au->Prop):Prop where
 mem:it∈fp
 obj:∀i h,tn i h->∀b∈fp,∃o,h.get? b=Ya o/\∀v,o.data≠ .cell v
 keep:∀i h h',tn i h->(∀b∈fp,∀o,h.get? b=Ya o->h'.get? b=Ya o)->tn i h'
 item:∀(X:Cx),X.prog=P->X.w=w->X.K=K->X.calm=true->∀(i:Nat) (pins:List (Yn×aB)) (s:Yg) (σ:St) (H:Hp) (E:Yd->Yg->Prop),Inv X pins σ H s->(∀b∈fp,gP X pins H b)->tn i s.heap->J.go i H ->
  Yy (Y4 P w) X.A (iu (.ref it)) (λr s1=>∃u,r=Ya u/\
   Yy (Y4 P w) X.A (w6 tg (.ref it) u) (λ_ s2=>∃x H',Inv X pins σ H' s2/\RelV x u/\J.K1 i H x H'/\tn (i+1) s2.heap/\∀b∈fp,H' b=Yk) E s1) E s
 done:∀(X:Cx),X.prog=P->X.w=w->X.K=K->X.calm=true->∀(i:Nat) (pins:List (Yn×aB)) (s:Yg) (σ:St) (H:Hp) (E:Yd->Yg->Prop),Inv X pins σ H s->(∀b∈fp,gP X pins H b)->tn i s.heap->J.stop i H ->
  Yy (Y4 P w) X.A (iu (.ref it)) (λr s1=>r=Yk/\Inv X pins σ H s1) E s
 self:∀(A:bB) (i:Nat) (s:Yg) (Q:Yd->Yg->Prop) (E:Yd->Yg->Prop),tn i s.heap->Q (.ref it) s->Yy (Y4 P w) A (zX (.ref it)) Q E s
noncomputable abbrev TI:=St->Hp->(It->Hp->Prop)->Prop
def PIE(X:Cx)(pins:List (Yn×aB))(σ:St)(tg:Expr)(R:It->Hp->Prop)(itv:Yd)(s2:Yg):Prop:=∃(it:Yn) (fp:List Yn) (tn:Nat->au->Prop) (J:It) (H':Hp),itv= .ref it/\Inv X pins σ H' s2/\Turn X.prog X.w X.K tg J fp it tn/\tn 0 s2.heap/\(∀b∈fp,gP X pins H' b)/\R J H'
def PI(X:Cx)(tg iter:Expr)(wi:TI):Prop:=
 ∀(pins:List (Yn×aB)) (s:Yg) (σ:St) (H:Hp) (R:It->Hp->Prop),Inv X pins σ H s->wi σ H R ->
  Yy (Y4 X.prog X.w) X.A (aH iter X.env) (λv s1=>Yy (Y4 X.prog X.w) X.A (zX v) (PIE X pins σ tg R) X.xe s1) X.xe s
theorem K3{M:Model}{A:bB}{E:Yd->Yg->Prop}{s:Yg}{it:Yn}{u:Yd}{o:aB}{n:String}{vs:Array Yd}{Q:Unit->Yg->Prop}(ho:s.heap.get? it=Ya o)(hc:o.cls= .type n)(hd:o.data= .fields vs)(hn:["enumerate","zip","dict_itemiterator","dict_reverseitemiterator","odict_iterator","itertools.zip_longest","itertools.pairwise"].contains n=false)(hQ:Q () s):Yy M A (w6 tg (.ref it) u) Q E s:=by
 unfold w6;cases tg<;>first
  |exact Yi hQ
  | (cases u<;>first
    |exact Yi hQ
    | (refine Yb (QL ho ?_)
       rw[hc,hd];show Yy M A (if(["enumerate","zip","dict_itemiterator","dict_reverseitemiterator","odict_iterator","itertools.zip_longest","itertools.pairwise"].contains n&&vs[0]?==Ya (jN _))=true then _ else _) Q E s;rw[if_neg (by intro h;rw[hn,Bool.false_and]at h;cases h)];exact Yi hQ))
noncomputable def Itl(K:Yc)(a:Yn):It:=⟨λi H=>∃xs x,cD K H a xs/\xs[i]?=Ya x,λi H x H'=>H'=H/\∀xs,cD K H a xs->xs[i]?=Ya x,λi H=>∃xs,cD K H a xs/\xs.length<=i⟩
noncomputable def Itt(K:Yc)(a:Yn):It:=⟨λi H=>∃xs x,cL K H a xs/\xs[i]?=Ya x,λi H x H'=>H'=H/\∀xs,cL K H a xs->xs[i]?=Ya x,λi H=>∃xs,cL K H a xs/\xs.length<=i⟩
noncomputable def K4(lo:Int)(n:Nat):It:=⟨λi _=>i<n,λi H x H'=>H'=H/\x= .int (lo+i),λi _=>n<=i⟩
theorem ZoJ{P:aX}{w:aU}(a it:Yn):Turn P w K tg (Itl K a) [it] it (λi h=>h.IsListIter it a i)where
 mem:=by simp
 obj:=λi h st b hb=>by
  have e:b=it:=by simpa using hb
  subst e;obtain⟨o,e,c,d⟩:=st;exact⟨o,e,λv z=>by rw[d]at z;cases z⟩
 keep:=λi h h' st k=>st.at λo e=>k it (by simp) o e
 item:=by intro X hP hw hK hc i pins s σ H E I hf st hg;subst hP hw hK;obtain⟨xs,x,hq,hx⟩:=hg;obtain⟨its,rv,p,hz⟩:=I.list hq;obtain⟨u,hu,ru⟩:=rv.get hx;obtain⟨f0,f1,f2,f3,f4,f5⟩:=hf it (by simp);refine wpAny_pyNext_list_item st p.isList (x:=u) (by simpa using hu) λh' st' sb=>?_;have I1:Inv X pins σ H {s with heap:=h'}:=I.turned (t':=s.toks) (λb o hb e=>(sb.2 b hb).trans e) f0 f1 f3 f4 f5;obtain⟨o,e,c,d⟩:=id st';exact⟨u,rfl,K3 (s:={s with heap:=h'}) e c d (by decide) ⟨x,H,I1,ru,⟨rfl,λys hy=>by rw[I.X4 hy hq];exact hx⟩,st',λb hb=>(hf b hb).1⟩⟩
 done:=by intro X hP hw hK hc i pins s σ H E I hf st hg;subst hP hw hK;obtain⟨xs,hq,hx⟩:=hg;obtain⟨its,rv,p,hz⟩:=I.list hq;obtain⟨f0,f1,f2,f3,f4,f5⟩:=hf it (by simp);have hl:=rv.length;exact wpAny_pyNext_list_end (I.ok.hd hc) st p.isList (by simp;exact lC 2 2268279672881 T1 hl hx) λh' eb=>⟨rfl,I.turned (t':=s.toks) (λb o hb e=>eb b o hb e) f0 f1 f3 f4 f5⟩
 self:=λ_ _ _ _ _ st h=>wpAny_pyIter_listiter st h
theorem Zm1{P:aX}{w:aU}(a it:Yn):Turn P w K tg (Itt K a) [it] it (λi h=>h.IsTupleIter it a i)where
 mem:=by simp
 obj:=λi h st b hb=>by
  have e:b=it:=by simpa using hb
  subst e;obtain⟨o,e,c,d⟩:=st;exact⟨o,e,λv z=>by rw[d]at z;cases z⟩
 keep:=λi h h' st k=>st.at λo e=>k it (by simp) o e
 item:=by intro X hP hw hK hc i pins s σ H E I hf st hg;subst hP hw hK;obtain⟨xs,x,hq,hx⟩:=hg;obtain⟨its,rv,p,hz⟩:=I.tuple hq;obtain⟨u,hu,ru⟩:=rv.get hx;obtain⟨f0,f1,f2,f3,f4,f5⟩:=hf it (by simp);refine wpAny_pyNext_tuple_item st (show s.heap.IsTuple a its.toArray from p) (x:=u) (by simpa using hu) λh' st' sb=>?_;have I1:Inv X pins σ H {s with heap:=h'}:=I.turned (t':=s.toks) (λb o hb e=>(sb.2 b hb).trans e) f0 f1 f3 f4 f5;obtain⟨o,e,c,d⟩:=id st';exact⟨u,rfl,K3 (s:={s with heap:=h'}) e c d (by decide) ⟨x,H,I1,ru,⟨rfl,λys hy=>by rw[I.Pa hy hq];exact hx⟩,st',λb hb=>(hf b hb).1⟩⟩
 done:=by intro X hP hw hK hc i pins s σ H E I hf st hg;subst hP hw hK;obtain⟨xs,hq,hx⟩:=hg;obtain⟨its,rv,p,hz⟩:=I.tuple hq;obtain⟨f0,f1,f2,f3,f4,f5⟩:=hf it (by simp);have hl:=rv.length;exact wpAny_pyNext_tuple_end (I.ok.hd hc) st (show s.heap.IsTuple a its.toArray from p) (by simp;exact lC 2 2268279672881 T1 hl hx) λh' eb=>⟨rfl,I.turned (t':=s.toks) (λb o hb e=>eb b o hb e) f0 f1 f3 f4 f5⟩
 self:=λ_ _ _ _ _ st h=>wpAny_pyIter_tupleiter st h
theorem ZmB{P:aX}{w:aU}(it:Yn)(lo:Int)(n:Nat):Turn P w K tg (K4 lo n) [it] it (λi h=>IsRangeIter h it (lo+(i:Nat)*1) ((n:Int)-(i:Nat)) 1)where
 mem:=by simp
 obj:=λi h st b hb=>by
  have e:b=it:=by simpa using hb
  subst e;exact⟨_,st,λv z=>by have z':Data.fields _=Data.cell v:=z;cases z'⟩
 keep:=λi h h' st k=>k it (by simp) _ st
 item:=by intro X hP hw hK hc i pins s σ H E I hf st hg;subst hP hw hK;obtain⟨f0,f1,f2,f3,f4,f5⟩:=hf it (by simp);have W:=Walks.range (prog:=X.prog) (w:=X.w) (I.ok.hd hc) it lo 1 n;refine W.item i s _ _ hg st λv h' tk hv st' kk=>?_;obtain⟨t,rfl⟩:=hv;have I1:Inv X pins σ H {s with heap:=h',toks:=tk}:=I.turned (λb o hb e=>kk b o (by simpa using hb) e) f0 f1 f3 f4 f5;refine⟨_,rfl,K3 (s:={s with heap:=h',toks:=tk}) (n:="range_iterator") st' rfl rfl (by decide) ⟨.int (lo+i),H,I1,⟨t,?_⟩,⟨rfl,rfl⟩,st',λb hb=>(hf b hb).1⟩⟩;rw[Int.mul_one]
 done:=by intro X hP hw hK hc i pins s σ H E I hf st hg;subst hP hw hK;obtain⟨f0,f1,f2,f3,f4,f5⟩:=hf it (by simp);exact wpAny_pyNext_range_end (I.ok.hd hc) st (by have:n<=i:=hg;exact iN [_,_] [] 1 0xe1808f81001 T1 this) λh' eb=>⟨rfl,I.turned (t':=s.toks) (λb o hb e=>eb b o hb e) f0 f1 f3 f4 f5⟩
 self:=λ_ _ _ _ _ st h=>wpAny_pyIter_rangeiter st h
end L2
namespace L2
open PySem PySem.Spec PyProof.Rows
variable{fp:List Yn}{pins:List (Yn×aB)}
section
variable {X:Cx} {tg:Expr}
def Zxa(K:Yc)(tl:TE):TI:=λσ H R=>tl σ H λx H1=>∃a,x= .ref a/\(∃xs,cD K H1 a xs)/\R (Itl K a) H1
def Zzs(K:Yc)(tl:TE):TI:=λσ H R=>tl σ H λx H1=>∃a,x= .ref a/\(∃xs,cL K H1 a xs)/\R (Itt K a) H1
theorem Zsn{l:Expr}{tl:TE}(hl:PE X l tl):PI X tg l (Zxa X.K tl):=by
 intro pins s σ H R I h;refine aG (hl pins s σ H _ I h) λv s1 ak=>?_;obtain⟨x,H1,I1,r1,q1⟩:=ak;obtain⟨a,e,⟨xs,hq⟩,q⟩:=q1;subst e;cases r1;obtain⟨its,rv,p,hz⟩:=I1.list hq;refine Yke p.isList ?_;refine⟨s1.heap.objs.size,[s1.heap.objs.size],_,_,H1,rfl,I1.kept (t':=s1.toks) λb o e=>Yj _ e,ZoJ a _,⟨_,Y0 _ rfl,rfl,rfl⟩,λb hb=>?_,q⟩;have e:b=s1.heap.objs.size:=by simpa using hb
 subst e;exact I1.uJ (Yl _) (I1.hok.fresh (Yl _))
theorem ZuQ{l:Expr}{tl:TE}(hl:PE X l tl):PI X tg l (Zzs X.K tl):=by
 intro pins s σ H R I h;refine aG (hl pins s σ H _ I h) λv s1 ak=>?_;obtain⟨x,H1,I1,r1,q1⟩:=ak;obtain⟨a,e,⟨xs,hq⟩,q⟩:=q1;subst e;cases r1;obtain⟨its,rv,p,hz⟩:=I1.tuple hq;refine zM (show s1.heap.IsTuple a its.toArray from p) ?_;refine⟨s1.heap.objs.size,[s1.heap.objs.size],_,_,H1,rfl,I1.kept (t':=s1.toks) λb o e=>Yj _ e,Zm1 a _,⟨_,Y0 _ rfl,rfl,rfl⟩,λb hb=>?_,q⟩;have e:b=s1.heap.objs.size:=by simpa using hb
 subst e;exact I1.uJ (Yl _) (I1.hok.fresh (Yl _))
theorem Zpp{σ:St}{H:Hp}{s:Yg}{R:It->Hp->Prop}{E:Yd->Yg->Prop}{lo hi:Int}{t u v:jx}{tk:Nat}(I:Inv X pins σ H s)(h1:-(2^62)<=lo)(h2:lo<2^62)(h3:-(2^62)<=hi)(h4:hi<2^62)(q:R (K4 lo (hi-lo).toNat) H):Yy (Y4 X.prog X.w) X.A (zX (.ref s.heap.objs.size)) (PIE X pins σ tg R) E {s with heap:=s.heap.push {cls:=.type "range",data:=.fields #[.int lo t,.int hi u,.int 1 v]},toks:=tk}:=by
 refine wpAny_pyIter_range (IsRange.new ..) (small_one h1 h2 h3 h4) ?_;have I1:Inv X pins σ H {s with heap:=s.heap.push {cls:=.type "range",data:=.fields #[.int lo t,.int hi u,.int 1 v]},toks:=tk}:=I.kept λb o e=>Yj _ e;refine⟨(s.heap.push {cls:=.type "range",data:=.fields #[.int lo t,.int hi u,.int 1 v]}).objs.size,[(s.heap.push {cls:=.type "range",data:=.fields #[.int lo t,.int hi u,.int 1 v]}).objs.size],_,_,H,rfl,
  I1.kept (t':=tk) λb o e=>Yj _ e,ZmB _ lo (hi-lo).toNat,?_,λb hb=>?_,q⟩
 .have e1:lo+((0:Nat):Int)*1=lo:=by simp
  have e2:(((hi-lo).toNat:Nat):Int)-((0:Nat):Int)=Builtin.Range.rangeSize lo hi 1:=by rw[rangeSize_one];split <;>omega
  show IsRangeIter _ _ (lo+((0:Nat):Int)*1) ((((hi-lo).toNat:Nat):Int)-((0:Nat):Int)) 1;rw[e1,e2];exact Y0 _ rfl
 .have e:b=(s.heap.push {cls:=.type "range",data:=.fields #[.int lo t,.int hi u,.int 1 v]}).objs.size:=by simpa using hb
  subst e;exact I1.uJ (Yl _) (I1.hok.fresh (Yl _))
def Zwq(ta:TA):TI:=λσ H R=>ta σ H λvs H1=>∃j:Int,vs=[.int j]/\ -(2^62)<=j/\j<2^62/\R (K4 0 j.toNat) H1
theorem Zpa{a:Expr}{ta:TA}{p pos:aP}(hg:Gl X "range")(hm:X.mg "range" =Yk)(ha:PA X [a] ta)(hs:Yt [a] X.env=[(false,aH a X.env)]:=by rfl):PI X tg (.Call (.Name "range" p) [a] [] pos) (Zwq ta):=by
 intro pins s σ H R I h;refine Call_ (xY I hg hm boot_range (Ft (aG (ha pos pins s σ H _ I h) λus s1 ak=>?_) hs rfl));obtain⟨vs,H1,I1,r1,q1⟩:=ak;obtain⟨j,e,q1,q2,q⟩:=q1;subst e;cases r1 with
 |cons r rr=>
  cases rr
  obtain⟨t,rfl⟩:=r;exact call_range_1 (Zpp I1 (by omega) (by omega) q1 q2 (by simpa using q))
def Zze(wi:TI)(g:TG)(tb:TS):TS:=λD σ H=>wi σ H λJ H1=>∃W:Nat->Nat->St->Hp->Prop,(∃m,W 0 m σ H1)/\∀i m σ H,W i m σ H ->
 (J.stop i H/\D.nx σ H)\/(J.go i H/\∃N:St->Hp->Prop,(∀σ' H',N σ' H'->∃m',m'<m/\W (i+1) m' σ' H')/\∀x H',J.K1 i H x H'->g x σ H' λσ2 H2=>tb {D with nx:=N,ct:=N,bk:=D.nx} σ2 H2)
noncomputable def pU(fp:List Yn)(h:au):List (Yn×aB):=fp.filterMap λb=>(h.get? b).map λo=>(b,o)
theorem Bb{h:au}{b:Yn}{o:aB}(hb:b∈fp)(e:h.get? b=Ya o):(b,o)∈pU fp h:=xO.mpr ⟨b,hb,by rw[e];rfl⟩
theorem ZoE{h:au}{p:Yn×aB}(hp:p∈pU fp h):p.1∈fp/\h.get? p.1=Ya p.2:=by
 obtain⟨b,hb,e⟩:=xO.mp hp;cases q:h.get? b with
 |none=>rw[q]at e;cases e|some o=>rw[q]at e;have e':(b,o)=p:=Y3 e;subst e';exact⟨hb,q⟩
theorem Inv.pinned{σ:St}{H:Hp}{s:Yg}(I:Inv X pins σ H s)(hf:∀b∈fp,gP X pins H b)(ho:∀b∈fp,∃o,s.heap.get? b=Ya o/\∀v,o.data≠ .cell v):Inv X (pins++pU fp s.heap) σ H s:=I.X8 λp hp=>(sX.mp hp).elim (λz=>I.pin p (mD _ z)) λz=>by obtain⟨hb,e⟩:=ZoE z;obtain⟨f0,f1,f2,_⟩:=hf p.1 hb;obtain⟨o,e',d⟩:=ho p.1 hb;rw[e]at e';cases e';exact⟨e,f0,f1,f2,d⟩
theorem Inv.zE{pl:List (Yn×aB)}{σ:St}{H:Hp}{s:Yg}(I:Inv X (pins++pl) σ H s):Inv X pins σ H s:=I.X8 λp hp=>I.pin p (mD _ (z8 _ hp))
theorem SM{iter:Expr}{body:List Ydm}{wi:TI}{g:TG}{tb:TS}{pos:aP}(hp:JC (Y4 X.prog X.w) X.A X.env X.xe)(hc:X.calm=true)(hi:PI X tg iter wi)(hg:PG X tg g)(hb:jz X body tb)(hs:∀x,wY iter X.env x=pure x:=by intro _;rfl):PS X (.For tg iter body [] pos) (Zze wi g tb):=by
 intro pins s σ H D I h;refine wpAny_For (aG (hi pins s σ H _ I h) λv s1 h1=>aG h1 λitv s2 h2=>?_) hs;obtain⟨it,fp,tn,J,H2,e,I2,T,st2,f2,W,⟨m0,w0⟩,turn⟩:=h2;subst e;have stat:∀{H':Hp},(∀b∈fp,H' b=Yk)->∀b∈fp,gP X pins H' b:=λhn b hb=>⟨hn b hb,(f2 b hb).2⟩;refine codeAny_forLoop_any (λn s'=>∃i σ' H',Inv X pins σ' H' s'/\tn i s'.heap/\(∀b∈fp,H' b=Yk)/\W i n σ' H') ?_ m0 ⟨0,σ,H2,I2,st2,λb hb=>(f2 b hb).1,w0⟩;rintro n s3 ⟨i,σ3,H3,I3,st3,fr3,w3⟩;rcases turn i n σ3 H3 w3 with⟨stop,qn⟩|⟨go,N,hN,step⟩
 .refine wZ hp (aG (T.done X rfl rfl rfl hc i pins s3 σ3 H3 X.xe I3 (stat fr3) st3 stop) λr s4 ⟨hr,I4⟩=>?_);subst hr;exact Ey ⟨σ3,H3,I4,qn⟩
 .refine wZ hp (aG (T.item X rfl rfl rfl hc i pins s3 σ3 H3 X.xe I3 (stat fr3) st3 go) λr s4 ⟨u,hr,h4⟩=>?_);subst hr;refine wZ hp (aG h4 λ_ s5 ak=>?_);obtain⟨x,H5,I5,r5,y5,jb,jQ⟩:=ak;have SN:=I5.pinned (stat jQ) (T.obj _ _ jb);refine wZ hp (aG (hg _ s5 σ3 H5 x u _ SN r5 (step x H5 y5)) λ_ s6 ak=>?_);obtain⟨σ6,H6,I6,q6⟩:=ak;refine wZ hp (aG (hb _ s6 σ6 H6 _ I6 q6) λf s7 q7=>?_);have again:∀{σ7:St} {H7:Hp},Inv X (pins++pU fp s5.heap) σ7 H7 s7->N σ7 H7->∃m,m<n/\∃i σ' H',Inv X pins σ' H' s7/\tn i s7.heap/\(∀b∈fp,H' b=Yk)/\W i m σ' H':=λ{σ7 H7} I7 n7=>by
   obtain⟨m',hm,w7⟩:=hN σ7 H7 n7;refine⟨m',hm,i+1,σ7,H7,I7.zE,T.keep _ _ _ jb λb hb o e=>(I7.pin (b,o) (mD _ (mD _ (Bb hb e)))).1,λb hb=>?_,w7⟩;obtain⟨o,e,d⟩:=T.obj _ _ jb b hb;exact(I7.pin (b,o) (mD _ (mD _ (Bb hb e)))).2.1
  cases f with
  |next=>obtain⟨σ7,H7,I7,n7⟩:=q7;exact again I7 n7|cont=>obtain⟨σ7,H7,I7,n7⟩:=q7;exact again I7 n7|brk=>obtain⟨σ7,H7,I7,q7⟩:=q7;exact⟨σ7,H7,I7.zE,q7⟩|ret v=>obtain⟨x7,σ7,H7,I7,r7,q7⟩:=q7;exact⟨x7,σ7,H7,I7.zE,r7,q7⟩
end
end L2
namespace L2
open PySem PySem.Spec PyProof.Rows
noncomputable abbrev R2:=V->V->Hp->VK->Prop
def aV(X:Cx)(f:Yd->Yd->lu Yd)(r:R2):Prop:=
 ∀(pins:List (Yn×aB)) (s:Yg) (σ:St) (H:Hp) (x y:V) (v u:Yd) (Q:VK),Inv X pins σ H s->RelV x v->RelV y u->r x y H Q ->
  Yy (Y4 X.prog X.w) X.A (f v u) (EP X pins σ Q) X.xe s
def tQ(X:Cx)(f:Yd->lu Yd)(r:V->Hp->VK->Prop):Prop:=
 ∀(pins:List (Yn×aB)) (s:Yg) (σ:St) (H:Hp) (x:V) (v:Yd) (Q:VK),Inv X pins σ H s->RelV x v->r x H Q ->
  Yy (Y4 X.prog X.w) X.A (f v) (EP X pins σ Q) X.xe s
def bD(X:Cx)(f:Yd)(r:List V->Hp->VK->Prop):Prop:=
 ∀(pins:List (Yn×aB)) (s:Yg) (σ:St) (H:Hp) (xs:List V) (us:List Yd) (Q:VK),Inv X pins σ H s->Vals xs us->r xs H Q ->
  Yy (Y4 X.prog X.w) X.A (call f us) (EP X pins σ Q) X.xe s
def Gg(r:R2)(ta tb:TE):TE:=λσ H Q=>ta σ H λx H1=>tb σ H1 λy H2=>r x y H2 Q
def tUn(r:V->Hp->VK->Prop)(ta:TE):TE:=λσ H Q=>ta σ H λx H1=>r x H1 Q
def rI(C:Int->Int->Prop)(g:Int->Int->V):R2:=λx y H Q=>∃i j,x= .int i/\y= .int j/\C i j/\Q (g i j) H
def vC(g:Int->Int->V):R2:=λx y H Q=>∃i j,x= .int i/\y= .int j/\Q (g i j) H
noncomputable def rU(g:Int->V):V->Hp->VK->Prop:=λx H Q=>∃i,x= .int i/\Q (g i) H
variable{pins:List (Yn×aB)}{f:Yd->Yd->lu Yd}
section
variable {X:Cx} {a b c:Expr} {ta tb tc:TE} {pos:aP}
theorem SQ(ha:PE X a ta)(hb:PE X b tb){s:Yg}{σ:St}{H:Hp}{R:V->V->Hp->Prop}(I:Inv X pins σ H s)(h:ta σ H λx H1=>tb σ H1 λy H2=>R x y H2){Q:Yd->Yg->Prop}(hf:∀v u s2 x y H2,Inv X pins σ H2 s2->RelV x v->RelV y u->R x y H2->Yy (Y4 X.prog X.w) X.A (f v u) Q X.xe s2):
  Yy (Y4 X.prog X.w) X.A (aH a X.env) (λv s₁=>Yy (Y4 X.prog X.w) X.A (aH b X.env) (λu s₂=>Yy (Y4 X.prog X.w) X.A (f v u) Q X.xe s₂) X.xe s₁) X.xe s:=by
 refine aG (ha pins s σ H _ I h) λv s1 ak=>?_;obtain⟨x,H1,I1,r1,q1⟩:=ak;refine aG (hb pins s1 σ H1 _ I1 q1) λu s2 ak=>?_;obtain⟨y,H2,I2,r2,q2⟩:=ak;exact hf v u s2 x y H2 I2 r1 r2 q2
theorem Zwf{op:Operator}{r:R2}(ho:aV X (i_ op) r)(ha:PE X a ta)(hb:PE X b tb):PE X (.BinOp a op b pos) (Gg r ta tb):=by intro pins s σ H Q I h;exact wpAny_BinOp (SQ ha hb I h λv u s2 x y H2 I2 rx ry q=>ho pins s2 σ H2 x y v u Q I2 rx ry q)
theorem ZxD{op:UnaryOp}{r:V->Hp->VK->Prop}(ho:tQ X (JG op) r)(ha:PE X a ta):PE X (.UnaryOp op a pos) (tUn r ta):=by intro pins s σ H Q I h;exact UnaryOp_ (aG (ha pins s σ H _ I h) λv s1 ⟨x,H1,I1,r1,q1⟩=>ho pins s1 σ H1 x v Q I1 r1 q1)
theorem K5{C:Int->Int->Prop}{g:Int->Int->Int}(rule:∀(i j:Int) (t u:jx) (s:Yg) (Q:Yd->Yg->Prop) (E:Yd->Yg->Prop),C i j->Q (.int (g i j) s.toks) {s with toks:=s.toks+1}->Yy (Y4 X.prog X.w) X.A (f (.int i t) (.int j u)) Q E s):
  aV X f (rI C λi j=>.int (g i j)):=by
 intro pins s σ H x y v u Q I rx ry h;obtain⟨i,j,rfl,rfl,hc,q⟩:=h;obtain⟨t,rfl⟩:=rx;obtain⟨t',rfl⟩:=ry;exact rule i j t t' s _ _ hc ⟨.int (g i j),H,I.tok _,⟨_,rfl⟩,q⟩
theorem Zxf{g:Int->Int->Int}(rule:∀(i j:Int) (t u:jx) (s:Yg) (Q:Yd->Yg->Prop) (E:Yd->Yg->Prop),Q (.int (g i j) s.toks) {s with toks:=s.toks+1}->Yy (Y4 X.prog X.w) X.A (f (.int i t) (.int j u)) Q E s):
  aV X f (vC λi j=>.int (g i j)):=by
 intro pins s σ H x y v u Q I rx ry h;obtain⟨i,j,rfl,rfl,q⟩:=h;obtain⟨t,rfl⟩:=rx;obtain⟨t',rfl⟩:=ry;exact rule i j t t' s _ _ ⟨.int (g i j),H,I.tok _,⟨_,rfl⟩,q⟩
theorem K6{g:Int->Int->Bool}(rule:∀(i j:Int) (t u:jx) (s:Yg) (Q:Yd->Yg->Prop) (E:Yd->Yg->Prop),Q (.bool (g i j)) s->Yy (Y4 X.prog X.w) X.A (f (.int i t) (.int j u)) Q E s):
  aV X f (vC λi j=>.bl (g i j)):=by
 intro pins s σ H x y v u Q I rx ry h;obtain⟨i,j,rfl,rfl,q⟩:=h;obtain⟨t,rfl⟩:=rx;obtain⟨t',rfl⟩:=ry;exact rule i j t t' s _ _ ⟨.bl (g i j),H,I,rfl,q⟩
def ZyJ(i j:Int):Prop:=0<j/\j<1073741824
def ZyQ(i j:Int):Prop:=0<=j/\j<=1000000/\i.natAbs<2^64
def SX(i j:Int):Prop:=(-(2^64)<i/\i<2^64)\/(-(2^64)<j/\j<2^64)
theorem SX.ok{i j:Int}(h:SX i j):IntMulOk i j:=by
 rcases h with⟨h1,h2⟩|⟨h1,h2⟩
 .exact .of_left (intBits_le_64 h1 h2)
 .exact .of_right (intBits_le_64 h1 h2)
theorem Zu3:aV X (i_ .Add) (vC λi j=>.int (i+j)):=Zxf λ_ _ _ _ _ _ _ q=>add_int q
theorem Zt5:aV X (i_ .Sub) (vC λi j=>.int (i-j)):=Zxf λ_ _ _ _ _ _ _ q=>sub_int q
theorem ZtZ:aV X (i_ .Mult) (rI SX λi j=>.int (i*j)):=K5 λ_ _ _ _ _ _ _ hc q=>mul_int q hc.ok
theorem Zs4:aV X (i_ .FloorDiv) (rI ZyJ λi j=>.int (i / j)):=K5 λi j _ _ _ _ _ hc q=>by have h1:(0:Int)<j:=hc.1;have h2:j<1073741824:=hc.2;exact floordiv_int (by exactλz=>iN [] [_] 2 26014245025 T1 z h1) (by rw[Int.fdiv_eq_ediv_of_nonneg i (by exact Kd h1)];exact q) (.inl (PyProof.noPylong_small (by omega)))
theorem Zuj:aV X (i_ .Mod) (rI (λ_ j=>0<j) λi j=>.int (i % j)):=K5 λi j _ _ _ _ _ hc q=>by have h1:(0:Int)<j:=hc;exact mod_int' (by exactλz=>iN [] [_] 2 26014245025 T1 z h1) (by rw[Int.fmod_eq_emod_of_nonneg i (by exact Kd h1)];exact q)
theorem Zvz:aV X (i_ .Pow) (rI ZyQ λi j=>.int (i^j.toNat)):=K5 λ_ _ _ _ _ _ _ hc q=>pow_int_small hc.1 hc.2.1 hc.2.2 q
theorem unI{f:Yd->lu Yd}{g:Int->Int}(rule:∀(i:Int) (t:jx) (s:Yg) (Q:Yd->Yg->Prop) (E:Yd->Yg->Prop),Q (.int (g i) s.toks) {s with toks:=s.toks+1}->Yy (Y4 X.prog X.w) X.A (f (.int i t)) Q E s):
  tQ X f (rU λi=>.int (g i)):=by
 intro pins s σ H x v Q I rx h;obtain⟨i,rfl,q⟩:=h;obtain⟨t,rfl⟩:=rx;exact rule i t s _ _ ⟨.int (g i),H,I.tok _,⟨_,rfl⟩,q⟩
theorem ZuK:tQ X (JG .USub) (rU λi=>.int (-i)):=unI λ_ _ _ _ _ q=>neg_int q
end
theorem S6{i j:aj}:decide (V.str i=V.str j)=(i==j):=by rw[Yll];simp
section
variable {X:Cx} {a b c:Expr} {ta tb tc:TE} {pos:aP}
theorem ZpR{σ:St}{H:Hp}{s:Yg}{Q:VK}{k k':Bool}(I:Inv X pins σ H s)(q:Q (.bl k) H)(e:k=k'):EP X pins σ Q (.bool k') s:=by subst e;exact⟨.bl k,H,I,rfl,q⟩
theorem ZxF:aV X (iZ .Lt) (vC λi j=>.bl (decide (i<j))):=K6 λ_ _ _ _ _ _ _ q=>lt_int q
theorem Zwi:aV X (iZ .LtE) (vC λi j=>.bl (decide (i<=j))):=K6 λ_ _ _ _ _ _ _ q=>le_int q
theorem Zw0:aV X (iZ .Gt) (vC λi j=>.bl (decide (j<i))):=K6 λ_ _ _ _ _ _ _ q=>gt_int q
theorem Zxd:aV X (iZ .GtE) (vC λi j=>.bl (decide (j<=i))):=K6 λ_ _ _ _ _ _ _ q=>ge_int q
theorem Zor:aV X (iZ .In) (λx y H Q=>∃i j,x= .str i/\y= .str j/\Q (.bl (!(Builtin.Str.occurrences j i 0 j.length 1).isEmpty)) H):=by intro pins s σ H x y v u Q I rx ry h;obtain⟨i,j,rfl,rfl,q⟩:=h;obtain⟨t,rfl⟩:=rx;obtain⟨t',rfl⟩:=ry;exact in_str (ZpR I q rfl)
theorem ZtU:aV X (iZ .Is) (λx y H Q=>y= .non/\Q (.bl (decide (x= .non))) H):=by
 intro pins s σ H x y v u Q I rx ry h;obtain⟨rfl,q⟩:=h;cases ry;refine is_none_gen (ZpR I q ?_);cases x<;>first
  |(cases rx;rfl)
  |(obtain⟨t,rfl⟩:=rx;rfl)
noncomputable def isObj:HO->Bool
 | .lst _=>true|.ins _ _ _=>true|_=>false
theorem S8{s:Yg}{σ:St}{H:Hp}{a:Yn}{o:HO}(I:Inv X pins σ H s)(h:H a=Ya o)(p:isObj o=true):∃ob,s.heap.get? a=Ya ob/\ob.cls≠ .type "tuple":=by
 cases o with
 |lst xs=>obtain⟨_,its,n,_,e⟩:xs.length<=Y7/\∃(its:List Yd) (n:Nat),Vals xs its/\s.heap.get? a=Ya {cls:=.type "list",data:=.seq its.toArray n}:=I.hok a _ h;exact⟨_,e,(by show Value.type "list" ≠ .type "tuple";decide +kernel)⟩|ins C dx fs=>have x:=I.hok a _ h;obtain⟨_,_,_,e,_⟩:=x;exact⟨_,e,(by show Value.ref C≠ .type "tuple";exactλz=>by cases z)⟩|_=>exact absurd (show false=true from p) mH
theorem aV.or{r r':R2}(h:aV X f r)(h':aV X f r'):aV X f (λx y H Q=>r x y H Q\/r' x y H Q):=by
 intro pins s σ H x y v u Q I rx ry q;rcases q with q|q
 .exact h pins s σ H x y v u Q I rx ry q
 .exact h' pins s σ H x y v u Q I rx ry q
theorem ZsO{op:CmpOp}{r:R2}(ho:aV X (iZ op) r)(ha:PE X a ta)(hb:PE X b tb)(hm:Jw op b=false):PE X (.Compare a [op] [b] pos) (Gg r ta tb):=by intro pins s σ H Q I h;exact wpAny_Compare1 (SQ ha hb I h λv u s2 x y H2 I2 rx ry q=>ho pins s2 σ H2 x y v u Q I2 rx ry q) hm
def Zw3(t:TE):TT:=λσ H Q=>t σ H λx H'=>∃k,x= .bl k/\Q k H'
theorem Zsb{op:CmpOp}{r:R2}(ho:aV X (iZ op) r)(ha:PE X a ta)(hb:PE X b tb)(hm:Jw op b=false):PT X (.Compare a [op] [b] pos) (Zw3 (Gg r ta tb)):=by intro pins s σ H Q I h;refine wpAny_isTrue_Compare1 (aG (ha pins s σ H _ I h) λv s1 ⟨x,H1,I1,r1,q1⟩=>aG (hb pins s1 σ H1 _ I1 q1) λu s2 ⟨y,H2,I2,r2,q2⟩=>aG (ho pins s2 σ H2 x y v u _ I2 r1 r2 q2) λc s3 ⟨z,H3,I3,r3,k,e,q3⟩=>?_) hm;subst e;cases r3;exact Qm ⟨H3,I3,q3⟩
theorem Gh:(Y7:Nat)<2^63:=by rw[nj];decide
theorem Zmp:aV X (i_ .Add) (λx y H Q=>∃i j,x= .str i/\y= .str j/\i.length+j.length<=Y7/\Q (.str (i++j)) H):=by intro pins s σ H x y v u Q I rx ry h;obtain⟨i,j,rfl,rfl,hz,q⟩:=h;obtain⟨t,rfl⟩:=rx;obtain⟨t',rfl⟩:=ry;exact add_str (λt' tk=>⟨.str (i++j),H,I.tok _,⟨_,rfl⟩,q⟩) hz
theorem vals1{x:V}{us:List Yd}(r:Vals [x] us):∃u,us=[u]/\RelV x u:=by
 cases r with
 |cons r1 r2=>cases r2;exact⟨_,rfl,r1⟩
theorem vals2{x y:V}{us:List Yd}(r:Vals [x,y] us):∃u w',us=[u,w']/\RelV x u/\RelV y w':=by
 cases r with
 |cons r1 r2=>
  cases r2 with
  |cons r3 r4=>cases r4;exact⟨_,_,rfl,r1,r3⟩
theorem ZoK(hc:X.calm=true):bD X (.builtin "max") (λxs H Q=>∃i j,xs=[.int i,.int j]/\Q (.int (if j>i then j else i)) H):=by
 intro pins s σ H xs us Q I r h;obtain⟨i,j,rfl,q⟩:=h;obtain⟨u,w',rfl,⟨t,rfl⟩,⟨t',rfl⟩⟩:=vals2 r;refine max_two_ints (I.ok.hd hc) λh' tk k=>⟨_,H,I.kept k,?_,q⟩;by_cases hj:j>i
 .rw[if_pos hj,if_pos hj];exact⟨_,rfl⟩
 .rw[if_neg hj,if_neg hj];exact⟨_,rfl⟩
theorem ZoO:bD X (.type "int") (λxs H Q=>(∃i,xs=[.int i]/\Q (.int i) H)\/∃k,xs=[.bl k]/\Q (.int (if k then 1 else 0)) H):=by
 intro pins s σ H xs us Q I r h;rcases h with⟨i,rfl,q⟩|⟨k,rfl,q⟩
 .obtain⟨u,rfl,t,rfl⟩:=vals1 r;exact call_int_int ⟨.int i,H,I,⟨_,rfl⟩,q⟩
 .obtain⟨u,rfl,r1⟩:=vals1 r;cases r1;exact call_int_bool ⟨.int (if k then 1 else 0),H,I.tok _,⟨_,rfl⟩,q⟩
def ZyK(K:Yc)(x:V)(H:Hp)(n:Nat):Prop:=
 match x with
 | .str y=>y.length<=Y7/\n=y.length|.Ay y=>y.size<=Y7/\n=y.size|.ref p=>(∃xs,cD K H p xs/\n=xs.length)\/∃xs,cL K H p xs/\n=xs.length|_=>False
theorem ZqV:bD X (.builtin "len") (λxs H Q=>∃x n,xs=[x]/\ZyK X.K x H n/\Q (.int n) H):=by
 intro pins s σ H xs us Q I r h;obtain⟨x,n,rfl,e,q⟩:=h;obtain⟨u,rfl,rx⟩:=vals1 r;have hl:=Gh;have hs:Y7=16777216:=nj;cases x with
 |str y=>obtain⟨t,rfl⟩:=rx;obtain⟨hy,e'⟩:y.length<=Y7/\n=y.length:=e;subst e';exact len_str (by omega) ⟨.int _,H,I.tok _,⟨_,rfl⟩,q⟩|Ay y=>obtain⟨t,rfl⟩:=rx;obtain⟨hy,e'⟩:y.size<=Y7/\n=y.size:=e;subst e';exact PySem.W.len_bytes (by omega) ⟨.int _,H,I.tok _,⟨_,rfl⟩,q⟩|ref p=>
  cases rx
  have e':(∃xs,cD X.K H p xs/\n=xs.length)\/∃xs,cL X.K H p xs/\n=xs.length:=e;rcases e' with⟨xs,hx,e'⟩|⟨xs,hx,e'⟩
  .subst e';obtain⟨its,r',pl,hz⟩:=I.list hx;have hlen:=r'.length;exact Calls.call_len_list pl.isList (by simp only[Ym];omega) ⟨.int xs.length,H,I.tok _,⟨_,by simp only[Ym];rw[hlen]⟩,q⟩
  .subst e';obtain⟨its,r',pl,hz⟩:=I.tuple hx;have hlen:=r'.length;exact len_tuple pl (by simp only[Ym];omega) ⟨.int xs.length,H,I.tok _,⟨_,by simp only[Ym];rw[hlen]⟩,q⟩
 |_=>exact(show False from e).elim
end
end L2
namespace L2
open PySem PySem.Spec PyProof.Rows
structure xZ(h:au)(x dx C:Yn)(mA:aj->Option Yd):Prop where
 obj:h.get? x=Ya (uW C dx)
 ns:h.Ns1 dx mA
 ne:dx≠x
theorem ZoV{h:au}{dx:Yn}{mA:aj->Option Yd}(n:h.Ns1 dx mA):∃od,h.get? dx=Ya od/\∀name,JQ name od=Ya (mA name):=by
 obtain⟨o,es,ep,ho,hd,hk,_,hm⟩:=n;refine⟨o,ho,λname=>?_⟩;have e:=hm name;unfold Fd findBy at e;rw[←Array.find?_toList]at e;unfold JQ;rw[hd];dsimp only;split
 .rename_i y q;rw[q]at e;exact congrArg Ya e
 .rename_i q;rw[q]at e;have a:es.toList.any (·.refKey)=false:=by
   rw[List.any_eq_false];intro y hy;obtain⟨z,t,hkey⟩:=hk y (Yit.mp hy);simp[DictEntry.refKey,hkey]
  have a':¬es.toList.any (·.refKey)=true:=by rw[a];exact mH
  rw[if_neg a'];exact congrArg Ya e
theorem xZ.look{h:au}{x dx C:Yn}{mA:aj->Option Yd}(I:xZ h x dx C mA):∃od,PySem.W.InstAt h x (uW C dx) C (Ya od)/\∀name,JQ name od=Ya (mA name):=
 let⟨od,ho,hl⟩:=ZoV I.ns
 ⟨od,⟨I.obj,rfl,rfl,ho⟩,hl⟩
variable{Q:Yd->Yg->Prop}
section
variable {prog:aX} {w:aU} {A:bB} {E:Yd->Yg->Prop} {s:Yg} {K:Yc} {x dx C f:Yn} {mA:aj->Option Yd} {name:aj} {v:Yd}
theorem ZrZ{expr:Bool}(X:K.In s.heap)(I:xZ s.heap x dx C mA)(hg:Fe K C name=true)(hh:JN K C=true)(ha:Y2 K (.ref C) name=Ya Yk)(hv:mA name=Ya v)(hv':Yk5 v=true)(h:Q v {s with toks:=s.toks+1}):
  Yy (Y4 prog w) A (getAttr (.ref x) name expr) Q E s:=by
 obtain⟨od,J,hl⟩:=I.look;exact PySem.W.get_value X J (QZ hg).1 (PySem.W.findObj_own hh ha rfl (by rw[hl,hv])) hv' h
theorem ZpW{pl:lu Bool}{Q:Yd×List Yd->Yg->Prop}(X:K.In s.heap)(I:xZ s.heap x dx C mA)(hg:Fe K C name=true)(hf:Y2 K (.ref C) name=Ya (Ya (.ref f)))(ht:nD K (.ref f)=true)(hv:mA name=Yk)(h:Q (.ref f,[.ref x]) s):
  Yy (Y4 prog w) A (QT (.ref x) name pl) Q E s:=by
 obtain⟨od,J,hl⟩:=I.look;exact PySem.W.method_fn X J (QZ hg).1 (QZ hg).2 hf (beq_iff_eq.mp ht) (by show(JQ name od).map (·.isSome)=Ya false;rw[hl,hv];rfl) h
theorem Zsu{ns:List aj}{Q:Unit->Yg->Prop}(X:K.In s.heap)(I:xZ s.heap x dx C mA)(hs:Y2 K (.ref C) "__setattr__" =Ya (Ya (.builtin "object.__setattr__")))(hp:Q3 K C=true)(ht:Q5 K C name=Ya Yk)(hh:JN K C=true)(hw:Qz mA ns)(hsz:ns.length<=Y7)(h:∀h',xZ h' x dx C (λy=>if y=name then Ya v else mA y)->xP dx s.heap h'->Q () {s with heap:=h',toks:=s.toks+2}):
  Yy (Y4 prog w) A (setAttr (.ref x) name v) Q E s:=by
 obtain⟨od,J,hl⟩:=I.look;refine PySem.W.set_plain X J hs (PySem.W.osa_open (s:={s with toks:=s.toks+1}) (r:=Yk) X J hp ht λb=>?_);obtain⟨cd,hc,hd'⟩:=PySem.W.any_some hh;have hx:s.heap.get? x=Ya ⟨.ref C,Ya dx,.plain,#[]⟩:=I.obj;refine Yb (Yi (Yb (Yb (wpAny_loadPart hx (Yb (PySem.W.Looks.here (s:={s with toks:=s.toks+1}) (PySem.W.looks_clsIn X hc) ?_))))));rw[hd'];refine Yi (a:=Ya dx) (Yb (Yi (Yb ?_)));refine wpAny_nsSet1 (s:={s with toks:=s.toks+1}) I.ns λh' hn2 hs2=>?_;obtain⟨oD,esD,epD,hoD,hdD,hcD⟩:=hn2.count (PySem.Within.cons name v hw);refine Yb (wpAny_lookBehind hoD (by rw[hdD];exact pastItsLine_dict (Yu hcD (by rw[Ys];exact lB 1 0xa1ca0c01001 T1 hsz))) ?_);exact Yi (h _ ⟨(hs2.2 _ (bK I.ne)).trans I.obj,hn2,I.ne⟩ hs2)
theorem Zri{R:pI->Yg->Prop}{vs:List Yd}{kw:List (aj×Yd)}(X:K.In s.heap)(hm:JP K C=true)(hi:Y2 K (.ref C) "__init__" =Ya (Ya (.ref f)))(hf:JR K (.ref f)=Ya (.type "function"))(h:jM (Y4 prog w) (A.under (.builtin "type.__call__" ⟨.ref C::vs,kw⟩)) (.call (.ref f) ⟨.ref (s.heap.objs.size+1)::vs,kw⟩) (PySem.W.InitBack (s.heap.objs.size+1) R)
   {s with heap:=(s.heap.push sS).push (uW C s.heap.objs.size)}):
  jM (Y4 prog w) A (.call (.ref C) ⟨vs,kw⟩) R s:=by
 obtain⟨hh,g,d,t,os⟩:=s;exact PySem.W.make_core (PySem.W.makes_of X hm) (PySem.W.looks_findIn X hi) (λself=>PySem.W.bind_fn X self hf) (.inl rfl) h
end
noncomputable def jh(f:aj)(v:V):List (aj×V)->List (aj×V)
 |[]=>[(f,v)]|(g,x)::r=>if g=f then(g,v)::r else(g,x)::jh f v r
theorem ZhJ(f g:aj)(v:V):∀fs:List (aj×V),(jh f v fs).lookup g=if g=f then Ya v else fs.lookup g
 | []=>by
  show qJ g [(f,v)]=_;by_cases h:g=f
  .have hb:(g==f)=true:=beq_iff_eq.mpr h;simp only[qJ,hb,if_pos h]
  .have hb:(g==f)=false:=beq_eq_false_iff_ne.mpr h;simp only[qJ,hb,if_neg h]
 | (k,x)::r=>by
  have ih:=ZhJ f g v r;rw[show jh f v ((k,x)::r)=(if k=f then(k,v)::r else(k,x)::jh f v r)from rfl];by_cases hk:k=f
  .rw[if_pos hk];by_cases h:g=k
   .have hb:(g==k)=true:=beq_iff_eq.mpr h;simp only[qJ,hb,if_pos (h.trans hk)]
   .have hb:(g==k)=false:=beq_eq_false_iff_ne.mpr h;simp only[qJ,hb,if_neg (λe:g=f=>h (e.trans hk.symm))]
  .rw[if_neg hk];by_cases h:g=k
   .have hb:(g==k)=true:=beq_iff_eq.mpr h;simp only[qJ,hb,if_neg (λe:g=f=>hk (h.symm.trans e))]
   .have hb:(g==k)=false:=beq_eq_false_iff_ne.mpr h;simp only[qJ,hb];exact ih
theorem S_(f:aj)(v:V):∀fs:List (aj×V),f∈(jh f v fs).map (·.1)/\∀g,g∈fs.map (·.1)->g∈(jh f v fs).map (·.1)
 |[]=>⟨by simp[jh],λg h=>by simp at h⟩|(k,x)::r=>by
  obtain⟨i1,i2⟩:=S_ f v r;rw[show jh f v ((k,x)::r)=(if k=f then(k,v)::r else(k,x)::jh f v r)from rfl];by_cases hk:k=f
  .rw[if_pos hk];subst hk;exact⟨by simp,λg h=>by simpa using h⟩
  .rw[if_neg hk];refine⟨?_,λg h=>?_⟩
   .rw[Y8];exact Yq _ i1
   .rw[Y8]at h ⊢;rcases fj.mp h with e|e
    .exact fj.mpr (.inl e)
    .exact Yq _ (i2 g e)
theorem ZhO(f:aj)(v:V):∀fs:List (aj×V),(jh f v fs).length<=fs.length+1
 |[]=>by simp[jh]|(k,x)::r=>by
  have ih:=ZhO f v r;rw[show jh f v ((k,x)::r)=(if k=f then(k,v)::r else(k,x)::jh f v r)from rfl];by_cases hk:k=f
  .rw[if_pos hk,Ys,Ys];exact sZ _ _
  .rw[if_neg hk,Ys,Ys];exact lB 1 0xaa1cca0c0a1c001 T1 ih
theorem jy.some_of{v:V}{o:Option Yd}(r:jy (Ya v) o):∃u,o=Ya u/\RelV v u:=by
 cases o with
 |none=>exact(show False from r).elim|some u=>exact⟨u,rfl,r⟩
theorem jy.none_of{o:Option Yd}(r:jy Yk o):o=Yk:=by
 cases o with
 |none=>rfl|some u=>exact(show False from r).elim
theorem Zo8{v:V}{u:Yd}(r:RelV v u):Yk5 u=true:=by
 cases v with
 |non=>cases(show u=Value.none from r);rfl|bl b=>cases(show u=Value.bool b from r);rfl|int i=>obtain⟨t,e⟩:=(show∃t,u=Value.int i t from r);cases e;rfl|str x=>obtain⟨t,e⟩:=(show∃t,u=Value.str x t from r);cases e;rfl
 |Ay b=>obtain⟨t,e⟩:=(show∃t,u=Value.bytes b t from r);cases e;rfl|flt b=>obtain⟨t,e⟩:=(show∃t,u=Value.float b t from r);cases e;rfl|ref a=>cases(show u=Value.ref a from r);rfl|ty n=>cases(show u=Value.type n from r);rfl
section
variable {P:aX} {w:aU} {H H':Hp} {h h':au} {a C dx:Yn} {fs fs':List (aj×V)}
theorem K7(hok:dO P w H h)(e:H a=Ya (.ins C dx fs)):∃mA,xZ h a dx C mA/\(∀f,jy (fs.lookup f) (mA f))/\Qz mA (fs.map (·.1))/\fs.length<=1000/\H dx=Ya (.own a):=by obtain⟨d,z,ne,ob,mA,n,r,q⟩:=(show fu P w H h a (.ins C dx fs)from hok a _ e);exact⟨mA,⟨ob,n,ne⟩,r,q,z,d⟩
end
structure tR(K:Yc)(C:Yn):Prop where
 pg:Fe K C Str.empty=true
 hd:JN K C=true
 po:Q3 K C=true
 sa:Y2 K (.ref C) "__setattr__" =Ya (Ya (.builtin "object.__setattr__"))
theorem tR.get{K:Yc}{C:Yn}(c:tR K C)(f:aj):Fe K C f=true:=c.pg
def nP(K:Yc)(C:Yn)(f:aj):Prop:=Y2 K (.ref C) f=Ya Yk
theorem nP.taker{K:Yc}{C:Yn}{f:aj}(n:nP K C f):Q5 K C f=Ya Yk:=by unfold Q5;rw[show Y2 K (.ref C) f=Ya Yk from n];rfl
structure Meth(K:Yc)(C:Yn)(m:aj)(f:Yn):Prop where
 at_:Y2 K (.ref C) m=Ya (Ya (.ref f))
 fn:nD K (.ref f)=true
 kp:pJ K (.ref f)=true
section
variable {X:Cx} {pins:List (Yn×aB)} {σ:St} {H:Hp} {s:Yg} {a C dx:Yn} {fs:List (aj×V)} {f:aj} {v:V} {A:bB} {E:Yd->Yg->Prop}
theorem Zm0{b:Bool}(I:Inv X pins σ H s)(e:H a=Ya (.ins C dx fs))(c:tR X.K C)(n:nP X.K C f)(l:fs.lookup f=Ya v)(h:∀u s',Inv X pins σ H s'->RelV v u->Q u s'):Yy (Y4 X.prog X.w) A (getAttr (.ref a) f b) Q E s:=by obtain⟨mA,O,r,_,_,_⟩:=K7 I.hok e;obtain⟨u,hu,ru⟩:=jy.some_of (v:=v) (o:=mA f) (by rw[←l];exact r f);exact ZrZ I.dw O (c.get f) c.hd n hu (Zo8 ru) (h u _ (I.tok _) ru)
theorem Zml{m:aj}{g:Yn}{pl:lu Bool}{Q:Yd×List Yd->Yg->Prop}(I:Inv X pins σ H s)(e:H a=Ya (.ins C dx fs))(c:tR X.K C)(k:Meth X.K C m g)(l:fs.lookup m=Yk)(h:Q (.ref g,[.ref a]) s):Yy (Y4 X.prog X.w) A (QT (.ref a) m pl) Q E s:=by obtain⟨mA,O,r,_,_,_⟩:=K7 I.hok e;have hn:mA m=Yk:=jy.none_of (by rw[←l];exact r m);exact ZpW I.dw O (c.get m) k.at_ k.fn hn h
theorem ZmU{y:V}{u:Yd}{Q:Unit->Yg->Prop}(I:Inv X pins σ H s)(e:H a=Ya (.ins C dx fs))(c:tR X.K C)(n:nP X.K C f)(hl:fs.length<1000)(ry:RelV y u)(h:∀s',Inv X pins σ (upd H a (.ins C dx (jh f y fs))) s'->Q () s'):Yy (Y4 X.prog X.w) A (setAttr (.ref a) f u) Q E s:=by
 obtain⟨mA,O,r,wi,_,ho⟩:=K7 I.hok e;have hz:(fs.map (·.1)).length<=Y7:=by rw[jP,nj];exact lA 1 0x10000007b003e83b011 T1 hl
 refine Zsu I.dw O c.sa c.po n.taker c.hd wi hz λh' O' sb=>h _ ?_;have hd:∃o,h'.get? dx=Ya o:=let⟨o,_,_,e',_⟩:=O'.ns;⟨o,e'⟩;refine I.write (x:=a) (e:=dx) (by rw[e];exact True.intro) (.inr ho) (λb q hb z=>(sb.2 b hb).trans z) hd ?_;refine⟨by rw[dg O.ne];exact ho,?_,O.ne,O'.obj,_,O'.ns,λg=>?_,λg hg=>?_⟩
 .have:=ZhO f y fs;exact lB 2 0x3e83b003e83b111a1c001 T1 this hl
 .show jy ((jh f y fs).lookup g) (if g=f then Ya u else mA g);rw[ZhJ];by_cases q:g=f
  .rw[if_pos q,if_pos q];exact ry
  .rw[if_neg q,if_neg q];exact r g
 .by_cases q:g=f
  .rw[q];exact(S_ f y fs).1
  .refine(S_ f y fs).2 g (wi g λz=>hg ?_);show(if g=f then Ya u else mA g)=Yk;rw[if_neg q];exact z
theorem Inv.made(I:Inv X pins σ H s):Inv X pins σ (upd (upd H s.heap.objs.size (.own (s.heap.objs.size+1))) (s.heap.objs.size+1) (.ins C s.heap.objs.size []))
  {s with heap:=(s.heap.push sS).push (uW C s.heap.objs.size)}:=by
 have e1:(s.heap.push sS).get? s.heap.objs.size=Ya sS:=Y0 s.heap rfl;have e2:((s.heap.push sS).push (uW C s.heap.objs.size)).get? (s.heap.objs.size+1)=Ya (uW C s.heap.objs.size):=by
  have:=Y0 (s.heap.push sS) (o:=uW C s.heap.objs.size) rfl
  rwa[uX]at this
 have e3:(s.heap.push sS).Ns s.heap.objs.size (λ_=>Yk):=⟨sS,#[],_,e1,rfl,(λe he=>absurd he (by simp)),λ_=>rfl⟩;have I1:=I.laid (a:=s.heap.objs.size) (o:=.own (s.heap.objs.size+1)) (h':=s.heap.push sS) (t':=s.toks) (λb u q=>Yj _ q) (Yl _) ⟨_,e1⟩;refine I1.laid (a:=s.heap.objs.size+1) (o:=.ins C s.heap.objs.size []) (t':=s.toks) (λb u q=>Yj _ q) (qK (uX _ _)) ?_;have ne:s.heap.objs.size≠s.heap.objs.size+1:=Y6 (Af _);refine⟨by rw[dg ne,nJ],eN _,ne,e2,λ_=>Yk,(Heap.Ns1.of_empty e3).at λo q=>Yj _ q,λ_=>True.intro,λy hy=>absurd rfl hy⟩
theorem ZsY{prog:aX}{w:aU}{env:cQ}{e:Expr}{f:aj}{pos:aP}{s:Yg}(hb:qC e f env (aH e env)=aH e env)(h:Yy (Y4 prog w) A (aH e env) (λo s₁=>Yy (Y4 prog w) A (getAttr o f true) Q E s₁) E s):Yy (Y4 prog w) A (aH (.Attribute e f pos) env) Q E s:=Attribute_any_ h (by rw[arm_eval_Attribute,hb])
end
def Zyv(K:Yc)(ta:TE)(f:aj):TE:=λσ H Q=>ta σ H λx H1=>∃a C dx fs v,x= .ref a/\H1 a=Ya (.ins C dx fs)/\tR K C/\nP K C f/\fs.lookup f=Ya v/\Q v H1
def ZyE(K:Yc)(ta tv:TE)(f:aj):TS:=λD σ H=>tv σ H λy H1=>ta σ H1 λx H2=>∃a C dx fs,x= .ref a/\H2 a=Ya (.ins C dx fs)/\tR K C/\nP K C f/\fs.length<1000/\
 D.nx σ (upd H2 a (.ins C dx (jh f y fs)))
section
variable {X:Cx} {o e value:Expr} {f:aj} {pos pos' tpos:aP} {ta tv:TE}
theorem Zvd(he:PE X e ta)(hb:qC e f X.env (aH e X.env)=aH e X.env):PE X (.Attribute e f pos) (Zyv X.K ta f):=by intro pins s σ H Q I h;refine ZsY hb (aG (he pins s σ H _ I h) λu s1 ak=>?_);obtain⟨x,H1,I1,rx,a,C,dx,fs,v,ex,ea,c,n,l,q⟩:=ak;subst ex;obtain rfl:u=Value.ref a:=rx;exact Zm0 I1 ea c n l λu' s2 I2 ru=>⟨v,H1,I2,ru,q⟩
theorem Zuf(ha:PE X o ta)(hv:PE X value tv)(hs:nq value (Ya (.Attribute o f pos')) pos.line X.env=pure false):PS X (.Assign [.Attribute o f pos'] value pos) (ZyE X.K ta tv f):=by intro pins s σ H D I h;refine plainObj_wpAny_Assign_Attribute (aG (hv pins s σ H _ I h) λu s1 ⟨y,H1,I1,ry,q⟩=>aG (ha pins s1 σ H1 _ I1 q) λov s2 ak=>?_) hs;obtain⟨x,H2,I2,rx,a,C,dx,fs,ex,ea,c,n,l,q2⟩:=ak;subst ex;obtain rfl:ov=Value.ref a:=rx;exact ZmU I2 ea c n l ry λs3 I3=>⟨σ,_,I3,q2⟩
end
section
variable {X:Cx} {pins:List (Yn×aB)} {σ:St} {H:Hp} {s:Yg} {A:bB} {E:Yd->Yg->Prop} {Q:Yd->Yg->Prop} {c:Yd} {b:Bool}
inductive oW(K:Yc)(H:Hp):V->Yd->Prop where
 |non:oW K H .non (.type "NoneType")
 |bl (x:Bool):oW K H (.bl x) (.type "bool")
 |int (i:Int):oW K H (.int i) (.type "int")
 |str (x:aj):oW K H (.str x) (.type "str")
 |flt (x:UInt64):oW K H (.flt x) (.type "float")
 |lst {a:Yn} {xs:List V} (e:H a=Ya (.lst xs)):oW K H (.ref a) (.type "list")
 |fQ {a:Yn} {o:aB} {xs:List V} (e:H a=Ya (.fQ o (.lst xs))):oW K H (.ref a) (.type "list")
 |tup {a:Yn} {xs:List V} (e:H a=Ya (.tup xs)):oW K H (.ref a) (.type "tuple")
 |dK {a:Yn} {kvs:List (Key×V)} (e:H a=Ya (.dK kvs)):oW K H (.ref a) (.type "dict")
 |dT {a:Yn} {kvs:List (List Key×V)} (e:H a=Ya (.dT kvs)):oW K H (.ref a) (.type "dict")
 | ins {a C dx:Yn} {fs:List (aj×V)} (e:H a=Ya (.ins C dx fs)) (cl:tR K C) (ha:Y2 K (.ref C) "__class__" =Ya (Ya (.builtin "object.__class__")))
   (hn:Q4 K (.builtin "object.__class__") "__get__" =Ya (Ya (.builtin "getset_descriptor.__get__"))) (htk:Q6 K (.builtin "object.__class__")=Ya true)
   (hm:xG K C (.type "object")=Ya true):oW K H (.ref a) (.ref C)
theorem Bc{x:V}{u t:Yd}(I:Inv X pins σ H s)(rx:RelV x u)(ty:oW X.K H x t)(e:Q7 X.K t c=Ya b)(h:∀tk,Q (.bool b) {s with toks:=tk}):
  Yy (Y4 X.prog X.w) A (call (.builtin "isinstance") [u,c]) Q E s:=by
 cases ty with
 |non=>cases(show u=Value.none from rx);exact nC Ykf I.dw True.intro e (λz=>nomatch z) h|bl y=>cases(show u=Value.bool y from rx);exact nC PySem.W.kitx_bool I.dw True.intro e (λz=>nomatch z) h|int i=>obtain⟨t,q⟩:=(show∃t,u=Value.int i t from rx);cases q;exact nC PySem.W.kitx_int I.dw True.intro e (λz=>nomatch z) h|str y=>obtain⟨t,q⟩:=(show∃t,u=Value.str y t from rx);cases q;exact nC PySem.W.kitx_str I.dw True.intro e (λz=>nomatch z) h
 |flt y=>obtain⟨t,q⟩:=(show∃t,u=Value.float y t from rx);cases q;exact nC PySem.W.kitx_float I.dw True.intro e (λz=>nomatch z) h|@lst a xs ea=>
  cases(show u=Value.ref a from rx)
  obtain⟨_,_,n,_,h1⟩:=(show fu X.prog X.w H s.heap a (.lst xs)from I.hok a _ ea);exact nC Ykg I.dw ⟨_,h1,rfl⟩ e (λz=>nomatch z) h
 | @fQ a ob xs ea=>
  cases(show u=Value.ref a from rx)
  obtain⟨_,_,_,n,_,h1⟩:=(show fu X.prog X.w H s.heap a (.fQ ob (.lst xs))from I.hok a _ ea);exact nC Ykg I.dw ⟨_,h1,rfl⟩ e (λz=>nomatch z) h
 | @tup a xs ea=>
  cases(show u=Value.ref a from rx)
  obtain⟨_,_,_,p⟩:=(show fu X.prog X.w H s.heap a (.tup xs)from I.hok a _ ea);obtain⟨o,h1,h2,_⟩:=p;exact nC Yjt I.dw ⟨o,h1,h2.1⟩ e (λz=>nomatch z) h
 | @dK a kvs ea=>
  cases(show u=Value.ref a from rx)
  obtain⟨_,_,vs,_,p⟩:=(show fu X.prog X.w H s.heap a (.dK kvs)from I.hok a _ ea);obtain⟨o,es,ep,h1,h2,_⟩:=p;exact nC Ykh I.dw ⟨o,h1,h2.1⟩ e (λz=>nomatch z) h
 | @dT a kvs ea=>
  cases(show u=Value.ref a from rx)
  obtain⟨_,_,xs,_,o,es,ep,h1,h2,_⟩:=(show fu X.prog X.w H s.heap a (.dT kvs)from I.hok a _ ea);exact nC Ykh I.dw ⟨o,h1,h2.1⟩ e (λz=>nomatch z) h
 | @ins a C dx fs ea cl ha hn htk hm=>
  cases(show u=Value.ref a from rx)
  obtain⟨mA,O,_⟩:=K7 I.hok ea;obtain⟨od,J,_⟩:=O.look;exact nC (PySem.W.kitx_own (cl.get _) cl.hd ha hn htk hm) I.dw J e (λz=>nomatch z) h
end
end L2
namespace L2
open PySem PySem.Spec PyProof.Rows
structure cN(k:Nat)(A:bB):Prop where
 hd:A.handled=Yk
 dp:A.depth+3*k+5<recursionLimit
 un:A.units+16*k+200<eG
variable{A:bB}
theorem cN.mono{j k:Nat}(r:cN k A)(h:j<=k):cN j A:=⟨r.hd,by have:=r.dp;exact lD 2 0x251b303d0cc11303251b103d0cc11 T1 this h,by have:=r.un;omega⟩
theorem cN.deeper{k:Nat}(r:cN (k+1) A)(env:cQ):cN k (A.deeper env):=⟨r.hd,by have:=r.dp;show A.depth+1+3*k+5<_;exact lC 1 0x251b103da0ccc1251ba1c03d0cc11 T1 this,by have:=r.un;show A.units+3+16*k+200<_;exact lC 1 0x2c82b110d31b0ccc12c82ba1c10d0cc11 T1 this⟩
theorem cN.in1{k:Nat}(r:cN (k+1) A):cN k A.in1:=⟨r.hd,by have:=r.dp;show A.depth+3*k+5<_;exact lC 1 0x251b103d0cc1251ba1c03d0cc11 T1 this,by have:=r.un;show A.units+1+16*k+200<_;exact lC 1 0x2c82b110da0ccc12c82ba1c10d0cc11 T1 this⟩
variable{us:List Yd}
theorem Znd{C:Yn}{kw:List (aj×Yd)}:(A.under (.builtin "type.__call__" ⟨.ref C::us,kw⟩)).depth=A.depth+1:=by first|rfl|simp[RM,Code.weight,Code.isCreation,Code.isGuard,Code.isCaller,Code.frames,R4,guardIds]
theorem Zm6{C:Yn}{kw:List (aj×Yd)}:(A.under (.builtin "type.__call__" ⟨.ref C::us,kw⟩)).units=A.units+1:=by first|rfl|simp[RM,Code.cUnits,Code.frames,R4]
theorem cN.make{k:Nat}(r:cN (k+1) A)(C:Yn)(us:List Yd)(kw:List (aj×Yd)):cN k (A.under (.builtin "type.__call__" ⟨.ref C::us,kw⟩)):=⟨r.hd,by have:=r.dp;rw[Znd];exact lC 1 0x251b103da0ccc1251ba1c03d0cc11 T1 this,by have:=r.un;rw[Zm6];exact lC 1 0x2c82b110da0ccc12c82ba1c10d0cc11 T1 this⟩
theorem cN.depth{k:Nat}(r:cN k A):A.depth<recursionLimit:=by have:=r.dp;exact lC 1 0x201251b103d0cc11 T1 this
theorem cN.units{k:Nat}(r:cN k A):A.units+64<eG:=by have:=r.un;exact lC 1 0x2402b0c12c82b110d0cc11 T1 this
def ZyN:TA:=λ_ H Q=>Q [] H
def ZwP(ta:TE)(tr:TA):TA:=λσ H Q=>ta σ H λx H1=>tr σ H1 λxs H2=>Q (x::xs) H2
section
variable {X:Cx} {e:Expr} {es:List Expr} {te:TE} {t:TA} {pos:aP}
theorem K8:PA X [] ZyN:=λ_ _ _ _ H Q I h=>Ku ⟨[],H,I,.nil,h⟩
theorem Be(ha:PE X e te)(hr:PA X es t)(hs:Yt (e::es) X.env=(false,aH e X.env)::Yt es X.env:=by rfl):PA X (e::es) (ZwP te t):=by intro pos pins s σ H Q I h;rw[hs];show Yy _ _ (spliced ((false,aH e X.env)::eF pos (Yt es X.env))) _ _ s;refine Ar (aG (ha pins s σ H _ I h) λu s1 ak=>?_);obtain⟨x,H1,I1,r1,q1⟩:=ak;exact aG (hr pos pins s1 σ H1 _ I1 q1) λus s2 ⟨xs,H2,I2,r2,q2⟩=>⟨x::xs,H2,I2,.cons r1 r2,q2⟩
def Zy1(t:TA):TE:=λσ H Q=>t σ H λxs H1=>xs.length<=Y7/\∀p,H1 p=Yk->Q (.ref p) (upd H1 p (.tup xs))
def Zyx(t:TA):TE:=λσ H Q=>t σ H λxs H1=>xs.length<=Y7/\∀p,H1 p=Yk->Q (.ref p) (upd H1 p (.lst xs))
theorem Zum{x1}(h:PA X es t):PE X (.Tuple es x1 pos) (Zy1 t):=by intro pins s σ H Q I hq;refine wpAny_Tuple_spliced (aG (h pos pins s σ H _ I hq) λus s1 ⟨xs,H1,I1,r,z,q⟩=>⟨by rw[←r.length];exact z,?_⟩);have hf:H1 s1.heap.objs.size=Yk:=I1.hok.fresh (Yl _);refine⟨.ref s1.heap.objs.size,upd H1 s1.heap.objs.size (.tup xs),I1.laid (t':=s1.toks) (λb u e=>Yj _ e) (Yl _) ?_,rfl,q _ hf⟩;exact⟨z,us,r,⟨_,Y0 _ rfl,⟨rfl,rfl⟩,_,rfl⟩⟩
theorem ZvK(h:PA X es t):PE X (.List es pos) (Zyx t):=by intro pins s σ H Q I hq;refine wpAny_List_spliced (aG (h pos pins s σ H _ I hq) λus s1 ⟨xs,H1,I1,r,z,q⟩=>⟨by rw[←r.length];exact z,?_⟩);have hf:H1 s1.heap.objs.size=Yk:=I1.hok.fresh (Yl _);refine⟨.ref s1.heap.objs.size,upd H1 s1.heap.objs.size (.lst xs),I1.laid (t':=s1.toks) (λb u e=>Yj _ e) (Yl _) ?_,rfl,q _ hf⟩;exact⟨z,us,0,r,Y0 _ rfl⟩
end
noncomputable abbrev Sp:=List V->Hp->VK->XK->Prop
noncomputable abbrev qR:=List cQ->Hp->Yg->XK->Yd->Yg->Prop
structure qT(P:aX)(w:aU)(K:Yc)(mg:aj->Option Yd)(base:au)(A:bB)(outer:List cQ)(s:Yg)(H:Hp):Prop where
 frames:A.frames=Ya outer
 mod:Mod K mg base
 bs:∀b o,base.get? b=Ya o->s.heap.get? b=Ya o/\H b=Yk
 nO:base.objs.size<=s.heap.objs.size
 j6:s.heap.FunFrames base outer
 pR:∀b∈frs outer,H b=Yk
 hok:dO P w H s.heap
 bare:qL s.gens
def CE(outer:List cQ)(P:aX)(w:aU)(H:Hp)(s:Yg)(Q:VK)(u:Yd)(s':Yg):Prop:=∃v H',s'.os=s.os/\qL s'.gens/\Un (frs outer) [] H H' s.heap s'.heap/\dO P w H' s'.heap/\RelV v u/\Q v H'
def CR(CX:qR)(outer:List cQ)(P:aX)(w:aU)(H:Hp)(s:Yg)(Q:VK)(E:XK)(r:pI)(s':Yg):Prop:=
 match r with
 | .ok (.ret u)=>CE outer P w H s Q u s'|.ok _=>False|.error e=>CX outer H s E e s'
structure fU(P:aX)(w:aU)(K:Yc)(mg:aj->Option Yd)(base:au)(CX:qR)(k:Nat)(f:Yn)(fd:j7)(ps:List aj)(sp:Sp):Prop where
 len:∀vs H Q E,sp vs H Q E->vs.length=ps.length
 run:∀(A:bB) (outer:List cQ) (s:Yg) (H:Hp) (args:Args) (us:List Yd) (vs:List V) (Q:VK) (E:XK),cN k A->qT P w K mg base A outer s H->zU s fd args (ps.zip us)->Vals vs us->sp vs H Q E ->
  jM (Y4 P w) A (.call (.ref f) args) (CR CX outer P w H s Q E) s
variable{ps:List aj}{K:Yc}{base:au}{w:aU}{mg:aj->Option Yd}{P:aX}{CX:qR}
theorem fU.mono{j k:Nat}{f:Yn}{fd:j7}{sp:Sp}(F:fU P w K mg base CX j f fd ps sp)(h:j<=k):
  fU P w K mg base CX k f fd ps sp:=⟨F.len,λA outer s H args us vs Q E hr=>F.run A outer s H args us vs Q E (hr.mono h)⟩
theorem fU.imp{k:Nat}{f:Yn}{fd:j7}{sp sp':Sp}(F:fU P w K mg base CX k f fd ps sp)(h:∀vs H Q E,sp' vs H Q E->sp vs H Q E):fU P w K mg base CX k f fd ps sp':=⟨λvs H Q E q=>F.len vs H Q E (h _ _ _ _ q),λA outer s H args us vs Q E hr he hb hv hs=>F.run A outer s H args us vs Q E hr he hb hv (h _ _ _ _ hs)⟩
variable{H:Hp}{outer:List cQ}{s:Yg}
theorem qT.make(e:qT P w K mg base A outer s H)(C:Yn)(us:List Yd)(kw:List (aj×Yd)):
  qT P w K mg base (A.under (.builtin "type.__call__" ⟨.ref C::us,kw⟩)) outer s H:=⟨by first|exact e.frames|(simpa[RM,Code.envs,R4,pushEnvs]using e.frames),e.mod,e.bs,e.nO,e.j6,e.pR,e.hok,e.bare⟩
theorem qT.in1(e:qT P w K mg base A outer s H):
  qT P w K mg base A.in1 outer s H:=⟨e.frames,e.mod,e.bs,e.nO,e.j6,e.pR,e.hok,e.bare⟩
section
variable {X:Cx} {pins:List (Yn×aB)} {σ:St} {H:Hp} {s s':Yg}
theorem Inv.env0(I:Inv X pins σ H s):qT X.prog X.w X.K X.mg X.base X.A X.stack s H:=⟨I.ok.frames,I.ok.mod,I.bs,Yu I.ok.nO I.sz,I.stack,I.Pn,I.hok,I.bare⟩
theorem Inv.after{Q:VK}{u:Yd}(I:Inv X pins σ H s)(h:CE X.stack X.prog X.w H s Q u s'):EP X pins σ Q u s':=by obtain⟨v,H',os,bare,un,hok,r,q⟩:=h;obtain⟨hh,g,d,t,os'⟩:=s';obtain rfl:os'=s.os:=os;exact⟨v,H',I.call (h':=hh) (g':=g) (d':=d) (t':=t) (ch:=[]) un hok bare (λb z=>absurd z (by simp)),r,q⟩
end
def ZwG(sp:Sp)(lM:List V)(E:XK)(t:TA):TE:=λσ H Q=>t σ H λvs H1=>sp (vs++lM) H1 Q E
def Zxs(C:Yn)(sp:Sp)(lM:List V)(E:XK)(t:TA):TE:=λσ H Q=>t σ H λvs H1=>∀x dx,H1 x=Yk->H1 dx=Yk->dx≠x ->
 sp (.ref x::(vs++lM)) (upd (upd H1 dx (.own x)) x (.ins C dx [])) (λv H2=>v= .non/\Q (.ref x) H2) E
def Binds(K:Yc)(fd:j7)(ps:List aj)(ds:List Yd):Prop:=∀(s:Yg) (us:List Yd),K.In s.heap->(us++ds).length=ps.length->zU s fd ⟨us,[]⟩ (ps.zip (us++ds))
theorem Binds.all{fd:j7}(h:∀us:List Yd,us.length=ps.length->bindArgs fd ⟨us,[]⟩=pure (ps.zip us)):Binds K fd ps []:=λs us _ hl=>by rw[qG]at hl ⊢;exact .of_eq (h us hl)
def Gi(CX:qR)(X:Cx)(E:XK):Prop:=∀(pins:List (Yn×aB)) (σ:St) (H:Hp) (s:Yg) (e:Yd) (s':Yg),Inv X pins σ H s->CX X.stack H s E e s'->X.xe e s'
variable{vs:List V}
section
variable {X:Cx} {CX:qR} {k:Nat} {f C:Yn} {fd:j7} {ps:List aj} {sp:Sp} {lM:List V} {ds:List Yd} {E:XK} {x m:aj} {p pos apos:aP} {e o:Expr} {es:List Expr} {ta:TE} {t:TA}
theorem ZvW{pins:List (Yn×aB)}{σ:St}{Q:VK}(F:fU X.prog X.w X.K X.mg X.base CX k f fd ps sp)(hr:cN k X.A)(hb:Binds X.K fd ps ds)(hd:Vals lM ds)(hx:Gi CX X E)(I:Inv X pins σ H s)(r:Vals vs us)(h:sp (vs++lM) H Q E):Yy (Y4 X.prog X.w) X.A (call (.ref f) us) (EP X pins σ Q) X.xe s:=by
 have r2:Vals (vs++lM) (us++ds):=r.append hd;have hl:(us++ds).length=ps.length:=by rw[←r2.length];exact F.len _ _ _ _ h
 refine JB (zN (F.run X.A X.stack s H ⟨us,[]⟩ (us++ds) (vs++lM) Q E hr I.env0 (hb s us I.dw hl) r2 h) λr s' hq=>?_);cases r with
 |error e=>exact hx pins σ H s e s' I hq|ok fl=>
  cases fl with
  |ret u=>exact I.after hq|next=>exact fH hq|brk=>exact fH hq|cont=>exact fH hq
theorem Zr5(F:fU X.prog X.w X.K X.mg X.base CX k f fd ps sp)(hr:cN k X.A)(hg:Gl X x)(hm:X.mg x=Ya (.ref f))(hk:pJ X.K (.ref f)=true)(hb:Binds X.K fd ps ds)(hd:Vals lM ds)(hx:Gi CX X E)(ha:PA X (e::es) t)(hdb:(x==("__debug__":aj))=false:=by decide)(he:Yt (e::es) X.env=(false,aH e X.env)::Yt es X.env:=by rfl)(hpl:(eF pos (Yt es X.env)).any (·.1)=false:=by rfl):
  PE X (.Call (.Name x p) (e::es) [] pos) (ZwG sp lM E t):=by
 intro pins s σ H Q I h;refine Ew (Ba I hg hm ?_ hdb);refine JM (h₀:=X.base) I.ok.mod.tM hk (aG (ha pos pins s σ H _ I h) λus s1 ⟨vs,H1,I1,r,q⟩=>⟨I1.dw,?_⟩) he hpl;exact ZvW F hr hb hd hx I1 r q
structure Mk(K:Yc)(C f:Yn):Prop where
 makes:JP K C=true
 init:Y2 K (.ref C) "__init__" =Ya (Ya (.ref f))
 fn:nD K (.ref f)=true
 kp:pJ K (.ref C)=true
theorem Zpu{pins:List (Yn×aB)}{σ:St}{Q:VK}(M:Mk X.K C f)(F:fU X.prog X.w X.K X.mg X.base CX k f fd ps sp)(hr:cN (k+1) X.A)(hb:Binds X.K fd ps ds)(hd:Vals lM ds)(hx:Gi CX X E)(I:Inv X pins σ H s)(r:Vals vs us)(h:∀x dx,H x=Yk->H dx=Yk->dx≠x->sp (.ref x::(vs++lM)) (upd (upd H dx (.own x)) x (.ins C dx [])) (λv H2=>v= .non/\Q (.ref x) H2) E):
  Yy (Y4 X.prog X.w) X.A (call (.ref C) us) (EP X pins σ Q) X.xe s:=by
 have hq:=h (s.heap.objs.size+1) s.heap.objs.size (I.hok.fresh (Nat.le_succ _)) (I.hok.fresh (Yl _)) (Y6 (Af _));have I2:=Inv.made (C:=C) I;have r2:Vals (V.ref (s.heap.objs.size+1)::(vs++lM)) (Value.ref (s.heap.objs.size+1)::(us++ds)):=.cons rfl (r.append hd);have hl:(Value.ref (s.heap.objs.size+1)::us++ds).length=ps.length:=by have e:=r2.length;rw[F.len _ _ _ _ hq]at e;exact e.symm
 refine JB (Zri (f:=f) I.dw M.makes M.init (beq_iff_eq.mp M.fn) (zN (F.run _ X.stack _ _ ⟨Value.ref (s.heap.objs.size+1)::us,[]⟩ (Value.ref (s.heap.objs.size+1)::(us++ds)) _ _ E (hr.make C us [])
  (I2.env0.make C us []) (hb _ (Value.ref (s.heap.objs.size+1)::us) I2.dw hl) r2 hq) λr s' hq'=>?_))
 cases r with
 |error e=>exact hx pins σ _ _ e s' I2 hq'|ok fl=>
  cases fl with
  |ret u=>obtain⟨v,H',I3,rv,ev,q3⟩:=I2.after hq';subst ev;exact⟨rv,⟨V.ref (s.heap.objs.size+1),H',I3,rfl,q3⟩⟩|next=>exact fH hq'|brk=>exact fH hq'
  |cont=>exact fH hq'
theorem Zsk(M:Mk X.K C f)(F:fU X.prog X.w X.K X.mg X.base CX k f fd ps sp)(hr:cN (k+1) X.A)(hg:Gl X x)(hm:X.mg x=Ya (.ref C))(hb:Binds X.K fd ps ds)(hd:Vals lM ds)(hx:Gi CX X E)(ha:PA X (e::es) t)(hdb:(x==("__debug__":aj))=false:=by decide)(he:Yt (e::es) X.env=(false,aH e X.env)::Yt es X.env:=by rfl)(hpl:(eF pos (Yt es X.env)).any (·.1)=false:=by rfl):
  PE X (.Call (.Name x p) (e::es) [] pos) (Zxs C sp lM E t):=by
 intro pins s σ H Q I h;refine Ew (Ba I hg hm ?_ hdb);refine JM (h₀:=X.base) I.ok.mod.tM M.kp (aG (ha pos pins s σ H _ I h) λus s1 ⟨vs,H1,I1,r,q⟩=>⟨I1.dw,?_⟩) he hpl;exact Zpu M F hr hb hd hx I1 r q
end
structure dz(N P:List aj)(sc:Scope):Prop where
 kind:sc.kind= .function
 co:sc.isCoroutine=false
 gen:sc.isGenerator=false
 nd:N.Nodup
 pre:N.take P.length=P
 par:∀x∈P,sc.names.lookup x=Ya .local\/sc.names.lookup x=Ya .cell
 AcF:∀y∈sc.names,y.2≠ .free
theorem ZjK{mK:aj->Option NameKind}{x:aj}:∀{binds:List (aj×Yd)} {m:aj->Option Yd},(∀v,(x,v)∉binds)->uU mK binds m x=m x
 |[],_,_=>rfl|(n,v)::r,m,h=>by
  unfold uU;rw[ZjK λw hw=>h w (Yq _ hw)];split
  .have:x≠n:=by rintro rfl;exact h v Yz
   simp[this]
  .rfl
theorem ZjY{mK:aj->Option NameKind}{x:aj}:∀{binds:List (aj×Yd)} {m:aj->Option Yd},(∀v,(x,v)∉binds)->uV mK binds m x=m x
 |[],_,_=>rfl|(n,v)::r,m,h=>by
  unfold uV;rw[ZjY λw hw=>h w (Yq _ hw)];split
  .rfl
  .have:x≠n:=by rintro rfl;exact h v Yz
   simp[this]
theorem Zjy{mK:aj->Option NameKind}{x:aj}{v:Yd}:∀{P:List aj} {vs:List Yd} {i:Nat} {m:aj->Option Yd},P.Nodup->P[i]?=Ya x->vs[i]?=Ya v->mK x=Ya .local ->
  uU mK (P.zip vs) m x=Ya v
 |[],_,_,_,_,h,_,_=>by simp at h|_::_,[],_,_,_,_,h,_=>by simp at h|p::P,w::vs,0,m,nd,h1,h2,hk=>by simp at h1 h2;subst h1;subst h2;show uU mK ((p,w)::P.zip vs) m p=_;unfold uU;rw[ZjK λv hv=>(qH.mp nd).1 (Rb hv).1,if_pos hk];simp|p::P,w::vs,i+1,m,nd,h1,h2,hk=>by show uU mK ((p,w)::P.zip vs) m x=_;unfold uU;exact Zjy (i:=i) (qH.mp nd).2 (by simpa using h1) (by simpa using h2) hk
theorem ZjX{mK:aj->Option NameKind}{x:aj}{v:Yd}:∀{P:List aj} {vs:List Yd} {i:Nat} {m:aj->Option Yd},P.Nodup->P[i]?=Ya x->vs[i]?=Ya v->mK x≠Ya .local ->
  uV mK (P.zip vs) m x=Ya v
 |[],_,_,_,_,h,_,_=>by simp at h|_::_,[],_,_,_,_,h,_=>by simp at h|p::P,w::vs,0,m,nd,h1,h2,hk=>by simp at h1 h2;subst h1;subst h2;show uV mK ((p,w)::P.zip vs) m p=_;unfold uV;rw[ZjY λv hv=>(qH.mp nd).1 (Rb hv).1,if_neg hk];simp|p::P,w::vs,i+1,m,nd,h1,h2,hk=>by show uV mK ((p,w)::P.zip vs) m x=_;unfold uV;exact ZjX (i:=i) (qH.mp nd).2 (by simpa using h1) (by simpa using h2) hk
noncomputable def start(N:List aj)(vs:List V):St:=vs.map Ya++Yh (N.length-vs.length) Yk
noncomputable def nQ(CX:qR)(P:aX)(w:aU)(K:Yc)(mg:aj->Option Yd)(base:au)(N:List aj)(qual:aj)(scope:Scope)(f:Yn)(cd:Yd)(A:bB)(outer:List cQ)(s:Yg)(H:Hp)(E:XK):Cx where
 prog:=P
 w:=w
 K:=K
 mg:=mg
 base:=base
 A:=A.deeper (lH qual scope s.heap.objs.size f cd)
 N:=N
 s₀:=s
 H₀:=H
 env:=lH qual scope s.heap.objs.size f cd
 outer:=outer
 stack:=lH qual scope s.heap.objs.size f cd::outer
 ex:=[]
 calm:=true
 fn:=λ_=>true
 pn:=[]
 xe:=λe s'=>Yy (Y4 P w) (A.deeper (lH qual scope s.heap.objs.size f cd)) (JH (lH qual scope s.heap.objs.size f cd) e) (λ_ s''=>CX outer H s E e s'') (λe' s''=>CX outer H s E e' s'') s'
theorem Zlf{sc:Scope}{n:Nat}{x:aj}(h:sc.names.lookup x=Ya .cell):∃c,(QV n sc.names []).lookup x=Ya c:=by have q:=Yhs sc.names n [] (.inl h);exact Jr.mp q
theorem ZoF{N:List aj}{qual:aj}{scope:Scope}{f:Yn}{cd:Yd}{s1:Yg}{E:XK}(S:dz N ps scope)(hd:A.handled=Yk)(e0:qT P w K mg base A outer s H)(hl:vs.length=ps.length)(r:Vals vs us)(x:InCallC s s.heap.objs.size (uU (lH qual scope s.heap.objs.size f cd).kindOf (ps.zip us) λ_=>Yk) (QV (s.heap.objs.size+1) scope.names []) (uV (lH qual scope s.heap.objs.size f cd).kindOf (ps.zip us) λ_=>Yk) s1):
  Inv (nQ CX P w K mg base N qual scope f cd A outer s H E) [] (start N vs) H s1:=by
 have hpl:ps.length<=N.length:=by have:=congrArg Fp S.pre;rw[Fi]at this;omega
 obtain⟨h1,tk,rfl,hk⟩:=x.done;have Gj:∀b:Yn,b∉(nQ CX P w K mg base N qual scope f cd A outer s H E).ex:=λb z=>absurd (show b∈([]:List Yn)from z) (by simp);refine⟨⟨e0.mod,S.kind,rfl,rfl,Yl _,λy z c h1 h2=>?_,λy hy=>?_,λy c _ h=>?_,λ_=>hd,Around.frames_deeper e0.frames,.inr ⟨rfl,rfl⟩,λb z=>absurd z (Gj b),e0.bs,e0.nO,λb _ _=>Gj b,λb z=>absurd z (Gj b),e0.j6,e0.pR⟩,
  rfl,e0.bare,Un.kept hk,⟨_,x.toInCall.ns,λi y v h1 h2 h3=>?_⟩,λy c h=>⟨_,x.cell y c h⟩,e0.hok.fresh (Yl _),λy c h=>?_,λp hp=>absurd (show p∈([]:List (Yn×aB))from hp) (by simp),e0.hok.kept hk,?_⟩
 .exact name_of_addr x.apart (sH h1) (sH h2)
 .have hy:scope.names.lookup y=Ya .cell\/scope.names.lookup y=Ya .free:=hy;rcases hy with hy|hy
  .exact Zlf hy
  .exact absurd rfl (S.AcF _ (sH hy))
 .exact xR (x.above y c (sH h))
 .have hi:i<vs.length:=by
   unfold start at h2;by_cases hi:i<vs.length
   .exact hi
   .rw[xH (by simpa using hi)]at h2;rw[JW]at h2;split at h2<;>cases h2
  have ha:vs[i]?=Ya v:=by
   unfold start at h2;rw[Yw (by simpa using hi),nG]at h2;cases e:vs[i]? with
   |none=>rw[e]at h2;cases h2|some a=>rw[e]at h2;cases h2;rfl
  obtain⟨u,hu,rv⟩:=r.get ha;have hp:ps[i]?=Ya y:=by rw[←S.pre,z7 (by exact lC 2 2203874037777 T1 hi hl)];exact h1
  have ndP:ps.Nodup:=by rw[←S.pre];exact S.nd.sublist (Q_ _ _)
  refine⟨u,rv,?_⟩;rcases S.par y (sV hp)with k|k
  .exact .inl ⟨k,Zjy ndP hp hu k⟩
  .obtain⟨c,e⟩:=Zlf (n:=s.heap.objs.size+1) k;refine .inr ⟨.inl k,c,e,?_⟩;have q:=x.cell y c e;rw[ZjX ndP hp hu (by show scope.names.lookup y≠_;rw[k];decide)]at q;exact q
 .exact e0.hok.fresh (xR (x.above y c (sH h)))
 .unfold start;show _=N.length;rw[Yv,jP,xM];exact iw (lC 1 2206541614113 T1 (lG (lC 2 1236986302465 T1 hpl hl))) (lC 1 1288492400641 T1 (lK _ _))
theorem Ztj{k:Nat}{f:Yn}{name qual:aj}{params:Arguments}{body:List Ydm}{scope:Scope}{dV kV doc pm cdv ct oc:Yd}{an od:Option Yn}{osl:Array (Option Yd)}{N:List aj}{sp:Sp}(lk:K.lookup f=Ya ⟨oc,od,.func (oM name qual params body scope dV kV doc pm an cdv ct),osl⟩)(hcd:zZ K cdv qual=true)(S:dz N ps scope)(len:∀vs H Q E,sp vs H Q E->vs.length=ps.length)(hbody:∀(A:bB) (outer:List cQ) (s:Yg) (H:Hp) (vs:List V) (Q:VK) (E:XK),cN k (A.deeper (lH qual scope s.heap.objs.size f cdv))->sp vs H Q E ->
   ∃t,jz (nQ CX P w K mg base N qual scope f cdv A outer s H E) body t/\t {nx:=λ_ H'=>Q .non H',rt:=Q} (start N vs) H):
  fU P w K mg base CX (k+1) f (oM name qual params body scope dV kV doc pm an cdv ct) ps sp:=by
 refine⟨len,λA outer s H args us vs Q E hr e0 hb r hsp=>?_⟩;have hl:=len _ _ _ _ hsp;have KX:K.In s.heap:=e0.mod.tM.keeps λb o e=>(e0.bs b o e).1;have lim:s.heap.NoLimit:=e0.mod.nolimit.keeps λb o e=>(e0.bs b o e).1;have hkind:∀y∈ps.zip us,scope.names.lookup y.1=Ya .local\/(scope.names.lookup y.1=Ya .cell/\((QV (s.heap.objs.size+1) scope.names []).lookup y.1).isSome=true):=λ⟨n,v⟩ hy=>by
  rcases S.par n (Rb hy).1 with q|q
  .exact .inl q
  .exact .inr ⟨q,Yhs _ _ _ (.inl q)⟩
 refine codeAny_call_function hr.depth (KX _ _ lk) rfl S.co S.gen rfl (PySem.W.codeRec_of KX hcd) (hb _ _ _ _ ?_);refine wpAny_newFunctionEnv_cells S.kind hkind λenv he s1 x=>?_;subst he;refine⟨lim.keeps x.toInCall.keep,codeAny_func ?_⟩;obtain⟨t,ht,hq⟩:=hbody A outer s H vs Q E (hr.deeper _) hsp;have I:Inv (nQ CX P w K mg base N qual scope f cdv A outer s H E) [] (start N vs) H s1:=ZoF S hr.hd e0 hl r x;refine fc (ht [] s1 (start N vs) H _ I hq) (λfl s' hs=>?_) λe s' hs=>hs;have fin:∀{σ':St} {H':Hp} {v:V} {u:Yd},Inv (nQ CX P w K mg base N qual scope f cdv A outer s H E) [] σ' H' s'->RelV v u->Q v H'->CE outer P w H s Q u s':=λ{σ' H' v u} J rv q=>⟨v,H',J.os,J.bare,J.base,J.hok,rv,q⟩;cases fl with
 |ret u=>obtain⟨v,σ',H',J,rv,q⟩:=hs;exact fin J rv q|next=>obtain⟨σ',H',J,q⟩:=hs;exact fin (v:=V.non) (u:=Value.none) J rfl q|brk=>obtain⟨_,_,_,q⟩:=hs;exact fH q|cont=>obtain⟨_,_,_,q⟩:=hs;exact fH q
end L2
namespace L2
open PySem PySem.Spec PyProof.Rows
section
variable {X:Cx} {x:aj} {p pos:aP} {e:Expr} {es:List Expr} {t:TA} {id T:String} {r:List V->Hp->VK->Prop}
def Tc(r:List V->Hp->VK->Prop)(t:TA):TE:=λσ H Q=>t σ H λvs H1=>r vs H1 Q
theorem Td(hc:bD X (.builtin id) r)(hg:Gl X x)(hm:X.mg x=Yk)(hv:jl x=Ya (.builtin id))(ha:PA X (e::es) t)(hn:x≠ "__name__":=by decide)(hdb:(x==("__debug__":aj))=false:=by decide)(he:Yt (e::es) X.env=(false,aH e X.env)::Yt es X.env:=by rfl)(hpl:(eF pos (Yt es X.env)).any (·.1)=false:=by rfl):PE X (.Call (.Name x p) (e::es) [] pos) (Tc r t):=by intro pins s σ H Q I h;refine Ew (xY I hg hm hv ?_ hn hdb);exact PyProof.Rows.callWith_builtin1 (aG (ha pos pins s σ H _ I h) λus s1 ⟨vs,H1,I1,r1,q1⟩=>hc pins s1 σ H1 vs us Q I1 r1 q1) he hpl
theorem ZoZ(hc:bD X (.type T) r)(hg:Gl X x)(hm:X.mg x=Yk)(hv:jl x=Ya (.type T))(ha:PA X (e::es) t)(hn:x≠ "__name__":=by decide)(hdb:(x==("__debug__":aj))=false:=by decide)(he:Yt (e::es) X.env=(false,aH e X.env)::Yt es X.env:=by rfl)(hpl:(eF pos (Yt es X.env)).any (·.1)=false:=by rfl):PE X (.Call (.Name x p) (e::es) [] pos) (Tc r t):=by intro pins s σ H Q I h;refine Ew (xY I hg hm hv ?_ hn hdb);exact Ft (aG (ha pos pins s σ H _ I h) λus s1 ⟨vs,H1,I1,r1,q1⟩=>hc pins s1 σ H1 vs us Q I1 r1 q1) he hpl
end
end L2
namespace HT
open PySem PyProof.Rows
section
variable {prog:aX} {w:aU} {A:bB} {E:Yd->Yg->Prop} {s:Yg}
theorem Acw{t b:Yn}{vs ws:List Yd}{Q:Yd->Yg->Prop}(ht:xT s.heap t vs.toArray)(hb:xT s.heap b ws.toArray)(hv:vs≠[])(h1:ws=[]->Q (.ref t) s)(h2:ws≠[]->Q (.ref s.heap.objs.size) {s with heap:=s.heap.push {cls:=.type "tuple",data:=.seq (vs++ws).toArray}})(hsz:vs.length+ws.length<=Y7):Yy (Y4 prog w) A (i_ .Add (.ref t) (.ref b)) Q E s:=by
 obtain⟨⟨cls,dd,data,sl⟩,ho,hc,n,hd⟩:=id ht;obtain⟨⟨cls2,dd2,data2,sl2⟩,ho2,hc2,n2,hd2⟩:=id hb;simp only at hc hd hc2 hd2;subst hc hd hc2 hd2;have e:vs.toArray++ws.toArray=(vs++ws).toArray:=by simp
 by_cases hw:ws=[]
 .exact QB ⟨_,ho,rfl⟩ ⟨_,ho2,rfl⟩ Qq Qx RK RD (RB _ _)
   (tuple_addW1 t b vs.toArray ws.toArray n n2 dd dd2 sl sl2 (by simpa using hv) (by simp[hw])) ⟨ho,ho2,h1 hw⟩
 .refine QB ⟨_,ho,rfl⟩ ⟨_,ho2,rfl⟩ Qq Qx RK RD (RB _ _)
   (tuple_addW2 t b vs.toArray ws.toArray n n2 dd dd2 sl sl2 (by simpa using hv) (by simpa using hw) (by rw[Ym,Ym];exact hsz)) ⟨ho,ho2,?_⟩
  rw[e];exact h2 hw
noncomputable def aC(n d:Nat):Option Int->Nat
 |none=>d|some v=>if v<0 then(v+(n:Int)).toNat else jg v.toNat n
theorem Te(n d:Nat):aC n d Yk=d:=rfl
theorem Tf(n d k:Nat):aC n d (Ya (k:Int))=jg k n:=by show(if(k:Int)<0 then((k:Int)+(n:Int)).toNat else jg (k:Int).toNat n)=jg k n;rw[if_neg (Rz.2 (Fv _)),qM]
theorem K9(n d:Nat)(hd:d<=n)(o:Option Int):aC n d o<=n:=by
 cases o with
 |none=>exact hd|some v=>
  show(if v<0 then(v+(n:Int)).toNat else jg v.toNat n)<=n;by_cases hv:v<0
  .rw[if_pos hv];omega
  .rw[if_neg hv];exact Ri _ _
theorem Znp(v:Int)(n d:Nat):(if v<0 then fP (v+(n:Int)) 0 else jg v (n:Int))=((aC n d (Ya v):Nat):Int):=by
 show(if v<0 then fP (v+(n:Int)) 0 else jg v (n:Int))=(((if v<0 then(v+(n:Int)).toNat else jg v.toNat n):Nat):Int);by_cases hv:v<0
 .simp only[if_pos hv];exact clA _
 .simp only[if_neg hv];exact clB _ _ hv
theorem Zms(lo hi:Option Int)(n:Nat):Fq lo hi 1 (n:Int)=(((aC n 0 lo:Nat):Int),((aC n n hi:Nat):Int)):=by
 have h1:¬((1:Int)<0):=by decide
 unfold Fq;simp only[h1,if_false];refine Prod.ext ?_ ?_
 .cases lo with
  |none=>rfl|some v=>exact Znp v n 0
 .cases hi with
  |none=>rfl|some v=>exact Znp v n n
theorem ZmS(i j:Nat):vf (i:Int) (j:Int) 1=j-i:=by
 unfold vf;have h1:(1:Int)>0:=by decide
 simp only[h1,if_true,Int.ediv_one];split <;>omega
theorem O7{v:Yd}{o:Option Int}{Q:Option Int->Yg->Prop}(p:IsPart v o)(h:Q o s):Yy (Y4 prog w) A (Builtin.Slice.slicePartIndex v) Q E s:=by
 cases p with
 |none=>exact J9 h|int i t=>exact slicePart_int h
theorem Xu{sl:Yn}{vl vu:Yd}{lo hi:Option Int}{n:Nat}{Q:Int×Int×Nat->Yg->Prop}(hs:s.heap.IsSliceOf sl vl vu .none)(pl:IsPart vl lo)(pu:IsPart vu hi)(h:Q (((aC n 0 lo:Nat):Int),1,aC n n hi-aC n 0 lo) s):Yy (Y4 prog w) A (J7 (.ref sl) (pure (n:Int))) Q E s:=by obtain⟨os,hos,hcs,hds⟩:=id hs;unfold J7 Ygm;refine Yb (Yb (e_ hos hds (x:=vl) rfl (Yb (e_ hos hds (x:=vu) rfl (Yb (e_ hos hds (x:=.none) rfl (Yi ?_)))))));refine Yb (J9 ?_);show Yy _ _ (if((1:Int)==0)=true then _ else _) _ _ s;rw[if_neg (by decide)];refine Yb (O7 pl (Yb (O7 pu (Yb (Yi ?_)))));show Yy _ _ (match Fq lo hi 1 (n:Int)with|(lo,hi)=>pure (lo,(1:Int),vf lo hi 1)) _ _ s;rw[Zms lo hi n];show Yy _ _ (pure (((aC n 0 lo:Nat):Int),(1:Int),vf ((aC n 0 lo:Nat):Int) ((aC n n hi:Nat):Int) 1)) _ _ s;rw[ZmS];exact Yi h
theorem ZqF(xs:Array Yd)(i k:Nat):((dN k).filterMap λ(m:Nat)=>xs[((i:Int)+(m:Int)*1).toNat]?).toArray=((xs.toList.drop i).take k).toArray:=by
 have e:(λ(m:Nat)=>xs[((i:Int)+(m:Int)*1).toNat]?)=λm=>xs[i+m]?:=by
  funext m;have:((i:Int)+(m:Int)*1).toNat=i+m:=by omega
  rw[this]
 rw[e];have:=pick_run xs i k;rw[List.filterMap_map]at this;have e2:((λx=>xs[x]?) ∘ λx=>i+x)=λm=>xs[i+m]?:=rfl;rw[e2]at this;rw[this]
theorem Aag{t sl:Yn}{items:Array Yd}{vl vu:Yd}{lo hi:Option Int}{Q:Yd->Yg->Prop}(ht:xT s.heap t items)(hs:s.heap.IsSliceOf sl vl vu .none)(pl:IsPart vl lo)(pu:IsPart vu hi)(hw:¬(aC items.size 0 lo=0/\aC items.size items.size hi=items.size))(h:Q (.ref s.heap.objs.size) {s with heap:=s.heap.push {cls:=.type "tuple",data:=.seq ((items.toList.drop (aC items.size 0 lo)).take (aC items.size items.size hi-aC items.size 0 lo)).toArray}})(hsz:items.size<=Y7):Yy (Y4 prog w) A (oJ (.ref t) (.ref sl)) Q E s:=by
 have sG:sizeOk (.seq ((items.toList.drop (aC items.size 0 lo)).take (aC items.size items.size hi-aC items.size 0 lo)).toArray):=by show((items.toList.drop (aC items.size 0 lo)).take (aC items.size items.size hi-aC items.size 0 lo)).toArray.size<=Y7;rw[Ym,Fi,Yk6,Fz];exact lD 3 85606880155602945 T1 hsz (Ag _ _) (Ri _ _)
 have hj:aC items.size items.size hi<=items.size:=K9 _ _ (Yl _) hi;obtain⟨os,hos,hcs,hds⟩:=id hs;have hTs:s.TypeIs (.ref sl) "slice":=⟨os,hos,hcs⟩;unfold oJ
 try with_reducible refine jk ?_
 first|refine Yb (Yi ?_)|skip
 refine Yb (Qo ht.typeIs (by decide) ?_);refine Yb (qx (name:=lJ "__getitem__") ht.typeIs Ah
  (qy Ah ht.typeIs Rp ?_ (Rq _ _)))
 show Yy _ _ (Ru (.ref t)>>=_) _ _ s;refine Yb (Rr ht ?_);refine Yb (uP hTs ?_);rw[if_pos (by decide)];refine Yb (Xu hs pl pu ?_);have hno:¬((((aC items.size 0 lo:Nat):Int)==0&&(1:Int)==1&&(aC items.size items.size hi-aC items.size 0 lo)==items.size)=true):=by intro q;rw[Y9,Y9]at q;have q1:((aC items.size 0 lo:Nat):Int)=0:=eq_of_beq q.1.1;have q2:aC items.size items.size hi-aC items.size 0 lo=items.size:=eq_of_beq q.2;exact hw ⟨by exact iw (iN [_] [] 1 3759016097 T1 q1) (eN _),by exact iw hj (lC 2 2268279672881 T1 q2 (Ag _ _))⟩
 show Yy _ _ (if(((aC items.size 0 lo:Nat):Int)==0&&(1:Int)==1&&(aC items.size items.size hi-aC items.size 0 lo)==items.size)=true then _ else _) _ _ s;rw[if_neg hno,ZqF]
 first
  |exact Yb (m:=vg _) (oH (Yi ⟨_,rfl,Yi h⟩) sG)
  |exact Yb (m:=vg _) (oH (Yb (Yi (Yi ⟨_,rfl,Yi h⟩))) sG)
  |exact Yb (Yb (m:=vg _) (oH (Yi (Yi ⟨_,rfl,Yi h⟩)) sG))
  |exact Yb (Yb (m:=vg _) (oH (Yi ⟨_,rfl,Yi h⟩) sG))
end
end HT
namespace L2
open PySem PySem.Spec PyProof.Rows
noncomputable abbrev TO:=St->Hp->(Option Int->Hp->Prop)->Prop
def PO(X:Cx)(e:Option Expr)(t:TO):Prop:=
 ∀(pins:List (Yn×aB)) (s:Yg) (σ:St) (H:Hp) (Q:Option Int->Hp->Prop),Inv X pins σ H s->t σ H Q ->
  Yy (Y4 X.prog X.w) X.A (evalPart e X.env) (λu s'=>∃o H',Inv X pins σ H' s'/\IsPart u o/\Q o H') X.xe s
def ZsV:TO:=λ_ H Q=>Q Yk H
def ZwI(t:TE):TO:=λσ H Q=>t σ H λx H1=>∃i,x= .int i/\Q (Ya i) H1
section
variable {X:Cx} {e:Expr} {te:TE} {lo hi:Option Expr} {tl th:TO} {pos p2:aP}
theorem Zsd:PO X Yk ZsV:=by intro pins s σ H Q I h;rw[Qy];exact Yi ⟨Yk,H,I,.none,h⟩
theorem Zss(h:PE X e te):PO X (Ya e) (ZwI te):=by intro pins s σ H Q I hw;rw[evalPart_some];refine aG (h pins s σ H _ I hw) λu s1 ak=>?_;obtain⟨x,H1,I1,r1,q1⟩:=ak;obtain⟨i,rfl,q⟩:=q1;obtain⟨t,rfl⟩:=r1;exact⟨Ya i,H1,I1,.int i t,q⟩
def jA(X:Cx)(r:V->Option Int->Option Int->Hp->VK->Prop):Prop:=
 ∀(pins:List (Yn×aB)) (s:Yg) (σ:St) (H:Hp) (x:V) (v vl vu:Yd) (lo hi:Option Int) (sl:Yn) (Q:VK),Inv X pins σ H s->RelV x v->s.heap.IsSliceOf sl vl vu .none->IsPart vl lo->IsPart vu hi->r x lo hi H Q ->
  ∃T id,zP (.type T) "__getitem__" =pure (Ya (.builtin id))/\s.TypeIs v T/\Yy (Y4 X.prog X.w) X.A (oJ v (.ref sl)) (EP X pins σ Q) X.xe s
theorem jA.or{r r':V->Option Int->Option Int->Hp->VK->Prop}(h:jA X r)(h':jA X r'):jA X (λx lo hi H Q=>r x lo hi H Q\/r' x lo hi H Q):=by
 intro pins s σ H x v vl vu lo hi sl Q I rx hs pl pu q;rcases q with q|q
 .exact h pins s σ H x v vl vu lo hi sl Q I rx hs pl pu q
 .exact h' pins s σ H x v vl vu lo hi sl Q I rx hs pl pu q
def tSl(r:V->Option Int->Option Int->Hp->VK->Prop)(te:TE)(tl th:TO):TE:=λσ H Q=>te σ H λx H1=>tl σ H1 λl H2=>th σ H2 λu H3=>r x l u H3 Q
theorem Zqp{r:V->Option Int->Option Int->Hp->VK->Prop}(hr:jA X r)(he:PE X e te)(hl:PO X lo tl)(hu:PO X hi th):PE X (.Subscript e (.Slice lo hi Yk p2) pos) (tSl r te tl th):=by intro pins s σ H Q I h;refine Ka (aG (he pins s σ H _ I h) λv s1 ak=>?_);obtain⟨x,H1,I1,r1,q1⟩:=ak;refine wpAny_Slice (aG (hl pins s1 σ H1 _ I1 q1) λvl s2 ⟨l,H2,I2,pl,q2⟩=>aG (hu pins s2 σ H2 _ I2 q2) λvu s3 ak=>?_);obtain⟨u,H3,I3,pu,q3⟩:=ak;rw[Qy];refine Yi ?_;have I4:Inv X pins σ H3 {s3 with heap:=s3.heap.push {cls:=.type "slice",data:=.fields #[vl,vu,.none]}}:=I3.kept (t':=s3.toks) λb ob q=>Yj _ q;obtain⟨T,id,hT,ht,hg⟩:=hr pins {s3 with heap:=s3.heap.push {cls:=.type "slice",data:=.fields #[vl,vu,.none]}} σ H3 x v vl vu l u s3.heap.objs.size Q I4 r1 (Yjx ..) pl pu q3;show Yy (Y4 X.prog X.w) X.A (J_ e (.Slice lo hi Yk p2) v (.ref s3.heap.objs.size)) (EP X pins σ Q) X.xe {s3 with heap:=s3.heap.push {cls:=.type "slice",data:=.fields #[vl,vu,.none]}};exact tail_any (ops:=[.ref s3.heap.objs.size,v]) ht hT hg (by with_unfolding_all rfl)
noncomputable def vD(xs:List V)(lo hi:Option Int):List V:=(xs.drop (HT.aC xs.length 0 lo)).take (HT.aC xs.length xs.length hi-HT.aC xs.length 0 lo)
theorem ZhK(xs:List V)(lo hi:Option Int):(vD xs lo hi).length<=xs.length:=by unfold vD;rw[Fi,Yk6];exact Yu (Ri _ _) (Ag _ _)
noncomputable def Zy9(K:Yc):V->Option Int->Option Int->Hp->VK->Prop:=λx lo hi H Q=>∃a xs,x= .ref a/\cL K H a xs/\
 ¬(HT.aC xs.length 0 lo=0/\HT.aC xs.length xs.length hi=xs.length)/\∀p,H p=Yk->Q (.ref p) (upd H p (.tup (vD xs lo hi)))
theorem ZuM:jA X (Zy9 X.K):=by
 intro pins s σ H x v vl vu lo hi sl Q I rx hs pl pu h;obtain⟨a,xs,rfl,hx,hw,q⟩:=h;cases rx;obtain⟨its,r,ht,hz⟩:=I.tuple hx;have hlen:its.toArray.size=xs.length:=by rw[Ym];exact r.length.symm
 refine⟨"tuple",_,PyProof.Rows.slot_tuple_getitem.lookup,ht.typeIs,?_⟩;refine HT.Aag ht hs pl pu (by rw[hlen];exact hw) ?_ (by rw[hlen];exact hz);rw[hlen];refine⟨.ref s.heap.objs.size,_,I.laid (t':=s.toks) (o:=.tup (vD xs lo hi)) (λb ob q=>Yj _ q) (Yl _) ?_,rfl,q _ (I.hok.fresh (Yl _))⟩;exact⟨Yu (ZhK xs lo hi) hz,_,(r.drop (HT.aC xs.length 0 lo)).take (HT.aC xs.length xs.length hi-HT.aC xs.length 0 lo),oV.new _ _⟩
def ZwJ(K:Yc):R2:=λx y H Q=>∃a b xs ys,x= .ref a/\y= .ref b/\cL K H a xs/\cL K H b ys/\xs≠[]/\xs.length+ys.length<=Y7/\
 (ys=[]->Q (.ref a) H)/\(ys≠[]->∀p,H p=Yk->Q (.ref p) (upd H p (.tup (xs++ys))))
theorem Vals.Pq{xs:List V}{us:List Yd}(r:Vals xs us):us=[]↔xs=[]:=by
 cases r with
 |nil=>simp|cons _ _=>simp
theorem Zsa:aV X (i_ .Add) (ZwJ X.K):=by intro pins s σ H x y v u Q I rx ry h;obtain⟨a,b,xs,ys,rfl,rfl,ha,hb,hx,hz,q1,q2⟩:=h;cases rx;cases ry;obtain⟨its,r1,p1,_⟩:=I.tuple ha;obtain⟨its2,r2,p2,_⟩:=I.tuple hb;refine HT.Acw p1 p2 (λz=>hx (r1.Pq.mp z)) (λz=>⟨.ref a,H,I,rfl,q1 (r2.Pq.mp z)⟩) (λz=>?_) (by rw[←r1.length,←r2.length];exact hz);refine⟨.ref s.heap.objs.size,_,I.laid (t':=s.toks) (o:=.tup (xs++ys)) (λb ob q=>Yj _ q) (Yl _) ?_,rfl,q2 (λw=>z (r2.Pq.mpr w)) _ (I.hok.fresh (Yl _))⟩;exact⟨by rw[Yv];exact hz,_,r1.append r2,oV.new _ _⟩
end
end L2
namespace L2
open PySem PySem.Spec PyProof.Rows
noncomputable def Bf(n:Nat)(i:Int):Option Nat:=if 0<=i then(if i<n then Ya i.toNat else Yk)else if -(n:Int)<=i then Ya (i+n).toNat else Yk
noncomputable def x_{α:Type}(xs:List α)(i:Int):Option α:=(Bf xs.length i).bind λj=>xs[j]?
theorem Tg{n:Nat}{i:Int}{j:Nat}(h:Bf n i=Ya j):QW i n=Ya j/\j<n/\ -(n:Int)<=i/\i<n:=by
 unfold Bf at h;by_cases h0:0<=i
 .rw[if_pos h0]at h;by_cases h1:i<n
  .rw[if_pos h1]at h;have e:i.toNat=j:=Y3 h;exact⟨by rw[QD h0 h1,e],by exact iN [_,_,_] [_] 3 0x211008a1280911031 T1 e h1 (tE h0),by exact iN [_] [_] 1 144182913 T1 h0,h1⟩
  .rw[if_neg h1]at h;cases h
 .rw[if_neg h0]at h;by_cases h1:-(n:Int)<=i
  .rw[if_pos h1]at h;have e:(i+n).toNat=j:=Y3 h;exact⟨by rw[QC (by exact Ao.1 h0) h1,e],by exact iN [_,_,_] [_] 3 0x211280c08a10ec11031 T1 e h0 (tE (iN [_] [_] 1 8851524979073 T1 h1)),h1,by exact iN [_] [_] 1 134811329 T1 h0⟩
  .rw[if_neg h1]at h;cases h
theorem Th{α:Type}{xs:List α}{i:Int}{v:α}(h:x_ xs i=Ya v):∃j,QW i xs.length=Ya j/\xs[j]?=Ya v/\j<xs.length/\ -(xs.length:Int)<=i/\i<xs.length:=by
 unfold x_ at h;cases e:Bf xs.length i with
 |none=>rw[e]at h;cases h|some j=>rw[e]at h;obtain⟨h1,h2,h3,h4⟩:=Tg e;exact⟨j,h1,h,h2,h3,h4⟩
def ZnL(b:Expr):Prop:=∀o i,Jz b false o i=operate [o,i] (oJ o i)
def lO(X:Cx)(r:R2):Prop:=
 ∀(value slice:Expr) (pins:List (Yn×aB)) (s:Yg) (σ:St) (H:Hp) (x y:V) (v u:Yd) (Q:VK),Inv X pins σ H s->RelV x v->RelV y u->r x y H Q ->
  Jz slice false v u=operate [v,u] (oJ v u)->Yy (Y4 X.prog X.w) X.A (J_ value slice v u) (EP X pins σ Q) X.xe s
def qU(X:Cx)(id:String)(r:V->List V->Hp->VK->Prop):Prop:=
 ∀(pins:List (Yn×aB)) (s:Yg) (σ:St) (H:Hp) (x:V) (xs:List V) (v:Yd) (us:List Yd) (Q:VK),Inv X pins σ H s->RelV x v->Vals xs us->r x xs H Q ->
  Yy (Y4 X.prog X.w) X.A (call (.builtin id) (v::us)) (EP X pins σ Q) X.xe s
section
variable {X:Cx} {a b:Expr} {ta tb:TE} {pos:aP}
theorem lO.or{r r':R2}(h:lO X r)(h':lO X r'):lO X (λx y H Q=>r x y H Q\/r' x y H Q):=by
 intro value slice pins s σ H x y v u Q I rx ry q hs;rcases q with q|q
 .exact h value slice pins s σ H x y v u Q I rx ry q hs
 .exact h' value slice pins s σ H x y v u Q I rx ry q hs
theorem Zw1{r:R2}(hr:lO X r)(ha:PE X a ta)(hb:PE X b tb)(hs:ZnL b):PE X (.Subscript a b pos) (Gg r ta tb):=by intro pins s σ H Q I h;exact Ka (SQ ha hb I h λv u s2 x y H2 I2 rx ry q=>hr a b pins s2 σ H2 x y v u Q I2 rx ry q (hs _ _))
def Zxn(K:Yc):R2:=λx y H Q=>∃p xs i v,x= .ref p/\y= .int i/\cD K H p xs/\x_ xs i=Ya v/\Q v H
def Zwj(K:Yc):R2:=λx y H Q=>∃p xs i v,x= .ref p/\y= .int i/\cL K H p xs/\x_ xs i=Ya v/\Q v H
def Zwo:R2:=λx y H Q=>∃z i c,x= .str z/\y= .int i/\z.length<=Y7/\x_ z.cps.toList i=Ya c/\Q (.str ⟨#[c]⟩) H
theorem Zsf:lO X (Zxn X.K):=by
 intro value slice pins s σ H x y v u Q I rx ry h hs;obtain⟨p,xs,i,z,rfl,rfl,hq,he,q⟩:=h;cases rx;obtain⟨t,rfl⟩:=ry;obtain⟨its,r,pl,hz⟩:=I.list hq;obtain⟨j,h1,h2,h3,h4,h5⟩:=Th he;obtain⟨w,ew,jm⟩:=r.get h2;have hl:=r.length;have hn:=Gh;have fin:EP X pins σ Q w s:=⟨z,H,I,jm,q⟩;by_cases h0:0<=i
 .have hj:i.toNat=j:=by
   rw[QD h0 h5]at h1;exact Y3 h1
  exact item_listR pl.isList h0 (by omega) (by rw[hj];simpa using ew) fin hs
 .have hj:(i+(its.toArray.size:Int)).toNat=j:=by
   rw[QC (by exact Ao.1 h0) h4]at h1;rw[Ym,←hl];exact Y3 h1
  exact Yht (x:=w) pl.isList.typeIs slot_list_getitem.lookup
   (wpAny_getItem_list_neg (Q:=λr s'=>r=w/\EP X pins σ Q r s') pl.isList (by exact Ao.1 h0) (by rw[Ym]<;>exact iN [_,_] [_] 2 6922527515414561 T1 hl h4) (by omega) (by rw[hj];simpa using ew) ⟨rfl,fin⟩) hs
theorem Zva:lO X (Zwj X.K):=by
 intro value slice pins s σ H x y v u Q I rx ry h hs;obtain⟨p,xs,i,z,rfl,rfl,hq,he,q⟩:=h;cases rx;obtain⟨t,rfl⟩:=ry;obtain⟨its,r,pl,hz⟩:=I.tuple hq;obtain⟨j,h1,h2,h3,h4,h5⟩:=Th he;obtain⟨w,ew,jm⟩:=r.get h2;have hl:=r.length;have hn:=Gh;have fin:EP X pins σ Q w s:=⟨z,H,I,jm,q⟩;exact Yht (x:=w) pl.typeIs slot_tuple_getitem.lookup
  (getItem_tuple (j:=j) (Q:=λr s'=>r=w/\EP X pins σ Q r s') pl (by omega) (by omega) (by rw[Ym,←hl];exact h1) (by simpa using ew) ⟨rfl,fin⟩) hs
theorem Zu2:lO X Zwo:=by
 intro value slice pins s σ H x y v u Q I rx ry h hs;obtain⟨z,i,c,rfl,rfl,hz,he,q⟩:=h;obtain⟨t,rfl⟩:=rx;obtain⟨t',rfl⟩:=ry;obtain⟨j,h1,h2,h3,h4,h5⟩:=Th he;have hl:z.cps.toList.length=z.length:=by simp[qN]
 rw[hl]at h1 h4 h5;have hn:=Gh;exact tail_any (QM s z t) slot_str_getitem.lookup (getItem_str (c:=c) (by have e1:decide (i< -(2^63:Int))=false:=decide_eq_false (by omega);have e2:decide (i>=2^63)=false:=decide_eq_false (by omega);rw[e1,e2,Rn]) (by rw[h1];simpa using h2) ⟨.str ⟨#[c]⟩,H,I.tok _,⟨_,rfl⟩,q⟩) hs
def rIx(K:Yc):R2:=λx y H Q=>Zxn K x y H Q\/Zwj K x y H Q\/Zwo x y H Q
theorem ZvE:lO X (rIx X.K):=Zsf.or (Zva.or Zu2)
theorem Zmo(its:List Yd)(n j:Nat)(u:Yd):FN (·.setIfInBounds j u) {cls:=.type "list",data:=.seq its.toArray n}={cls:=.type "list",data:=.seq (its.set j u).toArray n}:=by simp[FN]
theorem Inv.lst{pins:List (Yn×aB)}{σ:St}{H:Hp}{s:Yg}{p:Yn}{xs:List V}(I:Inv X pins σ H s)(h:H p=Ya (.lst xs)):
  ∃(its:List Yd) (n:Nat),Vals xs its/\s.heap.get? p=Ya {cls:=.type "list",data:=.seq its.toArray n}/\xs.length<=Y7:=by
 obtain⟨z,its,n,r,e⟩:=I.hok p _ h;exact⟨its,n,r,e,z⟩
theorem Inv.AcG{pins:List (Yn×aB)}{σ:St}{H:Hp}{s:Yg}{p:Yn}{xs ys:List V}{its its':List Yd}{n n':Nat}{f:aB->aB}(I:Inv X pins σ H s)(h:H p=Ya (.lst xs))(ho:s.heap.get? p=Ya {cls:=.type "list",data:=.seq its.toArray n})(hf:f {cls:=.type "list",data:=.seq its.toArray n}={cls:=.type "list",data:=.seq its'.toArray n'})(r:Vals ys its')(hz:ys.length<=Y7)(t:Nat):
  Inv X pins σ (upd H p (.lst ys)) {s with heap:=s.heap.update p f,toks:=t}:=by
 have e:(s.heap.update p f).get? p=Ya {cls:=.type "list",data:=.seq its'.toArray n'}:=by rw[Rg f ho (by rw[hf]<;>rfl),hf]
 refine I.write (x:=p) (e:=p) (by rw[h];trivial) (.inl rfl) (λb u hb q=>(J1 _ _ (bK hb)).trans q) ⟨_,e⟩ ?_;exact⟨hz,its',n',r,e⟩
noncomputable def Zwt:V->V->V->Hp->(Hp->Prop)->Prop:=λo i v H Q=>∃p xs k j,o= .ref p/\i= .int k/\H p=Ya (.lst xs)/\Bf xs.length k=Ya j/\Q (upd H p (.lst (xs.set j v)))
theorem set_list:Zxu X Zwt:=by
 intro pins s σ H o i v ov iv u Q I ro ri rv h;obtain⟨p,xs,k,j,rfl,rfl,hp,hj,q⟩:=h;cases ro;obtain⟨t,rfl⟩:=ri;obtain⟨its,n,r,ho,hz⟩:=I.lst hp;obtain⟨h1,h2,h3,h4⟩:=Tg hj;have hl:=r.length;have hn:=Gh;have I':Inv X pins σ (upd H p (.lst (xs.set j v))) {s with heap:=s.heap.update p (FN (·.setIfInBounds j u))}:=I.AcG hp ho (Zmo its n j u) (r.set rv j) (by rw[oO];exact hz) s.toks;by_cases h0:0<=k
 .have hk:k.toNat=j:=by
   rw[QD h0 h4]at h1;exact Y3 h1
  exact PySem.W.ki_setAt ho h0 (by omega) (by rw[Ym,←hl];exact h4) (by rw[hk];exact⟨_,I',q⟩)
 .have hk:(k+(its.toArray.size:Int)).toNat=j:=by
   rw[QC (by exact Ao.1 h0) h3]at h1;rw[Ym,←hl];exact Y3 h1
  exact PySem.W.ki_setBack ho (by exact Ao.1 h0) (by rw[Ym,←hl];exact h3) (by omega) (by rw[hk];exact⟨_,I',q⟩)
theorem Zky(lo hi:Option Int)(n:Nat):(xj lo hi Yk n).1=((HT.aC n 0 lo:Nat):Int)/\(xj lo hi Yk n).2.1=((HT.aC n n hi:Nat):Int)/\(xj lo hi Yk n).2.2=1:=by
 refine⟨?_,?_,rfl⟩
 .cases lo with
  |none=>simp[xj,HT.aC]|some i=>
   simp only[xj,HT.aC,Yk7,show(1:Int)>0 by decide,if_true];by_cases h:i<0
   .simp only[h,if_true]<;>exact R8 _ _ h
   .simp only[h,if_false]<;>exact R9 _ _ h
 .cases hi with
  |none=>simp[xj,HT.aC]|some i=>
   simp only[xj,HT.aC,Yk7,show(1:Int)>0 by decide,if_true];by_cases h:i<0
   .simp only[h,if_true]<;>exact R8 _ _ h
   .simp only[h,if_false]<;>exact R9 _ _ h
theorem Zje(its:List Yd)(lo hi:Option Int):slicePick its.toArray lo hi Yk=((its.drop (HT.aC its.length 0 lo)).take (HT.aC its.length its.length hi-HT.aC its.length 0 lo)).toArray:=by obtain⟨h1,h2,h3⟩:=Zky lo hi its.toArray.size;unfold slicePick;rw[h1,h2,h3];simp only[sliceRange_one,pick_run,Ym]<;>rfl
noncomputable def ZyT(K:Yc):V->Option Int->Option Int->Hp->VK->Prop:=λx lo hi H Q=>∃a xs,x= .ref a/\cD K H a xs/\∀p,H p=Yk->Q (.ref p) (upd H p (.lst (vD xs lo hi)))
theorem ZrQ:jA X (ZyT X.K):=by intro pins s σ H x v vl vu lo hi sl Q I rx hs pl pu h;obtain⟨a,xs,rfl,hx,q⟩:=h;cases rx;obtain⟨its,r,ht,hz⟩:=I.list hx;have hlen:=r.length;refine⟨"list",_,slot_list_getitem.lookup,ht.isList.typeIs,?_⟩;refine wpAny_getItem_list_slice ht.isList hs pl pu .none (by simp) ?_ (by rw[Ym]<;>exact lC 2 2268279672881 T1 hlen hz);rw[Zje,←hlen];refine⟨.ref s.heap.objs.size,_,I.laid (t':=s.toks) (o:=.lst (vD xs lo hi)) (λb ob q=>Yj _ q) (Yl _) ?_,rfl,q _ (I.hok.fresh (Yl _))⟩;exact⟨Yu (ZhK xs lo hi) hz,_,0,(r.drop (HT.aC xs.length 0 lo)).take (HT.aC xs.length xs.length hi-HT.aC xs.length 0 lo),Y0 _ rfl⟩
noncomputable def qW:V->Bool
 | .non=>true|.bl _=>true|.int _=>true|.str _=>true
 |_=>false
noncomputable def tU:V->V->Bool
 | .non,.non=>true|.bl a,.bl b=>a==b|.bl a,.int b=>(if a then 1 else 0)==b|.int a,.bl b=>a==(if b then 1 else 0)
 | .int a,.int b=>a==b|.str a,.str b=>a==b|_,_=>false
theorem ZuW{A:bB}{s:Yg}{y x:V}{u v:Yd}(ry:RelV y u)(rx:RelV x v)(fy:qW y=true)(fx:qW x=true):nH A s u v (tU y x):=by
 cases y with
 |non=>
  cases ry
  cases x with
  |non=>cases rx;exact RT _|bl b=>cases rx;exact Yiu b|int b=>obtain⟨t,rfl⟩:=rx;exact Yja b t|str b=>obtain⟨t,rfl⟩:=rx;exact Yjb b t
  |_=>exact absurd (show false=true from fx) mH
 |bl a=>
  cases ry
  cases x with
  |non=>cases rx;exact Yiv a|bl b=>cases rx;exact Yiw a b|int b=>obtain⟨t,rfl⟩:=rx;exact Yjc a b t|str b=>obtain⟨t,rfl⟩:=rx;exact Yjd a b t
  |_=>exact absurd (show false=true from fx) mH
 |int a=>
  obtain⟨t',rfl⟩:=ry;cases x with
  |non=>cases rx;exact Yje a t'|bl b=>cases rx;exact Yjf a t' b|int b=>obtain⟨t,rfl⟩:=rx;exact RQ a t' b t|str b=>obtain⟨t,rfl⟩:=rx;exact RP a t' b t
  |_=>exact absurd (show false=true from fx) mH
 |str a=>
  obtain⟨t',rfl⟩:=ry;cases x with
  |non=>cases rx;exact Yjg a t'|bl b=>cases rx;exact Yjh a t' b|int b=>obtain⟨t,rfl⟩:=rx;exact Ky a t' b t|str b=>obtain⟨t,rfl⟩:=rx;exact Yjz a t' b t
  |_=>exact absurd (show false=true from fx) mH
 |_=>exact absurd (show false=true from fy) mH
noncomputable def tV(x:V)(u:Yd):Bool:=match u with
 | .none=>tU .non x|.bool b=>tU (.bl b) x|.int i _=>tU (.int i) x|.str z _=>tU (.str z) x
 |_=>false
theorem ZpK{x y:V}{u:Yd}(r:RelV y u)(f:qW y=true):tV x u=tU y x:=by
 cases y with
 |non=>cases r;rfl|bl b=>cases r;rfl|int i=>obtain⟨t,rfl⟩:=r;rfl|str z=>obtain⟨t,rfl⟩:=r;rfl
 |_=>exact absurd (show false=true from f) mH
theorem Ti{x:V}:∀{xs:List V} {us:List Yd},Vals xs us->xs.all qW=true->us.any (tV x)=xs.any λy=>tU y x
 |_,_,.nil,_=>rfl|y::xs,u::us,.cons r t,f=>by rw[Ac,Y9]at f;rw[pO,pO,ZpK r f.1,Ti t f.2]
theorem Tj{A:bB}{s:Yg}{x:V}{v:Yd}(rx:RelV x v)(fx:qW x=true):∀{xs:List V} {us:List Yd},Vals xs us->xs.all qW=true->∀u∈us,nH A s u v (tV x u)
 |_,_,.nil,_=>λu hu=>by cases hu|y::xs,u::us,.cons r t,f=>λu' hu=>by
  rw[Ac,Y9]at f;rcases fj.mp hu with rfl|hu
  .rw[ZpK r f.1];exact ZuW r rx f.1 fx
  .exact Tj rx fx t f.2 u' hu
noncomputable def inV(x:V)(xs:List V):Bool:=xs.any λy=>tU y x
def rIn(K:Yc)(neg:Bool):R2:=λx y H Q=>∃p xs,y= .ref p/\(cD K H p xs\/cL K H p xs)/\qW x=true/\xs.all qW=true/\Q (.bl (if neg then !inV x xs else inV x xs)) H
theorem Zo3:aV X (iZ .In) (rIn X.K false):=by
 intro pins s σ H x y v u Q I rx ry h;obtain⟨p,xs,rfl,hq,fx,fs,q⟩:=h;cases ry;rcases hq with hq|hq
 .obtain⟨its,r,pl,hz⟩:=I.list hq;refine SeqAt.in_listAt (tV x) pl.isList (λw hw=>Tj rx fx r fs w (by simpa using hw)) ⟨.bl _,H,I,rfl,?_⟩;rw[show its.toArray.any (tV x)=its.any (tV x)by simp,Ti r fs];exact q
 .obtain⟨its,r,pl,hz⟩:=I.tuple hq;refine SeqAt.in_tupleAt (tV x) pl (λw hw=>Tj rx fx r fs w (by simpa using hw)) ⟨.bl _,H,I,rfl,?_⟩;rw[show its.toArray.any (tV x)=its.any (tV x)by simp,Ti r fs];exact q
theorem bD.or{f:Yd}{r r':List V->Hp->VK->Prop}(h:bD X f r)(h':bD X f r'):bD X f (λxs H Q=>r xs H Q\/r' xs H Q):=by
 intro pins s σ H xs us Q I rs q;rcases q with q|q
 .exact h pins s σ H xs us Q I rs q
 .exact h' pins s σ H xs us Q I rs q
theorem Zjp:bD X (.type "tuple") (λxs H Q=>∃p ys,xs=[.ref p]/\((cD X.K H p ys/\∀l,H l=Yk->Q (.ref l) (upd H l (.tup ys)))\/(cL X.K H p ys/\Q (.ref p) H))):=by
 intro pins s σ H xs us Q I r h;obtain⟨p,ys,rfl,h⟩:=h;obtain⟨u,rfl,rx⟩:=vals1 r;cases rx;rcases h with⟨hq,q⟩|⟨hq,q⟩
 .obtain⟨its,r',pl,hz⟩:=I.list hq;have hlen:=r'.length;refine call_tuple_list pl.isList (λh' kp=>?_) (by simp only[Ym]<;>exact lC 2 2268279672881 T1 hlen hz);have I1:Inv X pins σ H {s with heap:=h'}:=I.kept (t':=s.toks) kp;have I2:Inv X pins σ (upd H h'.objs.size (.tup ys)) {s with heap:=h'.push {cls:=.type "tuple",data:=.seq its.toArray}}:=
   I1.laid (t':=s.toks) (λb o e=>Yj _ e) (Yl _) (show fu X.prog X.w _ _ _ (.tup ys)from⟨hz,its,r',oV.new _ _⟩)
  exact⟨.ref h'.objs.size,_,I2,rfl,q _ (I1.hok.fresh (Yl _))⟩
 .obtain⟨its,r',pl,hz⟩:=I.tuple hq;exact call_tuple_same pl ⟨.ref p,H,I,rfl,q⟩
def Bg(K:Yc)(T:String)(x:V)(H:Hp):Prop:=match x with
 | .str _=>T= "str"|.int _=>T= "int"|.ref p=>(T= "list" /\∃xs,cD K H p xs)\/(T= "tuple" /\∃o,K.lookup p=Ya o/\o.cls= .type "tuple" /\o.dict=Yk)\/
   (T= "dict" /\((∃kvs,H p=Ya (.dK kvs))\/∃kvs,H p=Ya (.dT kvs)))\/(T= "set" /\∃S n,H p=Ya (.set S n))
 |_=>False
theorem ZpP{pins:List (Yn×aB)}{σ:St}{H:Hp}{s:Yg}{T:String}{x:V}{v:Yd}(I:Inv X pins σ H s)(r:RelV x v)(ty:Bg X.K T x H):
  s.TypeIs v T/\∀a,v= .ref a->∃ob,s.heap.get? a=Ya ob/\ob.dict=Yk:=by
 cases x with
 |str z=>obtain⟨t,rfl⟩:=r;cases(show T= "str" from ty);exact⟨QM s z t,λ_ e=>nomatch e⟩|int i=>obtain⟨t,rfl⟩:=r;cases(show T= "int" from ty);exact⟨QQ s i t,λ_ e=>nomatch e⟩|ref p=>
  cases r
  rcases ty with⟨rfl,xs,hq⟩|⟨rfl,o,hk,hc,hd⟩|⟨rfl,hk⟩|⟨rfl,S,n,hk⟩
  .obtain⟨its,_,pl,_⟩:=I.list hq;refine⟨pl.isList.typeIs,λa e=>?_⟩;cases e;obtain⟨o,n,e,c,hd,_⟩:=pl;exact⟨o,e,hd⟩
  .refine⟨⟨o,I.dw p o hk,hc⟩,λa e=>?_⟩;cases e;exact⟨o,I.dw _ o hk,hd⟩
  .have z:∃o,s.heap.get? p=Ya o/\o.ExactDict:=by
    rcases hk with⟨kvs,hk⟩|⟨kvs,hk⟩
    .obtain⟨_,_,_,_,o,_,_,e,ex,_⟩:=I.hok p _ hk;exact⟨o,e,ex⟩
    .obtain⟨_,_,_,_,o,_,_,e,ex,_⟩:=I.hok p _ hk;exact⟨o,e,ex⟩
   obtain⟨o,e,ex⟩:=z;refine⟨⟨o,e,ex.1⟩,λa e2=>?_⟩;cases e2;exact⟨o,e,ex.2.1⟩
  .obtain⟨o,_,_,_,e,ex,_⟩:=I.hok p _ hk;refine⟨⟨o,e,ex.1⟩,λa e2=>?_⟩;cases e2;exact⟨o,e,ex.2.1⟩
 |_=>exact fH ty
def Zxx(K:Yc)(T:String)(r:V->List V->Hp->VK->Prop)(to:TE):TE:=λσ H Q=>to σ H λx H1=>Bg K T x H1/\r x [] H1 Q
def tBM(K:Yc)(T:String)(r:V->List V->Hp->VK->Prop)(to:TE)(t:TA):TE:=λσ H Q=>to σ H λx H1=>Bg K T x H1/\t σ H1 λxs H2=>r x xs H2 Q
variable {o e:Expr} {es:List Expr} {to:TE} {t:TA} {name:aj} {apos cpos:aP} {T id:String} {r:V->List V->Hp->VK->Prop}
theorem ZuA(pa:PlainAttrs T)(slot:Slot T name id)(hty:typeOf (.builtin id)=pure (.type "method_descriptor"))(hm:qU X id r)(ho:PE X o to)(hbase:qC o name X.env (aH o X.env)=aH o X.env:=by rfl)(hline:(apos.endLine==cpos.line)=true:=by rfl):PE X (.Call (.Attribute o name apos) [] [] cpos) (Zxx X.K T r to):=by intro pins s σ H Q I h;refine wpAny_Call_method0_late hbase hline (aG (ho pins s σ H _ I h) λv s1 ak=>?_);obtain⟨x,H1,I1,r1,ty,q1⟩:=ak;obtain⟨h1,h2⟩:=ZpP I1 r1 ty;exact⟨T,id,pa,slot,hty,h1,h2,Kr rfl (PySem.evalArgs_none (hm pins s1 σ H1 x [] v [] Q I1 r1 .nil q1))⟩
theorem ZtL(pa:PlainAttrs T)(slot:Slot T name id)(hty:typeOf (.builtin id)=pure (.type "method_descriptor"))(hm:qU X id r)(ho:PE X o to)(ha:PA X (e::es) t)(hbase:qC o name X.env (aH o X.env)=aH o X.env:=by rfl)(hfew:((eF cpos (Yt (e::es) X.env)).all (λx=>!x.1)&&(zR cpos (zO [] X.env)).all (λx=>x.1.isSome)
   &&decide ((e::es).length+([]:List Keyword).length+(if([]:List Keyword).isEmpty then 0 else 1)<30))=true:=by rfl)(hline:(apos.endLine==cpos.line)=true:=by rfl)(hs:Yt (e::es) X.env=(false,aH e X.env)::Yt es X.env:=by rfl)(hplain:(eF cpos (Yt es X.env)).any (·.1)=false:=by rfl):
  PE X (.Call (.Attribute o name apos) (e::es) [] cpos) (tBM X.K T r to t):=by
 intro pins s σ H Q I h;refine wpAny_Call_method_late hbase hfew hline rfl (aG (ho pins s σ H _ I h) λv s1 ak=>?_);obtain⟨x,H1,I1,r1,ty,q1⟩:=ak;obtain⟨h1,h2⟩:=ZpP I1 r1 ty;refine⟨T,id,pa,slot,hty,h1,h2,?_⟩;have hA:=ha cpos pins s1 σ H1 _ I1 q1;rw[hs]at hA ⊢;refine Kr (by show(false|| (eF cpos (Yt es X.env)).any (·.1))=false;rw[hplain]<;>rfl) (Ks ?_);exact aG hA λus s2 ⟨vs,H2,I2,r2,q2⟩=>hm pins s2 σ H2 x vs v us Q I2 r1 r2 q2
/-xs.append(e),list.index on a module's tuple .. are qU facts of 06m -/
end
end L2
namespace L2
open PySem PySem.Spec PyProof.Rows
def Tn(X:Cx)(id:String)(r:V->List V->Hp->VK->Prop):Prop:=
 ∀(pins:List (Yn×aB)) (s:Yg) (σ:St) (H:Hp) (x:V) (xs:List V) (v:Yd) (us:List Yd) (Q:VK),Inv X pins σ H s->RelV x v->Vals xs us->r x xs H Q ->
  Yy (Y4 X.prog X.w) X.A (call (.builtin id) (v::us)) (EP X pins σ Q) X.xe s
theorem Vals.one:∀{x:V} {us:List Yd},Vals [x] us->∃u,us=[u]/\RelV x u
 |_,_,.cons r .nil=>⟨_,rfl,r⟩
theorem Vals.zero:∀{us:List Yd},Vals [] us->us=[]
 |_,.nil=>rfl
variable{xs:List V}{us:List Yd}
theorem Vals.dropLast(h:Vals xs us):Vals xs.dropLast us.dropLast:=by
 induction h with
 |nil=>exact .nil|cons r t ih=>
  cases t with
  |nil=>exact .nil|cons q t'=>exact .cons r ih
theorem Vals.eraseIdx:∀{xs:List V} {us:List Yd} (i:Nat),Vals xs us->Vals (xs.eraseIdx i) (us.eraseIdx i)
 |_,_,_,.nil=>.nil|_,_,0,.cons _ t=>t|_,_,i+1,.cons r t=>.cons r (Vals.eraseIdx i t)
theorem Vals.reverse(h:Vals xs us):Vals xs.reverse us.reverse:=by
 induction h with
 |nil=>exact .nil|cons r t ih=>rw[z9,z9];exact Vals.append ih (.cons r .nil)
theorem Vals.rep(h:Vals xs us):∀k:Nat,Vals (Yh k xs).flatten (Yh k us).flatten
 |0=>.nil|k+1=>by rw[nF,nF,qF,qF];exact Vals.append h (Vals.rep h k)
theorem Zmm{α:Type}(l:List α):l.eraseIdx (l.length-1)=l.dropLast:=by
 induction l with
 |nil=>rfl|cons a r ih=>
  cases r with
  |nil=>rfl|cons b r=>
   have e:(a::b::r).length-1=((b::r).length-1)+1:=by have h1:(a::b::r).length=r.length+2:=rfl;have h2:(b::r).length=r.length+1:=rfl;exact iw (lE 4 0xa4c30a4c0012a3c2121b1c221a1c031 T1 h2 h1 (lG (lB 1 687760064561 T1 h1)) (lK _ _)) (lE 4 0x3a4c00a4c21a3c20121b1c231a1c021 T1 h2 h1 (lK _ _) (lG (lB 1 2694955057 T1 h2)))
   rw[e,List.eraseIdx_cons_succ,ih]
   all_goals rfl
theorem Zju{α:Type}:∀(l:List α) (i:Nat),(l.eraseIdx i).length<=l.length
 |[],_=>Yl _|_::_,0=>Nat.le_succ _|_::r,i+1=>Yk8 (Zju r i)
theorem foldl_rep(its:List Yd):∀(k:Nat) (acc:List Yd),
  Rf (λx1 x2=>x1++x2) acc.toArray (Yh k its.toArray)=(acc++(Yh k its).flatten).toArray
 |0,acc=>by simp|k+1,acc=>by
  have e:acc.toArray++its.toArray=(acc++its).toArray:=by simp
  have e2:(acc++its)++(Yh k its).flatten=acc++(Yh (k+1) its).flatten:=by rw[nF,qF,mG]
  rw[←e2,←foldl_rep its k (acc++its),←e,nF,sY]
section
variable {X:Cx} {pins:List (Yn×aB)} {σ:St} {H:Hp} {s:Yg} {l b:Yn} {xs ys zs:List V}
theorem Inv.PQ{its its':List Yd}{n:Nat}{f:Array Yd->Array Yd}{t':Nat}(I:Inv X pins σ H s)(hH:H l=Ya (.lst xs))(e:s.heap.get? l=Ya {cls:=.type "list",data:=.seq its.toArray n})(hf:f its.toArray=its'.toArray)(hv:Vals ys its')(hz:ys.length<=Y7):
  Inv X pins σ (upd H l (.lst ys)) {s with heap:=s.heap.update l (FN f),toks:=t'}:=by
 have q:=PySem.IsL.update e f;rw[hf]at q;refine I.write (x:=l) (e:=l) (by rw[hH];exact trivial) (.inl rfl) (λb' u hb hu=>(J1 s.heap (FN f) (bK hb)).trans hu) ⟨_,q⟩ ?_;exact⟨hz,its',_,hv,q⟩
theorem Inv.YW{its:List Yd}{t':Nat}(I:Inv X pins σ H s)(hv:Vals ys its)(hz:ys.length<=Y7):
  Inv X pins σ (upd H s.heap.objs.size (.lst ys)) {s with heap:=s.heap.push {cls:=.type "list",data:=.seq its.toArray},toks:=t'}:=
 I.laid (λ_ _ q=>Yj _ q) (Yl _) ⟨hz,its,0,hv,Y0 _ rfl⟩
theorem Inv.fresh(I:Inv X pins σ H s):H s.heap.objs.size=Yk:=I.hok.fresh (Yl _)
theorem Inv.zH(I:Inv X pins σ H s)(hH:H l=Ya (.lst xs)):xs.length<=Y7/\∃(its:List Yd) (n:Nat),Vals xs its/\xs.length=its.length/\s.heap.get? l=Ya {cls:=.type "list",data:=.seq its.toArray n}:=by obtain⟨z,its,n,r,e⟩:=I.hok l _ hH;exact⟨z,its,n,r,r.length,e⟩
theorem ZqZ{n:Nat}(h:n<=Y7):RN n=false:=by unfold RN;exact decide_eq_false (by omega)
end
section
variable {X:Cx}
noncomputable def ZnK:V->List V->Hp->VK->Prop:=λx vs H Q=>∃l xs y,x= .ref l/\vs=[y]/\H l=Ya (.lst xs)/\xs.length<Y7/\Q .non (upd H l (.lst (xs++[y])))
theorem Tp:Tn X "list.append" ZnK:=by intro pins s σ H x vs v us Q I rx rv h;obtain⟨l,xs,y,rfl,rfl,hH,hz,q⟩:=h;cases rx;obtain⟨u,rfl,ru⟩:=rv.one;obtain⟨z,its,n,r,hl,e⟩:=I.zH hH;refine xr F.slot_list_append ⟨_,e,rfl⟩ F.entry_list_append (F.args_list_append_2 _ _) (PySem.list_append l its.toArray n u (by rw[Ym];exact lC 2 2268279672881 T1 hl z)) ⟨e,?_⟩;refine⟨.non,_,I.PQ (its':=its++[u]) hH e (by simp) (r.append (.cons ru .nil)) ?_,rfl,q⟩;rw[Yv,xN];exact lB 1 6991908881 T1 hz
noncomputable def Zxm:V->List V->Hp->VK->Prop:=λx vs H Q=>∃l xs y,x= .ref l/\vs=[]/\H l=Ya (.lst xs)/\xs[xs.length-1]?=Ya y/\Q y (upd H l (.lst xs.dropLast))
theorem ZuS:Tn X "list.pop" Zxm:=by
 intro pins s σ H x vs v us Q I rx rv h;obtain⟨l,xs,y,rfl,rfl,hH,hy,q⟩:=h;cases rx;have hus:=rv.zero;subst hus;obtain⟨z,its,n,r,hl,e⟩:=I.zH hH;obtain⟨u,hu,ru⟩:=r.get hy;have hy':its.toArray[its.toArray.size-1]?=Ya u:=by show its.toArray[its.length-1]?=Ya u;rw[←RL,←hl];exact hu
 refine xr Ylo ⟨_,e,rfl⟩ Yk9 (F.args_list_pop_1 _) (MeetsSeq.list_pop_last l its.toArray n u hy' (by rw[Ym];exact lC 2 2268279672881 T1 hl z)) ⟨e,?_⟩;refine⟨y,_,I.PQ (its':=its.dropLast) hH e ?_ r.dropLast ?_,ru,q⟩
 .show its.toArray.eraseIdxIfInBounds (its.toArray.size-1)=its.dropLast.toArray;rw[Ym,Yfd,Zmm]
 .rw[List.length_dropLast];exact Yu (Ag _ _) z
noncomputable def ZqG:V->List V->Hp->VK->Prop:=λx vs H Q=>∃l xs i k y,x= .ref l/\vs=[.int i]/\H l=Ya (.lst xs)/\ -(2^63)<=i/\i<2^63/\QW i xs.length=Ya k/\xs[k]?=Ya y/\Q y (upd H l (.lst (xs.eraseIdx k)))
theorem ZpS:Tn X "list.pop" ZqG:=by
 intro pins s σ H x vs v us Q I rx rv h;obtain⟨l,xs,i,k,y,rfl,rfl,hH,h1,h2,hk,hy,q⟩:=h;cases rx;obtain⟨u,rfl,ru⟩:=rv.one;obtain⟨t,rfl⟩:=ru;obtain⟨z,its,n,r,hl,e⟩:=I.zH hH;obtain⟨w,hw,jm⟩:=r.get hy;refine xr Ylo ⟨_,e,rfl⟩ Yk9 (F.args_list_pop_2 _ _)
  (MeetsSeq.list_pop_at l its.toArray n i t k w (fitsIndex_both h1 h2) (by rw[Ym,←hl];exact hk) (by rw[←RL];exact hw) (by rw[Ym];exact lC 2 2268279672881 T1 hl z)) ⟨e,?_⟩
 refine⟨y,_,I.PQ (its':=its.eraseIdx k) hH e ?_ (r.eraseIdx k) ?_,jm,q⟩
 .show its.toArray.eraseIdxIfInBounds k=(its.eraseIdx k).toArray;rw[Yfd]
 .have:=Zju xs k;exact Yu this z
def Zza:R2:=λx y H Q=>∃l b xs zs,x= .ref l/\y= .ref b/\H l=Ya (.lst xs)/\H b=Ya (.lst zs)/\xs.length+zs.length<=Y7/\∀p,H p=Yk->Q (.ref p) (upd H p (.lst (xs++zs)))
theorem Zu0:aV X (i_ .Add) Zza:=by
 intro pins s σ H x y v u Q I rx ry h;obtain⟨l,b,xs,zs,rfl,rfl,hH,hB,hz,q⟩:=h;cases rx;cases ry;obtain⟨z,its,n,r,hl,e⟩:=I.zH hH;obtain⟨z2,its2,n2,r2,hl2,e2⟩:=I.zH hB;refine PySem.P.add_list e e2 ?_ (by rw[Ym,Ym];exact lE 3 0x413c0402c0132311031 T1 hl2 hl hz);have ea:its.toArray++its2.toArray=(its++its2).toArray:=by simp
 rw[ea];exact⟨.ref _,_,I.YW (t':=s.toks) (r.append r2) (by rw[Yv];exact hz),rfl,q _ I.fresh⟩
def ZyM:R2:=λx y H Q=>∃l k xs,x= .ref l/\y= .int k/\H l=Ya (.lst xs)/\ -(2^63)<=k/\k<2^63/\xs.length*k.toNat<=Y7/\
 ∀p,H p=Yk->Q (.ref p) (upd H p (.lst (Yh k.toNat xs).flatten))
theorem len_rep{α:Type}(xs:List α)(k:Nat):(Yh k xs).flatten.length=k*xs.length:=by
 induction k with
 |zero=>simp|succ k ih=>rw[nF,qF,Yv,ih,Nat.succ_mul,xQ]
theorem Zuw:aV X (i_ .Mult) ZyM:=by
 intro pins s σ H x y v u Q I rx ry h;obtain⟨l,k,xs,rfl,rfl,hH,h1,h2,hz,q⟩:=h;cases rx;obtain⟨t,rfl⟩:=ry;obtain⟨z,its,n,r,hl,e⟩:=I.zH hH;have hlen:its.toArray.size*k.toNat<=Y7:=by rw[Ym,←hl];exact hz
 have Adb:¬its.toArray.size*k.toNat>(2^63-1) / 8:=by
  have:(Y7:Nat)<=(2^63-1) / 8:=by decide
  omega
 have hfit:¬(!Builtin.List.listFitsIndex k)=true:=by rw[fitsIndex_both h1 h2];exact mH
 have AcQ:¬RN (its.toArray.size*k.toNat)=true:=by rw[ZqZ hlen];exact mH
 have hnew:Rf (λx1 x2=>x1++x2) #[] (Yh (if its.toArray.isEmpty=true then 0 else k.toNat) its.toArray)=(Yh k.toNat its).flatten.toArray:=by
  have f0:∀m:Nat,Rf (λx1 x2=>x1++x2) #[] (Yh m its.toArray)=(Yh m its).flatten.toArray:=λm=>by have:=foldl_rep its m [];rw[qI]at this;exact this
  rw[f0];cases its with
  |nil=>simp|cons a r'=>rw[if_neg (by simp)]
 refine wpAny_binaryOp_repeat_ref (T:="list") (U:="int") (by decide) ⟨_,e,rfl⟩ (λs'=>QQ s' k t) noFill_list_mul F.fills_int_mul Ylp repeat_list F.slot_int_index.lookup
  (xr Ylp (QQ s k t) F.entry_int_rmul (F.args_int_rmul_2 _ _) (int___rmul___int_list k t l its.toArray n)
   ⟨e,rfl,⟨_,e,rfl⟩,xr F.slot_list_mul ⟨_,e,rfl⟩ F.entry_list_mul (F.args_list_mul_2 _ _) (AutoListH.list___mul___list_int_3 l its.toArray n k t hfit Adb AcQ) ⟨e,?_⟩⟩)
 rw[hnew];exact⟨.ref _,_,I.YW (t':=s.toks) (r.rep k.toNat) (by rw[len_rep,Nat.mul_comm];exact hz),rfl,q _ I.fresh⟩
end
end L2
namespace Att
open PySem PySem.W PySem.Calls PyProof.Rows
theorem ZhX{P:Params}{h:au}:∀(ns:List Int) (vs:List Yd),WellAll P h vs (ns.map WData.int)->IntsAre vs ns:=by
 intro ns
 induction ns with
 |nil=>intro vs w;rw[Yes]at w;cases w;exact .nil|cons n ns ih=>
  intro vs w;rw[Y8]at w;cases w with
  |cons a b=>
   cases a
   exact .cons _ _ (ih _ b)
theorem Zo9{l:OpenLaw}{n:Nat}(hn:l.most=Ya n){P:Params}{h:au}{args:List WData}{vals:List Yd}(hpre:l.row.toRowW.claim.pre args=true)(hwl:WellAll P h vals args):
  ∃a vs ns,vals=[Value.ref a]/\args=[WData.list (ns.map WData.int)]/\h.get? a=Ya {cls:=.type "list",data:=.seq vs.toArray}/\IntsAre vs ns/\ns.length<=n:=by
 have hsh:WShape.hasAll [] args [.list .int]=true:=(pre_splitW hpre).1;have hc:l.pre.holds [] {args:=args}=true:=(pre_splitW hpre).2;obtain⟨d,r,rfl,h1,h2⟩:=hasAllW_cons hsh;obtain rfl:=hasAllW_nil h2;obtain⟨xs,rfl,h3⟩:=hasW_list h1;obtain⟨ns,rfl⟩:=items_int h3;have hlen:ns.length<=n:=by
  unfold OpenLaw.pre at hc;have h4:(WTm.not (.lt (.lit (.int (n:Int))) (.len (.arg 0)))).holds [] {args:=[.list (ns.map .int)]}=true:=by have h4:=(holds_andW hc).1;rw[hn]at h4;exact h4
  have h5:=condW_of h4 (w_not (w_lt w_lit (w_len_list (w_arg rfl))));rw[jP]at h5;refine pP λq=>?_;have q':(n:Int)<((ns.length:Nat):Int):=by exact Kf.2 q
  first
   |(rw[decide_eq_true q']at h5;exact absurd h5 (by decide))
   |(simp at h5;omega)
 cases hwl with
 |cons w1 w2=>
  cases w2
  cases w1 with
  |list ho hall=>exact⟨_,_,ns,rfl,rfl,ho,ZhX ns _ hall,hlen⟩
theorem ZoM(l:OpenLaw)(args:List WData):l.row.toRowW.claim.post args (.bool true) args=true:=
 postW_of (r:=l.row.toRowW) (X:=(true==true))
  (show WShape.has [] (.bool true) .bool=true by first|rfl|decide|simp[WShape.has,WShape.arms,WShape.armsAll])
  (show(WTm.eq .res (.lit (.bool true))).value [] {args:=args,res:=Ya (.bool true),after:=args}=Ya (.bool (true==true))from w_eq_bool (w_res rfl) w_lit) rfl
theorem Abn{l:OpenLaw}{n:Nat}{q:aX}{loose:List aj}{XP:(aj->Option Yd)->au->Prop}{YP:aU->au->Prop}{d:DefRec}(hn:l.most=Ya n)(hdf:d.params.defaults=[])(call:∀(w:aU) (s₀ s₁:Yg) (mg mb:aj->Option Yd) (fa:Yn) (o:aB) (pm cd doc:Yd) (a:Yn) (vs:List Yd) (ns:List Int),
   Ground q loose [] XP w s₀ mg mb s₁.heap->YP w s₁.heap ->
   s₁.heap.get? fa=Ya o->o.data= .func (docDef d.name d.params d.body d.scope pm cd doc)->s₁.heap.CodeRec cd d.name->mg d.name=Ya (.ref fa) ->
   s₁.heap.get? a=Ya {cls:=.type "list",data:=.seq vs.toArray}->IntsAre vs ns->ns.length<=n->s₁.gens= #[] ->
   jM (Y4 l.prog w) uR (.call (.ref fa) ⟨[.ref a],[]⟩) (λr s'=>r= .ok (.ret (.bool true))/\OldK s₁.heap s'.heap/\s'.os=s₁.os/\qL s'.gens) s₁):
  WalkO q loose XP YP l.row.toRowW d [] (λf vs=>QR f vs):=by
 intro w s₀ s₁ mg mb G Y fa o pm cd doc dV kV ho hd hcd hD hmg hg args vals as hpre hlay hrd hwl hlo;obtain rfl:dV= .none:=Dflts.none hD hdf;obtain rfl:kV= .none:=Dflts.noKw hD;obtain⟨a,vs,ns,rfl,rfl,hobj,hints,hlen⟩:=Zo9 hn hpre hwl;refine enter_call (zN (call w s₀ s₁ mg mb fa o pm cd doc a vs ns G Y ho (fd_plain hd) hcd hmg hobj hints hlen hg) λr s' hq=>?_);obtain⟨rfl,h2,h3,h4⟩:=hq;exact⟨.inl ⟨.bool true,.bool true,[],rfl,λ_=>rfl,.bool true,ZoM l _,λ_=>⟨List.Pairwise.nil,λ_ hm=>(nomatch hm)⟩⟩,h2,h3,h4⟩
end Att
namespace L2
open PySem PySem.Spec PyProof.Rows
theorem Zjr:∀{vs:List Yd} {ns:List Int},IntsAre vs ns->Vals (ns.map V.int) vs
 |_,_,.nil=>.nil|_,_,.cons n t h=>.cons ⟨t,rfl⟩ (Zjr h)
def Only(H:Hp):Prop:=∀b,H b=Yk\/∃o xs,H b=Ya (.fQ o (.lst xs))
theorem ZqB{P:aX}{w:aU}{K:Yc}{mg mb:aj->Option Yd}{CX:qR}{k:Nat}{fa a:Yn}{fd:j7}{x:aj}{sp:Sp}{s₁:Yg}{vs:List Yd}{ns:List Int}(KX:K.In s₁.heap)(hns:s₁.heap.Ns Y1 mg)(hb:s₁.heap.Ns QJ mb)(hbb:∀x:aj,x≠ "__name__" ->mb x=jl x)(hlim:s₁.heap.NoLimit)(hg:s₁.gens= #[])(ha:s₁.heap.get? a=Ya {cls:=.type "list",data:=.seq vs.toArray})(hi:IntsAre vs ns)(hl:ns.length<=Y7)(hr:cN k uR)(F:∀base:au,K.In base->base.Ns Y1 mg->fU P w K mg base CX k fa fd [x] sp)(hbind:∀(s:Yg) (u:Yd),zU s fd ⟨[u],[]⟩ [(x,u)])(hsp:∀H:Hp,Only H->cD K H a (ns.map V.int)->sp [.ref a] H (λv _=>v= .bl true) λ_ _ _=>False)(Tq:∀H e s',CX [] H s₁ (λ_ _ _=>False) e s'->False):
  jM (Y4 P w) uR (.call (.ref fa) ⟨[.ref a],[]⟩) (λr s'=>r= .ok (.ret (.bool true))/\OldK s₁.heap s'.heap/\s'.os=s₁.os/\qL s'.gens) s₁:=by
 have rv:=Zjr hi;have lenV:=hi.length;have core:∀H:Hp,Only H->cD K H a (ns.map V.int)->dO P w H s₁.heap->(∀b,H b≠Yk->b=a)->(H a≠Yk->K.lookup a=Yk) ->
   jM (Y4 P w) uR (.call (.ref fa) ⟨[.ref a],[]⟩) (λr s'=>r= .ok (.ret (.bool true))/\OldK s₁.heap s'.heap/\s'.os=s₁.os/\qL s'.gens) s₁:=by
  intro H hO hS hok hA hK;have X_:∀{b:Yn} {o:aB},s₁.heap.get? b=Ya o->H b=Yk->(tL s₁.heap H).get? b=Ya o:=λe n=>Zqg e n;have Gj:∀{b:Yn} {o:aB} {es:Array DictEntry} {ep:Nat},s₁.heap.get? b=Ya o->o.data= .dict es ep->H b=Yk:=λ{b o es ep} e d=>by
   cases q:H b with
   |none=>rfl|some u=>have e':b=a:=hA b (by rw[q];simp);subst e';rw[ha]at e;cases e;have d':Data.seq vs.toArray _=Data.dict es ep:=d;cases d'
  have K_:∀{b:Yn} {m:aj->Option Yd},s₁.heap.Ns b m->(tL s₁.heap H).Ns b m:=λ{b m} ⟨o,es,ep,e,d,r⟩=>⟨o,es,ep,X_ e (Gj e d),d,r⟩;have hKb:K.In (tL s₁.heap H):=λb o e=>X_ (KX b o e) (by
   cases q:H b with
   |none=>rfl|some u=>have e':b=a:=hA b (by rw[q];simp);subst e';rw[hK (by rw[q];simp)]at e;cases e)
  have hM:Mod K mg (tL s₁.heap H):=⟨hKb,K_ hns,⟨mb,K_ hb,hbb⟩,let⟨mc,h1,h2⟩:=hlim;⟨mc,K_ h1,h2⟩⟩;have e0:qT P w K mg (tL s₁.heap H) uR [] s₁ H:=⟨rfl,hM,λb o e=>Zte e,qK (Zod _ _),trivial,λb hb=>absurd (show b∈([]:List Yn)from hb) (by simp),hok,.of_eq hg⟩;refine zN ((F _ hKb (K_ hns)).run uR [] s₁ H ⟨[.ref a],[]⟩ [.ref a] [.ref a] _ _ hr e0 (hbind s₁ (.ref a)) (.cons rfl .nil) (hsp H hO hS)) λr s' h=>?_;cases r with
  |error e=>exact(Tq H e s' h).elim|ok fl=>
   cases fl with
   |next=>exact fH h|brk=>exact fH h|cont=>exact fH h|ret u=>
    obtain⟨v,H',os,bare,un,hok',r',q⟩:=h;have q':v= .bl true:=q;subst q';obtain rfl:u=Value.bool true:=r';refine⟨rfl,OldK.of_keep λb o e=>?_,os,bare⟩;cases q:H b with
    |none=>exact un.keep b o e q (by intro z;exact absurd (show b∈([]:List Yn)from z) (by simp)) (by simp)|some u=>
     rcases hO b with z|⟨ob,xs,z⟩
     .rw[q]at z;cases z
     .have z2:=un.lq b ob _ z;obtain⟨e1,_⟩:=hok b _ z;obtain⟨e2,_⟩:=hok' b _ z2;rw[e]at e1;cases e1;exact e2
 cases hk:K.lookup a with
 |some o=>have e:=KX a o hk;rw[ha]at e;cases e;refine core (λ_=>Yk) (λ_=>.inl rfl) (.inr ⟨_,vs.toArray,_,hk,rfl,rfl,rfl,by rw[Ym,lenV];exact hl,by simpa using rv⟩) (λb u z=>by have z':(Yk:Option HO)=Ya u:=z;cases z') (λb z=>absurd rfl z) λz=>absurd rfl z|none=>
  refine core (λb=>if b=a then Ya (.fQ {cls:=.type "list",data:=.seq vs.toArray} (.lst (ns.map V.int)))else Yk) (λb=>?_) (.inl (.inr ⟨{cls:=.type "list",data:=.seq vs.toArray},if_pos rfl⟩)) (λb u z=>?_) (λb z=>?_) λ_=>hk
  .by_cases hb:b=a
   .exact .inr ⟨_,_,if_pos hb⟩
   .exact .inl (if_neg hb)
  .by_cases hb:b=a
   .have z':=(if_pos hb).symm.trans z;cases z';subst hb;exact⟨ha,by rw[jP];exact hl,vs,_,rv,ha⟩
   .have z':=(if_neg hb).symm.trans z;cases z'
  .by_cases hb:b=a
   .exact hb
   .exact absurd (if_neg hb) z
end L2
namespace L2
open PySem PySem.Spec PyProof.Rows
theorem Zn5{l:PySem.W.OpenLaw}{n k:Nat}{q:aX}{loose:List aj}{XP:(aj->Option Yd)->au->Prop}{YP:aU->au->Prop}{d:DefRec}{K:Params->Yc}{CX:aU->qR}{sp:aU->Sp}{x:aj}(hn:l.most=Ya n)(hn2:n<=Y7)(hdf:d.params.defaults=[])(hr:cN k uR)(hY:∀(w:aU) (h:au),YP w h->(K w.params).In h)(F:∀(w:aU) (mg:aj->Option Yd) (fa:Yn) (h:au),(K w.params).In h->h.Ns Y1 mg->mg d.name=Ya (.ref fa) ->
   ∃fd:j7,(∀(s:Yg) (u:Yd),zU s fd ⟨[u],[]⟩ [(x,u)])/\
    ∀base:au,(K w.params).In base->base.Ns Y1 mg->fU l.prog w (K w.params) mg base (CX w) k fa fd [x] (sp w))(hsp:∀(w:aU) (H:Hp) (a:Yn) (ns:List Int),ns.length<=n->Only H->cD (K w.params) H a (ns.map V.int)->sp w [.ref a] H (λv _=>v= .bl true) λ_ _ _=>False)(Tq:∀(w:aU) (H:Hp) (s:Yg) (e:Yd) (s':Yg),CX w [] H s (λ_ _ _=>False) e s'->False):
  Ymj q loose XP YP l.row.toRowW d [] (λf vs=>QR f vs):=by
 refine Att.Abn hn hdf λw s₀ s₁ mg mb fa o pm cd doc a vs ns G Y ho hd hcd hmg hobj hints hlen hg=>?_;have KX:=hY w _ Y;obtain⟨fd,hb,hF⟩:=F w mg fa _ KX G.T.g hmg;exact ZqB KX G.T.g G.T.b G.T.builtins G.T.nolimit hg hobj hints (Yu hlen hn2) hr hF hb (λH hO hS=>hsp w H a ns hlen hO hS) λH e s'=>Tq w H s₁ e s'
end L2
/-THE LAST THEOREM (shape;LID,My.*are AfF):
  My.Adr:a structure of the addresses that your layer names (classes,functions);My.Txt K t:a structure (Prop) of the equations over K;
  My.AcH:{K} {implicit addresses ..} (e1:nsIn K Y1 "law" =Ya (Ya (.ref f))) (e2:K.lookup f=Ya ⟨oc,od,.func (fnOf "law" "law" params body scope dV kV doc pm an cdv ct),sl⟩) (e3:codeIn K cdv "law" =true) ..:∃t,My.Txt K t
set_option maxRecDepth 100000 in
set_option maxHeartbeats 0 in
theorem PySem.Challenge.cw_LID_holds : PySem.Challenge.rw_LID.Holds := by
 w_on;o_law;k_head;(case hw=>w_witness2)
 k_fill
 refine L2.Zn5 (l:=PySem.Challenge.rw_LID) (n:=63) (k:=40) (x:="script") (CX:=λw=>..) (sp:=λ_=>My.sp_law) rfl (by decide) rfl ⟨rfl,by decide,by decide⟩ (λw h Y=>PySem.W.kIn_of Y) ?F ?S ?C
 case F=>
  intro w mg fa h KX G hmg;have T:∃t,My.Txt (L2.KOf KX) t:=by
   dsimp only[L2.KOf]                          --K must stand as «<heap const>w.params» for k_is;refine' My.AcH ?e1 ?e2 ?e3 ..
   (case e1=>PySem.W.k_is)                    --in the order:a name->its address->its object->its parts
   (case e2=>PySem.W.k_is)
   ..
  obtain⟨t,T⟩:=T;have e0:=hmg.symm.trans (Ymk KX G T.law);cases e0                                       --fa is the law's own address;exact⟨_,λs u=>.of_eq rfl,λbase kb nb=>My.AcI T kb nb⟩     --if «.of_eq rfl» comes too early:refine'⟨_,?b,λbase kb nb=>My.AcI T kb nb⟩;exactλs u=>.of_eq rfl
 case S=>exactλw H a ns hl hO hS=>..
 case C=>exact ..
(the tactic k_is has no namespace:write k_is) -/
namespace L2
open PySem PySem.Spec PyProof.Rows
noncomputable def cR(s:Ydm):Arguments:=match s with
 | .FunctionDef _ a _ _ _ _ _ _ _ _=>a|_=>{posonlyargs:=[],args:=[],vararg:=Yk,kwonlyargs:=[],kw_defaults:=[],kwarg:=Yk,defaults:=[]}
noncomputable def cj(s:Ydm):List Ydm:=match s with
 | .FunctionDef _ _ b _ _ _ _ _ _ _=>b|_=>[]
noncomputable def Zm(s:Ydm):Scope:=match s with
 | .FunctionDef _ _ _ _ _ _ sc _ _ _=>sc|_=>{kind:=.function,names:=[],isGenerator:=false,isCoroutine:=false}
noncomputable abbrev j_:qR:=λ_ _ _ _ _ _=>False
noncomputable abbrev E0:XK:=λ_ _ _=>False
theorem ZtE{X:Cx}:Gi j_ X E0:=λ_ _ _ _ _ _ _ h=>h.elim
structure pW(K:Yc)(x qual:aj)(st:Ydm)(f:Yn)(fd:j7):Prop where
 ex:∃(oc:Yd) (od:Option Yn) (dV kV doc pm:Yd) (an:Option Yn) (cdv ct:Yd) (osl:Array (Option Yd)),
  fd=oM x qual (cR st) (cj st) (Zm st) dV kV doc pm an cdv ct/\K.lookup f=Ya ⟨oc,od,.func fd,osl⟩/\zZ K cdv qual=true
 kp:pJ K (.ref f)=true
section
variable {P:aX} {w:aU} {K:Yc} {mg:aj->Option Yd} {base:au}
theorem pW.ok{x qual:aj}{st:Ydm}{f:Yn}{fd:j7}{N ps:List aj}{k:Nat}{sp:Sp}(F:pW K x qual st f fd)(S:dz N ps (Zm st))(len:∀vs H Q E,sp vs H Q E->vs.length=ps.length)(hbody:∀(cdv:Yd) (A:bB) (outer:List cQ) (s:Yg) (H:Hp) (vs:List V) (Q:VK) (E:XK),cN k (A.deeper (lH qual (Zm st) s.heap.objs.size f cdv))->sp vs H Q E ->
   ∃t,jz (nQ j_ P w K mg base N qual (Zm st) f cdv A outer s H E).gC (cj st) t/\t {nx:=λ_ H'=>Q .non H',rt:=Q} (start N vs) H):fU P w K mg base j_ (k+1) f fd ps sp:=by
 obtain⟨oc,od,dV,kV,doc,pm,an,cdv,ct,osl,rfl,lk,hcd⟩:=F.ex;refine Ztj lk hcd S len λA outer s H vs Q E hr hsp=>?_;obtain⟨t,h,q⟩:=hbody cdv A outer s H vs Q E hr hsp;exact⟨t,h.gC,q⟩
theorem pW.binds{x qual:aj}{st:Ydm}{f:Yn}{fd:j7}{ps:List aj}(F:pW K x qual st f fd)(h:∀(dV kV doc pm:Yd) (an:Option Yn) (cdv ct:Yd) (us:List Yd),us.length=ps.length->bindArgs (oM x qual (cR st) (cj st) (Zm st) dV kV doc pm an cdv ct) ⟨us,[]⟩=pure (ps.zip us)):Binds K fd ps []:=by obtain⟨oc,od,dV,kV,doc,pm,an,cdv,ct,osl,rfl,lk,hcd⟩:=F.ex;exact .all (h dV kV doc pm an cdv ct)
theorem ZqY{x qual:aj}{st:Ydm}{f:Yn}{oc:Yd}{od an:Option Yn}{osl:Array (Option Yd)}{dV kV doc pm cdv ct:Yd}(l:K.lookup f=Ya ⟨oc,od,.func (oM x qual (cR st) (cj st) (Zm st) dV kV doc pm an cdv ct),osl⟩)(c:zZ K cdv qual=true)(k:pJ K (.ref f)=true):pW K x qual st f (oM x qual (cR st) (cj st) (Zm st) dV kV doc pm an cdv ct):=⟨⟨oc,od,dV,kV,doc,pm,an,cdv,ct,osl,rfl,l,c⟩,k⟩
end
section
variable {X:Cx}
theorem pv(i:Nat){x:aj}{pos:aP}(hN:X.N[i]?=Ya x:=by rfl)(hv:Gd X.env.scope x:=by first|exact Or.inl rfl|exact Or.inr (Or.inl rfl)|exact Or.inr (Or.inr rfl))(hd:(x==("__debug__":aj))=false:=by decide)(hcd:(x==("__classdict__":aj))=false:=by decide):PE X (.Name x pos) (ZxH i):=Zp5 hN hv hd hcd
end
def qX(H H':Hp):Prop:=∀b o,H b=Ya o->H' b=Ya o
theorem qX.refl(H:Hp):qX H H:=λ_ _ h=>h
theorem qX.trans{H H1 H2:Hp}(a:qX H H1)(b:qX H1 H2):qX H H2:=λc o h=>b c o (a c o h)
theorem qX.free{H H':Hp}(e:qX H H'){l:Yn}(h:H' l=Option.none):H l=Option.none:=by
 cases q:H l with
 |none=>rfl|some o=>rw[e l o q]at h;cases h
theorem qX.seq{K:Yc}{H H':Hp}{a:Yn}{xs:List V}(e:qX H H')(h:cD K H a xs):cD K H' a xs:=by
 rcases h with(h|⟨o,h⟩)|h
 .exact .inl (.inl (e _ _ h))
 .exact .inl (.inr ⟨o,e _ _ h⟩)
 .exact .inr h
end L2
namespace L2
open PySem PySem.Spec PyProof.Rows
variable{u:Yd}{o:Option V}
section
variable {κ:Type} [DecidableEq κ]
noncomputable def jR(kvs:List (κ×V))(k:κ):Option V:=(kvs.find? λkv=>decide (kv.1=k)).map (·.2)
noncomputable def putK(kvs:List (κ×V))(k:κ)(v:V):List (κ×V):=if(kvs.any λkv=>decide (kv.1=k))=true then kvs.map (λkv=>if kv.1=k then(kv.1,v)else kv)else kvs++[(k,v)]
theorem Zqf{k:κ}:jR ([]:List (κ×V)) k=Yk:=rfl
theorem La{p:κ×V}{r:List (κ×V)}{k:κ}(e:p.1=k):jR (p::r) k=Ya p.2:=by simp[jR,Aa,e]
theorem Lb{p:κ×V}{r:List (κ×V)}{k:κ}(e:¬p.1=k):jR (p::r) k=jR r k:=by simp[jR,Aa,e]
theorem Zll(k:κ):∀kvs:List (κ×V),(kvs.any λkv=>decide (kv.1=k))=(jR kvs k).isSome
 |[]=>rfl|p::r=>by
  rw[pO];by_cases e:p.1=k
  .simp only[La e,decide_eq_true e,Bool.true_or,Z9]
  .rw[Lb e,decide_eq_false e,Ro];exact Zll k r
theorem Tr(kvs:List (κ×V))(k:κ)(v:V):(putK kvs k v).length<=kvs.length+1:=by
 unfold putK;split
 .rw[jP];exact sZ _ _
 .rw[Yv,Ys,pN];exact lA 0 43162452160 T1
theorem jy.Ab0{u:Option Yd}(r:jy o u):o.isSome=u.isSome:=by
 cases o with
 |none=>cases u with
  |none=>rfl|some _=>exact(show False from r).elim
 |some _=>cases u with
  |none=>exact(show False from r).elim|some _=>rfl
theorem jy.getD{u:Option Yd}{d:V}{d':Yd}(r:jy o u)(rd:RelV d d'):RelV (o.getD d) (u.getD d'):=by
 cases o with
 |none=>cases u with
  |none=>exact rd|some _=>exact(show False from r).elim
 |some _=>cases u with
  |none=>exact(show False from r).elim|some _=>exact r
theorem KV.val{kvs:List (κ×V)}{vs:List (κ×Yd)}(r:KV kvs vs)(k:κ):jy (jR kvs k) (xF vs k):=by
 unfold KV at r
 induction r with
 |nil=>exact True.intro|@cons p q ps qs h t ih=>
  obtain⟨h1,h2⟩:=h;by_cases e:p.1=k
  .have e':q.1=k:=h1.symm.trans e;have b:xF (q::qs) k=Ya q.2:=by simp[xF,Aa,e']
   rw[La e,b];exact h2
  .have e':¬q.1=k:=λz=>e (h1.trans z);have b:xF (q::qs) k=xF qs k:=by simp[xF,Aa,e']
   rw[Lb e,b];exact ih
theorem KV.any{kvs:List (κ×V)}{vs:List (κ×Yd)}(r:KV kvs vs)(k:κ):(kvs.any λkv=>decide (kv.1=k))=vs.any λkv=>decide (kv.1=k):=by
 unfold KV at r
 induction r with
 |nil=>rfl|cons h t ih=>rw[pO,pO,ih,h.1]
theorem KV.repl{kvs:List (κ×V)}{vs:List (κ×Yd)}(r:KV kvs vs)(k:κ){y:V}(ry:RelV y u):
  KV (kvs.map λkv=>if kv.1=k then(kv.1,y)else kv) (vs.map λkv=>if kv.1=k then(kv.1,u)else kv):=by
 unfold KV at r ⊢
 induction r with
 |nil=>exact .nil|@cons p q ps qs h t ih=>
  rw[Y8,Y8];refine .cons ?_ ih;obtain⟨h1,h2⟩:=h;by_cases e:p.1=k
  .rw[if_pos e,if_pos (h1.symm.trans e)];exact⟨h1,ry⟩
  .rw[if_neg e,if_neg (λz=>e (h1.trans z))];exact⟨h1,h2⟩
theorem KV.put{kvs:List (κ×V)}{vs:List (κ×Yd)}(r:KV kvs vs)(k:κ){y:V}(ry:RelV y u):KV (putK kvs k y) (sJ vs k u):=by
 unfold putK sJ;rw[r.any k];by_cases e:(vs.any λkv=>decide (kv.1=k))=true
 .rw[if_pos e,if_pos e];exact r.repl k ry
 .rw[if_neg e,if_neg e];exact Paired.snoc r ⟨rfl,ry⟩
theorem KV.keys{kvs:List (κ×V)}{vs:List (κ×Yd)}(r:KV kvs vs):kvs.map (·.1)=vs.map (·.1):=by
 unfold KV at r
 induction r with
 |nil=>rfl|cons h t ih=>rw[Y8,Y8,ih,h.1]
theorem KV.length{kvs:List (κ×V)}{vs:List (κ×Yd)}(r:KV kvs vs):kvs.length=vs.length:=RZ r
end
variable{w:aU}
theorem yc{P:aX}{k:Key}(r:RelV (kV k) u):(dZ P w).is k u=true:=by
 cases k with
 |inl i=>obtain⟨t,e⟩:=(show∃t,u=Value.int i t from r);subst e;exact Zk6 P w i t|inr x=>obtain⟨t,e⟩:=(show∃t,u=Value.str x t from r);subst e;exact Zlo P w x t
theorem Zjx{P:aX}{w:aU}:∀{ks:List Key} {us:List Yd},Vals (ks.map kV) us->ItemsAre (dZ P w) ks us
 |[],_,r=>by rw[Yes]at r;cases r;exact .nil|k::ks,_,r=>by
  rw[Y8]at r;cases r with
  |cons h t=>exact .cons (yc h) (Zjx t)
noncomputable abbrev KT(H:Hp):List (List Key×V)->List (List Key×Yn×Yd)->Prop:=Paired λp q=>p.1=q.1/\H q.2.1=Ya (.tup (p.1.map kV))/\RelV p.2 q.2.2
variable{kvs:List (List Key×V)}{H:Hp}{xs:List (List Key×Yn×Yd)}
theorem KT.val(r:KT H kvs xs)(k:List Key):jy (jR kvs k) ((sO xs k).map (·.2)):=by
 induction r with
 |nil=>exact True.intro|@cons p q ps qs h t ih=>
  obtain⟨h1,_,h2⟩:=h;by_cases e:p.1=k
  .have e':q.1=k:=h1.symm.trans e;have b:sO (q::qs) k=Ya q.2:=by simp[sO,Aa,e']
   rw[La e,b];exact h2
  .have e':¬q.1=k:=λz=>e (h1.trans z);have b:sO (q::qs) k=sO qs k:=by simp[sO,Aa,e']
   rw[Lb e,b];exact ih
theorem KT.repl(r:KT H kvs xs)(k:List Key){y:V}(ry:RelV y u):
  KT H (kvs.map λkv=>if kv.1=k then(kv.1,y)else kv) (xs.map (putAt k u)):=by
 induction r with
 |nil=>exact .nil|@cons p q ps qs h t ih=>
  rw[Y8,Y8];refine .cons ?_ ih;obtain⟨h1,h2,h3⟩:=h;unfold putAt;by_cases e:p.1=k
  .rw[if_pos e,if_pos (h1.symm.trans e)];exact⟨h1,h2,ry⟩
  .rw[if_neg e,if_neg (λz=>e (h1.trans z))];exact⟨h1,h2,h3⟩
theorem KT.put(r:KT H kvs xs)(k:List Key){b:Yn}{y:V}(hb:H b=Ya (.tup (k.map kV)))(ry:RelV y u):
  KT H (putK kvs k y) (storedH xs k b u):=by
 have e:(kvs.any λkv=>decide (kv.1=k))=(sO xs k).isSome:=by rw[Zll,(r.val k).Ab0,Option.isSome_map]
 unfold putK storedH;rw[e];by_cases q:(sO xs k).isSome=true
 .rw[if_pos q,if_pos q];exact r.repl k ry
 .rw[if_neg q,if_neg q];exact Paired.snoc r ⟨rfl,hb,ry⟩
theorem KT.keeps{H':Hp}(r:KT H kvs xs)(ht:∀b ys,H b=Ya (.tup ys)->H' b=Ya (.tup ys)):KT H' kvs xs:=Paired.PN r λ_ _ z=>⟨z.1,ht _ _ z.2.1,z.2.2⟩
section
variable {P:aX} {w:aU} {H:Hp} {h:au} {a:Yn}
theorem ZtK{u:HO}(ok:dO P w H h)(e:Rd H a u):fu P w H h a u:=e.ok ok
theorem Bh{kvs:List (Key×V)}(ok:dO P w H h)(e:Rd H a (.dK kvs)):kvs.length<=Y7/\(a==qD)=false/\∃vs,KV kvs vs/\h.DictOf (dZ P w) a vs:=show fu P w H h a (.dK kvs)from ZtK ok e
theorem ZtG{kvs:List (Key×V)}(ok:dO P w H h)(e:H a=Ya (.dK kvs)):kvs.length<=Y7/\(a==qD)=false/\∃vs,KV kvs vs/\h.DictOf (dZ P w) a vs:=Bh ok (.inl e)
theorem Ld{ks:List Key}(ok:dO P w H h)(e:H a=Ya (.tup (ks.map kV))):(zQ (dZ P w)).is h ks a:=by obtain⟨_,its,r,o,h1,h2,n,h3⟩:=(show fu P w H h a (.tup (ks.map kV))from ok a _ e);exact⟨o,its.toArray,n,h1,h2.1,h3,by simpa using Zjx r⟩
theorem Gk(ok:dO P w H h)(e:Rd H a (.dT kvs)):kvs.length<=Y7/\(a==qD)=false/\
  ∃xs,KT H kvs xs/\h.DictOfH (zQ (dZ P w)) a xs:=by
 obtain⟨z,y,xs,r,o,es,ep,h1,h2,h3,h4,h5⟩:=(show fu P w H h a (.dT kvs)from ZtK ok e);refine⟨z,y,xs,r,o,es,ep,h1,h2,h3,h4,λx hx=>?_,h5⟩;have all:∀{l:List (List Key×V)} {m:List (List Key×Yn×Yd)},KT H l m->∀x∈m,(zQ (dZ P w)).is h x.1 x.2.1:=by
  intro l m q
  induction q with
  |nil=>intro x hx;exact nomatch hx|@cons p q ps qs hq t ih=>
   intro x hx;rcases fj.mp hx with e|hx
   .subst e;exact Ld ok (by rw[←hq.1];exact hq.2.1)
   .exact ih x hx
 exact all r x hx
theorem Zwr(ok:dO P w H h)(e:H a=Ya (.dT kvs)):kvs.length<=Y7/\(a==qD)=false/\
  ∃xs,KT H kvs xs/\h.DictOfH (zQ (dZ P w)) a xs:=Gk ok (.inl e)
end
def tW(H:Hp)(a:Yn)(y:V)(r:Option V):Prop:=(∃kvs k,Rd H a (.dK kvs)/\y=kV k/\r=jR kvs k)\/∃kvs k b,Rd H a (.dT kvs)/\y= .ref b/\H b=Ya (.tup (k.map kV))/\r=jR kvs k
def vG(H:Hp)(a:Yn)(y v:V)(H':Hp):Prop:=
 (∃kvs k,H a=Ya (.dK kvs)/\y=kV k/\kvs.length<Y7/\H'=upd H a (.dK (putK kvs k v)))\/
 ∃kvs k b,H a=Ya (.dT kvs)/\y= .ref b/\H b=Ya (.tup (k.map kV))/\kvs.length<Y7/\H'=upd H a (.dT (putK kvs k v))
theorem tW.k{H:Hp}{a:Yn}{kvs:List (Key×V)}{k:Key}(e:H a=Ya (.dK kvs)):tW H a (kV k) (jR kvs k):=.inl ⟨kvs,k,.inl e,rfl,rfl⟩
theorem tW.t{a b:Yn}{k:List Key}(e:H a=Ya (.dT kvs))(eb:H b=Ya (.tup (k.map kV))):tW H a (.ref b) (jR kvs k):=.inr ⟨kvs,k,b,.inl e,rfl,eb,rfl⟩
theorem vG.k{H:Hp}{a:Yn}{kvs:List (Key×V)}{k:Key}{v:V}(e:H a=Ya (.dK kvs))(hl:kvs.length<Y7):vG H a (kV k) v (upd H a (.dK (putK kvs k v))):=.inl ⟨kvs,k,e,rfl,hl,rfl⟩
theorem vG.t{a b:Yn}{k:List Key}{v:V}(e:H a=Ya (.dT kvs))(eb:H b=Ya (.tup (k.map kV)))(hl:kvs.length<Y7):
  vG H a (.ref b) v (upd H a (.dT (putK kvs k v))):=.inr ⟨kvs,k,b,e,rfl,eb,hl,rfl⟩
variable{Q:Yd->Yg->Prop}
section
variable {X:Cx} {pins:List (Yn×aB)} {σ:St} {H:Hp} {s:Yg} {a:Yn} {y v:V} {u r:Yd} {o:Option V} {A:bB} {E:Yd->Yg->Prop}
theorem Inv.big(I:Inv X pins σ H s):qD<s.heap.objs.size:=by have h:Y1<s.heap.objs.size:=(I.mod.glob.keeps I.bk).lt;exact iy (by decide) h
theorem ZoG(hu:A.units+1<eG)(I:Inv X pins σ H s)(g:tW H a y (Ya v))(ry:RelV y u)(h:∀w' s',Inv X pins σ H s'->RelV v w'->Q w' s'):
  Yy (Y4 X.prog X.w) A (oJ (.ref a) u) Q E s:=by
 rcases g with⟨kvs,k,e,ey,l⟩|⟨kvs,k,b,e,ey,eb,l⟩
 .subst ey;obtain⟨z,hd,vs,rel,dd⟩:=Bh I.hok e;obtain⟨w',hw,jm⟩:=jy.some_of (v:=v) (o:=xF vs k) (by rw[l];exact rel.val k);exact wpAny_getItem_of (yc ry) dd.mapOf hw (h w' _ (I.tok _) jm)
 .subst ey;cases(show u=Value.ref b from ry);obtain⟨z,hd,xs,rel,dd⟩:=Gk I.hok e;obtain⟨w',hw,jm⟩:=jy.some_of (v:=v) (o:=(sO xs k).map (·.2)) (by rw[l];exact rel.val k);obtain⟨p,hp,hp2⟩:=Option.map_eq_some_iff.mp hw;refine wpAny_getItem_heap (Ql hu) (Ld I.hok eb) dd hp ?_;rw[hp2];exact h w' _ (I.tok _) jm
theorem Tt{h':au}{t':Nat}{ob:HO}(I:Inv X pins σ H s)(mu:Gb (H a))(hs:xP a s.heap h')(he:∃q,h'.get? a=Ya q)(new:fu X.prog X.w (upd H a ob) h' a ob):
  Inv X pins σ (upd H a ob) {s with heap:=h',toks:=t'}:=
 I.write (x:=a) (e:=a) mu (.inl rfl) (λb q hb z=>(hs.2 b hb).trans z) he new
theorem Gm{P:aX}{H':Hp}{h':au}{kvs:List (Key×V)}{vs:List (Key×Yd)}(z:kvs.length<=Y7)(hd:(a==qD)=false)(rel:KV kvs vs)(dd:h'.DictOf (dZ P w) a vs):
  fu P w H' h' a (.dK kvs):=⟨z,hd,vs,rel,dd⟩
theorem Zow{H':Hp}{Q:Unit->Yg->Prop}(hu:A.units+1<eG)(I:Inv X pins σ H s)(g:vG H a y v H')(ry:RelV y u)(rv:RelV v r)(h:∀s',Inv X pins σ H' s'->Q () s'):
  Yy (Y4 X.prog X.w) A (JF (.ref a) u r) Q E s:=by
 rcases g with⟨kvs,k,e,ey,l,eH⟩|⟨kvs,k,b,e,ey,eb,l,eH⟩
 .subst ey eH;obtain⟨z,hd,vs,rel,dd⟩:=ZtG I.hok e;have hz:vs.length<=Y7:=by rw[←rel.length];exact z
  have hl:(putK kvs k v).length<=Y7:=by have:=Tr kvs k v;exact lC 2 563091983155201 T1 this l
  refine wpAny_setItem_pairs (hsz:=hz) (yc ry) dd λh' jT hs=>h _ ?_;have he:∃q,h'.get? a=Ya q:=let⟨q,_,_,hq,_⟩:=jT;⟨q,hq⟩;exact Tt I (by rw[e];exact True.intro) hs he (Gm hl hd (rel.put k rv) jT)
 .subst ey eH;cases(show u=Value.ref b from ry);obtain⟨z,hd,xs,rel,dd⟩:=Zwr I.hok e;have hz:xs.length<=Y7:=by rw[←RZ rel];exact z
  have hl:(putK kvs k v).length<=Y7:=by have:=Tr kvs k v;exact lC 2 563091983155201 T1 this l
  refine wpAny_setItem_heap (hsz:=hz) (Ql hu) (Ld I.hok eb) dd λh' jT hs=>h _ ?_;obtain⟨q,es,ep,hq,h2,h3,h4,_,h5⟩:=jT;refine Tt I (by rw[e];exact True.intro) hs ⟨q,hq⟩ ⟨hl,hd,_,(rel.put k eb rv).keeps λc ys ec=>?_,q,es,ep,hq,h2,h3,h4,h5⟩;rw[dg (Zwp ec e (λz=>nomatch z))];exact ec
end
def Tu(i:Expr):Prop:=∀ov iv,Jz i false ov iv=operate [ov,iv] (oJ ov iv)
variable{pos:aP}
theorem Zs3{prog:aX}{A:bB}{E:Yd->Yg->Prop}{s:Yg}{env:cQ}{value slice:Expr}{T id:String}(hl:zP (.type T) "__getitem__" =pure (Ya (.builtin id)))(hs:Tu slice)(h:Yy (Y4 prog w) A (aH value env) (λo s₁=>Yy (Y4 prog w) A (aH slice env) (λi s₂=>s₂.TypeIs o T/\Yy (Y4 prog w) A (oJ o i) Q E s₂) E s₁) E s):
  Yy (Y4 prog w) A (aH (.Subscript value slice pos) env) Q E s:=by
 refine Ka (fc h (λo s₁ h₁=>fc h₁ (λi s₂ h₂=>?_) λ_ _ x=>x) λ_ _ x=>x);obtain⟨hT,h₂⟩:=h₂;unfold J_;refine Yb ?_;rw[getitemInPython_of_ne hT.not_modules];refine Yb (wpAny_specialOf hT hl ?_);have fin:Yy (Y4 prog w) A (Jz slice false o i) (λr s₃=>Yy (Y4 prog w) A (letTemporaryGo value o r>>=λ_=>pure r) Q E s₃) E s₂:=by rw[hs o i];exact wpAny_operating (fc h₂ (λr s₃ h₃=>Yb (wpAny_letTemporaryGo (Yi h₃))) λ_ _ x=>x)
 first
  |exact Yi (Yb fin)
  |exact Yb (Yi (Yb fin))
  |exact Yb fin
variable{X:Cx}
theorem ZlB{pins:List (Yn×aB)}{σ:St}{s:Yg}{a:Yn}{y:V}(I:Inv X pins σ H s)(g:tW H a y o):s.TypeIs (.ref a) "dict":=by
 rcases g with⟨kvs,k,e,_,_⟩|⟨kvs,k,b,e,_,_,_⟩
 .obtain⟨_,_,vs,_,dd⟩:=Bh I.hok e;exact dd.typeIs
 .obtain⟨_,_,xs,_,dd⟩:=Gk I.hok e;exact dd.typeIs
def ZwH(td ty:TE):TE:=λσ H Q=>td σ H λx H1=>ty σ H1 λy H2=>∃a v,x= .ref a/\tW H2 a y (Ya v)/\Q v H2
def ZwF(td ty tv:TE):TS:=λD σ H=>tv σ H λv H1=>td σ H1 λx H2=>ty σ H2 λy H3=>∃a H4,x= .ref a/\vG H3 a y v H4/\D.nx σ H4
section
variable {X:Cx} {o i e value:Expr} {pos pos' tpos:aP} {td ty tv:TE}
theorem ZrG(hu:X.A.units+1<eG)(ho:PE X o td)(hi:PE X i ty)(hs:Tu i):PE X (.Subscript o i pos) (ZwH td ty):=by intro pins s σ H Q I h;refine Zs3 PySem.F.slot_dict_getitem.lookup hs (aG (ho pins s σ H _ I h) λu s1 ⟨x,H1,I1,rx,q1⟩=>aG (hi pins s1 σ H1 _ I1 q1) λiv s2 ak=>?_);obtain⟨y,H2,I2,ry,a,v,ex,g,q2⟩:=ak;subst ex;obtain rfl:u=Value.ref a:=rx;exact⟨ZlB I2 g,ZoG hu I2 g ry λw' s3 I3 jm=>⟨v,H2,I3,jm,q2⟩⟩
theorem Zns(hu:X.A.units+1<eG)(ho:PE X o td)(hi:PE X i ty)(hv:PE X value tv)(hs:nq value (Ya (.Subscript o i pos')) pos.line X.env=pure false):
  PS X (.Assign [.Subscript o i pos'] value pos) (ZwF td ty tv):=by
 intro pins s σ H D I h;refine wpAny_Assign_Subscript (aG (hv pins s σ H _ I h) λr s1 ⟨v,H1,I1,rv,q1⟩=>aG (ho pins s1 σ H1 _ I1 q1) λu s2 ⟨x,H2,I2,rx,q2⟩=>aG (hi pins s2 σ H2 _ I2 q2) λiv s3 ak=>?_) hs;obtain⟨y,H3,I3,ry,a,H4,ex,g,q3⟩:=ak;subst ex;obtain rfl:u=Value.ref a:=rx;exact Zow hu I3 g ry rv λs4 I4=>⟨σ,H4,I4,q3⟩
end
theorem Zlt{P:aX}(h:au)(hb:qD<h.objs.size):fu P w H (h.push {cls:=.type "dict",data:=.dict #[]}) h.objs.size (.dK []):=⟨eN _,beq_eq_false_iff_ne.mpr (bK (Y6 hb)),[],.nil,RW h⟩
def Zvm:TE:=λ_ H Q=>∀p,H p=Yk->Q (.ref p) (upd H p (.dK []))
section
variable {X:Cx} {pos:aP}
theorem ZpQ:PE X (.Dict [] [] pos) Zvm:=λpins s σ H Q I h=>wpAny_Dict_empty ⟨.ref s.heap.objs.size,_,I.laid (a:=s.heap.objs.size) (o:=.dK []) (t':=s.toks) (λ_ _ q=>Yj _ q) (Yl _) (Zlt s.heap I.big),rfl,h _ (I.hok.fresh (Yl _))⟩
end
noncomputable def Le:List (TE×TE)->St->Hp->(List (V×V)->Hp->Prop)->Prop
 |[],_,H,Q=>Q [] H|(tk,tv)::r,σ,H,Q=>tk σ H λx H1=>tv σ H1 λy H2=>Le r σ H2 λps H3=>Q ((x,y)::ps) H3
noncomputable abbrev VV:List (V×V)->List (Yd×Yd)->Prop:=Paired λp q=>RelV p.1 q.1/\RelV p.2 q.2
def Gn(X:Cx)(pos:aP)(keys:List (Option Expr))(values:List Expr)(mL:List (TE×TE)):Prop:=
 ∀(pins:List (Yn×aB)) (s:Yg) (σ:St) (H:Hp) (Q:List (V×V)->Hp->Prop),Inv X pins σ H s->Le mL σ H Q ->
  Yy (Y4 X.prog X.w) X.A (evalPairs (pairTrees keys values X.env pos)) (λvs s'=>∃ps H',Inv X pins σ H' s'/\VV ps vs/\Q ps H') X.xe s
theorem Zs0:Gn X pos [] [] []:=λpins s σ H Q I h=>pairTrees_nil_walk ⟨[],H,I,.nil,h⟩
theorem Zqz{k v:Expr}{ks:List (Option Expr)}{vs:List Expr}{tk tv:TE}{mL:List (TE×TE)}(hk:PE X k tk)(hv:PE X v tv)(hr:Gn X pos ks vs mL):
  Gn X pos (Ya k::ks) (v::vs) ((tk,tv)::mL):=λpins s σ H Q I h=>
 pairTrees_cons_walk (aG (hk pins s σ H _ I h) λu s1 ⟨x,H1,I1,rx,q1⟩=>aG (hv pins s1 σ H1 _ I1 q1) λw2 s2 ⟨y,H2,I2,ry,q2⟩=>aG (hr pins s2 σ H2 _ I2 q2) λws s3 ⟨ps,H3,I3,rel,q3⟩=>⟨(x,y)::ps,H3,I3,.cons ⟨rx,ry⟩ rel,q3⟩)
noncomputable def tX(kvs more:List (Key×V)):List (Key×V):=more.foldl (λacc kv=>putK acc kv.1 kv.2) kvs
theorem KV.merge:∀{more:List (Key×V)} {rs:List (Key×Yd)} {kvs:List (Key×V)} {vs:List (Key×Yd)},KV more rs->KV kvs vs->KV (tX kvs more) (merged vs rs):=by
 intro more rs kvs vs r;unfold KV at r
 induction r generalizing kvs vs with
 |nil=>intro q;exact q|@cons p q ps qs h t ih=>
  intro r0;have e:KV (putK kvs p.1 p.2) (sJ vs q.1 q.2):=by have:=r0.put p.1 h.2;rw[←h.1];exact this
  exact ih e
theorem Lf:∀(more kvs:List (Key×V)),(tX kvs more).length<=kvs.length+more.length
 |[],kvs=>by show kvs.length<=kvs.length+0;exact sZ _ _|p::r,kvs=>by have h1:=Lf r (putK kvs p.1 p.2);have h2:=Tr kvs p.1 p.2;show(tX (putK kvs p.1 p.2) r).length<=_;rw[Ys];exact lD 2 0xa3c1c2030c201a1c001 T1 h2 h1
theorem Zim{P:aX}{w:aU}:∀{kvs:List (Key×V)} {ws:List (Yd×Yd)},VV (kvs.map λkv=>(kV kv.1,kv.2)) ws->∃rs,Carries (dZ P w) ws rs/\KV kvs rs
 |[],_,r=>by rw[Yes]at r;cases r;exact⟨[],True.intro,.nil⟩|p::kvs,_,r=>by
  rw[Y8]at r;cases r with
  | @cons a b as bs h t=>obtain⟨rs,c,q⟩:=Zim (P:=P) (w:=w) t;obtain⟨b1,b2⟩:=b;exact⟨(p.1,b2)::rs,⟨yc h.1,rfl,c⟩,.cons ⟨rfl,h.2⟩ q⟩
def ZxQ(mL:List (TE×TE)):TE:=λσ H Q=>∀p,H p=Yk->Le mL σ (upd H p (.dK [])) λps H2=>H2 p=Ya (.dK [])/\∃kvs:List (Key×V),ps=kvs.map (λkv=>(kV kv.1,kv.2))/\kvs.length<=15/\Q (.ref p) (upd H2 p (.dK (tX [] kvs)))
theorem ZrR{keys:List (Option Expr)}{values:List Expr}{mL:List (TE×TE)}(h:Gn X pos keys values mL)(hall:keys.all (·.isSome)=true)(hl:keys.length=values.length)(h0:keys≠[])(h15:keys.length<=15):PE X (.Dict keys values pos) (ZxQ mL):=by
 intro pins s σ H Q I q;have hn:=I.hok.fresh (Yl s.heap.objs.size);have I1:=I.laid (a:=s.heap.objs.size) (o:=.dK []) (h':=s.heap.push {cls:=.type "dict",data:=.dict #[]}) (t':=s.toks) (λ_ _ q=>Yj _ q) (Yl _) (Zlt s.heap I.big);refine wpAny_Dict_walk (knd:=dZ X.prog X.w) hall hl h0 h15 (aG (h pins _ σ _ _ I1 (q _ hn)) λws s2 ak=>?_);obtain⟨ps,H2,I2,rel,e,kvs,ep,lk,q2⟩:=ak;subst ep;obtain⟨rs,c,rk⟩:=Zim (P:=X.prog) (w:=X.w) rel;obtain⟨z,hd,vs0,r0,dd⟩:=ZtG I2.hok e;cases r0;refine⟨rs,c,dd,λh' jT hs=>⟨.ref s.heap.objs.size,_,?_,rfl,q2⟩⟩;have hz:(tX [] kvs).length<=Y7:=by have h1:=Lf kvs [];rw[pN]at h1;rw[nj];exact lB 2 0x10000007b00f1b1011ec001 T1 h1 lk
 have he:∃q,h'.get? s.heap.objs.size=Ya q:=let⟨q,_,_,hq,_⟩:=jT;⟨q,hq⟩;exact Tt I2 (by rw[e];exact True.intro) hs he (Gm hz hd (rk.merge .nil) jT)
structure M1(X:Cx)(o:Expr)(m:aj)(apos:aP)(e:Expr)(cpos:aP):Prop where
 base:qC o m X.env (aH o X.env)=aH o X.env
 few:((eF cpos (Yt [e] X.env)).all (λx=>!x.1)&&(zR cpos (zO [] X.env)).all (λx=>x.1.isSome)
  &&decide (([e]:List Expr).length+([]:List Keyword).length+(if([]:List Keyword).isEmpty then 0 else 1)<30))=true
 line:(apos.endLine==cpos.line)=true
 trees:eF cpos (Yt [e] X.env)=[(false,aH e X.env)]
structure M2(X:Cx)(o:Expr)(m:aj)(apos:aP)(e f:Expr)(cpos:aP):Prop where
 base:qC o m X.env (aH o X.env)=aH o X.env
 few:((eF cpos (Yt [e,f] X.env)).all (λx=>!x.1)&&(zR cpos (zO [] X.env)).all (λx=>x.1.isSome)
  &&decide (([e,f]:List Expr).length+([]:List Keyword).length+(if([]:List Keyword).isEmpty then 0 else 1)<30))=true
 line:(apos.endLine==cpos.line)=true
 trees:eF cpos (Yt [e,f] X.env)=[(false,aH e X.env),(false,aH f X.env)]
def Tv(H:Hp)(a:Yn):Prop:=(∃kvs,Rd H a (.dK kvs))\/∃kvs,Rd H a (.dT kvs)
theorem Zvb{pins:List (Yn×aB)}{σ:St}{s:Yg}{a:Yn}(I:Inv X pins σ H s)(d:Tv H a):
  s.TypeIs (.ref a) "dict" /\(∀b,Value.ref a= .ref b->∃ob,s.heap.get? b=Ya ob/\ob.dict=Yk)/\(a==qD)=false:=by
 rcases d with⟨kvs,e⟩|⟨kvs,e⟩
 .obtain⟨_,hd,vs,_,dd⟩:=Bh I.hok e;refine⟨dd.typeIs,λb q=>?_,hd⟩;cases q;obtain⟨ob,_,_,h1,h2,_⟩:=dd;exact⟨ob,h1,h2.2.1⟩
 .obtain⟨_,hd,xs,_,dd⟩:=Gk I.hok e;refine⟨dd.typeIs,λb q=>?_,hd⟩;cases q;obtain⟨ob,_,_,h1,h2,_⟩:=dd;exact⟨ob,h1,h2.2.1⟩
section
variable {X:Cx} {pins:List (Yn×aB)} {σ:St} {H:Hp} {s:Yg} {a:Yn} {y d:V} {u r:Yd} {o:Option V} {A:bB} {E:Yd->Yg->Prop}
theorem Zuo(hu:A.units+1<eG)(I:Inv X pins σ H s)(g:tW H a y o)(ry:RelV y u)(rd:RelV d r)(h:∀w' s',Inv X pins σ H s'->RelV (o.getD d) w'->Q w' s'):
  Yy (Y4 X.prog X.w) A (call (.builtin "dict.get") [.ref a,u,r]) Q E s:=by
 rcases g with⟨kvs,k,e,ey,l⟩|⟨kvs,k,b,e,ey,eb,l⟩
 .subst ey;obtain⟨z,hd,vs,rel,dd⟩:=Bh I.hok e;refine Jy Aq dd.typeIs Kh (Kg _ _ _) (meets_dict_get_default (dZ X.prog X.w) a (yc ry) hd r) ⟨_,dd.mapOf,h _ _ (I.tok _) ?_⟩;rw[l];exact(rel.val k).getD rd
 .subst ey;cases(show u=Value.ref b from ry);obtain⟨z,hd,xs,rel,dd⟩:=Gk I.hok e;refine Jy Aq dd.typeIs Kh (Kg _ _ _) (meetsH_dict_get_default (zQ (dZ X.prog X.w)) a b hd r) ⟨Ql hu,k,xs,Ld I.hok eb,dd,h _ _ (I.tok _) ?_⟩;rw[l];exact(rel.val k).getD rd
end
def Zvw(td ty tx:TE):TE:=λσ H Q=>td σ H λx H1=>∃a,x= .ref a/\Tv H1 a/\ty σ H1 λy H2=>tx σ H2 λz H3=>∃o,tW H3 a y o/\Q (o.getD z) H3
section
variable {X:Cx} {o e f:Expr} {apos cpos:aP} {td ty tx:TE}
theorem ZpT(hu:X.A.units+1<eG)(ho:PE X o td)(he:PE X e ty)(hf:PE X f tx)(m:M2 X o "get" apos e f cpos):PE X (.Call (.Attribute o "get" apos) [e,f] [] cpos) (Zvw td ty tx):=by intro pins s σ H Q I h;refine Ykl m.base m.few m.line Yhf Aq Yie (aG (ho pins s σ H _ I h) λu s1 ak=>?_);obtain⟨x,H1,I1,rx,a,ex,d,q1⟩:=ak;subst ex;obtain rfl:u=Value.ref a:=rx;obtain⟨t1,t2,_⟩:=Zvb I1 d;refine⟨t1,t2,?_⟩;rw[m.trees];refine Kr rfl (Ks (Ar (aG (he pins s1 σ H1 _ I1 q1) λiv s2 ⟨y,H2,I2,ry,q2⟩=>Ar (aG (hf pins s2 σ H2 _ I2 q2) λfv s3 ⟨z,H3,I3,rz,ov,g,q3⟩=>Ku ?_))));exact Zuo hu I3 g ry rz λw' s4 I4 jm=>⟨_,H3,I4,jm,q3⟩
end
section
variable {X:Cx} {pins:List (Yn×aB)} {σ:St} {H:Hp} {s:Yg} {a:Yn} {kvs:List (Key×V)} {A:bB} {E:Yd->Yg->Prop}
theorem Zrm(I:Inv X pins σ H s)(e:Rd H a (.dK kvs))(h:∀p s',H p=Yk->Inv X pins σ (upd H p (.dK kvs)) s'->Q (.ref p) s'):Yy (Y4 X.prog X.w) A (call (.type "dict") [.ref a]) Q E s:=by obtain⟨z,hd,vs,rel,dd⟩:=Bh I.hok e;refine kt_call_dict hd dd (by rw[←rel.length];exact z) λh' jT hs=>?_;refine h _ _ (I.hok.fresh (Yl _)) (I.laid (a:=s.heap.objs.size) (o:=.dK kvs) (t':=s.toks) (λb q hq=>?_) (Yl _) (Gm z (beq_eq_false_iff_ne.mpr (bK (Y6 I.big))) rel jT));exact(hs.2 b (Y6 (Yp hq))).trans (Yj _ hq)
end
end L2
namespace L3
open PySem
variable{T:qY}{M:Store}{hi lo:Option Int}{it:gD}{env:Zt}
noncomputable section
inductive D where
 |non|bl (b:Bool)|int (i:Int)|str (x:List Nat)|tup (ds:List D)|bO (ds:List D)|ref (n:Nat)
 deriving Inhabited
noncomputable abbrev a_:=Sum Int (List Nat)
inductive MO where
 |lst (xs:List D)|dct (kvs:List (a_×D))|dj (kvs:List (a_×D))|ins (c:List Nat) (fs:List (List Nat×D))
 deriving Inhabited
noncomputable abbrev Store:=List MO
structure X3 where
 cls:List Nat
 arg:D
inductive R3(α:Type)where
 |ok (a:α) (M:Store)|exc (x:X3) (M:Store)|bad
@[simp] noncomputable def R3.bind{α β:Type}(r:R3 α)(k:α->Store->R3 β):R3 β:=match r with
 | .ok a M=>k a M|.exc x M=>.exc x M|.bad=>.bad
theorem R3.sy{α β:Type}(a:α)(M:Store)(k:α->Store->R3 β):(R3.ok a M).bind k=k a M:=rfl
theorem ft{C:Prop}(h:false=true):C:=Bool.noConfusion h
theorem dR{α:Type}{C:Prop}{k:α}(h:Yk=Ya k):C:=by cases h
noncomputable def cP:Nat->D->Bool
 |_,.non=>true|_,.bl _=>true|_,.int _=>true|_,.str _=>true
 |n+1,.tup ds=>ds.all (cP n)|_,_=>false
noncomputable abbrev DEEP:Nat:=60
mutual
noncomputable def iH:D->D->Bool
 | .non,.non=>true|.bl a,.bl b=>a==b|.int a,.int b=>a==b|.str a,.str b=>a==b
 | .tup a,.tup b=>gQ a b|.bl a,.int b=>(if a then 1 else 0)==b|.int a,.bl b=>a==(if b then 1 else 0)|_,_=>false
noncomputable def gQ:List D->List D->Bool
 |[],[]=>true|a::x,b::y=>iH a b&&gQ x y|_,_=>false
end
theorem ZtO(a b:List D):iH (.tup a) (.tup b)=gQ a b:=rfl
theorem Zun:gQ [] []=true:=rfl
theorem Tw(a b:D)(x y:List D):gQ (a::x) (b::y)=(iH a b&&gQ x y):=rfl
mutual
noncomputable def below(n:Nat):D->Bool
 | .tup ds=>cg n ds|.bO ds=>cg n ds|.ref k=>k<n|.non=>true| .bl _=>true| .int _=>true| .str _=>true
noncomputable def cg(n:Nat):List D->Bool
 |[]=>true|d::ds=>below n d&&cg n ds
end
mutual
noncomputable def same:D->D->Bool
 | .non,.non=>true|.bl a,.bl b=>a==b|.int a,.int b=>a==b|.str a,.str b=>a==b
 | .tup a,.tup b=>Bj a b|.bO a,.bO b=>Bj a b|.ref a,.ref b=>a==b|_,_=>false
noncomputable def Bj:List D->List D->Bool
 |[],[]=>true|a::x,b::y=>same a b&&Bj x y|_,_=>false
end
mutual
theorem ZnR:∀{a b:D},same a b=true->a=b
 | .non,b,h=>by cases b<;>first|exact rfl|exact ft h
 | .bl a,b,h=>by cases b<;>first|exact congrArg D.bl (beq_iff_eq.mp h)|exact ft h
 | .int a,b,h=>by cases b<;>first|exact congrArg D.int (beq_iff_eq.mp h)|exact ft h
 | .str a,b,h=>by cases b<;>first|exact congrArg D.str (beq_iff_eq.mp h)|exact ft h
 | .tup a,b,h=>by cases b<;>first|exact congrArg D.tup (Tz h)|exact ft h
 | .bO a,b,h=>by cases b<;>first|exact congrArg D.bO (Tz h)|exact ft h
 | .ref a,b,h=>by cases b<;>first|exact congrArg D.ref (beq_iff_eq.mp h)|exact ft h
theorem Tz:∀{x y:List D},Bj x y=true->x=y
 |[],y,h=>by cases y<;>first|exact rfl|exact ft h
 |a::x,y,h=>by
  cases y with
  |nil=>exact ft h|cons b y=>exact have w:=u6.mp (h:(same a b&&Bj x y)=true);congr (congrArg _ (ZnR w.1)) (Tz w.2)
end
mutual
theorem Znj:∀(a:D),same a a=true
 | .non=>rfl|.bl a=>beq_self_eq_true a|.int a=>beq_self_eq_true a|.str a=>beq_self_eq_true a
 | .tup a=>TF a|.bO a=>TF a|.ref a=>beq_self_eq_true a
theorem TF:∀(x:List D),Bj x x=true
 |[]=>rfl|a::x=>u6.mpr ⟨Znj a,TF x⟩
end
theorem same_iff{a b:D}:same a b=true↔a=b:=⟨ZnR,λh=>h▸Znj a⟩
noncomputable instance:DecidableEq D:=λa b=>decidable_of_iff (same a b=true) same_iff
noncomputable instance:DecidableEq MO:=λa b=>match a,b with
 | .lst x,.lst y=>if h:x=y then isTrue (by rw[h])else isFalse (by intro e;cases e;exact h rfl)|.dct x,.dct y=>if h:x=y then isTrue (by rw[h])else isFalse (by intro e;cases e;exact h rfl)|.dj x,.dj y=>if h:x=y then isTrue (by rw[h])else isFalse (by intro e;cases e;exact h rfl)|.ins c x,.ins d y=>if h:c=d/\x=y then isTrue (by rw[h.1,h.2])else isFalse (by intro e;cases e;exact h ⟨rfl,rfl⟩)
 | .ins _ _,.lst _=>isFalse (by intro e;cases e)|.ins _ _,.dct _=>isFalse (by intro e;cases e)|.ins _ _,.dj _=>isFalse (by intro e;cases e)|.lst _,.ins _ _=>isFalse (by intro e;cases e)
 | .dct _,.ins _ _=>isFalse (by intro e;cases e)|.dj _,.ins _ _=>isFalse (by intro e;cases e)|.lst _,.dct _=>isFalse (by intro e;cases e)|.lst _,.dj _=>isFalse (by intro e;cases e)
 | .dct _,.lst _=>isFalse (by intro e;cases e)|.dct _,.dj _=>isFalse (by intro e;cases e)|.dj _,.lst _=>isFalse (by intro e;cases e)|.dj _,.dct _=>isFalse (by intro e;cases e)
@[simp] noncomputable abbrev SZ:Nat:=1000000
noncomputable abbrev Zt:=List (Option D)
noncomputable abbrev E3:=Zt->Store->R3 D
noncomputable abbrev cF:=Zt->Store->R3 (List D)
noncomputable abbrev F3:=List D->Store->R3 D
inductive O3 where
 |nx (env:Zt) (M:Store)|rt (d:D) (M:Store)|bk (env:Zt) (M:Store)|ct (env:Zt) (M:Store)|exc (x:X3) (M:Store)|bad
noncomputable abbrev S3:=Zt->Store->O3
@[simp] noncomputable def Zb(i:Nat):E3:=λenv M=>match env[i]? with
 |some (Ya d)=>.ok d M|_=>.bad
@[simp] noncomputable def eC(d:D):E3:=λ_ M=>.ok d M
@[simp] noncomputable def e1(op:D->Store->R3 D)(f:E3):E3:=λenv M=>(f env M).bind op
@[simp] noncomputable def e2(op:D->D->Store->R3 D)(f g:E3):E3:=λenv M=>(f env M).bind λa M1=>(g env M1).bind λb M2=>op a b M2
@[simp] noncomputable def Ze:cF:=λ_ M=>.ok [] M
@[simp] noncomputable def Za(f:E3)(g:cF):cF:=λenv M=>(f env M).bind λa M1=>(g env M1).bind λb M2=>.ok (a::b) M2
@[simp] noncomputable def alloc(o:MO)(M:Store):R3 D:=.ok (.ref M.length) (M++[o])
section
local instance (priority:=100000) AfM (p:Prop):Decidable p:=Yr p
@[simp] noncomputable def cu(g:cF):E3:=λenv M=>(g env M).bind λds M1=>if ds.length<=SZ then .ok (.tup ds) M1 else .bad
end
section
local instance (priority:=100000) AfN (p:Prop):Decidable p:=Yr p
@[simp] noncomputable def bV(g:cF):E3:=λenv M=>(g env M).bind λds M1=>if ds.length<=SZ then alloc (.lst ds) M1 else .bad
end
@[simp] noncomputable def ji(f g:E3):E3:=λenv M=>(f env M).bind λa M1=>match a with
 | .bl true=>g env M1|.bl false=>.ok (.bl false) M1|_=>.bad
@[simp] noncomputable def oX(f g:E3):E3:=λenv M=>(f env M).bind λa M1=>match a with
 | .bl false=>g env M1|.bl true=>.ok (.bl true) M1|_=>.bad
noncomputable def vH(a:D)(M:Store):R3 D:=match a with
 | .bl b=>.ok (.bl (!b)) M|_=>.bad
@[simp] theorem ZxG:∀b,vH (.bl b) M= .ok (.bl (!b)) M:=λ_=>rfl
@[simp] noncomputable def yd(c f g:E3):E3:=λenv M=>(c env M).bind λa M1=>match a with
 | .bl true=>f env M1|.bl false=>g env M1|_=>.bad
@[simp] noncomputable def Zw(F:F3)(g:cF):E3:=λenv M=>(g env M).bind λds M1=>F ds M1
section
local instance (priority:=100000) AfO (p:Prop):Decidable p:=Yr p
noncomputable def aK(a b:D)(M:Store):R3 D:=match a,b with
 | .int i,.int j=>.ok (.int (i+j)) M|.str x,.str y=>if x.length+y.length<=SZ then .ok (.str (x++y)) M else .bad|.tup x,.tup y=>if x.length+y.length<=SZ then .ok (.tup (x++y)) M else .bad|.ref n,.ref m=>match M[n]?,M[m]? with
  |some (.lst x),Ya (.lst y)=>if x.length+y.length<=SZ then alloc (.lst (x++y)) M else .bad|_,_=>.bad
 |_,_=>.bad
@[simp] theorem Lg:∀i j,aK (.int i) (.int j) M= .ok (.int (i+j)) M:=λ_ _=>rfl
@[simp] theorem Zru:∀x y,aK (.str x) (.str y) M=(if x.length+y.length<=SZ then .ok (.str (x++y)) M else .bad):=λ_ _=>rfl
@[simp] theorem ZpU:∀x y,aK (.tup x) (.tup y) M=(if x.length+y.length<=SZ then .ok (.tup (x++y)) M else .bad):=λ_ _=>rfl
@[simp] theorem Zrn:∀n m,aK (.ref n) (.ref m) M=(match M[n]?,M[m]? with
  |some (.lst x),Ya (.lst y)=>if x.length+y.length<=SZ then alloc (.lst (x++y)) M else .bad|_,_=>.bad):=λ_ _=>rfl
end
noncomputable def iI(a b:D)(M:Store):R3 D:=match a,b with
 | .int i,.int j=>.ok (.int (i-j)) M|_,_=>.bad
@[simp] theorem TJ:∀i j,iI (.int i) (.int j) M= .ok (.int (i-j)) M:=λ_ _=>rfl
section
local instance (priority:=100000) AfP (p:Prop):Decidable p:=Yr p
noncomputable def ye(i j:Int):Bool:=(decide (-(2^64)<i)&&decide (i<2^64))|| (decide (-(2^64)<j)&&decide (j<2^64))
end
section
local instance (priority:=100000) AfQ (p:Prop):Decidable p:=Yr p
noncomputable def eO(a b:D)(M:Store):R3 D:=match a,b with
 | .int i,.int j=>if ye i j then .ok (.int (i*j)) M else .bad|.str x,.int k=>if x.length*k.toNat<=SZ/\k<1000000/\ -1000000<k then .ok (.str (Yh k.toNat x).flatten) M else .bad|.ref n,.int k=>match M[n]? with
  |some (.lst x)=>if x.length*k.toNat<=SZ/\k<1000000/\ -1000000<k then alloc (.lst (Yh k.toNat x).flatten) M else .bad|_=>.bad
 |_,_=>.bad
@[simp] theorem yg:∀i j,eO (.int i) (.int j) M=(if ye i j then .ok (.int (i*j)) M else .bad):=λ_ _=>rfl
@[simp] theorem Zp1:∀x k,eO (.str x) (.int k) M=(if x.length*k.toNat<=SZ/\k<1000000/\ -1000000<k then .ok (.str (Yh k.toNat x).flatten) M else .bad):=λ_ _=>rfl
@[simp] theorem ZxK:∀n k,eO (.ref n) (.int k) M=(match M[n]? with
  |some (.lst x)=>if x.length*k.toNat<=SZ/\k<1000000/\ -1000000<k then alloc (.lst (Yh k.toNat x).flatten) M else .bad|_=>.bad):=λ_ _=>rfl
end
noncomputable def aW(a b:D)(M:Store):R3 D:=match a,b with
 | .int i,.int j=>if 0<j then .ok (.int (i % j)) M else .bad|_,_=>.bad
@[simp] theorem Zk8:∀i j,aW (.int i) (.int j) M=(if 0<j then .ok (.int (i % j)) M else .bad):=λ_ _=>rfl
section
local instance (priority:=100000) AfR (p:Prop):Decidable p:=Yr p
noncomputable def d9(a b:D)(M:Store):R3 D:=match a,b with
 | .int i,.int j=>if 0<j/\j<1073741824 then .ok (.int (i / j)) M else .bad|_,_=>.bad
@[simp] theorem ZjR:∀i j,d9 (.int i) (.int j) M=(if 0<j/\j<1073741824 then .ok (.int (i / j)) M else .bad):=λ_ _=>rfl
end
noncomputable def Bk(a b:D)(M:Store):R3 D:=match a,b with
 | .int i,.int j=>if 0<=j/\j<=1000/\i.natAbs<1000 then .ok (.int (i^j.toNat)) M else .bad|_,_=>.bad
@[simp] theorem Zqk:∀i j,Bk (.int i) (.int j) M=(if 0<=j/\j<=1000/\i.natAbs<1000 then .ok (.int (i^j.toNat)) M else .bad):=λ_ _=>rfl
noncomputable def jn(a:D)(M:Store):R3 D:=match a with
 | .int i=>.ok (.int (-i)) M|_=>.bad
@[simp] theorem Lh:∀i,jn (.int i) M= .ok (.int (-i)) M:=λ_=>rfl
noncomputable def mO(a b:D)(M:Store):R3 D:=match a,b with
 | .int i,.int j=>.ok (.bl (decide (i<j))) M|_,_=>.bad
@[simp] theorem vI:∀i j,mO (.int i) (.int j) M= .ok (.bl (decide (i<j))) M:=λ_ _=>rfl
noncomputable def Gp(a b:D)(M:Store):R3 D:=match a,b with
 | .int i,.int j=>.ok (.bl (decide (i<=j))) M|_,_=>.bad
@[simp] theorem TQ:∀i j,Gp (.int i) (.int j) M= .ok (.bl (decide (i<=j))) M:=λ_ _=>rfl
noncomputable def dD(a b:D)(M:Store):R3 D:=match a,b with
 | .int i,.int j=>.ok (.bl (decide (j<i))) M|_,_=>.bad
@[simp] theorem jo:∀i j,dD (.int i) (.int j) M= .ok (.bl (decide (j<i))) M:=λ_ _=>rfl
noncomputable def Gq(a b:D)(M:Store):R3 D:=match a,b with
 | .int i,.int j=>.ok (.bl (decide (j<=i))) M|_,_=>.bad
@[simp] theorem ZnV:∀i j,Gq (.int i) (.int j) M= .ok (.bl (decide (j<=i))) M:=λ_ _=>rfl
noncomputable def pX(a b:D)(M:Store):Option Bool:=match a,b with
 | .ref n,.ref m=>match M[n]?,M[m]? with
  |some (.lst x),Ya (.lst y)=>if x.all (cP DEEP)&&y.all (cP DEEP)then Ya (gQ x y)else Yk|_,_=>Yk
 | .int i,.int j=>Ya (decide (i=j))|.str x,.str y=>Ya (decide (x=y))|.bl x,.bl y=>Ya (decide (x=y))|.tup x,.tup y=>if x.all (cP DEEP)&&y.all (cP DEEP)then Ya (gQ x y)else Yk
 |_,_=>Yk
@[simp] theorem ZpC:∀n m,pX (.ref n) (.ref m) M=(match M[n]?,M[m]? with
  |some (.lst x),Ya (.lst y)=>if x.all (cP DEEP)&&y.all (cP DEEP)then Ya (gQ x y)else Yk|_,_=>Yk):=λ_ _=>rfl
@[simp] theorem Zqi:∀i j,pX (.int i) (.int j) M=Ya (decide (i=j)):=λ_ _=>rfl
@[simp] theorem Li:∀x y,pX (.str x) (.str y) M=Ya (decide (x=y)):=λ_ _=>rfl
@[simp] theorem ZpA:∀x y,pX (.bl x) (.bl y) M=Ya (decide (x=y)):=λ_ _=>rfl
@[simp] theorem ZpL:∀x y,pX (.tup x) (.tup y) M=(if x.all (cP DEEP)&&y.all (cP DEEP)then Ya (gQ x y)else Yk):=λ_ _=>rfl
@[simp] noncomputable def bI(a b:D)(M:Store):R3 D:=match pX a b M with
 |some r=>.ok (.bl r) M|none=>.bad
@[simp] noncomputable def Gr(a b:D)(M:Store):R3 D:=match pX a b M with
 |some r=>.ok (.bl (!r)) M|none=>.bad
noncomputable def TV(a b:D)(M:Store):R3 D:=match b with
 | .non=>.ok (.bl (decide (a= .non))) M|_=>.bad
@[simp] theorem ZnO{a:D}:TV a (.non) M= .ok (.bl (decide (a= .non))) M:=rfl
noncomputable def jc:D->Bool
 | .non=>true| .bl _=>true| .int _=>true| .str _=>true|_=>false
noncomputable def TX(a:D)(y:List Nat):Option Bool:=match a with
 | .str [c]=>Ya (decide (c∈y))|_=>Yk
@[simp] theorem Zy3{y:List Nat}:∀c,TX (.str [c]) y=Ya (decide (c∈y)):=λ_=>rfl
noncomputable def inD(a b:D):Option Bool:=match b with
 | .str y=>TX a y|.tup ys=>if jc a&&ys.all jc then Ya (ys.any λy=>iH y a)else Yk|_=>Yk
@[simp] theorem Zyr{a:D}:∀y,inD a (.str y)=TX a y:=λ_=>rfl
@[simp] theorem Zzh{a:D}:∀ys,inD a (.tup ys)=(if jc a&&ys.all jc then Ya (ys.any λy=>iH y a)else Yk):=λ_=>rfl
@[simp] noncomputable def Bl(a b:D)(M:Store):R3 D:=match inD a b with
 |some r=>.ok (.bl r) M|none=>.bad
noncomputable def kh(n:Nat)(i:Int):Option Nat:=if 0<=i then(if i<n then Ya i.toNat else Yk)else if -(n:Int)<=i then Ya (i+n).toNat else Yk
noncomputable def fV{α:Type}(xs:List α)(i:Int):Option α:=(kh xs.length i).bind λj=>xs[j]?
noncomputable def fJ:D->Option a_
 | .int i=>Ya (.inl i)|.str x=>Ya (.inr x)|_=>Yk
@[simp] theorem ZyF:fJ .non=Yk:=rfl
@[simp] theorem ZyW(b:Bool):fJ (.bl b)=Yk:=rfl
@[simp] theorem Zyo(x:List D):fJ (.tup x)=Yk:=rfl
@[simp] theorem Zzc(x:List D):fJ (.bO x)=Yk:=rfl
@[simp] theorem Zzq(n:Nat):fJ (.ref n)=Yk:=rfl
@[simp] theorem Zyd:∀i,fJ (.int i)=Ya (.inl i):=λ_=>rfl
@[simp] theorem Ztd:∀x,fJ (.str x)=Ya (.inr x):=λ_=>rfl
noncomputable def cT:List (a_×D)->a_->Option D
 |[],_=>Yk|(k,v)::r,x=>if k=x then Ya v else cT r x
section
local instance (priority:=100000) AfS (p:Prop):Decidable p:=Yr p
noncomputable def Zk(a b:D)(M:Store):R3 D:=match a,b with
 | .tup ds,.int i=>match fV ds i with
  |some d=>.ok d M|none=>.bad
 | .bO ds,.int i=>match fV ds i with
  |some d=>.ok d M|none=>.bad
 | .str x,.int i=>match fV x i with
  |some c=>if x.length<=SZ then .ok (.str [c]) M else .bad|none=>.bad
 | .ref n,.int i=>match M[n]? with
  |some (.lst ds)=>match fV ds i with
   |some d=>.ok d M|none=>.bad
  |_=>.bad
 |_,_=>.bad
@[simp] theorem Zlx:∀ds i,Zk (.tup ds) (.int i) M=(match fV ds i with
  |some d=>.ok d M|none=>.bad):=λ_ _=>rfl
@[simp] theorem TY:∀ds i,Zk (.bO ds) (.int i) M=(match fV ds i with
  |some d=>.ok d M|none=>.bad):=λ_ _=>rfl
@[simp] theorem T3:∀x i,Zk (.str x) (.int i) M=(match fV x i with
  |some c=>if x.length<=SZ then .ok (.str [c]) M else .bad|none=>.bad):=λ_ _=>rfl
@[simp] theorem ZlR:∀n i,Zk (.ref n) (.int i) M=(match M[n]? with
  |some (.lst ds)=>match fV ds i with
   |some d=>.ok d M|none=>.bad
  |_=>.bad):=λ_ _=>rfl
end
noncomputable def iJ:Option MO->Option (List (a_×D))
 |some (.dct kvs)=>Ya kvs|some (.dj kvs)=>Ya kvs|_=>Yk
@[simp] theorem ZxZ:iJ Yk=Yk:=rfl
@[simp] theorem Zyi(x:List D):iJ (Ya (.lst x))=Yk:=rfl
@[simp] theorem ZxW(c:List Nat)(f:List (List Nat×D)):iJ (Ya (.ins c f))=Yk:=rfl
@[simp] theorem Zwg:∀kvs,iJ (Ya (.dct kvs))=Ya kvs:=λ_=>rfl
@[simp] theorem Zwl:∀kvs,iJ (Ya (.dj kvs))=Ya kvs:=λ_=>rfl
noncomputable def Gs(a b:D)(M:Store):R3 D:=match a with
 | .ref n=>match iJ M[n]?,fJ b with
  |some kvs,Ya x=>match cT kvs x with
   |some d=>.ok d M|none=>.bad
  |_,_=>.bad
 |_=>.bad
@[simp] theorem Zjs{b:D}:∀n,Gs (.ref n) b M=(match iJ M[n]?,fJ b with
  |some kvs,Ya x=>match cT kvs x with
   |some d=>.ok d M|none=>.bad
  |_,_=>.bad):=λ_=>rfl
noncomputable def aC(n d:Nat):Option Int->Nat
 |none=>d|some v=>if v<0 then(v+(n:Int)).toNat else jg v.toNat n
noncomputable def cutD{α:Type}(xs:List α)(lo hi:Option Int):List α:=(xs.drop (aC xs.length 0 lo)).take (aC xs.length xs.length hi-aC xs.length 0 lo)
noncomputable abbrev Bm:=Zt->Store->R3 (Option Int)
@[simp] noncomputable def yh:Bm:=λ_ M=>.ok Yk M
@[simp] noncomputable def vJ(f:E3):Bm:=λenv M=>(f env M).bind λa M1=>match a with
 | .int i=>.ok (Ya i) M1|_=>.bad
section
local instance (priority:=100000) AfT (p:Prop):Decidable p:=Yr p
noncomputable def Bo(a:D)(lo hi:Option Int)(M:Store):R3 D:=match a with
 | .tup ds=>.ok (.tup (cutD ds lo hi)) M|.bO ds=>alloc (.lst (cutD ds lo hi)) M|.str x=>if x.length<=SZ then .ok (.str (cutD x lo hi)) M else .bad|.ref n=>match M[n]? with
  |some (.lst ds)=>alloc (.lst (cutD ds lo hi)) M|_=>.bad
 |_=>.bad
@[simp] theorem Lj:∀ds,Bo (.tup ds) lo hi M= .ok (.tup (cutD ds lo hi)) M:=λ_=>rfl
@[simp] theorem Lk:∀ds,Bo (.bO ds) lo hi M=alloc (.lst (cutD ds lo hi)) M:=λ_=>rfl
@[simp] theorem Ln:∀x,Bo (.str x) lo hi M=(if x.length<=SZ then .ok (.str (cutD x lo hi)) M else .bad):=λ_=>rfl
@[simp] theorem Gu:∀n,Bo (.ref n) lo hi M=(match M[n]? with
  |some (.lst ds)=>alloc (.lst (cutD ds lo hi)) M|_=>.bad):=λ_=>rfl
end
@[simp] noncomputable def yj(f:E3)(lo hi:Bm):E3:=λenv M=>(f env M).bind λa M1=>(lo env M1).bind λl M2=>(hi env M2).bind λh M3=>Bo a l h M3
section
local instance (priority:=100000) AfU (p:Prop):Decidable p:=Yr p
noncomputable def bW(ds:List D)(M:Store):R3 D:=match ds with
 |[.tup x]=>.ok (.int x.length) M|[.bO x]=>.ok (.int x.length) M|[.str x]=>if x.length<=SZ then .ok (.int x.length) M else .bad|[.ref n]=>match M[n]? with
  |some (.lst x)=>.ok (.int x.length) M|_=>.bad
 |_=>.bad
@[simp] theorem Bp:∀x,bW ([.tup x]) M= .ok (.int x.length) M:=λ_=>rfl
@[simp] theorem Lp:∀x,bW ([.bO x]) M= .ok (.int x.length) M:=λ_=>rfl
@[simp] theorem T4:∀x,bW ([.str x]) M=(if x.length<=SZ then .ok (.int x.length) M else .bad):=λ_=>rfl
@[simp] theorem yo:∀n,bW ([.ref n]) M=(match M[n]? with
  |some (.lst x)=>.ok (.int x.length) M|_=>.bad):=λ_=>rfl
end
noncomputable def mQ(ds:List D)(M:Store):R3 D:=match ds with
 |[.tup x]=>.ok (.tup x) M|[.bO x]=>.ok (.tup x) M|[.ref n]=>match M[n]? with
  |some (.lst x)=>.ok (.tup x) M|_=>.bad
 |_=>.bad
@[simp] theorem ZjC:∀x,mQ ([.tup x]) M= .ok (.tup x) M:=λ_=>rfl
@[simp] theorem Zjv:∀x,mQ ([.bO x]) M= .ok (.tup x) M:=λ_=>rfl
@[simp] theorem Bq:∀n,mQ ([.ref n]) M=(match M[n]? with
  |some (.lst x)=>.ok (.tup x) M|_=>.bad):=λ_=>rfl
inductive qY where
 |int|bool|str|list|tuple
 deriving DecidableEq
noncomputable def pY(T:qY)(d:D)(M:Store):Option Bool:=match d with
 | .non=>Ya false|.bl _=>Ya (T== .bool|| T== .int)|.int _=>Ya (T== .int)|.str _=>Ya (T== .str)
 | .tup _=>Ya (T== .tuple)|.bO _=>Yk|.ref n=>match M[n]? with
  |some (.lst _)=>Ya (T== .list)|some (.dct _)=>Ya false|some (.dj _)=>Yk|some (.ins _ _)=>Yk
  |none=>Yk
@[simp] theorem Zx2:pY T (.non) M=Ya false:=rfl
@[simp] theorem Zyh:∀w0,pY T (.bl w0) M=Ya (T== .bool|| T== .int):=λ_=>rfl
@[simp] theorem ZxX:∀w0,pY T (.int w0) M=Ya (T== .int):=λ_=>rfl
@[simp] theorem Zx8:∀w0,pY T (.str w0) M=Ya (T== .str):=λ_=>rfl
@[simp] theorem ZxY:∀w0,pY T (.tup w0) M=Ya (T== .tuple):=λ_=>rfl
@[simp] theorem Zyf:∀w0,pY T (.bO w0) M=Yk:=λ_=>rfl
@[simp] theorem Zr9:∀n,pY T (.ref n) M=(match M[n]? with
  |some (.lst _)=>Ya (T== .list)|some (.dct _)=>Ya false|some (.dj _)=>Yk|some (.ins _ _)=>Yk
  |none=>Yk):=λ_=>rfl
@[simp] noncomputable def jd(T:qY)(d:D)(M:Store):R3 D:=match pY T d M with
 |some b=>.ok (.bl b) M|none=>.bad
section
local instance (priority:=100000) AfG (p:Prop):Decidable p:=Yr p
noncomputable def bL(o:D)(ds:List D)(M:Store):R3 D:=match o,ds with
 | .ref n,[d]=>match M[n]? with
  |some (.lst x)=>if x.length<SZ then .ok .non (M.set n (.lst (x++[d])))else .bad|_=>.bad
 |_,_=>.bad
@[simp] theorem Gv:∀n d,bL (.ref n) ([d]) M=(match M[n]? with
  |some (.lst x)=>if x.length<SZ then .ok .non (M.set n (.lst (x++[d])))else .bad|_=>.bad):=λ_ _=>rfl
end
section
local instance (priority:=100000) AfV (p:Prop):Decidable p:=Yr p
noncomputable def jU(o:D)(ds:List D)(M:Store):R3 D:=match o,ds with
 | .ref n,[.int i]=>match M[n]? with
  | some (.lst x)=>if -1000000<=i/\i<=1000000 then match kh x.length i with
   |some k=>match x[k]? with
    |some d=>.ok d (M.set n (.lst (x.eraseIdx k)))|none=>.bad
   |none=>.bad
   else .bad
  |_=>.bad
 | .ref n,[]=>match M[n]? with
  |some (.lst x)=>match x[x.length-1]? with
   |some d=>.ok d (M.set n (.lst x.dropLast))|none=>.bad
  |_=>.bad
 |_,_=>.bad
@[simp] theorem ZnD:∀n i,jU (.ref n) ([.int i]) M=(match M[n]? with
  | some (.lst x)=>if -1000000<=i/\i<=1000000 then match kh x.length i with
   |some k=>match x[k]? with
    |some d=>.ok d (M.set n (.lst (x.eraseIdx k)))|none=>.bad
   |none=>.bad
   else .bad
  |_=>.bad):=λ_ _=>rfl
@[simp] theorem Lq:∀n,jU (.ref n) ([]) M=(match M[n]? with
  |some (.lst x)=>match x[x.length-1]? with
   |some d=>.ok d (M.set n (.lst x.dropLast))|none=>.bad
  |_=>.bad):=λ_=>rfl
end
noncomputable def aY(a:D)(M:Store):Bool:=match a with
 | .ref n=>match M[n]? with
  |some (.lst _)=>true|_=>false
 |_=>false
@[simp] theorem vK:∀n,aY (.ref n) M=(match M[n]? with
  |some (.lst _)=>true|_=>false):=λ_=>rfl
noncomputable def qZ(a:D)(M:Store):Bool:=match a with
 | .ref n=>(iJ M[n]?).isSome|_=>false
@[simp] theorem Br:∀n,qZ (.ref n) M=(iJ M[n]?).isSome:=λ_=>rfl
@[simp] noncomputable def aN(ty:D->Store->Bool)(m:D->List D->Store->R3 D)(o:E3)(g:cF):E3:=λenv M=>(o env M).bind λa M1=>if ty a M1 then(g env M1).bind λds M2=>m a ds M2 else .bad
@[simp] noncomputable def aO(b:List D->Store->R3 D)(g:cF):E3:=λenv M=>(g env M).bind λds M1=>b ds M1
noncomputable def putD(k:a_)(v:D)(kvs:List (a_×D)):List (a_×D):=if(kvs.any λp=>decide (p.1=k))=true then kvs.map (λp=>if p.1=k then(p.1,v)else p)else kvs++[(k,v)]
noncomputable abbrev yp:=Zt->Store->R3 (List (a_×D))
@[simp] noncomputable def yq:yp:=λ_ M=>.ok [] M
@[simp] noncomputable def jB(f g:E3)(r:yp):yp:=λenv M=>(f env M).bind λa M1=>(g env M1).bind λb M2=>match fJ a with
 |some k=>(r env M2).bind λl M3=>.ok ((k,b)::l) M3|none=>.bad
noncomputable def dictOf(l:List (a_×D)):List (a_×D):=l.foldl (λacc p=>putD p.1 p.2 acc) []
@[simp] noncomputable def Gw(r:yp):E3:=λenv M=>(r env (M++[.dct []])).bind λl M1=>match M1[M.length]? with
 |some (.dct [])=>if l.length<=15 then .ok (.ref M.length) (M1.set M.length (.dct (dictOf l)))else .bad|_=>.bad
@[simp] noncomputable def T5:E3:=λ_ M=>alloc (.dct []) M
@[simp] noncomputable def e3(op:D->D->D->Store->R3 D)(f g h:E3):E3:=λenv M=>(f env M).bind λa M1=>(g env M1).bind λb M2=>(h env M2).bind λc M3=>op a b c M3
section
local instance (priority:=100000) AfH (p:Prop):Decidable p:=Yr p
noncomputable def Bs(v a b:D)(M:Store):R3 D:=match a with
 | .ref n=>match M[n]?,fJ b with
  |some (.dct kvs),Ya k=>if kvs.length<SZ then .ok .non (M.set n (.dct (putD k v kvs)))else .bad|_,_=>.bad
 |_=>.bad
@[simp] theorem Lr{v:D}{b:D}:∀n,Bs v (.ref n) b M=(match M[n]?,fJ b with
  |some (.dct kvs),Ya k=>if kvs.length<SZ then .ok .non (M.set n (.dct (putD k v kvs)))else .bad|_,_=>.bad):=λ_=>rfl
end
noncomputable def ZpG(v a b:D)(M:Store):R3 D:=match a,b with
 | .ref n,.int i=>match M[n]? with
  |some (.lst xs)=>match kh xs.length i with
   |some j=>.ok .non (M.set n (.lst (xs.set j v)))|none=>.bad
  |_=>.bad
 |_,_=>.bad
@[simp] theorem T6{v:D}:∀n i,ZpG v (.ref n) (.int i) M=(match M[n]? with
  |some (.lst xs)=>match kh xs.length i with
   |some j=>.ok .non (M.set n (.lst (xs.set j v)))|none=>.bad
  |_=>.bad):=λ_ _=>rfl
noncomputable def pZ(o:D)(ds:List D)(M:Store):R3 D:=match o,ds with
 | .ref n,[b]=>match iJ M[n]?,fJ b with
  |some kvs,Ya k=>.ok ((cT kvs k).getD .non) M|_,_=>.bad
 | .ref n,[b,d]=>match iJ M[n]?,fJ b with
  |some kvs,Ya k=>.ok ((cT kvs k).getD d) M|_,_=>.bad
 |_,_=>.bad
@[simp] theorem ZsQ:∀n b,pZ (.ref n) ([b]) M=(match iJ M[n]?,fJ b with
  |some kvs,Ya k=>.ok ((cT kvs k).getD .non) M|_,_=>.bad):=λ_ _=>rfl
@[simp] theorem Gx:∀n b d,pZ (.ref n) ([b,d]) M=(match iJ M[n]?,fJ b with
  |some kvs,Ya k=>.ok ((cT kvs k).getD d) M|_,_=>.bad):=λ_ _ _=>rfl
noncomputable def lQ:List D->Option (List (a_×D))
 |[]=>Ya []|.tup [a,b]::r=>match fJ a with
  |some k=>(lQ r).map λl=>(k,b)::l|none=>Yk
 |_::_=>Yk
section
local instance (priority:=100000) AfI (p:Prop):Decidable p:=Yr p
noncomputable def q9(ds:List D)(M:Store):R3 D:=match ds with
 |[.ref n]=>match iJ M[n]? with
  |some kvs=>alloc (.dct kvs) M|none=>.bad
 |[.tup x]=>match lQ x with
  |some l=>if l.length<=100000 then alloc (.dct (dictOf l)) M else .bad|none=>.bad
 |_=>.bad
@[simp] theorem Ls:∀n,q9 ([.ref n]) M=(match iJ M[n]? with
  |some kvs=>alloc (.dct kvs) M|none=>.bad):=λ_=>rfl
@[simp] theorem Zlp:∀x,q9 ([.tup x]) M=(match lQ x with
  |some l=>if l.length<=100000 then alloc (.dct (dictOf l)) M else .bad|none=>.bad):=λ_=>rfl
end
noncomputable def Gy(ds:List D)(M:Store):R3 D:=match ds with
 |[.int i]=>.ok (.int i) M|[.bl b]=>.ok (.int (if b then 1 else 0)) M|_=>.bad
@[simp] theorem Zyn:∀i,Gy ([.int i]) M= .ok (.int i) M:=λ_=>rfl
@[simp] theorem Zsm:∀b,Gy ([.bl b]) M= .ok (.int (if b then 1 else 0)) M:=λ_=>rfl
noncomputable def oY:List D->Option (List Int)
 |[]=>Ya []|.int i::r=>(oY r).map (i:: ·)|_::_=>Yk
noncomputable def gR:S3:=λenv M=>.nx env M
noncomputable def vL:S3:=λ_ _=>.bad
noncomputable def Zu(f g:S3):S3:=λenv M=>match f env M with
 | .nx env' M'=>g env' M'|o=>o
noncomputable def aQ(c:E3)(f g:S3):S3:=λenv M=>match c env M with
 | .ok (.bl true) M1=>f env M1|.ok (.bl false) M1=>g env M1|.exc x M1=>.exc x M1|_=>.bad
noncomputable def cU(f:E3):S3:=λenv M=>match f env M with
 | .ok d M1=>.rt d M1|.exc x M1=>.exc x M1|.bad=>.bad
noncomputable def Zr(f:E3):S3:=λenv M=>match f env M with
 | .ok _ M1=>.nx env M1|.exc x M1=>.exc x M1|.bad=>.bad
noncomputable def aJ(i:Nat)(f:E3):S3:=λenv M=>match f env M with
 | .ok d M1=>.nx (env.set i (Ya d)) M1|.exc x M1=>.exc x M1|.bad=>.bad
noncomputable def yr(o i f:E3):S3:=Zr (e3 Bs f o i)
noncomputable def fK(o i f:E3):S3:=Zr (e3 ZpG f o i)
noncomputable abbrev G3:=D->Zt->Option Zt
@[simp] noncomputable def bF(i:Nat):G3:=λd env=>Ya (env.set i (Ya d))
noncomputable def bindAll:List Nat->List D->Zt->Option Zt
 |[],[],env=>Ya env|i::is,d::ds,env=>bindAll is ds (env.set i (Ya d))|_,_,_=>Yk
@[simp] theorem ZmH:∀env,bindAll ([]) ([]) (env)=Ya env:=λ_=>rfl
@[simp] theorem ZmM:∀i is d ds env,bindAll (i::is) (d::ds) (env)=bindAll is ds (env.set i (Ya d)):=λ_ _ _ _ _=>rfl
@[simp] noncomputable def Lw(is:List Nat):G3:=λd env=>match d with
 | .tup ds=>bindAll is ds env|_=>Yk
structure gD where
 items:List D
 lock:Option Nat
noncomputable abbrev I3:=Zt->Store->R3 gD
section
local instance (priority:=100000) AfJ (p:Prop):Decidable p:=Yr p
@[simp] noncomputable def mR(f:E3):I3:=λenv M=>(f env M).bind λa M1=>match a with
 | .tup ds=>.ok ⟨ds,Yk⟩ M1|.bO ds=>.ok ⟨ds,Yk⟩ M1|.str x=>if x.length<=SZ then .ok ⟨x.map λc=>.str [c],Yk⟩ M1 else .bad|.ref n=>match M1[n]? with
  |some (.lst ds)=>.ok ⟨ds,Ya n⟩ M1|_=>.bad
 |_=>.bad
end
noncomputable def Bt(lo:Int)(n:Nat):List D:=(dN n).map λ(k:Nat)=>D.int (lo+(k:Int))
section
local instance (priority:=100000) AfK (p:Prop):Decidable p:=Yr p
@[simp] noncomputable def vM(f:E3):I3:=λenv M=>(f env M).bind λa M1=>match a with
 | .int j=>if j<=1000000/\ -1000000<=j then .ok ⟨Bt 0 j.toNat,Yk⟩ M1 else .bad|_=>.bad
end
noncomputable def locked(it:gD)(M:Store):Bool:=match it.lock with
 |none=>true|some n=>decide (M[n]?=Ya (.lst it.items))
noncomputable def cG(it:gD)(g:G3)(body:S3):List D->Zt->Store->O3
 |[],env,M=>if locked it M then .nx env M else .bad|d::ds,env,M=>if locked it M then match g d env with
  |none=>.bad|some cZ=>match body cZ M with
   | .nx e M'=>cG it g body ds e M'|.ct e M'=>cG it g body ds e M'|.bk e M'=>.nx e M'|o=>o
  else .bad
theorem tY{g:G3}{body:S3}:cG it g body [] env M=if locked it M then .nx env M else .bad:=rfl
theorem mU{g:G3}{body:S3}{d:D}{ds:List D}:cG it g body (d::ds) env M=if locked it M then match g d env with
  |none=>.bad|some cZ=>match body cZ M with
   | .nx e M'=>cG it g body ds e M'|.ct e M'=>cG it g body ds e M'|.bk e M'=>.nx e M'|o=>o
  else .bad:=rfl
noncomputable def tZ(i:I3)(g:G3)(body:S3):S3:=λenv M=>match i env M with
 | .ok it M1=>cG it g body it.items env M1|.exc x M1=>.exc x M1|.bad=>.bad
noncomputable def iz(c:E3)(body:S3):Nat->Zt->Store->O3
 |0,_,_=>.bad|n+1,env,M=>match c env M with
  | .ok (.bl true) M1=>match body env M1 with
   | .nx e M'=>iz c body n e M'|.ct e M'=>iz c body n e M'|.bk e M'=>.nx e M'|o=>o
  | .ok (.bl false) M1=>.nx env M1|.exc x M1=>.exc x M1|_=>.bad
theorem kj{c:E3}{body:S3}{n:Nat}:iz c body (n+1) env M=match c env M with
  | .ok (.bl true) M1=>match body env M1 with
   | .nx e M'=>iz c body n e M'|.ct e M'=>iz c body n e M'|.bk e M'=>.nx e M'|o=>o
  | .ok (.bl false) M1=>.nx env M1|.exc x M1=>.exc x M1|_=>.bad:=rfl
noncomputable def yt(c:E3)(body:S3):S3:=iz c body 1000000
noncomputable def vN:List E3->Zt->Store->R3 Bool
 |[],_,M=>.ok true M|c::cs,env,M=>(c env M).bind λa M1=>match a with
  | .bl true=>vN cs env M1|.bl false=>.ok false M1|_=>.bad
theorem Lx:vN [] env M= .ok true M:=rfl
theorem Zo7{c:E3}{cs:List E3}:vN (c::cs) env M=(c env M).bind λa M1=>match a with
  | .bl true=>vN cs env M1|.bl false=>.ok false M1|_=>.bad:=rfl
section
local instance (priority:=100000) YH (p:Prop):Decidable p:=Yr p
noncomputable def dF(it:gD)(g:G3)(ifs:List E3)(elt:E3)(n:Nat):List D->Zt->Store->R3 D
 |[],_,M=>if locked it M then .ok (.ref n) M else .bad|d::ds,env,M=>if locked it M then match g d env with
  |none=>.bad|some cZ=>(vN ifs cZ M).bind λb M1=>if b then(elt cZ M1).bind λe M2=>match M2[n]? with
    |some (.lst x)=>if x.length<SZ then dF it g ifs elt n ds cZ (M2.set n (.lst (x++[e])))else .bad|_=>.bad
   else dF it g ifs elt n ds cZ M1
  else .bad
theorem T7{g:G3}{ifs:List E3}{elt:E3}{n:Nat}:dF it g ifs elt n [] env M=if locked it M then .ok (.ref n) M else .bad:=rfl
theorem Ly{g:G3}{ifs:List E3}{elt:E3}{n:Nat}{d:D}{ds:List D}:dF it g ifs elt n (d::ds) env M=if locked it M then match g d env with
  |none=>.bad|some cZ=>(vN ifs cZ M).bind λb M1=>if b then(elt cZ M1).bind λe M2=>match M2[n]? with
    |some (.lst x)=>if x.length<SZ then dF it g ifs elt n ds cZ (M2.set n (.lst (x++[e])))else .bad|_=>.bad
   else dF it g ifs elt n ds cZ M1
  else .bad:=rfl
end
noncomputable def mV(i:I3)(own:Nat)(g:G3)(ifs:List E3)(elt:E3):E3:=λenv M=>(i env M).bind λit M1=>dF it g ifs elt M1.length it.items (env++Yh own Yk) (M1++[.lst []])
noncomputable def t6(n:Nat):MO->Bool
 | .lst xs=>cg n xs|.dct kvs=>cg n (kvs.map (·.2))|.dj kvs=>cg n (kvs.map (·.2))|.ins _ fs=>cg n (fs.map (·.2))
noncomputable def tidy(M:Store)(d:D)(M':Store):R3 D:=if below M.length d&&(decide (M'.take M.length=M)|| (M'.take M.length).all (t6 M.length))then .ok d (M'.take M.length)else .ok d M'
noncomputable def bG(ps n:Nat)(body:S3):F3:=λds M=>if ds.length=ps then match body (ds.map Ya++Yh (n-ps) Yk) M with
  | .nx _ M'=>tidy M .non M'|.rt d M'=>tidy M d M'|.exc x M'=>.exc x M'|_=>.bad
 else .bad
end
end L3
namespace L3
variable{M M':Store}{env env':Zt}
theorem Zi{f g:S3}(h:f env M= .nx env' M'):Zu f g env M=g env' M':=by rw[Zu,h]
variable{d:D}
theorem vO{f g:S3}(h:f env M= .rt d M'):Zu f g env M= .rt d M':=by rw[Zu,h]
theorem cV{c:E3}{f g:S3}(h:c env M= .ok (.bl true) M'):aQ c f g env M=f env M':=by rw[aQ,h]
theorem bM{c:E3}{f g:S3}(h:c env M= .ok (.bl false) M'):aQ c f g env M=g env M':=by rw[aQ,h]
variable{f:E3}
theorem je(h:f env M= .ok d M'):cU f env M= .rt d M':=by rw[cU,h]
theorem bY{i:Nat}(h:f env M= .ok d M')(he:env.set i (Ya d)=env':=by first|(dsimp only[lz,lF]<;>exact rfl)|exact rfl):aJ i f env M= .nx env' M':=by rw[aJ,h];simp only[he]
theorem t7{c:E3}{f:S3}(h:c env M= .ok (.bl false) M'):aQ c f gR env M= .nx env M':=by rw[aQ,h];rfl
theorem gF(h:f env M= .ok d M'):Zr f env M= .nx env M':=by rw[Zr,h]
variable{u:S3}
theorem Lz{i:I3}{g:G3}{it:gD}(h:i env M= .ok it M'):tZ i g u env M=cG it g u it.items env M':=by rw[tZ,h]
theorem Zqa{i:I3}{own:Nat}{g:G3}{ts:List E3}{it:gD}(h:i env M= .ok it M'):mV i own g ts f env M=dF it g ts f M'.length it.items (env++Yh own Yk) (M'++[.lst []]):=by rw[mV,h];rfl
variable{body:S3}{ds:List D}{n:Nat}
theorem jC{ps:Nat}(h:body env M= .rt d M')(hl:ds.length=ps:=by rfl)(he:ds.map Ya++Yh (n-ps) Yk=env:=by rfl):bG ps n body ds M=tidy M d M':=by rw[bG,if_pos hl,he,h]
theorem t8{ps:Nat}(h:body env M= .nx env' M')(hl:ds.length=ps:=by rfl)(he:ds.map Ya++Yh (n-ps) Yk=env:=by rfl):bG ps n body ds M=tidy M .non M':=by rw[bG,if_pos hl,he,h]
theorem Bu{G:Store}(h:below M.length d=true):tidy M d (M++G)= .ok d M:=by simp[tidy,h]
theorem T8(h:below M.length d=true):tidy M d M= .ok d M:=by simp[tidy,h]
variable{α:Type}
theorem dU(M:List α)(x:α)(xs:List α):(M++x::xs)[M.length]?=Ya x:=by simp
theorem p6(M xs:List α)(k:Nat):(M++xs)[M.length+k]?=xs[k]?:=by rw[xH (sZ _ _)];congr 1;exact iw (lC 1 2199589555233 T1 (lG (sZ _ _))) (lC 1 2267788938241 T1 (lK _ _))
theorem Gz(M xs:List α)(k:Nat)(o:α):(M++xs).set (M.length+k) o=M++xs.set k o:=by rw[List.set_append_right _ _ (sZ _ _)];congr 2;exact iw (lC 1 2199589555233 T1 (lG (sZ _ _))) (lC 1 2267788938241 T1 (lK _ _))
theorem cW{M:List α}{o:α}(h:M[n]?=Ya o)(xs:List α):(M++xs)[n]?=Ya o:=by rw[Yw (Ye.mp h).1,h]
theorem jD(xs:List α)(k:Nat):fV xs (k:Int)=xs[k]?:=by
 unfold fV kh;rw[if_pos (Fv k)];by_cases h:k<xs.length
 .rw[if_pos (Kf.2 h)];simp
 .rw[if_neg (by exactλz=>iN [_,_] [] 2 6667149772945 T1 z h)];simp at h ⊢;exact h
@[simp] theorem ZvZ(xs:List α)(k:Nat):fV xs (k:Int)=xs[k]?:=jD xs k
@[simp] theorem Zxe(xs:List α)(n:Nat):fV xs (no_index (FP n:Int))=xs[(FP n:Nat)]?:=jD xs n
@[simp] theorem Zv9(xs:List α):fV xs (-1)=xs.getLast?:=by
 unfold fV kh;rw[if_neg (by decide),List.getLast?_eq_getElem?];by_cases h:0<xs.length
 .rw[if_pos (by exact iN [_] [] 1 725993655825 T1 h)];simp only[Yla];congr 1;exact iw (iN [_,_,_] [] 2 0x200a2c10118a9c08a1 T1 (tE (iN [_] [] 1 595337940497 T1 h)) (lK _ _)) (iN [_,_,_] [] 2 0x1200a2c211808a9c81 T1 (Fw _) (lG (lA 1 10489361 T1 h)))
 .have:xs=[]:=by simpa using h
  subst this;rfl
theorem Znf(n k:Nat):kh n (k:Int)=if k<n then Ya k else Yk:=by
 unfold kh;rw[if_pos (Fv k)];by_cases h:k<n
 .rw[if_pos (Kf.2 h),if_pos h];simp
 .rw[if_neg (by exactλz=>iN [_,_] [] 2 6667149772945 T1 z h),if_neg h]
@[simp] theorem Zwx(n k:Nat):kh n (k:Int)=if k<n then Ya k else Yk:=Znf n k
@[simp] theorem Zyk(m n:Nat):kh m (no_index (FP n:Int))=if(FP n:Nat)<m then Ya (FP n:Nat)else Yk:=Znf m n
theorem getD_last(xs:List α)(x:α):fV (xs++[x]) (-1)=Ya x:=by
 unfold fV kh;rw[if_neg (by decide),if_pos (by simp;exact iN [_] [] 0 10521768 T1)];have:(-1+((xs++[x]).length:Int)).toNat=xs.length:=by simp;exact iw (iN [_,_] [] 1 4514701222086817 T1 (tE (iN [_] [] 0 43097169128 T1))) (iN [_,_] [] 1 4505291991981185 T1 (Fw _))
 simp only[Yla,this];simp
inductive Row where
 |put (a:Nat) (n:Int)|add (a b c:Nat)|sub (a b c:Nat)|more (a b c:Nat)|get (a b:Nat)|set (a b:Nat)|jump (k:Nat)|when (a k:Nat)|tell (a:Nat)|halt
 deriving Inhabited
noncomputable def Row.ok(many:Nat):Row->Prop
 | .put a _=>a<8|.add a b c=>a<8/\b<8/\c<8|.sub a b c=>a<8/\b<8/\c<8|.more a b c=>a<8/\b<8/\c<8
 | .get a b=>a<8/\b<8|.set a b=>a<8/\b<8|.jump k=>k<many|.when a k=>a<8/\k<many
 | .tell a=>a<8|.halt=>True
noncomputable def Row.tells(bs:List Int):Row->Option Int
 | .tell a=>bs[a]?|_=>Yk
noncomputable def Row.qt:Row->Bool
 | .halt=>true|_=>false
variable{a:Nat}
@[simp] theorem Zv7{n:Int}{bs:List Int}:(Row.put a n).tells bs=Yk:=rfl
@[simp] theorem ZvS{n:Int}:(Row.put a n).qt=false:=rfl
variable{b c:Nat}
@[simp] theorem Zv2{bs:List Int}:(Row.add a b c).tells bs=Yk:=rfl
@[simp] theorem ZvH:(Row.add a b c).qt=false:=rfl
@[simp] theorem Zwa{bs:List Int}:(Row.sub a b c).tells bs=Yk:=rfl
@[simp] theorem ZvO:(Row.sub a b c).qt=false:=rfl
@[simp] theorem Zt4{bs:List Int}:(Row.more a b c).tells bs=Yk:=rfl
@[simp] theorem Zti:(Row.more a b c).qt=false:=rfl
@[simp] theorem Zv8{bs:List Int}:(Row.get a b).tells bs=Yk:=rfl
@[simp] theorem Zui:(Row.get a b).qt=false:=rfl
@[simp] theorem Zv0{bs:List Int}:(Row.set a b).tells bs=Yk:=rfl
@[simp] theorem Zvs:(Row.set a b).qt=false:=rfl
@[simp] theorem Zvr{k:Nat}{bs:List Int}:(Row.jump k).tells bs=Yk:=rfl
@[simp] theorem ZtH{k:Nat}:(Row.jump k).qt=false:=rfl
@[simp] theorem Zvj{k:Nat}{bs:List Int}:(Row.when a k).tells bs=Yk:=rfl
@[simp] theorem Zts{k:Nat}:(Row.when a k).qt=false:=rfl
@[simp] theorem ZvN{bs:List Int}:(Row.tell a).tells bs=bs[a]?:=rfl
@[simp] theorem ZtM:(Row.tell a).qt=false:=rfl
@[simp] theorem Zul{bs:List Int}:(Row.halt).tells bs=Yk:=rfl
@[simp] theorem Ztt :(Row.halt).qt=true:=rfl
mutual
theorem Zo4:∀(n:Nat) (d:D),cP n d=true->iH d d=true
 |_,.non,_=>rfl|_,.bl b,_=>beq_self_eq_true b|_,.int b,_=>beq_self_eq_true b|_,.str b,_=>beq_self_eq_true b
 |0,.tup _,h=>ft h|n+1,.tup ds,h=>T9 n ds (pK.mp h)|n,.bO _,h=>by cases n<;>exact ft h|n,.ref _,h=>by cases n<;>exact ft h
theorem T9:∀(n:Nat) (ds:List D),(∀d∈ds,cP n d=true)->gQ ds ds=true
 |_,[],_=>rfl|n,d::ds,h=>by simp only[Zun,Tw,Y9];exact⟨Zo4 n d (h d Yz),T9 n ds λx hx=>h x (Yq _ hx)⟩
end
def Rt(o:O3)(d:D):Prop:=∃M',o= .rt d M'
theorem Rt.set{i:Nat}{g:S3}{d r:D}(h:f env M= .ok d M')(k:Rt (g env' M') r)(he:env.set i (Ya d)=env':=by first|(dsimp only[lz,lF]<;>exact rfl)|exact rfl):Rt (Zu (aJ i f) g env M) r:=by rw[Rt,Zi (bY h he)];exact k
theorem Rt.expr{g:S3}{d r:D}(h:f env M= .ok d M')(k:Rt (g env M') r):Rt (Zu (Zr f) g env M) r:=by rw[Rt,Zi (gF h)];exact k
theorem Rt.skip{c:E3}{g:S3}{r:D}(h:c env M= .ok (.bl false) M')(k:Rt (g env M') r):Rt (Zu (aQ c u gR) g env M) r:=by rw[Rt,Zi (t7 h)];exact k
theorem Rt.loop{i:I3}{t:G3}{g:S3}{M M' M1:Store}{it:gD}{r:D}(h:i env M= .ok it M1)(hl:cG it t u it.items env M1= .nx env' M')(k:Rt (g env' M') r):Rt (Zu (tZ i t u) g env M) r:=by rw[Rt,Zi ((Lz h).trans hl)];exact k
theorem Rt.ret(h:f env M= .ok d M'):Rt (cU f env M) d:=⟨M',je h⟩
theorem Rt.law{ps:Nat}{b:Bool}(h:Rt (body env []) (.bl b))(hl:ds.length=ps:=by rfl)(he:ds.map Ya++Yh (n-ps) Yk=env:=by rfl):∃M',bG ps n body ds []= .ok (.bl b) M':=by obtain⟨M',h⟩:=h;exact⟨_,(jC h hl he).trans (by rw[tidy,if_pos (by simp[below])])⟩
theorem Rt.pure{ps:Nat}{G:Store}(h:body env M= .rt d (M++G))(hd:below M.length d=true)(hl:ds.length=ps:=by rfl)(he:ds.map Ya++Yh (n-ps) Yk=env:=by rfl):bG ps n body ds M= .ok d M:=(jC h hl he).trans (Bu hd)
variable{g:E3}
theorem Zg{op:D->D->Store->R3 D}{M M1 M2 M3:Store}{a b:D}(h1:f env M= .ok a M1)(h2:g env M1= .ok b M2)(h3:op a b M2= .ok d M3):e2 op f g env M= .ok d M3:=by simp only[e2,h1,h2,h3,R3.bind]
variable{F:F3}
theorem GC{M M1 M2:Store}{a:D}(h1:f env M= .ok a M1)(h2:F [a] M1= .ok d M2):Zw F (Za f Ze) env M= .ok d M2:=by simp only[Zw,Za,Ze,h1,h2,R3.bind]
theorem yu{M M1 M2 M3:Store}{a b:D}(h1:f env M= .ok a M1)(h2:g env M1= .ok b M2)(h3:F [a,b] M2= .ok d M3):Zw F (Za f (Za g Ze)) env M= .ok d M3:=by simp only[Zw,Za,Ze,h1,h2,h3,R3.bind]
theorem Zip{h:E3}{M M1 M2 M3 M4:Store}{a b c:D}(h1:f env M= .ok a M1)(h2:g env M1= .ok b M2)(h3:h env M2= .ok c M3)(h4:F [a,b,c] M3= .ok d M4):Zw F (Za f (Za g (Za h Ze))) env M= .ok d M4:=by simp only[Zw,Za,Ze,h1,h2,h3,h4,R3.bind]
@[simp] theorem ZyG(a b:qY):(a==b)=decide (a=b):=by cases a<;>cases b<;>rfl
theorem LC{f g h k:E3}{M M1 M2 M3 M4 M5:Store}{a b c e:D}(h1:f env M= .ok a M1)(h2:g env M1= .ok b M2)(h3:h env M2= .ok c M3)(h4:k env M3= .ok d M4)(h5:F [a,b,c,d] M4= .ok e M5):Zw F (Za f (Za g (Za h (Za k Ze)))) env M= .ok e M5:=by simp only[Zw,Za,Ze,h1,h2,h3,h4,h5,R3.bind]
theorem iK{b:List D->Store->R3 D}{M M1 M2:Store}{a:D}(h1:f env M= .ok a M1)(h2:b [a] M1= .ok d M2):aO b (Za f Ze) env M= .ok d M2:=by simp only[aO,Za,Ze,h1,h2,R3.bind]
theorem dW{op:D->Store->R3 D}{M M1 M2:Store}{a:D}(h1:f env M= .ok a M1)(h2:op a M1= .ok d M2):e1 op f env M= .ok d M2:=by simp only[e1,h1,h2,R3.bind]
theorem Zo{g:cF}{M M1 M2:Store}(h1:f env M= .ok d M1)(h2:g env M1= .ok ds M2):Za f g env M= .ok (d::ds) M2:=by simp only[Za,h1,h2,R3.bind]
theorem gV{g:cF}(h:g env M= .ok ds M')(hl:decide (ds.length<=100)=true):cu g env M= .ok (.tup ds) M':=by have:=of_decide_eq_true hl;simp only[cu,h,R3.bind];rw[if_pos (Yu this (by decide))]
variable{xs:List D}
theorem vP(h:M[n]?=Ya (.lst xs)):bW [.ref n] M= .ok (.int (xs.length:Int)) M:=by simp only[Bp,Lp,T4,yo,h]
theorem GD(h:M[n]?=Ya (.lst xs)):mQ [.ref n] M= .ok (.tup xs) M:=by simp only[ZjC,Zjv,Bq,h]
variable{i:Int}
theorem gG(h:M[n]?=Ya (.lst xs))(hd:fV xs i=Ya d):Zk (.ref n) (.int i) M= .ok d M:=by simp only[Zlx,TY,T3,ZlR,h,hd]
theorem oZ(hd:fV xs i=Ya d):Zk (.tup xs) (.int i) M= .ok d M:=by simp only[Zlx,TY,T3,ZlR,hd]
theorem nR{a b:Int}(h:a=b):bI (.int a) (.int b) M= .ok (.bl true) M:=by simp only[bI,ZpC,Zqi,Li,ZpA,ZpL,decide_eq_true h]
theorem jV{a b:Int}(h:¬a=b):bI (.int a) (.int b) M= .ok (.bl false) M:=by simp only[bI,ZpC,Zqi,Li,ZpA,ZpL,decide_eq_false h]
theorem dX{j:Int}(h:0<j):aW (.int i) (.int j) M= .ok (.int (i % j)) M:=by simp only[Zk8,if_pos h]
theorem LK{M M1:Store}(h1:f env M= .ok (.bl false) M1):oX f g env M=g env M1:=by simp only[oX,h1,R3.bind]
theorem ZwO{M M1:Store}(h1:f env M= .ok (.bl true) M1):oX f g env M= .ok (.bl true) M1:=by simp only[oX,h1,R3.bind]
theorem t_{M M1:Store}(h1:f env M= .ok (.bl true) M1):ji f g env M=g env M1:=by simp only[ji,h1,R3.bind]
theorem Bv{M M1:Store}(h1:f env M= .ok (.bl false) M1):ji f g env M= .ok (.bl false) M1:=by simp only[ji,h1,R3.bind]
theorem ZtD{c:E3}{M M1:Store}(h1:c env M= .ok (.bl true) M1):yd c f g env M=f env M1:=by simp only[yd,h1,R3.bind]
theorem Zxj{c:E3}{M M1:Store}(h1:c env M= .ok (.bl false) M1):yd c f g env M=g env M1:=by simp only[yd,h1,R3.bind]
def keysOk(t:List (Int×Int)):Prop:=(t.map (·.1)).Nodup
def T_(cs:List (Int×Int)):Prop:=cs.Pairwise λa b=>a.1<b.1
theorem T_.keys{cs:List (Int×Int)}(h:T_ cs):keysOk cs:=by unfold keysOk T_ at *;rw[Ad,List.pairwise_map];exact h.imp λh=>(λz=>iN [] [_,_] 2 26047746225 T1 z h)
noncomputable def ZrX(cs:List (Int×Int))(n v:Int):List (Int×Int):=cs.filter (λc=>decide (c.1<n))++(if v≠0 then[(n,v)]else[])++cs.filter (λc=>decide (n<c.1))
noncomputable def Row.place(bs:List Int)(p:Nat):Row->Nat
 | .jump k=>k|.when a k=>if 0<bs.getD a 0 then k else p+1|_=>p+1
noncomputable def Row.cells(bs:List Int)(cs:List (Int×Int)):Row->List (Int×Int)
 | .set a b=>ZrX cs (bs.getD a 0) (bs.getD b 0)|_=>cs
theorem ZqM(kvs:List (a_×D))(k j:a_)(v:D):cT (putD k v kvs) j=if j=k then Ya v else cT kvs j:=by
 have mp:∀l:List (a_×D),cT (l.map λp=>if p.1=k then(p.1,v)else p) j=if j=k then(if l.any (λp=>decide (p.1=k))then Ya v else Yk)else cT l j:=by
  intro l
  induction l with
  |nil=>simp[cT]|cons p l ih=>
   obtain⟨a,b⟩:=p;rw[Y8];by_cases e:a=k
   .subst e;simp only[if_true,cT];by_cases ej:a=j
    .subst ej;simp
    .rw[if_neg ej,ih,if_neg (bK ej),if_neg (bK ej),if_neg ej]
   .simp only[if_neg e,cT];by_cases ej:a=j
    .subst ej;simp[e]
    .rw[if_neg ej,ih,if_neg ej];simp only[pO,decide_eq_false e,Ro]
 have ap:∀l:List (a_×D),¬l.any (λp=>decide (p.1=k))=true->cT (l++[(k,v)]) j=if j=k then Ya v else cT l j:=by
  intro l
  induction l with
  |nil=>intro _;simp only[qI,cT];by_cases e:k=j<;>simp[e,bK,eq_comm]|cons p l ih=>
   intro h;obtain⟨a,b⟩:=p;simp only[pO,u9,decide_eq_true_eq,not_or]at h;simp only[pM,cT];by_cases ej:a=j
   .subst ej;rw[if_pos rfl,if_neg h.1,if_pos rfl]
   .rw[if_neg ej,if_neg ej];exact ih (by simpa using h.2)
 unfold putD;by_cases c:(kvs.any λp=>decide (p.1=k))=true
 .rw[if_pos c,mp,c];simp
 .rw[if_neg c];exact ap kvs c
noncomputable def Znx(i:Int):List Nat:=(PySem.Str.ofString (toString i)).cps.toList
noncomputable section
local instance (priority:=100000) AfW (p:Prop):Decidable p:=Yr p
noncomputable def Zxt(ds:List D)(M:Store):R3 D:=match ds with
 |[.int i]=>if i.natAbs.log2<1920 then .ok (.str (Znx i)) M else .bad|[.str x]=>.ok (.str x) M|_=>.bad
@[simp] theorem Zx1:∀i,Zxt ([.int i]) M=(if i.natAbs.log2<1920 then .ok (.str (Znx i)) M else .bad):=λ_=>rfl
@[simp] theorem Zym:∀x,Zxt ([.str x]) M= .ok (.str x) M:=λ_=>rfl
noncomputable def ZwS:List D->Option (List (List Nat))
 |[]=>Ya []|.str x::ds=>(ZwS ds).map (x:: ·)|_=>Yk
noncomputable def lR(ds:List D)(M:Store):R3 D:=match ds with
 |[.str x]=>match Qu ⟨x.toArray⟩with
  |some n=>if x.length<=640 then .ok (.int n) M else .bad|none=>.bad
 |ds=>Gy ds M
@[simp] theorem ZqA:∀x,lR ([.str x]) M=(match Qu ⟨x.toArray⟩with
  |some n=>if x.length<=640 then .ok (.int n) M else .bad|none=>.bad):=λ_=>rfl
@[simp] theorem Zpx:∀i,lR [.int i] M= .ok (.int i) M:=λ_=>rfl
@[simp] theorem Zqs:∀b,lR [.bl b] M=Gy [.bl b] M:=λ_=>rfl
end
noncomputable section
structure Bw where
 items:List D
 lk:List (Nat×List D)
noncomputable def q_(lk:List (Nat×List D))(M:Store):Bool:=lk.all λq=>decide (M[q.1]?=Ya (.lst q.2))
noncomputable def nU(lk:List (Nat×List D))(g:G3)(body:S3):List D->Zt->Store->O3
 |[],env,M=>if q_ lk M then .nx env M else .bad|d::ds,env,M=>if q_ lk M then match g d env with
  |none=>.bad|some cZ=>match body cZ M with
   | .nx e M'=>nU lk g body ds e M'|.ct e M'=>nU lk g body ds e M'|.bk e M'=>.nx e M'|o=>o
  else .bad
theorem Ua{lk:List (Nat×List D)}{g:G3}:nU lk g body [] env M=if q_ lk M then .nx env M else .bad:=rfl
theorem Ub{lk:List (Nat×List D)}{g:G3}:nU lk g body (d::ds) env M=if q_ lk M then match g d env with
  |none=>.bad|some cZ=>match body cZ M with
   | .nx e M'=>nU lk g body ds e M'|.ct e M'=>nU lk g body ds e M'|.bk e M'=>.nx e M'|o=>o
  else .bad:=rfl
noncomputable abbrev yw:=Zt->Store->R3 Bw
noncomputable def GF(i:yw)(g:G3)(body:S3):S3:=λenv M=>match i env M with
 | .ok it M1=>nU it.lk g body it.items env M1|.exc x M1=>.exc x M1|.bad=>.bad
noncomputable def mW:Nat->List D->List D
 |_,[]=>[]|k,d::ds=>.tup [.int k,d]::mW (k+1) ds
@[simp] noncomputable def Uc(f:E3):yw:=λenv M=>(f env M).bind λa M1=>match a with
 | .tup ds=>.ok ⟨mW 0 ds,[]⟩ M1|.ref n=>match M1[n]? with
  |some (.lst ds)=>.ok ⟨mW 0 ds,[(n,ds)]⟩ M1|_=>.bad
 |_=>.bad
noncomputable def Zwv(a b:D)(M:Store):R3 D:=match a,b with
 | .tup [.int i,.int j],.tup [.int k,.int l]=>.ok (.bl (decide (i<k)|| (decide (i=k)&&decide (j<=l)))) M|_,_=>.bad
@[simp] theorem Zwh:∀i j k l,Zwv (.tup [.int i,.int j]) (.tup [.int k,.int l]) M= .ok (.bl (decide (i<k)|| (decide (i=k)&&decide (j<=l)))) M:=λ_ _ _ _=>rfl
noncomputable def Bx(ds:List D)(M:Store):R3 D:=match ds with
 |[.int i,.int j]=>.ok (.int (if j>i then j else i)) M|_=>.bad
@[simp] theorem Zqu:∀i j,Bx ([.int i,.int j]) M= .ok (.int (if j>i then j else i)) M:=λ_ _=>rfl
theorem Ud:∀(k:Nat) (ds:List D) (i:Nat),(mW k ds)[i]?=(ds[i]?).map λd=>.tup [.int ((k+i:Nat):Int),d]
 |_,[],_=>by simp[mW]|k,d::ds,0=>by simp[mW]|k,d::ds,i+1=>by simp only[mW,Yhh,Ud (k+1) ds i];rw[show k+1+i=k+(i+1)by exact iw (lB 0 0xa1c0c1a0cc0 T1) (lB 0 1790139547840 T1)]
theorem Ue:∀(k:Nat) (ds:List D),(mW k ds).length=ds.length
 |_,[]=>rfl|k,d::ds=>by simp[mW,Ue (k+1) ds]
end
noncomputable section
noncomputable def yx:List D->List D->List D
 |a::x,b::y=>.tup [a,b]::yx x y|_,_=>[]
end
noncomputable section
end
noncomputable def uc(f:List Nat)(d:D):List (List Nat×D)->List (List Nat×D)
 |[]=>[(f,d)]|(g,x)::r=>if g=f then(g,d)::r else(g,x)::uc f d r
noncomputable def jW(c f:List Nat)(a:D)(M:Store):R3 D:=match a with
 | .ref n=>match M[n]? with
  |some (.ins c' fs)=>if c'=c then(match fs.lookup f with
   |some d=>.ok d M|none=>.bad)else .bad
  |_=>.bad
 |_=>.bad
@[simp] theorem BJ{c:List Nat}{f:List Nat}:∀n,jW c f (.ref n) M=(match M[n]? with
  |some (.ins c' fs)=>if c'=c then(match fs.lookup f with
   |some d=>.ok d M|none=>.bad)else .bad
  |_=>.bad):=λ_=>rfl
noncomputable def LQ(c f:List Nat)(v a:D)(M:Store):R3 D:=match a with
 | .ref n=>match M[n]? with
  |some (.ins c' fs)=>if c'=c/\fs.length<1000 then .ok .non (M.set n (.ins c (uc f v fs)))else .bad|_=>.bad
 |_=>.bad
@[simp] theorem Ug{c:List Nat}{f:List Nat}{v:D}:∀n,LQ c f v (.ref n) M=(match M[n]? with
  |some (.ins c' fs)=>if c'=c/\fs.length<1000 then .ok .non (M.set n (.ins c (uc f v fs)))else .bad|_=>.bad):=λ_=>rfl
noncomputable def yC(c f:List Nat)(o v:E3):S3:=Zr (e2 (LQ c f) v o)
noncomputable def ud(c m:List Nat)(a:D)(M:Store):Bool:=match a with
 | .ref n=>match M[n]? with
  |some (.ins c' fs)=>decide (c'=c)&&(fs.lookup m).isNone|_=>false
 |_=>false
@[simp] theorem Zl2{c:List Nat}{m:List Nat}:∀n,ud c m (.ref n) M=(match M[n]? with
  |some (.ins c' fs)=>decide (c'=c)&&(fs.lookup m).isNone|_=>false):=λ_=>rfl
@[simp] noncomputable def bN(c m:List Nat)(F:F3)(o:E3)(g:cF):E3:=λenv M=>(o env M).bind λa M1=>if ud c m a M1 then(g env M1).bind λds M2=>F (a::ds) M2 else .bad
@[simp] noncomputable def GJ(c:List Nat)(F:F3)(g:cF):E3:=λenv M=>(g env M).bind λds M1=>match F (.ref M1.length::ds) (M1++[.ins c []])with
 | .ok .non M2=>.ok (.ref M1.length) M2|_=>.bad
noncomputable section
@[simp] noncomputable def bf(f:E3):E3:=λenv M=>match f env M with
 | .exc _ _=>.bad|r=>r
@[simp] noncomputable def bJ(f:cF):cF:=λenv M=>match f env M with
 | .exc _ _=>.bad|r=>r
noncomputable def gW(f:S3):S3:=λenv M=>match f env M with
 | .exc _ _=>.bad|o=>o
noncomputable def BK(c:List Nat)(g:cF):S3:=λenv M=>match g env M with
 | .ok [_] M1=>.exc ⟨c,.ref M1.length⟩ (M1++[.ins (0::c) []])|_=>.bad
noncomputable def GK(cs:List (List Nat))(j:Nat)(b h:S3):S3:=λenv M=>match b env M with
 | .exc x M'=>if cs.contains x.cls then(match h (env.set j (Ya x.arg)) M' with
  | .nx e' M2=>.nx (e'.set j Yk) M2|_=>.bad)else .bad
 |o=>o
noncomputable def rm(yes no:List (List Nat))(d:D)(M:Store):R3 D:=match d with
 | .non=>.ok (.bl false) M|.ref n=>match M[n]? with
  |some (.ins (0::c) _)=>if yes.contains c then .ok (.bl true) M else if no.contains c then .ok (.bl false) M else .bad|_=>.bad
 |_=>.bad
@[simp] theorem ZvR{yes no:List (List Nat)}:rm yes no .non M= .ok (.bl false) M:=rfl
@[simp] theorem Zif{yes no:List (List Nat)}:∀n,rm yes no (.ref n) M=(match M[n]? with
  |some (.ins (0::c) _)=>if yes.contains c then .ok (.bl true) M else if no.contains c then .ok (.bl false) M else .bad|_=>.bad):=λ_=>rfl
end
noncomputable section
noncomputable def GP(i:I3)(g:G3)(body:S3):S3:=λenv M=>match i env M with
 | .ok it M1=>cG it g body it.items env M1|_=>.bad
end
noncomputable section
noncomputable abbrev LR:=List (List Nat×List (List Nat))
noncomputable def Zzn(f:E3):yw:=λenv M=>(f env M).bind λa M1=>match a with
 | .ref n=>match M1[n]? with
  |some (.lst ds)=>.ok ⟨mW 1 ds,[(n,ds)]⟩ M1|_=>.bad
 |_=>.bad
noncomputable def GQ(M:Store):D->Option (List D×List (Nat×List D))
 | .tup x=>Ya (x,[])|.ref n=>match M[n]? with
  |some (.lst x)=>Ya (x,[(n,x)])|_=>Yk
 |_=>Yk
end
noncomputable section
noncomputable abbrev uf:=List (List Nat×Int)
noncomputable def rA(x:List Nat):uf->Option Int
 |[]=>Yk|(k,v)::r=>if x=k then Ya v else rA x r
noncomputable def BP(t:uf)(d e:D)(M:Store):R3 D:=match d with
 | .str x=>match rA x t with
  |some i=>.ok (.int i) M|none=>.ok e M
 | .int _=>.ok e M|_=>.bad
noncomputable def L_(x y:List D)(M:Store):R3 D:=match lQ (yx x y)with
 |some l=>if l.length<=100000 then alloc (.dct (dictOf l)) M else .bad|none=>.bad
noncomputable def BR(f g:E3):E3:=λenv M=>(f env M).bind λa M1=>(g env M1).bind λb M2=>match GQ M2 a,GQ M2 b with
 |some (x,_),Ya (y,_)=>L_ x y M2|_,_=>.bad
noncomputable def Zth(a:D)(M:Store):R3 D:=match a with
 | .tup ds=>.ok (.tup ds.reverse) M|_=>.bad
noncomputable def BV:D->Option (Nat×Int)
 | .tup [.ref n,.int i]=>Ya (n,i)|_=>Yk
theorem ZiY(h:BV d=Ya (n,i)):d= .tup [.ref n,.int i]:=by
 unfold BV at h;split at h
 .cases h;rfl
 .cases h
noncomputable def Ma(x y:List D)(r:Bool)(M:Store):R3 D:=if x.all (cP 50)=true/\y.all (cP 50)=true then .ok (.bl (gQ x y&&r)) M else .bad
noncomputable def Uh(a b:D)(M:Store):R3 D:=match BV a,BV b with
 |some (n,i),Ya (m,j)=>match M[n]?,M[m]? with
  |some (.lst x),Ya (.lst y)=>if n=m then .bad else Ma x y (i==j) M|_,_=>.bad
 |_,_=>.bad
end
noncomputable section
@[simp] noncomputable def BW(d:D):E3:=λ_ M=>.ok d M
noncomputable def vQ(o i f:E3):S3:=λenv M=>match f env M with
 | .ok d M1=>gW (yr o i (BW d)) env M1|.exc x M1=>.exc x M1|.bad=>.bad
noncomputable def yD(o f:E3):E3:=λenv M=>match bf o env M with
 | .ok a M1=>if aY a M1 then(match f env M1 with
  | .ok d M2=>bf (λ_ M=>bL a [d] M) env M2|.exc x M2=>.exc x M2|.bad=>.bad)else .bad
 |_=>.bad
noncomputable def vR(i:I3)(own:Nat)(g:G3)(elt:E3):E3:=λenv M=>match i env M with
 | .ok it M1=>dF it g [] elt M1.length it.items (env++Yh own Yk) (M1++[.lst []])|_=>.bad
end
noncomputable section
local instance (priority:=100000) AfX (p:Prop):Decidable p:=Yr p
end
open PySem PySem.Spec PyProof.Rows L2
noncomputable abbrev St:=L2.St
theorem lU:SZ<=Y7:=by rw[nj];decide
def o8(K:Yc)(H:Hp)(a:Yn)(xs:List V):Prop:=
 (∃o,H a=Ya (.fQ o (.lst xs)))\/
  ∃(o:aB) (its:Array Yd) (n:Nat),K.lookup a=Ya o/\o.cls= .type "list" /\o.dict=Yk/\o.data= .seq its n/\its.size<=Y7/\Vals xs its.toList
variable{K:Yc}{H:Hp}
theorem o8.sq{a:Yn}{xs:List V}(h:o8 K H a xs):cD K H a xs:=by
 rcases h with⟨o,h⟩|h
 .exact .inl (.inr ⟨o,h⟩)
 .exact .inr h
mutual
noncomputable def Rep(K:Yc)(H:Hp)(ι:List Yn):D->V->Prop
 | .non,v=>v= .non|.bl b,v=>v= .bl b|.int i,v=>v= .int i|.str x,v=>v= .str ⟨x.toArray⟩
 | .tup ds,v=>∃a vs,v= .ref a/\cL K H a vs/\Zx K H ι ds vs|.bO ds,v=>∃a vs,v= .ref a/\o8 K H a vs/\Zx K H ι ds vs|.ref n,v=>∃a,ι[n]?=Ya a/\v= .ref a
noncomputable def Zx(K:Yc)(H:Hp)(ι:List Yn):List D->List V->Prop
 |[],vs=>vs=[]|d::ds,vs=>∃v ws,vs=v::ws/\Rep K H ι d v/\Zx K H ι ds ws
end
structure Ext(K:Yc)(H:Hp)(ι:List Yn)(H':Hp)(ι':List Yn):Prop where
 tup:∀a xs,cL K H a xs->cL K H' a xs
 bO:∀a xs,o8 K H a xs->o8 K H' a xs
 pre:∀(n:Nat) (a:Yn),ι[n]?=Ya a->ι'[n]?=Ya a
 fQ:∀a o u,H a=Ya (.fQ o u)->H' a=Ya (.fQ o u)
variable{vs:List V}
section
variable {K:Yc} {H H' H1 H2:Hp} {ι ι' ι1 ι2:List Yn}
theorem Ext.refl:Ext K H ι H ι:=⟨λ_ _ h=>h,λ_ _ h=>h,λ_ _ h=>h,λ_ _ _ h=>h⟩
theorem Ext.trans(a:Ext K H ι H1 ι1)(b:Ext K H1 ι1 H2 ι2):Ext K H ι H2 ι2:=⟨λx xs h=>b.tup x xs (a.tup x xs h),λx xs h=>b.bO x xs (a.bO x xs h),λn x h=>b.pre n x (a.pre n x h),λx o u h=>b.fQ x o u (a.fQ x o u h)⟩
mutual
theorem Rep.mono(e:Ext K H ι H' ι'):∀{d:D} {v:V},Rep K H ι d v->Rep K H' ι' d v
 | .non,_,h=>h|.bl _,_,h=>h|.int _,_,h=>h|.str _,_,h=>h
 | .tup ds,_,h=>by obtain⟨a,vs,rfl,s,r⟩:=h;exact⟨a,vs,rfl,e.tup _ _ s,Zx.mono e (ds:=ds) r⟩|.bO ds,_,h=>by obtain⟨a,vs,rfl,s,r⟩:=h;exact⟨a,vs,rfl,e.bO _ _ s,Zx.mono e (ds:=ds) r⟩|.ref n,_,h=>by obtain⟨a,s,rfl⟩:=h;exact⟨a,e.pre _ _ s,rfl⟩
theorem Zx.mono(e:Ext K H ι H' ι'):∀{ds:List D} {vs:List V},Zx K H ι ds vs->Zx K H' ι' ds vs
 |[],_,h=>h|d::ds,_,h=>by obtain⟨v,ws,rfl,r,q⟩:=h;exact⟨v,ws,rfl,Rep.mono e (d:=d) r,Zx.mono e (ds:=ds) q⟩
end
mutual
theorem Rep.keep(ht:∀a xs,cL K H a xs->cL K H' a xs)(hs:∀a xs,o8 K H a xs->o8 K H' a xs):∀{d:D} {v:V},Rep K H ι d v->Rep K H' ι d v
 | .non,_,h=>h|.bl _,_,h=>h|.int _,_,h=>h|.str _,_,h=>h
 | .tup ds,_,h=>by obtain⟨a,vs,rfl,s,r⟩:=h;exact⟨a,vs,rfl,ht _ _ s,Zx.keep ht hs (ds:=ds) r⟩|.bO ds,_,h=>by obtain⟨a,vs,rfl,s,r⟩:=h;exact⟨a,vs,rfl,hs _ _ s,Zx.keep ht hs (ds:=ds) r⟩|.ref n,_,h=>h
theorem Zx.keep(ht:∀a xs,cL K H a xs->cL K H' a xs)(hs:∀a xs,o8 K H a xs->o8 K H' a xs):∀{ds:List D} {vs:List V},Zx K H ι ds vs->Zx K H' ι ds vs
 |[],_,h=>h|d::ds,_,h=>by obtain⟨v,ws,rfl,r,q⟩:=h;exact⟨v,ws,rfl,Rep.keep ht hs (d:=d) r,Zx.keep ht hs (ds:=ds) q⟩
end
theorem Zx.nil:Zx K H ι [] []:=rfl
theorem Zx.cons{d:D}{ds:List D}{v:V}{vs:List V}(h:Rep K H ι d v)(t:Zx K H ι ds vs):Zx K H ι (d::ds) (v::vs):=⟨v,vs,rfl,h,t⟩
theorem Zx.nil_inv(h:Zx K H ι [] vs):vs=[]:=h
theorem Zx.cons_inv(h:Zx K H ι (d::ds) vs):∃v ws,vs=v::ws/\Rep K H ι d v/\Zx K H ι ds ws:=h
theorem Zx.length:∀{ds:List D} {vs:List V},Zx K H ι ds vs->vs.length=ds.length
 |[],_,h=>by rw[h.nil_inv];rfl|d::ds,_,h=>by obtain⟨v,ws,rfl,_,q⟩:=h.cons_inv;exact congrArg Nat.succ q.length
theorem Zx.append:∀{ds es:List D} {vs ws:List V},Zx K H ι ds vs->Zx K H ι es ws->Zx K H ι (ds++es) (vs++ws)
 |[],_,_,_,h,q=>by rw[h.nil_inv];exact q|d::ds,_,_,_,h,q=>by obtain⟨v,us,rfl,r,t⟩:=h.cons_inv;exact Zx.cons r (t.append q)
theorem Zx.drop:∀{ds:List D} {vs:List V} (n:Nat),Zx K H ι ds vs->Zx K H ι (ds.drop n) (vs.drop n)
 |_,_,0,h=>h|[],_,n+1,h=>by rw[h.nil_inv];exact Zx.nil|d::ds,_,n+1,h=>by obtain⟨v,us,rfl,r,t⟩:=h.cons_inv;exact t.drop n
theorem Zx.take:∀{ds:List D} {vs:List V} (n:Nat),Zx K H ι ds vs->Zx K H ι (ds.take n) (vs.take n)
 |_,_,0,h=>Zx.nil|[],_,n+1,h=>by rw[h.nil_inv];exact Zx.nil|d::ds,_,n+1,h=>by obtain⟨v,us,rfl,r,t⟩:=h.cons_inv;exact Zx.cons r (t.take n)
theorem Zx.get:∀{ds:List D} {vs:List V} {i:Nat} {d:D},Zx K H ι ds vs->ds[i]?=Ya d->∃v,vs[i]?=Ya v/\Rep K H ι d v
 |[],_,_,_,_,e=>by simp at e|d::ds,_,0,_,h,e=>by obtain⟨v,us,rfl,r,t⟩:=h.cons_inv;simp at e;subst e;exact⟨v,rfl,r⟩
 |d::ds,_,i+1,_,h,e=>by obtain⟨v,us,rfl,r,t⟩:=h.cons_inv;obtain⟨w,q,z⟩:=t.get (i:=i) (by simpa using e);exact⟨w,by simpa using q,z⟩
theorem Zx.set:∀{ds:List D} {vs:List V} {d:D} {v:V} (i:Nat),Zx K H ι ds vs->Rep K H ι d v->Zx K H ι (ds.set i d) (vs.set i v)
 |[],_,_,_,_,h,_=>by rw[h.nil_inv];exact Zx.nil|d::ds,_,_,_,0,h,q=>by obtain⟨v,us,rfl,r,t⟩:=h.cons_inv;exact Zx.cons q t
 |d::ds,_,_,_,i+1,h,q=>by obtain⟨v,us,rfl,r,t⟩:=h.cons_inv;exact Zx.cons r (t.set i q)
theorem Zx.ints:∀(ns:List Int),Zx K H ι (ns.map D.int) (ns.map V.int)
 |[]=>Zx.nil|n::ns=>Zx.cons rfl (Zx.ints ns)
theorem Rep.jL{v:V}(h:Rep K H ι .non v):v= .non:=h
theorem Rep.iY{v:V}{b:Bool}(h:Rep K H ι (.bl b) v):v= .bl b:=h
theorem Rep.int_inv{v:V}(h:Rep K H ι (.int i) v):v= .int i:=h
theorem Rep.str_inv{v:V}{x:List Nat}(h:Rep K H ι (.str x) v):v= .str ⟨x.toArray⟩:=h
theorem Rep.iW{v:V}(h:Rep K H ι (.tup ds) v):∃a vs,v= .ref a/\cL K H a vs/\Zx K H ι ds vs:=h
theorem Rep.uE{v:V}(h:Rep K H ι (.bO ds) v):∃a vs,v= .ref a/\o8 K H a vs/\Zx K H ι ds vs:=h
theorem Rep.eU{v:V}(h:Rep K H ι (.ref n) v):∃a,ι[n]?=Ya a/\v= .ref a:=h
theorem Rep.non:Rep K H ι .non .non:=rfl
theorem Rep.bl{b:Bool}:Rep K H ι (.bl b) (.bl b):=rfl
theorem Rep.int:Rep K H ι (.int i) (.int i):=rfl
theorem Rep.str{x:List Nat}:Rep K H ι (.str x) (.str ⟨x.toArray⟩):=rfl
theorem Rep.tup{a:Yn}{vs:List V}{ds:List D}(s:cL K H a vs)(r:Zx K H ι ds vs):Rep K H ι (.tup ds) (.ref a):=⟨a,vs,rfl,s,r⟩
theorem Rep.ref{a:Yn}(s:ι[n]?=Ya a):Rep K H ι (.ref n) (.ref a):=⟨a,s,rfl⟩
end
def vU(e C:Yn)(h:au):Prop:=∃o vs,h.get? e=Ya o/\o.cls= .ref C/\o.data= .fields vs
noncomputable abbrev p7(e C:Yn):HO:=.ext (vU e C)
noncomputable def dk:a_->Key
 | .inl i=>.inl i|.inr x=>.inr ⟨x.toArray⟩
def bH(K:Yc)(H:Hp)(ι:List Yn)(kvs:List (a_×D))(ws:List (Key×V)):Prop:=ws.map (·.1)=kvs.map (λp=>dk p.1)/\Zx K H ι (kvs.map (·.2)) (ws.map (·.2))
def gj(K:Yc)(H:Hp)(ι:List Yn)(fs:List (List Nat×D))(gs:List (aj×V)):Prop:=gs.map (·.1)=fs.map (λp=>(⟨p.1.toArray⟩:aj))/\Zx K H ι (fs.map (·.2)) (gs.map (·.2))
def ClsAt(K:Yc)(c:List Nat)(C:Yn):Prop:=PySem.W.nsIn K Y1 ⟨c.toArray⟩=Ya (Ya (.ref C))
noncomputable def lV(K:Yc)(H:Hp)(ι:List Yn):MO->Yn->Prop
 | .lst xs,a=>∃vs,H a=Ya (.lst vs)/\Zx K H ι xs vs|.dct kvs,a=>∃ws,H a=Ya (.dK ws)/\bH K H ι kvs ws|.dj kvs,a=>∃ws,(∃o,H a=Ya (.fQ o (.dK ws)))/\bH K H ι kvs ws|.ins c fs,a=>(∃C dx gs,H a=Ya (.ins C dx gs)/\(ClsAt K c C/\c.head?≠Ya 0)/\gj K H ι fs gs)\/∃C,H a=Ya (p7 a C)/\c.head?=Ya 0/\ClsAt K c.tail C/\fs=[]
structure ao(K:Yc)(H:Hp)(ι:List Yn)(M:Store):Prop where
 len:ι.length=M.length
 nd:ι.Nodup
 obj:∀(n:Nat) o a,M[n]?=Ya o->ι[n]?=Ya a->lV K H ι o a
def Loose(H:Hp)(p:Yn):Prop:=H p=Yk\/(∃vs,H p=Ya (.lst vs))\/(∃ws,H p=Ya (.dK ws))\/∃C dx gs,H p=Ya (.ins C dx gs)
variable{m:MO}
section
variable {K:Yc} {H H':Hp} {ι ι':List Yn} {M:Store} {p:Yn} {o:HO}
theorem Loose.ne{a:Yn}{u:HO}(l:Loose H p)(h:H a=Ya u)(h1:∀vs,u≠ .lst vs)(h2:∀ws,u≠ .dK ws)(h3:∀C dx gs,u≠ .ins C dx gs:=by exactλ_ _ _ z=>nomatch z):a≠p:=by
 rintro rfl;rcases l with l|⟨vs,l⟩|⟨ws,l⟩|⟨C,dx,gs,l⟩
 .rw[h]at l;cases l
 .rw[h]at l;exact h1 vs (Y3 l)
 .rw[h]at l;exact h2 ws (Y3 l)
 .rw[h]at l;exact h3 C dx gs (Y3 l)
theorem Loose.tup(l:Loose H p){a:Yn}{xs:List V}(h:cL K H a xs):cL K (upd H p o) a xs:=by
 rcases h with(h|⟨ob,h⟩)|h
 .exact .inl (.inl (by rw[dg (l.ne h (λ_ z=>nomatch z) (λ_ z=>nomatch z))];exact h))
 .exact .inl (.inr ⟨ob,by rw[dg (l.ne h (λ_ z=>nomatch z) (λ_ z=>nomatch z))];exact h⟩)
 .exact .inr h
theorem Loose.bO(l:Loose H p){a:Yn}{xs:List V}(h:o8 K H a xs):o8 K (upd H p o) a xs:=by
 rcases h with⟨ob,h⟩|h
 .exact .inl ⟨ob,by rw[dg (l.ne h (λ_ z=>nomatch z) (λ_ z=>nomatch z))];exact h⟩
 .exact .inr h
theorem Loose.fQ(l:Loose H p){a:Yn}{ob:aB}{u:HO}(h:H a=Ya (.fQ ob u)):upd H p o a=Ya (.fQ ob u):=by rw[dg (l.ne h (λ_ z=>nomatch z) (λ_ z=>nomatch z))];exact h
theorem Loose.ext(l:Loose H p):Ext K H ι (upd H p o) ι:=⟨λ_ _ h=>l.tup h,λ_ _ h=>l.bO h,λ_ _ h=>h,λ_ _ _ h=>l.fQ h⟩
theorem Loose.Ep(l:Loose H p):Ext K H ι (upd H p o) (ι++[p]):=⟨λ_ _ h=>l.tup h,λ_ _ h=>l.bO h,λn a h=>by rw[Yw (Ye.mp h).1];exact h,λ_ _ _ h=>l.fQ h⟩
theorem lV.mono{a:Yn}(e:Ext K H ι H' ι')(h:lV K H ι m a)(k:H' a=H a):lV K H' ι' m a:=by
 cases m with
 |lst xs=>obtain⟨vs,q,r⟩:=h;exact⟨vs,k.trans q,r.mono e⟩|dct kvs=>obtain⟨ws,q,r1,r2⟩:=h;exact⟨ws,k.trans q,r1,r2.mono e⟩|dj kvs=>obtain⟨ws,⟨o,q⟩,r1,r2⟩:=h;exact⟨ws,⟨o,k.trans q⟩,r1,r2.mono e⟩|ins c fs=>
  rcases h with⟨C,dx,gs,q,c,r1,r2⟩|⟨C,q,r⟩
  .exact .inl ⟨C,dx,gs,k.trans q,c,r1,r2.mono e⟩
  .exact .inr ⟨C,k.trans q,r⟩
theorem lV.ne{a:Yn}(h:lV K H ι m a):H a≠Yk:=by
 cases m with
 |lst xs=>obtain⟨vs,q,r⟩:=h;rw[q];simp|dct kvs=>obtain⟨ws,q,r⟩:=h;rw[q];simp|dj kvs=>obtain⟨ws,⟨o,q⟩,r⟩:=h;rw[q];simp|ins c fs=>rcases h with⟨C,dx,gs,q,r⟩|⟨C,q,r⟩<;>(rw[q];simp)
theorem ao.at(S:ao K H ι M)(h:M[n]?=Ya m):∃a,ι[n]?=Ya a/\lV K H ι m a:=by
 have hn:n<ι.length:=by rw[S.len];exact(Ye.mp h).1
 exact⟨ι[n],by simp[hn],S.obj n m _ h (by simp[hn])⟩
theorem ao.there(S:ao K H ι M){a:Yn}(h:ι[n]?=Ya a):∃m,M[n]?=Ya m/\lV K H ι m a:=by
 have hn:n<M.length:=by rw[←S.len];exact(Ye.mp h).1
 exact⟨M[n],by simp[hn],S.obj n _ _ (by simp[hn]) h⟩
theorem ao.fresh(S:ao K H ι M)(hp:H p=Yk):p∉ι:=λh=>by obtain⟨n,hn⟩:=Q9 h;obtain⟨m,_,q⟩:=S.there hn;exact q.ne hp
theorem ao.other(S:ao K H ι M)(l:Loose H p)(hp:p∉ι):ao K (upd H p o) ι M:=⟨S.len,S.nd,λn m a h1 h2=>(S.obj n m a h1 h2).mono l.ext (by rw[dg];rintro rfl;exact hp (sV h2))⟩
theorem ao.new(S:ao K H ι M)(hp:H p=Yk)(h:lV K (upd H p o) (ι++[p]) m p):ao K (upd H p o) (ι++[p]) (M++[m]):=by
 have hf:=S.fresh hp;refine⟨by simp[S.len],?_,λn m' a h1 h2=>?_⟩
 .exact List.nodup_append.mpr ⟨S.nd,by simp,λx hx y hy=>by
   have e:y=p:=by simpa using hy
   subst e;rintro rfl;exact hf hx⟩
 .by_cases hn:n<ι.length
  .rw[Yw hn]at h2;rw[Yw (by rw[←S.len];exact hn)]at h1;refine(S.obj n m' a h1 h2).mono (Loose.Ep (.inl hp)) ?_;rw[dg];rintro rfl;exact hf (sV h2)
  .rw[xH (pP hn)]at h2;rw[xH (by rw[←S.len];exact pP hn)]at h1;have hlt:n-ι.length<1:=by
    have:=(Ye.mp h2).1;simpa using this
   have e0:n-ι.length=0:=iw (lA 1 234922001 T1 hlt) (eN _);rw[e0]at h2;rw[←S.len,e0]at h1;simp at h1 h2;subst h1 h2;exact h
theorem ao.put(S:ao K H ι M)(l0:Loose H p)(hn:ι[n]?=Ya p)(h:lV K (upd H p o) ι m p):ao K (upd H p o) ι (M.set n m):=by
 obtain⟨m0,hm0,q0⟩:=S.there hn;refine⟨by simp[S.len],S.nd,λk m' a h1 h2=>?_⟩;by_cases hk:k=n
 .subst hk;rw[hn]at h2;cases h2;have hlt:k<M.length:=(Ye.mp hm0).1;rw[Yx hlt]at h1;cases h1;exact h
 .rw[Yf (bK hk)]at h1;refine(S.obj k m' a h1 h2).mono (Loose.ext l0) ?_;rw[dg];rintro rfl;have hlt1:=(Ye.mp h2);have hlt2:=(Ye.mp hn);exact hk ((Yk3 S.nd).mp (hlt1.2.trans hlt2.2.symm))
theorem ao.lst(S:ao K H ι M)(hp:H p=Yk){xs:List D}{vs:List V}(r:Zx K H ι xs vs):Ext K H ι (upd H p (.lst vs)) (ι++[p])/\ao K (upd H p (.lst vs)) (ι++[p]) (M++[.lst xs])/\Rep K (upd H p (.lst vs)) (ι++[p]) (.ref M.length) (.ref p):=by have e:Ext K H ι (upd H p (.lst vs)) (ι++[p]):=Loose.Ep (.inl hp);refine⟨e,S.new hp ⟨vs,nJ,r.mono e⟩,Rep.ref ?_⟩;rw[←S.len];simp
theorem ao.uK(S:ao K H ι M)(hp:H p=Yk)(r:Zx K H ι xs vs):Ext K H ι (upd H p (.tup vs)) ι/\ao K (upd H p (.tup vs)) ι M/\Rep K (upd H p (.tup vs)) ι (.tup xs) (.ref p):=by have e:Ext K H ι (upd H p (.tup vs)) ι:=Loose.ext (.inl hp);exact⟨e,S.other (.inl hp) (S.fresh hp),Rep.tup (cL.of nJ) (r.mono e)⟩
theorem ao.zJ(S:ao K H ι M)(l0:Loose H p)(hn:ι[n]?=Ya p)(r:Zx K H ι xs vs):Ext K H ι (upd H p (.lst vs)) ι/\ao K (upd H p (.lst vs)) ι (M.set n (.lst xs)):=by have e:Ext K H ι (upd H p (.lst vs)) ι:=Loose.ext l0;exact⟨e,S.put l0 hn ⟨vs,nJ,r.mono e⟩⟩
end
def bj(K:Yc)(H:Hp)(ι:List Yn)(env:Zt)(σ:St):Prop:=env.length=σ.length/\∀(i:Nat) d,env[i]?=Ya (Ya d)->∃v,σ[i]?=Ya (Ya v)/\Rep K H ι d v
variable{ι:List Yn}{σ:St}
theorem bj.mono{H':Hp}{ι':List Yn}(r:bj K H ι env σ)(e:Ext K H ι H' ι'):bj K H' ι' env σ:=⟨r.1,λi d h=>let⟨v,q,z⟩:=r.2 i d h;⟨v,q,z.mono e⟩⟩
theorem bj.set{v:V}(r:bj K H ι env σ)(i:Nat)(h:Rep K H ι d v):bj K H ι (env.set i (Ya d)) (σ.set i (Ya v)):=by
 refine⟨by simp[r.1],λj e hj=>?_⟩;by_cases hij:j=i
 .subst hij;have hlt:j<env.length:=by
   have:=(Ye.mp hj).1;simpa using this
  rw[Yx hlt]at hj;cases hj;exact⟨v,by rw[Yx (by rw[←r.1];exact hlt)],h⟩
 .rw[Yf (bK hij)]at hj;obtain⟨w,q,z⟩:=r.2 j e hj;exact⟨w,by rw[Yf (bK hij)];exact q,z⟩
def Zy(K:Yc)(H:Hp)(ι:List Yn)(Q:VK)(r:R3 D):Prop:=match r with
 | .ok d M'=>∀v H' ι',Ext K H ι H' ι'->ao K H' ι' M'->Rep K H' ι' d v->Q v H'|_=>False
inductive TOf(K:Yc)(f:E3)(σ:St)(H:Hp)(Q:VK):Prop where
 |mk (ι:List Yn) (M:Store) (env:Zt) (S:ao K H ι M) (E:bj K H ι env σ) (h:Zy K H ι Q (f env M)):TOf K f σ H Q
def nW(K:Yc)(f:E3):TE:=λσ H Q=>TOf K f σ H Q
def p8(K:Yc)(H:Hp)(ι:List Yn)(Q:Bool->Hp->Prop)(r:R3 D):Prop:=match r with
 | .ok (.bl b) M'=>∀H' ι',Ext K H ι H' ι'->ao K H' ι' M'->Q b H'|_=>False
inductive TTf(K:Yc)(f:E3)(σ:St)(H:Hp)(Q:Bool->Hp->Prop):Prop where
 |mk (ι:List Yn) (M:Store) (env:Zt) (S:ao K H ι M) (E:bj K H ι env σ) (h:p8 K H ι Q (f env M)):TTf K f σ H Q
def tTf(K:Yc)(f:E3):TT:=λσ H Q=>TTf K f σ H Q
def BX(K:Yc)(H:Hp)(ι:List Yn)(Q:List V->Hp->Prop)(r:R3 (List D)):Prop:=match r with
 | .ok ds M'=>∀vs H' ι',Ext K H ι H' ι'->ao K H' ι' M'->Zx K H' ι' ds vs->Q vs H'|_=>False
inductive TAf(K:Yc)(f:cF)(σ:St)(H:Hp)(Q:List V->Hp->Prop):Prop where
 |mk (ι:List Yn) (M:Store) (env:Zt) (S:ao K H ι M) (E:bj K H ι env σ) (h:BX K H ι Q (f env M)):TAf K f σ H Q
def Ui(K:Yc)(f:cF):TA:=λσ H Q=>TAf K f σ H Q
def GX(K:Yc)(H:Hp)(ι:List Yn)(Q:Option Int->Hp->Prop)(r:R3 (Option Int)):Prop:=match r with
 | .ok o M'=>∀H' ι',Ext K H ι H' ι'->ao K H' ι' M'->Q o H'|_=>False
def tOo(K:Yc)(f:Bm):TO:=λσ H Q=>∃ι M env,ao K H ι M/\bj K H ι env σ/\GX K H ι Q (f env M)
def jX(K:Yc)(H:Hp)(ι:List Yn)(E:Ends)(r:O3):Prop:=match r with
 | .nx env' M'=>∀σ' H' ι',Ext K H ι H' ι'->ao K H' ι' M'->bj K H' ι' env' σ'->E.nx σ' H'|.bk env' M'=>∀σ' H' ι',Ext K H ι H' ι'->ao K H' ι' M'->bj K H' ι' env' σ'->E.bk σ' H'|.ct env' M'=>∀σ' H' ι',Ext K H ι H' ι'->ao K H' ι' M'->bj K H' ι' env' σ'->E.ct σ' H'|.rt d M'=>∀v H' ι',Ext K H ι H' ι'->ao K H' ι' M'->Rep K H' ι' d v->E.rt v H'
 |_=>False
inductive TSf(K:Yc)(f:S3)(D:Ends)(σ:St)(H:Hp):Prop where
 |mk (ι:List Yn) (M:Store) (env:Zt) (S:ao K H ι M) (E:bj K H ι env σ) (h:jX K H ι D (f env M)):TSf K f D σ H
def tSf(K:Yc)(f:S3):TS:=λE σ H=>TSf K f E σ H
def C3(X:Cx)(e:Expr)(f:E3):Prop:=PE X e (nW X.K f)
def CT(X:Cx)(e:Expr)(f:E3):Prop:=PT X e (tTf X.K f)
def CA(X:Cx)(es:List Expr)(f:cF):Prop:=PA X es (Ui X.K f)
def CO(X:Cx)(e:Option Expr)(f:Bm):Prop:=PO X e (tOo X.K f)
def CS(X:Cx)(st:Ydm)(f:S3):Prop:=PS X st (tSf X.K f)
def lW(X:Cx)(st:List Ydm)(f:S3):Prop:=jz X st (tSf X.K f)
variable{X:Cx}{e:Expr}
theorem _root_.L2.PE.imp{t t':TE}(h:PE X e t)(i:∀σ H Q,t' σ H Q->t σ H Q):PE X e t':=λpins s σ H Q I q=>h pins s σ H Q I (i σ H Q q)
theorem _root_.L2.PT.imp{t t':TT}(h:PT X e t)(i:∀σ H Q,t' σ H Q->t σ H Q):PT X e t':=λpins s σ H Q I q=>h pins s σ H Q I (i σ H Q q)
theorem _root_.L2.PA.imp{e:List Expr}{t t':TA}(h:PA X e t)(i:∀σ H Q,t' σ H Q->t σ H Q):PA X e t':=λpos pins s σ H Q I q=>h pos pins s σ H Q I (i σ H Q q)
theorem _root_.L2.PO.imp{e:Option Expr}{t t':TO}(h:PO X e t)(i:∀σ H Q,t' σ H Q->t σ H Q):PO X e t':=λpins s σ H Q I q=>h pins s σ H Q I (i σ H Q q)
theorem _root_.L2.PS.imp{e:Ydm}{t t':TS}(h:PS X e t)(i:∀D σ H,t' D σ H->t D σ H):PS X e t':=λpins s σ H D I q=>h pins s σ H D I (i D σ H q)
theorem _root_.L2.jz.imp{e:List Ydm}{t t':TS}(h:jz X e t)(i:∀D σ H,t' D σ H->t D σ H):jz X e t':=λpins s σ H D I q=>h pins s σ H D I (i D σ H q)
theorem _root_.L2.aV.imp{f:Yd->Yd->lu Yd}{r r':R2}(h:aV X f r)(i:∀x y H Q,r' x y H Q->r x y H Q):aV X f r':=λpins s σ H x y v u Q I rx ry q=>h pins s σ H x y v u Q I rx ry (i x y H Q q)
theorem _root_.L2.tQ.imp{f:Yd->lu Yd}{r r':V->Hp->VK->Prop}(h:tQ X f r)(i:∀x H Q,r' x H Q->r x H Q):tQ X f r':=λpins s σ H x v Q I rx q=>h pins s σ H x v Q I rx (i x H Q q)
theorem _root_.L2.bD.imp{f:Yd}{r r':List V->Hp->VK->Prop}(h:bD X f r)(i:∀x H Q,r' x H Q->r x H Q):bD X f r':=λpins s σ H xs us Q I rx q=>h pins s σ H xs us Q I rx (i xs H Q q)
theorem _root_.L2.lO.imp{r r':R2}(h:lO X r)(i:∀x y H Q,r' x y H Q->r x y H Q):lO X r':=λvalue slice pins s σ H x y v u Q I rx ry q hs=>h value slice pins s σ H x y v u Q I rx ry (i x y H Q q) hs
theorem _root_.L2.jA.imp{r r':V->Option Int->Option Int->Hp->VK->Prop}(h:jA X r)(i:∀x lo hi H Q,r' x lo hi H Q->r x lo hi H Q):jA X r':=λpins s σ H x v vl vu lo hi sl Q I rx hs pl pu q=>h pins s σ H x v vl vu lo hi sl Q I rx hs pl pu (i x lo hi H Q q)
section
variable {K:Yc} {H H1:Hp} {ι ι1:List Yn}
theorem Zy.up{Q:VK}{r:R3 D}(e:Ext K H ι H1 ι1)(h:Zy K H ι Q r):Zy K H1 ι1 Q r:=by
 cases r with
 |ok d M=>exactλv H' ι' e' S r=>h v H' ι' (e.trans e') S r|exc x M=>exact h|bad=>exact h
theorem p8.up{Q:Bool->Hp->Prop}{r:R3 D}(e:Ext K H ι H1 ι1)(h:p8 K H ι Q r):p8 K H1 ι1 Q r:=by
 cases r with
 |ok d M=>cases d<;>first|exact h|exactλH' ι' e' S=>h H' ι' (e.trans e') S
 |exc x M=>exact h|bad=>exact h
theorem jX.up{Q:Ends}{r:O3}(e:Ext K H ι H1 ι1)(h:jX K H ι Q r):jX K H1 ι1 Q r:=by
 cases r with
 |nx d M=>exactλv H' ι' e' S r=>h v H' ι' (e.trans e') S r|bk d M=>exactλv H' ι' e' S r=>h v H' ι' (e.trans e') S r|ct d M=>exactλv H' ι' e' S r=>h v H' ι' (e.trans e') S r|rt d M=>exactλv H' ι' e' S r=>h v H' ι' (e.trans e') S r
 |exc x M=>exact h|bad=>exact h
theorem Zy.ok{Q:VK}{v:V}(h:Zy K H ι Q (.ok d M))(S:ao K H ι M)(r:Rep K H ι d v):Q v H:=h v H ι Ext.refl S r
theorem Zy.bind{Q:VK}{r:R3 α}{k:α->Store->R3 D}(h:Zy K H ι Q (r.bind k)):∃a M,r= .ok a M/\Zy K H ι Q (k a M):=by
 cases r with
 |ok a M=>exact⟨a,M,rfl,h⟩|exc x M=>exact h.elim|bad=>exact h.elim
theorem BX.bind{Q:List V->Hp->Prop}{r:R3 α}{k:α->Store->R3 (List D)}(h:BX K H ι Q (r.bind k)):∃a M,r= .ok a M/\BX K H ι Q (k a M):=by
 cases r with
 |ok a M=>exact⟨a,M,rfl,h⟩|exc x M=>exact h.elim|bad=>exact h.elim
theorem GX.bind{Q:Option Int->Hp->Prop}{r:R3 α}{k:α->Store->R3 (Option Int)}(h:GX K H ι Q (r.bind k)):∃a M,r= .ok a M/\GX K H ι Q (k a M):=by
 cases r with
 |ok a M=>exact⟨a,M,rfl,h⟩|exc x M=>exact h.elim|bad=>exact h.elim
theorem p8.bind{Q:Bool->Hp->Prop}{r:R3 α}{k:α->Store->R3 D}(h:p8 K H ι Q (r.bind k)):∃a M,r= .ok a M/\p8 K H ι Q (k a M):=by
 cases r with
 |ok a M=>exact⟨a,M,rfl,h⟩|exc x M=>exact h.elim|bad=>exact h.elim
end
inductive R2I(K:Yc)(op:D->D->Store->R3 D)(x y:V)(H:Hp)(Q:VK):Prop where
 |mk (ι:List Yn) (M:Store) (a b:D) (S:ao K H ι M) (ra:Rep K H ι a x) (rb:Rep K H ι b y) (h:Zy K H ι Q (op a b M)):R2I K op x y H Q
def r2(K:Yc)(op:D->D->Store->R3 D):R2:=λx y H Q=>R2I K op x y H Q
noncomputable def r1(K:Yc)(op:D->Store->R3 D):V->Hp->VK->Prop:=λx H Q=>∃ι M a,ao K H ι M/\Rep K H ι a x/\Zy K H ι Q (op a M)
inductive RBI(K:Yc)(b:List D->Store->R3 D)(xs:List V)(H:Hp)(Q:VK):Prop where
 |mk (ι:List Yn) (M:Store) (ds:List D) (S:ao K H ι M) (r:Zx K H ι ds xs) (h:Zy K H ι Q (b ds M)):RBI K b xs H Q
noncomputable def rB(K:Yc)(b:List D->Store->R3 D):List V->Hp->VK->Prop:=λxs H Q=>RBI K b xs H Q
noncomputable def rM(K:Yc)(m:D->List D->Store->R3 D):V->List V->Hp->VK->Prop:=λx xs H Q=>∃ι M a ds,ao K H ι M/\Rep K H ι a x/\Zx K H ι ds xs/\Zy K H ι Q (m a ds M)
noncomputable def rS(K:Yc):V->Option Int->Option Int->Hp->VK->Prop:=λx lo hi H Q=>∃ι M a,ao K H ι M/\Rep K H ι a x/\Zy K H ι Q (Bo a lo hi M)
theorem Mf{op:D->D->Store->R3 D}(σ:St)(H:Hp)(Q:VK)(h:nW K (e2 op f g) σ H Q):Gg (r2 K op) (nW K f) (nW K g) σ H Q:=by obtain⟨ι,M,env,S,E,h⟩:=h;obtain⟨a,M1,e1,h⟩:=Zy.bind h;obtain⟨b,M2,e2,h⟩:=Zy.bind h;refine⟨ι,M,env,S,E,?_⟩;rw[e1];intro v H1 ι1 x1 S1 r1;refine⟨ι1,M1,env,S1,E.mono x1,?_⟩;rw[e2];intro u H2 ι2 x2 S2 r2;exact⟨ι2,M2,a,b,S2,r1.mono x2,r2,(h.up x1).up x2⟩
theorem Zvy{op:D->Store->R3 D}(σ:St)(H:Hp)(Q:VK)(h:nW K (e1 op f) σ H Q):tUn (r1 K op) (nW K f) σ H Q:=by obtain⟨ι,M,env,S,E,h⟩:=h;obtain⟨a,M1,e1,h⟩:=Zy.bind h;refine⟨ι,M,env,S,E,?_⟩;rw[e1];intro v H1 ι1 x1 S1 r1;exact⟨ι1,M1,a,S1,r1,h.up x1⟩
section
variable {X:Cx} {a b c e o:Expr} {es:List Expr} {pos p:aP} {f g h:E3} {gl:cF}
theorem Zd(i:Nat){x:aj}(hN:X.N[i]?=Ya x:=by rfl)(hv:Gd X.env.scope x:=by first|exact Or.inl rfl|exact Or.inr (Or.inl rfl)|exact Or.inr (Or.inr rfl))(hd:(x==("__debug__":aj))=false:=by decide)(hcd:(x==("__classdict__":aj))=false:=by decide):C3 X (.Name x pos) (Zb i):=(Zp5 hN hv hd hcd).imp λσ H Q ak=>by
 obtain⟨ι,M,env,S,E,h⟩:=ak;unfold Zb at h;cases q:env[i]? with
 |none=>rw[q]at h;exact h.elim|some od=>
  cases od with
  |none=>rw[q]at h;exact h.elim|some d=>rw[q]at h;obtain⟨v,e1,r⟩:=E.2 i d q;exact⟨v,e1,Zy.ok h S r⟩
theorem Zf{i j}:C3 X (.Constant (.int i) j pos) (eC (.int i)):=ZvM.imp λσ H Q ⟨ι,M,env,S,E,h⟩=>Zy.ok h S Rep.int
theorem Uj{i j}:C3 X (.Constant (.bool i) j pos) (eC (.bl i)):=Zxk.imp λσ H Q ⟨ι,M,env,S,E,h⟩=>Zy.ok h S Rep.bl
theorem Mg{j}:C3 X (.Constant .none j pos) (eC .non):=Zvi.imp λσ H Q ⟨ι,M,env,S,E,h⟩=>Zy.ok h S Rep.non
theorem cH{x:aj}{cs:List Nat}{j}(hx:x=⟨cs.toArray⟩:=by decide +kernel):C3 X (.Constant (.str x) j pos) (eC (.str cs)):=Zu1.imp λσ H Q ak=>by obtain⟨ι,M,env,S,E,h⟩:=ak;subst hx;exact Zy.ok h S Rep.str
theorem Zv{op:Operator}{q:D->D->Store->R3 D}(ho:aV X (i_ op) (r2 X.K q))(ha:C3 X a f)(hb:C3 X b g):C3 X (.BinOp a op b pos) (e2 q f g):=(Zwf ho ha hb).imp Mf
theorem ug{op:UnaryOp}{q:D->Store->R3 D}(ho:tQ X (JG op) (r1 X.K q))(ha:C3 X a f):C3 X (.UnaryOp op a pos) (e1 q f):=(ZxD ho ha).imp Zvy
theorem GZ{op:CmpOp}{q:D->D->Store->R3 D}(ho:aV X (iZ op) (r2 X.K q))(ha:C3 X a f)(hb:C3 X b g)(hm:Jw op b=false:=by rfl):C3 X (.Compare a [op] [b] pos) (e2 q f g):=(ZsO ho ha hb hm).imp Mf
theorem Zjz{Q:Bool->Hp->Prop}{r:R3 D}(h:p8 K H ι Q r):Zy K H ι (λx H'=>∃k,x= .bl k/\Q k H') r:=by
 cases r with
 |ok d M=>
  cases d with
  |bl b=>exactλv H' ι' e S r=>⟨b,r.iY,h H' ι' e S⟩|_=>exact h.elim
 |exc x M=>exact h.elim|bad=>exact h.elim
theorem yE(h:C3 X e f)(he:∀whole,isTrue e X.env whole=(do let v ←whole;xx e.pos;nu [v] (truthy v)):=by intro _;rfl):CT X e f:=(Sw h he).imp λσ H Q ⟨ι,M,env,S,E,h⟩=>⟨ι,M,env,S,E,Zjz h⟩
theorem b_{op:CmpOp}{q:D->D->Store->R3 D}(ho:aV X (iZ op) (r2 X.K q))(ha:C3 X a f)(hb:C3 X b g)(hm:Jw op b=false:=by rfl):CT X (.Compare a [op] [b] pos) (e2 q f g):=(Zsb ho ha hb hm).imp λσ H Q ⟨ι,M,env,S,E,h⟩=>Mf σ H _ ⟨ι,M,env,S,E,Zjz h⟩
end
variable{q:List D->Store->R3 D}
section
variable {X:Cx} {a b c e o:Expr} {es rest:List Expr} {pos p:aP} {f g h:E3} {gl:cF}
theorem ZwT{op}(h:C3 X a f):C3 X (.BoolOp op [a] pos) f:=ZuI h
theorem ZxE(ha:C3 X a f)(hb:C3 X (.BoolOp .And (b::rest) pos) g):C3 X (.BoolOp .And (a::b::rest) pos) (ji f g):=(ZtW ha hb).imp λσ H Q ak=>by
 obtain⟨ι,M,env,S,E,h⟩:=ak;obtain⟨d,M1,e1,h⟩:=Zy.bind h;refine⟨ι,M,env,S,E,?_⟩;rw[e1];intro v H1 ι1 x1 S1 r1;cases d with
 |bl k=>
  refine⟨k,r1.iY,?_⟩;cases k with
  |true=>rw[if_pos rfl];exact⟨ι1,M1,env,S1,E.mono x1,h.up x1⟩|false=>rw[if_neg (by decide)];exact Zy.ok (h.up x1) S1 Rep.bl
 |_=>exact h.elim
def CW(X:Cx)(e:Expr)(f:E3):Prop:=PW X e (tTf X.K f)
theorem CW.ct(h:CW X e f):CT X e f:=PW.pt h
theorem PW.imp{t t':TT}(h:PW X e t)(i:∀σ H Q,t' σ H Q->t σ H Q):PW X e t':=λwh pins s σ H Q I q=>h wh pins s σ H Q I (i σ H Q q)
theorem G4(ha:CT X a f):CW X (.BoolOp .And [a] pos) f:=Zsv ha
theorem Uk(ha:CT X a f):CW X (.BoolOp .Or [a] pos) f:=ZuZ ha
theorem G5(ha:CT X a f)(hb:CW X (.BoolOp .And (b::rest) pos) g):CW X (.BoolOp .And (a::b::rest) pos) (ji f g):=PW.imp (ZuX ha hb) λσ H Q ak=>by
 obtain⟨ι,M,env,S,E,h⟩:=ak;obtain⟨d,M1,e1,h⟩:=p8.bind h;refine⟨ι,M,env,S,E,?_⟩;rw[e1];cases d with
 |bl k=>
  intro H1 ι1 x1 S1;cases k with
  |true=>rw[if_pos rfl];exact⟨ι1,M1,env,S1,E.mono x1,h.up x1⟩|false=>rw[if_neg (by decide)];exact h H1 ι1 x1 S1
 |_=>exact h.elim
theorem Mh(ha:CT X a f)(hb:CW X (.BoolOp .Or (b::rest) pos) g):CW X (.BoolOp .Or (a::b::rest) pos) (oX f g):=PW.imp (Zxl ha hb) λσ H Q ak=>by
 obtain⟨ι,M,env,S,E,h⟩:=ak;obtain⟨d,M1,e1,h⟩:=p8.bind h;refine⟨ι,M,env,S,E,?_⟩;rw[e1];cases d with
 |bl k=>
  intro H1 ι1 x1 S1;cases k with
  |false=>rw[if_neg (by decide)];exact⟨ι1,M1,env,S1,E.mono x1,h.up x1⟩|true=>rw[if_pos rfl];exact h H1 ι1 x1 S1
 |_=>exact h.elim
theorem Mi(ha:CT X a f):CT X (.UnaryOp .Not a pos) (e1 vH f):=(Zup ha).imp λσ H Q ak=>by
 obtain⟨ι,M,env,S,E,h⟩:=ak;obtain⟨d,M1,e1,h⟩:=p8.bind h;refine⟨ι,M,env,S,E,?_⟩;rw[e1];cases d with
 |bl k=>exactλH1 ι1 x1 S1=>h H1 ι1 x1 S1|_=>exact h.elim
theorem Zxc(hc:CT X c f)(ha:C3 X a g)(hb:C3 X b h):C3 X (.IfExp c a b pos) (yd f g h):=(Zqc hc ha hb).imp λσ H Q ak=>by
 obtain⟨ι,M,env,S,E,h⟩:=ak;obtain⟨d,M1,e1,h⟩:=Zy.bind h;refine⟨ι,M,env,S,E,?_⟩;rw[e1];cases d with
 |bl k=>
  intro H1 ι1 x1 S1;cases k with
  |true=>rw[if_pos rfl];exact⟨ι1,M1,env,S1,E.mono x1,h.up x1⟩|false=>rw[if_neg (by decide)];exact⟨ι1,M1,env,S1,E.mono x1,h.up x1⟩
 |_=>exact h.elim
theorem Zh:CA X [] Ze:=K8.imp λσ H Q ⟨ι,M,env,S,E,h⟩=>h [] H ι Ext.refl S Zx.nil
theorem Zc(ha:C3 X e f)(hr:CA X es gl)(hs:Yt (e::es) X.env=(false,aH e X.env)::Yt es X.env:=by rfl):CA X (e::es) (Za f gl):=(Be ha hr hs).imp λσ H Q ak=>by obtain⟨ι,M,env,S,E,h⟩:=ak;obtain⟨d,M1,e1,h⟩:=BX.bind h;obtain⟨ds,M2,e2,h⟩:=BX.bind h;refine⟨ι,M,env,S,E,?_⟩;rw[e1];intro v H1 ι1 x1 S1 r1;refine⟨ι1,M1,env,S1,E.mono x1,?_⟩;rw[e2];intro vs H2 ι2 x2 S2 r2;exact h (v::vs) H2 ι2 (x1.trans x2) S2 (Zx.cons (r1.mono x2) r2)
theorem iB{x1}(h:CA X es gl):C3 X (.Tuple es x1 pos) (cu gl):=(Zum h).imp λσ H Q ak=>by
 obtain⟨ι,M,env,S,E,h⟩:=ak;obtain⟨ds,M1,e1,h⟩:=Zy.bind h;refine⟨ι,M,env,S,E,?_⟩;rw[e1];intro vs H1 ι1 x1 S1 r1;by_cases hz:ds.length<=SZ
 .rw[if_pos hz]at h;refine⟨by rw[r1.length];exact Yu hz lU,λp hp=>?_⟩;obtain⟨x2,S2,r2⟩:=S1.uK hp r1;exact h _ _ _ (x1.trans x2) S2 r2
 .rw[if_neg hz]at h;exact h.elim
theorem iC(h:CA X es gl):C3 X (.List es pos) (bV gl):=(ZvK h).imp λσ H Q ak=>by
 obtain⟨ι,M,env,S,E,h⟩:=ak;obtain⟨ds,M1,e1,h⟩:=Zy.bind h;refine⟨ι,M,env,S,E,?_⟩;rw[e1];intro vs H1 ι1 x1 S1 r1;by_cases hz:ds.length<=SZ
 .rw[if_pos hz]at h;refine⟨by rw[r1.length];exact Yu hz lU,λp hp=>?_⟩;obtain⟨x2,S2,r2⟩:=S1.lst hp r1;exact h _ _ _ (x1.trans x2) S2 r2
 .rw[if_neg hz]at h;exact h.elim
theorem ZqH(σ:St)(H:Hp)(Q:VK)(h:nW K (aO q gl) σ H Q):Tc (rB K q) (Ui K gl) σ H Q:=by obtain⟨ι,M,env,S,E,h⟩:=h;obtain⟨ds,M1,e1,h⟩:=Zy.bind h;refine⟨ι,M,env,S,E,?_⟩;rw[e1];intro vs H1 ι1 x1 S1 r1;exact⟨ι1,M1,ds,S1,r1,h.up x1⟩
theorem jq{x:aj}{id:String}(hc:bD X (.builtin id) (rB X.K q))(hm:X.mg x=Yk)(hv:jl x=Ya (.builtin id))(ha:CA X (e::es) gl)(hg:Gl X x:=by rfl)(hn:x≠ "__name__":=by decide)(hdb:(x==("__debug__":aj))=false:=by decide)(he:Yt (e::es) X.env=(false,aH e X.env)::Yt es X.env:=by rfl)(hpl:(eF pos (Yt es X.env)).any (·.1)=false:=by rfl):C3 X (.Call (.Name x p) (e::es) [] pos) (aO q gl):=(Td hc hg hm hv ha hn hdb he hpl).imp ZqH
theorem p_{x:aj}{T:String}(hc:bD X (.type T) (rB X.K q))(hm:X.mg x=Yk)(hv:jl x=Ya (.type T))(ha:CA X (e::es) gl)(hg:Gl X x:=by rfl)(hn:x≠ "__name__":=by decide)(hdb:(x==("__debug__":aj))=false:=by decide)(he:Yt (e::es) X.env=(false,aH e X.env)::Yt es X.env:=by rfl)(hpl:(eF pos (Yt es X.env)).any (·.1)=false:=by rfl):C3 X (.Call (.Name x p) (e::es) [] pos) (aO q gl):=(ZoZ hc hg hm hv ha hn hdb he hpl).imp ZqH
theorem Zz(hr:lO X (r2 X.K Zk))(ha:C3 X a f)(hb:C3 X b g)(hs:ZnL b:=by exactλ_ _=>rfl):C3 X (.Subscript a b pos) (e2 Zk f g):=(Zw1 hr ha hb hs).imp Mf
theorem Ul:CO X Yk yh:=Zsd.imp λσ H Q ⟨ι,M,env,S,E,h⟩=>h H ι Ext.refl S
theorem Mj(h:C3 X e f):CO X (Ya e) (vJ f):=(Zss h).imp λσ H Q ak=>by
 obtain⟨ι,M,env,S,E,h⟩:=ak;obtain⟨d,M1,e1,h⟩:=GX.bind h;refine⟨ι,M,env,S,E,?_⟩;rw[e1];intro v H1 ι1 x1 S1 r1;cases d with
 |int i=>exact⟨i,r1.int_inv,h H1 ι1 x1 S1⟩|_=>exact h.elim
theorem Um{lo hi:Option Expr}{ol oh:Bm}{p2:aP}(hr:jA X (rS X.K))(he:C3 X e f)(hl:CO X lo ol)(hu:CO X hi oh):C3 X (.Subscript e (.Slice lo hi Yk p2) pos) (yj f ol oh):=(Zqp hr he hl hu).imp λσ H Q ak=>by obtain⟨ι,M,env,S,E,h⟩:=ak;obtain⟨d,M1,e1,h⟩:=Zy.bind h;obtain⟨l,M2,e2,h⟩:=Zy.bind h;obtain⟨u,M3,e3,h⟩:=Zy.bind h;refine⟨ι,M,env,S,E,?_⟩;rw[e1];intro v H1 ι1 x1 S1 r1;refine⟨ι1,M1,env,S1,E.mono x1,?_⟩;rw[e2];intro H2 ι2 x2 S2;refine⟨ι2,M2,env,S2,(E.mono x1).mono x2,?_⟩;rw[e3];intro H3 ι3 x3 S3;exact⟨ι3,M3,d,S3,(r1.mono x2).mono x3,((h.up x1).up x2).up x3⟩
theorem kE:lW X [] gR:=ZrW.imp λD σ H ⟨ι,M,env,S,E,h⟩=>h σ H ι Ext.refl S E
theorem Zq{st:Ydm}(h:CS X st u):lW X [st] u:=Znr h
theorem Zn{st:Ydm}{sts:List Ydm}{w:S3}(h1:CS X st u)(h2:lW X sts w):lW X (st::sts) (Zu u w):=(Zk7 h1 h2).imp λD σ H ak=>by
 obtain⟨ι,M,env,S,E,h⟩:=ak;refine⟨ι,M,env,S,E,?_⟩;have h':jX X.K H ι D (match u env M with| .nx env' M'=>w env' M'|o=>o):=h;cases q:u env M with
 |nx env' M'=>rw[q]at h';exactλσ' H' ι' x S' E'=>⟨ι',M',env',S',E',h'.up x⟩|_=>rw[q]at h';exact h'
theorem fL{c1:Expr}{x y:List Ydm}{w:S3}(hc:CT X c1 f)(ha:lW X x u)(hb:lW X y w):CS X (.If c1 x y pos) (aQ f u w):=(Sy hc ha hb).imp λD σ H ak=>by
 obtain⟨ι,M,env,S,E,h⟩:=ak;refine⟨ι,M,env,S,E,?_⟩;unfold aQ at h;cases q:f env M with
 | ok d M1=>
  rw[q]at h;cases d with
  |bl k=>
   intro H1 ι1 x1 S1;cases k with
   |true=>rw[if_pos rfl];exact⟨ι1,M1,env,S1,E.mono x1,h.up x1⟩|false=>rw[if_neg (by decide)];exact⟨ι1,M1,env,S1,E.mono x1,h.up x1⟩
  |_=>exact h.elim
 |exc x M1=>rw[q]at h;exact h.elim|bad=>rw[q]at h;exact h.elim
theorem gH(h:C3 X e f):CS X (.Return (Ya e) pos) (cU f):=(Zus h).imp λD σ H ak=>by
 obtain⟨ι,M,env,S,E,h⟩:=ak;refine⟨ι,M,env,S,E,?_⟩;unfold cU at h;cases q:f env M with
 |ok d M1=>rw[q]at h;exact h|exc x M1=>rw[q]at h;exact h.elim|bad=>rw[q]at h;exact h.elim
theorem eX(h:C3 X e f)(hs:nq e Yk pos.line X.env=pure false:=by rfl):CS X (.Expr e pos) (Zr f):=(ZnM h hs).imp λD σ H ak=>by
 obtain⟨ι,M,env,S,E,h⟩:=ak;refine⟨ι,M,env,S,E,?_⟩;unfold Zr at h;cases q:f env M with
 |ok d M1=>rw[q]at h;exactλv H1 ι1 x1 S1 r1=>h σ H1 ι1 x1 S1 (E.mono x1)|exc x M1=>rw[q]at h;exact h.elim|bad=>rw[q]at h;exact h.elim
theorem cB(i:Nat){x:aj}{pos':aP}(hN:X.N.Nodup)(he:C3 X e f)(hi:X.N[i]?=Ya x:=by rfl)(hx:Loc X.env.scope x:=by first|exact Or.inl rfl|exact Or.inr rfl)(hs:nq e (Ya (.Name x pos')) pos.line X.env=pure false:=by rfl)(hf:X.fn x=true\/X.env.scope.names.lookup x=Ya .local:=by first|exact .inl rfl|exact .inr rfl):CS X (.Assign [.Name x pos'] e pos) (aJ i f):=(Zrj hN hi hx he hs hf).imp λD σ H ak=>by
 obtain⟨ι,M,env,S,E,h⟩:=ak;refine⟨ι,M,env,S,E,?_⟩;unfold aJ at h;cases q:f env M with
 |ok d M1=>rw[q]at h;exactλv H1 ι1 x1 S1 r1=>h _ H1 ι1 x1 S1 ((E.mono x1).set i r1)|exc x M1=>rw[q]at h;exact h.elim|bad=>rw[q]at h;exact h.elim
end
noncomputable def rC(K:Yc)(n:Nat)(F:F3):Sp:=λvs H Q _=>∃ι M ds,ao K H ι M/\Zx K H ι ds vs/\ds.length=n/\Zy K H ι Q (F ds M)
section
variable {K:Yc} {H H':Hp} {ι ι':List Yn} {M M':Store}
mutual
theorem Rep.below:∀{d:D} {v:V},Rep K H ι d v->L3.below ι.length d=true
 | .non,_,_=>rfl|.bl _,_,_=>rfl|.int _,_,_=>rfl|.str _,_,_=>rfl
 | .tup ds,_,h=>by obtain⟨a,vs,_,_,r⟩:=h.iW;exact Zx.cg (ds:=ds) r|.bO ds,_,h=>by obtain⟨a,vs,_,_,r⟩:=h.uE;exact Zx.cg (ds:=ds) r|.ref n,_,h=>by obtain⟨a,q,_⟩:=h.eU;exact decide_eq_true (Ye.mp q).1
theorem Zx.cg:∀{ds:List D} {vs:List V},Zx K H ι ds vs->L3.cg ι.length ds=true
 |[],_,_=>rfl|d::ds,_,h=>by obtain⟨v,ws,_,r,q⟩:=h.cons_inv;exact u6.mpr ⟨Rep.below (d:=d) r,Zx.cg (ds:=ds) q⟩
end
mutual
theorem Rep.cut{n:Nat}:∀{d:D} {v:V},L3.below n d=true->Rep K H ι d v->Rep K H (ι.take n) d v
 | .non,_,_,h=>h|.bl _,_,_,h=>h|.int _,_,_,h=>h|.str _,_,_,h=>h
 | .tup ds,_,hb,h=>by obtain⟨a,vs,rfl,s,r⟩:=h.iW;exact Rep.tup s (Zx.cut (ds:=ds) hb r)|.bO ds,_,hb,h=>by obtain⟨a,vs,rfl,s,r⟩:=h.uE;exact⟨a,vs,rfl,s,Zx.cut (ds:=ds) hb r⟩|.ref k,_,hb,h=>by obtain⟨a,q,rfl⟩:=h.eU;refine Rep.ref ?_;rw[z7 (of_decide_eq_true hb)];exact q
theorem Zx.cut{n:Nat}:∀{ds:List D} {vs:List V},L3.cg n ds=true->Zx K H ι ds vs->Zx K H (ι.take n) ds vs
 |[],_,_,h=>h|d::ds,_,hb,h=>by obtain⟨v,ws,rfl,r,q⟩:=h.cons_inv;exact have w:=u6.mp (hb:(L3.below n d&&L3.cg n ds)=true);Zx.cons (Rep.cut (d:=d) w.1 r) (Zx.cut (ds:=ds) w.2 q)
end
theorem lV.below{a:Yn}(h:lV K H ι m a):t6 ι.length m=true:=by
 cases m with
 |lst xs=>obtain⟨vs,_,r⟩:=h;exact r.cg|dct kvs=>obtain⟨ws,_,_,r⟩:=h;exact r.cg|dj kvs=>obtain⟨ws,_,_,r⟩:=h;exact r.cg|ins c fs=>
  rcases h with⟨_,_,gs,_,_,_,r⟩|⟨_,_,_,_,rfl⟩
  .exact r.cg
  .rfl
theorem lV.cut{a:Yn}(hb:t6 n m=true)(h:lV K H ι m a):lV K H (ι.take n) m a:=by
 cases m with
 |lst xs=>obtain⟨vs,q,r⟩:=h;exact⟨vs,q,r.cut hb⟩|dct kvs=>obtain⟨ws,q,r1,r2⟩:=h;exact⟨ws,q,r1,r2.cut hb⟩|dj kvs=>obtain⟨ws,q,r1,r2⟩:=h;exact⟨ws,q,r1,r2.cut hb⟩|ins c fs=>
  rcases h with⟨C,dx,gs,q,c,r1,r2⟩|h
  .exact .inl ⟨C,dx,gs,q,c,r1,r2.cut hb⟩
  .exact .inr h
theorem ao.cut(S:ao K H ι M)(h:(M.take n).all (t6 n)=true):ao K H (ι.take n) (M.take n):=by
 refine⟨by simp[S.len],S.nd.sublist (Q_ _ _),λk m a h1 h2=>?_⟩;have hk:k<n:=by have:=(Ye.mp h1).1;rw[Fi]at this;exact Yo this (Nat.min_le_left _ _)
 have hb:t6 n m=true:=pK.mp h m (sV h1);rw[z7 hk]at h1 h2;exact(S.obj k m a h1 h2).cut hb
theorem Uo{Q:VK}{v:V}(S:ao K H ι M)(x:Ext K H ι H' ι')(S':ao K H' ι' M')(r:Rep K H' ι' d v)(h:Zy K H ι Q (tidy M d M')):Q v H':=by
 unfold tidy at h;split at h
 .rename_i c;simp only[Y9,u9,decide_eq_true_eq]at c;have hall:(M'.take M.length).all (t6 M.length)=true:=by
   rcases c.2 with e|e
   .rw[e,pK];intro m hm;obtain⟨n,hn⟩:=Q9 hm;obtain⟨a,q,w⟩:=S.at hn;rw[←S.len];exact w.below
   .exact e
  refine h v H' (ι'.take M.length) ⟨x.tup,x.bO,λn a q=>?_,x.fQ⟩ (S'.cut hall) (r.cut c.1);rw[z7 (by rw[←S.len];exact(Ye.mp q).1)];exact x.pre n a q
 .exact h v H' ι' x S' r
end
theorem bj.start(r:Zx K H ι ds vs)(n:Nat):bj K H ι (ds.map Ya++Yh n Yk) (vs.map Ya++Yh n Yk):=by
 refine⟨by simp[r.length],λi d h=>?_⟩;by_cases hi:i<ds.length
 .rw[Yw (by simpa using hi),nG]at h;cases q:ds[i]? with
  |none=>rw[q]at h;simp at h|some d'=>rw[q]at h;simp at h;subst h;obtain⟨v,e,z⟩:=r.get q;refine⟨v,?_,z⟩;rw[Yw (by simpa[r.length]using hi),nG,e];rfl
 .rw[xH (by simpa using hi),JW]at h;split at h<;>simp at h
variable{ps:List aj}
section
variable {P:aX} {w:aU} {K:Yc} {mg:aj->Option Yd} {base:au}
theorem Uq{x qual:aj}{st:Ydm}{f:Yn}{fd:j7}{N:List aj}{k:Nat}(F:pW K x qual st f fd)(S:dz N ps (Zm st))(hb:∀(cdv:Yd) (A:bB) (outer:List cQ) (s:Yg) (H:Hp) (E:XK),cN k (A.deeper (lH qual (Zm st) s.heap.objs.size f cdv))->lW (nQ j_ P w K mg base N qual (Zm st) f cdv A outer s H E).gC (cj st) body):
  fU P w K mg base j_ (k+1) f fd ps (rC K ps.length (bG ps.length N.length body)):=by
 refine F.ok S (λvs H Q E ⟨ι,M,ds,_,r,l,_⟩=>by rw[r.length,l]) λcdv A outer s H vs Q E hr ak=>?_;obtain⟨ι,M,ds,SR,r,l,h⟩:=ak;refine⟨_,hb cdv A outer s H E hr,ι,M,ds.map Ya++Yh (N.length-ps.length) Yk,SR,?_,?_⟩
 .have e:L2.start N vs=vs.map Ya++Yh (N.length-ps.length) Yk:=by unfold L2.start;rw[r.length,l]
  rw[e];exact bj.start r _
 .unfold bG at h;rw[if_pos l]at h;cases q:body (ds.map Ya++Yh (N.length-ps.length) Yk) M with
  |nx env' M'=>rw[q]at h;exactλσ' H' ι' x S' E'=>Uo SR x S' Rep.non h|rt d M'=>rw[q]at h;exactλv H' ι' x S' r'=>Uo SR x S' r' h|bk _ _=>rw[q]at h;exact h.elim|ct _ _=>rw[q]at h;exact h.elim
  |exc _ _=>rw[q]at h;exact h.elim|bad=>rw[q]at h;exact h.elim
def bA(P:aX)(w:aU)(K:Yc)(mg:aj->Option Yd)(base:au)(k:Nat)(x:aj)(ps:List aj)(F:F3):Prop:=(∀ds M,ds.length≠ps.length->F ds M= .bad)/\∃f fd,mg x=Ya (.ref f)/\pJ K (.ref f)=true/\Binds K fd ps []/\fU P w K mg base j_ k f fd ps (rC K ps.length F)
def cX(K:Yc)(mg:aj->Option Yd)(x:aj)(st:Ydm)(ps:List aj):Prop:=∃f fd,pW K x x st f fd/\mg x=Ya (.ref f)/\Binds K fd ps []
theorem bA.mono{j k:Nat}{x:aj}(h:bA P w K mg base j x ps F)(l:j<=k):bA P w K mg base k x ps F:=let⟨n,f,fd,a,b,c,d⟩:=h;⟨n,f,fd,a,b,c,d.mono l⟩
theorem bA.of{x:aj}{st:Ydm}{N:List aj}{k:Nat}(d:cX K mg x st ps)(S:dz N ps (Zm st))(hb:∀(f:Yn) (cdv:Yd) (A:bB) (outer:List cQ) (s:Yg) (H:Hp) (E:XK),cN k (A.deeper (lH x (Zm st) s.heap.objs.size f cdv))->lW (nQ j_ P w K mg base N x (Zm st) f cdv A outer s H E).gC (cj st) body):
  bA P w K mg base (k+1) x ps (bG ps.length N.length body):=by
 obtain⟨f,fd,F,m,bi⟩:=d;exact⟨λds M h=>if_neg h,f,fd,m,F.kp,bi,Uq F S (hb f)⟩
end
section
variable {X:Cx} {e:Expr} {es:List Expr} {pos p:aP} {gl:cF} {x:aj} {k:Nat} {ps:List aj} {F:F3}
theorem cC(G:bA X.prog X.w X.K X.mg X.base k x ps F)(hr:cN k X.A)(ha:CA X (e::es) gl)(hg:Gl X x:=by rfl)(hdb:(x==("__debug__":aj))=false:=by decide)(he:Yt (e::es) X.env=(false,aH e X.env)::Yt es X.env:=by rfl)(hpl:(eF pos (Yt es X.env)).any (·.1)=false:=by rfl):C3 X (.Call (.Name x p) (e::es) [] pos) (Zw F gl):=by
 obtain⟨hn,f,fd,m,kp,bi,ok⟩:=G;refine(Zr5 ok hr hg m kp bi .nil ZtE ha hdb he hpl).imp λσ H Q ak=>?_;obtain⟨ι,M,env,S,E,h⟩:=ak;obtain⟨ds,M1,e1,h⟩:=Zy.bind h;refine⟨ι,M,env,S,E,?_⟩;rw[e1];intro vs H1 ι1 x1 S1 r1;have hl:ds.length=ps.length:=by refine Fy λq=>?_;rw[hn ds M1 q]at h;exact h.elim
 exact⟨ι1,M1,ds,S1,by rw[qG];exact r1,hl,h.up x1⟩
end
def tGf(K:Yc)(g:G3):TG:=λv σ H Q=>∃ι M env d env',ao K H ι M/\bj K H ι env σ/\Rep K H ι d v/\g d env=Ya env'/\∀σ',bj K H ι env' σ'->Q σ' H
def tGs(K:Yc)(is:List Nat):tO:=λvs σ H Q=>∃ι M env ds env',ao K H ι M/\bj K H ι env σ/\Zx K H ι ds vs/\bindAll is ds env=Ya env'/\∀σ',bj K H ι env' σ'->Q σ' H
def CG(X:Cx)(tg:Expr)(g:G3):Prop:=PG X tg (tGf X.K g)
def Ml(X:Cx)(tg:List Expr)(is:List Nat):Prop:=qQ X tg (tGs X.K is)
theorem PG.imp{t t':TG}(h:PG X e t)(i:∀v σ H Q,t' v σ H Q->t v σ H Q):PG X e t':=λpins s σ H v u Q I r q=>h pins s σ H v u Q I r (i v σ H Q q)
theorem qQ.imp{e:List Expr}{t t':tO}(h:qQ X e t)(i:∀v σ H Q,t' v σ H Q->t v σ H Q):qQ X e t':=λpins s σ H v u Q I r q=>h pins s σ H v u Q I r (i v σ H Q q)
section
variable {X:Cx} {e:Expr} {es:List Expr} {pos:aP}
theorem rD(i:Nat){x:aj}(hN:X.N.Nodup)(hi:X.N[i]?=Ya x:=by rfl)(hx:Loc X.env.scope x:=by first|exact Or.inl rfl|exact Or.inr rfl)(hf:X.fn x=true\/X.env.scope.names.lookup x=Ya .local:=by first|exact .inl rfl|exact .inr rfl):CG X (.Name x pos) (bF i):=PG.imp (Zn9 hN hi hx hf) λv σ H Q ak=>by obtain⟨ι,M,env,d,env',S,E,r,q,h⟩:=ak;cases q;exact h _ (E.set i r)
theorem Zso:Ml X [] []:=qQ.imp ZsL λv σ H Q ak=>by
 obtain⟨ι,M,env,ds,env',S,E,r,q,h⟩:=ak;cases ds with
 |nil=>cases q;exact⟨r.nil_inv,h σ E⟩|cons d ds=>cases q
theorem ZlL(i:Nat){is:List Nat}{x:aj}(hN:X.N.Nodup)(ht:Ml X es is)(hi:X.N[i]?=Ya x:=by rfl)(hx:Loc X.env.scope x:=by first|exact Or.inl rfl|exact Or.inr rfl)(hf:X.fn x=true\/X.env.scope.names.lookup x=Ya .local:=by first|exact .inl rfl|exact .inr rfl)(hs:(pG (.Name x pos::es) X.env).map (·.2)=jw (.Name x pos) X.env::(pG es X.env).map (·.2):=by rfl):
  Ml X (.Name x pos::es) (i::is):=qQ.imp (Zrq (Zn9 hN hi hx hf) ht hs) λv σ H Q ak=>by
 obtain⟨ι,M,env,ds,env',S,E,r,q,h⟩:=ak;cases ds with
 |nil=>cases q|cons d ds=>obtain⟨v,ws,rfl,r1,r2⟩:=r.cons_inv;exact⟨v,ws,rfl,ι,M,env.set i (Ya d),ds,env',S,E.set i r1,r2,q,h⟩
theorem ZtX{is:List Nat}{k:Nat}(hc:X.calm=true)(h:Ml X es is)(hl:es.length=is.length:=by rfl)(hn:(pG es X.env).length=is.length:=by rfl)(hst:(pG es X.env).findIdx? (·.1)=Yk:=by rfl):CG X (.Tuple es k pos) (Lw is):=
 PG.imp (Zvv (n:=is.length) hc h hn hst) λv σ H Q ak=>by
  obtain⟨ι,M,env,d,env',S,E,r,q,h⟩:=ak;cases d with
  | tup ds=>
   obtain⟨a,vs,rfl,s,r⟩:=r.iW;have hlen:∀(is:List Nat) (ds:List D) (env env':Zt),bindAll is ds env=Ya env'->ds.length=is.length:=by
    intro is
    induction is with
    |nil=>intro ds env env' h;cases ds with|nil=>rfl|cons d ds=>cases h
    |cons i is ih=>intro ds env env' h;cases ds with|nil=>cases h|cons d ds=>simp[ih ds _ _ h]
   exact⟨a,vs,rfl,s,by rw[r.length];exact hlen _ _ _ _ q,ι,M,env,ds,env',S,E,r,q,h⟩
  |_=>cases q
end
def kI(K:Yc)(H:Hp)(ι:List Yn)(it:gD)(J:It):Prop:=∀(i:Nat) H2 ι2 M2,Ext K H ι H2 ι2->ao K H2 ι2 M2->locked it M2=true ->
 (∀d,it.items[i]?=Ya d->J.go i H2/\∀x H3,J.K1 i H2 x H3->H3=H2/\Rep K H2 ι2 d x)/\(i=it.items.length->J.stop i H2)
def BZ(K:Yc)(H:Hp)(ι:List Yn)(R:It->Hp->Prop)(r:R3 gD):Prop:=match r with
 | .ok it M'=>∀J H' ι',Ext K H ι H' ι'->ao K H' ι' M'->kI K H' ι' it J->R J H'|_=>False
def Sx(K:Yc)(g:I3):TI:=λσ H R=>∃ι M env,ao K H ι M/\bj K H ι env σ/\BZ K H ι R (g env M)
def CI(X:Cx)(tg e:Expr)(g:I3):Prop:=PI X tg e (Sx X.K g)
theorem PI.imp{tg:Expr}{t t':TI}(h:PI X tg e t)(i:∀σ H Q,t' σ H Q->t σ H Q):PI X tg e t':=λpins s σ H Q I q=>h pins s σ H Q I (i σ H Q q)
theorem PI.or{tg:Expr}{t t':TI}(h:PI X tg e t)(h':PI X tg e t'):PI X tg e (λσ H R=>t σ H R\/t' σ H R):=λpins s σ H Q I q=>q.elim (h pins s σ H Q I) (h' pins s σ H Q I)
theorem BZ.bind{Q:It->Hp->Prop}{r:R3 α}{k:α->Store->R3 gD}(h:BZ K H ι Q (r.bind k)):∃a M,r= .ok a M/\BZ K H ι Q (k a M):=by
 cases r with
 |ok a M=>exact⟨a,M,rfl,h⟩|exc x M=>exact h.elim|bad=>exact h.elim
section
variable {X:Cx} {tg e a b:Expr} {pos p:aP} {f g:E3}
theorem ZvJ(h:C3 X e f)(hs:PI X tg e (λσ H R=>nW X.K f σ H λx H1=>∃z:aj,x= .str z/\z.length<=SZ/\∀J,(∀ι,kI X.K H1 ι ⟨z.cps.toList.map λc=>.str [c],Yk⟩ J)->R J H1)):CI X tg e (mR f):=
 PI.imp (PI.or (ZuQ h) (PI.or (Zsn h) hs)) λσ H R ak=>by
  obtain⟨ι,M,env,S,E,h⟩:=ak;obtain⟨d,M1,e1,h⟩:=BZ.bind h;cases d with
  |tup ds=>refine .inl ⟨ι,M,env,S,E,?_⟩;rw[e1];intro v H1 ι1 x1 S1 r1;obtain⟨a,vs,rfl,s,r⟩:=r1.iW;refine⟨a,rfl,⟨vs,s⟩,h _ H1 ι1 x1 S1 ?_⟩;intro i H2 ι2 M2 x S2 _;refine⟨λd hd=>?_,λhl=>⟨vs,x.tup _ _ s,by rw[r.length,hl];exact Yl _⟩⟩;obtain⟨v,hv,rv⟩:=r.get hd;refine⟨⟨vs,v,x.tup _ _ s,hv⟩,λy H3 hy=>⟨hy.1,?_⟩⟩;have e:=hy.2 vs (x.tup _ _ s);rw[hv]at e;cases e;exact rv.mono x|bO ds=>refine .inr (.inl ⟨ι,M,env,S,E,?_⟩);rw[e1];intro v H1 ι1 x1 S1 r1;obtain⟨a,vs,rfl,s,r⟩:=r1.uE;refine⟨a,rfl,⟨vs,s.sq⟩,h _ H1 ι1 x1 S1 ?_⟩;intro i H2 ι2 M2 x S2 _;refine⟨λd hd=>?_,λhl=>⟨vs,(x.bO _ _ s).sq,by rw[r.length,hl];exact Yl _⟩⟩;obtain⟨v,hv,rv⟩:=r.get hd;refine⟨⟨vs,v,(x.bO _ _ s).sq,hv⟩,λy H3 hy=>⟨hy.1,?_⟩⟩;have e:=hy.2 vs (x.bO _ _ s).sq;rw[hv]at e;cases e;exact rv.mono x|ref n=>
   refine .inr (.inl ⟨ι,M,env,S,E,?_⟩);rw[e1];intro v H1 ι1 x1 S1 r1;cases hm:M1[n]? with
   |none=>simp only[hm]at h;exact h.elim|some o=>
    cases o with
    |dct kvs=>simp only[hm]at h;exact h.elim|dj kvs=>simp only[hm]at h;exact h.elim|ins _ _=>simp only[hm]at h;exact h.elim|lst ds=>simp only[hm]at h;obtain⟨a,ha,rfl⟩:=r1.eU;obtain⟨vs,q,r⟩:=S1.obj n _ a hm ha;refine⟨a,rfl,⟨vs,cD.of q⟩,h _ H1 ι1 x1 S1 ?_⟩;intro i H2 ι2 M2 x S2 lk;have Ur:M2[n]?=Ya (.lst ds):=of_decide_eq_true lk;obtain⟨vs2,q2,r2⟩:=S2.obj n _ a Ur (x.pre _ _ ha);refine⟨λd hd=>?_,λhl=>⟨vs2,cD.of q2,by rw[r2.length,hl];exact Yl _⟩⟩;obtain⟨v,hv,rv⟩:=r2.get hd;refine⟨⟨vs2,v,cD.of q2,hv⟩,λy H3 hy=>⟨hy.1,?_⟩⟩;have e:=hy.2 vs2 (cD.of q2);rw[hv]at e;cases e;exact rv
  | str z=>
   refine .inr (.inr ⟨ι,M,env,S,E,?_⟩);rw[e1];intro v H1 ι1 x1 S1 r1;have hv:=r1.str_inv;subst hv;by_cases hz:z.length<=SZ
   .simp only[if_pos hz]at h;refine⟨_,rfl,by simpa[qN]using hz,λJ hJ=>h J H1 ι1 x1 S1 ?_⟩;simpa using hJ ι1
   .simp only[if_neg hz]at h;exact h.elim
  |non=>exact h.elim|bl b=>exact h.elim|int i=>exact h.elim
theorem ZqJ(lo:Int)(n:Nat):kI K H ι ⟨Bt lo n,Yk⟩ (K4 lo n):=by
 intro i H2 ι2 M2 x S _;refine⟨λd hd=>?_,λhl=>?_⟩
 .unfold Bt at hd;rw[nG]at hd;cases q:(dN n)[i]? with
  |none=>rw[q]at hd;cases hd|some k=>
   rw[q]at hd;obtain⟨hi,e⟩:=Ye.mp q;rw[List.getElem_range]at e;subst e;have hd':D.int (lo+(i:Int))=d:=by simpa using hd
   subst hd';exact⟨(by show i<n;simpa using hi),λy H3 hy=>⟨hy.1,by rw[hy.2];exact Rep.int⟩⟩
 .show n<=i;rw[hl];simp[Bt]
theorem ZjF(hm:X.mg "range" =Yk)(h:C3 X a f)(hg:Gl X "range":=by rfl)(hs:Yt [a] X.env=[(false,aH a X.env)]:=by rfl)(hs':Yt (a::[]) X.env=(false,aH a X.env)::Yt [] X.env:=by rfl):CI X tg (.Call (.Name "range" p) [a] [] pos) (vM f):=
 PI.imp (Zpa hg hm (Zc h Zh hs') hs) λσ H R ak=>by
  obtain⟨ι,M,env,S,E,h⟩:=ak;obtain⟨d,M1,e1,h⟩:=BZ.bind h;refine⟨ι,M,env,S,E,?_⟩;have e2:Za f Ze env M= .ok [d] M1:=by unfold Za;rw[e1];rfl
  rw[e2];intro vs H1 ι1 x1 S1 r1;obtain⟨v,ws,rfl,r,q⟩:=r1.cons_inv;have:=q.nil_inv;subst this;cases d with
  | int j=>
   have hv:=r.int_inv;subst hv;by_cases hj:j<=1000000/\ -1000000<=j
   .simp only[if_pos hj]at h;exact⟨j,rfl,by omega,by omega,h _ H1 ι1 x1 S1 (ZqJ 0 j.toNat)⟩
   .simp only[if_neg hj]at h;exact h.elim
  |_=>exact h.elim
theorem Mm{iter:Expr}{body:List Ydm}{i:I3}{g:G3}(yF:X.xe=λ_ _=>False)(hc:X.calm=true)(hi:CI X tg iter i)(hg:CG X tg g)(hb:lW X body u)(hs:∀x,wY iter X.env x=pure x:=by intro _;rfl):
  CS X (.For tg iter body [] pos) (tZ i g u):=(SM (by rw[yF];exact RX) hc hi hg hb hs).imp λD σ H ak=>by
 obtain⟨ι,M,env,S,E,h⟩:=ak;unfold tZ at h;cases q:i env M with
 |exc x M1=>rw[q]at h;exact h.elim|bad=>rw[q]at h;exact h.elim|ok it M1=>
  rw[q]at h;refine⟨ι,M,env,S,E,?_⟩;rw[q];intro J H1 ι1 x1 S1 ok;refine⟨λi m σ2 H2=>m=it.items.length-i/\i<=it.items.length/\∃ι2 M2 dY,Ext X.K H1 ι1 H2 ι2/\ao X.K H2 ι2 M2/\bj X.K H2 ι2 dY σ2/\jX X.K H2 ι2 D (cG it g u (it.items.drop i) dY M2),
   ⟨_,rfl,eN _,ι1,M1,env,Ext.refl,S1,E.mono x1,jX.up x1 h⟩,?_⟩
  rintro i m σ2 H2 ⟨rfl,hi,ι2,M2,dY,x2,S2,E2,h2⟩;by_cases hlt:i<it.items.length
  .have hd:it.items[i]?=Ya it.items[i]:=by simp[hlt]
   rw[xJ hlt]at h2
   first|rw[mU]at h2|rw[tY]at h2
   by_cases lk:locked it M2=true
   .rw[if_pos lk]at h2;obtain⟨go,yl⟩:=(ok i H2 ι2 M2 x2 S2 lk).1 _ hd;cases eg:g it.items[i] dY with
    |none=>rw[eg]at h2;exact h2.elim|some pF=>
     rw[eg]at h2;refine .inr ⟨go,λσ' H'=>∃ι3 M3 jf,Ext X.K H2 ι2 H' ι3/\ao X.K H' ι3 M3/\bj X.K H' ι3 jf σ'/\jX X.K H' ι3 D (cG it g u (it.items.drop (i+1)) jf M3),
      λσ' H' ⟨ι3,M3,jf,x3,S3,E3,h3⟩=>⟨it.items.length-(i+1),lD 2 0x30113c2012a1c0c21 T1 (lG (lB 1 6991908881 T1 hlt)) (lK _ _),rfl,hlt,ι3,M3,jf,x2.trans x3,S3,E3,h3⟩,λx H' hy=>?_⟩
     obtain⟨rfl,rx⟩:=yl x H' hy;refine⟨ι2,M2,dY,_,pF,S2,E2,rx,eg,λσ' E'=>⟨ι2,M2,pF,S2,E',?_⟩⟩;cases qu:u pF M2 with
     |nx e' M'=>simp only[qu]at h2;exactλσ' H' ι' x' S' E'=>⟨ι',M',e',x',S',E',h2.up x'⟩|ct e' M'=>simp only[qu]at h2;exactλσ' H' ι' x' S' E'=>⟨ι',M',e',x',S',E',h2.up x'⟩|bk e' M'=>simp only[qu]at h2;exact h2|rt d M'=>simp only[qu]at h2;exact h2
     |exc x' M'=>simp only[qu]at h2;exact h2.elim|bad=>simp only[qu]at h2;exact h2.elim
   .rw[if_neg lk]at h2;exact h2.elim
  .have e0:i=it.items.length:=iw hi (pP hlt);subst e0;rw[Fj]at h2
   first|rw[mU]at h2|rw[tY]at h2
   by_cases lk:locked it M2=true
   .rw[if_pos lk]at h2;exact .inl ⟨(ok _ H2 ι2 M2 x2 S2 lk).2 rfl,h2 σ2 H2 ι2 Ext.refl S2 E2⟩
   .rw[if_neg lk]at h2;exact h2.elim
theorem Us{c1:Expr}{body:List Ydm}(yF:X.xe=λ_ _=>False)(hc:CT X c1 f)(hb:lW X body u):CS X (.While c1 body [] pos) (yt f u):=(ZlU (by rw[yF];exact RX) hc hb).imp λD σ H ak=>by
 obtain⟨ι,M,env,S,E,h⟩:=ak;refine⟨λm σ2 H2=>∃ι2 M2 dY,ao X.K H2 ι2 M2/\bj X.K H2 ι2 dY σ2/\jX X.K H2 ι2 D (iz f u m dY M2),⟨1000000,ι,M,env,S,E,h⟩,?_⟩;rintro m σ2 H2 ⟨ι2,M2,dY,S2,E2,h2⟩;cases m with
 |zero=>exact h2.elim|succ m=>
  refine⟨ι2,M2,dY,S2,E2,?_⟩;rw[kj]at h2;cases q:f dY M2 with
  |exc x M1=>rw[q]at h2;exact h2.elim|bad=>rw[q]at h2;exact h2.elim|ok d M1=>
   rw[q]at h2;cases d with
   | bl k=>
    cases k with
    |false=>intro H3 ι3 x3 S3;rw[if_neg (by decide)];exact h2 σ2 H3 ι3 x3 S3 (E2.mono x3)|true=>
     intro H3 ι3 x3 S3;rw[if_pos rfl];refine⟨λσ' H'=>∃ι4 M4 jf,ao X.K H' ι4 M4/\bj X.K H' ι4 jf σ'/\jX X.K H' ι4 D (iz f u m jf M4),λσ' H' q=>⟨m,Af _,q⟩,ι3,M1,dY,S3,E2.mono x3,?_⟩;have h3:=jX.up x3 h2;cases qu:u dY M1 with
     |nx e' M'=>simp only[qu]at h3;exactλσ' H' ι' x' S' E'=>⟨ι',M',e',S',E',h3.up x'⟩|ct e' M'=>simp only[qu]at h3;exactλσ' H' ι' x' S' E'=>⟨ι',M',e',S',E',h3.up x'⟩|bk e' M'=>simp only[qu]at h3;exact h3|rt d M'=>simp only[qu]at h3;exact h3
     |exc x' M'=>simp only[qu]at h3;exact h3.elim|bad=>simp only[qu]at h3;exact h3.elim
   |_=>exact h2.elim
end
theorem Rep.Acx{v:V}(r:Rep K H ι d v):decide (v=V.non)=decide (d=D.non):=by
 cases d with
 |non=>rw[r.jL];rfl|bl b=>rw[r.iY];rfl|int i=>rw[r.int_inv];rfl|str x=>rw[r.str_inv];rfl
 |tup ds=>obtain⟨a,vs,e,_⟩:=r.iW;rw[e];rfl|bO ds=>obtain⟨a,vs,e,_⟩:=r.uE;rw[e];rfl|ref n=>obtain⟨a,_,e⟩:=r.eU;rw[e];rfl
theorem Zih{x y:List Nat}:decide (V.str ⟨x.toArray⟩=V.str ⟨y.toArray⟩)=(x==y):=by
 by_cases h:x=y
 .subst h;simp
 .rw[decide_eq_false (λe=>h (by injection e with e1;injection e1 with e2;simpa using congrArg Kq e2))]
  exact(beq_eq_false_iff_ne.mpr h).symm
section
variable {X:Cx}
theorem ZqN:aV X (i_ .Add) (λx y H Q=>∃a b ys,x= .ref a/\y= .ref b/\cL X.K H a []/\cL X.K H b ys/\Q (.ref b) H):=by
 intro pins s σ H x y v u Q I rx ry h;obtain⟨a,b,ys,rfl,rfl,ha,hb,q⟩:=h;cases rx;cases ry;obtain⟨its,r1,p1,_⟩:=I.tuple ha;obtain⟨its2,r2,p2,_⟩:=I.tuple hb;cases r1;obtain⟨⟨cls,dd,data,sl⟩,ho,hc,n,hd⟩:=id p1;obtain⟨⟨cls2,dd2,data2,sl2⟩,ho2,hc2,n2,hd2⟩:=id p2;simp only at hc hd hc2 hd2;subst hc hd hc2 hd2;exact QB ⟨_,ho,rfl⟩ ⟨_,ho2,rfl⟩ Qq Qx RK RD (RB _ _)
   (tuple_addW0 a b _ its2.toArray n n2 dd dd2 sl sl2 (by simp)) ⟨ho,ho2,⟨.ref b,H,I,rfl,q⟩⟩
theorem Zs6(x y:List Nat):(⟨x.toArray⟩:aj)++⟨y.toArray⟩=⟨(x++y).toArray⟩:=by show Str.append _ _=_;unfold Str.append;simp
noncomputable def Mp(o:Option D)(f:D->R3 D):R3 D:=match o with
 |some d=>f d|none=>.bad
theorem Ut{Q:VK}{o:Option D}{f:D->R3 D}(h:Zy K H ι Q (Mp o f)):∃x,o=Ya x/\Zy K H ι Q (f x):=by
 cases o with
 |none=>exact h.elim|some x=>exact⟨x,rfl,h⟩
noncomputable def onN(o:Option Nat)(f:Nat->R3 D):R3 D:=match o with
 |some d=>f d|none=>.bad
theorem Zsp{Q:VK}{o:Option Nat}{f:Nat->R3 D}(h:Zy K H ι Q (onN o f)):∃x,o=Ya x/\Zy K H ι Q (f x):=by
 cases o with
 |none=>exact h.elim|some x=>exact⟨x,rfl,h⟩
noncomputable def Uu(o:Option MO)(f:List D->R3 D):R3 D:=match o with
 |some (.lst x)=>f x|_=>.bad
theorem Zno{Q:VK}{o:Option MO}{f:List D->R3 D}(h:Zy K H ι Q (Uu o f)):∃x,o=Ya (.lst x)/\Zy K H ι Q (f x):=by
 cases o with
 |none=>exact h.elim|some o=>cases o with
  |lst x=>exact⟨x,rfl,h⟩|_=>exact h.elim
noncomputable def ZwQ(a b:Option MO)(f:List D->List D->R3 D):R3 D:=match a,b with
 |some (.lst x),Ya (.lst y)=>f x y|_,_=>.bad
theorem Zq5{Q:VK}{a b:Option MO}{f:List D->List D->R3 D}(h:Zy K H ι Q (ZwQ a b f)):∃x y,a=Ya (.lst x)/\b=Ya (.lst y)/\Zy K H ι Q (f x y):=by
 cases a with
 |none=>exact h.elim|some a=>cases a with
  | lst x=>cases b with
   |none=>exact h.elim|some b=>cases b with
    |lst y=>exact⟨x,y,rfl,rfl,h⟩|_=>exact h.elim
  |_=>exact h.elim
theorem yG{Q:VK}{c:Prop}{_:Decidable c}{r:R3 D}(h:Zy K H ι Q (if c then r else .bad)):c/\Zy K H ι Q r:=by
 by_cases hc:c
 .rw[if_pos hc]at h;exact⟨hc,h⟩
 .rw[if_neg hc]at h;exact h.elim
theorem Zlq(r:Zx K H ι ds []):ds=[]:=JV r.length.symm
theorem dG:aV X (i_ .Add) (r2 X.K aK):=aV.imp (aV.or Zu3 (aV.or Zmp (aV.or Zu0 (aV.or Zsa ZqN)))) λx y H Q ak=>by
 obtain⟨ι,M,a,b,S,ra,rb,h⟩:=ak;cases a with
 |int i=>cases b with
  |int j=>exact .inl ⟨i,j,ra.int_inv,rb.int_inv,Zy.ok h S Rep.int⟩|_=>exact h.elim
 | str x=>cases b with
  |str y=>obtain⟨hz,h⟩:=yG h;exact .inr (.inl ⟨_,_,ra.str_inv,rb.str_inv,Yu hz lU,by rw[Zs6];exact Zy.ok h S Rep.str⟩)|_=>exact h.elim
 | tup x=>cases b with
  | tup y=>
   obtain⟨hz,h⟩:=yG h;obtain⟨p,vs,e,s,r⟩:=ra.iW;obtain⟨q,ws,e',s',r'⟩:=rb.iW;by_cases hv:vs=[]
   .rw[hv]at r s;rw[Zlq r]at h;exact .inr (.inr (.inr (.inr ⟨p,q,ws,e,e',s,s',Zy.ok h S (Rep.tup s' r')⟩)))
   .refine .inr (.inr (.inr (.inl ⟨p,q,vs,ws,e,e',s,s',hv,by rw[r.length,r'.length];exact Yu hz lU,λhw=>?_,λhw p' hp=>?_⟩)))
    .rw[hw]at r';rw[Zlq r',qG]at h;exact Zy.ok h S (Rep.tup s r)
    .obtain⟨x2,S2,r2⟩:=S.uK hp (r.append r');exact h _ _ _ x2 S2 r2
  |_=>exact h.elim
 | ref n=>cases b with
  |ref m=>have h:Zy X.K H ι Q (ZwQ M[n]? M[m]? λx y=>@ite _ (x.length+y.length<=SZ) (Yr _) (alloc (.lst (x++y)) M) .bad):=h;obtain⟨x,y,hn,hm,h⟩:=Zq5 h;obtain⟨hz,h⟩:=yG h;obtain⟨p,hp,e⟩:=ra.eU;obtain⟨q,hq,e'⟩:=rb.eU;obtain⟨vs,e1,r1⟩:=S.obj n _ p hn hp;obtain⟨ws,e2,r2⟩:=S.obj m _ q hm hq;refine .inr (.inr (.inl ⟨p,q,vs,ws,e,e',e1,e2,by rw[r1.length,r2.length];exact Yu hz lU,λp' hp'=>?_⟩));obtain⟨x2,S2,r3⟩:=S.lst hp' (r1.append r2);exact h _ _ _ x2 S2 r3|_=>exact h.elim
 |_=>cases b<;>exact h.elim
theorem vV:aV X (i_ .Sub) (r2 X.K iI):=aV.imp Zt5 λx y H Q ak=>by obtain⟨ι,M,a,b,S,ra,rb,h⟩:=ak;cases a<;>cases b<;>first|exact h.elim|exact⟨_,_,ra.int_inv,rb.int_inv,Zy.ok h S Rep.int⟩
theorem dH:aV X (i_ .Mod) (r2 X.K aW):=aV.imp Zuj λx y H Q ak=>by
 obtain⟨ι,M,a,b,S,ra,rb,h⟩:=ak;cases a with
 | int i=>cases b with
  | int j=>
   simp only[Zk8]at h;split at h
   .rename_i hj;exact⟨i,j,ra.int_inv,rb.int_inv,hj,Zy.ok h S Rep.int⟩
   .exact h.elim
  |_=>exact h.elim
 |_=>cases b<;>exact h.elim
theorem kJ:aV X (i_ .FloorDiv) (r2 X.K d9):=aV.imp Zs4 λx y H Q ak=>by
 obtain⟨ι,M,a,b,S,ra,rb,h⟩:=ak;cases a with
 | int i=>cases b with
  | int j=>
   simp only[ZjR]at h;split at h
   .rename_i hj;exact⟨i,j,ra.int_inv,rb.int_inv,hj,Zy.ok h S Rep.int⟩
   .exact h.elim
  |_=>exact h.elim
 |_=>cases b<;>exact h.elim
theorem ZtF:aV X (i_ .Pow) (r2 X.K Bk):=aV.imp Zvz λx y H Q ak=>by
 obtain⟨ι,M,a,b,S,ra,rb,h⟩:=ak;cases a with
 | int i=>cases b with
  | int j=>
   simp only[Zqk]at h;split at h
   .rename_i hj;exact⟨i,j,ra.int_inv,rb.int_inv,⟨hj.1,iN [] [_] 1 0xf42405b083e83b081 T1 hj.2.1,by have:=hj.2.2;omega⟩,Zy.ok h S Rep.int⟩
   .exact h.elim
  |_=>exact h.elim
 |_=>cases b<;>exact h.elim
theorem uh:tQ X (JG .USub) (r1 X.K jn):=tQ.imp ZuK λx H Q ak=>by
 obtain⟨ι,M,a,S,ra,h⟩:=ak;cases a with
 |int i=>exact⟨i,ra.int_inv,Zy.ok h S Rep.int⟩|_=>exact h.elim
theorem Mq:aV X (iZ .Lt) (r2 X.K mO):=aV.imp ZxF λx y H Q ak=>by obtain⟨ι,M,a,b,S,ra,rb,h⟩:=ak;cases a<;>cases b<;>first|exact h.elim|exact⟨_,_,ra.int_inv,rb.int_inv,Zy.ok h S Rep.bl⟩
theorem Zyt:aV X (iZ .LtE) (r2 X.K Gp):=aV.imp Zwi λx y H Q ak=>by obtain⟨ι,M,a,b,S,ra,rb,h⟩:=ak;cases a<;>cases b<;>first|exact h.elim|exact⟨_,_,ra.int_inv,rb.int_inv,Zy.ok h S Rep.bl⟩
theorem nY:aV X (iZ .Gt) (r2 X.K dD):=aV.imp Zw0 λx y H Q ak=>by obtain⟨ι,M,a,b,S,ra,rb,h⟩:=ak;cases a<;>cases b<;>first|exact h.elim|exact⟨_,_,ra.int_inv,rb.int_inv,Zy.ok h S Rep.bl⟩
theorem Zzg:aV X (iZ .GtE) (r2 X.K Gq):=aV.imp Zxd λx y H Q ak=>by obtain⟨ι,M,a,b,S,ra,rb,h⟩:=ak;cases a<;>cases b<;>first|exact h.elim|exact⟨_,_,ra.int_inv,rb.int_inv,Zy.ok h S Rep.bl⟩
theorem ZyC:aV X (iZ .Is) (r2 X.K TV):=aV.imp ZtU λx y H Q ak=>by
 obtain⟨ι,M,a,b,S,ra,rb,h⟩:=ak;cases b with
 |non=>exact⟨rb.jL,by rw[ra.Acx];exact Zy.ok h S Rep.bl⟩|_=>exact h.elim
end
theorem units_in1(A:bB):A.in1.units=A.units+1:=rfl
variable{es:List D}{A:bB}
section
variable {X:Cx} {pins:List (Yn×aB)} {σ:St} {H:Hp} {s:Yg} {ι:List Yn}
theorem ZkR{e:Nat->Bool}:∀{x y:List D},x.length=y.length->(∀(j:Nat) a b,x[j]?=Ya a->y[j]?=Ya b->e j=iH a b)->(dN x.length).all e=gQ x y:=by
 intro x
 induction x generalizing e with
 |nil=>intro y h _;cases y with|nil=>rfl|cons _ _=>simp at h
 | cons a x ih=>
  intro y h he;cases y with
  |nil=>simp at h|cons b y=>rw[Ys,List.range_succ_eq_map,Ac,List.all_map,he 0 a b rfl rfl];rw[Tw];congr 1;exact ih (e:=e ∘ Nat.succ) (by simpa using h) λj a' b' h1 h2=>he (j+1) a' b' (by simpa using h1) (by simpa using h2)
theorem ZlX:∀{x y:List D},gQ x y=true->x.length=y.length
 |[],[],_=>rfl|[],_::_,h=>ft h|_::_,[],h=>ft h|a::x,b::y,h=>congrArg Nat.succ (ZlX (u6.mp (h:(iH a b&&gQ x y)=true)).2)
theorem Mr(h:cP 0 d=true):jc d=true:=by cases d<;>first|exact rfl|exact h
theorem B_(h:cP (n+1) d=true):jc d=true\/∃ds,d= .tup ds:=by
 cases d with
 |tup ds=>exact .inr ⟨ds,rfl⟩|bO _=>exact ft h|ref _=>exact ft h|_=>exact .inl rfl
theorem ZjZ{a b:D}{v:V}(fa:jc a=true)(fb:jc b=true)(r:Rep K H ι a v)(q:Rep K H ι b v):iH a b=true:=by
 cases a with
 |non=>have e:=r.jL;cases b with
  |non=>rfl|bl _=>cases e.symm.trans q.iY|int _=>cases e.symm.trans q.int_inv|str _=>cases e.symm.trans q.str_inv
  |_=>exact ft fb
 |bl x=>have e:=r.iY;cases b with
  |non=>cases e.symm.trans q.jL|bl _=>exact beq_iff_eq.mpr (V.bl.inj (e.symm.trans q.iY))|int _=>cases e.symm.trans q.int_inv|str _=>cases e.symm.trans q.str_inv
  |_=>exact ft fb
 |int x=>have e:=r.int_inv;cases b with
  |non=>cases e.symm.trans q.jL|bl _=>cases e.symm.trans q.iY|int _=>exact beq_iff_eq.mpr (V.int.inj (e.symm.trans q.int_inv))|str _=>cases e.symm.trans q.str_inv
  |_=>exact ft fb
 |str x=>have e:=r.str_inv;cases b with
  |non=>cases e.symm.trans q.jL|bl _=>cases e.symm.trans q.iY|int _=>cases e.symm.trans q.int_inv|str _=>exact Zih.symm.trans (decide_eq_true (e.symm.trans q.str_inv))
  |_=>exact ft fb
 |_=>exact ft fa
theorem Zlr{a:D}{v:V}{p:Yn}(fa:jc a=true)(r:Rep K H ι a v)(e:v= .ref p):False:=by
 cases a with
 |non=>cases e.symm.trans r.jL|bl x=>cases e.symm.trans r.iY|int x=>cases e.symm.trans r.int_inv|str x=>cases e.symm.trans r.str_inv
 |_=>exact ft fa
theorem Rep.fun1(I:Inv X pins σ H s):∀(n:Nat) (a b:D) (v:V),cP n a=true->cP n b=true->Rep X.K H ι a v->Rep X.K H ι b v->iH a b=true:=by
 intro n
 induction n with
 |zero=>intro a b v ha hb r q;exact ZjZ (Mr ha) (Mr hb) r q|succ n ih=>
  intro a b v ha hb r q;rcases B_ ha with fa|⟨ds,ea⟩
  .rcases B_ hb with fb|⟨es,eb⟩
   .exact ZjZ fa fb r q
   .rw[eb]at q;obtain⟨p,vs,e,_⟩:=q.iW;exact(Zlr fa r e).elim
  .rw [ea]at r ha ⊢;obtain⟨p,vs,e,s1,r1⟩:=r.iW;rcases B_ hb with fb|⟨es,eb⟩
   .exact(Zlr fb q e).elim
   .rw[eb]at q hb ⊢;obtain⟨p',ws,e',s2,r2⟩:=q.iW;rw[←V.ref.inj (e.symm.trans e')]at s2;rw[←I.Pa s1 s2]at r2;clear s1 s2 e e' q r eb ea;rw[ZtO];revert ha hb r1 r2
    induction ds generalizing es vs with
    |nil=>
     intro _ r1 _ r2;cases es with
     |nil=>rfl|cons _ _=>obtain⟨_,_,e,_⟩:=r2.cons_inv;cases r1.nil_inv.symm.trans e
    | cons d ds ih2=>
     intro h1 r1 h2 r2;obtain⟨v,ws,e,q1,q2⟩:=r1.cons_inv;cases es with
     |nil=>cases r2.nil_inv.symm.trans e|cons e' es=>obtain⟨v',ws',z,q3,q4⟩:=r2.cons_inv;obtain⟨z1,z2⟩:=R0 (z.symm.trans e);rw[z1]at q3;rw[z2]at q4;have g1:=u6.mp (h1:(cP n d&&ds.all (cP n))=true);have g2:=u6.mp (h2:(cP n e'&&es.all (cP n))=true);rw[Tw,ih d e' v g1.1 g2.1 q1 q3];exact ih2 ws es g1.2 q2 g2.2 q4
theorem Cd{x:V}{u:Yd}(r:Rep K H ι .non x)(e:RelV x u):u= .none:=by rw[r.jL]at e;cases e;rfl
theorem vW{b:Bool}{x:V}{u:Yd}(r:Rep K H ι (.bl b) x)(e:RelV x u):u= .bool b:=by rw[r.iY]at e;cases e;rfl
theorem rE{x:V}{u:Yd}(r:Rep K H ι (.int i) x)(e:RelV x u):∃t,u= .int i t:=by rw[r.int_inv]at e;exact e
theorem vX{i:List Nat}{x:V}{u:Yd}(r:Rep K H ι (.str i) x)(e:RelV x u):∃t,u= .str ⟨i.toArray⟩ t:=by rw[r.str_inv]at e;exact e
inductive Uv(X:Cx)(H:Hp)(ι:List Yn)(T:Yn->Array Yd->Prop)(ds:List D)(x:V)(u:Yd):Prop
 |mk (p:Yn) (vs:List V) (its:List Yd):x= .ref p->u= .ref p->T p its.toArray->Zx X.K H ι ds vs->Vals vs its->Uv X H ι T ds x u
theorem vY(I:Inv X pins σ H s){x:V}{u:Yd}(r:Rep X.K H ι (.tup ds) x)(e:RelV x u):Uv X H ι s.heap.IsTuple ds x u:=by obtain⟨p,vs,ex,s1,r1⟩:=r.iW;obtain⟨its,rvs,ht,_⟩:=I.tuple s1;rw[ex]at e;exact⟨p,vs,its,ex,e,ht,r1,rvs⟩
theorem S6{i k:List Nat}:decide (i=k)=((⟨i.toArray⟩:aj)==⟨k.toArray⟩):=by
 rw[←J3,←Zih];by_cases h:(⟨i.toArray⟩:aj)=⟨k.toArray⟩
 .rw[h,beq_self_eq_true];exact decide_eq_true rfl
 .rw[beq_eq_false_iff_ne.mpr h];exact decide_eq_false λe=>h (V.str.inj e)
theorem Zsj{i k:List Nat}:iH (.str i) (.str k)=((⟨i.toArray⟩:aj)==⟨k.toArray⟩):=vm (show(i==k)=decide (i=k)from J3 i k) S6
theorem ZjJ(A:bB)(a b:D)(x y:V)(u v:Yd)(ha:jc a=true)(hb:jc b=true)(ra:Rep X.K H ι a x)(rb:Rep X.K H ι b y)(ru:RelV x u)(rv:RelV y v):nH A s u v (iH a b):=by
 cases a with
 |non=>rw[Cd ra ru];cases b with
  |non=>rw[Cd rb rv];exact RT _|bl k=>rw[vW rb rv];exact Yiu _|int k=>obtain⟨t,e⟩:=rE rb rv;rw[e];exact Yja _ _|str k=>obtain⟨t,e⟩:=vX rb rv;rw[e];exact Yjb _ _
  |_=>exact ft hb
 |bl i=>rw[vW ra ru];cases b with
  |non=>rw[Cd rb rv];exact Yiv _|bl k=>rw[vW rb rv];exact Yiw _ _|int k=>obtain⟨t,e⟩:=rE rb rv;rw[e];exact Yjc _ _ _|str k=>obtain⟨t,e⟩:=vX rb rv;rw[e];exact Yjd _ _ _
  |_=>exact ft hb
 |int i=>obtain⟨t0,e0⟩:=rE ra ru;rw[e0];cases b with
  |non=>rw[Cd rb rv];exact Yje _ _|bl k=>rw[vW rb rv];exact Yjf _ _ _|int k=>obtain⟨t,e⟩:=rE rb rv;rw[e];exact RQ _ _ _ _|str k=>obtain⟨t,e⟩:=vX rb rv;rw[e];exact RP _ _ _ _
  |_=>exact ft hb
 |str i=>obtain⟨t0,e0⟩:=vX ra ru;rw[e0];cases b with
  |non=>rw[Cd rb rv];exact Yjg _ _|bl k=>rw[vW rb rv];exact Yjh _ _ _|int k=>obtain⟨t,e⟩:=rE rb rv;rw[e];exact Ky _ _ _ _|str k=>obtain⟨t,e⟩:=vX rb rv;rw[e,Zsj];exact Yjz _ _ _ _
  |_=>exact ft hb
 |_=>exact ft ha
noncomputable def G6(ds es:List D)(j:Nat):Bool:=match ds[j]?,es[j]? with|some a,Ya b=>iH a b|_,_=>false
theorem Uw(hl:ds.length≠es.length):gQ ds es=false:=by
 cases q:gQ ds es with
 |false=>rfl|true=>exact absurd (ZlX q) hl
theorem Ux(hn:n=ds.length)(hl:ds.length=es.length):(dN n).all (G6 ds es)=gQ ds es:=by rw[hn];exact ZkR hl λj a b h1 h2=>by unfold G6;rw[h1,h2]
theorem ZnN{m:Nat}(hn:n=ds.length)(hm:m=es.length):((dN (jg n m)).all (G6 ds es)&&n==m)=gQ ds es:=by
 by_cases hl:ds.length=es.length
 .have e:n=m:=hn.trans (hl.trans hm.symm);rw[←e,Nat.min_self,beq_self_eq_true,u_];exact Ux hn hl
 .rw[Uw hl,beq_eq_false_iff_ne.mpr λe=>hl (hn.symm.trans (e.trans hm)),J6]
theorem kO{its:List Yd}(r:Zx X.K H ι ds vs)(v:Vals vs its):its.toArray.size=ds.length:=Ym.trans (v.length.symm.trans r.length)
theorem Ms{ws:List V}{its its2:List Yd}(ih:∀(a b:D) (x y:V) (u v:Yd),cP n a=true->cP n b=true->Rep X.K H ι a x->Rep X.K H ι b y->RelV x u->RelV y v->nH A s u v (iH a b))(p1:ds.all (cP n)=true)(p2:es.all (cP n)=true)(r1:Zx X.K H ι ds vs)(r2:Zx X.K H ι es ws)(v1:Vals vs its)(v2:Vals ws its2)(j:Nat)(h1:j<its.toArray.size)(h2:j<its2.toArray.size):nH A s its.toArray[j] its2.toArray[j] (G6 ds es j):=by
 have k1:j<ds.length:=by rw[←kO r1 v1];exact h1
 have k2:j<es.length:=by rw[←kO r2 v2];exact h2
 have q1:=Y5 k1;have q2:=Y5 k2;obtain⟨x,g1,z1⟩:=r1.get q1;obtain⟨y,g2,z2⟩:=r2.get q2;obtain⟨u,e1,l1⟩:=v1.get g1;obtain⟨v,e2,l2⟩:=v2.get g2;unfold G6;rw[q1,q2];obtain⟨_,e1⟩:=Ye.mp e1;obtain⟨_,e2⟩:=Ye.mp e2;exact ih _ _ x y _ _ (pK.mp p1 _ (JX k1)) (pK.mp p2 _ (JX k2)) z1 z2 (e1▸l1) (e2▸l2)
theorem Zk4(A:bB)(hu1:A.units<eG){a:D}{x:V}{u:Yd}{p:Yn}{its:Array Yd}(ha:jc a=true)(ra:Rep X.K H ι a x)(ru:RelV x u)(it:s.heap.IsTuple p its):nH A s u (.ref p) (iH a (.tup es))/\nH A s (.ref p) u (iH (.tup es) a):=by
 cases a with
 |non=>rw[Cd ra ru];exact⟨SeqAt.EqAt.none_tuple it hu1,SeqAt.EqAt.tuple_none it hu1⟩|bl k=>rw[vW ra ru];exact⟨SeqAt.EqAt.bool_tuple _ it hu1,SeqAt.EqAt.tuple_bool _ it hu1⟩|int k=>obtain⟨t,e⟩:=rE ra ru;rw[e];exact⟨SeqAt.EqAt.int_tuple _ _ it hu1,SeqAt.EqAt.tuple_int _ _ it hu1⟩|str k=>obtain⟨t,e⟩:=vX ra ru;rw[e];exact⟨SeqAt.EqAt.str_tuple _ _ it hu1,SeqAt.EqAt.tuple_str _ _ it hu1⟩
 |_=>exact ft ha
theorem Uy(I:Inv X pins σ H s):∀(n:Nat) (A:bB) (_:A.units+n+1<eG) (a b:D) (x y:V) (u v:Yd),cP n a=true->cP n b=true->Rep X.K H ι a x->Rep X.K H ι b y->RelV x u->RelV y v->nH A s u v (iH a b):=by
 intro n
 induction n with
 |zero=>intro A hu a b x y u v ha hb ra rb ru rv;exact ZjJ A a b x y u v (Mr ha) (Mr hb) ra rb ru rv|succ n ih=>
  intro A hu a b x y u v ha hb ra rb ru rv;have hu0:A.units+0+1<eG:=lC 1 0x2ae0cc12aa1c0cc11 T1 hu;have hu1:A.units<eG:=lB 1 1104257534993 T1 hu0;rcases B_ ha with fa|⟨ds,ea⟩
  .rcases B_ hb with fb|⟨es,eb⟩
   .exact ZjJ A a b x y u v fa fb ra rb ru rv
   .rw[eb]at rb ⊢;obtain⟨p,vs,its,ex,eu,t,_⟩:=vY I rb rv;rw[eu];exact(Zk4 A hu1 fa ra ru t).1
  .rw[ea]at ra ha ⊢;obtain⟨p,vs,its,ex,eu,t,r1,v1⟩:=vY I ra ru;rw[eu];rcases B_ hb with fb|⟨es,eb⟩
   .exact(Zk4 A hu1 fb rb rv t).2
   .rw[eb]at rb hb ⊢;obtain⟨q,ws,its2,ey,ev,t',r2,v2⟩:=vY I rb rv;rw[ev];by_cases hp:p=q
    .rw[ey,←hp,←ex]at rb;rw[Rep.fun1 I (n+1) _ _ _ ha hb ra rb,hp];exact RT _
    .refine Yj4 hp ?_;rw[ZtO,←ZnN (kO r1 v1) (kO r2 v2)];exact RV t t' hu1 (Ms (ih A.in1 (by rw[units_in1];exact lC 1 0x2a1a0ccc12aa1c0cc11 T1 hu)) ha hb r1 r2 v1 v2)
end
section
variable {X:Cx}
section
variable {pins:List (Yn×aB)} {σ:St} {H:Hp} {s:Yg} {ι:List Yn}
theorem Mt(I:Inv X pins σ H s)(S:ao X.K H ι M){x:V}{u:Yd}(h:M[n]?=Ya (.lst ds))(r:Rep X.K H ι (.ref n) x)(e:RelV x u):Uv X H ι s.heap.IsList ds x u:=by obtain⟨p,hp1,ex⟩:=r.eU;obtain⟨vs,e1,r1⟩:=S.obj n _ p h hp1;obtain⟨its,rvs,pl1,_⟩:=I.list (cD.of e1);rw[ex]at e;exact⟨p,vs,its,ex,e,pl1.isList,r1,rvs⟩
inductive yH(M:Store)(a b:D)(k:Bool):Prop
 |ref {n m:Nat} (ds es:List D):a= .ref n->b= .ref m->gQ ds es=k->M[n]?=Ya (.lst ds)->M[m]?=Ya (.lst es)->ds.all (cP DEEP)=true/\es.all (cP DEEP)=true->yH M a b k
 |int (i j:Int):a= .int i->b= .int j->decide (i=j)=k->yH M a b k
 |str (i j:List Nat):a= .str i->b= .str j->decide (i=j)=k->yH M a b k
 |bl (i j:Bool):a= .bl i->b= .bl j->decide (i=j)=k->yH M a b k
 |tup {ds es:List D}:a= .tup ds->b= .tup es->gQ ds es=k->ds.all (cP DEEP)=true/\es.all (cP DEEP)=true->yH M a b k
theorem Uz{c d:Bool}{a k:α}(h:(if c&&d then Ya a else Yk)=Ya k):a=k/\c=true/\d=true:=by
 cases c with
 |false=>exact dR h|true=>cases d with
  |false=>exact dR h|true=>exact⟨Y3 h,rfl,rfl⟩
noncomputable def ZyD(a b:Option MO):Option Bool:=match a,b with
 |some (.lst x),Ya (.lst y)=>if x.all (cP DEEP)&&y.all (cP DEEP)then Ya (gQ x y)else Yk|_,_=>Yk
theorem Zsl{m:Nat}{k:Bool}(h:ZyD M[n]? M[m]?=Ya k):yH M (.ref n) (.ref m) k:=by
 cases e1:M[n]? with
 |none=>rw[e1]at h;exact dR h|some o=>cases o with
  | lst x=>cases e2:M[m]? with
   |none=>rw[e1,e2]at h;exact dR h|some o=>cases o with
    |lst y=>rw[e1,e2]at h;exact have w:=Uz h;.ref x y rfl rfl w.1 e1 e2 w.2|_=>rw[e1,e2]at h;exact dR h
  |_=>rw[e1]at h;exact dR h
theorem eqK{a b:D}{k:Bool}(h:pX a b M=Ya k):yH M a b k:=by
 cases a with
 |ref n=>cases b with
  |ref m=>exact Zsl h|_=>exact dR h
 |int i=>cases b with
  |int j=>exact .int i j rfl rfl (Y3 h)|_=>exact dR h
 |str i=>cases b with
  |str j=>exact .str i j rfl rfl (Y3 h)|_=>exact dR h
 |bl i=>cases b with
  |bl j=>exact .bl i j rfl rfl (Y3 h)|_=>exact dR h
 |tup ds=>cases b with
  |tup es=>exact have w:=Uz h;.tup rfl rfl w.1 w.2|_=>exact dR h
 |_=>cases b<;>exact dR h
theorem Zn8{a b:D}{x y:V}{u v:Yd}{k:Bool}(hu:X.A.units+80<eG)(I:Inv X pins σ H s)(S:ao X.K H ι M)(ra:Rep X.K H ι a x)(rb:Rep X.K H ι b y)(ru:RelV x u)(rv:RelV y v)(h:pX a b M=Ya k):SeqAt.RcAt X.A s u v k/\SeqAt.RcNeAt X.A s u v (!k):=by
 have hu1:X.A.units<eG:=lB 1 17666545486865 T1 hu;have hu2:X.A.in1.units+DEEP+1<eG:=by rw[units_in1];exact(show X.A.units+1+60+1<eG from lB 1 0x1a3c2ba0ccc11502b0c11 T1 hu)
 rcases eqK h with⟨ds,es,ea,eb,ek,e1,e2,p1,p2⟩|⟨i,j,ea,eb,ek⟩|⟨i,j,ea,eb,ek⟩|⟨i,j,ea,eb,ek⟩|⟨ea,eb,ek,p1,p2⟩
 .rw[ea]at ra;rw[eb]at rb;rw[←ek];obtain⟨p,vs,its,_,eu,t,r1,v1⟩:=Mt I S e1 ra ru;obtain⟨q,ws,its2,_,ev,t',r2,v2⟩:=Mt I S e2 rb rv;rw[eu,ev];by_cases hl:ds.length=es.length
  .rw[←Ux (kO r1 v1) hl];have hz:=(kO r1 v1).trans (hl.trans (kO r2 v2).symm);have w:=Ms (Uy I DEEP X.A.in1 hu2) p1 p2 r1 r2 v1 v2;exact⟨Ylb t t' hz hu1 w,SeqAt.RcNeAt.lists t t' hz hu1 w⟩
  .rw[Uw hl];have hz:(its.toArray.size !=its2.toArray.size)=true:=bne_iff_ne.mpr λe=>hl ((kO r1 v1).symm.trans (e.trans (kO r2 v2)));exact⟨Yg4 t t' hz hu1,SeqAt.RcNeAt.lists_lengths t t' hz hu1⟩
 .rw[ea]at ra;rw[eb]at rb;obtain⟨t,e⟩:=rE ra ru;obtain⟨t',e'⟩:=rE rb rv;rw[e,e',←ek,←J3];exact⟨SeqAt.RcAt.int_int _ _ _ _,SeqAt.RcNeAt.int_int _ _ _ _⟩
 .rw[ea]at ra;rw[eb]at rb;obtain⟨t,e⟩:=vX ra ru;obtain⟨t',e'⟩:=vX rb rv;rw[e,e',←ek,S6];exact⟨SeqAt.RcAt.str_str _ _ _ _,SeqAt.RcNeAt.str_str _ _ _ _⟩
 .rw[ea]at ra;rw[eb]at rb;rw[vW ra ru,vW rb rv,←ek,←J3];exact⟨SeqAt.RcAt.bool_bool _ _,SeqAt.RcNeAt.bool_bool _ _⟩
 .rw[ea]at ra;rw[eb]at rb;obtain⟨p,vs,its,_,eu,t,r1,v1⟩:=vY I ra ru;obtain⟨q,ws,its2,_,ev,t',r2,v2⟩:=vY I rb rv;rw[eu,ev,←ek,←ZnN (kO r1 v1) (kO r2 v2)];have w:=Ms (Uy I DEEP X.A.in1 hu2) p1 p2 r1 r2 v1 v2;exact⟨RV t t' hu1 w,SeqAt.RcNeAt.tuples t t' hu1 w⟩
end
theorem gJ(hu:X.A.units+80<eG):aV X (iZ .Eq) (r2 X.K bI):=by
 intro pins s σ H x y v u Q I rx ry h;obtain⟨ι,M,a,b,S,ra,rb,h⟩:=h;unfold bI at h;cases q:pX a b M with
 |none=>rw[q]at h;exact h.elim|some k=>rw[q]at h;exact(Zn8 hu I S ra rb rx ry q).1 X.prog X.w X.xe _ ⟨.bl k,H,I,rfl,Zy.ok h S Rep.bl⟩
theorem UG(r:Zx K H ι ds vs)(h:fV ds i=Ya d):∃v,x_ vs i=Ya v/\Rep K H ι d v:=by
 unfold fV at h;unfold x_;have e:Bf vs.length i=kh ds.length i:=by rw[r.length];rfl
 rw[e];cases q:kh ds.length i with
 |none=>rw[q]at h;cases h|some j=>rw[q]at h;exact r.get h
theorem aF:lO X (r2 X.K Zk):=lO.imp ZvE λx y H Q ak=>by
 obtain⟨ι,M,a,b,S,ra,rb,h⟩:=ak;cases a with
 | tup ds=>cases b with
  |int i=>have h:Zy X.K H ι Q (Mp (fV ds i) (λd=>.ok d M)):=h;obtain⟨d,q,h⟩:=Ut h;obtain⟨p,vs,e',s1,r1⟩:=ra.iW;obtain⟨v,e,rv⟩:=UG r1 q;exact .inr (.inl ⟨p,vs,i,v,e',rb.int_inv,s1,e,Zy.ok h S rv⟩)|_=>exact h.elim
 | bO ds=>cases b with
  |int i=>have h:Zy X.K H ι Q (Mp (fV ds i) (λd=>.ok d M)):=h;obtain⟨d,q,h⟩:=Ut h;obtain⟨p,vs,e',s1,r1⟩:=ra.uE;obtain⟨v,e,rv⟩:=UG r1 q;exact .inl ⟨p,vs,i,v,e',rb.int_inv,s1.sq,e,Zy.ok h S rv⟩|_=>exact h.elim
 | str z=>cases b with
  |int i=>have h:Zy X.K H ι Q (onN (fV z i) (λc=>@ite _ (z.length<=SZ) (Yr _) (.ok (.str [c]) M) .bad)):=h;obtain⟨c,q,h⟩:=Zsp h;obtain⟨hz,h⟩:=yG h;exact .inr (.inr ⟨_,i,c,ra.str_inv,rb.int_inv,Yu hz lU,q,Zy.ok h S Rep.str⟩)|_=>exact h.elim
 | ref n=>cases b with
  |int i=>have h:Zy X.K H ι Q (Uu (M[n]?) (λds=>Mp (fV ds i) λd=>.ok d M)):=h;obtain⟨ds,hn,h⟩:=Zno h;obtain⟨d,q,h⟩:=Ut h;obtain⟨p,hp,e'⟩:=ra.eU;obtain⟨vs,e1,r1⟩:=S.obj n _ p hn hp;obtain⟨v,e,rv⟩:=UG r1 q;exact .inl ⟨p,vs,i,v,e',rb.int_inv,cD.of e1,e,Zy.ok h S rv⟩|_=>exact h.elim
 |_=>cases b<;>exact h.elim
theorem UJ(r:Zx K H ι ds vs)(lo hi:Option Int):Zx K H ι (cutD ds lo hi) (vD vs lo hi):=by
 have e:∀n d o,HT.aC n d o=aC n d o:=λn d o=>by cases o<;>rfl
 unfold cutD vD;rw[e,e,r.length];exact(r.drop _).take _
end
noncomputable def gY(cells:List (aj×Yn)):List (aj×NameKind)->List (aj×Yn)->List (aj×Yn)
 |[],cs=>cs|(n,k)::r,cs=>gY cells r (if k== .free then(n,(cells.lookup n).getD 0)::cs else cs)
theorem G8{cells:List (aj×Yn)}{n:aj}{k:NameKind}{r:List (aj×NameKind)}{cs:List (aj×Yn)}:gY cells ((n,k)::r) cs=gY cells r (if k== .free then(n,(cells.lookup n).getD 0)::cs else cs):=rfl
theorem UL{scope:Scope}{env:cQ}(h:∀y∈scope.names,y.2= .free->∃c,env.cells.lookup y.1=Ya c):closureFor scope env=pure (gY env.cells scope.names []):=by
 unfold closureFor;have key:∀(names:List (aj×NameKind)) (cs:List (aj×Yn)),(∀y∈names,y.2= .free->∃c,env.cells.lookup y.1=Ya c) ->
   (forIn names cs λx r=>match x with|(name,kind)=>if(kind==NameKind.free)=true then do let c ←cellOf env name;pure (ForInStep.yield ((name,c)::r))else pure (ForInStep.yield r):lu (List (aj×Yn)))=pure (gY env.cells names cs):=by
  intro names
  induction names with
  |nil=>intro cs _;rfl|cons y r ih=>
   intro cs hy;obtain⟨n,k⟩:=y;rw[Fl];by_cases hk:k= .free
   .subst hk;obtain⟨c,hc⟩:=hy (n,.free) Yz rfl;have e1:cellOf env n=pure c:=by unfold cellOf;rw[hc]
    simp only[beq_self_eq_true,if_true,e1,pure_bind];rw[ih _ λz hz=>hy z (Yq _ hz)];rw[G8,hc];rfl
   .have hb:(k==NameKind.free)=false:=by simpa using hk
    simp only[hb,J5,if_false,pure_bind];rw[ih _ λz hz=>hy z (Yq _ hz)];rw[G8,hb];rfl
 have:=key scope.names [] h
 first
  |exact this
  |(simp only[bind_pure];exact this)
theorem Zop{cells:List (aj×Yn)}{x:aj}{c:Yn}:∀(names:List (aj×NameKind)) (cs:List (aj×Yn)),(∀y∈names,y.2= .free->∃c,cells.lookup y.1=Ya c)->(gY cells names cs).lookup x=Ya c->cs.lookup x=Ya c\/cells.lookup x=Ya c:=by
 intro names
 induction names with
 |nil=>intro cs _ h;exact .inl h|cons y r ih=>
  intro cs hy h;obtain⟨n,k⟩:=y;rw[G8]at h;rcases ih _ (λz hz=>hy z (Yq _ hz)) h with q|q
  .by_cases hk:k= .free
   .subst hk;obtain⟨c0,hc⟩:=hy (n,.free) Yz rfl;simp only[beq_self_eq_true,if_true,hc,Option.getD_some,j8]at q;cases hx:x==n with
    |true=>
     simp only[hx]at q;cases q;have:x=n:=by simpa using hx
     subst this;exact .inr hc
    |false=>simp only[hx]at q;exact .inl q
   .have hb:(k==NameKind.free)=false:=by simpa using hk
    simp only[hb,J5,if_false]at q;exact .inl q
  .exact .inr q
theorem ZmC{cells:List (aj×Yn)}{x:aj}:∀(names:List (aj×NameKind)) (cs:List (aj×Yn)),(cs.lookup x).isSome=true->((gY cells names cs).lookup x).isSome=true:=by
 intro names
 induction names with
 |nil=>intro cs h;exact h|cons y r ih=>
  intro cs h;obtain⟨n,k⟩:=y;rw[G8];refine ih _ ?_;split
  .rw[j8];split
   .rfl
   .exact h
  .exact h
theorem ZjI{cells:List (aj×Yn)}{x:aj}:∀(names:List (aj×NameKind)) (cs:List (aj×Yn)),(x,NameKind.free)∈names->((gY cells names cs).lookup x).isSome=true:=by
 intro names
 induction names with
 |nil=>intro cs h;cases h|cons y r ih=>
  intro cs h;obtain⟨n,k⟩:=y;rw[G8];rcases fj.mp h with e|h
  .cases e
   refine ZmC _ _ ?_;simp
  .exact ih _ h
noncomputable def kW(X:Cx)(scope:Scope)(N':List aj)(C:Yn)(cl:List (aj×Yn))(s:Yg)(H:Hp)(ex:List Yn):Cx:={X with N:=N',s₀:=s,H₀:=H,env:=uQ scope cl C X.env,outer:=X.stack,stack:=X.stack,ex:=ex,fn:=λ_=>false,pn:=[],xe:=λ_ _=>False}
noncomputable def UT(N N':List aj)(scope:Scope):Bool:=(dN N.length).all λi=>match N'[i]? with
 |some x=>(scope.names.lookup x).isNone|| (decide (N[i]?=Ya x)&&decide (scope.names.lookup x=Ya .free))|none=>false
def vZ(X:Cx)(ifs:List Expr)(ts:List E3):Prop:=∀(pins:List (Yn×aB)) (s:Yg) (σ:St) (H:Hp) (Q:Bool->Hp->Prop),Inv X pins σ H s ->
 (∃ι M env,ao X.K H ι M/\bj X.K H ι env σ/\match vN ts env M with| .ok b M'=>∀H' ι',Ext X.K H ι H' ι'->ao X.K H' ι' M'->Q b H'|_=>False) ->
 Yy (Y4 X.prog X.w) X.A (forIn ifs true λc r=>if r=true then do let ok ←isTrue c X.env (aH c X.env);pure (ForInStep.yield ok)else pure (ForInStep.yield r)) (TP X pins σ Q) X.xe s
theorem Mu:vZ X [] []:=λpins s σ H Q I ⟨ι,M,env,S,E,h⟩=>wpAny_tests_nil ⟨H,I,h H ι Ext.refl S⟩
section
variable {prog:aX} {w:aU} {A:bB} {R:pI->Yg->Prop} {s:Yg}
theorem ZkW{elt target iter:Expr}{ifs:List Expr}{scope:Scope}{pos:aP}{it acc:Yd}{env:cQ}(I:Nat->Yg->Prop)(turn:∀n s,I n s->Yy (Y4 prog w) A (iu it) (λr s₁=>match r with
   |none=>R (.ok .next) s₁|some v=>Yy (Y4 prog w) A (w6 target it v) (λ_ G9=>Yy (Y4 prog w) A (jw target env v) (λ_ s₂=>
     Yy (Y4 prog w) A (forIn ifs true λc r=>if r=true then do let ok ←isTrue c env (aH c env);pure (ForInStep.yield ok)else pure (ForInStep.yield r)) (λok s₃=>
      if ok=true then Yy (Y4 prog w) A (aH elt env) (λx s₄=>Yy (Y4 prog w) A (call (.builtin "list.append") [acc,x]) (λ_ s₅=>∃m,m<n/\I m s₅) (λ_ _=>False) s₄) (λ_ _=>False) s₃
      else∃m,m<n/\I m s₃) (λ_ _=>False) s₂) (λ_ _=>False) G9) (λ_ _=>False) s₁) (λ_ _=>False) s)(n:Nat)(h:I n s):jM (Y4 prog w) A (.compLoop (.ListComp elt [⟨target,iter,ifs,0⟩] scope pos) 0 it acc env) R s:=by
 refine codeAny_loop rfl I (λn s hI=>?_) n h;show Yy _ A ((compTurn (.ListComp elt [⟨target,iter,ifs,0⟩] scope pos) 0 it acc env).onRaise (λx=>do pH x env;Ylq x)) _ _ s;refine wpAny_noted ?_;rw[compTurn_list];refine Yb (EY (Yb (fc (turn n s hI) (λr s₁ h₁=>?_) λ_ _ h'=>fH h')));cases r with
 |none=>exact Yi h₁|some v=>
  refine Yb (fc h₁ (λ_ G9 UV=>?_) λ_ _ h'=>fH h');refine Yb (fc UV (λ_ s₂ h₂=>Yb (fc h₂ (λok s₃ h₃=>?_) λ_ _ h'=>fH h')) λ_ _ h'=>fH h');cases ok with
  |false=>exact Yi ⟨rfl,h₃⟩|true=>exact Yb (Yb (fc h₃ (λx s₄ h₄=>Yb (fc h₄ (λ_ s₅ h₅=>Yi (Yi ⟨rfl,h₅⟩)) λ_ _ h'=>fH h')) λ_ _ h'=>fH h'))
end
theorem UW{env:cQ}{x:aj}{k:NameKind}:∀{names:List (aj×NameKind)},(names.map λ(n,k)=>if(k==NameKind.free&&env.scope.kind== .function&&env.kindOf n==Ya .cell)then(n,NameKind.cell)else(n,k)).lookup x=Ya k ->
  ∃k0,names.lookup x=Ya k0/\(k0=k\/(k0= .free/\k= .cell)):=by
 intro names
 induction names with
 |nil=>intro h;simp at h|cons y r ih=>
  intro h;obtain⟨n,k1⟩:=y;rw[Y8]at h;cases hx:x==n with
  | true=>
   refine⟨k1,by simp[j8,hx],?_⟩;by_cases hc:(k1==NameKind.free&&env.scope.kind== .function&&env.kindOf n==Ya .cell)=true
   .simp only[if_pos hc,j8,hx]at h;cases h;simp only[Y9,beq_iff_eq]at hc;exact .inr ⟨hc.1.1,rfl⟩
   .simp only[if_neg hc,j8,hx]at h;cases h;exact .inl rfl
  | false=>
   have h':(r.map λ(n,k)=>if(k==NameKind.free&&env.scope.kind== .function&&env.kindOf n==Ya .cell)then(n,NameKind.cell)else(n,k)).lookup x=Ya k:=by
    by_cases hc:(k1==NameKind.free&&env.scope.kind== .function&&env.kindOf n==Ya .cell)=true
    .simp only[if_pos hc,j8,hx]at h;exact h
    .simp only[if_neg hc,j8,hx]at h;exact h
   obtain⟨k0,e,q⟩:=ih h';exact⟨k0,by simp[j8,hx,e],q⟩
theorem ZkL{env:cQ}{x:aj}:∀{names:List (aj×NameKind)},names.lookup x=Ya .free ->
  (names.map λ(n,k)=>if(k==NameKind.free&&env.scope.kind== .function&&env.kindOf n==Ya .cell)then(n,NameKind.cell)else(n,k)).lookup x=Ya .free\/
  (names.map λ(n,k)=>if(k==NameKind.free&&env.scope.kind== .function&&env.kindOf n==Ya .cell)then(n,NameKind.cell)else(n,k)).lookup x=Ya .cell:=by
 intro names
 induction names with
 |nil=>intro h;simp at h|cons y r ih=>
  intro h;obtain⟨n,k1⟩:=y;rw[Y8];cases hx:x==n with
  |true=>
   simp only[j8,hx]at h;cases h;by_cases hc:(NameKind.free==NameKind.free&&env.scope.kind== .function&&env.kindOf n==Ya .cell)=true
   .simp only[if_pos hc,j8,hx];exact .inr trivial
   .simp only[if_neg hc,j8,hx];exact .inl trivial
  |false=>
   simp only[j8,hx]at h;by_cases hc:(k1==NameKind.free&&env.scope.kind== .function&&env.kindOf n==Ya .cell)=true
   .simp only[if_pos hc,j8,hx];exact ih h
   .simp only[if_neg hc,j8,hx];exact ih h
section
variable {X:Cx} {pins:List (Yn×aB)} {σ:St} {H:Hp} {s:Yg} {scope:Scope} {N':List aj} {own:Nat} {fp:List Yn}
theorem Zlb(I:Inv X pins σ H s)(hk:scope.kind= .function)(hcell:∀y∈scope.names,y.2≠ .cell)(hfree:∀y∈scope.names,y.2= .free->X.env.kindOf y.1=Ya .cell\/X.env.kindOf y.1=Ya .free)(hN:N'.length=X.N.length+own)(hv:UT X.N N' scope=true)(hfp:∀b∈fp,gP X pins H b)(hlt:∀b∈fp,b<s.heap.objs.size){h1:au}{tk:Nat}(hns:h1.Ns s.heap.objs.size λ_=>Yk)(keep:∀b o,s.heap.get? b=Ya o->h1.get? b=Ya o):
  Inv (kW X scope N' s.heap.objs.size (gY X.env.cells scope.names []) s H fp) [] (σ++Yh own Yk) H {s with heap:=h1,toks:=tk}:=by
 have hc0:∀y∈scope.names,y.2= .free->∃c,X.env.cells.lookup y.1=Ya c:=λy hy e=>I.ok.has y.1 (hfree y hy e);have sub:∀x c,(gY X.env.cells scope.names []).lookup x=Ya c->X.env.cells.lookup x=Ya c:=λx c h=>by
  rcases Zop scope.names [] hc0 h with q|q
  .simp at q
  .exact q
 have cellK:∀{c:Yn} {v:Option Yd},s.heap.IsCell c v->h1.IsCell c v:=λ⟨o,ho,hd⟩=>⟨o,keep _ o ho,hd⟩;refine⟨⟨I.ok.mod,hk,I.ok.glob,I.ok.blt,Yl _,λx y c h1 h2=>I.ok.inj x y c (sub x c h1) (sub y c h2),λx hx=>?_,λx c h=>?_,I.ok.hd,I.ok.frames,.inl rfl,λb hb=>⟨Y6 (hlt b hb),λx c h=>(hfp b hb).2.2.2.2.1 x c (sub x c h)⟩,
   I.bs,Yu I.ok.nO I.sz,λb o e hb=>?_,λb hb hz=>?_,I.stack,I.Pn⟩,rfl,I.bare,Un.kept keep,⟨_,hns,λi x v h1 h2 h3=>?_⟩,λx c h=>?_,I.hok.fresh (Yl _),λx c h=>I.j5 x c (sub x c h),
  λp hp=>absurd (show p∈([]:List (Yn×aB))from hp) (by simp),I.hok.kept keep,?_⟩
 .have hx':(uT scope X.env).names.lookup x=Ya .cell\/(uT scope X.env).names.lookup x=Ya .free:=hx;have:scope.names.lookup x=Ya .free:=by
   rcases hx' with hx'|hx'
   .obtain⟨k0,e,q⟩:=UW (names:=scope.names) hx';rcases q with q|⟨q,_⟩
    .subst q;exact absurd rfl (hcell _ (sH e))
    .rw[e,q]
   .obtain⟨k0,e,q⟩:=UW (names:=scope.names) hx';rcases q with q|⟨_,q⟩
    .rw[e,q]
    .cases q
  exact Jr.mp (ZjI scope.names [] (sH this))
 .cases h
 .obtain⟨_,_,_,q,_⟩:=hfp b hb;rcases q with q|q
  .exact I.ok.wV b o e q
  .exact absurd (Yo (Yp e) (Yu I.ok.nO q)) (pQ _)
 .have hz':b∈frs X.stack:=hz;obtain⟨_,q1,q2,_⟩:=hfp b hb;rcases fj.mp (I.uG b hz')with e|e
  .exact q1 e
  .exact q2 e
 .have hi:i<σ.length:=by
   by_cases hi:i<σ.length
   .exact hi
   .rw[xH (pP hi),JW]at h2;split at h2<;>cases h2
  rw[Yw hi]at h2;have FW:i<X.N.length:=by rw[←I.len];exact hi
  have hN':N'[i]?=Ya x:=h1;have vq:=pK.mp hv i (Ab.mpr FW);rw[hN']at vq;have h3':(uT scope X.env).names.lookup x=Ya .local\/(uT scope X.env).names.lookup x=Ya .cell\/(uT scope X.env).names.lookup x=Ya .free:=h3;have some_of:∃k0,scope.names.lookup x=Ya k0:=by rcases h3' with q|q|q<;>(obtain⟨k0,e,_⟩:=UW (names:=scope.names) q;exact⟨k0,e⟩)
  obtain⟨k0,ek⟩:=some_of;simp only[ek,Option.isNone_some,Ro,Y9,decide_eq_true_eq]at vq;obtain⟨vq1,vq2⟩:=vq;cases vq2;have hkind:=hfree (x,.free) (sH ek) rfl;obtain⟨m,hn,hl⟩:=I.loc;have Adc:Gd X.env.scope x:=by
   rcases hkind with q|q
   .exact .inr (.inl q)
   .exact .inr (.inr q)
  obtain⟨u,ru,lk⟩:=hl i x v vq1 h2 Adc;refine⟨u,ru,?_⟩;rcases lk with⟨kl,_⟩|⟨_,c,ec,ic⟩
  .rcases hkind with q|q<;>(rw[q]at kl;cases kl)
  .have hkk:(uQ scope (gY X.env.cells scope.names []) s.heap.objs.size X.env).kindOf x=Ya .cell\/(uQ scope (gY X.env.cells scope.names []) s.heap.objs.size X.env).kindOf x=Ya .free:=by
    rcases ZkL (env:=X.env) ek with q|q
    .exact .inr q
    .exact .inl q
   obtain⟨c',ec'⟩:=Jr.mp (ZjI (cells:=X.env.cells) scope.names [] (sH ek));have e2:=sub x c' ec';rw[ec]at e2;cases e2;exact .inr ⟨hkk,c,ec',cellK ic⟩
 .obtain⟨v,ic⟩:=I.cell x c (sub x c h);exact⟨v,cellK ic⟩
 .show(σ++Yh own Yk).length=N'.length;rw[Yv,xM,I.len,hN]
theorem bj.grow{H:Hp}{σ:St}(E:bj K H ι env σ)(n:Nat):bj K H ι (env++Yh n Yk) (σ++Yh n Yk):=by
 refine⟨by simp[E.1],λi d h=>?_⟩;by_cases hi:i<env.length
 .rw[Yw hi]at h;obtain⟨v,e,r⟩:=E.2 i d h;exact⟨v,by rw[Yw (by rw[←E.1];exact hi)];exact e,r⟩
 .rw[xH (pP hi),JW]at h;split at h<;>cases h
end
section
structure Cb where
 Y:Cx
 fp:List Yn
 tn:Nat->au->Prop
 aD:gD
 H2:Hp
 ι2:List Yn
 Q:VK
 g:G3
 ts:List E3
 f:E3
 nM:Nat
 acc:Yn
inductive U0(P:Cb)(n:Nat)(s':Yg):Prop
 | mk (k:Nat) (σ5:St) (H5:Hp) (ι5:List Yn) (M5:Store) (wW:Zt) (I5:Inv P.Y [] σ5 H5 s') (jb:P.tn k s'.heap) (jQ:∀b∈P.fp,H5 b=Yk) (hn:P.aD.items.length-k=n) (hk:k<=P.aD.items.length)
   (x5:Ext P.Y.K P.H2 P.ι2 H5 ι5) (S5:ao P.Y.K H5 ι5 M5) (E5:bj P.Y.K H5 ι5 wW σ5) (hι:ι5[P.nM]?=Ya P.acc) (h5:Zy P.Y.K H5 ι5 P.Q (dF P.aD P.g P.ts P.f P.nM (P.aD.items.drop k) wW M5))
def Mv(P:Cb)(n:Nat)(s':Yg):Prop:=∃m,m<n/\U0 P m s'
section
noncomputable local instance (priority:=100000) AfD (p:Prop):Decidable p:=YH p
noncomputable def Mw(P:Cb)(k:Nat)(env:Zt)(e:D)(M2:Store):R3 D:=match M2[P.nM]? with
 |some (.lst x)=>if x.length<SZ then dF P.aD P.g P.ts P.f P.nM (P.aD.items.drop (k+1)) env (M2.set P.nM (.lst (x++[e])))else .bad|_=>.bad
noncomputable def U3(P:Cb)(k:Nat)(env:Zt)(b:Bool)(M1:Store):R3 D:=if b then(P.f env M1).bind (Mw P k env)else dF P.aD P.g P.ts P.f P.nM (P.aD.items.drop (k+1)) env M1
end
def cbF(P:Cb)(n:Nat)(xv:Yd)(s:Yg):Prop:=Yy (Y4 P.Y.prog P.Y.w) P.Y.A (call (.builtin "list.append") [.ref P.acc,xv]) (λ_ s'=>Mv P n s') P.Y.xe s
def cbO(P:Cb)(elt:Expr)(n:Nat)(ok:Bool)(s:Yg):Prop:=if ok=true then Yy (Y4 P.Y.prog P.Y.w) P.Y.A (aH elt P.Y.env) (cbF P n) P.Y.xe s else Mv P n s
def cbS(P:Cb)(elt:Expr)(ifs:List Expr)(n:Nat)(s:Yg):Prop:=Yy (Y4 P.Y.prog P.Y.w) P.Y.A (forIn ifs true λc r=>if r=true then do let ok ←isTrue c P.Y.env (aH c P.Y.env);pure (ForInStep.yield ok)else pure (ForInStep.yield r)) (cbO P elt n) P.Y.xe s
def cbA(P:Cb)(tg elt:Expr)(ifs:List Expr)(n:Nat)(u:Yd)(s:Yg):Prop:=Yy (Y4 P.Y.prog P.Y.w) P.Y.A (jw tg P.Y.env u) (λ_=>cbS P elt ifs n) P.Y.xe s
def cbN(P:Cb)(tg elt:Expr)(ifs:List Expr)(it:Yn)(n:Nat)(F:Yg->Prop)(r:Option Yd)(s:Yg):Prop:=match r with
 |none=>F s|some v=>Yy (Y4 P.Y.prog P.Y.w) P.Y.A (w6 tg (.ref it) v) (λ_=>cbA P tg elt ifs n v) P.Y.xe s
variable {P:Cb} {tg elt:Expr} {ifs:List Expr} {J:It} {it:Yn} {k:Nat} {h7:au} {σ:St} {H H':Hp} {s:Yg} {ι:List Yn} {M M1:Store} {env:Zt}
theorem ZnY(T:Turn P.Y.prog P.Y.w P.Y.K tg J P.fp it P.tn)(iM:P.tn (k+1) h7)(hlt:k<P.aD.items.length)(I':Inv P.Y ([]++pU P.fp h7) σ H s)(x:Ext P.Y.K P.H2 P.ι2 H ι)(S:ao P.Y.K H ι M)(E:bj P.Y.K H ι env σ)(hι:ι[P.nM]?=Ya P.acc)(h:Zy P.Y.K H ι P.Q (dF P.aD P.g P.ts P.f P.nM (P.aD.items.drop (k+1)) env M)):Mv P (P.aD.items.length-k) s:=⟨P.aD.items.length-(k+1),lD 2 0x30113c2012a1c0c21 T1 (lG (lB 1 6991908881 T1 hlt)) (lK _ _),⟨k+1,σ,H,ι,M,env,I'.zE,T.keep _ _ _ iM λb hb o e=>(I'.pin (b,o) (mD _ (mD _ (Bb hb e)))).1,λb hb=>(T.obj _ _ iM b hb).elim λo e=>(I'.pin (b,o) (mD _ (mD _ (Bb hb e.1)))).2.1,rfl,hlt,x,S,E,hι,h⟩⟩
theorem ZwW:U3 P k env true M=(P.f env M).bind (Mw P k env):=if_pos rfl
theorem ZxM:U3 P k env false M=dF P.aD P.g P.ts P.f P.nM (P.aD.items.drop (k+1)) env M:=if_neg (by decide)
theorem Zy.iff{H:Hp}{ι:List Yn}{Q:VK}{c:Prop}{dc:Decidable c}{r:R3 D}(h:Zy K H ι Q (if c then r else .bad)):c/\Zy K H ι Q r:=by
 by_cases hc:c
 .rw[if_pos hc]at h;exact⟨hc,h⟩
 .rw[if_neg hc]at h;exact h.elim
theorem ZuV{v:V}{xv:Yd}(T:Turn P.Y.prog P.Y.w P.Y.K tg J P.fp it P.tn)(iM:P.tn (k+1) h7)(hlt:k<P.aD.items.length)(I':Inv P.Y ([]++pU P.fp h7) σ H s)(r:RelV v xv)(x:Ext P.Y.K P.H2 P.ι2 H ι)(S:ao P.Y.K H ι M)(E:bj P.Y.K H ι env σ)(rd:Rep P.Y.K H ι d v)(hι:ι[P.nM]?=Ya P.acc)(hm:M[P.nM]?=Ya (.lst xs))(hz:xs.length<SZ)(h:Zy P.Y.K H ι P.Q (dF P.aD P.g P.ts P.f P.nM (P.aD.items.drop (k+1)) env (M.set P.nM (.lst (xs++[d]))))):
  cbF P (P.aD.items.length-k) xv s:=by
 obtain⟨vs,ev,rvs⟩:=S.obj _ _ _ hm hι;obtain⟨x11,U4⟩:=S.zJ (.inr (.inl ⟨_,ev⟩)) hι (rvs.append (Zx.cons rd Zx.nil));refine aG (Q':=λ_ s'=>Mv P (P.aD.items.length-k) s') (Tp _ s σ H (.ref P.acc) [v] (.ref P.acc) [xv] (λ_ H'=>H'=upd H P.acc (.lst (vs++[v]))) I' rfl (.cons r .nil) ⟨_,vs,v,rfl,rfl,ev,by rw[rvs.length];exact Yo hz lU,rfl⟩) λ_ s11 ak=>?_;obtain⟨_,H11,G_,_,eH⟩:=ak;rw[eH]at G_;exact ZnY T iM hlt G_ (x.trans x11) U4 (E.mono x11) (x11.pre _ _ hι) (h.up x11)
theorem Zvt(T:Turn P.Y.prog P.Y.w P.Y.K tg J P.fp it P.tn)(helt:C3 P.Y elt P.f)(iM:P.tn (k+1) h7)(hlt:k<P.aD.items.length)(I':Inv P.Y ([]++pU P.fp h7) σ H s)(x:Ext P.Y.K P.H2 P.ι2 H ι)(S:ao P.Y.K H ι M)(E:bj P.Y.K H ι env σ)(hι:ι[P.nM]?=Ya P.acc)(h:Zy P.Y.K H ι P.Q ((P.f env M).bind (Mw P k env))):
  Yy (Y4 P.Y.prog P.Y.w) P.Y.A (aH elt P.Y.env) (cbF P (P.aD.items.length-k)) P.Y.xe s:=by
 obtain⟨d,yI,e10,h10⟩:=Zy.bind h;refine aG (Q':=cbF P (P.aD.items.length-k)) (helt _ s σ H (λv H'=>∃ul,Ext P.Y.K H ι H' ul/\ao P.Y.K H' ul yI/\Rep P.Y.K H' ul d v) I' ⟨ι,M,env,S,E,by rw[e10];exactλv H' ι' x' S' r'=>⟨ι',x',S',r'⟩⟩) λxv s10 ak=>?_;obtain⟨v,H10,U5,r10,ul,x10,U6,rd⟩:=ak;unfold Mw at h10;cases hm:yI[P.nM]? with
 |none=>rw[hm]at h10;exact h10.elim|some o=>
  rw[hm]at h10;cases o with
  |dct _=>exact h10.elim|dj _=>exact h10.elim|ins _ _=>exact h10.elim|lst xs=>exact ZuV T iM hlt U5 r10 (x.trans x10) U6 (E.mono x10) rd (x10.pre _ _ hι) hm (Zy.iff h10).1 ((Zy.iff h10).2.up x10)
theorem ZuH(T:Turn P.Y.prog P.Y.w P.Y.K tg J P.fp it P.tn)(hts:vZ P.Y ifs P.ts)(helt:C3 P.Y elt P.f)(iM:P.tn (k+1) h7)(hlt:k<P.aD.items.length)(I':Inv P.Y ([]++pU P.fp h7) σ H s)(x:Ext P.Y.K P.H2 P.ι2 H ι)(S:ao P.Y.K H ι M)(E:bj P.Y.K H ι env σ)(hι:ι[P.nM]?=Ya P.acc)(h:Zy P.Y.K H ι P.Q ((vN P.ts env M).bind (U3 P k env))):
  cbS P elt ifs (P.aD.items.length-k) s:=by
 obtain⟨b,M9,e9,h9⟩:=Zy.bind h;refine aG (Q':=cbO P elt (P.aD.items.length-k)) (hts _ s σ H (λb' H'=>b'=b/\∃ι9,Ext P.Y.K H ι H' ι9/\ao P.Y.K H' ι9 M9) I' ⟨ι,M,env,S,E,by rw[e9];exactλH' ι' x' S'=>⟨rfl,ι',x',S'⟩⟩) λb' s9 ak=>?_;obtain⟨H9,I9,eb,ι9,x9,S9⟩:=ak;rw[←eb]at h9;cases b' with
 |false=>exact ZnY T iM hlt I9 (x.trans x9) S9 (E.mono x9) (x9.pre _ _ hι) (Zy.up x9 (ZxM▸h9))|true=>exact Zvt T helt iM hlt I9 (x.trans x9) S9 (E.mono x9) (x9.pre _ _ hι) (Zy.up x9 (ZwW▸h9))
theorem Zxg(T:Turn P.Y.prog P.Y.w P.Y.K tg J P.fp it P.tn)(hc:P.Y.calm=true)(hfp:∀{H':Hp},(∀b∈P.fp,H' b=Yk)->∀b∈P.fp,gP P.Y [] H' b)(hg:CG P.Y tg P.g)(hts:vZ P.Y ifs P.ts)(helt:C3 P.Y elt P.f)(hlt:k<P.aD.items.length)(I5:Inv P.Y [] σ H s)(jb:P.tn k s.heap)(jQ:∀b∈P.fp,H b=Yk)(x:Ext P.Y.K P.H2 P.ι2 H ι)(S:ao P.Y.K H ι M)(E:bj P.Y.K H ι env σ)(hι:ι[P.nM]?=Ya P.acc)(ok:kI P.Y.K P.H2 P.ι2 P.aD J)(h:Zy P.Y.K H ι P.Q (dF P.aD P.g P.ts P.f P.nM (P.aD.items[k]::P.aD.items.drop (k+1)) env M))(F:Yg->Prop):
  Yy (Y4 P.Y.prog P.Y.w) P.Y.A (iu (.ref it)) (cbN P tg elt ifs it (P.aD.items.length-k) F) P.Y.xe s:=by
 obtain⟨lk,h⟩:=Zy.iff h;obtain⟨go,yl⟩:=(ok k H ι M x S lk).1 _ (Y5 hlt);cases eg:P.g P.aD.items[k] env with
 |none=>rw[eg]at h;exact h.elim|some zK=>rw[eg]at h;refine aG (T.item P.Y rfl rfl rfl hc k [] s σ H P.Y.xe I5 (hfp jQ) jb go) λr s6 ak=>?_;obtain⟨u,hr,h6⟩:=ak;rw[hr];refine aG (Q':=λ_=>cbA P tg elt ifs (P.aD.items.length-k) u) h6 λ_ s7 ak=>?_;obtain⟨y,H7,I7,r7,y7,iM,Hf⟩:=ak;obtain⟨e7,rx⟩:=yl y H7 y7;rw[e7]at I7 Hf;refine aG (Q':=λ_=>cbS P elt ifs (P.aD.items.length-k)) (hg _ s7 σ H y u (λσ' H'=>H'=H/\bj P.Y.K H ι zK σ') (I7.pinned (hfp Hf) (T.obj _ _ iM)) r7 ⟨ι,M,env,_,zK,S,E,rx,eg,λσ' E'=>⟨rfl,E'⟩⟩) λ_ s8 ak=>?_;obtain⟨σ8,H8,I8,e8,E8⟩:=ak;rw[e8]at I8;exact ZuH T hts helt iM hlt I8 x S E8 hι h
theorem Zs9(T:Turn P.Y.prog P.Y.w P.Y.K tg J P.fp it P.tn)(hc:P.Y.calm=true)(hfp:∀{H':Hp},(∀b∈P.fp,H' b=Yk)->∀b∈P.fp,gP P.Y [] H' b)(I5:Inv P.Y [] σ H s)(jb:P.tn P.aD.items.length s.heap)(jQ:∀b∈P.fp,H b=Yk)(x:Ext P.Y.K P.H2 P.ι2 H ι)(S:ao P.Y.K H ι M)(hι:ι[P.nM]?=Ya P.acc)(ok:kI P.Y.K P.H2 P.ι2 P.aD J)(h:Zy P.Y.K H ι P.Q (dF P.aD P.g P.ts P.f P.nM [] env M)){F:Yg->Prop}(hF:∀s6,Inv P.Y [] σ H s6->P.Q (.ref P.acc) H->F s6):
  Yy (Y4 P.Y.prog P.Y.w) P.Y.A (iu (.ref it)) (cbN P tg elt ifs it n F) P.Y.xe s:=by
 obtain⟨lk,h⟩:=Zy.iff h;refine aG (T.done P.Y rfl rfl rfl hc _ [] s σ H P.Y.xe I5 (hfp jQ) jb ((ok _ H ι M x S lk).2 rfl)) λr s6 ak=>?_;rw[ak.1];exact hF s6 ak.2 (h _ H ι Ext.refl S (Rep.ref hι))
end
variable{s:Yg}{pins:List (Yn×aB)}{fp:List Yn}{E:Yd->Yg->Prop}{it:Yn}
section
variable {X:Cx} {elt tg iter:Expr} {ifs:List Expr} {scope:Scope} {pos:aP} {i:I3} {own:Nat} {g:G3} {ts:List E3} {f:E3} {N':List aj}
structure yJ(X:Cx)(scope:Scope)(N':List aj)(own:Nat):Prop where
 kind:scope.kind= .function
 cell:∀y∈scope.names,y.2≠ .cell
 free:∀y∈scope.names,y.2= .free->X.env.kindOf y.1=Ya .cell\/X.env.kindOf y.1=Ya .free
 names:∀y∈scope.names,y.2= .local->scope.names.lookup y.1=Ya .local
 len:N'.length=X.N.length+own
 vis:UT X.N N' scope=true
theorem Zsz{P:Cb}{J:It}{F:Yg->Prop}(T:Turn P.Y.prog P.Y.w P.Y.K tg J P.fp it P.tn)(hc:P.Y.calm=true)(hfp:∀{H':Hp},(∀b∈P.fp,H' b=Yk)->∀b∈P.fp,gP P.Y [] H' b)(hb:CG P.Y tg P.g/\vZ P.Y ifs P.ts/\C3 P.Y elt P.f)(ok:kI P.Y.K P.H2 P.ι2 P.aD J)(z:U0 P n s)(fin:∀σ H s',Inv P.Y [] σ H s'->P.Q (.ref P.acc) H->F s'):Yy (Y4 P.Y.prog P.Y.w) P.Y.A (iu (.ref it)) (cbN P tg elt ifs it n F) P.Y.xe s:=by
 obtain⟨k,σ5,H5,ι5,M5,wW,I5,jb,jQ,hn,hk,x5,S5,E5,hι,h5⟩:=z;by_cases hlt:k<P.aD.items.length
 .rw[xJ hlt]at h5;exact hn▸Zxg T hc hfp hb.1 hb.2.1 hb.2.2 hlt I5 jb jQ x5 S5 E5 hι ok h5 _
 .rw[iw hk (pP hlt)]at jb h5;rw[Fj]at h5;exact Zs9 T hc hfp I5 jb jQ x5 S5 hι ok h5 λs6 I6 q=>fin σ5 H5 s6 I6 q
theorem ZlV{s3:Yg}{H2 H3:Hp}{ι2 ι3:List Yn}{M3:Store}{nM:Nat}{D:Yn}{tn:Nat->au->Prop}{J:It}{aD:gD}{Q:VK}(O:yJ X scope N' own)(hc:X.calm=true)(hb:∀C cl s H ex,CG (kW X scope N' C cl s H ex) tg g/\vZ (kW X scope N' C cl s H ex) ifs ts/\C3 (kW X scope N' C cl s H ex) elt f)(T:Turn X.prog X.w X.K tg J fp it tn)(st3:tn 0 s3.heap)(uM:∀b∈fp,b<s3.heap.objs.size)(I3:Inv X pins σ H3 s3)(ig:∀b∈fp,gP X pins H3 b)(x3:Ext X.K H2 ι2 H3 ι3)(S3:ao X.K H3 ι3 M3)(E2:bj X.K H3 ι3 env σ)(ok:kI X.K H2 ι2 aD J)(h:Zy X.K H3 ι3 Q (dF aD g ts f nM aD.items (env++Yh own Yk) M3))(hι:ι3[nM]?=Ya D)(RR:Yd->Yn->pI->Yg->Prop)(fin:∀(acc C:Yn) (s':Yg) (m:aj->Option Yd) (H':Hp),s'.heap.Ns C m->gP X pins H' C->Inv X pins σ H' s'->Q (.ref acc) H'->RR (.ref acc) C (.ok .next) s'):
  Yy (Y4 X.prog X.w) X.A (Qv scope X.env.globals (gY X.env.cells scope.names []) [] X.env.qual Yk .none (Ya X.env)) (λcenv s₄=>jM (Y4 X.prog X.w) X.A (.compStart (.ListComp elt [⟨tg,iter,ifs,0⟩] scope pos) 0 (.ref it) (.ref D) {cenv with scope:=uT scope X.env}) (RR (.ref D) cenv.locals) s₄) E s3:=by
 refine Yix O.cell (by intro y hy;cases hy) (λh4 hns hsb=>?_) O.kind;have En:∀b o,s3.heap.get? b=Ya o->h4.get? b=Ya o:=λb o e=>hsb.extBut b o (Y6 (Yp e)) (Yj _ e);have I4:=Zlb (own:=own) (N':=N') (tk:=s3.toks+([]:List (aj×Yd)).length) I3 O.kind O.cell O.free O.len O.vis ig uM hns En;have Hg:tn 0 h4:=T.keep _ _ _ st3 λb hb o e=>En b o e;have L:=ZkW (prog:=X.prog) (w:=X.w) (A:=X.A) (R:=RR (.ref D) s3.heap.objs.size) (scope:=scope) (pos:=pos) (iter:=iter) (elt:=elt) (target:=tg) (ifs:=ifs) (env:=uQ scope (gY X.env.cells scope.names []) s3.heap.objs.size X.env) (U0 ⟨kW X scope N' s3.heap.objs.size (gY X.env.cells scope.names []) s3 H3 fp,fp,tn,aD,H2,ι2,Q,g,ts,f,nM,D⟩) (λn s5 z=>Zsz (P:=⟨kW X scope N' s3.heap.objs.size (gY X.env.cells scope.names []) s3 H3 fp,fp,tn,aD,H2,ι2,Q,g,ts,f,nM,D⟩) T hc
  (λhn b hb=>⟨hn b hb,Y6 (uM b hb),λhz=>I4.ok.uI b hb hz,.inl hb,λx c hx=>(I4.ok.A_ b hb).2 x c hx,λp hp=>absurd (show p∈([]:List (Yn×aB))from hp) (by simp)⟩)
  (hb _ _ _ _ _) ok z
  λσ' H' s6 I6 q=>I6.loc.elim λm6 Hh=>fin _ _ s6 m6 H' Hh.1 (I3.uJ (Yl _) I6.free) (I3.call' (ch:=fp) I6.os I6.base I6.hok I6.bare λb hb=>⟨(ig b hb).2.2.2.1,(ig b hb).2.1,(ig b hb).2.2.2.2.1,(ig b hb).2.2.2.2.2⟩) q) _
  ⟨0,_,_,_,_,_,I4,Hg,λb hb=>(ig b hb).1,rfl,eN _,x3,S3,E2.grow own,hι,h⟩
 exact Yhu L (T.self _ 0 _ _ _ Hg L)
theorem ZiI{s2:Yg}{H2:Hp}{ι2:List Yn}{M2:Store}{tn:Nat->au->Prop}{J:It}{aD:gD}{Q:VK}(O:yJ X scope N' own)(hc:X.calm=true)(hb:∀C cl s H ex,CG (kW X scope N' C cl s H ex) tg g/\vZ (kW X scope N' C cl s H ex) ifs ts/\C3 (kW X scope N' C cl s H ex) elt f)(I2:Inv X pins σ H2 s2)(T:Turn X.prog X.w X.K tg J fp it tn)(st0:tn 0 s2.heap)(hfp:∀b∈fp,gP X pins H2 b)(S2:ao X.K H2 ι2 M2)(E2:bj X.K H2 ι2 env σ)(ok:kI X.K H2 ι2 aD J)(h:Zy X.K H2 ι2 Q (dF aD g ts f M2.length aD.items (env++Yh own Yk) (M2++[.lst []])))(RR:Yd->Yn->pI->Yg->Prop)(fin:∀(acc C:Yn) (s':Yg) (m:aj->Option Yd) (H':Hp),s'.heap.Ns C m->gP X pins H' C->Inv X pins σ H' s'->Q (.ref acc) H'->RR (.ref acc) C (.ok .next) s'):
  Yy (Y4 X.prog X.w) X.A (JK []) (λacc s₃=>Yy (Y4 X.prog X.w) X.A (Qv scope X.env.globals (gY X.env.cells scope.names []) [] X.env.qual Yk .none (Ya X.env)) (λcenv s₄=>jM (Y4 X.prog X.w) X.A (.compStart (.ListComp elt [⟨tg,iter,ifs,0⟩] scope pos) 0 (.ref it) acc {cenv with scope:=uT scope X.env}) (RR acc cenv.locals) s₄) E s₃) E s2:=by
 refine oH ?_;have hD:H2 s2.heap.objs.size=Yk:=I2.hok.fresh (Yl _);obtain⟨x3,S3,r3⟩:=S2.lst hD (Zx.nil (K:=X.K) (H:=H2) (ι:=ι2));have I3:Inv X pins σ (upd H2 s2.heap.objs.size (.lst [])) {s2 with heap:=s2.heap.push {cls:=.type "list",data:=.seq ([]:List Yd).toArray}}:=I2.laid (t':=s2.toks) (λb u e=>Yj _ e) (Yl _) ⟨eN _,[],0,.nil,Y0 _ rfl⟩;have sE:∀b o,s2.heap.get? b=Ya o->(s2.heap.push {cls:=.type "list",data:=.seq ([]:List Yd).toArray}).get? b=Ya o:=λb o e=>Yj _ e;generalize hs3:({s2 with heap:=s2.heap.push {cls:=.type "list",data:=.seq ([]:List Yd).toArray}}:Yg)=s3 at I3 ⊢;have sE:∀b o,s2.heap.get? b=Ya o->s3.heap.get? b=Ya o:=by rw[←hs3];exact sE
 have U7:∀b∈fp,b<s2.heap.objs.size:=λb hb=>(T.obj _ _ st0 b hb).elim λo e=>Yp e.1;have uM:∀b∈fp,b<s3.heap.objs.size:=λb hb=>(T.obj _ _ st0 b hb).elim λo e=>Yp (sE b o e.1);exact ZlV O hc hb (T:=T) (st3:=T.keep _ _ _ st0 λb hb o e=>sE b o e) (uM:=uM) (I3:=I3) (ig:=λb hb=>⟨(dg (Y6 (U7 b hb))).trans (hfp b hb).1,(hfp b hb).2⟩) (x3:=x3) (S3:=S3) (E2:=E2.mono x3) (ok:=ok) (h:=h.up x3) (hι:=by rw[←S2.len];simp) RR fin
theorem ZwD(O:yJ X scope N' own)(yF:X.xe=λ_ _=>False)(hc:X.calm=true)(hi:CI X tg iter i)(hb:∀C cl s H ex,CG (kW X scope N' C cl s H ex) tg g/\vZ (kW X scope N' C cl s H ex) ifs ts/\C3 (kW X scope N' C cl s H ex) elt f)(hs:∀x,wY iter X.env x=pure x:=by intro _;rfl):C3 X (.ListComp elt [⟨tg,iter,ifs,0⟩] scope pos) (mV i own g ts f):=by intro pins s σ H Q I h;obtain⟨ι,M,env,S,E,h⟩:=h;obtain⟨aD,M1,e1,h⟩:=Zy.bind h;have hc0:∀y∈scope.names,y.2= .free->∃c,X.env.cells.lookup y.1=Ya c:=λy hy e=>I.ok.has y.1 (O.free y hy e);rw[eval_ListComp];refine Qi (use:=Yk) rfl hs (UL hc0) O.kind O.names ?_;refine aG (hi pins s σ H (λJ H'=>∃ι',Ext X.K H ι H' ι'/\ao X.K H' ι' M1/\kI X.K H' ι' aD J) I ⟨ι,M,env,S,E,by rw[e1];exactλJ H' ι' x S' o=>⟨ι',x,S',o⟩⟩) λv s1 h1=>aG h1 λitv s2 h2=>?_;obtain⟨it,fp,tn,J,H2,rfl,I2,T,st2,f2,ι2,x2,S2,ok⟩:=h2;refine ZiI (own:=own) (g:=g) (ts:=ts) (f:=f) O hc hb I2 T st2 f2 S2 (E.mono x2) ok (h.up x2) (λacc C=>sI (Y4 X.prog X.w) X.A X.xe Yk (EP X pins σ Q) acc C) ?_;intro acc C s' m H' hn hf I' hq;obtain⟨f0,f1,f2',f3,f4,f5⟩:=hf;exact⟨m,hn,λh' sb=>⟨.ref acc,H',I'.turned (t':=s'.toks) (λb o hb e=>(sb.2 b hb).trans e) f0 f1 f3 f4 f5,rfl,hq⟩⟩
theorem Zla(j:Nat){x:aj}{pos' spos:aP}(O:yJ X scope N' own)(yF:X.xe=λ_ _=>False)(hc:X.calm=true)(hN:X.N.Nodup)(hi:CI X tg iter i)(hb:∀C cl s H ex,CG (kW X scope N' C cl s H ex) tg g/\vZ (kW X scope N' C cl s H ex) ifs ts/\C3 (kW X scope N' C cl s H ex) elt f)(hj:X.N[j]?=Ya x:=by rfl)(hx:Loc X.env.scope x:=by first|exact Or.inl rfl|exact Or.inr rfl)(hf:X.fn x=true\/X.env.scope.names.lookup x=Ya .local:=by first|exact .inl rfl|exact .inr rfl)(hsw:nq (.ListComp elt [⟨tg,iter,ifs,0⟩] scope pos) (Ya (.Name x pos')) spos.line X.env=pure true:=by rfl)(hs:∀x,wY iter X.env x=pure x:=by intro _;rfl):CS X (.Assign [.Name x pos'] (.ListComp elt [⟨tg,iter,ifs,0⟩] scope pos) spos) (aJ j (mV i own g ts f)):=by
 intro pins s σ H D I h;obtain⟨ι,M,env,S,E,h⟩:=h;have h0:Zy X.K H ι (λv H'=>D.nx (σ.set j (Ya v)) H') (mV i own g ts f env M):=by
  unfold aJ at h;cases q:mV i own g ts f env M with
  |ok d M1=>rw[q]at h;exactλv H1 ι1 x1 S1 r1=>h _ H1 ι1 x1 S1 ((E.mono x1).set j r1)|exc _ _=>rw[q]at h;exact h.elim|bad=>rw[q]at h;exact h.elim
 obtain⟨aD,M1,e1,h1⟩:=Zy.bind h0;have hc0:∀y∈scope.names,y.2= .free->∃c,X.env.cells.lookup y.1=Ya c:=λy hy e=>I.ok.has y.1 (O.free y hy e);rw[Yig _ _ _ _ hsw];refine Yb (EY (Yb ?_));show Yy _ X.A (do let _ ←comprehension (.ListComp elt [⟨tg,iter,ifs,0⟩] scope pos) scope X.env _ (JK []) false (aH iter X.env) (Ya (jw (.Name x pos') X.env))) _ _ s;refine Yb (fc (Qi (use:=Ya (jw (.Name x pos') X.env)) (Q:=λ_ s'=>SP X pins D .next s') rfl hs (UL hc0) O.kind O.names ?_) (λ_ s' hq=>Yi (Yi hq)) λ_ _ e=>e);refine aG (hi pins s σ H (λJ H'=>∃ι',Ext X.K H ι H' ι'/\ao X.K H' ι' M1/\kI X.K H' ι' aD J) I ⟨ι,M,env,S,E,by rw[e1];exactλJ H' ι' x S' o=>⟨ι',x,S',o⟩⟩) λv s1 h1'=>aG h1' λitv s2 h2=>?_;obtain⟨it,fp,tn,J,H2,rfl,I2,T,st2,f2,ι2,x2,S2,ok⟩:=h2;refine ZiI (own:=own) (g:=g) (ts:=ts) (f:=f) O hc hb I2 T st2 f2 S2 (E.mono x2) ok (h1.up x2) (λacc C=>sI (Y4 X.prog X.w) X.A X.xe (Ya (jw (.Name x pos') X.env)) (λ_ s'=>SP X pins D .next s') acc C) ?_;intro acc C s' m H' hn U8 I' hq;obtain⟨f0,f1,f2',f3,f4,f5⟩:=U8;show Yy _ X.A (jw (.Name x pos') X.env (.ref acc)) _ _ s';refine Qn (Su I' hN hj hx (show RelV (.ref acc) (.ref acc)from rfl) (λs'' U9 ⟨a,sb,ha⟩=>?_) hf);have U_:C≠a:=by
  rcases ha with rfl|ha
  .exact f1
  .exact bK (f4 x a ha)
 exact⟨m,hn.sameBut sb U_,λh' Va=>⟨_,H',U9.turned (t':=s''.toks) (λb o hb e=>(Va.2 b hb).trans e) f0 f1 f3 f4 f5,hq⟩⟩
end
theorem gK{k:Nat}(r:cN k A):A.units+80<eG:=by have:=r.un;exact lC 1 0x2502b0c12c82b110d0cc11 T1 this
noncomputable def Its(x:aj):It:=⟨λi _=>i<x.cps.size,λi H y H'=>H'=H/\∃c,x.cps[i]?=Ya c/\y= .str ⟨#[c]⟩,λi _=>i=x.cps.size⟩
variable{w:aU}
theorem Zpy{P:aX}{tg:Expr}{x:aj}{t:jx}{ty:String}(W:∀A':bB,A'.handled=Yk->Walks P w A' it [it] [it] x.cps.size (SignAt x) (λi h=>h.IsStrIter it ty x t i))(hs:∀(A:bB) (i:Nat) (s:Yg) (Q:Yd->Yg->Prop) (E:Yd->Yg->Prop),s.heap.IsStrIter it ty x t i->Q (.ref it) s->Yy (Y4 P w) A (zX (.ref it)) Q E s)(hty:["enumerate","zip","dict_itemiterator","dict_reverseitemiterator","odict_iterator","itertools.zip_longest","itertools.pairwise"].contains ty=false):Turn P w K tg (Its x) [it] it (λi h=>h.IsStrIter it ty x t i)where
 mem:=by simp
 obj:=λi h st b hb=>by
  have e:b=it:=by simpa using hb
  subst e;obtain⟨o,e,c,d⟩:=st;exact⟨o,e,λv z=>by rw[d]at z;cases z⟩
 keep:=λi h h' st k=>let⟨o,e,r⟩:=st;⟨o,k it (by simp) o e,r⟩
 item:=by intro X hP hw hK hc i pins s σ H E I hf st hg;subst hP hw hK;obtain⟨f0,f1,f2,f3,f4,f5⟩:=hf it (by simp);refine(W X.A (I.ok.hd hc)).item i s _ _ hg st λv h' tk hv st' kk=>?_;obtain⟨c,u,hx,rfl⟩:=hv;have I1:Inv X pins σ H {s with heap:=h',toks:=tk}:=I.turned (λb o hb e=>kk b o (by simpa using hb) e) f0 f1 f3 f4 f5;obtain⟨o,e,cc,d⟩:=id st';exact⟨_,rfl,K3 (s:={s with heap:=h',toks:=tk}) e cc d hty ⟨.str ⟨#[c]⟩,H,I1,⟨u,rfl⟩,⟨rfl,c,hx,rfl⟩,st',λb hb=>(hf b hb).1⟩⟩
 done:=by intro X hP hw hK hc i pins s σ H E I hf st hg;subst hP hw hK;obtain⟨f0,f1,f2,f3,f4,f5⟩:=hf it (by simp);have e:i=x.cps.size:=hg;subst e;exact(W X.A (I.ok.hd hc)).done s _ _ st λh' tk kk=>⟨rfl,I.turned (λb o hb e=>kk b o (by simpa using hb) e) f0 f1 f3 f4 f5⟩
 self:=hs
section
variable {X:Cx} {tg e o:Expr} {es:List Expr} {pos p apos cpos:aP} {f:E3} {gl:cF}
theorem ZvC(h:C3 X e f):PI X tg e (λσ H R=>nW X.K f σ H λx H1=>∃z:aj,x= .str z/\z.length<=SZ/\∀J,(∀ι,kI X.K H1 ι ⟨z.cps.toList.map λc=>.str [c],Yk⟩ J)->R J H1):=by
 intro pins s σ H R I hw;refine aG (h pins s σ H _ I hw) λv s1 ak=>?_;obtain⟨x,H1,I1,r1,z,ex,hz,q⟩:=ak;subst ex;obtain⟨t,rfl⟩:=r1;have key:∀(ty:String) (o:aB),(∀A':bB,A'.handled=Yk->Walks X.prog X.w A' s1.heap.objs.size [s1.heap.objs.size] [s1.heap.objs.size] z.cps.size (SignAt z) (λi h=>h.IsStrIter s1.heap.objs.size ty z t i)) ->
   (∀(A:bB) (i:Nat) (s:Yg) (Q:Yd->Yg->Prop) (E:Yd->Yg->Prop),s.heap.IsStrIter s1.heap.objs.size ty z t i->Q (.ref s1.heap.objs.size) s->Yy (Y4 X.prog X.w) A (zX (.ref s1.heap.objs.size)) Q E s) ->
   ["enumerate","zip","dict_itemiterator","dict_reverseitemiterator","odict_iterator","itertools.zip_longest","itertools.pairwise"].contains ty=false->(s1.heap.push o).IsStrIter s1.heap.objs.size ty z t 0 ->
   PIE X pins σ tg R (.ref s1.heap.objs.size) {s1 with heap:=s1.heap.push o}:=by
  intro ty o W hs hty st;refine⟨s1.heap.objs.size,[s1.heap.objs.size],_,_,H1,rfl,I1.kept (t':=s1.toks) λb o e=>Yj _ e,Zpy W hs hty,st,λb hb=>?_,q _ λι=>?_⟩
  .have e:b=s1.heap.objs.size:=by simpa using hb
   subst e;exact I1.uJ (Yl _) (I1.hok.fresh (Yl _))
  .intro i H2 ι2 M2 x S _;refine⟨λd hd=>?_,λhl=>?_⟩
   .rw[nG]at hd;cases hq:z.cps.toList[i]? with
    |none=>rw[hq]at hd;cases hd|some c=>
     rw[hq]at hd;have hd':D.str [c]=d:=by simpa using hd
     subst hd';have hi:i<z.cps.size:=by have:=(Ye.mp hq).1;simpa using this
     refine⟨hi,λy H3 hy=>⟨hy.1,?_⟩⟩;obtain⟨_,c',hc',rfl⟩:=hy;have:c'=c:=by rw[←RL,hq]at hc';exact(Y3 hc').symm
     subst this;exact Rep.str
   .show i=z.cps.size;rw[hl];simp
 cases ha:z.cps.all (· <128)
 .exact wpAny_pyIter_wide ha (key "str_iterator" _ (λA' hA=>Walks.strWide hA _ z t) (λ_ _ _ _ _ st h=>wpAny_pyIter_striter_wide st h) (by decide) ⟨_,Y0 _ rfl,rfl,rfl⟩)
 .exact wpAny_pyIter_ascii ha (key "str_ascii_iterator" _ (λA' hA=>Walks.strAscii hA _ z t) (λ_ _ _ _ _ st h=>wpAny_pyIter_striter_ascii st h) (by decide) ⟨_,Y0 _ rfl,rfl,rfl⟩)
theorem v4(h:C3 X e f):CI X tg e (mR f):=ZvJ h (ZvC h)
theorem Zuk{T:String}{ty:D->Store->Bool}{m:D->List D->Store->R3 D}(hty:∀H ι M a x,ao K H ι M->Rep K H ι a x->ty a M=true->Bg K T x H)(σ:St)(H:Hp)(Q:VK)(h:nW K (aN ty m f gl) σ H Q):tBM K T (rM K m) (nW K f) (Ui K gl) σ H Q:=by
 obtain⟨ι,M,env,S,E,h⟩:=h;obtain⟨a,M1,e1,h⟩:=Zy.bind h;refine⟨ι,M,env,S,E,?_⟩;rw[e1];intro v H1 ι1 x1 S1 r1;by_cases ht:ty a M1=true
 .rw[if_pos ht]at h;obtain⟨ds,M2,e2,h⟩:=Zy.bind h;refine⟨hty _ _ _ _ _ S1 r1 ht,ι1,M1,env,S1,E.mono x1,?_⟩;rw[e2];intro vs H2 ι2 x2 S2 r2;exact⟨ι2,M2,a,ds,S2,r1.mono x2,r2,(h.up x1).up x2⟩
 .rw[if_neg ht]at h;exact h.elim
theorem Vb(H:Hp)(ι:List Yn)(M:Store)(a:D)(x:V)(S:ao K H ι M)(r:Rep K H ι a x)(h:aY a M=true):Bg K "list" x H:=by
 cases a with
 | ref n=>
  rw[vK]at h;cases hn:M[n]? with
  |none=>rw[hn]at h;exact ft h|some o=>
   cases o with
   |dct _=>rw[hn]at h;exact ft h|dj _=>rw[hn]at h;exact ft h|ins _ _=>rw[hn]at h;exact ft h|lst xs=>obtain⟨p,hp,rfl⟩:=r.eU;obtain⟨vs,e,_⟩:=S.obj n _ p hn hp;exact .inl ⟨rfl,vs,cD.of e⟩
 |_=>exact ft h
theorem _root_.L2.qU.imp{id:String}{r r':V->List V->Hp->VK->Prop}(h:qU X id r)(i:∀x xs H Q,r' x xs H Q->r x xs H Q):qU X id r':=λpins s σ H x xs v us Q I rx rs q=>h pins s σ H x xs v us Q I rx rs (i x xs H Q q)
theorem ZlM:qU X "list.append" (rM X.K bL):=qU.imp (r:=ZnK) Tp λx xs H Q ak=>by
 obtain⟨ι,M,a,ds,S,ra,rd,h⟩:=ak;cases a with
 | ref n=>
  cases ds with
  |nil=>exact h.elim|cons d ds=>
   cases ds with
   |cons _ _=>exact h.elim|nil=>
    simp only[Gv]at h;cases hn:M[n]? with
    |none=>simp only[hn]at h;exact h.elim|some o=>
     cases o with
     |dct _=>simp only[hn]at h;exact h.elim|dj _=>simp only[hn]at h;exact h.elim|ins _ _=>simp only[hn]at h;exact h.elim|lst z=>
      simp only[hn]at h;split at h
      .rename_i hz;obtain⟨p,hp,rfl⟩:=ra.eU;obtain⟨v,ws,rfl,r1,r2⟩:=rd.cons_inv;have:=r2.nil_inv;subst this;obtain⟨vs,e,rv⟩:=S.obj n _ p hn hp;obtain⟨x2,S2⟩:=S.zJ (.inr (.inl ⟨_,e⟩)) hp (rv.append (Zx.cons r1 Zx.nil));exact⟨p,vs,v,rfl,rfl,e,by rw[rv.length];exact Yo hz lU,h _ _ _ x2 S2 Rep.non⟩
      .exact h.elim
 |_=>exact h.elim
theorem iQ(ho:C3 X o f)(ha:CA X (e::es) gl)(hbase:qC o "append" X.env (aH o X.env)=aH o X.env:=by rfl)(hfew:((eF cpos (Yt (e::es) X.env)).all (λx=>!x.1)&&(zR cpos (zO [] X.env)).all (λx=>x.1.isSome)
   &&decide ((e::es).length+([]:List Keyword).length+(if([]:List Keyword).isEmpty then 0 else 1)<30))=true:=by rfl)(hline:(apos.endLine==cpos.line)=true:=by rfl)(hs:Yt (e::es) X.env=(false,aH e X.env)::Yt es X.env:=by rfl)(hplain:(eF cpos (Yt es X.env)).any (·.1)=false:=by rfl):
  C3 X (.Call (.Attribute o "append" apos) (e::es) [] cpos) (aN aY bL f gl):=
 (ZtL RJ Yg5 Yg6 ZlM ho ha hbase hfew hline hs hplain).imp (Zuk Vb)
theorem Zw2:aV X (iZ .In) (r2 X.K λa b M=>match a,b with| .str [c],.str y=>.ok (.bl (decide (c∈y))) M|_,_=>.bad):=aV.imp Zor λx y H Q ak=>by
 obtain⟨ι,M,a,b,S,ra,rb,h⟩:=ak;cases a with
 | str z=>
  cases z with
  |nil=>cases b<;>exact h.elim|cons c z=>
   cases z with
   |cons _ _=>cases b<;>exact h.elim|nil=>
    cases b with
    |str y=>refine⟨_,_,ra.str_inv,rb.str_inv,?_⟩;have e:=StrLaws.found_one (⟨y.toArray⟩:aj) c;rw[show(⟨[c].toArray⟩:aj)=⟨#[c]⟩from rfl,e];exact Zy.ok h S Rep.bl|_=>exact h.elim
 |_=>cases b<;>exact h.elim
end
variable{Q:Yd->Yg->Prop}{items:Array Yd}
section
variable {X:Cx}
theorem Zws(hu:X.A.units+80<eG):aV X (iZ .NotEq) (r2 X.K Gr):=by
 intro pins s σ H x y v u Q I rx ry h;obtain⟨ι,M,a,b,S,ra,rb,h⟩:=h;unfold Gr at h;cases q:pX a b M with
 |none=>rw[q]at h;exact h.elim|some k=>rw[q]at h;exact(Zn8 hu I S ra rb rx ry q).2 X.prog X.w X.xe _ ⟨.bl (!k),H,I,rfl,Zy.ok h S Rep.bl⟩
theorem ZlA{v:V}(r:Rep K H ι d v)(h:jc d=true):qW v=true:=by
 cases d with
 |non=>rw[r.jL];rfl|bl b=>rw[r.iY];rfl|int i=>rw[r.int_inv];rfl|str x=>rw[r.str_inv];rfl
 |_=>exact ft h
theorem Zse(x y:List Nat):((⟨x.toArray⟩:aj)==⟨y.toArray⟩)=(x==y):=by rw[Yll];simp
theorem Ztc{e:D}{v w:V}(r:Rep K H ι d v)(q:Rep K H ι e w)(h:jc d=true)(h':jc e=true):tU v w=iH d e:=by
 cases d with
 |non=>rw[r.jL];cases e with
  |non=>rw[q.jL];rfl|bl _=>rw[q.iY];rfl|int _=>rw[q.int_inv];rfl|str _=>rw[q.str_inv];rfl
  |_=>exact ft h'
 |bl _=>rw[r.iY];cases e with
  |non=>rw[q.jL];rfl|bl _=>rw[q.iY];rfl|int _=>rw[q.int_inv];rfl|str _=>rw[q.str_inv];rfl
  |_=>exact ft h'
 |int _=>rw[r.int_inv];cases e with
  |non=>rw[q.jL];rfl|bl _=>rw[q.iY];rfl|int _=>rw[q.int_inv];rfl|str _=>rw[q.str_inv];rfl
  |_=>exact ft h'
 |str _=>rw[r.str_inv];cases e with
  |non=>rw[q.jL];rfl|bl _=>rw[q.iY];rfl|int _=>rw[q.int_inv];rfl|str _=>rw[q.str_inv];exact Zse _ _
  |_=>exact ft h'
 |_=>exact ft h
theorem ZnT{K:Yc}{H:Hp}{ι:List Yn}{d:D}{v:V}(r:Rep K H ι d v)(h:jc d=true):∀{ds:List D} {vs:List V},Zx K H ι ds vs->ds.all jc=true->vs.all qW=true/\inV v vs=ds.any λy=>iH y d
 |[],_,q,_=>by rw[q.nil_inv];exact⟨rfl,rfl⟩|e::ds,_,q,hd=>by obtain⟨w,ws,rfl,r1,r2⟩:=q.cons_inv;rw[Ac,Y9]at hd;obtain⟨h1,h2⟩:=ZnT r h r2 hd.2;refine⟨by rw[Ac,ZlA r1 hd.1,h1];rfl,?_⟩;unfold inV at h2 ⊢;rw[pO,pO,h2,Ztc r1 r hd.1 h]
inductive InK(a b:D)(k:Bool):Prop
 |tup (ys:List D):b= .tup ys->(ys.any λy=>iH y a)=k->jc a=true->ys.all jc=true->InK a b k
 |str (c:Nat) (y:List Nat):a= .str [c]->b= .str y->decide (c∈y)=k->InK a b k
theorem inK{a b:D}{k:Bool}(h:inD a b=Ya k):InK a b k:=by
 cases b with
 |tup ys=>exact have w:=Uz h;.tup ys rfl w.1 w.2.1 w.2.2|str y=>
  cases a with
  | str z=>cases z with
   |nil=>exact dR h|cons c z=>cases z with
    |nil=>exact .str c y rfl rfl (Y3 h)|cons _ _=>exact dR h
  |_=>exact dR h
 |_=>exact dR h
theorem ZuE{Q:VK}{a:D}{ys:List D}{x y:V}(n:Bool)(ra:Rep K H ι a x)(rb:Rep K H ι (.tup ys) y)(fa:jc a=true)(fs:ys.all jc=true)(q:Q (.bl (if n then !(ys.any λy=>iH y a)else ys.any λy=>iH y a)) H):rIn K n x y H Q:=by obtain⟨p,vs,e,s,r⟩:=rb.iW;obtain⟨h1,h2⟩:=ZnT ra fa r fs;exact⟨p,vs,e,.inr s,ZlA ra fa,h1,by rw[h2];exact q⟩
theorem Zy2(hu:X.A.units+80<eG):aV X (iZ .In) (r2 X.K Bl):=aV.imp (aV.or Zw2 Zo3) λx y H Q ak=>by
 obtain⟨ι,M,a,b,S,ra,rb,h⟩:=ak;unfold Bl at h;cases q:inD a b with
 |none=>rw[q]at h;exact h.elim|some k=>
  rw[q]at h;rcases inK q with⟨ys,eb,ek,fa,fs⟩|⟨c,z,ea,eb,ek⟩
  .rw[eb]at rb;rw[←ek]at h;exact .inr (ZuE false ra rb fa fs (Zy.ok h S Rep.bl))
  .rw[ea]at ra;rw[eb]at rb;rw[←ek]at h;exact .inl ⟨ι,M,_,_,S,ra,rb,h⟩
theorem Zq4(x:List Nat)(n:Nat)(a:List Nat):(Yh n x.toArray).foldl (· ++ ·) a.toArray=(a++(Yh n x).flatten).toArray:=by
 induction n generalizing a with
 |zero=>simp|succ n ih=>rw[nF,sY,nF,qF];have:=ih (a++x);simp only[List.append_toArray]at this ⊢;rw[this];simp
theorem ZvQ(x:List Nat)(k:Int):Txt.mul (⟨x.toArray⟩:aj) k=⟨(Yh k.toNat x).flatten.toArray⟩:=by
 unfold Txt.mul;split
 .rename_i h;have:k.toNat=0:=iw (qK (Int.toNat_of_nonpos (iN [] [_] 1 235446417 T1 h))) (eN _);rw[this];rfl
 .split
  .rename_i h1 h2;simp only[u9,beq_iff_eq,qN,Ym]at h2;rcases h2 with h2|h2
   .subst h2;simp
   .have:x=[]:=JV h2;subst this;simp
  .have:=Zq4 x k.toNat [];rw[qI]at this;exact congrArg Str.mk this
theorem Zx.repl(r:Zx K H ι ds vs):∀k:Nat,Zx K H ι (Yh k ds).flatten (Yh k vs).flatten
 |0=>Zx.nil|k+1=>by rw[nF,nF,qF,qF];exact r.append (Zx.repl r k)
theorem o9:aV X (i_ .Mult) (r2 X.K eO):=by
 have hs:aV X (i_ .Mult) (λx y H Q=>∃(z:List Nat) (k:Int),x= .str ⟨z.toArray⟩/\y= .int k/\z.length*k.toNat<=1000000/\k<1000000/\ -1000000<k/\Q (.str ⟨(Yh k.toNat z).flatten.toArray⟩) H):=by
  intro pins s σ H x y v u Q I rx ry h;obtain⟨z,k,rfl,rfl,h1,h2,h3,q⟩:=h;obtain⟨t,rfl⟩:=rx;obtain⟨t',rfl⟩:=ry;refine SB.mul ⟨?_,λh4 h5=>?_,λh4 h5=>?_⟩ λt'' tk=>?_
  .simp;omega
  .simp only[qN,Ym];simp at h4 h5;have hk:2<=k:=by
    simp only[qN,Ym]at h5;omega
   have e:(k.toNat:Int)=k:=Int.le_antisymm (Fx (tE (iN [] [_] 1 3892452225 T1 hk))) ((Fw _));have hm:(z.length:Int)*k<=1000000:=by have h1':((z.length*k.toNat:Nat):Int)<=1000000:=Ak.mpr h1;rw[Rw,e]at h1';exact h1'
   have hd:(z.length:Int)<=9223372036854775807 / k:=Int.le_ediv_of_mul_le (iN [] [_] 1 3909229441 T1 hk) (by omega);show¬((z.length:Int)>(2^63-1) / k);have e3:((2:Int)^63-1)=9223372036854775807:=by decide
   rw[e3];exactλz=>iN [_] [_] 2 6599352549521 T1 z hd
  .unfold Builtin.Str.tooLong;simp only[qN,Ym,decide_eq_false_iff_not];have hsz:(1000000:Nat)<=Y7:=lU;exactλz=>lB 3 0x6f42405b1010f42405b011011 T1 z hsz h1
  .rw[ZvQ];exact⟨.str _,H,I.tok _,⟨_,rfl⟩,q⟩
 refine aV.imp (aV.or ZtZ (aV.or hs Zuw)) λx y H Q ak=>?_;obtain⟨ι,M,a,b,S,ra,rb,h⟩:=ak;cases a with
 | int i=>cases b with
  |int j=>obtain⟨hm,h⟩:=yG h;refine .inl ⟨i,j,ra.int_inv,rb.int_inv,?_,Zy.ok h S Rep.int⟩;simp only[ye,u9,Y9,decide_eq_true_eq]at hm;exact hm|_=>exact h.elim
 | str z=>cases b with
  |int k=>obtain⟨hz,h⟩:=yG h;exact .inr (.inl ⟨z,k,ra.str_inv,rb.int_inv,hz.1,hz.2.1,hz.2.2,Zy.ok h S Rep.str⟩)|_=>exact h.elim
 | ref n=>cases b with
  |int k=>
   have h:Zy X.K H ι Q (Uu M[n]? λx=>@ite _ (x.length*k.toNat<=SZ/\k<1000000/\ -1000000<k) (Yr _) (alloc (.lst (Yh k.toNat x).flatten) M) .bad):=h;obtain⟨z,hn,h⟩:=Zno h;obtain⟨hz,h⟩:=yG h;obtain⟨p,hp,e'⟩:=ra.eU;obtain⟨vs,e,r⟩:=S.obj n _ p hn hp;refine .inr (.inr ⟨p,k,vs,e',rb.int_inv,e,?_,?_,by rw[r.length];exact Yu hz.1 lU,λq hq=>?_⟩)
   .exact xU (by decide) (Kd hz.2.2)
   .exact Yjq hz.2.1 (by decide)
   obtain⟨x2,S2,r2⟩:=S.lst hq (Zx.repl r k.toNat);exact h _ _ _ x2 S2 r2
  |_=>exact h.elim
 |_=>cases b<;>exact h.elim
theorem ZnX(n d:Nat)(hd:d<=n)(o:Option Int):(match o with|none=>(d:Int)|some i=>fP 0 (jg (if i<0 then i+(n:Int)else i) (n:Int)))=((aC n d o:Nat):Int):=by
 cases o with
 |none=>rfl|some v=>
  show fP 0 (jg (if v<0 then v+(n:Int)else v) (n:Int))=(((if v<0 then(v+(n:Int)).toNat else jg v.toNat n):Nat):Int);by_cases h:v<0
  .rw[if_pos h,if_pos h];exact R8 v n h
  .rw[if_neg h,if_neg h];exact R9 v n h
theorem ZhL(lo hi:Option Int)(n:Nat):Ko lo hi 1 n=(dN (aC n n hi-aC n 0 lo)).map (λk=>aC n 0 lo+k):=by
 have e1:=ZnX n 0 (eN _) lo;have e2:=ZnX n n (Yl _) hi;have key:Ko lo hi 1 n=sliceRange ((aC n 0 lo:Nat):Int) ((aC n n hi:Nat):Int) 1:=by rw[←e1,←e2];simp only[Ko,show((1:Int)>0)=True from by simp,if_true];cases lo<;>cases hi<;>rfl
 rw[key];generalize aC n 0 lo=a;generalize aC n n hi=b;simp only[sliceRange,show((1:Int)>0)=True from by simp,if_true];by_cases hlt:(a:Int)<b
 .have e3:(((b:Int)-a+1-1) / 1).toNat=b-a:=by first|exact iw (iN [_,_,_,_] [_] 3 0x230038a112c001aa1808fcf001d81 T1 (Int.mul_ediv_self_le (by decide)) (lK _ _) (tE (iN [_,_] [_] 2 0xe8a001dcaa0818fcf91180891 T1 hlt (Yg7 (by decide))))) (iN [_,_,_,_] [_] 3 0x230013c2128081a001dcaa1808fcf91 T1 (Yg7 (by decide)) (Fw _) (lG (iN [_,_] [] 1 4296542353 T1 hlt)))|(simp;done)|(simp;omega)
  simp only[hlt,if_true,e3];refine Yjk λk _=>?_;exact iw (iN [_,_,_] [] 1 0x21c002801d18c08a1 T1 (tE (iN [_,_] [] 0 103109659880 T1))) (iN [_,_,_] [] 1 0x210c0281801d08c81 T1 (Fw _))
 .have:b-a=0:=iw (qK (Yih (iN [_,_] [] 1 270010577 T1 hlt))) (eN _);simp[hlt,this]
theorem K9(n d:Nat)(hd:d<=n)(o:Option Int):aC n d o<=n:=by
 cases o with
 |none=>exact hd|some v=>simp only[aC];split <;>omega
theorem Zmr(z:List Nat)(lo hi:Option Int)(l u:Option (Int×jx))(hl:l.map (·.1)=lo)(hu:u.map (·.1)=hi):
  (if((1:Int)==1&&(xq ⟨z.toArray⟩ l u Yk).length==(⟨z.toArray⟩:aj).length)=true then(⟨z.toArray⟩:aj)else⟨((xq ⟨z.toArray⟩ l u Yk).filterMap ((⟨z.toArray⟩:aj).cps[·]?)).toArray⟩)=⟨(cutD z lo hi).toArray⟩:=by
 have e0:xq ⟨z.toArray⟩ l u Yk=(dN (aC z.length z.length hi-aC z.length 0 lo)).map (λk=>aC z.length 0 lo+k):=by unfold xq;rw[hl,hu];simp only[qN,Ym];exact ZhL lo hi z.length
 have hb:=K9 z.length z.length (Yl _) hi;rw[e0];have pick:((dN (aC z.length z.length hi-aC z.length 0 lo)).map (λk=>aC z.length 0 lo+k)).filterMap ((⟨z.toArray⟩:aj).cps[·]?)=cutD z lo hi:=by
  unfold cutD;by_cases hab:aC z.length 0 lo<=aC z.length z.length hi
  .have h:=StrLaws.picks z (aC z.length z.length hi-aC z.length 0 lo) (aC z.length 0 lo) (lD 2 82120338080600065 T1 hb (lG hab));simpa using h
  .have:aC z.length z.length hi-aC z.length 0 lo=0:=iw (qK (Yih (lB 1 1052737 T1 hab))) (eN _);rw[this];simp
 rw[pick];split
 .rename_i hc;simp only[jP,Ra,qN,Ym,Y9,beq_iff_eq]at hc;have hc2:=hc.2;have h0:aC z.length 0 lo=0\/z.length=0:=by omega
  have:cutD z lo hi=z:=by
   unfold cutD;rcases h0 with h0|h0
   .rw[h0,Yl7,xK (by exact lD 3 0x3102001e3c2011031 T1 hc2 (lK _ _) (Ag _ _))]
   .have:z=[]:=JV h0;subst this;simp
  rw[this]
 .rfl
theorem ZtY:jA X (λx lo hi H Q=>∃z:List Nat,x= .str ⟨z.toArray⟩/\z.length<=SZ/\Q (.str ⟨(cutD z lo hi).toArray⟩) H):=by
 intro pins s σ H x v vl vu lo hi sl Q I rx hs pl pu h;obtain⟨z,rfl,hz,q⟩:=h;obtain⟨t,rfl⟩:=rx;have part:∀{v:Yd} {o:Option Int},IsPart v o->∃p:Option (Int×jx),v=partValue p/\p.map (·.1)=o:=by
  intro v o h;cases h with
  |none=>exact⟨Yk,rfl,rfl⟩|int i t=>exact⟨Ya (i,t),rfl,rfl⟩
 obtain⟨l,rfl,hl⟩:=part pl;obtain⟨u,rfl,hu⟩:=part pu;refine⟨"str",_,PySem.F.slot_str_getitem.lookup,QM _ _ _,?_⟩;refine wpAny_getItem_str_slice (l:=l) (u:=u) (st:=Yk) hs rfl ?_;unfold sliceMade;refine post_val_or_made (λ_=>?_) λt' k=>?_
 .show((xq ⟨z.toArray⟩ l u Yk).filterMap ((⟨z.toArray⟩:aj).cps[·]?)).toArray.size<=Y7;rw[Ym];refine Yu (List.length_filterMap_le _ _) ?_;show(Ko (l.map (·.1)) (u.map (·.1)) 1 (⟨z.toArray⟩:aj).length).length<=Y7;rw[ZhL];simp only[jP,Ra,qN,Ym];have:=K9 z.length z.length (Yl _) (u.map (·.1));have:=lU;omega
 .have e:=Zmr z lo hi l u hl hu;have e':(if(((Yk:Option (Int×jx)).map (·.1)).getD 1==1&&(xq ⟨z.toArray⟩ l u Yk).length==(⟨z.toArray⟩:aj).length)=true then(⟨z.toArray⟩:aj)else⟨((xq ⟨z.toArray⟩ l u Yk).filterMap ((⟨z.toArray⟩:aj).cps[·]?)).toArray⟩)=⟨(cutD z lo hi).toArray⟩:=e;rw[e'];exact⟨.str _,H,I.tok _,⟨_,rfl⟩,q⟩
theorem Zgi{prog:aX}{t sl:Yn}{vl vu:Yd}{lo hi:Option Int}(ht:xT s.heap t items)(hs:s.heap.IsSliceOf sl vl vu .none)(pl:IsPart vl lo)(pu:IsPart vu hi)(hw:HT.aC items.size 0 lo=0/\HT.aC items.size items.size hi=items.size)(h:Q (.ref t) s):Yy (Y4 prog w) A (oJ (.ref t) (.ref sl)) Q E s:=by
 obtain⟨os,hos,hcs,hds⟩:=id hs;have hTs:s.TypeIs (.ref sl) "slice":=⟨os,hos,hcs⟩;unfold oJ
 try with_reducible refine jk ?_
 first|refine Yb (Yi ?_)|skip
 refine Yb (Qo ht.typeIs (by decide) ?_);refine Yb (qx (name:=lJ "__getitem__") ht.typeIs Ah
  (qy Ah ht.typeIs Rp ?_ (Rq _ _)))
 show Yy _ _ (Ru (.ref t)>>=_) _ _ s;refine Yb (Rr ht ?_);refine Yb (uP hTs ?_);rw[if_pos (by decide)];refine Yb (HT.Xu hs pl pu ?_);have Ade:(((HT.aC items.size 0 lo:Nat):Int)==0&&(1:Int)==1&&(HT.aC items.size items.size hi-HT.aC items.size 0 lo)==items.size)=true:=by rw[hw.1,hw.2];simp
 show Yy _ _ (if(((HT.aC items.size 0 lo:Nat):Int)==0&&(1:Int)==1&&(HT.aC items.size items.size hi-HT.aC items.size 0 lo)==items.size)=true then _ else _) _ _ s;rw[if_pos Ade];unfold Builtin.Tuple.tupleIsExact;refine Yb (Yb (uP ht.typeIs (Yi ?_)));rw[if_pos (by decide)];exact Yb (xu (Yi ⟨_,rfl,Yi h⟩))
theorem ZsS:jA X (λx lo hi H Q=>∃a xs,x= .ref a/\cL X.K H a xs/\(HT.aC xs.length 0 lo=0/\HT.aC xs.length xs.length hi=xs.length)/\Q (.ref a) H):=by
 intro pins s σ H x v vl vu lo hi sl Q I rx hs pl pu h;obtain⟨a,xs,rfl,hx,hw,q⟩:=h;cases rx;obtain⟨its,r,ht,hz⟩:=I.tuple hx;have hlen:its.toArray.size=xs.length:=by rw[Ym];exact r.length.symm
 refine⟨"tuple",_,PyProof.Rows.slot_tuple_getitem.lookup,ht.typeIs,?_⟩;exact Zgi ht hs pl pu (by rw[hlen];exact hw) ⟨.ref a,H,I,rfl,q⟩
theorem Vc:jA X (rS X.K):=jA.imp (jA.or (jA.or ZuM ZsS) (jA.or ZrQ ZtY)) λx lo hi H Q ak=>by
 obtain⟨ι,M,a,S,ra,h⟩:=ak;have ex:∀n d o,HT.aC n d o=aC n d o:=λn d o=>by cases o<;>rfl
 cases a with
 | tup ds=>
  simp only[Lj,Lk,Ln,Gu]at h;obtain⟨p,vs,rfl,s,r⟩:=ra.iW;by_cases hw:aC ds.length 0 lo=0/\aC ds.length ds.length hi=ds.length
  .refine .inl (.inr ⟨p,vs,rfl,s,by rw[ex,ex,r.length];exact hw,?_⟩);have e:cutD ds lo hi=ds:=by unfold cutD;rw[hw.1,hw.2];simp
   rw[e]at h;exact Zy.ok h S (Rep.tup s r)
  .refine .inl (.inl ⟨p,vs,rfl,s,by rw[ex,ex,r.length];exact hw,λq hq=>?_⟩);obtain⟨x2,S2,r2⟩:=S.uK hq (UJ r lo hi);exact h _ _ _ x2 S2 r2
 |bO ds=>simp only[Lj,Lk,Ln,Gu]at h;obtain⟨p,vs,rfl,s,r⟩:=ra.uE;refine .inr (.inl ⟨p,vs,rfl,s.sq,λq hq=>?_⟩);obtain⟨x2,S2,r2⟩:=S.lst hq (UJ r lo hi);exact h _ _ _ x2 S2 r2|str z=>
  simp only[Lj,Lk,Ln,Gu]at h;split at h
  .rename_i hz;exact .inr (.inr ⟨z,ra.str_inv,hz,Zy.ok h S Rep.str⟩)
  .exact h.elim
 | ref n=>
  simp only[Lj,Lk,Ln,Gu]at h;cases hn:M[n]? with
  |none=>simp only[hn]at h;exact h.elim|some o=>
   cases o with
   |dct _=>simp only[hn]at h;exact h.elim|dj _=>simp only[hn]at h;exact h.elim|ins _ _=>simp only[hn]at h;exact h.elim|lst ds=>simp only[hn]at h;obtain⟨p,hp,rfl⟩:=ra.eU;obtain⟨vs,e,r⟩:=S.obj n _ p hn hp;refine .inr (.inl ⟨p,vs,rfl,cD.of e,λq hq=>?_⟩);obtain⟨x2,S2,r2⟩:=S.lst hq (UJ r lo hi);exact h _ _ _ x2 S2 r2
 |_=>exact h.elim
theorem Hi{xs:List V}(r:Zx K H ι [d] xs):∃x,xs=[x]/\Rep K H ι d x:=by obtain⟨v,ws,rfl,r1,r2⟩:=r.cons_inv;have:=r2.nil_inv;subst this;exact⟨v,rfl,r1⟩
theorem jE:bD X (.builtin "len") (rB X.K bW):=bD.imp ZqV λxs H Q ak=>by
 obtain⟨ι,M,ds,S,rd,h⟩:=ak;cases ds with
 |nil=>exact h.elim|cons d ds=>
  cases ds with
  |cons _ _=>cases d<;>exact h.elim|nil=>
   obtain⟨x,rfl,r⟩:=Hi rd;cases d with
   |tup z=>obtain⟨p,vs,rfl,s,r'⟩:=r.iW;exact⟨_,vs.length,rfl,.inr ⟨vs,s,rfl⟩,by rw[r'.length];exact Zy.ok h S Rep.int⟩|bO z=>obtain⟨p,vs,rfl,s,r'⟩:=r.uE;exact⟨_,vs.length,rfl,.inl ⟨vs,s.sq,rfl⟩,by rw[r'.length];exact Zy.ok h S Rep.int⟩|str z=>
    simp only[Bp,Lp,T4,yo]at h;split at h
    .rename_i hz;have:=r.str_inv;subst this;refine⟨_,z.length,rfl,⟨?_,?_⟩,Zy.ok h S Rep.int⟩
     .show z.toArray.size<=Y7;rw[Ym];exact Yu hz lU
     .show z.length=z.toArray.size;rw[Ym]
    .exact h.elim
   | ref n=>
    cases hn:M[n]? with
    |none=>rw[yo,hn]at h;exact h.elim|some o=>
     cases o with
     |dct _=>rw[yo,hn]at h;exact h.elim|dj _=>rw[yo,hn]at h;exact h.elim|ins _ _=>rw[yo,hn]at h;exact h.elim|lst z=>simp only[Bp,Lp,T4,yo,hn]at h;obtain⟨p,hp,rfl⟩:=r.eU;obtain⟨vs,e,r'⟩:=S.obj n _ p hn hp;exact⟨_,vs.length,rfl,.inl ⟨vs,cD.of e,rfl⟩,by rw[r'.length];exact Zy.ok h S Rep.int⟩
   |_=>exact h.elim
theorem Ce:bD X (.type "tuple") (rB X.K mQ):=bD.imp Zjp λxs H Q ak=>by
 obtain⟨ι,M,ds,S,rd,h⟩:=ak;cases ds with
 |nil=>exact h.elim|cons d ds=>
  cases ds with
  |cons _ _=>cases d<;>exact h.elim|nil=>
   obtain⟨x,rfl,r⟩:=Hi rd;cases d with
   |tup z=>obtain⟨p,vs,rfl,s,r'⟩:=r.iW;exact⟨p,vs,rfl,.inr ⟨s,Zy.ok h S (Rep.tup s r')⟩⟩|bO z=>obtain⟨p,vs,rfl,s,r'⟩:=r.uE;refine⟨p,vs,rfl,.inl ⟨s.sq,λq hq=>?_⟩⟩;obtain⟨x2,S2,r2⟩:=S.uK hq r';exact h _ _ _ x2 S2 r2|ref n=>
    cases hn:M[n]? with
    |none=>rw[Bq,hn]at h;exact h.elim|some o=>
     cases o with
     |dct _=>rw[Bq,hn]at h;exact h.elim|dj _=>rw[Bq,hn]at h;exact h.elim|ins _ _=>rw[Bq,hn]at h;exact h.elim|lst z=>simp only[ZjC,Zjv,Bq,hn]at h;obtain⟨p,hp,rfl⟩:=r.eU;obtain⟨vs,e,r'⟩:=S.obj n _ p hn hp;refine⟨p,vs,rfl,.inl ⟨cD.of e,λq hq=>?_⟩⟩;obtain⟨x2,S2,r2⟩:=S.uK hq r';exact h _ _ _ x2 S2 r2
   |_=>exact h.elim
end
theorem jF:jl "len" =Ya (.builtin "len"):=by decide +kernel
theorem Zf8:jl "isinstance" =Ya (.builtin "isinstance"):=by decide +kernel
theorem Vd:jl "int" =Ya (.type "int"):=by decide +kernel
theorem Cg:jl "tuple" =Ya (.type "tuple"):=by decide +kernel
theorem Ve:jl "dict" =Ya (.type "dict"):=by decide +kernel
section
variable {X:Cx} {a:Expr} {pos p p2:aP} {f:E3}
noncomputable def um:qY->String
 | .int=>"int" | .bool=>"bool" | .str=>"str" | .list=>"list" | .tuple=>"tuple"
theorem yK(K:Yc)(t:String)(T:qY)(ht:t∈["NoneType","bool","int","str","list","tuple","dict"]):
  Q7 K (.type t) (.type (um T))=Ya (t==um T|| (t== "bool" &&um T== "int")):=by
 simp only[fj,z_,or_false]at ht;rcases ht with rfl|rfl|rfl|rfl|rfl|rfl|rfl <;>cases T<;>kernel_rfl
theorem ZxI(T:qY):jl (um T)=Ya (.type (um T)):=by cases T<;>decide +kernel
noncomputable def Zwm(T:qY)(o:Option MO):Option Bool:=match o with
 |some (.lst _)=>Ya (T== .list)|some (.dct _)=>Ya false|some (.dj _)=>Yk|some (.ins _ _)=>Yk
 |none=>Yk
theorem ZrV{T:qY}{x:V}{u:Yd}{b:Bool}(I:Inv X pins σ H s)(S:ao X.K H ι M)(r:Rep X.K H ι d x)(ru:RelV x u)(e:pY T d M=Ya b)(h:∀tk,Q (.bool b) {s with toks:=tk}):Yy (Y4 X.prog X.w) A (call (.builtin "isinstance") [u,.type (um T)]) Q E s:=by
 cases d with
 |non=>rw[r.jL]at ru;exact Bc I ru .non ((yK X.K "NoneType" T (by decide)).trans (vm (by cases T<;>rfl) e)) h|bl c=>rw[r.iY]at ru;exact Bc I ru (.bl c) ((yK X.K "bool" T (by decide)).trans (vm (by cases T<;>rfl) e)) h|int i=>rw[r.int_inv]at ru;exact Bc I ru (.int i) ((yK X.K "int" T (by decide)).trans (vm (by cases T<;>rfl) e)) h|str z=>rw[r.str_inv]at ru;exact Bc I ru (.str _) ((yK X.K "str" T (by decide)).trans (vm (by cases T<;>rfl) e)) h
 |tup ds=>obtain⟨p,vs,its,_,eu,⟨o,h1,h2,_⟩,_⟩:=vY I r ru;rw[eu];exact nC Yjt I.dw ⟨o,h1,h2⟩ ((yK X.K "tuple" T (by decide)).trans (vm (by cases T<;>rfl) e)) (λz=>nomatch z) h|bO ds=>exact dR e|ref n=>
  have e:Zwm T M[n]?=Ya b:=e;obtain⟨a,ha,ex⟩:=r.eU;rw[ex]at ru;cases hn:M[n]? with
  |none=>rw[hn]at e;exact dR e|some o=>
   rw[hn]at e;cases o with
   |lst z=>obtain⟨vs,ev,_⟩:=S.obj n _ a hn ha;exact Bc I ru (.lst ev) ((yK X.K "list" T (by decide)).trans (vm (by cases T<;>rfl) e)) h|dct z=>obtain⟨vs,ev,_⟩:=S.obj n _ a hn ha;exact Bc I ru (.dK ev) ((yK X.K "dict" T (by decide)).trans (vm (by cases T<;>rfl) e)) h|dj z=>exact dR e|ins _ _=>exact dR e
theorem Ci(T:qY){x:aj}(hm:X.mg "isinstance" =Yk)(hm2:X.mg x=Yk)(h:C3 X a f)(hx:x=(lJ (um T)):=by rfl)(hg:Gl X "isinstance":=by rfl)(hg2:Gl X x:=by rfl)(hn:x≠ "__name__":=by decide)(hd:(x==("__debug__":aj))=false:=by decide)(hs:Yt (a::[.Name x p2]) X.env=(false,aH a X.env)::Yt [.Name x p2] X.env:=by rfl)(hs2:Yt (.Name x p2::[]) X.env=(false,aH (.Name x p2) X.env)::Yt [] X.env:=by rfl)(hpl:(eF pos (Yt [.Name x p2] X.env)).any (·.1)=false:=by rfl):C3 X (.Call (.Name "isinstance" p) [a,.Name x p2] [] pos) (e1 (jd T) f):=by
 subst hx;have hc:bD X (.builtin "isinstance") (λxs H Q=>∃ι M d x,xs=[x,.ty (um T)]/\ao X.K H ι M/\Rep X.K H ι d x/\Zy X.K H ι Q (jd T d M)):=by
  intro pins s σ H xs us Q I r q;obtain⟨ι,M,d,x,rfl,S,rd,q⟩:=q;obtain⟨u,w',rfl,ru,jm⟩:=vals2 r;cases jm;unfold jd at q;cases e:pY T d M with
  |none=>rw[e]at q;exact q.elim|some b=>rw[e]at q;exact ZrV I S rd ru e λtk=>⟨.bl b,H,I.tok _,rfl,Zy.ok q S Rep.bl⟩
 refine(Td hc hg hm Zf8 (Be h (Be (ZnG hg2 hm2 (ZxI T) (v:=.ty (um T)) rfl hn hd) K8 hs2) hs) (by decide) (by decide) hs hpl).imp λσ H Q ak=>?_;obtain⟨ι,M,env,S,E,h⟩:=ak;obtain⟨d,M1,e1,h⟩:=Zy.bind h;refine⟨ι,M,env,S,E,?_⟩;rw[e1];intro v H1 ι1 x1 S1 r1;exact⟨ι1,M1,d,v,rfl,S1,r1,h.up x1⟩
end
noncomputable def Zty(outer:List (aj×NameKind))(N:List aj)(scope:Scope)(N':List aj)(own:Nat):Bool:=
 (scope.names.all λy=>decide (y.2≠ .cell)&&(decide (y.2≠ .free)|| decide (outer.lookup y.1=Ya .cell)|| decide (outer.lookup y.1=Ya .free))&&(decide (y.2≠ .local)|| decide (scope.names.lookup y.1=Ya .local)))&&
  decide (N'.length=N.length+own)&&UT N N' scope
theorem Hj{scope:Scope}{N':List aj}{own:Nat}(hk:scope.kind= .function)(h:Zty X.env.scope.names X.N scope N' own=true):yJ X scope N' own:=by
 simp only[Zty,Y9,decide_eq_true_eq,pK,u9]at h;obtain⟨⟨h1,h2⟩,h3⟩:=h;refine⟨hk,λy hy=>(h1 y hy).1.1,λy hy e=>?_,λy hy e=>?_,h2,h3⟩
 .rcases(h1 y hy).1.2 with(q|q)|q
  .exact absurd e q
  .exact .inl q
  .exact .inr q
 .rcases(h1 y hy).2 with q|q
  .exact absurd e q
  .exact q
theorem jY{h:au}{mg:aj->Option Yd}(KX:K.In h)(G:h.Ns Y1 mg){x:aj}{st:Ydm}{f:Yn}{oc:Yd}{od an:Option Yn}{osl:Array (Option Yd)}{dV kV doc pm cdv ct:Yd}(a:PySem.W.nsIn K Y1 x=Ya (Ya (.ref f)))(l:K.lookup f=Ya ⟨oc,od,.func (oM x x (cR st) (cj st) (Zm st) dV kV doc pm an cdv ct),osl⟩)(c:zZ K cdv x=true)(k:pJ K (.ref f)=true)(b:Binds K (oM x x (cR st) (cj st) (Zm st) dV kV doc pm an cdv ct) ps []):cX K mg x st ps:=⟨f,_,ZqY l c k,Ymk KX G a,b⟩
theorem Zw6{l:PySem.W.OpenLaw}{k:Nat}{q:aX}{loose:List aj}{XP:(aj->Option Yd)->au->Prop}{YP:aU->au->Prop}{d:DefRec}{K:Params->Yc}(hn:l.most=Ya 63)(hdf:d.params.defaults=[])(hr:cN k uR)(hY:∀(w:aU) (h:au),YP w h->(K w.params).In h)(G:∀(w:aU) (mg:aj->Option Yd) (fa:Yn) (h:au),(K w.params).In h->h.Ns Y1 mg->mg d.name=Ya (.ref fa) ->
   ∃fd:j7,(∀(s:Yg) (u:Yd),zU s fd ⟨[u],[]⟩ [("script",u)])/\∀base:au,(K w.params).In base->base.Ns Y1 mg->fU l.prog w (K w.params) mg base j_ k fa fd ["script"] (rC (K w.params) 1 F))(hF:∀ns:List Int,ns.length<=63->∃M',F [.bO (ns.map D.int)] []= .ok (.bl true) M'):
  Ymj q loose XP YP l.row.toRowW d [] (λf vs=>QR f vs):=
 L2.Zn5 (n:=63) (k:=k) (x:="script") (CX:=λ_=>j_) (sp:=λw=>rC (K w.params) 1 F) hn (by decide) hdf hr hY G (λw H a ns hl hO hS=>by
  obtain⟨M',e⟩:=hF ns hl;refine⟨[],[],[.bO (ns.map D.int)],⟨rfl,Yl8,λn o a h=>by simp at h⟩,Zx.cons ?_ Zx.nil,rfl,?_⟩
  .refine⟨a,ns.map V.int,rfl,?_,Zx.ints ns⟩;rcases hS with(h|⟨o,h⟩)|h
   .rcases hO a with z|⟨ob,xs,z⟩
    .rw[h]at z;cases z
    .rw[h]at z;cases z
   .exact .inl ⟨o,h⟩
   .exact .inr h
  .rw[e]
   exactλv H' ι' _ _ r=>r.iY) λ_ _ _ _ _ z=>z
theorem Vf{a b:a_}(h:dk a=dk b):a=b:=by
 cases a with
 |inl i=>cases b with
  |inl j=>simp only[dk,Sum.inl.injEq]at h;rw[h]|inr y=>simp[dk]at h
 | inr x=>cases b with
  |inl j=>simp[dk]at h|inr y=>simp only[dk,Sum.inr.injEq,Str.mk.injEq]at h;have:=congrArg Kq h;simp at this;rw[this]
theorem yL{b:D}{y:V}{k:a_}(h:fJ b=Ya k)(r:Rep K H ι b y):y=kV (dk k):=by
 cases b with
 |int i=>cases h;exact r.int_inv|str x=>cases h;exact r.str_inv|_=>exact dR h
variable{kvs l:List (a_×D)}{ws:List (Key×V)}
section
variable {K:Yc} {H H':Hp} {ι ι':List Yn} {M:Store} {p:Yn}
theorem bH.nil:bH K H ι [] []:=⟨rfl,Zx.nil⟩
theorem bH.cons{k:a_}{d:D}{v:V}{kvs:List (a_×D)}{ws:List (Key×V)}(h:Rep K H ι d v)(r:bH K H ι kvs ws):bH K H ι ((k,d)::kvs) ((dk k,v)::ws):=⟨by simp[r.1],Zx.cons h r.2⟩
theorem bH.cons_inv{q:a_×D}(r:bH K H ι (q::kvs) ws):∃v ws',ws=(dk q.1,v)::ws'/\Rep K H ι q.2 v/\bH K H ι kvs ws':=by
 obtain⟨h1,h2⟩:=r;cases ws with
 |nil=>simp at h1|cons w ws=>simp only[Y8,Ylr]at h1;obtain⟨v,us,e,r1,r2⟩:=Zx.cons_inv h2;simp only[Y8,Ylr]at e;exact⟨w.2,ws,by rw[←h1.1],e.1▸r1,h1.2,e.2▸r2⟩
theorem bH.nil_inv(r:bH K H ι [] ws):ws=[]:=by simpa using r.1
theorem bH.mono(r:bH K H ι kvs ws)(e:Ext K H ι H' ι'):bH K H' ι' kvs ws:=⟨r.1,r.2.mono e⟩
theorem bH.length(r:bH K H ι kvs ws):ws.length=kvs.length:=by have:=congrArg Fp r.1;simpa using this
theorem bH.val(k:a_):∀{ws:List (Key×V)},bH K H ι kvs ws->match cT kvs k with|some d=>∃v,jR ws (dk k)=Ya v/\Rep K H ι d v|none=>jR ws (dk k)=Yk:=by
 induction kvs with
 |nil=>intro ws r;rw[r.nil_inv];exact Zqf|cons q kvs ih=>
  intro ws r;obtain⟨v,ws',rfl,r1,r2⟩:=r.cons_inv;obtain⟨k',d⟩:=q;unfold cT;by_cases e:k'=k
  .rw[if_pos e];exact⟨v,La (by rw[e]),r1⟩
  .rw[if_neg e,Lb λz=>e (Vf z)];exact ih r2
theorem bH.append{k1 k2:List (a_×D)}{w1 w2:List (Key×V)}(a:bH K H ι k1 w1)(b:bH K H ι k2 w2):bH K H ι (k1++k2) (w1++w2):=⟨by simp[a.1,b.1],by rw[Rc,Rc];exact a.2.append b.2⟩
theorem bH.any(k:a_):∀{ws:List (Key×V)},bH K H ι kvs ws->(ws.any λkv=>decide (kv.1=dk k))=(kvs.any λq=>decide (q.1=k)):=by
 induction kvs with
 |nil=>intro ws r;rw[r.nil_inv];rfl|cons q kvs ih=>
  intro ws r;obtain⟨v,ws',rfl,r1,r2⟩:=r.cons_inv;rw[pO,pO,ih r2];congr 1;by_cases e:q.1=k
  .simp[e]
  .simp[e];exactλz=>e (Vf z)
theorem bH.put{k:a_}{v:V}(r:bH K H ι kvs ws)(rd:Rep K H ι d v):bH K H ι (putD k d kvs) (putK ws (dk k) v):=by
 unfold putD putK;rw[r.any k];by_cases c:(kvs.any λq=>decide (q.1=k))=true
 .rw[if_pos c,if_pos c];clear c
  induction kvs generalizing ws with
  |nil=>rw[r.nil_inv];exact bH.nil|cons q kvs ih=>
   obtain⟨u,ws',rfl,r1,r2⟩:=r.cons_inv;rw[Y8,Y8];by_cases e:q.1=k
   .rw[if_pos e,if_pos (by rw[e])];exact bH.cons rd (ih r2)
   .rw[if_neg e,if_neg λz=>e (Vf z)];exact bH.cons r1 (ih r2)
 .rw[if_neg c,if_neg c];exact r.append (bH.cons rd bH.nil)
theorem bH.merge:∀{kvs:List (a_×D)} {ws us:List (Key×V)},bH K H ι l us->bH K H ι kvs ws->bH K H ι (l.foldl (λacc p=>putD p.1 p.2 acc) kvs) (tX ws us):=by
 induction l with
 |nil=>intro kvs ws us r r0;rw[r.nil_inv];exact r0|cons q l ih=>intro kvs ws us r r0;obtain⟨v,us',rfl,r1,r2⟩:=r.cons_inv;exact ih (ws:=putK ws (dk q.1) v) (us:=us') r2 (r0.put r1)
theorem ao.dct(S:ao K H ι M)(hp:H p=Yk)(r:bH K H ι kvs ws):Ext K H ι (upd H p (.dK ws)) (ι++[p])/\ao K (upd H p (.dK ws)) (ι++[p]) (M++[.dct kvs])/\Rep K (upd H p (.dK ws)) (ι++[p]) (.ref M.length) (.ref p):=by have e:Ext K H ι (upd H p (.dK ws)) (ι++[p]):=Loose.Ep (.inl hp);exact⟨e,S.new hp ⟨ws,nJ,r.mono e⟩,Rep.ref (by rw[←S.len];simp)⟩
theorem ao.mz(S:ao K H ι M)(l0:Loose H p)(hn:ι[n]?=Ya p)(r:bH K H ι kvs ws):Ext K H ι (upd H p (.dK ws)) ι/\ao K (upd H p (.dK ws)) ι (M.set n (.dct kvs)):=by have e:Ext K H ι (upd H p (.dK ws)) ι:=Loose.ext l0;exact⟨e,S.put l0 hn ⟨ws,nJ,r.mono e⟩⟩
end
section
variable {X:Cx} {a b c e o:Expr} {es:List Expr} {pos p pos' apos cpos:aP} {f g h:E3} {gl:cF}
def yM(K:Yc)(H:Hp)(ι:List Yn)(Q:List (V×V)->Hp->Prop)(r:R3 (List (a_×D))):Prop:=match r with
 | .ok l M'=>∀ws H' ι',Ext K H ι H' ι'->ao K H' ι' M'->bH K H' ι' l ws->Q (ws.map λkv=>(kV kv.1,kv.2)) H'|_=>False
theorem yM.bind{Q:List (V×V)->Hp->Prop}{r:R3 α}{k:α->Store->R3 (List (a_×D))}(h:yM K H ι Q (r.bind k)):∃a M,r= .ok a M/\yM K H ι Q (k a M):=by
 cases r with
 |ok a M=>exact⟨a,M,rfl,h⟩|exc x M=>exact h.elim|bad=>exact h.elim
def CD(X:Cx)(pos:aP)(ks:List (Option Expr))(vs:List Expr)(r:yp):Prop:=∃mL,Gn X pos ks vs mL/\∀σ H Q,(∃ι M env,ao X.K H ι M/\bj X.K H ι env σ/\yM X.K H ι Q (r env M))->Le mL σ H Q
theorem Zu9:CD X pos [] [] yq:=⟨[],Zs0,λσ H Q ⟨ι,M,env,S,E,h⟩=>h [] H ι Ext.refl S bH.nil⟩
theorem Vg{k v:Expr}{ks:List (Option Expr)}{vs:List Expr}{r:yp}(hk:C3 X k f)(hv:C3 X v g)(hr:CD X pos ks vs r):CD X pos (Ya k::ks) (v::vs) (jB f g r):=by
 obtain⟨mL,hp,ht⟩:=hr;refine⟨_,Zqz hk hv hp,λσ H Q ⟨ι,M,env,S,E,h⟩=>?_⟩;obtain⟨a,M1,e1,h⟩:=yM.bind h;obtain⟨b,M2,e2,h⟩:=yM.bind h;refine⟨ι,M,env,S,E,?_⟩;rw[e1];intro x H1 ι1 x1 S1 r1;refine⟨ι1,M1,env,S1,E.mono x1,?_⟩;rw[e2];intro y H2 ι2 x2 S2 r2;cases hkd:fJ a with
 |none=>simp only[hkd]at h;exact h.elim|some kk=>simp only[hkd]at h;obtain⟨l,M3,e3,h⟩:=yM.bind h;refine ht σ H2 _ ⟨ι2,M2,env,S2,(E.mono x1).mono x2,?_⟩;rw[e3];intro ws H3 ι3 x3 S3 r3;have:=h ((dk kk,y)::ws) H3 ι3 ((x1.trans x2).trans x3) S3 (bH.cons (r2.mono x3) r3);rw[Y8,←yL hkd r1]at this;exact this
theorem ZwU{ks:List (Option Expr)}{vs:List Expr}{r:yp}(hr:CD X pos ks vs r)(hall:ks.all (·.isSome)=true:=by rfl)(hl:ks.length=vs.length:=by rfl)(h0:ks≠[]:=by exact List.cons_ne_nil _ _)(h15:ks.length<=15:=by decide):C3 X (.Dict ks vs pos) (Gw r):=by
 obtain⟨mL,hp,ht⟩:=hr;refine(ZrR hp hall hl h0 h15).imp λσ H Q ⟨ι,M,env,S,E,h⟩ p hp=>?_;obtain⟨x1,S1,r1⟩:=S.dct hp bH.nil;obtain⟨l,M1,e1,h⟩:=Zy.bind h;refine ht σ _ _ ⟨_,_,env,S1,E.mono x1,?_⟩;rw[e1];intro ws H2 ι2 x2 S2 r2;have Vh:ι2[M.length]?=Ya p:=x2.pre _ _ (by rw[←S.len];simp);split at h
 .rename_i hm;obtain⟨ws0,hw0,k0⟩:=S2.obj _ _ _ hm Vh;rw[k0.nil_inv]at hw0;split at h
  .rename_i Adf;refine⟨hw0,ws,rfl,by rw[r2.length];exact Adf,?_⟩;obtain⟨x3,S3⟩:=S2.mz (.inr (.inr (.inl ⟨_,hw0⟩))) Vh (bH.merge (kvs:=[]) (ws:=[]) r2 bH.nil);exact h _ _ _ ((x1.trans x2).trans x3) S3 (Rep.ref Vh)
  .exact h.elim
 .exact h.elim
theorem ZqI:C3 X (.Dict [] [] pos) T5:=ZpQ.imp λσ H Q ⟨ι,M,env,S,E,h⟩ p hp=>by obtain⟨x1,S1,r1⟩:=S.dct hp bH.nil;exact h _ _ _ x1 S1 r1
theorem hu1(hu:X.A.units+80<eG):X.A.units+1<eG:=lB 1 7331617893452817 T1 hu
theorem Mx(S:ao K H ι M){a:Yn}(h:iJ M[n]?=Ya kvs)(ha:ι[n]?=Ya a):∃ws,Rd H a (.dK ws)/\bH K H ι kvs ws:=by
 cases hn:M[n]? with
 |none=>simp[hn]at h|some ob=>
  cases ob with
  |lst _=>simp[hn]at h|dct k=>
   have e:k=kvs:=by simpa[hn]using h
   subst e;obtain⟨ws,hw,kr⟩:=S.obj n _ a hn ha;exact⟨ws,.inl hw,kr⟩
  |dj k=>
   have e:k=kvs:=by simpa[hn]using h
   subst e;obtain⟨ws,⟨o,hw⟩,kr⟩:=S.obj n _ a hn ha;exact⟨ws,.inr ⟨o,hw⟩,kr⟩
  |ins _ _=>simp[hn]at h
theorem Zub(hu:X.A.units+80<eG)(ha:C3 X a f)(hb:C3 X b g)(hs:Tu b:=by exactλ_ _=>rfl):C3 X (.Subscript a b pos) (e2 Gs f g):=(ZrG (hu1 hu) ha hb hs).imp λσ H Q ak=>by
 obtain⟨ι,M,env,S,E,h⟩:=ak;obtain⟨d,M1,e1,h⟩:=Zy.bind h;obtain⟨k,M2,e2,h⟩:=Zy.bind h;refine⟨ι,M,env,S,E,?_⟩;rw[e1];intro x H1 ι1 x1 S1 r1;refine⟨ι1,M1,env,S1,E.mono x1,?_⟩;rw[e2];intro y H2 ι2 x2 S2 r2;cases d with
 | ref n=>
  simp only[Zjs]at h;cases hn:iJ M2[n]? with
  |none=>simp only[hn]at h;exact h.elim|some kvs=>
   cases hk:fJ k with
   |none=>simp only[hn,hk]at h;exact h.elim|some kk=>
    simp only[hn,hk]at h;cases hv:cT kvs kk with
    |none=>simp only[hv]at h;exact h.elim|some w=>simp only[hv]at h;obtain⟨ad,ha,rfl⟩:=(r1.mono x2).eU;obtain⟨ws,hw,kr⟩:=Mx S2 hn ha;have hv':=kr.val kk;rw[hv]at hv';obtain⟨v,ev,rv⟩:=hv';refine⟨ad,v,rfl,?_,h v H2 ι2 (x1.trans x2) S2 rv⟩;rw[yL hk r2,←ev];exact .inl ⟨ws,dk kk,hw,rfl,rfl⟩
 |_=>exact h.elim
theorem Vi{op:D->D->D->Store->R3 D}{Q:VK}(h':Zy K H ι Q (e3 op f g h env M)):
  ∃a M1 b M2 c M3,f env M= .ok a M1/\g env M1= .ok b M2/\h env M2= .ok c M3/\Zy K H ι Q (op a b c M3):=by
 obtain⟨a,M1,e1,h'⟩:=Zy.bind h';obtain⟨b,M2,e2,h'⟩:=Zy.bind h';obtain⟨c,M3,e3,h'⟩:=Zy.bind h';exact⟨a,M1,b,M2,c,M3,e1,e2,e3,h'⟩
theorem Mz{D':Ends}(E:bj K H ι env σ)(h':jX K H ι D' (Zr f env M)):Zy K H ι (λ_ H'=>D'.nx σ H') (f env M):=by
 unfold Zr at h';cases q:f env M with
 |ok d M1=>rw[q]at h';exactλv H1 ι1 x1 S1 r1=>h' σ H1 ι1 x1 S1 (E.mono x1)|exc x M1=>rw[q]at h';exact h'.elim|bad=>rw[q]at h';exact h'.elim
theorem Zob{i:Expr}(hu:X.A.units+80<eG)(ho:C3 X o f)(hi:C3 X i g)(hv:C3 X e h)(hs:nq e (Ya (.Subscript o i pos')) pos.line X.env=pure false:=by rfl):CS X (.Assign [.Subscript o i pos'] e pos) (yr f g h):=(Zns (hu1 hu) ho hi hv hs).imp λD' σ H ak=>by
 obtain⟨ι,M,env,S,E,hh⟩:=ak;obtain⟨d,M1,b,M2,k,M3,e1,e2,e3,hh⟩:=Vi (Mz E hh);refine⟨ι,M,env,S,E,?_⟩;rw[e1];intro v H1 ι1 x1 S1 r1;refine⟨ι1,M1,env,S1,E.mono x1,?_⟩;rw[e2];intro x H2 ι2 x2 S2 r2;refine⟨ι2,M2,env,S2,(E.mono x1).mono x2,?_⟩;rw[e3];intro y H3 ι3 x3 S3 r3;cases b with
 | ref n=>
  simp only[Lr]at hh;cases hn:M3[n]? with
  |none=>simp only[hn]at hh;exact hh.elim|some ob=>
   cases ob with
   |lst _=>simp only[hn]at hh;exact hh.elim|dj _=>simp only[hn]at hh;exact hh.elim|ins _ _=>simp only[hn]at hh;exact hh.elim|dct kvs=>
    cases hk:fJ k with
    |none=>simp only[hn,hk]at hh;exact hh.elim|some kk=>
     simp only[hn,hk]at hh;split at hh
     .rename_i hz;obtain⟨ad,ha,rfl⟩:=(r2.mono x3).eU;obtain⟨ws,hw,kr⟩:=S3.obj n _ ad hn ha;obtain⟨x4,S4⟩:=S3.mz (.inr (.inr (.inl ⟨_,hw⟩))) ha (kr.put (k:=kk) ((r1.mono x2).mono x3));refine⟨ad,_,rfl,?_,hh .non _ _ (((x1.trans x2).trans x3).trans x4) S4 Rep.non⟩;rw[yL hk r3];exact vG.k hw (by rw[kr.length];exact Yo hz lU)
     .exact hh.elim
 |_=>exact hh.elim
theorem o_{i:Expr}{spos:aP}(ho:C3 X o f)(hi:C3 X i g)(hv:C3 X e h)(ha:∀v,jw (.Subscript o i spos) X.env v=(do
   let ov ←nu [v] (aH o X.env)
   let iv ←nu [v,ov] (aH i X.env)
   xx spos
   nu [v,ov,iv] (JF ov iv v)
   release [v,ov,iv] []):=by intro _;rfl)(hs:swapsWithSole [.Subscript o i spos] e pos.line X.env=pure false:=by rfl)(hw:swappedStores [.Subscript o i spos] e X.env=pure Yk:=by rfl)(h1:(pG [.Subscript o i spos] X.env).map (·.2)=[jw (.Subscript o i spos) X.env]:=by rfl):CS X (.Assign [.Subscript o i spos] e pos) (fK f g h):=(ZuY hv (ZtS ho hi set_list ha) hs hw h1).imp λD' σ H ak=>by
 obtain⟨ι,M,env,S,E,hh⟩:=ak;obtain⟨d,M1,b,M2,k,M3,e1,e2,e3,hh⟩:=Vi (Mz E hh);refine⟨ι,M,env,S,E,?_⟩;rw[e1];intro v H1 ι1 x1 S1 r1;refine⟨ι1,M1,env,S1,E.mono x1,?_⟩;rw[e2];intro x H2 ι2 x2 S2 r2;refine⟨ι2,M2,env,S2,(E.mono x1).mono x2,?_⟩;rw[e3];intro y H3 ι3 x3 S3 r3;cases b with
 | ref n=>
  cases k with
  | int j=>
   simp only[T6]at hh;cases hn:M3[n]? with
   |none=>simp only[hn]at hh;exact hh.elim|some ob=>
    cases ob with
    |dct _=>simp only[hn]at hh;exact hh.elim|dj _=>simp only[hn]at hh;exact hh.elim|ins _ _=>simp only[hn]at hh;exact hh.elim|lst xs=>
     simp only[hn]at hh;cases hj:kh xs.length j with
     |none=>simp only[hj]at hh;exact hh.elim|some q=>simp only[hj]at hh;obtain⟨ad,ha,rfl⟩:=(r2.mono x3).eU;obtain⟨ws,hw,kr⟩:=S3.obj n _ ad hn ha;obtain⟨x4,S4⟩:=S3.zJ (.inr (.inl ⟨_,hw⟩)) ha (kr.set q ((r1.mono x2).mono x3));exact⟨ad,ws,j,q,rfl,r3.int_inv,hw,by rw[kr.length];exact hj,hh .non _ _ (((x1.trans x2).trans x3).trans x4) S4 Rep.non⟩
  |_=>exact hh.elim
 |_=>exact hh.elim
end
section
variable {X:Cx} {a b c e o:Expr} {es:List Expr} {pos p apos cpos:aP} {f g h:E3} {gl:cF}
theorem Zw7:bD X (.type "int") (rB X.K Gy):=bD.imp ZoO λxs H Q ak=>by
 obtain⟨ι,M,ds,S,rd,h⟩:=ak;cases ds with
 |nil=>exact h.elim|cons d ds=>
  cases ds with
  |cons _ _=>cases d<;>exact h.elim|nil=>
   obtain⟨x,rfl,r⟩:=Hi rd;cases d with
   |int i=>exact .inl ⟨i,by rw[r.int_inv],Zy.ok h S Rep.int⟩|bl k=>exact .inr ⟨k,by rw[r.iY],Zy.ok h S Rep.int⟩|_=>exact h.elim
theorem ZjP{K:Yc}{H:Hp}{ι:List Yn}:∀{x:List D} {ns:List Int} {vs:List V} {us:List Yd},oY x=Ya ns->Zx K H ι x vs->Vals vs us->IntsAre us ns
 |[],ns,vs,us,h,r,v=>by
  have e:=r.nil_inv;subst e;cases v;have:ns=[]:=by simpa[oY]using h.symm
  subst this;exact .nil
 | .int i::x,ns,vs,us,h,r,v=>by
  obtain⟨u,vs',rfl,r1,r2⟩:=r.cons_inv;have e:=r1.int_inv;subst e;cases v with
  | @cons _ z _ us' rz Vj=>
  obtain⟨t,rfl⟩:=rz;simp only[oY]at h;cases hx:oY x with
  |none=>rw[hx]at h;cases h|some ms=>
   rw[hx]at h;have:ns=i::ms:=by simpa using h.symm
   subst this;exact .cons i t (ZjP hx r2 Vj)
 | .non::_,_,_,_,h,_,_=>by simp[oY]at h|.bl _::_,_,_,_,h,_,_=>by simp[oY]at h|.str _::_,_,_,_,h,_,_=>by simp[oY]at h|.tup _::_,_,_,_,h,_,_=>by simp[oY]at h
 | .bO _::_,_,_,_,h,_,_=>by simp[oY]at h|.ref _::_,_,_,_,h,_,_=>by simp[oY]at h
theorem Vk{Q:VK}{l:Yn}{x:List D}{ns:List Int}(hc:X.calm=true)(I:Inv X pins σ H s)(sq:cD X.K H l vs)(r:Zx X.K H ι x vs)(hx:oY x=Ya ns)(q:Q (.int ns.sum) H):
  Yy (Y4 X.prog X.w) X.A (call (.builtin "sum") [.ref l]) (EP X pins σ Q) X.xe s:=by
 obtain⟨its,rr,pl,zl⟩:=I.list sq;have ia:=ZjP hx r rr;obtain⟨ys,hy⟩:=ia.allInts.items;refine sum_intListG (I.ok.hd hc) (by rw[←hy];exact pl.isList) λh' tk t' hk=>⟨.int ns.sum,H,I.kept hk,⟨t',?_⟩,q⟩;have e1:ns=ys.toList.map (·.1):=by rw[←nums_intItems,←hy];exact(show numsOf its.toArray.toList=ns from ia.numsOf).symm
 rw[preSum_eq,xK (by simp),←e1]
theorem Zu7(S:ao K H ι M){a:Yn}(h:(iJ M[n]?).isSome=true)(ha:ι[n]?=Ya a):Tv H a:=by
 cases hn:iJ M[n]? with
 |none=>rw[hn]at h;cases h|some kvs=>obtain⟨ws,hw,_⟩:=Mx S hn ha;exact .inl ⟨ws,hw⟩
theorem Zq3{z:V}(kr:bH K H ι kvs ws)(k:a_)(rd:Rep K H ι d z):Rep K H ι ((cT kvs k).getD d) ((jR ws (dk k)).getD z):=by
 have hv:=kr.val k;cases q:cT kvs k with
 |none=>rw[q]at hv;rw[hv];exact rd|some w=>rw[q]at hv;obtain⟨v,ev,rv⟩:=hv;rw[ev];exact rv
theorem MF{e':Expr}(hu:X.A.units+80<eG)(ho:C3 X o f)(he:C3 X e g)(he':C3 X e' h)(m:M2 X o "get" apos e e' cpos:=by exact⟨rfl,rfl,rfl,rfl⟩):C3 X (.Call (.Attribute o "get" apos) [e,e'] [] cpos) (aN qZ pZ f (Za g (Za h Ze))):=(ZpT (hu1 hu) ho he he' m).imp λσ H Q ak=>by
 obtain⟨ι,M,env,S,E,hh⟩:=ak;obtain⟨d,M1,e1,hh⟩:=Zy.bind hh;refine⟨ι,M,env,S,E,?_⟩;rw[e1];intro x H1 ι1 x1 S1 r1;cases d with
 | ref n=>
  by_cases hD:(iJ M1[n]?).isSome=true
  .simp only[Br,hD,if_true]at hh;obtain⟨ad,ha,rfl⟩:=r1.eU;obtain⟨ds,M2,e2,hh⟩:=Zy.bind hh;refine⟨ad,rfl,Zu7 S1 hD ha,ι1,M1,env,S1,E.mono x1,?_⟩;cases q:g env M1 with
   |bad=>simp[q]at e2|exc x' M'=>simp[q]at e2|ok b M2'=>
    cases q':h env M2' with
    |bad=>simp[q,q']at e2|exc x' M'=>simp[q,q']at e2|ok b' M3'=>
     simp only[Za,q,q',R3.bind,Ze]at e2;cases e2;intro y H2 ι2 x2 S2 r2;refine⟨ι2,M2',env,S2,(E.mono x1).mono x2,?_⟩;rw[q'];intro z H3 ι3 x3 S3 r3;simp only[ZsQ,Gx]at hh;cases hn:iJ M2[n]? with
     |none=>simp only[hn]at hh;exact hh.elim|some kvs=>
      cases hk:fJ b with
      |none=>simp only[hn,hk]at hh;exact hh.elim|some kk=>simp only[hn,hk]at hh;obtain⟨ws,hw,kr⟩:=Mx S3 hn (x3.pre _ _ (x2.pre _ _ ha));refine⟨jR ws (dk kk),.inl ⟨ws,dk kk,hw,yL hk r2,rfl⟩,hh _ H3 ι3 ((x1.trans x2).trans x3) S3 (Zq3 kr kk r3)⟩
  .simp only[Br,hD]at hh;exact hh.elim
 |_=>exact hh.elim
end
section
variable {prog:aX} {w:aU} {A:bB} {E:Yd->Yg->Prop} {s:Yg}
theorem Zo6:zP (.type "tuple") (lJ "keys")=pure Yk:=by rw[Qt,Qj];kernel_rfl
set_option maxRecDepth 8000 in
theorem Zlk{a:Yn}{o:aB}{xs:Array Yd}{k:Nat}{Q:Option Yd->Yg->Prop}(hx:s.heap.get? a=Ya o)(hc:o.cls= .type "tuple")(hdat:o.data= .seq xs k)(hd:o.dict=Yk)(hA:A.handled=Yk)(h:∀h' tk,(∀b u,s.heap.get? b=Ya u->h'.get? b=Ya u)->Q Yk {s with heap:=h',toks:=tk}):Yy (Y4 prog w) A (zT (.ref a) (lJ "keys")) Q E s:=by
 obtain⟨c,dct,dat,sl⟩:=o;simp only at hc hdat hd;subst hc hdat hd;obtain⟨hp,g,d,tk,os⟩:=s;have hT:∀tk',(⟨hp,g,d,tk',os⟩:Yg).TypeIs (.ref a) "tuple":=λ_=>⟨_,hx,rfl⟩;have f1:=Yj6;have f3:=F.slot_tuple_getattribute.lookup;have f4:=F.slot_tuple_getattribute.bind (.ref a);have f5:=am_tuple_getattr_none;unfold zT QS QX
 repeat(any_goals(first|assumption|exact hT _|((with_reducible show Yy _ _ (call (Value.builtin "tuple.__getattribute__") _ _) _ _ _);refine xr F.slot_tuple_getattribute (hT _) am_entry_tuple_getattribute (F.args_tuple_getattribute_2 _ _) (meets_getattribute_miss_tuple a xs k sl _ _ Zo6 (by decide) (by rw[nj];decide)) ⟨hx,hA,λh' tk' e hx'=>?_⟩)|wp_step))
 obtain⟨t',u',he⟩:=hx'.there;show Yy _ _ (Jt _ _ _ _ _ _ _) _ _ _;unfold Jt
 repeat(any_goals(first|assumption|wp_step))
 all_goals exact h _ _ hx'.of.keeps
theorem MJ:entryFor table "dict.update.loop" =Ya Builtin.«dict.update.loop»:=entryFor_of_tree (by kernel_rfl)
theorem v5:plainId "dict.update.loop" =true:=by decide +kernel
def Vl(prog:aX)(w:aU)(h:au)(v:Yd)(q:Key×Yd):Prop:=∃a o key n,v= .ref a/\h.get? a=Ya o/\o.cls= .type "tuple" /\o.data= .seq #[key,q.2] n/\(dZ prog w).is q.1 key=true
theorem ZqW{d I ax:Yn}{ps:List (Key×Yd)}{res:Yd}(hh:A.in1.handled=Yk)(hne:ax≠I)(hdI:d≠I)(hda:d≠ax)(hl:ps.length=items.size)(hz:ps.length<=100000):
  ∀(k i:Nat) (s:Yg) (kvs:List (Key×Yd)) {R:pI->Yg->Prop},items.size-i=k->i<=items.size->s.heap.IsTupleIter I ax i->s.heap.IsTuple ax items->s.heap.DictOf (dZ prog w) d kvs->kvs.length<=i ->
   (∀(j:Nat) v q,items[j]?=Ya v->ps[j]?=Ya q->Vl prog w s.heap v q/\v≠ .ref d/\v≠ .ref I) ->
   (∀h' tk,h'.DictOf (dZ prog w) d (merged kvs (ps.drop i))->(∀b o,b≠d->b≠I->s.heap.get? b=Ya o->h'.get? b=Ya o)->R (.ok (.ret res)) {s with heap:=h',toks:=tk}) ->
   jM (Y4 prog w) A (.builtin "dict.update.loop" ⟨[.ref d,.ref I,jN i,res],[]⟩) R s:=by
 have W:=Walks.tuple (prog:=prog) (w:=w) hh I ax hne items;intro k
 induction k with
 |zero=>intro i s kvs R hk hi st tup dd hkl hp hR;have hin:i=items.size:=iw hi (lC 2 580682816544801 T1 hk (lK _ _));subst hin;refine Ez MJ ?_;rw[Kw v5 _];show Yy _ A.in1 (iu (.ref I)>>=_) _ _ s;refine Yb (W.done s _ _ ⟨st,tup⟩ λh' tk kk=>?_);show Yy _ A.in1 (Yg9 d []>>=_) _ _ _;refine Yb (Yi (Yi (hR h' tk ?_ λb o hb hI e=>kk b o (by simpa using hI) e)));rw[Yhv (qK hl)];obtain⟨o,es,ep,ho,r⟩:=dd;exact⟨o,es,ep,kk d o (by simpa using hdI) ho,r⟩|succ k ih=>
  intro i s kvs R hk hi st tup dd hkl hp hR;have hlt:i<items.size:=lD 2 0x321320c21a1c031 T1 hk (lG hi);have hv:items[i]?=Ya items[i]:=by simp[hlt]
  have hq:ps[i]?=Ya (ps[i]'(by omega)):=by simp[show i<ps.length by omega]
  refine Ez MJ ?_;rw[Kw v5 _];show Yy _ A.in1 (iu (.ref I)>>=_) _ _ s;refine Yb (W.item i s _ _ hlt ⟨st,tup⟩ λv h1 tk1 hP st1 Cj=>?_);rw[hv]at hP;cases hP;obtain⟨⟨a,o,key,n,ev,ho,hc,hd,hkey⟩,nd,nI⟩:=hp i _ _ hv hq;have haI:a≠I:=λz=>nI (by rw[ev,z]);have had:a≠d:=λz=>nd (by rw[ev,z]);have ho1:h1.get? a=Ya o:=Cj a o (by simpa using haI) ho;have Vm:h1.DictOf (dZ prog w) d kvs:=by obtain⟨o',es,ep,ho',r⟩:=dd;exact⟨o',es,ep,Cj d o' (by simpa using hdI) ho',r⟩
  rw[ev];generalize ps[i]'(lC 2 2203623428113 T1 hlt hl)=q at hq hkey hd;dsimp only;refine Yb (jk (Yb (wpAny_tryCatch ?_)));unfold Yhw;refine Yb (uP (T:="tuple") ⟨o,ho1,hc⟩ ?_);rw[if_pos (by decide)];refine Yb ?_;unfold JD;refine Yb (QL ho1 ?_);rw[hd];refine Yi (Yi ?_);show Yy _ A.in1 (nu [key,q.2] (dictSet d key q.2)) _ _ _;refine jk (Yjl hkey Vm (λh2 dd2 sb=>?_) (by rw[nj];exact lD 4 0x10000007b201331186a05b30102011011 T1 hlt hkl hz hl));refine Yi ⟨Jx v5 _,?_⟩;show jM (Y4 prog w) A (.builtin "dict.update.loop" ⟨[.ref d,.ref I,jN ((i:Int)+1),res],[]⟩) R _;have e1:((i:Int)+1)=((i+1:Nat):Int):=rfl;rw[e1];have k2:∀b u,b≠d->b≠I->s.heap.get? b=Ya u->h2.get? b=Ya u:=λb u hb hI e=>(sb.2 b hb).trans (Cj b u (by simpa using hI) e);refine ih (i+1) _ (sJ kvs q.1 q.2) (iw (lE 3 0x12030c4014a3c2c21a1c021 T1 hk (lG (lB 1 6991908881 T1 hlt)) (lK _ _)) (lE 3 0x310240c21a4c3c201a1c031 T1 hk (lK _ _) (lG (xR hlt)))) hlt ?_ ?_ dd2 ?_ ?_ ?_
  .obtain⟨o',e',r⟩:=st1.1;exact⟨o',(sb.2 I (bK hdI)).trans e',r⟩
  .obtain⟨o',e',r⟩:=st1.2;exact⟨o',(sb.2 ax (bK hda)).trans e',r⟩
  .have:=(show(sJ kvs q.1 q.2).length<=kvs.length+1 from by unfold sJ;split <;>simp);exact lC 2 0xa2c002101a1c001 T1 this hkl
  .intro j v q' hj hq';obtain⟨⟨a',o',key',n',ev',ho',r⟩,nd',nI'⟩:=hp j v q' hj hq';exact⟨⟨a',o',key',n',ev',k2 a' o' (λz=>nd' (by rw[ev',z])) (λz=>nI' (by rw[ev',z])) ho',r⟩,nd',nI'⟩
  .intro h' tk jT yN;refine hR h' tk ?_ λb u hb hI e=>yN b u hb hI (k2 b u hb hI e);have hq2:ps.drop i=q::ps.drop (i+1):=by rw[xJ (by exact lC 2 2203623428113 T1 hlt hl)];congr 1;rw[Y5 (by exact lC 2 2203623428113 T1 hlt hl)]at hq;exact Y3 hq
   rw[hq2];exact jT
theorem Zmh{ax:Yn}{ps:List (Key×Yd)}(hA:A.handled=Yk)(ht:oV s.heap ax items)(hl:ps.length=items.size)(hz:ps.length<=100000)(hp:∀(j:Nat) v q,items[j]?=Ya v->ps[j]?=Ya q->Vl prog w s.heap v q)(h:∀h' tk,h'.DictOf (dZ prog w) s.heap.objs.size (merged [] ps)->(∀b o,s.heap.get? b=Ya o->h'.get? b=Ya o)->Q (.ref s.heap.objs.size) {s with heap:=h',toks:=tk}):
  Yy (Y4 prog w) A (call (.type "dict") [.ref ax]) Q E s:=by
 obtain⟨o,ho,⟨hc,hdn⟩,n,hdat⟩:=id ht;have hlt:ax<s.heap.objs.size:=Yp ho;refine callType_codes (Q₁:=λobj s₁=>obj= .ref s.heap.objs.size/\s₁={s with heap:=s.heap.push {cls:=.type "dict",data:=.dict #[]}}) Ylc (Yiy _) Ykm (Yld _ ⟨rfl,rfl⟩) ?_;rintro obj s₁ ⟨rfl,rfl⟩;have hnew:(s.heap.push {cls:=.type "dict",data:=.dict #[]}).DictOf (dZ prog w) s.heap.objs.size []:=RW s.heap;have hk1:∀b u,s.heap.get? b=Ya u->(s.heap.push {cls:=.type "dict",data:=.dict #[]}).get? b=Ya u:=λb u q=>Yj _ q;refine⟨hnew.typeIs,Yj7 _ _,?_⟩;unfold Builtin.«dict.__init__»;refine Yb ?_;unfold Yha;refine Yb (Yik hnew.typeIs ?_);show Yy _ _ (pure (s.heap.objs.size,[Value.ref ax])) _ _ _;refine Yi ?_;show Yy _ _ (Kv "dict.__init__" s.heap.objs.size (.ref ax) [] .none) _ _ _;unfold Kv;refine Yb (uP (T:="tuple") ⟨o,hk1 _ _ ho,hc⟩ ?_);rw[if_pos (by decide)];refine Yb (Zlk (hk1 _ _ ho) hc hdat hdn hA λh2 tk2 k2=>?_);simp only[Z_,if_true];refine Yb (xu ?_);have d2:h2.DictOf (dZ prog w) s.heap.objs.size []:=by obtain⟨o',es,ep,ho',r⟩:=hnew;exact⟨o',es,ep,k2 _ _ ho',r⟩
 have t2:h2.IsTuple ax items:=⟨o,k2 _ _ (hk1 _ _ ho),hc,n,hdat⟩;have l2:s.heap.objs.size<h2.objs.size:=by obtain⟨o',_,_,ho',_⟩:=d2;exact Yp ho'
 refine Yb (zM t2 ?_);have k3:∀b u,h2.get? b=Ya u->(h2.push {cls:=.type "tuple_iterator",data:=.fields #[.ref ax,.int 0 0]}).get? b=Ya u:=λb u q=>Yj _ q;have t3:(h2.push {cls:=.type "tuple_iterator",data:=.fields #[.ref ax,.int 0 0]}).IsTuple ax items:=by obtain⟨o',e',r⟩:=t2;exact⟨o',k3 _ _ e',r⟩
 have d3:(h2.push {cls:=.type "tuple_iterator",data:=.fields #[.ref ax,.int 0 0]}).DictOf (dZ prog w) s.heap.objs.size []:=by obtain⟨o',es,ep,ho',r⟩:=d2;exact⟨o',es,ep,k3 _ _ ho',r⟩
 refine Yi ⟨Jx v5 _,ZqW (prog:=prog) (w:=w) (A:=A.in1) (ax:=ax) (items:=items) (ps:=ps) hA (Y6 (iy hlt l2)) (Y6 l2) (tu hlt) hl hz items.size 0 _ [] (iw ((Ag _ _)) (lB 1 4309762049 T1 (lK _ _))) (eN _) ⟨_,Y0 _ rfl,rfl,rfl⟩ t3 d3 (eN _) (λj v q hj hq=>?_) λh' tk jT yN=>?_⟩
 .obtain⟨a,o',key,n',ev,ho',r⟩:=hp j v q hj hq;have hla:a<s.heap.objs.size:=Yp ho';refine⟨⟨a,o',key,n',ev,k3 _ _ (k2 _ _ (hk1 _ _ ho')),r⟩,λz=>?_,λz=>?_⟩
  .rw[ev]at z;injection z with z;exact absurd hla (by rw[z];exact pQ _)
  .rw[ev]at z;injection z with z;exact absurd (iy hla l2) (by rw[z];exact pQ _)
 .refine⟨rfl,h h' tk jT λb u q=>yN b u (Y6 (Yp q)) (Y6 (iy (Yp q) l2)) (k3 _ _ (k2 _ _ (hk1 _ _ q)))⟩
end
section
variable {X:Cx}
theorem ZiL{x:List D}(h:lQ (d::x)=Ya l):∃a b k l',d= .tup [a,b]/\fJ a=Ya k/\lQ x=Ya l'/\l=(k,b)::l':=by
 cases d with
 | tup ds=>cases ds with
  |nil=>exact dR h|cons a ds=>cases ds with
   |nil=>exact dR h|cons b ds=>cases ds with
    |cons _ _=>exact dR h|nil=>
     have h:(match fJ a with|some k=>(lQ x).map λl=>(k,b)::l|none=>Yk)=Ya l:=h;cases hk:fJ a with
     |none=>rw[hk]at h;exact dR h|some k=>
      rw[hk]at h;cases hx:lQ x with
      |none=>rw[hx]at h;exact dR h|some l'=>rw[hx]at h;exact⟨a,b,k,l',rfl,hk,rfl,(Y3 h).symm⟩
 |_=>exact dR h
def Vn(X:Cx)(H:Hp)(s:Yg)(ι:List Yn)(l:List (a_×D))(us:List Yd):Prop:=∃(ws:List (Key×V)) (ps:List (Key×Yd)),bH X.K H ι l ws/\KV ws ps/\ps.length=us.length/\∀(j:Nat) v q,us[j]?=Ya v->ps[j]?=Ya q->Vl X.prog X.w s.heap v q
theorem ZmL(I:Inv X pins σ H s){a b:D}{k:a_}{u:V}{z:Yd}{us:List Yd}(hk:fJ a=Ya k)(r:Rep X.K H ι (.tup [a,b]) u)(rz:RelV u z)(h:Vn X H s ι l us):Vn X H s ι ((k,b)::l) (z::us):=by
 obtain⟨ws,ps,kr,kv,lp,hp⟩:=h;obtain⟨ad,xs,eu,sq,rr⟩:=r.iW;rw[eu]at rz;obtain⟨ya,ys,rfl,ra,rr⟩:=rr.cons_inv;obtain⟨yb,ys,rfl,rb,rr⟩:=rr.cons_inv;rw[rr.nil_inv]at sq;obtain⟨its,rv,⟨o,ho,hc,n,hd⟩,_⟩:=I.tuple sq;cases rv with
 | @cons _ u1 _ _ q1 rv=>
 cases rv with
 | @cons _ u2 _ _ q2 rv=>
 cases rv
 refine⟨(dk k,yb)::ws,(dk k,u2)::ps,bH.cons rb kr,.cons ⟨rfl,q2⟩ kv,congrArg Nat.succ lp,λj v q hj hq=>?_⟩;cases j with
 |zero=>rw[←Y3 hj,←Y3 hq];exact⟨ad,o,u1,n,rz,ho,hc,hd,yc (by rw[←yL hk ra];exact q1)⟩|succ j=>exact hp j v q hj hq
theorem pairs_at(I:Inv X pins σ H s){x:List D}{us:List Yd}(h:lQ x=Ya l)(r:Zx X.K H ι x vs)(v:Vals vs us):Vn X H s ι l us:=by
 induction x generalizing l vs us with
 |nil=>rw[r.nil_inv]at v;cases v;rw[←Y3 h];exact⟨[],[],bH.nil,.nil,rfl,λj v q h=>dR h⟩|cons d x ih=>
  obtain⟨a,b,k,l',ed,hk,hx,el⟩:=ZiL h;obtain⟨u,vs',ev,r1,r2⟩:=r.cons_inv;rw[ev]at v;rw[ed]at r1;rw[el];cases v with
  |cons rz Vj=>exact ZmL I hk r1 rz (ih hx r2 Vj)
theorem ZpD(hc:X.calm=true):bD X (.type "dict") (rB X.K q9):=by
 intro pins s σ H xs us Q I rs ⟨ι,M,ds,S,rd,h⟩;cases ds with
 |nil=>exact h.elim|cons d ds=>
  cases ds with
  |cons _ _=>cases d<;>exact h.elim|nil=>
   obtain⟨x,rfl,r⟩:=Hi rd;obtain⟨u,rfl,ru⟩:=vals1 rs;cases d with
   | ref n=>
    cases hn:iJ M[n]? with
    |none=>rw[Ls,hn]at h;exact h.elim|some kvs=>simp only[Ls,Zlp,hn]at h;obtain⟨a,ha,rfl⟩:=r.eU;cases ru;obtain⟨ws,hw,kr⟩:=Mx S hn ha;refine Zrm I hw λp s' hp I'=>⟨.ref p,_,I',rfl,?_⟩;obtain⟨x2,S2,r2⟩:=S.dct hp kr;exact h _ _ _ x2 S2 r2
   | tup z=>
    simp only[Ls,Zlp]at h;cases hp:lQ z with
    |none=>rw[hp]at h;exact h.elim|some l=>
     rw[hp]at h;dsimp only at h;split at h
     .rename_i hz;obtain⟨a,vs,rfl,sq,rr⟩:=r.iW;cases ru;obtain⟨its,rv,ht,_⟩:=I.AcE sq;obtain⟨ws,ps,kr,kv,lp,hpp⟩:=pairs_at I hp rr rv;have hl:ps.length=l.length:=by rw[←kv.length,kr.length]
      refine Zmh (ps:=ps) (I.ok.hd hc) ht (by simpa using lp) (by rw[hl];exact hz) (λj v q hj hq=>hpp j v q (by simpa using hj) hq) λh' tk dd kk=>⟨.ref s.heap.objs.size,upd H s.heap.objs.size (.dK (tX [] ws)),?_,rfl,?_⟩
      .have hm:=kv.merge (kvs:=[]) (vs:=[]) .nil;refine I.laid kk (Yl _) (Gm ?_ (beq_eq_false_iff_ne.mpr (bK (Y6 I.big))) hm dd);have h1:=Lf ws [];rw[pN]at h1;rw[nj];have:=kr.length;exact lC 3 0x10000007b20186a05b1010ec2011021 T1 this h1 hz
      .obtain⟨x2,S2,r2⟩:=S.dct (I.hok.fresh (Yl _)) (bH.merge (kvs:=[]) (ws:=[]) kr bH.nil);exact h _ _ _ x2 S2 r2
     .exact h.elim
   |_=>exact h.elim
end
theorem Zsg{sts:List Ydm}:lW X sts vL:=λ_ _ _ _ _ _ ⟨_,_,_,_,_,h⟩=>h.elim
section
variable {X:Cx} {o e:Expr} {es:List Expr} {apos cpos:aP} {f:E3} {gl:cF}
theorem Zx.erase:∀{ds:List D} {vs:List V} (i:Nat),Zx K H ι ds vs->Zx K H ι (ds.eraseIdx i) (vs.eraseIdx i)
 |[],_,_,h=>by rw[h.nil_inv];exact Zx.nil|d::ds,_,0,h=>by obtain⟨v,us,rfl,r,t⟩:=h.cons_inv;exact t|d::ds,_,i+1,h=>by obtain⟨v,us,rfl,r,t⟩:=h.cons_inv;exact Zx.cons r (t.erase i)
theorem Zx.dropLast(r:Zx K H ι ds vs):Zx K H ι ds.dropLast vs.dropLast:=by rw[Yil,Yil,r.length];exact r.take _
theorem ZwK:qU X "list.pop" (rM X.K jU):=qU.imp (r:=λx xs H Q=>ZqG x xs H Q\/Zxm x xs H Q) (λpins s σ H x xs v us Q I rx rs q=>q.elim (ZpS pins s σ H x xs v us Q I rx rs) (ZuS pins s σ H x xs v us Q I rx rs)) λx xs H Q ak=>by
 obtain⟨ι,M,a,ds,S,ra,rd,h⟩:=ak;cases a with
 | ref n=>
  cases ds with
  | nil=>
   simp only[ZnD,Lq]at h;cases hn:M[n]? with
   |none=>simp only[hn]at h;exact h.elim|some ob=>
    cases ob with
    |dct _=>simp only[hn]at h;exact h.elim|dj _=>simp only[hn]at h;exact h.elim|ins _ _=>simp only[hn]at h;exact h.elim|lst z=>
     simp only[hn]at h;cases hx:z[z.length-1]? with
     |none=>simp only[hx]at h;exact h.elim|some d=>simp only[hx]at h;obtain⟨p,hp,rfl⟩:=ra.eU;have:=rd.nil_inv;subst this;obtain⟨vs,e,rv⟩:=S.obj n _ p hn hp;obtain⟨y,hy,ry⟩:=rv.get hx;obtain⟨x2,S2⟩:=S.zJ (.inr (.inl ⟨_,e⟩)) hp rv.dropLast;exact .inr ⟨p,vs,y,rfl,rfl,e,by rw[rv.length];exact hy,h _ _ _ x2 S2 (ry.mono x2)⟩
  | cons d ds=>
   cases ds with
   |cons _ _=>cases d<;>exact h.elim|nil=>
    cases d with
    | int i=>
     simp only[ZnD,Lq]at h;cases hn:M[n]? with
     |none=>simp only[hn]at h;exact h.elim|some ob=>
      cases ob with
      |dct _=>simp only[hn]at h;exact h.elim|dj _=>simp only[hn]at h;exact h.elim|ins _ _=>simp only[hn]at h;exact h.elim|lst z=>
       simp only[hn]at h;by_cases hb:-1000000<=i/\i<=1000000
       .rw[if_pos hb]at h;cases hk:kh z.length i with
        |none=>simp only[hk]at h;exact h.elim|some k=>
         simp only[hk]at h;cases hx:z[k]? with
         |none=>simp only[hx]at h;exact h.elim|some d=>simp only[hx]at h;obtain⟨p,hp,rfl⟩:=ra.eU;obtain⟨v,ws,rfl,r1,r2⟩:=rd.cons_inv;have:=r2.nil_inv;subst this;have:=r1.int_inv;subst this;obtain⟨vs,e,rv⟩:=S.obj n _ p hn hp;obtain⟨y,hy,ry⟩:=rv.get hx;obtain⟨x2,S2⟩:=S.zJ (.inr (.inl ⟨_,e⟩)) hp (rv.erase k);obtain⟨q1,q2,q3,q4⟩:=Tg (n:=z.length) (i:=i) (j:=k) hk;exact .inl ⟨p,vs,i,k,y,rfl,rfl,e,by omega,by omega,by rw[rv.length];exact q1,hy,h _ _ _ x2 S2 (ry.mono x2)⟩
       .rw[if_neg hb]at h;exact h.elim
    |_=>exact h.elim
 |_=>cases ds<;>exact h.elim
end
section
variable {X:Cx} {a b c e o:Expr} {es:List Expr} {pos p apos cpos:aP} {f g h:E3} {gl:cF}
theorem Zjo:bD X (.type "int") (λxs H Q=>∃x n,xs=[.str x]/\intText? x=Ya n/\x.length<=640/\Q (.int n) H):=by intro pins s σ H xs us Q I r h;obtain⟨x,n,rfl,hn,hz,q⟩:=h;obtain⟨u,rfl,t,rfl⟩:=vals1 r;exact PySem.W.KIN.call_text hn hz ⟨.int n,H,I.tok _,⟨_,rfl⟩,q⟩
theorem Vo:bD X (.type "int") (rB X.K lR):=bD.imp (bD.or Zw7 Zjo) λxs H Q ak=>by
 obtain⟨ι,M,ds,S,rd,h⟩:=ak
 match ds,rd,h with
 | [.str x],rd,h=>
  obtain⟨v,rfl,r⟩:=Hi rd;simp only[ZqA,Zpx]at h;cases hn:Qu ⟨x.toArray⟩with
  |none=>rw[hn]at h;exact h.elim|some n=>
   rw[hn]at h;dsimp only at h;split at h
   .rename_i hz;exact .inr ⟨_,n,by rw[r.str_inv],hn,by simpa[qN]using hz,Zy.ok h S Rep.int⟩
   .exact h.elim
 |[],rd,h=>exact h.elim|[.int i],rd,h=>exact .inl ⟨ι,M,_,S,rd,h⟩|[.bl i],rd,h=>exact .inl ⟨ι,M,_,S,rd,h⟩|[.non],rd,h=>exact h.elim
 |[.tup _],rd,h=>exact h.elim|[.bO _],rd,h=>exact h.elim|[.ref _],rd,h=>exact h.elim|.str _::_::_,rd,h=>exact h.elim
 | .int _::_::_,rd,h=>exact h.elim|.bl _::_::_,rd,h=>exact h.elim|.non::_::_,rd,h=>exact h.elim|.tup _::_::_,rd,h=>exact h.elim
 | .bO _::_::_,rd,h=>exact h.elim|.ref _::_::_,rd,h=>exact h.elim
end
def Zwk(K:Yc)(H:Hp)(ι:List Yn)(it:Bw)(J:It):Prop:=∀(i:Nat) H2 ι2 M2,Ext K H ι H2 ι2->ao K H2 ι2 M2->q_ it.lk M2=true ->
 (∀d,it.items[i]?=Ya d->J.go i H2/\∀x H3,J.K1 i H2 x H3->Ext K H2 ι2 H3 ι2/\ao K H3 ι2 M2/\Rep K H3 ι2 d x)/\(i=it.items.length->J.stop i H2)
def Hl(K:Yc)(H:Hp)(ι:List Yn)(R:It->Hp->Prop)(r:R3 Bw):Prop:=match r with
 | .ok it M'=>∀J H' ι',Ext K H ι H' ι'->ao K H' ι' M'->Zwk K H' ι' it J->R J H'|_=>False
def tIL(K:Yc)(g:yw):TI:=λσ H R=>∃ι M env,ao K H ι M/\bj K H ι env σ/\Hl K H ι R (g env M)
def CIL(X:Cx)(tg e:Expr)(g:yw):Prop:=PI X tg e (tIL X.K g)
theorem Hl.bind{Q:It->Hp->Prop}{r:R3 α}{k:α->Store->R3 Bw}(h:Hl K H ι Q (r.bind k)):∃a M,r= .ok a M/\Hl K H ι Q (k a M):=by
 cases r with
 |ok a M=>exact⟨a,M,rfl,h⟩|exc x M=>exact h.elim|bad=>exact h.elim
section
variable {X:Cx} {tg:Expr} {pos:aP}
theorem ZsK{iter:Expr}{body:List Ydm}{i:yw}{g:G3}(yF:X.xe=λ_ _=>False)(hc:X.calm=true)(hi:CIL X tg iter i)(hg:CG X tg g)(hb:lW X body u)(hs:∀x,wY iter X.env x=pure x:=by intro _;rfl):
  CS X (.For tg iter body [] pos) (GF i g u):=(SM (by rw[yF];exact RX) hc hi hg hb hs).imp λD σ H ak=>by
 obtain⟨ι,M,env,S,E,h⟩:=ak;unfold GF at h;cases q:i env M with
 |exc x M1=>rw[q]at h;exact h.elim|bad=>rw[q]at h;exact h.elim|ok it M1=>
  rw[q]at h;refine⟨ι,M,env,S,E,?_⟩;rw[q];intro J H1 ι1 x1 S1 ok;refine⟨λi m σ2 H2=>m=it.items.length-i/\i<=it.items.length/\∃ι2 M2 dY,Ext X.K H1 ι1 H2 ι2/\ao X.K H2 ι2 M2/\bj X.K H2 ι2 dY σ2/\jX X.K H2 ι2 D (nU it.lk g u (it.items.drop i) dY M2),
   ⟨_,rfl,eN _,ι1,M1,env,Ext.refl,S1,E.mono x1,jX.up x1 h⟩,?_⟩
  rintro i m σ2 H2 ⟨rfl,hi,ι2,M2,dY,x2,S2,E2,h2⟩;by_cases hlt:i<it.items.length
  .have hd:it.items[i]?=Ya it.items[i]:=by simp[hlt]
   rw[xJ hlt]at h2
   first|rw[Ub]at h2|rw[Ua]at h2
   by_cases lk:q_ it.lk M2=true
   .rw[if_pos lk]at h2;obtain⟨go,yl⟩:=(ok i H2 ι2 M2 x2 S2 lk).1 _ hd;cases eg:g it.items[i] dY with
    |none=>rw[eg]at h2;exact h2.elim|some pF=>
     rw[eg]at h2;refine .inr ⟨go,λσ' H'=>∃ι3 M3 jf,Ext X.K H2 ι2 H' ι3/\ao X.K H' ι3 M3/\bj X.K H' ι3 jf σ'/\jX X.K H' ι3 D (nU it.lk g u (it.items.drop (i+1)) jf M3),
      λσ' H' ⟨ι3,M3,jf,x3,S3,E3,h3⟩=>⟨it.items.length-(i+1),lD 2 0x30113c2012a1c0c21 T1 (lG (lB 1 6991908881 T1 hlt)) (lK _ _),rfl,hlt,ι3,M3,jf,x2.trans x3,S3,E3,h3⟩,λx H' hy=>?_⟩
     obtain⟨x7,S7,rx⟩:=yl x H' hy;refine⟨ι2,M2,dY,_,pF,S7,E2.mono x7,rx,eg,λσ' E'=>⟨ι2,M2,pF,S7,E',?_⟩⟩;have h2':=jX.up x7 h2;cases qu:u pF M2 with
     |nx e' M'=>simp only[qu]at h2';exactλσ' H' ι' x' S' E'=>⟨ι',M',e',x7.trans x',S',E',h2'.up x'⟩|ct e' M'=>simp only[qu]at h2';exactλσ' H' ι' x' S' E'=>⟨ι',M',e',x7.trans x',S',E',h2'.up x'⟩|bk e' M'=>simp only[qu]at h2';exact h2'|rt d M'=>simp only[qu]at h2';exact h2'
     |exc x' M'=>simp only[qu]at h2';exact h2'.elim|bad=>simp only[qu]at h2';exact h2'.elim
   .rw[if_neg lk]at h2;exact h2.elim
  .have e0:i=it.items.length:=iw hi (pP hlt);subst e0;rw[Fj]at h2
   first|rw[Ub]at h2|rw[Ua]at h2
   by_cases lk:q_ it.lk M2=true
   .rw[if_pos lk]at h2;exact .inl ⟨(ok _ H2 ι2 M2 x2 S2 lk).2 rfl,h2 σ2 H2 ι2 Ext.refl S2 E2⟩
   .rw[if_neg lk]at h2;exact h2.elim
end
theorem _root_.L2.Inv.Pr{h':au}{t':Nat}(I:Inv X pins σ H s)(k:∀b o,b∉fp->s.heap.get? b=Ya o->h'.get? b=Ya o)(hf:∀b∈fp,gP X pins H b):
  Inv X pins σ H {s with heap:=h',toks:=t'}:=by
 have Gf:∀b u,H b=Ya u->b∉fp:=λb u e z=>by rw[(hf b z).1]at e;cases e
 refine I.step (g':=s.gens) (d':=s.drawn) (ch:=fp) (λb hb=>⟨(hf b hb).2.2.2.1,(hf b hb).2.1,(hf b hb).2.2.2.2.1,(hf b hb).2.2.2.2.2⟩) (λb o _ _ hc e _=>k b o hc e) (λb o _ _ hc e _=>⟨o.slots,k b o hc e⟩) (λ_ _ _ _ n=>n)
  (λb o hc e=>⟨o,k b o hc e⟩) (λ_ _ e=>e) (λ_ _ _ e=>e) (λb ps e=>⟨#[],by rw[e];simp⟩) (λm hm=>?_) (λb u e=>?_) I.bare
 .obtain⟨o,es,ep,ho,r⟩:=hm;exact⟨o,es,ep,k _ o (λz=>(hf _ z).2.1 rfl) ho,r⟩
 .refine(I.hok b u e).stay (λc v hc q=>k c v ?_ q) (λ_ q=>q) λ_ _ q=>q;rcases hc with z|z
  .rw[z];exact Gf b u e
  .exact Gf c _ z
noncomputable def Ite(S:Hp->List V->Prop):It:=⟨λi H=>∃xs x,S H xs/\xs[i]?=Ya x,λi H x H'=>∃T y,x= .ref T/\H T=Yk/\H'=upd H T (.tup [.int i,y])/\∀xs,S H xs->xs[i]?=Ya y,λi H=>∃xs,S H xs/\xs.length<=i⟩
theorem Zjt{h' h'':au}{e:Yn}{i:Nat}{x:V}{u:Yd}{tk tk':Nat}(I:Inv X pins σ H s)(hf:∀b∈[e,it],gP X pins H b)(he:e<s.heap.objs.size)(hi:it<s.heap.objs.size)(ru:RelV x u)(hT:h'.get? s.heap.objs.size=Ya {cls:=.type "tuple",data:=.seq #[.int i tk,u]})(hk:∀b o,b≠e->b≠it->s.heap.get? b=Ya o->h'.get? b=Ya o)(hs:xP e h' h''):
  Inv X pins σ (upd H s.heap.objs.size (.tup [.int i,x])) {s with heap:=h'',toks:=tk'}/\∀b∈[e,it],upd H s.heap.objs.size (.tup [.int i,x]) b=Yk:=by
 have hn:∀b∈[e,it],upd H s.heap.objs.size (.tup [.int i,x]) b=Yk:=λb hb=>by
  have:b≠s.heap.objs.size:=by
   simp only[fj,z_,or_false]at hb;rcases hb with rfl|rfl
   .exact Y6 he
   .exact Y6 hi
  rw[dg this];exact(hf b hb).1
 refine⟨?_,hn⟩;have I1:Inv X pins σ (upd H s.heap.objs.size (.tup [.int i,x])) {s with heap:=s.heap.push {cls:=.type "tuple",data:=.seq ([.int i tk,u]:List Yd).toArray},toks:=s.toks}:=I.laid (t':=s.toks) (λb o e=>Yj _ e) (Yl _) (show fu X.prog X.w _ _ _ (.tup [.int i,x])from⟨by rw[nj];show 2<=_;decide,[.int i tk,u],.cons ⟨tk,rfl⟩ (.cons ru .nil),oV.new _ _⟩);have I3:=I1.Pr (t':=tk') (h':=h'') (fp:=[e,it]) (λb o hb q=>by
  have hbe:b≠e:=λz=>hb (by simp[z]);have hbi:b≠it:=λz=>hb (by simp[z]);rcases Heap.get?_push_cases q with⟨rfl,rfl⟩|q
  .exact(hs.2 _ (tu he)).trans hT
  .exact(hs.2 _ hbe).trans (hk b o hbe hbi q)) λb hb=>⟨hn b hb,(hf b hb).2⟩
 exact I3
theorem Zmz{P:aX}{es:List Expr}{k:Nat}{pos:aP}(a e it:Yn)(hne:e≠it):
  Turn P w K (.Tuple es k pos) (Ite λH xs=>cD K H a xs) [e,it] e (λi h=>(∃old,IsEnum h e it i old)/\h.IsListIter it a i)where
 mem:=by simp
 obj:=λi h st b hb=>by
  obtain⟨⟨old,he⟩,o,ho,c,d⟩:=st;simp only[fj,z_,or_false]at hb;rcases hb with rfl|rfl
  .exact⟨_,he,λv z=>by cases z⟩
  .exact⟨o,ho,λv z=>by rw[d]at z;cases z⟩
 keep:=λi h h' st k=>by obtain⟨⟨old,he⟩,hit⟩:=st;exact⟨⟨old,k e (by simp) _ he⟩,hit.at λo q=>k it (by simp) o q⟩
 item:=by
  intro X hP hw hK hc i pins s σ H E I hf st hg;subst hP hw hK;obtain⟨xs,x,hq,hx⟩:=hg;obtain⟨its,rv,p,hz⟩:=I.list hq;obtain⟨u,hu,ru⟩:=rv.get hx;obtain⟨⟨old,he⟩,hit⟩:=st;have hel:=Yp he;have hil:it<s.heap.objs.size:=by obtain⟨o,ho,_⟩:=id hit;exact Yp ho
  refine wpAny_pyNext_enum_item he hit p.isList (x:=u) (by simpa using hu) hne λh' ho hit' hT hsz hk=>?_;refine⟨_,rfl,Yf8 (s:={s with heap:=h',toks:=s.toks+1}) ho λh'' PX hs''=>?_⟩;obtain⟨I2,n2⟩:=Zjt (x:=x) (tk':=s.toks+1) I hf hel hil ru hT hk hs'';exact⟨.ref s.heap.objs.size,_,I2,rfl,⟨_,x,rfl,I.hok.fresh (Yl _),rfl,λys hy=>by rw[I.X4 hy hq];exact hx⟩,⟨⟨_,by simpa using PX⟩,hit'.extBut hs''.extBut (bK hne)⟩,n2⟩
 done:=by intro X hP hw hK hc i pins s σ H E I hf st hg;subst hP hw hK;obtain⟨xs,hq,hx⟩:=hg;obtain⟨its,rv,p,hz⟩:=I.list hq;obtain⟨⟨old,he⟩,hit⟩:=st;have hl:=rv.length;exact wpAny_pyNext_enum_end (I.ok.hd hc) he hit p.isList (by simp;exact lC 2 2268279672881 T1 hl hx) λh' eb=>⟨rfl,I.Pr (t':=s.toks) (λb o hb q=>eb b o (λz=>hb (by simp[z])) q) hf⟩
 self:=λ_ _ _ _ _ st h=>by obtain⟨⟨old,he⟩,_⟩:=st;exact Ju he h
theorem boot_enumerate:jl "enumerate" =Ya (.type "enumerate"):=by decide +kernel
open AutoSeq1 (wpAny_loadPart')
set_option maxRecDepth 100000
section
variable {prog:aX} {w:aU} {A:bB} {E:Yd->Yg->Prop} {s:Yg}
theorem Zej{it t:Yn}{i:Nat}{x:Yd}(hit:s.heap.IsTupleIter it t i)(ht:s.heap.IsTuple t items)(hx:items[i]?=Ya x)(hQ:∀h',h'.IsTupleIter it t (i+1)->xP it s.heap h'->Q x {s with heap:=h'}):Yy (Y4 prog w) A (mJ (.ref it)) Q E s:=by
 obtain⟨o,ho,hc,hd⟩:=id hit;obtain⟨ol,hol,_,nl,hdl⟩:=ht;unfold mJ;refine Yb (qx (name:=lJ "__next__") hit.typeIs J8
  (qy J8 hit.typeIs Yiz ?_ (Yjm _)))
 show Yy _ _ (mC (.ref it) 0>>=_) _ _ s;refine Yb (e_ ho hd (x:=.ref t) rfl ?_);show Yy _ _ (if(Value.ref t==Value.none)=true then _ else _) _ _ s;rw[if_neg (show¬((Value.ref t==Value.none)=true)from mH)];show Yy _ _ (mC (.ref it) 1>>=_) _ _ s;refine Yb (e_ ho hd (x:=.int i 0) rfl ?_);show Yy _ _ (JD (.ref t)>>=_) _ _ s;refine Yb (qz hol hdl ?_);simp only[qM,hx];refine Yb (Jv ho hd (by simp) (Yi ⟨x,rfl,Yi (hQ _ ?_ (Yjn ..))⟩));exact⟨_,Rg _ ho (Yim (Kz hd _)),(Obj.cls_mapFields ..).trans hc,by rw[Kz hd];simp[jN]⟩
theorem Vp{it t:Yn}{i:Nat}(hh:A.handled=Yk)(hit:s.heap.IsTupleIter it t i)(ht:s.heap.IsTuple t items)(hx:items[i]?=Yk)(hE:∀h' e,Heap.ExtBut it s.heap h'->(∃o,h'.get? e=Ya o/\o.cls= .type "StopIteration")->E (.ref e) {s with heap:=h'}):Yy (Y4 prog w) A (mJ (.ref it)) Q E s:=by
 obtain⟨o,ho,hc,hd⟩:=id hit;obtain⟨ol,hol,_,nl,hdl⟩:=ht;unfold mJ;refine Yb (qx (name:=lJ "__next__") hit.typeIs J8
  (qy J8 hit.typeIs Yiz ?_ (Yjm _)))
 show Yy _ _ (mC (.ref it) 0>>=_) _ _ s;refine Yb (e_ ho hd (x:=.ref t) rfl ?_);show Yy _ _ (if(Value.ref t==Value.none)=true then _ else _) _ _ s;rw[if_neg (show¬((Value.ref t==Value.none)=true)from mH)];show Yy _ _ (mC (.ref it) 1>>=_) _ _ s;refine Yb (e_ ho hd (x:=.int i 0) rfl ?_);show Yy _ _ (JD (.ref t)>>=_) _ _ s;refine Yb (qz hol hdl ?_);simp only[qM,hx];refine Yb (xu (Yb (Jv ho hd (by simp) ?_)));show Yy _ _ (newExc (.type "StopIteration") []>>=_) _ _ _;refine Yb ?_;simp only[newExc,newTuple];refine Yb (oH ?_ (by size_fits));refine Yb (m:=firstArgMember _ _) (wpAny_of_eq (a:=Value.none) (by first|rfl|(simp only[firstArgMember];rfl)) ?_);refine oH ?_ (by size_fits);simp only[raiseNew];refine Yb (wpAny_handled ?_)
 first|rw[show A.in1.handled=Yk from hh]|rw[hh]
 refine Yb (Yi (QF ?_));exact hE _ _ (((Yjn ..).extBut.push _).push _) ⟨_,Y0 _ rfl,rfl⟩
end
theorem Zk9{prog:aX}(hh:A.handled=Yk)(it l:Yn)(hne:l≠it)(items:Array Yd):
  Draws prog w A it [it,l] items.size (λi v=>items[i]?=Ya v) (λi h=>h.IsTupleIter it l i/\h.IsTuple l items)where
 live:=λ_ _ st=>let⟨o,ho,_⟩:=st.1;⟨o,ho⟩
 frame:=λ_ _ _ st hk=>⟨st.1.at λo e=>hk it (by simp) o e,st.2.at λo e=>hk l (by simp) o e⟩
 item:=λi s Q E hi st hQ=>by refine Zej st.1 st.2 (x:=items[i]) (by simp[hi]) λh' hit' hs'=>?_;exact hQ _ h' s.toks (by simp[hi]) ⟨hit',st.2.extBut hs'.extBut hne⟩ hs'
 done:=λs Q E st hE=>Vp hh st.1 st.2 (by simp) hE
theorem Zfm(l:Yn)(items:Array Yd)(n:Nat)(dct:Option Yn)(sl:Array (Option Yd)):
  Meets (Builtin.«enumerate.__new__» ⟨[.type "enumerate",.ref l],[]⟩) (λ_ R s=>s.heap.get? l=Ya {cls:=.type "tuple",dict:=dct,data:=.seq items n,slots:=sl}/\
   R (.ok (.ret (.ref (s.heap.push {cls:=.type "tuple_iterator",data:=.fields #[.ref l,.int 0 0]}).objs.size)))
    {s with heap:=(s.heap.push {cls:=.type "tuple_iterator",data:=.fields #[.ref l,.int 0 0]}).push {cls:=.type "enumerate",data:=.fields #[.none,.bool false,.ref s.heap.objs.size,jN 0,.none,.none]}}):=
 .of_wp λprog w A R s h=>by
  obtain⟨hp,g,d,tk,os⟩:=s;obtain⟨hl,h⟩:=h;have hsub:=sub_enumerate;have hL:Heap.IsTuple (R6 ⟨hp,g,d,tk,os⟩) l items:=⟨_,hl,rfl,n,rfl⟩
  wp_walk using Js hl
  refine wpAny_stack_any λst=>Yi ?_;split
  .rename_i c _ _ _ _ _;cases(c==Value.type "enumerate")
   .wp_walk using Js hl,zM hL
    exact⟨_,rfl,h⟩
   .wp_walk using Js hl,zM hL
    exact⟨_,rfl,h⟩
  .wp_walk using Js hl,zM hL
   exact⟨_,rfl,h⟩
theorem Zfk{prog:aX}{l:Yn}(hL:s.heap.IsTuple l items)(h:∀h',IsEnum h' (s.heap.objs.size+1) s.heap.objs.size 0 .none->h'.IsTupleIter s.heap.objs.size l 0->h'.objs.size=s.heap.objs.size+2 ->
   (∀b o,s.heap.get? b=Ya o->h'.get? b=Ya o)->Q (.ref (s.heap.objs.size+1)) {s with heap:=h'}):
  Yy (Y4 prog w) A (call (.type "enumerate") [.ref l]) Q E s:=by
 obtain⟨⟨c,dct,dt,sl⟩,hl,hc,n,hd⟩:=hL;replace hc:c= .type "tuple":=hc;replace hd:dt= .seq items n:=hd;subst hc hd;refine callType_new F.called_enumerate (by decide) (F.typeCall_enumerate_1 _) (F.newCall_enumerate_1 _) (λobj=>F.args_object_init_2 obj _) F.entry_enumerate_new
  (Zfm l items n dct sl) ⟨hl,?_⟩
 have hz:(s.heap.push {cls:=.type "tuple_iterator",data:=.fields #[.ref l,.int 0 0]}).objs.size=s.heap.objs.size+1:=uX ..;show _/\_;rw[hz];have he:IsEnum ((s.heap.push {cls:=.type "tuple_iterator",data:=.fields #[.ref l,.int 0 0]}).push
   {cls:=.type "enumerate",data:=.fields #[.none,.bool false,.ref s.heap.objs.size,jN 0,.none,.none]}) (s.heap.objs.size+1) s.heap.objs.size 0 .none:=by
  have:=Y0 (s.heap.push {cls:=.type "tuple_iterator",data:=.fields #[.ref l,.int 0 0]})
   (o:={cls:=.type "enumerate",data:=.fields #[.none,.bool false,.ref s.heap.objs.size,jN 0,.none,.none]}) rfl
  rw[hz]at this;exact this
 refine⟨⟨_,he,rfl⟩,h _ he ⟨_,Yj _ (Y0 _ rfl),rfl,rfl⟩ (by rw[uX,hz]) λb o x=>Yj _ (Yj _ x)⟩
theorem ZmA{P:aX}{es:List Expr}{k:Nat}{pos:aP}(a e it:Yn)(hne:e≠it):
  Turn P w K (.Tuple es k pos) (Ite λH xs=>cL K H a xs) [e,it] e (λi h=>(∃old,IsEnum h e it i old)/\h.IsTupleIter it a i)where
 mem:=by simp
 obj:=λi h st b hb=>by
  obtain⟨⟨old,he⟩,o,ho,c,d⟩:=st;simp only[fj,z_,or_false]at hb;rcases hb with rfl|rfl
  .exact⟨_,he,λv z=>by cases z⟩
  .exact⟨o,ho,λv z=>by rw[d]at z;cases z⟩
 keep:=λi h h' st k=>by obtain⟨⟨old,he⟩,hit⟩:=st;exact⟨⟨old,k e (by simp) _ he⟩,hit.at λo q=>k it (by simp) o q⟩
 item:=by
  intro X hP hw hK hc i pins s σ H E I hf st hg;subst hP hw hK;obtain⟨xs,x,hq,hx⟩:=hg;obtain⟨its,rv,p,hz⟩:=I.tuple hq;obtain⟨u,hu,ru⟩:=rv.get hx;obtain⟨⟨old,he⟩,hit⟩:=st;have hel:=Yp he;have hil:it<s.heap.objs.size:=by obtain⟨o,ho,_⟩:=id hit;exact Yp ho
  have pt:s.heap.IsTuple a its.toArray:=p;have hae:e≠a:=by rintro rfl;obtain⟨o,ho,hc,_⟩:=pt;rw[he]at ho;cases ho;exact absurd hc (by simp)
  have hai:a≠it:=by rintro rfl;obtain⟨o,ho,hc,_⟩:=pt;obtain⟨o',ho',hc',_⟩:=hit;rw[ho']at ho;cases ho;rw[hc']at hc;exact absurd hc (by simp)
  have D:=Zk9 (prog:=X.prog) (w:=X.w) (A:=X.A.in1) (I.ok.hd hc) it a hai its.toArray;refine wpAny_pyNext_enum_itemD D he ⟨hit,pt⟩ (by simpa using(Ye.mp hu).1) hne (by simp[hne,hae]) λy h' tk hy ho hst hT hsz hk=>?_;have ey:y=u:=by
   have:its.toArray[i]?=Ya u:=by simpa using hu
   rw[this]at hy;cases hy;rfl
  subst ey;refine⟨_,rfl,Yf8 (s:={s with heap:=h',toks:=tk+1}) ho λh'' PX hs''=>?_⟩;obtain⟨I2,n2⟩:=Zjt (x:=x) (tk':=tk+1) I hf hel hil ru hT hk hs'';exact⟨.ref s.heap.objs.size,_,I2,rfl,⟨_,x,rfl,I.hok.fresh (Yl _),rfl,λys hy=>by rw[I.Pa hy hq];exact hx⟩,⟨⟨_,by simpa using PX⟩,hst.1.extBut hs''.extBut (bK hne)⟩,n2⟩
 done:=by
  intro X hP hw hK hc i pins s σ H E I hf st hg;subst hP hw hK;obtain⟨xs,hq,hx⟩:=hg;obtain⟨its,rv,p,hz⟩:=I.tuple hq;obtain⟨⟨old,he⟩,hit⟩:=st;have hl:=rv.length;have pt:s.heap.IsTuple a its.toArray:=p;have hT:s.TypeIs (.ref e) "enumerate":=⟨_,he,rfl⟩;unfold iu;refine Yb (xg (qx (name:=lJ "__next__") hT Yin
   (qy Yin hT F.entry_enumerate_next ?_ (F.args_enumerate_next_1 _))))
  show Yy _ _ (mC (.ref e) 2>>=_) _ _ _;refine Yb (e_ he rfl (x:=.ref it) rfl ?_);refine Yb (Vp (I.ok.hd hc) hit pt (by simp;exact lC 2 2268279672881 T1 hl hx) λh' x he' hx'=>?_);obtain⟨o,ho,hc⟩:=hx';refine Yb (Qs (T:="StopIteration") (b:=true) ⟨o,ho,hc⟩ Qw ?_);exact Yi ⟨rfl,I.Pr (t':=s.toks) (λb o hb q=>he' b o (λz=>hb (by simp[z])) q) hf⟩
 self:=λ_ _ _ _ _ st h=>by obtain⟨⟨old,he⟩,_⟩:=st;exact Ju he h
section
variable {X:Cx} {es:List Expr} {k:Nat} {a:Expr} {p pos tpos:aP} {f:E3}
def Zud(K:Yc)(ta:TA):TI:=λσ H R=>ta σ H λvs H1=>∃b,vs=[.ref b]/\((∃xs,cD K H1 b xs/\R (Ite λH xs=>cD K H b xs) H1)\/∃xs,cL K H1 b xs/\R (Ite λH xs=>cL K H b xs) H1)
theorem Zsc{ta:TA}(hg:Gl X "enumerate")(hm:X.mg "enumerate" =Yk)(ha:PA X [a] ta)(hs:Yt [a] X.env=[(false,aH a X.env)]:=by rfl):PI X (.Tuple es k tpos) (.Call (.Name "enumerate" p) [a] [] pos) (Zud X.K ta):=by
 intro pins s σ H R I h;refine Call_ (xY I hg hm boot_enumerate (Ft (aG (ha pos pins s σ H _ I h) λus s1 ⟨vs,H1,I1,r1,q1⟩=>?_) hs rfl));obtain⟨b,e,q⟩:=q1;subst e;cases r1 with
 | cons r rr=>
  cases rr
  cases r
  have fp:∀{h':au} {s2:Yg},∀c∈[s1.heap.objs.size+1,s1.heap.objs.size],gP X pins H1 c:=λ{h' s2} c hc=>by
   have hc':s1.heap.objs.size<=c:=by simp only[fj,z_,or_false]at hc;rcases hc with rfl|rfl <;>omega
   exact I1.uJ hc' (I1.hok.fresh hc')
  rcases q with⟨xs,hq,q⟩|⟨xs,hq,q⟩
  .obtain⟨its,rv,pl,hz⟩:=I1.list hq;refine call_enumerate_list pl.isList λh' hE hI hsz hk=>?_;have I2:Inv X pins σ H1 {s1 with heap:=h'}:=I1.kept (t':=s1.toks) hk;exact Ju (s:={s1 with heap:=h'}) hE ⟨_,[s1.heap.objs.size+1,s1.heap.objs.size],_,_,H1,rfl,I2,Zmz b _ _ (Yle _),⟨⟨_,hE⟩,hI⟩,fp (h':=h') (s2:=s1),q⟩
  .obtain⟨its,rv,pl,hz⟩:=I1.tuple hq;refine Zfk (show s1.heap.IsTuple b its.toArray from pl) λh' hE hI hsz hk=>?_;have I2:Inv X pins σ H1 {s1 with heap:=h'}:=I1.kept (t':=s1.toks) hk;exact Ju (s:={s1 with heap:=h'}) hE ⟨_,[s1.heap.objs.size+1,s1.heap.objs.size],_,_,H1,rfl,I2,ZmA b _ _ (Yle _),⟨⟨_,hE⟩,hI⟩,fp (h':=h') (s2:=s1),q⟩
theorem ZsA(hm:X.mg "enumerate" =Yk)(h:C3 X a f)(hg:Gl X "enumerate":=by rfl)(hs:Yt [a] X.env=[(false,aH a X.env)]:=by rfl)(hs':Yt (a::[]) X.env=(false,aH a X.env)::Yt [] X.env:=by rfl):CIL X (.Tuple es k tpos) (.Call (.Name "enumerate" p) [a] [] pos) (Uc f):=
 PI.imp (Zsc hg hm (Zc h Zh hs') hs) λσ H R ak=>by
  obtain⟨ι,M,env,S,E,h⟩:=ak;obtain⟨d,M1,e1,h⟩:=Hl.bind h;refine⟨ι,M,env,S,E,?_⟩;have e2:Za f Ze env M= .ok [d] M1:=by unfold Za;rw[e1];rfl
  rw[e2];intro vs H1 ι1 x1 S1 r1;obtain⟨v,ws,rfl,r,q⟩:=r1.cons_inv;have:=q.nil_inv;subst this;cases d with
  | tup ds=>
   obtain⟨b,vs,rfl,s,r⟩:=r.iW;refine⟨b,rfl,.inr ⟨vs,s,h _ H1 ι1 x1 S1 ?_⟩⟩;intro i H2 ι2 M2 x S2 _;refine⟨λd hd=>?_,λhl=>⟨vs,x.tup _ _ s,by rw[r.length,hl,Ue];exact Yl _⟩⟩;rw[Ud]at hd;cases hq:ds[i]? with
   |none=>rw[hq]at hd;cases hd|some d0=>rw[hq]at hd;simp only[Ylv,u5,Yko]at hd;subst hd;obtain⟨v,hv,rv⟩:=r.get hq;refine⟨⟨vs,v,x.tup _ _ s,hv⟩,λy H3 hy=>?_⟩;obtain⟨T,y',rfl,hT,rfl,hall⟩:=hy;have e:=hall vs (x.tup _ _ s);rw[hv]at e;cases e;exact S2.uK hT (Zx.cons Rep.int (Zx.cons (rv.mono x) Zx.nil))
  | ref n=>
   cases hm:M1[n]? with
   |none=>simp only[hm]at h;exact h.elim|some o=>
    cases o with
    |dct kvs=>simp only[hm]at h;exact h.elim|dj kvs=>simp only[hm]at h;exact h.elim|ins _ _=>simp only[hm]at h;exact h.elim|lst ds=>
     simp only[hm]at h;obtain⟨b,ha,rfl⟩:=r.eU;obtain⟨vs,q,r⟩:=S1.obj n _ b hm ha;refine⟨b,rfl,.inl ⟨vs,cD.of q,h _ H1 ι1 x1 S1 ?_⟩⟩;intro i H2 ι2 M2 x S2 lk;have Ur:M2[n]?=Ya (.lst ds):=by simpa[q_]using lk
     obtain⟨vs2,q2,r2⟩:=S2.obj n _ b Ur (x.pre _ _ ha);refine⟨λd hd=>?_,λhl=>⟨vs2,cD.of q2,by rw[r2.length,hl,Ue];exact Yl _⟩⟩;rw[Ud]at hd;cases hq:ds[i]? with
     |none=>rw[hq]at hd;cases hd|some d0=>rw[hq]at hd;simp only[Ylv,u5,Yko]at hd;subst hd;obtain⟨v,hv,rv⟩:=r2.get hq;refine⟨⟨vs2,v,cD.of q2,hv⟩,λy H3 hy=>?_⟩;obtain⟨T,y',rfl,hT,rfl,hall⟩:=hy;have e:=hall vs2 (cD.of q2);rw[hv]at e;cases e;exact S2.uK hT (Zx.cons Rep.int (Zx.cons rv Zx.nil))
  |_=>exact h.elim
end
end L3
namespace L3
open PySem PySem.Spec PyProof.Rows L2
section
variable {X:Cx}
theorem ZuR:jl "max" =Ya (.builtin "max"):=by decide +kernel
theorem ZsU{K:Yc}{H:Hp}{ι:List Yn}{i j:Int}{xs:List V}(r:Zx K H ι [.int i,.int j] xs):xs=[.int i,.int j]:=by obtain⟨v1,vs1,rfl,q1,r⟩:=r.cons_inv;obtain⟨v2,vs2,rfl,q2,r⟩:=r.cons_inv;have:=r.nil_inv;subst this;have e1:=q1.int_inv;have e2:=q2.int_inv;subst e1 e2;rfl
theorem Zvq(hc:X.calm=true):bD X (.builtin "max") (rB X.K Bx):=bD.imp (ZoK hc) λxs H Q ak=>by
 obtain⟨ι,M,ds,S,rd,h⟩:=ak;unfold Bx at h;split at h
 .exact⟨_,_,ZsU rd,h _ H ι Ext.refl S Rep.int⟩
 .exact h.elim
end
open AutoSeq1 (wpAny_loadPart')
set_option maxRecDepth 100000
section
variable {X:Cx} {o e:Expr} {es:List Expr} {apos cpos:aP} {f:E3} {gl:cF}
theorem ZsW{K:Yc}{T:String}{ty:D->Store->Bool}{m:D->List D->Store->R3 D}(hty:∀H ι M a x,ao K H ι M->Rep K H ι a x->ty a M=true->Bg K T x H)(σ:St)(H:Hp)(Q:VK)(h:nW K (aN ty m f Ze) σ H Q):Zxx K T (rM K m) (nW K f) σ H Q:=by
 obtain⟨ι,M,env,S,E,h⟩:=h;obtain⟨a,M1,e1,h⟩:=Zy.bind h;refine⟨ι,M,env,S,E,?_⟩;rw[e1];intro v H1 ι1 x1 S1 r1;by_cases ht:ty a M1=true
 .rw[if_pos ht]at h;exact⟨hty _ _ _ _ _ S1 r1 ht,ι1,M1,a,[],S1,r1,Zx.nil,h.up x1⟩
 .rw[if_neg ht]at h;exact h.elim
theorem Ho(ho:C3 X o f)(hbase:qC o "pop" X.env (aH o X.env)=aH o X.env:=by rfl)(hline:(apos.endLine==cpos.line)=true:=by rfl):C3 X (.Call (.Attribute o "pop" apos) [] [] cpos) (aN aY jU f Ze):=(ZuA RJ PySem.F.slot_list_pop PySem.F.type_list_pop ZwK ho hbase hline).imp (ZsW Vb)
end
end L3
namespace L3
open PySem PySem.Spec PyProof.Rows L2
set_option maxRecDepth 100000
section
variable {X:Cx} {es:List Expr} {k:Nat} {a b:Expr} {p pos tpos:aP} {f g:E3}
theorem ZoX:jl "zip" =Ya (.type "zip"):=by decide +kernel
end
open PySem PySem.W PyProof.Rows
section
variable {M:Model} {A:bB} {E:Yd->Yg->Prop} {G:Yg->Prop}
def TT(M:Model)(A:bB)(E:Yd->Yg->Prop)(G:Yg->Prop){α:Type}(m:StateT SortSt lu α)(Q:α->SortSt->Prop)(st:SortSt):Prop:=∀s,G s->kasC M A E m (λa st' s'=>Q a st'/\G s') st s
end
end L3
namespace L3
open PySem PySem.Spec PyProof.Rows L2
noncomputable abbrev nm(f:List Nat):aj:=⟨f.toArray⟩
variable{f:List Nat}
theorem Zpj{g:List Nat}(h:nm f=nm g):f=g:=by have:=congrArg (λs:aj=>s.cps.toList) h;simpa using this
section
variable {K:Yc} {H H':Hp} {ι ι':List Yn} {fs:List (List Nat×D)} {gs:List (aj×V)}
theorem gj.mono(e:Ext K H ι H' ι')(h:gj K H ι fs gs):gj K H' ι' fs gs:=⟨h.1,h.2.mono e⟩
theorem gj.nil:gj K H ι [] []:=⟨rfl,Zx.nil⟩
theorem gj.nil_inv(h:gj K H ι [] gs):gs=[]:=List.map_eq_nil_iff.mp h.1
theorem gj.cons_inv{d:D}(h:gj K H ι ((f,d)::fs) gs):∃v gs',gs=(nm f,v)::gs'/\Rep K H ι d v/\gj K H ι fs gs':=by
 cases gs with
 |nil=>cases h.1|cons p gs'=>obtain⟨g,v⟩:=p;obtain⟨h1,h2⟩:=h;rw[Y8,Y8]at h1 h2;obtain⟨e1,e2⟩:=R0 h1;obtain⟨v',ws,e,r,q⟩:=h2.cons_inv;obtain⟨rfl,rfl⟩:=R0 e;exact⟨v,gs',by rw[show g=nm f from e1],r,e2,q⟩
theorem gj.cons{f:List Nat}{d:D}{v:V}(r:Rep K H ι d v)(h:gj K H ι fs gs):gj K H ι ((f,d)::fs) ((nm f,v)::gs):=⟨by rw[Y8,Y8,h.1],Zx.cons r h.2⟩
theorem gj.length(h:gj K H ι fs gs):gs.length=fs.length:=by have:=congrArg Fp h.1;simpa using this
theorem gj.look:∀{fs:List (List Nat×D)} {gs:List (aj×V)},gj K H ι fs gs->(fs.lookup f=Yk->gs.lookup (nm f)=Yk)/\∀d,fs.lookup f=Ya d->∃v,gs.lookup (nm f)=Ya v/\Rep K H ι d v
 |[],_,h=>by rw[h.nil_inv];exact⟨λ_=>rfl,λd e=>by cases e⟩|(g,x)::fs,_,h=>by
  obtain⟨v,gs',rfl,r,t⟩:=h.cons_inv;rw[j8,j8];by_cases e:f=g
  .subst e;rw[beq_self_eq_true,beq_self_eq_true];exact⟨λq=>(by cases q),λd q=>(by cases q;exact⟨v,rfl,r⟩)⟩
  .rw[beq_false_of_ne e,beq_false_of_ne λq=>e (Zpj q)];exact t.look
theorem gj.put{d:D}{v:V}(r:Rep K H ι d v):∀{fs:List (List Nat×D)} {gs:List (aj×V)},gj K H ι fs gs->gj K H ι (uc f d fs) (jh (nm f) v gs)
 |[],_,h=>by rw[h.nil_inv];exact gj.cons r gj.nil|(g,x)::fs,_,h=>by
  obtain⟨w,gs',rfl,r',t⟩:=h.cons_inv;unfold uc jh;by_cases e:g=f
  .subst e;rw[if_pos rfl,if_pos rfl];exact gj.cons r t
  .rw[if_neg e,if_neg λq=>e (Zpj q)];exact gj.cons r' (t.put r)
end
structure v6(K:Yc)(c:List Nat)(C:Yn):Prop where
 at_:ClsAt K c C
 cls:tR K C
 nz:c.head?≠Ya 0
variable{c:List Nat}{C:Yn}
theorem v6.same{K:Yc}{C':Yn}(h:v6 K c C)(q:ClsAt K c C'):C'=C:=by have:=q.symm.trans h.at_;cases this;rfl
variable{H:Hp}{ps:List aj}{F:F3}{ι:List Yn}{fd:j7}
section
variable {X:Cx} {o e:Expr} {es:List Expr} {f g:E3} {gl:cF} {c m:List Nat} {C:Yn} {fn:aj} {pos pos' apos p:aP} {x:aj}
theorem Vq{M:Store}{n:Nat}{a:Yn}(kc:v6 X.K c C)(S:ao X.K H ι M)(ha:ι[n]?=Ya a){fs:List (List Nat×D)}(hn:M[n]?=Ya (.ins c fs)):∃dx gs,H a=Ya (.ins C dx gs)/\gj X.K H ι fs gs:=by
 rcases S.obj n _ a hn ha with⟨C',dx,gs,q,ca,fr⟩|⟨_,_,z,_⟩
 .rw[kc.same ca.1]at q;exact⟨dx,gs,q,fr⟩
 .exact absurd z kc.nz
theorem rF(kc:v6 X.K c C)(nf:nP X.K C (nm m))(he:C3 X e f)(hf:fn=nm m:=by decide +kernel)(hb:qC e fn X.env (aH e X.env)=aH e X.env:=by rfl):C3 X (.Attribute e fn pos) (e1 (jW c m) f):=by
 subst hf;refine(Zvd he hb).imp λσ H Q ak=>?_;obtain⟨ι,M,env,S,E,h⟩:=ak;obtain⟨d,M1,e1,hh⟩:=Zy.bind h;refine⟨ι,M,env,S,E,?_⟩;rw[e1];intro v H1 ι1 x1 S1 r1;cases d with
 | ref n=>
  simp only[BJ]at hh;cases hn:M1[n]? with
  |none=>simp only[hn]at hh;exact hh.elim|some ob=>
   cases ob with
   | ins c' fs=>
    simp only[hn]at hh;split at hh
    .rename_i ec;subst ec;obtain⟨a,ha,rfl⟩:=r1.eU;obtain⟨dx,gs,q,fr⟩:=Vq kc S1 ha hn;split at hh
     .rename_i d hl;obtain⟨w,lw,jm⟩:=(fr.look (f:=m)).2 d hl;exact⟨a,C,dx,gs,w,rfl,q,kc.cls,nf,lw,hh w H1 ι1 x1 S1 jm⟩
     .exact hh.elim
    .exact hh.elim
   |_=>simp only[hn]at hh;exact hh.elim
 |_=>exact hh.elim
theorem Ck(kc:v6 X.K c C)(nf:nP X.K C (nm m))(ho:C3 X o f)(hv:C3 X e g)(hf:fn=nm m:=by decide +kernel)(hs:nq e (Ya (.Attribute o fn pos')) pos.line X.env=pure false:=by rfl):CS X (.Assign [.Attribute o fn pos'] e pos) (yC c m f g):=by
 subst hf;refine(Zuf ho hv hs).imp λD' σ H ak=>?_;obtain⟨ι,M,env,S,E,hh⟩:=ak;have hh:=Mz E hh;obtain⟨d,M1,e1,hh⟩:=Zy.bind hh;obtain⟨b,M2,e2,hh⟩:=Zy.bind hh;refine⟨ι,M,env,S,E,?_⟩;rw[e1];intro y H1 ι1 x1 S1 r1;refine⟨ι1,M1,env,S1,E.mono x1,?_⟩;rw[e2];intro w H2 ι2 x2 S2 r2;cases b with
 | ref n=>
  simp only[Ug]at hh;cases hn:M2[n]? with
  |none=>simp only[hn]at hh;exact hh.elim|some ob=>
   cases ob with
   | ins c' fs=>
    simp only[hn]at hh;split at hh
    .rename_i ec;obtain⟨ec,lf⟩:=ec;subst ec;obtain⟨a,ha,rfl⟩:=r2.eU;obtain⟨dx,gs,q,fr⟩:=Vq kc S2 ha hn;have l0:Loose H2 a:=.inr (.inr (.inr ⟨C,dx,gs,q⟩));have x3:Ext X.K H2 ι2 (upd H2 a (.ins C dx (jh (nm m) y gs))) ι2:=l0.ext;have S3:ao X.K (upd H2 a (.ins C dx (jh (nm m) y gs))) ι2 (M2.set n (.ins c' (uc m d fs))):=S2.put l0 ha (.inl ⟨C,dx,_,nJ,⟨kc.at_,kc.nz⟩,(fr.put (r1.mono x2)).mono x3⟩);exact⟨a,C,dx,gs,rfl,q,kc.cls,nf,by rw[fr.length];exact lf,hh .non _ _ ((x1.trans x2).trans x3) S3 Rep.non⟩
    .exact hh.elim
   |_=>simp only[hn]at hh;exact hh.elim
 |_=>exact hh.elim
def ZyS(P:aX)(w:aU)(K:Yc)(mg:aj->Option Yd)(base:au)(k:Nat)(C:Yn)(m:aj)(ps:List aj)(F:F3):Prop:=(∀ds M,ds.length≠ps.length->F ds M= .bad)/\∃f fd,Meth K C m f/\Binds K fd ps []/\fU P w K mg base j_ k f fd ps (rC K ps.length F)
theorem Zrc{ps:List aj}{F:F3}{a:D}{M1:Store}{n:Nat}(hi:ud c m a M1=true):∃n fs,a= .ref n/\M1[n]?=Ya (.ins c fs)/\fs.lookup m=Yk:=by
 cases a with
 | ref n=>
  simp only[Zl2]at hi;cases hn:M1[n]? with
  |none=>simp[hn]at hi|some ob=>
   cases ob with
   |ins c' fs=>simp only[hn,Y9,decide_eq_true_eq,Option.isNone_iff_eq_none]at hi;obtain⟨rfl,hl⟩:=hi;exact⟨n,fs,rfl,hn,hl⟩|_=>simp[hn]at hi
 |_=>exact ft hi
theorem Zu6{k:Nat}{fa:Yn}(at_:ClsAt X.K c C/\c.head?≠Ya 0)(Mc:Mk X.K C fa)(hF:∀ds M,ds.length≠ps.length->F ds M= .bad)(ok:fU X.prog X.w X.K X.mg X.base j_ k fa fd ps (rC X.K ps.length F))(bi:Binds X.K fd ps [])(hm:X.mg x=Ya (.ref C))(hr:cN (k+1) X.A)(ha:CA X (e::es) gl)(hg:Gl X x:=by rfl)(hdb:(x==("__debug__":aj))=false:=by decide)(he:Yt (e::es) X.env=(false,aH e X.env)::Yt es X.env:=by rfl)(hpl:(eF pos (Yt es X.env)).any (·.1)=false:=by rfl):C3 X (.Call (.Name x p) (e::es) [] pos) (GJ c F gl):=by
 refine(Zsk Mc ok hr hg hm bi .nil ZtE ha hdb he hpl).imp λσ H Q ak=>?_;obtain⟨ι,M,env,S,E,h⟩:=ak;obtain⟨ds,M1,e1,h⟩:=Zy.bind h;refine⟨ι,M,env,S,E,?_⟩;rw[e1];intro vs H1 ι1 x1 S1 r1 y dx hy hd ne;have y2:upd H1 dx (.own y) y=Yk:=by rw[dg (bK ne)];exact hy
 have x2:Ext X.K H1 ι1 (upd H1 dx (.own y)) ι1:=Loose.ext (.inl hd);have S2:ao X.K (upd H1 dx (.own y)) ι1 M1:=S1.other (.inl hd) (S1.fresh hd);have x3:Ext X.K (upd H1 dx (.own y)) ι1 (upd (upd H1 dx (.own y)) y (.ins C dx [])) (ι1++[y]):=Loose.Ep (.inl y2);have S3:ao X.K (upd (upd H1 dx (.own y)) y (.ins C dx [])) (ι1++[y]) (M1++[.ins c []]):=S2.new y2 (.inl ⟨C,dx,[],nJ,at_,gj.nil⟩);have hy':(ι1++[y])[M1.length]?=Ya y:=by rw[←S1.len];simp
 have rr:Rep X.K (upd (upd H1 dx (.own y)) y (.ins C dx [])) (ι1++[y]) (.ref M1.length) (.ref y):=Rep.ref hy';cases q:F (.ref M1.length::ds) (M1++[.ins c []])with
 |bad=>simp only[q]at h;exact h.elim|exc _ _=>simp only[q]at h;exact h.elim|ok d M2=>
  have hl:(D.ref M1.length::ds).length=ps.length:=by refine Fy λz=>?_;rw[hF _ _ z]at q;cases q
  refine⟨ι1++[y],M1++[.ins c []],.ref M1.length::ds,S3,by rw[qG];exact Zx.cons rr ((r1.mono x2).mono x3),hl,?_⟩;rw[q];simp only[q]at h;cases d with
  |non=>intro v H4 ι4 x4 S4 r4;exact⟨r4.jL,h _ H4 ι4 (((x1.trans x2).trans x3).trans x4) S4 (rr.mono x4)⟩|_=>exact h.elim
end
noncomputable def v7(s:Ydm):List Ydm:=match s with
 | .ClassDef _ _ _ b _ _ _ _ _ _ _=>b|_=>[]
def kY(K:Yc)(C:Yn)(m qual:aj)(st:Ydm)(ps:List aj):Prop:=∃f fd,pW K m qual st f fd/\Meth K C m f/\Binds K fd ps []
def MK(K:Yc)(C:Yn)(qual:aj)(st:Ydm)(ps:List aj):Prop:=∃f fd,pW K "__init__" qual st f fd/\Mk K C f/\Binds K fd ps []
def Cm(P:aX)(w:aU)(K:Yc)(mg:aj->Option Yd)(base:au)(k:Nat)(C:Yn)(ps:List aj)(F:F3):Prop:=(∀ds M,ds.length≠ps.length->F ds M= .bad)/\∃f fd,Mk K C f/\Binds K fd ps []/\fU P w K mg base j_ k f fd ps (rC K ps.length F)
section
variable {P:aX} {w:aU} {K:Yc} {mg:aj->Option Yd} {base:au} {C f:Yn} {m qual:aj} {st:Ydm} {N ps:List aj} {k:Nat} {body:S3} {oc:Yd} {od an:Option Yn} {osl:Array (Option Yd)} {dV kV doc pm cdv ct:Yd}
theorem yO(a:Y2 K (.ref C) m=Ya (Ya (.ref f)))(i:nD K (.ref f)=true)(l:K.lookup f=Ya ⟨oc,od,.func (oM m qual (cR st) (cj st) (Zm st) dV kV doc pm an cdv ct),osl⟩)(c:zZ K cdv qual=true)(kp:pJ K (.ref f)=true)(b:Binds K (oM m qual (cR st) (cj st) (Zm st) dV kV doc pm an cdv ct) ps []):kY K C m qual st ps:=⟨f,_,⟨⟨oc,od,dV,kV,doc,pm,an,cdv,ct,osl,rfl,l,c⟩,kp⟩,⟨a,i,kp⟩,b⟩
theorem Zr7(mk:JP K C=true)(kc:pJ K (.ref C)=true)(a:Y2 K (.ref C) "__init__" =Ya (Ya (.ref f)))(i:nD K (.ref f)=true)(l:K.lookup f=Ya ⟨oc,od,.func (oM "__init__" qual (cR st) (cj st) (Zm st) dV kV doc pm an cdv ct),osl⟩)(c:zZ K cdv qual=true)(kp:pJ K (.ref f)=true)(b:Binds K (oM "__init__" qual (cR st) (cj st) (Zm st) dV kV doc pm an cdv ct) ps []):MK K C qual st ps:=⟨f,_,⟨⟨oc,od,dV,kV,doc,pm,an,cdv,ct,osl,rfl,l,c⟩,kp⟩,⟨mk,a,i,kc⟩,b⟩
theorem Cm.of(d:MK K C qual st ps)(S:dz N ps (Zm st))(hb:∀(f:Yn) (cdv:Yd) (A:bB) (outer:List cQ) (s:Yg) (H:Hp) (E:XK),cN k (A.deeper (lH qual (Zm st) s.heap.objs.size f cdv))->lW (nQ j_ P w K mg base N qual (Zm st) f cdv A outer s H E).gC (cj st) body):
  Cm P w K mg base (k+1) C ps (bG ps.length N.length body):=by
 obtain⟨f,fd,F,mk,bi⟩:=d;exact⟨λds M h=>if_neg h,f,fd,mk,bi,Uq F S (hb f)⟩
end
variable{X:Cx}{pos:aP}
theorem ZyR{e:Expr}{es:List Expr}{gl:cF}{p:aP}{x:aj}{k:Nat}(kc:v6 X.K c C)(G:Cm X.prog X.w X.K X.mg X.base k C ps F)(hm:X.mg x=Ya (.ref C))(hr:cN (k+1) X.A)(ha:CA X (e::es) gl)(hg:Gl X x:=by rfl)(hdb:(x==("__debug__":aj))=false:=by decide)(he:Yt (e::es) X.env=(false,aH e X.env)::Yt es X.env:=by rfl)(hpl:(eF pos (Yt es X.env)).any (·.1)=false:=by rfl):C3 X (.Call (.Name x p) (e::es) [] pos) (GJ c F gl):=by obtain⟨hF,f,fd,mk,bi,ok⟩:=G;exact Zu6 ⟨kc.at_,kc.nz⟩ mk hF ok bi hm hr ha hg hdb he hpl
theorem Zqt{P:aX}{w:aU}{h:au}{e:Yn}(x:vU e C h):fu P w H h e (p7 e C):=⟨x,(let⟨o,_,q,_⟩:=x;⟨o,q⟩),λ_ _ z k=>let⟨o,vs,a,b,c⟩:=z;⟨o,vs,k o a,b,c⟩⟩
theorem S8{P:aX}{w:aU}{h:au}{a:Yn}{o:HO}(x:fu P w H h a o):∃u,h.get? a=Ya u:=by
 cases o with
 |lst xs=>obtain⟨_,_,_,_,e⟩:=x;exact⟨_,e⟩|tup xs=>obtain⟨_,_,_,o,e,_⟩:=x;exact⟨o,e⟩|dK kvs=>obtain⟨_,_,_,_,o,_,_,e,_⟩:=x;exact⟨o,e⟩|dT kvs=>obtain⟨_,_,_,_,o,_,_,e,_⟩:=x;exact⟨o,e⟩
 |set S n=>obtain⟨o,_,_,_,e,_⟩:=x;exact⟨o,e⟩|ins C dx fs=>obtain⟨_,_,_,e,_⟩:=x;exact⟨_,e⟩|own y=>exact x|xd fs=>obtain⟨_,⟨o,_,_,e,_⟩,_⟩:=x;exact⟨o,e⟩
 |KR lo hi=>obtain⟨_,_,_,e⟩:=x;exact⟨_,e⟩|fQ ob u=>obtain⟨e,_⟩:=x;exact⟨_,e⟩|vz ps=>exact⟨_,x⟩|met f y=>exact⟨_,x⟩
 |ext φ=>exact x.2.1
def Cp(B:au)(l:List cQ)(e C:Yn)(a0:Yd)(h:au):Prop:=B.StaysIn h/\B.get? e=Yk/\h.FunFrames B l/\∃fl,h.TracedAtW B e (.ref C) a0 fl
def qb(B:au)(l:List cQ)(e C:Yn)(h:au):Prop:=∃a0,Cp B l e C a0 h\/(B.StaysIn h/\B.get? e=Yk/\h.FunFrames B l/\∃oe vs,h.get? e=Ya oe/\oe.cls= .ref C/\oe.data= .fields vs/\vs[0]?=Ya a0/\vs[1]?=Ya .none)
section
variable {B h h':au} {l:List cQ} {e C:Yn}
theorem Vr{a0:Yd}(f:Heap.FlyingW B l e (.ref C) a0 h):vU e C h:=let⟨o,vs,a,b,c,_⟩:=f.first;⟨o,vs,a,b,c⟩
theorem Cp.Hq{a0:Yd}(f:Cp B l e C a0 h):vU e C h:=let⟨_,_,_,_,o,vs,_,_,_,a,b,c,_⟩:=f;⟨o,vs,a,b.1,c⟩
theorem qb.stays(f:qb B l e C h):B.StaysIn h:=by
 obtain⟨a0,f|f⟩:=f
 .exact f.1
 .exact f.1
theorem qb.Hq(f:qb B l e C h):vU e C h:=by
 obtain⟨a0,f|⟨_,_,_,oe,vs,a,b,c,_⟩⟩:=f
 .exact f.Hq
 .exact⟨oe,vs,a,b,c⟩
end
section
variable {M:Model} {A:bB} {E:Yd->Yg->Prop} {s:Yg} {B:au} {env:cQ} {outer:List cQ} {L e C:Yn} {Q:Unit->Yg->Prop}
theorem Zqo{a0:Yd}(hfr:A.frames=Ya (env::outer))(hf:env.frame=Ya L)(f:Cp B (env::outer) e C a0 s.heap)(hQ:∀h',Heap.HeldW B (env::outer) e (.ref C) a0 L h'->s.heap.UpToSlots h'->Q () {s with heap:=h'}):Yy M A (pH (.ref e) env) Q E s:=by
 obtain⟨f1,f2,f3,fl,ht⟩:=f;by_cases q:fl=jN L
 .subst q;exact wpAny_noteFrame_againW hf ht (hQ s.heap ⟨f1,f2,f3,ht⟩ (Heap.UpToSlots.refl _))
 .obtain⟨oe,vs,T,oT,ts,he,⟨hcls,h0⟩,hd,h1,hnT,hTe,hT,hdT,h3⟩:=ht;unfold pH;simp only[hf];refine Yb (e_ he hd h1 ?_);rw[if_pos (show(Value.ref T !=Value.none)=true from by simp)];refine Yb (e_ hT hdT h3 ?_);rw[if_neg (show¬((fl==jN L)=true)from by simpa using q)];refine Yb (Jv hT hdT (Kp.mp h3).1 ?_);have other:∀b,b≠T->(s.heap.update T (FJ (·.setIfInBounds 3 Value.none))).get? b=s.heap.get? b:=λb hb=>J1 _ _ (bK hb);have noRecord:∀b o,s.heap.get? b=Ya o->(∀vs,o.data≠ .fields vs)->b≠T:=λb o hb hnf q=>by
   rw[q,hT]at hb;injection hb with hb;subst hb;exact hnf ts hdT
  refine wpAny_entryW hfr (f3.of_keeps λb o hb hnf=>⟨o,(other b (noRecord b o hb hnf)).trans hb,rfl⟩) hf ((other e (bK hTe)).trans he)
   (λb o hbo=>(other b λq=>by rw[q,hnT]at hbo;cases hbo).trans (f1 b o hbo)) f2 hd (Kp.mp h1).1 h0 λh' hN=>?_
  obtain⟨x1,x2,x3,x4⟩:=hN;rw[hcls]at x3;exact hQ h' ⟨x1,f2,x2,x3⟩ λb o hb hnf=>x4 b o ((other b (noRecord b o hb hnf)).trans hb) hnf
theorem Zqe(hfr:A.frames=Ya (env::outer))(hf:env.frame=Ya L)(f:qb B (env::outer) e C s.heap)(hQ:∀h' a0,Heap.HeldW B (env::outer) e (.ref C) a0 L h'->s.heap.UpToSlots h'->Q () {s with heap:=h'}):Yy M A (pH (.ref e) env) Q E s:=by
 obtain⟨a0,f|⟨f1,f2,f3,oe,vs,he,hc,hd,h0,h1⟩⟩:=f
 .exact Zqo hfr hf f λh' x y=>hQ h' a0 x y
 .unfold pH;simp only[hf];refine Yb (e_ he hd h1 ?_);rw[if_neg (by decide)];refine wpAny_entryW hfr f3 hf he f1 f2 hd (Kp.mp h1).1 h0 λh' hN=>?_;obtain⟨k1,k2,k3,k4⟩:=hN;rw[hc]at k3;exact hQ h' a0 ⟨k1,f2,k2,k3⟩ k4
theorem ZrD(hfr:A.frames=Ya (env::outer))(hf:env.frame=Ya L)(f:qb B (env::outer) e C s.heap)(hQ:∀h',qb B outer e C h'->s.heap.UpToSlots h'->Q () {s with heap:=h'}):Yy M A (JH env (.ref e)) Q E s:=by
 obtain⟨a0,f|⟨f1,f2,f3,oe,vs,he,hc,hd,h0,h1⟩⟩:=f
 .unfold JH;refine Yb (Zqo hfr hf f λh1 x y=>wpAny_landsW x λh' z y'=>?_);obtain⟨k1,k2,⟨_,_,k3⟩,k4⟩:=z;exact hQ h' ⟨a0,.inl ⟨k1,k2,k3,_,k4⟩⟩ (y.trans y')
 .refine wpAny_leaving_firstW hfr f3 hf he f1 f2 hd h1 h0 λh' hL=>?_;obtain⟨k1,⟨_,_,k2⟩,k3,k4⟩:=hL;rw[hc]at k3;exact hQ h' ⟨a0,.inl ⟨k1,f2,k2,_,k3⟩⟩ k4
end
structure v8(B:au)(fs ex:List Yn)(H₀:Hp)(h₀:au)(H:Hp)(e:Yn):Prop where
 vA:∀b,H b≠Yk->b≠e->∃o,B.get? b=Ya o
 old:∀b o,h₀.get? b=Ya o->H₀ b=Yk->b∉fs->b∉ex->B.get? b=Ya o
 there:∀b o,h₀.get? b=Ya o->b∉fs->b∉ex->∃o',B.get? b=Ya o'
section
variable {B h h' h₀:au} {fs ex:List Yn} {H H₀:Hp} {e C:Yn} {P:aX} {w:aU}
theorem v8.hok(c:v8 B fs ex H₀ h₀ H e)(ok:dO P w H h)(he:H e=Ya (p7 e C))(s1:B.StaysIn h)(s2:B.StaysIn h')(x:vU e C h'):dO P w H h':=λb u q=>by
 by_cases hb:b=e
 .subst hb;rw[he]at q;cases q;exact Zqt x
 .refine(ok b u q).stay (λd v hd z=>?_) (λ_ z=>z) λ_ _ z=>z;have hd':H d≠Yk/\d≠e:=by
   rcases hd with rfl|hd
   .exact⟨by rw[q];simp,hb⟩
   .exact⟨by rw[hd];simp,by rintro rfl;rw[he]at hd;cases hd⟩
  obtain⟨o,ho⟩:=c.vA d hd'.1 hd'.2;have:=(s1 d o ho).symm.trans z;cases this;exact s2 d _ ho
theorem v8.un(c:v8 B fs ex H₀ h₀ H e)(u:Un fs ex H₀ H h₀ h)(s2:B.StaysIn h')(sl:h.UpToSlots h')(nf:∀b∈fs,H₀ b=Yk/\∀o,h₀.get? b=Ya o->∀vs,o.data≠ .fields vs):Un fs ex H₀ H h₀ h' where
 keep:=λb o q n hb hx=>s2 b o (c.old b o q n hb hx)
 slot:=λb o q n hb hx=>by obtain⟨s,e1⟩:=u.slot b o q n hb hx;obtain⟨s',e2⟩:=sl b _ e1 ((nf b hb).2 o q);exact⟨s',e2⟩
 free:=u.free
 there:=λb o q hx=>by
  by_cases hb:b∈fs
  .obtain⟨s,e1⟩:=u.slot b o q (nf b hb).1 hb hx;obtain⟨s',e2⟩:=sl b _ e1 ((nf b hb).2 o q);exact⟨_,e2⟩
  .exact let⟨o',z⟩:=c.there b o q hb hx;⟨o',s2 b o' z⟩
 tups:=u.tups
 lq:=u.lq
 mq:=u.mq
end
noncomputable def rG(P:aX)(w:aU):qR:=λouter H s E ev s'=>∃e C H' B,ev= .ref e/\s'.os=s.os/\qL s'.gens/\Un (frs outer) [] H H' s.heap s'.heap/\dO P w H' s'.heap/\H' e=Ya (p7 e C)/\
 qb B outer e C s'.heap/\v8 B (frs outer) [] H s.heap H' e/\E (.ref C) (Ya e) H'
def Vs(X:Cx)(e C:Yn)(H':Hp)(s':Yg):Prop:=H' e=Ya (p7 e C)/\∃B,qb B X.stack e C s'.heap/\v8 B X.fs X.ex X.H₀ X.s₀.heap H' e/\∀p∈X.pn,B.get? p.1=Ya p.2
def XW(X:Cx)(σ:St)(e C:Yn)(H':Hp):Prop:=∀pins s',Inv X pins σ H' s'->Vs X e C H' s'->X.xe (.ref e) s'
noncomputable def EX(X:Cx)(σ:St):XK:=λcv oe H'=>∀e C,cv= .ref C->oe=Ya e->XW X σ e C H'
section
variable {X:Cx} {pins:List (Yn×aB)} {σ:St} {H:Hp} {s s':Yg}
theorem Cq(I:Inv X pins σ H s){b:Yn}{o:aB}(q:X.s₀.heap.get? b=Ya o)(hb:b∉X.fs):b∉frs X.stack:=λz=>by
 rcases fj.mp (I.uG b z)with e|e
 .exact absurd (Yo (Yp q) I.ok.above) (by rw[e];exact pQ _)
 .exact hb e
theorem ZpM(I:Inv X pins σ H s):∀b∈X.fs,X.H₀ b=Yk/\∀o,X.s₀.heap.get? b=Ya o->∀vs,o.data≠ .fields vs:=λb hb=>⟨I.ok.pR b hb,λo q=>by obtain⟨_,o',ho,hd⟩:=I.ok.j6.mem hb;rw[ho]at q;cases q;exact hd⟩
theorem ZxN(I:Inv X pins σ H s){E:XK}{ev:Yd}(h:rG X.prog X.w X.stack H s E ev s'):∃e C H',ev= .ref e/\Inv X pins σ H' s'/\Vs X e C H' s'/\E (.ref C) (Ya e) H':=by
 obtain⟨e,C,H',B,rfl,os,bare,un,hok,he,fl,cv,hE⟩:=h;refine⟨e,C,H',rfl,I.call' os un hok bare (λb z=>nomatch z),⟨he,B,fl,⟨cv.vA,λb o q n hb hx=>?_,λb o q hb hx=>?_⟩,λp hp=>?_⟩,hE⟩
 .exact cv.old b o (I.base.keep b o q n hb hx) (I.base.free b o q n hx) (Cq I q hb) (λz=>nomatch z)
 .obtain⟨o1,q1⟩:=I.base.there b o q hx;exact cv.there b o1 q1 (Cq I q hb) (λz=>nomatch z)
 .obtain⟨e,n,ne,nf,_⟩:=I.pin p (z8 _ hp);exact cv.old p.1 p.2 e n (λz=>(fj.mp (I.uG p.1 z)).elim ne nf) (λz=>nomatch z)
theorem Zr1(I:Inv X pins σ H s){h':au}{e:Yn}{vs:List Yd}(m:Heap.MadeExcOf s.heap h' e (.ref C) vs):
  H e=Yk/\Inv X pins σ (upd H e (p7 e C)) {s with heap:=h'}/\Vs X e C (upd H e (p7 e C)) {s with heap:=h'}:=by
 have hn:H e=Yk:=by
  cases q:H e with
  |none=>rfl|some u=>obtain⟨o,ho⟩:=S8 (I.hok e u q);rw[m.new]at ho;cases ho
 obtain⟨t,ht,_,_⟩:=m.there;have xo:vU e C h':=⟨_,_,ht,rfl,rfl⟩;have ne:∀b o,s.heap.get? b=Ya o->b≠e:=λb o q z=>by subst z;rw[m.new]at q;cases q
 have un:Un X.fs [] H (upd H e (p7 e C)) s.heap h':=
  ⟨λb u q _ _ _=>m.keeps b u q,
   λb u q _ _ _=>⟨u.slots,m.keeps b u q⟩,
   λb u q n _=>by rw[dg (ne b u q)];exact n,
   λb u q _=>⟨u,m.keeps b u q⟩,
   λb xs q=>by rw[dg (qP q hn)];exact q,
   λb u xs q=>by rw[dg (qP q hn)];exact q,
   λb ps q=>⟨#[],by rw[dg (qP q hn),q];simp⟩⟩
 have hok:dO X.prog X.w (upd H e (p7 e C)) h':=λb u q=>by
  by_cases hb:b=e
  .subst hb;rw[nJ]at q;cases q;exact Zqt xo
  .rw[dg hb]at q;exact(I.hok b u q).stay (λc v _ z=>m.keeps c v z) (λc z=>by rw[dg (qP z hn)];exact z) λc xs z=>by rw[dg (qP z hn)];exact z
 refine⟨hn,I.un (t':=s.toks) un hok,nJ,nA s.heap (frs X.stack),⟨.ref t,.inr ⟨λb o q=>m.keeps b o (JL _ q),?_,?_,_,_,ht,rfl,rfl,rfl,rfl⟩⟩,⟨λb hb hne=>?_,λb o q n hb hx=>?_,λb o q hb hx=>?_⟩,λp hp=>?_⟩
 .cases q:(nA s.heap (frs X.stack)).get? e with
  |none=>rfl|some o=>have:=JL _ q;rw[m.new]at this;cases this
 .exact(PySem.W.funFrames_hide I.stack λenv he a ha=>xO.mpr ⟨env,he,ha⟩).of_keeps λb o hb _=>⟨o,m.keeps b o hb,rfl⟩
 .rw[dg hne]at hb;obtain⟨u,q⟩:=Option.ne_none_iff_exists'.mp hb;obtain⟨o,ho⟩:=S8 (I.hok b u q);exact⟨o,zY _ ho λz=>hb (I.Pn b z)⟩
 .exact zY _ (I.base.keep b o q n hb hx) (Cq I q hb)
 .obtain⟨o1,q1⟩:=I.base.there b o q hx;exact⟨o1,zY _ q1 (Cq I q hb)⟩
 .obtain⟨e,n,ne,nf,_⟩:=I.pin p (z8 _ hp);exact zY _ e λz=>(fj.mp (I.uG p.1 z)).elim ne nf
end
def gk(K:Yc)(H:Hp)(ι:List Yn)(Q:VK)(E:XK)(r:R3 D):Prop:=match r with
 | .ok d M'=>∀v H' ι',Ext K H ι H' ι'->ao K H' ι' M'->Rep K H' ι' d v->Q v H'|.exc x M'=>∀e C H' ι',Ext K H ι H' ι'->ao K H' ι' M'->Rep K H' ι' x.arg (.ref e)->ClsAt K x.cls C->E (.ref C) (Ya e) H'|.bad=>False
theorem gk.up{K:Yc}{H1:Hp}{ι1:List Yn}{Q:VK}{E:XK}{r:R3 D}(e:Ext K H ι H1 ι1)(h:gk K H ι Q E r):gk K H1 ι1 Q E r:=by
 cases r with
 |ok d M=>exactλv H' ι' e' S r=>h v H' ι' (e.trans e') S r|exc x M=>exactλa C H' ι' e' S r=>h a C H' ι' (e.trans e') S r|bad=>exact h
theorem Zy.x{K:Yc}{H:Hp}{ι:List Yn}{Q:VK}{E:XK}{r:R3 D}(h:Zy K H ι Q r):gk K H ι Q E r:=by
 cases r with
 |ok d M=>exact h|exc x M=>exact h.elim|bad=>exact h
noncomputable def MN(K:Yc)(n:Nat)(F:F3):Sp:=λvs H Q E=>∃ι M ds,ao K H ι M/\Zx K H ι ds vs/\ds.length=n/\gk K H ι Q E (F ds M)
def ZyV(X:Cx)(f:E3):TE:=λσ H Q=>∃ι M env,ao X.K H ι M/\bj X.K H ι env σ/\gk X.K H ι Q (EX X σ) (f env M)
def kZ(X:Cx)(any:Bool)(σ:St)(H:Hp)(ι:List Yn)(E:Ends)(r:O3):Prop:=match r with
 | .nx env' M'=>∀σ' H' ι',Ext X.K H ι H' ι'->ao X.K H' ι' M'->bj X.K H' ι' env' σ'->E.nx σ' H'|.bk env' M'=>∀σ' H' ι',Ext X.K H ι H' ι'->ao X.K H' ι' M'->bj X.K H' ι' env' σ'->E.bk σ' H'|.ct env' M'=>∀σ' H' ι',Ext X.K H ι H' ι'->ao X.K H' ι' M'->bj X.K H' ι' env' σ'->E.ct σ' H'|.rt d M'=>∀v H' ι',Ext X.K H ι H' ι'->ao X.K H' ι' M'->Rep X.K H' ι' d v->E.rt v H'
 | .exc x M'=>∀σ' e C H' ι',(any=false->σ'=σ)->Ext X.K H ι H' ι'->ao X.K H' ι' M'->Rep X.K H' ι' x.arg (.ref e)->ClsAt X.K x.cls C->XW X σ' e C H'|.bad=>False
def ZwE(X:Cx)(any:Bool)(f:S3):TS:=λE σ H=>∃ι M env,ao X.K H ι M/\bj X.K H ι env σ/\kZ X any σ H ι E (f env M)
def mX(X:Cx)(e:Expr)(f:E3):Prop:=PE X e (ZyV X f)
def ph(X:Cx)(any:Bool)(st:Ydm)(f:S3):Prop:=PS X st (ZwE X any f)
def lX(X:Cx)(any:Bool)(st:List Ydm)(f:S3):Prop:=jz X st (ZwE X any f)
variable{σ:St}
theorem kZ.up{any:Bool}{σ1:St}{H1:Hp}{ι1:List Yn}{Q:Ends}{r:O3}(e:Ext X.K H ι H1 ι1)(hs:any=false->σ1=σ)(h:kZ X any σ H ι Q r):kZ X any σ1 H1 ι1 Q r:=by
 cases r with
 |nx d M=>exactλv H' ι' e' S r=>h v H' ι' (e.trans e') S r|bk d M=>exactλv H' ι' e' S r=>h v H' ι' (e.trans e') S r|ct d M=>exactλv H' ι' e' S r=>h v H' ι' (e.trans e') S r|rt d M=>exactλv H' ι' e' S r=>h v H' ι' (e.trans e') S r
 |exc x M=>exactλσ' a C H' ι' z e' S r=>h σ' a C H' ι' (λq=>(z q).trans (hs q)) (e.trans e') S r|bad=>exact h
theorem Vt{f:S3}{any:Bool}{env:Zt}{M:Store}{E:Ends}(h:kZ X any σ H ι E (gW f env M)):jX X.K H ι E (f env M):=by
 unfold gW at h;cases q:f env M with
 |exc x M1=>rw[q]at h;exact h.elim|bad=>rw[q]at h;exact h.elim|nx e M1=>rw[q]at h;exact h|rt e M1=>rw[q]at h;exact h
 |bk e M1=>rw[q]at h;exact h|ct e M1=>rw[q]at h;exact h
section
variable {X:Cx} {any:Bool} {st:Ydm} {sts:List Ydm} {e c1:Expr} {f:E3} {u w:S3} {pos:aP}
theorem v9(h:CS X.gC st u):ph X any st (gW u):=λpins s σ H D I z=>by obtain⟨ι,M,env,S,E,hf⟩:=z;exact fc (h pins s σ H D (I.wish _) ⟨ι,M,env,S,E,Vt (X:=X) hf⟩) (λ_ _ q=>q.l_) λ_ _ z=>fH z
theorem Hr(h:lW X.gC sts u):lX X any sts (gW u):=λpins s σ H D I z=>by obtain⟨ι,M,env,S,E,hf⟩:=z;exact fc (h pins s σ H D (I.wish _) ⟨ι,M,env,S,E,Vt (X:=X) hf⟩) (λ_ _ q=>q.l_) λ_ _ z=>fH z
theorem gm(h:ph X any st u):lX X any [st] u:=Znr h
theorem iR(h1:ph X true st u)(h2:lX X true sts w):lX X true (st::sts) (Zu u w):=(Zk7 h1 h2).imp λD σ H ak=>by
 obtain⟨ι,M,env,S,E,h⟩:=ak;refine⟨ι,M,env,S,E,?_⟩;unfold Zu at h;cases q:u env M with
 |nx e M1=>rw[q]at h;exactλσ' H' ι' x S' E'=>⟨ι',M1,e,S',E',kZ.up x (λz=>nomatch z) h⟩|rt e M1=>rw[q]at h;exact h|bk e M1=>rw[q]at h;exact h|ct e M1=>rw[q]at h;exact h
 |exc x M1=>rw[q]at h;exact h|bad=>rw[q]at h;exact h
theorem uo{x y:List Ydm}(hc:CT X.gC c1 f)(ha:lX X any x u)(hb:lX X any y w):ph X any (.If c1 x y pos) (aQ (bf f) u w):=(Sy (PT.gC hc) ha hb).imp λD σ H ak=>by
 obtain⟨ι,M,env,S,E,h⟩:=ak;refine⟨ι,M,env,S,E,?_⟩;unfold aQ bf at h;cases q:f env M with
 | ok d M1=>
  rw[q]at h;cases d with
  |bl k=>
   intro H1 ι1 x1 S1;cases k with
   |true=>rw[if_pos rfl];exact⟨ι1,M1,env,S1,E.mono x1,kZ.up x1 (λ_=>rfl) h⟩|false=>rw[if_neg (by decide)];exact⟨ι1,M1,env,S1,E.mono x1,kZ.up x1 (λ_=>rfl) h⟩
  |_=>exact h.elim
 |exc x M1=>rw[q]at h;exact h.elim|bad=>rw[q]at h;exact h.elim
theorem iT(h:mX X e f)(hs:nq e Yk pos.line X.env=pure false:=by rfl):ph X any (.Expr e pos) (Zr f):=(ZnM h hs).imp λD σ H ak=>by
 obtain⟨ι,M,env,S,E,h⟩:=ak;refine⟨ι,M,env,S,E,?_⟩;unfold Zr at h;cases q:f env M with
 |ok d M1=>rw[q]at h;exactλv H1 ι1 x1 S1 r1=>h σ H1 ι1 x1 S1 (E.mono x1)|exc x M1=>rw[q]at h;exactλa C H' ι' x1 S1 r1 c1 a' C' e1 e2=>by cases e1;cases e2;exact h σ a C H' ι' (λ_=>rfl) x1 S1 r1 c1|bad=>rw[q]at h;exact h.elim
theorem Znv(i:Nat){x:aj}{pos':aP}(hN:X.N.Nodup)(he:mX X e f)(hi:X.N[i]?=Ya x:=by rfl)(hx:Loc X.env.scope x:=by first|exact Or.inl rfl|exact Or.inr rfl)(hs:nq e (Ya (.Name x pos')) pos.line X.env=pure false:=by rfl)(hf:X.fn x=true\/X.env.scope.names.lookup x=Ya .local:=by first|exact .inl rfl|exact .inr rfl):ph X any (.Assign [.Name x pos'] e pos) (aJ i f):=(Zrj hN hi hx he hs hf).imp λD σ H ak=>by
 obtain⟨ι,M,env,S,E,h⟩:=ak;refine⟨ι,M,env,S,E,?_⟩;unfold aJ at h;cases q:f env M with
 |ok d M1=>rw[q]at h;exactλv H1 ι1 x1 S1 r1=>h _ H1 ι1 x1 S1 ((E.mono x1).set i r1)|exc x M1=>rw[q]at h;exactλa C H' ι' x1 S1 r1 c1 a' C' e1 e2=>by cases e1;cases e2;exact h σ a C H' ι' (λ_=>rfl) x1 S1 r1 c1|bad=>rw[q]at h;exact h.elim
end
variable{N:List aj}
section
variable {P:aX} {w:aU} {K:Yc} {mg:aj->Option Yd} {base:au}
theorem Zrv{qual:aj}{scope:Scope}{f:Yn}{cd:Yd}{A:bB}{outer:List cQ}{s:Yg}{E:XK}{e:Yn}{H':Hp}(hE:E (.ref C) (Ya e) H'):
  XW (nQ (rG P w) P w K mg base N qual scope f cd A outer s H E) σ e C H':=λpins s' I x=>by
 obtain⟨he,B,fl,cv,_⟩:=x;show Yy _ _ (JH _ (.ref e)) _ _ s';refine ZrD I.ok.frames rfl fl λh' MP sl=>?_;exact⟨e,C,H',B,rfl,I.os,I.bare,cv.un I.base MP.stays sl (ZpM I),cv.hok I.hok he fl.stays MP.stays MP.Hq,he,MP,cv,hE⟩
theorem Zli{H':Hp}{ι':List Yn}{M M':Store}{Q:VK}{E:XK}{d:D}{v:V}(S:ao K H ι M)(x:Ext K H ι H' ι')(S':ao K H' ι' M')(r:Rep K H' ι' d v)(h:gk K H ι Q E (tidy M d M')):Q v H':=Uo S x S' r (by unfold tidy at h ⊢;split at h<;>(rename_i c;first|rw[if_pos c]|rw[if_neg c])<;>exact h)
theorem Zxi{x qual:aj}{st:Ydm}{f:Yn}{k:Nat}{body:S3}(F:pW K x qual st f fd)(S:dz N ps (Zm st))(hb:∀(cdv:Yd) (A:bB) (outer:List cQ) (s:Yg) (H:Hp) (E:XK),cN k (A.deeper (lH qual (Zm st) s.heap.objs.size f cdv))->lX (nQ (rG P w) P w K mg base N qual (Zm st) f cdv A outer s H E) true (cj st) body):
  fU P w K mg base (rG P w) (k+1) f fd ps (MN K ps.length (bG ps.length N.length body)):=by
 obtain⟨oc,od,dV,kV,doc,pm,an,cdv,ct,osl,rfl,lk,hcd⟩:=F.ex;refine Ztj lk hcd S (λvs H Q E ⟨ι,M,ds,_,r,l,_⟩=>by rw[r.length,l]) λA outer s H vs Q E hr ak=>?_;obtain⟨ι,M,ds,SR,r,l,h⟩:=ak;refine⟨_,hb cdv A outer s H E hr,ι,M,ds.map Ya++Yh (N.length-ps.length) Yk,SR,?_,?_⟩
 .have e:L2.start N vs=vs.map Ya++Yh (N.length-ps.length) Yk:=by unfold L2.start;rw[r.length,l]
  rw[e];exact bj.start r _
 .unfold bG at h;rw[if_pos l]at h;cases q:body (ds.map Ya++Yh (N.length-ps.length) Yk) M with
  |nx env' M'=>rw[q]at h;exactλσ' H' ι' x S' E'=>Zli SR x S' Rep.non h|rt d M'=>rw[q]at h;exactλv H' ι' x S' r'=>Zli SR x S' r' h|bk _ _=>rw[q]at h;exact h.elim|ct _ _=>rw[q]at h;exact h.elim
  |exc _ _=>rw[q]at h;exactλσ' a C H' ι' _ x S' r' c'=>Zrv (h a C H' ι' x S' r' c')|bad=>rw[q]at h;exact h.elim
end
section
variable {P:aX} {w:aU} {K:Yc} {mg:aj->Option Yd} {base:au}
theorem ZnJ{k n:Nat}{f:Yn}(G:fU P w K mg base (rG P w) k f fd ps (MN K n F)):fU P w K mg base j_ k f fd ps (rC K n F):=
 ⟨λvs H Q E z=>let⟨ι,M,ds,S,r,l,h⟩:=z;G.len vs H Q E0 ⟨ι,M,ds,S,r,l,h.x⟩,λA outer s H args us vs Q E hr he hb hv z=>let⟨ι,M,ds,S,r,l,h⟩:=z;zN (G.run A outer s H args us vs Q E0 hr he hb hv ⟨ι,M,ds,S,r,l,h.x⟩) λr s' z=>by
  cases r with
  |error e=>obtain⟨_,_,_,_,_,_,_,_,_,_,_,_,z⟩:=z;exact z.elim|ok fl=>cases fl<;>exact z⟩
def qe(P:aX)(w:aU)(K:Yc)(mg:aj->Option Yd)(base:au)(k:Nat)(x:aj)(ps:List aj)(F:F3):Prop:=(∀ds M,ds.length≠ps.length->F ds M= .bad)/\∃f fd,mg x=Ya (.ref f)/\pJ K (.ref f)=true/\Binds K fd ps []/\fU P w K mg base (rG P w) k f fd ps (MN K ps.length F)
def dJ(P:aX)(w:aU)(K:Yc)(mg:aj->Option Yd)(base:au)(k:Nat)(C:Yn)(m:aj)(ps:List aj)(F:F3):Prop:=(∀ds M,ds.length≠ps.length->F ds M= .bad)/\∃f fd,Meth K C m f/\Binds K fd ps []/\fU P w K mg base (rG P w) k f fd ps (MN K ps.length F)
theorem qe.fn{k:Nat}{x:aj}(h:qe P w K mg base k x ps F):bA P w K mg base k x ps F:=let⟨n,f,fd,a,b,c,d⟩:=h;⟨n,f,fd,a,b,c,ZnJ d⟩
theorem dJ.yP{k:Nat}{x:aj}(h:dJ P w K mg base k C x ps F):ZyS P w K mg base k C x ps F:=let⟨n,f,fd,a,b,d⟩:=h;⟨n,f,fd,a,b,ZnJ d⟩
theorem qe.of{x:aj}{st:Ydm}{k:Nat}{body:S3}(d:cX K mg x st ps)(S:dz N ps (Zm st))(hb:∀(f:Yn) (cdv:Yd) (A:bB) (outer:List cQ) (s:Yg) (H:Hp) (E:XK),cN k (A.deeper (lH x (Zm st) s.heap.objs.size f cdv))->lX (nQ (rG P w) P w K mg base N x (Zm st) f cdv A outer s H E) true (cj st) body):
  qe P w K mg base (k+1) x ps (bG ps.length N.length body):=by
 obtain⟨f,fd,F,m,bi⟩:=d;exact⟨λds M h=>if_neg h,f,fd,m,F.kp,bi,Zxi F S (hb f)⟩
theorem dJ.of{m qual:aj}{st:Ydm}{k:Nat}{body:S3}(d:kY K C m qual st ps)(S:dz N ps (Zm st))(hb:∀(f:Yn) (cdv:Yd) (A:bB) (outer:List cQ) (s:Yg) (H:Hp) (E:XK),cN k (A.deeper (lH qual (Zm st) s.heap.objs.size f cdv))->lX (nQ (rG P w) P w K mg base N qual (Zm st) f cdv A outer s H E) true (cj st) body):
  dJ P w K mg base (k+1) C m ps (bG ps.length N.length body):=by
 obtain⟨f,fd,F,mt,bi⟩:=d;exact⟨λds M h=>if_neg h,f,fd,mt,bi,Zxi F S (hb f)⟩
end
section
variable {X:Cx} {o e:Expr} {es:List Expr} {f:E3} {gl:cF} {c m:List Nat} {C:Yn} {fn x:aj} {pos pos' apos p:aP} {k:Nat} {ps:List aj} {F:F3}
theorem Ztu{fa:Yn}{sp:Sp}{pins:List (Yn×aB)}{s:Yg}{Q:VK}{us:List Yd}{vs:List V}(G:fU X.prog X.w X.K X.mg X.base (rG X.prog X.w) k fa fd ps sp)(hr:cN k X.A)(hb:Binds X.K fd ps [])(I:Inv X pins σ H s)(r:Vals vs us)(h:sp vs H Q (EX X σ)):Yy (Y4 X.prog X.w) X.A (call (.ref fa) us) (EP X pins σ Q) X.xe s:=by
 have hl:(us++[]).length=ps.length:=by rw[qG,←r.length];exact G.len _ _ _ _ h
 have hb':=hb s us I.dw hl;rw[qG]at hb';refine JB (zN (G.run X.A X.stack s H ⟨us,[]⟩ us vs Q (EX X σ) hr I.env0 hb' r h) λr s' hq=>?_);cases r with
 |error e=>obtain⟨e,C,H',rfl,I',x,hE⟩:=ZxN I hq;exact hE e C rfl rfl pins s' I' x|ok fl=>
  cases fl with
  |ret u=>exact I.after hq|next=>exact fH hq|brk=>exact fH hq|cont=>exact fH hq
theorem Vu{es:List Expr}{pins:List (Yn×aB)}{s:Yg}{M M1:Store}{env:Zt}{ds:List D}{R:List Yd->Yg->Prop}(ha:CA X.gC es gl)(I:Inv X pins σ H s)(S:ao X.K H ι M)(E:bj X.K H ι env σ)(q:gl env M= .ok ds M1)(h:∀us s1 vs H1 ι1,Inv X pins σ H1 s1->Vals vs us->Ext X.K H ι H1 ι1->ao X.K H1 ι1 M1->Zx X.K H1 ι1 ds vs->R us s1):Yy (Y4 X.prog X.w) X.A (spliced (eF pos (Yt es X.env))) R X.xe s:=by
 refine fc (ha pos pins s σ H (λvs H1=>∃ι1,Ext X.K H ι H1 ι1/\ao X.K H1 ι1 M1/\Zx X.K H1 ι1 ds vs) (I.wish _) ⟨ι,M,env,S,E,?_⟩) (λus s1 z=>?_) λ_ _ z=>fH z
 .rw[q];exactλvs H1 ι1 x1 S1 r1=>⟨ι1,x1,S1,r1⟩
 .obtain⟨vs,H1,I1,r,ι1,x1,S1,r1⟩:=z;exact h us s1 vs H1 ι1 I1.l_ r x1 S1 r1
theorem ZnA(G:qe X.prog X.w X.K X.mg X.base k x ps F)(hr:cN k X.A)(ha:CA X.gC (e::es) gl)(hg:Gl X x:=by rfl)(hdb:(x==("__debug__":aj))=false:=by decide)(he:Yt (e::es) X.env=(false,aH e X.env)::Yt es X.env:=by rfl)(hpl:(eF pos (Yt es X.env)).any (·.1)=false:=by rfl):mX X (.Call (.Name x p) (e::es) [] pos) (Zw F (bJ gl)):=by
 obtain⟨hn,fa,fd,hm,kp,bi,ok⟩:=G;intro pins s σ H Q I h;obtain⟨ι,M,env,S,E,h⟩:=h;refine Ew (Ba I hg hm ?_ hdb);unfold Zw bJ at h;cases q:gl env M with
 |exc _ _=>rw[q]at h;exact h.elim|bad=>rw[q]at h;exact h.elim|ok ds M1=>
  rw[q]at h;have h:gk X.K H ι Q (EX X σ) (F ds M1):=h;have hl:ds.length=ps.length:=by refine Fy λz=>?_;rw[hn ds M1 z]at h;exact h.elim
  exact JM (h₀:=X.base) I.ok.mod.tM kp (Vu ha I S E q λus s1 vs H1 ι1 I1 r x1 S1 r1=>⟨I1.dw,Ztu ok hr bi I1 r ⟨ι1,M1,ds,S1,r1,hl,h.up x1⟩⟩) he hpl
theorem gn{pl:lu Bool}(kc:v6 X.K c C)(G:dJ X.prog X.w X.K X.mg X.base k C fn ps F)(hr:cN k X.A)(ho:C3 X.gC o f)(ha:CA X.gC (e::es) gl)(hf:fn=nm m:=by decide +kernel)(hst:Yt (e::es) X.env=(false,aH e X.env)::Yt es X.env:=by rfl)(hpl:(eF pos (Yt es X.env)).any (·.1)=false:=by rfl)(ht:aH (.Call (.Attribute o fn apos) (e::es) [] pos) X.env=(do
   let ov ←aH o X.env
   xx apos.atName
   let(f,first) ←nu [ov] (QT ov fn pl)
   callWith pos f first (eF pos (Yt (e::es) X.env)) (zR pos (zO [] X.env))):=by rfl):mX X (.Call (.Attribute o fn apos) (e::es) [] pos) (bN c m F (bf f) (bJ gl)):=by
 subst hf;obtain⟨hn,fa,fd,mt,bi,ok⟩:=G;intro pins s σ H Q I h;obtain⟨ι,M,env,S,E,h⟩:=h;refine PySem.W.methodCall_KW (pl:=pl) ?_ ht;unfold bN bf bJ at h;cases q:f env M with
 |exc _ _=>rw[q]at h;exact h.elim|bad=>rw[q]at h;exact h.elim|ok a M1=>
  rw[q]at h;refine fc (ho pins s σ H (λv H1=>∃ι1,Ext X.K H ι H1 ι1/\ao X.K H1 ι1 M1/\Rep X.K H1 ι1 a v) (I.wish _) ⟨ι,M,env,S,E,by rw[q];exactλv H1 ι1 x1 S1 r1=>⟨ι1,x1,S1,r1⟩⟩) (λu s1 z=>?_) λ_ _ z=>fH z;obtain⟨v,H1,I1,rv,ι1,x1,S1,r1⟩:=z;have I1:=I1.l_;simp only[R3.bind]at h;split at h
  .rename_i hi;obtain⟨n,fs,rfl,hm,hl⟩:=Zrc (ps:=ps) (F:=F) (n:=0) hi;obtain⟨pa,hp,rfl⟩:=r1.eU;obtain⟨dx,gs,ea,fr⟩:=Vq kc S1 hp hm;obtain rfl:u=Value.ref pa:=rv;refine Zml I1 ea kc.cls mt ((fr.look (f:=m)).1 hl) ?_;cases q2:gl env M1 with
   |exc _ _=>rw[q2]at h;exact h.elim|bad=>rw[q2]at h;exact h.elim|ok ds M2=>
    rw[q2]at h;have h:gk X.K H ι Q (EX X σ) (F (.ref n::ds) M2):=h;have hl:(D.ref n::ds).length=ps.length:=by refine Fy λz=>?_;rw[hn _ M2 z]at h;exact h.elim
    exact JM (first:=[.ref pa]) (h₀:=X.base) I.ok.mod.tM mt.kp (Vu ha I1 S1 (E.mono x1) q2 λus s2 vs H2 ι2 I2 r x2 S2 r2=>⟨I2.dw,Ztu (us:=.ref pa::us) (vs:=.ref pa::vs) ok hr bi I2 (.cons rfl r) ⟨ι2,M2,.ref n::ds,S2,Zx.cons (Rep.ref (x2.pre _ _ hp)) r2,hl,h.up (x1.trans x2)⟩⟩) hst hpl
  .exact h.elim
end
noncomputable abbrev Vv:List Yd:=[.type "ValueError",.type "Exception",.type "BaseException",.type "object"]
def Vw(K:Yc)(c:List Nat)(C:Yn):Prop:=ClsAt K c C/\∃(na q:aj) (N:Yn) (bs bm:List Yd) (hdct:Bool) (sn:List aj) (sub:List Yd) (ab:Bool) (col:Option Bool) (dd:Option Yn) (k0 k1 k2 k3 k5:Option Yd),
 K.lookup C=Ya (Fb na q C N bs bm hdct sn sub ab col dd k0 k1 k2 k3 k5 "ValueError.__new__")/\(∀h:au,K.In h->∃mN,h.Ns N mN/\mN "__init__" =Yk)/\∀h:au,K.In h->OwnTail h Vv bm
theorem ZjT{any:Bool}{x:aj}{np cpos:aP}{a:Expr}{as:List Expr}{gl:cF}(O:Vw X.K c C)(hm:X.mg x=Ya (.ref C))(ha:CA X.gC (a::as) gl)(hc:X.calm=true:=by rfl)(hg:Gl X x:=by rfl)(hdb:(x==("__debug__":aj))=false:=by decide)(he:Yt (a::as) X.env=(false,aH a X.env)::Yt as X.env:=by rfl)(hpl:(eF cpos (Yt as X.env)).any (·.1)=false:=by rfl):ph X any (.Raise (Ya (.Call (.Name x np) (a::as) [] cpos)) Yk pos) (BK c gl):=by
 obtain⟨at_,na,q,N,bs,bm,hdct,sn,sub,ab,col,dd,k0,k1,k2,k3,k5,lk,hN,hT⟩:=O;intro pins s σ H D I z;obtain⟨ι,M,env,S,E,h⟩:=z;unfold BK at h;cases qg:gl env M with
 |exc _ _=>rw[qg]at h;exact h.elim|bad=>rw[qg]at h;exact h.elim|ok ds M1=>
  rw[qg]at h
  match ds,h,qg with
  |[],h,_=>exact h.elim|_::_::_,h,_=>exact h.elim|[d],h,qg=>
   obtain⟨mN,hns,hni⟩:=hN X.base I.ok.mod.tM;refine wpAny_Raise_call_subU (C:=C) (nm:=na) (q:=q) (N:=N) (bs:=bs) (bm:=bm) (hdct:=hdct) (sn:=sn) (sub:=sub) (ab:=ab) (col:=col) (dd:=dd) (k0:=k0) (k1:=k1) (k2:=k2) (k3:=k3) (k5:=k5)
    Yf9 (bmB:=Vv) (by decide) Yf9 (mN:=mN) ((hT X.base I.ok.mod.tM).hasType (by decide)) (I.ok.hd hc) (by rw[he];show(false|| (eF cpos (Yt as X.env)).any (·.1))=false;rw[hpl];rfl) hni (Ba I hg hm ⟨rfl,?_⟩ hdb)
   have key:=Vu (pos:=cpos) (R:=λus s2=>us.length<=Y7/\s2.heap.get? C=Ya (Fb na q C N bs bm hdct sn sub ab col dd k0 k1 k2 k3 k5 "ValueError.__new__")/\s2.heap.Ns N mN/\OwnTail s2.heap Vv bm/\∀h' e,Heap.MadeExcOf s2.heap h' e (.ref C) us->X.xe (.ref e) {s2 with heap:=h'}) ha I S E qg (λus s1 vs H1 ι1 I1 r x1 S1 r1=>by
    refine⟨?_,I1.dw _ _ lk,hns.keeps I1.bk,hT _ I1.dw,λh' e mk=>?_⟩
    .rw[←r.length,r1.length];exact(by decide:1<=Y7)
    .obtain⟨hn,I2,Hs⟩:=Zr1 I1 mk;exact h σ e C _ (ι1++[e]) (λ_=>rfl) (x1.trans (Loose.Ep (.inl hn))) (S1.new hn (.inr ⟨C,nJ,rfl,at_,rfl⟩)) (Rep.ref (by rw[←S1.len];simp)) at_ pins _ I2 Hs)
   rw[he]at key ⊢;exact Ks (fc key (λvs s₂ h₂=>⟨rfl,h₂⟩) λ_ _ y=>y)
noncomputable abbrev inX(X:Cx)(A':bB)(E':Yd->Yg->Prop):Cx:={X with A:=A',calm:=false,xe:=E'}
noncomputable abbrev MT(X:Cx)(M_:List (Yn×aB))(E':Yd->Yg->Prop):Cx:={X with pn:=M_,xe:=E'}
variable{qw:List (Yn×aB)}{E':Yd->Yg->Prop}
section
variable {X:Cx} {pins:List (Yn×aB)} {σ:St} {H:Hp} {s:Yg}
theorem ZnZ(I:Inv X pins σ H s)(A':bB)(E':Yd->Yg->Prop)(hf:A'.frames=X.A.frames):Inv (inX X A' E') pins σ H s:=
 let ok:=I.ok
 ⟨⟨ok.mod,ok.kind,ok.glob,ok.blt,ok.above,ok.inj,ok.has,ok.cab,(λz=>nomatch z),hf.trans ok.frames,ok.Az,ok.A_,ok.bs,ok.nO,ok.wV,ok.uI,ok.j6,ok.pR⟩,I.os,I.bare,I.base,I.loc,I.cell,I.free,I.j5,I.pin,I.hok,I.len⟩
theorem Zpv{σ':St}{H':Hp}{s':Yg}{A':bB}(I:Inv X pins σ H s)(J:Inv (inX X A' E') qw σ' H' s'):Inv X qw σ' H' s':=⟨I.ok,J.os,J.bare,J.base,J.loc,J.cell,J.free,J.j5,J.pin,J.hok,J.len⟩
theorem ZsR(I:Inv X pins σ H s)(E':Yd->Yg->Prop):Inv (MT X (X.pn++pins) E') [] σ H s:=
 let ok:=I.ok
 ⟨⟨ok.mod,ok.kind,ok.glob,ok.blt,ok.above,ok.inj,ok.has,ok.cab,ok.hd,ok.frames,ok.Az,ok.A_,ok.bs,ok.nO,ok.wV,ok.uI,ok.j6,ok.pR⟩,I.os,I.bare,I.base,I.loc,I.cell,I.free,I.j5,λp hp=>I.pin p (by simpa using hp),I.hok,I.len⟩
theorem Ht{σ':St}{H':Hp}{s':Yg}(I:Inv X pins σ H s)(J:Inv (MT X (X.pn++pins) E') qw σ' H' s'):Inv X pins σ' H' s':=⟨I.ok,J.os,J.bare,J.base,J.loc,J.cell,J.free,J.j5,λp hp=>J.pin p (z8 _ hp),J.hok,J.len⟩
theorem ZrP{D:Ends}{f:Flow}{s':Yg}(I:Inv X pins σ H s)(h:SP (MT X (X.pn++pins) E') qw D f s'):SP X pins D f s':=by
 cases f with
 |next=>obtain⟨σ',H',J,q⟩:=h;exact⟨σ',H',Ht I J,q⟩|brk=>obtain⟨σ',H',J,q⟩:=h;exact⟨σ',H',Ht I J,q⟩|cont=>obtain⟨σ',H',J,q⟩:=h;exact⟨σ',H',Ht I J,q⟩|ret u=>obtain⟨v,σ',H',J,r,q⟩:=h;exact⟨v,σ',H',Ht I J,r,q⟩
theorem Nb{B h':au}{e:Yn}(I:Inv X pins σ H s)(he:H e=Ya (p7 e C))(s1:B.StaysIn s.heap)(cv:v8 B X.fs X.ex X.H₀ X.s₀.heap H e)(hp:∀p∈X.pn++pins,B.get? p.1=Ya p.2)(s2:B.StaysIn h')(sl:s.heap.UpToSlots h')(xo:vU e C h'):Inv X pins σ H {s with heap:=h'}:=by
 have cellK:∀c v,s.heap.IsCell c v->h'.IsCell c v:=λc v z=>by
  obtain⟨o,ho,hd⟩:=z;obtain⟨s3,e3⟩:=sl c o ho λvs q=>by rw[hd]at q;cases q
  exact⟨_,e3,hd⟩
 refine⟨I.ok,I.os,I.bare,cv.un I.base s2 sl (ZpM I),?_,λx c z=>?_,I.free,I.j5,λp hq=>⟨s2 _ _ (hp p hq),(I.pin p hq).2⟩,cv.hok I.hok he s1 s2 xo,I.len⟩
 .obtain⟨m,hn,hl⟩:=I.loc;refine⟨m,sl.ns hn,λi x v e1 e2 e3=>?_⟩;obtain⟨u,r,l⟩:=hl i x v e1 e2 e3;refine⟨u,r,?_⟩;rcases l with l|⟨k,c,e,z⟩
  .exact .inl l
  .exact .inr ⟨k,c,e,cellK _ _ z⟩
 .obtain⟨v,q⟩:=I.cell x c z;exact⟨v,cellK _ _ q⟩
theorem Zvx{M:Model}{A:bB}{E:Yd->Yg->Prop}{Q:Unit->Yg->Prop}{j:Nat}{n:aj}(I:Inv X pins σ H s)(hN:X.N.Nodup)(hj:X.N[j]?=Ya n)(hl:X.env.scope.names.lookup n=Ya .local)(h:∀s',Inv X pins (σ.set j Yk) H s'->Q () s'):Yy M A (do bindName X.env n .none;Yi0 X.env n pos) Q E s:=by
 have hl':X.env.kindOf n=Ya .local:=hl;have hp:(X.env.scope.kind== .class|| (X.env.scope.kind== .module&&X.env.locals !=X.env.globals))=false:=by rw[I.ok.kind];rfl
 obtain⟨m,hn,hv⟩:=id I.loc;refine Yb (wpAny_bindName (Yh6 hl' hn (λh₁ hn₁ hs₁=>?_) hp));unfold Yi0 unbindName deleteName;refine E_ (Yb (wpAny_point (Yb ?_)));simp only[hp,hl'];rw[if_neg (by decide)];refine Yb (wpAny_nsDel_keeps hn₁ λh₂ v hn₂ hs₂=>?_);simp only[Z9,if_true,if_false,J5,Bool.not_true];refine Yi (wpAny_point (h _ ?_));have sb:=hs₁.trans hs₂;have ne:∀b o,X.s₀.heap.get? b=Ya o->b≠X.env.locals:=λb o q=>Y6 (Yo (Yp q) I.ok.above);have nt:∀b,H b≠Yk->b≠X.env.locals:=λb q z=>q (by rw[z];exact I.free);have cellK:∀x c,X.env.cells.lookup x=Ya c->∀v,s.heap.IsCell c v->h₂.IsCell c v:=λx c z v q=>by obtain⟨o,ho,hd⟩:=q;exact⟨o,(sb.2 c (I.vB x c z)).trans ho,hd⟩
 refine⟨I.ok,I.os,I.bare,⟨λb o q n hb hx=>?_,λb o q n hb hx=>?_,I.base.free,λb o q hx=>?_,I.base.tups,I.base.lq,I.base.mq⟩,⟨_,hn₂,λi x v' e1 e2 e3=>?_⟩,λx c z=>?_,I.free,I.j5,λp hp=>?_,λb u q=>?_,by rw[oO];exact I.len⟩
 .exact(sb.2 b (ne b o q)).trans (I.base.keep b o q n hb hx)
 .obtain⟨sl,z⟩:=I.base.slot b o q n hb hx;exact⟨sl,(sb.2 b (ne b o q)).trans z⟩
 .obtain⟨o',z⟩:=I.base.there b o q hx;exact⟨o',(sb.2 b (ne b o q)).trans z⟩
 .have hij:i≠j:=λz=>by
   subst z;rw[Yhm]at e2;cases q:σ[i]? with
   |none=>rw[q]at e2;simp at e2|some _=>rw[q]at e2;simp at e2
  rw[Yf (bK hij)]at e2;obtain⟨u,r,l⟩:=hv i x v' e1 e2 e3;have hxn:x≠n:=λz=>hij (Ss hN e1 (by rw[z];exact hj));refine⟨u,r,?_⟩;rcases l with⟨k,l⟩|⟨k,c,e,z⟩
  .refine .inl ⟨k,?_⟩;show(if x=n then _ else _)=_;rw[if_neg hxn];show(if x=n then _ else _)=_;rw[if_neg hxn];exact l
  .exact .inr ⟨k,c,e,cellK x c e _ z⟩
 .obtain⟨v,q⟩:=I.cell x c z;exact⟨v,cellK x c z v q⟩
 .obtain⟨e,n,ne',r⟩:=I.pin p hp;exact⟨(sb.2 _ ne').trans e,n,ne',r⟩
 .refine(I.hok b u q).stay (λc v hc z=>(sb.2 c (nt c ?_)).trans z) (λ_ z=>z) λ_ _ z=>z;rcases hc with rfl|hc
  .rw[q];simp
  .rw[hc];simp
end
theorem bj.unset{K:Yc}{env:Zt}(r:bj K H ι env σ)(j:Nat):bj K H ι (env.set j Yk) (σ.set j Yk):=by
 refine⟨by simp[r.1],λi d h=>?_⟩;by_cases hij:i=j
 .subst hij;rw[Yhm]at h;cases q:env[i]? with
  |none=>rw[q]at h;simp at h|some _=>rw[q]at h;simp at h
 .rw[Yf (bK hij)]at h;obtain⟨w,q,z⟩:=r.2 i d h;exact⟨w,by rw[Yf (bK hij)];exact q,z⟩
theorem ZuU{x n:aj}{np pos2:aP}{body suite:List Ydm}{b0:Ydm}{cs:List (List Nat)}(j:Nat){b h:S3}{CE:Yn}(hN:X.N.Nodup)(hm:X.mg x=Ya (.ref CE))(hsub:∀c C,cs.contains c=true->ClsAt X.K c C->JS X.K (.ref C) (.ref CE)=Ya true)(hb:∀M_ E',lX (MT X M_ E') false body b)(hs:∀A' E',lW (inX X A' E') (b0::suite) h)(hst:X.stack=X.env::X.outer:=by rfl)(hfr:X.env.frame=Ya X.env.locals:=by rfl)(hj:X.N[j]?=Ya n:=by rfl)(hl:X.env.scope.names.lookup n=Ya .local:=by rfl)(hg:Gl X x:=by rfl)(hdb:(x==("__debug__":aj))=false:=by decide):CS X (.Try body [.ExceptHandler (Ya (.Name x np)) (Ya n) (b0::suite) pos] [] [] pos2) (GK cs j b h):=by
 intro pins s σ H D I z;obtain⟨ι,M,env,S,E,hf⟩:=z;refine wpAny_Try_except (fc (hb (X.pn++pins) _ [] s σ H D (ZsR I _) ⟨ι,M,env,S,E,?_⟩) (λf s1 q=>?_) (λ_ _ z=>z))
 rotate_left
 .have q:=ZrP I q;cases f with
  |next=>obtain⟨σ',H',J,q⟩:=q;exact Ey ⟨σ',H',J,q⟩|brk=>exact q|cont=>exact q|ret u=>exact q
 unfold GK at hf;cases q:b env M with
 |nx e M1=>rw[q]at hf;exact hf|rt e M1=>rw[q]at hf;exact hf|bk e M1=>rw[q]at hf;exact hf|ct e M1=>rw[q]at hf;exact hf
 |bad=>rw[q]at hf;exact hf|exc x1 M1=>
  rw[q]at hf;dsimp only at hf;have hc:cs.contains x1.cls=true:=Fy λz=>by rw[if_neg z]at hf;exact hf
  rw[if_pos hc]at hf;intro σ' e C H' ι' hσ xt S1 r1 c1 qw s' J Hs;obtain rfl:=hσ rfl;obtain⟨he,B,fl,cv,hpn⟩:=Hs;have I1:Inv X pins σ' H' s':=Ht I J;have Vx:qb B (X.env::X.outer) e C s'.heap:=by rw[←hst];exact fl
  have P0:X.A.frames=Ya (X.env::X.outer):=by rw[←hst];exact I1.ok.frames
  show Yy (Y4 X.prog X.w) X.A (pH (.ref e) X.env) _ _ s';refine Zqe P0 hfr Vx λh₄ a0 held Hu=>?_;refine wpAny_landsW held λh₅ Er Vy=>?_;have I5:Inv X pins σ' H' {s' with heap:=h₅}:=Nb I1 he fl.stays cv hpn Er.1 (Hu.trans Vy) (Vr Er);have SN:=ZnZ I5 (X.A.mark (Ya (.ref e))) (λ_ _=>False) rfl;refine wpAny_handleBy_cons (codeAny_handlers_test (Ba SN hg hm ?_ hdb)) (by intro q;cases q);have LT:PySem.W.Looks (Y4 X.prog X.w) h₅ (typeOf (.ref e)) (.ref C):=by obtain⟨o,vs,a,b,_⟩:=Vr Er;exact b▸(PySem.W.Looks.ld a).andThen .now
  refine PySem.W.exm_one (K:=X.K) (cls:=.ref C) I5.dw LT (hsub _ _ hc c1) _ _ _ _ (λ_ _ q=>q) ?_;refine codeAny_handlers_suite_as ?_;refine lands_againW Er λh₆ YX Vz=>?_;have I6:Inv X pins σ' H' {s' with heap:=h₆}:=Nb (s:={s' with heap:=h₅}) I5 he Er.1 cv hpn YX.1 Vz (Vr YX);have I6':=ZnZ I6 (X.A.mark (Ya (.ref e))) (λ_ _=>False) rfl;refine Sv (X:=inX X (X.A.mark (Ya (.ref e))) λ_ _=>False) (v:=.ref e) I6' hN hj (.inl hl) rfl (λs7 I7=>?_) (.inr hl);refine fc (hs (X.A.mark (Ya (.ref e))) (λ_ _=>False) pins s7 (σ'.set j (Ya (.ref e))) H' {nx:=λσ2 H2=>D.nx (σ2.set j Yk) H2,rt:=λ_ _=>False} I7 ⟨ι',M1,env.set j (Ya x1.arg),S1,(E.mono xt).set j r1,?_⟩) (λf s8 q=>?_) (λ_ _ z=>fH z)
  .cases qh:h (env.set j (Ya x1.arg)) M1 with
   |nx e' M2=>rw[qh]at hf;exactλσ2 H2 ι2 x2 S2 E2=>hf _ H2 ι2 (xt.trans x2) S2 (E2.unset j)|rt _ _=>rw[qh]at hf;exact hf.elim|bk _ _=>rw[qh]at hf;exact hf.elim|ct _ _=>rw[qh]at hf;exact hf.elim
   |exc _ _=>rw[qh]at hf;exact hf.elim|bad=>rw[qh]at hf;exact hf.elim
  .cases f with
   |next=>obtain⟨σ2,H2,I8,q⟩:=q;exact Zvx (Zpv I I8) hN hj hl λs9 I9=>⟨σ2.set j Yk,H2,I9,q⟩|brk=>obtain⟨_,_,_,q⟩:=q;exact q.elim|cont=>obtain⟨_,_,_,q⟩:=q;exact q.elim
   |ret u=>obtain⟨_,_,_,_,_,q⟩:=q;exact q.elim
end L3
namespace PySem.W
open PySem PySem.Spec PySem.Calls PyProof.Rows Builtin Builtin.ObjectAttr Builtin.Getset_descriptor
section
variable {prog:aX} {w:aU} {K:Frag} {x D:Yn}
def wR(x D:Yn)(h:au):Prop:=∃o,h.get? x=Ya o/\o.cls= .ref D
theorem wR.ty{h:au}(p:wR x D h)(M:Model):Looks M h (typeOf (.ref x)) (.ref D):=by obtain⟨o,a,b⟩:=p;exact b▸(Looks.ld a).andThen .now
theorem ZsT{M:Model}{h:au}{name:aj}{a g:Yd}(X:K.In h)(ha:findIn K (.ref D) name=Ya (Ya a))(hg:specialIn K a "__get__" =Ya (Ya g))(ht:takesIn K a=Ya true):Looks M h (find (.ref x) (.ref D) name) (.bind g a):=
 (looks_findIn (M:=M) X ha).andThen ((show Looks M h (getOf (Ya a)) (Ya g)from looks_specialIn X hg).andThen
  ((show Looks M h (dataDescriptor? (Ya a) (Ya g)) (Ya (g,a))from(looks_takesIn (M:=M) X ht).andThen .now).andThen (Looks.tag .now)))
theorem Zug{A:bB}{R:pI->Yg->Prop}{s:Yg}{tp:Yd}(X:K.In s.heap)(p:wR x D s.heap)(hm:mroIn K D (.type "object")=Ya true)(hq:R (.ok (.ret (.ref D))) s):jM (Y4 prog w) A (.call (.builtin "getset_descriptor.__get__") ⟨[.builtin "object.__class__",.ref x,tp],[]⟩) R s:=by
 obtain⟨hh,gg,dd,tt,oo⟩:=s;have L0:=p.ty (Y4 prog w);have L1:=looks_mroIn (M:=Y4 prog w) X hm;refine Yi1 KF.slot_gs.plain KF.entry_gs (KF.slot_gs.check _ _ _ _ _ _ _ _ KF.type_class (KF.args_gs _ _ _) ?_);unfold Builtin.«getset_descriptor.__get__» descrGet;rw[dga_obj];refine Yb (Yi ?_);unfold descrGetter descrCheckInstance descrNameAndClass isInstance;simp only[KF.owner_class]
 repeat lk
 refine⟨Code.quiet_builtin _ (by decide +kernel),Ez KF.entry_class ?_⟩;unfold Builtin.«object.__class__» shownTypeOf;repeat lk
 exact hq
theorem ZxV{A:bB}{R:pI->Yg->Prop}{s:Yg}{tk:jx}(ha:findIn K (.ref D) "__class__" =Ya (Ya (.builtin "object.__class__")))(hn:specialIn K (.builtin "object.__class__") "__get__" =Ya (Ya (.builtin "getset_descriptor.__get__")))(htk:takesIn K (.builtin "object.__class__")=Ya true)(hm:mroIn K D (.type "object")=Ya true)(hb:mroIn K D (.type "BaseException")=Ya true)(X:K.In s.heap)(p:wR x D s.heap)(hq:R (.ok (.ret (.ref D))) s):jM (Y4 prog w) A (.call (.builtin "BaseException.__getattribute__") ⟨[.ref x,.str "__class__" tk],[]⟩) R s:=by
 obtain⟨hh,gg,dd,tt,oo⟩:=s;have L0:=p.ty (Y4 prog w);have L1:=looks_mroIn (M:=Y4 prog w) X hb;have L3:=ZsT (M:=Y4 prog w) (x:=x) X ha hn htk;have hk:builtinKind "BaseException.__getattribute__" =Ya .slot:=by decide +kernel
 have hs:splitId "BaseException.__getattribute__" =Ya ("BaseException","__getattribute__"):=by decide +kernel
 have hz:=F.args_bexc_ga (.ref x) (.str "__class__" tk);refine Yi1 F.excAttr_ValueError.ga.plain F.entry_bexc_ga ?_;simp only[checkBuiltinCall,hk,hs];refine Yb ?_;unfold isInstance
 repeat lk
 refine wpAny_run (h:=Yk) (Zug X p hm ?_);exact Yi (Yi hq)
theorem Zp7{A:bB}{E:Yd->Yg->Prop}{s:Yg}{Q:Option Yd->Yg->Prop}(hg:findIn K (.ref D) "__getattribute__" =Ya (Ya (.builtin "BaseException.__getattribute__")))(hg2:findIn K (.ref D) "__getattr__" =Ya Yk)(ha:findIn K (.ref D) "__class__" =Ya (Ya (.builtin "object.__class__")))(hn:specialIn K (.builtin "object.__class__") "__get__" =Ya (Ya (.builtin "getset_descriptor.__get__")))(htk:takesIn K (.builtin "object.__class__")=Ya true)(hm:mroIn K D (.type "object")=Ya true)(hb:mroIn K D (.type "BaseException")=Ya true)(X:K.In s.heap)(p:wR x D s.heap)(hq:Q (Ya (.ref D)) {s with toks:=s.toks+1}):Yy (Y4 prog w) A (zT (.ref x) "__class__") Q E s:=by obtain⟨hh,gg,dd,tt,oo⟩:=s;have L0:=p.ty (Y4 prog w);have L1:=looks_findIn (M:=Y4 prog w) X hg;have L2:=looks_findIn (M:=Y4 prog w) X hg2;have f3:=F.excAttr_ValueError.ga.bind (.ref x);unfold zT QS QX;refine Yb (wpAny_mkText (Yb (xg (jk (Yb (L0.at (Yb (L1.at ?_))))))));show Yy _ _ (Ylw _ _ _ _ _ _) _ _ _;unfold Ylw hookBefore callGetattribute;refine Yb (L2.at (Yb (xg (jk ?_))));show Yy _ _ (boundAndCalled _ _ _) _ _ _;unfold boundAndCalled;rw[f3];refine Yb (Yi ?_);refine JB (ZxV ha hn htk hm hb X p ?_);exact handed_on rfl (Yi hq)
theorem Ab9(hg:findIn K (.ref D) "__getattribute__" =Ya (Ya (.builtin "BaseException.__getattribute__")))(hg2:findIn K (.ref D) "__getattr__" =Ya Yk)(hb:mroIn K D (.type "BaseException")=Ya true)(hc:(clsIn K D).isSome=true)(ha:findIn K (.ref D) "__class__" =Ya (Ya (.builtin "object.__class__")))(hn:specialIn K (.builtin "object.__class__") "__get__" =Ya (Ya (.builtin "getset_descriptor.__get__")))(htk:takesIn K (.builtin "object.__class__")=Ya true)(hm:mroIn K D (.type "object")=Ya true):
  KitX K (.ref x) (.ref D) (wR x D):=by
 obtain⟨cdD,hcD⟩:=Jr.mp hc;unfold clsIn at hcD;split at hcD
 .rename_i c' d' cd' sl' ho;refine⟨λM h _ p=>p.ty M,λM h X _=>?_,λh tp dd its n sl X htp=>?_,λX p k=>Zp7 hg hg2 ha hn htk hm hb X p k⟩
  .intro A' Q' E' s' k q;unfold isType loadHead;exact Yb (wpAny_loadPart (k _ _ (X _ _ ho)) (Yi q))
  .refine Bool.eq_false_iff.mpr λq=>?_;have e:D=tp:=Value.ref.inj (beq_iff_eq.mp q);rw[←e]at htp;cases(X _ _ ho).symm.trans htp
 .cases hcD
theorem P_{t:Yd}{C:Yn}{cd:ClassData}{b:Bool}(cl:clsIn K C=Ya cd)(ty:typeIn K (.ref C)=Ya (.type "type"))(se:subIn K (.ref C) (.ref C)=Ya true)(sb:subIn K t (.ref C)=Ya b):kitOne K t (.ref C)=Ya b:=by
 unfold kitOne;by_cases q:(t== .ref C)=true
 .rw[if_pos q];rw[beq_iff_eq.mp q,se]at sb;exact sb
 .rw[if_neg q];show(if((clsIn K C).isSome&&typeIn K (.ref C)==Ya (.type "type"))=true then subIn K t (.ref C)else Yk)=Ya b;rw[cl,ty,if_pos (by rfl)];exact sb
theorem Pz{t:Yd}{T:String}{b:Bool}(hm:kitMeta T=true)(ne:(t== .type T)=false)(sb:subIn K t (.type T)=Ya b):kitOne K t (.type T)=Ya b:=by unfold kitOne;rw[if_neg (by rw[ne];decide)];show(if kitMeta T=true then subIn K t (.type T)else Yk)=Ya b;rw[if_pos hm];exact sb
theorem Qa{t c:Yd}{r:List Yd}{b:Bool}(h:kitOne K t c=Ya false)(hr:kitAny K t r=Ya b):kitAny K t (c::r)=Ya b:=by unfold kitAny;rw[h];exact hr
theorem Qc{t c:Yd}{r:List Yd}(h:kitOne K t c=Ya true):kitAny K t (c::r)=Ya true:=by unfold kitAny;rw[h]
theorem Qd{t:Yd}:kitAny K t []=Ya false:=rfl
theorem YZ{C CE:Yn}{cd:ClassData}(cl:clsIn K CE=Ya cd)(ty:typeIn K (.ref CE)=Ya (.type "type"))(bs:subIn K (.ref CE) (.type "BaseException")=Ya true)(sb:subIn K (.ref C) (.ref CE)=Ya true):exmOne K (.ref C) (.ref CE)=Ya true:=by unfold exmOne;rw[bs,if_pos (by rfl)];show(if((clsIn K CE).isSome&&typeIn K (.ref CE)==Ya (.type "type"))=true then subIn K (.ref C) (.ref CE)else Yk)=Ya true;rw[cl,ty,if_pos (by rfl)];exact sb
end
end PySem.W
namespace L3
open PySem PySem.Spec PyProof.Rows L2
theorem ZhW:jl "ValueError" =Ya (.type "ValueError"):=by decide +kernel
structure rH(K:Yc)(C:Yn):Prop where
 ga:Y2 K (.ref C) "__getattribute__" =Ya (Ya (.builtin "BaseException.__getattribute__"))
 gh:Y2 K (.ref C) "__getattr__" =Ya Yk
 be:xG K C (.type "BaseException")=Ya true
 cl:(JT K C).isSome=true
 fa:Y2 K (.ref C) "__class__" =Ya (Ya (.builtin "object.__class__"))
 sp:Q4 K (.builtin "object.__class__") "__get__" =Ya (Ya (.builtin "getset_descriptor.__get__"))
 tk:Q6 K (.builtin "object.__class__")=Ya true
 mo:xG K C (.type "object")=Ya true
variable{K:Yc}
theorem rH.kit{C x:Yn}(h:rH K C):PySem.W.KitX K (.ref x) (.ref C) (PySem.W.wR x C):=PySem.W.Ab9 h.ga h.gh h.be h.cl h.fa h.sp h.tk h.mo
variable{s:Yg}{pins:List (Yn×aB)}{H:Hp}{ι:List Yn}{σ:St}
section
variable {X:Cx} {a:Expr} {es:List Expr} {f:E3} {p p1 p2 pos pt:aP} {x:aj} {C:Yn} {vs:List V} {yes no:List (List Nat)}
structure Cr(K:Yc)(yes no:List (List Nat))(cs:List Yd):Prop where
 non:sU K (.type "NoneType") cs=Ya false
 yes:∀c C,yes.contains c=true->ClsAt K c C->rH K C/\sU K (.ref C) cs=Ya true
 no:∀c C,no.contains c=true->ClsAt K c C->rH K C/\sU K (.ref C) cs=Ya false
theorem ZqS{M:Store}{d:D}{v:V}{u:Yd}{cs:List Yd}{Q:VK}(I:Inv X pins σ H s)(S:ao X.K H ι M)(r:Rep X.K H ι d v)(ru:RelV v u)(hk:Cr X.K yes no cs)(q:Zy X.K H ι Q (rm yes no d M)):
  ∃(t:Yd) (Hc:au->Prop) (b:Bool),PySem.W.KitX X.K u t Hc/\Hc s.heap/\u≠ .builtin "__main__.__loader__#opaque" /\sU X.K t cs=Ya b/\Q (.bl b) H:=by
 cases d with
 |non=>have:=r.jL;subst this;cases(show u=Value.none from ru);exact⟨_,_,false,Ykf,True.intro,(λz=>nomatch z),hk.non,Zy.ok q S Rep.bl⟩|ref n=>
  rw[Zif]at q;cases hn:M[n]? with
  |none=>rw[hn]at q;exact q.elim|some o=>
   rw[hn]at q;cases o with
   | ins c fs=>cases c with
    |nil=>exact q.elim|cons k c=>cases k with
     |succ _=>exact q.elim|zero=>
       obtain⟨a,ha,rfl⟩:=r.eU;cases(show u=Value.ref a from ru);rcases S.obj n _ a hn ha with⟨_,_,_,_,z,_⟩|⟨C,e,_,at_,_⟩
       .exact absurd rfl z.2
       .have at_:ClsAt X.K c C:=at_;obtain⟨⟨o,ws,h1,h2,_⟩,_⟩:=(show fu X.prog X.w H s.heap a (p7 a C)from I.hok a _ e);have q:Zy X.K H ι Q (if yes.contains c then .ok (.bl true) M else if no.contains c then .ok (.bl false) M else .bad):=q;by_cases hy:yes.contains c=true
        .rw[if_pos hy]at q;obtain⟨k1,k2⟩:=hk.yes c C hy at_;exact⟨_,_,true,k1.kit,⟨o,h1,h2⟩,(λz=>nomatch z),k2,Zy.ok q S Rep.bl⟩
        .rw[if_neg hy]at q;by_cases hy:no.contains c=true
         .rw[if_pos hy]at q;obtain⟨k1,k2⟩:=hk.no c C hy at_;exact⟨_,_,false,k1.kit,⟨o,h1,h2⟩,(λz=>nomatch z),k2,Zy.ok q S Rep.bl⟩
         .rw[if_neg hy]at q;exact q.elim
   |_=>exact q.elim
 |_=>exact q.elim
theorem Zlz{c:Yd}{cv:V}(hm:X.mg "isinstance" =Yk)(hk:Cr X.K yes no [c])(h:C3 X a f)(hv:RelV cv c)(hx:PE X (.Name x p1) (tC cv))(hc:∀u,RelV cv u->u=c)(hg:Gl X "isinstance":=by rfl)(hs:Yt (a::[.Name x p1]) X.env=(false,aH a X.env)::Yt [.Name x p1] X.env:=by rfl)(hs1:Yt (.Name x p1::[]) X.env=(false,aH (.Name x p1) X.env)::Yt [] X.env:=by rfl)(hpl:(eF pos (Yt [.Name x p1] X.env)).any (·.1)=false:=by rfl):C3 X (.Call (.Name "isinstance" p) [a,.Name x p1] [] pos) (e1 (rm yes no) f):=by
 have hcl:bD X (.builtin "isinstance") (λxs H Q=>∃ι M d x,xs=[x,cv]/\ao X.K H ι M/\Rep X.K H ι d x/\Zy X.K H ι Q (rm yes no d M)):=by
  intro pins s σ H xs us Q I r q;obtain⟨ι,M,d,x,rfl,S,rd,q⟩:=q;obtain⟨u,w',rfl,ru,jm⟩:=vals2 r;obtain rfl:=hc _ jm;obtain⟨t,Hc,b,kx,hh,hl,ht,hq⟩:=ZqS I S rd ru hk q;have h1:Q7 X.K t w'=Ya b:=by
   unfold sU at ht;split at ht
   .rename_i q;cases ht;exact q
   .rename_i q;rw[q];exact ht
   .cases ht
  exact nC kx I.dw hh h1 hl λtk=>⟨.bl b,H,I.tok _,rfl,hq⟩
 refine(Td hcl hg hm Zf8 (Be h (Be hx K8 hs1) hs) (by decide) (by decide) hs hpl).imp λσ H Q ak=>?_;obtain⟨ι,M,env,S,E,h⟩:=ak;obtain⟨d,M1,e1,h⟩:=Zy.bind h;refine⟨ι,M,env,S,E,?_⟩;rw[e1];intro v H1 ι1 x1 S1 r1;exact⟨ι1,M1,d,v,rfl,S1,r1,h.up x1⟩
theorem Zrg(hm:X.mg "isinstance" =Yk)(hx:X.mg x=Ya (.ref C))(hk:Cr X.K yes no [.ref C])(h:C3 X a f)(hg1:Gl X x:=by rfl)(hd:(x==("__debug__":aj))=false:=by decide)(hg:Gl X "isinstance":=by rfl)(hs:Yt (a::[.Name x p1]) X.env=(false,aH a X.env)::Yt [.Name x p1] X.env:=by rfl)(hs1:Yt (.Name x p1::[]) X.env=(false,aH (.Name x p1) X.env)::Yt [] X.env:=by rfl)(hpl:(eF pos (Yt [.Name x p1] X.env)).any (·.1)=false:=by rfl):C3 X (.Call (.Name "isinstance" p) [a,.Name x p1] [] pos) (e1 (rm yes no) f):=Zlz (cv:=.ref C) hm hk h rfl (ZnQ hg1 hx (v:=.ref C) rfl hd) (λu q=>q) hg hs hs1 hpl
theorem ZpX{T:String}(hm:X.mg "isinstance" =Yk)(hx:X.mg x=Yk)(hv:jl x=Ya (.type T))(hk:Cr X.K yes no [.type T])(h:C3 X a f)(hg1:Gl X x:=by rfl)(hn:x≠ "__name__":=by decide)(hd:(x==("__debug__":aj))=false:=by decide)(hg:Gl X "isinstance":=by rfl)(hs:Yt (a::[.Name x p1]) X.env=(false,aH a X.env)::Yt [.Name x p1] X.env:=by rfl)(hs1:Yt (.Name x p1::[]) X.env=(false,aH (.Name x p1) X.env)::Yt [] X.env:=by rfl)(hpl:(eF pos (Yt [.Name x p1] X.env)).any (·.1)=false:=by rfl):C3 X (.Call (.Name "isinstance" p) [a,.Name x p1] [] pos) (e1 (rm yes no) f):=Zlz (cv:=.ty T) hm hk h rfl (ZnG hg1 hx hv (v:=.ty T) rfl hn hd) (λu q=>q) hg hs hs1 hpl
end
noncomputable def Hv(es:Array DictEntry):Bool:=es.toList.all λe=>match e.key with
 | .str _ _=>true|_=>false
theorem Zr3{es:Array DictEntry}(h:Hv es=true):StrKeys es:=λe he=>by
 have:=pK.mp h e (Yit.mpr he);split at this
 .rename_i n t q;exact⟨n,t,q⟩
 .cases this
section
variable {K:Yc} {h:au} {a:Yn} {oc:Yd} {od:Option Yn} {es:Array DictEntry} {ep:Nat} {sl:Array (Option Yd)}
theorem Nf(X:K.In h)(l:K.lookup a=Ya ⟨oc,od,.dict es ep,sl⟩)(sk:Hv es=true):h.Ns a (Fd es):=⟨_,es,ep,X _ _ l,rfl,Zr3 sk,λ_=>rfl⟩
theorem Zog{c:List Nat}{C C':Yn}(x:ClsAt K c C)(y:ClsAt K c C'):C'=C:=by have:=y.symm.trans x;cases this;rfl
theorem Hw{P:Yn->Prop}:∀c C,([]:List (List Nat)).contains c=true->ClsAt K c C->P C:=λc C z=>by cases z
theorem Cu{P:Yn->Prop}{k:List Nat}{ks:List (List Nat)}{C1:Yn}(x:ClsAt K k C1)(p:P C1)(t:∀c C,ks.contains c=true->ClsAt K c C->P C):∀c C,(k::ks).contains c=true->ClsAt K c C->P C:=λc C z at_=>by
 rw[Yj9,u9]at z;rcases z with z|z
 .rw[beq_iff_eq.mp z]at at_;rw[Zog x at_];exact p
 .exact t c C z at_
end
section
variable {X:Cx} {tg:Expr} {pos:aP}
theorem ZsH{iter:Expr}{body:List Ydm}{i:I3}{g:G3}{u:S3}(hp:JC (Y4 X.prog X.w) X.A X.env X.xe)(hc:X.calm=true)(hi:CI X tg iter i)(hg:CG X tg g)(hb:lX X true body u)(hs:∀x,wY iter X.env x=pure x:=by intro _;rfl):
  ph X true (.For tg iter body [] pos) (GP i g u):=(SM hp hc hi hg hb hs).imp λD σ H ak=>by
 obtain⟨ι,M,env,S,E,h⟩:=ak;unfold GP at h;cases q:i env M with
 |exc x M1=>rw[q]at h;exact h.elim|bad=>rw[q]at h;exact h.elim|ok it M1=>
  rw[q]at h;refine⟨ι,M,env,S,E,?_⟩;rw[q];intro J H1 ι1 x1 S1 ok;refine⟨λi m σ2 H2=>m=it.items.length-i/\i<=it.items.length/\∃ι2 M2 dY,Ext X.K H1 ι1 H2 ι2/\ao X.K H2 ι2 M2/\bj X.K H2 ι2 dY σ2/\kZ X true σ2 H2 ι2 D (cG it g u (it.items.drop i) dY M2),
   ⟨_,rfl,eN _,ι1,M1,env,Ext.refl,S1,E.mono x1,kZ.up x1 (λz=>nomatch z) h⟩,?_⟩
  rintro i m σ2 H2 ⟨rfl,hi,ι2,M2,dY,x2,S2,E2,h2⟩;by_cases hlt:i<it.items.length
  .have hd:it.items[i]?=Ya it.items[i]:=by simp[hlt]
   rw[xJ hlt]at h2
   first|rw[mU]at h2|rw[tY]at h2
   by_cases lk:locked it M2=true
   .rw[if_pos lk]at h2;obtain⟨go,yl⟩:=(ok i H2 ι2 M2 x2 S2 lk).1 _ hd;cases eg:g it.items[i] dY with
    |none=>rw[eg]at h2;exact h2.elim|some pF=>
     rw[eg]at h2;refine .inr ⟨go,λσ' H'=>∃ι3 M3 jf,Ext X.K H2 ι2 H' ι3/\ao X.K H' ι3 M3/\bj X.K H' ι3 jf σ'/\kZ X true σ' H' ι3 D (cG it g u (it.items.drop (i+1)) jf M3),
      λσ' H' ⟨ι3,M3,jf,x3,S3,E3,h3⟩=>⟨it.items.length-(i+1),by omega,rfl,hlt,ι3,M3,jf,x2.trans x3,S3,E3,h3⟩,λx H' hy=>?_⟩
     obtain⟨rfl,rx⟩:=yl x H' hy;refine⟨ι2,M2,dY,_,pF,S2,E2,rx,eg,λσ' E'=>⟨ι2,M2,pF,S2,E',?_⟩⟩;cases qu:u pF M2 with
     |nx e' M'=>simp only[qu]at h2;exactλσ' H' ι' x' S' E'=>⟨ι',M',e',x',S',E',h2.up x' (λz=>nomatch z)⟩|ct e' M'=>simp only[qu]at h2;exactλσ' H' ι' x' S' E'=>⟨ι',M',e',x',S',E',h2.up x' (λz=>nomatch z)⟩|bk e' M'=>simp only[qu]at h2;exact h2|rt d M'=>simp only[qu]at h2;exact h2
     |exc x' M'=>simp only[qu]at h2;exactλσ'' a C H' ι' _=>h2 σ'' a C H' ι' (λz=>nomatch z)|bad=>simp only[qu]at h2;exact h2.elim
   .rw[if_neg lk]at h2;exact h2.elim
  .have e0:i=it.items.length:=iw hi (pP hlt);subst e0;rw[Fj]at h2
   first|rw[mU]at h2|rw[tY]at h2
   by_cases lk:locked it M2=true
   .rw[if_pos lk]at h2;exact .inl ⟨(ok _ H2 ι2 M2 x2 S2 lk).2 rfl,h2 σ2 H2 ι2 Ext.refl S2 E2⟩
   .rw[if_neg lk]at h2;exact h2.elim
end
noncomputable def VB(K:Yc)(d:List aj)(v:Yd):Bool:=match v with
 | .ref a=>(match K.lookup a with
  |some o=>o.cls== .type "tuple" &&o.dict.isNone&&(match o.data with| .seq vs _=>decide (vs.size<=1000)&&KTD.strsLook vs.toList d|_=>false)
  |none=>false)
 |_=>false
noncomputable def ZxU(t:LR):List (aj×List aj):=t.map λp=>(⟨p.1.toArray⟩,p.2.map λy=>⟨y.toArray⟩)
def Zxw(K:Yc)(d:List aj)(v:Yd):Prop:=∃a,v= .ref a/\∀H,cL K H a (d.map V.str)
theorem Zof:∀{vs:List Yd} {d:List aj},StrsAre vs d->Vals (d.map V.str) vs:=by
 intro vs d h
 induction h with
 |nil=>exact .nil|cons _ _ _ ih=>exact .cons ⟨_,rfl⟩ ih
theorem Zsh{d:List aj}{v:Yd}(h:VB K d v=true):Zxw K d v:=by
 unfold VB at h;split at h
 .rename_i a;refine⟨a,rfl,λH=>?_⟩;split at h
  .rename_i o ho;simp only[Y9]at h;obtain⟨⟨h1,h2⟩,h3⟩:=h;split at h3
   .rename_i vs n hd;simp only[Y9,decide_eq_true_eq]at h3;exact .inr ⟨o,vs,n,ho,⟨beq_iff_eq.mp h1,by simpa using h2⟩,hd,Yu h3.1 (by rw[nj];decide),Zof (KTD.strs_of_look h3.2)⟩
   .cases h3
  .cases h
 .cases h
abbrev ZwL(K:Yc)(a:Yn)(t:LR):Prop:=KTD.tabLook (VB K) (λb=>K.lookup b) a (ZxU t)=true
variable{h:au}
theorem ZwL.at{a:Yn}{t:LR}(T:ZwL K a t)(X:K.In h):tH (Zxw K) h a (ZxU t):=Ylx (λ_ _ q=>Zsh q) X T
variable{δ:Type}
section
variable {prog:aX} {w:aU} {A:bB} {E:Yd->Yg->Prop} {s:Yg} {a:Yn} {K:Yc} {t:LR} {x:List Nat} {tk:jx}
theorem VD{R:δ->Yd->Prop}{T:List (aj×δ)}(h:tH R s.heap a T):s.TypeIs (.ref a) "dict":=let⟨_,o,_,_,ho,hc,_⟩:=h;⟨o,ho,hc.1⟩
theorem ZpO{R:δ->Yd->Prop}{T:List (aj×δ)}{k:aj}{Q:Option Yd->Yg->Prop}(h:tH R s.heap a T)(hs:∀d v,tG k T=Ya d->R d v->Q (Ya v) {s with toks:=s.toks+1})(hn:tG k T=Yk->Q Yk {s with toks:=s.toks+1}):Yy (Y4 prog w) A (zV a (.str k tk)) Q E s:=by
 obtain⟨_,o,es,ep,ho,hc,hd,hr⟩:=h;unfold zV
 try with_reducible refine jk ?_
 refine Yb (Yk2 (Yb (KTD.kt_dictFind_strs (s:={s with toks:=s.toks+1}) ho hd (by obtain⟨es⟩:=es;simpa using hr.exact) ?_)));have key:Q (findBy (λq v=>v.isStr q) es k) {s with toks:=s.toks+1}:=by
  rw[show findBy (λq v=>v.isStr q) es k=(es.toList.find? λz=>z.key.isStr k).map (·.val)by obtain⟨es⟩:=es;simp[findBy]];cases e:tG k T with
  |none=>rw[hr.find_none e];exact hn e|some d=>obtain⟨v,hv,r⟩:=hr.find_some e;rw[hv];exact hs d v e r
 rw[findBy_of_findIdx?]at key;cases e:es.findIdx? λz=>z.key.isStr k with
 |none=>rw[e]at key;exact Yi key|some j=>rw[e]at key;exact Yb (Ykp (s:={s with toks:=s.toks+1}) ho hd (Yi key))
end
set_option maxRecDepth 100000
def d_(b:Bool)(h:au)(l:Yn)(its:Array Yd):Prop:=match b with
 |true=>h.IsList l its|false=>h.IsTuple l its
def cM(b:Bool)(h:au)(it l:Yn)(i:Nat):Prop:=match b with
 |true=>h.IsListIter it l i|false=>h.IsTupleIter it l i
def yQ(b:Bool)(K:Yc)(H:Hp)(l:Yn)(xs:List V):Prop:=match b with
 |true=>cD K H l xs|false=>cL K H l xs
noncomputable def Hx:Bool->String
 |true=>"list_iterator"|false=>"tuple_iterator"
variable{its:Array Yd}{l:Yn}{b:Bool}
theorem d_.keep{h':au}(k:∀o,h.get? l=Ya o->h'.get? l=Ya o)(x:d_ b h l its):d_ b h' l its:=by
 cases b with
 |true=>exact Heap.IsList.at x k|false=>exact Heap.IsTuple.at x k
variable{it:Yn}{i:Nat}
theorem cM.keep{h':au}(k:∀o,h.get? it=Ya o->h'.get? it=Ya o)(x:cM b h it l i):cM b h' it l i:=by
 cases b with
 |true=>exact Heap.IsListIter.at x k|false=>exact Heap.IsTupleIter.at x k
theorem cM.there(x:cM b h it l i):∃o,h.get? it=Ya o/\∀v,o.data≠ .cell v:=by
 cases b with
 |true=>obtain⟨o,ho,_,d⟩:=x;exact⟨o,ho,λv z=>by rw[d]at z;cases z⟩|false=>obtain⟨o,ho,_,d⟩:=x;exact⟨o,ho,λv z=>by rw[d]at z;cases z⟩
theorem d_.there(x:d_ b h l its):l<h.objs.size:=by
 cases b with
 |true=>obtain⟨o,ho,_⟩:=x;exact Yp ho|false=>obtain⟨o,ho,_⟩:=x;exact Yp ho
theorem yQ.at{X:Cx}{xs:List V}(I:Inv X pins σ H s)(x:yQ b X.K H l xs):∃its:List Yd,Vals xs its/\d_ b s.heap l its.toArray:=by
 cases b with
 |true=>obtain⟨its,r,p,_⟩:=I.list x;exact⟨its,r,p.isList⟩|false=>obtain⟨its,r,p,_⟩:=I.tuple x;exact⟨its,r,p⟩
variable{b1 b2:Bool}{k1 k2:Nat}{xs ys:Array Yd}{Q:Yd->Yg->Prop}
section
variable {prog:aX} {w:aU} {A:bB} {E:Yd->Yg->Prop} {s:Yg}
theorem nextK{x:Yd}(hi:cM b s.heap it l i)(ho:d_ b s.heap l its)(hx:its[i]?=Ya x)(hQ:∀h',cM b h' it l (i+1)->xP it s.heap h'->Q x {s with heap:=h'}):Yy (Y4 prog w) A (mJ (.ref it)) Q E s:=by
 cases b with
 |true=>exact wpAny_nextOf_list_item hi ho hx hQ|false=>exact Zej hi ho hx hQ
theorem Ng(hh:A.handled=Yk)(hi:cM b s.heap it l i)(ho:d_ b s.heap l its)(hx:its[i]?=Yk)(hE:∀h' e,Heap.ExtBut it s.heap h'->(∃o,h'.get? e=Ya o/\o.cls= .type "StopIteration")->E (.ref e) {s with heap:=h'}):Yy (Y4 prog w) A (mJ (.ref it)) Q E s:=by
 cases b with
 |true=>exact wpAny_nextOf_list_end hh hi ho hx hE|false=>exact Vp hh hi ho hx hE
theorem ZtI(ho:d_ b s.heap l its)(h:Q (.ref s.heap.objs.size) {s with heap:=s.heap.push {cls:=.type (Hx b),data:=.fields #[.ref l,.int 0 0]}}):
  Yy (Y4 prog w) A (zX (.ref l)) Q E s:=by
 cases b with
 |true=>exact Yke ho h|false=>exact zM ho h
theorem cM.new(e:h.get? it=Ya {cls:=.type (Hx b),data:=.fields #[.ref l,.int 0 0]}):cM b h it l 0:=by
 cases b with
 |true=>exact⟨_,e,rfl,rfl⟩|false=>exact⟨_,e,rfl,rfl⟩
theorem Zo5{z TI TO i1 i2 l1 l2:Yn}{x y a b:Yd}(D:ZipApart z TI TO i1 i2 l1 l2)(hz:jO s.heap z TI TO .none)(hTI:fG s.heap TI (.ref i1) (.ref i2))(hTO:fG s.heap TO a b)(h1:cM b1 s.heap i1 l1 k1)(h2:cM b2 s.heap i2 l2 k2)(hl1:d_ b1 s.heap l1 xs)(hl2:d_ b2 s.heap l2 ys)(hx:xs[k1]?=Ya x)(hy:ys[k2]?=Ya y)(hQ:∀h',jO h' z TI TO (jN s.heap.objs.size)->fG h' TO x y->cM b1 h' i1 l1 (k1+1)->cM b2 h' i2 l2 (k2+1)->fG h' s.heap.objs.size x y ->
   (∀c o,c≠z->c≠TO->c≠i1->c≠i2->s.heap.get? c=Ya o->h'.get? c=Ya o)->Q (.ref s.heap.objs.size) {s with heap:=h'}):
  Yy (Y4 prog w) A (Builtin.«zip.__next__» ⟨[.ref z],[]⟩) (λfin s'=>∃v,fin= .done (.ret v)/\Q v s') E s:=by
 show Yy _ _ (mC (.ref z) 2>>=λo=>_) _ _ _;refine Yb (e_ hz rfl (x:=.bool false) rfl (show Yy _ _ (mC (.ref z) 3>>=λo=>_) _ _ _ from ?_));refine Yb (e_ hz rfl (x:=.ref TI) rfl (Yb (qz hTI rfl ?_)));refine(show Yy _ _ (vd (.ref z)>>=λo=>_) _ _ _ from Yb ?_);unfold vd;refine Yb (e_ hz rfl (x:=.none) rfl (Yi ?_));simp only[if_true];refine Yb (xu (Yb (e_ hz rfl (x:=.ref TO) rfl ?_)));refine Yb (wX hz (by simp) λg1 hz1 hs1=>Yb ?_);replace hz1:jO g1 z TI TO .ellipsis:=hz1;simp only[Ylf,Ylz,Fl,JZ];refine Yb (Yb (E_ (show Yy _ _ (mJ (.ref i1)>>=λo=>_) _ _ _ from ?_)));refine Yb (nextK (h1.keep λo q=>hs1.extBut _ o D.i1z q) (hl1.keep λo q=>hs1.extBut _ o D.l1z q) hx λg2 h12 hs2=>Yi ?_);have Es:fG g2 TO a b:=hs2.extBut _ _ D.TOi1 (hs1.extBut _ _ D.TOz hTO);refine Yb (qz Es rfl (Yb (Qk Es λg3 Jm hs3=>?_)));replace Jm:fG g3 TO x b:=Jm;refine Yb (QG (Yi (Yb (Yb (E_ (show Yy _ _ (mJ (.ref i2)>>=λo=>_) _ _ _ from ?_))))));refine Yb (nextK (h2.keep λo q=>hs3.extBut _ o D.TOi2.symm (hs2.extBut _ o D.i12.symm (hs1.extBut _ o D.i2z q))) (hl2.keep λo q=>hs3.extBut _ o D.l2TO (hs2.extBut _ o D.l2i1 (hs1.extBut _ o D.l2z q))) hy λg4 h24 rJ=>Yi ?_);have Y_:fG g4 TO x b:=rJ.extBut _ _ D.TOi2 Jm;refine Yb (qz Y_ rfl (Yb (Qk Y_ λg5 Jo v_=>?_)));replace Jo:fG g5 TO x y:=Jo;refine Yb (QG (Yi (Yi (Yb (qz Jo rfl (Yb (wpAny_newTuple ?_)))))));have hsz:g5.objs.size=s.heap.objs.size:=by rw[v_.1,rJ.1,hs3.1,hs2.1,hs1.1]
 have hz5:jO g5 z TI TO .ellipsis:=v_.extBut _ _ D.TOz.symm (rJ.extBut _ _ D.i2z.symm (hs3.extBut _ _ D.TOz.symm (hs2.extBut _ _ D.i1z.symm hz1)));have hk5:∀c o,c≠z->c≠TO->c≠i1->c≠i2->s.heap.get? c=Ya o->g5.get? c=Ya o:=λc o c1 c2 c3 c4 e=>v_.extBut _ _ c2 (rJ.extBut _ _ c4 (hs3.extBut _ _ c2 (hs2.extBut _ _ c3 (hs1.extBut _ _ c1 e))));have h15:cM b1 g5 i1 l1 (k1+1):=h12.keep λo q=>v_.extBut _ o D.TOi1.symm (rJ.extBut _ o D.i12 (hs3.extBut _ o D.TOi1.symm q));have h25:cM b2 g5 i2 l2 (k2+1):=h24.keep λo q=>v_.extBut _ o D.TOi2.symm q;have hzlt:z<g5.objs.size:=Yp hz5;refine(show Yy _ _ (Yeg (.ref z) (.ref g5.objs.size)>>=λo=>_) _ _ _ from Yb ?_);unfold Yeg;have hz6:jO (g5.push {cls:=.type "tuple",data:=.seq #[x,y]}) z TI TO .ellipsis:=Yj _ hz5;refine Yb (wX hz6 (by simp) λg7 VF hs7=>?_);replace VF:jO g7 z TI TO (jN g5.objs.size):=VF;refine wX VF (by simp) λg8 hz8 hs8=>?_;replace hz8:jO g8 z TI TO (jN g5.objs.size):=hz8;have up:∀c o,c≠z->g5.get? c=Ya o->g8.get? c=Ya o:=λc o c1 e=>hs8.extBut _ _ c1 (hs7.extBut _ _ c1 (Yj _ e));have hT8:fG g8 g5.objs.size x y:=hs8.extBut _ _ (tu hzlt) (hs7.extBut _ _ (tu hzlt) (Y0 _ rfl));rw[hsz]at hz8 hT8;refine Yi ⟨_,rfl,(show Q (.ref g5.objs.size) _ from ?_)⟩;rw[hsz];exact hQ g8 hz8 (up _ _ D.TOz Jo) (h15.keep λo e=>up _ o D.i1z e) (h25.keep λo e=>up _ o D.i2z e) hT8 λc o c1 c2 c3 c4 e=>up c o c1 (hk5 c o c1 c2 c3 c4 e)
theorem Zq7{z TI TO i1 i2 l1 l2:Yn}{a b:Yd}{Q:Fin->Yg->Prop}(hh:A.handled=Yk)(D:ZipApart z TI TO i1 i2 l1 l2)(hz:jO s.heap z TI TO .none)(hTI:fG s.heap TI (.ref i1) (.ref i2))(hTO:fG s.heap TO a b)(h1:cM b1 s.heap i1 l1 k1)(h2:cM b2 s.heap i2 l2 k2)(hl1:d_ b1 s.heap l1 xs)(hl2:d_ b2 s.heap l2 ys)(hend:xs[k1]?=Yk\/ys[k2]?=Yk)(hE:∀h' e,(∀c o,c≠z->c≠TO->c≠i1->c≠i2->s.heap.get? c=Ya o->h'.get? c=Ya o)->(∃o,h'.get? e=Ya o/\o.cls= .type "StopIteration")->E (.ref e) {s with heap:=h'}):
  Yy (Y4 prog w) A (Builtin.«zip.__next__» ⟨[.ref z],[]⟩) Q E s:=by
 show Yy _ _ (mC (.ref z) 2>>=λo=>_) _ _ _;refine Yb (e_ hz rfl (x:=.bool false) rfl (show Yy _ _ (mC (.ref z) 3>>=λo=>_) _ _ _ from ?_));refine Yb (e_ hz rfl (x:=.ref TI) rfl (Yb (qz hTI rfl ?_)));refine(show Yy _ _ (vd (.ref z)>>=λo=>_) _ _ _ from Yb ?_);unfold vd;refine Yb (e_ hz rfl (x:=.none) rfl (Yi ?_));simp only[if_true];refine Yb (xu (Yb (e_ hz rfl (x:=.ref TO) rfl ?_)));refine Yb (wX hz (by simp) λg1 hz1 hs1=>Yb ?_);replace hz1:jO g1 z TI TO .ellipsis:=hz1;simp only[Ylf,Ylz,Fl,JZ];refine Yb (Yb (E_ (show Yy _ _ (mJ (.ref i1)>>=λo=>_) _ _ _ from ?_)));have h11:cM b1 g1 i1 l1 k1:=h1.keep λo q=>hs1.extBut _ o D.i1z q;have Et:d_ b1 g1 l1 xs:=hl1.keep λo q=>hs1.extBut _ o D.l1z q;cases hx:xs[k1]? with
 |none=>
  refine Yb (Ng hh h11 Et hx λg2 e hs2 he=>?_);obtain⟨oe,hoe,hce⟩:=he;have hz2:jO g2 z TI TO .ellipsis:=hs2 _ _ D.i1z.symm hz1;have hez:e≠z:=λq=>by subst q;rw[hz2]at hoe;cases hoe;simp at hce
  exact wX hz2 (by simp) λg3 _ hs3=>hE g3 e (λc o c1 _ c3 _ q=>hs3.extBut _ _ c1 (hs2 _ _ c3 (hs1.extBut _ _ c1 q))) ⟨oe,hs3.extBut _ _ hez hoe,hce⟩
 |some x=>
  have hy:ys[k2]?=Yk:=by rcases hend with q|q;rw[hx]at q;cases q;exact q
  refine Yb (nextK h11 Et hx λg2 h12 hs2=>Yi ?_);have Es:fG g2 TO a b:=hs2.extBut _ _ D.TOi1 (hs1.extBut _ _ D.TOz hTO);refine Yb (qz Es rfl (Yb (Qk Es λg3 Jm hs3=>?_)));refine Yb (QG (Yi (Yb (Yb (E_ (show Yy _ _ (mJ (.ref i2)>>=λo=>_) _ _ _ from ?_))))));refine Yb (Ng hh (h2.keep λo q=>hs3.extBut _ o D.TOi2.symm (hs2.extBut _ o D.i12.symm (hs1.extBut _ o D.i2z q))) (hl2.keep λo q=>hs3.extBut _ o D.l2TO (hs2.extBut _ o D.l2i1 (hs1.extBut _ o D.l2z q))) hy λg4 e rJ he=>?_);obtain⟨oe,hoe,hce⟩:=he;have hz4:jO g4 z TI TO .ellipsis:=rJ _ _ D.i2z.symm (hs3.extBut _ _ D.TOz.symm (hs2.extBut _ _ D.i1z.symm hz1));have hez:e≠z:=λq=>by subst q;rw[hz4]at hoe;cases hoe;simp at hce
  exact wX hz4 (by simp) λg5 _ v_=>hE g5 e (λc o c1 c2 c3 c4 q=>v_.extBut _ _ c1 (rJ _ _ c4 (hs3.extBut _ _ c2 (hs2.extBut _ _ c3 (hs1.extBut _ _ c1 q))))) ⟨oe,v_.extBut _ _ hez hoe,hce⟩
theorem ZkM{z TI TO i1 i2 l1 l2:Yn}{x y a b:Yd}{Q:Option Yd->Yg->Prop}(D:ZipApart z TI TO i1 i2 l1 l2)(hz:jO s.heap z TI TO .none)(hTI:fG s.heap TI (.ref i1) (.ref i2))(hTO:fG s.heap TO a b)(h1:cM b1 s.heap i1 l1 k1)(h2:cM b2 s.heap i2 l2 k2)(hl1:d_ b1 s.heap l1 xs)(hl2:d_ b2 s.heap l2 ys)(hx:xs[k1]?=Ya x)(hy:ys[k2]?=Ya y)(hQ:∀h',jO h' z TI TO (jN s.heap.objs.size)->fG h' TO x y->cM b1 h' i1 l1 (k1+1)->cM b2 h' i2 l2 (k2+1)->fG h' s.heap.objs.size x y ->
   (∀c o,c≠z->c≠TO->c≠i1->c≠i2->s.heap.get? c=Ya o->h'.get? c=Ya o)->Q (Ya (.ref s.heap.objs.size)) {s with heap:=h'}):
  Yy (Y4 prog w) A (iu (.ref z)) Q E s:=by
 have hT:s.TypeIs (.ref z) "zip":=⟨_,hz,rfl⟩;unfold iu;exact Yb (xg (qx (name:=lJ "__next__") hT vh (qy vh hT Km
  (Zo5 D hz hTI hTO h1 h2 hl1 hl2 hx hy λh' a1 a2 a3 a4 a5 a6=>Yi (hQ h' a1 a2 a3 a4 a5 a6)) (Kl _))))
theorem ZlY{z TI TO i1 i2 l1 l2:Yn}{a b:Yd}{Q:Option Yd->Yg->Prop}(hh:A.handled=Yk)(D:ZipApart z TI TO i1 i2 l1 l2)(hz:jO s.heap z TI TO .none)(hTI:fG s.heap TI (.ref i1) (.ref i2))(hTO:fG s.heap TO a b)(h1:cM b1 s.heap i1 l1 k1)(h2:cM b2 s.heap i2 l2 k2)(hl1:d_ b1 s.heap l1 xs)(hl2:d_ b2 s.heap l2 ys)(hend:xs[k1]?=Yk\/ys[k2]?=Yk)(hQ:∀h',(∀c o,c≠z->c≠TO->c≠i1->c≠i2->s.heap.get? c=Ya o->h'.get? c=Ya o)->Q Yk {s with heap:=h'}):Yy (Y4 prog w) A (iu (.ref z)) Q E s:=by
 have hT:s.TypeIs (.ref z) "zip":=⟨_,hz,rfl⟩;unfold iu;refine Yb (xg (qx (name:=lJ "__next__") hT vh (qy vh hT Km
  (Zq7 hh D hz hTI hTO h1 h2 hl1 hl2 hend λh' e hk he=>?_) (Kl _))))
 obtain⟨o,ho,hc⟩:=he;exact Yb (Qs (T:="StopIteration") (b:=true) ⟨o,ho,hc⟩ Qw (Yi (hQ _ hk)))
end
noncomputable abbrev jG(b:Bool)(h:au)(l:Yn):au:=h.push {cls:=.type (Hx b),data:=.fields #[.ref l,.int 0 0]}
noncomputable abbrev Cv(b1 b2:Bool)(h:au)(l1 l2:Yn):au:=(jG b2 (jG b1 h l1) l2).push {cls:=.type "tuple",data:=.seq #[.ref h.objs.size,.ref (jG b1 h l1).objs.size]}
noncomputable abbrev Hy(b1 b2:Bool)(h:au)(l1 l2:Yn):au:=(Cv b1 b2 h l1 l2).push {cls:=.type "tuple",data:=.seq #[.none,.none]}
noncomputable abbrev rK(b1 b2:Bool)(h:au)(l1 l2:Yn):au:=(Hy b1 b2 h l1 l2).push {cls:=.type "zip",data:=.fields #[.none,.bool false,.bool false,.ref (jG b2 (jG b1 h l1) l2).objs.size,.ref (Cv b1 b2 h l1 l2).objs.size]}
theorem ZmN(b1 b2:Bool)(l1 l2:Yn)(xs ys:Array Yd):
  Meets (Builtin.«zip.__new__» ⟨[.type "zip",.ref l1,.ref l2],[]⟩) (λ_ R s=>d_ b1 s.heap l1 xs/\d_ b2 s.heap l2 ys/\R (.ok (.ret (.ref (Hy b1 b2 s.heap l1 l2).objs.size))) {s with heap:=rK b1 b2 s.heap l1 l2}):=
 .of_wp λprog w A R s h=>by
  obtain⟨hp,g,d,tk,os⟩:=s;obtain⟨hl1,hl2,h⟩:=h;have hsub:=sub_zip;have hL1:d_ b1 (R6 ⟨hp,g,d,tk,os⟩) l1 xs:=hl1;have hL2:d_ b2 (R6 ⟨jG b1 hp l1,g,d,tk,os⟩) l2 ys:=hl2.keep λo q=>Yj _ q
  wp_walk using ZtI hL1,ZtI hL2
  exact⟨_,rfl,h⟩
theorem ZoY{prog:aX}{w:aU}{A:bB}{E:Yd->Yg->Prop}{l1 l2:Yn}(hl1:d_ b1 s.heap l1 xs)(hl2:d_ b2 s.heap l2 ys)(h:∀h',jO h' (s.heap.objs.size+4) (s.heap.objs.size+2) (s.heap.objs.size+3) .none->fG h' (s.heap.objs.size+2) (.ref s.heap.objs.size) (.ref (s.heap.objs.size+1)) ->
   fG h' (s.heap.objs.size+3) .none .none->cM b1 h' s.heap.objs.size l1 0->cM b2 h' (s.heap.objs.size+1) l2 0->(∀c o,s.heap.get? c=Ya o->h'.get? c=Ya o)->Q (.ref (s.heap.objs.size+4)) {s with heap:=h'}):
  Yy (Y4 prog w) A (call (.type "zip") [.ref l1,.ref l2]) Q E s:=by
 refine callType_new F.called_zip (by decide) (F.typeCall_zip_2 _ _) (F.newCall_zip_2 _ _) (λobj=>F.args_object_init_3 obj _ _) F.entry_zip_new (ZmN b1 b2 l1 l2 xs ys) ⟨hl1,hl2,?_⟩;have z1:(jG b1 s.heap l1).objs.size=s.heap.objs.size+1:=uX ..;have z2:(jG b2 (jG b1 s.heap l1) l2).objs.size=s.heap.objs.size+2:=(uX ..).trans (by rw[z1]);have z3:(Cv b1 b2 s.heap l1 l2).objs.size=s.heap.objs.size+3:=(uX ..).trans (by rw[z2]);have z4:(Hy b1 b2 s.heap l1 l2).objs.size=s.heap.objs.size+4:=(uX ..).trans (by rw[z3]);have p5:∀{c o},(Hy b1 b2 s.heap l1 l2).get? c=Ya o->(rK b1 b2 s.heap l1 l2).get? c=Ya o:=λq=>Yj _ q;have p4:∀{c o},(Cv b1 b2 s.heap l1 l2).get? c=Ya o->(rK b1 b2 s.heap l1 l2).get? c=Ya o:=λq=>p5 (Yj _ q);have p3:∀{c o},(jG b2 (jG b1 s.heap l1) l2).get? c=Ya o->(rK b1 b2 s.heap l1 l2).get? c=Ya o:=λq=>p4 (Yj _ q);have p2:∀{c o},(jG b1 s.heap l1).get? c=Ya o->(rK b1 b2 s.heap l1 l2).get? c=Ya o:=λq=>p3 (Yj _ q);have g5:(rK b1 b2 s.heap l1 l2).get? (Hy b1 b2 s.heap l1 l2).objs.size=Ya {cls:=.type "zip",data:=.fields #[.none,.bool false,.bool false,.ref (jG b2 (jG b1 s.heap l1) l2).objs.size,.ref (Cv b1 b2 s.heap l1 l2).objs.size]}:=Y0 _ rfl;have g4:(rK b1 b2 s.heap l1 l2).get? (Cv b1 b2 s.heap l1 l2).objs.size=Ya {cls:=.type "tuple",data:=.seq #[.none,.none]}:=p5 (Y0 _ rfl);have g3:(rK b1 b2 s.heap l1 l2).get? (jG b2 (jG b1 s.heap l1) l2).objs.size=Ya {cls:=.type "tuple",data:=.seq #[.ref s.heap.objs.size,.ref (jG b1 s.heap l1).objs.size]}:=p4 (Y0 _ rfl);have g2:(rK b1 b2 s.heap l1 l2).get? (jG b1 s.heap l1).objs.size=Ya {cls:=.type (Hx b2),data:=.fields #[.ref l2,.int 0 0]}:=p3 (Y0 _ (by cases b2<;>rfl));have g1:(rK b1 b2 s.heap l1 l2).get? s.heap.objs.size=Ya {cls:=.type (Hx b1),data:=.fields #[.ref l1,.int 0 0]}:=p2 (Y0 _ (by cases b1<;>rfl));rw[z4,z2,z3]at g5;rw[z2,z1]at g3;rw[z3]at g4;rw[z1]at g2;show _/\_;rw[z4];exact⟨⟨_,g5,rfl⟩,h _ g5 g3 g4 (cM.new g1) (cM.new g2) λc o q=>p2 (Yj _ q)⟩
noncomputable def Zxq(i:Int)(v:Yd):Bool:=match v with
 | .int j _=>decide (j=i)|_=>false
def ZwR(i:Int)(v:Yd):Prop:=∃t,v= .int i t
theorem ZrT{i:Int}{v:Yd}(h:Zxq i v=true):ZwR i v:=by
 cases v with
 |int j t=>exact⟨t,by rw[of_decide_eq_true (show decide (j=i)=true from h)]⟩|_=>exact ft h
noncomputable def Nh(t:uf):List (aj×Int):=t.map λp=>(⟨p.1.toArray⟩,p.2)
abbrev Cw(K:Yc)(a:Yn)(t:uf):Prop:=KTD.tabLook Zxq (λb=>K.lookup b) a (Nh t)=true
theorem Cw.at{a:Yn}{t:uf}(T:Cw K a t)(X:K.In h):tH ZwR h a (Nh t):=Ylx (λ_ _ q=>ZrT q) X T
theorem VG(x:List Nat):∀t:uf,tG (⟨x.toArray⟩:aj) (Nh t)=rA x t
 |[]=>rfl|(k,v)::r=>by
  show(if decide ((⟨x.toArray⟩:aj)=⟨k.toArray⟩)=true then Ya v else tG ⟨x.toArray⟩ (Nh r))=(if x=k then Ya v else rA x r);by_cases e:x=k
  .subst e;rw[if_pos rfl,if_pos (decide_eq_true rfl)]
  .rw[if_neg e,if_neg (by simp[e]),VG x r]
section
variable {prog:aX} {w:aU} {A:bB} {E:Yd->Yg->Prop} {s:Yg} {a:Yn} {K:Yc} {tk:jx}
theorem ZqP{R:δ->Yd->Prop}{l:List DictEntry}{T:List (aj×δ)}(h:KTD.Rows R l T):∀e∈l,∃x t,e.key= .str x t:=by
 induction h with
 |nil=>intro e he;cases he|cons hk _ _ ih=>
  intro e he;rcases fj.mp he with q|q
  .rw[q];exact⟨_,_,hk⟩
  .exact ih e q
theorem Zom{R:δ->Yd->Prop}{T:List (aj×δ)}{i:Int}{Q:Option Yd->Yg->Prop}(h:tH R s.heap a T)(hn:Q Yk {s with toks:=s.toks+1}):Yy (Y4 prog w) A (zV a (.int i tk)) Q E s:=by
 obtain⟨_,o,es,ep,ho,hc,hd,hr⟩:=h;have hs:∀e∈es,∃x t,e.key= .str x t:=λe he=>ZqP hr e (by simpa using he);unfold zV
 try with_reducible refine jk ?_
 refine Yb (Yk1 (Yb ?_));unfold dictFind
 try with_reducible refine jk ?_
 refine Yb (Ykp (s:={s with toks:=s.toks+1}) ho hd ?_);dsimp only;rw[if_pos]
 .unfold dictWalkPlain;refine Yb ?_;refine wpAny_forIn_list _ (λ_ b s'=>s'={s with toks:=s.toks+1}/\b=(Yk,())) _ ?_ ?_ _ _ ⟨rfl,rfl⟩
  .rintro x rest b s' ⟨rfl,rfl⟩;cases he:es[x]? with
   |none=>exact Yi ⟨rfl,rfl⟩|some e=>
    obtain⟨y,t,ek⟩:=hs e (Yio he);dsimp only;by_cases hh:(e.hash==hashInt i)=true
    .rw[if_pos hh,ek];refine Yb (Yl1 (s:={s with toks:=s.toks+1}) ho hd (Yb (Ky y t i tk prog w E _ (Yb (Yl1 (s:={s with toks:=s.toks+1}) ho hd ?_)))));show Yy _ _ (if(ep !=ep)=true then _ else _) _ E _;rw[if_neg (by simp)];exact Yb (xu (Yi ⟨rfl,rfl⟩))
    .rw[if_neg hh];exact Yi ⟨rfl,rfl⟩
  .rintro b s' ⟨rfl,rfl⟩;exact Yi (Yi hn)
 .rw[Ac];refine u6.mpr ⟨rfl,pK.mpr λv hv=>?_⟩;obtain⟨j,_,hj⟩:=xO.mp hv;cases he:es[j]? with
  |none=>rw[he]at hj;cases hj|some e=>
   rw[he]at hj;obtain rfl:e.key=v:=by simpa using hj
   obtain⟨y,t,ek⟩:=hs e (Yio he);rw[ek];rfl
theorem Zm4{R:δ->Yd->Prop}{T:List (aj×δ)}{k:aj}{z:Yd}:
  MeetsIn prog w (Builtin.«dict.get» ⟨[.ref a,.str k tk,z],[]⟩) λ_ Z s=>tH R s.heap a T/\(∀d v,tG k T=Ya d->R d v->Z (.ok (.ret v)) {s with toks:=s.toks+1})/\(tG k T=Yk->Z (.ok (.ret z)) {s with toks:=s.toks+1}):=
 .of_wp λA Z s zz=>by obtain⟨h,h1,h2⟩:=zz;show Yy _ _ (zV a (.str k tk)>>=λo=>_) _ _ s;refine Yb (ZpO h (λd v e r=>Yi ⟨v,rfl,h1 d v e r⟩) λe=>?_);show Yy _ _ (Yjo a (.str k tk)>>=λo=>_) _ _ _;exact Yb (Yka h.1 (Yi ⟨z,rfl,h2 e⟩))
theorem Zl3{R:δ->Yd->Prop}{T:List (aj×δ)}{i:Int}{z:Yd}:
  MeetsIn prog w (Builtin.«dict.get» ⟨[.ref a,.int i tk,z],[]⟩) λ_ Z s=>tH R s.heap a T/\Z (.ok (.ret z)) {s with toks:=s.toks+1}:=
 .of_wp λA Z s zz=>by obtain⟨h,h2⟩:=zz;show Yy _ _ (zV a (.int i tk)>>=λo=>_) _ _ s;refine Yb (Zom h ?_);show Yy _ _ (Yjo a (.int i tk)>>=λo=>_) _ _ _;exact Yb (Yka h.1 (Yi ⟨z,rfl,h2⟩))
theorem Zq8{R:δ->Yd->Prop}{T:List (aj×δ)}{k:aj}{z:Yd}(h:tH R s.heap a T)(h1:∀d v,tG k T=Ya d->R d v->Q v {s with toks:=s.toks+1})(h2:tG k T=Yk->Q z {s with toks:=s.toks+1}):Yy (Y4 prog w) A (call (.builtin "dict.get") [.ref a,.str k tk,z]) Q E s:=Jy Aq (VD h) Kh (Kg _ _ _) (Zm4 (R:=R) (T:=T)) ⟨h,h1,h2⟩
theorem Zpb{R:δ->Yd->Prop}{T:List (aj×δ)}{i:Int}{z:Yd}(h:tH R s.heap a T)(h2:Q z {s with toks:=s.toks+1}):Yy (Y4 prog w) A (call (.builtin "dict.get") [.ref a,.int i tk,z]) Q E s:=Jy Aq (VD h) Kh (Kg _ _ _) (Zl3 (R:=R) (T:=T)) ⟨h,h2⟩
end
section
variable {X:Cx} {e e':Expr} {x:aj} {a:Yn} {t:uf} {npos apos cpos pos:aP} {g g':E3}
inductive ZyL(t:uf)(y z:V)(H1:Hp)(Q:VK):Prop
 |str (k:List Nat) (e:y= .str ⟨k.toArray⟩) (s:∀i,rA k t=Ya i->Q (.int i) H1) (n:rA k t=Yk->Q z H1)
 |int (i:Int) (e:y= .int i) (n:Q z H1)
theorem ZpJ{te te':TE}(hm:X.mg x=Ya (.ref a))(ht:Cw X.K a t)(he:PE X e te)(he':PE X e' te')(m:M2 X (.Name x npos) "get" apos e e' cpos)(hg:Gl X x)(hd:(x==("__debug__":aj))=false):
  PE X (.Call (.Attribute (.Name x npos) "get" apos) [e,e'] [] cpos) (λσ H Q=>te σ H λy H1=>te' σ H1 λz H2=>ZyL t y z H2 Q):=by
 intro pins s σ H Q I h;refine Ykl m.base m.few m.line Yhf Aq Yie (aG (ZnQ (v:=.ref a) (u:=.ref a) hg hm rfl hd pins s σ H (λv H'=>v= .ref a/\H'=H) I ⟨rfl,rfl⟩) λu s1 ak=>?_);obtain⟨v,H1,I1,r1,rfl,rfl⟩:=ak;obtain rfl:u=Value.ref a:=r1;have T1:=ht.at I1.dw;refine⟨VD T1,λb q=>?_,?_⟩
 .cases q
  obtain⟨_,ob,_,_,h1,h2,_⟩:=T1;exact⟨ob,h1,h2.2.1⟩
 rw[m.trees];refine Kr rfl (Ks (Ar (aG (he pins s1 σ H1 _ I1 h) λiv s2 ⟨y,H2,I2,ry,q2⟩=>Ar (aG (he' pins s2 σ H2 _ I2 q2) λfv s3 ⟨z,H3,I3,rz,q3⟩=>Ku ?_))));cases q3 with
 | str k ey hs hn=>
  rw[ey]at ry;obtain⟨tk,rfl⟩:=ry;refine Zq8 (ht.at I3.dw) (λd v ed rv=>?_) λed=>?_
  .rw[VG]at ed;obtain⟨t',rfl⟩:=rv;exact⟨.int d,H3,I3.tok _,⟨t',rfl⟩,hs d ed⟩
  .rw[VG]at ed;exact⟨z,H3,I3.tok _,rz,hn ed⟩
 |int i ey hn=>rw[ey]at ry;obtain⟨tk,rfl⟩:=ry;exact Zpb (ht.at I3.dw) ⟨z,H3,I3.tok _,rz,hn⟩
theorem Zr0(hm:X.mg x=Ya (.ref a))(ht:Cw X.K a t)(he:C3 X e g)(he':C3 X e' g')(m:M2 X (.Name x npos) "get" apos e e' cpos:=by exact⟨rfl,rfl,rfl,rfl⟩)(hg:Gl X x:=by rfl)(hd:(x==("__debug__":aj))=false:=by decide):
  C3 X (.Call (.Attribute (.Name x npos) "get" apos) [e,e'] [] cpos) (e2 (BP t) g g'):=(ZpJ hm ht he he' m hg hd).imp λσ H Q ak=>by
 obtain⟨ι,M,env,S,E,h⟩:=ak;obtain⟨d,M1,e1,h⟩:=Zy.bind h;obtain⟨d2,M2,e2,h⟩:=Zy.bind h;refine⟨ι,M,env,S,E,?_⟩;rw[e1];intro y H1 ι1 x1 S1 r1;refine⟨ι1,M1,env,S1,E.mono x1,?_⟩;rw[e2];intro z H2 ι2 x2 S2 r2;have h:=(h.up x1).up x2;cases d with
 | str k=>
  cases r1.str_inv
  refine .str k rfl (λi ei=>?_) λen=>?_
  .have h:Zy X.K H2 ι2 Q (match rA k t with|some i=>.ok (.int i) M2|none=>.ok d2 M2):=h
   rw[ei]at h;exact Zy.ok h S2 Rep.int
  .have h:Zy X.K H2 ι2 Q (match rA k t with|some i=>.ok (.int i) M2|none=>.ok d2 M2):=h
   rw[en]at h;exact Zy.ok h S2 r2
 |int i=>
  cases r1.int_inv
  exact .int i rfl (Zy.ok h S2 r2)
 |_=>exact h.elim
end
variable{n:Nat}
section
variable {prog:aX} {w:aU} {A:bB} {E:Yd->Yg->Prop} {s:Yg}
theorem ZsI(n:Nat):Fq Yk Yk (-1) (n:Int)=((n:Int)-1,-1):=rfl
theorem ZmV(n:Nat):vf ((n:Int)-1) (-1) (-1)=n:=by
 unfold vf;have h1:¬((-1:Int)>0):=by decide
 simp only[h1,if_false];have e:(- -1:Int)=1:=rfl;rw[e,Int.ediv_one];split <;>omega
theorem Zpo(xs:Array Yd):((dN xs.size).filterMap λ(m:Nat)=>xs[((xs.size:Int)-1+(m:Int)*(-1)).toNat]?).toArray=xs.toList.reverse.toArray:=by
 congr 1;have e:(dN xs.size).filterMap (λ(m:Nat)=>xs[((xs.size:Int)-1+(m:Int)*(-1)).toNat]?)=((dN xs.size).map λk=>xs.size-1-k).filterMap (xs[·]?):=by
  have key:∀l:List Nat,(∀m∈l,m<xs.size)->l.filterMap (λ(m:Nat)=>xs[((xs.size:Int)-1+(m:Int)*(-1)).toNat]?)=(l.map λk=>xs.size-1-k).filterMap (xs[·]?):=by
   intro l
   induction l with
   |nil=>intro _;rfl|cons m l ih=>
    intro h;have e:((xs.size:Int)-1+(m:Int)*(-1)).toNat=xs.size-1-m:=by have:=h m Yz;omega
    rw[Y8,Fg,Fg,e,ih λk hk=>h k (Yq _ hk)]
  exact key _ λm hm=>Ab.mp hm
 rw[e,PySem.W.krv_range,List.filterMap_reverse,PySem.W.krv_all]
theorem ZhH{sl:Yn}{v:Yd}{Q:Int×Int×Nat->Yg->Prop}(hs:s.heap.IsSliceOf sl .none .none v)(pv:IsPart v (Ya (-1)))(h:Q ((n:Int)-1,-1,n) s):Yy (Y4 prog w) A (J7 (.ref sl) (pure (n:Int))) Q E s:=by obtain⟨os,hos,hcs,hds⟩:=id hs;unfold J7 Ygm;refine Yb (Yb (e_ hos hds (x:=.none) rfl (Yb (e_ hos hds (x:=.none) rfl (Yb (e_ hos hds (x:=v) rfl (Yi ?_)))))));refine Yb (HT.O7 pv ?_);show Yy _ _ (if((-1:Int)==0)=true then _ else _) _ _ s;rw[if_neg (by decide)];refine Yb (J9 (Yb (J9 (Yb (Yi ?_)))));show Yy _ _ (match Fq Yk Yk (-1) (n:Int)with|(lo,hi)=>pure (lo,(-1:Int),vf lo hi (-1))) _ _ s;rw[ZsI];show Yy _ _ (pure ((n:Int)-1,(-1:Int),vf ((n:Int)-1) (-1) (-1))) _ _ s;rw[ZmV];exact Yi h
theorem ZgB{t sl:Yn}{items:Array Yd}{v:Yd}(ht:xT s.heap t items)(hs:s.heap.IsSliceOf sl .none .none v)(pv:IsPart v (Ya (-1)))(h:Q (.ref s.heap.objs.size) {s with heap:=s.heap.push {cls:=.type "tuple",data:=.seq items.toList.reverse.toArray}})(hsz:items.size<=Y7):Yy (Y4 prog w) A (oJ (.ref t) (.ref sl)) Q E s:=by
 have sG:sizeOk (.seq items.toList.reverse.toArray):=by show items.toList.reverse.toArray.size<=Y7;rw[Ym,Yjp,Fz];exact hsz
 obtain⟨os,hos,hcs,hds⟩:=id hs;have hTs:s.TypeIs (.ref sl) "slice":=⟨os,hos,hcs⟩;unfold oJ
 try with_reducible refine jk ?_
 first|refine Yb (Yi ?_)|skip
 refine Yb (Qo ht.typeIs (by decide) ?_);refine Yb (qx (name:=lJ "__getitem__") ht.typeIs Ah
  (qy Ah ht.typeIs Rp ?_ (Rq _ _)))
 show Yy _ _ (Ru (.ref t)>>=_) _ _ s;refine Yb (Rr ht ?_);refine Yb (uP hTs ?_);rw[if_pos (by decide)];refine Yb (ZhH hs pv ?_);show Yy _ _ (if(((items.size:Int)-1)==0&&(-1:Int)==1&&items.size==items.size)=true then _ else _) _ _ s;rw[if_neg (by rw[Y9,Y9];exactλq=>ft q.1.2),Zpo]
 first
  |exact Yb (m:=vg _) (oH (Yi ⟨_,rfl,Yi h⟩) sG)
  |exact Yb (m:=vg _) (oH (Yb (Yi (Yi ⟨_,rfl,Yi h⟩))) sG)
  |exact Yb (Yb (m:=vg _) (oH (Yi (Yi ⟨_,rfl,Yi h⟩)) sG))
  |exact Yb (Yb (m:=vg _) (oH (Yi ⟨_,rfl,Yi h⟩) sG))
end
section
variable {X:Cx} {e st:Expr} {p2 pos:aP} {f:E3}
theorem Zra:∀{xs:List V} {us:List Yd},Vals xs us->Vals xs.reverse us.reverse:=by
 intro xs us h
 induction h with
 |nil=>exact .nil|cons r _ ih=>rw[z9,z9];exact ih.append (.cons r .nil)
theorem Zur{te:TE}{tl:TO}(he:PE X e te)(hst:PO X (Ya st) tl):
  PE X (.Subscript e (.Slice Yk Yk (Ya st) p2) pos) (λσ H Q=>te σ H λx H1=>tl σ H1 λo H2=>o=Ya (-1)/\∃a xs,x= .ref a/\cL X.K H2 a xs/\∀p,H2 p=Yk->Q (.ref p) (upd H2 p (.tup xs.reverse))):=by
 intro pins s σ H Q I h;refine Ka (aG (he pins s σ H _ I h) λv s1 ak=>?_);obtain⟨x,H0,I0,r1,q0⟩:=ak;refine wpAny_Slice ?_;rw[Qy];refine Yi (Yi (aG (hst pins s1 σ H0 _ I0 q0) λsv s3 zz3=>?_));obtain⟨o,H1,I3,pv,eo,a,xs,ex,hx,q⟩:=zz3;rw[eo]at pv;rw[ex]at r1;obtain rfl:v=Value.ref a:=r1;have I4:Inv X pins σ H1 {s3 with heap:=s3.heap.push {cls:=.type "slice",data:=.fields #[.none,.none,sv]}}:=I3.kept (t':=s3.toks) λb ob q=>Yj _ q;obtain⟨its,r,ht,hz⟩:=I4.tuple hx;have hlen:its.toArray.size=xs.length:=by rw[Ym];exact r.length.symm
 show Yy (Y4 X.prog X.w) X.A (J_ e (.Slice Yk Yk (Ya st) p2) (.ref a) (.ref s3.heap.objs.size)) (EP X pins σ Q) X.xe {s3 with heap:=s3.heap.push {cls:=.type "slice",data:=.fields #[.none,.none,sv]}};refine tail_any (ops:=[.ref a,.ref s3.heap.objs.size]) ht.typeIs PyProof.Rows.slot_tuple_getitem.lookup ?_ (by with_unfolding_all rfl);refine ZgB ht (Yjx ..) pv ?_ (by rw[hlen];exact hz);refine⟨.ref _,_,I4.laid (t':=s3.toks) (o:=.tup xs.reverse) (λb ob q=>Yj _ q) (Yl _) ?_,rfl,q _ (I4.hok.fresh (Yl _))⟩;exact⟨by rw[Yjp];exact hz,_,Zra r,oV.new _ _⟩
theorem Zps:∀{ds:List D} {vs:List V},Zx K H ι ds vs->Zx K H ι ds.reverse vs.reverse:=by
 intro ds
 induction ds with
 |nil=>intro vs r;rw[r.nil_inv];exact Zx.nil|cons d ds ih=>intro vs r;obtain⟨v,ws,rfl,r1,r2⟩:=r.cons_inv;rw[z9,z9];exact(ih r2).append (Zx.cons r1 Zx.nil)
theorem ZxS(he:C3 X e f)(hst:CO X (Ya st) (vJ (e1 jn (eC (.int 1))))):C3 X (.Subscript e (.Slice Yk Yk (Ya st) p2) pos) (e1 Zth f):=(Zur he hst).imp λσ H Q ak=>by
 obtain⟨ι,M,env,S,E,h⟩:=ak;obtain⟨d,M1,e1,h⟩:=Zy.bind h;refine⟨ι,M,env,S,E,?_⟩;rw[e1];intro v H1 ι1 x1 S1 r1;refine⟨ι1,M1,env,S1,E.mono x1,?_⟩;intro H2 ι2 x2 S2;have h:=(h.up x1).up x2;refine⟨rfl,?_⟩;cases d with
 |tup ds=>obtain⟨a,xs,rfl,sq,rr⟩:=(r1.mono x2).iW;refine⟨a,xs,rfl,sq,λp hp=>?_⟩;obtain⟨x2,S2,r2⟩:=S2.uK hp (Zps rr);exact h _ _ _ x2 S2 r2|_=>exact h.elim
theorem ZuL{α:Type}{l:List α}{m:Nat}{a b:α}(h:l.Nodup)(h1:l[n]?=Ya a)(h2:l[m]?=Ya b)(e:a=b):n=m:=(Ykq (Ye.mp h1).1 h).mp (by rw[h1,h2,e])
theorem ZqK{M:Store}{A:bB}(hu:A.units+70<eG)(I:Inv X pins σ H s)(S:ao X.K H ι M){m:Nat}{x y:List D}{u v:V}{a b:Yd}(hn:M[n]?=Ya (.lst x))(hm:M[m]?=Ya (.lst y))(hnm:n≠m)(p1:x.all (cP 50)=true)(p2:y.all (cP 50)=true)(ru:Rep X.K H ι (.ref n) u)(rv:Rep X.K H ι (.ref m) v)(ra:RelV u a)(rb:RelV v b):nH A s a b (gQ x y):=by
 obtain⟨p,vs,its,e1,eu,t,r1,v1⟩:=Mt I S hn ru ra;obtain⟨q,ws,its2,e2,ev,t',r2,v2⟩:=Mt I S hm rv rb;obtain⟨k1,hk1,ek1⟩:=ru.eU;obtain⟨k2,hk2,ek2⟩:=rv.eU;have hpq:p≠q:=λz=>hnm (ZuL S.nd hk1 hk2 (by have z1:V.ref p= .ref k1:=e1.symm.trans ek1;have z2:V.ref q= .ref k2:=e2.symm.trans ek2;injection z1 with z1;injection z2 with z2;rw[←z1,←z2,z]));rw[eu,ev];refine Yj4 hpq ?_;have hu1:A.units<eG:=by omega
 have hu2:A.in1.units+50+1<eG:=by rw[units_in1];omega
 by_cases hl:x.length=y.length
 .rw[←Ux (kO r1 v1) hl];exact Ylb t t' ((kO r1 v1).trans (hl.trans (kO r2 v2).symm)) hu1 (Ms (Uy I 50 A.in1 hu2) p1 p2 r1 r2 v1 v2)
 .rw[Uw hl];exact Yg4 t t' (bne_iff_ne.mpr λe=>hl ((kO r1 v1).symm.trans (e.trans (kO r2 v2)))) hu1
noncomputable def two(a b:Bool):Nat->Bool
 |0=>a|_=>b
theorem Zt1{A:bB}{a b c d:Yd}{r1 r2:Bool}(h1:nH A s a c r1)(h2:nH A s b d r2)(j:Nat)(k1:j< #[a,b].size)(k2:j< #[c,d].size):nH A s #[a,b][j] #[c,d][j] (two r1 r2 j):=by
 match j,k1,k2 with
 |0,_,_=>exact h1|1,_,_=>exact h2
theorem Zwn(hu:X.A.units+80<eG):aV X (iZ .Eq) (r2 X.K Uh):=by
 intro pins s σ H x y v u Q I rx ry h;obtain⟨ι,M,a,b,S,ra,rb,h⟩:=h;have hu1:X.A.units<eG:=by omega
 unfold Uh at h;cases ha:BV a with
 |none=>rw[ha]at h;exact h.elim|some ni=>cases hb:BV b with
  |none=>rw[ha,hb]at h;exact h.elim|some mj=>
   obtain⟨n,i⟩:=ni;obtain⟨m,j⟩:=mj;rw[ZiY ha]at ra;rw[ZiY hb]at rb;rw[ha,hb]at h;dsimp only at h;cases hn:M[n]? with
   |none=>rw[hn]at h;exact h.elim|some o1=>cases o1 with
    | lst x1=>cases hm:M[m]? with
     |none=>rw[hn,hm]at h;exact h.elim|some o2=>cases o2 with
      | lst y1=>
       rw[hn,hm]at h;dsimp only at h;by_cases hnm:n=m
       .rw[if_pos hnm]at h;exact h.elim
       rw[if_neg hnm]at h;unfold Ma at h;by_cases hp:x1.all (cP 50)=true/\y1.all (cP 50)=true
       .rw [if_pos hp]at h;obtain⟨P,vs,its,_,eu,t,r1,v1⟩:=vY I ra rx;obtain⟨P',ws,its2,_,ev,t',r2,v2⟩:=vY I rb ry;obtain⟨y0,vs',rfl,q1,r1⟩:=r1.cons_inv;obtain⟨y1',vs',rfl,q2,r1⟩:=r1.cons_inv;rw[r1.nil_inv]at v1;obtain⟨z0,ws',rfl,q3,r2⟩:=r2.cons_inv;obtain⟨z1',ws',rfl,q4,r2⟩:=r2.cons_inv;rw[r2.nil_inv]at v2;cases v1 with
        | @cons _ u0 _ _ w0 v1=>cases v1 with
         | @cons _ u1 _ _ w1 v1=>
          cases v1
          cases v2 with
          | @cons _ u2 _ _ w2 v2=>cases v2 with
           | @cons _ u3 _ _ w3 v2=>
            cases v2
            obtain⟨t1,e1⟩:=rE q2 w1;obtain⟨t2,e2⟩:=rE q4 w3;have hi:X.A.in1.units+70<eG:=by rw[units_in1];omega
            have L:=ZqK hi I S hn hm hnm hp.1 hp.2 q1 q3 w0 w2;have N:nH X.A.in1 s u1 u3 (i==j):=by rw[e1,e2];exact RQ _ _ _ _
            rw[eu,ev];refine RV t t' hu1 (Zt1 L N) X.prog X.w X.xe _ ⟨.bl (gQ x1 y1&&(i==j)),H,I,?_,Zy.ok h S Rep.bl⟩;show Value.bool ((gQ x1 y1&&((i==j)&&true))&&true)=Value.bool _;rw[u_,u_]
       .rw[if_neg hp]at h;exact h.elim
      |_=>rw[hn,hm]at h;exact h.elim
    |_=>rw[hn]at h;exact h.elim
end
set_option maxRecDepth 100000
section
variable {prog:aX} {w:aU} {A:bB} {E:Yd->Yg->Prop} {s:Yg}
theorem Zmk:zP (.type "zip") (lJ "keys")=pure Yk:=by rw[Qt,Qj];kernel_rfl
theorem Zf2:zP (.type "zip") "__getattr__" =pure Yk:=by rw[Qt,Qj];kernel_rfl
theorem Zeg:entryFor table "zip.__getattribute__" =Ya Builtin.«object.__getattribute__»:=entryFor_alias (id':="object.__getattribute__") (by kernel_rfl) (by decide +kernel) (by decide +kernel) (by kernel_rfl)
theorem ZiO(a:Yn)(xs:Array Yd)(sl:Array (Option Yd))(name:aj)(u:jx)(hmiss:zP (.type "zip") name=pure Yk)(hname:(["__module__","__name__","__qualname__","__doc__","__annotations__"]:List aj).contains name=false)(hsz:name.length+100<=Y7):
  Meets (Builtin.«object.__getattribute__» ⟨[.ref a,.str name u],[]⟩) (λA R s=>s.heap.get? a=Ya {cls:=.type "zip",dict:=Yk,data:=.fields xs,slots:=sl}/\raisesAttr (.ref a) name A R s):=
 Meets.of_wp λprog w A R s hs=>by
  obtain⟨hp,g,d,tk,os⟩:=s;obtain⟨hx,hs⟩:=hs;have hT:(⟨hp,g,d,tk,os⟩:Yg).TypeIs (.ref a) "zip":=⟨_,hx,rfl⟩;unfold Builtin.«object.__getattribute__»
  repeat(any_goals(first|assumption|wp_step))
  simp only[hname,J5,if_false]
  repeat(any_goals(first|assumption|wp_step))
  exact wpAny_raiseAttrError hs.1 hs.2 (attrMsg_fits (by decide +kernel) hsz)
set_option maxRecDepth 8000 in
theorem ZlD{a:Yn}{sl:Array (Option Yd)}{Q:Option Yd->Yg->Prop}(hx:s.heap.get? a=Ya {cls:=.type "zip",dict:=Yk,data:=.fields xs,slots:=sl})(hA:A.handled=Yk)(h:∀h' tk,(∀b u,s.heap.get? b=Ya u->h'.get? b=Ya u)->Q Yk {s with heap:=h',toks:=tk}):Yy (Y4 prog w) A (zT (.ref a) (lJ "keys")) Q E s:=by
 obtain⟨hp,g,d,tk,os⟩:=s;have hT:∀tk',(⟨hp,g,d,tk',os⟩:Yg).TypeIs (.ref a) "zip":=λ_=>⟨_,hx,rfl⟩;have f1:=Yj6;have f3:=F.slot_zip_getattribute.lookup;have f4:=F.slot_zip_getattribute.bind (.ref a);have f5:=Zf2;unfold zT QS QX
 repeat(any_goals(first|assumption|exact hT _|((with_reducible show Yy _ _ (call (Value.builtin "zip.__getattribute__") _ _) _ _ _);refine xr F.slot_zip_getattribute (hT _) Zeg (F.args_zip_getattribute_2 _ _) (ZiO a xs sl _ _ Zmk (by decide) (by rw[nj];decide)) ⟨hx,hA,λh' tk' e hx'=>?_⟩)|wp_step))
 obtain⟨t',u',he⟩:=hx'.there;show Yy _ _ (Jt _ _ _ _ _ _ _) _ _ _;unfold Jt
 repeat(any_goals(first|assumption|wp_step))
 all_goals exact h _ _ hx'.of.keeps
abbrev Cy(h:au)(z TI TO T:Yn)(b:Bool):Prop:=h.get? z=Ya {cls:=.type "zip",dict:=Yk,data:=.fields #[jN T,.bool b,.bool false,.ref TI,.ref TO],slots:=#[]}
theorem ZlG{M:Model}{a:Yn}{Q:Option aB->Yg->Prop}(h:Q (s.heap.get? a) s):Yy M A (QH a) Q E s:=λΓ p _=>by unfold QH;rw[Sem.wp_loadIfAlive];exact h
theorem Zn6{z TI TO T:Yn}{o:aB}{Q:Bool->Yg->Prop}(hz:Cy s.heap z TI TO T b)(hT:s.heap.get? T=Ya o)(h:∀h',Cy h' z TI TO T true->(∀c u,c≠z->s.heap.get? c=Ya u->h'.get? c=Ya u)->h'.objs.size=s.heap.objs.size->Q false {s with heap:=h'}):Yy (Y4 prog w) A (vd (.ref z)) Q E s:=by
 unfold vd;refine Yb (e_ hz rfl (x:=jN T) rfl ?_);show Yy _ _ (QH ((T:Int).toNat)>>=λo=>_) _ _ _;refine Yb (ZlG ?_);rw[qM,hT];show Yy _ _ (mC (.ref z) 1>>=λo=>_) _ _ _;refine Yb (e_ hz rfl (x:=.bool b) rfl ?_);cases b with
 |true=>exact Yi (h s.heap hz (λ_ _ _ q=>q) rfl)|false=>show Yy _ _ (setField (.ref z) 1 (.bool true)>>=λo=>_) _ _ _;exact Yb (wX hz (by simp) λg1 hz1 hs1=>Yi (h g1 hz1 (λc u hc q=>hs1.extBut _ _ hc q) hs1.1))
theorem ZoR{z TI TO T i1 i2 l1 l2:Yn}{x y:Yd}{o:aB}(D:ZipApart z TI TO i1 i2 l1 l2)(hz:Cy s.heap z TI TO T b)(hT:s.heap.get? T=Ya o)(hTI:fG s.heap TI (.ref i1) (.ref i2))(h1:cM b1 s.heap i1 l1 k1)(h2:cM b2 s.heap i2 l2 k2)(hl1:d_ b1 s.heap l1 xs)(hl2:d_ b2 s.heap l2 ys)(hx:xs[k1]?=Ya x)(hy:ys[k2]?=Ya y)(hQ:∀h',Cy h' z TI TO T true->cM b1 h' i1 l1 (k1+1)->cM b2 h' i2 l2 (k2+1)->fG h' s.heap.objs.size x y ->
   (∀c o,c≠z->c≠i1->c≠i2->s.heap.get? c=Ya o->h'.get? c=Ya o)->Q (.ref s.heap.objs.size) {s with heap:=h'}):
  Yy (Y4 prog w) A (Builtin.«zip.__next__» ⟨[.ref z],[]⟩) (λfin s'=>∃v,fin= .done (.ret v)/\Q v s') E s:=by
 show Yy _ _ (mC (.ref z) 2>>=λo=>_) _ _ _;refine Yb (e_ hz rfl (x:=.bool false) rfl (show Yy _ _ (mC (.ref z) 3>>=λo=>_) _ _ _ from ?_));refine Yb (e_ hz rfl (x:=.ref TI) rfl (Yb (qz hTI rfl ?_)));refine(show Yy _ _ (vd (.ref z)>>=λo=>_) _ _ _ from Yb ?_);refine Zn6 hz hT λg1 hz1 k1' z1=>?_;show Yy _ _ (forIn #[Value.ref i1,Value.ref i2] _ _>>=λo=>_) _ _ _;rw[←Ykb];simp only[Fl,JZ];refine Yb (Yb (Yb (jk (show Yy _ _ (mJ (.ref i1)>>=λo=>_) _ _ _ from ?_))));refine Yb (nextK (h1.keep λo q=>k1' _ o D.i1z q) (hl1.keep λo q=>k1' _ o D.l1z q) hx λg2 h12 hs2=>Yi ?_);refine Yi (Yb (Yb (jk (show Yy _ _ (mJ (.ref i2)>>=λo=>_) _ _ _ from ?_))));refine Yb (nextK (h2.keep λo q=>hs2.extBut _ o D.i12.symm (k1' _ o D.i2z q)) (hl2.keep λo q=>hs2.extBut _ o D.l2i1 (k1' _ o D.l2z q)) hy λg3 h23 hs3=>Yi ?_);refine Yi (Yi ?_);show Yy _ _ (newTuple [x,y]>>=λo=>_) _ _ _;refine Yb (wpAny_newTuple ?_);have hsz:g3.objs.size=s.heap.objs.size:=by rw[hs3.1,hs2.1,z1]
 have up:∀c o,g3.get? c=Ya o->(g3.push {cls:=.type "tuple",data:=.seq #[x,y]}).get? c=Ya o:=λc o q=>Yj _ q;refine Yi ⟨_,rfl,(show Q (.ref g3.objs.size) _ from ?_)⟩;rw[hsz];have hP:fG (g3.push {cls:=.type "tuple",data:=.seq #[x,y]}) g3.objs.size x y:=Y0 _ rfl;rw[hsz]at hP;exact hQ _ (up _ _ (hs3.extBut _ _ D.i2z.symm (hs2.extBut _ _ D.i1z.symm hz1))) (h12.keep λo q=>up _ _ (hs3.extBut _ _ D.i12 q)) (h23.keep λo q=>up _ _ q) hP
  λc o c1 c2 c3 q=>up _ _ (hs3.extBut _ _ c3 (hs2.extBut _ _ c2 (k1' _ _ c1 q)))
theorem Zpw{z TI TO T i1 i2 l1 l2:Yn}{o:aB}{Q:Fin->Yg->Prop}(hh:A.handled=Yk)(D:ZipApart z TI TO i1 i2 l1 l2)(hz:Cy s.heap z TI TO T b)(hT:s.heap.get? T=Ya o)(hTI:fG s.heap TI (.ref i1) (.ref i2))(h1:cM b1 s.heap i1 l1 k1)(h2:cM b2 s.heap i2 l2 k2)(hl1:d_ b1 s.heap l1 xs)(hl2:d_ b2 s.heap l2 ys)(hend:xs[k1]?=Yk\/ys[k2]?=Yk)(hE:∀h' e,(∀c o,c≠z->c≠i1->c≠i2->s.heap.get? c=Ya o->h'.get? c=Ya o)->(∃o,h'.get? e=Ya o/\o.cls= .type "StopIteration")->E (.ref e) {s with heap:=h'}):
  Yy (Y4 prog w) A (Builtin.«zip.__next__» ⟨[.ref z],[]⟩) Q E s:=by
 show Yy _ _ (mC (.ref z) 2>>=λo=>_) _ _ _;refine Yb (e_ hz rfl (x:=.bool false) rfl (show Yy _ _ (mC (.ref z) 3>>=λo=>_) _ _ _ from ?_));refine Yb (e_ hz rfl (x:=.ref TI) rfl (Yb (qz hTI rfl ?_)));refine(show Yy _ _ (vd (.ref z)>>=λo=>_) _ _ _ from Yb ?_);refine Zn6 hz hT λg1 hz1 k1' z1=>?_;show Yy _ _ (forIn #[Value.ref i1,Value.ref i2] _ _>>=λo=>_) _ _ _;rw[←Ykb];simp only[Fl,JZ];refine Yb (Yb (Yb (jk (show Yy _ _ (mJ (.ref i1)>>=λo=>_) _ _ _ from ?_))));have h11:cM b1 g1 i1 l1 k1:=h1.keep λo q=>k1' _ o D.i1z q;have Et:d_ b1 g1 l1 xs:=hl1.keep λo q=>k1' _ o D.l1z q;cases hx:xs[k1]? with
 |none=>refine Yb (Ng hh h11 Et hx λg2 e hs2 he=>?_);exact hE g2 e (λc o c1 c2 _ q=>hs2 _ _ c2 (k1' _ _ c1 q)) he|some x=>
  have hy:ys[k2]?=Yk:=by rcases hend with q|q;rw[hx]at q;cases q;exact q
  refine Yb (nextK h11 Et hx λg2 h12 hs2=>Yi ?_);refine Yi (Yb (Yb (jk (show Yy _ _ (mJ (.ref i2)>>=λo=>_) _ _ _ from ?_))));refine Yb (Ng hh (h2.keep λo q=>hs2.extBut _ o D.i12.symm (k1' _ o D.i2z q)) (hl2.keep λo q=>hs2.extBut _ o D.l2i1 (k1' _ o D.l2z q)) hy λg4 e rJ he=>?_);exact hE g4 e (λc o c1 c2 c3 q=>rJ _ _ c3 (hs2.extBut _ _ c2 (k1' _ _ c1 q))) he
inductive ZS(b1 b2:Bool)(z TI TO i1 i2 l1 l2:Yn)(xs ys:Array Yd)(i:Nat)(h:au):Prop
 |mk (zz:(jO h z TI TO .none/\∃a b,fG h TO a b)\/∃T b o,Cy h z TI TO T b/\h.get? T=Ya o/\T≠i1/\T≠i2/\T≠z) (pp:fG h TI (.ref i1) (.ref i2)) (j1:cM b1 h i1 l1 i) (j2:cM b2 h i2 l2 i) (o1:d_ b1 h l1 xs) (o2:d_ b2 h l2 ys)
theorem ZrL{z TI TO i1 i2 l1 l2:Yn}{x y:Yd}{Q:Option Yd->Yg->Prop}(D:ZipApart z TI TO i1 i2 l1 l2)(Z:ZS b1 b2 z TI TO i1 i2 l1 l2 xs ys i s.heap)(hx:xs[i]?=Ya x)(hy:ys[i]?=Ya y)(hQ:∀h',ZS b1 b2 z TI TO i1 i2 l1 l2 xs ys (i+1) h'->fG h' s.heap.objs.size x y->(∀c o,c≠z->c≠TO->c≠i1->c≠i2->s.heap.get? c=Ya o->h'.get? c=Ya o)->Q (Ya (.ref s.heap.objs.size)) {s with heap:=h'}):
  Yy (Y4 prog w) A (iu (.ref z)) Q E s:=by
 obtain⟨zz,pp,j1,j2,o1,o2⟩:=Z;have g1:=j1.there;have g2:=j2.there;rcases zz with⟨hz,a,b,hTO⟩|⟨T,b,o,hz,hT,n1,n2,n3⟩
 .refine ZkM D hz pp hTO j1 j2 o1 o2 hx hy λh' hz' AfY hi1 hi2 hP hk=>hQ h' ⟨.inr ⟨s.heap.objs.size,false,_,hz',hP,?_,?_,tu (Yp hz)⟩,hk _ _ D.TIz D.TITO D.TIi1 D.TIi2 pp,hi1,hi2,o1.keep λo q=>hk _ _ D.l1z D.l1TO D.l1i1 D.l1i2 q,o2.keep λo q=>hk _ _ D.l2z D.l2TO D.l2i1 D.l2i2 q⟩ hP hk
  .obtain⟨u,q,_⟩:=g1;exact tu (Yp q)
  .obtain⟨u,q,_⟩:=g2;exact tu (Yp q)
 .have hTy:s.TypeIs (.ref z) "zip":=⟨_,hz,rfl⟩;unfold iu;exact Yb (xg (qx (name:=lJ "__next__") hTy vh (qy vh hTy Km
   (ZoR D hz hT pp j1 j2 o1 o2 hx hy λh' hz' hi1 hi2 hP hk=>Yi (hQ h' ⟨.inr ⟨T,true,o,hz',hk _ _ n3 n1 n2 hT,n1,n2,n3⟩,hk _ _ D.TIz D.TIi1 D.TIi2 pp,hi1,hi2,o1.keep λo q=>hk _ _ D.l1z D.l1i1 D.l1i2 q,o2.keep λo q=>hk _ _ D.l2z D.l2i1 D.l2i2 q⟩ hP λc o c1 _ c3 c4 q=>hk c o c1 c3 c4 q)) (Kl _))))
theorem Zvu{z TI TO i1 i2 l1 l2:Yn}{Q:Option Yd->Yg->Prop}(hh:A.handled=Yk)(D:ZipApart z TI TO i1 i2 l1 l2)(Z:ZS b1 b2 z TI TO i1 i2 l1 l2 xs ys i s.heap)(hend:xs[i]?=Yk\/ys[i]?=Yk)(hQ:∀h',(∀c o,c≠z->c≠TO->c≠i1->c≠i2->s.heap.get? c=Ya o->h'.get? c=Ya o)->Q Yk {s with heap:=h'}):
  Yy (Y4 prog w) A (iu (.ref z)) Q E s:=by
 obtain⟨zz,pp,j1,j2,o1,o2⟩:=Z;rcases zz with⟨hz,a,b,hTO⟩|⟨T,b,o,hz,hT,n1,n2,n3⟩
 .exact ZlY hh D hz pp hTO j1 j2 o1 o2 hend hQ
 .have hTy:s.TypeIs (.ref z) "zip":=⟨_,hz,rfl⟩;unfold iu;refine Yb (xg (qx (name:=lJ "__next__") hTy vh (qy vh hTy Km
   (Zpw hh D hz hT pp j1 j2 o1 o2 hend λh' e hk he=>?_) (Kl _))))
  obtain⟨o,ho,hc⟩:=he;exact Yb (Qs (T:="StopIteration") (b:=true) ⟨o,ho,hc⟩ Qw (Yi (hQ _ λc o c1 _ c3 c4 q=>hk c o c1 c3 c4 q)))
end
set_option maxRecDepth 100000
variable{ps:List (Key×Yd)}
section
variable {prog:aX} {w:aU} {A:bB} {E:Yd->Yg->Prop} {s:Yg}
theorem ZS.keep{z TI TO i1 i2 l1 l2 d:Yn}{h':au}(Z:ZS b1 b2 z TI TO i1 i2 l1 l2 xs ys i h)(nd:∀c∈[z,TI,TO,i1,i2,l1,l2],c≠d)(k:∀c o,c≠d->h.get? c=Ya o->h'.get? c=Ya o)(kd:∃o,h'.get? d=Ya o):ZS b1 b2 z TI TO i1 i2 l1 l2 xs ys i h':=by
 obtain⟨zz,pp,j1,j2,o1,o2⟩:=Z;refine⟨?_,k _ _ (nd TI (by simp)) pp,j1.keep λo q=>k _ _ (nd i1 (by simp)) q,j2.keep λo q=>k _ _ (nd i2 (by simp)) q,o1.keep λo q=>k _ _ (nd l1 (by simp)) q,o2.keep λo q=>k _ _ (nd l2 (by simp)) q⟩;rcases zz with⟨hz,a,b,hTO⟩|⟨T,b,o,hz,hT,n1,n2,n3⟩
 .exact .inl ⟨k _ _ (nd z (by simp)) hz,a,b,k _ _ (nd TO (by simp)) hTO⟩
 .by_cases e:T=d
  .obtain⟨o',q⟩:=kd;exact .inr ⟨T,b,o',k _ _ (nd z (by simp)) hz,by rw[e];exact q,n1,n2,n3⟩
  .exact .inr ⟨T,b,o,k _ _ (nd z (by simp)) hz,k _ _ e hT,n1,n2,n3⟩
def Cz(prog:aX)(w:aU)(ps:List (Key×Yd))(xs ys:Array Yd):Prop:=ps.length=jg xs.size ys.size/\∀(j:Nat) q,ps[j]?=Ya q->∃x,xs[j]?=Ya x/\ys[j]?=Ya q.2/\(dZ prog w).is q.1 x=true
theorem Zox{d z TI TO i1 i2 l1 l2:Yn}{res:Yd}(hh:A.in1.handled=Yk)(D:ZipApart z TI TO i1 i2 l1 l2)(nd:∀c∈[z,TI,TO,i1,i2,l1,l2],c≠d)(kp:Cz prog w ps xs ys)(hz:ps.length<=100000):
  ∀(k i:Nat) (s:Yg) (kvs:List (Key×Yd)) {R:pI->Yg->Prop},ps.length-i=k->i<=ps.length->ZS b1 b2 z TI TO i1 i2 l1 l2 xs ys i s.heap->s.heap.DictOf (dZ prog w) d kvs->kvs.length<=i ->
   (∀h' tk,h'.DictOf (dZ prog w) d (PySem.merged kvs (ps.drop i))->(∀b o,b≠d->b≠z->b≠TO->b≠i1->b≠i2->s.heap.get? b=Ya o->h'.get? b=Ya o)->R (.ok (.ret res)) {s with heap:=h',toks:=tk}) ->
   jM (Y4 prog w) A (.builtin "dict.update.loop" ⟨[.ref d,.ref z,jN i,res],[]⟩) R s:=by
 intro k
 induction k with
 | zero=>
  intro i s kvs R hk hi st dd hkl hR;have hin:i=ps.length:=by omega
  refine Ez MJ ?_;rw[Kw v5 _];show Yy _ A.in1 (iu (.ref z)>>=_) _ _ s;refine Yb (Zvu hh D st ?_ λh' kk=>?_)
  .have:=kp.1;by_cases q:xs.size<=i
   .left;simp;omega
   .right;simp;omega
  show Yy _ A.in1 (Yg9 d []>>=_) _ _ _;refine Yb (Yi (Yi (hR h' _ ?_ λb o _ hb hI h3 h4 e=>kk b o hb hI h3 h4 e)));rw[Yhv (by omega)];obtain⟨o,es,ep,ho,r⟩:=dd;exact⟨o,es,ep,kk d o (nd z (by simp)).symm (nd TO (by simp)).symm (nd i1 (by simp)).symm (nd i2 (by simp)).symm ho,r⟩
 | succ k ih=>
  intro i s kvs R hk hi st dd hkl hR;have hlt:i<ps.length:=by omega
  obtain⟨x,hx,hy,hkey⟩:=kp.2 i ps[i] (Y5 hlt);refine Ez MJ ?_;rw[Kw v5 _];show Yy _ A.in1 (iu (.ref z)>>=_) _ _ s;refine Yb (ZrL D st hx hy λh1 st1 hP Cj=>?_);have hld:d<s.heap.objs.size:=by obtain⟨o,_,_,ho,_⟩:=dd;exact Yp ho
  have Vm:h1.DictOf (dZ prog w) d kvs:=by obtain⟨o',es,ep,ho',r⟩:=dd;exact⟨o',es,ep,Cj d o' (nd z (by simp)).symm (nd TO (by simp)).symm (nd i1 (by simp)).symm (nd i2 (by simp)).symm ho',r⟩
  dsimp only;refine Yb (jk (Yb (wpAny_tryCatch ?_)));unfold Yhw;refine Yb (uP (T:="tuple") ⟨_,hP,rfl⟩ ?_);rw[if_pos (by decide)];refine Yb ?_;unfold JD;refine Yb (QL hP ?_);refine Yi (Yi ?_);show Yy _ A.in1 (nu [x,ps[i].2] (dictSet d x ps[i].2)) _ _ _;refine jk (Yjl hkey Vm (λh2 dd2 sb=>?_) (by rw[nj];omega));refine Yi ⟨Jx v5 _,?_⟩;show jM (Y4 prog w) A (.builtin "dict.update.loop" ⟨[.ref d,.ref z,jN ((i:Int)+1),res],[]⟩) R _;have e1:((i:Int)+1)=((i+1:Nat):Int):=rfl;rw[e1];have k2:∀b u,b≠d->b≠z->b≠TO->b≠i1->b≠i2->s.heap.get? b=Ya u->h2.get? b=Ya u:=λb u hb h1 h2 h3 h4 e=>(sb.2 b hb).trans (Cj b u h1 h2 h3 h4 e);refine ih (i+1) _ (sJ kvs ps[i].1 ps[i].2) (by omega) hlt (st1.keep nd (λc o hc q=>(sb.2 c hc).trans q) ?_) dd2 ?_ ?_
  .obtain⟨o,_,_,ho,_⟩:=dd2;exact⟨o,ho⟩
  .have:=(show(sJ kvs ps[i].1 ps[i].2).length<=kvs.length+1 from by unfold sJ;split <;>simp);omega
  .intro h' tk jT yN;refine hR h' tk ?_ λb u hb h1 h2 h3 h4 e=>yN b u hb h1 h2 h3 h4 (k2 b u hb h1 h2 h3 h4 e);rw[xJ hlt];exact jT
theorem Zqm{z TI TO i1 i2 l1 l2:Yn}(hA:A.handled=Yk)(D:ZipApart z TI TO i1 i2 l1 l2)(hZ:jO s.heap z TI TO .none)(hTO:∃a b,fG s.heap TO a b)(hTI:fG s.heap TI (.ref i1) (.ref i2))(j1:cM b1 s.heap i1 l1 0)(j2:cM b2 s.heap i2 l2 0)(o1:d_ b1 s.heap l1 xs)(o2:d_ b2 s.heap l2 ys)(kp:Cz prog w ps xs ys)(hz:ps.length<=100000)(h:∀h' tk,h'.DictOf (dZ prog w) s.heap.objs.size (PySem.merged [] ps)->(∀b o,b≠z->b≠TO->b≠i1->b≠i2->s.heap.get? b=Ya o->h'.get? b=Ya o)->Q (.ref s.heap.objs.size) {s with heap:=h',toks:=tk}):
  Yy (Y4 prog w) A (call (.type "dict") [.ref z]) Q E s:=by
 have nlt:∀c∈[z,TI,TO,i1,i2,l1,l2],c<s.heap.objs.size:=λc hc=>by
  obtain⟨a,b,hTO⟩:=hTO;obtain⟨u1,q1,_⟩:=j1.there;obtain⟨u2,q2,_⟩:=j2.there;simp only[fj,z_,or_false]at hc;rcases hc with rfl|rfl|rfl|rfl|rfl|rfl|rfl
  .exact Yp hZ
  .exact Yp hTI
  .exact Yp hTO
  .exact Yp q1
  .exact Yp q2
  .exact o1.there
  .exact o2.there
 refine callType_codes (Q₁:=λobj s₁=>obj= .ref s.heap.objs.size/\s₁={s with heap:=s.heap.push {cls:=.type "dict",data:=.dict #[]}}) Ylc (Yiy _) Ykm (Yld _ ⟨rfl,rfl⟩) ?_;rintro obj s₁ ⟨rfl,rfl⟩;have hnew:(s.heap.push {cls:=.type "dict",data:=.dict #[]}).DictOf (dZ prog w) s.heap.objs.size []:=RW s.heap;have hk1:∀b u,s.heap.get? b=Ya u->(s.heap.push {cls:=.type "dict",data:=.dict #[]}).get? b=Ya u:=λb u q=>Yj _ q;refine⟨hnew.typeIs,Yj7 _ _,?_⟩;unfold Builtin.«dict.__init__»;refine Yb ?_;unfold Yha;refine Yb (Yik hnew.typeIs ?_);show Yy _ _ (pure (s.heap.objs.size,[Value.ref z])) _ _ _;refine Yi ?_;show Yy _ _ (Kv "dict.__init__" s.heap.objs.size (.ref z) [] .none) _ _ _;unfold Kv;refine Yb (uP (T:="zip") ⟨_,hk1 _ _ hZ,rfl⟩ ?_);rw[if_pos (by decide)];refine Yb (ZlD (hk1 _ _ hZ) hA λh2 tk2 k2=>?_);simp only[Z_,if_true];refine Yb (xu ?_);have d2:h2.DictOf (dZ prog w) s.heap.objs.size []:=by obtain⟨o',es,ep,ho',r⟩:=hnew;exact⟨o',es,ep,k2 _ _ ho',r⟩
 have k0:∀b u,s.heap.get? b=Ya u->h2.get? b=Ya u:=λb u q=>k2 _ _ (hk1 _ _ q);refine Yb (wpAny_pyIter_zip (k0 _ _ hZ) ?_);have st:ZS b1 b2 z TI TO i1 i2 l1 l2 xs ys 0 h2:=by obtain⟨a,b,hTO⟩:=hTO;exact⟨.inl ⟨k0 _ _ hZ,a,b,k0 _ _ hTO⟩,k0 _ _ hTI,j1.keep λo q=>k0 _ _ q,j2.keep λo q=>k0 _ _ q,o1.keep λo q=>k0 _ _ q,o2.keep λo q=>k0 _ _ q⟩
 refine Yi ⟨Jx v5 _,Zox (prog:=prog) (w:=w) (A:=A.in1) hA D (λc hc=>Y6 (nlt c hc)) kp hz ps.length 0 _ [] rfl (eN _) st d2 (eN _) λh' tk jT yN=>?_⟩;exact⟨rfl,h h' tk jT λb u b1 b2 b3 b4 q=>yN b u (Y6 (Yp q)) b1 b2 b3 b4 (k0 _ _ q)⟩
end
set_option maxRecDepth 100000
section
variable {X:Cx} {K:Yc} {H:Hp} {ι:List Yn} {prog:aX} {w:aU}
theorem Zol{ux uy:List Yd}{k:Key}{u v:Yd}(hk:(dZ prog w).is k u=true)(h:Cz prog w ps ux.toArray uy.toArray):Cz prog w ((k,v)::ps) (u::ux).toArray (v::uy).toArray:=by
 refine⟨?_,λj q hq=>?_⟩
 .have:=h.1;simp only[Ym,Ys]at this ⊢;omega
 .cases j with
  |zero=>rw[←Y3 hq];exact⟨u,rfl,rfl,hk⟩|succ j=>obtain⟨x,h1,h2,h3⟩:=h.2 j q hq;exact⟨x,by simpa using h1,by simpa using h2,h3⟩
theorem Zuu:∀{x y:List D} {l:List (a_×D)} {vx vy:List V} {ux uy:List Yd},lQ (yx x y)=Ya l->Zx K H ι x vx->Zx K H ι y vy->Vals vx ux->Vals vy uy ->
  ∃(ws:List (Key×V)) (ps:List (Key×Yd)),bH K H ι l ws/\KV ws ps/\Cz prog w ps ux.toArray uy.toArray/\ps.length=l.length:=by
 intro x
 induction x with
 |nil=>intro y l vx vy ux uy h rx ry hx hy;rw[rx.nil_inv]at hx;cases hx;have e:l=[]:=(Y3 h).symm;rw[e];exact⟨[],[],bH.nil,.nil,⟨by simp,λj q z=>dR z⟩,rfl⟩|cons a x ih=>
  intro y l vx vy ux uy h rx ry hx hy;cases y with
  |nil=>rw[ry.nil_inv]at hy;cases hy;have e:l=[]:=(Y3 h).symm;rw[e];exact⟨[],[],bH.nil,.nil,⟨by simp,λj q z=>dR z⟩,rfl⟩|cons b y=>
   have h:lQ (.tup [a,b]::yx x y)=Ya l:=h;obtain⟨a',b',k,l',ed,hk,hx',el⟩:=ZiL h;injection ed with ed;injection ed with e1 ed;injection ed with e2 ed;rw[←e1]at hk;rw[el,←e2];obtain⟨v1,vx',rfl,r1,rx⟩:=rx.cons_inv;obtain⟨v2,vy',rfl,r2,ry⟩:=ry.cons_inv;cases hx with
   | @cons _ u1 _ _ q1 hx=>cases hy with
    | @cons _ u2 _ _ q2 hy=>obtain⟨ws,ps,kr,kv,kp,hl⟩:=ih hx' rx ry hx hy;exact⟨(dk k,v2)::ws,(dk k,u2)::ps,bH.cons r2 kr,.cons ⟨rfl,q2⟩ kv,Zol (yc (by rw[←yL hk r1];exact q1)) kp,congrArg Nat.succ hl⟩
end
section
variable {X:Cx} {a b:Expr} {p p1 pos pos1:aP} {f g:E3}
inductive ZyP(X:Cx)(H1:Hp)(vs:List V)(Q:VK):Prop
 |mk (b1 b2:Bool) (l1 l2:Yn) (xs ys:List V) (e:vs=[.ref l1,.ref l2]) (s1:yQ b1 X.K H1 l1 xs) (s2:yQ b2 X.K H1 l2 ys)
  (q:∀ux uy,Vals xs ux->Vals ys uy->∃ws ps,KV ws ps/\Cz X.prog X.w ps ux.toArray uy.toArray/\ps.length<=100000/\∀p,H1 p=Yk->Q (.ref p) (upd H1 p (.dK (tX [] ws))))
theorem Zmg{ta:TA}(hc:X.calm=true)(hg:Gl X "zip")(hm:X.mg "zip" =Yk)(hgd:Gl X "dict")(hmd:X.mg "dict" =Yk)(ha:PA X [a,b] ta)(hs:Yt [a,b] X.env=[(false,aH a X.env),(false,aH b X.env)])(hs2:Yt [b] X.env=[(false,aH b X.env)])(he:Yt [.Call (.Name "zip" p1) [a,b] [] pos1] X.env=[(false,aH (.Call (.Name "zip" p1) [a,b] [] pos1) X.env)]):
  PE X (.Call (.Name "dict" p) [.Call (.Name "zip" p1) [a,b] [] pos1] [] pos) (λσ H Q=>ta σ H λvs H1=>ZyP X H1 vs Q):=by
 intro pins s σ H Q I h;refine Call_ (xY I hgd hmd Ve (Ft ?_ (by rw[he];rfl) rfl));rw[he];refine Ar (Call_ (xY I hg hm ZoX (Ft (aG (ha pos1 pins s σ H _ I h) λus s1 ak=>?_) (by rw[hs,hs2]) (by rw[hs2];rfl))));obtain⟨vs,H1,I1,r1,b1,b2,l1,l2,xs,ys,e,hx,hy,q⟩:=ak;subst e;cases r1 with
 | cons r rr=>
  cases rr with
  | cons r' rr=>
   cases rr
   cases r
   cases r'
   obtain⟨its,rv,q1⟩:=yQ.at I1 hx;obtain⟨its2,rv2,q2⟩:=yQ.at I1 hy;obtain⟨ws,ps,kv,kp,hz,hQ⟩:=q its its2 rv rv2;refine ZoY q1 q2 λh' hZ hTI hTO hi1 hi2 hk=>Ku ?_;have hle:s1.heap.objs.size<=h'.objs.size:=Yu (sZ _ 4) (xR (Yp hZ));refine Zqm (s:={s1 with heap:=h'}) (I.ok.hd hc) (zipApart_new q1.there q2.there) hZ ⟨_,_,hTO⟩ hTI hi1 hi2 (q1.keep λo q=>hk _ _ q) (q2.keep λo q=>hk _ _ q) kp hz λh2 tk dd kk=>?_;refine⟨.ref h'.objs.size,upd H1 h'.objs.size (.dK (tX [] ws)),?_,rfl,hQ _ (I1.hok.fresh hle)⟩;refine I1.laid (λc o q=>?_) hle (Gm ?_ ?_ (kv.merge (kvs:=[]) (vs:=[]) .nil) dd)
   .have hlt:=Yp q;have hn:∀m,c≠s1.heap.objs.size+m:=λm=>Y6 (Yo hlt (sZ _ _));exact kk c o (hn 4) (hn 3) (hn 0) (hn 1) (hk c o q)
   .have h1:=Lf ws [];have:=kv.length;rw[pN]at h1;rw[nj];omega
   .exact beq_eq_false_iff_ne.mpr (bK (Y6 (Yo I1.big hle)))
theorem Zld{M:Store}{d:D}{v:V}{x:List D}{l:List (Nat×List D)}(S:ao K H ι M)(r:Rep K H ι d v)(e:GQ M d=Ya (x,l)):∃b a,v= .ref a/\∃vs,yQ b K H a vs/\Zx K H ι x vs:=by
 cases d with
 |tup ds=>obtain⟨a,vs,rfl,s,r⟩:=r.iW;cases e;exact⟨false,a,rfl,vs,s,r⟩|ref n=>
  have e:(match M[n]? with|some (.lst x)=>Ya (x,[(n,x)])|_=>Yk)=Ya (x,l):=e;cases hm:M[n]? with
  |none=>rw[hm]at e;exact dR e|some o=>cases o with
   |lst ds=>rw[hm]at e;obtain⟨a,ha,rfl⟩:=r.eU;obtain⟨vs,q,rr⟩:=S.obj n _ a hm ha;cases e;exact⟨true,a,rfl,vs,cD.of q,rr⟩|_=>rw[hm]at e;exact dR e
 |_=>exact dR e
theorem ZjH(hc:X.calm=true)(hm:X.mg "zip" =Yk)(hmd:X.mg "dict" =Yk)(h1:C3 X a f)(h2:C3 X b g)(hg:Gl X "zip":=by rfl)(hgd:Gl X "dict":=by rfl)(hs:Yt [a,b] X.env=[(false,aH a X.env),(false,aH b X.env)]:=by rfl)(hs2:Yt [b] X.env=[(false,aH b X.env)]:=by rfl)(hs':Yt (a::[b]) X.env=(false,aH a X.env)::Yt [b] X.env:=by rfl)(hs'':Yt (b::[]) X.env=(false,aH b X.env)::Yt [] X.env:=by rfl)(he:Yt [.Call (.Name "zip" p1) [a,b] [] pos1] X.env=[(false,aH (.Call (.Name "zip" p1) [a,b] [] pos1) X.env)]:=by rfl):
  C3 X (.Call (.Name "dict" p) [.Call (.Name "zip" p1) [a,b] [] pos1] [] pos) (BR f g):=
 (Zmg hc hg hm hgd hmd (Zc h1 (Zc h2 Zh hs'') hs') hs hs2 he).imp λσ H Q ak=>by
  obtain⟨ι,M,env,S,E,h⟩:=ak;obtain⟨d,M1,e1,h⟩:=Zy.bind h;obtain⟨d2,M2,e2,h⟩:=Zy.bind h;refine⟨ι,M,env,S,E,?_⟩;have e3:Za f (Za g Ze) env M= .ok [d,d2] M2:=by simp only[Za,Ze,R3.bind,e1,e2]
  rw[e3];intro vs H1 ι1 x1 S1 r1;obtain⟨v,ws,rfl,r,q⟩:=r1.cons_inv;obtain⟨v2,nZ,rfl,r2,q2⟩:=q.cons_inv;have:=q2.nil_inv;subst this;cases q1:GQ M2 d with
  |none=>simp only[q1]at h;exact h.elim|some xl=>
   cases q2:GQ M2 d2 with
   |none=>simp only[q1,q2]at h;exact h.elim|some yk=>
    obtain⟨x,l⟩:=xl;obtain⟨y,k⟩:=yk;simp only[q1,q2]at h;unfold L_ at h;cases hp:lQ (yx x y)with
    |none=>rw[hp]at h;exact h.elim|some l3=>
     rw[hp]at h;dsimp only at h;by_cases hl:l3.length<=100000
     .rw[if_pos hl]at h;obtain⟨b1,a1,rfl,xs,w1,f1⟩:=Zld S1 r q1;obtain⟨b2,a2,rfl,ys,w2,f2⟩:=Zld S1 r2 q2;refine⟨b1,b2,a1,a2,xs,ys,rfl,w1,w2,λux uy hx hy=>?_⟩;obtain⟨ws,ps,kr,kv,kp,hlen⟩:=Zuu (prog:=X.prog) (w:=X.w) hp f1 f2 hx hy;refine⟨ws,ps,kv,kp,by rw[hlen];exact hl,λp hp=>?_⟩;obtain⟨x2,S2,r2⟩:=S1.dct hp (bH.merge (kvs:=[]) (ws:=[]) kr bH.nil);exact(h.up x1) _ _ _ x2 S2 r2
     .rw[if_neg hl]at h;exact h.elim
end
section
variable {X:Cx} {any:Bool} {o i e c1:Expr} {f g h:E3} {u w:S3} {pos pos' apos cpos:aP}
theorem ZrE{x y:List Ydm}(hc:mX X c1 f)(ha:lX X any x u)(hb:lX X any y w)(he:∀whole,isTrue c1 X.env whole=(do let v ←whole;xx c1.pos;nu [v] (truthy v)):=by intro _;rfl):ph X any (.If c1 x y pos) (aQ f u w):=(Sy (Sw hc he) ha hb).imp λD σ H ak=>by
 obtain⟨ι,M,env,S,E,h⟩:=ak;refine⟨ι,M,env,S,E,?_⟩;unfold aQ at h;cases q:f env M with
 | ok d M1=>
  rw[q]at h;cases d with
  |bl k=>
   intro v H1 ι1 x1 S1 r1;refine⟨k,r1.iY,?_⟩;cases k with
   |true=>rw[if_pos rfl];exact⟨ι1,M1,env,S1,E.mono x1,kZ.up x1 (λ_=>rfl) h⟩|false=>rw[if_neg (by decide)];exact⟨ι1,M1,env,S1,E.mono x1,kZ.up x1 (λ_=>rfl) h⟩
  |_=>exact h.elim
 |exc x M1=>rw[q]at h;exactλa C H' ι' x1 S1 r1 c1 a' C' e1 e2=>by cases e1;cases e2;exact h σ a C H' ι' (λ_=>rfl) x1 S1 r1 c1|bad=>rw[q]at h;exact h.elim
theorem Zme{body:List Ydm}(hp:JC (Y4 X.prog X.w) X.A X.env X.xe)(hc:mX X c1 f)(hb:lX X true body u)(he:∀whole,isTrue c1 X.env whole=(do let v ←whole;xx c1.pos;nu [v] (truthy v)):=by intro _;rfl):ph X true (.While c1 body [] pos) (yt f u):=(ZlU hp (Sw hc he) hb).imp λD σ H ak=>by
 obtain⟨ι,M,env,S,E,h⟩:=ak;refine⟨λm σ2 H2=>∃ι2 M2 dY,ao X.K H2 ι2 M2/\bj X.K H2 ι2 dY σ2/\kZ X true σ2 H2 ι2 D (iz f u m dY M2),⟨1000000,ι,M,env,S,E,h⟩,?_⟩;rintro m σ2 H2 ⟨ι2,M2,dY,S2,E2,h2⟩;cases m with
 |zero=>exact h2.elim|succ m=>
  refine⟨ι2,M2,dY,S2,E2,?_⟩;rw[kj]at h2;cases q:f dY M2 with
  |exc x M1=>rw[q]at h2;exactλa C H' ι' x1 S1 r1 c1 a' C' e1 e2=>by cases e1;cases e2;exact h2 σ2 a C H' ι' (λ_=>rfl) x1 S1 r1 c1|bad=>rw[q]at h2;exact h2.elim|ok d M1=>
   rw[q]at h2;cases d with
   | bl k=>
    intro v H3 ι3 x3 S3 r3;refine⟨k,r3.iY,?_⟩;cases k with
    |false=>rw[if_neg (by decide)];exact h2 σ2 H3 ι3 x3 S3 (E2.mono x3)|true=>
     rw[if_pos rfl];refine⟨λσ' H'=>∃ι4 M4 jf,ao X.K H' ι4 M4/\bj X.K H' ι4 jf σ'/\kZ X true σ' H' ι4 D (iz f u m jf M4),λσ' H' q=>⟨m,Af _,q⟩,ι3,M1,dY,S3,E2.mono x3,?_⟩;have h3:=kZ.up (any:=true) (σ1:=σ2) x3 (λz=>nomatch z) h2;cases qu:u dY M1 with
     |nx e' M'=>simp only[qu]at h3;exactλσ' H' ι' x' S' E'=>⟨ι',M',e',S',E',h3.up x' (λz=>nomatch z)⟩|ct e' M'=>simp only[qu]at h3;exactλσ' H' ι' x' S' E'=>⟨ι',M',e',S',E',h3.up x' (λz=>nomatch z)⟩|bk e' M'=>simp only[qu]at h3;exact h3|rt d M'=>simp only[qu]at h3;exact h3
     |exc x' M'=>simp only[qu]at h3;exact h3|bad=>simp only[qu]at h3;exact h3.elim
   |_=>exact h2.elim
theorem Zk5(hu:X.A.units+80<eG)(ho:C3 X.gC o f)(hi:C3 X.gC i g)(hv:mX X e h)(hs:nq e (Ya (.Subscript o i pos')) pos.line X.env=pure false:=by rfl):ph X any (.Assign [.Subscript o i pos'] e pos) (vQ f g h):=(Zns (hu1 hu) (PE.gC ho) (PE.gC hi) hv hs).imp λD' σ H ak=>by
 obtain⟨ι,M,env,S,E,hh⟩:=ak;refine⟨ι,M,env,S,E,?_⟩;unfold vQ at hh;cases q:h env M with
 |bad=>rw[q]at hh;exact hh.elim|exc x M1=>rw[q]at hh;exactλa C H' ι' x1 S1 r1 c1 a' C' e1 e2=>by cases e1;cases e2;exact hh σ a C H' ι' (λ_=>rfl) x1 S1 r1 c1|ok d M1=>
  rw[q]at hh;have hh:=Vt (X:=X) hh;intro v H1 ι1 x1 S1 r1;obtain⟨d',M1',b,M2,k,M3,e1,e2,e3,hh⟩:=Vi (Mz (f:=e3 Bs (BW d) f g) E hh);cases e1;refine⟨ι1,M1,env,S1,E.mono x1,?_⟩;rw[e2];intro x H2 ι2 x2 S2 r2;refine⟨ι2,M2,env,S2,(E.mono x1).mono x2,?_⟩;rw[e3];intro y H3 ι3 x3 S3 r3;cases b with
  | ref n=>
   simp only[Lr]at hh;cases hn:M3[n]? with
   |none=>simp only[hn]at hh;exact hh.elim|some ob=>
    cases ob with
    |lst _=>simp only[hn]at hh;exact hh.elim|dj _=>simp only[hn]at hh;exact hh.elim|ins _ _=>simp only[hn]at hh;exact hh.elim|dct kvs=>
     cases hk:fJ k with
     |none=>simp only[hn,hk]at hh;exact hh.elim|some kk=>
      simp only[hn,hk]at hh;split at hh
      .rename_i hz;obtain⟨ad,ha,rfl⟩:=(r2.mono x3).eU;obtain⟨ws,hw,kr⟩:=S3.obj n _ ad hn ha;obtain⟨x4,S4⟩:=S3.mz (.inr (.inr (.inl ⟨_,hw⟩))) ha (kr.put (k:=kk) ((r1.mono x2).mono x3));refine⟨ad,_,rfl,?_,hh .non _ _ (((x1.trans x2).trans x3).trans x4) S4 Rep.non⟩;rw[yL hk r3];exact vG.k hw (by rw[kr.length];exact Yo hz lU)
      .exact hh.elim
  |_=>exact hh.elim
theorem Zvo(ho:C3 X.gC o f)(he:mX X e h)(hbase:qC o "append" X.env (aH o X.env)=aH o X.env:=by rfl)(hfew:((eF cpos (Yt [e] X.env)).all (λx=>!x.1)&&(zR cpos (zO [] X.env)).all (λx=>x.1.isSome)
   &&decide ([e].length+([]:List Keyword).length+(if([]:List Keyword).isEmpty then 0 else 1)<30))=true:=by rfl)(hline:(apos.endLine==cpos.line)=true:=by rfl)(hs:Yt [e] X.env=(false,aH e X.env)::Yt [] X.env:=by rfl)(hplain:(eF cpos (Yt [] X.env)).any (·.1)=false:=by rfl):
  mX X (.Call (.Attribute o "append" apos) [e] [] cpos) (yD f h):=
 (ZtL RJ Yg5 Yg6 ZlM (PE.gC ho) (Be he K8 hs) hbase hfew hline hs hplain).imp λσ H Q ak=>by
 obtain⟨ι,M,env,S,E,hh⟩:=ak;refine⟨ι,M,env,S,E,?_⟩;unfold yD bf at hh;cases q:f env M with
 |bad=>rw[q]at hh;exact hh.elim|exc x M1=>rw[q]at hh;exact hh.elim|ok a M1=>
  rw[q]at hh;intro v H1 ι1 x1 S1 r1;by_cases ht:aY a M1=true
  .simp only[if_pos ht]at hh;refine⟨Vb _ _ _ _ _ S1 r1 ht,ι1,M1,env,S1,E.mono x1,?_⟩;cases q2:h env M1 with
   |bad=>rw[q2]at hh;exact hh.elim|exc x M2=>rw[q2]at hh;exactλa C H' ι' x2 S1 r1 c1=>hh a C H' ι' (x1.trans x2) S1 r1 c1|ok d M2=>
    rw[q2]at hh;intro v2 H2 ι2 x2 S2 r2;refine⟨ι2,M2,a,[d],S2,r1.mono x2,Zx.cons r2 Zx.nil,?_⟩;dsimp only at hh;cases q3:bL a [d] M2 with
    |bad=>rw[q3]at hh;exact hh.elim|exc x M3=>rw[q3]at hh;exact hh.elim|ok d3 M3=>rw[q3]at hh;exactλv3 H3 ι3 x3 S3 r3=>hh v3 H3 ι3 ((x1.trans x2).trans x3) S3 r3
  .simp only[if_neg ht]at hh;exact hh.elim
theorem ZsB:CS X (.Return Yk pos) (cU (BW .non)):=Zs8.imp λD σ H ak=>by obtain⟨ι,M,env,S,E,hh⟩:=ak;exact hh .non H ι Ext.refl S Rep.non
end
theorem Hz{X:Cx}{any:Bool}{sts:List Ydm}:lX X any sts vL:=λ_ _ _ _ _ _ ⟨_,_,_,_,_,h⟩=>h.elim
section
variable {P:aX} {w:aU} {K:Yc} {mg:aj->Option Yd} {base:au} {j k:Nat} {x:aj} {ps:List aj} {F:F3}
theorem dJ.mono{C:Yn}(h:dJ P w K mg base j C x ps F)(l:j<=k):dJ P w K mg base k C x ps F:=let⟨n,f,fd,a,b,d⟩:=h;⟨n,f,fd,a,b,d.mono l⟩
end
theorem Zj6{env env':cQ}(h:env.frame=env'.frame)(x:Yd):pH x env=pH x env':=by unfold pH PySem.frameOf;rw[h]
section
variable {prog:aX} {w:aU} {A:bB} {R:pI->Yg->Prop} {s:Yg}
theorem Zjf{elt target iter:Expr}{scope:Scope}{pos:aP}{it acc:Yd}{env:cQ}(I:Nat->Yg->Prop)(turn:∀n s,I n s->Yy (Y4 prog w) A (iu it) (λr s₁=>match r with
   |none=>R (.ok .next) s₁|some v=>Yy (Y4 prog w) A (w6 target it v) (λ_ G9=>Yy (Y4 prog w) A (jw target env v) (λ_ s₂=>Yy (Y4 prog w) A (aH elt env) (λx s₄=>Yy (Y4 prog w) A (call (.builtin "list.append") [acc,x]) (λ_ s₅=>∃m,m<n/\I m s₅) (zW (Y4 prog w) A env λx s'=>R (.error x) s') s₄) (zW (Y4 prog w) A env λx s'=>R (.error x) s') s₂) (zW (Y4 prog w) A env λx s'=>R (.error x) s') G9) (zW (Y4 prog w) A env λx s'=>R (.error x) s') s₁) (zW (Y4 prog w) A env λx s'=>R (.error x) s') s)(n:Nat)(h:I n s):jM (Y4 prog w) A (.compLoop (.ListComp elt [⟨target,iter,[],0⟩] scope pos) 0 it acc env) R s:=by
 refine codeAny_loop rfl I (λn s hI=>?_) n h;show Yy _ A ((compTurn (.ListComp elt [⟨target,iter,[],0⟩] scope pos) 0 it acc env).onRaise (λx=>do pH x env;Ylq x)) _ _ s;refine wpAny_noted ?_;rw[compTurn_list1];refine Yb (EY (Yb (fc (turn n s hI) (λr s₁ h₁=>?_) λ_ _ h'=>h')));cases r with
 |none=>exact Yi h₁|some v=>refine Yb (fc h₁ (λ_ G9 UV=>?_) λ_ _ h'=>h');refine Yb (fc UV (λ_ s₂ h₂=>?_) λ_ _ h'=>h');exact Yb (Yb (fc h₂ (λx s₄ h₄=>Yb (fc h₄ (λ_ s₅ h₅=>Yi (Yi ⟨rfl,h₅⟩)) λ_ _ h'=>h')) λ_ _ h'=>h'))
end
section
inductive VH(P:Cb)(Ek:XK)(n:Nat)(s':Yg):Prop
 | mk (k:Nat) (σ5:St) (H5:Hp) (ι5:List Yn) (M5:Store) (wW:Zt) (I5:Inv P.Y [] σ5 H5 s') (jb:P.tn k s'.heap) (jQ:∀b∈P.fp,H5 b=Yk) (hn:P.aD.items.length-k=n) (hk:k<=P.aD.items.length)
   (x5:Ext P.Y.K P.H2 P.ι2 H5 ι5) (S5:ao P.Y.K H5 ι5 M5) (E5:bj P.Y.K H5 ι5 wW σ5) (hι:ι5[P.nM]?=Ya P.acc) (h5:gk P.Y.K H5 ι5 P.Q Ek (dF P.aD P.g [] P.f P.nM (P.aD.items.drop k) wW M5))
def VJ(P:Cb)(Ek:XK)(n:Nat)(s':Yg):Prop:=∃m,m<n/\VH P Ek m s'
section
noncomputable local instance (priority:=100000) AfE (p:Prop):Decidable p:=YH p
noncomputable def HB(P:Cb)(k:Nat)(env:Zt)(e:D)(M2:Store):R3 D:=match M2[P.nM]? with
 |some (.lst x)=>if x.length<SZ then dF P.aD P.g [] P.f P.nM (P.aD.items.drop (k+1)) env (M2.set P.nM (.lst (x++[e])))else .bad|_=>.bad
noncomputable def cxB(P:Cb)(k:Nat)(env:Zt)(b:Bool)(M1:Store):R3 D:=if b then(P.f env M1).bind (HB P k env)else dF P.aD P.g [] P.f P.nM (P.aD.items.drop (k+1)) env M1
end
theorem ZxP{P:Cb}{k:Nat}{env:Zt}{M:Store}:cxB P k env true M=(P.f env M).bind (HB P k env):=if_pos rfl
def Ni(P:Cb)(Ek:XK)(n:Nat)(xv:Yd)(s:Yg):Prop:=Yy (Y4 P.Y.prog P.Y.w) P.Y.A (call (.builtin "list.append") [.ref P.acc,xv]) (λ_ s'=>VJ P Ek n s') P.Y.xe s
def VL(P:Cb)(Ek:XK)(elt:Expr)(n:Nat)(s:Yg):Prop:=Yy (Y4 P.Y.prog P.Y.w) P.Y.A (aH elt P.Y.env) (Ni P Ek n) P.Y.xe s
def cxA(P:Cb)(Ek:XK)(tg elt:Expr)(n:Nat)(u:Yd)(s:Yg):Prop:=Yy (Y4 P.Y.prog P.Y.w) P.Y.A (jw tg P.Y.env u) (λ_=>VL P Ek elt n) P.Y.xe s
def VN(P:Cb)(Ek:XK)(tg elt:Expr)(it:Yn)(n:Nat)(F:Yg->Prop)(r:Option Yd)(s:Yg):Prop:=match r with
 |none=>F s|some v=>Yy (Y4 P.Y.prog P.Y.w) P.Y.A (w6 tg (.ref it) v) (λ_=>cxA P Ek tg elt n v) P.Y.xe s
theorem gk.iff{H:Hp}{ι:List Yn}{Q:VK}{E:XK}{c:Prop}{dc:Decidable c}{r:R3 D}(h:gk K H ι Q E (if c then r else .bad)):c/\gk K H ι Q E r:=by
 by_cases hc:c
 .rw[if_pos hc]at h;exact⟨hc,h⟩
 .rw[if_neg hc]at h;exact h.elim
variable {P:Cb} {Ek:XK} {tg elt:Expr} {J:It} {it:Yn} {k:Nat} {h7:au} {σ:St} {H H':Hp} {s:Yg} {ι:List Yn} {M M1:Store} {env:Zt}
theorem ZsX(T:Turn P.Y.prog P.Y.w P.Y.K tg J P.fp it P.tn)(iM:P.tn (k+1) h7)(hlt:k<P.aD.items.length)(I':Inv P.Y ([]++pU P.fp h7) σ H s)(x:Ext P.Y.K P.H2 P.ι2 H ι)(S:ao P.Y.K H ι M)(E:bj P.Y.K H ι env σ)(hι:ι[P.nM]?=Ya P.acc)(h:gk P.Y.K H ι P.Q Ek (dF P.aD P.g [] P.f P.nM (P.aD.items.drop (k+1)) env M)):VJ P Ek (P.aD.items.length-k) s:=⟨P.aD.items.length-(k+1),by omega,⟨k+1,σ,H,ι,M,env,I'.zE,T.keep _ _ _ iM λb hb o e=>(I'.pin (b,o) (mD _ (mD _ (Bb hb e)))).1,λb hb=>(T.obj _ _ iM b hb).elim λo e=>(I'.pin (b,o) (mD _ (mD _ (Bb hb e.1)))).2.1,rfl,hlt,x,S,E,hι,h⟩⟩
theorem Zvc{xs:List D}{d:D}{v:V}{xv:Yd}(T:Turn P.Y.prog P.Y.w P.Y.K tg J P.fp it P.tn)(iM:P.tn (k+1) h7)(hlt:k<P.aD.items.length)(I':Inv P.Y ([]++pU P.fp h7) σ H s)(r:RelV v xv)(x:Ext P.Y.K P.H2 P.ι2 H ι)(S:ao P.Y.K H ι M)(E:bj P.Y.K H ι env σ)(rd:Rep P.Y.K H ι d v)(hι:ι[P.nM]?=Ya P.acc)(hm:M[P.nM]?=Ya (.lst xs))(hz:xs.length<SZ)(h:gk P.Y.K H ι P.Q Ek (dF P.aD P.g [] P.f P.nM (P.aD.items.drop (k+1)) env (M.set P.nM (.lst (xs++[d]))))):
  Ni P Ek (P.aD.items.length-k) xv s:=by
 obtain⟨vs,ev,rvs⟩:=S.obj _ _ _ hm hι;obtain⟨x11,U4⟩:=S.zJ (.inr (.inl ⟨_,ev⟩)) hι (rvs.append (Zx.cons rd Zx.nil));refine aG (Q':=λ_ s'=>VJ P Ek (P.aD.items.length-k) s') (Tp _ s σ H (.ref P.acc) [v] (.ref P.acc) [xv] (λ_ H'=>H'=upd H P.acc (.lst (vs++[v]))) I' rfl (.cons r .nil) ⟨_,vs,v,rfl,rfl,ev,by rw[rvs.length];exact Yo hz lU,rfl⟩) λ_ s11 ak=>?_;obtain⟨_,H11,G_,_,eH⟩:=ak;rw[eH]at G_;exact ZsX T iM hlt G_ (x.trans x11) U4 (E.mono x11) (x11.pre _ _ hι) (h.up x11)
theorem Zvh(T:Turn P.Y.prog P.Y.w P.Y.K tg J P.fp it P.tn)(helt:mX P.Y elt P.f)(hE:∀σ e C H',Ek (.ref C) (Ya e) H'->XW P.Y σ e C H')(iM:P.tn (k+1) h7)(hlt:k<P.aD.items.length)(I':Inv P.Y ([]++pU P.fp h7) σ H s)(x:Ext P.Y.K P.H2 P.ι2 H ι)(S:ao P.Y.K H ι M)(E:bj P.Y.K H ι env σ)(hι:ι[P.nM]?=Ya P.acc)(h:gk P.Y.K H ι P.Q Ek ((P.f env M).bind (HB P k env))):VL P Ek elt (P.aD.items.length-k) s:=by
 cases e10:P.f env M with
 |bad=>rw[e10]at h;exact h.elim|exc x1 yI=>rw[e10]at h;refine aG (Q':=Ni P Ek (P.aD.items.length-k)) (helt _ s σ H (λ_ _=>False) I' ⟨ι,M,env,S,E,by rw[e10];exactλa C H' ι' x1 S1 r1 c1 a' C' e1 e2=>by cases e1;cases e2;exact hE _ _ _ _ (h a C H' ι' x1 S1 r1 c1)⟩) λxv s10 ak=>?_;obtain⟨_,_,_,_,z⟩:=ak;exact z.elim
 | ok d yI=>
  rw[e10]at h;have h10:gk P.Y.K H ι P.Q Ek (HB P k env d yI):=h;refine aG (Q':=Ni P Ek (P.aD.items.length-k)) (helt _ s σ H (λv H'=>∃ul,Ext P.Y.K H ι H' ul/\ao P.Y.K H' ul yI/\Rep P.Y.K H' ul d v) I' ⟨ι,M,env,S,E,by rw[e10];exactλv H' ι' x' S' r'=>⟨ι',x',S',r'⟩⟩) λxv s10 ak=>?_;obtain⟨v,H10,U5,r10,ul,x10,U6,rd⟩:=ak;unfold HB at h10;cases hm:yI[P.nM]? with
  |none=>rw[hm]at h10;exact h10.elim|some o=>
   rw[hm]at h10;cases o with
   |dct _=>exact h10.elim|dj _=>exact h10.elim|ins _ _=>exact h10.elim|lst xs=>exact Zvc T iM hlt U5 r10 (x.trans x10) U6 (E.mono x10) rd (x10.pre _ _ hι) hm (gk.iff h10).1 ((gk.iff h10).2.up x10)
theorem ZxR(T:Turn P.Y.prog P.Y.w P.Y.K tg J P.fp it P.tn)(hc:P.Y.calm=true)(hfp:∀{H':Hp},(∀b∈P.fp,H' b=Yk)->∀b∈P.fp,gP P.Y [] H' b)(hg:CG P.Y tg P.g)(helt:mX P.Y elt P.f)(hE:∀σ e C H',Ek (.ref C) (Ya e) H'->XW P.Y σ e C H')(hlt:k<P.aD.items.length)(I5:Inv P.Y [] σ H s)(jb:P.tn k s.heap)(jQ:∀b∈P.fp,H b=Yk)(x:Ext P.Y.K P.H2 P.ι2 H ι)(S:ao P.Y.K H ι M)(E:bj P.Y.K H ι env σ)(hι:ι[P.nM]?=Ya P.acc)(ok:kI P.Y.K P.H2 P.ι2 P.aD J)(h:gk P.Y.K H ι P.Q Ek (dF P.aD P.g [] P.f P.nM (P.aD.items[k]::P.aD.items.drop (k+1)) env M))(F:Yg->Prop):
  Yy (Y4 P.Y.prog P.Y.w) P.Y.A (iu (.ref it)) (VN P Ek tg elt it (P.aD.items.length-k) F) P.Y.xe s:=by
 obtain⟨lk,h⟩:=gk.iff h;obtain⟨go,yl⟩:=(ok k H ι M x S lk).1 _ (Y5 hlt);cases eg:P.g P.aD.items[k] env with
 |none=>rw[eg]at h;exact h.elim|some zK=>rw[eg]at h;refine aG (T.item P.Y rfl rfl rfl hc k [] s σ H P.Y.xe I5 (hfp jQ) jb go) λr s6 ak=>?_;obtain⟨u,hr,h6⟩:=ak;rw[hr];refine aG (Q':=λ_=>cxA P Ek tg elt (P.aD.items.length-k) u) h6 λ_ s7 ak=>?_;obtain⟨y,H7,I7,r7,y7,iM,Hf⟩:=ak;obtain⟨e7,rx⟩:=yl y H7 y7;rw[e7]at I7 Hf;refine aG (Q':=λ_=>VL P Ek elt (P.aD.items.length-k)) (hg _ s7 σ H y u (λσ' H'=>H'=H/\bj P.Y.K H ι zK σ') (I7.pinned (hfp Hf) (T.obj _ _ iM)) r7 ⟨ι,M,env,_,zK,S,E,rx,eg,λσ' E'=>⟨rfl,E'⟩⟩) λ_ s8 ak=>?_;obtain⟨σ8,H8,I8,e8,E8⟩:=ak;rw[e8]at I8;have h:gk P.Y.K H ι P.Q Ek (cxB P k zK true M):=h;exact Zvh T helt hE iM hlt I8 x S E8 hι (ZxP▸h)
theorem ZrJ(T:Turn P.Y.prog P.Y.w P.Y.K tg J P.fp it P.tn)(hc:P.Y.calm=true)(hfp:∀{H':Hp},(∀b∈P.fp,H' b=Yk)->∀b∈P.fp,gP P.Y [] H' b)(I5:Inv P.Y [] σ H s)(jb:P.tn P.aD.items.length s.heap)(jQ:∀b∈P.fp,H b=Yk)(x:Ext P.Y.K P.H2 P.ι2 H ι)(S:ao P.Y.K H ι M)(hι:ι[P.nM]?=Ya P.acc)(ok:kI P.Y.K P.H2 P.ι2 P.aD J)(h:gk P.Y.K H ι P.Q Ek (dF P.aD P.g [] P.f P.nM [] env M)){F:Yg->Prop}(hF:∀s6,Inv P.Y [] σ H s6->P.Q (.ref P.acc) H->F s6):
  Yy (Y4 P.Y.prog P.Y.w) P.Y.A (iu (.ref it)) (VN P Ek tg elt it n F) P.Y.xe s:=by
 obtain⟨lk,h⟩:=gk.iff h;refine aG (T.done P.Y rfl rfl rfl hc _ [] s σ H P.Y.xe I5 (hfp jQ) jb ((ok _ H ι M x S lk).2 rfl)) λr s6 ak=>?_;rw[ak.1];exact hF s6 ak.2 (h _ H ι Ext.refl S (Rep.ref hι))
theorem ZrI{F:Yg->Prop}(T:Turn P.Y.prog P.Y.w P.Y.K tg J P.fp it P.tn)(hc:P.Y.calm=true)(hfp:∀{H':Hp},(∀b∈P.fp,H' b=Yk)->∀b∈P.fp,gP P.Y [] H' b)(hb:CG P.Y tg P.g/\mX P.Y elt P.f)(hE:∀σ e C H',Ek (.ref C) (Ya e) H'->XW P.Y σ e C H')(ok:kI P.Y.K P.H2 P.ι2 P.aD J)(z:VH P Ek n s)(fin:∀σ H s',Inv P.Y [] σ H s'->P.Q (.ref P.acc) H->F s'):Yy (Y4 P.Y.prog P.Y.w) P.Y.A (iu (.ref it)) (VN P Ek tg elt it n F) P.Y.xe s:=by
 obtain⟨k,σ5,H5,ι5,M5,wW,I5,jb,jQ,hn,hk,x5,S5,E5,hι,h5⟩:=z;by_cases hlt:k<P.aD.items.length
 .rw[xJ hlt]at h5;exact hn▸ZxR T hc hfp hb.1 hb.2 hE hlt I5 jb jQ x5 S5 E5 hι ok h5 _
 .rw[iw hk (pP hlt)]at jb h5;rw[Fj]at h5;exact ZrJ T hc hfp I5 jb jQ x5 S5 hι ok h5 λs6 I6 q=>fin σ5 H5 s6 I6 q
end
theorem Zgc{h h' base:au}:∀{l:List cQ},(∀b∈frs l,∀o,h.get? b=Ya o->(∀vs,o.data≠ .fields vs)->∃o',h'.get? b=Ya o'/\o'.data=o.data)->h.FunFrames base l->h'.FunFrames base l
 |[],_,_=>trivial|env::r,k,hl=>by obtain⟨hk,⟨L,o,hf,hn,ho,hd⟩,hr⟩:=hl;obtain⟨o',ho',hd'⟩:=k L (xO.mpr ⟨env,.head _,hf⟩) o ho hd;refine⟨hk,⟨L,o',hf,hn,ho',λvs z=>hd vs (hd'▸z)⟩,Zgc (λb hb=>k b ?_) hr⟩;obtain⟨e,h1,h2⟩:=xO.mp hb;exact xO.mpr ⟨e,.tail _ h1,h2⟩
section
variable {X:Cx} {elt tg iter:Expr} {scope:Scope} {pos:aP} {i:I3} {own:Nat} {g:G3} {f:E3} {N':List aj}
noncomputable abbrev Nj(X:Cx)(scope:Scope)(cl:List (aj×Yn))(C:Yn)(RR:pI->Yg->Prop):Yd->Yg->Prop:=zW (Y4 X.prog X.w) X.A (uQ scope cl C X.env) λx s'=>RR (.error x) s'
noncomputable abbrev yR(X:Cx)(scope:Scope)(N':List aj)(C:Yn)(cl:List (aj×Yn))(s:Yg)(H:Hp)(ex:List Yn)(E:Yd->Yg->Prop):Cx:=(kW X scope N' C cl s H ex).wish E
theorem Zsx{σ':St}{s3:Yg}{H3 H':Hp}{fp:List Yn}{cl:List (aj×Yn)}{e Ca:Yn}{u:Yd->lu Unit}{Qp:Yd->Yg->Prop}{acc:Yd}(I3:Inv X pins σ H3 s3)(ig:∀b∈fp,gP X pins H3 b)(hst:X.stack=X.env::X.outer)(hfr:X.env.frame=Ya X.env.locals)(hX:XW X σ e Ca H'):
  XW (yR X scope N' s3.heap.objs.size cl s3 H3 fp (Nj X scope cl s3.heap.objs.size (sI (Y4 X.prog X.w) X.A X.xe (Ya u) Qp acc s3.heap.objs.size))) σ' e Ca H':=by
 intro qw s' J Hs;obtain⟨he,B,fl,cv,_⟩:=Hs;have J0:=Inv.zE (pins:=[]) (pl:=qw) J;have Vx:qb B (X.env::X.outer) e Ca s'.heap:=by rw[←hst];exact fl
 have P0:X.A.frames=Ya (X.env::X.outer):=by rw[←hst];exact I3.ok.frames
 show Yy (Y4 X.prog X.w) X.A (pH (.ref e) (uQ scope cl s3.heap.objs.size X.env)) _ _ s';rw[Zj6 (env:=uQ scope cl s3.heap.objs.size X.env) (env':=X.env) rfl];refine Zqe P0 hfr Vx λh4 a0 held Hu=>?_;have J4:=Nb J0 he fl.stays cv (λp hp=>absurd (show p∈([]:List (Yn×aB))from hp) (by simp)) held.1 Hu (Cp.Hq ⟨held.1,held.2.1,held.2.2.1,_,held.2.2.2⟩);obtain⟨m,hn,_⟩:=id J4.loc;refine⟨m,hn,λh5 sb cenv' _=>?_⟩;have I4:Inv X pins σ H' {s' with heap:=h4}:=I3.call' (ch:=fp) J4.os J4.base J4.hok J4.bare λb hb=>⟨(ig b hb).2.2.2.1,(ig b hb).2.1,(ig b hb).2.2.2.2.1,(ig b hb).2.2.2.2.2⟩;have fC:gP X pins H' s3.heap.objs.size:=I3.uJ (Yl _) J4.free;have I5:Inv X pins σ H' {s' with heap:=h5}:=I4.turned (t':=s'.toks) (λb o hb e=>(sb.2 b hb).trans e) fC.1 fC.2.1 fC.2.2.2.1 fC.2.2.2.2.1 fC.2.2.2.2.2;obtain⟨f1,f2,f3,oe,vs,T,oT,ts,he4,hcl,hd,h1,hnT,hTe,hT,hdT,h3⟩:=held;have hsz:3<ts.size:=(Kp.mp h3).1;have eC:e≠s3.heap.objs.size:=λz=>by rw[z,fC.1]at he;cases he
 have TC:T≠s3.heap.objs.size:=λz=>by obtain⟨o,es,ep,ho,hd',_⟩:=hn;have ho:h4.get? s3.heap.objs.size=Ya o:=ho;rw[←z,hT]at ho;cases ho;rw[hdT]at hd';cases hd'
 have VP:h5.get? e=Ya oe:=(sb.2 e eC).trans he4;have hT5:h5.get? T=Ya oT:=(sb.2 T TC).trans hT;have k1:(nA B [s3.heap.objs.size]).StaysIn B:=λb o q=>JL _ q;have kC:∀{b o},(nA B [s3.heap.objs.size]).get? b=Ya o->b≠s3.heap.objs.size:=λ{b o} q z=>by rw[z,Yis _ (by simp)]at q;cases q
 have kN:∀{b},B.get? b=Yk->(nA B [s3.heap.objs.size]).get? b=Yk:=λ{b} q=>by
  cases z:(nA B [s3.heap.objs.size]).get? b with
  |none=>rfl|some o=>rw[k1 b o z]at q;cases q
 have kS:∀{b o},s3.heap.get? b=Ya o->b≠s3.heap.objs.size:=λ{b o} q=>Y6 (Yp q);have kB:∀{b o},B.get? b=Ya o->b≠s3.heap.objs.size->(nA B [s3.heap.objs.size]).get? b=Ya o:=λ{b o} q z=>zY _ q (by simpa using z);have nfp:∀{b o},X.s₀.heap.get? b=Ya o->b∉X.ex->b∉fp:=λ{b o} q hx hb=>by
  rcases(ig b hb).2.2.2.1 with z|z
  .exact hx z
  .exact absurd (Yo (Yp q) z) (pQ _)
 have hpn:∀p∈X.pn++pins,(nA B [s3.heap.objs.size]).get? p.1=Ya p.2:=λp hp=>by obtain⟨e1,n1,ne1,nf1,_⟩:=I3.pin p hp;exact kB (cv.old p.1 p.2 e1 n1 (λz=>(fj.mp (I3.uG p.1 z)).elim ne1 nf1) λz=>(ig p.1 z).2.2.2.2.2 p hp rfl) (kS e1)
 have cov:v8 (nA B [s3.heap.objs.size]) X.fs X.ex X.H₀ X.s₀.heap H' e:=⟨λb hb hne=>by
   obtain⟨o,ho⟩:=cv.vA b hb hne;exact⟨o,kB ho λz=>hb (by rw[z];exact fC.1)⟩,
  λb o q n hb hx=>by have q3:=I3.base.keep b o q n hb hx;exact kB (cv.old b o q3 (I3.base.free b o q n hx) (Cq I3 q hb) (nfp q hx)) (kS q3),
  λb o q hb hx=>by obtain⟨o1,q1⟩:=I3.base.there b o q hx;obtain⟨o2,q2⟩:=cv.there b o1 q1 (Cq I3 q hb) (nfp q hx);exact⟨o2,kB q2 (kS q1)⟩⟩
 have sB:(nA B [s3.heap.objs.size]).StaysIn h5:=λb o q=>(sb.2 b (kC q)).trans (f1 b o (k1 b o q));have key:∀fv:Yd,X.xe (.ref e) {s' with heap:=h5.update T (FJ (·.setIfInBounds 3 fv))}:=λfv=>by
  have other:∀b,b≠T->(h5.update T (FJ (·.setIfInBounds 3 fv))).get? b=h5.get? b:=λb hb=>J1 _ _ (bK hb);have sB6:(nA B [s3.heap.objs.size]).StaysIn (h5.update T (FJ (·.setIfInBounds 3 fv))):=λb o q=>(other b λz=>by rw[z,kN hnT]at q;cases q).trans (sB b o q);have nT:∀b o,h5.get? b=Ya o->(∀vs,o.data≠ .fields vs)->b≠T:=λb o q hnf z=>by rw[z,hT5]at q;cases q;exact hnf ts hdT
  have fa:Cp (nA B [s3.heap.objs.size]) X.stack e Ca a0 (h5.update T (FJ (·.setIfInBounds 3 fv))):=by
   refine⟨sB6,kN f2,?_,fv,oe,vs,T,_,_,(other e (bK hTe)).trans VP,hcl,hd,h1,kN hnT,hTe,Rg _ hT5 (Yim (Kz hdT _)),Kz hdT _,by simp[hsz]⟩;rw[hst];refine Zgc (λb hb o q hnf=>⟨o,?_,rfl⟩) (PySem.W.funFrames_base k1 f3);have bC:b≠s3.heap.objs.size:=λz=>by
    rw[←hst]at hb;rcases fj.mp (I3.uG b hb)with r|r
    .exact fC.2.1 (z▸r)
    .exact fC.2.2.1 (z▸r)
   have q5:=(sb.2 b bC).trans q;exact(other b (nT b o q5 hnf)).trans q5
  exact hX pins _ (Nb (s:={s' with heap:=h5}) I5 he sB cov hpn sB6 (λb o q hnf=>⟨o.slots,(other b (nT b o q hnf)).trans q⟩) fa.Hq) ⟨he,_,⟨a0,.inl fa⟩,cov,λp hp=>hpn p (z8 _ hp)⟩
 unfold PySem.passOn;refine Yb (e_ VP hd h1 ?_);rw[if_neg (show¬((Value.ref T==Value.none)=true)from by simp)];have ZC:Yy (Y4 X.prog X.w) X.A (setFlight (.ref e) cenv'.frame) (λ_ s6=>X.xe (.ref e) s6) X.xe {s' with heap:=h5}:=by unfold setFlight;refine Yb (e_ VP hd h1 ?_);rw[if_pos (show(Value.ref T !=Value.none)=true from by simp)];exact Jv hT5 hdT hsz (key _)
 first
  |exact Yb (Yi (Yb (fc ZC (λ_ _ q=>QF q) λ_ _ q=>q)))|exact Yb (fc ZC (λ_ _ q=>QF q) λ_ _ q=>q)
theorem Zl4{s2:Yg}{H2:Hp}{ι2:List Yn}{M2:Store}{env:Zt}{fp:List Yn}{tn:Nat->au->Prop}{J:It}{aD:gD}{Q:VK}{E:Yd->Yg->Prop}{u:Yd->lu Unit}{Qp:Yd->Yg->Prop}(O:yJ X scope N' own)(hc:X.calm=true)(hst:X.stack=X.env::X.outer)(hfr:X.env.frame=Ya X.env.locals)(hb:∀C cl s H ex E,CG (yR X scope N' C cl s H ex E) tg g/\mX (yR X scope N' C cl s H ex E) elt f)(I2:Inv X pins σ H2 s2)(T:Turn X.prog X.w X.K tg J fp it tn)(st0:tn 0 s2.heap)(hfp:∀b∈fp,gP X pins H2 b)(S2:ao X.K H2 ι2 M2)(E2:bj X.K H2 ι2 env σ)(ok:kI X.K H2 ι2 aD J)(h:gk X.K H2 ι2 Q (EX X σ) (dF aD g [] f M2.length aD.items (env++Yh own Yk) (M2++[.lst []])))(fin:∀(acc C:Yn) (s':Yg) (m:aj->Option Yd) (H':Hp),s'.heap.Ns C m->gP X pins H' C->Inv X pins σ H' s'->Q (.ref acc) H'->sI (Y4 X.prog X.w) X.A X.xe (Ya u) Qp (.ref acc) C (.ok .next) s'):
  Yy (Y4 X.prog X.w) X.A (JK []) (λacc s₃=>Yy (Y4 X.prog X.w) X.A (Qv scope X.env.globals (gY X.env.cells scope.names []) [] X.env.qual Yk .none (Ya X.env)) (λcenv s₄=>jM (Y4 X.prog X.w) X.A (.compStart (.ListComp elt [⟨tg,iter,[],0⟩] scope pos) 0 (.ref it) acc {cenv with scope:=uT scope X.env}) (sI (Y4 X.prog X.w) X.A X.xe (Ya u) Qp acc cenv.locals) s₄) E s₃) E s2:=by
 refine oH ?_;have hD:H2 s2.heap.objs.size=Yk:=I2.hok.fresh (Yl _);obtain⟨x3,S3,r3⟩:=S2.lst hD (Zx.nil (K:=X.K) (H:=H2) (ι:=ι2));have I3:Inv X pins σ (upd H2 s2.heap.objs.size (.lst [])) {s2 with heap:=s2.heap.push {cls:=.type "list",data:=.seq ([]:List Yd).toArray}}:=I2.laid (t':=s2.toks) (λb u e=>Yj _ e) (Yl _) ⟨eN _,[],0,.nil,Y0 _ rfl⟩;have sE:∀b o,s2.heap.get? b=Ya o->(s2.heap.push {cls:=.type "list",data:=.seq ([]:List Yd).toArray}).get? b=Ya o:=λb o e=>Yj _ e;generalize hs3:({s2 with heap:=s2.heap.push {cls:=.type "list",data:=.seq ([]:List Yd).toArray}}:Yg)=s3 at I3 ⊢;have sE:∀b o,s2.heap.get? b=Ya o->s3.heap.get? b=Ya o:=by rw[←hs3];exact sE
 have U7:∀b∈fp,b<s2.heap.objs.size:=λb hb=>(T.obj _ _ st0 b hb).elim λo e=>Yp e.1;have uM:∀b∈fp,b<s3.heap.objs.size:=λb hb=>(T.obj _ _ st0 b hb).elim λo e=>Yp (sE b o e.1);have ig:∀b∈fp,gP X pins (upd H2 s2.heap.objs.size (.lst [])) b:=λb hb=>⟨(dg (Y6 (U7 b hb))).trans (hfp b hb).1,(hfp b hb).2⟩;have st3:tn 0 s3.heap:=T.keep _ _ _ st0 λb hb o e=>sE b o e;have h:=gk.up x3 h;have hι:(ι2++[s2.heap.objs.size])[M2.length]?=Ya s2.heap.objs.size:=by rw[←S2.len];simp
 generalize upd H2 s2.heap.objs.size (.lst [])=H3 at I3 x3 S3 r3 ig h;refine Yix O.cell (by intro y hy;cases hy) (λh4 hns hsb=>?_) O.kind;have En:∀b o,s3.heap.get? b=Ya o->h4.get? b=Ya o:=λb o e=>hsb.extBut b o (Y6 (Yp e)) (Yj _ e);have I4:=(Zlb (own:=own) (N':=N') (tk:=s3.toks+([]:List (aj×Yd)).length) I3 O.kind O.cell O.free O.len O.vis ig uM hns En).wish (Nj X scope (gY X.env.cells scope.names []) s3.heap.objs.size (sI (Y4 X.prog X.w) X.A X.xe (Ya u) Qp (.ref s2.heap.objs.size) s3.heap.objs.size));have Hg:tn 0 h4:=T.keep _ _ _ st3 λb hb o e=>En b o e;have L:=Zjf (prog:=X.prog) (w:=X.w) (A:=X.A) (R:=sI (Y4 X.prog X.w) X.A X.xe (Ya u) Qp (.ref s2.heap.objs.size) s3.heap.objs.size) (scope:=scope) (pos:=pos) (iter:=iter) (elt:=elt) (target:=tg) (env:=uQ scope (gY X.env.cells scope.names []) s3.heap.objs.size X.env)
  (VH ⟨yR X scope N' s3.heap.objs.size (gY X.env.cells scope.names []) s3 H3 fp (Nj X scope (gY X.env.cells scope.names []) s3.heap.objs.size (sI (Y4 X.prog X.w) X.A X.xe (Ya u) Qp (.ref s2.heap.objs.size) s3.heap.objs.size)),fp,tn,aD,H2,ι2,Q,g,[],f,M2.length,s2.heap.objs.size⟩ (EX X σ))
  (λn s5 z=>ZrI (P:=⟨yR X scope N' s3.heap.objs.size (gY X.env.cells scope.names []) s3 H3 fp (Nj X scope (gY X.env.cells scope.names []) s3.heap.objs.size (sI (Y4 X.prog X.w) X.A X.xe (Ya u) Qp (.ref s2.heap.objs.size) s3.heap.objs.size)),fp,tn,aD,H2,ι2,Q,g,[],f,M2.length,s2.heap.objs.size⟩) (Ek:=EX X σ) T hc
  (λhn b hb=>⟨hn b hb,Y6 (uM b hb),λhz=>I4.ok.uI b hb hz,.inl hb,λx c hx=>(I4.ok.A_ b hb).2 x c hx,λp hp=>absurd (show p∈([]:List (Yn×aB))from hp) (by simp)⟩)
  (hb _ _ _ _ _ _) (λσ' e C H' q=>Zsx I3 ig hst hfr (q e C rfl rfl)) ok z
  λσ' H' s6 I6 q=>I6.loc.elim λm6 Hh=>fin _ _ s6 m6 H' Hh.1 (I3.uJ (Yl _) I6.free) (I3.call' (ch:=fp) I6.os I6.base I6.hok I6.bare λb hb=>⟨(ig b hb).2.2.2.1,(ig b hb).2.1,(ig b hb).2.2.2.2.1,(ig b hb).2.2.2.2.2⟩) q) _
  ⟨0,_,_,_,_,_,I4,Hg,λb hb=>(ig b hb).1,rfl,eN _,x3,S3,(E2.mono x3).grow own,hι,h⟩
 exact Yhu L (T.self _ 0 _ _ _ Hg L)
theorem Zo2{any:Bool}(j:Nat){x:aj}{pos' spos:aP}(O:yJ X scope N' own)(hc:X.calm=true)(hN:X.N.Nodup)(hi:CI X tg iter i)(hb:∀C cl s H ex E,CG (yR X scope N' C cl s H ex E) tg g/\mX (yR X scope N' C cl s H ex E) elt f)(hst:X.stack=X.env::X.outer:=by rfl)(hfr:X.env.frame=Ya X.env.locals:=by rfl)(hj:X.N[j]?=Ya x:=by rfl)(hx:Loc X.env.scope x:=by first|exact Or.inl rfl|exact Or.inr rfl)(hf:X.fn x=true\/X.env.scope.names.lookup x=Ya .local:=by first|exact .inl rfl|exact .inr rfl)(hsw:nq (.ListComp elt [⟨tg,iter,[],0⟩] scope pos) (Ya (.Name x pos')) spos.line X.env=pure true:=by rfl)(hs:∀x,wY iter X.env x=pure x:=by intro _;rfl):ph X any (.Assign [.Name x pos'] (.ListComp elt [⟨tg,iter,[],0⟩] scope pos) spos) (aJ j (vR i own g f)):=by
 intro pins s σ H D I h;obtain⟨ι,M,env,S,E,h⟩:=h;have h0:gk X.K H ι (λv H'=>D.nx (σ.set j (Ya v)) H') (EX X σ) (vR i own g f env M):=by
  unfold aJ at h;cases q:vR i own g f env M with
  |ok d M1=>rw[q]at h;exactλv H1 ι1 x1 S1 r1=>h _ H1 ι1 x1 S1 ((E.mono x1).set j r1)|exc x M1=>rw[q]at h;exactλa C H' ι' x1 S1 r1 c1 a' C' e1 e2=>by cases e1;cases e2;exact h σ a C H' ι' (λ_=>rfl) x1 S1 r1 c1|bad=>rw[q]at h;exact h.elim
 unfold vR at h0;cases e1:i env M with
 |bad=>rw[e1]at h0;exact h0.elim|exc _ _=>rw[e1]at h0;exact h0.elim|ok aD M1=>
  rw[e1]at h0;have hc0:∀y∈scope.names,y.2= .free->∃c,X.env.cells.lookup y.1=Ya c:=λy hy e=>I.ok.has y.1 (O.free y hy e);rw[Yig _ _ _ _ hsw];refine Yb (EY (Yb ?_));show Yy _ X.A (do let _ ←comprehension (.ListComp elt [⟨tg,iter,[],0⟩] scope pos) scope X.env _ (JK []) false (aH iter X.env) (Ya (jw (.Name x pos') X.env))) _ _ s;refine Yb (fc (Qi (use:=Ya (jw (.Name x pos') X.env)) (Q:=λ_ s'=>SP X pins D .next s') rfl hs (UL hc0) O.kind O.names ?_) (λ_ s' hq=>Yi (Yi hq)) λ_ _ e=>e);refine aG (hi pins s σ H (λJ H'=>∃ι',Ext X.K H ι H' ι'/\ao X.K H' ι' M1/\kI X.K H' ι' aD J) I ⟨ι,M,env,S,E,by rw[e1];exactλJ H' ι' x S' o=>⟨ι',x,S',o⟩⟩) λv s1 h1'=>aG h1' λitv s2 h2=>?_;obtain⟨it,fp,tn,J,H2,rfl,I2,T,st2,f2,ι2,x2,S2,ok⟩:=h2;refine Zl4 (own:=own) (g:=g) (f:=f) O hc hst hfr hb I2 T st2 f2 S2 (E.mono x2) ok (h0.up x2) ?_;intro acc C s' m H' hn U8 I' hq;obtain⟨f0,f1,f2',f3,f4,f5⟩:=U8;show Yy _ X.A (jw (.Name x pos') X.env (.ref acc)) _ _ s';refine Qn (Su I' hN hj hx (show RelV (.ref acc) (.ref acc)from rfl) (λs'' U9 ⟨a,sb,ha⟩=>?_) hf);have U_:C≠a:=by
   rcases ha with rfl|ha
   .exact f1
   .exact bK (f4 x a ha)
  exact⟨m,hn.sameBut sb U_,λh' Va=>⟨_,H',U9.turned (t':=s''.toks) (λb o hb e=>(Va.2 b hb).trans e) f0 f1 f3 f4 f5,hq⟩⟩
end
end L3
set_option maxHeartbeats 400000
namespace Law
open PySem L3
noncomputable section
def uq:uf:=[([97,100,100],2),([115,117,98],2),([109,111,114,101],2),([99,101,108,108],1)]
def VR:S3:=Zu (aQ (e2 bI (Zb 0) (eC (.str [97,100,100]))) (cU (e2 aK (Zb 1) (Zb 2))) (gR)) (Zu (aQ (e2 bI (Zb 0) (eC (.str [115,117,98]))) (cU (e2 iI (Zb 1) (Zb 2))) (gR)) (cU (yd (e2 dD (Zb 1) (Zb 2)) (eC (.int 1)) (eC (.int 0)))))
def Nk:F3:=bG 3 3 VR
def V0:S3:=Zu (aJ 1 (bV (Ze))) (Zu (aJ 2 (eC (.int 0))) (Zu (tZ (mR (Zb 0)) (bF 3) (Zu (aQ (e2 bI (Zb 2) (eC (.int 0))) (Zu (Zr (aN aY bL (Zb 1) (Za (bV (Ze)) (Ze)))) (aJ 2 (eC (.int 1)))) (gR)) (Zu (Zr (aN aY bL (e2 Zk (Zb 1) (e1 jn (eC (.int 1)))) (Za (Zb 3) (Ze)))) (aJ 2 (e2 aK (e2 iI (Zb 2) (eC (.int 1))) (e2 (BP uq) (Zb 3) (eC (.int 0)))))))) (cU (yd (e2 bI (Zb 2) (eC (.int 0))) (mV (mR (Zb 1)) 1 (bF 4) [] (aO mQ (Za (Zb 4) (Ze)))) (eC .non)))))
def Nm:F3:=bG 1 4 V0
def V1:S3:=cU (Zw Nm (Za (yj (Zb 0) (vJ (eC (.int 1))) (yh)) (Ze)))
def yS:F3:=bG 1 1 V1
def V2:S3:=Zu (yC [87,97,108,107] [110,97,109,101,100] (Zb 0) (Zb 1)) (Zu (yC [87,97,108,107] [99,101,108,108,115] (Zb 0) (T5)) (Zu (yC [87,97,108,107] [110,117,109,98,101,114,115] (Zb 0) (bV (Ze))) (Zu (yC [87,97,108,107] [115,116,101,112,115] (Zb 0) (eC (.int 0))) (yC [87,97,108,107] [109,111,115,116] (Zb 0) (Zb 2)))))
def yU:F3:=bG 3 3 V2
def Np:S3:=Zu (gW (yC [87,97,108,107] [115,116,101,112,115] (Zb 0) (e2 aK (e1 (jW [87,97,108,107] [115,116,101,112,115]) (Zb 0)) (Zb 1)))) (aQ (bf (e2 dD (e1 (jW [87,97,108,107] [115,116,101,112,115]) (Zb 0)) (e1 (jW [87,97,108,107] [109,111,115,116]) (Zb 0)))) (BK [83,112,101,110,116] (Za (eC (.str [116,104,101,114,101,32,97,114,101,32,109,111,114,101,32,115,116,101,112,115,32,116,104,97,110,32,116,104,101,32,98,111,117,110,100])) (Ze))) (gW (gR)))
def gM:F3:=bG 2 2 Np
def wg(rec:Nat->F3):S3:=Zu (aJ 2 (vR (mR (Zw yS (Za (Zb 1) (Ze)))) 1 (bF 3) (bN [87,97,108,107] [118,97,108,117,101,95,111,102] (rec 0) (bf (Zb 0)) (bJ (Za (Zb 3) (Ze)))))) (Zu (aQ (bf (e2 bI (aO bW (Za (Zb 2) (Ze))) (eC (.int 2)))) (Zu (Zr (bN [87,97,108,107] [115,112,101,110,100] gM (bf (Zb 0)) (bJ (Za (eC (.int 1)) (Ze))))) (gW (cU (Zw Nk (Za (e2 Zk (Zb 1) (eC (.int 0))) (Za (e2 Zk (Zb 2) (eC (.int 0))) (Za (e2 Zk (Zb 2) (eC (.int 1))) (Ze)))))))) (gW (gR))) (Zu (aQ (bf (e2 bI (aO bW (Za (Zb 2) (Ze))) (eC (.int 1)))) (Zu (Zr (bN [87,97,108,107] [115,112,101,110,100] gM (bf (Zb 0)) (bJ (Za (eC (.int 2)) (Ze))))) (gW (cU (aN qZ pZ (e1 (jW [87,97,108,107] [99,101,108,108,115]) (Zb 0)) (Za (e2 Zk (Zb 2) (eC (.int 0))) (Za (eC (.int 0)) (Ze))))))) (gW (gR))) (Zu (aQ (bf (e1 (jd .int) (e2 Zk (Zb 1) (eC (.int 0))))) (Zu (Zr (bN [87,97,108,107] [115,112,101,110,100] gM (bf (Zb 0)) (bJ (Za (eC (.int 1)) (Ze))))) (gW (cU (e2 Zk (Zb 1) (eC (.int 0)))))) (gW (gR))) (Zu (Zr (bN [87,97,108,107] [115,112,101,110,100] gM (bf (Zb 0)) (bJ (Za (eC (.int 2)) (Ze))))) (gW (cU (aN qZ pZ (e1 (jW [87,97,108,107] [110,97,109,101,100]) (Zb 0)) (Za (e2 Zk (Zb 1) (eC (.int 0))) (Za (eC (.int 0)) (Ze))))))))))
def Nq:Nat->Nat->F3
 |0,0=>bG 2 3 vL|n+1,0=>bG 2 3 (wg (Nq n))|_,_=>λ_ _=>.bad
def rN:F3:=Nq 13 0
def HD:S3:=Zu (aJ 2 (bN [87,97,108,107] [118,97,108,117,101,95,111,102] rN (bf (Zb 0)) (bJ (Za (Zb 1) (Ze))))) (Zu (Zr (bN [87,97,108,107] [115,112,101,110,100] gM (bf (Zb 0)) (bJ (Za (eC (.int 1)) (Ze))))) (gW (cU (e2 dD (Zb 2) (eC (.int 0))))))
def yV:F3:=bG 2 3 HD
def Nr(rec:Nat->F3):S3:=Zu (yt (bN [87,97,108,107] [105,115,95,97,98,111,118,101] yV (bf (Zb 0)) (bJ (Za (e2 Zk (Zb 1) (eC (.int 1))) (Ze)))) (Zu (Zr (bN [87,97,108,107] [103,111,95,116,104,114,111,117,103,104] (rec 0) (bf (Zb 0)) (bJ (Za (e2 Zk (Zb 1) (eC (.int 2))) (Ze))))) (Zr (bN [87,97,108,107] [115,112,101,110,100] gM (bf (Zb 0)) (bJ (Za (eC (.int 1)) (Ze))))))) (Zr (bN [87,97,108,107] [115,112,101,110,100] gM (bf (Zb 0)) (bJ (Za (eC (.int 1)) (Ze)))))
def mY(rec:Nat->F3):S3:=aQ (bf (e2 bI (e2 Zk (Zb 1) (eC (.int 0))) (eC (.str [119,104,101,110])))) (Zr (bN [87,97,108,107] [99,104,111,111,115,101] (rec 2) (bf (Zb 0)) (bJ (Za (Zb 1) (Ze))))) (aQ (bf (e2 bI (e2 Zk (Zb 1) (eC (.int 0))) (eC (.str [119,104,105,108,101])))) (Zr (bN [87,97,108,107] [114,101,112,101,97,116] (rec 3) (bf (Zb 0)) (bJ (Za (Zb 1) (Ze))))) (aQ (bf (e2 bI (e2 Zk (Zb 1) (eC (.int 0))) (eC (.str [112,117,116])))) (Zu (aJ 2 (bN [87,97,108,107] [118,97,108,117,101,95,111,102] rN (bf (Zb 0)) (bJ (Za (e2 Zk (Zb 1) (eC (.int 1))) (Ze))))) (Zu (vQ (e1 (jW [87,97,108,107] [99,101,108,108,115]) (Zb 0)) (Zb 2) (bN [87,97,108,107] [118,97,108,117,101,95,111,102] rN (bf (Zb 0)) (bJ (Za (e2 Zk (Zb 1) (eC (.int 2))) (Ze))))) (Zr (bN [87,97,108,107] [115,112,101,110,100] gM (bf (Zb 0)) (bJ (Za (eC (.int 2)) (Ze))))))) (aQ (bf (e2 bI (e2 Zk (Zb 1) (eC (.int 0))) (eC (.str [115,101,116])))) (Zu (vQ (e1 (jW [87,97,108,107] [110,97,109,101,100]) (Zb 0)) (e2 Zk (Zb 1) (eC (.int 1))) (bN [87,97,108,107] [118,97,108,117,101,95,111,102] rN (bf (Zb 0)) (bJ (Za (e2 Zk (Zb 1) (eC (.int 2))) (Ze))))) (Zr (bN [87,97,108,107] [115,112,101,110,100] gM (bf (Zb 0)) (bJ (Za (eC (.int 2)) (Ze)))))) (Zu (Zr (yD (e1 (jW [87,97,108,107] [110,117,109,98,101,114,115]) (Zb 0)) (bN [87,97,108,107] [118,97,108,117,101,95,111,102] rN (bf (Zb 0)) (bJ (Za (e2 Zk (Zb 1) (eC (.int 1))) (Ze)))))) (Zr (bN [87,97,108,107] [115,112,101,110,100] gM (bf (Zb 0)) (bJ (Za (eC (.int 1)) (Ze)))))))))
def HF(rec:Nat->F3):S3:=aQ (bN [87,97,108,107] [105,115,95,97,98,111,118,101] yV (bf (Zb 0)) (bJ (Za (e2 Zk (Zb 1) (eC (.int 1))) (Ze)))) (Zr (bN [87,97,108,107] [103,111,95,116,104,114,111,117,103,104] (rec 0) (bf (Zb 0)) (bJ (Za (e2 Zk (Zb 1) (eC (.int 2))) (Ze))))) (Zu (Zr (bN [87,97,108,107] [103,111,95,116,104,114,111,117,103,104] (rec 0) (bf (Zb 0)) (bJ (Za (e2 Zk (Zb 1) (eC (.int 3))) (Ze))))) (Zr (bN [87,97,108,107] [115,112,101,110,100] gM (bf (Zb 0)) (bJ (Za (eC (.int 1)) (Ze))))))
def Nt(rec:Nat->F3):S3:=GP (mR (Zb 1)) (bF 2) (Zr (bN [87,97,108,107] [100,111,95,100,101,101,100] (rec 1) (bf (Zb 0)) (bJ (Za (Zb 2) (Ze)))))
def Zj:Nat->Nat->F3
 |0,0=>bG 2 3 vL|0,1=>bG 2 3 vL|0,2=>bG 2 2 vL|0,3=>bG 2 2 vL
 |n+1,0=>bG 2 3 (Nt (Zj n))|n+1,1=>bG 2 3 (mY (Zj n))|n+1,2=>bG 2 2 (HF (Zj n))|n+1,3=>bG 2 2 (Nr (Zj n))
 |_,_=>λ_ _=>.bad
def Nu:F3:=Zj 13 0
def V3:S3:=aQ (bf (e2 Gr (aO bW (Za (Zb 1) (Ze))) (aO bW (Za (e2 Zk (Zb 0) (eC (.int 0))) (Ze))))) (BK [66,97,100,71,105,118,101,110] (Za (eC (.str [116,104,101,32,103,105,118,101,110,115,32,97,114,101,32,110,111,116,32,97,115,32,109,97,110,121,32,97,115,32,116,104,101,32,110,97,109,101,115,32,116,97,107,101,110])) (Ze))) (gW (gR))
def HJ:F3:=bG 2 2 V3
def HN:S3:=Zu (Zr (Zw HJ (bJ (Za (Zb 0) (Za (Zb 1) (Ze)))))) (Zu (gW (aJ 3 (GJ [87,97,108,107] yU (Za (BR (e2 Zk (Zb 0) (eC (.int 0))) (Zb 1)) (Za (Zb 2) (Ze)))))) (Zu (Zr (bN [87,97,108,107] [115,112,101,110,100] gM (bf (Zb 3)) (bJ (Za (e2 eO (eC (.int 2)) (aO bW (Za (Zb 1) (Ze)))) (Ze))))) (Zu (Zr (bN [87,97,108,107] [103,111,95,116,104,114,111,117,103,104] Nu (bf (Zb 3)) (bJ (Za (e2 Zk (Zb 0) (eC (.int 1))) (Ze))))) (gW (cU (cu (Za (e1 (jW [87,97,108,107] [110,117,109,98,101,114,115]) (Zb 3)) (Za (e1 (jW [87,97,108,107] [115,116,101,112,115]) (Zb 3)) (Ze)))))))))
def ur:F3:=bG 3 4 HN
def V4:S3:=Zu (aJ 2 (eC (.int 0))) (Zu (aQ (e2 dD (aO bW (Za (Zb 0) (Ze))) (eC (.int 0))) (aJ 2 (e2 aW (e2 Zk (Zb 0) (e2 aW (Zb 1) (aO bW (Za (Zb 0) (Ze))))) (eC (.int 2147483629)))) (gR)) (Zu (aJ 3 (e2 aW (e2 eO (e2 aK (e2 aK (Zb 2) (eC (.int 3))) (e2 eO (eC (.int 86243)) (e2 d9 (Zb 1) (aO Bx (Za (eC (.int 1)) (Za (aO bW (Za (Zb 0) (Ze))) (Ze))))))) (eC (.int 69621))) (eC (.int 2147483629)))) (cU (e2 aW (e2 eO (Zb 3) (Zb 3)) (eC (.int 2147483587))))))
def eY:F3:=bG 2 4 V4
def V5:S3:=Zu (aJ 2 (eC (.str [97,98,99,100,101,102,103,104,105,106,107,108,109,110,111,112,113,114,115,116,117,118,119,120,121,122]))) (Zu (aJ 3 (e2 Zk (Zb 2) (e2 aW (Zw eY (Za (Zb 0) (Za (eC (.int 0)) (Ze)))) (eC (.int 26))))) (Zu (aJ 4 (e2 aW (Zw eY (Za (Zb 0) (Za (eC (.int 1)) (Ze)))) (eC (.int 8)))) (Zu (aJ 5 (e2 aW (Zw eY (Za (Zb 0) (Za (eC (.int 2)) (Ze)))) (e2 iI (eC (.int 8)) (Zb 4)))) (Zu (aQ (e2 bI (e2 aW (e2 d9 (Zw eY (Za (Zb 0) (Za (eC (.int 1)) (Ze)))) (eC (.int 8))) (eC (.int 2))) (eC (.int 1))) (aJ 5 (e2 aW (Zw eY (Za (Zb 0) (Za (e2 aK (eC (.int 4)) (Zb 1)) (Ze)))) (e2 iI (eC (.int 8)) (Zb 4)))) (gR)) (Zu (aJ 6 (e2 aK (e2 aK (e2 eO (Zb 3) (Zb 4)) (e2 Zk (Zb 2) (e2 aW (e2 aK (Zb 1) (Zw eY (Za (Zb 0) (Za (eC (.int 3)) (Ze))))) (eC (.int 26))))) (e2 eO (Zb 3) (Zb 5)))) (Zu (aQ (e2 bI (Zb 6) (eC (.str [97,100,100]))) (cU (eC (.str [97,100,100,100]))) (gR)) (cU (Zb 6))))))))
def n8:F3:=bG 2 7 V5
def V6:S3:=Zu (aJ 1 (bV (Za (e2 aW (e2 d9 (Zb 0) (eC (.int 8))) (eC (.int 5))) (Za (e2 aW (e2 d9 (Zb 0) (eC (.int 8))) (eC (.int 1000))) (Za (e2 aW (e2 eO (e2 d9 (Zb 0) (eC (.int 8))) (eC (.int 4099))) (e2 Bk (eC (.int 10)) (eC (.int 12)))) (Za (eC (.int 0)) (Ze))))))) (cU (e2 Zk (bV (Za (e2 Zk (Zb 1) (e2 aW (Zb 0) (eC (.int 4)))) (Za (e1 jn (e2 Zk (Zb 1) (e2 aW (Zb 0) (eC (.int 4))))) (Ze)))) (e2 aW (e2 d9 (Zb 0) (eC (.int 4))) (eC (.int 2)))))
def rO:F3:=bG 1 2 V6
def V7:S3:=Zu (aJ 4 (bV (Ze))) (Zu (aJ 5 (eC (.int 1))) (Zu (yt (e2 dD (Zb 5) (eC (.int 0))) (Zu (aJ 6 (Zw eY (Za (Zb 0) (Za (e2 aK (Zb 1) (aO bW (Za (Zb 4) (Ze)))) (Ze))))) (Zu (aJ 5 (e2 iI (Zb 5) (eC (.int 1)))) (aQ (oX (e2 Gq (e2 aK (aO bW (Za (Zb 4) (Ze))) (Zb 5)) (Zb 3)) (e2 mO (e2 aW (Zb 6) (eC (.int 5))) (eC (.int 2)))) (aQ (e2 bI (e2 aW (e2 d9 (Zb 6) (eC (.int 5))) (eC (.int 3))) (eC (.int 0))) (Zr (aN aY bL (Zb 4) (Za (Zw rO (Za (e2 d9 (Zb 6) (eC (.int 15))) (Ze))) (Ze)))) (Zr (aN aY bL (Zb 4) (Za (e2 Zk (Zb 2) (e2 aW (e2 d9 (Zb 6) (eC (.int 15))) (aO bW (Za (Zb 2) (Ze))))) (Ze))))) (aQ (e2 bI (e2 aW (Zb 6) (eC (.int 5))) (eC (.int 2))) (Zu (Zr (aN aY bL (Zb 4) (Za (eC (.str [99,101,108,108])) (Ze)))) (aJ 5 (e2 aK (Zb 5) (eC (.int 1))))) (Zu (Zr (aN aY bL (Zb 4) (Za (e2 Zk (bV (Za (eC (.str [97,100,100])) (Za (eC (.str [115,117,98])) (Za (eC (.str [109,111,114,101])) (Ze))))) (e2 aW (e2 d9 (Zb 6) (eC (.int 5))) (eC (.int 3)))) (Ze)))) (aJ 5 (e2 aK (Zb 5) (eC (.int 2)))))))))) (cU (aO mQ (Za (Zb 4) (Ze))))))
def pq:F3:=bG 4 7 V7
def V8:S3:=Zu (aJ 2 (aO mQ (Za (aN aY jU (Zb 0) (Ze)) (Ze)))) (Zu (aJ 3 (aN aY jU (Zb 1) (Ze))) (aQ (e2 bI (e2 Zk (Zb 3) (eC (.int 0))) (eC (.str [119,104,105,108,101]))) (Zr (aN aY bL (e2 Zk (Zb 0) (e1 jn (eC (.int 1)))) (Za (cu (Za (eC (.str [119,104,105,108,101])) (Za (e2 Zk (Zb 3) (eC (.int 1))) (Za (e2 aK (Zb 2) (e2 Zk (Zb 3) (eC (.int 2)))) (Ze))))) (Ze)))) (aQ (e2 TV (e2 Zk (Zb 3) (eC (.int 2))) (eC .non)) (Zu (Zr (aN aY bL (Zb 1) (Za (cu (Za (e2 Zk (Zb 3) (eC (.int 0))) (Za (e2 Zk (Zb 3) (eC (.int 1))) (Za (Zb 2) (Ze))))) (Ze)))) (Zr (aN aY bL (Zb 0) (Za (bV (Ze)) (Ze))))) (Zr (aN aY bL (e2 Zk (Zb 0) (e1 jn (eC (.int 1)))) (Za (cu (Za (eC (.str [119,104,101,110])) (Za (e2 Zk (Zb 3) (eC (.int 1))) (Za (e2 Zk (Zb 3) (eC (.int 2))) (Za (Zb 2) (Ze)))))) (Ze)))))))
def wj:F3:=bG 2 4 V8
def HW:S3:=Zu (aJ 5 (Zw eY (Za (Zb 0) (Za (e2 aK (eC (.int 100)) (Zb 1)) (Ze))))) (Zu (aQ (e2 bI (e2 aW (Zb 5) (eC (.int 2))) (eC (.int 1))) (Zu (aJ 6 (Zw n8 (Za (Zb 0) (Za (e2 aK (eC (.int 10)) (aO bW (Za (Zb 3) (Ze)))) (Ze))))) (Zu (Zr (aN aY bL (e2 Zk (Zb 2) (e1 jn (eC (.int 1)))) (Za (cu (Za (eC (.str [115,101,116])) (Za (Zb 6) (Za (cu (Za (e2 aW (e2 d9 (Zb 5) (eC (.int 2))) (eC (.int 4))) (Ze))) (Ze))))) (Ze)))) (Zu (aJ 7 (bV (Za (cu (Za (Zb 6) (Ze))) (Za (cu (Za (eC (.str [109,111,114,101])) (Za (Zb 6) (Za (eC (.int 0)) (Ze))))) (Za (cu (Za (eC (.str [97,100,100])) (Za (Zb 6) (Za (eC (.int 0)) (Ze))))) (Za (cu (Za (eC (.str [115,117,98])) (Za (Zb 6) (Za (eC (.int 0)) (Ze))))) (Za (cu (Za (e2 iI (eC (.int 1)) (e2 aW (e2 d9 (Zb 5) (eC (.int 64))) (eC (.int 3)))) (Ze))) (Ze)))))))) (Zu (aJ 8 (e2 Zk (bV (Za (cu (Za (cu (Za (eC (.str [115,101,116])) (Za (Zb 6) (Za (cu (Za (eC (.str [115,117,98])) (Za (Zb 6) (Za (eC (.int 1)) (Ze))))) (Ze))))) (Ze))) (Za (cu (Ze)) (Ze)))) (aO lR (Za (e2 bI (e2 aW (e2 d9 (Zb 5) (eC (.int 8))) (eC (.int 8))) (eC (.int 7))) (Ze))))) (Zr (aN aY bL (Zb 3) (Za (cu (Za (eC (.str [119,104,105,108,101])) (Za (e2 Zk (Zb 7) (e2 aW (e2 aW (e2 d9 (Zb 5) (eC (.int 8))) (eC (.int 8))) (eC (.int 5)))) (Za (Zb 8) (Ze))))) (Ze)))))))) (Zr (aN aY bL (Zb 3) (Za (cu (Za (eC (.str [119,104,101,110])) (Za (Zw pq (Za (Zb 0) (Za (e2 aK (eC (.int 200)) (e2 eO (eC (.int 30)) (Zb 1))) (Za (Zb 4) (Za (eC (.int 4)) (Ze)))))) (Za (eC .non) (Ze))))) (Ze))))) (Zr (aN aY bL (Zb 2) (Za (bV (Ze)) (Ze)))))
def CJ:F3:=bG 5 9 HW
def V9:S3:=Zu (aJ 3 (bV (Za (bV (Ze)) (Ze)))) (Zu (aJ 4 (bV (Ze))) (Zu (GF (Uc (Zb 1)) (Lw [5,6]) (Zu (aJ 7 (aO lR (Za (e2 bI (Zb 5) (e2 aW (Zw eY (Za (Zb 0) (Za (eC (.int 58)) (Ze)))) (eC (.int 8)))) (Ze)))) (Zu (aJ 8 (Zw pq (Za (Zb 0) (Za (e2 aK (eC (.int 200)) (e2 eO (eC (.int 30)) (Zb 5))) (Za (Zb 2) (Za (e2 Zk (bV (Za (eC (.int 4)) (Za (eC (.int 10)) (Ze)))) (Zb 7)) (Ze))))))) (aQ (e2 mO (e2 aW (Zb 6) (eC (.int 9))) (eC (.int 3))) (Zr (aN aY bL (e2 Zk (Zb 3) (e1 jn (eC (.int 1)))) (Za (cu (Za (eC (.str [115,101,116])) (Za (e2 Zk (Zb 2) (e2 aW (e2 d9 (Zb 6) (eC (.int 9))) (eC (.int 6)))) (Za (Zb 8) (Ze))))) (Ze)))) (aQ (e2 bI (e2 aW (Zb 6) (eC (.int 9))) (eC (.int 3))) (Zr (aN aY bL (e2 Zk (Zb 3) (e1 jn (eC (.int 1)))) (Za (cu (Za (eC (.str [112,117,116])) (Za (Zb 8) (Za (Zw pq (Za (Zb 0) (Za (e2 aK (eC (.int 215)) (e2 eO (eC (.int 30)) (Zb 5))) (Za (Zb 2) (Za (e2 Zk (bV (Za (eC (.int 3)) (Za (eC (.int 8)) (Ze)))) (Zb 7)) (Ze)))))) (Ze))))) (Ze)))) (aQ (ji (e2 mO (e2 aW (Zb 6) (eC (.int 9))) (eC (.int 6))) (e2 mO (aO bW (Za (Zb 4) (Ze))) (eC (.int 3)))) (Zr (Zw CJ (Za (Zb 0) (Za (Zb 5) (Za (Zb 3) (Za (Zb 4) (Za (Zb 2) (Ze)))))))) (aQ (ji (e2 bI (e2 aW (Zb 6) (eC (.int 9))) (eC (.int 6))) (e2 dD (aO bW (Za (Zb 4) (Ze))) (eC (.int 0)))) (Zr (Zw wj (Za (Zb 3) (Za (Zb 4) (Ze))))) (Zr (aN aY bL (e2 Zk (Zb 3) (e1 jn (eC (.int 1)))) (Za (cu (Za (eC (.str [116,101,108,108])) (Za (Zb 8) (Ze)))) (Ze))))))))))) (Zu (yt (e2 dD (aO bW (Za (Zb 4) (Ze))) (eC (.int 0))) (Zr (Zw wj (Za (Zb 3) (Za (Zb 4) (Ze)))))) (cU (aO mQ (Za (e2 Zk (Zb 3) (eC (.int 0))) (Ze)))))))
def Nv:F3:=bG 3 9 V9
def V_:S3:=Zu (aJ 1 (mV (vM (eC (.int 6))) 1 (bF 3) [] (Zw n8 (Za (Zb 0) (Za (Zb 3) (Ze)))))) (Zu (aJ 2 (aO mQ (Za (yj (Zb 1) (yh) (vJ (e2 aW (Zw eY (Za (Zb 0) (Za (eC (.int 50)) (Ze)))) (eC (.int 7))))) (Ze)))) (cU (cu (Za (Zb 2) (Za (Zw Nv (Za (Zb 0) (Za (yj (Zb 0) (yh) (vJ (eC (.int 24)))) (Za (e2 aK (Zb 1) (bV (Za (Zw n8 (Za (Zb 0) (Za (eC (.int 10)) (Ze)))) (Ze)))) (Ze))))) (Ze))))))
def HX:F3:=bG 1 3 V_
def Wa:S3:=Zu (aJ 2 (mV (vM (aO bW (Za (e2 Zk (Zb 1) (eC (.int 0))) (Ze)))) 1 (bF 3) [] (Zw eY (Za (Zb 0) (Za (e2 aK (eC (.int 60)) (Zb 3)) (Ze)))))) (cU (aO mQ (Za (mV (mR (Zb 2)) 1 (bF 3) [] (e2 eO (Zw rO (Za (Zb 3) (Ze))) (e2 Zk (bV (Za (eC (.int 1)) (Za (e2 Bk (eC (.int 10)) (eC (.int 17))) (Ze)))) (e2 aW (e2 d9 (Zb 3) (eC (.int 7))) (eC (.int 2)))))) (Ze))))
def HY:F3:=bG 2 3 Wa
def Wb:S3:=Zu (aJ 4 (bV (Ze))) (Zu (tZ (mR (e1 Zth (Zb 0))) (bF 5) (aQ (e1 (jd .int) (Zb 5)) (Zu (Zr (aN aY bL (Zb 4) (Za (Zb 5) (Ze)))) (fK (Zb 3) (eC (.int 0)) (e2 aK (e2 Zk (Zb 3) (eC (.int 0))) (eC (.int 1))))) (aQ (e2 bI (Zb 5) (eC (.str [99,101,108,108]))) (Zu (Zr (aN aY bL (Zb 4) (Za (aN qZ pZ (Zb 2) (Za (aN aY jU (Zb 4) (Ze)) (Za (eC (.int 0)) (Ze)))) (Ze)))) (fK (Zb 3) (eC (.int 0)) (e2 aK (e2 Zk (Zb 3) (eC (.int 0))) (eC (.int 2))))) (aQ (e2 Bl (Zb 5) (cu (Za (eC (.str [97,100,100])) (Za (eC (.str [115,117,98])) (Za (eC (.str [109,111,114,101])) (Ze)))))) (Zu (aJ 6 (aN aY jU (Zb 4) (Ze))) (Zu (aJ 7 (aN aY jU (Zb 4) (Ze))) (Zu (fK (Zb 3) (eC (.int 0)) (e2 aK (e2 Zk (Zb 3) (eC (.int 0))) (eC (.int 1)))) (Zr (aN aY bL (Zb 4) (Za (e2 Gs (Gw (jB (eC (.str [97,100,100])) (e2 aK (Zb 6) (Zb 7)) (jB (eC (.str [115,117,98])) (e2 iI (Zb 6) (Zb 7)) (jB (eC (.str [109,111,114,101])) (aO lR (Za (e2 dD (Zb 6) (Zb 7)) (Ze))) (yq))))) (Zb 5)) (Ze))))))) (Zu (Zr (aN aY bL (Zb 4) (Za (aN qZ pZ (Zb 1) (Za (Zb 5) (Za (eC (.int 0)) (Ze)))) (Ze)))) (fK (Zb 3) (eC (.int 0)) (e2 aK (e2 Zk (Zb 3) (eC (.int 0))) (eC (.int 2))))))))) (cU (e2 Zk (Zb 4) (eC (.int 0)))))
def iU:F3:=bG 4 8 Wb
def H_(rec:F3):S3:=tZ (mR (Zb 0)) (bF 5) (Zu (aQ (e2 dD (e2 Zk (Zb 4) (eC (.int 0))) (eC (.int 150))) (cU (BW .non)) (gR)) (aQ (e2 bI (e2 Zk (Zb 5) (eC (.int 0))) (eC (.str [115,101,116]))) (Zu (yr (Zb 1) (e2 Zk (Zb 5) (eC (.int 1))) (Zw iU (Za (e2 Zk (Zb 5) (eC (.int 2))) (Za (Zb 1) (Za (Zb 2) (Za (Zb 4) (Ze))))))) (fK (Zb 4) (eC (.int 0)) (e2 aK (e2 Zk (Zb 4) (eC (.int 0))) (eC (.int 2))))) (aQ (e2 bI (e2 Zk (Zb 5) (eC (.int 0))) (eC (.str [112,117,116]))) (Zu (aJ 6 (Zw iU (Za (e2 Zk (Zb 5) (eC (.int 1))) (Za (Zb 1) (Za (Zb 2) (Za (Zb 4) (Ze))))))) (Zu (yr (Zb 2) (Zb 6) (Zw iU (Za (e2 Zk (Zb 5) (eC (.int 2))) (Za (Zb 1) (Za (Zb 2) (Za (Zb 4) (Ze))))))) (fK (Zb 4) (eC (.int 0)) (e2 aK (e2 Zk (Zb 4) (eC (.int 0))) (eC (.int 2)))))) (aQ (e2 bI (e2 Zk (Zb 5) (eC (.int 0))) (eC (.str [116,101,108,108]))) (Zu (Zr (aN aY bL (Zb 3) (Za (Zw iU (Za (e2 Zk (Zb 5) (eC (.int 1))) (Za (Zb 1) (Za (Zb 2) (Za (Zb 4) (Ze)))))) (Ze)))) (fK (Zb 4) (eC (.int 0)) (e2 aK (e2 Zk (Zb 4) (eC (.int 0))) (eC (.int 1))))) (aQ (ji (e2 bI (e2 Zk (Zb 5) (eC (.int 0))) (eC (.str [119,104,101,110]))) (e2 dD (Zw iU (Za (e2 Zk (Zb 5) (eC (.int 1))) (Za (aO q9 (Za (Zb 1) (Ze))) (Za (aO q9 (Za (Zb 2) (Ze))) (Za (bV (Za (eC (.int 0)) (Ze))) (Ze)))))) (eC (.int 0)))) (Zu (Zr (Zw iU (Za (e2 Zk (Zb 5) (eC (.int 1))) (Za (Zb 1) (Za (Zb 2) (Za (Zb 4) (Ze))))))) (Zu (fK (Zb 4) (eC (.int 0)) (e2 aK (e2 Zk (Zb 4) (eC (.int 0))) (eC (.int 1)))) (Zr (Zw rec (Za (e2 Zk (Zb 5) (eC (.int 2))) (Za (Zb 1) (Za (Zb 2) (Za (Zb 3) (Za (Zb 4) (Ze)))))))))) (aQ (e2 bI (e2 Zk (Zb 5) (eC (.int 0))) (eC (.str [119,104,101,110]))) (Zu (Zr (Zw iU (Za (e2 Zk (Zb 5) (eC (.int 1))) (Za (Zb 1) (Za (Zb 2) (Za (Zb 4) (Ze))))))) (Zu (fK (Zb 4) (eC (.int 0)) (e2 aK (e2 Zk (Zb 4) (eC (.int 0))) (eC (.int 2)))) (Zr (Zw rec (Za (e2 Zk (Zb 5) (eC (.int 3))) (Za (Zb 1) (Za (Zb 2) (Za (Zb 3) (Za (Zb 4) (Ze)))))))))) (Zu (yt (ji (e2 Gp (e2 Zk (Zb 4) (eC (.int 0))) (eC (.int 150))) (e2 dD (Zw iU (Za (e2 Zk (Zb 5) (eC (.int 1))) (Za (Zb 1) (Za (Zb 2) (Za (Zb 4) (Ze)))))) (eC (.int 0)))) (Zu (fK (Zb 4) (eC (.int 0)) (e2 aK (e2 Zk (Zb 4) (eC (.int 0))) (eC (.int 1)))) (Zu (Zr (Zw rec (Za (e2 Zk (Zb 5) (eC (.int 2))) (Za (Zb 1) (Za (Zb 2) (Za (Zb 3) (Za (Zb 4) (Ze)))))))) (fK (Zb 4) (eC (.int 0)) (e2 aK (e2 Zk (Zb 4) (eC (.int 0))) (eC (.int 1))))))) (fK (Zb 4) (eC (.int 0)) (e2 aK (e2 Zk (Zb 4) (eC (.int 0))) (eC (.int 2)))))))))))
def n_:Nat->F3
 |0=>bG 5 7 vL|n+1=>bG 5 7 (H_ (n_ n))
def Nx:F3:=n_ 7
def Wc:S3:=Zu (aJ 3 (eC .non)) (Zu (GK [[66,97,100,71,105,118,101,110],[83,112,101,110,116]] 4 (Zr (Zw ur (bJ (Za (Zb 0) (Za (Zb 1) (Za (Zb 2) (Ze))))))) (aJ 3 (Zb 4))) (cU (ji (e1 (rm [[83,112,101,110,116]] [[66,97,100,71,105,118,101,110]]) (Zb 3)) (e1 (rm [[66,97,100,71,105,118,101,110],[83,112,101,110,116]] []) (Zb 3)))))
def CK:F3:=bG 3 5 Wc
def Wd:S3:=Zu (aJ 1 (Zw HX (Za (Zb 0) (Ze)))) (Zu (aJ 2 (Zw HY (Za (Zb 0) (Za (Zb 1) (Ze))))) (Zu (aJ 3 (bV (Ze))) (Zu (aJ 4 (bV (Za (e2 eO (eC (.int 2)) (aO bW (Za (Zb 2) (Ze)))) (Ze)))) (Zu (Zr (Zw Nx (Za (e2 Zk (Zb 1) (eC (.int 1))) (Za (BR (e2 Zk (Zb 1) (eC (.int 0))) (Zb 2)) (Za (T5) (Za (Zb 3) (Za (Zb 4) (Ze)))))))) (Zu (aQ (e2 dD (e2 Zk (Zb 4) (eC (.int 0))) (eC (.int 150))) (cU (Zw CK (Za (Zb 1) (Za (Zb 2) (Za (eC (.int 150)) (Ze)))))) (gR)) (Zu (aQ (ji (e2 dD (e2 Zk (Zb 4) (eC (.int 0))) (eC (.int 0))) (e1 vH (Zw CK (Za (Zb 1) (Za (Zb 2) (Za (e2 iI (e2 Zk (Zb 4) (eC (.int 0))) (eC (.int 1))) (Ze))))))) (cU (eC (.bl false))) (gR)) (Zu (aJ 5 (Zw ur (Za (Zb 1) (Za (Zb 2) (Za (e2 Zk (Zb 4) (eC (.int 0))) (Ze)))))) (Zu (aQ (oX (e1 vH (e1 (jd .tuple) (Zb 5))) (oX (e2 Gr (aO bW (Za (Zb 5) (Ze))) (eC (.int 2))) (e1 vH (e1 (jd .list) (e2 Zk (Zb 5) (eC (.int 0))))))) (cU (eC (.bl false))) (gR)) (Zu (tZ (mR (e2 aK (e2 Zk (Zb 5) (eC (.int 0))) (bV (Za (e2 Zk (Zb 5) (eC (.int 1))) (Ze))))) (bF 6) (aQ (oX (e1 vH (e1 (jd .int) (Zb 6))) (e1 (jd .bool) (Zb 6))) (cU (eC (.bl false))) (gR))) (cU (e2 Uh (Zb 5) (cu (Za (Zb 3) (Za (e2 Zk (Zb 4) (eC (.int 0))) (Ze)))))))))))))))
def ZnI:F3:=bG 1 7 Wd
end
end Law
namespace Law
open PySem PySem.Spec PyProof.Rows L2 L3
noncomputable def top(i:Nat):Ydm:=PySem.Challenge.pw_stepledger_k72_whole_plainly.main.body.getD i (.Pass ⟨0,0,0,0⟩)
noncomputable abbrev CN:Ydm:=top 5
noncomputable abbrev CP:Ydm:=top 8
noncomputable abbrev CQ:Ydm:=top 9
noncomputable abbrev CV:Ydm:=top 12
noncomputable abbrev CZ:Ydm:=top 13
noncomputable abbrev C_:Ydm:=top 15
noncomputable abbrev Dc:Ydm:=top 16
noncomputable abbrev Dd:Ydm:=top 17
noncomputable abbrev Df:Ydm:=top 18
noncomputable abbrev Dg:Ydm:=top 19
noncomputable abbrev Dh:Ydm:=top 20
noncomputable abbrev Di:Ydm:=top 21
noncomputable abbrev Dj:Ydm:=top 22
noncomputable abbrev Dk:Ydm:=top 23
noncomputable abbrev Dl:Ydm:=top 24
noncomputable abbrev Dm:Ydm:=top 25
noncomputable abbrev Dn:Ydm:=top 26
noncomputable abbrev ut:Ydm:=top 27
noncomputable abbrev Dp:Ydm:=(v7 (top 11)).getD 0 (.Pass ⟨0,0,0,0⟩)
noncomputable abbrev Dq:Ydm:=(v7 (top 11)).getD 1 (.Pass ⟨0,0,0,0⟩)
noncomputable abbrev Dr:Ydm:=(v7 (top 11)).getD 2 (.Pass ⟨0,0,0,0⟩)
noncomputable abbrev Dt:Ydm:=(v7 (top 11)).getD 3 (.Pass ⟨0,0,0,0⟩)
noncomputable abbrev Du:Ydm:=(v7 (top 11)).getD 4 (.Pass ⟨0,0,0,0⟩)
noncomputable abbrev Dv:Ydm:=(v7 (top 11)).getD 5 (.Pass ⟨0,0,0,0⟩)
noncomputable abbrev Dw:Ydm:=(v7 (top 11)).getD 6 (.Pass ⟨0,0,0,0⟩)
noncomputable abbrev Dy:Ydm:=(v7 (top 11)).getD 7 (.Pass ⟨0,0,0,0⟩)
structure yW(K:Ff)(mg:aj->Option Yd)(C:Yn):Prop where
  ok:v6 K [87,97,108,107] C
  mg:mg "Walk" =Ya (.ref C)
  Pu:nP K C (nm [99,101,108,108,115])
  YF:nP K C (nm [109,111,115,116])
  Px:nP K C (nm [110,97,109,101,100])
  Pb:nP K C (nm [110,117,109,98,101,114,115])
  Em:nP K C (nm [115,116,101,112,115])
structure Ny(K:Ff)(mg:aj->Option Yd)(gO fO di:Yn):Prop where
  Aar:mg "LedgerError" =Ya (.ref gO)
  Abo:mg "BadGiven" =Ya (.ref fO)
  X5:mg "Spent" =Ya (.ref di)
  AbO:Vw K [66,97,100,71,105,118,101,110] fO
  Acy:Vw K [83,112,101,110,116] di
  AaT:∀c C,([[66,97,100,71,105,118,101,110],[83,112,101,110,116]]:List (List Nat)).contains c=true->ClsAt K c C->JS K (.ref C) (.ref gO)=Ya true
  Acz:Cr K [[83,112,101,110,116]] [[66,97,100,71,105,118,101,110]] [.ref di]
  Abe:Cr K [[66,97,100,71,105,118,101,110],[83,112,101,110,116]] [] [.type "ValueError"]
structure Txt(K:Ff)(mg:aj->Option Yd):Prop where
  tM:True
  Abf:mg "ValueError" =Yk
  AcJ:mg "bool" =Yk
  Jk:mg "dict" =Yk
  Abp:mg "enumerate" =Yk
  zF:mg "int" =Yk
  uD:mg "isinstance" =Yk
  ju:mg "len" =Yk
  AcK:mg "list" =Yk
  AcR:mg "max" =Yk
  YB:mg "range" =Yk
  wQ:mg "tuple" =Yk
  YJ:mg "zip" =Yk
  AcA:∃a,mg "PARTS" =Ya (.ref a)/\Cw K a uq
theorem Zmw{X:Cx}{e e':Expr}{npos apos cpos:aP}{g g':E3}(T:Txt X.K X.mg)(he:C3 X e g)(he':C3 X e' g')(m:M2 X (.Name "PARTS" npos) "get" apos e e' cpos:=by exact⟨rfl,rfl,rfl,rfl⟩)(hg:Gl X "PARTS":=by rfl):C3 X (.Call (.Attribute (.Name "PARTS" npos) "get" apos) [e,e'] [] cpos) (e2 (BP uq) g g'):=by obtain⟨a,hm,ht⟩:=T.AcA;exact Zr0 hm ht he he' m hg
variable{aA:Yn}
section
variable {P:aX} {w:aU} {K:Ff} {mg:aj->Option Yd} {base:au}
theorem ZoW:dz ["name","one","other"] ["name","one","other"] (Zm CN):=⟨rfl,rfl,rfl,by decide +kernel,rfl,by decide +kernel,by decide +kernel⟩
theorem Zo1(A:cX K mg "worked" CN ["name","one","other"])(T:Txt K mg):bA P w K mg base 1 "worked" ["name","one","other"] Nk:=bA.of (N:=["name","one","other"]) (k:=0) A ZoW λf cdv A outer s H E hr=>by have hu:=gK hr;unfold VR;exact Zn (fL (b_ ((gJ hu)) (Zd 0) cH) (Zq (gH (Zv dG (Zd 1) (Zd 2)))) kE) (Zn (fL (b_ ((gJ hu)) (Zd 0) cH) (Zq (gH (Zv vV (Zd 1) (Zd 2)))) kE) (Zq (gH (Zxc (b_ nY (Zd 1) (Zd 2)) Zf Zf))))
theorem Dz:dz ["words","sums","lacking","word"] ["words"] (Zm CP):=⟨rfl,rfl,rfl,by decide +kernel,rfl,by decide +kernel,by decide +kernel⟩
theorem ZmK(A:cX K mg "sums_in" CP ["words"])(T:Txt K mg):bA P w K mg base 1 "sums_in" ["words"] Nm:=bA.of (N:=["words","sums","lacking","word"]) (k:=0) A Dz λf cdv A outer s H E hr=>by have hu:=gK hr;unfold V0;exact Zn (cB 1 Dz.nd (iC Zh)) (Zn (cB 2 Dz.nd Zf) (Zn (Mm rfl rfl (v4 (Zd 0)) (rD 3 Dz.nd) (Zn (fL (b_ ((gJ hu)) (Zd 2) Zf) (Zn (eX (iQ (Zd 1) (Zc (iC Zh) Zh))) (Zq (cB 2 Dz.nd Zf))) kE) (Zn (eX (iQ (Zz aF (Zd 1) (ug uh Zf)) (Zc (Zd 3) Zh))) (Zq (cB 2 Dz.nd (Zv dG (Zv vV (Zd 2) Zf) (Zmw T (Zd 3) Zf))))))) (Zq (gH (Zxc (b_ ((gJ hu)) (Zd 2) Zf) (ZwD (N':=["words","sums","lacking","word","one"]) (Hj rfl (by kernel_rfl)) rfl rfl (v4 (Zd 1)) (λC cl s H ex=>⟨(rD 4 ((show Ad (["words","sums","lacking","word","one"]:List aj)by decide +kernel))),Mu,(p_ (T:="tuple") Ce T.wQ Cg (Zc (Zd 4) Zh))⟩)) Mg)))))
theorem ZlW:dz ["words"] ["words"] (Zm CQ):=⟨rfl,rfl,rfl,by decide +kernel,rfl,by decide +kernel,by decide +kernel⟩
theorem ZlK(A:cX K mg "parts_of" CQ ["words"])(T:Txt K mg)(Pg:bA P w K mg base 1 "sums_in" ["words"] Nm):bA P w K mg base 2 "parts_of" ["words"] yS:=bA.of (N:=["words"]) (k:=1) A ZlW λf cdv A outer s H E hr=>by have hu:=gK hr;unfold V1;exact Zq (gH (cC (k:=1) (ps:=["words"]) Pg (hr.mono (by decide)) (Zc (Um Vc (Zd 0) (Mj Zf) Ul) Zh)))
theorem Zhg:dz ["self","named","most"] ["self","named","most"] (Zm Dp):=⟨rfl,rfl,rfl,by decide +kernel,rfl,by decide +kernel,by decide +kernel⟩
theorem Zhw(aR:yW K mg aA)(A:MK K aA "Walk.__init__" Dp ["self","named","most"])(T:Txt K mg):Cm P w K mg base 1 aA ["self","named","most"] yU:=Cm.of (N:=["self","named","most"]) (k:=0) A Zhg λf cdv A outer s H E hr=>by have hu:=gK hr;unfold V2;exact Zn (Ck (C:=aA) (c:=[87,97,108,107]) (m:=[110,97,109,101,100]) aR.ok aR.Px (Zd 0) (Zd 1)) (Zn (Ck (C:=aA) (c:=[87,97,108,107]) (m:=[99,101,108,108,115]) aR.ok aR.Pu (Zd 0) ZqI) (Zn (Ck (C:=aA) (c:=[87,97,108,107]) (m:=[110,117,109,98,101,114,115]) aR.ok aR.Pb (Zd 0) (iC Zh)) (Zn (Ck (C:=aA) (c:=[87,97,108,107]) (m:=[115,116,101,112,115]) aR.ok aR.Em (Zd 0) Zf) (Zq (Ck (C:=aA) (c:=[87,97,108,107]) (m:=[109,111,115,116]) aR.ok aR.YF (Zd 0) (Zd 2))))))
theorem Zji:dz ["self","steps"] ["self","steps"] (Zm Dq):=⟨rfl,rfl,rfl,by decide +kernel,rfl,by decide +kernel,by decide +kernel⟩
theorem Zjd(aR:yW K mg aA)(A:kY K aA "spend" "Walk.spend" Dq ["self","steps"])(T:Txt K mg){gO fO di:Yn}(XO:Ny K mg gO fO di):dJ P w K mg base 1 aA "spend" ["self","steps"] gM:=dJ.of (N:=["self","steps"]) (k:=0) A Zji λf cdv A outer s H E hr=>by have hu:=gK hr;unfold Np;exact iR (v9 (Ck (C:=aA) (c:=[87,97,108,107]) (m:=[115,116,101,112,115]) aR.ok aR.Em (Zd 0) (Zv dG (rF (C:=aA) (c:=[87,97,108,107]) (m:=[115,116,101,112,115]) aR.ok aR.Em (Zd 0)) (Zd 1)))) (gm (uo (b_ nY (rF (C:=aA) (c:=[87,97,108,107]) (m:=[115,116,101,112,115]) aR.ok aR.Em (Zd 0)) (rF (C:=aA) (c:=[87,97,108,107]) (m:=[109,111,115,116]) aR.ok aR.YF (Zd 0))) (gm (ZjT (C:=di) XO.Acy XO.X5 (Zc cH Zh))) (Hr kE)))
theorem Wf:dz ["self","words","parts"] ["self","words"] (Zm Dr):=⟨rfl,rfl,rfl,by decide +kernel,rfl,by decide +kernel,by decide +kernel⟩
theorem Zgz(aR:yW K mg aA)(Pj:bA P w K mg base 1 "worked" ["name","one","other"] Nk)(O8:bA P w K mg base 2 "parts_of" ["words"] yS)(iV:dJ P w K mg base 1 aA "spend" ["self","steps"] gM)(XD:kY K aA "value_of" "Walk.value_of" Dr ["self","words"])(T:Txt K mg):∀n:Nat,dJ P w K mg base (n+3) aA "value_of" ["self","words"] (Nq n 0):=by
  intro n
  induction n with
  |zero=>exact dJ.of (N:=["self","words","parts"]) (k:=2) XD Wf λf cdv A outer s H E hr=>Hz|succ n IH=>
    have Aai:=IH
    · refine(dJ.of (N:=["self","words","parts"]) (k:=n+3) XD Wf λf cdv A outer s H E hr=>?_).mono (by omega)
      have hu:=gK hr;unfold wg;exact iR (Zo2 (N':=["self","words","parts","part"]) 2 (Hj rfl (by kernel_rfl)) rfl Wf.nd (v4 (cC (k:=2) (ps:=["words"]) O8 (hr.mono (by omega)) (Zc (Zd 1) Zh))) (λC cl s H ex E=>⟨(rD 3 ((show Ad (["self","words","parts","part"]:List aj)by decide +kernel))),(gn (C:=aA) (c:=[87,97,108,107]) (m:=[118,97,108,117,101,95,111,102]) (k:=n+3) (ps:=["self","words"]) aR.ok Aai hr (Zd 0) (Zc (Zd 3) Zh))⟩)) (iR (uo (b_ ((gJ hu)) (jq (id:="len") jE T.ju jF (Zc (Zd 2) Zh)) Zf) (iR (iT (gn (C:=aA) (c:=[87,97,108,107]) (m:=[115,112,101,110,100]) (k:=1) (ps:=["self","steps"]) aR.ok iV (hr.mono (by omega)) (Zd 0) (Zc Zf Zh))) (gm (v9 (gH (cC (k:=1) (ps:=["name","one","other"]) Pj (hr.mono (by omega)) (Zc (Zz aF (Zd 1) Zf) (Zc (Zz aF (Zd 2) Zf) (Zc (Zz aF (Zd 2) Zf) Zh)))))))) (Hr kE)) (iR (uo (b_ ((gJ hu)) (jq (id:="len") jE T.ju jF (Zc (Zd 2) Zh)) Zf) (iR (iT (gn (C:=aA) (c:=[87,97,108,107]) (m:=[115,112,101,110,100]) (k:=1) (ps:=["self","steps"]) aR.ok iV (hr.mono (by omega)) (Zd 0) (Zc Zf Zh))) (gm (v9 (gH (MF hu (rF (C:=aA) (c:=[87,97,108,107]) (m:=[99,101,108,108,115]) aR.ok aR.Pu (Zd 0)) (Zz aF (Zd 2) Zf) Zf))))) (Hr kE)) (iR (uo (yE (Ci .int T.uD T.zF (Zz aF (Zd 1) Zf))) (iR (iT (gn (C:=aA) (c:=[87,97,108,107]) (m:=[115,112,101,110,100]) (k:=1) (ps:=["self","steps"]) aR.ok iV (hr.mono (by omega)) (Zd 0) (Zc Zf Zh))) (gm (v9 (gH (Zz aF (Zd 1) Zf))))) (Hr kE)) (iR (iT (gn (C:=aA) (c:=[87,97,108,107]) (m:=[115,112,101,110,100]) (k:=1) (ps:=["self","steps"]) aR.ok iV (hr.mono (by omega)) (Zd 0) (Zc Zf Zh))) (gm (v9 (gH (MF hu (rF (C:=aA) (c:=[87,97,108,107]) (m:=[110,97,109,101,100]) aR.ok aR.Px (Zd 0)) (Zz aF (Zd 1) Zf) Zf))))))))
theorem ZeJ:dz ["self","words","value"] ["self","words"] (Zm Dt):=⟨rfl,rfl,rfl,by decide +kernel,rfl,by decide +kernel,by decide +kernel⟩
theorem Zhj(aR:yW K mg aA)(A:kY K aA "is_above" "Walk.is_above" Dt ["self","words"])(T:Txt K mg)(iV:dJ P w K mg base 1 aA "spend" ["self","steps"] gM)(qm:dJ P w K mg base 16 aA "value_of" ["self","words"] rN):dJ P w K mg base 17 aA "is_above" ["self","words"] yV:=dJ.of (N:=["self","words","value"]) (k:=16) A ZeJ λf cdv A outer s H E hr=>by have hu:=gK hr;unfold HD;exact iR (Znv 2 ZeJ.nd (gn (C:=aA) (c:=[87,97,108,107]) (m:=[118,97,108,117,101,95,111,102]) (k:=16) (ps:=["self","words"]) aR.ok qm (hr.mono (by decide)) (Zd 0) (Zc (Zd 1) Zh))) (iR (iT (gn (C:=aA) (c:=[87,97,108,107]) (m:=[115,112,101,110,100]) (k:=1) (ps:=["self","steps"]) aR.ok iV (hr.mono (by decide)) (Zd 0) (Zc Zf Zh))) (gm (v9 (gH (GZ nY (Zd 2) Zf)))))
theorem Zft:dz ["self","deed"] ["self","deed"] (Zm Dy):=⟨rfl,rfl,rfl,by decide +kernel,rfl,by decide +kernel,by decide +kernel⟩
theorem Wg:dz ["self","deed","number"] ["self","deed"] (Zm Dv):=⟨rfl,rfl,rfl,by decide +kernel,rfl,by decide +kernel,by decide +kernel⟩
theorem Zfw:dz ["self","deed"] ["self","deed"] (Zm Dw):=⟨rfl,rfl,rfl,by decide +kernel,rfl,by decide +kernel,by decide +kernel⟩
theorem Wh:dz ["self","deeds","deed"] ["self","deeds"] (Zm Du):=⟨rfl,rfl,rfl,by decide +kernel,rfl,by decide +kernel,by decide +kernel⟩
theorem ZfZ(aR:yW K mg aA)(El:dJ P w K mg base 17 aA "is_above" ["self","words"] yV)(iV:dJ P w K mg base 1 aA "spend" ["self","steps"] gM)(qm:dJ P w K mg base 16 aA "value_of" ["self","words"] rN)(Xr:kY K aA "go_through" "Walk.go_through" Du ["self","deeds"])(XF:kY K aA "do_deed" "Walk.do_deed" Dv ["self","deed"])(XH:kY K aA "choose" "Walk.choose" Dw ["self","deed"])(XJ:kY K aA "repeat" "Walk.repeat" Dy ["self","deed"])(T:Txt K mg):∀n:Nat,dJ P w K mg base (n+18) aA "go_through" ["self","deeds"] (Zj n 0)/\dJ P w K mg base (n+18) aA "do_deed" ["self","deed"] (Zj n 1)/\dJ P w K mg base (n+18) aA "choose" ["self","deed"] (Zj n 2)/\dJ P w K mg base (n+18) aA "repeat" ["self","deed"] (Zj n 3):=by
  intro n
  induction n with
  |zero=>exact⟨dJ.of (N:=["self","deeds","deed"]) (k:=17) Xr Wh λf cdv A outer s H E hr=>Hz,dJ.of (N:=["self","deed","number"]) (k:=17) XF Wg λf cdv A outer s H E hr=>Hz,dJ.of (N:=["self","deed"]) (k:=17) XH Zfw λf cdv A outer s H E hr=>Hz,dJ.of (N:=["self","deed"]) (k:=17) XJ Zft λf cdv A outer s H E hr=>Hz⟩|succ n IH=>
    obtain⟨Ox,Aam,Aas,Aat⟩:=IH;refine⟨?_,?_,?_,?_⟩
    · refine(dJ.of (N:=["self","deeds","deed"]) (k:=n+18) Xr Wh λf cdv A outer s H E hr=>?_).mono (by omega)
      have hu:=gK hr;unfold Nt;exact gm (ZsH Ykr rfl (v4 (Zd 1)) (rD 2 Wh.nd) (gm (iT (gn (C:=aA) (c:=[87,97,108,107]) (m:=[100,111,95,100,101,101,100]) (k:=n+18) (ps:=["self","deed"]) aR.ok Aam hr (Zd 0) (Zc (Zd 2) Zh)))))
    · refine(dJ.of (N:=["self","deed","number"]) (k:=n+18) XF Wg λf cdv A outer s H E hr=>?_).mono (by omega)
      have hu:=gK hr;unfold mY;exact gm (uo (b_ ((gJ hu)) (Zz aF (Zd 1) Zf) cH) (gm (iT (gn (C:=aA) (c:=[87,97,108,107]) (m:=[99,104,111,111,115,101]) (k:=n+18) (ps:=["self","deed"]) aR.ok Aas hr (Zd 0) (Zc (Zd 1) Zh)))) (gm (uo (b_ ((gJ hu)) (Zz aF (Zd 1) Zf) cH) (gm (iT (gn (C:=aA) (c:=[87,97,108,107]) (m:=[114,101,112,101,97,116]) (k:=n+18) (ps:=["self","deed"]) aR.ok Aat hr (Zd 0) (Zc (Zd 1) Zh)))) (gm (uo (b_ ((gJ hu)) (Zz aF (Zd 1) Zf) cH) (iR (Znv 2 Wg.nd (gn (C:=aA) (c:=[87,97,108,107]) (m:=[118,97,108,117,101,95,111,102]) (k:=16) (ps:=["self","words"]) aR.ok qm (hr.mono (by omega)) (Zd 0) (Zc (Zz aF (Zd 1) Zf) Zh))) (iR (Zk5 hu (rF (C:=aA) (c:=[87,97,108,107]) (m:=[99,101,108,108,115]) aR.ok aR.Pu (Zd 0)) (Zd 2) (gn (C:=aA) (c:=[87,97,108,107]) (m:=[118,97,108,117,101,95,111,102]) (k:=16) (ps:=["self","words"]) aR.ok qm (hr.mono (by omega)) (Zd 0) (Zc (Zz aF (Zd 1) Zf) Zh))) (gm (iT (gn (C:=aA) (c:=[87,97,108,107]) (m:=[115,112,101,110,100]) (k:=1) (ps:=["self","steps"]) aR.ok iV (hr.mono (by omega)) (Zd 0) (Zc Zf Zh)))))) (gm (uo (b_ ((gJ hu)) (Zz aF (Zd 1) Zf) cH) (iR (Zk5 hu (rF (C:=aA) (c:=[87,97,108,107]) (m:=[110,97,109,101,100]) aR.ok aR.Px (Zd 0)) (Zz aF (Zd 1) Zf) (gn (C:=aA) (c:=[87,97,108,107]) (m:=[118,97,108,117,101,95,111,102]) (k:=16) (ps:=["self","words"]) aR.ok qm (hr.mono (by omega)) (Zd 0) (Zc (Zz aF (Zd 1) Zf) Zh))) (gm (iT (gn (C:=aA) (c:=[87,97,108,107]) (m:=[115,112,101,110,100]) (k:=1) (ps:=["self","steps"]) aR.ok iV (hr.mono (by omega)) (Zd 0) (Zc Zf Zh))))) (iR (iT (Zvo (rF (C:=aA) (c:=[87,97,108,107]) (m:=[110,117,109,98,101,114,115]) aR.ok aR.Pb (Zd 0)) (gn (C:=aA) (c:=[87,97,108,107]) (m:=[118,97,108,117,101,95,111,102]) (k:=16) (ps:=["self","words"]) aR.ok qm (hr.mono (by omega)) (Zd 0) (Zc (Zz aF (Zd 1) Zf) Zh)))) (gm (iT (gn (C:=aA) (c:=[87,97,108,107]) (m:=[115,112,101,110,100]) (k:=1) (ps:=["self","steps"]) aR.ok iV (hr.mono (by omega)) (Zd 0) (Zc Zf Zh))))))))))))
    · refine(dJ.of (N:=["self","deed"]) (k:=n+18) XH Zfw λf cdv A outer s H E hr=>?_).mono (by omega)
      have hu:=gK hr;unfold HF;exact gm (ZrE (gn (C:=aA) (c:=[87,97,108,107]) (m:=[105,115,95,97,98,111,118,101]) (k:=17) (ps:=["self","words"]) aR.ok El (hr.mono (by omega)) (Zd 0) (Zc (Zz aF (Zd 1) Zf) Zh)) (gm (iT (gn (C:=aA) (c:=[87,97,108,107]) (m:=[103,111,95,116,104,114,111,117,103,104]) (k:=n+18) (ps:=["self","deeds"]) aR.ok Ox hr (Zd 0) (Zc (Zz aF (Zd 1) Zf) Zh)))) (iR (iT (gn (C:=aA) (c:=[87,97,108,107]) (m:=[103,111,95,116,104,114,111,117,103,104]) (k:=n+18) (ps:=["self","deeds"]) aR.ok Ox hr (Zd 0) (Zc (Zz aF (Zd 1) Zf) Zh))) (gm (iT (gn (C:=aA) (c:=[87,97,108,107]) (m:=[115,112,101,110,100]) (k:=1) (ps:=["self","steps"]) aR.ok iV (hr.mono (by omega)) (Zd 0) (Zc Zf Zh))))))
    · refine(dJ.of (N:=["self","deed"]) (k:=n+18) XJ Zft λf cdv A outer s H E hr=>?_).mono (by omega)
      have hu:=gK hr;unfold Nr;exact iR (Zme Ykr (gn (C:=aA) (c:=[87,97,108,107]) (m:=[105,115,95,97,98,111,118,101]) (k:=17) (ps:=["self","words"]) aR.ok El (hr.mono (by omega)) (Zd 0) (Zc (Zz aF (Zd 1) Zf) Zh)) (iR (iT (gn (C:=aA) (c:=[87,97,108,107]) (m:=[103,111,95,116,104,114,111,117,103,104]) (k:=n+18) (ps:=["self","deeds"]) aR.ok Ox hr (Zd 0) (Zc (Zz aF (Zd 1) Zf) Zh))) (gm (iT (gn (C:=aA) (c:=[87,97,108,107]) (m:=[115,112,101,110,100]) (k:=1) (ps:=["self","steps"]) aR.ok iV (hr.mono (by omega)) (Zd 0) (Zc Zf Zh)))))) (gm (iT (gn (C:=aA) (c:=[87,97,108,107]) (m:=[115,112,101,110,100]) (k:=1) (ps:=["self","steps"]) aR.ok iV (hr.mono (by omega)) (Zd 0) (Zc Zf Zh))))
theorem ZfX:dz ["program","given"] ["program","given"] (Zm CZ):=⟨rfl,rfl,rfl,by decide +kernel,rfl,by decide +kernel,by decide +kernel⟩
theorem Zf0(A:cX K mg "refuse_bad_given" CZ ["program","given"])(T:Txt K mg){gO fO di:Yn}(XO:Ny K mg gO fO di):qe P w K mg base 1 "refuse_bad_given" ["program","given"] HJ:=qe.of (N:=["program","given"]) (k:=0) A ZfX λf cdv A outer s H E hr=>by have hu:=gK hr;unfold V3;exact gm (uo (b_ ((Zws hu)) (jq (id:="len") jE T.ju jF (Zc (Zd 1) Zh)) (jq (id:="len") jE T.ju jF (Zc (Zz aF (Zd 0) Zf) Zh))) (gm (ZjT (C:=fO) XO.AbO XO.Abo (Zc cH Zh))) (Hr kE))
theorem Ziv:dz ["program","given","most","walk"] ["program","given","most"] (Zm CV):=⟨rfl,rfl,rfl,by decide +kernel,rfl,by decide +kernel,by decide +kernel⟩
theorem ZmT(A:cX K mg "meaning" CV ["program","given","most"])(T:Txt K mg)(aR:yW K mg aA)(Oz:Cm P w K mg base 1 aA ["self","named","most"] yU)(Jb:dJ P w K mg base 31 aA "go_through" ["self","deeds"] Nu)(iV:dJ P w K mg base 1 aA "spend" ["self","steps"] gM)(Ja:qe P w K mg base 1 "refuse_bad_given" ["program","given"] HJ):qe P w K mg base 32 "meaning" ["program","given","most"] ur:=qe.of (N:=["program","given","most","walk"]) (k:=31) A Ziv λf cdv A outer s H E hr=>by have hu:=gK hr;unfold HN;exact iR (iT (ZnA (k:=1) (ps:=["program","given"]) Ja (hr.mono (by decide)) (Zc (Zd 0) (Zc (Zd 1) Zh)))) (iR (v9 (cB 3 Ziv.nd (ZyR (C:=aA) (c:=[87,97,108,107]) (k:=1) (ps:=["self","named","most"]) aR.ok Oz aR.mg (hr.mono (by decide)) (Zc (ZjH rfl T.YJ T.Jk (Zz aF (Zd 0) Zf) (Zd 1)) (Zc (Zd 2) Zh))))) (iR (iT (gn (C:=aA) (c:=[87,97,108,107]) (m:=[115,112,101,110,100]) (k:=1) (ps:=["self","steps"]) aR.ok iV (hr.mono (by decide)) (Zd 3) (Zc (Zv o9 Zf (jq (id:="len") jE T.ju jF (Zc (Zd 1) Zh))) Zh))) (iR (iT (gn (C:=aA) (c:=[87,97,108,107]) (m:=[103,111,95,116,104,114,111,117,103,104]) (k:=31) (ps:=["self","deeds"]) aR.ok Jb (hr.mono (by decide)) (Zd 3) (Zc (Zz aF (Zd 0) Zf) Zh))) (gm (v9 (gH (iB (Zc (rF (C:=aA) (c:=[87,97,108,107]) (m:=[110,117,109,98,101,114,115]) aR.ok aR.Pb (Zd 3)) (Zc (rF (C:=aA) (c:=[87,97,108,107]) (m:=[115,116,101,112,115]) aR.ok aR.Em (Zd 3)) Zh)))))))))
theorem Nz:dz ["script","k","cell","mixed"] ["script","k"] (Zm C_):=⟨rfl,rfl,rfl,by decide +kernel,rfl,by decide +kernel,by decide +kernel⟩
theorem Zkn(A:cX K mg "_law_draw" C_ ["script","k"])(T:Txt K mg):bA P w K mg base 1 "_law_draw" ["script","k"] eY:=bA.of (N:=["script","k","cell","mixed"]) (k:=0) A Nz λf cdv A outer s H E hr=>by have hu:=gK hr;unfold V4;exact Zn (cB 2 Nz.nd Zf) (Zn (fL (b_ nY (jq (id:="len") jE T.ju jF (Zc (Zd 0) Zh)) Zf) (Zq (cB 2 Nz.nd (Zv dH (Zz aF (Zd 0) (Zv dH (Zd 1) (jq (id:="len") jE T.ju jF (Zc (Zd 0) Zh)))) Zf))) kE) (Zn (cB 3 Nz.nd (Zv dH (Zv o9 (Zv dG (Zv dG (Zd 2) Zf) (Zv o9 Zf (Zv kJ (Zd 1) (jq (id:="max") ((Zvq rfl)) T.AcR ZuR (Zc Zf (Zc (jq (id:="len") jE T.ju jF (Zc (Zd 0) Zh)) Zh)))))) Zf) Zf)) (Zq (gH (Zv dH (Zv o9 (Zd 3) (Zd 3)) Zf)))))
theorem yX:dz ["script","i","letters","pad","place","tail","word"] ["script","i"] (Zm Dc):=⟨rfl,rfl,rfl,by decide +kernel,rfl,by decide +kernel,by decide +kernel⟩
theorem ZkN(A:cX K mg "_law_word" Dc ["script","i"])(T:Txt K mg)(h_:bA P w K mg base 1 "_law_draw" ["script","k"] eY):bA P w K mg base 2 "_law_word" ["script","i"] n8:=bA.of (N:=["script","i","letters","pad","place","tail","word"]) (k:=1) A yX λf cdv A outer s H E hr=>by have hu:=gK hr;unfold V5;exact Zn (cB 2 yX.nd cH) (Zn (cB 3 yX.nd (Zz aF (Zd 2) (Zv dH (cC (k:=1) (ps:=["script","k"]) h_ (hr.mono (by decide)) (Zc (Zd 0) (Zc Zf Zh))) Zf))) (Zn (cB 4 yX.nd (Zv dH (cC (k:=1) (ps:=["script","k"]) h_ (hr.mono (by decide)) (Zc (Zd 0) (Zc Zf Zh))) Zf)) (Zn (cB 5 yX.nd (Zv dH (cC (k:=1) (ps:=["script","k"]) h_ (hr.mono (by decide)) (Zc (Zd 0) (Zc Zf Zh))) (Zv vV Zf (Zd 4)))) (Zn (fL (b_ ((gJ hu)) (Zv dH (Zv kJ (cC (k:=1) (ps:=["script","k"]) h_ (hr.mono (by decide)) (Zc (Zd 0) (Zc Zf Zh))) Zf) Zf) Zf) (Zq (cB 5 yX.nd (Zv dH (cC (k:=1) (ps:=["script","k"]) h_ (hr.mono (by decide)) (Zc (Zd 0) (Zc (Zv dG Zf (Zd 1)) Zh))) (Zv vV Zf (Zd 4))))) kE) (Zn (cB 6 yX.nd (Zv dG (Zv dG (Zv o9 (Zd 3) (Zd 4)) (Zz aF (Zd 2) (Zv dH (Zv dG (Zd 1) (cC (k:=1) (ps:=["script","k"]) h_ (hr.mono (by decide)) (Zc (Zd 0) (Zc Zf Zh)))) Zf))) (Zv o9 (Zd 3) (Zd 5)))) (Zn (fL (b_ ((gJ hu)) (Zd 6) cH) (Zq (gH cH)) kE) (Zq (gH (Zd 6)))))))))
theorem Zfl:dz ["draw","some"] ["draw"] (Zm Dd):=⟨rfl,rfl,rfl,by decide +kernel,rfl,by decide +kernel,by decide +kernel⟩
theorem Zja(A:cX K mg "_law_number" Dd ["draw"])(T:Txt K mg):bA P w K mg base 1 "_law_number" ["draw"] rO:=bA.of (N:=["draw","some"]) (k:=0) A Zfl λf cdv A outer s H E hr=>by have hu:=gK hr;unfold V6;exact Zn (cB 1 Zfl.nd (iC (Zc (Zv dH (Zv kJ (Zd 0) Zf) Zf) (Zc (Zv dH (Zv kJ (Zd 0) Zf) Zf) (Zc (Zv dH (Zv o9 (Zv kJ (Zd 0) Zf) Zf) (Zv ZtF Zf Zf)) (Zc Zf Zh)))))) (Zq (gH (Zz aF (iC (Zc (Zz aF (Zd 1) (Zv dH (Zd 0) Zf)) (Zc (ug uh (Zz aF (Zd 1) (Zv dH (Zd 0) Zf))) Zh))) (Zv dH (Zv kJ (Zd 0) Zf) Zf))))
theorem yZ:dz ["script","at","names","limit","words","due","draw"] ["script","at","names","limit"] (Zm Df):=⟨rfl,rfl,rfl,by decide +kernel,rfl,by decide +kernel,by decide +kernel⟩
theorem ZlZ(A:cX K mg "_law_sum" Df ["script","at","names","limit"])(T:Txt K mg)(h_:bA P w K mg base 1 "_law_draw" ["script","k"] eY)(zB:bA P w K mg base 1 "_law_number" ["draw"] rO):bA P w K mg base 2 "_law_sum" ["script","at","names","limit"] pq:=bA.of (N:=["script","at","names","limit","words","due","draw"]) (k:=1) A yZ λf cdv A outer s H E hr=>by have hu:=gK hr;unfold V7;exact Zn (cB 4 yZ.nd (iC Zh)) (Zn (cB 5 yZ.nd Zf) (Zn (Us rfl (b_ nY (Zd 5) Zf) (Zn (cB 6 yZ.nd (cC (k:=1) (ps:=["script","k"]) h_ (hr.mono (by decide)) (Zc (Zd 0) (Zc (Zv dG (Zd 1) (jq (id:="len") jE T.ju jF (Zc (Zd 4) Zh))) Zh)))) (Zn (cB 5 yZ.nd (Zv vV (Zd 5) Zf)) (Zq (fL (CW.ct (Mh (b_ Zzg (Zv dG (jq (id:="len") jE T.ju jF (Zc (Zd 4) Zh)) (Zd 5)) (Zd 3)) (Uk (b_ Mq (Zv dH (Zd 6) Zf) Zf)))) (Zq (fL (b_ ((gJ hu)) (Zv dH (Zv kJ (Zd 6) Zf) Zf) Zf) (Zq (eX (iQ (Zd 4) (Zc (cC (k:=1) (ps:=["draw"]) zB (hr.mono (by decide)) (Zc (Zv kJ (Zd 6) Zf) Zh)) Zh)))) (Zq (eX (iQ (Zd 4) (Zc (Zz aF (Zd 2) (Zv dH (Zv kJ (Zd 6) Zf) (jq (id:="len") jE T.ju jF (Zc (Zd 2) Zh)))) Zh)))))) (Zq (fL (b_ ((gJ hu)) (Zv dH (Zd 6) Zf) Zf) (Zn (eX (iQ (Zd 4) (Zc cH Zh))) (Zq (cB 5 yZ.nd (Zv dG (Zd 5) Zf)))) (Zn (eX (iQ (Zd 4) (Zc (Zz aF (iC (Zc cH (Zc cH (Zc cH Zh)))) (Zv dH (Zv kJ (Zd 6) Zf) Zf)) Zh))) (Zq (cB 5 yZ.nd (Zv dG (Zd 5) Zf))))))))))) (Zq (gH (p_ (T:="tuple") Ce T.wQ Cg (Zc (Zd 4) Zh))))))
theorem Wi:dz ["frames","opens","body","top"] ["frames","opens"] (Zm Dg):=⟨rfl,rfl,rfl,by decide +kernel,rfl,by decide +kernel,by decide +kernel⟩
theorem Zi1(A:cX K mg "_law_closed" Dg ["frames","opens"])(T:Txt K mg):bA P w K mg base 1 "_law_closed" ["frames","opens"] wj:=bA.of (N:=["frames","opens","body","top"]) (k:=0) A Wi λf cdv A outer s H E hr=>by have hu:=gK hr;unfold V8;exact Zn (cB 2 Wi.nd (p_ (T:="tuple") Ce T.wQ Cg (Zc (Ho (Zd 0)) Zh))) (Zn (cB 3 Wi.nd (Ho (Zd 1))) (Zq (fL (b_ ((gJ hu)) (Zz aF (Zd 3) Zf) cH) (Zq (eX (iQ (Zz aF (Zd 0) (ug uh Zf)) (Zc (iB (Zc cH (Zc (Zz aF (Zd 3) Zf) (Zc (Zv dG (Zd 2) (Zz aF (Zd 3) Zf)) Zh)))) Zh)))) (Zq (fL (b_ ZyC (Zz aF (Zd 3) Zf) Mg) (Zn (eX (iQ (Zd 1) (Zc (iB (Zc (Zz aF (Zd 3) Zf) (Zc (Zz aF (Zd 3) Zf) (Zc (Zd 2) Zh)))) Zh))) (Zq (eX (iQ (Zd 0) (Zc (iC Zh) Zh))))) (Zq (eX (iQ (Zz aF (Zd 0) (ug uh Zf)) (Zc (iB (Zc cH (Zc (Zz aF (Zd 3) Zf) (Zc (Zz aF (Zd 3) Zf) (Zc (Zd 2) Zh))))) Zh)))))))))
theorem Ia:dz ["script","k","frames","opens","names","draw","name","some","less"] ["script","k","frames","opens","names"] (Zm Dh):=⟨rfl,rfl,rfl,by decide +kernel,rfl,by decide +kernel,by decide +kernel⟩
theorem ZiA(A:cX K mg "_law_opened" Dh ["script","k","frames","opens","names"])(T:Txt K mg)(h_:bA P w K mg base 1 "_law_draw" ["script","k"] eY)(wN:bA P w K mg base 2 "_law_word" ["script","i"] n8)(wO:bA P w K mg base 2 "_law_sum" ["script","at","names","limit"] pq):bA P w K mg base 3 "_law_opened" ["script","k","frames","opens","names"] CJ:=bA.of (N:=["script","k","frames","opens","names","draw","name","some","less"]) (k:=2) A Ia λf cdv A outer s H E hr=>by have hu:=gK hr;unfold HW;exact Zn (cB 5 Ia.nd (cC (k:=1) (ps:=["script","k"]) h_ (hr.mono (by decide)) (Zc (Zd 0) (Zc (Zv dG Zf (Zd 1)) Zh)))) (Zn (fL (b_ ((gJ hu)) (Zv dH (Zd 5) Zf) Zf) (Zn (cB 6 Ia.nd (cC (k:=2) (ps:=["script","i"]) wN (hr.mono (by decide)) (Zc (Zd 0) (Zc (Zv dG Zf (jq (id:="len") jE T.ju jF (Zc (Zd 3) Zh))) Zh)))) (Zn (eX (iQ (Zz aF (Zd 2) (ug uh Zf)) (Zc (iB (Zc cH (Zc (Zd 6) (Zc (iB (Zc (Zv dH (Zv kJ (Zd 5) Zf) Zf) Zh)) Zh)))) Zh))) (Zn (cB 7 Ia.nd (iC (Zc (iB (Zc (Zd 6) Zh)) (Zc (iB (Zc cH (Zc (Zd 6) (Zc Zf Zh)))) (Zc (iB (Zc cH (Zc (Zd 6) (Zc Zf Zh)))) (Zc (iB (Zc cH (Zc (Zd 6) (Zc Zf Zh)))) (Zc (iB (Zc (Zv vV Zf (Zv dH (Zv kJ (Zd 5) Zf) Zf)) Zh)) Zh))))))) (Zn (cB 8 Ia.nd (Zz aF (iC (Zc (iB (Zc (iB (Zc cH (Zc (Zd 6) (Zc (iB (Zc cH (Zc (Zd 6) (Zc Zf Zh)))) Zh)))) Zh)) (Zc (iB Zh) Zh))) (p_ (T:="int") Vo T.zF Vd (Zc (GZ ((gJ hu)) (Zv dH (Zv kJ (Zd 5) Zf) Zf) Zf) Zh)))) (Zq (eX (iQ (Zd 3) (Zc (iB (Zc cH (Zc (Zz aF (Zd 7) (Zv dH (Zv dH (Zv kJ (Zd 5) Zf) Zf) Zf)) (Zc (Zd 8) Zh)))) Zh)))))))) (Zq (eX (iQ (Zd 3) (Zc (iB (Zc cH (Zc (cC (k:=2) (ps:=["script","at","names","limit"]) wO (hr.mono (by decide)) (Zc (Zd 0) (Zc (Zv dG Zf (Zv o9 Zf (Zd 1))) (Zc (Zd 4) (Zc Zf Zh))))) (Zc Mg Zh)))) Zh))))) (Zq (eX (iQ (Zd 2) (Zc (iC Zh) Zh)))))
theorem y_:dz ["script","cells","names","frames","opens","k","cell","deep","one"] ["script","cells","names"] (Zm Di):=⟨rfl,rfl,rfl,by decide +kernel,rfl,by decide +kernel,by decide +kernel⟩
theorem Zjm(A:cX K mg "_law_deeds" Di ["script","cells","names"])(T:Txt K mg)(h_:bA P w K mg base 1 "_law_draw" ["script","k"] eY)(wO:bA P w K mg base 2 "_law_sum" ["script","at","names","limit"] pq)(Jc:bA P w K mg base 1 "_law_closed" ["frames","opens"] wj)(O1:bA P w K mg base 3 "_law_opened" ["script","k","frames","opens","names"] CJ):bA P w K mg base 4 "_law_deeds" ["script","cells","names"] Nv:=bA.of (N:=["script","cells","names","frames","opens","k","cell","deep","one"]) (k:=3) A y_ λf cdv A outer s H E hr=>by have hu:=gK hr;unfold V9;exact Zn (cB 3 y_.nd (iC (Zc (iC Zh) Zh))) (Zn (cB 4 y_.nd (iC Zh)) (Zn (ZsK rfl rfl (ZsA T.Abp (Zd 1)) (ZtX rfl (ZlL 5 y_.nd (ZlL 6 y_.nd Zso))) (Zn (cB 7 y_.nd (p_ (T:="int") Vo T.zF Vd (Zc (GZ ((gJ hu)) (Zd 5) (Zv dH (cC (k:=1) (ps:=["script","k"]) h_ (hr.mono (by decide)) (Zc (Zd 0) (Zc Zf Zh))) Zf)) Zh))) (Zn (cB 8 y_.nd (cC (k:=2) (ps:=["script","at","names","limit"]) wO (hr.mono (by decide)) (Zc (Zd 0) (Zc (Zv dG Zf (Zv o9 Zf (Zd 5))) (Zc (Zd 2) (Zc (Zz aF (iC (Zc Zf (Zc Zf Zh))) (Zd 7)) Zh)))))) (Zq (fL (b_ Mq (Zv dH (Zd 6) Zf) Zf) (Zq (eX (iQ (Zz aF (Zd 3) (ug uh Zf)) (Zc (iB (Zc cH (Zc (Zz aF (Zd 2) (Zv dH (Zv kJ (Zd 6) Zf) Zf)) (Zc (Zd 8) Zh)))) Zh)))) (Zq (fL (b_ ((gJ hu)) (Zv dH (Zd 6) Zf) Zf) (Zq (eX (iQ (Zz aF (Zd 3) (ug uh Zf)) (Zc (iB (Zc cH (Zc (Zd 8) (Zc (cC (k:=2) (ps:=["script","at","names","limit"]) wO (hr.mono (by decide)) (Zc (Zd 0) (Zc (Zv dG Zf (Zv o9 Zf (Zd 5))) (Zc (Zd 2) (Zc (Zz aF (iC (Zc Zf (Zc Zf Zh))) (Zd 7)) Zh))))) Zh)))) Zh)))) (Zq (fL (CW.ct (G5 (b_ Mq (Zv dH (Zd 6) Zf) Zf) (G4 (b_ Mq (jq (id:="len") jE T.ju jF (Zc (Zd 4) Zh)) Zf)))) (Zq (eX (cC (k:=3) (ps:=["script","k","frames","opens","names"]) O1 (hr.mono (by decide)) (Zc (Zd 0) (Zc (Zd 5) (Zc (Zd 3) (Zc (Zd 4) (Zc (Zd 2) Zh)))))))) (Zq (fL (CW.ct (G5 (b_ ((gJ hu)) (Zv dH (Zd 6) Zf) Zf) (G4 (b_ nY (jq (id:="len") jE T.ju jF (Zc (Zd 4) Zh)) Zf)))) (Zq (eX (cC (k:=1) (ps:=["frames","opens"]) Jc (hr.mono (by decide)) (Zc (Zd 3) (Zc (Zd 4) Zh))))) (Zq (eX (iQ (Zz aF (Zd 3) (ug uh Zf)) (Zc (iB (Zc cH (Zc (Zd 8) Zh))) Zh))))))))))))))) (Zn (Us rfl (b_ nY (jq (id:="len") jE T.ju jF (Zc (Zd 4) Zh)) Zf) (Zq (eX (cC (k:=1) (ps:=["frames","opens"]) Jc (hr.mono (by decide)) (Zc (Zd 3) (Zc (Zd 4) Zh)))))) (Zq (gH (p_ (T:="tuple") Ce T.wQ Cg (Zc (Zz aF (Zd 3) Zf) Zh)))))))
theorem Wj:dz ["script","names","taken"] ["script"] (Zm Dj):=⟨rfl,rfl,rfl,by decide +kernel,rfl,by decide +kernel,by decide +kernel⟩
theorem ZhV(A:cX K mg "_law_program" Dj ["script"])(T:Txt K mg)(h_:bA P w K mg base 1 "_law_draw" ["script","k"] eY)(wN:bA P w K mg base 2 "_law_word" ["script","i"] n8)(O2:bA P w K mg base 4 "_law_deeds" ["script","cells","names"] Nv):bA P w K mg base 5 "_law_program" ["script"] HX:=bA.of (N:=["script","names","taken"]) (k:=4) A Wj λf cdv A outer s H E hr=>by have hu:=gK hr;unfold V_;exact Zn (Zla (N':=["script","names","taken","k"]) 1 (Hj rfl (by kernel_rfl)) rfl rfl Wj.nd (ZjF T.YB Zf) (λC cl s H ex=>⟨(rD 3 ((show Ad (["script","names","taken","k"]:List aj)by decide +kernel))),Mu,(cC (k:=2) (ps:=["script","i"]) wN (hr.mono (by decide)) (Zc (Zd 0) (Zc (Zd 3) Zh)))⟩)) (Zn (cB 2 Wj.nd (p_ (T:="tuple") Ce T.wQ Cg (Zc (Um Vc (Zd 1) Ul (Mj (Zv dH (cC (k:=1) (ps:=["script","k"]) h_ (hr.mono (by decide)) (Zc (Zd 0) (Zc Zf Zh))) Zf))) Zh))) (Zq (gH (iB (Zc (Zd 2) (Zc (cC (k:=4) (ps:=["script","cells","names"]) O2 (hr.mono (by decide)) (Zc (Zd 0) (Zc (Um Vc (Zd 0) Ul (Mj Zf)) (Zc (Zv dG (Zd 1) (iC (Zc (cC (k:=2) (ps:=["script","i"]) wN (hr.mono (by decide)) (Zc (Zd 0) (Zc Zf Zh))) Zh))) Zh)))) Zh))))))
theorem Zf3:dz ["script","program","some"] ["script","program"] (Zm Dk):=⟨rfl,rfl,rfl,by decide +kernel,rfl,by decide +kernel,by decide +kernel⟩
theorem Zjg(A:cX K mg "_law_given" Dk ["script","program"])(T:Txt K mg)(h_:bA P w K mg base 1 "_law_draw" ["script","k"] eY)(zB:bA P w K mg base 1 "_law_number" ["draw"] rO):bA P w K mg base 2 "_law_given" ["script","program"] HY:=bA.of (N:=["script","program","some"]) (k:=1) A Zf3 λf cdv A outer s H E hr=>by have hu:=gK hr;unfold Wa;exact Zn (Zla (N':=["script","program","some","k"]) 2 (Hj rfl (by kernel_rfl)) rfl rfl Zf3.nd (ZjF T.YB (jq (id:="len") jE T.ju jF (Zc (Zz aF (Zd 1) Zf) Zh))) (λC cl s H ex=>⟨(rD 3 ((show Ad (["script","program","some","k"]:List aj)by decide +kernel))),Mu,(cC (k:=1) (ps:=["script","k"]) h_ (hr.mono (by decide)) (Zc (Zd 0) (Zc (Zv dG Zf (Zd 3)) Zh)))⟩)) (Zq (gH (p_ (T:="tuple") Ce T.wQ Cg (Zc (ZwD (N':=["script","program","some","draw"]) (Hj rfl (by kernel_rfl)) rfl rfl (v4 (Zd 2)) (λC cl s H ex=>⟨(rD 3 ((show Ad (["script","program","some","draw"]:List aj)by decide +kernel))),Mu,(Zv o9 (cC (k:=1) (ps:=["draw"]) zB (hr.mono (by decide)) (Zc (Zd 3) Zh)) (Zz aF (iC (Zc Zf (Zc (Zv ZtF Zf Zf) Zh))) (Zv dH (Zv kJ (Zd 3) Zf) Zf)))⟩)) Zh))))
theorem Ib:dz ["words","names","cells","count","done","word","one","other"] ["words","names","cells","count"] (Zm Dl):=⟨rfl,rfl,rfl,by decide +kernel,rfl,by decide +kernel,by decide +kernel⟩
theorem Zjn(A:cX K mg "_law_worth" Dl ["words","names","cells","count"])(T:Txt K mg):bA P w K mg base 1 "_law_worth" ["words","names","cells","count"] iU:=bA.of (N:=["words","names","cells","count","done","word","one","other"]) (k:=0) A Ib λf cdv A outer s H E hr=>by have hu:=gK hr;unfold Wb;exact Zn (cB 4 Ib.nd (iC Zh)) (Zn (Mm rfl rfl (v4 (ZxS (Zd 0) (Mj (ug uh Zf)))) (rD 5 Ib.nd) (Zq (fL (yE (Ci .int T.uD T.zF (Zd 5))) (Zn (eX (iQ (Zd 4) (Zc (Zd 5) Zh))) (Zq (o_ (Zd 3) Zf (Zv dG (Zz aF (Zd 3) Zf) Zf)))) (Zq (fL (b_ ((gJ hu)) (Zd 5) cH) (Zn (eX (iQ (Zd 4) (Zc (MF hu (Zd 2) (Ho (Zd 4)) Zf) Zh))) (Zq (o_ (Zd 3) Zf (Zv dG (Zz aF (Zd 3) Zf) Zf)))) (Zq (fL (b_ ((Zy2 hu)) (Zd 5) (iB (Zc cH (Zc cH (Zc cH Zh))))) (Zn (cB 6 Ib.nd (Ho (Zd 4))) (Zn (cB 7 Ib.nd (Ho (Zd 4))) (Zn (o_ (Zd 3) Zf (Zv dG (Zz aF (Zd 3) Zf) Zf)) (Zq (eX (iQ (Zd 4) (Zc (Zub hu (ZwU (Vg cH (Zv dG (Zd 6) (Zd 7)) (Vg cH (Zv vV (Zd 6) (Zd 7)) (Vg cH (p_ (T:="int") Vo T.zF Vd (Zc (GZ nY (Zd 6) (Zd 7)) Zh)) Zu9)))) (Zd 5)) Zh))))))) (Zn (eX (iQ (Zd 4) (Zc (MF hu (Zd 1) (Zd 5) Zf) Zh))) (Zq (o_ (Zd 3) Zf (Zv dG (Zz aF (Zd 3) Zf) Zf))))))))))) (Zq (gH (Zz aF (Zd 4) Zf))))
theorem NK:dz ["deeds","names","cells","numbers","count","deed","number"] ["deeds","names","cells","numbers","count"] (Zm Dm):=⟨rfl,rfl,rfl,by decide +kernel,rfl,by decide +kernel,by decide +kernel⟩
theorem Zku(A:cX K mg "_law_gone" Dm ["deeds","names","cells","numbers","count"])(T:Txt K mg)(qp:bA P w K mg base 1 "_law_worth" ["words","names","cells","count"] iU):bA P w K mg base 9 "_law_gone" ["deeds","names","cells","numbers","count"] Nx:=by
  have all:∀n:Nat,bA P w K mg base (n+2) "_law_gone" ["deeds","names","cells","numbers","count"] (n_ n):=by
    intro n
    induction n with
    |zero=>exact bA.of (N:=["deeds","names","cells","numbers","count","deed","number"]) (k:=1) A NK λf cdv A outer s H E hr=>Zsg|succ n IH=>refine(bA.of (N:=["deeds","names","cells","numbers","count","deed","number"]) (k:=n+2) A NK λf cdv A outer s H E hr=>?_).mono (by omega);have hu:=gK hr;unfold H_;exact Zq (Mm rfl rfl (v4 (Zd 0)) (rD 5 NK.nd) (Zn (fL (b_ nY (Zz aF (Zd 4) Zf) Zf) (Zq ZsB) kE) (Zq (fL (b_ ((gJ hu)) (Zz aF (Zd 5) Zf) cH) (Zn (Zob hu (Zd 1) (Zz aF (Zd 5) Zf) (cC (k:=1) (ps:=["words","names","cells","count"]) qp (hr.mono (by omega)) (Zc (Zz aF (Zd 5) Zf) (Zc (Zd 1) (Zc (Zd 2) (Zc (Zd 4) Zh)))))) (Zq (o_ (Zd 4) Zf (Zv dG (Zz aF (Zd 4) Zf) Zf)))) (Zq (fL (b_ ((gJ hu)) (Zz aF (Zd 5) Zf) cH) (Zn (cB 6 NK.nd (cC (k:=1) (ps:=["words","names","cells","count"]) qp (hr.mono (by omega)) (Zc (Zz aF (Zd 5) Zf) (Zc (Zd 1) (Zc (Zd 2) (Zc (Zd 4) Zh)))))) (Zn (Zob hu (Zd 2) (Zd 6) (cC (k:=1) (ps:=["words","names","cells","count"]) qp (hr.mono (by omega)) (Zc (Zz aF (Zd 5) Zf) (Zc (Zd 1) (Zc (Zd 2) (Zc (Zd 4) Zh)))))) (Zq (o_ (Zd 4) Zf (Zv dG (Zz aF (Zd 4) Zf) Zf))))) (Zq (fL (b_ ((gJ hu)) (Zz aF (Zd 5) Zf) cH) (Zn (eX (iQ (Zd 3) (Zc (cC (k:=1) (ps:=["words","names","cells","count"]) qp (hr.mono (by omega)) (Zc (Zz aF (Zd 5) Zf) (Zc (Zd 1) (Zc (Zd 2) (Zc (Zd 4) Zh))))) Zh))) (Zq (o_ (Zd 4) Zf (Zv dG (Zz aF (Zd 4) Zf) Zf)))) (Zq (fL (CW.ct (G5 (b_ ((gJ hu)) (Zz aF (Zd 5) Zf) cH) (G4 (b_ nY (cC (k:=1) (ps:=["words","names","cells","count"]) qp (hr.mono (by omega)) (Zc (Zz aF (Zd 5) Zf) (Zc (p_ (T:="dict") ((ZpD rfl)) T.Jk Ve (Zc (Zd 1) Zh)) (Zc (p_ (T:="dict") ((ZpD rfl)) T.Jk Ve (Zc (Zd 2) Zh)) (Zc (iC (Zc Zf Zh)) Zh))))) Zf)))) (Zn (eX (cC (k:=1) (ps:=["words","names","cells","count"]) qp (hr.mono (by omega)) (Zc (Zz aF (Zd 5) Zf) (Zc (Zd 1) (Zc (Zd 2) (Zc (Zd 4) Zh)))))) (Zn (o_ (Zd 4) Zf (Zv dG (Zz aF (Zd 4) Zf) Zf)) (Zq (eX (cC (k:=n+2) (ps:=["deeds","names","cells","numbers","count"]) IH hr (Zc (Zz aF (Zd 5) Zf) (Zc (Zd 1) (Zc (Zd 2) (Zc (Zd 3) (Zc (Zd 4) Zh)))))))))) (Zq (fL (b_ ((gJ hu)) (Zz aF (Zd 5) Zf) cH) (Zn (eX (cC (k:=1) (ps:=["words","names","cells","count"]) qp (hr.mono (by omega)) (Zc (Zz aF (Zd 5) Zf) (Zc (Zd 1) (Zc (Zd 2) (Zc (Zd 4) Zh)))))) (Zn (o_ (Zd 4) Zf (Zv dG (Zz aF (Zd 4) Zf) Zf)) (Zq (eX (cC (k:=n+2) (ps:=["deeds","names","cells","numbers","count"]) IH hr (Zc (Zz aF (Zd 5) Zf) (Zc (Zd 1) (Zc (Zd 2) (Zc (Zd 3) (Zc (Zd 4) Zh)))))))))) (Zn (Us rfl (CW.ct (G5 (b_ Zyt (Zz aF (Zd 4) Zf) Zf) (G4 (b_ nY (cC (k:=1) (ps:=["words","names","cells","count"]) qp (hr.mono (by omega)) (Zc (Zz aF (Zd 5) Zf) (Zc (Zd 1) (Zc (Zd 2) (Zc (Zd 4) Zh))))) Zf)))) (Zn (o_ (Zd 4) Zf (Zv dG (Zz aF (Zd 4) Zf) Zf)) (Zn (eX (cC (k:=n+2) (ps:=["deeds","names","cells","numbers","count"]) IH hr (Zc (Zz aF (Zd 5) Zf) (Zc (Zd 1) (Zc (Zd 2) (Zc (Zd 3) (Zc (Zd 4) Zh))))))) (Zq (o_ (Zd 4) Zf (Zv dG (Zz aF (Zd 4) Zf) Zf)))))) (Zq (o_ (Zd 4) Zf (Zv dG (Zz aF (Zd 4) Zf) Zf))))))))))))))))
  exact all 7
theorem NP:dz ["program","given","bound","caught","e"] ["program","given","bound"] (Zm Dn):=⟨rfl,rfl,rfl,by decide +kernel,rfl,by decide +kernel,by decide +kernel⟩
theorem Zjl(A:cX K mg "_law_spent" Dn ["program","given","bound"])(T:Txt K mg){gO fO di:Yn}(XO:Ny K mg gO fO di)(Jg:qe P w K mg base 32 "meaning" ["program","given","most"] ur):bA P w K mg base 33 "_law_spent" ["program","given","bound"] CK:=bA.of (N:=["program","given","bound","caught","e"]) (k:=32) A NP λf cdv A outer s H E hr=>by have hu:=gK hr;unfold Wc;exact Zn (cB 3 NP.nd Mg) (Zn (ZuU (cs:=[[66,97,100,71,105,118,101,110],[83,112,101,110,116]]) (CE:=gO) 4 NP.nd XO.Aar XO.AaT (λM_ E'=>(gm (iT (ZnA (k:=32) (ps:=["program","given","most"]) Jg (hr.mono (by decide)) (Zc (Zd 0) (Zc (Zd 1) (Zc (Zd 2) Zh))))))) (λA' E'=>(Zq (cB 3 NP.nd (Zd 4))))) (Zq (gH (ZxE (Zrg (C:=di) T.uD XO.X5 XO.Acz (Zd 3)) (ZwT (ZpX (T:="ValueError") T.uD T.Abf ZhW XO.Abe (Zd 3)))))))
theorem za:dz ["script","program","given","numbers","count","found","number"] ["script"] (Zm ut):=⟨rfl,rfl,rfl,by decide +kernel,rfl,by decide +kernel,by decide +kernel⟩
theorem Zuz{f:Yn}{fd:j7}(F:pW K "law" "law" ut f fd)(T:Txt K mg)(Ph:bA P w K mg base 32 "meaning" ["program","given","most"] ur)(OD:bA P w K mg base 5 "_law_program" ["script"] HX)(O4:bA P w K mg base 2 "_law_given" ["script","program"] HY)(O5:bA P w K mg base 9 "_law_gone" ["deeds","names","cells","numbers","count"] Nx)(Jd:bA P w K mg base 33 "_law_spent" ["program","given","bound"] CK):fU P w K mg base j_ 34 f fd ["script"] (rC K 1 ZnI):=Uq (N:=["script","program","given","numbers","count","found","number"]) (k:=33) F za λcdv A outer s H E hr=>by have hu:=gK hr;unfold Wd;exact Zn (cB 1 za.nd (cC (k:=5) (ps:=["script"]) OD (hr.mono (by decide)) (Zc (Zd 0) Zh))) (Zn (cB 2 za.nd (cC (k:=2) (ps:=["script","program"]) O4 (hr.mono (by decide)) (Zc (Zd 0) (Zc (Zd 1) Zh)))) (Zn (cB 3 za.nd (iC Zh)) (Zn (cB 4 za.nd (iC (Zc (Zv o9 Zf (jq (id:="len") jE T.ju jF (Zc (Zd 2) Zh))) Zh))) (Zn (eX (cC (k:=9) (ps:=["deeds","names","cells","numbers","count"]) O5 (hr.mono (by decide)) (Zc (Zz aF (Zd 1) Zf) (Zc (ZjH rfl T.YJ T.Jk (Zz aF (Zd 1) Zf) (Zd 2)) (Zc ZqI (Zc (Zd 3) (Zc (Zd 4) Zh))))))) (Zn (fL (b_ nY (Zz aF (Zd 4) Zf) Zf) (Zq (gH (cC (k:=33) (ps:=["program","given","bound"]) Jd (hr.mono (by decide)) (Zc (Zd 1) (Zc (Zd 2) (Zc Zf Zh)))))) kE) (Zn (fL (CW.ct (G5 (b_ nY (Zz aF (Zd 4) Zf) Zf) (G4 (Mi (yE (cC (k:=33) (ps:=["program","given","bound"]) Jd (hr.mono (by decide)) (Zc (Zd 1) (Zc (Zd 2) (Zc (Zv vV (Zz aF (Zd 4) Zf) Zf) Zh))))))))) (Zq (gH Uj)) kE) (Zn (cB 5 za.nd (cC (k:=32) (ps:=["program","given","most"]) Ph (hr.mono (by decide)) (Zc (Zd 1) (Zc (Zd 2) (Zc (Zz aF (Zd 4) Zf) Zh))))) (Zn (fL (CW.ct (Mh (Mi (yE (Ci .tuple T.uD T.wQ (Zd 5)))) (Mh (b_ ((Zws hu)) (jq (id:="len") jE T.ju jF (Zc (Zd 5) Zh)) Zf) (Uk (Mi (yE (Ci .list T.uD T.AcK (Zz aF (Zd 5) Zf)))))))) (Zq (gH Uj)) kE) (Zn (Mm rfl rfl (v4 (Zv dG (Zz aF (Zd 5) Zf) (iC (Zc (Zz aF (Zd 5) Zf) Zh)))) (rD 6 za.nd) (Zq (fL (CW.ct (Mh (Mi (yE (Ci .int T.uD T.zF (Zd 6)))) (Uk (yE (Ci .bool T.uD T.AcJ (Zd 6)))))) (Zq (gH Uj)) kE))) (Zq (gH (GZ ((Zwn hu)) (Zd 5) (iB (Zc (Zd 3) (Zc (Zz aF (Zd 4) Zf) Zh)))))))))))))))
end
end Law
set_option maxHeartbeats 200000
namespace Law
open L3
theorem Te(n d:Nat):aC n d Yk=d:=rfl
theorem Tf(n d k:Nat):aC n d (Ya (k:Int))=jg k n:=by have h:¬((k:Int)<0):=(λz=>iN [_] [] 1 7211153 T1 z);simp only[aC,if_neg h,qM]
theorem Zqw{α:Type}(w:List α)(k:Nat):cutD w (Ya (k:Int)) Yk=w.drop k:=by
 unfold cutD;rw[Tf,Te];by_cases h:k<=w.length
 .rw[Rj h,xK (by simp)]
 .rw[Rh (by exact lB 1 1052737 T1 h),Yhx (Yl _),Yhx (by exact lB 1 1052737 T1 h)];simp
theorem Zp0{α:Type}(w:List α)(k:Nat):cutD w Yk (Ya (k:Int))=w.take k:=by
 unfold cutD;rw[Tf,Te];by_cases h:k<=w.length
 .rw[Rj h];simp
 .rw[Rh (by exact lB 1 1052737 T1 h),Nat.sub_zero,Yl7,xK (Yl _),xK (by exact lB 1 1052737 T1 h)]
theorem Ie{i j:Int}(h:-(2^64)<i/\i<2^64):ye i j=true:=by unfold ye;rw[u9];left;simp only[Y9,decide_eq_true_eq];exact h
theorem mul_r{i j:Int}(h:-(2^64)<j/\j<2^64):ye i j=true:=by unfold ye;rw[u9];right;simp only[Y9,decide_eq_true_eq];exact h
theorem ou(x:Int)(m:Nat)(h:0<m):∃a:Nat,x % (m:Int)=a/\a<m:=by have h1:=Ai x (b:=(m:Int)) (by exactλz=>iN [_] [] 2 416093702305 T1 z h);have h2:=Rv x (b:=(m:Int)) (by exact iN [_] [] 1 149491217 T1 h);exact⟨(x % (m:Int)).toNat,(tE h1).symm,by exact iN [_,_] [_] 2 18698308976785 T1 h2 (tE h1)⟩
variable{d:D}{M M':Store}
theorem NQ(h:M'.length=M.length):tidy M d M'= .ok d M':=by unfold tidy;rw[xK (qK h)];split <;>rfl
theorem jZ{i j:Int}(h:0<j/\j<1073741824):d9 (.int i) (.int j) M= .ok (.int (i / j)) M:=by simp only[ZjR,if_pos h]
variable{env:Zt}{ds:List D}
theorem iD{g:cF}(h:g env M= .ok ds M')(hl:decide (ds.length<=100)=true):bV g env M= .ok (.ref M'.length) (M'++[.lst ds]):=by have z:ds.length<=SZ:=Yu (of_decide_eq_true hl) (by decide);simp only[bV,h,R3.bind,if_pos z,alloc]
variable{xs:List D}{n:Nat}
theorem mZ{o t:E3}(ho:o env M= .ok (.ref n) M)(hM:M[n]?=Ya (.lst xs))(ht:t env M= .ok d M')(hM':M'[n]?=Ya (.lst xs))(hl:xs.length<SZ):
  Zr (aN aY bL o (Za t (Ze))) env M= .nx env (M'.set n (.lst (xs++[d]))):=by
 have e:aN aY bL o (Za t (Ze)) env M= .ok .non (M'.set n (.lst (xs++[d]))):=by simp only[aN,ho,R3.bind,vK,hM,Za,ht,Ze,Gv,hM',if_pos hl,if_true]
 rw[Zr,e]
variable{f:E3}
theorem NT{op:D->D->D->Store->R3 D}{g h:E3}{M M1 M2 M3 M4:Store}{a b c:D}(h1:f env M= .ok a M1)(h2:g env M1= .ok b M2)(h3:h env M2= .ok c M3)(h4:op a b c M3= .ok d M4):e3 op f g h env M= .ok d M4:=by simp only[e3,h1,h2,h3,h4,R3.bind]
noncomputable def dr(ns:List Int)(k:Nat):Int:=((((if 0<ns.length then ns.getD (k % ns.length) 0 % 2147483629 else 0)+3+86243*((k / fP 1 ns.length:Nat):Int))*69621 % 2147483629)*(((if 0<ns.length then ns.getD (k % ns.length) 0 % 2147483629 else 0)+3+86243*((k / fP 1 ns.length:Nat):Int))*69621 % 2147483629)) % 2147483587
theorem Ztw(ns:List Int)(k:Nat):0<=dr ns k:=Ai _ (by decide)
noncomputable abbrev SC(ns:List Int):D:=.bO (ns.map D.int)
theorem Wk{i j:Int}(h:-(2^64)<j/\j<2^64)(M:Store):eO (.int i) (.int j) M= .ok (.int (i*j)) M:=by rw[yg,if_pos (mul_r h)]
variable{ns:List Int}
theorem Zs5(hl:ns.length<=63)(k:Nat)(M:Store):eY [SC ns,.int k] M= .ok (.int (dr ns k)) M:=by
 refine(jC (M':=M) (d:=.int (dr ns k)) (env:=[Ya (SC ns),Ya (.int k),Yk,Yk]) ?_).trans (T8 rfl);have hlen:∀a b c:Option D,aO bW (Za (Zb 0) Ze) [Ya (SC ns),a,b,c] M= .ok (.int (ns.length:Int)) M:=λa b c=>by refine iK rfl ?_;rw[Lp,jP]
 have Adg:∀a b c:Option D,aO Bx (Za (eC (.int 1)) (Za (aO bW (Za (Zb 0) Ze)) Ze)) [Ya (SC ns),a,b,c] M= .ok (.int ((fP 1 ns.length:Nat):Int)) M:=λa b c=>by simp only[aO,Za,eC,R3.bind,Ze];have:=hlen a b c;simp only[aO,Za,R3.bind,Ze]at this;rw[this];simp only[Zqu];congr 2;split <;>omega
 have fin:∀z:Int,(Zu (aJ 3 (e2 aW (e2 eO (e2 aK (e2 aK (Zb 2) (eC (.int 3))) (e2 eO (eC (.int 86243)) (e2 d9 (Zb 1) (aO Bx (Za (eC (.int 1)) (Za (aO bW (Za (Zb 0) (Ze))) (Ze))))))) (eC (.int 69621))) (eC (.int 2147483629)))) (cU (e2 aW (e2 eO (Zb 3) (Zb 3)) (eC (.int 2147483587))))) [Ya (SC ns),Ya (.int k),Ya (.int z),Yk] M= .rt (.int ((((z+3+86243*((k / fP 1 ns.length:Nat):Int))*69621 % 2147483629)*((z+3+86243*((k / fP 1 ns.length:Nat):Int))*69621 % 2147483629)) % 2147483587)) M:=λz=>by
  have hz:0<fP 1 ns.length:=by omega
  rw[Zi (bY (d:=.int ((z+3+86243*((k / fP 1 ns.length:Nat):Int))*69621 % 2147483629)) (Zg (Zg (Zg (Zg rfl rfl rfl) (Zg rfl (Zg rfl (Adg _ _ _) (jZ (by omega))) (by rw[yg,if_pos (Ie (by decide))])) rfl) rfl (Wk (by decide) M)) rfl (dX (by decide))))];have b1:=Ai ((z+3+86243*(((k / fP 1 ns.length:Nat)):Int))*69621) (b:=2147483629) (by decide);have b2:=Rv ((z+3+86243*(((k / fP 1 ns.length:Nat)):Int))*69621) (b:=2147483629) (by decide);refine je (Zg (Zg rfl rfl (Wk (by omega) M)) rfl (dX (by decide)))
 unfold V4;rw[Zi (bY (d:=.int 0) rfl)];by_cases h0:0<ns.length
 .have e:((k:Int) % (ns.length:Int))=((k % ns.length:Nat):Int):=by omega
  have hk:k % ns.length<ns.length:=Nat.mod_lt _ h0;rw[Zi ((cV (Zg (hlen _ _ _) rfl (by rw[jo,decide_eq_true (by omega)]))).trans (bY (d:=.int (ns.getD (k % ns.length) 0 % 2147483629)) (Zg (Zg rfl (Zg rfl (hlen _ _ _) (dX (by omega))) (by rw[e,TY,jD,nG,Y5 hk,Q8,Y5 hk];rfl)) rfl (dX (by decide))))),dr,if_pos h0];exact fin _
 .rw[Zi (t7 (Zg (hlen _ _ _) rfl (by rw[jo,decide_eq_false (by omega)]))),dr,if_neg h0];exact fin 0
noncomputable def oA(x:List Nat):Bool:=decide (x=[97,100,100]\/x=[115,117,98]\/x=[109,111,114,101]\/x=[99,101,108,108])
variable{a b c:Nat}
theorem Zqn{p:Nat}(h:Yh a p++[c]++Yh b p≠[97,100,100]):oA (Yh a p++[c]++Yh b p)=false:=by
 refine decide_eq_false λz=>?_;rcases z with z|z|z|z
 .exact h z
 all_goals
  have hl:=congrArg Fp z;simp only[Yv,xM,Ys,pN]at hl
  match a,b,hl with
  | 0,b,hl=>
   first
    |(obtain rfl:b=2:=by omega);simp[Yh]at z;omega
    |(obtain rfl:b=3:=by omega);simp[Yh]at z;omega
  | 1,b,hl=>
   first
    |(obtain rfl:b=1:=by omega);simp[Yh]at z;omega
    |(obtain rfl:b=2:=by omega);simp[Yh]at z;omega
  | 2,b,hl=>
   first
    |(obtain rfl:b=0:=by omega);simp[Yh]at z;omega
    |(obtain rfl:b=1:=by omega);simp[Yh]at z;omega
  | 3,b,hl=>
   first
    |(obtain rfl:b=0:=by omega);simp[Yh]at z;omega
    |omega
  |a+4,b,hl=>omega
theorem qi(hl:ns.length<=63){k:Nat}{g:E3}(h0:f env M= .ok (SC ns) M)(h1:g env M= .ok (.int (k:Int)) M):Zw eY (Za f (Za g Ze)) env M= .ok (.int (dr ns k)) M:=yu h0 h1 (Zs5 hl k M)
noncomputable abbrev m5:List Nat:=[97,98,99,100,101,102,103,104,105,106,107,108,109,110,111,112,113,114,115,116,117,118,119,120,121,122]
theorem Zpn(x:Int):∃c:Nat,m5[(x % 26).toNat]?=Ya c/\∀M,Zk (.str m5) (.int (x % 26)) M= .ok (.str [c]) M:=by obtain⟨a,e,ha⟩:=ou x 26 (by decide);have hg:m5[a]?=Ya (m5[a]'ha):=Y5 ha;have e':x % 26=(a:Int):=e;refine⟨m5[a]'ha,by rw[e',qM];exact hg,λM=>?_⟩;rw[e',T3,jD,hg];exact if_pos (show m5.length<=SZ by decide)
theorem ZqC(k c:Nat):(Yh k [c]).flatten=Yh k c:=by
 induction k with
 |zero=>rfl|succ k ih=>rw[nF,qF,ih];rfl
theorem mul_str{k:Nat}(hk:k<100)(M:Store):eO (.str [c]) (.int (k:Int)) M= .ok (.str (Yh k c)) M:=by
 have h:[c].length*((k:Int)).toNat<=SZ/\(k:Int)<1000000/\ -1000000<(k:Int):=by refine⟨?_,by omega,by omega⟩;rw[xN,Rm,qM];exact Yu (xR hk) (by decide)
 rw[Zp1,if_pos h,qM,ZqC]
theorem add_str{x y:List Nat}(h:x.length+y.length<100)(M:Store):aK (.str x) (.str y) M= .ok (.str (x++y)) M:=by rw[Zru,if_pos (Yu (xR h) (by decide))]
def DG(w:List Nat):Prop:=(∃a b p c,w=Yh a p++[c]++Yh b p)/\w≠[97,100,100]/\w.length<=8
theorem DG.op{w:List Nat}(h:DG w):oA w=false:=by obtain⟨⟨a,b,p,c,rfl⟩,h,_⟩:=h;exact Zqn h
theorem zb{a b:List Nat}(h:a=b):bI (.str a) (.str b) M= .ok (.bl true) M:=by simp only[bI,Li,decide_eq_true h]
theorem rP{a b:List Nat}(h:¬a=b):bI (.str a) (.str b) M= .ok (.bl false) M:=by simp only[bI,Li,decide_eq_false h]
theorem Zro{p:Nat}(e:Yh a p++[c]++Yh b p=[97,100,100]):a=0:=by
 match a,b,e with
 |0,_,_=>rfl|1,0,e=>simp at e|1,1,e=>simp at e;omega|1,k+2,e=>simp[nF]at e
 |2,k,e=>simp[nF]at e;omega|a+3,b,e=>have:=congrArg Fp e;simp at this;omega
theorem NZ(hl:ns.length<=63)(i:Nat):∃w,DG w/\w[(dr ns 1 % 8).toNat]?=m5[(((i:Int)+dr ns 3) % 26).toNat]?/\∀M,n8 [SC ns,.int (i:Int)] M= .ok (.str w) M:=by
 obtain⟨p,hp0,hp⟩:=Zpn (dr ns 0);obtain⟨c,hc0,hc⟩:=Zpn ((i:Int)+dr ns 3);obtain⟨pl,ep,hpl⟩:=ou (dr ns 1) 8 (by decide);have ep:dr ns 1 % 8=(pl:Int):=ep;have e8:(8:Int)-(pl:Int)=((8-pl:Nat):Int):=by omega
 obtain⟨t1,et1,ht1⟩:=ou (dr ns 2) (8-pl) (by omega);obtain⟨t2,et2,ht2⟩:=ou (dr ns (4+i)) (8-pl) (by omega)
 let b:Bool:=decide (dr ns 1 / 8 % 2=1)
 have hb:decide (dr ns 1 / 8 % 2=1)=b:=rfl
 let t:Nat:=if b then t2 else t1
 have ht:t<8-pl:=by show(if b then t2 else t1)<_;split <;>assumption
 let w0:List Nat:=Yh pl p++[c]++Yh t p
 have hw0:w0.length<=8:=by simp only[w0,Yv,xM,Ys,pN];omega
 have main:∀M,n8 [SC ns,.int (i:Int)] M= .ok (.str (if w0=[97,100,100]then[97,100,100,100]else w0)) M:=λM=>by
  refine(jC (M':=M) (d:=.str (if w0=[97,100,100]then[97,100,100,100]else w0)) (env:=[Ya (SC ns),Ya (.int i),Yk,Yk,Yk,Yk,Yk]) ?_).trans (T8 rfl);unfold V5;rw[Zi (bY (d:=.str m5) rfl),Zi (bY (d:=.str [p]) (Zg rfl (Zg (qi hl (k:=0) rfl rfl) rfl (dX (by decide))) (hp M))),
   Zi (bY (d:=.int (pl:Int)) (Zg (qi hl (k:=1) rfl rfl) rfl ((dX (by decide)).trans (by rw[ep])))),
   Zi (bY (d:=.int (t1:Int)) (Zg (qi hl (k:=2) rfl rfl) (Zg rfl rfl (by rw[TJ,e8])) ((dX (by omega)).trans (by rw[et1]))))]
  have hc1:∀x:Option D,e2 bI (e2 aW (e2 d9 (Zw eY (Za (Zb 0) (Za (eC (.int 1)) (Ze)))) (eC (.int 8))) (eC (.int 2))) (eC (.int 1)) [Ya (SC ns),Ya (.int (i:Int)),Ya (.str m5),Ya (.str [p]),Ya (.int (pl:Int)),Ya (.int (t1:Int)),x] M= .ok (.bl b) M:=λx=>Zg (Zg (Zg (qi hl (k:=1) rfl rfl) rfl (jZ (by decide))) rfl (dX (by decide))) rfl rfl;have step:aQ (e2 bI (e2 aW (e2 d9 (Zw eY (Za (Zb 0) (Za (eC (.int 1)) (Ze)))) (eC (.int 8))) (eC (.int 2))) (eC (.int 1))) (aJ 5 (e2 aW (Zw eY (Za (Zb 0) (Za (e2 aK (eC (.int 4)) (Zb 1)) (Ze)))) (e2 iI (eC (.int 8)) (Zb 4)))) (gR) [Ya (SC ns),Ya (.int (i:Int)),Ya (.str m5),Ya (.str [p]),Ya (.int (pl:Int)),Ya (.int (t1:Int)),Yk] M= .nx [Ya (SC ns),Ya (.int (i:Int)),Ya (.str m5),Ya (.str [p]),Ya (.int (pl:Int)),Ya (.int (t:Int)),Yk] M:=by
   cases hbb:b with
   |false=>
    have h1:=hc1 Yk;rw[hbb]at h1;have et:t=t1:=by show(if b then t2 else t1)=t1;rw[hbb];rfl
    rw[bM h1,et];rfl
   |true=>
    have h1:=hc1 Yk;rw[hbb]at h1;have et:t=t2:=by show(if b then t2 else t1)=t2;rw[hbb];rfl
    rw[cV h1,et];exact bY (Zg (qi hl (k:=4+i) rfl (Zg rfl rfl rfl)) (Zg rfl rfl (by rw[TJ,e8])) ((dX (by omega)).trans (by rw[et2])))
  rw[Zi step,Zi (bY (d:=.str w0) (Zg (Zg (Zg rfl rfl (mul_str (by omega) M)) (Zg rfl (Zg (Zg rfl (qi hl (k:=3) rfl rfl) rfl) rfl (dX (by decide))) (hc M)) (add_str (by simp only[xM,xN];omega) M)) (Zg rfl rfl (mul_str (by omega) M)) (add_str (by simp only[Yv,xM,xN];omega) M)))];by_cases e:w0=[97,100,100]
  .rw[if_pos e];exact vO ((cV (Zg rfl rfl (zb e))).trans rfl)
  .rw[if_neg e,Zi (t7 (Zg rfl rfl (rP e)))];rfl
 have hat:w0[pl]?=Ya c:=by simp[w0]
 refine⟨_,?_,?_,main⟩
 .by_cases e:w0=[97,100,100]
  .rw[if_pos e];exact⟨⟨0,3,100,97,rfl⟩,by decide,by decide⟩
  .rw[if_neg e];exact⟨⟨pl,t,p,c,rfl⟩,e,hw0⟩
 .rw[ep,qM,hc0];by_cases e:w0=[97,100,100]
  .rw[if_pos e];have h0:pl=0:=Zro e;rw[e]at hat;rw[h0]at hat ⊢;exact hat
  .rw[if_neg e];exact hat
theorem Wl{d:Int}(hd:0<=d):∃z:Int,∀M,rO [.int d] M= .ok (.int z) M:=by
 obtain⟨a,ea,ha⟩:=ou d 4 (by decide);obtain⟨b,eb,hb⟩:=ou (d / 4) 2 (by decide);have ea:d % 4=(a:Int):=ea;have eb:d / 4 % 2=(b:Int):=eb
 let uH:List Int:=[d / 8 % 5,d / 8 % 1000,d / 8*4099 % 10^12,0]
 have h4:∃y:Int,(uH.map D.int)[a]?=Ya (.int y):=⟨uH[a]'ha,by rw[nG,Y5 (show a<uH.length from ha)];rfl⟩;obtain⟨y,hy⟩:=h4;have h2:∃z:Int,([D.int y,.int (-y)])[b]?=Ya (.int z):=by
  match b,hb with
  |0,_=>exact⟨_,rfl⟩|1,_=>exact⟨_,rfl⟩
 obtain⟨z,hz⟩:=h2;refine⟨z,λM=>?_⟩;refine(jC (M':=M++[.lst (uH.map D.int),.lst [.int y,.int (-y)]]) (d:=.int z) (env:=[Ya (.int d),Yk]) ?_).trans (Bu rfl);unfold V6;rw[Zi (bY (d:=.ref M.length) (M':=M++[.lst (uH.map D.int)]) (iD (Zo (Zg (Zg rfl rfl (jZ (by decide))) rfl (dX (by decide))) (Zo (Zg (Zg rfl rfl (jZ (by decide))) rfl (dX (by decide))) (Zo (Zg (Zg (Zg rfl rfl (jZ (by decide))) rfl (Wk (by decide) M)) (Zg rfl rfl rfl) (dX (by decide))) (Zo rfl rfl)))) rfl))];have ix:∀x:Option D,e2 Zk (Zb 1) (e2 aW (Zb 0) (eC (.int 4))) [Ya (.int d),Ya (.ref M.length)] (M++[.lst (uH.map D.int)])= .ok (.int y) (M++[.lst (uH.map D.int)]):=λ_=>Zg rfl (Zg rfl rfl (dX (by decide))) (gG (dU M _ []) (by rw[ea,jD];exact hy));refine je (Zg (iD (ds:=[.int y,.int (-y)]) (Zo (ix Yk) (Zo (dW (ix Yk) rfl) rfl)) rfl) (Zg (Zg rfl rfl (jZ (by decide))) rfl (dX (by decide))) ?_);rw[mG];refine gG (xs:=[.int y,.int (-y)]) ?_ (by rw[eb,jD];exact hz);rw[Yv];exact p6 M [.lst (uH.map D.int),.lst [.int y,.int (-y)]] 1
inductive Sm where
 |num (i:Int)|bR (x:List Nat)|fB (a:Sm)|two (o:Nat) (a b:Sm)
noncomputable abbrev jH:List Nat:=[99,101,108,108]
noncomputable def jr:Nat->List Nat
 |0=>[97,100,100]|1=>[115,117,98]|_=>[109,111,114,101]
noncomputable def Sm.flat:Sm->List D
 | .num i=>[.int i]|.bR x=>[.str x]|.fB a=>.str jH::a.flat|.two o a b=>.str (jr o)::(a.flat++b.flat)
noncomputable def Sm.good:Sm->Prop
 | .num _=>True|.bR x=>oA x=false|.fB a=>a.good|.two _ a b=>a.good/\b.good
noncomputable def Sm.all(Q:List Nat->Prop):Sm->Prop
 | .num _=>True|.bR x=>Q x|.fB a=>a.all Q|.two _ a b=>a.all Q/\b.all Q
variable{Q:List Nat->Prop}
theorem Sm.Jh{R:List Nat->Prop}(h:∀x,Q x->R x):∀t:Sm,t.all Q->t.all R
 | .num _,_=>trivial|.bR x,q=>h x q|.fB a,q=>a.Jh h q|.two _ a b,q=>⟨a.Jh h q.1,b.Jh h q.2⟩
theorem Sm.Ji:∀t:Sm,t.all (λx=>oA x=false)->t.good
 | .num _,_=>trivial|.bR _,q=>q|.fB a,q=>a.Ji q|.two _ a b,q=>⟨a.Ji q.1,b.Ji q.2⟩
noncomputable def Sm.parts:Sm->List Sm
 | .num _=>[]|.bR _=>[]|.fB a=>[a]|.two _ a b=>[a,b]
noncomputable def Sm.head:Sm->D
 | .num i=>.int i|.bR x=>.str x|.fB _=>.str jH|.two o _ _=>.str (jr o)
theorem Sm.Py(t:Sm):t.flat=t.head::(t.parts.map Sm.flat).flatten:=by cases t<;>simp[Sm.flat,Sm.head,Sm.parts]
noncomputable def ar:D->Nat
 | .str x=>if x=jH then 1 else if oA x=true then 2 else 0|_=>0
inductive m7:D->Prop
 |int (i:Int):m7 (.int i)
 |str (x:List Nat):m7 (.str x)
theorem rQ:∀(t:Sm),∀d∈t.flat,m7 d
 | .num i,d,h=>by rw[mF.mp h];exact .int i|.bR x,d,h=>by rw[mF.mp h];exact .str x|.fB a,d,h=>by
  rcases fj.mp h with h|h
  .rw[h];exact .str _
  .exact rQ a d h
 | .two o a b,d,h=>by
  rcases fj.mp h with h|h
  .rw[h];exact .str _
  .rcases sX.mp h with h|h
   .exact rQ a d h
   .exact rQ b d h
theorem ZuO(x:List Nat):rA x uq=if x=[97,100,100]then Ya 2 else if x=[115,117,98]then Ya 2 else if x=[109,111,114,101]then Ya 2 else if x=jH then Ya 1 else Yk:=rfl
theorem Zve{w:D}(h:m7 w)(M:Store):BP uq w (.int 0) M= .ok (.int (ar w:Nat)) M:=by
 cases h with
 |int i=>rfl|str x=>
  show(match rA x uq with|some i=>R3.ok (D.int i) M|none=>R3.ok (D.int 0) M)=_;rw[ZuO];by_cases h1:x=[97,100,100]
  .subst h1;rfl
  by_cases h2:x=[115,117,98]
  .subst h2;rfl
  by_cases h3:x=[109,111,114,101]
  .subst h3;rfl
  by_cases h4:x=jH
  .subst h4;rfl
  have:oA x=false:=decide_eq_false λz=>z.elim h1 λz=>z.elim h2 λz=>z.elim h3 h4;simp only[if_neg h1,if_neg h2,if_neg h3,if_neg h4,ar,this];rfl
noncomputable def stp(s:List (List D)×Nat)(w:D):List (List D)×Nat:=
 let s:=if s.2=0 then(s.1++[[]],1)else s
 (s.1.dropLast++[s.1.getLastD []++[w]],s.2-1+ar w)
theorem DK(ds:List (List D))(cur:List D)(l:Nat)(w:D):stp (ds++[cur],l+1) w=(ds++[cur++[w]],l+ar w):=by simp[stp]
theorem Zoc(ds:List (List D))(w:D):stp (ds,0) w=stp (ds++[[]],0+1) w:=by simp[stp]
theorem N5:∀(t:Sm),t.good->∀(ds:List (List D)) (cur:List D) (l:Nat) (r:List D),(t.flat++r).foldl stp (ds++[cur],l+1)=r.foldl stp (ds++[cur++t.flat],l)
 | .num i,_,ds,cur,l,r=>by simp only[Sm.flat,pM,qI,sY,DK];rfl|.bR x,h,ds,cur,l,r=>by
  have e:ar (.str x)=0:=by
   have h:oA x=false:=h;have h':x≠jH:=λz=>by subst z;exact absurd h (by decide)
   simp only[ar,if_neg h',h];rfl
  simp only[Sm.flat,pM,qI,sY,DK,e,Rk]
 | .fB a,h,ds,cur,l,r=>by have e:ar (.str jH)=1:=rfl;simp only[Sm.flat,pM,sY,DK,e,N5 a h,mG,qI]|.two o a b,h,ds,cur,l,r=>by
  have e:ar (.str (jr o))=2:=by
   match o with
   |0=>rfl|1=>rfl|_+2=>rfl
  have e2:l+2=l+1+1:=rfl;simp only[Sm.flat,pM,sY,DK,e,mG,e2,N5 a h.1,N5 b h.2,qI]
theorem Ig(t:Sm):∃w r,t.flat=w::r:=⟨_,_,t.Py⟩
theorem ZrO(t:Sm)(h:t.good)(ds:List (List D))(r:List D):(t.flat++r).foldl stp (ds,0)=r.foldl stp (ds++[t.flat],0):=by obtain⟨w,q,e⟩:=Ig t;have h1:=N5 t h ds [] 0 r;rw[qI]at h1;rw[←h1,e,pM,sY,sY,Zoc]
theorem Zn4:∀(ts:List Sm),(∀t∈ts,t.good)->∀ds,(ts.map Sm.flat).flatten.foldl stp (ds,0)=(ds++ts.map Sm.flat,0)
 |[],_,ds=>by simp|t::ts,h,ds=>by rw[Y8,qF,ZrO t (h t Yz),Zn4 ts λt ht=>h t (Yq _ ht)];simp
noncomputable def lY(n j:Nat):List D:=(dN j).map λk=>D.ref (n+1+k)
noncomputable def gq(M:Store)(done:List (List D)):Store:=M++ .lst (lY M.length done.length)::done.map MO.lst
theorem Znz(M:Store)(done:List (List D)):(gq M done).length=M.length+1+done.length:=by simp only[gq,Yv,Ys,jP];omega
theorem Ih(M:Store)(done:List (List D)):(gq M done)[M.length]?=Ya (.lst (lY M.length done.length)):=dU _ _ _
theorem ZqE(M:Store)(done:List (List D))(k:Nat):(gq M done)[M.length+1+k]?=(done[k]?).map MO.lst:=by rw[gq,uY,p6,xQ 1 k,Yhh,nG]
theorem Zi3(n j:Nat):lY n (j+1)=lY n j++[D.ref (n+1+j)]:=by simp[lY,List.range_succ]
theorem Ztb(M:Store)(done:List (List D)):(gq M done++[MO.lst []]).set M.length (MO.lst (lY M.length done.length++[D.ref (gq M done).length]))=gq M (done++[[]]):=by have h:=Gz M (MO.lst (lY M.length done.length)::done.map MO.lst++[MO.lst []]) 0 (MO.lst (lY M.length done.length++[D.ref (gq M done).length]));rw[Rk]at h;rw[Znz]at h ⊢;rw[gq,mG,h,gq,Yv,xN,Zi3];simp
theorem ZrH(M:Store)(ds:List (List D))(cur:List D)(w:D):(gq M (ds++[cur])).set (M.length+1+ds.length) (MO.lst (cur++[w]))=gq M (ds++[cur++[w]]):=by rw[gq,uY,Gz,gq];simp[xQ 1]
theorem ZjB{α:Type}{enc h:α->D}{it:gD}{g:G3}{n:Nat}{elt:E3}{I:Zt->Prop}{M:Store}:∀(as:List α) (acc:List D) (env:Zt),I env ->
  (∀a∈as,∀env,I env->∃cZ,g (enc a) env=Ya cZ/\I cZ/\∀x,elt cZ (M.set n (.lst x))= .ok (h a) (M.set n (.lst x)))->(∀x,locked it (M.set n (.lst x))=true)->n<M.length->acc.length+as.length<=SZ ->
  dF it g [] elt n (as.map enc) env (M.set n (.lst acc))= .ok (.ref n) (M.set n (.lst (acc++as.map h)))
 |[],acc,env,_,_,hl,_,_=>by simp only[Yes,T7,hl,if_true,qG]|a::as,acc,env,hI,hf,hl,hn,hz=>by
  obtain⟨cZ,hg,Wm,he⟩:=hf a Yz env hI;have gt:(M.set n (.lst acc))[n]?=Ya (.lst acc):=by simp[hn]
  have lt:acc.length<SZ:=by simp only[Ys]at hz;exact lC 1 2204024704001 T1 hz
  have ih:=ZjB as (acc++[h a]) cZ Wm (λb hb=>hf b (Yq _ hb)) hl hn (by simp only[Yv,Ys,pN]at hz ⊢;exact lC 1 0x21aec0cc02a1c0c01 T1 hz);simp only[Y8,Ly,hl,if_true,hg,Lx,Zo7,R3.bind,he,gt,lt,List.set_set];rw[ih];simp
theorem Wn{α:Type}{enc h:α->D}{own:Nat}{i:I3}{g:G3}{elt:E3}{M M1:Store}{lock:Option Nat}{as:List α}(I:Zt->Prop)(hi:i env M= .ok ⟨as.map enc,lock⟩ M1)(AcS:∀n,lock=Ya n->M1[n]?=Ya (.lst (as.map enc)))(hI:I (env++Yh own Yk))(hf:∀a∈as,∀env,I env->∃cZ,g (enc a) env=Ya cZ/\I cZ/\∀x,elt cZ (M1++[.lst x])= .ok (h a) (M1++[.lst x]))(hz:as.length<=100000):
  mV i own g [] elt env M= .ok (.ref M1.length) (M1++[.lst (as.map h)]):=by
 have st:∀x:List D,(M1++[MO.lst []]).set M1.length (.lst x)=M1++[.lst x]:=λx=>by simp
 rw [Zqa hi];have:=ZjB (enc:=enc) (h:=h) (it:=⟨as.map enc,lock⟩) (g:=g) (n:=M1.length) (elt:=elt) (I:=I) (M:=M1++[.lst []]) as [] (env++Yh own Yk) hI
  (λa ha e he=>by obtain⟨e1,h1,h2,h3⟩:=hf a ha e he;exact⟨e1,h1,h2,λx=>by rw[st];exact h3 x⟩)
  (λx=>by
   rw[st];cases lock with
   |none=>rfl|some n=>simp only[locked,decide_eq_true_eq];exact cW (AcS n rfl) _) (by simp) (by simp;exact lA 1 0xf42405b00186a05b001 T1 hz)
 rw[st,st]at this;simpa using this
theorem ZmP{x:List D}(h:M[n]?=Ya (.lst x)):mQ [.ref n] M= .ok (.tup x) M:=by simp[h]
noncomputable abbrev Wo:S3:=Zu (aQ (e2 bI (Zb 2) (eC (.int 0))) (Zu (Zr (aN aY bL (Zb 1) (Za (bV (Ze)) (Ze)))) (aJ 2 (eC (.int 1)))) (gR)) (Zu (Zr (aN aY bL (e2 Zk (Zb 1) (e1 jn (eC (.int 1)))) (Za (Zb 3) (Ze)))) (aJ 2 (e2 aK (e2 iI (Zb 2) (eC (.int 1))) (e2 (BP uq) (Zb 3) (eC (.int 0))))))
theorem Zon(n j:Nat):(lY n j).length=j:=by simp[lY]
theorem zc{M M' M2:Store}{o t:E3}(ho:o env M= .ok (.ref n) M')(hM:M'[n]?=Ya (.lst xs))(ht:t env M'= .ok d M2)(hM':M2[n]?=Ya (.lst xs))(hl:xs.length<SZ):
  Zr (aN aY bL o (Za t (Ze))) env M= .nx env (M2.set n (.lst (xs++[d]))):=by
 have e:aN aY bL o (Za t (Ze)) env M= .ok .non (M2.set n (.lst (xs++[d]))):=by simp only[aN,ho,R3.bind,vK,hM,Za,ht,Ze,Gv,hM',if_pos hl,if_true]
 rw[Zr,e]
theorem ZlH(M:Store)(ds:List (List D))(cur:List D)(l:Nat)(w W:D)(hw:m7 w)(h1:ds.length<1000)(h2:cur.length<1000):
  (Zu (Zr (aN aY bL (e2 Zk (Zb 1) (e1 jn (eC (.int 1)))) (Za (Zb 3) (Ze)))) (aJ 2 (e2 aK (e2 iI (Zb 2) (eC (.int 1))) (e2 (BP uq) (Zb 3) (eC (.int 0)))))) [Ya W,Ya (.ref M.length),Ya (.int ((l+1:Nat):Int)),Ya w] (gq M (ds++[cur]))
   = .nx [Ya W,Ya (.ref M.length),Ya (.int ((l+ar w:Nat):Int)),Ya w] (gq M (ds++[cur++[w]])):=by
 have hr:lY M.length (ds++[cur]).length=lY M.length ds.length++[.ref (M.length+1+ds.length)]:=by rw[Yv,xN,Zi3]
 have hat:(gq M (ds++[cur]))[M.length+1+ds.length]?=Ya (.lst cur):=by rw[ZqE];simp
 refine(Zi (zc (M':=gq M (ds++[cur])) (Zg rfl (dW rfl (Lh 1)) (gG (Ih M _) (by rw[hr];exact getD_last _ _))) hat rfl hat (iy h2 (by decide)))).trans ?_;rw[ZrH];refine bY (Zg (Zg rfl rfl rfl) (Zg rfl rfl (Zve hw _)) ?_);rw[Lg];congr 2;omega
theorem Zot(M:Store)(done:List (List D))(l:Nat)(w W:D)(hw:m7 w)(h1:done.length<900)(h2:∀c∈done,c.length<900)(hn:l≠0->done≠[]):
  Wo [Ya W,Ya (.ref M.length),Ya (.int (l:Int)),Ya w] (gq M done)= .nx [Ya W,Ya (.ref M.length),Ya (.int ((stp (done,l) w).2:Nat)),Ya w] (gq M (stp (done,l) w).1):=by
 cases l with
 |zero=>
  rw[Zoc,DK];have hz:(lY M.length done.length).length<SZ:=by rw[Zon];exact iy h1 (by decide)
  show Zu _ _ _ _=_;refine(Zi ((cV (Zg rfl rfl (nR rfl))).trans ((Zi (mZ rfl (Ih M done) (iD rfl rfl) (cW (Ih M done) _) hz)).trans (bY (d:=.int 1) rfl)))).trans ?_;rw[Ztb];exact ZlH M done [] 0 w W hw (by omega) (by simp)
 |succ l=>have hd:=hn (by omega);have e:done=done.dropLast++[done.getLast hd]:=(List.dropLast_concat_getLast hd).symm;generalize done.dropLast=ds at e;generalize done.getLast hd=cur at e;subst e;rw[DK];show Zu _ _ _ _=_;refine(Zi (t7 (Zg rfl rfl (jV (by omega))))).trans ?_;exact ZlH M ds cur l w W hw (by simp at h1;omega) (by have:=h2 cur (by simp);omega)
theorem Znw(s:List (List D)×Nat)(w:D):(stp s w).1.length<=s.1.length+1/\(stp s w).1≠[]:=by
 unfold stp;by_cases h:s.2=0
 .simp[h]
 .simp[h]
theorem ZsC(s:List (List D)×Nat)(w:D)(k:Nat)(h:∀c∈s.1,c.length<=k):∀c∈(stp s w).1,c.length<=k+1:=by
 have key:∀x:List (List D),(∀c∈x,c.length<=k)->∀c∈x.dropLast++[x.getLastD []++[w]],c.length<=k+1:=by
  intro x hx c hc;rcases sX.mp hc with hc|hc
  .exact Nat.le_succ_of_le (hx c (List.dropLast_subset _ hc))
  .rw[mF.mp hc,Yv,xN];refine Yk8 ?_;cases x with
   |nil=>exact eN _|cons a x=>exact hx _ (by rw[List.getLastD_cons];exact(show(x.getLastD a)∈a::x by rw[List.getLastD_eq_getLast?];cases hx':x.getLast? with|none=>simp|some y=>exact Yq _ (List.mem_of_getLast? hx')))
 unfold stp;by_cases hs:s.2=0
 .simp only[hs,if_true];exact key _ λc hc=>by
   rcases sX.mp hc with hc|hc
   .exact h c hc
   .rw[mF.mp hc];exact eN _
 .simp only[hs,if_false];exact key _ h
theorem Zok(M:Store)(W:D)(ws:List D)(hw:∀w∈ws,m7 w)(hl:ws.length<=500)(x0:Option D)(it:gD)(hi:it.lock=Yk):
  ∃x,cG it (bF 3) Wo ws [Ya W,Ya (.ref M.length),Ya (.int 0),x0] (gq M [])= .nx [Ya W,Ya (.ref M.length),Ya (.int ((ws.foldl stp ([],0)).2:Nat)),x] (gq M (ws.foldl stp ([],0)).1):=by
 have main:∀(ws:List D) (done:List (List D)) (l k:Nat) (x0:Option D),(∀w∈ws,m7 w)->k+ws.length<=500->done.length<=k->(∀c∈done,c.length<=k)->(l≠0->done≠[]) ->
   ∃x,cG it (bF 3) Wo ws [Ya W,Ya (.ref M.length),Ya (.int (l:Int)),x0] (gq M done)= .nx [Ya W,Ya (.ref M.length),Ya (.int ((ws.foldl stp (done,l)).2:Nat)),x] (gq M (ws.foldl stp (done,l)).1):=by
  intro ws
  induction ws with
  |nil=>intro done l k x0 _ _ _ _ _;exact⟨x0,by rw[tY,if_pos (by unfold locked;rw[hi])];rfl⟩|cons w ws ih=>intro done l k x0 hw hk h1 h2 hn;rw[Ys]at hk;obtain⟨x,hx⟩:=ih (stp (done,l) w).1 (stp (done,l) w).2 (k+1) (Ya w) (λy hy=>hw y (Yq _ hy)) (by omega) (by have:=(Znw (done,l) w).1;simp only at this;omega) (ZsC (done,l) w k h2) (λ_=>(Znw (done,l) w).2);refine⟨x,?_⟩;rw[mU,if_pos (by unfold locked;rw[hi])];have:=Zot M done l w W (hw w Yz) (by omega) (λc hc=>by have:=h2 c hc;omega) hn;simp only[bF,lz,lF,this];exact hx
 exact main ws [] 0 0 x0 hw (by omega) (eN _) (λc hc=>by cases hc) (λh=>absurd rfl h)
theorem Zm7(M:Store)(ts:List Sm)(hg:∀t∈ts,t.good)(hl:(ts.map Sm.flat).flatten.length<=500):∃G k,Nm [.tup (ts.map Sm.flat).flatten] M= .ok (.ref (M.length+k)) (M++G)/\G[k]?=Ya (.lst (ts.map λt=>.tup t.flat)):=by
 have hws:∀w∈(ts.map Sm.flat).flatten,m7 w:=λw hw=>by obtain⟨l,h1,h2⟩:=List.mem_flatten.mp hw;obtain⟨t,_,rfl⟩:=Fo.mp h1;exact rQ t w h2
 obtain⟨x,hx⟩:=Zok M (.tup (ts.map Sm.flat).flatten) _ hws hl Yk ⟨(ts.map Sm.flat).flatten,Yk⟩ rfl;rw[Zn4 ts hg]at hx;simp only[qI]at hx;have hn:(ts.map Sm.flat).length<=100000:=by
  have:∀l:List Sm,(l.map Sm.flat).length<=(l.map Sm.flat).flatten.length:=by
   intro l
   induction l with
   |nil=>exact Yl _|cons t l ih=>rw[Y8,qF,Yv,Ys];obtain⟨w,r,e⟩:=Ig t;rw[e,Ys];omega
  have:=this ts;omega
 let S:=gq M (ts.map Sm.flat)
 have lc:mV (mR (Zb 1)) 1 (bF 4) [] (aO mQ (Za (Zb 4) (Ze))) [Ya (.tup (ts.map Sm.flat).flatten),Ya (.ref M.length),Ya (.int ((0:Nat):Int)),x] S= .ok (.ref S.length) (S++[.lst ((dN (ts.map Sm.flat).length).map λk=>D.tup ((ts.map Sm.flat).getD k []))]):=by
  refine Wn (enc:=λk=>D.ref (M.length+1+k)) (h:=λk=>D.tup ((ts.map Sm.flat).getD k [])) (as:=dN (ts.map Sm.flat).length) (M1:=S) (lock:=Ya M.length) (λe=>∃a b c d y,e=[a,b,c,d,y]) ?_ ?_ ⟨_,_,_,_,_,rfl⟩ ?_ (by rw[Ra];exact hn)
  .show(R3.ok (D.ref M.length) S).bind _=_;simp only[R3.bind];rw[show S[M.length]?=_ from Ih M _];rfl
  .intro n hn';cases hn';exact Ih M _
  .intro k hk env ⟨a,b,c,d,y,e⟩;subst e;have hk:=Ab.mp hk;refine⟨_,rfl,⟨_,_,_,_,_,rfl⟩,λz=>?_⟩;refine iK rfl ?_;refine(ZmP (x:=(ts.map Sm.flat).getD k []) (cW ?_ _));rw[ZqE,Y5 hk,Q8,Y5 hk];rfl
 have hlist:((dN (ts.map Sm.flat).length).map λk=>D.tup ((ts.map Sm.flat).getD k []))=ts.map λt=>D.tup t.flat:=by
  apply List.ext_getElem?;intro j;rw[nG,nG];by_cases hj:j<ts.length
  .rw[List.getElem?_range (by simpa using hj),Y5 hj];simp[Q8,nG,Y5 hj]
  .rw[Yip (by simpa using hj),Yip (by simpa using hj)];rfl
 rw[hlist]at lc;have hS:S=M++(.lst (lY M.length (ts.map Sm.flat).length)::(ts.map Sm.flat).map MO.lst):=rfl;refine⟨(.lst (lY M.length (ts.map Sm.flat).length)::(ts.map Sm.flat).map MO.lst)++[.lst (ts.map λt=>.tup t.flat)],1+(ts.map Sm.flat).length,?_,?_⟩
 .have hlen:S.length=M.length+(1+(ts.map Sm.flat).length):=by rw[Znz,uY]
  refine(jC (M':=S++[.lst (ts.map λt=>.tup t.flat)]) (d:=.ref S.length) (env:=[Ya (.tup (ts.map Sm.flat).flatten),Yk,Yk,Yk]) ?_).trans ?_
  .unfold V0;rw[Zi (bY (d:=.ref M.length) (M':=gq M []) (iD rfl rfl)),Zi (bY (d:=.int 0) rfl),Zi ((Lz (it:=⟨(ts.map Sm.flat).flatten,Yk⟩) rfl).trans hx)];exact je ((ZtD (Zg rfl rfl (nR rfl))).trans lc)
  .have hb:below M.length (.ref S.length)=false:=by show decide (S.length<M.length)=false;rw[hlen];exact decide_eq_false (by omega)
   rw[tidy,hb,hlen,hS,mG];rfl
 .simp[xQ 1]
theorem Zrb(M:Store)(t:Sm)(hg:t.good)(hl:t.flat.length<=500):∃G k,yS [.tup t.flat] M= .ok (.ref (M.length+k)) (M++G)/\G[k]?=Ya (.lst (t.parts.map λt=>.tup t.flat)):=by
 have hgp:∀s∈t.parts,s.good:=by
  cases t with
  |num _=>intro s h;cases h|bR _=>intro s h;cases h|fB a=>intro s h;rw[mF.mp h];exact hg|two o a b=>
   intro s h;rcases fj.mp h with h|h
   .rw[h];exact hg.1
   .rw[mF.mp h];exact hg.2
 have e:=t.Py;have hl':(t.parts.map Sm.flat).flatten.length<=500:=by rw[e,Ys]at hl;omega
 obtain⟨G,k,h1,h2⟩:=Zm7 M t.parts hgp hl';refine⟨G,k,?_,h2⟩;refine(jC (M':=M++G) (d:=.ref (M.length+k)) (env:=[Ya (.tup t.flat)]) ?_).trans ?_
 .unfold V1;refine je (GC (M1:=M) (a:=.tup (t.parts.map Sm.flat).flatten) ?_ h1);show R3.ok (D.tup (cutD t.flat (Ya ((1:Nat):Int)) Yk)) M=_;rw[Zqw,e];rfl
 .have hb:below M.length (.ref (M.length+k))=false:=decide_eq_false (by omega);rw[tidy,hb];rfl
noncomputable abbrev Wq:S3:=Zu (aJ 6 (Zw eY (Za (Zb 0) (Za (e2 aK (Zb 1) (aO bW (Za (Zb 4) (Ze)))) (Ze))))) (Zu (aJ 5 (e2 iI (Zb 5) (eC (.int 1)))) (aQ (oX (e2 Gq (e2 aK (aO bW (Za (Zb 4) (Ze))) (Zb 5)) (Zb 3)) (e2 mO (e2 aW (Zb 6) (eC (.int 5))) (eC (.int 2)))) (aQ (e2 bI (e2 aW (e2 d9 (Zb 6) (eC (.int 5))) (eC (.int 3))) (eC (.int 0))) (Zr (aN aY bL (Zb 4) (Za (Zw rO (Za (e2 d9 (Zb 6) (eC (.int 15))) (Ze))) (Ze)))) (Zr (aN aY bL (Zb 4) (Za (e2 Zk (Zb 2) (e2 aW (e2 d9 (Zb 6) (eC (.int 15))) (aO bW (Za (Zb 2) (Ze))))) (Ze))))) (aQ (e2 bI (e2 aW (Zb 6) (eC (.int 5))) (eC (.int 2))) (Zu (Zr (aN aY bL (Zb 4) (Za (eC (.str [99,101,108,108])) (Ze)))) (aJ 5 (e2 aK (Zb 5) (eC (.int 1))))) (Zu (Zr (aN aY bL (Zb 4) (Za (e2 Zk (bV (Za (eC (.str [97,100,100])) (Za (eC (.str [115,117,98])) (Za (eC (.str [109,111,114,101])) (Ze))))) (e2 aW (e2 d9 (Zb 6) (eC (.int 5))) (eC (.int 3)))) (Ze)))) (aJ 5 (e2 aK (Zb 5) (eC (.int 2))))))))
inductive DN(Q:List Nat->Prop)(lim n d:Nat):D->Nat->Prop
 |num (i:Int):DN Q lim n d (.int i) d
 |bR (x:List Nat) (h:Q x):DN Q lim n d (.str x) d
 |fB (h:n+d<lim):DN Q lim n d (.str jH) (d+1)
 |two (o:Nat) (h:n+d<lim):DN Q lim n d (.str (jr o)) (d+2)
def Due(Q:List Nat->Prop)(words:List D)(due:Nat):Prop:=∀ts:List Sm,ts.length=due->(∀t∈ts,t.all Q)->∃t:Sm,t.all Q/\t.flat=words++(ts.map Sm.flat).flatten
theorem Zyz:Due Q [] 1:=λts h hg=>by
 match ts,h with
 |[t],_=>exact⟨t,hg t (by simp),by simp⟩
variable{words:List D}
theorem N6{d:Nat}{t:Sm}{ts:List Sm}(h:Due Q words (d+1))(hl:ts.length=d)(ht:t.all Q)(hg:∀t∈ts,t.all Q):∃s:Sm,s.all Q/\s.flat=words++(t.flat++(ts.map Sm.flat).flatten):=by
 obtain⟨s,h1,h2⟩:=h (t::ts) (by rw[Ys,hl]) (λx hx=>by
  rcases fj.mp hx with e|e
  .rw[e];exact ht
  .exact hg x e)
 exact⟨s,h1,h2⟩
theorem Zpk{lim n d uN:Nat}{w:D}(h:Due Q words (d+1))(t:DN Q lim n d w uN):Due Q (words++[w]) uN:=by
 cases t with
 |num i=>exactλts hl hg=>by simpa[Sm.flat]using N6 h hl (t:=.num i) trivial hg|bR x hx=>exactλts hl hg=>by simpa[Sm.flat]using N6 h hl (t:=.bR x) hx hg|fB hh=>
  intro ts hl hg;cases ts with
  |nil=>cases hl|cons a ts=>simpa[Sm.flat]using N6 h (R5 hl) (t:=.fB a) (hg a (by simp)) λt ht=>hg t (Yq _ ht)
 | two o hh=>
  intro ts hl hg;cases ts with
  |nil=>cases hl|cons a ts=>cases ts with
   |nil=>simp at hl|cons b ts=>simpa[Sm.flat]using N6 h (by simp at hl;omega) (t:=.two o a b) ⟨hg a (by simp),hg b (by simp)⟩ λt ht=>hg t (Yq _ (Yq _ ht))
theorem Ii{G:Store}{x y:List D}:(M++ .lst x::G).set M.length (.lst y)=M++ .lst y::G:=by have:=Gz M (.lst x::G) 0 (.lst y);simpa using this
variable{names:List (List Nat)}
theorem Zoz(hl:ns.length<=63){G:Store}{nr at0 lim d:Nat}(hn:M[nr]?=Ya (.lst (names.map D.str)))(hne:0<names.length)(hlt:names.length<1000)(hop:∀x∈names,Q x)(hw:words.length<1000)(x:Option D):
  ∃w uN G' N7,DN Q lim words.length d w uN/\Wq [Ya (SC ns),Ya (.int (at0:Int)),Ya (.ref nr),Ya (.int (lim:Int)),Ya (.ref M.length),Ya (.int ((d+1:Nat):Int)),x] (M++ .lst words::G)=
   .nx [Ya (SC ns),Ya (.int (at0:Int)),Ya (.ref nr),Ya (.int (lim:Int)),Ya (.ref M.length),Ya (.int (uN:Nat)),N7] (M++ .lst (words++[w])::G'):=by
 have h4:(M++ .lst words::G)[M.length]?=Ya (.lst words):=dU _ _ _;have hlen:∀{env:Zt},Zb 4 env (M++ .lst words::G)= .ok (.ref M.length) (M++ .lst words::G)->aO bW (Za (Zb 4) (Ze)) env (M++ .lst words::G)= .ok (.int (words.length:Int)) (M++ .lst words::G):=λh=>iK h (vP h4);have N8:words.length<SZ:=iy hw (by decide)
 let D0:=dr ns (at0+words.length)
 have hD:0<=D0:=Ztw _ _;have s1:aJ 6 (Zw eY (Za (Zb 0) (Za (e2 aK (Zb 1) (aO bW (Za (Zb 4) (Ze)))) (Ze)))) [Ya (SC ns),Ya (.int (at0:Int)),Ya (.ref nr),Ya (.int (lim:Int)),Ya (.ref M.length),Ya (.int ((d+1:Nat):Int)),x] (M++ .lst words::G)= .nx [Ya (SC ns),Ya (.int (at0:Int)),Ya (.ref nr),Ya (.int (lim:Int)),Ya (.ref M.length),Ya (.int ((d+1:Nat):Int)),Ya (.int D0)] (M++ .lst words::G):=bY (qi hl (k:=at0+words.length) rfl (Zg rfl (hlen rfl) rfl));have s2:aJ 5 (e2 iI (Zb 5) (eC (.int 1))) [Ya (SC ns),Ya (.int (at0:Int)),Ya (.ref nr),Ya (.int (lim:Int)),Ya (.ref M.length),Ya (.int ((d+1:Nat):Int)),Ya (.int D0)] (M++ .lst words::G)= .nx [Ya (SC ns),Ya (.int (at0:Int)),Ya (.ref nr),Ya (.int (lim:Int)),Ya (.ref M.length),Ya (.int (d:Int)),Ya (.int D0)] (M++ .lst words::G):=bY (d:=.int (d:Int)) (Zg rfl rfl (by rw[TJ];congr 2;omega));have c1:∀b:Bool,(b=true↔(lim:Int)<=(words.length:Int)+(d:Int)\/D0 % 5<2)->oX (e2 Gq (e2 aK (aO bW (Za (Zb 4) (Ze))) (Zb 5)) (Zb 3)) (e2 mO (e2 aW (Zb 6) (eC (.int 5))) (eC (.int 2))) [Ya (SC ns),Ya (.int (at0:Int)),Ya (.ref nr),Ya (.int (lim:Int)),Ya (.ref M.length),Ya (.int (d:Int)),Ya (.int D0)] (M++ .lst words::G)= .ok (.bl b) (M++ .lst words::G):=λb hb=>by
  by_cases hq:(lim:Int)<=(words.length:Int)+(d:Int)
  .have:b=true:=hb.mpr (.inl hq);subst this;exact ZwO (Zg (Zg (hlen rfl) rfl rfl) rfl (by rw[ZnV,decide_eq_true hq]))
  .rw[LK (Zg (Zg (hlen rfl) rfl rfl) rfl (by rw[ZnV,decide_eq_false hq]))];refine Zg (Zg rfl rfl (dX (by decide))) rfl ?_;rw[vI];congr 2;cases hb2:b with
   |true=>exact decide_eq_true ((hb.mp hb2).resolve_left hq)|false=>exact decide_eq_false λz=>by have:=hb.mpr (.inr z);rw[hb2]at this;cases this
 show∃w uN G' N7,_/\Zu _ _ _ _=_;rw[Zi s1,Zi s2];by_cases YK:(lim:Int)<=(words.length:Int)+(d:Int)\/D0 % 5<2
 .rw[cV (c1 true ⟨λ_=>YK,λ_=>rfl⟩)];by_cases h3:D0 / 5 % 3=0
  .obtain⟨z,hz⟩:=Wl (d:=D0 / 15) (by omega);refine⟨.int z,d,G,Ya (.int D0),.num z,?_⟩;rw[cV (Zg (Zg (Zg rfl rfl (jZ (by decide))) rfl (dX (by decide))) rfl (nR h3)),mZ rfl h4 (GC (Zg rfl rfl (jZ (by decide))) (hz _)) h4 N8,Ii]
  .obtain⟨a,ea,ha⟩:=ou (D0 / 15) names.length hne;have hga:names[a]?=Ya (names[a]'ha):=Y5 ha;refine⟨.str (names[a]'ha),d,G,Ya (.int D0),.bR _ (hop _ (JX ha)),?_⟩;have hnr:(M++ .lst words::G)[nr]?=Ya (.lst (names.map D.str)):=cW hn _;rw[bM (Zg (Zg (Zg rfl rfl (jZ (by decide))) rfl (dX (by decide))) rfl (jV h3)),mZ rfl h4 (Zg rfl (Zg (Zg rfl rfl (jZ (by decide))) (iK rfl (vP hnr)) (dX (by rw[jP];omega))) (gG hnr (by rw[jP,ea,jD,nG,hga];rfl))) h4 N8,Ii]
 .have hlt2:words.length+d<lim:=by omega
  rw[bM (c1 false ⟨λz=>ft z,λz=>absurd z YK⟩)];by_cases h2:D0 % 5=2
  .refine⟨.str jH,d+1,G,Ya (.int D0),.fB hlt2,?_⟩;rw[cV (Zg (Zg rfl rfl (dX (by decide))) rfl (nR h2)),Zi (mZ rfl h4 rfl h4 N8),Ii];exact bY (Zg rfl rfl rfl)
  .obtain⟨o,eo,ho⟩:=ou (D0 / 5) 3 (by decide);have eo:D0 / 5 % 3=(o:Int):=eo;refine⟨.str (jr o),d+2,G++[.lst [.str [97,100,100],.str [115,117,98],.str [109,111,114,101]]],Ya (.int D0),.two o hlt2,?_⟩;have hM2:M++ .lst words::G++[.lst [.str [97,100,100],.str [115,117,98],.str [109,111,114,101]]]=M++ .lst words::(G++[.lst [.str [97,100,100],.str [115,117,98],.str [109,111,114,101]]]):=by simp
   have hi:[D.str [97,100,100],.str [115,117,98],.str [109,111,114,101]][o]?=Ya (.str (jr o)):=by
    match o,ho with
    |0,_=>rfl|1,_=>rfl|2,_=>rfl
   rw[bM (Zg (Zg rfl rfl (dX (by decide))) rfl (jV h2)),Zi (mZ (M':=M++ .lst words::(G++[.lst [.str [97,100,100],.str [115,117,98],.str [109,111,114,101]]])) rfl h4 (Zg (iD (ds:=[.str [97,100,100],.str [115,117,98],.str [109,111,114,101]]) rfl rfl) (Zg (Zg rfl rfl (jZ (by decide))) rfl (dX (by decide))) (by rw[←hM2];exact gG (dU _ _ []) (by rw[eo,jD];exact hi))) (dU _ _ _) N8),Ii];exact bY (Zg rfl rfl rfl)
theorem Zmi(hl:ns.length<=63){nr at0 lim:Nat}(hn:M[nr]?=Ya (.lst (names.map D.str)))(hne:0<names.length)(hlt:names.length<1000)(hop:∀x∈names,Q x)(hlim:lim<=900):
  ∀(m fuel d:Nat) (words:List D) (G:Store) (x:Option D),words.length+m=lim+2->m<fuel->words.length+d<=lim+2->Due Q words d->(∀w∈words,m7 w) ->
  ∃t:Sm,t.all Q/\t.flat.length<=lim+2/\(∀w∈t.flat,m7 w)/\∃G' x',iz (e2 dD (Zb 5) (eC (.int 0))) Wq fuel [Ya (SC ns),Ya (.int (at0:Int)),Ya (.ref nr),Ya (.int (lim:Int)),Ya (.ref M.length),Ya (.int (d:Int)),x] (M++ .lst words::G)=
   .nx [Ya (SC ns),Ya (.int (at0:Int)),Ya (.ref nr),Ya (.int (lim:Int)),Ya (.ref M.length),Ya (.int 0),x'] (M++ .lst t.flat::G'):=by
 intro m
 induction m with
 |zero=>
  intro fuel d words G x hm hf hd Jp hw;have:d=0:=by omega
  subst this;obtain⟨t,h1,h2⟩:=Jp [] rfl (λt ht=>by cases ht);have h2:t.flat=words:=by simpa using h2
  refine⟨t,h1,by rw[h2];omega,by rw[h2];exact hw,G,x,?_⟩;obtain⟨f,rfl⟩:∃f,fuel=f+1:=⟨fuel-1,by omega⟩;rw[kj,h2];rfl
 | succ m ih=>
  intro fuel d words G x hm hf hd Jp hw;obtain⟨f,rfl⟩:∃f,fuel=f+1:=⟨fuel-1,by omega⟩;cases d with
  |zero=>
   obtain⟨t,h1,h2⟩:=Jp [] rfl (λt ht=>by cases ht);have h2:t.flat=words:=by simpa using h2
   refine⟨t,h1,by rw[h2];omega,by rw[h2];exact hw,G,x,?_⟩;rw[kj,h2];rfl
  | succ d=>
   obtain⟨w,uN,G',N7,ht,hb⟩:=Zoz (at0:=at0) (lim:=lim) (d:=d) (G:=G) hl hn hne hlt hop (words:=words) (by omega) x;have hlen:(words++[w]).length=words.length+1:=by simp
   have AcT:=Zpk Jp ht;have hiw:m7 w:=by cases ht<;>first|exact .int _|exact .str _
   obtain⟨t,g1,g2,g3,G2,x2,g4⟩:=ih f uN (words++[w]) G' N7 (by omega) (by omega) (by rw[hlen];cases ht<;>omega) AcT (λy hy=>by
    rcases sX.mp hy with hy|hy
    .exact hw y hy
    .rw[mF.mp hy];exact hiw)
   refine⟨t,g1,g2,g3,G2,x2,?_⟩;rw[kj];have hc:e2 dD (Zb 5) (eC (.int 0)) [Ya (SC ns),Ya (.int (at0:Int)),Ya (.ref nr),Ya (.int (lim:Int)),Ya (.ref M.length),Ya (.int ((d+1:Nat):Int)),x] (M++ .lst words::G)= .ok (.bl true) (M++ .lst words::G):=Zg rfl rfl (by rw[jo,decide_eq_true (by omega)]);rw[hc];show(match Wq _ _ with| .nx e M'=>_| .ct e M'=>_| .bk e M'=>_|o=>o)=_;rw[hb];exact g4
theorem rR{n:Nat}:∀{l:List D},(∀w∈l,m7 w)->cg n l=true
 |[],_=>rfl|w::l,h=>by
  have h1:below n w=true:=by cases h w Yz<;>rfl
  show(below n w&&cg n l)=true;rw[h1,rR λx hx=>h x (Yq _ hx)];rfl
theorem ZnW(hl:ns.length<=63){nr at0 lim:Nat}(hn:M[nr]?=Ya (.lst (names.map D.str)))(hne:0<names.length)(hlt:names.length<1000)(hop:∀x∈names,Q x)(hlim:lim<=900):
  ∃t:Sm,t.all Q/\t.flat.length<=lim+2/\pq [SC ns,.int (at0:Int),.ref nr,.int (lim:Int)] M= .ok (.tup t.flat) M:=by
 obtain⟨t,h1,h2,h3,G,x,h4⟩:=Zmi (at0:=at0) hl hn hne hlt hop hlim (lim+2) 1000000 1 [] [] Yk (by simp) (by omega) (by simp) Zyz (λw hw=>by cases hw);refine⟨t,h1,h2,?_⟩;refine(jC (M':=M++ .lst t.flat::G) (d:=.tup t.flat) (env:=[Ya (SC ns),Ya (.int (at0:Int)),Ya (.ref nr),Ya (.int (lim:Int)),Yk,Yk,Yk]) ?_).trans (Bu (by show cg _ _=true;exact rR h3));unfold V7;rw[Zi (bY (d:=.ref M.length) (M':=M++[.lst []]) (iD rfl rfl)),Zi (bY (d:=.int 1) rfl)];refine(Zi h4).trans ?_;exact je (iK rfl (GD (dU _ _ _)))
theorem zf(t:Sm):fV t.flat (0:Int)=Ya t.head:=by rw[t.Py];exact jD _ 0
theorem ZsE{t p:Sm}(h:p∈t.parts):p.flat.length<t.flat.length:=by
 cases t with
 |num _=>cases h|bR _=>cases h|fB a=>rw[mF.mp h];simp[Sm.flat]|two o a b=>
  rcases fj.mp h with h|h
  .rw[h];simp[Sm.flat];omega
  .rw[mF.mp h];simp[Sm.flat];omega
theorem Zoq{t p:Sm}(hg:t.good)(h:p∈t.parts):p.good:=by
 cases t with
 |num _=>cases h|bR _=>cases h|fB a=>rw[mF.mp h];exact hg|two o a b=>
  rcases fj.mp h with h|h
  .rw[h];exact hg.1
  .rw[mF.mp h];exact hg.2
variable{o:E3}
theorem DP{ty:D->Store->Bool}{me:D->List D->Store->R3 D}{g:cF}{M M1 M2 M3:Store}{a:D}(h1:o env M= .ok a M1)(hi:ty a M1=true)(h2:g env M1= .ok ds M2)(h3:me a ds M2= .ok d M3):aN ty me o g env M= .ok d M3:=by simp only[aN,h1,R3.bind,hi,if_true,h2,h3]
def m8(kvs:List (a_×D)):Prop:=∀k d,cT kvs k=Ya d->∃z,d= .int z
noncomputable def intOf(kvs:List (a_×D))(k:a_):Int:=match cT kvs k with
 |some (.int z)=>z|_=>0
variable{kvs:List (a_×D)}
theorem m8.get(h:m8 kvs)(k:a_):(cT kvs k).getD (.int 0)= .int (intOf kvs k):=by
 unfold intOf;cases e:cT kvs k with
 |none=>rfl|some d=>obtain⟨z,rfl⟩:=h k d e;rfl
theorem Wr(h:m8 kvs)(k:a_)(v:Int):m8 (putD k (.int v) kvs):=λj d hd=>by
 rw[ZqM]at hd;by_cases e:j=k
 .rw[if_pos e]at hd;exact⟨v,(Y3 hd).symm⟩
 .rw[if_neg e]at hd;exact h j d hd
theorem Zlh:m8 []:=λ_ _ h=>dR h
theorem Ws(k:a_)(v:D)(kvs:List (a_×D)):(putD k v kvs).length<=kvs.length+1:=by unfold putD;split <;>simp
theorem Zov{i:yw}{g:G3}{u:S3}{it:Bw}(h:i env M= .ok it M'):GF i g u env M=nU it.lk g u it.items env M':=by rw[GF,h]
variable{S:Store}
theorem DQ{o:MO}(h:M<+:S)(e:M[n]?=Ya o):S[n]?=Ya o:=by obtain⟨G,rfl⟩:=h;exact cW e G
theorem Ij{r:Nat}{o:MO}(h:M<+:S)(hr:M.length<=r):M<+:S.set r o:=by obtain⟨G,rfl⟩:=h;obtain⟨k,rfl⟩:=Nat.le.dest hr;rw[Gz];exact⟨_,rfl⟩
def LE(f:E3)(env:Zt)(M:Store)(xs:List D):Prop:=∃n S,f env M= .ok (.ref n) S/\M<+:S/\S[n]?=Ya (.lst xs)
def LF(f:E3)(env:Zt)(M:Store)(xs:List D):Prop:=∃n S,f env M= .ok (.ref n) S/\M<+:S/\S[n]?=Ya (.lst xs)/\M.length<=n
def BL(M0:Store)(u:S3)(env:Zt)(M:Store)(xs:List D):Prop:=∃n S,u env M= .rt (.ref n) S/\M0<+:S/\S[n]?=Ya (.lst xs)/\M0.length<=n
theorem LF.le(h:LF f env M xs):LE f env M xs:=let⟨n,S,a,b,c,_⟩:=h;⟨n,S,a,b,c⟩
theorem Wt{m:Nat}{x y:List D}(h1:M[n]?=Ya (.lst x))(h2:M[m]?=Ya (.lst y))(hz:x.length+y.length<=900000):aK (.ref n) (.ref m) M= .ok (.ref M.length) (M++[.lst (x++y)]):=by rw[Zrn,h1,h2];exact if_pos (Yu hz (by decide))
theorem LE.add{g:E3}{x y:List D}(hf:LE f env M x)(hg:∀S,M<+:S->LE g env S y)(hz:x.length+y.length<=900000):LF (e2 aK f g) env M (x++y):=by obtain⟨n,S,h1,p1,g1⟩:=hf;obtain⟨m,S2,h2,p2,g2⟩:=hg S p1;exact⟨S2.length,S2++[.lst (x++y)],Zg h1 h2 (Wt (DQ p2 g1) g2 hz),(p1.trans p2).trans (sW _ _),dU _ _ _,(p1.trans p2).length_le⟩
theorem LF.lst{g:cF}{env:Zt}{M:Store}{ds:List D}(h:g env M= .ok ds M)(hl:decide (ds.length<=100)=true):LF (bV g) env M ds:=⟨M.length,M++[.lst ds],iD h hl,sW _ _,dU _ _ _,Yl _⟩
variable{i:Nat}{M0:Store}
theorem BL.set{u:S3}{x xs:List D}(hf:LE f env M x)(hu:∀n S,M<+:S->S[n]?=Ya (.lst x)->BL M0 u (env.set i (Ya (.ref n))) S xs):BL M0 (Zu (aJ i f) u) env M xs:=by obtain⟨n,S,h1,p1,g1⟩:=hf;obtain⟨m,S2,h2,r⟩:=hu n S p1 g1;exact⟨m,S2,(Zi (bY h1 rfl)).trans h2,r⟩
inductive Ds where
 |nil
 |set (x:List Nat) (t:Sm) (r:Ds)
 |put (t u:Sm) (r:Ds)
 |tell (t:Sm) (r:Ds)
 |bT (t:Sm) (a b r:Ds)
 |whl (t:Sm) (a r:Ds)
noncomputable abbrev Zy8:List Nat:=[115,101,116]
noncomputable abbrev ZyY:List Nat:=[112,117,116]
noncomputable abbrev Zy4:List Nat:=[116,101,108,108]
noncomputable abbrev Ik:List Nat:=[119,104,101,110]
noncomputable abbrev ZxA:List Nat:=[119,104,105,108,101]
noncomputable abbrev uv(x:List Nat)(t:Sm):D:=.tup [.str Zy8,.str x,.tup t.flat]
noncomputable abbrev rT(t u:Sm):D:=.tup [.str ZyY,.tup t.flat,.tup u.flat]
noncomputable abbrev wk(t:Sm):D:=.tup [.str Zy4,.tup t.flat]
noncomputable abbrev k_(t:Sm)(a b:List D):D:=.tup [.str Ik,.tup t.flat,.tup a,.tup b]
noncomputable abbrev bQ(t:Sm)(a:List D):D:=.tup [.str ZxA,.tup t.flat,.tup a]
noncomputable def Ds.enc:Ds->List D
 | .nil=>[]|.set x t r=>uv x t::r.enc|.put t u r=>rT t u::r.enc|.tell t r=>wk t::r.enc
 | .bT t a b r=>k_ t a.enc b.enc::r.enc|.whl t a r=>bQ t a.enc::r.enc
def Sm.ok(t:Sm):Prop:=t.good/\t.flat.length<=13
noncomputable def Ds.ok:Ds->Prop
 | .nil=>True|.set x t r=>oA x=false/\t.ok/\r.ok|.put t u r=>t.ok/\u.ok/\r.ok|.tell t r=>t.ok/\r.ok
 | .bT t a b r=>t.ok/\a.ok/\b.ok/\r.ok|.whl t a r=>t.ok/\a.ok/\r.ok
noncomputable def Ds.dep:Ds->Nat
 | .nil=>0|.set _ _ r=>r.dep|.put _ _ r=>r.dep|.tell _ r=>r.dep
 | .bT _ a b r=>fP (fP a.dep b.dep+1) r.dep|.whl _ a r=>fP (a.dep+1) r.dep
noncomputable def Ds.wt:Ds->Nat
 | .nil=>0|.set _ t r=>2*t.flat.length+3+r.wt|.put t u r=>2*t.flat.length+2*u.flat.length+3+r.wt|.tell t r=>2*t.flat.length+3+r.wt
 | .bT t a b r=>2*t.flat.length+3+a.wt+b.wt+r.wt|.whl t a r=>2*t.flat.length+3+a.wt+r.wt
noncomputable def Wu:List (List Nat):=[[116,97,107,101],[115,101,116],[112,117,116],[116,101,108,108],[119,104,101,110],[101,108,115,101],[119,104,105,108,101],[101,110,100],[97,100,100],[115,117,98],[109,111,114,101],[99,101,108,108]]
noncomputable abbrev j4(tk:List (List Nat))(ds:Ds):D:=.tup [.tup (tk.map D.str),.tup ds.enc]
noncomputable def ir(x:List Nat):Bool:=Wu.contains x
noncomputable def rep1(w:List Nat):Bool:=(dN w.length).any λi=>(w.eraseIdx i).all λc=>c==(w.eraseIdx i).headD 0
theorem Zsr(a b p c:Nat):rep1 (Yh a p++[c]++Yh b p)=true:=by
 unfold rep1;rw[List.any_eq_true];refine⟨a,Ab.mpr (by simp only[Yv,xM,Ys,pN];omega),?_⟩;have e:(Yh a p++[c]++Yh b p).eraseIdx a=Yh (a+b) p:=by rw[mG,List.eraseIdx_append_of_length_le (by simp)];simp[List.replicate_append_replicate]
 rw[e,pK];intro y hy;obtain⟨h1,rfl⟩:=List.mem_replicate.mp hy;obtain⟨k,hk⟩:∃k,a+b=k+1:=⟨a+b-1,by omega⟩;rw[hk,nF];simp
theorem DG.ir{w:List Nat}(h:DG w):ir w=false:=by
 obtain⟨⟨a,b,p,c,e⟩,hne,_⟩:=h;have h1:=Zsr a b p c;rw[←e]at h1;cases hr:Law.ir w with
 |false=>rfl|true=>
  have hm:w∈Wu:=List.contains_iff_mem.mp hr;have key:∀y∈Wu,y=[97,100,100]\/rep1 y=false:=by decide
  rcases key w hm with h|h
  .exact absurd h hne
  .rw[h]at h1;cases h1
theorem Zst{x:List Nat}(h:oA x=true):ir x=true:=by rcases of_decide_eq_true h with rfl|rfl|rfl|rfl <;>decide
theorem Wv{x:List Nat}(h:ir x=false):oA x=false:=by
 cases hx:oA x with
 |false=>rfl|true=>rw[Zst hx]at h;cases h
noncomputable def Sm.nm:Sm->Prop
 | .num _=>True|.bR x=>ir x=false|.fB a=>a.nm|.two _ a b=>a.nm/\b.nm
noncomputable def Ds.nm:Ds->Prop
 | .nil=>True|.set x t r=>ir x=false/\t.nm/\r.nm|.put t u r=>t.nm/\u.nm/\r.nm|.tell t r=>t.nm/\r.nm
 | .bT t a b r=>t.nm/\a.nm/\b.nm/\r.nm|.whl t a r=>t.nm/\a.nm/\r.nm
noncomputable def lg(ns:List Int)(i:Nat):List Nat:=if h:ns.length<=63 then(NZ h i).choose else[]
theorem Ww(h:ns.length<=63)(i:Nat):DG (lg ns i):=by unfold lg;rw[dif_pos h];exact(NZ h i).choose_spec.1
theorem Wx(h:ns.length<=63)(i:Nat)(M:Store):n8 [SC ns,.int (i:Int)] M= .ok (.str (lg ns i)) M:=by unfold lg;rw[dif_pos h];exact(NZ h i).choose_spec.2.2 M
theorem Ztq(h:ns.length<=63)(i:Nat):(lg ns i)[(dr ns 1 % 8).toNat]?=m5[(((i:Int)+dr ns 3) % 26).toNat]?:=by unfold lg;rw[dif_pos h];exact(NZ h i).choose_spec.2.1
noncomputable def DR(d:Int):Int:=if h:0<=d then(Wl h).choose else 0
theorem Zuh{d:Int}(h:0<=d)(M:Store):rO [.int d] M= .ok (.int (DR d)) M:=by unfold DR;rw[dif_pos h];exact(Wl h).choose_spec M
noncomputable def wu(ns:List Int)(n:Nat):List (List Nat):=(dN n).map (lg ns)
theorem Wy(ns:List Int)(n:Nat):(wu ns n).length=n:=by simp[wu]
theorem ZwC(n:Nat):Bt 0 n=(dN n).map λ(k:Nat)=>D.int (k:Int):=by unfold Bt;refine Yjk λk _=>?_;rw[Al]
theorem ZjQ(h:f env M= .ok (.int (n:Int)) M)(hn:n<=1000):vM f env M= .ok ⟨(dN n).map λ(k:Nat)=>D.int (k:Int),Yk⟩ M:=by
 have hc:(n:Int)<=1000000/\ -1000000<=(n:Int):=by omega
 simp only[vM,h,R3.bind,if_pos hc,qM,ZwC]
noncomputable def zj(d:Int):Int:=if d / 7 % 2=0 then 1 else 10^17
noncomputable def qj(ns:List Int)(n:Nat):List Int:=(dN n).map λk=>DR (dr ns (60+k))*zj (dr ns (60+k))
theorem ZqU(ns:List Int)(n:Nat):(qj ns n).length=n:=by simp[qj]
theorem ZpB{d:Int}(hd:0<=d)(h3:∀M,Zb 3 env M= .ok (.int d) M)(M:Store):e2 eO (Zw rO (Za (Zb 3) (Ze))) (e2 Zk (bV (Za (eC (.int 1)) (Za (e2 Bk (eC (.int 10)) (eC (.int 17))) (Ze)))) (e2 aW (e2 d9 (Zb 3) (eC (.int 7))) (eC (.int 2)))) env M= .ok (.int (DR d*zj d)) (M++[.lst [.int 1,.int (10^17)]]):=by
 obtain⟨b,eb,hb⟩:=ou (d / 7) 2 (by decide);have eb:d / 7 % 2=(b:Int):=eb;have hg:[D.int 1,.int (10^17)][b]?=Ya (.int (zj d)):=by
  unfold zj;rw[eb]
  match b,hb with
  |0,_=>rfl|1,_=>rfl
 refine Zg (GC (h3 M) (Zuh hd M)) (Zg (iD (ds:=[.int 1,.int (10^17)]) rfl rfl) (Zg (Zg (h3 _) rfl (jZ (by decide))) rfl (dX (by decide))) (gG (dU M _ []) (by rw[eb,jD];exact hg))) ?_;rw[yg,if_pos (mul_r (by unfold zj;split <;>decide))]
theorem Zi4{α:Type}{enc h:α->D}{it:gD}{g:G3}{n:Nat}{elt:E3}{I:Zt->Prop}{J:α->MO}:∀(as:List α) (acc:List D) (env:Zt) (M G:Store),I env->M.length=n ->
  (∀a∈as,∀env,I env->∃cZ,g (enc a) env=Ya cZ/\I cZ/\∀S,elt cZ S= .ok (h a) (S++[J a]))->(∀x G,locked it (M++ .lst x::G)=true)->acc.length+as.length<=SZ ->
  ∃G',dF it g [] elt n (as.map enc) env (M++ .lst acc::G)= .ok (.ref n) (M++ .lst (acc++as.map h)::G')
 |[],acc,env,M,G,_,_,_,hl,_=>⟨G,by rw[Yes,T7,if_pos (hl _ _),Yes,qG]⟩|a::as,acc,env,M,G,hI,hn,hf,hl,hz=>by
  obtain⟨cZ,hg,Wm,he⟩:=hf a Yz env hI;have lt:acc.length<SZ:=by simp only[Ys]at hz;omega
  obtain⟨G',ih⟩:=Zi4 as (acc++[h a]) cZ M (G++[J a]) Wm hn (λb hb=>hf b (Yq _ hb)) hl (by simp only[Yv,Ys,pN]at hz ⊢;omega);refine⟨G',?_⟩;have e1:(M++ .lst acc::G)++[J a]=M++ .lst acc::(G++[J a]):=by simp
  have e2:(M++ .lst acc::(G++[J a]))[n]?=Ya (.lst acc):=by rw[←hn];exact dU _ _ _
  have e3:(M++ .lst acc::(G++[J a])).set n (.lst (acc++[h a]))=M++ .lst (acc++[h a])::(G++[J a]):=by rw[←hn];exact Ii
  rw[Y8,Ly,if_pos (hl _ _),hg];simp only[Lx,R3.sy,if_true,he,e1,e2,if_pos lt,e3];rw[ih];simp
theorem Zpc(hl:ns.length<=63){P:D}(hb:aO bW (Za (e2 Zk (Zb 1) (eC (.int 0))) (Ze)) [Ya (SC ns),Ya P,Yk] M= .ok (.int (n:Int)) M)(hn2:n<=100):HY [SC ns,P] M= .ok (.tup ((qj ns n).map D.int)) M:=by
 have l1:mV (vM (aO bW (Za (e2 Zk (Zb 1) (eC (.int 0))) (Ze)))) 1 (bF 3) [] (Zw eY (Za (Zb 0) (Za (e2 aK (eC (.int 60)) (Zb 3)) (Ze)))) [Ya (SC ns),Ya P,Yk] M= .ok (.ref M.length) (M++[.lst ((dN n).map λk=>D.int (dr ns (60+k)))]):=by
  refine Wn (enc:=λk=>D.int ((k:Nat):Int)) (h:=λk=>D.int (dr ns (60+k))) (as:=dN n) (M1:=M) (lock:=Yk) (λe=>∃y z x,e=[Ya (SC ns),y,z,x]) ?_ (λ_ h=>by cases h) ⟨_,_,_,rfl⟩ ?_ (by simp;omega)
  .exact ZjQ hb (by omega)
  .intro k _ env ⟨y,z,x,e⟩;subst e;exact⟨_,rfl,⟨_,_,_,rfl⟩,λx=>qi hl (k:=60+k) rfl (Zg rfl rfl rfl)⟩
 let M1:=M++[.lst ((dN n).map λk=>D.int (dr ns (60+k)))]
 have hM1:M1.length=M.length+1:=by simp[M1]
 obtain⟨G,l2⟩:=Zi4 (enc:=λk=>D.int (dr ns (60+k))) (h:=λk=>D.int (DR (dr ns (60+k))*zj (dr ns (60+k)))) (J:=λ_=>.lst [.int 1,.int (10^17)]) (it:=⟨(dN n).map λk=>D.int (dr ns (60+k)),Ya M.length⟩) (g:=bF 3) (n:=M1.length) (elt:=e2 eO (Zw rO (Za (Zb 3) (Ze))) (e2 Zk (bV (Za (eC (.int 1)) (Za (e2 Bk (eC (.int 10)) (eC (.int 17))) (Ze)))) (e2 aW (e2 d9 (Zb 3) (eC (.int 7))) (eC (.int 2))))) (I:=λe=>∃y z u x,e=[y,z,u,x]) (dN n) [] ([Ya (SC ns),Ya P,Ya (.ref M.length)]++Yh 1 Yk) M1 [] ⟨_,_,_,_,rfl⟩ rfl
  (λk _ env ⟨y,z,u,x,e⟩=>by subst e;exact⟨_,rfl,⟨_,_,_,_,rfl⟩,λS=>ZpB (Ztw _ _) (λ_=>rfl) S⟩)
  (λx G=>by show decide _=true;refine decide_eq_true ?_;rw[show M1++ .lst x::G=M++(.lst ((dN n).map λk=>D.int (dr ns (60+k))):: .lst x::G)by simp[M1]];exact dU _ _ _) (by simp;omega)
 have hres:([]:List D)++(dN n).map (λk=>D.int (DR (dr ns (60+k))*zj (dr ns (60+k))))=(qj ns n).map D.int:=by simp[qj]
 rw[hres]at l2;refine(jC (M':=M1++ .lst ((qj ns n).map D.int)::G) (d:=.tup ((qj ns n).map D.int)) (env:=[Ya (SC ns),Ya P,Yk]) ?_).trans ?_
 .unfold Wa;refine(Zi (bY l1)).trans (je (iK (a:=.ref M1.length) (M1:=M1++ .lst ((qj ns n).map D.int)::G) ?_ (GD (dU _ _ _))));refine(Zqa (M':=M1) (it:=⟨(dN n).map λk=>D.int (dr ns (60+k)),Ya M.length⟩) ?_).trans l2;show(match M1[M.length]? with|some (.lst ds)=>R3.ok (⟨ds,Ya M.length⟩:gD) M1|_=>R3.bad)=_;rw[show M1[M.length]?=_ from dU M _ []]
 .have e:M1++ .lst ((qj ns n).map D.int)::G=M++(.lst ((dN n).map λk=>D.int (dr ns (60+k))):: .lst ((qj ns n).map D.int)::G):=by simp[M1]
  rw[e];refine Bu ?_;show cg _ _=true;exact rR λw hw=>by obtain⟨i,_,rfl⟩:=Fo.mp hw;exact .int i
theorem Zrf(hl:ns.length<=63)(n:Nat)(hn:n<=100)(I:Zt->Prop)(h0:I (env++Yh 1 Yk))(hI:∀e,I e->∀d,I (e.set i (Ya d))/\∀M,Zb 0 (e.set i (Ya d)) M= .ok (SC ns) M/\Zb i (e.set i (Ya d)) M= .ok d M)(M:Store):
  mV (vM (eC (.int (n:Int)))) 1 (bF i) [] (Zw n8 (Za (Zb 0) (Za (Zb i) (Ze)))) env M= .ok (.ref M.length) (M++[.lst ((wu ns n).map D.str)]):=by
 have h:=Wn (enc:=λk=>D.int ((k:Nat):Int)) (h:=λk=>D.str (lg ns k)) (own:=1) (i:=vM (eC (.int (n:Int)))) (g:=bF i) (elt:=Zw n8 (Za (Zb 0) (Za (Zb i) (Ze)))) (env:=env) (M:=M) (as:=dN n) (M1:=M) (lock:=Yk) I
  (ZjQ rfl (by omega)) (λ_ h=>by cases h) h0
  (λk _ e he=>⟨_,rfl,(hI e he _).1,λx=>yu ((hI e he _).2 _).1 ((hI e he _).2 _).2 (Wx hl k _)⟩) (by simp;omega)
 rw[h];simp[wu]
noncomputable def Ds.app:Ds->Ds->Ds
 | .nil,s=>s|.set x t r,s=>.set x t (r.app s)|.put t u r,s=>.put t u (r.app s)|.tell t r,s=>.tell t (r.app s)
 | .bT t a b r,s=>.bT t a b (r.app s)|.whl t a r,s=>.whl t a (r.app s)
theorem zm:∀(d s:Ds),(d.app s).enc=d.enc++s.enc
 | .nil,_=>rfl|.set x t r,s=>by simp only[Ds.app,Ds.enc,zm r s,pM]|.put t u r,s=>by simp only[Ds.app,Ds.enc,zm r s,pM]|.tell t r,s=>by simp only[Ds.app,Ds.enc,zm r s,pM]
 | .bT t a b r,s=>by simp only[Ds.app,Ds.enc,zm r s,pM]|.whl t a r,s=>by simp only[Ds.app,Ds.enc,zm r s,pM]
structure gw(d:Ds)(n:Nat):Prop where
 ok:d.ok
 nm:d.nm
 dep:d.dep<=n
theorem DW:∀{d s:Ds},d.ok->s.ok->(d.app s).ok
 | .nil,_,_,h=>h|.set _ _ _,_,h,k=>⟨h.1,h.2.1,DW h.2.2 k⟩|.put _ _ _,_,h,k=>⟨h.1,h.2.1,DW h.2.2 k⟩|.tell _ _,_,h,k=>⟨h.1,DW h.2 k⟩
 | .bT _ _ _ _,_,h,k=>⟨h.1,h.2.1,h.2.2.1,DW h.2.2.2 k⟩|.whl _ _ _,_,h,k=>⟨h.1,h.2.1,DW h.2.2 k⟩
theorem DX:∀{d s:Ds},d.nm->s.nm->(d.app s).nm
 | .nil,_,_,h=>h|.set _ _ _,_,h,k=>⟨h.1,h.2.1,DX h.2.2 k⟩|.put _ _ _,_,h,k=>⟨h.1,h.2.1,DX h.2.2 k⟩|.tell _ _,_,h,k=>⟨h.1,DX h.2 k⟩
 | .bT _ _ _ _,_,h,k=>⟨h.1,h.2.1,h.2.2.1,DX h.2.2.2 k⟩|.whl _ _ _,_,h,k=>⟨h.1,h.2.1,DX h.2.2 k⟩
theorem DY:∀(d s:Ds),(d.app s).dep=fP d.dep s.dep
 | .nil,_=>by simp[Ds.app,Ds.dep]|.set _ _ r,s=>by simp only[Ds.app,Ds.dep,DY r s]|.put _ _ r,s=>by simp only[Ds.app,Ds.dep,DY r s]|.tell _ r,s=>by simp only[Ds.app,Ds.dep,DY r s]
 | .bT _ a b r,s=>by simp only[Ds.app,Ds.dep,DY r s];exact(Yml _ _ _).symm|.whl _ a r,s=>by simp only[Ds.app,Ds.dep,DY r s];exact(Yml _ _ _).symm
theorem wz:∀(d s:Ds),(d.app s).wt=d.wt+s.wt
 | .nil,_=>by simp[Ds.app,Ds.wt]|.set _ _ r,s=>(congrArg (_+ ·) (wz r s)).trans (uY _ _ _).symm|.put _ _ r,s=>(congrArg (_+ ·) (wz r s)).trans (uY _ _ _).symm|.tell _ r,s=>(congrArg (_+ ·) (wz r s)).trans (uY _ _ _).symm
 | .bT _ a b r,s=>(congrArg (_+ ·) (wz r s)).trans (uY _ _ _).symm|.whl _ a r,s=>(congrArg (_+ ·) (wz r s)).trans (uY _ _ _).symm
theorem gw.app{d s:Ds}(h:gw d n)(k:gw s n):gw (d.app s) n:=⟨DW h.ok k.ok,DX h.nm k.nm,by rw[DY];exact Nat.max_le.mpr ⟨h.dep,k.dep⟩⟩
theorem gw.nil(n:Nat):gw .nil n:=⟨trivial,trivial,eN _⟩
theorem gw.mono{d:Ds}{m:Nat}(h:gw d n)(a:n<=m):gw d m:=⟨h.ok,h.nm,Yu h.dep a⟩
inductive bh where
 |whl (t:Sm) (l:Ds)
 |bT (t:Sm)
 |jJ (t:Sm) (a:Ds)
noncomputable def bh.enc:bh->D
 | .whl t l=>.tup [.str ZxA,.tup t.flat,.tup l.enc]|.bT t=>.tup [.str Ik,.tup t.flat,.non]|.jJ t a=>.tup [.str Ik,.tup t.flat,.tup a.enc]
def Sm.fine(t:Sm):Prop:=t.ok/\t.nm
noncomputable def bh.fine(n:Nat):bh->Prop
 | .whl t l=>t.fine/\gw l 0|.bT t=>t.fine|.jJ t a=>t.fine/\gw a n
noncomputable def bh.wt:bh->Nat
 | .whl t l=>2*t.flat.length+3+l.wt|.bT t=>2*t.flat.length+3|.jJ t a=>2*t.flat.length+3+a.wt
noncomputable def gA:Ds->List (bh×Ds)->Prop
 |cur,[]=>gw cur 3|cur,(o,d)::r=>gw cur (2-r.length)/\r.length<3/\o.fine (2-r.length)/\gA d r
noncomputable def dh:Ds->List (bh×Ds)->Nat
 |cur,[]=>cur.wt|cur,(o,d)::r=>cur.wt+o.wt+dh d r
theorem N_(cur s:Ds)(r:List (bh×Ds)):dh (cur.app s) r=dh cur r+s.wt:=by
 cases r with
 |nil=>exact wz cur s|cons p r=>obtain⟨o,d⟩:=p;show(cur.app s).wt+o.wt+dh d r=cur.wt+o.wt+dh d r+s.wt;rw[wz,Ykc cur.wt s.wt,Ykc _ s.wt]
theorem ZsF(cur:Ds)(o:bh)(r:List (bh×Ds)):dh .nil ((o,cur)::r)=dh cur r+o.wt:=by show 0+o.wt+dh cur r=_;rw[u5,xQ]
theorem gA.cur{cur:Ds}{r:List (bh×Ds)}(h:gA cur r):gw cur (3-r.length):=by
 cases r with
 |nil=>exact h|cons p r=>exact h.1.mono (by rw[Ys];omega)
theorem gA.len{cur:Ds}{r:List (bh×Ds)}(h:gA cur r):r.length<=3:=by
 cases r with
 |nil=>exact eN _|cons p r=>have:=h.2.1;rw[Ys];omega
theorem gA.put{cur cur':Ds}{r:List (bh×Ds)}(h:gA cur r)(hc:gw cur' (3-r.length)):gA cur' r:=by
 cases r with
 |nil=>exact hc|cons p r=>exact⟨hc.mono (by rw[Ys];omega),h.2.1,h.2.2.1,h.2.2.2⟩
theorem gA.push{cur:Ds}{r:List (bh×Ds)}{o:bh}(h:gA cur r)(hl:r.length<3)(ho:o.fine (2-r.length)):gA .nil ((o,cur)::r):=⟨gw.nil _,hl,ho,h⟩
theorem Zxp{z:Nat}(h:n<3)(q:z<=2-n):fP (z+1) 0<=3-n:=by rw[Nat.max_zero];omega
theorem gA.whl{cur d l:Ds}{t:Sm}{r:List (bh×Ds)}(h:gA cur ((.whl t l,d)::r)):gA (d.app (.whl t (cur.app l) .nil)) r:=by obtain⟨h1,h2,h3,h4⟩:=h;have ha:=h1.app (h3.2.mono (eN _));have hd:=ha.dep;exact h4.put (h4.cur.app (s:=.whl t (cur.app l) .nil) ⟨⟨h3.1.1,ha.ok,trivial⟩,⟨h3.1.2,ha.nm,trivial⟩,Zxp h2 hd⟩)
theorem gA.jJ{cur d a:Ds}{t:Sm}{r:List (bh×Ds)}(h:gA cur ((.jJ t a,d)::r)):gA (d.app (.bT t a cur .nil)) r:=by obtain⟨h1,h2,h3,h4⟩:=h;have hd:=h1.dep;have hd2:=h3.2.dep;exact h4.put (h4.cur.app (s:=.bT t a cur .nil) ⟨⟨h3.1.1,h3.2.ok,h1.ok,trivial⟩,⟨h3.1.2,h3.2.nm,h1.nm,trivial⟩,Zxp h2 (Nat.max_le.mpr ⟨hd2,hd⟩)⟩)
theorem gA.bT{cur d:Ds}{t:Sm}{r:List (bh×Ds)}(h:gA cur ((.bT t,d)::r)):gA .nil ((.jJ t cur,d)::r):=⟨gw.nil _,h.2.1,⟨h.2.2.1,h.1⟩,h.2.2.2⟩
theorem ZvB(cur d l:Ds)(t:Sm)(r:List (bh×Ds)):dh (d.app (.whl t (cur.app l) .nil)) r=dh cur ((.whl t l,d)::r):=by rw[N_];simp only[dh,Ds.wt,bh.wt,wz];omega
theorem Zvl(cur d a:Ds)(t:Sm)(r:List (bh×Ds)):dh (d.app (.bT t a cur .nil)) r=dh cur ((.jJ t a,d)::r):=by rw[N_];simp only[dh,Ds.wt,bh.wt];omega
theorem ZvF(cur d:Ds)(t:Sm)(r:List (bh×Ds)):dh .nil ((.jJ t cur,d)::r)=dh cur ((.bT t,d)::r):=by show 0+(2*t.flat.length+3+cur.wt)+dh d r=cur.wt+(2*t.flat.length+3)+dh d r;rw[u5,xQ cur.wt]
theorem Oa(cur:Ds)(r:List (bh×Ds)):cur.wt<=dh cur r:=by
 cases r with
 |nil=>exact Yl _|cons p r=>obtain⟨o,d⟩:=p;simp only[dh];omega
noncomputable def cY(r:List (bh×Ds)):List D:=(r.map λq=>q.1.enc).reverse
noncomputable def eQ(c:Nat)(rs:List Nat):List D:=(rs.reverse++[c]).map D.ref
theorem ZjA(x:bh)(d:Ds)(r:List (bh×Ds)):cY ((x,d)::r)=cY r++[x.enc]:=by simp[cY]
theorem Ob(c' c:Nat)(rs:List Nat):eQ c' (c::rs)=eQ c rs++[D.ref c']:=by simp[eQ]
structure fW(M0:Store)(f o c:Nat)(rs:List Nat)(cur:Ds)(r:List (bh×Ds))(M:Store):Prop where
 p:M0<+:M
 hf:M[f]?=Ya (MO.lst (eQ c rs))
 ho:M[o]?=Ya (MO.lst (cY r))
 hc:M[c]?=Ya (.lst cur.enc)
 hr:∀(i:Nat) a q,rs[i]?=Ya a->r[i]?=Ya q->M[a]?=Ya (.lst q.2.enc)
 len:rs.length=r.length
 nd:(c::rs).Nodup
 fn:f∉c::rs
 on:o∉c::rs
 fo:f≠o
 lf:M0.length<=f
 lo:M0.length<=o
 lc:∀a∈c::rs,M0.length<=a
section
variable {M0:Store} {f o c:Nat} {rs:List Nat} {cur:Ds} {r:List (bh×Ds)} {M:Store}
theorem fW.keep(h:fW M0 f o c rs cur r M)(p:M0<+:S)(k:∀a,a=f\/a=o\/a∈c::rs->S[a]?=M[a]?):fW M0 f o c rs cur r S:=⟨p,(k f (.inl rfl)).trans h.hf,(k o (.inr (.inl rfl))).trans h.ho,(k c (.inr (.inr Yz))).trans h.hc,λi a q h1 h2=>(k a (.inr (.inr (Yq _ (sV h1))))).trans (h.hr i a q h1 h2),h.len,h.nd,h.fn,h.on,h.fo,h.lf,h.lo,h.lc⟩
theorem fW.lt(h:fW M0 f o c rs cur r M):∀a,a=f\/a=o\/a∈c::rs->a<M.length:=λa ha=>by
 rcases ha with e|e|e
 .rw[e];exact(Ye.mp h.hf).1
 .rw[e];exact(Ye.mp h.ho).1
 .rcases fj.mp e with e|e
  .rw[e];exact(Ye.mp h.hc).1
  .obtain⟨i,hi⟩:=Q9 e;have hil:i<r.length:=by rw[←h.len];exact(Ye.mp hi).1
   exact(Ye.mp (h.hr i a r[i] hi (Y5 hil))).1
theorem fW.ext(h:fW M0 f o c rs cur r M)(p:M<+:S):fW M0 f o c rs cur r S:=h.keep (h.p.trans p) λa ha=>by obtain⟨G,rfl⟩:=p;exact Yw (h.lt a ha)
theorem fW.put(h:fW M0 f o c rs cur r M)(s:Ds):fW M0 f o c rs (cur.app s) r (M.set c (.lst (cur.enc++s.enc))):=by have hcl:=(Ye.mp h.hc).1;have hcf:c≠f:=λe=>h.fn (by rw[e];exact Yz);have hco:c≠o:=λe=>h.on (by rw[e];exact Yz);refine⟨Ij h.p (h.lc c Yz),by rw[Yf hcf];exact h.hf,by rw[Yf hco];exact h.ho,by rw[Yx hcl,zm],λi a q h1 h2=>?_,h.len,h.nd,h.fn,h.on,h.fo,h.lf,h.lo,h.lc⟩;have hne:c≠a:=λe=>(qH.mp h.nd).1 (by rw[e];exact sV h1);rw[Yf hne];exact h.hr i a q h1 h2
theorem fW.push(h:fW M0 f o c rs cur r M)(x:bh):fW M0 f o M.length (c::rs) .nil ((x,cur)::r) (((M.set o (MO.lst (cY r++[x.enc])))++[MO.lst []]).set f (MO.lst (eQ c rs++[D.ref M.length]))):=by
 have hol:=(Ye.mp h.ho).1;have hfl:=(Ye.mp h.hf).1;have hlt:=h.lt;have Oc:(M.set o (MO.lst (cY r++[x.enc]))).length=M.length:=oO ..;have get:∀a,a≠f->a≠o->a<M.length->(((M.set o (MO.lst (cY r++[x.enc])))++[MO.lst []]).set f (MO.lst (eQ c rs++[D.ref M.length])))[a]?=M[a]?:=λa h1 h2 h3=>by rw[Yf (bK h1),Yw (by rw[Oc];exact h3),Yf (bK h2)]
 have nf:∀a∈c::rs,a≠f:=λa ha e=>h.fn (e▸ha);have no:∀a∈c::rs,a≠o:=λa ha e=>h.on (e▸ha);refine⟨Ij ((Ij h.p h.lo).trans (sW _ _)) h.lf,?_,?_,?_,λi a q h1 h2=>?_,?_,?_,?_,?_,h.fo,h.lf,h.lo,?_⟩
 .rw[Yx (by rw[Yv,Oc];omega),Ob]
 .rw[Yf h.fo,Yw (by rw[Oc];exact hol),Yx hol,ZjA]
 .rw[Yf (by omega)];have:=dU (M.set o (MO.lst (cY r++[x.enc]))) (MO.lst []) [];rw[Oc]at this;exact this
 .cases i with
  |zero=>have e1:c=a:=Y3 h1;have e2:(x,cur)=q:=Y3 h2;rw[←e1,←e2,get c (nf c Yz) (no c Yz) (hlt c (.inr (.inr Yz)))];exact h.hc|succ i=>have ha:a∈c::rs:=Yq _ (sV (show rs[i]?=Ya a from h1));rw[get a (nf a ha) (no a ha) (hlt a (.inr (.inr ha)))];exact h.hr i a q h1 h2
 .rw[Ys,Ys,h.len]
 .rw[qH];exact⟨λhm=>absurd (hlt _ (.inr (.inr hm))) (pQ _),h.nd⟩
 .intro hm;rcases fj.mp hm with e|e
  .omega
  .exact h.fn e
 .intro hm;rcases fj.mp hm with e|e
  .omega
  .exact h.on e
 .intro a ha;rcases fj.mp ha with e|e
  .rw[e];exact h.p.length_le
  .exact h.lc a e
theorem fW.pop{x:bh}{d:Ds}{c':Nat}(h:fW M0 f o c (c'::rs) cur ((x,d)::r) M):fW M0 f o c' rs d r ((M.set f (MO.lst (eQ c' rs))).set o (MO.lst (cY r))):=by
 have hol:=(Ye.mp h.ho).1;have hfl:=(Ye.mp h.hf).1;have get:∀a,a≠f->a≠o->((M.set f (MO.lst (eQ c' rs))).set o (MO.lst (cY r)))[a]?=M[a]?:=λa h1 h2=>by rw[Yf (bK h2),Yf (bK h1)]
 have nf:∀a∈c'::rs,a≠f:=λa ha e=>h.fn (e▸Yq _ ha);have no:∀a∈c'::rs,a≠o:=λa ha e=>h.on (e▸Yq _ ha);refine⟨Ij (Ij h.p h.lf) h.lo,?_,?_,?_,λi a q h1 h2=>?_,R5 h.len,(qH.mp h.nd).2,λhm=>h.fn (Yq _ hm),λhm=>h.on (Yq _ hm),h.fo,h.lf,h.lo,λa ha=>h.lc a (Yq _ ha)⟩
 .rw[Yf (bK h.fo),Yx hfl]
 .rw[Yx (by rw[oO];exact hol)]
 .rw[get c' (nf c' Yz) (no c' Yz)];exact h.hr 0 c' (x,d) rfl rfl
 .have ha:a∈c'::rs:=Yq _ (sV h1);rw[get a (nf a ha) (no a ha)];exact h.hr (i+1) a q h1 h2
end
theorem Od(c:Nat)(rs:List Nat):eQ c rs=rs.reverse.map D.ref++[D.ref c]:=by simp[eQ]
theorem Zlj{f:Nat}{l l':List D}(hM:M[f]?=Ya (.lst (l++[.ref c])))(hc:c<M.length)(hS:S[f]?=Ya (.lst (l'++[.ref n])))(hn:M.length<=n):tidy M d S= .ok d S:=by
 have hf:=(Ye.mp hM).1;have ht:(S.take M.length)[f]?=Ya (.lst (l'++[.ref n])):=by rw[z7 hf];exact hS
 have h1:S.take M.length≠M:=λe=>by
  rw[e,hM]at ht;have e1:l++[D.ref c]=l'++[.ref n]:=by injection ht with ht;injection ht
  have e2:=congrArg List.getLast? e1;simp at e2;omega
 have h2:(S.take M.length).all (t6 M.length)=false:=by
  rw[List.all_eq_false];refine⟨_,sV ht,?_⟩;show¬cg M.length (l'++[.ref n])=true;have:∀l:List D,cg M.length (l++[.ref n])=false:=by
   intro l
   induction l with
   |nil=>show(decide (n<M.length)&&true)=false;rw[decide_eq_false (by omega)];rfl|cons a l ih=>show(below M.length a&&cg M.length (l++[.ref n]))=false;rw[ih,J6]
  rw[this];exact mH
 unfold tidy;rw[decide_eq_false h1,h2,Rn,J6];rfl
theorem Zlm(hv:Zb i env M= .ok (.ref n) M)(h:M[n]?=Ya (.lst (xs++[d]))):aN aY jU (Zb i) (Ze) env M= .ok d (M.set n (.lst xs)):=by
 refine DP hv (by rw[vK,h]) rfl ?_;rw[Lq,h];have e1:(xs++[d])[(xs++[d]).length-1]?=Ya d:=by simp
 simp only[e1,Yi3]
noncomputable def bh.mu:bh->Nat
 | .whl _ _=>1|.bT _=>2|.jJ _ _=>1
noncomputable def wA(r:List (bh×Ds)):Nat:=(r.map λq=>q.1.mu).sum
theorem D_(x:bh)(d:Ds)(r:List (bh×Ds)):wA ((x,d)::r)=x.mu+wA r:=by simp[wA]
inductive ZuJ(M0:Store)(f o:Nat)(w m:Nat)(S:Store):Prop
 |mk (c:Nat) (rs:List Nat) (cur:Ds) (r:List (bh×Ds)) (h:fW M0 f o c rs cur r S) (g:gA cur r) (hw:dh cur r=w) (hm:wA r<m)
theorem rW:∀d:Ds,d.enc.length<=d.wt
 | .nil=>Yl _|.set _ _ r=>by have:=rW r;simp only[Ds.enc,Ds.wt,Ys];omega|.put _ _ r=>by have:=rW r;simp only[Ds.enc,Ds.wt,Ys];omega|.tell _ r=>by have:=rW r;simp only[Ds.enc,Ds.wt,Ys];omega
 | .bT _ _ _ r=>by have:=rW r;simp only[Ds.enc,Ds.wt,Ys];omega|.whl _ _ r=>by have:=rW r;simp only[Ds.enc,Ds.wt,Ys];omega
theorem ZjN{f o c':Nat}{rs:List Nat}{cur d:Ds}{x:bh}{r:List (bh×Ds)}(h:fW M0 f o c (c'::rs) cur ((x,d)::r) M)(g:gA cur ((x,d)::r))(hw:dh cur ((x,d)::r)<=100000):
  ∃S,wj [.ref f,.ref o] M= .ok .non S/\ZuJ M0 f o (dh cur ((x,d)::r)) (wA ((x,d)::r)) S:=by
 have hf:M[f]?=Ya (.lst (eQ c' rs++[.ref c])):=by rw[←Ob];exact h.hf
 have ho:M[o]?=Ya (.lst (cY r++[x.enc])):=by rw[←ZjA x d r];exact h.ho
 have hfl:=(Ye.mp hf).1;have ho1:(M.set f (.lst (eQ c' rs)))[o]?=Ya (.lst (cY r++[x.enc])):=by rw[Yf h.fo];exact ho
 have hcf:c≠f:=λe=>h.fn (by rw[e];exact Yz);have hc1:(M.set f (.lst (eQ c' rs)))[c]?=Ya (.lst cur.enc):=by rw[Yf (bK hcf)];exact h.hc
 have h1:=h.pop;have hlen:=g.len;rw[Ys]at hlen;have hcw:=Oa cur ((x,d)::r);have hel:=rW cur;have hdw:=Oa d r;have hsw:dh cur ((x,d)::r)=cur.wt+x.wt+dh d r:=rfl;have hel2:=rW d
 let M1:=(M.set f (.lst (eQ c' rs))).set o (.lst (cY r))
 have ZD:M1.length=M.length:=by simp[M1]
 have s1:aJ 2 (aO mQ (Za (aN aY jU (Zb 0) (Ze)) (Ze))) [Ya (.ref f),Ya (.ref o),Yk,Yk] M= .nx [Ya (.ref f),Ya (.ref o),Ya (.tup cur.enc),Yk] (M.set f (.lst (eQ c' rs))):=bY (iK (Zlm rfl hf) (GD hc1));have s2:aJ 3 (aN aY jU (Zb 1) (Ze)) [Ya (.ref f),Ya (.ref o),Ya (.tup cur.enc),Yk] (M.set f (.lst (eQ c' rs)))= .nx [Ya (.ref f),Ya (.ref o),Ya (.tup cur.enc),Ya x.enc] M1:=bY (Zlm rfl ho1);have AcU:fV (eQ c' rs) (-1)=Ya (.ref c'):=by rw[Od];exact getD_last _ _
 have idx:∀y z:Option D,e2 Zk (Zb 0) (e1 jn (eC (.int 1))) [Ya (.ref f),Ya (.ref o),y,z] M1= .ok (.ref c') M1:=λy z=>Zg rfl (dW rfl (Lh 1)) (gG h1.hf AcU);have hd:d.enc.length<SZ:=iy (show d.enc.length<200000 by omega) (by decide);unfold wj V8;cases x with
 | whl t l=>
  have hll:=rW l;have hxw:(bh.whl t l).wt=2*t.flat.length+3+l.wt:=rfl;refine⟨_,(t8 (M':=M1.set c' (.lst (d.enc++[bQ t (cur.enc++l.enc)]))) (env:=[Ya (.ref f),Ya (.ref o),Yk,Yk]) ((Zi s1).trans ((Zi s2).trans ((cV (Zg rfl rfl (zb rfl))).trans (zc (idx _ _) h1.hc (gV (Zo rfl (Zo rfl (Zo (Zg rfl rfl ?_) rfl))) rfl) h1.hc hd))))).trans (NQ (by simp[M1])),c',rs,d.app (.whl t (cur.app l) .nil),r,?_,g.whl,ZvB cur d l t r,by rw[D_];simp only[bh.mu];omega⟩
  .rw[ZpU];exact if_pos (show cur.enc.length+l.enc.length<=1000000 by omega)
  .have:=h1.put (.whl t (cur.app l) .nil);have e:(Ds.whl t (cur.app l) .nil).enc=[bQ t (cur.enc++l.enc)]:=by simp only[Ds.enc,zm]
   rw[e]at this;exact this
 |jJ t a=>refine⟨_,(t8 (M':=M1.set c' (.lst (d.enc++[k_ t a.enc cur.enc]))) (env:=[Ya (.ref f),Ya (.ref o),Yk,Yk]) ((Zi s1).trans ((Zi s2).trans ((bM (Zg rfl rfl (rP (by decide)))).trans ((bM (Zg rfl rfl (by rw[ZnO];rfl))).trans (zc (idx _ _) h1.hc (gV (Zo rfl (Zo rfl (Zo rfl (Zo rfl rfl)))) rfl) h1.hc hd)))))).trans (NQ (by simp[M1])),c',rs,d.app (.bT t a cur .nil),r,?_,g.jJ,Zvl cur d a t r,by rw[D_];simp only[bh.mu];omega⟩;exact h1.put (.bT t a cur .nil)|bT t=>
  have h2:=h1.push (.jJ t cur);have hol:(cY r).length<SZ:=by
   have:(cY r).length=r.length:=by simp[cY]
   rw[this];exact iy (show r.length<100 by omega) (by decide)
  have Qe:(eQ c' rs).length<SZ:=by
   have:(eQ c' rs).length=rs.length+1:=by simp[eQ]
   rw[this,h1.len];exact iy (show r.length+1<100 by omega) (by decide)
  have hf2:(M1.set o (MO.lst (cY r++[(bh.jJ t cur).enc])))[f]?=Ya (.lst (eQ c' rs)):=by rw[Yf (bK h.fo)];exact h1.hf
  have s3:Zr (aN aY bL (Zb 1) (Za (cu (Za (e2 Zk (Zb 3) (eC (.int 0))) (Za (e2 Zk (Zb 3) (eC (.int 1))) (Za (Zb 2) (Ze))))) (Ze))) [Ya (.ref f),Ya (.ref o),Ya (.tup cur.enc),Ya (bh.bT t).enc] M1= .nx [Ya (.ref f),Ya (.ref o),Ya (.tup cur.enc),Ya (bh.bT t).enc] (M1.set o (MO.lst (cY r++[(bh.jJ t cur).enc]))):=mZ rfl h1.ho (gV (Zo rfl (Zo rfl (Zo rfl rfl))) rfl) h1.ho hol;have s4:Zr (aN aY bL (Zb 0) (Za (bV (Ze)) (Ze))) [Ya (.ref f),Ya (.ref o),Ya (.tup cur.enc),Ya (bh.bT t).enc] (M1.set o (MO.lst (cY r++[(bh.jJ t cur).enc])))= .nx [Ya (.ref f),Ya (.ref o),Ya (.tup cur.enc),Ya (bh.bT t).enc] (((M1.set o (MO.lst (cY r++[(bh.jJ t cur).enc])))++[MO.lst []]).set f (MO.lst (eQ c' rs++[.ref M1.length]))):=by have hn:(M1.set o (MO.lst (cY r++[(bh.jJ t cur).enc]))).length=M1.length:=oO ..;rw[←hn];exact mZ rfl hf2 (iD rfl rfl) (cW hf2 _) Qe
  refine⟨_,(t8 (env:=[Ya (.ref f),Ya (.ref o),Yk,Yk]) ((Zi s1).trans ((Zi s2).trans ((bM (Zg rfl rfl (rP (by decide)))).trans ((cV (Zg rfl rfl (by rw[ZnO];rfl))).trans ((Zi s3).trans s4)))))).trans (Zlj hf ?_ (l':=eQ c' rs) (n:=M1.length) ?_ ?_),M1.length,c'::rs,.nil,(.jJ t cur,d)::r,h2,g.bT,ZvF cur d t r,by rw[D_,D_];simp only[bh.mu];omega⟩
  .exact h.lt c (.inr (.inr Yz))
  .have:=h2.hf;rw[Ob]at this;exact this
  .exact qK ZD.symm
theorem Sm.Jl:∀t:Sm,t.all (λx=>ir x=false)->t.nm
 | .num _,_=>trivial|.bR _,h=>h|.fB a,h=>a.Jl h|.two _ a b,h=>⟨a.Jl h.1,b.Jl h.2⟩
theorem Sm.uF{t:Sm}(h:t.all (λx=>ir x=false))(hl:t.flat.length<=13):t.fine:=⟨⟨t.Ji (t.Jh (λ_=>Wv) h),hl⟩,t.Jl h⟩
inductive Ea(M0:Store)(f o:Nat)(w n:Nat)(S:Store):Prop
 |mk (c:Nat) (rs:List Nat) (cur:Ds) (r:List (bh×Ds)) (h:fW M0 f o c rs cur r S) (g:gA cur r) (hw:dh cur r<=w) (hm:r.length<=n)
section
variable {ns:List Int} {M0:Store} {f o c nr:Nat} {rs:List Nat} {cur:Ds} {r:List (bh×Ds)} {M:Store} {names:List (List Nat)}
theorem Znk{x:bh}(h:fW M0 f o c rs cur r M)(hl:r.length<3)(h2:∀S,Zb 2 env S= .ok (.ref f) S):
  Zr (aN aY bL (Zb 2) (Za (bV (Ze)) (Ze))) env (M.set o (MO.lst (cY r++[x.enc])))= .nx env (((M.set o (MO.lst (cY r++[x.enc])))++[MO.lst []]).set f (MO.lst (eQ c rs++[.ref M.length]))):=by
 have hn:(M.set o (MO.lst (cY r++[x.enc]))).length=M.length:=oO ..;have hf2:(M.set o (MO.lst (cY r++[x.enc])))[f]?=Ya (.lst (eQ c rs)):=by rw[Yf (bK h.fo)];exact h.hf
 have Qe:(eQ c rs).length<SZ:=by
  have:(eQ c rs).length=rs.length+1:=by simp[eQ]
  rw[this,h.len];exact iy (show r.length+1<100 by omega) (by decide)
 rw[←hn];exact mZ (h2 _) hf2 (iD rfl rfl) (cW hf2 _) Qe
theorem ZoQ(hl:ns.length<=63)(k:Nat)(h:fW M0 f o c rs cur r M)(g:gA cur r)(hr:r.length<3)(hw:dh cur r<=100000)(hn:M0[nr]?=Ya (.lst (names.map D.str)))(hne:0<names.length)(hlt:names.length<1000)(hop:∀x∈names,ir x=false):
  ∃S,CJ [SC ns,.int (k:Int),.ref f,.ref o,.ref nr] M= .ok .non S/\Ea M0 f o (dh cur r+60) (r.length+1) S:=by
 let dd:=dr ns (100+k)
 have hf0:M[f]?=Ya (.lst (rs.reverse.map D.ref++[.ref c])):=by rw[←Od];exact h.hf
 have hcM:c<M.length:=h.lt c (.inr (.inr Yz));have ZF:(cY r).length<SZ:=by
  have:(cY r).length=r.length:=by simp[cY]
  rw[this];exact iy (show r.length<100 by omega) (by decide)
 have hcw:=Oa cur r;have hel:=rW cur;have fin:∀{env env':Zt} {x:bh} {cur':Ds} {S:Store} (h':fW M0 f o c rs cur' r S) (g':gA cur' r) (hx:x.fine (2-r.length)) (hw':dh cur' r+x.wt<=dh cur r+60) (hSM:M.length<=S.length) (e:HW env M= .nx env' (((S.set o (MO.lst (cY r++[x.enc])))++[MO.lst []]).set f (MO.lst (eQ c rs++[.ref S.length])))) (he:[Ya (SC ns),Ya (.int (k:Int)),Ya (.ref f),Ya (.ref o),Ya (.ref nr),Yk,Yk,Yk,Yk]=env),∃S',CJ [SC ns,.int (k:Int),.ref f,.ref o,.ref nr] M= .ok .non S'/\Ea M0 f o (dh cur r+60) (r.length+1) S':=λ{env env' x cur' S} h' g' hx hw' hSM e he=>by have h2:=h'.push x;refine⟨_,(t8 (ps:=5) (n:=9) (ds:=[SC ns,.int (k:Int),.ref f,.ref o,.ref nr]) e rfl he).trans (Zlj hf0 hcM (l':=eQ c rs) (n:=S.length) ?_ hSM),S.length,c::rs,.nil,(x,cur')::r,h2,g'.push hr hx,by rw[ZsF];exact hw',Yl _⟩;have:=h2.hf;rw[Ob]at this;exact this
 have YL:aJ 5 (Zw eY (Za (Zb 0) (Za (e2 aK (eC (.int 100)) (Zb 1)) (Ze)))) [Ya (SC ns),Ya (.int (k:Int)),Ya (.ref f),Ya (.ref o),Ya (.ref nr),Yk,Yk,Yk,Yk] M= .nx [Ya (SC ns),Ya (.int (k:Int)),Ya (.ref f),Ya (.ref o),Ya (.ref nr),Ya (.int dd),Yk,Yk,Yk] M:=bY (qi hl (k:=100+k) rfl (Zg rfl rfl rfl));by_cases h1:dd % 2=1
 .--a round
  let nm:=lg ns (10+r.length)
  have hnm:ir nm=false:=(Ww hl _).ir;have ZG:oA nm=false:=Wv hnm;obtain⟨q4,eq4,hq4⟩:=ou (dd / 2) 4 (by decide);obtain⟨q8,Oe,hq8⟩:=ou (dd / 8) 8 (by decide);have Oe:dd / 8 % 8=(q8:Int):=Oe
  let s1:Ds:=.set nm (.num (dd / 2 % 4)) .nil
  have hp:=h.put s1
  let M1:=M.set c (.lst (cur.enc++s1.enc))
  have ZD:M1.length=M.length:=oO ..
  let zG:List D:=[.tup [.str nm],.tup [.str [109,111,114,101],.str nm,.int 0],.tup [.str [97,100,100],.str nm,.int 0],.tup [.str [115,117,98],.str nm,.int 0],.tup [.int (1-dd / 64 % 3)]]
  let M2:=M1++[MO.lst zG]
  have hp2:=hp.ext (sW M1 [MO.lst zG])
  let Eo:List D:=[.tup [uv nm (.two 1 (.bR nm) (.num 1))],.tup []]
  let M3:=M2++[MO.lst Eo]
  have hp3:=hp2.ext (sW M2 [MO.lst Eo])
  let less:Ds:=if q8=7 then .nil else .set nm (.two 1 (.bR nm) (.num 1)) .nil
  let cond:Sm:=match q8 % 5 with
   |0=>.bR nm|1=>.two 2 (.bR nm) (.num 0)|2=>.two 0 (.bR nm) (.num 0)|3=>.two 1 (.bR nm) (.num 0)
   |_=>.num (1-dd / 64 % 3)
  have h5:q8 % 5<5:=Nat.mod_lt _ (by decide);have hcond:zG[q8 % 5]?=Ya (.tup cond.flat):=by
   show zG[q8 % 5]?=Ya (.tup (Sm.flat (match q8 % 5 with|0=>.bR nm|1=>.two 2 (.bR nm) (.num 0)|2=>.two 0 (.bR nm) (.num 0)|3=>.two 1 (.bR nm) (.num 0)|_=>.num (1-dd / 64 % 3))))
   match q8 % 5,h5 with
   |0,_=>rfl|1,_=>rfl|2,_=>rfl|3,_=>rfl
   |4,_=>rfl
  have hcf:cond.fine/\cond.flat.length<=3:=by
   show Sm.fine (match q8 % 5 with|0=>.bR nm|1=>.two 2 (.bR nm) (.num 0)|2=>.two 0 (.bR nm) (.num 0)|3=>.two 1 (.bR nm) (.num 0)|_=>.num (1-dd / 64 % 3))/\(Sm.flat (match q8 % 5 with|0=>.bR nm|1=>.two 2 (.bR nm) (.num 0)|2=>.two 0 (.bR nm) (.num 0)|3=>.two 1 (.bR nm) (.num 0)|_=>.num (1-dd / 64 % 3))).length<=3
   match q8 % 5,h5 with
   |0,_=>exact⟨Sm.uF hnm (by simp[Sm.flat]),by simp[Sm.flat]⟩|1,_=>exact⟨Sm.uF ⟨hnm,trivial⟩ (by simp[Sm.flat]),by simp[Sm.flat]⟩|2,_=>exact⟨Sm.uF ⟨hnm,trivial⟩ (by simp[Sm.flat]),by simp[Sm.flat]⟩|3,_=>exact⟨Sm.uF ⟨hnm,trivial⟩ (by simp[Sm.flat]),by simp[Sm.flat]⟩
   |4,_=>exact⟨Sm.uF trivial (by simp[Sm.flat]),by simp[Sm.flat]⟩
  have hlf:gw less 0/\less.wt<=9:=by
   show gw (if q8=7 then Ds.nil else .set nm (.two 1 (.bR nm) (.num 1)) .nil) 0/\(if q8=7 then Ds.nil else .set nm (.two 1 (.bR nm) (.num 1)) .nil).wt<=9;by_cases q:q8=7
   .rw[if_pos q];exact⟨gw.nil _,eN _⟩
   .rw[if_neg q];have hf:=Sm.uF (t:=.two 1 (.bR nm) (.num 1)) ⟨hnm,trivial⟩ (by simp[Sm.flat]);exact⟨⟨⟨ZG,hf.1,trivial⟩,⟨hnm,hf.2,trivial⟩,Yl _⟩,by simp[Ds.wt,Sm.flat]⟩
  have hless:Eo[if q8=7 then 1 else 0]?=Ya (.tup less.enc):=by
   show Eo[if q8=7 then 1 else 0]?=Ya (.tup (if q8=7 then Ds.nil else .set nm (.two 1 (.bR nm) (.num 1)) .nil).enc);by_cases q:q8=7
   .rw[if_pos q,if_pos q];rfl
   .rw[if_neg q,if_neg q];rfl
  have Adh:gw s1 (3-r.length):=⟨⟨ZG,⟨trivial,by simp[Sm.flat]⟩,trivial⟩,⟨hnm,trivial,trivial⟩,eN _⟩;have Adi:s1.wt=5:=by simp[s1,Ds.wt,Sm.flat]
  have hlist:fV (eQ c rs) (-1)=Ya (.ref c):=by rw[Od];exact getD_last _ _
  refine fin (env:=[Ya (SC ns),Ya (.int (k:Int)),Ya (.ref f),Ya (.ref o),Ya (.ref nr),Yk,Yk,Yk,Yk]) (env':=[Ya (SC ns),Ya (.int (k:Int)),Ya (.ref f),Ya (.ref o),Ya (.ref nr),Ya (.int dd),Ya (.str nm),Ya (.ref M1.length),Ya (.tup less.enc)]) (x:=.whl cond less) hp3 (g.put (g.cur.app Adh)) ⟨hcf.1,hlf.1⟩ ?_ (by simp[M3,M2,M1]) ?_ rfl
  .have e1:(bh.whl cond less).wt=2*cond.flat.length+3+less.wt:=rfl;have:=hcf.2;have:=hlf.2;rw[N_,Adi,e1];omega
  unfold HW;refine(Zi YL).trans ?_;have t1:aJ 6 (Zw n8 (Za (Zb 0) (Za (e2 aK (eC (.int 10)) (aO bW (Za (Zb 3) (Ze)))) (Ze)))) [Ya (SC ns),Ya (.int (k:Int)),Ya (.ref f),Ya (.ref o),Ya (.ref nr),Ya (.int dd),Yk,Yk,Yk] M= .nx [Ya (SC ns),Ya (.int (k:Int)),Ya (.ref f),Ya (.ref o),Ya (.ref nr),Ya (.int dd),Ya (.str nm),Yk,Yk] M:=by refine bY (yu (b:=.int ((10+r.length:Nat):Int)) (M2:=M) rfl (Zg rfl (iK rfl (vP h.ho)) ?_) (Wx hl (10+r.length) M));rw[Lg];congr 2;simp[cY]
  have t2:Zr (aN aY bL (e2 Zk (Zb 2) (e1 jn (eC (.int 1)))) (Za (cu (Za (eC (.str [115,101,116])) (Za (Zb 6) (Za (cu (Za (e2 aW (e2 d9 (Zb 5) (eC (.int 2))) (eC (.int 4))) (Ze))) (Ze))))) (Ze))) [Ya (SC ns),Ya (.int (k:Int)),Ya (.ref f),Ya (.ref o),Ya (.ref nr),Ya (.int dd),Ya (.str nm),Yk,Yk] M= .nx [Ya (SC ns),Ya (.int (k:Int)),Ya (.ref f),Ya (.ref o),Ya (.ref nr),Ya (.int dd),Ya (.str nm),Yk,Yk] M1:=zc (Zg rfl (dW rfl (Lh 1)) (gG h.hf hlist)) h.hc (gV (Zo rfl (Zo rfl (Zo (gV (Zo (Zg (Zg rfl rfl (jZ (by decide))) rfl (dX (by decide))) rfl) rfl) rfl))) rfl) h.hc (iy (show cur.enc.length<200000 by omega) (by decide));have t3:aJ 7 (bV (Za (cu (Za (Zb 6) (Ze))) (Za (cu (Za (eC (.str [109,111,114,101])) (Za (Zb 6) (Za (eC (.int 0)) (Ze))))) (Za (cu (Za (eC (.str [97,100,100])) (Za (Zb 6) (Za (eC (.int 0)) (Ze))))) (Za (cu (Za (eC (.str [115,117,98])) (Za (Zb 6) (Za (eC (.int 0)) (Ze))))) (Za (cu (Za (e2 iI (eC (.int 1)) (e2 aW (e2 d9 (Zb 5) (eC (.int 64))) (eC (.int 3)))) (Ze))) (Ze))))))) [Ya (SC ns),Ya (.int (k:Int)),Ya (.ref f),Ya (.ref o),Ya (.ref nr),Ya (.int dd),Ya (.str nm),Yk,Yk] M1= .nx [Ya (SC ns),Ya (.int (k:Int)),Ya (.ref f),Ya (.ref o),Ya (.ref nr),Ya (.int dd),Ya (.str nm),Ya (.ref M1.length),Yk] M2:=bY (iD (ds:=zG) (Zo (gV rfl rfl) (Zo (gV rfl rfl) (Zo (gV rfl rfl) (Zo (gV rfl rfl) (Zo (gV (Zo (Zg rfl (Zg (Zg rfl rfl (jZ (by decide))) rfl (dX (by decide))) rfl) rfl) rfl) rfl))))) rfl);have t4:aJ 8 (e2 Zk (bV (Za (cu (Za (cu (Za (eC (.str [115,101,116])) (Za (Zb 6) (Za (cu (Za (eC (.str [115,117,98])) (Za (Zb 6) (Za (eC (.int 1)) (Ze))))) (Ze))))) (Ze))) (Za (cu (Ze)) (Ze)))) (aO lR (Za (e2 bI (e2 aW (e2 d9 (Zb 5) (eC (.int 8))) (eC (.int 8))) (eC (.int 7))) (Ze)))) [Ya (SC ns),Ya (.int (k:Int)),Ya (.ref f),Ya (.ref o),Ya (.ref nr),Ya (.int dd),Ya (.str nm),Ya (.ref M1.length),Yk] M2= .nx [Ya (SC ns),Ya (.int (k:Int)),Ya (.ref f),Ya (.ref o),Ya (.ref nr),Ya (.int dd),Ya (.str nm),Ya (.ref M1.length),Ya (.tup less.enc)] M3:=by
   refine bY (Zg (iD (ds:=Eo) (Zo (gV (Zo (gV (Zo rfl (Zo rfl (Zo (gV rfl rfl) rfl))) rfl) rfl) rfl) (Zo (gV rfl rfl) rfl)) rfl) (iK (a:=.bl (decide (q8=7))) (M1:=M3) (Zg (Zg (Zg rfl rfl (jZ (by decide))) rfl (dX (by decide))) rfl ?_) (d:=.int ((if q8=7 then 1 else 0:Nat):Int)) ?_) (gG (dU M2 _ []) (by rw[jD];exact hless)))
   .rw[Oe];by_cases q:q8=7
    .rw[decide_eq_true q];exact nR (by omega)
    .rw[decide_eq_false q];exact jV (by omega)
   .rw[Zqs,Zsm];by_cases q:q8=7
    .rw[decide_eq_true q,if_pos q];rfl
    .rw[decide_eq_false q,if_neg q];rfl
  have AcL:M3[M1.length]?=Ya (.lst zG):=cW (dU M1 _ []) _;have t5:Zr (aN aY bL (Zb 3) (Za (cu (Za (eC (.str [119,104,105,108,101])) (Za (e2 Zk (Zb 7) (e2 aW (e2 aW (e2 d9 (Zb 5) (eC (.int 8))) (eC (.int 8))) (eC (.int 5)))) (Za (Zb 8) (Ze))))) (Ze))) [Ya (SC ns),Ya (.int (k:Int)),Ya (.ref f),Ya (.ref o),Ya (.ref nr),Ya (.int dd),Ya (.str nm),Ya (.ref M1.length),Ya (.tup less.enc)] M3= .nx [Ya (SC ns),Ya (.int (k:Int)),Ya (.ref f),Ya (.ref o),Ya (.ref nr),Ya (.int dd),Ya (.str nm),Ya (.ref M1.length),Ya (.tup less.enc)] (M3.set o (MO.lst (cY r++[(bh.whl cond less).enc]))):=mZ rfl hp3.ho (gV (Zo rfl (Zo (Zg rfl (Zg (Zg (Zg rfl rfl (jZ (by decide))) rfl (dX (by decide))) rfl (dX (by decide))) (gG AcL (by rw[Oe,show((q8:Int) % 5)=((q8 % 5:Nat):Int)by omega,jD];exact hcond))) (Zo rfl rfl))) rfl) hp3.ho ZF;exact(Zi ((cV (Zg (Zg rfl rfl (dX (by decide))) rfl (nR h1))).trans ((Zi t1).trans ((Zi t2).trans ((Zi t3).trans ((Zi t4).trans t5)))))).trans (Znk hp3 hr λ_=>rfl)
 .--a choice
  obtain⟨t,ht,htl,hsum⟩:=ZnW (Q:=λx=>ir x=false) (at0:=200+30*k) (lim:=4) hl (M:=M) (nr:=nr) (names:=names) (DQ h.p hn) hne hlt hop (by decide);refine fin (env:=[Ya (SC ns),Ya (.int (k:Int)),Ya (.ref f),Ya (.ref o),Ya (.ref nr),Yk,Yk,Yk,Yk]) (env':=[Ya (SC ns),Ya (.int (k:Int)),Ya (.ref f),Ya (.ref o),Ya (.ref nr),Ya (.int dd),Yk,Yk,Yk]) (x:=.bT t) h g (Sm.uF ht (by omega)) (by have e1:(bh.bT t).wt=2*t.flat.length+3:=rfl;rw[e1];omega) (Yl _) ?_ rfl;unfold HW;refine(Zi YL).trans ?_;have hidx:e2 aK (eC (.int 200)) (e2 eO (eC (.int 30)) (Zb 1)) [Ya (SC ns),Ya (.int (k:Int)),Ya (.ref f),Ya (.ref o),Ya (.ref nr),Ya (.int dd),Yk,Yk,Yk] M= .ok (.int ((200+30*k:Nat):Int)) M:=by refine Zg rfl (Zg rfl rfl (by rw[yg,if_pos (Ie (by decide))])) ?_;rw[Lg];congr 2
  have t5:Zr (aN aY bL (Zb 3) (Za (cu (Za (eC (.str [119,104,101,110])) (Za (Zw pq (Za (Zb 0) (Za (e2 aK (eC (.int 200)) (e2 eO (eC (.int 30)) (Zb 1))) (Za (Zb 4) (Za (eC (.int 4)) (Ze)))))) (Za (eC .non) (Ze))))) (Ze))) [Ya (SC ns),Ya (.int (k:Int)),Ya (.ref f),Ya (.ref o),Ya (.ref nr),Ya (.int dd),Yk,Yk,Yk] M= .nx [Ya (SC ns),Ya (.int (k:Int)),Ya (.ref f),Ya (.ref o),Ya (.ref nr),Ya (.int dd),Yk,Yk,Yk] (M.set o (MO.lst (cY r++[(bh.bT t).enc]))):=mZ rfl h.ho (gV (Zo rfl (Zo (LC rfl hidx rfl rfl hsum) (Zo rfl rfl))) rfl) h.ho ZF;exact(Zi ((bM (Zg (Zg rfl rfl (dX (by decide))) rfl (jV h1))).trans t5)).trans (Znk h hr λ_=>rfl)
end
noncomputable abbrev Wz:S3:=Zu (aJ 7 (aO lR (Za (e2 bI (Zb 5) (e2 aW (Zw eY (Za (Zb 0) (Za (eC (.int 58)) (Ze)))) (eC (.int 8)))) (Ze)))) (Zu (aJ 8 (Zw pq (Za (Zb 0) (Za (e2 aK (eC (.int 200)) (e2 eO (eC (.int 30)) (Zb 5))) (Za (Zb 2) (Za (e2 Zk (bV (Za (eC (.int 4)) (Za (eC (.int 10)) (Ze)))) (Zb 7)) (Ze))))))) (aQ (e2 mO (e2 aW (Zb 6) (eC (.int 9))) (eC (.int 3))) (Zr (aN aY bL (e2 Zk (Zb 3) (e1 jn (eC (.int 1)))) (Za (cu (Za (eC (.str [115,101,116])) (Za (e2 Zk (Zb 2) (e2 aW (e2 d9 (Zb 6) (eC (.int 9))) (eC (.int 6)))) (Za (Zb 8) (Ze))))) (Ze)))) (aQ (e2 bI (e2 aW (Zb 6) (eC (.int 9))) (eC (.int 3))) (Zr (aN aY bL (e2 Zk (Zb 3) (e1 jn (eC (.int 1)))) (Za (cu (Za (eC (.str [112,117,116])) (Za (Zb 8) (Za (Zw pq (Za (Zb 0) (Za (e2 aK (eC (.int 215)) (e2 eO (eC (.int 30)) (Zb 5))) (Za (Zb 2) (Za (e2 Zk (bV (Za (eC (.int 3)) (Za (eC (.int 8)) (Ze)))) (Zb 7)) (Ze)))))) (Ze))))) (Ze)))) (aQ (ji (e2 mO (e2 aW (Zb 6) (eC (.int 9))) (eC (.int 6))) (e2 mO (aO bW (Za (Zb 4) (Ze))) (eC (.int 3)))) (Zr (Zw CJ (Za (Zb 0) (Za (Zb 5) (Za (Zb 3) (Za (Zb 4) (Za (Zb 2) (Ze)))))))) (aQ (ji (e2 bI (e2 aW (Zb 6) (eC (.int 9))) (eC (.int 6))) (e2 dD (aO bW (Za (Zb 4) (Ze))) (eC (.int 0)))) (Zr (Zw wj (Za (Zb 3) (Za (Zb 4) (Ze))))) (Zr (aN aY bL (e2 Zk (Zb 3) (e1 jn (eC (.int 1)))) (Za (cu (Za (eC (.str [116,101,108,108])) (Za (Zb 8) (Ze)))) (Ze)))))))))
noncomputable abbrev jK(ns:List Int)(cl nr f o:Nat)(a5 a6 a7 a8:Option D):Zt:=[Ya (SC ns),Ya (.ref cl),Ya (.ref nr),Ya (.ref f),Ya (.ref o),a5,a6,a7,a8]
theorem Zly(r:List (bh×Ds)):(cY r).length=r.length:=by simp[cY]
variable{F:F3}
theorem Il{f g h k l:E3}{M M1 M2 M3 M4 M5 M6:Store}{a b c d e r:D}(h1:f env M= .ok a M1)(h2:g env M1= .ok b M2)(h3:h env M2= .ok c M3)(h4:k env M3= .ok d M4)(h5:l env M4= .ok e M5)(h6:F [a,b,c,d,e] M5= .ok r M6):Zw F (Za f (Za g (Za h (Za k (Za l Ze))))) env M= .ok r M6:=by simp only[Zw,Za,Ze,R3.bind,h1,h2,h3,h4,h5,h6]
section
variable {ns:List Int} {M0:Store} {f o cl nr:Nat} {names:List (List Nat)}
theorem Vk(hl:ns.length<=63)(hn:M0[nr]?=Ya (.lst (names.map D.str)))(hne:0<names.length)(hlt:names.length<1000)(hop:∀x∈names,ir x=false)(k:Nat)(p:M0<+:M)(base a b:Nat)(hab:a<=10/\b<=10)(deep:Bool)(e6 e8:Option D):
  ∃t:Sm,t.fine/\t.flat.length<=12/\Zw pq (Za (Zb 0) (Za (e2 aK (eC (.int (base:Int))) (e2 eO (eC (.int 30)) (Zb 5))) (Za (Zb 2) (Za (e2 Zk (bV (Za (eC (.int (a:Int))) (Za (eC (.int (b:Int))) (Ze)))) (Zb 7)) (Ze))))) (jK ns cl nr f o (Ya (.int (k:Int))) e6 (Ya (.int (if deep=true then 1 else 0))) e8) M= .ok (.tup t.flat) (M++[.lst [.int (a:Int),.int (b:Int)]]):=by
 obtain⟨t,ht,htl,hsum⟩:=ZnW (Q:=λx=>ir x=false) (at0:=base+30*k) (lim:=if deep=true then b else a) hl (M:=M++[.lst [.int (a:Int),.int (b:Int)]]) (nr:=nr) (names:=names) (DQ (p.trans (sW _ _)) hn) hne hlt hop (by split <;>omega);have hlim:t.flat.length<=12:=by split at htl<;>omega
 refine⟨t,Sm.uF ht (by omega),hlim,?_⟩;refine LC (b:=.int ((base+30*k:Nat):Int)) (M2:=M) (d:=.int ((if deep=true then b else a:Nat):Int)) rfl (Zg rfl (Zg rfl rfl (by rw[yg,if_pos (Ie (by decide))])) (by rw[Lg];congr 2)) rfl (Zg (iD (ds:=[.int (a:Int),.int (b:Int)]) rfl rfl) rfl (gG (dU M _ []) ?_)) hsum;cases deep with
 |true=>rfl|false=>rfl
theorem Zpz(hl:ns.length<=63)(hn:M0[nr]?=Ya (.lst (names.map D.str)))(hne:names.length=7)(hop:∀x∈names,ir x=false)(k:Nat)(cell:Int){rs:List Nat}{cur:Ds}{r:List (bh×Ds)}(h:fW M0 f o c rs cur r M)(g:gA cur r)(hw:dh cur r<=50000)(a7 a8:Option D):
  ∃S b7 b8,Wz (jK ns cl nr f o (Ya (.int (k:Int))) (Ya (.int cell)) a7 a8) M= .nx (jK ns cl nr f o (Ya (.int (k:Int))) (Ya (.int cell)) b7 b8) S/\Ea M0 f o (dh cur r+60) 3 S:=by
 let deep:Bool:=decide ((k:Int)=dr ns 58 % 8)
 have s1:aJ 7 (aO lR (Za (e2 bI (Zb 5) (e2 aW (Zw eY (Za (Zb 0) (Za (eC (.int 58)) (Ze)))) (eC (.int 8)))) (Ze))) (jK ns cl nr f o (Ya (.int (k:Int))) (Ya (.int cell)) a7 a8) M= .nx (jK ns cl nr f o (Ya (.int (k:Int))) (Ya (.int cell)) (Ya (.int (if deep=true then 1 else 0))) a8) M:=bY (iK (Zg rfl (Zg (qi hl (k:=58) rfl rfl) rfl (dX (by decide))) rfl) rfl);obtain⟨t,ht,htl,hsum⟩:=Vk (f:=f) (o:=o) (cl:=cl) hl hn (by omega) (by omega) hop k h.p 200 4 10 (by omega) deep (Ya (.int cell)) a8;have h1:=h.ext (sW M [.lst [.int ((4:Nat):Int),.int ((10:Nat):Int)]])
 let M1:=M++[MO.lst [.int ((4:Nat):Int),.int ((10:Nat):Int)]]
 have s2:aJ 8 (Zw pq (Za (Zb 0) (Za (e2 aK (eC (.int 200)) (e2 eO (eC (.int 30)) (Zb 5))) (Za (Zb 2) (Za (e2 Zk (bV (Za (eC (.int 4)) (Za (eC (.int 10)) (Ze)))) (Zb 7)) (Ze)))))) (jK ns cl nr f o (Ya (.int (k:Int))) (Ya (.int cell)) (Ya (.int (if deep=true then 1 else 0))) a8) M= .nx (jK ns cl nr f o (Ya (.int (k:Int))) (Ya (.int cell)) (Ya (.int (if deep=true then 1 else 0))) (Ya (.tup t.flat))) M1:=bY hsum;have hcw:=Oa cur r;have hel:=rW cur;have hcz:cur.enc.length<SZ:=iy (show cur.enc.length<200000 by omega) (by decide);have hlist:fV (eQ c rs) (-1)=Ya (.ref c):=by rw[Od];exact getD_last _ _
 have hlen:∀{a7 a8:Option D},aO bW (Za (Zb 4) (Ze)) (jK ns cl nr f o (Ya (.int (k:Int))) (Ya (.int cell)) a7 a8) M1= .ok (.int (r.length:Int)) M1:=by exact iK rfl ((vP h1.ho).trans (by rw[Zly]))
 have idx:∀{a7 a8:Option D},e2 Zk (Zb 3) (e1 jn (eC (.int 1))) (jK ns cl nr f o (Ya (.int (k:Int))) (Ya (.int cell)) a7 a8) M1= .ok (.ref c) M1:=Zg rfl (dW rfl (Lh 1)) (gG h1.hf hlist);have h9:∀{a7 a8:Option D},e2 aW (Zb 6) (eC (.int 9)) (jK ns cl nr f o (Ya (.int (k:Int))) (Ya (.int cell)) a7 a8) M1= .ok (.int (cell % 9)) M1:=Zg rfl rfl (dX (by decide));have put:∀{s:Ds},gw s (3-r.length)->s.wt<=60->∀{S:Store},fW M0 f o c rs cur r S->Ea M0 f o (dh cur r+60) 3 (S.set c (.lst (cur.enc++s.enc))):=λ{s} hs hsw {S} hS=>⟨c,rs,cur.app s,r,hS.put s,g.put (g.cur.app hs),by rw[N_];omega,g.len⟩;by_cases c1:cell % 9<3
 .obtain⟨q,eq,hq⟩:=ou (cell / 9) 6 (by decide);have eq:cell / 9 % 6=(q:Int):=eq;have hql:q<names.length:=by omega
  have hgq:names[q]?=Ya (names[q]'hql):=Y5 hql;have hres:=hop _ (JX hql);have Adj:M1[nr]?=Ya (.lst (names.map D.str)):=DQ h1.p hn;refine⟨_,_,_,(Zi s1).trans ((Zi s2).trans ((cV (Zg h9 rfl (by rw[vI,decide_eq_true c1]))).trans (zc idx h1.hc (gV (Zo rfl (Zo (Zg rfl (Zg (Zg rfl rfl (jZ (by decide))) rfl (dX (by decide))) (gG Adj (by rw[eq,jD,nG,hgq];rfl))) (Zo rfl rfl))) rfl) h1.hc hcz))),?_⟩;exact put (s:=.set (names[q]'hql) t .nil) ⟨⟨Wv hres,ht.1,trivial⟩,⟨hres,ht.2,trivial⟩,eN _⟩ (by simp only[Ds.wt];omega) h1
 have f1:∀{a7 a8:Option D},e2 mO (e2 aW (Zb 6) (eC (.int 9))) (eC (.int 3)) (jK ns cl nr f o (Ya (.int (k:Int))) (Ya (.int cell)) a7 a8) M1= .ok (.bl false) M1:=Zg h9 rfl (by rw[vI,decide_eq_false c1]);by_cases c2:cell % 9=3
 .obtain⟨u,hu,hul,AcV⟩:=Vk (f:=f) (o:=o) (cl:=cl) hl hn (by omega) (by omega) hop k h1.p 215 3 8 (by omega) deep (Ya (.int cell)) (Ya (.tup t.flat));have h2:=h1.ext (sW M1 [.lst [.int ((3:Nat):Int),.int ((8:Nat):Int)]]);refine⟨_,_,_,(Zi s1).trans ((Zi s2).trans ((bM f1).trans ((cV (Zg h9 rfl (nR c2))).trans (zc idx h1.hc (gV (Zo rfl (Zo rfl (Zo AcV rfl))) rfl) h2.hc hcz)))),?_⟩;exact put (s:=.put t u .nil) ⟨⟨ht.1,hu.1,trivial⟩,⟨ht.2,hu.2,trivial⟩,eN _⟩ (by simp only[Ds.wt];omega) h2
 have f2:∀{a7 a8:Option D},e2 bI (e2 aW (Zb 6) (eC (.int 9))) (eC (.int 3)) (jK ns cl nr f o (Ya (.int (k:Int))) (Ya (.int cell)) a7 a8) M1= .ok (.bl false) M1:=Zg h9 rfl (jV c2);by_cases c3:cell % 9<6/\r.length<3
 .obtain⟨S,e,hS⟩:=ZoQ hl k h1 g c3.2 (by omega) hn (by omega) (by omega) hop;obtain⟨c',rs',cur',r',q1,q2,q3,q4⟩:=hS;refine⟨S,_,_,(Zi s1).trans ((Zi s2).trans ((bM f1).trans ((bM f2).trans ((cV ((t_ (Zg h9 rfl (by rw[vI,decide_eq_true c3.1]))).trans (Zg hlen rfl (by rw[vI,decide_eq_true (by omega)])))).trans (gF (Il rfl rfl rfl rfl rfl e)))))),c',rs',cur',r',q1,q2,q3,q2.len⟩
 have f3:∀{a7 a8:Option D},ji (e2 mO (e2 aW (Zb 6) (eC (.int 9))) (eC (.int 6))) (e2 mO (aO bW (Za (Zb 4) (Ze))) (eC (.int 3))) (jK ns cl nr f o (Ya (.int (k:Int))) (Ya (.int cell)) a7 a8) M1= .ok (.bl false) M1:=by
  by_cases q:cell % 9<6
  .exact(t_ (Zg h9 rfl (by rw[vI,decide_eq_true q]))).trans (Zg hlen rfl (by rw[vI,decide_eq_false (by omega)]))
  .exact Bv (Zg h9 rfl (by rw[vI,decide_eq_false q]))
 by_cases c4:cell % 9=6/\0<r.length
 .cases r with
  |nil=>exact absurd c4.2 (by simp)|cons q r=>
   obtain⟨x,d⟩:=q;cases rs with
   |nil=>have:=h.len;simp at this|cons c' rs=>obtain⟨S,e,hS⟩:=ZjN h1 g (by omega);obtain⟨c2,Im,Eu,r2,q1,q2,q3,q4⟩:=hS;refine⟨S,_,_,(Zi s1).trans ((Zi s2).trans ((bM f1).trans ((bM f2).trans ((bM f3).trans ((cV ((t_ (Zg h9 rfl (nR c4.1))).trans (Zg hlen rfl (by rw[jo,decide_eq_true (by simp)])))).trans (gF (yu rfl rfl e))))))),c2,Im,Eu,r2,q1,q2,by omega,q2.len⟩
 have f4:∀{a7 a8:Option D},ji (e2 bI (e2 aW (Zb 6) (eC (.int 9))) (eC (.int 6))) (e2 dD (aO bW (Za (Zb 4) (Ze))) (eC (.int 0))) (jK ns cl nr f o (Ya (.int (k:Int))) (Ya (.int cell)) a7 a8) M1= .ok (.bl false) M1:=by
  by_cases q:cell % 9=6
  .exact(t_ (Zg h9 rfl (nR q))).trans (Zg hlen rfl (by rw[jo,decide_eq_false (by omega)]))
  .exact Bv (Zg h9 rfl (jV q))
 refine⟨_,_,_,(Zi s1).trans ((Zi s2).trans ((bM f1).trans ((bM f2).trans ((bM f3).trans ((bM f4).trans (zc idx h1.hc (gV rfl rfl) h1.hc hcz)))))),?_⟩;exact put (s:=.tell t .nil) ⟨⟨ht.1,trivial⟩,⟨ht.2,trivial⟩,eN _⟩ (by simp only[Ds.wt];omega) h1
theorem ZlF(hl:ns.length<=63)(hn:M0[nr]?=Ya (.lst (names.map D.str)))(hne:names.length=7)(hop:∀x∈names,ir x=false){items:List D}(hcl:M0[cl]?=Ya (.lst items)):∀(cs:List Int) (k w:Nat) (M:Store) (a5 a6 a7 a8:Option D),Ea M0 f o w 3 M->w+60*cs.length<=40000 ->
  ∃S b5 b6 b7 b8,nU [(cl,items)] (Lw [5,6]) Wz (mW k (cs.map D.int)) (jK ns cl nr f o a5 a6 a7 a8) M= .nx (jK ns cl nr f o b5 b6 b7 b8) S/\Ea M0 f o (w+60*cs.length) 3 S
 |[],k,w,M,a5,a6,a7,a8,H,_=>by obtain⟨c,rs,cur,r,h,g,hw,hm⟩:=H;refine⟨M,a5,a6,a7,a8,?_,c,rs,cur,r,h,g,by simpa using hw,hm⟩;show nU _ _ _ [] _ _=_;rw[Ua,if_pos (by simp[q_,DQ h.p hcl])]|x::cs,k,w,M,a5,a6,a7,a8,H,hz=>by rw[Ys]at hz;obtain⟨c,rs,cur,r,h,g,hw,hm⟩:=H;obtain⟨S,b7,b8,e,HS⟩:=Zpz (cl:=cl) hl hn hne hop k x h g (by omega) a7 a8;obtain⟨c2,Im,Eu,r2,h2,g2,hw2,hm2⟩:=HS;obtain⟨S2,d5,d6,d7,d8,e2',HS2⟩:=ZlF hl hn hne hop hcl cs (k+1) (w+60) S (Ya (.int (k:Int))) (Ya (.int x)) b7 b8 ⟨c2,Im,Eu,r2,h2,g2,by omega,hm2⟩ (by omega);obtain⟨c3,rs3,Qf,r3,h3,g3,hw3,hm3⟩:=HS2;refine⟨S2,d5,d6,d7,d8,?_,c3,rs3,Qf,r3,h3,g3,by rw[Ys];omega,hm3⟩;show nU _ _ _ (.tup [.int (k:Int),.int x]::mW (k+1) (cs.map D.int)) _ _=_;rw[Ub,if_pos (by simp[q_,DQ h.p hcl])];have e:Wz [Ya (SC ns),Ya (.ref cl),Ya (.ref nr),Ya (.ref f),Ya (.ref o),Ya (.int (k:Int)),Ya (.int x),a7,a8] M= .nx [Ya (SC ns),Ya (.ref cl),Ya (.ref nr),Ya (.ref f),Ya (.ref o),Ya (.int (k:Int)),Ya (.int x),b7,b8] S:=e;simp only[Lw,ZmM,ZmH,lz,lF,e];exact e2'
theorem Zxr(r:List (bh×Ds)):wA r<=2*r.length:=by
 induction r with
 |nil=>exact Yl _|cons p r ih=>
  obtain⟨x,d⟩:=p;rw[D_,Ys];have:x.mu<=2:=by cases x<;>simp[bh.mu]
  omega
theorem Zoj(h3:∀S,Zb 3 env S= .ok (.ref f) S)(h4:∀S,Zb 4 env S= .ok (.ref o) S):∀(m fuel:Nat) (c:Nat) (rs:List Nat) (cur:Ds) (r:List (bh×Ds)) (M:Store),wA r<=m->m<fuel->fW M0 f o c rs cur r M->gA cur r->dh cur r<=100000 ->
  ∃S c' cur',iz (e2 dD (aO bW (Za (Zb 4) (Ze))) (eC (.int 0))) (Zr (Zw wj (Za (Zb 3) (Za (Zb 4) (Ze))))) fuel env M= .nx env S/\fW M0 f o c' [] cur' [] S/\gw cur' 3/\cur'.wt=dh cur r:=by
 intro m
 induction m with
 | zero=>
  intro fuel c rs cur r M hm hf h g hw;obtain⟨k,rfl⟩:∃k,fuel=k+1:=⟨fuel-1,by omega⟩;cases r with
  | nil=>
   cases rs with
   |cons _ _=>have:=h.len;simp at this|nil=>refine⟨M,c,cur,?_,h,g,rfl⟩;rw[kj,Zg (iK (h4 M) (vP h.ho)) rfl (show dD (.int ((cY []).length:Int)) (.int 0) M= .ok (.bl false) M from rfl)]
  |cons q r=>obtain⟨x,d⟩:=q;rw[D_]at hm;cases x<;>simp[bh.mu]at hm
 | succ m ih=>
  intro fuel c rs cur r M hm hf h g hw;obtain⟨k,rfl⟩:∃k,fuel=k+1:=⟨fuel-1,by omega⟩;cases r with
  | nil=>
   cases rs with
   |cons _ _=>have:=h.len;simp at this|nil=>refine⟨M,c,cur,?_,h,g,rfl⟩;rw[kj,Zg (iK (h4 M) (vP h.ho)) rfl (show dD (.int ((cY []).length:Int)) (.int 0) M= .ok (.bl false) M from rfl)]
  | cons q r=>
   obtain⟨x,d⟩:=q;cases rs with
   |nil=>have:=h.len;simp at this|cons c' rs=>obtain⟨S,e,HS⟩:=ZjN h g hw;obtain⟨c2,Im,Eu,r2,q1,q2,q3,q4⟩:=HS;obtain⟨S2,c3,Qf,e2',h5,h6,h7⟩:=ih k c2 Im Eu r2 S (by omega) (by omega) q1 q2 (by omega);refine⟨S2,c3,Qf,?_,h5,h6,h7.trans q3⟩;rw[kj,Zg (iK (h4 M) (vP h.ho)) rfl (show dD (.int ((cY ((x,d)::r)).length:Int)) (.int 0) M= .ok (.bl true) M by rw[jo,Zly,decide_eq_true (by simp)])];show(match Zr _ _ _ with| .nx e M'=>_| .ct e M'=>_| .bk e M'=>_|o=>o)=_;rw[gF (yu (h3 M) (h4 M) e)];exact e2'
end
theorem rY{n:Nat}:∀d:Ds,cg n d.enc=true
 | .nil=>rfl|.set x t r=>by show(below n (uv x t)&&cg n r.enc)=true;rw[rY r,u_];show(true&&(cg n t.flat&&true))=true;rw[rR (rQ t)];rfl
 | .put t u r=>by show(below n (rT t u)&&cg n r.enc)=true;rw[rY r,u_];show(true&&(cg n t.flat&&(cg n u.flat&&true)))=true;rw[rR (rQ t),rR (rQ u)];rfl|.tell t r=>by show(below n (wk t)&&cg n r.enc)=true;rw[rY r,u_];show(true&&(cg n t.flat&&true))=true;rw[rR (rQ t)];rfl|.bT t a b r=>by show(below n (k_ t a.enc b.enc)&&cg n r.enc)=true;rw[rY r,u_];show(true&&(cg n t.flat&&(cg n a.enc&&(cg n b.enc&&true))))=true;rw[rR (rQ t),rY a,rY b];rfl|.whl t a r=>by show(below n (bQ t a.enc)&&cg n r.enc)=true;rw[rY r,u_];show(true&&(cg n t.flat&&(cg n a.enc&&true)))=true;rw[rR (rQ t),rY a];rfl
theorem Zp6(hl:ns.length<=63){cl nr:Nat}{cs:List Int}(hcl:M[cl]?=Ya (.lst (cs.map D.int)))(hcs:cs.length<=24)(hn:M[nr]?=Ya (.lst (names.map D.str)))(hne:names.length=7)(hop:∀x∈names,ir x=false):
  ∃ds:Ds,gw ds 3/\ds.wt<=2000/\Nv [SC ns,.ref cl,.ref nr] M= .ok (.tup ds.enc) M:=by
 let M3:=M++[MO.lst [],.lst [.ref M.length],.lst []]
 have h0:fW M (M.length+1) (M.length+2) M.length [] .nil [] M3:=⟨sW _ _,p6 M [MO.lst [],.lst [.ref M.length],.lst []] 1,p6 M [MO.lst [],.lst [.ref M.length],.lst []] 2,p6 M [MO.lst [],.lst [.ref M.length],.lst []] 0,λi a q h=>by simp at h,rfl,by simp,by simp,by simp,by omega,by omega,by omega,by simp⟩;obtain⟨S,b5,b6,b7,b8,e,H⟩:=ZlF (f:=M.length+1) (o:=M.length+2) (cl:=cl) hl hn hne hop hcl cs 0 0 M3 Yk Yk Yk Yk ⟨M.length,[],.nil,[],h0,gw.nil 3,Yl _,by simp⟩ (by omega);obtain⟨c,rs,cur,r,h,g,hw,hm⟩:=H;have hmu:=Zxr r;obtain⟨S2,c',cur',e2',h5,h6,h7⟩:=Zoj (env:=jK ns cl nr (M.length+1) (M.length+2) b5 b6 b7 b8) (λ_=>rfl) (λ_=>rfl) (wA r) 1000000 c rs cur r S (Yl _) (by omega) h g (by omega);obtain⟨G,hG⟩:=h5.p;refine⟨cur',h6,by omega,?_⟩;refine(jC (M':=S2) (d:=.tup cur'.enc) (env:=[Ya (SC ns),Ya (.ref cl),Ya (.ref nr),Yk,Yk,Yk,Yk,Yk,Yk]) ?_).trans ?_
 .unfold V9;refine(Zi (bY (d:=.ref (M.length+1)) (M':=M++[MO.lst [],.lst [.ref M.length]]) ?_)).trans ((Zi (bY (d:=.ref (M.length+2)) (M':=M3) ?_)).trans ?_)
  .have hi:Za (bV (Ze)) (Ze) [Ya (SC ns),Ya (.ref cl),Ya (.ref nr),Yk,Yk,Yk,Yk,Yk,Yk] M= .ok [.ref M.length] (M++[.lst []]):=Zo (iD rfl rfl) rfl;refine(iD hi rfl).trans ?_;rw[mG,Yv];rfl
  .refine(iD (ds:=[]) (M':=M++[MO.lst [],.lst [.ref M.length]]) rfl rfl).trans ?_;rw[mG,Yv];rfl
  have hit:Uc (Zb 1) (jK ns cl nr (M.length+1) (M.length+2) Yk Yk Yk Yk) M3= .ok ⟨mW 0 (cs.map D.int),[(cl,cs.map D.int)]⟩ M3:=by show(match M3[cl]? with|some (.lst ds)=>R3.ok (⟨mW 0 ds,[(cl,ds)]⟩:Bw) M3|_=>R3.bad)=_;rw[show M3[cl]?=_ from cW hcl _]
  refine(Zi ((Zov hit).trans e)).trans ((Zi e2').trans (je (iK (Zg rfl rfl (gG h5.hf rfl)) (GD h5.hc))))
 .rw[←hG];exact Bu (rY cur')
theorem Zrk(hl:ns.length<=63):(wu ns 6).Nodup:=by
 unfold wu;have key:∀i j:Nat,i<6->j<6->lg ns i=lg ns j->i=j:=λi j hi hj e=>by
  have h1:=Ztq hl i;have h2:=Ztq hl j;rw[e,h2]at h1;have hb:∀x:Int,(x % 26).toNat<m5.length:=λx=>by have a:=Ai x (b:=26) (by decide);have b:=Rv x (b:=26) (by decide);show _<26;omega
  have hn:m5.Nodup:=by decide
  have:=(Ykq (hb _) hn).mp h1;have a1:=Ai ((i:Int)+dr ns 3) (b:=26) (by decide);have a2:=Ai ((j:Int)+dr ns 3) (b:=26) (by decide);omega
 have:∀l:List Nat,l.Nodup->(∀i∈l,i<6)->(l.map (lg ns)).Nodup:=by
  intro l
  induction l with
  |nil=>intro _ _;exact Yl8|cons i l ih=>intro hn WD;rw[Y8,qH];refine⟨λhm=>?_,ih (qH.mp hn).2 λj hj=>WD j (Yq _ hj)⟩;obtain⟨j,hj,e⟩:=Fo.mp hm;have:=key j i (WD j (Yq _ hj)) (WD i Yz) e;exact(qH.mp hn).1 (this▸hj)
 exact this _ List.nodup_range λi hi=>Ab.mp hi
theorem ZhS(h:ns.length<=63)(n:Nat):∀x∈wu ns n,ir x=false:=λx hx=>by obtain⟨i,_,rfl⟩:=Fo.mp hx;exact(Ww h i).ir
inductive ZvV(ns:List Int)(P:D):Prop
 |mk (tk:List (List Nat)) (ds:Ds) (e:P=j4 tk ds) (nd:tk.Nodup) (len:tk.length<=6) (fine:gw ds 3) (wt:ds.wt<=2000) (rs:∀x∈tk,ir x=false)
theorem Zmj(hl:ns.length<=63)(M:Store):∃P,ZvV ns P/\HX [SC ns] M= .ok P M:=by
 obtain⟨j,ej,hj⟩:=ou (dr ns 50) 7 (by decide);have ej:dr ns 50 % 7=(j:Int):=ej
 let nm:=wu ns 6
 let tk:=nm.take j
 let zp:=nm++[lg ns 10]
 let cs:=ns.take 24
 have hcs:cs.length<=24:=by simp[cs];omega
 have Adk:zp.length=7:=by simp[zp,nm,Wy]
 have hr7:∀x∈zp,ir x=false:=λx hx=>by
  rcases sX.mp hx with e|e
  .exact ZhS hl 6 x e
  .rw[mF.mp e];exact(Ww hl 10).ir
 have main:∀M:Store,∃ds:Ds,gw ds 3/\ds.wt<=2000/\HX [SC ns] M= .ok (j4 tk ds) M:=λM=>by
  let M1:=M++[MO.lst (nm.map D.str)]
  let M2:=M1++[MO.lst (tk.map D.str)]
  let M3:=M2++[MO.lst (cs.map D.int)]
  let M4:=M3++[MO.lst [.str (lg ns 10)]]
  let M5:=M4++[MO.lst (zp.map D.str)]
  have hcl:M5[M2.length]?=Ya (.lst (cs.map D.int)):=cW (cW (dU M2 _ []) _) _;have hnr:M5[M4.length]?=Ya (.lst (zp.map D.str)):=dU M4 _ [];obtain⟨ds,hf,hw,hd⟩:=Zp6 hl (M:=M5) hcl hcs hnr Adk hr7;refine⟨ds,hf,hw,?_⟩;refine(jC (M':=M5) (d:=j4 tk ds) (env:=[Ya (SC ns),Yk,Yk]) ?_).trans ?_
  .unfold V_;have s1:=Zrf hl 6 (by decide) (i:=3) (env:=[Ya (SC ns),Yk,Yk]) (λe=>∃a1 a2 a3,e=[Ya (SC ns),a1,a2,a3]) ⟨_,_,_,rfl⟩ (λe ⟨a1,a2,a3,he⟩ d=>by subst he;exact⟨⟨_,_,_,rfl⟩,λM=>⟨rfl,rfl⟩⟩) M;refine(Zi (bY s1)).trans ?_;have hsl:yj (Zb 1) (yh) (vJ (e2 aW (Zw eY (Za (Zb 0) (Za (eC (.int 50)) (Ze)))) (eC (.int 7)))) [Ya (SC ns),Ya (.ref M.length),Yk] M1= .ok (.ref M1.length) M2:=by
    have hd:e2 aW (Zw eY (Za (Zb 0) (Za (eC (.int 50)) (Ze)))) (eC (.int 7)) [Ya (SC ns),Ya (.ref M.length),Yk] M1= .ok (.int (j:Int)) M1:=Zg (qi hl (k:=50) rfl rfl) rfl ((dX (by decide)).trans (by rw[ej]));have ec:cutD (nm.map D.str) Yk (Ya (j:Int))=tk.map D.str:=by rw[Zp0,Ymm]
    simp only[yj,Zb,R3.bind,yh,vJ];have hv:([Ya (SC ns),Ya (.ref M.length),Yk]:Zt)[1]?=Ya (Ya (.ref M.length)):=rfl;simp only[hv];rw[hd];simp only[R3.bind];rw[Gu,show M1[M.length]?=_ from dU M _ []];show alloc (.lst (cutD (nm.map D.str) Yk (Ya (j:Int)))) M1=_;rw[ec];rfl
   refine(Zi (bY (d:=.tup (tk.map D.str)) (M':=M2) (iK hsl (GD (dU M1 _ []))))).trans ?_;have Adl:yj (Zb 0) (yh) (vJ (eC (.int 24))) [Ya (SC ns),Ya (.ref M.length),Ya (.tup (tk.map D.str))] M2= .ok (.ref M2.length) M3:=by
    have ec:cutD (ns.map D.int) Yk (Ya ((24:Nat):Int))=cs.map D.int:=by rw[Zp0,Ymm]
    show alloc (.lst (cutD (ns.map D.int) Yk (Ya ((24:Nat):Int)))) M2=_;rw[ec];rfl
   have h1:M4[M.length]?=Ya (.lst (nm.map D.str)):=cW (cW (cW (dU M _ []) _) _) _;have hadd:e2 aK (Zb 1) (bV (Za (Zw n8 (Za (Zb 0) (Za (eC (.int 10)) (Ze)))) (Ze))) [Ya (SC ns),Ya (.ref M.length),Ya (.tup (tk.map D.str))] M3= .ok (.ref M4.length) M5:=by refine Zg rfl (iD (Zo (yu rfl rfl (Wx hl 10 M3)) rfl) rfl) ((Wt h1 (dU M3 _ []) (by rw[jP,Wy];simp)).trans ?_);show R3.ok (D.ref M4.length) (M4++[.lst (nm.map D.str++[.str (lg ns 10)])])=_;simp only[M5,zp,Rc];rfl
   exact je (gV (Zo rfl (Zo (Zip rfl Adl hadd hd) rfl)) rfl)
  .have e:M5=M++[MO.lst (nm.map D.str),.lst (tk.map D.str),.lst (cs.map D.int),.lst [.str (lg ns 10)],.lst (zp.map D.str)]:=by simp[M5,M4,M3,M2,M1]
   rw[e];refine Bu ?_;show(cg _ _&&(cg _ _&&true))=true;rw[rY,rR λw hw=>by obtain⟨x,_,rfl⟩:=Fo.mp hw;exact m7.str x];rfl
 obtain⟨ds,hf,hw,e⟩:=main M;refine⟨j4 tk ds,⟨tk,ds,rfl,(Zrk hl).sublist (Q_ _ _),?_,hf,hw,λx hx=>ZhS hl 6 x (List.take_subset _ _ hx)⟩,e⟩;simp[tk,nm,Wy];omega
noncomputable abbrev bU:List Nat:=[87,97,108,107]
noncomputable abbrev pA:List Nat:=[110,97,109,101,100]
noncomputable abbrev rZ:List Nat:=[99,101,108,108,115]
noncomputable abbrev wB:List Nat:=[110,117,109,98,101,114,115]
noncomputable abbrev wC:List Nat:=[115,116,101,112,115]
noncomputable abbrev zq:List Nat:=[109,111,115,116]
noncomputable abbrev Io:List Nat:=[118,97,108,117,101,95,111,102]
noncomputable abbrev zr:List Nat:=[115,112,101,110,100]
noncomputable abbrev cJ(a c b:Nat)(s m:Int):MO:=.ins bU [(pA,.ref a),(rZ,.ref c),(wB,.ref b),(wC,.int s),(zq,.int m)]
theorem zu{c m:List Nat}{g:cF}{M M1 M2 M3:Store}{a:D}(h1:o env M= .ok a M1)(hi:ud c m a M1=true)(h2:g env M1= .ok ds M2)(h3:F (a::ds) M2= .ok d M3):bN c m F o g env M= .ok d M3:=by simp only[bN,h1,R3.bind,hi,if_true,h2,h3]
section
variable {a c b w:Nat} {s m:Int} {M:Store}
theorem ZtC(h:M[w]?=Ya (cJ a c b s m)):jW bU pA (.ref w) M= .ok (.ref a) M:=by rw[BJ,h];rfl
theorem ZtB(h:M[w]?=Ya (cJ a c b s m)):jW bU rZ (.ref w) M= .ok (.ref c) M:=by rw[BJ,h];rfl
theorem WK(h:M[w]?=Ya (cJ a c b s m)):jW bU wB (.ref w) M= .ok (.ref b) M:=by rw[BJ,h];rfl
theorem Ip(h:M[w]?=Ya (cJ a c b s m)):jW bU wC (.ref w) M= .ok (.int s) M:=by rw[BJ,h];rfl
theorem ZtN(h:M[w]?=Ya (cJ a c b s m)):jW bU zq (.ref w) M= .ok (.int m) M:=by rw[BJ,h];rfl
theorem m9(h:M[w]?=Ya (cJ a c b s m)){x:List Nat}(hx:([pA,rZ,wB,wC,zq].contains x)=false):ud bU x (.ref w) M=true:=by
 rw[Zl2,h];have:(qJ x [(pA,D.ref a),(rZ,.ref c),(wB,.ref b),(wC,.int s),(zq,.int m)])=Yk:=by simp only[Yj9,List.contains_nil,Bool.or_eq_false_iff]at hx;simp only[qJ,hx.1,hx.2.1,hx.2.2.1,hx.2.2.2.1,hx.2.2.2.2.1]
 show(decide (bU=bU)&&(qJ x [(pA,D.ref a),(rZ,.ref c),(wB,.ref b),(wC,.int s),(zq,.int m)]).isNone)=true;rw[this];rfl
theorem Ztl(h:M[w]?=Ya (cJ a c b s m))(v:Int):LQ bU wC (.int v) (.ref w) M= .ok .non (M.set w (cJ a c b v m)):=by rw[Ug,h];rfl
end
noncomputable def opV(o:Nat)(x y:Int):Int:=match o with
 |0=>x+y|1=>x-y|_=>if x>y then 1 else 0
theorem ZoL(o:Nat)(x y:Int)(M:Store):Nk [.str (jr o),.int x,.int y] M= .ok (.int (opV o x y)) M:=by
 refine(jC (M':=M) (d:=.int (opV o x y)) (env:=[Ya (.str (jr o)),Ya (.int x),Ya (.int y)]) ?_).trans (T8 rfl);unfold VR
 match o with
 |0=>exact vO ((cV (Zg rfl rfl (zb rfl))).trans rfl)|1=>exact(Zi (t7 (Zg rfl rfl (rP (by decide))))).trans (vO ((cV (Zg rfl rfl (zb rfl))).trans rfl))|o+2=>
  refine(Zi (t7 (Zg rfl rfl (rP (by show[109,111,114,101]≠_;decide))))).trans ((Zi (t7 (Zg rfl rfl (rP (by show[109,111,114,101]≠_;decide))))).trans ?_);by_cases h:x>y
  .exact je ((ZtD (M1:=M) (Zg rfl rfl (by rw[jo,decide_eq_true h]))).trans (by show R3.ok (D.int 1) M=R3.ok (D.int (if x>y then 1 else 0)) M;rw[if_pos h]))
  .exact je ((Zxj (M1:=M) (Zg rfl rfl (by rw[jo,decide_eq_false h]))).trans (by show R3.ok (D.int 0) M=R3.ok (D.int (if x>y then 1 else 0)) M;rw[if_neg h]))
noncomputable def Sm.cost:Sm->Nat
 | .num _=>1|.bR _=>2|.fB a=>a.cost+2|.two _ a b=>a.cost+b.cost+1
noncomputable def Sm.val(nv:List Nat->Int)(cv:Int->Int):Sm->Int
 | .num i=>i|.bR x=>nv x|.fB a=>cv (a.val nv cv)|.two o a b=>opV o (a.val nv cv) (b.val nv cv)
structure fD(w:Nat)(M M':Store):Prop where
 len:M.length<=M'.length
 old:∀i,i<M.length->i≠w->M'[i]?=M[i]?
variable{w:Nat}
theorem fD.rfl:fD w M M:=⟨Yl _,λ_ _ _=>Eq.refl _⟩
theorem fD.trans{M M1 M2:Store}(h:fD w M M1)(k:fD w M1 M2):fD w M M2:=⟨Yu h.len k.len,λi hi hw=>(k.old i (Yo hi h.len) hw).trans (h.old i hi hw)⟩
theorem fD.at{o:MO}(h:fD w M M')(e:M[i]?=Ya o)(hw:i≠w):M'[i]?=Ya o:=(h.old i (Ye.mp e).1 hw).trans e
theorem fD.app(w:Nat)(M G:Store):fD w M (M++G):=⟨by simp,λi hi _=>Yw hi⟩
theorem fD.set(w:Nat)(M:Store)(o:MO):fD w M (M.set w o):=⟨by simp,λi _ hw=>Yf (bK hw)⟩
theorem Eb(M M':Store)(d:D)(hl:M.length<=M'.length):∃M2,tidy M d M'= .ok d M2/\M.length<=M2.length/\∀i,i<M.length->M2[i]?=M'[i]?:=by
 unfold tidy;split
 .exact⟨_,rfl,by rw[Fi];omega,λi hi=>by rw[z7 hi]⟩
 .exact⟨_,rfl,hl,λ_ _=>rfl⟩
structure WS(w a c b:Nat)(m:Int)(nk ck:List (a_×D))(M:Store)(s:Int):Prop where
 ob:M[w]?=Ya (cJ a c b s m)
 nm:M[a]?=Ya (.dct nk)
 cl:M[c]?=Ya (.dct ck)
 ac:a≠c
variable{s:Int}
section
variable {w a c b:Nat} {m:Int} {nk ck:List (a_×D)} {nv:List Nat->Int} {cv:Int->Int}
theorem WS.aw(h:WS w a c b m nk ck M s):a≠w:=λe=>by have:=h.ob;rw[←e,h.nm]at this;cases this
theorem WS.cw(h:WS w a c b m nk ck M s):c≠w:=λe=>by have:=h.ob;rw[←e,h.cl]at this;cases this
theorem WS.lt(h:WS w a c b m nk ck M s):w<M.length:=(Ye.mp h.ob).1
theorem WS.uO{s':Int}(h:WS w a c b m nk ck M s)(g:fD w M M')(e:M'[w]?=Ya (cJ a c b s' m)):WS w a c b m nk ck M' s':=⟨e,g.at h.nm h.aw,g.at h.cl h.cw,h.ac⟩
end
structure W7 where
 n:List (a_×D)
 c:List (a_×D)
 o:List D
 s:Int
noncomputable def W7.v(x:W7)(t:Sm):Int:=t.val (λy=>intOf x.n (.inr y)) λi=>intOf x.c (.inl i)
noncomputable def W7.sp(x:W7)(k:Int):W7:=⟨x.n,x.c,x.o,x.s+k⟩
noncomputable def W7.set(x:W7)(y:List Nat)(t:Sm):W7:=⟨putD (.inr y) (.int (x.v t)) x.n,x.c,x.o,x.s+(t.cost:Int)+2⟩
noncomputable def W7.put(x:W7)(t u:Sm):W7:=⟨x.n,putD (.inl (x.v t)) (.int (x.v u)) x.c,x.o,x.s+(t.cost:Int)+(u.cost:Int)+2⟩
noncomputable def W7.tell(x:W7)(t:Sm):W7:=⟨x.n,x.c,x.o++[.int (x.v t)],x.s+(t.cost:Int)+1⟩
inductive G7 where
 |done (x:W7)
 |over
 |out
noncomputable def G7.on(g:G7)(f:W7->G7):G7:=match g with
 | .done x=>f x|.over=>.over|.out=>.out
noncomputable section
noncomputable def aZ(m:Int)(x:W7)(g:G7):G7:=if x.s<=m then g else .over
noncomputable def aM(m:Int):Nat->Ds->W7->G7
 |0,_,_=>.out|_+1,.nil,x=>.done x|n+1,.set y t r,x=>aZ m (x.set y t) (aM m n r (x.set y t))|n+1,.put t u r,x=>aZ m (x.put t u) (aM m n r (x.put t u))
 |n+1,.tell t r,x=>aZ m (x.tell t) (aM m n r (x.tell t))|n+1,.bT t a b r,x=>aZ m (x.sp ((t.cost:Int)+1)) (if 0<x.v t then(aM m n a (x.sp ((t.cost:Int)+1))).on λy=>aM m n r y else(aM m n b (x.sp ((t.cost:Int)+1))).on λy=>aZ m (y.sp 1) (aM m n r (y.sp 1)))|n+1,.whl t a r,x=>aZ m (x.sp ((t.cost:Int)+1)) (if 0<x.v t then(aM m n a (x.sp ((t.cost:Int)+1))).on λy=>aZ m (y.sp 1) (aM m n (.whl t a r) (y.sp 1))else aZ m (x.sp ((t.cost:Int)+1+1)) (aM m n r (x.sp ((t.cost:Int)+1+1))))
end
variable{g:G7}{m:Int}
theorem dM{x:W7}(h:x.s<=m):aZ m x g=g:=if_pos h
theorem gZ{x:W7}(h:m<x.s):aZ m x g= .over:=if_neg (by omega)
theorem jt{x y:W7}(h:aZ m x g= .done y):x.s<=m/\g= .done y:=by
 by_cases q:x.s<=m
 .rw[dM q]at h;exact⟨q,h⟩
 .rw[gZ (by omega)]at h;cases h
theorem Ec{f:W7->G7}{y:W7}(h:g.on f= .done y):∃x,g= .done x/\f x= .done y:=by
 cases g with
 |done x=>exact⟨x,rfl,h⟩|over=>cases h|out=>cases h
theorem wD{x:W7}{g':G7}(h:g≠ .out->g'=g)(k:aZ m x g≠ .out):aZ m x g'=aZ m x g:=by
 by_cases q:x.s<=m
 .rw[dM q]at k ⊢;rw[dM q,h k]
 .rw[gZ (by omega),gZ (by omega)]
theorem WL{g':G7}{f f':W7->G7}(h:g≠ .out->g'=g)(hf:∀x,f x≠ .out->f' x=f x)(k:g.on f≠ .out):g'.on f'=g.on f:=by
 cases g with
 |done x=>rw[h (by intro z;cases z)];exact hf x k|over=>rw[h (by intro z;cases z)];rfl|out=>exact absurd rfl k
theorem Zsy:∀(n:Nat) (d:Ds) (x:W7),aM m n d x≠ .out->aM m (n+1) d x=aM m n d x:=by
 intro n
 induction n with
 |zero=>intro d x h;exact absurd rfl h|succ n ih=>
  intro d x h;cases d with
  |nil=>rfl|set y t r=>exact wD (ih r _) h|put t u r=>exact wD (ih r _) h|tell t r=>exact wD (ih r _) h
  |bT t a b r=>
   refine wD (λk=>?_) h;by_cases q:0<x.v t
   .rw[if_pos q]at k;rw[if_pos q,if_pos q];exact WL (ih a _) (λy=>ih r y) k
   .rw[if_neg q]at k;rw[if_neg q,if_neg q];exact WL (ih b _) (λy=>wD (ih r _)) k
  |whl t a r=>
   refine wD (λk=>?_) h;by_cases q:0<x.v t
   .rw[if_pos q]at k;rw[if_pos q,if_pos q];exact WL (ih a _) (λy=>wD (ih (.whl t a r) _)) k
   .rw[if_neg q]at k;rw[if_neg q,if_neg q];exact wD (ih r _) k
theorem Zw9{n k:Nat}(h:n<=k)(d:Ds)(x:W7)(hn:aM m n d x≠ .out):aM m k d x=aM m n d x:=by
 obtain⟨j,rfl⟩:=Nat.le.dest h
 induction j with
 |zero=>rfl|succ j ih=>have:=ih (by omega);exact(Zsy (n+j) d x (by rw[this];exact hn)).trans this
structure Bd(x y:W7)(f:Int->G7):Prop where
 le:x.s<=y.s
 ok:∀m,y.s<=m->f m= .done y
 ov:∀m,x.s<=m->m<y.s->f m= .over
theorem Bd.lim{x x1 y:W7}{f:Int->G7}(h:x.s<=x1.s)(k:Bd x1 y f):Bd x y λm=>aZ m x1 (f m):=
 ⟨xU h k.le,λm q=>(dM (xU k.le q)).trans (k.ok m q),λm _ q2=>by
  by_cases z:x1.s<=m
  .exact(dM z).trans (k.ov m z q2)
  .exact gZ (by omega)⟩
theorem Bd.on{x y z:W7}{f:Int->G7}{g:Int->W7->G7}(h:Bd x y f)(k:Bd y z λm=>g m y):Bd x z λm=>(f m).on (g m):=
 ⟨xU h.le k.le,λm q=>by show(f m).on (g m)=_;rw[h.ok m (xU k.le q)];exact k.ok m q,λm q1 q2=>by
  show(f m).on (g m)=_;by_cases w:y.s<=m
  .rw[h.ok m w];exact k.ov m w q2
  .rw[h.ov m q1 (by omega)];rfl⟩
theorem Ed:∀(n:Nat) (d:Ds) (x y:W7),aM m n d x= .done y->Bd x y λm=>aM m n d x:=by
 intro n
 induction n with
 |zero=>intro d x y h;cases h|succ n ih=>
  intro d x y h;cases d with
  |nil=>have h:G7.done x= .done y:=h;cases h;exact⟨xV _,λ_ _=>rfl,λ_ q1 q2=>by omega⟩|set z t r=>exact Bd.lim (by show x.s<=x.s+(t.cost:Int)+2;omega) (ih r _ _ (jt h).2)|put t u r=>exact Bd.lim (by show x.s<=x.s+(t.cost:Int)+(u.cost:Int)+2;omega) (ih r _ _ (jt h).2)
  |tell t r=>exact Bd.lim (by show x.s<=x.s+(t.cost:Int)+1;omega) (ih r _ _ (jt h).2)|bT t a b r=>
   have h:=(jt h).2;refine Bd.lim (x1:=x.sp ((t.cost:Int)+1)) (by show x.s<=x.s+((t.cost:Int)+1);omega) ?_;by_cases q:0<x.v t
   .rw[if_pos q]at h;obtain⟨z,h1,h2⟩:=Ec h;simp only[if_pos q];exact Bd.on (g:=λm y=>aM m n r y) (ih a _ _ h1) (ih r _ _ h2)
   .rw[if_neg q]at h;obtain⟨z,h1,h2⟩:=Ec h;simp only[if_neg q];exact Bd.on (g:=λm y=>aZ m (y.sp 1) (aM m n r (y.sp 1))) (ih b _ _ h1) (Bd.lim (by show z.s<=z.s+1;omega) (ih r _ _ (jt h2).2))
  | whl t a r=>
   have h:=(jt h).2;refine Bd.lim (x1:=x.sp ((t.cost:Int)+1)) (by show x.s<=x.s+((t.cost:Int)+1);omega) ?_;by_cases q:0<x.v t
   .rw[if_pos q]at h;obtain⟨z,h1,h2⟩:=Ec h;simp only[if_pos q];exact Bd.on (g:=λm y=>aZ m (y.sp 1) (aM m n (.whl t a r) (y.sp 1))) (ih a _ _ h1) (Bd.lim (by show z.s<=z.s+1;omega) (ih _ _ _ (jt h2).2))
   .rw[if_neg q]at h;simp only[if_neg q];exact Bd.lim (by show x.s+((t.cost:Int)+1)<=x.s+((t.cost:Int)+1+1);omega) (ih r _ _ (jt h).2)
structure F7(x:W7):Prop where
 n:m8 x.n
 c:m8 x.c
 nl:(x.n.length:Int)<=x.s+100
 cl:(x.c.length:Int)<=x.s+100
 ol:(x.o.length:Int)<=x.s+100
 oi:∀d∈x.o,∃z,d= .int z
theorem F7.sp{x:W7}(h:F7 x){k:Int}(hk:0<=k):F7 (x.sp k):=⟨h.n,h.c,by have:=h.nl;show(x.n.length:Int)<=x.s+k+100;omega,by have:=h.cl;show(x.c.length:Int)<=x.s+k+100;omega,by have:=h.ol;show(x.o.length:Int)<=x.s+k+100;omega,h.oi⟩
theorem F7.set{x:W7}(h:F7 x)(y:List Nat)(t:Sm):F7 (x.set y t):=⟨Wr h.n _ _,h.c,by have:=h.nl;have:=Ws (.inr y) (.int (x.v t)) x.n;show((putD _ _ _).length:Int)<=x.s+(t.cost:Int)+2+100;omega,by have:=h.cl;show(x.c.length:Int)<=x.s+(t.cost:Int)+2+100;omega,by have:=h.ol;show(x.o.length:Int)<=x.s+(t.cost:Int)+2+100;omega,h.oi⟩
theorem F7.put{x:W7}(h:F7 x)(t u:Sm):F7 (x.put t u):=⟨h.n,Wr h.c _ _,by have:=h.nl;show(x.n.length:Int)<=x.s+(t.cost:Int)+(u.cost:Int)+2+100;omega,by have:=h.cl;have:=Ws (.inl (x.v t)) (.int (x.v u)) x.c;show((putD _ _ _).length:Int)<=x.s+(t.cost:Int)+(u.cost:Int)+2+100;omega,by have:=h.ol;show(x.o.length:Int)<=x.s+(t.cost:Int)+(u.cost:Int)+2+100;omega,h.oi⟩
theorem F7.tell{x:W7}(h:F7 x)(t:Sm):F7 (x.tell t):=⟨h.n,h.c,by have:=h.nl;show(x.n.length:Int)<=x.s+(t.cost:Int)+1+100;omega,by have:=h.cl;show(x.c.length:Int)<=x.s+(t.cost:Int)+1+100;omega,by have:=h.ol;show((x.o++[_]).length:Int)<=x.s+(t.cost:Int)+1+100;rw[Yv];show((x.o.length+1:Nat):Int)<=_;omega,λd hd=>by
 rcases sX.mp hd with e|e
 .exact h.oi d e
 .exact⟨_,mF.mp e⟩⟩
theorem g_(h:f env M= .ok d M'):bf f env M= .ok d M':=by simp only[bf,h]
theorem pB{f:cF}{d:List D}(h:f env M= .ok d M'):bJ f env M= .ok d M':=by simp only[bJ,h]
theorem Og{f:S3}{e:Zt}(h:f env M= .nx e M'):gW f env M= .nx e M':=by rw[gW,h]
theorem Ef{f:S3}(h:f env M= .rt d M'):gW f env M= .rt d M':=by rw[gW,h]
theorem WM{f g:S3}{x:X3}(h:f env M= .exc x M'):Zu f g env M= .exc x M':=by rw[Zu,h]
theorem ZrY{ps:Nat}{body:S3}{x:X3}(h:body env M= .exc x M')(hl:ds.length=ps:=by rfl)(he:ds.map Ya++Yh (n-ps) Yk=env:=by rfl):bG ps n body ds M= .exc x M':=by subst he;rw[bG,if_pos hl,h]
theorem Zoe{c:List Nat}{g:cF}{M M1:Store}(h:g env M= .ok [d] M1):BK c g env M= .exc ⟨c,.ref M1.length⟩ (M1++[.ins (0::c) []]):=by rw[BK,h]
theorem Oh{x:X3}(h:f env M= .exc x M'):Zr f env M= .exc x M':=by rw[Zr,h]
theorem Zqd{x:X3}(h:f env M= .exc x M'):aJ i f env M= .exc x M':=by rw[aJ,h]
variable{j:Nat}
theorem ZpF{cs:List (List Nat)}{b g:S3}{env e1 e2:Zt}{M M' M2:Store}{x:X3}(h:b env M= .exc x M')(hc:cs.contains x.cls=true)(hg:g (env.set j (Ya x.arg)) M'= .nx e1 M2)(he:e1.set j Yk=e2):GK cs j b g env M= .nx e2 M2:=by rw[GK,h];simp only[hc,if_true,hg,he]
theorem WN{c m:List Nat}{g:cF}{M M1 M2 M3:Store}{a:D}{x:X3}(h1:o env M= .ok a M1)(hi:ud c m a M1=true)(h2:g env M1= .ok ds M2)(h3:F (a::ds) M2= .exc x M3):bN c m F o g env M= .exc x M3:=by simp only[bN,h1,R3.bind,hi,if_true,h2,h3]
theorem Zn3{yes no:List (List Nat)}{c:List Nat}{fs:List (List Nat×D)}(h:M[n]?=Ya (.ins (0::c) fs))(hy:yes.contains c=true):rm yes no (.ref n) M= .ok (.bl true) M:=by simp only[Zif,h,hy,if_true]
noncomputable abbrev su:List Nat:=[83,112,101,110,116]
def cO(P:Nat->Prop)(M:Store)(r:R3 D):Prop:=∃k M',r= .exc ⟨su,.ref k⟩ M'/\M'[k]?=Ya (.ins (0::su) [])/\M.length<=M'.length/\∀i,i<M.length->P i->M'[i]?=M[i]?
variable{P:Nat->Prop}
theorem cO.from{M M1:Store}{r:R3 D}(h:cO P M1 r)(hl:M.length<=M1.length)(ho:∀i,i<M.length->P i->M1[i]?=M[i]?):cO P M r:=by obtain⟨k,M',a,b,c,d⟩:=h;exact⟨k,M',a,b,Yu hl c,λi hi hp=>(d i (Yo hi hl) hp).trans (ho i hi hp)⟩
theorem cO.imp{Q:Nat->Prop}{r:R3 D}(h:cO P M r)(k:∀i,i<M.length->Q i->P i):cO Q M r:=by obtain⟨j,M',a,b,c,d⟩:=h;exact⟨j,M',a,b,c,λi hi hq=>d i hi (k i hi hq)⟩
def bx(P:Nat->Prop)(M:Store)(r:O3):Prop:=∃k M',r= .exc ⟨su,.ref k⟩ M'/\M'[k]?=Ya (.ins (0::su) [])/\M.length<=M'.length/\∀i,i<M.length->P i->M'[i]?=M[i]?
theorem bx.from{M M1:Store}{r:O3}(h:bx P M1 r)(hl:M.length<=M1.length)(ho:∀i,i<M.length->P i->M1[i]?=M[i]?):bx P M r:=by obtain⟨k,M',a,b,c,d⟩:=h;exact⟨k,M',a,b,Yu hl c,λi hi hp=>(d i (Yo hi hl) hp).trans (ho i hi hp)⟩
theorem bx.imp{Q:Nat->Prop}{r:O3}(h:bx P M r)(k:∀i,i<M.length->Q i->P i):bx Q M r:=by obtain⟨j,M',a,b,c,d⟩:=h;exact⟨j,M',a,b,c,λi hi hq=>d i hi (k i hi hq)⟩
theorem bx.seq{f g:S3}(h:bx P M (f env M0)):bx P M (Zu f g env M0):=by obtain⟨k,M',a,b⟩:=h;exact⟨k,M',WM a,b⟩
theorem bx.to{cZ:Zt}{f g:S3}(e:f env M= .nx cZ M0)(h:bx P M (g cZ M0)):bx P M (Zu f g env M):=by rw[Zi e];exact h
theorem bx.def{body:S3}{ps:Nat}(h:bx P M (body env M))(hl:ds.length=ps:=by rfl)(he:ds.map Ya++Yh (n-ps) Yk=env:=by rfl):cO P M (bG ps n body ds M):=by obtain⟨k,M',a,b⟩:=h;exact⟨k,M',ZrY a hl he,b⟩
theorem cO.expr(h:cO P M (f env M0)):bx P M (Zr f env M0):=by obtain⟨k,M',a,b⟩:=h;exact⟨k,M',Oh a,b⟩
theorem cO.sets(h:cO P M (f env M0)):bx P M (aJ i f env M0):=by obtain⟨k,M',a,b⟩:=h;exact⟨k,M',Zqd a,b⟩
theorem cO.meth{M M1 M2 M0:Store}{c m:List Nat}{g:cF}{a:D}(h1:o env M0= .ok a M1)(hi:ud c m a M1=true)(h2:g env M1= .ok ds M2)(h:cO P M (F (a::ds) M2)):cO P M (bN c m F (bf o) (bJ g) env M0):=by obtain⟨k,M',e,b⟩:=h;exact⟨k,M',WN (g_ h1) hi (pB h2) e,b⟩
variable{e:cF}
section
variable {a c b w:Nat} {s m:Int} {M:Store}
theorem ZpH(h:M[w]?=Ya (cJ a c b s m))(k:Int)(hk:s+k<=m):gM [.ref w,.int k] M= .ok .non (M.set w (cJ a c b (s+k) m)):=by have hw:w<M.length:=(Ye.mp h).1;have h2:(M.set w (cJ a c b (s+k) m))[w]?=Ya (cJ a c b (s+k) m):=Yx hw;refine(t8 (M':=M.set w (cJ a c b (s+k) m)) (env:=[Ya (.ref w),Ya (.int k)]) (env':=[Ya (.ref w),Ya (.int k)]) ?_).trans (NQ (oO ..));unfold Np;refine(Zi (Og (gF (Zg (Zg (dW rfl (Ip h)) rfl rfl) rfl (Ztl h (s+k)))))).trans ?_;exact(bM (g_ (Zg (dW rfl (Ip h2)) (dW rfl (ZtN h2)) (by rw[jo,decide_eq_false (by omega)])))).trans rfl
theorem ZrU(h:M[w]?=Ya (cJ a c b s m))(k:Int)(hk:m<s+k):cO (· ≠w) M (gM [.ref w,.int k] M):=by
 have hw:w<M.length:=(Ye.mp h).1;have h2:(M.set w (cJ a c b (s+k) m))[w]?=Ya (cJ a c b (s+k) m):=Yx hw;refine bx.def (env:=[Ya (.ref w),Ya (.int k)]) ⟨(M.set w (cJ a c b (s+k) m)).length,M.set w (cJ a c b (s+k) m)++[.ins (0::su) []],?_,dU _ _ [],by simp,λi hi hw'=>?_⟩
 .unfold Np;refine(Zi (Og (gF (Zg (Zg (dW rfl (Ip h)) rfl rfl) rfl (Ztl h (s+k)))))).trans ?_;refine(cV (g_ (Zg (dW rfl (Ip h2)) (dW rfl (ZtN h2)) (by rw[jo,decide_eq_true (by omega)])))).trans (Zoe rfl)
 .rw[Yw (by rw[oO];exact hi),Yf (bK hw')]
theorem zx(h:M[w]?=Ya (cJ a c b s m))(k:Int)(hk:s+k<=m)(h0:o env M= .ok (.ref w) M)(he:e env M= .ok [.int k] M):Zr (bN bU zr gM (bf o) (bJ e)) env M= .nx env (M.set w (cJ a c b (s+k) m)):=gF (zu (g_ h0) (m9 h (by decide)) (pB he) (ZpH h k hk))
theorem zy(h:M[w]?=Ya (cJ a c b s m))(k:Int)(hk:m<s+k)(h0:o env M= .ok (.ref w) M)(he:e env M= .ok [.int k] M):bx (· ≠w) M (Zr (bN bU zr gM (bf o) (bJ e)) env M):=(cO.meth h0 (m9 h (by decide)) he (ZrU h k hk)).expr
end
variable{it:gD}
theorem ZnB{i:I3}{own:Nat}{g:G3}{M M1:Store}(h:i env M= .ok it M1):vR i own g f env M=dF it g [] f M1.length it.items (env++Yh own Yk) (M1++[.lst []]):=by rw[vR,h]
section
variable {w a c b:Nat} {m:Int} {nk ck:List (a_×D)} {nv:List Nat->Int} {cv:Int->Int}
def Ir(w a c b:Nat)(m:Int)(nk ck:List (a_×D))(nv:List Nat->Int)(cv:Int->Int)(F:F3)(t:Sm):Prop:=
 ∀M s,WS w a c b m nk ck M s->s<=m ->
  (s+(t.cost:Int)<=m->∃M',F [.ref w,.tup t.flat] M= .ok (.int (t.val nv cv)) M'/\fD w M M'/\M'[w]?=Ya (cJ a c b (s+(t.cost:Int)) m))/\
  (m<s+(t.cost:Int)->cO (· ≠w) M (F [.ref w,.tup t.flat] M))
noncomputable abbrev wF(F:F3):E3:=bN bU Io F (bf (Zb 0)) (bJ (Za (Zb 3) (Ze)))
theorem Zoy{items:List D}{pk:Nat}{t:Sm}{ts:List Sm}{acc:List D}{M M1:Store}{T P x:Option D}{v:Int}(hp:M[pk]?=Ya (.lst items))(h1:F [.ref w,.tup t.flat] M= .ok (.int v) M1)(hi:ud bU Io (.ref w) M=true)(hn1:M1[n]?=Ya (.lst acc))(hz:acc.length<1000):
  dF ⟨items,Ya pk⟩ (bF 3) [] (wF F) n (.tup t.flat::ts.map λt=>.tup t.flat) [Ya (.ref w),T,P,x] M=dF ⟨items,Ya pk⟩ (bF 3) [] (wF F) n (ts.map λt=>.tup t.flat) [Ya (.ref w),T,P,Ya (.tup t.flat)] (M1.set n (.lst (acc++[.int v]))):=by
 rw[Ly,if_pos (by show decide _=true;exact decide_eq_true hp)];have he:wF F [Ya (.ref w),T,P,Ya (.tup t.flat)] M= .ok (.int v) M1:=zu (g_ rfl) hi (pB rfl) h1;have hlt:acc.length<SZ:=iy hz (show 1000<SZ by decide);simp only[bF,lz,lF,Lx,R3.sy,if_true,he,hn1,if_pos hlt]
theorem ZoH{items:List D}{pk:Nat}(hpn:pk≠n):∀(ts:List Sm),(∀t∈ts,Ir w a c b m nk ck nv cv F t)->∀(acc:List D) (M:Store) (s:Int) (T P x:Option D),M[n]?=Ya (.lst acc)->M[pk]?=Ya (.lst items)->WS w a c b m nk ck M s->s<=m->acc.length+ts.length<1000 ->
  (s+((ts.map Sm.cost).sum:Int)<=m->∃M',dF ⟨items,Ya pk⟩ (bF 3) [] (wF F) n (ts.map λt=>.tup t.flat) [Ya (.ref w),T,P,x] M= .ok (.ref n) M'/\M'[n]?=Ya (.lst (acc++ts.map λt=>.int (t.val nv cv)))/\M.length<=M'.length/\(∀i,i<M.length->i≠w->i≠n->M'[i]?=M[i]?)/\M'[w]?=Ya (cJ a c b (s+((ts.map Sm.cost).sum:Int)) m))/\
  (m<s+((ts.map Sm.cost).sum:Int)->cO (λi=>i≠w/\i≠n) M (dF ⟨items,Ya pk⟩ (bF 3) [] (wF F) n (ts.map λt=>.tup t.flat) [Ya (.ref w),T,P,x] M)):=by
 intro ts
 induction ts with
 |nil=>intro _ acc M s T P x hn hp ws hs hz;refine⟨λ_=>⟨M,?_,by simpa using hn,Yl _,λ_ _ _ _=>rfl,by simpa using ws.ob⟩,λh=>by simp at h;omega⟩;rw[Yes,T7,if_pos (by show decide _=true;exact decide_eq_true hp)]|cons t ts ih=>
  intro ht acc M s T P x hn hp ws hs hz;have es:s+(((t::ts).map Sm.cost).sum:Int)=s+(t.cost:Int)+((ts.map Sm.cost).sum:Int):=by rw[Y8,List.sum_cons,Kc,Aj]
  rw[es];have hi:ud bU Io (.ref w) M=true:=m9 ws.ob (by decide);by_cases hc:s+(t.cost:Int)<=m
  .obtain⟨M1,h1,g1,e1⟩:=(ht t Yz M s ws hs).1 hc;have wG:=ws.uO g1 e1;have hnw:n≠w:=λe=>by have:=ws.ob;rw[←e,hn]at this;cases this
   have hpw:pk≠w:=λe=>by have:=ws.ob;rw[←e,hp]at this;cases this
   have hn1:=g1.at hn hnw;have hln:n<M1.length:=(Ye.mp hn1).1;have hp1:=g1.at hp hpw;have nZ:WS w a c b m nk ck (M1.set n (.lst (acc++[.int (t.val nv cv)]))) (s+(t.cost:Int)):=by
    have na:n≠a:=λe=>by have:=wG.nm;rw[←e,hn1]at this;cases this
    have nc:n≠c:=λe=>by have:=wG.cl;rw[←e,hn1]at this;cases this
    exact⟨by rw[Yf hnw];exact wG.ob,by rw[Yf na];exact wG.nm,by rw[Yf nc];exact wG.cl,wG.ac⟩
   have hst:=Zoy (items:=items) (pk:=pk) (n:=n) (t:=t) (ts:=ts) (acc:=acc) (T:=T) (P:=P) (x:=x) hp h1 hi hn1 (by omega);have hl1:M.length<=(M1.set n (.lst (acc++[.int (t.val nv cv)]))).length:=by rw[oO];exact g1.len
   have ho1:∀i,i<M.length->i≠w->i≠n->(M1.set n (.lst (acc++[.int (t.val nv cv)])))[i]?=M[i]?:=λi hi h2 h3=>by rw[Yf (bK h3)];exact g1.old i hi h2
   obtain⟨r1,r2⟩:=ih (λt' h'=>ht t' (Yq _ h')) (acc++[.int (t.val nv cv)]) (M1.set n (.lst (acc++[.int (t.val nv cv)]))) (s+(t.cost:Int)) T P (Ya (.tup t.flat)) (Yx hln) (by rw[Yf (bK hpn)];exact hp1) nZ hc (by simp at hz ⊢;omega);rw[Y8,hst];refine⟨λhs2=>?_,λhs2=>(r2 hs2).from hl1 λi hi q=>ho1 i hi q.1 q.2⟩;obtain⟨M',h2,h3,h4,h5,h6⟩:=r1 hs2;exact⟨M',h2,by simpa using h3,Yu hl1 h4,λi hi hw hn'=>(h5 i (Yo hi hl1) hw hn').trans (ho1 i hi hw hn'),h6⟩
  .refine⟨λh=>by omega,λ_=>?_⟩;obtain⟨k,M',e,q1,q2,q3⟩:=(ht t Yz M s ws hs).2 (by omega);refine⟨k,M',?_,q1,q2,λi hi hq=>q3 i hi hq.1⟩;rw[Y8,Ly,if_pos (by show decide _=true;exact decide_eq_true hp)];have he:wF F [Ya (.ref w),T,P,Ya (.tup t.flat)] M= .exc ⟨su,.ref k⟩ M':=WN (g_ rfl) hi (pB rfl) e;simp only[bF,lz,lF,Lx,R3.sy,if_true,he,R3.bind]
end
theorem bx.WP{M M0 M1:Store}{c:E3}{f g:S3}(h:c env M0= .ok (.bl true) M1)(k:bx P M (f env M1)):bx P M (aQ c f g env M0):=by rw[cV h];exact k
theorem oE{c:E3}{f:S3}{M M1:Store}(h:c env M= .ok (.bl false) M1):aQ (bf c) f (gW gR) env M= .nx env M1:=(bM (g_ h)).trans rfl
section
variable {w a c b:Nat} {m:Int} {nk ck:List (a_×D)} {nv:List Nat->Int} {cv:Int->Int}
noncomputable def Sm.own:Sm->Int
 | .num _=>1|.bR _=>2|.fB _=>2|.two _ _ _=>1
theorem Zqq(t:Sm):(t.cost:Int)=((t.parts.map Sm.cost).sum:Int)+t.own:=by
 cases t with
 |num _=>rfl|bR _=>rfl|fB a=>simp[Sm.parts,Sm.cost,Sm.own]|two o a b=>simp[Sm.parts,Sm.cost,Sm.own]
theorem Zmu{rec:Nat->F3}{t:Sm}(hg:t.good)(hl:t.flat.length<=500)(hN:∀x,(cT nk (.inr x)).getD (.int 0)= .int (nv x))(hC:∀i,(cT ck (.inl i)).getD (.int 0)= .int (cv i))(hr:∀p∈t.parts,Ir w a c b m nk ck nv cv (rec 0) p):
  Ir w a c b m nk ck nv cv (bG 2 3 (wg rec)) t:=by
 intro M s ws hs0;obtain⟨G,k,hp,hG⟩:=Zrb M t hg hl
 let M1:=M++G
 have hpk:M1[M.length+k]?=Ya (.lst (t.parts.map λt=>.tup t.flat)):=(p6 M G k).trans hG;have hpl:M.length+k<M1.length:=(Ye.mp hpk).1;have g1:fD w M M1:=fD.app w M G;have wG:WS w a c b m nk ck (M1++[.lst []]) s:=ws.uO (g1.trans (fD.app w M1 _)) (cW (cW ws.ob G) _);have hn0:(M1++[MO.lst []])[M1.length]?=Ya (.lst []):=dU M1 _ [];have hco:=Zqq t;have AfZ:t.parts.length<=2:=by cases t<;>simp[Sm.parts]
 have hit:mR (Zw yS (Za (Zb 1) (Ze))) [Ya (.ref w),Ya (.tup t.flat),Yk] M= .ok ⟨t.parts.map λt=>.tup t.flat,Ya (M.length+k)⟩ M1:=by show(Zw yS (Za (Zb 1) (Ze)) [Ya (.ref w),Ya (.tup t.flat),Yk] M).bind _=_;rw[GC rfl hp,R3.sy];show(match M1[M.length+k]? with|some (.lst ds)=>R3.ok (⟨ds,Ya (M.length+k)⟩:gD) M1|_=>R3.bad)=_;rw[hpk]
 have Adm:w<M1.length:=Yo ws.lt g1.len;obtain⟨cok,cex⟩:=ZoH (F:=rec 0) (nv:=nv) (cv:=cv) (items:=t.parts.map λt=>.tup t.flat) (pk:=M.length+k) (n:=M1.length) (Y6 hpl) t.parts hr [] (M1++[.lst []]) s (Ya (.tup t.flat)) Yk Yk hn0 (cW hpk _) wG hs0 (by simp;omega);by_cases hsum:s+((t.parts.map Sm.cost).sum:Int)<=m
 .obtain⟨M2,h1,h2,h3,h4,h5⟩:=cok hsum;rw[qI]at h2;have g2:fD w M M2:=⟨Yu g1.len (Yu (by simp) h3),λi hi hw=>by
   have hi1:i<M1.length:=Yo hi g1.len;rw[h4 i (by rw[Yv];omega) hw (Y6 hi1),Yw hi1];exact g1.old i hi hw⟩
  have nZ:WS w a c b m nk ck M2 (s+((t.parts.map Sm.cost).sum:Int)):=ws.uO g2 h5;have s1:aJ 2 (vR (mR (Zw yS (Za (Zb 1) (Ze)))) 1 (bF 3) (wF (rec 0))) [Ya (.ref w),Ya (.tup t.flat),Yk] M= .nx [Ya (.ref w),Ya (.tup t.flat),Ya (.ref M1.length)] M2:=bY (d:=.ref M1.length) ((ZnB hit).trans h1);have hlen:aO bW (Za (Zb 2) (Ze)) [Ya (.ref w),Ya (.tup t.flat),Ya (.ref M1.length)] M2= .ok (.int (t.parts.length:Int)) M2:=by refine iK rfl ?_;rw[vP h2,jP]
  have hnw:M1.length≠w:=tu Adm;refine⟨λhs=>?_,λhs=>?_⟩
  .have hk:s+((t.parts.map Sm.cost).sum:Int)+t.own<=m:=by omega
   let M3:=M2.set w (cJ a c b (s+((t.parts.map Sm.cost).sum:Int)+t.own) m)
   have gs:=fD.set w M2 (cJ a c b (s+((t.parts.map Sm.cost).sum:Int)+t.own) m);have g3:fD w M M3:=g2.trans gs;have w3:WS w a c b m nk ck M3 (s+((t.parts.map Sm.cost).sum:Int)+t.own):=nZ.uO gs (Yx nZ.lt);have n3:M3[M1.length]?=Ya (.lst (t.parts.map λt=>.int (t.val nv cv))):=gs.at h2 hnw;have fin:wg rec [Ya (.ref w),Ya (.tup t.flat),Yk] M= .rt (.int (t.val nv cv)) M3->∃M',bG 2 3 (wg rec) [.ref w,.tup t.flat] M= .ok (.int (t.val nv cv)) M'/\fD w M M'/\M'[w]?=Ya (cJ a c b (s+(t.cost:Int)) m):=λhb=>by obtain⟨M4,e4,l4,o4⟩:=Eb M M3 (.int (t.val nv cv)) g3.len;exact⟨M4,(jC (env:=[Ya (.ref w),Ya (.tup t.flat),Yk]) hb).trans e4,⟨l4,λi hi hw=>(o4 i hi).trans (g3.old i hi hw)⟩,by rw[o4 w ws.lt,hco,←Aj];exact w3.ob⟩
   refine fin ?_;unfold wg;refine(Zi s1).trans ?_;cases t with
   |two o x y=>refine vO ((cV (g_ (Zg hlen rfl (nR rfl)))).trans ((Zi (zx nZ.ob 1 hk rfl rfl)).trans (Ef (je ?_))));exact Zip (Zg rfl rfl (oZ (zf _))) (Zg rfl rfl (gG n3 rfl)) (Zg rfl rfl (gG n3 rfl)) (ZoL o _ _ _)|fB x=>refine(Zi (oE (Zg hlen rfl (jV (show¬((1:Nat):Int)=2 by decide))))).trans (vO ((cV (g_ (Zg hlen rfl (nR rfl)))).trans ((Zi (zx nZ.ob 2 hk rfl rfl)).trans (Ef (je ?_)))));have hidx:e2 Zk (Zb 2) (eC (.int 0)) [Ya (.ref w),Ya (.tup (Sm.fB x).flat),Ya (.ref M1.length)] M3= .ok (.int (x.val nv cv)) M3:=Zg rfl rfl (gG n3 rfl);refine DP (a:=.ref c) (M1:=M3) (M2:=M3) (M3:=M3) (dW rfl (ZtB w3.ob)) (by rw[Br,w3.cl];rfl) (Zo hidx (Zo rfl rfl)) ?_;rw[Gx,w3.cl];show R3.ok ((cT ck (.inl (x.val nv cv))).getD (.int 0)) _=_;rw[hC];rfl|num i=>exact(Zi (oE (Zg hlen rfl (jV (show¬((0:Nat):Int)=2 by decide))))).trans ((Zi (oE (Zg hlen rfl (jV (show¬((0:Nat):Int)=1 by decide))))).trans (vO ((cV (g_ (dW (Zg rfl rfl (oZ (zf _))) (show jd .int (.int i) M2= .ok (.bl true) M2 from rfl)))).trans ((Zi (zx nZ.ob 1 hk rfl rfl)).trans (Ef (je (Zg rfl rfl (oZ (zf _)))))))))|bR x=>refine(Zi (oE (Zg hlen rfl (jV (show¬((0:Nat):Int)=2 by decide))))).trans ((Zi (oE (Zg hlen rfl (jV (show¬((0:Nat):Int)=1 by decide))))).trans ((Zi (oE (dW (Zg rfl rfl (oZ (zf _))) (show jd .int (.str x) M2= .ok (.bl false) M2 from rfl)))).trans ((Zi (zx nZ.ob 2 hk rfl rfl)).trans (Ef (je ?_)))));refine DP (a:=.ref a) (M1:=M3) (M2:=M3) (M3:=M3) (dW rfl (ZtC w3.ob)) (by rw[Br,w3.nm];rfl) (Zo (Zg rfl rfl (oZ (zf _))) (Zo rfl rfl)) ?_;rw[show(Sm.bR x).head= .str x from rfl,Gx,w3.nm];show R3.ok ((cT nk (.inr x)).getD (.int 0)) _=_;rw[hN];rfl
  .have hk:m<s+((t.parts.map Sm.cost).sum:Int)+t.own:=by omega
   refine bx.def (env:=[Ya (.ref w),Ya (.tup t.flat),Yk]) ?_;unfold wg;refine bx.to s1 (bx.from ?_ g2.len λi hi hw=>g2.old i hi hw);cases t with
   |two o x y=>exact(bx.WP (g_ (Zg hlen rfl (nR rfl))) (zy nZ.ob 1 hk rfl rfl).seq).seq|fB x=>exact bx.to (oE (Zg hlen rfl (jV (show¬((1:Nat):Int)=2 by decide)))) (bx.WP (g_ (Zg hlen rfl (nR rfl))) (zy nZ.ob 2 hk rfl rfl).seq).seq|num i=>exact bx.to (oE (Zg hlen rfl (jV (show¬((0:Nat):Int)=2 by decide)))) (bx.to (oE (Zg hlen rfl (jV (show¬((0:Nat):Int)=1 by decide)))) (bx.WP (g_ (dW (Zg rfl rfl (oZ (zf _))) (show jd .int (.int i) M2= .ok (.bl true) M2 from rfl))) (zy nZ.ob 1 hk rfl rfl).seq).seq)|bR x=>exact bx.to (oE (Zg hlen rfl (jV (show¬((0:Nat):Int)=2 by decide)))) (bx.to (oE (Zg hlen rfl (jV (show¬((0:Nat):Int)=1 by decide)))) (bx.to (oE (dW (Zg rfl rfl (oZ (zf _))) (show jd .int (.str x) M2= .ok (.bl false) M2 from rfl))) (zy nZ.ob 2 hk rfl rfl).seq))
 .refine⟨λhs=>?_,λ_=>?_⟩
  .have:0<=t.own:=by cases t<;>simp[Sm.own]
   omega
  .refine bx.def (env:=[Ya (.ref w),Ya (.tup t.flat),Yk]) ?_;unfold wg;have q:=cex (by omega);have q2:cO (· ≠w) M (dF ⟨t.parts.map λt=>.tup t.flat,Ya (M.length+k)⟩ (bF 3) [] (wF (rec 0)) M1.length (t.parts.map λt=>.tup t.flat) [Ya (.ref w),Ya (.tup t.flat),Yk,Yk] (M1++[.lst []])):=by
    obtain⟨j,M',e1,e2,e3,e4⟩:=q;refine⟨j,M',e1,e2,Yu g1.len (Yu (by simp) e3),λi hi hw=>?_⟩;have hi1:i<M1.length:=Yo hi g1.len;rw[e4 i (by rw[Yv];omega) ⟨hw,Y6 hi1⟩,Yw hi1];exact g1.old i hi hw
   refine bx.seq (cO.sets ?_);rw[ZnB hit];exact q2
theorem Zo0(hN:∀x,(cT nk (.inr x)).getD (.int 0)= .int (nv x))(hC:∀i,(cT ck (.inl i)).getD (.int 0)= .int (cv i)):∀(n:Nat) (t:Sm),t.good->t.flat.length<=n->n<=500->Ir w a c b m nk ck nv cv (Nq n 0) t:=by
 intro n
 induction n with
 |zero=>intro t _ h _;obtain⟨x,r,e⟩:=Ig t;rw[e,Ys]at h;omega|succ n ih=>intro t hg hl hn;exact Zmu hg (by omega) hN hC λp hp=>ih p (Zoq hg hp) (by have:=ZsE hp;omega) (by omega)
theorem value_eq{t:Sm}(hg:t.good)(hl:t.flat.length<=13)(hN:∀x,(cT nk (.inr x)).getD (.int 0)= .int (nv x))(hC:∀i,(cT ck (.inl i)).getD (.int 0)= .int (cv i)):Ir w a c b m nk ck nv cv rN t:=Zo0 hN hC 13 t hg hl (by omega)
end
noncomputable abbrev DOD:List Nat:=[100,111,95,100,101,101,100]
noncomputable abbrev WQ:List Nat:=[105,115,95,97,98,111,118,101]
noncomputable abbrev GTH:List Nat:=[103,111,95,116,104,114,111,117,103,104]
abbrev P4(w a c b i:Nat):Prop:=i≠w/\i≠a/\i≠c/\i≠b
structure eE(w a c b:Nat)(M M':Store):Prop where
 len:M.length<=M'.length
 old:∀i,i<M.length->P4 w a c b i->M'[i]?=M[i]?
theorem eE.rfl:eE w a c b M M:=⟨Yl _,λ_ _ _=>Eq.refl _⟩
theorem eE.trans{M M1 M2:Store}(h:eE w a c b M M1)(k:eE w a c b M1 M2):eE w a c b M M2:=⟨Yu h.len k.len,λi hi p=>(k.old i (Yo hi h.len) p).trans (h.old i hi p)⟩
theorem fD.oF(h:fD w M M'):eE w a c b M M':=⟨h.len,λi hi p=>h.old i hi p.1⟩
theorem Ztk(w a c b:Nat)(M:Store)(o:MO):eE w a c b M (M.set a o):=⟨by simp,λi _ p=>Yf (bK p.2.1)⟩
theorem ZtP(w a c b:Nat)(M:Store)(o:MO):eE w a c b M (M.set c o):=⟨by simp,λi _ p=>Yf (bK p.2.2.1)⟩
theorem ZtQ(w a c b:Nat)(M:Store)(o:MO):eE w a c b M (M.set b o):=⟨by simp,λi _ p=>Yf (bK p.2.2.2)⟩
theorem bx.w4{r:O3}(h:bx (· ≠w) M r):bx (P4 w a c b) M r:=h.imp λ_ _ p=>p.1
theorem cO.w4{r:R3 D}(h:cO (· ≠w) M r):cO (P4 w a c b) M r:=h.imp λ_ _ p=>p.1
theorem bx.wH{M M1:Store}{r:O3}(g:eE w a c b M M1)(h:bx (P4 w a c b) M1 r):bx (P4 w a c b) M r:=h.from g.len g.old
structure WR(w a c b:Nat)(m:Int)(x:W7)(M:Store):Prop where
 ws:WS w a c b m x.n x.c M x.s
 nb:M[b]?=Ya (.lst x.o)
variable{xs0:List D}{y:List Nat}
section
variable {w a c b:Nat} {m:Int} {x:W7} {M:Store}
theorem WR.bw(h:WR w a c b m x M):b≠w:=λe=>by have:=h.ws.ob;rw[←e,h.nb]at this;cases this
theorem WR.bc(h:WR w a c b m x M):b≠c:=λe=>by have:=h.ws.cl;rw[←e,h.nb]at this;cases this
theorem WR.ba(h:WR w a c b m x M):b≠a:=λe=>by have:=h.ws.nm;rw[←e,h.nb]at this;cases this
theorem WR.uO{k:Int}(h:WR w a c b m x M)(g:fD w M M')(e:M'[w]?=Ya (cJ a c b (x.s+k) m)):WR w a c b m (x.sp k) M':=⟨h.ws.uO g e,g.at h.nb h.bw⟩
theorem WR.PB(h:WR w a c b m x M)(k:Int):WR w a c b m (x.sp k) (M.set w (cJ a c b (x.s+k) m)):=h.uO (fD.set w M _) (Yx h.ws.lt)
theorem WR.gU(h:WR w a c b m x M):w<M.length/\a<M.length/\c<M.length/\b<M.length:=⟨(Ye.mp h.ws.ob).1,(Ye.mp h.ws.nm).1,(Ye.mp h.ws.cl).1,(Ye.mp h.nb).1⟩
theorem WR.PJ(h:WR w a c b m x M)(nk:List (a_×D)):WR w a c b m ⟨nk,x.c,x.o,x.s⟩ (M.set a (.dct nk)):=⟨⟨by rw[Yf h.ws.aw];exact h.ws.ob,Yx h.gU.2.1,by rw[Yf h.ws.ac];exact h.ws.cl,h.ws.ac⟩,by rw[Yf (bK h.ba)];exact h.nb⟩
theorem WR.PK(h:WR w a c b m x M)(ck:List (a_×D)):WR w a c b m ⟨x.n,ck,x.o,x.s⟩ (M.set c (.dct ck)):=⟨⟨by rw[Yf h.ws.cw];exact h.ws.ob,by rw[Yf (bK h.ws.ac)];exact h.ws.nm,Yx h.gU.2.2.1,h.ws.ac⟩,by rw[Yf (bK h.bc)];exact h.nb⟩
theorem WR.PL(h:WR w a c b m x M)(o:List D):WR w a c b m ⟨x.n,x.c,o,x.s⟩ (M.set b (.lst o)):=⟨⟨by rw[Yf h.bw];exact h.ws.ob,by rw[Yf h.ba];exact h.ws.nm,by rw[Yf h.bc];exact h.ws.cl,h.ws.ac⟩,Yx h.gU.2.2.2⟩
theorem WR.tidy{M2 M0:Store}(h:WR w a c b m x M){x0:W7}(h0:WR w a c b m x0 M0)(o:∀i,i<M0.length->M2[i]?=M[i]?):WR w a c b m x M2:=⟨⟨(o w h0.gU.1).trans h.ws.ob,(o a h0.gU.2.1).trans h.ws.nm,(o c h0.gU.2.2.1).trans h.ws.cl,h.ws.ac⟩,(o b h0.gU.2.2.2).trans h.nb⟩
def bD(w a c b:Nat)(m:Int)(F:R3 D)(M:Store)(g:G7):Prop:=(∀y,g= .done y->∃M',F= .ok .non M'/\WR w a c b m y M'/\eE w a c b M M')/\(g= .over->cO (P4 w a c b) M F)
def fX(w a c b:Nat)(m:Int)(r:O3)(M:Store)(g:G7):Prop:=(∀y,g= .done y->∃e M',r= .nx e M'/\WR w a c b m y M'/\eE w a c b M M')/\(g= .over->bx (P4 w a c b) M r)
theorem fX.def{body:S3}{ps N:Nat}{x0:W7}(h0:WR w a c b m x0 M)(h:fX w a c b m (body env M) M g)(hl:ds.length=ps:=by rfl)(he:ds.map Ya++Yh (N-ps) Yk=env:=by rfl):bD w a c b m (bG ps N body ds M) M g:=by refine⟨λy e=>?_,λe=>bx.def (h.2 e) hl he⟩;obtain⟨e',M',h1,h2,h3⟩:=h.1 y e;obtain⟨M2,e2,l2,o2⟩:=Eb M M' .non h3.len;exact⟨M2,(t8 h1 hl he).trans e2,h2.tidy h0 o2,l2,λi hi p=>(o2 i hi).trans (h3.old i hi p)⟩
theorem bD.st{me:List Nat}{gl:cF}(h:bD w a c b m (F (.ref w::ds) M) M g)(h0:WR w a c b m x M)(hm:([pA,rZ,wB,wC,zq].contains me)=false)(ho:o env M= .ok (.ref w) M)(hg:gl env M= .ok ds M):fX w a c b m (Zr (bN bU me F (bf o) (bJ gl)) env M) M g:=by refine⟨λy e=>?_,λe=>(cO.meth ho (m9 h0.ws.ob hm) hg (h.2 e)).expr⟩;obtain⟨M',h1,h2,h3⟩:=h.1 y e;exact⟨env,M',gF (zu (g_ ho) (m9 h0.ws.ob hm) (pB hg) h1),h2,h3⟩
theorem Iu{t:Sm}(ht:t.ok)(hx:F7 x)(h:WR w a c b m x M)(hs:x.s<=m){g:E3}(ho:o env M= .ok (.ref w) M)(hg:g env M= .ok (.tup t.flat) M):
  (x.s+(t.cost:Int)<=m->∃M',bN bU Io rN (bf o) (bJ (Za g Ze)) env M= .ok (.int (x.v t)) M'/\fD w M M'/\WR w a c b m (x.sp (t.cost:Int)) M')/\
  (m<x.s+(t.cost:Int)->cO (P4 w a c b) M (bN bU Io rN (bf o) (bJ (Za g Ze)) env M)):=by
 obtain⟨h1,h2⟩:=value_eq (nv:=λy=>intOf x.n (.inr y)) (cv:=λi=>intOf x.c (.inl i)) ht.1 ht.2 (λ_=>hx.n.get _) (λ_=>hx.c.get _) M x.s h.ws hs;refine⟨λq=>?_,λq=>cO.meth ho (m9 h.ws.ob (by decide)) (Zo hg rfl) (h2 q).w4⟩;obtain⟨M',e1,e2,e3⟩:=h1 q;exact⟨M',zu (g_ ho) (m9 h.ws.ob (by decide)) (pB (Zo hg rfl)) e1,e2,h.uO e2 e3⟩
theorem WT(h:WR w a c b m x M)(k:Int)(h0:o env M= .ok (.ref w) M)(he:e env M= .ok [.int k] M):fX w a c b m (Zr (bN bU zr gM (bf o) (bJ e)) env M) M (aZ m (x.sp k) (.done (x.sp k))):=by
 refine⟨λy q=>?_,λq=>?_⟩
 .obtain⟨q1,q2⟩:=jt q;cases q2;exact⟨env,_,zx h.ws.ob k q1 h0 he,h.PB k,(fD.set w M _).oF⟩
 .by_cases z:(x.sp k).s<=m
  .rw[dM z]at q;cases q
  .exact(zy h.ws.ob k (by have:(x.sp k).s=x.s+k:=rfl;omega) h0 he).w4
theorem fX.to{f g:S3}{env e1:Zt}{M1:Store}{q:G7}(e:f env M= .nx e1 M1)(gr:eE w a c b M M1)(h:fX w a c b m (g e1 M1) M1 q):fX w a c b m (Zu f g env M) M q:=by rw[Zi e];refine⟨λy z=>?_,λz=>(h.2 z).wH gr⟩;obtain⟨e',M',h1,h2,h3⟩:=h.1 y z;exact⟨e',M',h1,h2,gr.trans h3⟩
theorem fX.over{r:O3}{x1:W7}(h:bx (P4 w a c b) M r)(q:m<x1.s):fX w a c b m r M (aZ m x1 g):=by rw[gZ q];exact⟨λy z=>(by cases z),λ_=>h⟩
theorem Zq2{i:E3}{M1:Store}{kd:D}{k:a_}(hf:f env M= .ok d M1)(ho:o env M1= .ok (.ref n) M1)(hi:i env M1= .ok kd M1)(hk:fJ kd=Ya k)(hn:M1[n]?=Ya (.dct kvs))(hl:kvs.length<2000):vQ o i f env M= .nx env (M1.set n (.dct (putD k d kvs))):=by
 have Qg:Bs d (.ref n) kd M1= .ok .non (M1.set n (.dct (putD k d kvs))):=by rw[Lr,hn,hk];exact if_pos (iy hl (by decide))
 rw[vQ,hf];exact Og (show Zr (e3 Bs _ _ _) _ _=_ from gF (NT rfl ho hi Qg))
theorem ZnE{i:E3}(h:cO P M (f env M)):bx P M (vQ o i f env M):=by obtain⟨k,M',e,r⟩:=h;exact⟨k,M',by rw[vQ,e],r⟩
theorem ZwA{M1:Store}(ho:o env M= .ok (.ref n) M)(hM:M[n]?=Ya (.lst xs0))(hf:f env M= .ok d M1)(hn:M1[n]?=Ya (.lst xs))(hl:xs.length<2000):Zr (yD o f) env M= .nx env (M1.set n (.lst (xs++[d]))):=by
 refine gF (d:=.non) ?_;have ht:aY (.ref n) M=true:=by rw[vK,hM]
 have ha:bL (.ref n) [d] M1= .ok .non (M1.set n (.lst (xs++[d]))):=by rw[Gv,hn];exact if_pos (iy hl (by decide))
 simp only[yD,g_ ho,ht,if_true,hf];exact g_ ha
theorem ZuP(ho:o env M= .ok (.ref n) M)(hM:M[n]?=Ya (.lst xs0))(h:cO P M (f env M)):bx P M (Zr (yD o f) env M):=by
 obtain⟨k,M',e,r⟩:=h;refine⟨k,M',Oh ?_,r⟩;have ht:aY (.ref n) M=true:=by rw[vK,hM]
 simp only[yD,g_ ho,ht,if_true,e]
theorem ql{z:List Nat}{r:List D}(h:y≠z){e0:Option D}{er:List (Option D)}(he:env=e0::Ya (.tup (.str y::r))::er):bf (e2 bI (e2 Zk (Zb 1) (eC (.int 0))) (eC (.str z))) env M= .ok (.bl false) M:=by subst he;exact g_ (Zg (Zg rfl rfl (oZ ((jD (D.str y::r) 0).trans rfl))) rfl (rP h))
theorem Iv{r:List D}{e0:Option D}{er:List (Option D)}(he:env=e0::Ya (.tup (.str y::r))::er):bf (e2 bI (e2 Zk (Zb 1) (eC (.int 0))) (eC (.str y))) env M= .ok (.bl true) M:=by subst he;exact g_ (Zg (Zg rfl rfl (oZ ((jD (D.str y::r) 0).trans rfl))) rfl (zb rfl))
end
section
variable {w a c b:Nat} {m:Int} {x:W7} {M:Store}
theorem Zvn(rec:Nat->F3){t:Sm}(ht:t.ok)(hx:F7 x)(h:WR w a c b m x M)(hs:x.s<=m)(hm:m<=1000):bD w a c b m (bG 2 3 (mY rec) [.ref w,uv y t] M) M (aZ m (x.set y t) (.done (x.set y t))):=by
 refine fX.def (env:=[Ya (.ref w),Ya (uv y t),Yk]) h ?_;unfold mY;rw[bM (ql (by decide) rfl),bM (ql (by decide) rfl),bM (ql (by decide) rfl),cV (Iv rfl)];have hval:=Iu ht hx h hs (o:=Zb 0) (g:=e2 Zk (Zb 1) (eC (.int 2))) (env:=[Ya (.ref w),Ya (uv y t),Yk]) rfl rfl;by_cases hc:x.s+(t.cost:Int)<=m
 .obtain⟨M1,e1,g1,w1⟩:=hval.1 hc;have hl:=hx.nl;refine fX.to (Zq2 (k:=.inr y) e1 (dW rfl (ZtC w1.ws.ob)) rfl rfl w1.ws.nm (by show x.n.length<2000;omega)) (g1.oF.trans (Ztk w a c b M1 _)) ?_;exact WT (w1.PJ _) 2 rfl rfl
 .exact fX.over (ZnE (hval.2 (by omega))).seq (by show m<x.s+(t.cost:Int)+2;omega)
theorem ZvA(rec:Nat->F3){t u:Sm}(ht:t.ok)(hu:u.ok)(hx:F7 x)(h:WR w a c b m x M)(hs:x.s<=m)(hm:m<=1000):bD w a c b m (bG 2 3 (mY rec) [.ref w,rT t u] M) M (aZ m (x.put t u) (.done (x.put t u))):=by
 refine fX.def (env:=[Ya (.ref w),Ya (rT t u),Yk]) h ?_;unfold mY;rw[bM (ql (by decide) rfl),bM (ql (by decide) rfl),cV (Iv rfl)];have hval:=Iu ht hx h hs (o:=Zb 0) (g:=e2 Zk (Zb 1) (eC (.int 1))) (env:=[Ya (.ref w),Ya (rT t u),Yk]) rfl rfl;by_cases hc:x.s+(t.cost:Int)<=m
 .obtain⟨M1,e1,g1,w1⟩:=hval.1 hc;refine fX.to (bY e1) g1.oF ?_;have YM:=Iu hu (hx.sp (k:=(t.cost:Int)) (by omega)) w1 hc (o:=Zb 0) (g:=e2 Zk (Zb 1) (eC (.int 2))) (env:=[Ya (.ref w),Ya (rT t u),Ya (.int (x.v t))]) rfl rfl;by_cases hc2:x.s+(t.cost:Int)+(u.cost:Int)<=m
  .obtain⟨M2,e2',g2,w2⟩:=YM.1 hc2;have hl:=hx.cl;refine fX.to (Zq2 (k:=.inl (x.v t)) e2' (dW rfl (ZtB w2.ws.ob)) rfl rfl w2.ws.cl (by show x.c.length<2000;omega)) (g2.oF.trans (ZtP w a c b M2 _)) ?_;exact WT (w2.PK _) 2 rfl rfl
  .exact fX.over (ZnE (YM.2 (by show m<x.s+(t.cost:Int)+(u.cost:Int);omega))).seq (by show m<x.s+(t.cost:Int)+(u.cost:Int)+2;omega)
 .exact fX.over (cO.sets (hval.2 (by omega))).seq (by show m<x.s+(t.cost:Int)+(u.cost:Int)+2;omega)
theorem Zsi(rec:Nat->F3){t:Sm}(ht:t.ok)(hx:F7 x)(h:WR w a c b m x M)(hs:x.s<=m)(hm:m<=1000):bD w a c b m (bG 2 3 (mY rec) [.ref w,wk t] M) M (aZ m (x.tell t) (.done (x.tell t))):=by
 refine fX.def (env:=[Ya (.ref w),Ya (wk t),Yk]) h ?_;unfold mY;rw[bM (ql (by decide) rfl),bM (ql (by decide) rfl),bM (ql (by decide) rfl),bM (ql (by decide) rfl)];have hval:=Iu ht hx h hs (o:=Zb 0) (g:=e2 Zk (Zb 1) (eC (.int 1))) (env:=[Ya (.ref w),Ya (wk t),Yk]) rfl rfl;by_cases hc:x.s+(t.cost:Int)<=m
 .obtain⟨M1,e1,g1,w1⟩:=hval.1 hc;have hl:=hx.ol;refine fX.to (ZwA (dW rfl (WK h.ws.ob)) h.nb e1 w1.nb (by show x.o.length<2000;omega)) (g1.oF.trans (ZtQ w a c b M1 _)) ?_;exact WT (w1.PL _) 1 rfl rfl
 .exact fX.over (ZuP (dW rfl (WK h.ws.ob)) h.nb (hval.2 (by omega))).seq (by show m<x.s+(t.cost:Int)+1;omega)
theorem ZlT{t:Sm}(ht:t.ok)(hx:F7 x)(h:WR w a c b m x M)(hs:x.s<=m){g:E3}(ho:o env M= .ok (.ref w) M)(hg:g env M= .ok (.tup t.flat) M):
  (x.s+(t.cost:Int)+1<=m->∃M',bN bU WQ yV (bf o) (bJ (Za g Ze)) env M= .ok (.bl (decide (0<x.v t))) M'/\fD w M M'/\WR w a c b m (x.sp ((t.cost:Int)+1)) M')/\
  (m<x.s+(t.cost:Int)+1->cO (P4 w a c b) M (bN bU WQ yV (bf o) (bJ (Za g Ze)) env M)):=by
 have hval:=Iu ht hx h hs (o:=Zb 0) (g:=Zb 1) (env:=[Ya (.ref w),Ya (.tup t.flat),Yk]) rfl rfl;by_cases hc:x.s+(t.cost:Int)<=m
 .obtain⟨M1,e1,g1,w1⟩:=hval.1 hc;refine⟨λq=>?_,λq=>?_⟩
  .have g2:=g1.trans (fD.set w M1 (cJ a c b (x.s+(t.cost:Int)+1) m));obtain⟨M4,e4,l4,o4⟩:=Eb M (M1.set w (cJ a c b (x.s+(t.cost:Int)+1) m)) (.bl (decide (0<x.v t))) g2.len;have w2:WR w a c b m (x.sp ((t.cost:Int)+1)) (M1.set w (cJ a c b (x.s+(t.cost:Int)+1) m)):=by
    have:=w1.PB 1;have e:(x.sp (t.cost:Int)).sp 1=x.sp ((t.cost:Int)+1):=congrArg (λz=>W7.mk x.n x.c x.o z) (Aj x.s (t.cost:Int) 1);rw[e]at this;exact this
   refine⟨M4,zu (g_ ho) (m9 h.ws.ob (by decide)) (pB (Zo hg rfl)) ((jC (env:=[Ya (.ref w),Ya (.tup t.flat),Yk]) ?_).trans e4),⟨l4,λi hi hw=>(o4 i hi).trans (g2.old i hi hw)⟩,w2.tidy h o4⟩;unfold HD;exact(Zi (bY e1)).trans ((Zi (zx w1.ws.ob 1 q rfl rfl)).trans (Ef (je (Zg rfl rfl (by rw[jo];rfl)))))
  .refine cO.meth ho (m9 h.ws.ob (by decide)) (Zo hg rfl) (bx.def (env:=[Ya (.ref w),Ya (.tup t.flat),Yk]) ?_);unfold HD;exact bx.to (bY e1) (bx.wH g1.oF (zy w1.ws.ob 1 q rfl rfl).w4.seq)
 .refine⟨λq=>by omega,λq=>cO.meth ho (m9 h.ws.ob (by decide)) (Zo hg rfl) (bx.def (env:=[Ya (.ref w),Ya (.tup t.flat),Yk]) ?_)⟩;unfold HD;exact(cO.sets (hval.2 (by omega))).seq
end
theorem WW:∀(n:Nat) (d:Ds) (x y:W7),aM m n d x= .done y->F7 x->x.s<=m->F7 y/\y.s<=m:=by
 intro n
 induction n with
 |zero=>intro d x y h;cases h|succ n ih=>
  intro d x y h hx hs;cases d with
  |nil=>have h:G7.done x= .done y:=h;cases h;exact⟨hx,hs⟩|set z t r=>obtain⟨h1,h2⟩:=jt h;exact ih r _ _ h2 (hx.set z t) h1|put t u r=>obtain⟨h1,h2⟩:=jt h;exact ih r _ _ h2 (hx.put t u) h1
  |tell t r=>obtain⟨h1,h2⟩:=jt h;exact ih r _ _ h2 (hx.tell t) h1|bT t a b r=>
   obtain⟨h1,h2⟩:=jt h;have hx1:=hx.sp (k:=(t.cost:Int)+1) (by omega);by_cases q:0<x.v t
   .rw[if_pos q]at h2;obtain⟨z,h3,h4⟩:=Ec h2;obtain⟨k1,k2⟩:=ih a _ _ h3 hx1 h1;exact ih r _ _ h4 k1 k2
   .rw[if_neg q]at h2;obtain⟨z,h3,h4⟩:=Ec h2;obtain⟨k1,k2⟩:=ih b _ _ h3 hx1 h1;obtain⟨h5,h6⟩:=jt h4;exact ih r _ _ h6 (k1.sp (by decide)) h5
  | whl t a r=>
   obtain⟨h1,h2⟩:=jt h;have hx1:=hx.sp (k:=(t.cost:Int)+1) (by omega);by_cases q:0<x.v t
   .rw[if_pos q]at h2;obtain⟨z,h3,h4⟩:=Ec h2;obtain⟨k1,k2⟩:=ih a _ _ h3 hx1 h1;obtain⟨h5,h6⟩:=jt h4;exact ih _ _ _ h6 (k1.sp (by decide)) h5
   .rw[if_neg q]at h2;obtain⟨h5,h6⟩:=jt h2;exact ih r _ _ h6 (hx.sp (k:=(t.cost:Int)+1+1) (by omega)) h5
variable{A:List D}
section
variable {w a c b:Nat} {m:Int} {x:W7} {M:Store}
def jj(w a c b:Nat)(m:Int)(env:Zt)(r:O3)(M:Store)(g:G7):Prop:=(∀y,g= .done y->∃M',r= .nx env M'/\WR w a c b m y M'/\eE w a c b M M')/\(g= .over->bx (P4 w a c b) M r)
theorem jj.r{env:Zt}{r:O3}{g:G7}(h:jj w a c b m env r M g):fX w a c b m r M g:=⟨λy e=>let⟨M',h1⟩:=h.1 y e;⟨env,M',h1⟩,h.2⟩
theorem bD.se{me:List Nat}{gl:cF}(h:bD w a c b m (F (.ref w::ds) M) M g)(h0:WR w a c b m x M)(hm:([pA,rZ,wB,wC,zq].contains me)=false)(ho:o env M= .ok (.ref w) M)(hg:gl env M= .ok ds M):jj w a c b m env (Zr (bN bU me F (bf o) (bJ gl)) env M) M g:=by refine⟨λy e=>?_,λe=>(cO.meth ho (m9 h0.ws.ob hm) hg (h.2 e)).expr⟩;obtain⟨M',h1,h2,h3⟩:=h.1 y e;exact⟨M',gF (zu (g_ ho) (m9 h0.ws.ob hm) (pB hg) h1),h2,h3⟩
theorem Oi(h:WR w a c b m x M)(k:Int)(h0:o env M= .ok (.ref w) M)(he:e env M= .ok [.int k] M):jj w a c b m env (Zr (bN bU zr gM (bf o) (bJ e)) env M) M (aZ m (x.sp k) (.done (x.sp k))):=by
 refine⟨λy q=>?_,λq=>?_⟩
 .obtain⟨q1,q2⟩:=jt q;cases q2;exact⟨_,zx h.ws.ob k q1 h0 he,h.PB k,(fD.set w M _).oF⟩
 .by_cases z:(x.sp k).s<=m
  .rw[dM z]at q;cases q
  .exact(zy h.ws.ob k (by have:(x.sp k).s=x.s+k:=rfl;omega) h0 he).w4
theorem jj.seq{f g:S3}{g1:G7}{k:W7->G7}(h1:jj w a c b m env (f env M) M g1)(h2:∀y M1,g1= .done y->WR w a c b m y M1->jj w a c b m env (g env M1) M1 (k y)):jj w a c b m env (Zu f g env M) M (g1.on k):=by
 cases g1 with
 |out=>exact⟨λy e=>(by cases e),λe=>(by cases e)⟩|over=>exact⟨λy e=>(by cases e),λ_=>(h1.2 rfl).seq⟩|done y=>obtain⟨M1,e1,w1,gr⟩:=h1.1 y rfl;obtain⟨k1,k2⟩:=h2 y M1 rfl w1;refine⟨λz e=>?_,λe=>bx.to e1 ((k2 e).wH gr)⟩;obtain⟨M2,e2,w2,WX⟩:=k1 z e;exact⟨M2,(Zi e1).trans e2,w2,gr.trans WX⟩
theorem jj.grow{r:O3}{M1:Store}(gr:eE w a c b M M1)(h:jj w a c b m env r M1 g):jj w a c b m env r M g:=by refine⟨λy e=>?_,λe=>(h.2 e).wH gr⟩;obtain⟨M2,e2,w2,WX⟩:=h.1 y e;exact⟨M2,e2,w2,gr.trans WX⟩
theorem WY{rec:Nat->F3}{t:Sm}{B:List D}{ga gb:G7}(ht:t.ok)(hx:F7 x)(h:WR w a c b m x M)(hs:x.s<=m)(ha:∀M1,(x.sp ((t.cost:Int)+1)).s<=m->WR w a c b m (x.sp ((t.cost:Int)+1)) M1->0<x.v t->bD w a c b m (rec 0 [.ref w,.tup A] M1) M1 ga)(hb:∀M1,(x.sp ((t.cost:Int)+1)).s<=m->WR w a c b m (x.sp ((t.cost:Int)+1)) M1->¬0<x.v t->bD w a c b m (rec 0 [.ref w,.tup B] M1) M1 gb):
  bD w a c b m (bG 2 2 (HF rec) [.ref w,k_ t A B] M) M (aZ m (x.sp ((t.cost:Int)+1)) (if 0<x.v t then ga else gb.on λy=>aZ m (y.sp 1) (.done (y.sp 1)))):=by
 refine fX.def (env:=[Ya (.ref w),Ya (k_ t A B)]) h (jj.r (env:=[Ya (.ref w),Ya (k_ t A B)]) ?_);unfold HF;have hab:=ZlT ht hx h hs (o:=Zb 0) (g:=e2 Zk (Zb 1) (eC (.int 1))) (env:=[Ya (.ref w),Ya (k_ t A B)]) rfl rfl;by_cases hc:x.s+(t.cost:Int)+1<=m
 .obtain⟨M1,e1,g1,w1⟩:=hab.1 hc;have hc':(x.sp ((t.cost:Int)+1)).s<=m:=by show x.s+((t.cost:Int)+1)<=m;omega
  rw[dM hc'];by_cases q:0<x.v t
  .rw[if_pos q];rw[decide_eq_true q]at e1;rw[cV e1];exact jj.grow g1.oF (bD.se (ha M1 hc' w1 q) w1 (by decide) rfl rfl)
  .rw[if_neg q];rw[decide_eq_false q]at e1;rw[bM e1];exact jj.grow g1.oF (jj.seq (bD.se (hb M1 hc' w1 q) w1 (by decide) rfl rfl) λy M2 _ w2=>Oi w2 1 rfl rfl)
 .rw[gZ (by show m<x.s+((t.cost:Int)+1);omega)];refine⟨λy e=>(by cases e),λ_=>?_⟩;obtain⟨k,M',e,r⟩:=hab.2 (by omega);exact⟨k,M',by rw[aQ,e],r⟩
noncomputable abbrev pC:E3:=bN bU WQ yV (bf (Zb 0)) (bJ (Za (e2 Zk (Zb 1) (eC (.int 1))) (Ze)))
noncomputable abbrev oG(F:F3):S3:=Zu (Zr (bN bU GTH F (bf (Zb 0)) (bJ (Za (e2 Zk (Zb 1) (eC (.int 2))) (Ze))))) (Zr (bN bU zr gM (bf (Zb 0)) (bJ (Za (eC (.int 1)) (Ze)))))
noncomputable abbrev zA:S3:=Zr (bN bU zr gM (bf (Zb 0)) (bJ (Za (eC (.int 1)) (Ze))))
theorem Zle{t:Sm}{A r:Ds}(ht:t.ok):∀(n K:Nat),n<=K->(∀k,k<n->∀x1 M1,F7 x1->WR w a c b m x1 M1->x1.s<=m->aM m k A x1≠ .out->bD w a c b m (F [.ref w,.tup A.enc] M1) M1 (aM m k A x1))->∀(x:W7) (M:Store),F7 x->WR w a c b m x M->x.s<=m->aM m n (.whl t A r) x≠ .out ->
  (aM m n (.whl t A r) x= .over/\bx (P4 w a c b) M (Zu (iz pC (oG F) K) zA [Ya (.ref w),Ya (bQ t A.enc)] M))\/
  (∃y k M',k<n/\aM m n (.whl t A r) x=aM m k r y/\Zu (iz pC (oG F) K) zA [Ya (.ref w),Ya (bQ t A.enc)] M= .nx [Ya (.ref w),Ya (bQ t A.enc)] M'/\WR w a c b m y M'/\eE w a c b M M'/\F7 y/\y.s<=m):=by
 intro n
 induction n with
 |zero=>intro K _ _ x M _ _ _ h;exact absurd rfl h|succ n ih=>
  intro K hK hA x M hx h hs hne;obtain⟨K,rfl⟩:∃k,K=k+1:=⟨K-1,by omega⟩;have hab:=ZlT ht hx h hs (o:=Zb 0) (g:=e2 Zk (Zb 1) (eC (.int 1))) (env:=[Ya (.ref w),Ya (bQ t A.enc)]) rfl rfl;have eg:aM m (n+1) (.whl t A r) x=aZ m (x.sp ((t.cost:Int)+1)) (if 0<x.v t then(aM m n A (x.sp ((t.cost:Int)+1))).on λy=>aZ m (y.sp 1) (aM m n (.whl t A r) (y.sp 1))else aZ m (x.sp ((t.cost:Int)+1+1)) (aM m n r (x.sp ((t.cost:Int)+1+1)))):=rfl;rw[eg]at hne ⊢;by_cases hc:x.s+(t.cost:Int)+1<=m
  .obtain⟨M1,e1,g1,w1⟩:=hab.1 hc;have e1:pC [Ya (.ref w),Ya (bQ t A.enc)] M= .ok (.bl (decide (0<x.v t))) M1:=e1;have hc':(x.sp ((t.cost:Int)+1)).s<=m:=by show x.s+((t.cost:Int)+1)<=m;omega
   have hx1:=hx.sp (k:=(t.cost:Int)+1) (by omega);rw[dM hc']at hne ⊢;by_cases q:0<x.v t
   .rw [if_pos q]at hne ⊢;rw[decide_eq_true q]at e1;have hgA:aM m n A (x.sp ((t.cost:Int)+1))≠ .out:=λe=>by rw[e]at hne;exact hne rfl
    have hcall:=hA n (Af n) _ M1 hx1 w1 hc' hgA;have hb:jj w a c b m [Ya (.ref w),Ya (bQ t A.enc)] (oG F [Ya (.ref w),Ya (bQ t A.enc)] M1) M1 ((aM m n A (x.sp ((t.cost:Int)+1))).on λy=>aZ m (y.sp 1) (.done (y.sp 1))):=jj.seq (bD.se hcall w1 (by decide) rfl rfl) λy M2 _ w2=>Oi w2 1 rfl rfl;have YG:bx (P4 w a c b) M1 (oG F [Ya (.ref w),Ya (bQ t A.enc)] M1)->bx (P4 w a c b) M (Zu (iz pC (oG F) (K+1)) zA [Ya (.ref w),Ya (bQ t A.enc)] M):=λhx=>by obtain⟨k,M',e,r⟩:=bx.wH g1.oF hx;refine bx.seq ⟨k,M',?_,r⟩;rw[kj,e1];simp only[e]
    cases hg:aM m n A (x.sp ((t.cost:Int)+1))with
    |out=>exact absurd hg hgA|over=>rw[hg]at hb;exact .inl ⟨rfl,YG (hb.2 rfl)⟩|done y=>
     rw[hg]at hb hne;have hb:jj w a c b m [Ya (.ref w),Ya (bQ t A.enc)] (oG F [Ya (.ref w),Ya (bQ t A.enc)] M1) M1 (aZ m (y.sp 1) (.done (y.sp 1))):=hb;have hne:aZ m (y.sp 1) (aM m n (.whl t A r) (y.sp 1))≠ .out:=hne;show(aZ m (y.sp 1) (aM m n (.whl t A r) (y.sp 1))= .over/\_)\/(∃z k M',k<n+1/\aZ m (y.sp 1) (aM m n (.whl t A r) (y.sp 1))=aM m k r z/\_);by_cases hy:(y.sp 1).s<=m
     .rw[dM hy]at hb hne ⊢;obtain⟨M2,e2,w2,g2⟩:=hb.1 _ rfl;obtain⟨k1,k2⟩:=WW n A _ _ hg hx1 hc';have ew:Zu (iz pC (oG F) (K+1)) zA [Ya (.ref w),Ya (bQ t A.enc)] M=Zu (iz pC (oG F) K) zA [Ya (.ref w),Ya (bQ t A.enc)] M2:=by
       have:iz pC (oG F) (K+1) [Ya (.ref w),Ya (bQ t A.enc)] M=iz pC (oG F) K [Ya (.ref w),Ya (bQ t A.enc)] M2:=by rw[kj,e1];simp only[e2]
       rw[Zu,Zu,this]
      have gr:=g1.oF.trans g2;rcases ih K (by omega) (λk hk=>hA k (by omega)) (y.sp 1) M2 (k1.sp (by decide)) w2 hy hne with⟨o1,o2⟩|⟨z,k,M',o1,o2,o3,o4,o5,o6,o7⟩
      .exact .inl ⟨o1,by rw[ew];exact o2.wH gr⟩
      .exact .inr ⟨z,k,M',by omega,o2,ew.trans o3,o4,gr.trans o5,o6,o7⟩
     .have hy:m<(y.sp 1).s:=by omega
      rw[gZ hy]at hb ⊢;exact .inl ⟨rfl,YG (hb.2 rfl)⟩
   .rw[if_neg q]at hne ⊢;rw[decide_eq_false q]at e1;have ew:iz pC (oG F) (K+1) [Ya (.ref w),Ya (bQ t A.enc)] M= .nx [Ya (.ref w),Ya (bQ t A.enc)] M1:=by rw[kj,e1]
    have es:(x.sp ((t.cost:Int)+1)).sp 1=x.sp ((t.cost:Int)+1+1):=congrArg (λz=>W7.mk x.n x.c x.o z) (Aj x.s ((t.cost:Int)+1) 1);have hsp:=Oi (env:=[Ya (.ref w),Ya (bQ t A.enc)]) (o:=Zb 0) (e:=Za (eC (.int 1)) (Ze)) w1 1 rfl rfl;rw[es]at hsp;by_cases hy:(x.sp ((t.cost:Int)+1+1)).s<=m
    .rw[dM hy]at hsp ⊢;obtain⟨M2,e2,w2,g2⟩:=hsp.1 _ rfl;exact .inr ⟨_,n,M2,Af n,rfl,(Zi ew).trans e2,w2,g1.oF.trans g2,hx.sp (by omega),hy⟩
    .rw[gZ (by omega)]at hsp ⊢;exact .inl ⟨rfl,bx.to ew ((hsp.2 rfl).wH g1.oF)⟩
  .rw[gZ (by show m<x.s+((t.cost:Int)+1);omega)];refine .inl ⟨rfl,bx.seq ?_⟩;obtain⟨k,M',e,r⟩:=hab.2 (by omega);have e:pC [Ya (.ref w),Ya (bQ t A.enc)] M= .exc ⟨su,.ref k⟩ M':=e;exact⟨k,M',by rw[kj,e],r⟩
end
variable{W x0:Option D}
section
variable {w a c b:Nat} {m:Int} {x:W7} {M:Store}
theorem ZoP{i:I3}{g:G3}{u:S3}{M:Store}(h:i env M= .ok it M'):GP i g u env M=cG it g u it.items env M':=by rw[GP,h]
noncomputable abbrev dB(j:Nat):S3:=Zr (bN bU DOD (Zj (j+1) 1) (bf (Zb 0)) (bJ (Za (Zb 2) (Ze))))
def uw(w a c b:Nat)(m:Int)(W:Option D)(r:O3)(M:Store)(g:G7):Prop:=(∀y,g= .done y->∃M' x',r= .nx [Ya (.ref w),W,x'] M'/\WR w a c b m y M'/\eE w a c b M M')/\(g= .over->bx (P4 w a c b) M r)
theorem W0(hi:it.lock=Yk){M1:Store}(hx:WR w a c b m x M)(h:Zj (j+1) 1 [.ref w,d] M= .ok .non M1)(gr:eE w a c b M M1)(k:uw w a c b m W (cG it (bF 2) (dB j) ds [Ya (.ref w),W,Ya d] M1) M1 g):uw w a c b m W (cG it (bF 2) (dB j) (d::ds) [Ya (.ref w),W,x0] M) M g:=by
 have hlk:locked it M=true:=by unfold locked;rw[hi]
 have he:dB j [Ya (.ref w),W,Ya d] M= .nx [Ya (.ref w),W,Ya d] M1:=gF (zu (g_ rfl) (m9 hx.ws.ob (by decide)) (pB rfl) h);have e:cG it (bF 2) (dB j) (d::ds) [Ya (.ref w),W,x0] M=cG it (bF 2) (dB j) ds [Ya (.ref w),W,Ya d] M1:=by rw[mU,if_pos hlk];simp only[bF,lz,lF,he]
 rw[e];refine⟨λy q=>?_,λq=>(k.2 q).wH gr⟩;obtain⟨M',x',h1,h2,h3⟩:=k.1 y q;exact⟨M',x',h1,h2,gr.trans h3⟩
theorem Iw(hi:it.lock=Yk)(hx:WR w a c b m x M)(h:cO (P4 w a c b) M (Zj (j+1) 1 [.ref w,d] M))(hg:g= .over):uw w a c b m W (cG it (bF 2) (dB j) (d::ds) [Ya (.ref w),W,x0] M) M g:=by
 subst hg;refine⟨λy q=>(by cases q),λ_=>?_⟩;have hlk:locked it M=true:=by unfold locked;rw[hi]
 obtain⟨k,M',e,r⟩:=h;have he:dB j [Ya (.ref w),W,Ya d] M= .exc ⟨su,.ref k⟩ M':=Oh (WN (g_ rfl) (m9 hx.ws.ob (by decide)) (pB rfl) e);refine⟨k,M',?_,r⟩;rw[mU,if_pos hlk];simp only[bF,lz,lF,he]
theorem Oj(hi:it.lock=Yk){x1:W7}(hx:WR w a c b m x M)(h:bD w a c b m (Zj (j+1) 1 [.ref w,d] M) M (aZ m x1 (.done x1)))(k:x1.s<=m->∀M1,WR w a c b m x1 M1->uw w a c b m W (cG it (bF 2) (dB j) ds [Ya (.ref w),W,Ya d] M1) M1 g):
  uw w a c b m W (cG it (bF 2) (dB j) (d::ds) [Ya (.ref w),W,x0] M) M (aZ m x1 g):=by
 by_cases q:x1.s<=m
 .rw[dM q]at h ⊢;obtain⟨M1,h1,h2,h3⟩:=h.1 _ rfl;exact W0 hi hx h1 h3 (k q M1 h2)
 .rw[gZ (by omega)]at h ⊢;exact Iw hi hx (h.2 rfl) rfl
theorem W2{A:Ds}(hx:WR w a c b m x M)(h:uw w a c b m (Ya (.tup A.enc)) (cG ⟨A.enc,Yk⟩ (bF 2) (dB j) A.enc [Ya (.ref w),Ya (.tup A.enc),Yk] M) M g):bD w a c b m (Zj (j+2) 0 [.ref w,.tup A.enc] M) M g:=by refine fX.def (body:=Nt (Zj (j+1))) (ps:=2) (N:=3) (ds:=[.ref w,.tup A.enc]) (env:=[Ya (.ref w),Ya (.tup A.enc),Yk]) hx ?_;unfold Nt;rw[ZoP (it:=⟨A.enc,Yk⟩) (M':=M) rfl];exact⟨λy q=>let⟨M',x',h1,h2⟩:=h.1 y q;⟨_,M',h1,h2⟩,h.2⟩
theorem W3{t:Sm}{B:List D}(hx:WR w a c b m x M)(h:bD w a c b m (bG 2 2 (HF (Zj (j+2))) [.ref w,k_ t A B] M) M g):bD w a c b m (Zj (j+3+1) 1 [.ref w,k_ t A B] M) M g:=by refine fX.def (body:=mY (Zj (j+3))) (ps:=2) (N:=3) (ds:=[.ref w,k_ t A B]) (env:=[Ya (.ref w),Ya (k_ t A B),Yk]) hx ?_;unfold mY;rw[cV (Iv rfl)];exact bD.st (F:=Zj (j+3) 2) (ds:=[k_ t A B]) h hx (by decide) rfl rfl
theorem ZvU{t:Sm}{y:W7}(hx:WR w a c b m x M)(h:Zu (iz pC (oG (Zj (j+2) 0)) 1000000) zA [Ya (.ref w),Ya (bQ t A)] M= .nx [Ya (.ref w),Ya (bQ t A)] M')(hy:WR w a c b m y M')(g:eE w a c b M M'):∃M2,Zj (j+3+1) 1 [.ref w,bQ t A] M= .ok .non M2/\WR w a c b m y M2/\eE w a c b M M2:=by
 have c1:bD w a c b m (bG 2 2 (Nr (Zj (j+2))) [.ref w,bQ t A] M) M (.done y):=fX.def (env:=[Ya (.ref w),Ya (bQ t A)]) hx ⟨λz q=>by cases q;exact⟨_,M',h,hy,g⟩,λq=>(by cases q)⟩;have c2:bD w a c b m (Zj (j+3+1) 1 [.ref w,bQ t A] M) M (.done y):=by refine fX.def (body:=mY (Zj (j+3))) (ps:=2) (N:=3) (ds:=[.ref w,bQ t A]) (env:=[Ya (.ref w),Ya (bQ t A),Yk]) hx ?_;unfold mY;rw[bM (ql (by decide) rfl),cV (Iv rfl)];exact bD.st (F:=Zj (j+3) 3) (ds:=[bQ t A]) c1 hx (by decide) rfl rfl
 exact c2.1 y rfl
theorem Zw4{t:Sm}(hx:WR w a c b m x M)(h:bx (P4 w a c b) M (Zu (iz pC (oG (Zj (j+2) 0)) 1000000) zA [Ya (.ref w),Ya (bQ t A)] M)):cO (P4 w a c b) M (Zj (j+3+1) 1 [.ref w,bQ t A] M):=by
 have c1:bD w a c b m (bG 2 2 (Nr (Zj (j+2))) [.ref w,bQ t A] M) M .over:=fX.def (env:=[Ya (.ref w),Ya (bQ t A)]) hx ⟨λz q=>(by cases q),λ_=>h⟩;have c2:bD w a c b m (Zj (j+3+1) 1 [.ref w,bQ t A] M) M .over:=by refine fX.def (body:=mY (Zj (j+3))) (ps:=2) (N:=3) (ds:=[.ref w,bQ t A]) (env:=[Ya (.ref w),Ya (bQ t A),Yk]) hx ?_;unfold mY;rw[bM (ql (by decide) rfl),cV (Iv rfl)];exact bD.st (F:=Zj (j+3) 3) (ds:=[bQ t A]) c1 hx (by decide) rfl rfl
 exact c2.2 rfl
theorem Ol{p q:Nat}(h:3*fP p q<=j):3*p<=j/\3*q<=j:=⟨Yu (J2 3 (Nat.le_max_left p q)) h,Yu (J2 3 (Nat.le_max_right p q)) h⟩
theorem mx4{z:Nat}(h:3*(z+1)<=j):∃k,j=k+3/\3*z<=k:=⟨j-3,(lG (Yu (Nat.le_add_left 3 (3*z)) h)).symm,Nat.le_sub_of_add_le h⟩
theorem Zs1(hm:m<=1000):∀(N n:Nat),n<=N->n<=1000000->∀(d:Ds) (x:W7) (M:Store) (j:Nat) (it:gD) (W x0:Option D),it.lock=Yk->d.ok->3*d.dep<=j->F7 x->WR w a c b m x M->x.s<=m->aM m n d x≠ .out ->
  uw w a c b m W (cG it (bF 2) (dB j) d.enc [Ya (.ref w),W,x0] M) M (aM m n d x):=by
 intro N
 induction N with
 |zero=>intro n hn _ d x M j it W x0 _ _ _ _ _ _ h;obtain rfl:n=0:=(by omega);exact absurd rfl h|succ N IH=>
  intro n hn Hh d x M j it W x0 hi hd hj hx h hs hne;cases n with
  |zero=>exact absurd rfl hne|succ n=>
   have ih:=IH n (by omega) (by omega);cases d with
   |nil=>refine⟨λy q=>?_,λq=>(by cases q)⟩;have q:G7.done x= .done y:=q;cases q;refine⟨M,x0,?_,h,.rfl⟩;show cG it (bF 2) (dB j) [] _ _=_;rw[tY,if_pos (by unfold locked;rw[hi])]|set y t r=>refine Oj hi h (Zvn _ hd.2.1 hx h hs hm) λq M1 w1=>ih r _ M1 j it W _ hi hd.2.2 hj (hx.set y t) w1 q λz=>hne ?_;show aZ m _ _=_;rw[dM q,z]|put t u r=>refine Oj hi h (ZvA _ hd.1 hd.2.1 hx h hs hm) λq M1 w1=>ih r _ M1 j it W _ hi hd.2.2 hj (hx.put t u) w1 q λz=>hne ?_;show aZ m _ _=_;rw[dM q,z]|tell t r=>refine Oj hi h (Zsi _ hd.1 hx h hs hm) λq M1 w1=>ih r _ M1 j it W _ hi hd.2 hj (hx.tell t) w1 q λz=>hne ?_;show aZ m _ _=_;rw[dM q,z]
   | bT t A B r=>
    have hj:3*fP (fP A.dep B.dep+1) r.dep<=j:=hj;obtain⟨hj1,W4⟩:=Ol hj;obtain⟨j,rfl,hz⟩:=mx4 hj1;have hx1:=hx.sp (k:=(t.cost:Int)+1) (by omega);have hgo:∀(E:Ds),E.ok->3*E.dep<=j->∀M1,(x.sp ((t.cost:Int)+1)).s<=m->WR w a c b m (x.sp ((t.cost:Int)+1)) M1->aM m n E (x.sp ((t.cost:Int)+1))≠ .out->bD w a c b m (Zj (j+2) 0 [.ref w,.tup E.enc] M1) M1 (aM m n E (x.sp ((t.cost:Int)+1))):=λE hE hEj M1 hs1 w1 ho=>W2 w1 (ih E _ M1 j ⟨E.enc,Yk⟩ _ Yk rfl hE hEj hx1 w1 hs1 ho);have hne:aZ m (x.sp ((t.cost:Int)+1)) (if 0<x.v t then(aM m n A (x.sp ((t.cost:Int)+1))).on λy=>aM m n r y else(aM m n B (x.sp ((t.cost:Int)+1))).on λy=>aZ m (y.sp 1) (aM m n r (y.sp 1)))≠ .out:=hne;show uw w a c b m W _ M (aZ m (x.sp ((t.cost:Int)+1)) (if 0<x.v t then(aM m n A (x.sp ((t.cost:Int)+1))).on λy=>aM m n r y else(aM m n B (x.sp ((t.cost:Int)+1))).on λy=>aZ m (y.sp 1) (aM m n r (y.sp 1))));have rest:∀(y:W7) (M1:Store),F7 y->y.s<=m->WR w a c b m y M1->aM m n r y≠ .out->uw w a c b m W (cG it (bF 2) (dB (j+3)) r.enc [Ya (.ref w),W,Ya (k_ t A.enc B.enc)] M1) M1 (aM m n r y):=λy M1 hy hys w1 ho=>ih r y M1 (j+3) it W _ hi hd.2.2.2 W4 hy w1 hys ho;by_cases hc:(x.sp ((t.cost:Int)+1)).s<=m
    .rw[dM hc]at hne ⊢;by_cases q:0<x.v t
     .rw[if_pos q]at hne ⊢;have hoA:aM m n A (x.sp ((t.cost:Int)+1))≠ .out:=λz=>hne (by rw[z];rfl);have hch:=WY (rec:=Zj (j+2)) (t:=t) (A:=A.enc) (B:=B.enc) (ga:=aM m n A (x.sp ((t.cost:Int)+1))) (gb:=.out) hd.1 hx h hs (λM1 hs1 w1 _=>hgo A hd.2.1 (Ol hz).1 M1 hs1 w1 hoA) (λ_ _ _ z=>absurd q z);rw[dM hc,if_pos q]at hch;have hdd:=W3 h hch;cases hg:aM m n A (x.sp ((t.cost:Int)+1))with
      |out=>exact absurd hg hoA|over=>rw[hg]at hdd;exact Iw hi h (hdd.2 rfl) rfl|done y=>rw[hg]at hdd hne;obtain⟨M1,e1,w1,g1⟩:=hdd.1 y rfl;obtain⟨k1,k2⟩:=WW n A _ _ hg hx1 hc;exact W0 hi h e1 g1 (rest y M1 k1 k2 w1 hne)
     .rw[if_neg q]at hne ⊢;have hoB:aM m n B (x.sp ((t.cost:Int)+1))≠ .out:=λz=>hne (by rw[z];rfl);have hch:=WY (rec:=Zj (j+2)) (t:=t) (A:=A.enc) (B:=B.enc) (ga:=.out) (gb:=aM m n B (x.sp ((t.cost:Int)+1))) hd.1 hx h hs (λ_ _ _ z=>absurd z q) (λM1 hs1 w1 _=>hgo B hd.2.2.1 (Ol hz).2 M1 hs1 w1 hoB);rw[dM hc,if_neg q]at hch;have hdd:=W3 h hch;cases hg:aM m n B (x.sp ((t.cost:Int)+1))with
      |out=>exact absurd hg hoB|over=>rw[hg]at hdd;exact Iw hi h (hdd.2 rfl) rfl|done y=>rw[hg]at hdd hne;obtain⟨k1,k2⟩:=WW n B _ _ hg hx1 hc;have hdd:bD w a c b m _ M (aZ m (y.sp 1) (.done (y.sp 1))):=hdd;have hne:aZ m (y.sp 1) (aM m n r (y.sp 1))≠ .out:=hne;exact Oj hi h hdd λz M1 w1=>rest (y.sp 1) M1 (k1.sp (by decide)) z w1 λe=>hne (by rw[dM z,e])
    .have hch:=WY (rec:=Zj (j+2)) (t:=t) (A:=A.enc) (B:=B.enc) (ga:=.out) (gb:=.out) hd.1 hx h hs (λ_ z _ _=>absurd z hc) (λ_ z _ _=>absurd z hc);rw[gZ (by omega)]at hch ⊢;exact Iw hi h ((W3 h hch).2 rfl) rfl
   | whl t A r=>
    have hj:3*fP (A.dep+1) r.dep<=j:=hj;obtain⟨hj1,W4⟩:=Ol hj;obtain⟨j,rfl,hz⟩:=mx4 hj1;have hA:∀k,k<n+1->∀x1 M1,F7 x1->WR w a c b m x1 M1->x1.s<=m->aM m k A x1≠ .out->bD w a c b m (Zj (j+2) 0 [.ref w,.tup A.enc] M1) M1 (aM m k A x1):=λk hk x1 M1 f1 w1 s1 ho=>W2 w1 (IH k (by omega) (by omega) A x1 M1 j ⟨A.enc,Yk⟩ _ Yk rfl hd.2.1 hz f1 w1 s1 ho);rcases Zle (F:=Zj (j+2) 0) (r:=r) hd.1 (n+1) 1000000 Hh hA x M hx h hs hne with⟨o1,o2⟩|⟨y,k,M',o1,o2,o3,o4,o5,o6,o7⟩
    .exact Iw hi h (Zw4 h o2) o1
    .obtain⟨M2,e2,w2,g2⟩:=ZvU h o3 o4 o5;rw[o2]at hne ⊢;exact W0 hi h e2 g2 (IH k (by omega) (by omega) r y M2 (j+3) it W _ hi hd.2.2 W4 o6 w2 o7 hne)
end
noncomputable def zl(names:List (List Nat))(gs:List Int):List (a_×D):=(names.zip gs).map λp=>(.inr p.1,.int p.2)
theorem Zi2:∀(names:List (List Nat)) (gs:List Int),lQ (yx (names.map D.str) (gs.map D.int))=Ya (zl names gs)
 |[],_=>rfl|_::_,[]=>rfl|x::names,g::gs=>by show(lQ (yx (names.map D.str) (gs.map D.int))).map (λl=>((.inr x,.int g)::l:List (a_×D)))=_;rw[Zi2 names gs];rfl
theorem ZjL:∀(l:List (List Nat×Int)) (acc:List (a_×D)),m8 acc->m8 ((l.map λp=>((.inr p.1,.int p.2):a_×D)).foldl (λacc p=>putD p.1 p.2 acc) acc)
 |[],_,h=>h|_::l,_,h=>ZjL l _ (Wr h _ _)
theorem ZrM(names:List (List Nat))(gs:List Int):m8 (dictOf (zl names gs)):=ZjL _ [] Zlh
theorem Zql(names:List (List Nat))(gs:List Int):(zl names gs).length<=names.length:=by unfold zl;rw[jP,List.length_zip];omega
theorem ZnS(names:List (List Nat))(gs:List Int)(h:names.length<=1000)(M:Store):L_ (names.map D.str) (gs.map D.int) M= .ok (.ref M.length) (M++[.dct (dictOf (zl names gs))]):=by unfold L_;rw[Zi2];exact if_pos (Yu (Zql names gs) (Yu h (by decide)))
theorem Iz{G:Store}{f:List Nat}{v:D}{fs:List (List Nat×D)}(h:fs.length<1000):LQ bU f v (.ref M.length) (M++ .ins bU fs::G)= .ok .non (M++ .ins bU (uc f v fs)::G):=by rw[Ug,dU];have e:=Gz M (.ins bU fs::G) 0 (.ins bU (uc f v fs));rw[Rk]at e;exact(if_pos (⟨rfl,h⟩:bU=bU/\fs.length<1000)).trans (by rw[e];rfl)
theorem Zoh(h1:M'.take M.length≠M)(h2:(M'.take M.length).all (t6 M.length)=false):tidy M d M'= .ok d M':=by unfold tidy;rw[decide_eq_false h1,h2,Rn,J6];rfl
theorem ZrS(M:Store)(a:Nat)(m:Int):yU [.ref M.length,.ref a,.int m] (M++[.ins bU []])= .ok .non (M++[cJ a (M.length+1) (M.length+2) 0 m,.dct [],.lst []]):=by
 refine(t8 (M':=M++[cJ a (M.length+1) (M.length+2) 0 m,.dct [],.lst []]) (env:=[Ya (.ref M.length),Ya (.ref a),Ya (.int m)]) (env':=[Ya (.ref M.length),Ya (.ref a),Ya (.int m)]) ?_).trans ?_
 .unfold V2;refine(Zi (M':=M++[.ins bU [(pA,.ref a)]]) (gF (Zg rfl rfl (Iz (by decide))))).trans ?_;refine(Zi (M':=M++[.ins bU [(pA,.ref a),(rZ,.ref (M.length+1))],.dct []]) (gF (Zg (M1:=M++[.ins bU [(pA,.ref a)],.dct []]) (a:=.ref (M.length+1)) ?_ rfl (Iz (by simp))))).trans ?_
  .show R3.ok (D.ref (M++[_]).length) ((M++[_])++[_])=_;rw[mG,Yv];rfl
  refine(Zi (M':=M++[.ins bU [(pA,.ref a),(rZ,.ref (M.length+1)),(wB,.ref (M.length+2))],.dct [],.lst []]) (gF (Zg (M1:=M++[.ins bU [(pA,.ref a),(rZ,.ref (M.length+1))],.dct [],.lst []]) (a:=.ref (M.length+2)) ?_ rfl (Iz (by simp))))).trans ?_
  .refine(iD rfl rfl).trans ?_;rw[mG,Yv];rfl
  exact(Zi (gF (Zg rfl rfl (Iz (by simp))))).trans (gF (Zg rfl rfl (Iz (by simp[uc]))))
 .have hl:(M++[MO.ins bU []]).length=M.length+1:=by simp
  have ht:(M++[cJ a (M.length+1) (M.length+2) 0 m,.dct [],.lst []]).take (M++[MO.ins bU []]).length=M++[cJ a (M.length+1) (M.length+2) 0 m]:=by rw[hl,List.take_append,xK (by omega)];simp
  refine Zoh ?_ ?_
  .rw[ht];intro e;have:=List.append_cancel_left e;simp at this
  .rw[ht,List.all_append,hl];have hb:t6 (M.length+1) (cJ a (M.length+1) (M.length+2) 0 m)=false:=by
    show cg (M.length+1) [.ref a,.ref (M.length+1),.ref (M.length+2),.int 0,.int m]=false;simp[cg,below]
   simp[hb]
theorem refuse_eq{ns:List D}{gs:List D}(h:gs.length=ns.length)(M:Store):HJ [.tup [.tup ns,.tup ds],.tup gs] M= .ok .non M:=by refine(t8 (M':=M) (env:=[Ya (.tup [.tup ns,.tup ds]),Ya (.tup gs)]) (env':=[Ya (.tup [.tup ns,.tup ds]),Ya (.tup gs)]) ?_).trans (NQ rfl);unfold V3;refine oE (Zg (M1:=M) (M2:=M) (a:=.int (gs.length:Int)) (b:=.int (ns.length:Int)) rfl rfl ?_);rw[h];show(match Ya (decide ((ns.length:Int)=ns.length))with|some r=>R3.ok (D.bl (!r)) M|none=>R3.bad)=_;rw[decide_eq_true rfl];rfl
noncomputable def x7(names:List (List Nat))(gs:List Int):W7:=⟨dictOf (zl names gs),[],[],2*(gs.length:Int)⟩
theorem ZiU:∀(l:List (a_×D)) (acc:List (a_×D)),(l.foldl (λacc p=>putD p.1 p.2 acc) acc).length<=acc.length+l.length
 |[],_=>by simp|p::l,acc=>by have h:=ZiU l (putD p.1 p.2 acc);have k:=Ws p.1 p.2 acc;rw[sY,Ys];omega
theorem ZwN(gs:List Int)(h:names.length<=6):F7 (x7 names gs):=by
 have h1:(dictOf (zl names gs)).length<=(zl names gs).length:=by have:=ZiU (zl names gs) [];rw[pN,u5]at this;exact this
 have h2:=Zql names gs;exact⟨ZrM names gs,Zlh,by show((dictOf (zl names gs)).length:Int)<=2*(gs.length:Int)+100;omega,by show((0:Nat):Int)<=2*(gs.length:Int)+100;omega,by show((0:Nat):Int)<=2*(gs.length:Int)+100;omega,λd hd=>(by cases hd)⟩
theorem W5{gs:List Int}(IK:gs.length=names.length)(hnl:names.length<=6){ds:Ds}(hd:ds.ok)(hdd:ds.dep<=3)(hm:m<=1000)(hn:n<=1000000)(hne:aM m n ds (x7 names gs)≠ .out)(M:Store):
  ((x7 names gs).s<=m->∀y,aM m n ds (x7 names gs)= .done y->∃M' q,ur [j4 names ds,.tup (gs.map D.int),.int m] M= .ok (.tup [.ref q,.int y.s]) M'/\M'[q]?=Ya (.lst y.o)/\M.length<=q/\M.length<=M'.length/\∀i,i<M.length->M'[i]?=M[i]?)/\
  ((m<(x7 names gs).s\/aM m n ds (x7 names gs)= .over)->cO (λ_=>True) M (ur [j4 names ds,.tup (gs.map D.int),.int m] M)):=by
 let S:=M++[MO.dct (dictOf (zl names gs))]
 let w:=S.length
 have hw:w=M.length+1:=by simp[w,S]
 let M1:=S++[cJ M.length (w+1) (w+2) 0 m,.dct [],.lst []]
 have w0:WR w M.length (w+1) (w+2) m ⟨dictOf (zl names gs),[],[],0⟩ M1:=⟨⟨dU S _ _,cW (dU M _ []) _,p6 S [cJ M.length (w+1) (w+2) 0 m,.dct [],.lst []] 1,by omega⟩,p6 S [cJ M.length (w+1) (w+2) 0 m,.dct [],.lst []] 2⟩
 let env:Option D->Zt:=λz=>[Ya (j4 names ds),Ya (.tup (gs.map D.int)),Ya (.int m),z]
 have s0:Zr (Zw HJ (bJ (Za (Zb 0) (Za (Zb 1) (Ze))))) (env Yk) M= .nx (env Yk) M:=by refine gF (d:=.non) ?_;show(bJ _ (env Yk) M).bind _=_;rw[pB (d:=[j4 names ds,.tup (gs.map D.int)]) (M':=M) rfl,R3.sy];exact refuse_eq (by simp[IK]) M
 have mk:GJ bU yU (Za (BR (e2 Zk (Zb 0) (eC (.int 0))) (Zb 1)) (Za (Zb 2) (Ze))) (env Yk) M= .ok (.ref w) M1:=by have hz:BR (e2 Zk (Zb 0) (eC (.int 0))) (Zb 1) (env Yk) M= .ok (.ref M.length) S:=ZnS names gs (by omega) M;have hi:=ZrS S M.length m;show(Za _ _ _ M).bind _=_;rw[Zo hz (Zo (M2:=S) (d:=.int m) rfl rfl),R3.sy];show(match yU [.ref S.length,.ref M.length,.int m] (S++[.ins bU []])with| .ok .non M2=>R3.ok (D.ref S.length) M2|_=>.bad)=_;rw[hi]
 have s1:gW (aJ 3 (GJ bU yU (Za (BR (e2 Zk (Zb 0) (eC (.int 0))) (Zb 1)) (Za (Zb 2) (Ze))))) (env Yk) M= .nx (env (Ya (.ref w))) M1:=Og (bY mk);have hl1:M.length<=M1.length:=by simp only[M1,S,Yv,Ys,pN];omega
 have ho1:∀i,i<M.length->M1[i]?=M[i]?:=λi hi=>by show((M++[_])++_)[i]?=_;rw[mG,Yw hi]
 have p4:∀i,i<M.length->P4 w M.length (w+1) (w+2) i:=λi hi=>⟨by omega,by omega,by omega,by omega⟩;have sp:=Oi (env:=env (Ya (.ref w))) (o:=Zb 3) (e:=Za (e2 eO (eC (.int 2)) (aO bW (Za (Zb 1) (Ze)))) (Ze)) w0 (2*(gs.length:Int)) rfl (Zo (d:=.int (2*(gs.length:Int))) (M1:=M1) (by refine Zg (M2:=M1) (b:=.int (gs.length:Int)) rfl (iK rfl (by rw[Bp,jP])) ?_;rw[yg,if_pos (Ie (by decide))]) rfl);have ex:W7.sp ⟨dictOf (zl names gs),[],[],0⟩ (2*(gs.length:Int))=x7 names gs:=by show W7.mk _ _ _ _=W7.mk _ _ _ _;congr 1;exact Al _
 rw[ex]at sp;have body:jj w M.length (w+1) (w+2) m (env (Ya (.ref w))) (Zu (Zr (bN bU zr gM (bf (Zb 3)) (bJ (Za (e2 eO (eC (.int 2)) (aO bW (Za (Zb 1) (Ze)))) (Ze))))) (Zr (bN bU GTH Nu (bf (Zb 3)) (bJ (Za (e2 Zk (Zb 0) (eC (.int 1))) (Ze))))) (env (Ya (.ref w))) M1) M1 ((aZ m (x7 names gs) (.done (x7 names gs))).on λy=>aM m n ds y):=jj.seq sp λy M2 hy w2=>by obtain⟨q1,q2⟩:=jt hy;cases q2;exact bD.se (F:=Nu) (ds:=[.tup ds.enc]) (W2 w2 (Zs1 hm n n (Yl _) hn ds (x7 names gs) M2 11 ⟨ds.enc,Yk⟩ _ Yk rfl hd (by omega) (ZwN gs hnl) w2 q1 hne)) w2 (by decide) rfl rfl
 refine⟨λhs y hy=>?_,λh=>?_⟩
 .have hb:=body.1 y (by rw[dM hs];exact hy);obtain⟨M2,e2',w2,g2⟩:=hb;have hlen:M.length<=M2.length:=Yu hl1 g2.len;refine⟨M2,w+2,?_,w2.nb,by omega,hlen,λi hi=>(g2.old i (Yo hi hl1) (p4 i hi)).trans (ho1 i hi)⟩;refine(jC (M':=M2) (d:=.tup [.ref (w+2),.int y.s]) (env:=env Yk) ?_).trans ?_
  .unfold HN;refine(Zi s0).trans ((Zi s1).trans ?_);obtain⟨M3,e3',w3,g3⟩:=sp.1 _ (dM hs);have e4:=e2';rw[Zi e3']at e4;exact(Zi e3').trans ((Zi e4).trans (Ef (je (gV (Zo (dW rfl (WK w2.ws.ob)) (Zo (dW rfl (Ip w2.ws.ob)) rfl)) rfl))))
  .have hb:below M.length (.tup [.ref (w+2),.int y.s])=false:=by
    show(decide (w+2<M.length)&&_)=false;rw[decide_eq_false (by omega)];rfl
   rw[tidy,hb];rfl
 .have ho:(aZ m (x7 names gs) (.done (x7 names gs))).on (λy=>aM m n ds y)= .over:=by
   by_cases hs:(x7 names gs).s<=m
   .rw[dM hs];rcases h with h|h
    .omega
    .exact h
   .rw[gZ (by omega)];rfl
  have hx:=body.2 ho;have hx2:bx (λ_=>True) M (HN (env Yk) M):=by
   unfold HN;refine bx.to s0 (bx.to s1 ?_);by_cases hs:(x7 names gs).s<=m
   .obtain⟨M3,e3',w3,g3⟩:=sp.1 _ (dM hs);obtain⟨k,M',e,r1,r2,r3⟩:=hx;rw[Zi e3']at e;exact⟨k,M',(Zi e3').trans (WM e),r1,Yu hl1 r2,λi hi _=>(r3 i (Yo hi hl1) (p4 i hi)).trans (ho1 i hi)⟩
   .obtain⟨k,M',e,r1,r2,r3⟩:=sp.2 (gZ (by omega));exact⟨k,M',WM e,r1,Yu hl1 r2,λi hi _=>(r3 i (Yo hi hl1) (p4 i hi)).trans (ho1 i hi)⟩
  exact bx.def (env:=env Yk) hx2
theorem W6:∀(n:Nat) (d:Ds) (x:W7),m-x.s<(n:Int)->0<n->aM m n d x≠ .out:=by
 intro n
 induction n with
 |zero=>intro d x _ h;omega|succ n ih=>
  intro d x hx _;have cpos:∀t:Sm,(1:Int)<=(t.cost:Int):=λt=>by cases t<;>simp[Sm.cost]<;>omega
  have lm:∀(x1:W7) (g:G7),(x1.s<=m->g≠ .out)->aZ m x1 g≠ .out:=λx1 g h=>by
   by_cases q:x1.s<=m
   .rw[dM q];exact h q
   .rw[gZ (by omega)];intro z;cases z
  have rn:∀(d:Ds) (x1:W7),x.s+1<=x1.s->x1.s<=m->aM m n d x1≠ .out:=λd x1 h1 h2=>ih d x1 (by omega) (by omega);have on:∀(d:Ds) (x1:W7) (f:W7->G7),x.s+1<=x1.s->x1.s<=m->(∀y,x1.s<=y.s->f y≠ .out)->(aM m n d x1).on f≠ .out:=λd x1 f h1 h2 h3=>by
   cases e:aM m n d x1 with
   |out=>exact absurd e (rn d x1 h1 h2)|over=>intro z;cases z|done y=>exact h3 y (Ed n d x1 y e).le
  cases d with
  |nil=>intro z;cases z|set y t r=>exact lm _ _ (rn r _ (by have:=cpos t;show x.s+1<=x.s+(t.cost:Int)+2;omega))|put t u r=>exact lm _ _ (rn r _ (by have:=cpos t;have:=cpos u;show x.s+1<=x.s+(t.cost:Int)+(u.cost:Int)+2;omega))|tell t r=>exact lm _ _ (rn r _ (by have:=cpos t;show x.s+1<=x.s+(t.cost:Int)+1;omega))
  | bT t a b r=>
   have h1:x.s+1<=(x.sp ((t.cost:Int)+1)).s:=by have:=cpos t;show x.s+1<=x.s+((t.cost:Int)+1);omega
   refine lm _ _ λq=>?_;by_cases z:0<x.v t
   .rw[if_pos z];refine on a _ _ h1 q λy hy=>?_;by_cases hm:y.s<=m
    .exact rn r y (by omega) hm
    .exact ih r y (by omega) (by have:=cpos t;have:(x.sp ((t.cost:Int)+1)).s=x.s+((t.cost:Int)+1):=rfl;omega)
   .rw[if_neg z];exact on b _ _ h1 q λy hy=>lm _ _ (rn r _ (by show x.s+1<=y.s+1;omega))
  | whl t a r=>
   have h1:x.s+1<=(x.sp ((t.cost:Int)+1)).s:=by have:=cpos t;show x.s+1<=x.s+((t.cost:Int)+1);omega
   refine lm _ _ λq=>?_;by_cases z:0<x.v t
   .rw[if_pos z];exact on a _ _ h1 q λy hy=>lm _ _ (rn _ _ (by show x.s+1<=y.s+1;omega))
   .rw[if_neg z];exact lm _ _ (rn r _ (by have:=cpos t;show x.s+1<=x.s+((t.cost:Int)+1+1);omega))
noncomputable abbrev fM(m:Int)(d:Ds)(x:W7):G7:=aM m 1002 d x
theorem wI(hm:m<=1000)(d:Ds)(x:W7)(h0:0<=x.s):aM m 1001 d x=fM m d x:=(Zw9 (by omega) d x (W6 1001 d x (by omega) (by omega))).symm
section
variable {m:Int} (hm:m<=1000) {x:W7} (h0:0<=x.s)
include hm h0
theorem ZsP(y:List Nat)(t:Sm)(r:Ds):fM m (.set y t r) x=aZ m (x.set y t) (fM m r (x.set y t)):=by rw[←wI hm r _ (by show 0<=x.s+(t.cost:Int)+2;omega)];rfl
theorem ZsN(t u:Sm)(r:Ds):fM m (.put t u r) x=aZ m (x.put t u) (fM m r (x.put t u)):=by rw[←wI hm r _ (by show 0<=x.s+(t.cost:Int)+(u.cost:Int)+2;omega)];rfl
theorem Zqj(t:Sm)(r:Ds):fM m (.tell t r) x=aZ m (x.tell t) (fM m r (x.tell t)):=by rw[←wI hm r _ (by show 0<=x.s+(t.cost:Int)+1;omega)];rfl
theorem W8{d:Ds}{x1:W7}(h:x.s<=x1.s){f g:W7->G7}(hf:∀y,0<=y.s->f y=g y):(aM m 1001 d x1).on f=(fM m d x1).on g:=by
 rw[wI hm d x1 (by omega)];cases e:fM m d x1 with
 |out=>rfl|over=>rfl|done y=>exact hf y (by have:=(Ed 1002 d x1 y e).le;omega)
theorem Znq(t:Sm)(a b r:Ds):fM m (.bT t a b r) x=aZ m (x.sp ((t.cost:Int)+1)) (if 0<x.v t then(fM m a (x.sp ((t.cost:Int)+1))).on λy=>fM m r y else(fM m b (x.sp ((t.cost:Int)+1))).on λy=>aZ m (y.sp 1) (fM m r (y.sp 1))):=by
 have h1:x.s<=(x.sp ((t.cost:Int)+1)).s:=by show x.s<=x.s+((t.cost:Int)+1);omega
 rw[←W8 hm h0 h1 (f:=λy=>aM m 1001 r y) (λy hy=>wI hm r y hy),←W8 hm h0 h1 (f:=λy=>aZ m (y.sp 1) (aM m 1001 r (y.sp 1))) (λy hy=>by rw[wI hm r _ (by show 0<=y.s+1;omega)])];rfl
theorem ZnH(t:Sm)(a r:Ds):fM m (.whl t a r) x=aZ m (x.sp ((t.cost:Int)+1)) (if 0<x.v t then(fM m a (x.sp ((t.cost:Int)+1))).on λy=>aZ m (y.sp 1) (fM m (.whl t a r) (y.sp 1))else aZ m (x.sp ((t.cost:Int)+1+1)) (fM m r (x.sp ((t.cost:Int)+1+1)))):=by
 have h1:x.s<=(x.sp ((t.cost:Int)+1)).s:=by show x.s<=x.s+((t.cost:Int)+1);omega
 rw[←W8 hm h0 h1 (f:=λy=>aZ m (y.sp 1) (aM m 1001 (.whl t a r) (y.sp 1))) (λy hy=>by rw[wI hm _ _ (by show 0<=y.s+1;omega)]),←wI hm r _ (by show 0<=x.s+((t.cost:Int)+1+1);omega)];rfl
end
noncomputable def G7.sh(k:Int):G7->G7
 | .done x=>.done (x.sp k)|.over=>.over|.out=>.out
theorem wJ{m k:Int}{x:W7}{g':G7}(h:g'=g.sh k):aZ (m+k) (x.sp k) g'=(aZ m x g).sh k:=by
 by_cases q:x.s<=m
 .rw[dM q,dM (by show x.s+k<=m+k;omega)];exact h
 .rw[gZ (m:=m) (x:=x) (by omega),gZ (m:=m+k) (x:=x.sp k) (by show m+k<x.s+k;omega)];rfl
theorem W9{k:Int}{g':G7}{f f':W7->G7}(h:g'=g.sh k)(hf:∀x,f' (x.sp k)=(f x).sh k):g'.on f'=(g.on f).sh k:=by
 subst h;cases g with
 |done x=>exact hf x|over=>rfl|out=>rfl
theorem IV(x:W7)(i j:Int):(x.sp i).sp j=(x.sp j).sp i:=congrArg (λz=>W7.mk x.n x.c x.o z) (by show x.s+i+j=x.s+j+i;omega)
theorem W_{m k:Int}:∀(n:Nat) (d:Ds) (x:W7),aM (m+k) n d (x.sp k)=(aM m n d x).sh k:=by
 intro n
 induction n with
 |zero=>intro d x;rfl|succ n ih=>
  intro d x;cases d with
  |nil=>rfl|set y t r=>have e:(x.sp k).set y t=(x.set y t).sp k:=congrArg (λz=>W7.mk _ x.c x.o z) (by show x.s+k+(t.cost:Int)+2=x.s+(t.cost:Int)+2+k;omega);show aZ _ ((x.sp k).set y t) _=_;rw[e];exact wJ (ih r _)
  |put t u r=>have e:(x.sp k).put t u=(x.put t u).sp k:=congrArg (λz=>W7.mk x.n _ x.o z) (by show x.s+k+(t.cost:Int)+(u.cost:Int)+2=x.s+(t.cost:Int)+(u.cost:Int)+2+k;omega);show aZ _ ((x.sp k).put t u) _=_;rw[e];exact wJ (ih r _)|tell t r=>have e:(x.sp k).tell t=(x.tell t).sp k:=congrArg (λz=>W7.mk x.n x.c _ z) (by show x.s+k+(t.cost:Int)+1=x.s+(t.cost:Int)+1+k;omega);show aZ _ ((x.sp k).tell t) _=_;rw[e];exact wJ (ih r _)|bT t a b r=>
   have ev:(x.sp k).v t=x.v t:=rfl;show aZ _ ((x.sp k).sp _) (if 0<(x.sp k).v t then _ else _)=_;rw[IV,ev];refine wJ ?_;by_cases q:0<x.v t
   .rw[if_pos q,if_pos q];exact W9 (ih a _) λy=>ih r y
   .rw[if_neg q,if_neg q];exact W9 (ih b _) λy=>by rw[IV];exact wJ (ih r _)
  |whl t a r=>
   have ev:(x.sp k).v t=x.v t:=rfl;show aZ _ ((x.sp k).sp _) (if 0<(x.sp k).v t then _ else aZ _ ((x.sp k).sp _) (aM _ n r ((x.sp k).sp _)))=_;rw[IV x k ((t.cost:Int)+1),IV x k ((t.cost:Int)+1+1),ev];refine wJ ?_;by_cases q:0<x.v t
   .rw[if_pos q,if_pos q];exact W9 (ih a _) λy=>by rw[IV];exact wJ (ih _ _)
   .rw[if_neg q,if_neg q];exact wJ (ih r _)
noncomputable abbrev wK:S3:=aQ (e1 (jd .int) (Zb 5)) (Zu (Zr (aN aY bL (Zb 4) (Za (Zb 5) (Ze)))) (fK (Zb 3) (eC (.int 0)) (e2 aK (e2 Zk (Zb 3) (eC (.int 0))) (eC (.int 1))))) (aQ (e2 bI (Zb 5) (eC (.str [99,101,108,108]))) (Zu (Zr (aN aY bL (Zb 4) (Za (aN qZ pZ (Zb 2) (Za (aN aY jU (Zb 4) (Ze)) (Za (eC (.int 0)) (Ze)))) (Ze)))) (fK (Zb 3) (eC (.int 0)) (e2 aK (e2 Zk (Zb 3) (eC (.int 0))) (eC (.int 2))))) (aQ (e2 Bl (Zb 5) (cu (Za (eC (.str [97,100,100])) (Za (eC (.str [115,117,98])) (Za (eC (.str [109,111,114,101])) (Ze)))))) (Zu (aJ 6 (aN aY jU (Zb 4) (Ze))) (Zu (aJ 7 (aN aY jU (Zb 4) (Ze))) (Zu (fK (Zb 3) (eC (.int 0)) (e2 aK (e2 Zk (Zb 3) (eC (.int 0))) (eC (.int 1)))) (Zr (aN aY bL (Zb 4) (Za (e2 Gs (Gw (jB (eC (.str [97,100,100])) (e2 aK (Zb 6) (Zb 7)) (jB (eC (.str [115,117,98])) (e2 iI (Zb 6) (Zb 7)) (jB (eC (.str [109,111,114,101])) (aO lR (Za (e2 dD (Zb 6) (Zb 7)) (Ze))) (yq))))) (Zb 5)) (Ze))))))) (Zu (Zr (aN aY bL (Zb 4) (Za (aN qZ pZ (Zb 1) (Za (Zb 5) (Za (eC (.int 0)) (Ze)))) (Ze)))) (fK (Zb 3) (eC (.int 0)) (e2 aK (e2 Zk (Zb 3) (eC (.int 0))) (eC (.int 2)))))))
structure WI(M0:Store)(a c q d:Nat)(nk ck:List (a_×D))(st:List D)(k:Int)(M:Store):Prop where
 sk:M[d]?=Ya (.lst st)
 ct:M[q]?=Ya (.lst [.int k])
 nm:M[a]?=Ya (.dct nk)
 cl:M[c]?=Ya (.dct ck)
 dl:M0.length<=d
 len:M0.length<=M.length
 qd:q≠d
 old:∀i,i<M0.length->i≠q->M[i]?=M0[i]?
section
variable {M0:Store} {a c q d:Nat} {nk ck:List (a_×D)} {st:List D} {k:Int} {M:Store}
theorem WI.da(h:WI M0 a c q d nk ck st k M):d≠a:=λe=>by have:=h.nm;rw[←e,h.sk]at this;cases this
theorem WI.dc(h:WI M0 a c q d nk ck st k M):d≠c:=λe=>by have:=h.cl;rw[←e,h.sk]at this;cases this
theorem WI.qa(h:WI M0 a c q d nk ck st k M):q≠a:=λe=>by have:=h.nm;rw[←e,h.ct]at this;cases this
theorem WI.qc(h:WI M0 a c q d nk ck st k M):q≠c:=λe=>by have:=h.cl;rw[←e,h.ct]at this;cases this
theorem WI.dlt(h:WI M0 a c q d nk ck st k M):d<M.length:=(Ye.mp h.sk).1
theorem WI.qlt(h:WI M0 a c q d nk ck st k M):q<M.length:=(Ye.mp h.ct).1
theorem WI.mz(h:WI M0 a c q d nk ck st k M)(st':List D):WI M0 a c q d nk ck st' k (M.set d (.lst st')):=⟨Yx h.dlt,by rw[Yf h.qd.symm];exact h.ct,by rw[Yf h.da];exact h.nm,by rw[Yf h.dc];exact h.cl,h.dl,by rw[oO];exact h.len,h.qd,λi hi hq=>by have:=h.dl;rw[Yf (by omega)];exact h.old i hi hq⟩
theorem WI.Jq(h:WI M0 a c q d nk ck st k M)(k':Int):WI M0 a c q d nk ck st k' (M.set q (.lst [.int k'])):=⟨by rw[Yf h.qd];exact h.sk,Yx h.qlt,by rw[Yf h.qa];exact h.nm,by rw[Yf h.qc];exact h.cl,h.dl,by rw[oO];exact h.len,h.qd,λi hi hq=>by rw[Yf (bK hq)];exact h.old i hi hq⟩
theorem WI.app(h:WI M0 a c q d nk ck st k M)(G:Store):WI M0 a c q d nk ck st k (M++G):=⟨cW h.sk G,cW h.ct G,cW h.nm G,cW h.cl G,h.dl,by rw[Yv];have:=h.len;omega,h.qd,λi hi hq=>by have:=h.len;rw[Yw (by omega)];exact h.old i hi hq⟩
theorem Om(h:WI M0 a c q d nk ck st k M)(n:Int)(h3:∀M,Zb 3 env M= .ok (.ref q) M):fK (Zb 3) (eC (.int 0)) (e2 aK (e2 Zk (Zb 3) (eC (.int 0))) (eC (.int n))) env M= .nx env (M.set q (.lst [.int (k+n)])):=by refine gF (d:=.non) (NT (Zg (Zg (h3 M) rfl (gG h.ct rfl)) rfl rfl) (h3 M) rfl ?_);rw[T6,h.ct];rfl
theorem Xa{x:D}(h:WI M0 a c q d nk ck (st++[x]) k M)(h4:Zb 4 env M= .ok (.ref d) M):aN aY jU (Zb 4) (Ze) env M= .ok x (M.set d (.lst st)):=by
 refine DP h4 (by rw[vK,h.sk]) rfl ?_;rw[Lq,h.sk];have e1:(st++[x])[(st++[x]).length-1]?=Ya x:=by simp
 simp only[e1,Yi3]
theorem Zr4{M M2:Store}{d:D}{o t:E3}(ho:o env M= .ok (.ref n) M)(hM:M[n]?=Ya (.lst xs0))(ht:t env M= .ok d M2)(hM':M2[n]?=Ya (.lst xs))(hl:xs.length<SZ):
  Zr (aN aY bL o (Za t (Ze))) env M= .nx env (M2.set n (.lst (xs++[d]))):=by
 have e:aN aY bL o (Za t (Ze)) env M= .ok .non (M2.set n (.lst (xs++[d]))):=by simp only[aN,ho,R3.bind,vK,hM,Za,ht,Ze,Gv,hM',if_pos hl,if_true]
 rw[Zr,e]
theorem ZxO(o:Nat)(u v:Int)(h6:∀M,Zb 6 env M= .ok (.int u) M)(h7:∀M,Zb 7 env M= .ok (.int v) M)(h5:∀M,Zb 5 env M= .ok (.str (jr o)) M)(M:Store):
  ∃G,e2 Gs (Gw (jB (eC (.str [97,100,100])) (e2 aK (Zb 6) (Zb 7)) (jB (eC (.str [115,117,98])) (e2 iI (Zb 6) (Zb 7)) (jB (eC (.str [109,111,114,101])) (aO lR (Za (e2 dD (Zb 6) (Zb 7)) (Ze))) (yq))))) (Zb 5) env M= .ok (.int (opV o u v)) (M++G):=by
 let M1:=M++[MO.dct []]
 let l:List (a_×D):=[(.inr [97,100,100],.int (u+v)),(.inr [115,117,98],.int (u-v)),(.inr [109,111,114,101],.int (if decide (v<u)=true then 1 else 0))]
 have hd:Gw (jB (eC (.str [97,100,100])) (e2 aK (Zb 6) (Zb 7)) (jB (eC (.str [115,117,98])) (e2 iI (Zb 6) (Zb 7)) (jB (eC (.str [109,111,114,101])) (aO lR (Za (e2 dD (Zb 6) (Zb 7)) (Ze))) (yq)))) env M= .ok (.ref M.length) (M++[.dct (dictOf l)]):=by
  have a1:e2 aK (Zb 6) (Zb 7) env M1= .ok (.int (u+v)) M1:=Zg (h6 _) (h7 _) rfl;have a2:e2 iI (Zb 6) (Zb 7) env M1= .ok (.int (u-v)) M1:=Zg (h6 _) (h7 _) rfl;have a3:aO lR (Za (e2 dD (Zb 6) (Zb 7)) (Ze)) env M1= .ok (.int (if decide (v<u)=true then 1 else 0)) M1:=iK (Zg (h6 _) (h7 _) rfl) rfl;have e:jB (eC (.str [97,100,100])) (e2 aK (Zb 6) (Zb 7)) (jB (eC (.str [115,117,98])) (e2 iI (Zb 6) (Zb 7)) (jB (eC (.str [109,111,114,101])) (aO lR (Za (e2 dD (Zb 6) (Zb 7)) (Ze))) (yq))) env M1= .ok l M1:=by simp only[jB,eC,R3.bind,a1,a2,a3,Ztd,yq];rfl
  show(jB _ _ _ env M1).bind _=_;rw[e,R3.sy,show M1[M.length]?=Ya (.dct [])from dU M _ []];have es:M1.set M.length (.dct (dictOf l))=M++[.dct (dictOf l)]:=by simp[M1]
  show(if l.length<=15 then R3.ok (D.ref M.length) (M1.set M.length (.dct (dictOf l)))else R3.bad)=_;exact(if_pos (show 3<=15 by decide)).trans (by rw[es])
 refine⟨[.dct (dictOf l)],Zg hd (h5 _) ?_⟩;have hl:dictOf l=l:=rfl;rw[Zjs,dU,hl]
 match o with
 |0=>rfl|1=>rfl|o+2=>
  show R3.ok (D.int (if decide (v<u)=true then 1 else 0)) _=R3.ok (D.int (if u>v then 1 else 0)) _;by_cases q:v<u
  .rw[decide_eq_true q,if_pos q];rfl
  .rw[decide_eq_false q,if_neg q];rfl
theorem Oo(hN:m8 nk)(hC:m8 ck)(hz:st.length<1000):∀(t:Sm),t.good->t.flat.length<900->∀(it:gD),it.lock=Yk->∀(st:List D) (k:Int) (M:Store) (W:Option D) (x y z:Option D) (r:List D),st.length+t.flat.length<1000->WI M0 a c q d nk ck st k M ->
  ∃M' x' y' z',cG it (bF 5) wK (t.flat.reverse++r) [W,Ya (.ref a),Ya (.ref c),Ya (.ref q),Ya (.ref d),x,y,z] M=cG it (bF 5) wK r [W,Ya (.ref a),Ya (.ref c),Ya (.ref q),Ya (.ref d),x',y',z'] M'/\
   WI M0 a c q d nk ck (st++[.int (t.val (λx=>intOf nk (.inr x)) λi=>intOf ck (.inl i))]) (k+(t.cost:Int)) M'
 | .num i,_,_,it,hi,st,k,M,W,x,y,z,r,hst,h=>by
  have hlk:locked it M=true:=by unfold locked;rw[hi]
  have hsz:st.length<SZ:=iy (by omega) (show 1000<SZ by decide);have h2:=(h.mz (st++[.int i])).Jq (k+1);refine⟨_,Ya (.int i),y,z,?_,h2⟩;have hb:wK [W,Ya (.ref a),Ya (.ref c),Ya (.ref q),Ya (.ref d),Ya (.int i),y,z] M= .nx [W,Ya (.ref a),Ya (.ref c),Ya (.ref q),Ya (.ref d),Ya (.int i),y,z] ((M.set d (.lst (st++[.int i]))).set q (.lst [.int (k+1)])):=(cV (dW rfl (show jd .int (.int i) M= .ok (.bl true) M from rfl))).trans ((Zi (mZ rfl h.sk rfl h.sk hsz)).trans (Om (h.mz _) 1 λ_=>rfl));show cG it (bF 5) wK (.int i::r) _ _=_;rw[mU,if_pos hlk];simp only[bF,lz,lF,hb]
 | .bR w,hg,_,it,hi,st,k,M,W,x,y,z,r,hst,h=>by
  have hlk:locked it M=true:=by unfold locked;rw[hi]
  have hsz:st.length<SZ:=iy (by omega) (show 1000<SZ by decide);have hg:oA w=false:=hg;have n1:¬w=jH:=λe=>by rw[e]at hg;exact absurd hg (by decide)
  have hin:Bl (.str w) (.tup [.str [97,100,100],.str [115,117,98],.str [109,111,114,101]]) M= .ok (.bl false) M:=by
   have a1:¬[97,100,100]=w:=λe=>by rw[←e]at hg;exact absurd hg (by decide)
   have a2:¬[115,117,98]=w:=λe=>by rw[←e]at hg;exact absurd hg (by decide)
   have a3:¬[109,111,114,101]=w:=λe=>by rw[←e]at hg;exact absurd hg (by decide)
   show(match Ya ((([97,100,100]:List Nat)==w)|| ((([115,117,98]:List Nat)==w)|| ((([109,111,114,101]:List Nat)==w)|| false)))with|some r=>R3.ok (D.bl r) M|none=>R3.bad)=_;rw[beq_eq_false_iff_ne.mpr a1,beq_eq_false_iff_ne.mpr a2,beq_eq_false_iff_ne.mpr a3];rfl
  have hget:aN qZ pZ (Zb 1) (Za (Zb 5) (Za (eC (.int 0)) (Ze))) [W,Ya (.ref a),Ya (.ref c),Ya (.ref q),Ya (.ref d),Ya (.str w),y,z] M= .ok (.int (intOf nk (.inr w))) M:=by refine DP rfl (by rw[Br,h.nm];rfl) rfl ?_;rw[Gx,h.nm];show R3.ok ((cT nk (.inr w)).getD (.int 0)) _=_;rw[hN.get]
  have h2:=(h.mz (st++[.int (intOf nk (.inr w))])).Jq (k+2);refine⟨_,Ya (.str w),y,z,?_,h2⟩;have hb:wK [W,Ya (.ref a),Ya (.ref c),Ya (.ref q),Ya (.ref d),Ya (.str w),y,z] M= .nx [W,Ya (.ref a),Ya (.ref c),Ya (.ref q),Ya (.ref d),Ya (.str w),y,z] ((M.set d (.lst (st++[.int (intOf nk (.inr w))]))).set q (.lst [.int (k+2)])):=(bM (dW rfl (show jd .int (.str w) M= .ok (.bl false) M from rfl))).trans ((bM (Zg rfl rfl (rP n1))).trans ((bM (Zg rfl (gV rfl rfl) hin)).trans ((Zi (mZ rfl h.sk hget h.sk hsz)).trans (Om (h.mz _) 2 λ_=>rfl))));show cG it (bF 5) wK (.str w::r) _ _=_;rw[mU,if_pos hlk];simp only[bF,lz,lF,hb]
 | .fB s,hg,hl,it,hi,st,k,M,W,x,y,z,r,hst,h=>by
  have hfl:(Sm.fB s).flat.length=s.flat.length+1:=by simp[Sm.flat]
  obtain⟨M1,x1,y1,z1,e1',h1⟩:=Oo hN hC hz s hg (by omega) it hi st k M W x y z (.str jH::r) (by omega) h;have hlk:locked it M1=true:=by unfold locked;rw[hi]
  have hsz:st.length<SZ:=iy (by omega) (show 1000<SZ by decide)
  let v:=s.val (λx=>intOf nk (.inr x)) λi=>intOf ck (.inl i)
  have h2:=h1.mz st;have hget:aN qZ pZ (Zb 2) (Za (aN aY jU (Zb 4) (Ze)) (Za (eC (.int 0)) (Ze))) [W,Ya (.ref a),Ya (.ref c),Ya (.ref q),Ya (.ref d),Ya (.str jH),y1,z1] M1= .ok (.int (intOf ck (.inl v))) (M1.set d (.lst st)):=by refine DP rfl (by rw[Br,h1.cl];rfl) (Zo (Xa h1 rfl) (Zo rfl rfl)) ?_;rw[Gx,h2.cl];show R3.ok ((cT ck (.inl v)).getD (.int 0)) _=_;rw[hC.get]
  have h3:=(h2.mz (st++[.int (intOf ck (.inl v))])).Jq (k+(s.cost:Int)+2);have ec:k+(s.cost:Int)+2=k+((Sm.fB s).cost:Int):=by simp[Sm.cost];omega
  rw[ec]at h3;refine⟨_,Ya (.str jH),y1,z1,?_,h3⟩;have hb:wK [W,Ya (.ref a),Ya (.ref c),Ya (.ref q),Ya (.ref d),Ya (.str jH),y1,z1] M1= .nx [W,Ya (.ref a),Ya (.ref c),Ya (.ref q),Ya (.ref d),Ya (.str jH),y1,z1] (((M1.set d (.lst st)).set d (.lst (st++[.int (intOf ck (.inl v))]))).set q (.lst [.int (k+((Sm.fB s).cost:Int))])):=by rw[←ec];exact(bM (dW rfl (show jd .int (.str jH) M1= .ok (.bl false) M1 from rfl))).trans ((cV (Zg rfl rfl (zb rfl))).trans ((Zi (Zr4 rfl h1.sk hget h2.sk hsz)).trans (Om (h2.mz _) 2 λ_=>rfl)))
  have ew:(Sm.fB s).flat.reverse++r=s.flat.reverse++(.str jH::r):=by simp[Sm.flat]
  rw[ew,e1',mU,if_pos hlk];simp only[bF,lz,lF,hb]
 | .two o s t,hg,hl,it,hi,st,k,M,W,x,y,z,r,hst,h=>by
  have hfl:(Sm.two o s t).flat.length=s.flat.length+t.flat.length+1:=by simp[Sm.flat]
  have hs0:0<s.flat.length:=by obtain⟨_,_,e⟩:=Ig s;rw[e];simp
  have ht0:0<t.flat.length:=by obtain⟨_,_,e⟩:=Ig t;rw[e];simp
  let u:=s.val (λx=>intOf nk (.inr x)) λi=>intOf ck (.inl i)
  let v:=t.val (λx=>intOf nk (.inr x)) λi=>intOf ck (.inl i)
  obtain⟨M1,x1,y1,z1,e1',h1⟩:=Oo hN hC hz t hg.2 (by omega) it hi st k M W x y z (s.flat.reverse++(.str (jr o)::r)) (by omega) h;obtain⟨M2,x2,y2,z2,e2',h2⟩:=Oo hN hC hz s hg.1 (by omega) it hi (st++[.int v]) (k+(t.cost:Int)) M1 W x1 y1 z1 (.str (jr o)::r) (by simp;omega) h1;have hlk:locked it M2=true:=by unfold locked;rw[hi]
  have hsz:st.length<SZ:=iy (by omega) (show 1000<SZ by decide);have h3:=h2.mz (st++[.int v]);have h4:=h3.mz st;have h5:=h4.Jq (k+(t.cost:Int)+(s.cost:Int)+1);obtain⟨G,hd⟩:=ZxO (env:=[W,Ya (.ref a),Ya (.ref c),Ya (.ref q),Ya (.ref d),Ya (.str (jr o)),Ya (.int u),Ya (.int v)]) o u v (λ_=>rfl) (λ_=>rfl) (λ_=>rfl) (((M2.set d (.lst (st++[.int v]))).set d (.lst st)).set q (.lst [.int (k+(t.cost:Int)+(s.cost:Int)+1)]));have h6:=(h5.app G);have h7:=h6.mz (st++[.int (opV o u v)]);have ec:k+(t.cost:Int)+(s.cost:Int)+1=k+((Sm.two o s t).cost:Int):=by simp[Sm.cost];omega
  have hne:jr o≠jH:=by
   match o with
   |0=>decide|1=>decide|o+2=>show[109,111,114,101]≠_;decide
  have hin:Bl (.str (jr o)) (.tup [.str [97,100,100],.str [115,117,98],.str [109,111,114,101]]) M2= .ok (.bl true) M2:=by
   match o with
   |0=>rfl|1=>rfl|o+2=>rfl
  refine⟨_,Ya (.str (jr o)),Ya (.int u),Ya (.int v),?_,by rw[←ec];exact h7⟩;have hb:wK [W,Ya (.ref a),Ya (.ref c),Ya (.ref q),Ya (.ref d),Ya (.str (jr o)),y2,z2] M2= .nx [W,Ya (.ref a),Ya (.ref c),Ya (.ref q),Ya (.ref d),Ya (.str (jr o)),Ya (.int u),Ya (.int v)] ((((((M2.set d (.lst (st++[.int v]))).set d (.lst st)).set q (.lst [.int (k+(t.cost:Int)+(s.cost:Int)+1)]))++G)).set d (.lst (st++[.int (opV o u v)]))):=(bM (dW rfl (show jd .int (.str (jr o)) M2= .ok (.bl false) M2 from rfl))).trans ((bM (Zg rfl rfl (rP hne))).trans ((cV (Zg rfl (gV rfl rfl) hin)).trans ((Zi (bY (Xa h2 rfl))).trans ((Zi (bY (Xa h3 rfl))).trans ((Zi (Om h4 1 λ_=>rfl)).trans (mZ rfl h5.sk hd h6.sk hsz))))));have ew:(Sm.two o s t).flat.reverse++r=t.flat.reverse++(s.flat.reverse++(.str (jr o)::r)):=by simp[Sm.flat]
  rw[ew,e1',e2',mU,if_pos hlk];simp only[bF,lz,lF,hb]
theorem ZlE{q:Nat}(hN:m8 nk)(hC:m8 ck)(t:Sm)(hg:t.good)(hl:t.flat.length<900)(M:Store)(k:Int)(ha:M[a]?=Ya (.dct nk))(hc:M[c]?=Ya (.dct ck))(hq:M[q]?=Ya (.lst [.int k])):
  ∃M',iU [.tup t.flat,.ref a,.ref c,.ref q] M= .ok (.int (t.val (λx=>intOf nk (.inr x)) λi=>intOf ck (.inl i))) M'/\M.length<=M'.length/\M'[q]?=Ya (.lst [.int (k+(t.cost:Int))])/\∀i,i<M.length->i≠q->M'[i]?=M[i]?:=by
 have hq1:q<M.length:=(Ye.mp hq).1;have h0:WI M a c q M.length nk ck [] k (M++[.lst []]):=⟨dU M _ [],cW hq _,cW ha _,cW hc _,Yl _,by simp,by omega,λi hi _=>Yw hi⟩;obtain⟨M1,x1,y1,z1,e1,h1⟩:=Oo hN hC (st:=[]) (by simp) t hg hl ⟨t.flat.reverse,Yk⟩ rfl [] k (M++[.lst []]) (Ya (.tup t.flat)) Yk Yk Yk [] (by simp;omega) h0;rw[tY,if_pos (show locked ⟨t.flat.reverse,Yk⟩ M1=true from rfl),qG]at e1;obtain⟨M2,e2,l2,o2⟩:=Eb M M1 (.int (t.val (λx=>intOf nk (.inr x)) λi=>intOf ck (.inl i))) h1.len;refine⟨M2,(jC (env:=[Ya (.tup t.flat),Ya (.ref a),Ya (.ref c),Ya (.ref q),Yk,Yk,Yk,Yk]) ?_).trans e2,l2,(o2 q hq1).trans h1.ct,λi hi hiq=>(o2 i hi).trans (h1.old i hi hiq)⟩;unfold Wb;refine(Zi (bY (iD rfl rfl))).trans ((Zi ((Lz (it:=⟨t.flat.reverse,Yk⟩) (M':=M++[.lst []]) rfl).trans e1)).trans (je (Zg rfl rfl (gG h1.sk rfl))))
end
structure GR(a c b q:Nat)(x:W7)(M:Store):Prop where
 nm:M[a]?=Ya (.dct x.n)
 cl:M[c]?=Ya (.dct x.c)
 nb:M[b]?=Ya (.lst x.o)
 ct:M[q]?=Ya (.lst [.int x.s])
 ac:a≠c
 bq:b≠q
section
variable {a c b q:Nat} {x:W7} {M:Store}
theorem GR.ab(h:GR a c b q x M):a≠b:=λe=>by have:=h.nb;rw[←e,h.nm]at this;cases this
theorem GR.cb(h:GR a c b q x M):c≠b:=λe=>by have:=h.nb;rw[←e,h.cl]at this;cases this
theorem GR.aq(h:GR a c b q x M):a≠q:=λe=>by have:=h.ct;rw[←e,h.nm]at this;cases this
theorem GR.cq(h:GR a c b q x M):c≠q:=λe=>by have:=h.ct;rw[←e,h.cl]at this;cases this
theorem GR.gU(h:GR a c b q x M):a<M.length/\c<M.length/\b<M.length/\q<M.length:=⟨(Ye.mp h.nm).1,(Ye.mp h.cl).1,(Ye.mp h.nb).1,(Ye.mp h.ct).1⟩
theorem GR.wU(h:GR a c b q x M)(k:Int):GR a c b q (x.sp k) (M.set q (.lst [.int (x.s+k)])):=⟨by rw[Yf (bK h.aq)];exact h.nm,by rw[Yf (bK h.cq)];exact h.cl,by rw[Yf (bK h.bq)];exact h.nb,Yx h.gU.2.2.2,h.ac,h.bq⟩
theorem GR.PJ(h:GR a c b q x M)(nk:List (a_×D)):GR a c b q ⟨nk,x.c,x.o,x.s⟩ (M.set a (.dct nk)):=⟨Yx h.gU.1,by rw[Yf h.ac];exact h.cl,by rw[Yf h.ab];exact h.nb,by rw[Yf h.aq];exact h.ct,h.ac,h.bq⟩
theorem GR.PK(h:GR a c b q x M)(ck:List (a_×D)):GR a c b q ⟨x.n,ck,x.o,x.s⟩ (M.set c (.dct ck)):=⟨by rw[Yf (bK h.ac)];exact h.nm,Yx h.gU.2.1,by rw[Yf h.cb];exact h.nb,by rw[Yf h.cq];exact h.ct,h.ac,h.bq⟩
theorem GR.PL(h:GR a c b q x M)(o:List D):GR a c b q ⟨x.n,x.c,o,x.s⟩ (M.set b (.lst o)):=⟨by rw[Yf (bK h.ab)];exact h.nm,by rw[Yf (bK h.cb)];exact h.cl,Yx h.gU.2.2.1,by rw[Yf h.bq];exact h.ct,h.ac,h.bq⟩
theorem GR.tidy{M2 M0:Store}{x0:W7}(h:GR a c b q x M)(h0:GR a c b q x0 M0)(o:∀i,i<M0.length->M2[i]?=M[i]?):GR a c b q x M2:=⟨(o a h0.gU.1).trans h.nm,(o c h0.gU.2.1).trans h.cl,(o b h0.gU.2.2.1).trans h.nb,(o q h0.gU.2.2.2).trans h.ct,h.ac,h.bq⟩
theorem wL(w a c b:Nat)(M:Store)(o:MO):eE w a c b M (M.set w o):=⟨by simp,λi _ p=>Yf (bK p.1)⟩
theorem Eg{t:Sm}(ht:t.ok)(hx:F7 x)(h:GR a c b q x M){e0 e1 e2 e3:E3}(h0:e0 env M= .ok (.tup t.flat) M)(h1:e1 env M= .ok (.ref a) M)(h2:e2 env M= .ok (.ref c) M)(h3:e3 env M= .ok (.ref q) M):
  ∃M',Zw iU (Za e0 (Za e1 (Za e2 (Za e3 Ze)))) env M= .ok (.int (x.v t)) M'/\GR a c b q (x.sp (t.cost:Int)) M'/\eE q a c b M M':=by
 obtain⟨M',e,l,k,o⟩:=ZlE hx.n hx.c t ht.1 (by have:=ht.2;omega) M x.s h.nm h.cl h.ct;refine⟨M',LC h0 h1 h2 h3 e,⟨(o a h.gU.1 h.aq).trans h.nm,(o c h.gU.2.1 h.cq).trans h.cl,(o b h.gU.2.2.1 h.bq).trans h.nb,k,h.ac,h.bq⟩,l,λi hi p=>o i hi p.1⟩
theorem wM(h:GR a c b q x M)(n:Int)(h4:∀M,Zb 4 env M= .ok (.ref q) M):fK (Zb 4) (eC (.int 0)) (e2 aK (e2 Zk (Zb 4) (eC (.int 0))) (eC (.int n))) env M= .nx env (M.set q (.lst [.int (x.s+n)])):=by refine gF (d:=.non) (NT (Zg (Zg (h4 M) rfl (gG h.ct rfl)) rfl rfl) (h4 M) rfl ?_);rw[T6,h.ct];rfl
end
def RG(d:Ds)(x y:W7):Prop:=(x.s<=150->(y.s<=150/\fM 150 d x= .done y)\/(150<y.s/\fM 150 d x= .over))/\(150<x.s->150<y.s)
theorem RG.step{d r:Ds}{x x1 y:W7}(h:fM 150 d x=aZ 150 x1 (fM 150 r x1))(hx:x.s<=150)(k:RG r x1 y):RG d x y:=by
 refine⟨λ_=>?_,λz=>by omega⟩;rw[h];by_cases q:x1.s<=150
 .rw[dM q];exact k.1 q
 .rw[gZ (by omega)];exact .inr ⟨k.2 (by omega),rfl⟩
theorem RG.AcW{t:Sm}{A B r:Ds}{x y z:W7}(h0:0<=x.s)(hx:x.s<=150)(q:0<x.v t)(k1:RG A (x.sp ((t.cost:Int)+1)) y)(k2:RG r y z):RG (.bT t A B r) x z:=by
 refine⟨λ_=>?_,λz=>by omega⟩;rw[Znq (by decide) h0,if_pos q];by_cases q1:(x.sp ((t.cost:Int)+1)).s<=150
 .rw[dM q1];rcases k1.1 q1 with⟨e1,e2⟩|⟨e1,e2⟩
  .rw[e2];exact k2.1 e1
  .rw[e2];exact .inr ⟨k2.2 e1,rfl⟩
 .rw[gZ (by omega)];exact .inr ⟨k2.2 (k1.2 (by omega)),rfl⟩
theorem RG.AcX{t:Sm}{A B r:Ds}{x y z:W7}(h0:0<=x.s)(hx:x.s<=150)(q:¬0<x.v t)(k1:RG B (x.sp ((t.cost:Int)+2)) y)(k2:RG r y z):RG (.bT t A B r) x z:=by
 refine⟨λ_=>?_,λz=>by omega⟩;rw[Znq (by decide) h0,if_neg q];have es:x.sp ((t.cost:Int)+2)=(x.sp ((t.cost:Int)+1)).sp 1:=congrArg (λz=>W7.mk x.n x.c x.o z) (by show x.s+((t.cost:Int)+2)=x.s+((t.cost:Int)+1)+1;omega);rw[es]at k1;have hs1:((x.sp ((t.cost:Int)+1)).sp 1).s=(x.sp ((t.cost:Int)+1)).s+1:=rfl;have h1:0<=(x.sp ((t.cost:Int)+1)).s:=by show 0<=x.s+((t.cost:Int)+1);omega
 by_cases q1:(x.sp ((t.cost:Int)+1)).s<=150
 .rw [dM q1];cases hg:fM 150 B (x.sp ((t.cost:Int)+1))with
  |out=>exact absurd hg (W6 1002 B _ (by omega) (by decide))|over=>
   refine .inr ⟨k2.2 ?_,rfl⟩;by_cases q2:(x.sp ((t.cost:Int)+1)).s+1<=150
   .rcases k1.1 (by omega)with⟨e1,e2⟩|⟨e1,_⟩
    .have hsh:=W_ (m:=149) (k:=1) 1002 B (x.sp ((t.cost:Int)+1));have e2':aM (149+1) 1002 B ((x.sp ((t.cost:Int)+1)).sp 1)= .done y:=e2;rw[e2']at hsh;cases h9:aM 149 1002 B (x.sp ((t.cost:Int)+1))with
     |out=>rw[h9]at hsh;cases hsh|over=>rw[h9]at hsh;cases hsh|done u=>
      have bd:=Ed 1002 B _ _ h9;have hu:=(Ed 1002 B _ _ h9);have hk:u.s<=150:=by rw[h9]at hsh;have:G7.done y= .done (u.sp 1):=hsh;cases this;have:(u.sp 1).s=u.s+1:=rfl;omega
      have:=bd.ok 150 hk;exact absurd (this.symm.trans hg) (by intro z;cases z)
    .exact e1
   .exact k1.2 (by omega)
  | done u=>
   show(z.s<=150/\aZ 150 (u.sp 1) (fM 150 r (u.sp 1))= .done z)\/(150<z.s/\aZ 150 (u.sp 1) (fM 150 r (u.sp 1))= .over);have bd:=Ed 1002 B _ _ hg;have hu1:(u.sp 1).s=u.s+1:=rfl;by_cases q2:u.s+1<=150
   .have h9:=bd.ok 149 (by omega);have hsh:=W_ (m:=149) (k:=1) 1002 B (x.sp ((t.cost:Int)+1));rw[h9]at hsh;have hsh:fM 150 B ((x.sp ((t.cost:Int)+1)).sp 1)= .done (u.sp 1):=hsh;rcases k1.1 (by have:=bd.le;omega)with⟨e1,e2⟩|⟨_,e2⟩
    .rw[hsh]at e2;cases e2;rw[dM (by omega)];exact k2.1 e1
    .rw[hsh]at e2;cases e2
   .rw[gZ (by omega)];refine .inr ⟨k2.2 ?_,rfl⟩;by_cases q3:(x.sp ((t.cost:Int)+1)).s+1<=150
    .have h9:=bd.ov 149 (by omega) (by omega);have hsh:=W_ (m:=149) (k:=1) 1002 B (x.sp ((t.cost:Int)+1));rw[h9]at hsh;have hsh:fM 150 B ((x.sp ((t.cost:Int)+1)).sp 1)= .over:=hsh;rcases k1.1 (by omega)with⟨_,e2⟩|⟨e1,_⟩
     .rw[hsh]at e2;cases e2
     .exact e1
    .exact k1.2 (by omega)
 .rw[gZ (by omega)];exact .inr ⟨k2.2 (k1.2 (by omega)),rfl⟩
noncomputable abbrev lZ(rec:F3):S3:=Zu (aQ (e2 dD (e2 Zk (Zb 4) (eC (.int 0))) (eC (.int 150))) (cU (BW .non)) (gR)) (aQ (e2 bI (e2 Zk (Zb 5) (eC (.int 0))) (eC (.str [115,101,116]))) (Zu (yr (Zb 1) (e2 Zk (Zb 5) (eC (.int 1))) (Zw iU (Za (e2 Zk (Zb 5) (eC (.int 2))) (Za (Zb 1) (Za (Zb 2) (Za (Zb 4) (Ze))))))) (fK (Zb 4) (eC (.int 0)) (e2 aK (e2 Zk (Zb 4) (eC (.int 0))) (eC (.int 2))))) (aQ (e2 bI (e2 Zk (Zb 5) (eC (.int 0))) (eC (.str [112,117,116]))) (Zu (aJ 6 (Zw iU (Za (e2 Zk (Zb 5) (eC (.int 1))) (Za (Zb 1) (Za (Zb 2) (Za (Zb 4) (Ze))))))) (Zu (yr (Zb 2) (Zb 6) (Zw iU (Za (e2 Zk (Zb 5) (eC (.int 2))) (Za (Zb 1) (Za (Zb 2) (Za (Zb 4) (Ze))))))) (fK (Zb 4) (eC (.int 0)) (e2 aK (e2 Zk (Zb 4) (eC (.int 0))) (eC (.int 2)))))) (aQ (e2 bI (e2 Zk (Zb 5) (eC (.int 0))) (eC (.str [116,101,108,108]))) (Zu (Zr (aN aY bL (Zb 3) (Za (Zw iU (Za (e2 Zk (Zb 5) (eC (.int 1))) (Za (Zb 1) (Za (Zb 2) (Za (Zb 4) (Ze)))))) (Ze)))) (fK (Zb 4) (eC (.int 0)) (e2 aK (e2 Zk (Zb 4) (eC (.int 0))) (eC (.int 1))))) (aQ (ji (e2 bI (e2 Zk (Zb 5) (eC (.int 0))) (eC (.str [119,104,101,110]))) (e2 dD (Zw iU (Za (e2 Zk (Zb 5) (eC (.int 1))) (Za (aO q9 (Za (Zb 1) (Ze))) (Za (aO q9 (Za (Zb 2) (Ze))) (Za (bV (Za (eC (.int 0)) (Ze))) (Ze)))))) (eC (.int 0)))) (Zu (Zr (Zw iU (Za (e2 Zk (Zb 5) (eC (.int 1))) (Za (Zb 1) (Za (Zb 2) (Za (Zb 4) (Ze))))))) (Zu (fK (Zb 4) (eC (.int 0)) (e2 aK (e2 Zk (Zb 4) (eC (.int 0))) (eC (.int 1)))) (Zr (Zw rec (Za (e2 Zk (Zb 5) (eC (.int 2))) (Za (Zb 1) (Za (Zb 2) (Za (Zb 3) (Za (Zb 4) (Ze)))))))))) (aQ (e2 bI (e2 Zk (Zb 5) (eC (.int 0))) (eC (.str [119,104,101,110]))) (Zu (Zr (Zw iU (Za (e2 Zk (Zb 5) (eC (.int 1))) (Za (Zb 1) (Za (Zb 2) (Za (Zb 4) (Ze))))))) (Zu (fK (Zb 4) (eC (.int 0)) (e2 aK (e2 Zk (Zb 4) (eC (.int 0))) (eC (.int 2)))) (Zr (Zw rec (Za (e2 Zk (Zb 5) (eC (.int 3))) (Za (Zb 1) (Za (Zb 2) (Za (Zb 3) (Za (Zb 4) (Ze)))))))))) (Zu (yt (ji (e2 Gp (e2 Zk (Zb 4) (eC (.int 0))) (eC (.int 150))) (e2 dD (Zw iU (Za (e2 Zk (Zb 5) (eC (.int 1))) (Za (Zb 1) (Za (Zb 2) (Za (Zb 4) (Ze)))))) (eC (.int 0)))) (Zu (fK (Zb 4) (eC (.int 0)) (e2 aK (e2 Zk (Zb 4) (eC (.int 0))) (eC (.int 1)))) (Zu (Zr (Zw rec (Za (e2 Zk (Zb 5) (eC (.int 2))) (Za (Zb 1) (Za (Zb 2) (Za (Zb 3) (Za (Zb 4) (Ze)))))))) (fK (Zb 4) (eC (.int 0)) (e2 aK (e2 Zk (Zb 4) (eC (.int 0))) (eC (.int 1))))))) (fK (Zb 4) (eC (.int 0)) (e2 aK (e2 Zk (Zb 4) (eC (.int 0))) (eC (.int 2))))))))))
noncomputable abbrev gE(T:Option D)(a c b q:Nat)(e5 e6:Option D):Zt:=[T,Ya (.ref a),Ya (.ref c),Ya (.ref b),Ya (.ref q),e5,e6]
section
variable {a c b q:Nat} {x:W7} {M:Store} {T e6:Option D}
theorem Eh(h:GR a c b q x M)(hx:x.s<=150)(e5 e6:Option D):aQ (e2 dD (e2 Zk (Zb 4) (eC (.int 0))) (eC (.int 150))) (cU (BW .non)) gR (gE T a c b q e5 e6) M= .nx (gE T a c b q e5 e6) M:=t7 (Zg (Zg rfl rfl (gG h.ct rfl)) rfl (by rw[jo,decide_eq_false (by omega)]))
theorem Ei{r:List D}:e2 bI (e2 Zk (Zb 5) (eC (.int 0))) (eC (.str y)) (gE T a c b q (Ya (.tup (.str y::r))) e6) M= .ok (.bl true) M:=Zg (Zg rfl rfl (oZ ((jD (D.str y::r) 0).trans rfl))) rfl (zb rfl)
theorem m_{z:List Nat}{r:List D}(h:y≠z):e2 bI (e2 Zk (Zb 5) (eC (.int 0))) (eC (.str z)) (gE T a c b q (Ya (.tup (.str y::r))) e6) M= .ok (.bl false) M:=Zg (Zg rfl rfl (oZ ((jD (D.str y::r) 0).trans rfl))) rfl (rP h)
theorem ZnU{i:E3}{M1:Store}{kd:D}{k:a_}(hf:f env M= .ok d M1)(ho:o env M1= .ok (.ref n) M1)(hi:i env M1= .ok kd M1)(hk:fJ kd=Ya k)(hn:M1[n]?=Ya (.dct kvs))(hl:kvs.length<2000):yr o i f env M= .nx env (M1.set n (.dct (putD k d kvs))):=by
 have Qg:Bs d (.ref n) kd M1= .ok .non (M1.set n (.dct (putD k d kvs))):=by rw[Lr,hn,hk];exact if_pos (iy hl (by decide))
 exact gF (NT hf ho hi Qg)
theorem ZxC(rec:F3){t:Sm}(ht:t.ok)(hx:F7 x)(h:GR a c b q x M)(hs:x.s<=150):∃M',lZ rec (gE T a c b q (Ya (uv y t)) e6) M= .nx (gE T a c b q (Ya (uv y t)) e6) M'/\GR a c b q (x.set y t) M'/\eE q a c b M M':=by obtain⟨M1,e1,w1,g1⟩:=Eg ht hx h (e0:=e2 Zk (Zb 5) (eC (.int 2))) (e1:=Zb 1) (e2:=Zb 2) (e3:=Zb 4) (env:=gE T a c b q (Ya (uv y t)) e6) rfl rfl rfl rfl;have hl:=hx.nl;have w2:=w1.PJ (putD (.inr y) (.int (x.v t)) x.n);refine⟨_,?_,w2.wU 2,(g1.trans (Ztk q a c b M1 _)).trans (wL q a c b _ _)⟩;exact(Zi (Eh h hs _ _)).trans ((cV Ei).trans ((Zi (ZnU (k:=.inr y) e1 rfl rfl rfl w1.nm (by show x.n.length<2000;omega))).trans (wM w2 2 λ_=>rfl)))
theorem Zw8(rec:F3){t u:Sm}(ht:t.ok)(hu:u.ok)(hx:F7 x)(h:GR a c b q x M)(hs:x.s<=150):∃M' f6,lZ rec (gE T a c b q (Ya (rT t u)) e6) M= .nx (gE T a c b q (Ya (rT t u)) f6) M'/\GR a c b q (x.put t u) M'/\eE q a c b M M':=by obtain⟨M1,e1,w1,g1⟩:=Eg ht hx h (e0:=e2 Zk (Zb 5) (eC (.int 1))) (e1:=Zb 1) (e2:=Zb 2) (e3:=Zb 4) (env:=gE T a c b q (Ya (rT t u)) e6) rfl rfl rfl rfl;obtain⟨M2,e2',w2,g2⟩:=Eg hu (hx.sp (k:=(t.cost:Int)) (by omega)) w1 (e0:=e2 Zk (Zb 5) (eC (.int 2))) (e1:=Zb 1) (e2:=Zb 2) (e3:=Zb 4) (env:=gE T a c b q (Ya (rT t u)) (Ya (.int (x.v t)))) rfl rfl rfl rfl;have hl:=hx.cl;have w3:=w2.PK (putD (.inl (x.v t)) (.int (x.v u)) x.c);refine⟨_,Ya (.int (x.v t)),?_,w3.wU 2,((g1.trans g2).trans (ZtP q a c b M2 _)).trans (wL q a c b _ _)⟩;exact(Zi (Eh h hs _ _)).trans ((bM (m_ (by decide))).trans ((cV Ei).trans ((Zi (bY e1)).trans ((Zi (ZnU (k:=.inl (x.v t)) e2' rfl rfl rfl w2.cl (by show x.c.length<2000;omega))).trans (wM w3 2 λ_=>rfl)))))
theorem ZuB(rec:F3){t:Sm}(ht:t.ok)(hx:F7 x)(h:GR a c b q x M)(hs:x.s<=150):∃M',lZ rec (gE T a c b q (Ya (wk t)) e6) M= .nx (gE T a c b q (Ya (wk t)) e6) M'/\GR a c b q (x.tell t) M'/\eE q a c b M M':=by obtain⟨M1,e1,w1,g1⟩:=Eg ht hx h (e0:=e2 Zk (Zb 5) (eC (.int 1))) (e1:=Zb 1) (e2:=Zb 2) (e3:=Zb 4) (env:=gE T a c b q (Ya (wk t)) e6) rfl rfl rfl rfl;have hl:=hx.ol;have w2:=w1.PL (x.o++[.int (x.v t)]);refine⟨_,?_,w2.wU 1,(g1.trans (ZtQ q a c b M1 _)).trans (wL q a c b _ _)⟩;exact(Zi (Eh h hs _ _)).trans ((bM (m_ (by decide))).trans ((bM (m_ (by decide))).trans ((cV Ei).trans ((Zi (mZ rfl h.nb e1 w1.nb (iy (show x.o.length<2000 by omega) (by decide)))).trans (wM w2 1 λ_=>rfl)))))
theorem Zua{t:Sm}{r:List D}(ht:t.ok)(hx:F7 x)(h:GR a c b q x M)(hs:x.s<=150):∃M',e2 dD (Zw iU (Za (e2 Zk (Zb 5) (eC (.int 1))) (Za (aO q9 (Za (Zb 1) (Ze))) (Za (aO q9 (Za (Zb 2) (Ze))) (Za (bV (Za (eC (.int 0)) (Ze))) (Ze)))))) (eC (.int 0)) (gE T a c b q (Ya (.tup (.str Ik:: .tup t.flat::r))) e6) M= .ok (.bl (decide (0<x.v t))) M'/\GR a c b q x M'/\eE q a c b M M':=by
 let M3:=M++[MO.dct x.n,.dct x.c,.lst [.int 0]]
 have b1:∀{env:Zt} {S:Store} {e:E3} {n:Nat} {kvs:List (a_×D)},e env S= .ok (.ref n) S->S[n]?=Ya (.dct kvs)->aO q9 (Za e (Ze)) env S= .ok (.ref S.length) (S++[.dct kvs]):=λhe hn=>iK he (by rw[Ls,hn];rfl);have h3:GR a c b q x M3:=⟨cW h.nm _,cW h.cl _,cW h.nb _,cW h.ct _,h.ac,h.bq⟩;obtain⟨M',e,l,k,o⟩:=ZlE (a:=M.length) (c:=M.length+1) (q:=M.length+2) hx.n hx.c t ht.1 (by have:=ht.2;omega) M3 0 (p6 M _ 0) (p6 M [MO.dct x.n,.dct x.c,.lst [.int 0]] 1) (p6 M [MO.dct x.n,.dct x.c,.lst [.int 0]] 2);have hl3:M3.length=M.length+3:=by simp[M3]
 have ho:∀i,i<M.length->M'[i]?=M[i]?:=λi hi=>(o i (by omega) (by omega)).trans (Yw hi);refine⟨M',Zg (LC (M1:=M) (M2:=M++[.dct x.n]) (M3:=M++[.dct x.n,.dct x.c]) (M4:=M3) (b:=.ref M.length) (c:=.ref (M.length+1)) (d:=.ref (M.length+2)) (Zg rfl rfl (oZ ((jD (.str Ik:: .tup t.flat::r) 1).trans rfl))) (b1 rfl h.nm) ?_ ?_ e) rfl (by rw[jo];rfl),⟨(ho a h.gU.1).trans h.nm,(ho c h.gU.2.1).trans h.cl,(ho b h.gU.2.2.1).trans h.nb,(ho q h.gU.2.2.2).trans h.ct,h.ac,h.bq⟩,⟨by omega,λi hi _=>ho i hi⟩⟩
 .refine(b1 (n:=c) rfl (cW h.cl _)).trans ?_;rw[mG,Yv];rfl
 .refine(iD rfl rfl).trans ?_;rw[mG,Yv];rfl
end
theorem RG.AcY{t:Sm}{A r:Ds}{x y z:W7}(h0:0<=x.s)(hx:x.s<=150)(q:0<x.v t)(k1:RG A (x.sp ((t.cost:Int)+1)) y)(k2:RG (.whl t A r) (y.sp 1) z):RG (.whl t A r) x z:=by
 refine⟨λ_=>?_,λz=>by omega⟩;rw[ZnH (by decide) h0,if_pos q];have hy1:(y.sp 1).s=y.s+1:=rfl;by_cases q1:(x.sp ((t.cost:Int)+1)).s<=150
 .rw[dM q1];rcases k1.1 q1 with⟨e1,e2⟩|⟨e1,e2⟩
  .rw[e2];show(z.s<=150/\aZ 150 (y.sp 1) (fM 150 (.whl t A r) (y.sp 1))= .done z)\/(150<z.s/\aZ 150 (y.sp 1) (fM 150 (.whl t A r) (y.sp 1))= .over);by_cases q2:(y.sp 1).s<=150
   .rw[dM q2];exact k2.1 q2
   .rw[gZ (by omega)];exact .inr ⟨k2.2 (by omega),rfl⟩
  .rw[e2];exact .inr ⟨k2.2 (by omega),rfl⟩
 .rw[gZ (by omega)];exact .inr ⟨k2.2 (by have:=k1.2 (by omega);omega),rfl⟩
theorem RG.AcZ{t:Sm}{A r:Ds}{x z:W7}(h0:0<=x.s)(hx:x.s<=150)(q:¬0<x.v t)(k:RG r (x.sp ((t.cost:Int)+1+1)) z):RG (.whl t A r) x z:=by
 refine⟨λ_=>?_,λz=>by omega⟩;rw[ZnH (by decide) h0,if_neg q];have e1:(x.sp ((t.cost:Int)+1)).s=x.s+((t.cost:Int)+1):=rfl;have e2:(x.sp ((t.cost:Int)+1+1)).s=x.s+((t.cost:Int)+1+1):=rfl;by_cases q2:(x.sp ((t.cost:Int)+1+1)).s<=150
 .rw[dM (show(x.sp ((t.cost:Int)+1)).s<=150 by omega),dM q2];exact k.1 q2
 .refine .inr ⟨k.2 (by omega),?_⟩;by_cases q1:(x.sp ((t.cost:Int)+1)).s<=150
  .rw[dM q1,gZ (by omega)]
  .rw[gZ (by omega)]
variable{rec:F3}
section
variable {a c b q:Nat}
def Ej(a c b q:Nat)(F:F3)(A:Ds):Prop:=∀(x:W7) (M:Store),F7 x->0<=x.s->GR a c b q x M->∃y M',F [.tup A.enc,.ref a,.ref c,.ref b,.ref q] M= .ok .non M'/\GR a c b q y M'/\eE q a c b M M'/\F7 y/\x.s<=y.s/\RG A x y
variable {x:W7} {M:Store} {T e6:Option D}
theorem ZxL{t:Sm}{A B:Ds}(ht:t.ok)(hA:Ej a c b q rec A)(hB:Ej a c b q rec B)(hx:F7 x)(h0:0<=x.s)(h:GR a c b q x M)(hs:x.s<=150):
  ∃y M',lZ rec (gE T a c b q (Ya (k_ t A.enc B.enc)) e6) M= .nx (gE T a c b q (Ya (k_ t A.enc B.enc)) e6) M'/\GR a c b q y M'/\eE q a c b M M'/\F7 y/\x.s<=y.s/\∀r z,RG r y z->RG (.bT t A B r) x z:=by
 obtain⟨M1,e1,w1,g1⟩:=Zua (T:=T) (e6:=e6) (r:=[.tup A.enc,.tup B.enc]) ht hx h hs;obtain⟨M2,e2',w2,g2⟩:=Eg ht hx w1 (e0:=e2 Zk (Zb 5) (eC (.int 1))) (e1:=Zb 1) (e2:=Zb 2) (e3:=Zb 4) (env:=gE T a c b q (Ya (k_ t A.enc B.enc)) e6) rfl rfl rfl rfl;have wq:∀k:Int,GR a c b q (x.sp ((t.cost:Int)+k)) (M2.set q (.lst [.int (x.s+(t.cost:Int)+k)])):=λk=>by have:=w2.wU k;rw[show(x.sp (t.cost:Int)).sp k=x.sp ((t.cost:Int)+k)from congrArg (λz=>W7.mk x.n x.c x.o z) (Aj x.s (t.cost:Int) k)]at this;exact this
 by_cases z:0<x.v t
 .rw[decide_eq_true z]at e1;obtain⟨y,M4,e4,w4,g4,f4,l4,r4⟩:=hA _ _ (hx.sp (k:=(t.cost:Int)+1) (by omega)) (by show 0<=x.s+((t.cost:Int)+1);omega) (wq 1);refine⟨y,M4,?_,w4,((g1.trans g2).trans (wL q a c b M2 _)).trans g4,f4,xU (by show x.s<=x.s+((t.cost:Int)+1);omega) l4,λr z' k=>RG.AcW h0 hs z r4 k⟩;exact(Zi (Eh h hs _ _)).trans ((bM (m_ (by decide))).trans ((bM (m_ (by decide))).trans ((bM (m_ (by decide))).trans ((cV ((t_ Ei).trans e1)).trans ((Zi (gF e2')).trans ((Zi (wM w2 1 λ_=>rfl)).trans (gF (Il rfl rfl rfl rfl rfl e4))))))))
 .rw[decide_eq_false z]at e1;obtain⟨y,M4,e4,w4,g4,f4,l4,r4⟩:=hB _ _ (hx.sp (k:=(t.cost:Int)+2) (by omega)) (by show 0<=x.s+((t.cost:Int)+2);omega) (wq 2);refine⟨y,M4,?_,w4,((g1.trans g2).trans (wL q a c b M2 _)).trans g4,f4,xU (by show x.s<=x.s+((t.cost:Int)+2);omega) l4,λr z' k=>RG.AcX h0 hs z r4 k⟩;exact(Zi (Eh h hs _ _)).trans ((bM (m_ (by decide))).trans ((bM (m_ (by decide))).trans ((bM (m_ (by decide))).trans ((bM ((t_ Ei).trans e1)).trans ((cV Ei).trans ((Zi (gF e2')).trans ((Zi (wM w2 2 λ_=>rfl)).trans (gF (Il rfl rfl rfl rfl rfl e4)))))))))
noncomputable abbrev Oq:E3:=ji (e2 Gp (e2 Zk (Zb 4) (eC (.int 0))) (eC (.int 150))) (e2 dD (Zw iU (Za (e2 Zk (Zb 5) (eC (.int 1))) (Za (Zb 1) (Za (Zb 2) (Za (Zb 4) (Ze)))))) (eC (.int 0)))
noncomputable abbrev gwB(rec:F3):S3:=Zu (fK (Zb 4) (eC (.int 0)) (e2 aK (e2 Zk (Zb 4) (eC (.int 0))) (eC (.int 1)))) (Zu (Zr (Zw rec (Za (e2 Zk (Zb 5) (eC (.int 2))) (Za (Zb 1) (Za (Zb 2) (Za (Zb 3) (Za (Zb 4) (Ze)))))))) (fK (Zb 4) (eC (.int 0)) (e2 aK (e2 Zk (Zb 4) (eC (.int 0))) (eC (.int 1)))))
theorem Zt2{t:Sm}{A:Ds}(ht:t.ok)(hA:Ej a c b q rec A):∀(k fuel:Nat) (x:W7) (M:Store),(151-x.s).toNat<=k->k<fuel->F7 x->0<=x.s->GR a c b q x M ->
  ∃y M',iz Oq (gwB rec) fuel (gE T a c b q (Ya (bQ t A.enc)) e6) M= .nx (gE T a c b q (Ya (bQ t A.enc)) e6) M'/\GR a c b q y M'/\eE q a c b M M'/\F7 y/\x.s<=y.s/\∀r z,RG r (y.sp 2) z->RG (.whl t A r) x z:=by
 intro k
 induction k with
 |zero=>
  intro fuel x M hk hf hx h0 h;obtain⟨K,rfl⟩:∃k,fuel=k+1:=⟨fuel-1,by omega⟩;have hs:150<x.s:=by omega
  refine⟨x,M,?_,h,.rfl,hx,xV _,λr z k=>⟨λz=>by omega,λ_=>k.2 (by show 150<x.s+2;omega)⟩⟩;have e1:Oq (gE T a c b q (Ya (bQ t A.enc)) e6) M= .ok (.bl false) M:=Bv (Zg (Zg rfl rfl (gG h.ct rfl)) rfl (by rw[TQ,decide_eq_false (by omega)]));rw[kj,e1]
 | succ k ih=>
  intro fuel x M hk hf hx h0 h;obtain⟨K,rfl⟩:∃k,fuel=k+1:=⟨fuel-1,by omega⟩;by_cases hs:x.s<=150
  .obtain⟨M2,e2',w2,g2⟩:=Eg ht hx h (e0:=e2 Zk (Zb 5) (eC (.int 1))) (e1:=Zb 1) (e2:=Zb 2) (e3:=Zb 4) (env:=gE T a c b q (Ya (bQ t A.enc)) e6) rfl rfl rfl rfl;have e1:Oq (gE T a c b q (Ya (bQ t A.enc)) e6) M= .ok (.bl (decide (0<x.v t))) M2:=(t_ (Zg (Zg rfl rfl (gG h.ct rfl)) rfl (by rw[TQ,decide_eq_true (by omega)]))).trans (Zg e2' rfl (by rw[jo]));by_cases z:0<x.v t
   .rw[decide_eq_true z]at e1;have wq:GR a c b q (x.sp ((t.cost:Int)+1)) (M2.set q (.lst [.int (x.s+(t.cost:Int)+1)])):=by
     have:=w2.wU 1;rw[show(x.sp (t.cost:Int)).sp 1=x.sp ((t.cost:Int)+1)from congrArg (λz=>W7.mk x.n x.c x.o z) (Aj x.s (t.cost:Int) 1)]at this;exact this
    obtain⟨y,M4,e4,w4,g4,f4,l4,r4⟩:=hA _ _ (hx.sp (k:=(t.cost:Int)+1) (by omega)) (by show 0<=x.s+((t.cost:Int)+1);omega) wq;have l4':x.s+((t.cost:Int)+1)<=y.s:=l4;have hb:gwB rec (gE T a c b q (Ya (bQ t A.enc)) e6) M2= .nx (gE T a c b q (Ya (bQ t A.enc)) e6) (M4.set q (.lst [.int (y.s+1)])):=(Zi (wM w2 1 λ_=>rfl)).trans ((Zi (gF (Il rfl rfl rfl rfl rfl e4))).trans (wM w4 1 λ_=>rfl));have hy1:(y.sp 1).s=y.s+1:=rfl;obtain⟨u,M5,e5,w5,g5,f5,l5,r5⟩:=ih K (y.sp 1) _ (by omega) (by omega) (f4.sp (by decide)) (by omega) (w4.wU 1);refine⟨u,M5,?_,w5,((g2.trans (wL q a c b M2 _)).trans (g4.trans (wL q a c b M4 _))).trans g5,f5,by omega,λr z' k=>RG.AcY h0 hs z r4 (r5 r z' k)⟩;rw[kj,e1];simp only[hb];exact e5
   .rw[decide_eq_false z]at e1;refine⟨x.sp (t.cost:Int),M2,by rw[kj,e1],w2,g2,hx.sp (by omega),by show x.s<=x.s+(t.cost:Int);omega,λr z' k=>RG.AcZ h0 hs z ?_⟩;rw[show(x.sp (t.cost:Int)).sp 2=x.sp ((t.cost:Int)+1+1)from congrArg (λz=>W7.mk x.n x.c x.o z) (by show x.s+(t.cost:Int)+2=x.s+((t.cost:Int)+1+1);omega)]at k;exact k
  .refine⟨x,M,?_,h,.rfl,hx,xV _,λr z k=>⟨λz=>by omega,λ_=>k.2 (by show 150<x.s+2;omega)⟩⟩;have e1:Oq (gE T a c b q (Ya (bQ t A.enc)) e6) M= .ok (.bl false) M:=Bv (Zg (Zg rfl rfl (gG h.ct rfl)) rfl (by rw[TQ,decide_eq_false (by omega)]));rw[kj,e1]
theorem ZwZ{t:Sm}{A:Ds}(ht:t.ok)(hA:Ej a c b q rec A)(hx:F7 x)(h0:0<=x.s)(h:GR a c b q x M)(hs:x.s<=150):
  ∃y M',lZ rec (gE T a c b q (Ya (bQ t A.enc)) e6) M= .nx (gE T a c b q (Ya (bQ t A.enc)) e6) M'/\GR a c b q y M'/\eE q a c b M M'/\F7 y/\x.s<=y.s/\∀r z,RG r y z->RG (.whl t A r) x z:=by
 obtain⟨y,M1,e1,w1,g1,f1,l1,r1⟩:=Zt2 (T:=T) (e6:=e6) ht hA 151 1000000 x M (by omega) (by omega) hx h0 h;refine⟨y.sp 2,_,?_,w1.wU 2,g1.trans (wL q a c b M1 _),f1.sp (by decide),by show x.s<=y.s+2;omega,r1⟩;exact(Zi (Eh h hs _ _)).trans ((bM (m_ (by decide))).trans ((bM (m_ (by decide))).trans ((bM (m_ (by decide))).trans ((bM (Bv (m_ (by decide)))).trans ((bM (m_ (by decide))).trans ((Zi e1).trans (wM w1 2 λ_=>rfl)))))))
def LG(a c b q:Nat)(T:Option D)(r:O3)(M:Store)(x:W7)(d:Ds):Prop:=∃y M',((∃f5 f6,r= .nx (gE T a c b q f5 f6) M')\/r= .rt .non M')/\GR a c b q y M'/\eE q a c b M M'/\F7 y/\x.s<=y.s/\RG d x y
theorem IW(hi:it.lock=Yk){dd:D}{e5 f6:Option D}{M1:Store}{y:W7}{r d:Ds}(hb:lZ rec (gE T a c b q (Ya dd) e6) M= .nx (gE T a c b q (Ya dd) f6) M1)(g:eE q a c b M M1)(hl:x.s<=y.s)(hr:∀z,RG r y z->RG d x z)(k:LG a c b q T (cG it (bF 5) (lZ rec) ds (gE T a c b q (Ya dd) f6) M1) M1 y r):
  LG a c b q T (cG it (bF 5) (lZ rec) (dd::ds) (gE T a c b q e5 e6) M) M x d:=by
 have hlk:locked it M=true:=by unfold locked;rw[hi]
 have e:cG it (bF 5) (lZ rec) (dd::ds) (gE T a c b q e5 e6) M=cG it (bF 5) (lZ rec) ds (gE T a c b q (Ya dd) f6) M1:=by rw[mU,if_pos hlk];simp only[bF,gE,lz,lF];simp only[gE]at hb;rw[hb]
 rw[e];obtain⟨z,M2,k1,k2,k3,k4,k5,k6⟩:=k;exact⟨z,M2,k1,k2,g.trans k3,k4,by omega,hr z k6⟩
theorem I_(hi:it.lock=Yk){dd:D}{e5:Option D}{d:Ds}(hx:F7 x)(h:GR a c b q x M)(hs:150<x.s):LG a c b q T (cG it (bF 5) (lZ rec) (dd::ds) (gE T a c b q e5 e6) M) M x d:=by
 have hlk:locked it M=true:=by unfold locked;rw[hi]
 refine⟨x,M,.inr ?_,h,.rfl,hx,xV _,⟨λz=>by omega,λ_=>hs⟩⟩;have hb:lZ rec (gE T a c b q (Ya dd) e6) M= .rt .non M:=vO ((cV (Zg (Zg rfl rfl (gG h.ct rfl)) rfl (by rw[jo,decide_eq_true (by omega)]))).trans (je rfl));rw[mU,if_pos hlk];simp only[bF,gE,lz,lF];simp only[gE]at hb;rw[hb]
theorem Ot{A:Ds}(h:∀(x:W7) (M:Store),F7 x->0<=x.s->GR a c b q x M->LG a c b q (Ya (.tup A.enc)) (cG ⟨A.enc,Yk⟩ (bF 5) (lZ (n_ j)) A.enc (gE (Ya (.tup A.enc)) a c b q Yk Yk) M) M x A):Ej a c b q (n_ (j+1)) A:=by
 intro x M hx h0 hr;obtain⟨y,M',k1,k2,k3,k4,k5,k6⟩:=h x M hx h0 hr;obtain⟨M2,e2,l2,o2⟩:=Eb M M' .non k3.len;refine⟨y,M2,?_,k2.tidy hr o2,⟨l2,λi hi p=>(o2 i hi).trans (k3.old i hi p)⟩,k4,k5,k6⟩;have hf:H_ (n_ j) (gE (Ya (.tup A.enc)) a c b q Yk Yk) M=cG ⟨A.enc,Yk⟩ (bF 5) (lZ (n_ j)) A.enc (gE (Ya (.tup A.enc)) a c b q Yk Yk) M:=Lz (it:=⟨A.enc,Yk⟩) rfl;rcases k1 with⟨f5,f6,k1⟩|k1
 .exact(t8 (ps:=5) (n:=7) (body:=H_ (n_ j)) (ds:=[.tup A.enc,.ref a,.ref c,.ref b,.ref q]) (hf.trans k1)).trans e2
 .exact(jC (ps:=5) (n:=7) (body:=H_ (n_ j)) (ds:=[.tup A.enc,.ref a,.ref c,.ref b,.ref q]) (hf.trans k1)).trans e2
theorem uz:∀(d:Ds) (j:Nat),d.ok->d.dep<=j->∀(it:gD) (T e5 e6:Option D),it.lock=Yk->∀(x:W7) (M:Store),F7 x->0<=x.s->GR a c b q x M->LG a c b q T (cG it (bF 5) (lZ (n_ j)) d.enc (gE T a c b q e5 e6) M) M x d
 | .nil,j,_,_,it,T,e5,e6,hi,x,M,hx,h0,h=>by refine⟨x,M,.inl ⟨e5,e6,?_⟩,h,.rfl,hx,xV _,⟨λz=>.inl ⟨z,rfl⟩,λz=>z⟩⟩;show cG it _ _ [] _ _=_;rw[tY,if_pos (by unfold locked;rw[hi])]|.set y t r,j,hd,hj,it,T,e5,e6,hi,x,M,hx,h0,h=>by
  by_cases hs:x.s<=150
  .obtain⟨M1,e1,w1,g1⟩:=ZxC (T:=T) (e6:=e6) (y:=y) (n_ j) hd.2.1 hx h hs;have hl:x.s<=(x.set y t).s:=by show x.s<=x.s+(t.cost:Int)+2;omega
   exact IW hi e1 g1 hl (λz k=>RG.step (ZsP (by decide) h0 y t r) hs k) (uz r j hd.2.2 hj it T _ _ hi _ M1 (hx.set y t) (by omega) w1)
  .exact I_ hi hx h (by omega)
 | .put t u r,j,hd,hj,it,T,e5,e6,hi,x,M,hx,h0,h=>by
  by_cases hs:x.s<=150
  .obtain⟨M1,f6,e1,w1,g1⟩:=Zw8 (T:=T) (e6:=e6) (n_ j) hd.1 hd.2.1 hx h hs;have hl:x.s<=(x.put t u).s:=by show x.s<=x.s+(t.cost:Int)+(u.cost:Int)+2;omega
   exact IW hi e1 g1 hl (λz k=>RG.step (ZsN (by decide) h0 t u r) hs k) (uz r j hd.2.2 hj it T _ _ hi _ M1 (hx.put t u) (by omega) w1)
  .exact I_ hi hx h (by omega)
 | .tell t r,j,hd,hj,it,T,e5,e6,hi,x,M,hx,h0,h=>by
  by_cases hs:x.s<=150
  .obtain⟨M1,e1,w1,g1⟩:=ZuB (T:=T) (e6:=e6) (n_ j) hd.1 hx h hs;have hl:x.s<=(x.tell t).s:=by show x.s<=x.s+(t.cost:Int)+1;omega
   exact IW hi e1 g1 hl (λz k=>RG.step (Zqj (by decide) h0 t r) hs k) (uz r j hd.2 hj it T _ _ hi _ M1 (hx.tell t) (by omega) w1)
  .exact I_ hi hx h (by omega)
 | .bT t A B r,j,hd,hj,it,T,e5,e6,hi,x,M,hx,h0,h=>by
  by_cases hs:x.s<=150
  .have hj:fP (fP A.dep B.dep+1) r.dep<=j:=hj;obtain⟨j,rfl⟩:∃k,j=k+1:=⟨j-1,by omega⟩;obtain⟨y,M1,e1,w1,g1,f1,l1,r1⟩:=ZxL (T:=T) (e6:=e6) hd.1 (Ot λx M hx h0 h=>uz A j hd.2.1 (by omega) ⟨A.enc,Yk⟩ _ Yk Yk rfl x M hx h0 h) (Ot λx M hx h0 h=>uz B j hd.2.2.1 (by omega) ⟨B.enc,Yk⟩ _ Yk Yk rfl x M hx h0 h) hx h0 h hs;exact IW hi e1 g1 l1 (λz k=>r1 r z k) (uz r (j+1) hd.2.2.2 (by omega) it T _ _ hi _ M1 f1 (by omega) w1)
  .exact I_ hi hx h (by omega)
 | .whl t A r,j,hd,hj,it,T,e5,e6,hi,x,M,hx,h0,h=>by
  by_cases hs:x.s<=150
  .have hj:fP (A.dep+1) r.dep<=j:=hj;obtain⟨j,rfl⟩:∃k,j=k+1:=⟨j-1,by omega⟩;obtain⟨y,M1,e1,w1,g1,f1,l1,r1⟩:=ZwZ (T:=T) (e6:=e6) hd.1 (Ot λx M hx h0 h=>uz A j hd.2.1 (by omega) ⟨A.enc,Yk⟩ _ Yk Yk rfl x M hx h0 h) hx h0 h hs;exact IW hi e1 g1 l1 (λz k=>r1 r z k) (uz r (j+1) hd.2.2 (by omega) it T _ _ hi _ M1 f1 (by omega) w1)
  .exact I_ hi hx h (by omega)
theorem Zs7{d:Ds}(hd:d.ok)(hdd:d.dep<=3):Ej a c b q Nx d:=Ot (j:=6) λx M hx h0 h=>uz d 6 hd (by omega) ⟨d.enc,Yk⟩ _ Yk Yk rfl x M hx h0 h
end
theorem Zl0{P G:D}(h:cO (λ_=>True) M (ur [P,G,.int m] M)):∃M',CK [P,G,.int m] M= .ok (.bl true) M'/\M.length<=M'.length/\∀i,i<M.length->M'[i]?=M[i]?:=by
 obtain⟨k,M1,e,hk,hl,ho⟩:=h;obtain⟨M2,e2',l2,o2⟩:=Eb M M1 (.bl true) hl;refine⟨M2,(jC (M':=M1) (env:=[Ya P,Ya G,Ya (.int m),Yk,Yk]) ?_).trans e2',l2,λi hi=>(o2 i hi).trans (ho i hi trivial)⟩;unfold Wc;have hb:Zr (Zw ur (bJ (Za (Zb 0) (Za (Zb 1) (Za (Zb 2) (Ze)))))) [Ya P,Ya G,Ya (.int m),Ya .non,Yk] M= .exc ⟨su,.ref k⟩ M1:=by refine Oh ?_;show(bJ _ _ M).bind _=_;rw[pB (d:=[P,G,.int m]) (M':=M) rfl,R3.sy];exact e
 refine(Zi (bY rfl)).trans ((Zi (env':=[Ya P,Ya G,Ya (.int m),Ya (.ref k),Yk]) (ZpF hb (show([[66,97,100,71,105,118,101,110],[83,112,101,110,116]]:List (List Nat)).contains su=true by decide) (bY rfl) rfl)).trans (je ?_));exact(t_ (dW rfl (Zn3 hk (by decide)))).trans (dW rfl (Zn3 hk (by decide)))
noncomputable abbrev nbB:S3:=aQ (oX (e1 vH (e1 (jd .int) (Zb 6))) (e1 (jd .bool) (Zb 6))) (cU (eC (.bl false))) (gR)
theorem Zn7{it:gD}{e0 e1' e2' e3' e4 e5:Option D}{M:Store}(hlk:locked it M=true):∀(ds:List D),(∀d∈ds,∃z,d= .int z)->∀x,∃x',cG it (bF 6) nbB ds [e0,e1',e2',e3',e4,e5,x] M= .nx [e0,e1',e2',e3',e4,e5,x'] M
 |[],_,x=>⟨x,by rw[tY,if_pos hlk]⟩|d::ds,h,x=>by obtain⟨z,rfl⟩:=h d Yz;obtain⟨x',e⟩:=Zn7 hlk ds (λd hd=>h d (Yq _ hd)) (Ya (.int z));refine⟨x',?_⟩;have hb:nbB [e0,e1',e2',e3',e4,e5,Ya (.int z)] M= .nx [e0,e1',e2',e3',e4,e5,Ya (.int z)] M:=t7 ((LK (M1:=M) (dW (a:=.bl true) (M1:=M) rfl rfl)).trans rfl);rw[mU,if_pos hlk];simp only[bF,lz,lF,hb];exact e
theorem law_holds(ns:List Int)(hl:ns.length<=63):∃M',ZnI [.bO (ns.map D.int)] []= .ok (.bl true) M':=by
 refine Rt.law (env:=[Ya (SC ns),Yk,Yk,Yk,Yk,Yk,Yk]) ?_;unfold Wd;obtain⟨P,⟨tk,ds,eP,hnd,htk,hf,hw,hrs⟩,hP⟩:=Zmj hl [];subst eP
 let gs:=qj ns tk.length
 have IK:gs.length=tk.length:=ZqU ..;refine Rt.set (d:=j4 tk ds) (M':=[]) (GC rfl hP) ?_;have Adn:HY [SC ns,j4 tk ds] []= .ok (.tup (gs.map D.int)) []:=Zpc hl (iK (Zg rfl rfl rfl) (by rw[Bp,jP])) (by omega);refine Rt.set (d:=.tup (gs.map D.int)) (M':=[]) (yu rfl rfl Adn) ?_;have hnum:bV (Ze) [Ya (SC ns),Ya (j4 tk ds),Ya (.tup (gs.map D.int)),Yk,Yk,Yk,Yk] []= .ok (.ref 0) [.lst []]:=iD (M:=[]) (M':=[]) (ds:=[]) rfl (by decide);refine Rt.set (d:=.ref 0) (M':=[.lst []]) hnum ?_;have Ado:e2 eO (eC (.int 2)) (aO bW (Za (Zb 2) (Ze))) [Ya (SC ns),Ya (j4 tk ds),Ya (.tup (gs.map D.int)),Ya (.ref 0),Yk,Yk,Yk] [.lst []]= .ok (.int (2*(gs.length:Int))) [.lst []]:=by refine Zg (M2:=[.lst []]) (b:=.int (gs.length:Int)) rfl (iK rfl (by rw[Bp,jP])) ?_;rw[yg,if_pos (Ie (by decide))]
 refine Rt.set (d:=.ref 1) (M':=[.lst [],.lst [.int (2*(gs.length:Int))]]) (iD (M':=[.lst []]) (ds:=[.int (2*(gs.length:Int))]) (Zo Ado rfl) (by decide:decide (1<=100)=true)) ?_
 let M2:Store:=[.lst [],.lst [.int (2*(gs.length:Int))]]
 let M4:Store:=[.lst [],.lst [.int (2*(gs.length:Int))],.dct (dictOf (zl tk gs)),.dct []]
 let x0:=x7 tk gs
 have hx0:x0.s=2*(gs.length:Int):=rfl;have hF0:F7 x0:=ZwN gs htk;have w0:GR 2 3 0 1 x0 M4:=⟨rfl,rfl,rfl,rfl,by decide,by decide⟩;obtain⟨y,M5,e5,w5,g5,f5,l5,r5⟩:=Zs7 (a:=2) (c:=3) (b:=0) (q:=1) hf.ok hf.dep x0 M4 hF0 (by omega) w0;refine Rt.expr (d:=.non) (M':=M5) (Il (M1:=M2) (M2:=[.lst [],.lst [.int (2*(gs.length:Int))],.dct (dictOf (zl tk gs))]) (M3:=M4) (M4:=M4) (M5:=M4) (b:=.ref 2) (c:=.ref 3) rfl (ZnS tk gs (by omega) M2) rfl rfl rfl e5) ?_;have hidx:∀{S:Store} {e3' e5' e6:Option D},S[1]?=Ya (.lst [.int y.s])->e2 Zk (Zb 4) (eC (.int 0)) [Ya (SC ns),Ya (j4 tk ds),Ya (.tup (gs.map D.int)),e3',Ya (.ref 1),e5',e6] S= .ok (.int y.s) S:=λh=>Zg rfl rfl (gG h rfl);have hin:∀m:Int,m<=1000->aM m 1002 ds x0≠ .out:=λm hm=>W6 1002 ds x0 (by omega) (by decide);rcases r5.1 (by omega)with⟨hy,hrun⟩|⟨hy,hrun⟩
 .have bd:=Ed 1002 ds x0 y hrun;refine Rt.skip (M':=M5) (Zg (hidx w5.ct) rfl (by rw[jo,decide_eq_false (by omega)])) ?_;have hsp:∃M6,ji (e2 dD (e2 Zk (Zb 4) (eC (.int 0))) (eC (.int 0))) (e1 vH (Zw CK (Za (Zb 1) (Za (Zb 2) (Za (e2 iI (e2 Zk (Zb 4) (eC (.int 0))) (eC (.int 1))) (Ze)))))) [Ya (SC ns),Ya (j4 tk ds),Ya (.tup (gs.map D.int)),Ya (.ref 0),Ya (.ref 1),Yk,Yk] M5= .ok (.bl false) M6/\M5.length<=M6.length/\∀i,i<M5.length->M6[i]?=M5[i]?:=by
   by_cases hp:0<y.s
   .have hov:y.s-1<x0.s\/aM (y.s-1) 1002 ds x0= .over:=by
     by_cases z:x0.s<=y.s-1
     .exact .inr (bd.ov _ z (by omega))
     .exact .inl (by omega)
    obtain⟨M6,e6,l6,o6⟩:=Zl0 ((W5 IK htk hf.ok hf.dep (m:=y.s-1) (by omega) (n:=1002) (by omega) (hin _ (by omega)) M5).2 hov);exact⟨M6,(t_ (Zg (hidx w5.ct) rfl (by rw[jo,decide_eq_true (by omega)]))).trans (dW (a:=.bl true) (Zip (M1:=M5) (M2:=M5) (M3:=M5) (c:=.int (y.s-1)) rfl rfl (Zg (hidx w5.ct) rfl rfl) e6) rfl),l6,o6⟩
   .exact⟨M5,Bv (Zg (hidx w5.ct) rfl (by rw[jo,decide_eq_false (by omega)])),Yl _,λ_ _=>rfl⟩
  obtain⟨M6,e6,l6,o6⟩:=hsp;refine Rt.skip (M':=M6) e6 ?_;have c6:M6[1]?=Ya (.lst [.int y.s]):=(o6 1 w5.gU.2.2.2).trans w5.ct;have n6:M6[0]?=Ya (.lst y.o):=(o6 0 w5.gU.2.2.1).trans w5.nb;obtain⟨M7,k,e7,hk,hkl,l7,o7⟩:=(W5 IK htk hf.ok hf.dep (m:=y.s) (by omega) (n:=1002) (by omega) (hin _ (by omega)) M6).1 bd.le y (bd.ok y.s (xV _));refine Rt.set (d:=.tup [.ref k,.int y.s]) (M':=M7) (Zip (M1:=M6) (M2:=M6) (M3:=M6) (c:=.int y.s) rfl rfl (hidx c6) e7) ?_;have h1l:1<M6.length:=(Ye.mp c6).1;have c7:M7[1]?=Ya (.lst [.int y.s]):=(o7 1 h1l).trans c6;have n7:M7[0]?=Ya (.lst y.o):=(o7 0 (by omega)).trans n6;have hlist:jd .list (.ref k) M7= .ok (.bl true) M7:=by show(match pY .list (.ref k) M7 with|some b=>R3.ok (D.bl b) M7|none=>R3.bad)=_;rw[Zr9,hk];rfl
  have Ac0:∀(i:Int) (M:Store),Gr (.int i) (.int i) M= .ok (.bl false) M:=λi M=>by show(match Ya (decide (i=i))with|some r=>R3.ok (D.bl (!r)) M|none=>R3.bad)=_;rw[decide_eq_true rfl];rfl
  refine Rt.skip (M':=M7) ?_ ?_
  .refine(LK (M1:=M7) (dW (a:=.bl true) (M1:=M7) rfl rfl)).trans ?_;refine(LK (M1:=M7) (Zg (a:=.int 2) (b:=.int 2) (M1:=M7) (M2:=M7) rfl rfl (Ac0 2 M7))).trans ?_;exact dW (a:=.bl true) (M1:=M7) (dW (a:=.ref k) (M1:=M7) rfl hlist) rfl
  let M8:=M7++[MO.lst [.int y.s]]
  let M9:=M8++[MO.lst (y.o++[.int y.s])]
  have hol:=f5.ol;have hit:mR (e2 aK (e2 Zk (Zb 5) (eC (.int 0))) (bV (Za (e2 Zk (Zb 5) (eC (.int 1))) (Ze)))) [Ya (SC ns),Ya (j4 tk ds),Ya (.tup (gs.map D.int)),Ya (.ref 0),Ya (.ref 1),Ya (.tup [.ref k,.int y.s]),Yk] M7= .ok ⟨y.o++[.int y.s],Ya M8.length⟩ M9:=by have e:e2 aK (e2 Zk (Zb 5) (eC (.int 0))) (bV (Za (e2 Zk (Zb 5) (eC (.int 1))) (Ze))) [Ya (SC ns),Ya (j4 tk ds),Ya (.tup (gs.map D.int)),Ya (.ref 0),Ya (.ref 1),Ya (.tup [.ref k,.int y.s]),Yk] M7= .ok (.ref M8.length) M9:=Zg (M1:=M7) (M2:=M8) rfl (iD (Zo rfl rfl) rfl) (Wt (cW hk _) (dU M7 _ []) (by simp;omega));show(e2 _ _ _ _ M7).bind _=_;rw[e,R3.sy];show(match M9[M8.length]? with|some (.lst ds)=>R3.ok (⟨ds,Ya M8.length⟩:gD) M9|_=>R3.bad)=_;rw[show M9[M8.length]?=_ from dU M8 _ []]
  have hlk:locked ⟨y.o++[.int y.s],Ya M8.length⟩ M9=true:=decide_eq_true (dU M8 _ []);obtain⟨x',hloop⟩:=Zn7 (e0:=Ya (SC ns)) (e1':=Ya (j4 tk ds)) (e2':=Ya (.tup (gs.map D.int))) (e3':=Ya (.ref 0)) (e4:=Ya (.ref 1)) (e5:=Ya (.tup [.ref k,.int y.s])) hlk (y.o++[.int y.s]) (λd hd=>by
   rcases sX.mp hd with e|e
   .exact f5.oi d e
   .exact⟨_,mF.mp e⟩) Yk
  refine Rt.loop (it:=⟨y.o++[.int y.s],Ya M8.length⟩) (M1:=M9) (M':=M9) hit hloop ?_;have c9:M9[1]?=Ya (.lst [.int y.s]):=cW (cW c7 _) _;have n9:M9[0]?=Ya (.lst y.o):=cW (cW n7 _) _;have k9:M9[k]?=Ya (.lst y.o):=cW (cW hk _) _;refine Rt.ret (M':=M9) (Zg rfl (gV (Zo rfl (Zo (hidx c9) rfl)) rfl) ?_);show(match M9[k]?,M9[0]? with|some (.lst x),Ya (.lst z)=>if k=0 then R3.bad else Ma x z _ M9|_,_=>R3.bad)=_;rw[k9,n9];refine(if_neg (show¬k=0 by omega)).trans ?_;have Xb:y.o.all (cP 50)=true:=pK.mpr λd hd=>by obtain⟨z,rfl⟩:=f5.oi d hd;rfl
  unfold Ma;rw[if_pos ⟨Xb,Xb⟩,T9 50 y.o (by simpa using Xb)];simp
 .obtain⟨M6,e6,l6,o6⟩:=Zl0 ((W5 IK htk hf.ok hf.dep (m:=150) (by omega) (n:=1002) (by omega) (hin _ (by omega)) M5).2 (.inr hrun));exact⟨M6,vO ((cV (Zg (hidx w5.ct) rfl (by rw[jo,decide_eq_true (by omega)]))).trans (je (Zip (M1:=M5) (M2:=M5) (M3:=M5) rfl rfl rfl e6)))⟩
end Law
set_option maxHeartbeats 400000
namespace Law
open PySem PySem.Spec PyProof.Rows L2 L3
variable{P:List Yd->Prop}
theorem uZ(h:P []):∀us:List Yd,us.length=0->P us:=λus e=>(JV e)▸h
theorem uS{n:Nat}(h:∀a us,us.length=n->P (a::us))(us:List Yd)(e:us.length=n+1):P us:=by
 cases us with
 |nil=>exact absurd e (Nat.succ_ne_zero n).symm|cons a us=>exact h a us (R5 e)
variable{xa:aj}
theorem Ou(h:∀a,P [a]):∀us:List Yd,us.length=[xa].length->P us:=uS λa=>uZ (h a)
variable{xb:aj}
theorem pD(h:∀a b,P [a,b]):∀us:List Yd,us.length=[xa,xb].length->P us:=uS λa=>uS λb=>uZ (h a b)
theorem Ov{xc:aj}(h:∀a b c,P [a,b,c]):∀us:List Yd,us.length=[xa,xb,xc].length->P us:=uS λa=>uS λb=>uS λc=>uZ (h a b c)
theorem ub4{xc xd:aj}(h:∀a b c d,P [a,b,c,d]):∀us:List Yd,us.length=[xa,xb,xc,xd].length->P us:=uS λa=>uS λb=>uS λc=>uS λd=>uZ (h a b c d)
theorem ub5{xc xd xe:aj}(h:∀a b c d e,P [a,b,c,d,e]):∀us:List Yd,us.length=[xa,xb,xc,xd,xe].length->P us:=uS λa=>uS λb=>uS λc=>uS λd=>uS λe=>uZ (h a b c d e)
theorem ZuT{l:PySem.W.OpenLaw}{w:aU}{K:Ff}{h:au}{mg:aj->Option Yd}{fa f0 f1 f2 f3 f4 f5 f6 f7 f8 f9 Ow f11 Xc Xd Xe Xf Xg Xh Xi Xj Xk Xl Xm Xn Xo Xp:Yn}(X:K.In h)(G:h.Ns Y1 mg)(hfa:mg "law" =Ya (.ref fa)){od0 an0 od1 an1 od2 an2 od3 an3 od4 an4 od5 an5 od6 an6 od7 an7 od8 an8 od9 an9 Adp Adq Ads Adt Adu Adv Adw Adx Ady Adz AdA AdB AdC AdD AdE AdF AdG AdH AdI AdJ AdK AdL AdM AdN AdO AdP AdQ AdR AdS AdT AdU ZJ:Option Yn}{sl0 sl1 sl2 sl3 Hu Vy Vz sl7 sl8 sl9 AdV AdW AdX AdY AdZ Ad0 Ad1 Ad2 Ad3 Ad4 Ad5 Ad6 Ad7 Ad8 Ad9 Aea:Array (Option Yd)}{oc0 kV0 dc0 pm0 cd0 ct0 oc1 kV1 dc1 pm1 cd1 ct1 oc2 kV2 dc2 pm2 cd2 ct2 oc3 kV3 dc3 pm3 cd3 ct3 oc4 kV4 dc4 pm4 cd4 ct4 oc5 kV5 dc5 pm5 cd5 ct5 oc6 kV6 dc6 pm6 cd6 ct6 oc7 kV7 dc7 pm7 cd7 ct7 oc8 kV8 dc8 pm8 cd8 ct8 oc9 kV9 dc9 pm9 cd9 ct9 Aeb Aec Aed Aee ZK Aef Aeg Aeh Aei Aej ZL Aek Ael Aem Aen Aeo ZM Aep Aeq Aer Aes Aet ZP Aeu Aev Aew Aex Aey ZQ Aez AeA AeB AeC AeD ZR AeE AeF AeG AeH AeI ZV AeJ AeK AeL AeM AeN ZW AeO AeP AeQ AeR AeS ZX AeT AeU AeV AeW AeX ZZ AeY AeZ Ae0 Ae1 Ae2 Z0 Ae3 Ae4 Ae5 Ae6 Ae7 Z1 Ae8 Ae9 Afa Afb Afc Z2 Afd Afe Afg Afh Afi Z3 Afj Afk Afl Afm Afn Z4 Afo Afp Z5 Z6 Z7 Qh Z8:Yd}{aA:Yn}{t12:Yn}{Afq:Yd}{Ac1:Option Yn}{Afr:Nat}{Ac2:Array (Option Yd)}{AcM:jx}{YC:Yn}{gO fO di:Yn}{Aau Abq Aca:ClassData}{Aav Aaw:aj}{XM:Yn}{Aax Aay:List Yd}{Aaz AaA:Bool}{AaB:List aj}{AaC:Option Bool}{AaD AaE:Option Yn}{AaF AaG AaH AaI AaJ:Option Yd}{AaK:Yd}{OJ:Array DictEntry}{AaL:Nat}{AaM:Array (Option Yd)}{Abr Abs:aj}{XS:Yn}{Abt Abu:List Yd}{Abv Abw:Bool}{Abx:List aj}{Aby:Option Bool}{Abz AbA:Option Yn}{AbB AbC AbD AbE AbF:Option Yd}{AbG:Yd}{O6:Array DictEntry}{AbH:Nat}{AbI:Array (Option Yd)}{Acb Acd:aj}{YD:Yn}{Ace Acf:List Yd}{Acg Ach:Bool}{Aci:List aj}{Acj:Option Bool}{Ack Acl:Option Yn}{Acm Acn Aco Acp Acq:Option Yd}{Acr:Yd}{Pk:Array DictEntry}{Acs:Nat}{Acu:Array (Option Yd)}(X6:dm K Y1 "Walk" =Ya (Ya (.ref aA)))(Ab1:Fe K aA Str.empty=true)(Ab2:JN K aA=true)(Ab3:Q3 K aA=true)(Ab4:Y2 K (.ref aA) "__setattr__" =Ya (Ya (.builtin "object.__setattr__")))(Ab5:JP K aA=true)(Ab6:fY K (.ref aA)=true)(AaN:Y2 K (.ref aA) "cells" =Ya Yk)(AaU:Y2 K (.ref aA) "most" =Ya Yk)(AaO:Y2 K (.ref aA) "named" =Ya Yk)(Aaj:Y2 K (.ref aA) "numbers" =Ya Yk)(AaP:Y2 K (.ref aA) "steps" =Ya Yk)(a0:dm K Y1 "worked" =Ya (Ya (.ref f0)))(l0:K.lookup f0=Ya ⟨oc0,od0,.func (fZ "worked" "worked" (cR CN) (cj CN) (Zm CN) .none kV0 dc0 pm0 an0 cd0 ct0),sl0⟩)(c0:gB K cd0 "worked" =true)(k0:fY K (.ref f0)=true)(a1:dm K Y1 "sums_in" =Ya (Ya (.ref f1)))(l1:K.lookup f1=Ya ⟨oc1,od1,.func (fZ "sums_in" "sums_in" (cR CP) (cj CP) (Zm CP) .none kV1 dc1 pm1 an1 cd1 ct1),sl1⟩)(c1:gB K cd1 "sums_in" =true)(k1:fY K (.ref f1)=true)(a2:dm K Y1 "parts_of" =Ya (Ya (.ref f2)))(l2:K.lookup f2=Ya ⟨oc2,od2,.func (fZ "parts_of" "parts_of" (cR CQ) (cj CQ) (Zm CQ) .none kV2 dc2 pm2 an2 cd2 ct2),sl2⟩)(c2:gB K cd2 "parts_of" =true)(k2:fY K (.ref f2)=true)(a3:Y2 K (.ref aA) "__init__" =Ya (Ya (.ref f3)))(i3:nD K (.ref f3)=true)(l3:K.lookup f3=Ya ⟨oc3,od3,.func (fZ "__init__" "Walk.__init__" (cR Dp) (cj Dp) (Zm Dp) .none kV3 dc3 pm3 an3 cd3 ct3),sl3⟩)(c3:gB K cd3 "Walk.__init__" =true)(k3:fY K (.ref f3)=true)(a4:Y2 K (.ref aA) "spend" =Ya (Ya (.ref f4)))(i4:nD K (.ref f4)=true)(l4:K.lookup f4=Ya ⟨oc4,od4,.func (fZ "spend" "Walk.spend" (cR Dq) (cj Dq) (Zm Dq) .none kV4 dc4 pm4 an4 cd4 ct4),Hu⟩)(c4:gB K cd4 "Walk.spend" =true)(k4:fY K (.ref f4)=true)(a5:Y2 K (.ref aA) "value_of" =Ya (Ya (.ref f5)))(i5:nD K (.ref f5)=true)(l5:K.lookup f5=Ya ⟨oc5,od5,.func (fZ "value_of" "Walk.value_of" (cR Dr) (cj Dr) (Zm Dr) .none kV5 dc5 pm5 an5 cd5 ct5),Vy⟩)(c5:gB K cd5 "Walk.value_of" =true)(k5:fY K (.ref f5)=true)(a6:Y2 K (.ref aA) "is_above" =Ya (Ya (.ref f6)))(i6:nD K (.ref f6)=true)(l6:K.lookup f6=Ya ⟨oc6,od6,.func (fZ "is_above" "Walk.is_above" (cR Dt) (cj Dt) (Zm Dt) .none kV6 dc6 pm6 an6 cd6 ct6),Vz⟩)(c6:gB K cd6 "Walk.is_above" =true)(k6:fY K (.ref f6)=true)(a7:Y2 K (.ref aA) "repeat" =Ya (Ya (.ref f7)))(i7:nD K (.ref f7)=true)(l7:K.lookup f7=Ya ⟨oc7,od7,.func (fZ "repeat" "Walk.repeat" (cR Dy) (cj Dy) (Zm Dy) .none kV7 dc7 pm7 an7 cd7 ct7),sl7⟩)(c7:gB K cd7 "Walk.repeat" =true)(k7:fY K (.ref f7)=true)(a8:Y2 K (.ref aA) "do_deed" =Ya (Ya (.ref f8)))(i8:nD K (.ref f8)=true)(l8:K.lookup f8=Ya ⟨oc8,od8,.func (fZ "do_deed" "Walk.do_deed" (cR Dv) (cj Dv) (Zm Dv) .none kV8 dc8 pm8 an8 cd8 ct8),sl8⟩)(c8:gB K cd8 "Walk.do_deed" =true)(k8:fY K (.ref f8)=true)(a9:Y2 K (.ref aA) "choose" =Ya (Ya (.ref f9)))(i9:nD K (.ref f9)=true)(l9:K.lookup f9=Ya ⟨oc9,od9,.func (fZ "choose" "Walk.choose" (cR Dw) (cj Dw) (Zm Dw) .none kV9 dc9 pm9 an9 cd9 ct9),sl9⟩)(c9:gB K cd9 "Walk.choose" =true)(k9:fY K (.ref f9)=true)(a10:Y2 K (.ref aA) "go_through" =Ya (Ya (.ref Ow)))(i10:nD K (.ref Ow)=true)(l10:K.lookup Ow=Ya ⟨Aeb,Adp,.func (fZ "go_through" "Walk.go_through" (cR Du) (cj Du) (Zm Du) .none Aec Aed Aee Adq ZK Aef),AdV⟩)(c10:gB K ZK "Walk.go_through" =true)(k10:fY K (.ref Ow)=true)(a11:dm K Y1 "refuse_bad_given" =Ya (Ya (.ref f11)))(l11:K.lookup f11=Ya ⟨Aeg,Ads,.func (fZ "refuse_bad_given" "refuse_bad_given" (cR CZ) (cj CZ) (Zm CZ) .none Aeh Aei Aej Adt ZL Aek),AdW⟩)(c11:gB K ZL "refuse_bad_given" =true)(k11:fY K (.ref f11)=true)(a12:dm K Y1 "meaning" =Ya (Ya (.ref Xc)))(l12:K.lookup Xc=Ya ⟨Ael,Adu,.func (fZ "meaning" "meaning" (cR CV) (cj CV) (Zm CV) (.ref t12) Aem Aen Aeo Adv ZM Aep),AdX⟩)(c12:gB K ZM "meaning" =true)(k12:fY K (.ref Xc)=true)(d12:K.lookup t12=Ya ⟨Afq,Ac1,.seq #[.int 400 AcM] Afr,Ac2⟩)(a13:dm K Y1 "_law_draw" =Ya (Ya (.ref Xd)))(l13:K.lookup Xd=Ya ⟨Aeq,Adw,.func (fZ "_law_draw" "_law_draw" (cR C_) (cj C_) (Zm C_) .none Aer Aes Aet Adx ZP Aeu),AdY⟩)(c13:gB K ZP "_law_draw" =true)(k13:fY K (.ref Xd)=true)(a14:dm K Y1 "_law_word" =Ya (Ya (.ref Xe)))(l14:K.lookup Xe=Ya ⟨Aev,Ady,.func (fZ "_law_word" "_law_word" (cR Dc) (cj Dc) (Zm Dc) .none Aew Aex Aey Adz ZQ Aez),AdZ⟩)(c14:gB K ZQ "_law_word" =true)(k14:fY K (.ref Xe)=true)(a15:dm K Y1 "_law_number" =Ya (Ya (.ref Xf)))(l15:K.lookup Xf=Ya ⟨AeA,AdA,.func (fZ "_law_number" "_law_number" (cR Dd) (cj Dd) (Zm Dd) .none AeB AeC AeD AdB ZR AeE),Ad0⟩)(c15:gB K ZR "_law_number" =true)(k15:fY K (.ref Xf)=true)(a16:dm K Y1 "_law_sum" =Ya (Ya (.ref Xg)))(l16:K.lookup Xg=Ya ⟨AeF,AdC,.func (fZ "_law_sum" "_law_sum" (cR Df) (cj Df) (Zm Df) .none AeG AeH AeI AdD ZV AeJ),Ad1⟩)(c16:gB K ZV "_law_sum" =true)(k16:fY K (.ref Xg)=true)(a17:dm K Y1 "_law_closed" =Ya (Ya (.ref Xh)))(l17:K.lookup Xh=Ya ⟨AeK,AdE,.func (fZ "_law_closed" "_law_closed" (cR Dg) (cj Dg) (Zm Dg) .none AeL AeM AeN AdF ZW AeO),Ad2⟩)(c17:gB K ZW "_law_closed" =true)(k17:fY K (.ref Xh)=true)(a18:dm K Y1 "_law_opened" =Ya (Ya (.ref Xi)))(l18:K.lookup Xi=Ya ⟨AeP,AdG,.func (fZ "_law_opened" "_law_opened" (cR Dh) (cj Dh) (Zm Dh) .none AeQ AeR AeS AdH ZX AeT),Ad3⟩)(c18:gB K ZX "_law_opened" =true)(k18:fY K (.ref Xi)=true)(a19:dm K Y1 "_law_deeds" =Ya (Ya (.ref Xj)))(l19:K.lookup Xj=Ya ⟨AeU,AdI,.func (fZ "_law_deeds" "_law_deeds" (cR Di) (cj Di) (Zm Di) .none AeV AeW AeX AdJ ZZ AeY),Ad4⟩)(c19:gB K ZZ "_law_deeds" =true)(k19:fY K (.ref Xj)=true)(a20:dm K Y1 "_law_program" =Ya (Ya (.ref Xk)))(l20:K.lookup Xk=Ya ⟨AeZ,AdK,.func (fZ "_law_program" "_law_program" (cR Dj) (cj Dj) (Zm Dj) .none Ae0 Ae1 Ae2 AdL Z0 Ae3),Ad5⟩)(c20:gB K Z0 "_law_program" =true)(k20:fY K (.ref Xk)=true)(a21:dm K Y1 "_law_given" =Ya (Ya (.ref Xl)))(l21:K.lookup Xl=Ya ⟨Ae4,AdM,.func (fZ "_law_given" "_law_given" (cR Dk) (cj Dk) (Zm Dk) .none Ae5 Ae6 Ae7 AdN Z1 Ae8),Ad6⟩)(c21:gB K Z1 "_law_given" =true)(k21:fY K (.ref Xl)=true)(a22:dm K Y1 "_law_worth" =Ya (Ya (.ref Xm)))(l22:K.lookup Xm=Ya ⟨Ae9,AdO,.func (fZ "_law_worth" "_law_worth" (cR Dl) (cj Dl) (Zm Dl) .none Afa Afb Afc AdP Z2 Afd),Ad7⟩)(c22:gB K Z2 "_law_worth" =true)(k22:fY K (.ref Xm)=true)(a23:dm K Y1 "_law_gone" =Ya (Ya (.ref Xn)))(l23:K.lookup Xn=Ya ⟨Afe,AdQ,.func (fZ "_law_gone" "_law_gone" (cR Dm) (cj Dm) (Zm Dm) .none Afg Afh Afi AdR Z3 Afj),Ad8⟩)(c23:gB K Z3 "_law_gone" =true)(k23:fY K (.ref Xn)=true)(a24:dm K Y1 "_law_spent" =Ya (Ya (.ref Xo)))(l24:K.lookup Xo=Ya ⟨Afk,AdS,.func (fZ "_law_spent" "_law_spent" (cR Dn) (cj Dn) (Zm Dn) .none Afl Afm Afn AdT Z4 Afo),Ad9⟩)(c24:gB K Z4 "_law_spent" =true)(k24:fY K (.ref Xo)=true)(a25:dm K Y1 "law" =Ya (Ya (.ref Xp)))(l25:K.lookup Xp=Ya ⟨Afp,AdU,.func (fZ "law" "law" (cR ut) (cj ut) (Zm ut) .none Z5 Z6 Z7 ZJ Qh Z8),Aea⟩)(c25:gB K Qh "law" =true)(k25:fY K (.ref Xp)=true)(Abg:dm K Y1 "ValueError" =Ya Yk)(AcN:dm K Y1 "bool" =Ya Yk)(AcO:dm K Y1 "dict" =Ya Yk)(AbJ:dm K Y1 "enumerate" =Ya Yk)(Ac3:dm K Y1 "int" =Ya Yk)(Abh:dm K Y1 "isinstance" =Ya Yk)(Ac4:dm K Y1 "len" =Ya Yk)(AcP:dm K Y1 "list" =Ya Yk)(Ac5:dm K Y1 "max" =Ya Yk)(AcB:dm K Y1 "range" =Ya Yk)(AcC:dm K Y1 "tuple" =Ya Yk)(Ac6:dm K Y1 "zip" =Ya Yk)(AcD:dm K Y1 "PARTS" =Ya (Ya (.ref YC)))(AbK:Cw K YC uq)(Aan:dm K Y1 "LedgerError" =Ya (Ya (.ref gO)))(XQ:dm K Y1 "BadGiven" =Ya (Ya (.ref fO)))(XX:dm K Y1 "Spent" =Ya (Ya (.ref di)))(Xv:JT K gO=Ya Aau)(Xw:JR K (.ref gO)=Ya (.type "type"))(Afu:oK K (.ref gO) (.ref gO)=Ya true)(AaV:JT K fO=Ya Abq)(Afy:JR K (.ref fO)=Ya (.type "type"))(Afz:oK K (.ref fO) (.ref fO)=Ya true)(Jf:JT K di=Ya Aca)(O9:JR K (.ref di)=Ya (.type "type"))(O_:oK K (.ref di) (.ref di)=Ya true)(Xx:K.lookup gO=Ya (Fb Aav Aaw gO XM Aax [.type "ValueError",.type "Exception",.type "BaseException",.type "object"] Aaz AaB Aay AaA AaC AaD AaF AaG AaH AaI AaJ "ValueError.__new__"))(Xy:K.lookup XM=Ya ⟨AaK,AaE,.dict OJ AaL,AaM⟩)(Xz:Hv OJ=true)(XC:Fd OJ "__init__" =Yk)(AaW:K.lookup fO=Ya (Fb Abr Abs fO XS Abt [.ref gO,.type "ValueError",.type "Exception",.type "BaseException",.type "object"] Abv Abx Abu Abw Aby Abz AbB AbC AbD AbE AbF "ValueError.__new__"))(AaX:K.lookup XS=Ya ⟨AbG,AbA,.dict O6 AbH,AbI⟩)(AaY:Hv O6=true)(AaZ:Fd O6 "__init__" =Yk)(AbP:K.lookup di=Ya (Fb Acb Acd di YD Ace [.ref gO,.type "ValueError",.type "Exception",.type "BaseException",.type "object"] Acg Aci Acf Ach Acj Ack Acm Acn Aco Acp Acq "ValueError.__new__"))(AbQ:K.lookup YD=Ya ⟨Acr,Acl,.dict Pk Acs,Acu⟩)(AbR:Hv Pk=true)(AbS:Fd Pk "__init__" =Yk)(Aa0:Y2 K (.ref fO) "__getattribute__" =Ya (Ya (.builtin "BaseException.__getattribute__")))(Aa1:Y2 K (.ref fO) "__getattr__" =Ya Yk)(Aa2:xG K fO (.type "BaseException")=Ya true)(Aa3:Y2 K (.ref fO) "__class__" =Ya (Ya (.builtin "object.__class__")))(Aa4:xG K fO (.type "object")=Ya true)(AbT:Y2 K (.ref di) "__getattribute__" =Ya (Ya (.builtin "BaseException.__getattribute__")))(AbU:Y2 K (.ref di) "__getattr__" =Ya Yk)(AbV:xG K di (.type "BaseException")=Ya true)(AbW:Y2 K (.ref di) "__class__" =Ya (Ya (.builtin "object.__class__")))(AbX:xG K di (.type "object")=Ya true)(YQ:Q4 K (.builtin "object.__class__") "__get__" =Ya (Ya (.builtin "getset_descriptor.__get__")))(YS:Q6 K (.builtin "object.__class__")=Ya true)(Xq:oK K (.ref gO) (.type "BaseException")=Ya true)(Aad:oK K (.ref di) (.ref gO)=Ya true)(Aaa:oK K (.ref fO) (.ref gO)=Ya true)(Aak:oK K (.type "NoneType") (.ref di)=Ya false)(Aa5:oK K (.ref di) (.ref di)=Ya true)(Aal:oK K (.ref fO) (.ref di)=Ya false)(Aab:oK K (.type "NoneType") (.type "ValueError")=Ya false)(Aae:oK K (.ref di) (.type "ValueError")=Ya true)(Aac:oK K (.ref fO) (.type "ValueError")=Ya true):
  ∃fd:j7,(∀(s:Yg) (v:Yd),zU s fd ⟨[v],[]⟩ [("script",v)])/\∀base:au,K.In base->base.Ns Y1 mg->fU l.prog w K mg base j_ 34 fa fd ["script"] (rC K 1 ZnI):=by
 have e:=hfa.symm.trans (z6 X G a25);cases e;have T:Txt K mg:=⟨trivial,oN X G Abg,oN X G AcN,oN X G AcO,oN X G AbJ,oN X G Ac3,oN X G Abh,oN X G Ac4,oN X G AcP,oN X G Ac5,oN X G AcB,oN X G AcC,oN X G Ac6,⟨_,z6 X G AcD,AbK⟩⟩;have aR:yW K mg aA:=⟨⟨by unfold L3.ClsAt;rw[show(⟨([87,97,108,107]:List Nat).toArray⟩:aj)= "Walk" by decide +kernel];exact X6,⟨Ab1,Ab2,Ab3,Ab4⟩,by decide⟩,z6 X G X6,by rw[show nm [99,101,108,108,115]= "cells" by decide +kernel];exact AaN,by rw[show nm [109,111,115,116]= "most" by decide +kernel];exact AaU,by rw[show nm [110,97,109,101,100]= "named" by decide +kernel];exact AaO,by rw[show nm [110,117,109,98,101,114,115]= "numbers" by decide +kernel];exact Aaj,by rw[show nm [115,116,101,112,115]= "steps" by decide +kernel];exact AaP⟩;have Je:ClsAt K [66,97,100,71,105,118,101,110] fO:=by unfold L3.ClsAt;rw[show(⟨([66,97,100,71,105,118,101,110]:List Nat).toArray⟩:aj)= "BadGiven" by decide +kernel];exact XQ
 have XR:rH K fO:=⟨Aa0,Aa1,Aa2,by rw[AaV];rfl,Aa3,YQ,YS,Aa4⟩;have Jj:ClsAt K [83,112,101,110,116] di:=by unfold L3.ClsAt;rw[show(⟨([83,112,101,110,116]:List Nat).toArray⟩:aj)= "Spent" by decide +kernel];exact XX
 have X7:rH K di:=⟨AbT,AbU,AbV,by rw[Jf];rfl,AbW,YQ,YS,AbX⟩;have XO:Ny K mg gO fO di:=⟨z6 X G Aan,z6 X G XQ,z6 X G XX,⟨Je,_,_,_,_,_,_,_,_,_,_,_,_,_,_,_,_,AaW,λh Y=>⟨_,Nf Y AaX AaY,AaZ⟩,λh Y=>.own (Y _ _ Xx) (Nf Y Xy Xz) XC (.base)⟩,⟨Jj,_,_,_,_,_,_,_,_,_,_,_,_,_,_,_,_,AbP,λh Y=>⟨_,Nf Y AbQ AbR,AbS⟩,λh Y=>.own (Y _ _ Xx) (Nf Y Xy Xz) XC (.base)⟩,(Cu (P:=λC=>JS K (.ref C) (.ref gO)=Ya true) Je (PySem.W.YZ Xv Xw Xq Aaa) (Cu (P:=λC=>JS K (.ref C) (.ref gO)=Ya true) Jj (PySem.W.YZ Xv Xw Xq Aad) Hw)),⟨(PySem.W.Qa (PySem.W.P_ Jf O9 O_ Aak) PySem.W.Qd),(Cu (P:=λC=>rH K C/\sU K (.ref C) [.ref di]=Ya true) Jj ⟨X7,(PySem.W.Qc (PySem.W.P_ Jf O9 O_ Aa5))⟩ Hw),(Cu (P:=λC=>rH K C/\sU K (.ref C) [.ref di]=Ya false) Je ⟨XR,(PySem.W.Qa (PySem.W.P_ Jf O9 O_ Aal) PySem.W.Qd)⟩ Hw)⟩,⟨(PySem.W.Qa (PySem.W.Pz (by decide +kernel) (by first|rfl|decide) Aab) PySem.W.Qd),(Cu (P:=λC=>rH K C/\sU K (.ref C) [.type "ValueError"]=Ya true) Je ⟨XR,(PySem.W.Qc (PySem.W.Pz (by decide +kernel) (by first|rfl|decide) Aac))⟩ (Cu (P:=λC=>rH K C/\sU K (.ref C) [.type "ValueError"]=Ya true) Jj ⟨X7,(PySem.W.Qc (PySem.W.Pz (by decide +kernel) (by first|rfl|decide) Aae))⟩ Hw)),Hw⟩⟩;have Acv:cX K mg "worked" CN ["name","one","other"]:=jY X G a0 l0 c0 k0 (Binds.all (Ov λ_ _ _=>rfl));have Ab7:cX K mg "sums_in" CP ["words"]:=jY X G a1 l1 c1 k1 (Binds.all (Ou λ_=>rfl));have AbY:cX K mg "parts_of" CQ ["words"]:=jY X G a2 l2 c2 k2 (Binds.all (Ou λ_=>rfl));have Aao:MK K aA "Walk.__init__" Dp ["self","named","most"]:=Zr7 Ab5 Ab6 a3 i3 l3 c3 k3 (Binds.all (Ov λ_ _ _=>rfl));have Abi:kY K aA "spend" "Walk.spend" Dq ["self","steps"]:=yO a4 i4 l4 c4 k4 (Binds.all (pD λ_ _=>rfl));have Aap:kY K aA "value_of" "Walk.value_of" Dr ["self","words"]:=yO a5 i5 l5 c5 k5 (Binds.all (pD λ_ _=>rfl));have Aaq:kY K aA "is_above" "Walk.is_above" Dt ["self","words"]:=yO a6 i6 l6 c6 k6 (Binds.all (pD λ_ _=>rfl));have Aa6:kY K aA "repeat" "Walk.repeat" Dy ["self","deed"]:=yO a7 i7 l7 c7 k7 (Binds.all (pD λ_ _=>rfl))
 have AaQ:kY K aA "do_deed" "Walk.do_deed" Dv ["self","deed"]:=yO a8 i8 l8 c8 k8 (Binds.all (pD λ_ _=>rfl));have Aa7:kY K aA "choose" "Walk.choose" Dw ["self","deed"]:=yO a9 i9 l9 c9 k9 (Binds.all (pD λ_ _=>rfl));have Aah:kY K aA "go_through" "Walk.go_through" Du ["self","deeds"]:=yO a10 i10 l10 c10 k10 (Binds.all (pD λ_ _=>rfl));have Aaf:cX K mg "refuse_bad_given" CZ ["program","given"]:=jY X G a11 l11 c11 k11 (Binds.all (pD λ_ _=>rfl));have Ab8:cX K mg "meaning" CV ["program","given","most"]:=jY X G a12 l12 c12 k12 (λs us hK hl=>by rw[qG]at hl ⊢;exact match us,hl with|[_,_,_],_=>BindsTo.of_defaults rfl (hK _ _ d12) rfl rfl rfl);have AbL:cX K mg "_law_draw" C_ ["script","k"]:=jY X G a13 l13 c13 k13 (Binds.all (pD λ_ _=>rfl));have AbM:cX K mg "_law_word" Dc ["script","i"]:=jY X G a14 l14 c14 k14 (Binds.all (pD λ_ _=>rfl));have Aa8:cX K mg "_law_number" Dd ["draw"]:=jY X G a15 l15 c15 k15 (Binds.all (Ou λ_=>rfl));have AbZ:cX K mg "_law_sum" Df ["script","at","names","limit"]:=jY X G a16 l16 c16 k16 (Binds.all (ub4 λ_ _ _ _=>rfl));have Aa9:cX K mg "_law_closed" Dg ["frames","opens"]:=jY X G a17 l17 c17 k17 (Binds.all (pD λ_ _=>rfl));have Aba:cX K mg "_law_opened" Dh ["script","k","frames","opens","names"]:=jY X G a18 l18 c18 k18 (Binds.all (ub5 λ_ _ _ _ _=>rfl));have Abj:cX K mg "_law_deeds" Di ["script","cells","names"]:=jY X G a19 l19 c19 k19 (Binds.all (Ov λ_ _ _=>rfl));have AaR:cX K mg "_law_program" Dj ["script"]:=jY X G a20 l20 c20 k20 (Binds.all (Ou λ_=>rfl));have Abk:cX K mg "_law_given" Dk ["script","program"]:=jY X G a21 l21 c21 k21 (Binds.all (pD λ_ _=>rfl));have Abl:cX K mg "_law_worth" Dl ["words","names","cells","count"]:=jY X G a22 l22 c22 k22 (Binds.all (ub4 λ_ _ _ _=>rfl));have AbN:cX K mg "_law_gone" Dm ["deeds","names","cells","numbers","count"]:=jY X G a23 l23 c23 k23 (Binds.all (ub5 λ_ _ _ _ _=>rfl));have Abm:cX K mg "_law_spent" Dn ["program","given","bound"]:=jY X G a24 l24 c24 k24 (Binds.all (Ov λ_ _ _=>rfl));refine⟨fZ "law" "law" (cR ut) (cj ut) (Zm ut) .none Z5 Z6 Z7 ZJ Qh Z8,λs v=>.of_eq rfl,λbase _ _=>?_⟩;have Pj:=Zo1 (P:=l.prog) (w:=w) (base:=base) Acv T;have Pg:=ZmK (P:=l.prog) (w:=w) (base:=base) Ab7 T;have O8:=ZlK (P:=l.prog) (w:=w) (base:=base) AbY T Pg;have Oz:=Zhw (P:=l.prog) (w:=w) (base:=base) aR Aao T;have iV:=Zjd (P:=l.prog) (w:=w) (base:=base) aR Abi T XO;have AfC:=iV.yP;have GG:=Zgz (P:=l.prog) (w:=w) (base:=base) aR Pj O8 iV Aap T 13;have qm:=GG;have Afv:=qm.yP
 have El:=Zhj (P:=l.prog) (w:=w) (base:=base) aR Aaq T iV qm;have Afw:=El.yP;have GG:=ZfZ (P:=l.prog) (w:=w) (base:=base) aR El iV qm Aah AaQ Aa7 Aa6 T 13;obtain⟨Jb,AaS,Abb,Abd⟩:=GG;have Aft:=Jb.yP;have Afx:=AaS.yP;have AfA:=Abb.yP;have AfB:=Abd.yP;have Ja:=Zf0 (P:=l.prog) (w:=w) (base:=base) Aaf T XO;have Afs:=Ja.fn;have Jg:=ZmT (P:=l.prog) (w:=w) (base:=base) Ab8 T aR Oz Jb iV Ja;have Ph:=Jg.fn;have h_:=Zkn (P:=l.prog) (w:=w) (base:=base) AbL T;have wN:=ZkN (P:=l.prog) (w:=w) (base:=base) AbM T h_;have zB:=Zja (P:=l.prog) (w:=w) (base:=base) Aa8 T;have wO:=ZlZ (P:=l.prog) (w:=w) (base:=base) AbZ T h_ zB;have Jc:=Zi1 (P:=l.prog) (w:=w) (base:=base) Aa9 T;have O1:=ZiA (P:=l.prog) (w:=w) (base:=base) Aba T h_ wN wO;have O2:=Zjm (P:=l.prog) (w:=w) (base:=base) Abj T h_ wO Jc O1;have OD:=ZhV (P:=l.prog) (w:=w) (base:=base) AaR T h_ wN O2;have O4:=Zjg (P:=l.prog) (w:=w) (base:=base) Abk T h_ zB;have qp:=Zjn (P:=l.prog) (w:=w) (base:=base) Abl T;have O5:=Zku (P:=l.prog) (w:=w) (base:=base) AbN T qp;have Jd:=Zjl (P:=l.prog) (w:=w) (base:=base) Abm T XO Jg;exact Zuz (ZqY (st:=ut) l25 c25 k25) T Ph OD O4 O5 Jd
end Law
open PySem PySem.W PyProof.Rows
set_option maxRecDepth 100000 in
set_option maxHeartbeats 0 in
theorem PySem.Challenge.cw_stepledger_k72_whole_plainly_holds : PySem.Challenge.rw_stepledger_k72_whole_plainly.Holds := by
 w_on;o_law;k_head;(case hw=>w_witness2)
 k_fill
 refine L3.Zw6 (l:=PySem.Challenge.rw_stepledger_k72_whole_plainly) (k:=34) (F:=Law.ZnI) rfl rfl ⟨rfl,by decide,by decide⟩ (λw h Y=>W.kIn_of Y) ?G Law.law_holds
 case G=>
  intro w mg fa h KX G hmg;refine' Law.ZuT KX G hmg ?_ ?_ ?_ ?_ ?_ ?_ ?_ ?_ ?_ ?_ ?_ ?_ ?_ ?_ ?_ ?_ ?_ ?_ ?_ ?_ ?_ ?_ ?_ ?_ ?_ ?_ ?_ ?_ ?_ ?_ ?_ ?_ ?_ ?_ ?_ ?_ ?_ ?_ ?_ ?_ ?_ ?_ ?_ ?_ ?_ ?_ ?_ ?_ ?_ ?_ ?_ ?_ ?_ ?_ ?_ ?_ ?_ ?_ ?_ ?_ ?_ ?_ ?_ ?_ ?_ ?_ ?_ ?_ ?_ ?_ ?_ ?_ ?_ ?_ ?_ ?_ ?_ ?_ ?_ ?_ ?_ ?_ ?_ ?_ ?_ ?_ ?_ ?_ ?_ ?_ ?_ ?_ ?_ ?_ ?_ ?_ ?_ ?_ ?_ ?_ ?_ ?_ ?_ ?_ ?_ ?_ ?_ ?_ ?_ ?_ ?_ ?_ ?_ ?_ ?_ ?_ ?_ ?_ ?_ ?_ ?_ ?_ ?_ ?_ ?_ ?_ ?_ ?_ ?_ ?_ ?_ ?_ ?_ ?_ ?_ ?_ ?_ ?_ ?_ ?_ ?_ ?_ ?_ ?_ ?_ ?_ ?_ ?_ ?_ ?_ ?_ ?_ ?_ ?_ ?_ ?_ ?_ ?_ ?_ ?_ ?_ ?_ ?_ ?_ ?_ ?_ ?_ ?_ ?_ ?_ ?_ ?_ ?_ ?_ ?_ ?_ ?_ ?_ ?_ ?_ ?_ ?_ ?_ ?_
  all_goals try k_is
  all_goals first|rfl|decide +kernel
